import PyProof.Rows.All
import Wide.All
import OpenK.AllK
import Wide.FinOn
import Lean
import PyProof.EqAt
import PyProof.EqKinds
import PyProof.TupleCall
import PyProof.SetScanFacts
import PyProof.Rows.SetFrom
import PyProof.Rows.SortWalk
import PyProof.CollectWalk
import PyProof.DictWalks
import PySem.Challenge.RW_holdback_k45_whole_every_cut_is_sound
set_option linter.all false
set_option maxRecDepth 100000
set_option maxHeartbeats 8000000
open PySem PySem.Spec PyProof.Rows
set_option Elab.async false
namespace L2
abbrev AM:=Sum Int Str
def JX:AM->Value->Bool
 | .inl k,v=>Value.isInt k v
 | .inr x,v=>Value.isStrOf x v
def pW(w:World):AM->Int
 | .inl k=>hashInt k
 | .inr x=>hashStr w x
theorem G8:∀ {k:AM} {v:Value},JX k v=true->(∃ i t,k=Sum.inl i/\v=Value.int i t)\/(∃ x t,k=Sum.inr x/\v=Value.str x t)
 | .inl i,v,h=>by
  obtain⟨t,e⟩:=Value.isInt_shape (k:=i) (v:=v) h
  exact .inl ⟨i,t,rfl,e⟩
 | .inr x,v,h=>by
  obtain⟨t,e⟩:=Value.isStrOf_shape (x:=x) (v:=v) h
  exact .inr ⟨x,t,rfl,e⟩
theorem pX(i:Int)(t:Tok):JX (.inl i) (.int i t)=true:=by simp[JX,Value.isInt]
theorem pY(x:Str)(t:Tok):JX (.inr x) (.str x t)=true:=by simp[JX,Value.isStrOf]
theorem pZ(a b:Int):decide ((Sum.inl a:AM)=Sum.inl b)=(a == b):=by
 by_cases e:a=b
 ·subst e;simp
 ·have h:¬ (Sum.inl a:AM)=Sum.inl b:=λq=>e (Sum.inl.inj q)
  rw[decide_eq_false h]
  exact(beq_eq_false_iff_ne.mpr e).symm
theorem p0(a b:Str):decide ((Sum.inr a:AM)=Sum.inr b)=decide (a=b):=by
 by_cases e:a=b
 ·subst e;simp
 ·have h:¬ (Sum.inr a:AM)=Sum.inr b:=λq=>e (Sum.inr.inj q)
  rw[decide_eq_false h,decide_eq_false e]
theorem p5(a:Int)(b:Str):decide ((Sum.inl a:AM)=Sum.inr b)=false:=decide_eq_false (λq=>nomatch q)
theorem p6(a:Str)(b:Int):decide ((Sum.inr a:AM)=Sum.inl b)=false:=decide_eq_false (λq=>nomatch q)
def D4(prog:Program)(w:World):PySem.KeyKind prog w AM where
 is:=JX
 hash:=pW w
 inj:=λv a b ha hb=>by
  rcases G8 ha with⟨i,t,rfl,rfl⟩ | ⟨x,t,rfl,rfl⟩
  ·rcases G8 hb with⟨j,u,rfl,e⟩ | ⟨y,u,rfl,e⟩
   ·injection e with e1 _;rw[e1]
   ·exact nomatch e
  ·rcases G8 hb with⟨j,u,rfl,e⟩ | ⟨y,u,rfl,e⟩
   ·exact nomatch e
   ·injection e with e1 _;rw[e1]
 byValue:=λk v h=>by
  rcases G8 h with⟨i,t,rfl,rfl⟩ | ⟨x,t,rfl,rfl⟩<;>rfl
 pyHash:=λhv h=>by
  rcases G8 hv with⟨i,t,rfl,rfl⟩ | ⟨x,t,rfl,rfl⟩
  ·exact wpAny_pyHash_int h
  ·exact wpAny_pyHash_str h
 eqBool:=λhu hv h=>by
  rcases G8 hu with⟨i,t,rfl,rfl⟩ | ⟨x,t,rfl,rfl⟩
  ·rcases G8 hv with⟨j,u,rfl,rfl⟩ | ⟨y,u,rfl,rfl⟩
   ·rw[pZ]at h;exact wpAny_eqBool_int h
   ·rw[p5]at h;exact SeqAt.EqAt.int_str i t y u _ _ _ _ h
  ·rcases G8 hv with⟨j,u,rfl,rfl⟩ | ⟨y,u,rfl,rfl⟩
   ·rw[p6]at h;exact SeqAt.EqAt.str_int x t j u _ _ _ _ h
   ·rw[p0]at h;exact wpAny_eqBool_str h
 «strs» :=λk x t v h=>by
  rcases G8 h with⟨i,u,rfl,e⟩ | ⟨y,u,rfl,e⟩
  ·exact nomatch e
  ·injection e with e1 _
   subst e1
   cases v<;>rfl
theorem p7(prog:Program)(w:World)(i:Int)(t:Tok):(D4 prog w).is (.inl i) (.int i t)=true:=pX i t
theorem p8(prog:Program)(w:World)(x:Str)(t:Tok):(D4 prog w).is (.inr x) (.str x t)=true:=pY x t
end L2
namespace L2
inductive V where
 | non | bl (b:Bool) | int (i:Int) | str (x:Str) | byt (b:Array UInt8) | flt (b:UInt64) | ref (a:Addr) | ty (n:String)
 deriving DecidableEq
def RelV:V->Value->Prop
 | .non,u=>u=Value.none
 | .bl b,u=>u=Value.bool b
 | .int i,u=>∃ t,u=Value.int i t
 | .str x,u=>∃ t,u=Value.str x t
 | .byt b,u=>∃ t,u=Value.bytes b t
 | .flt b,u=>∃ t,u=Value.float b t
 | .ref a,u=>u=Value.ref a
 | .ty n,u=>u=Value.type n
abbrev Vals:List V->List Value->Prop:=Paired RelV
theorem Vals.length{xs:List V}{us:List Value}(r:Vals xs us):xs.length=us.length:=Paired.length r
theorem Vals.get:∀ {xs:List V} {us:List Value} {i:Nat} {x:V},Vals xs us->xs[i]? =some x->∃ u,us[i]? =some u/\RelV x u
 | _,_,_,_,.nil,e=>by simp at e
 | _,_,0,_,.cons r _,e=>by simp at e;subst e;exact⟨_,rfl,r⟩
 | _,_,i+1,x,.cons _ t,e=>by
  obtain⟨u,h1,h2⟩:=Vals.get (i:=i) (x:=x) t (by simpa using e)
  exact⟨u,by simpa using h1,h2⟩
theorem Vals.set{x:V}{u:Value}(r:RelV x u):∀ {xs:List V} {us:List Value} (i:Nat),Vals xs us->Vals (xs.set i x) (us.set i u)
 | _,_,_,.nil=>.nil
 | _,_,0,.cons _ t=>.cons r t
 | _,_,i+1,.cons q t=>.cons q (Vals.set r i t)
theorem Vals.append:∀ {xs ys:List V} {us ws:List Value},Vals xs us->Vals ys ws->Vals (xs++ys) (us++ws)
 | _,_,_,_,.nil,s=>s
 | _,_,_,_,.cons r t,s=>.cons r (Vals.append t s)
theorem Vals.take:∀ {xs:List V} {us:List Value} (n:Nat),Vals xs us->Vals (xs.take n) (us.take n)
 | _,_,0,_=>.nil
 | _,_,_+1,.nil=>.nil
 | _,_,n+1,.cons r t=>.cons r (Vals.take n t)
theorem Vals.drop:∀ {xs:List V} {us:List Value} (n:Nat),Vals xs us->Vals (xs.drop n) (us.drop n)
 | _,_,0,r=>r
 | _,_,_+1,.nil=>.nil
 | _,_,n+1,.cons _ t=>Vals.drop n t
def RelO:Option V->Option Value->Prop
 | some v,some u=>RelV v u
 | none,none=>True
 | _,_=>False
def KV{κ :Type}:List (κ × V)->List (κ × Value)->Prop:=Paired λ(p: κ × V) (q: κ × Value)=>p.1=q.1/\RelV p.2 q.2
def kV:AM->V
 | .inl i=>.int i
 | .inr x=>.str x
inductive HO where
 /-- a list -/
 | lst (xs:List V)
 /-- a tuple (never changes) -/
 | tup (xs:List V)
 /-- a dict whose keys are ints and texts;one whose keys are tuples of ints and texts (the empty one is both) -/
 | dK (AD:List (AM × V)) | dT (AD:List (List AM × V))
 /-- a set of ints: its members,its size -/
 | set (S:Int->Bool) (n:Nat)
 /-- an instance of the class at C,its dict at dx,its attributes -/
 | ins (C dx:Addr) (fs:List (Str × V))
 /-- the dict of the instance at x -/
 | own (x:Addr)
 /-- the dict of an exception -/
 | xd (fs:List (Str × V))
 /-- a bound method,f of x -/
 | met (f x:Addr)
 /-- a range object lo,lo+1,.. below hi -/
 | rng (lo hi:Int)
 /-- a thing that is known to the object (the script;a dict while a loop walks it): read,never written while it is so -/
 | frz (o:Obj) (u:HO)
 /-- a code object's table -/
 | tbl (ps:Array Value)
 /-- any other thing,by what is true of its one object (a def of one's own: SetO a S n:=HO.ext λh=>..) -/
 | ext (φ :Heap->Prop)
abbrev Hp:=Addr->Option HO
def upd(H:Hp)(a:Addr)(o:HO):Hp:=λb=>if b=a then some o else H b
theorem AF{H:Hp}{a:Addr}{o:HO}:upd H a o a=some o:=by unfold upd;rw[if_pos rfl]
theorem AH{H:Hp}{a b:Addr}{o:HO}(h:b≠a):upd H a o b=H b:=by unfold upd;rw[if_neg h]
theorem GL{H:Hp}{a:Addr}{o u:HO}:upd (upd H a o) a u=upd H a u:=by
 funext b;unfold upd;split<;>rfl
theorem BH{H:Hp}{a b:Addr}{o u:HO}(h:H a=some o)(h':H b=some u)(d:o≠u):a≠b:=by
 intro e;subst e;rw[h]at h';exact d (Option.some.inj h')
theorem BL{H:Hp}{a b:Addr}{o:HO}(h:H a=some o)(h':H b=none):a≠b:=by
 intro e;subst e;rw[h]at h';cases h'
section
variable(P:Program)(w:World)
def ObjOk(H:Hp)(h:Heap)(a:Addr):HO->Prop
 | .lst xs=>xs.length<=sizeLine/\∃ (its:List Value) (n:Nat),Vals xs its/\h.get? a=some { cls:=.type "list",data:=.seq its.toArray n }
 | .tup xs=>xs.length<=sizeLine/\∃ its:List Value,Vals xs its/\IsTup h a its.toArray
 | .dK AD=>AD.length<=sizeLine/\(a == sysModules)=false/\∃ vs,KV AD vs/\h.DictOf (D4 P w) a vs
 | .dT AD=>AD.length<=sizeLine/\(a == sysModules)=false/\∃ xs:List (List AM × Addr × Value),
   Paired (λ(p:List AM × V) (q:List AM × Addr × Value)=>p.1=q.1/\H q.2.1=some (.tup (p.1.map kV))/\RelV p.2 q.2.2) AD xs ∧
   ∃ o es ep,h.get? a=some o/\o.ExactDict/\o.data=.dict es ep/\es.toList=xs.map (entryOfKey (tupleKind (D4 P w)))/\(xs.map (·.1)).Nodup
 | .set S n=>h.SetOf (intKind P w) a S n
 | .ins C dx fs=>H dx=some (.own a)/\fs.length<=1000/\dx≠a/\h.get? a=some (W.instObj C dx) ∧
   ∃ mA,h.Ns1 dx mA/\(∀ f,RelO (fs.lookup f) (mA f))/\PySem.Within mA (fs.map (·.1))
 | .own _=>∃ o,h.get? a=some o
 | .xd fs=>∃ mA,h.Ns1 a mA/\∀ f,RelO (fs.lookup f) (mA f)
 | .rng lo hi=>∃ t u v,h.get? a=some { cls:=.type "range",data:=.fields #[.int lo t,.int hi u,.int 1 v] }
 | .frz o u=>h.get? a=some o/\ObjOk H h a u
 | .tbl ps=>h.get? a=some { cls:=.none,data:=.fields ps }
 | .met f x=>h.get? a=some (W.methodObj (.ref f) (.ref x))
 | .ext φ => φ h/\(∃ o,h.get? a=some o)/\∀ h1 h2:Heap,φ h1->(∀ o,h1.get? a=some o->h2.get? a=some o)-> φ h2
def HOk(H:Hp)(h:Heap):Prop:=∀ a o,H a=some o->ObjOk P w H h a o
end
section
variable{P:Program}{w:World}{H H':Hp}{h h':Heap}{a:Addr}{o:HO}
theorem ObjOk.lt(x:ObjOk P w H h a o):a<h.objs.size:=by
 cases o with
 | lst xs=>obtain⟨_,_,_,_,e⟩:=x;exact Heap.lt_size e
 | tup xs=>obtain⟨_,_,_,p⟩:=x;exact p.lt
 | dK AD=>obtain⟨_,_,_,_,o,_,_,e,_⟩:=x;exact Heap.lt_size e
 | dT AD=>obtain⟨_,_,_,_,o,_,_,e,_⟩:=x;exact Heap.lt_size e
 | set S n=>obtain⟨o,_,_,_,e,_⟩:=x;exact Heap.lt_size e
 | ins C dx fs=>obtain⟨_,_,_,e,_⟩:=x;exact Heap.lt_size e
 | own y=>obtain⟨_,e⟩:=x;exact Heap.lt_size e
 | xd fs=>obtain⟨_,⟨_,_,_,e,_⟩,_⟩:=x;exact Heap.lt_size e
 | rng lo hi=>obtain⟨_,_,_,e⟩:=x;exact Heap.lt_size e
 | frz ob u=>obtain⟨e,_⟩:=x;exact Heap.lt_size e
 | tbl ps=>exact Heap.lt_size (show h.get? a=some _ from x)
 | met f y=>exact Heap.lt_size (show h.get? a=some _ from x)
 | ext φ =>obtain⟨_,⟨_,e⟩,_⟩:=x;exact Heap.lt_size e
theorem Paired.mapP{α β :Type}{F G: α -> β ->Prop}:∀ {l₁:List α} {l₂:List β},Paired F l₁ l₂->(∀ a b,F a b->G a b)->Paired G l₁ l₂
 | _,_,.nil,_=>.nil
 | _,_,.cons r t,f=>.cons (f _ _ r) (Paired.mapP t f)
theorem ObjOk.stay(x:ObjOk P w H h a o)(k:∀ b u,(b=a\/H b=some (.own a))->h.get? b=some u->h'.get? b=some u)
  (ho:∀ b,H b=some (.own a)->H' b=some (.own a)) (ht:∀ b xs,H b=some (.tup xs)->H' b=some (.tup xs)):ObjOk P w H' h' a o:=by
 induction o with
 | lst xs=>obtain⟨z,its,n,r,e⟩:=x;exact⟨z,its,n,r,k _ _ (.inl rfl) e⟩
 | tup xs=>obtain⟨z,its,r,ob,e,c⟩:=x;exact⟨z,its,r,ob,k _ _ (.inl rfl) e,c⟩
 | dK AD=>obtain⟨z,y,vs,r,ob,es,ep,e,c⟩:=x;exact⟨z,y,vs,r,ob,es,ep,k _ _ (.inl rfl) e,c⟩
 | dT AD =>
  obtain⟨z,y,xs,r,ob,es,ep,e,c⟩:=x
  exact⟨z,y,xs,Paired.mapP r λp q z=>⟨z.1,ht _ _ z.2.1,z.2.2⟩,ob,es,ep,k _ _ (.inl rfl) e,c⟩
 | set S n=>obtain⟨ob,es,ep,t,e,c⟩:=x;exact⟨ob,es,ep,t,k _ _ (.inl rfl) e,c⟩
 | ins C dx fs =>
  obtain⟨d,z,ne,e,mA,⟨od,es,ep,e2,c⟩,r⟩:=x
  exact⟨ho _ d,z,ne,k _ _ (.inl rfl) e,mA,⟨od,es,ep,k _ _ (.inr d) e2,c⟩,r⟩
 | own y=>obtain⟨ob,e⟩:=x;exact⟨ob,k _ _ (.inl rfl) e⟩
 | xd fs=>obtain⟨mA,⟨od,es,ep,e,c⟩,r⟩:=x;exact⟨mA,⟨od,es,ep,k _ _ (.inl rfl) e,c⟩,r⟩
 | rng lo hi=>obtain⟨t,u,v,e⟩:=x;exact⟨t,u,v,k _ _ (.inl rfl) e⟩
 | frz ob u ih=>obtain⟨e,q⟩:=x;exact⟨k _ _ (.inl rfl) e,ih q⟩
 | tbl ps =>
  have e:h.get? a=some { cls:=.none,data:=.fields ps }:=x
  show h'.get? a=some { cls:=.none,data:=.fields ps }
  exact k a _ (.inl rfl) e
 | met f y =>
  have e:h.get? a=some (W.methodObj (.ref f) (.ref y)):=x
  show h'.get? a=some (W.methodObj (.ref f) (.ref y))
  exact k a _ (.inl rfl) e
 | ext φ =>obtain⟨p,⟨o,e⟩,st⟩:=x;exact⟨st _ _ p λo q=>k _ _ (.inl rfl) q,⟨o,k _ _ (.inl rfl) e⟩,st⟩
theorem HOk.lt(x:HOk P w H h)(e:H a=some o):a<h.objs.size:=(x a o e).lt
theorem HOk.fresh(x:HOk P w H h)(e:h.objs.size<=a):H a=none:=by
 cases q:H a with
 | none=>rfl
 | some u=>exact absurd (Nat.lt_of_lt_of_le (x.lt q) e) (Nat.lt_irrefl _)
theorem HOk.kept(x:HOk P w H h)(k:∀ b u,h.get? b=some u->h'.get? b=some u):HOk P w H h':=λa o e =>
 (x a o e).stay (λb u _ q=>k b u q) (λ_ q=>q) λ_ _ q=>q
theorem HOk.laid(x:HOk P w H h)(k:∀ b u,h.get? b=some u->h'.get? b=some u)(hp:h.objs.size<=a)(new:ObjOk P w (upd H a o) h' a o):HOk P w (upd H a o) h':=λb u e=>by
 have hn:=x.fresh hp
 by_cases hb:b=a
 ·subst hb;rw[AF]at e;cases e;exact new
 ·rw[AH hb]at e
  exact(x b u e).stay (λc v _ q=>k c v q) (λc q=>by rw[AH (BL q hn)];exact q) λc xs q=>by rw[AH (BL q hn)];exact q
end
def Rd(H:Hp)(a:Addr)(u:HO):Prop:=H a=some u\/∃ o,H a=some (.frz o u)
theorem Rd.ok{P:Program}{w:World}{H:Hp}{h:Heap}{a:Addr}{u:HO}(r:Rd H a u)(x:HOk P w H h):ObjOk P w H h a u:=by
 rcases r with r | ⟨o,r⟩
 ·exact x a u r
 ·obtain⟨_,q⟩:=x a _ r
  exact q
def L7:Option HO->Prop
 | some (.lst _)=>True
 | some (.dK _)=>True
 | some (.dT _)=>True
 | some (.set _ _)=>True
 | some (.ins _ _ _)=>True
 | some (.ext _)=>True
 | _=>False
section
variable{P:Program}{w:World}{H:Hp}{h h':Heap}{x e:Addr}{o':HO}
theorem HOk.write(ok:HOk P w H h)(mu:L7 (H x))(he:e=x\/H e=some (.own x))(k:∀ b u,b≠e->h.get? b=some u->h'.get? b=some u)(heo:∃ u,h'.get? e=some u)
  (new:ObjOk P w (upd H x o') h' x o'):HOk P w (upd H x o') h':=λb u q=>by
 have nown:∀ c y,H c=some (.own y)->c≠x:=λc y r z=>by subst z;rw[r]at mu;exact mu
 have ntup:∀ c xs,H c=some (.tup xs)->c≠x:=λc xs r z=>by subst z;rw[r]at mu;exact mu
 by_cases hb:b=x
 ·subst hb;rw[AF]at q;cases q;exact new
 ·rw[AH hb]at q
  by_cases hbe:b=e
  ·have q':H b=some (.own x):=by
    rcases he with z | z
    ·exact absurd (hbe.trans z) hb
    ·rw[hbe];exact z
   rw[q]at q';cases q'
   obtain⟨v,hv⟩:=heo
   exact⟨v,by rw[hbe];exact hv⟩
  ·refine(ok b u q).stay (λc v hc r=>k c v ?_ r) (λc r=>by rw[AH (nown c b r)];exact r) λc xs r=>by rw[AH (ntup c xs r)];exact r
   rcases hc with rfl | hc
   ·exact hbe
   ·rintro rfl
    rcases he with z | z
    ·exact nown c b hc z
    ·rw[hc]at z;cases z;exact hb rfl
end
structure Un(fs ex:List Addr)(H H':Hp)(h h':Heap):Prop where
 keep:∀ b o,h.get? b=some o->H b=none->b∉fs->b∉ex->h'.get? b=some o
 slot:∀ b o,h.get? b=some o->H b=none->b∈fs->b∉ex->∃ sl,h'.get? b=some { o with slots:=sl }
 free:∀ b o,h.get? b=some o->H b=none->b∉ex->H' b=none
 there:∀ b o,h.get? b=some o->b∉ex->∃ o',h'.get? b=some o'
 tups:∀ b xs,H b=some (.tup xs)->H' b=some (.tup xs)
 frzs:∀ b o u,H b=some (.frz o u)->H' b=some (.frz o u)
 tbls:∀ b ps,H b=some (.tbl ps)->∃ more,H' b=some (.tbl (ps++more))
section
variable{fs fs' ex ex':List Addr}{H H1 H2:Hp}{h h1 h2 h':Heap}{a x e:Addr}{o:HO}
theorem Un.any(u:Un fs ex H H1 h h1){b:Addr}{ob:Obj}(q:h.get? b=some ob)(n:H b=none)(hx:b∉ex):∃ sl,h1.get? b=some { ob with slots:=sl }:=by
 by_cases hb:b∈fs
 ·exact u.slot b ob q n hb hx
 ·exact⟨ob.slots,u.keep b ob q n hb hx⟩
theorem Un.kept(k:∀ b u,h.get? b=some u->h'.get? b=some u):Un fs ex H H h h' :=
 ⟨λb ob q _ _ _=>k b ob q,λb ob q _ _ _=>⟨ob.slots,k b ob q⟩,λ_ _ _ n _=>n,λb ob q _=>⟨ob,k b ob q⟩,λ_ _ q=>q,λ_ _ _ q=>q,λ_ ps q=>⟨#[],by rw[q];simp⟩⟩
theorem Un.refl:Un fs ex H H h h:=Un.kept λ_ _ q=>q
theorem Un.laid(k:∀ b u,h.get? b=some u->h'.get? b=some u)(hp:h.objs.size<=a)(hn:H a=none):Un fs ex H (upd H a o) h h' where
 keep:=λb u q _ _ _=>k b u q
 slot:=λb u q _ _ _=>⟨u.slots,k b u q⟩
 free:=λb u q n _=>by rw[AH (Nat.ne_of_lt (Nat.lt_of_lt_of_le (Heap.lt_size q) hp))];exact n
 there:=λb u q _=>⟨u,k b u q⟩
 tups:=λb xs q=>by rw[AH (BL q hn)];exact q
 frzs:=λb u xs q=>by rw[AH (BL q hn)];exact q
 tbls:=λb ps q=>⟨#[],by rw[AH (BL q hn),q];simp⟩
theorem Un.write(mu:L7 (H x))(he:e=x\/H e=some (.own x))(k:∀ b u,b≠e->h.get? b=some u->h'.get? b=some u)(heo:∃ u,h'.get? e=some u):Un fs ex H (upd H x o) h h':=by
 have hx:∀ b,H b=none->b≠x:=λb n z=>by subst z;rw[n]at mu;exact mu
 have hb:∀ b,H b=none->b≠e:=λb n z=>by
  subst z
  rcases he with r | r
  ·exact hx b n r
  ·rw[n]at r;cases r
 have hm:∀ b u,H b=some u->¬ L7 (some u)->b≠x:=λb u q nm z=>by subst z;rw[q]at mu;exact nm mu
 refine⟨λb u q n _ _=>k b u (hb b n) q,λb u q n _ _=>⟨u.slots,k b u (hb b n) q⟩,λb u q n _=>by rw[AH (hx b n)];exact n,λb u q _=> ?_,
  λb xs q=>by rw[AH (hm b _ q λz=>z)];exact q,λb u xs q=>by rw[AH (hm b _ q λz=>z)];exact q,λb ps q=>⟨#[],by rw[AH (hm b _ q λz=>z),q];simp⟩⟩
 by_cases hbe:b=e
 ·subst hbe;exact heo
 ·exact⟨u,k b u hbe q⟩
end
def NU(h:Heap)(H:Hp):List Addr:=(List.range h.objs.size).filter λa=>(H a).isSome
def HU(h:Heap)(H:Hp):Heap:=W.hideAll h (NU h H)
theorem p9(h:Heap)(H:Hp):(HU h H).objs.size=h.objs.size:=W.hideAll_size _ _
theorem qA{h:Heap}{H:Hp}{b:Addr}{o:Obj}(e:h.get? b=some o)(n:H b=none):(HU h H).get? b=some o :=
 W.hideAll_get _ e λhm=>by
  have q:(H b).isSome=true:=(List.mem_filter.mp hm).2
  rw[n]at q;simp at q
theorem qB{h:Heap}{H:Hp}{b:Addr}{o:Obj}(e:(HU h H).get? b=some o):h.get? b=some o/\H b=none:=by
 have e':h.get? b=some o:=W.of_hideAll (NU h H) e
 refine⟨e',?_⟩
 cases q:H b with
 | none=>rfl
 | some x =>
  have hm:b∈NU h H:=List.mem_filter.mpr ⟨List.mem_range.mpr (Heap.lt_size e'),by simp[q]⟩
  have z:(HU h H).get? b=none:=W.hideAll_none (NU h H) hm
  rw[z]at e;cases e
def qC(g h:Heap)(L:Addr):List (Addr × Obj):=(List.range h.objs.size).filterMap λa=>if a=L\/(g.get? a).isSome=true then none else(h.get? a).map λo=>(a,o)
def rest(g h:Heap)(L d:Addr):List (Addr × Obj):=(qC g h L).filter λp=>decide (p.1≠d)
end L2
namespace L2
structure Mod(K:W.Frag)(mg:Str->Option Value)(base:Heap):Prop where
 kin:K.In base
 glob:base.Ns mainGlobals mg
 blt:∃ mb,base.Ns builtinsNs mb/\∀ x:Str,x≠"__name__"->mb x=bootBuiltins x
 nolimit:base.NoLimit
structure Cx where
 prog:Program
 w:World
 K:W.Frag
 mg:Str->Option Value
 base:Heap
 A:Around
 N:List Str
 s₀:Shared
 H₀:Hp
 env:Env
 outer:List Env
 stack:List Env
 ex:List Addr
 fn:Str->Bool
 calm:Bool
 pn:List (Addr × Obj)
 xe:Value->Shared->Prop
def DP(l:List Env):List Addr:=l.filterMap (·.frame)
abbrev Cx.fs(X:Cx):List Addr:=DP X.outer
def Q9(sc:Scope)(x:Str):Prop:=sc.names.lookup x=some .local\/sc.names.lookup x=some .cell\/sc.names.lookup x=some .free
def KO(sc:Scope)(x:Str):Prop:=sc.names.lookup x=some .local\/sc.names.lookup x=some .cell
def qD(env:Env)(h:Heap)(m:Str->Option Value)(x:Str)(u:Value):Prop :=
 (env.kindOf x=some .local/\m x=some u)\/((env.kindOf x=some .cell\/env.kindOf x=some .free)/\∃ c,env.cells.lookup x=some c/\h.IsCell c (some u))
structure Cx.Ok(X:Cx):Prop where
 mod:Mod X.K X.mg X.base
 kind:X.env.scope.kind=.function
 glob:X.env.globals=mainGlobals
 blt:X.env.builtins=builtinsNs
 above:X.s₀.heap.objs.size<=X.env.locals
 inj:∀ x y c,X.env.cells.lookup x=some c->X.env.cells.lookup y=some c->x=y
 has:∀ x,(X.env.kindOf x=some .cell\/X.env.kindOf x=some .free)->∃ c,X.env.cells.lookup x=some c
 cab:∀ x c,X.fn x=true->X.env.cells.lookup x=some c->X.s₀.heap.objs.size<=c
 hd:X.calm=true->X.A.handled=none
 frames:X.A.frames=some X.stack
 stk:X.stack=X.outer\/(X.stack=X.env::X.outer/\X.env.frame=some X.env.locals)
 exf:∀ b∈X.ex,b≠X.env.locals/\∀ x c,X.env.cells.lookup x=some c->c≠b
 bs:∀ b o,X.base.get? b=some o->X.s₀.heap.get? b=some o/\X.H₀ b=none
 bsz:X.base.objs.size<=X.s₀.heap.objs.size
 noex:∀ b o,X.base.get? b=some o->b∉X.ex
 exfs:∀ b∈X.ex,b∉X.fs
 funs:X.s₀.heap.FunFrames X.base X.outer
 frf:∀ b∈X.fs,X.H₀ b=none
structure Inv(X:Cx)(AA:List (Addr × Obj))(σ:List (Option V))(H:Hp)(s:Shared):Prop where
 ok:X.Ok
 os:s.os=X.s₀.os
 bare:AllBare s.gens
 base:Un X.fs X.ex X.H₀ H X.s₀.heap s.heap
 loc:∃ m,s.heap.Ns X.env.locals m/\∀ (i:Nat) (x:Str) (v:V),X.N[i]? =some x->σ[i]? =some (some v)->Q9 X.env.scope x->∃ u,RelV v u/\qD X.env s.heap m x u
 cell:∀ x c,X.env.cells.lookup x=some c->∃ v,s.heap.IsCell c v
 free:H X.env.locals=none
 freeC:∀ x c,X.env.cells.lookup x=some c->H c=none
 pin:∀ p∈X.pn++AA,s.heap.get? p.1=some p.2/\H p.1=none/\p.1≠X.env.locals/\p.1∉X.fs/\∀ v,p.2.data≠.cell v
 hok:HOk X.prog X.w H s.heap
 len:σ.length=X.N.length
section
variable{X:Cx}{AA:List (Addr × Obj)}{σ:List (Option V)}{H H':Hp}{s:Shared}{h':Heap}
theorem Cx.Ok.nofr(ok:X.Ok){b:Addr}{o:Obj}(e:X.base.get? b=some o):b∉X.fs:=λhb=>by
 have:=(ok.funs.mem hb).1
 rw[e]at this;cases this
theorem Inv.bs(I:Inv X AA σ H s):∀ b o,X.base.get? b=some o->s.heap.get? b=some o/\H b=none:=λb o e =>
 ⟨I.base.keep b o (I.ok.bs b o e).1 (I.ok.bs b o e).2 (I.ok.nofr e) (I.ok.noex b o e),I.base.free b o (I.ok.bs b o e).1 (I.ok.bs b o e).2 (I.ok.noex b o e)⟩
theorem Inv.bk(I:Inv X AA σ H s):∀ b o,X.base.get? b=some o->s.heap.get? b=some o:=λb o e=>(I.bs b o e).1
theorem Inv.mod(I:Inv X AA σ H s):Mod X.K X.mg X.base:=I.ok.mod
theorem Inv.kIn(I:Inv X AA σ H s):X.K.In s.heap:=I.ok.mod.kin.keeps I.bk
theorem Inv.lt(I:Inv X AA σ H s):X.env.locals<s.heap.objs.size:=let ⟨_,hn,_⟩:=I.loc;hn.lt
theorem Inv.sz(I:Inv X AA σ H s):X.s₀.heap.objs.size<=s.heap.objs.size:=Nat.le_trans I.ok.above (Nat.le_of_lt I.lt)
theorem Inv.nofs(I:Inv X AA σ H s){a:Addr}(h:s.heap.objs.size<=a):a∉X.fs:=λhb=>by
 obtain⟨_,o,ho,_⟩:=I.ok.funs.mem hb
 exact absurd (Nat.lt_of_lt_of_le (Heap.lt_size ho) (Nat.le_trans I.sz h)) (Nat.lt_irrefl _)
theorem Inv.cne(I:Inv X AA σ H s):∀ x c,X.env.cells.lookup x=some c->c≠X.env.locals:=λx c e z=>by
 obtain⟨v,o,ho,hd⟩:=I.cell x c e
 obtain⟨m,⟨o',es,ep,ho',hd',_⟩,_⟩:=I.loc
 rw[z,ho']at ho;cases ho;rw[hd']at hd;cases hd
theorem Inv.funs(I:Inv X AA σ H s):s.heap.FunFrames X.base X.outer:=by
 have all:∀ (l:List Env),(∀ b∈DP l,b∈X.fs)->X.s₀.heap.FunFrames X.base l->s.heap.FunFrames X.base l:=by
  intro l
  induction l with
  | nil=>intro _ _;trivial
  | cons env r ih =>
   intro hs hl
   obtain⟨hk,⟨L,o,hf,hn,ho,hd⟩,hr⟩:=hl
   have hL:L∈X.fs:=hs L (by unfold DP;rw[List.filterMap_cons,hf];exact List.mem_cons_self)
   obtain⟨sl,e⟩:=I.base.slot L o ho (I.ok.frf L hL) hL λz=>I.ok.exfs L z hL
   exact⟨hk,⟨L,_,hf,hn,e,hd⟩,ih (λb hb=>hs b (by unfold DP;rw[List.filterMap_cons,hf];exact List.mem_cons_of_mem _ hb)) hr⟩
 exact all X.outer (λ_ hb=>hb) I.ok.funs
theorem Inv.stack(I:Inv X AA σ H s):s.heap.FunFrames X.base X.stack:=by
 rcases I.ok.stk with e | ⟨e,hf⟩
 ·rw[e];exact I.funs
 ·rw[e]
  obtain⟨m,hn,_⟩:=I.loc
  refine .cons (by rw[I.ok.kind];decide) hf hn ?_ I.funs
  exact Heap.get?_none_of_le (Nat.le_trans I.ok.bsz I.ok.above)
theorem Inv.stkSub(I:Inv X AA σ H s):∀ b∈DP X.stack,b∈X.env.locals::X.fs:=λb hb=>by
 rcases I.ok.stk with e | ⟨e,hf⟩
 ·rw[e]at hb;exact List.mem_cons_of_mem _ hb
 ·rw[e]at hb
  unfold DP at hb
  rw[List.filterMap_cons,hf]at hb
  exact hb
theorem Inv.stkFree(I:Inv X AA σ H s):∀ b∈DP X.stack,H b=none:=λb hb=>by
 rcases List.mem_cons.mp (I.stkSub b hb)with e | hb
 ·rw[e];exact I.free
 ·obtain⟨_,o,ho,_⟩:=I.ok.funs.mem hb
  exact I.base.free b o ho (I.ok.frf b hb) λz=>I.ok.exfs b z hb
theorem Inv.step{g':Array GenState}{t':Nat}{d':Drawn}{ch:List Addr}(I:Inv X AA σ H s)
  (DF:∀ b∈ch,(b∈X.ex\/X.s₀.heap.objs.size<=b)/\b≠X.env.locals/\(∀ x c,X.env.cells.lookup x=some c->c≠b)/\∀ p∈X.pn++AA,p.1≠b)
  (keep:∀ b o,b≠X.env.locals->b∉X.fs->b∉ch->s.heap.get? b=some o->H b=none->h'.get? b=some o)
  (slot:∀ b o,b≠X.env.locals->b∈X.fs->b∉ch->s.heap.get? b=some o->H b=none->∃ sl,h'.get? b=some { o with slots:=sl }) (free:∀ b o,b∉ch->s.heap.get? b=some o->H b=none->H' b=none)
  (there:∀ b o,b∉ch->s.heap.get? b=some o->∃ o',h'.get? b=some o')
  (tups:∀ b xs,H b=some (.tup xs)->H' b=some (.tup xs)) (frzs:∀ b o u,H b=some (.frz o u)->H' b=some (.frz o u)) (tbls:∀ b ps,H b=some (.tbl ps)->∃ more,H' b=some (.tbl (ps++more)))
  (ns:∀ m,s.heap.Ns X.env.locals m->h'.Ns X.env.locals m) (hok:HOk X.prog X.w H' h') (hg:AllBare g') :
  Inv X AA σ H' { s with heap:=h',gens:=g',drawn:=d',toks:=t' }:=by
 have neL:∀ b o,X.s₀.heap.get? b=some o->b≠X.env.locals:=λb o e=>Nat.ne_of_lt (Nat.lt_of_lt_of_le (Heap.lt_size e) I.ok.above)
 have neC:∀ b o,X.s₀.heap.get? b=some o->b∉X.ex->b∉ch:=λb o e hx hb=>by
  rcases(DF b hb).1 with z | z
  ·exact hx z
  ·exact absurd (Nat.lt_of_lt_of_le (Heap.lt_size e) z) (Nat.lt_irrefl _)
 have cellK:∀ x c,X.env.cells.lookup x=some c->∀ v,s.heap.IsCell c v->h'.IsCell c v:=λx c e v ⟨o,ho,hd⟩=>by
  have nch:c∉ch:=λz=>(DF c z).2.2.1 x c e rfl
  by_cases hc:c∈X.fs
  ·obtain⟨sl,q⟩:=slot c o (I.cne x c e) hc nch ho (I.freeC x c e)
   exact⟨_,q,hd⟩
  ·exact⟨o,keep c o (I.cne x c e) hc nch ho (I.freeC x c e),hd⟩
 refine⟨I.ok,I.os,hg,⟨λb o e n hb hx=> ?_,λb o e n hb hx=> ?_,λb o e n hx=> ?_,λb o e hx=> ?_,λb xs e=>tups b xs (I.base.tups b xs e),λb o xs e=>frzs b o xs (I.base.frzs b o xs e),λb ps e=> ?_⟩,?_,λx c e=> ?_,?_,λx c e=> ?_,λp hp=> ?_,hok,I.len⟩
 ·exact keep b o (neL b o e) hb (neC b o e hx) (I.base.keep b o e n hb hx) (I.base.free b o e n hx)
 ·obtain⟨sl,e1⟩:=I.base.slot b o e n hb hx
  obtain⟨sl',e2⟩:=slot b _ (neL b o e) hb (neC b o e hx) e1 (I.base.free b o e n hx)
  exact⟨sl',e2⟩
 ·obtain⟨o',e1⟩:=I.base.there b o e hx
  exact free b o' (neC b o e hx) e1 (I.base.free b o e n hx)
 ·obtain⟨o',e1⟩:=I.base.there b o e hx
  exact there b o' (neC b o e hx) e1
 ·obtain⟨m1,e1⟩:=I.base.tbls b ps e
  obtain⟨m2,e2⟩:=tbls b _ e1
  exact⟨m1++m2,by rw[e2,Array.append_assoc]⟩
 ·obtain⟨m,hn,hl⟩:=I.loc
  refine⟨m,ns m hn,λi x v e1 e2 e3=> ?_⟩
  obtain⟨u,r,l⟩:=hl i x v e1 e2 e3
  refine⟨u,r,?_⟩
  rcases l with l | ⟨k,c,e,z⟩
  ·exact .inl l
  ·exact .inr ⟨k,c,e,cellK x c e _ z⟩
 ·obtain⟨v,z⟩:=I.cell x c e
  exact⟨v,cellK x c e v z⟩
 ·obtain⟨m,⟨o,_,_,ho,_⟩,_⟩:=I.loc
  exact free _ o (λz=>(DF _ z).2.1 rfl) ho I.free
 ·obtain⟨v,o,ho,hd⟩:=I.cell x c e
  exact free c o (λz=>(DF c z).2.2.1 x c e rfl) ho (I.freeC x c e)
 ·obtain⟨e,n,ne,nf,d⟩:=I.pin p hp
  have nch:p.1∉ch:=λz=>(DF p.1 z).2.2.2 p hp rfl
  exact⟨keep p.1 p.2 ne nf nch e n,free p.1 p.2 nch e n,ne,nf,d⟩
theorem Inv.un{t':Nat}(I:Inv X AA σ H s)(u:Un X.fs [] H H' s.heap h')(hok:HOk X.prog X.w H' h'):Inv X AA σ H' { s with heap:=h',toks:=t' }:=by
 obtain⟨m,⟨o,es,ep,ho,r⟩,_⟩:=id I.loc
 obtain⟨sl,hL⟩:=u.any ho I.free (by simp)
 exact I.step (g':=s.gens) (d':=s.drawn) (ch:=[]) (λ_ z=>nomatch z) (λb o _ hb _ e n=>u.keep b o e n hb (by simp)) (λb o _ hb _ e n=>u.slot b o e n hb (by simp)) (λb o _ e n=>u.free b o e n (by simp)) (λb o _ e=>u.there b o e (by simp)) u.tups u.frzs u.tbls (λm' hm=>by
  obtain⟨o',es',ep',ho',r'⟩:=hm
  rw[ho]at ho';cases ho'
  exact⟨_,es',ep',hL,r'⟩) hok I.bare
theorem Inv.call{g':Array GenState}{t':Nat}{d':Drawn}{ch:List Addr}(I:Inv X AA σ H s)(u:Un (DP X.stack) ch H H' s.heap h')(hok:HOk X.prog X.w H' h')(hg:AllBare g')
  (DF:∀ b∈ch,(b∈X.ex\/X.s₀.heap.objs.size<=b)/\b≠X.env.locals/\(∀ x c,X.env.cells.lookup x=some c->c≠b)/\∀ p∈X.pn++AA,p.1≠b) :
  Inv X AA σ H' { s with heap:=h',gens:=g',drawn:=d',toks:=t' }:=by
 obtain⟨m,⟨o,es,ep,ho,r⟩,_⟩:=id I.loc
 obtain⟨sl,hL⟩:=u.any ho I.free λz=>(DF _ z).2.1 rfl
 exact I.step (ch:=ch) DF (λb o hL hb hc e n=>u.keep b o e n (λz=>(List.mem_cons.mp (I.stkSub b z)).elim hL hb) hc) (λb o _ _ hc e n=>u.any e n hc) (λb o hc e n=>u.free b o e n hc) (λb o hc e=>u.there b o e hc) u.tups u.frzs u.tbls (λm' hm=>by
  obtain⟨o',es',ep',ho',r'⟩:=hm
  rw[ho]at ho';cases ho'
  exact⟨_,es',ep',hL,r'⟩) hok hg
theorem Inv.turned{t':Nat}{it:Addr}(I:Inv X AA σ H s)(k:∀ b o,b≠it->s.heap.get? b=some o->h'.get? b=some o)(hn:H it=none)(hL:it≠X.env.locals)
  (h1:it∈X.ex\/X.s₀.heap.objs.size<=it) (h2:∀ x c,X.env.cells.lookup x=some c->c≠it) (h3:∀ p∈X.pn++AA,p.1≠it):Inv X AA σ H { s with heap:=h',toks:=t' }:=by
 have nit:∀ b u,H b=some u->b≠it:=λb u e z=>by rw[z,hn]at e;cases e
 refine I.step (g':=s.gens) (d':=s.drawn) (ch:=[it]) (λb hb=> ?_) (λb o _ _ hc e _=>k b o (λz=>hc (by simp[z])) e) (λb o _ _ hc e _=>⟨o.slots,k b o (λz=>hc (by simp[z])) e⟩) (λ_ _ _ _ n=>n)
  (λb o hc e=>⟨o,k b o (λz=>hc (by simp[z])) e⟩) (λ_ _ e=>e) (λ_ _ _ e=>e) (λb ps e=>⟨#[],by rw[e];simp⟩) (λm hm=> ?_) (λb u e=> ?_) I.bare
 ·have e:b=it:=by simpa using hb
  subst e
  exact⟨h1,hL,h2,h3⟩
 ·obtain⟨o,es,ep,ho,r⟩:=hm
  exact⟨o,es,ep,k _ o (Ne.symm hL) ho,r⟩
 ·refine(I.hok b u e).stay (λc v hc q=>k c v ?_ q) (λ_ q=>q) λ_ _ q=>q
  rcases hc with z | z
  ·rw[z];exact nit b u e
  ·exact nit c _ z
theorem Inv.tok(I:Inv X AA σ H s)(t:Nat):Inv X AA σ H { s with toks:=t }:=I.un (h':=s.heap) (t':=t) Un.refl I.hok
theorem Inv.kept{t':Nat}(I:Inv X AA σ H s)(k:∀ b u,s.heap.get? b=some u->h'.get? b=some u):Inv X AA σ H { s with heap:=h',toks:=t' }:=I.un (Un.kept k) (I.hok.kept k)
theorem Inv.laid{a:Addr}{o:HO}{t':Nat}(I:Inv X AA σ H s)(k:∀ b u,s.heap.get? b=some u->h'.get? b=some u)(hp:s.heap.objs.size<=a)(new:ObjOk X.prog X.w (upd H a o) h' a o) :
  Inv X AA σ (upd H a o) { s with heap:=h',toks:=t' }:=I.un (Un.laid k hp (I.hok.fresh hp)) (I.hok.laid k hp new)
theorem Inv.write{x e:Addr}{o:HO}{t':Nat}(I:Inv X AA σ H s)(mu:L7 (H x))(he:e=x\/H e=some (.own x))(k:∀ b u,b≠e->s.heap.get? b=some u->h'.get? b=some u)(heo:∃ u,h'.get? e=some u)
  (new:ObjOk X.prog X.w (upd H x o) h' x o):Inv X AA σ (upd H x o) { s with heap:=h',toks:=t' }:=I.un (Un.write mu he k heo) (I.hok.write mu he k heo new)
theorem Inv.pins_of{pins':List (Addr × Obj)}(I:Inv X AA σ H s)(h:∀ p∈pins',s.heap.get? p.1=some p.2/\H p.1=none/\p.1≠X.env.locals/\p.1∉X.fs/\∀ v,p.2.data≠.cell v):Inv X pins' σ H s :=
 ⟨I.ok,I.os,I.bare,I.base,I.loc,I.cell,I.free,I.freeC,λp hp=>(List.mem_append.mp hp).elim (λz=>I.pin p (List.mem_append_left _ z)) (h p),I.hok,I.len⟩
theorem ZU{N:List Str}(hN:N.Nodup){i j:Nat}{x:Str}(a:N[i]? =some x)(b:N[j]? =some x):i=j:=by
 obtain⟨h1,e1⟩:=List.getElem?_eq_some_iff.mp a
 obtain⟨h2,e2⟩:=List.getElem?_eq_some_iff.mp b
 exact(List.getElem_inj hN).mp (e1.trans e2.symm)
theorem ZV{M:Model}{A:Around}{E:Value->Shared->Prop}{i:Nat}{x:Str}{v:V}{u:Value}{Q:Unit->Shared->Prop}(I:Inv X AA σ H s)(hN:X.N.Nodup)(hi:X.N[i]? =some x)(hx:KO X.env.scope x)(r:RelV v u)
  (h:∀ s',Inv X AA (σ.set i (some v)) H s'->(∃ a,Heap.SameBut a s.heap s'.heap/\(a=X.env.locals\/X.env.cells.lookup x=some a))->Q () s') (hf:X.fn x=true\/X.env.scope.names.lookup x=some .local:=by first | exact .inl rfl | exact .inr rfl | assumption):wpAny M A (storeName X.env x u) Q E s:=by
 obtain⟨m,hn,hl⟩:=id I.loc
 have L6:(X.env.scope.kind == .class || (X.env.scope.kind == .module && X.env.locals != X.env.globals))=false:=by rw[I.ok.kind];rfl
 have hiσ:i<σ.length:=by rw[I.len];exact(List.getElem?_eq_some_iff.mp hi).1
 have cne:=I.cne
 have tracked:∀ {a:Addr} {h':Heap},(∃ o,s.heap.get? a=some o/\H a=none)->Heap.SameBut a s.heap h'->HOk X.prog X.w H h':=λ{a h'} ha hs b ob e=>by
  obtain⟨_,_,hfree⟩:=ha
  refine(I.hok b ob e).stay (λc w' hc q=>(hs.2 c ?_).trans q) (λ_ q=>q) λ_ _ q=>q
  rintro rfl
  rcases hc with rfl | hc
  ·rw[hfree]at e;cases e
  ·rw[hfree]at hc;cases hc
 rcases hx with hk | hk
 ·refine wpAny_storeName_local hk hn (λh' hn' hs=> ?_) L6
  obtain⟨oL,_,_,hoL,_⟩:=id hn
  refine h _ ⟨I.ok,I.os,I.bare,⟨λb o e n hb hx=> ?_,λb o e n hb hx=> ?_,I.base.free,λb o e hx=> ?_,I.base.tups,I.base.frzs,I.base.tbls⟩,⟨_,hn',λj y v' e1 e2 e3=> ?_⟩,λy c e=> ?_,I.free,I.freeC,λp hp=> ?_,tracked ⟨oL,hoL,I.free⟩ hs,by simpa using I.len⟩ ⟨_,hs,.inl rfl⟩
  ·exact(hs.2 b (Nat.ne_of_lt (Nat.lt_of_lt_of_le (Heap.lt_size e) I.ok.above))).trans (I.base.keep b o e n hb hx)
  ·obtain⟨sl,e1⟩:=I.base.slot b o e n hb hx
   exact⟨sl,(hs.2 b (Nat.ne_of_lt (Nat.lt_of_lt_of_le (Heap.lt_size e) I.ok.above))).trans e1⟩
  ·obtain⟨o',e1⟩:=I.base.there b o e hx
   exact⟨o',(hs.2 b (Nat.ne_of_lt (Nat.lt_of_lt_of_le (Heap.lt_size e) I.ok.above))).trans e1⟩
  ·by_cases hj:j=i
   ·subst hj
    rw[hi]at e1;cases e1
    rw[List.getElem?_set_self hiσ]at e2
    cases e2
    exact⟨u,r,.inl ⟨hk,by simp⟩⟩
   ·rw[List.getElem?_set_ne (Ne.symm hj)]at e2
    obtain⟨u',r',q⟩:=hl j y v' e1 e2 e3
    refine⟨u',r',?_⟩
    rcases q with⟨k,e⟩ | ⟨k,c,e,z⟩
    ·refine .inl ⟨k,?_⟩
     have:y≠x:=λe=>hj (ZU hN e1 (e ▸ hi))
     simp[this,e]
    ·exact .inr ⟨k,c,e,z.sameBut hs (cne y c e)⟩
  ·obtain⟨w',z⟩:=I.cell y c e
   exact⟨w',z.sameBut hs (cne y c e)⟩
  ·obtain⟨e,n,ne,nf,d⟩:=I.pin p hp
   exact⟨(hs.2 p.1 ne).trans e,n,ne,nf,d⟩
 ·have hfn:X.fn x=true:=by
   rcases hf with z | z
   ·exact z
   ·rw[z]at hk;cases hk
  obtain⟨c,hc⟩:=I.ok.has x (.inl hk)
  obtain⟨w',z⟩:=I.cell x c hc
  refine wpAny_storeName_cell I.ok.kind hk hc z (λh' hc' hs=> ?_)
  obtain⟨oc,hoc,hocd⟩:=id z
  refine h { s with heap:=h' } ⟨I.ok,I.os,I.bare,⟨λb o e n hb hx=> ?_,λb o e n hb hx=> ?_,I.base.free,λb o e hx=> ?_,I.base.tups,I.base.frzs,I.base.tbls⟩,⟨m,hn.sameBut hs (Ne.symm (cne x c hc)),λj y v' e1 e2 e3=> ?_⟩,λy c' e=> ?_,I.free,I.freeC,λp hp=> ?_,tracked ⟨oc,hoc,I.freeC x c hc⟩ hs,by simpa using I.len⟩ ⟨c,hs,.inr hc⟩
  ·exact(hs.2 b (Nat.ne_of_lt (Nat.lt_of_lt_of_le (Heap.lt_size e) (I.ok.cab x c hfn hc)))).trans (I.base.keep b o e n hb hx)
  ·obtain⟨sl,e1⟩:=I.base.slot b o e n hb hx
   exact⟨sl,(hs.2 b (Nat.ne_of_lt (Nat.lt_of_lt_of_le (Heap.lt_size e) (I.ok.cab x c hfn hc)))).trans e1⟩
  ·obtain⟨o',e1⟩:=I.base.there b o e hx
   exact⟨o',(hs.2 b (Nat.ne_of_lt (Nat.lt_of_lt_of_le (Heap.lt_size e) (I.ok.cab x c hfn hc)))).trans e1⟩
  ·by_cases hj:j=i
   ·subst hj
    rw[hi]at e1;cases e1
    rw[List.getElem?_set_self hiσ]at e2
    cases e2
    exact⟨u,r,.inr ⟨.inl hk,c,hc,hc'⟩⟩
   ·rw[List.getElem?_set_ne (Ne.symm hj)]at e2
    obtain⟨u',r',q⟩:=hl j y v' e1 e2 e3
    refine⟨u',r',?_⟩
    rcases q with q | ⟨k,c',e,z'⟩
    ·exact .inl q
    ·refine .inr ⟨k,c',e,z'.sameBut hs ?_⟩
     rintro rfl
     exact hj (ZU hN e1 (I.ok.inj _ _ _ e hc ▸ hi))
  ·by_cases hcc:c'=c
   ·subst hcc;exact⟨_,hc'⟩
   ·obtain⟨w2,z2⟩:=I.cell y c' e
    exact⟨w2,z2.sameBut hs hcc⟩
  ·obtain⟨e,n,ne,nf,d⟩:=I.pin p hp
   refine⟨(hs.2 p.1 ?_).trans e,n,ne,nf,d⟩
   intro q
   rw[q,hoc]at e
   have q':oc=p.2:=Option.some.inj e
   exact d w' (by rw[<-q'];exact hocd)
theorem ZW{M:Model}{A:Around}{E:Value->Shared->Prop}{i:Nat}{x:Str}{v:V}{u:Value}{Q:Unit->Shared->Prop}(I:Inv X AA σ H s)(hN:X.N.Nodup)(hi:X.N[i]? =some x)(hx:KO X.env.scope x)(r:RelV v u)
  (h:∀ s',Inv X AA (σ.set i (some v)) H s'->Q () s') (hf:X.fn x=true\/X.env.scope.names.lookup x=some .local:=by first | exact .inl rfl | exact .inr rfl | assumption):wpAny M A (storeName X.env x u) Q E s :=
 ZV I hN hi hx r (λs' I' _=>h s' I') hf
theorem Inv.call'{s':Shared}{ch:List Addr}(I:Inv X AA σ H s)(ho:s'.os=s.os)(u:Un (DP X.stack) ch H H' s.heap s'.heap)(hok:HOk X.prog X.w H' s'.heap)(hg:AllBare s'.gens)
  (DF:∀ b∈ch,(b∈X.ex\/X.s₀.heap.objs.size<=b)/\b≠X.env.locals/\(∀ x c,X.env.cells.lookup x=some c->c≠b)/\∀ p∈X.pn++AA,p.1≠b):Inv X AA σ H' s':=by
 obtain⟨h',g',d',t',o'⟩:=s'
 have e:o'=s.os:=ho
 subst e
 exact I.call (g':=g') (t':=t') (d':=d') u hok hg DF
end
abbrev XK:=Value->Option Addr->Hp->Prop
abbrev St:=List (Option V)
abbrev VK:=V->Hp->Prop
abbrev TE:=St->Hp->VK->Prop
abbrev TT:=St->Hp->(Bool->Hp->Prop)->Prop
abbrev TA:=St->Hp->(List V->Hp->Prop)->Prop
structure Ends where
 nx:St->Hp->Prop
 rt:VK
 bk:St->Hp->Prop:=λ_ _=>False
 ct:St->Hp->Prop:=λ_ _=>False
abbrev TS:=Ends->St->Hp->Prop
def EP(X:Cx)(AA:List (Addr × Obj))(σ:St)(Q:VK)(u:Value)(s':Shared):Prop:=∃ v H',Inv X AA σ H' s'/\RelV v u/\Q v H'
def TP(X:Cx)(AA:List (Addr × Obj))(σ:St)(Q:Bool->Hp->Prop)(b:Bool)(s':Shared):Prop:=∃ H',Inv X AA σ H' s'/\Q b H'
def AP(X:Cx)(AA:List (Addr × Obj))(σ:St)(Q:List V->Hp->Prop)(us:List Value)(s':Shared):Prop:=∃ vs H',Inv X AA σ H' s'/\Vals vs us/\Q vs H'
def SP(X:Cx)(AA:List (Addr × Obj))(D:Ends)(f:Flow)(s':Shared):Prop :=
 match f with
 | .next=>∃ σ' H',Inv X AA σ' H' s'/\D.nx σ' H'
 | .brk=>∃ σ' H',Inv X AA σ' H' s'/\D.bk σ' H'
 | .cont=>∃ σ' H',Inv X AA σ' H' s'/\D.ct σ' H'
 | .ret u=>∃ v σ' H',Inv X AA σ' H' s'/\RelV v u/\D.rt v H'
def PE(X:Cx)(e:Expr)(t:TE):Prop :=
 ∀ (AA:List (Addr × Obj)) (s:Shared) (σ:St) (H:Hp) (Q:VK),Inv X AA σ H s->t σ H Q->wpAny (model X.prog X.w) X.A (eval e X.env) (EP X AA σ Q) X.xe s
def PT(X:Cx)(e:Expr)(t:TT):Prop :=
 ∀ (AA:List (Addr × Obj)) (s:Shared) (σ:St) (H:Hp) (Q:Bool->Hp->Prop),Inv X AA σ H s->t σ H Q->wpAny (model X.prog X.w) X.A (isTrue e X.env (eval e X.env)) (TP X AA σ Q) X.xe s
def PW(X:Cx)(e:Expr)(t:TT):Prop :=
 ∀ (whole:Sem Value) (AA:List (Addr × Obj)) (s:Shared) (σ:St) (H:Hp) (Q:Bool->Hp->Prop),Inv X AA σ H s->t σ H Q->wpAny (model X.prog X.w) X.A (isTrue e X.env whole) (TP X AA σ Q) X.xe s
theorem PW.pt{X:Cx}{e:Expr}{t:TT}(h:PW X e t):PT X e t:=h _
def PA(X:Cx)(es:List Expr)(t:TA):Prop :=
 ∀ (pos:Pos) (AA:List (Addr × Obj)) (s:Shared) (σ:St) (H:Hp) (Q:List V->Hp->Prop),Inv X AA σ H s->t σ H Q->wpAny (model X.prog X.w) X.A (spliced (backTo pos (starEach es X.env))) (AP X AA σ Q) X.xe s
def PS(X:Cx)(st:Stmt)(t:TS):Prop :=
 ∀ (AA:List (Addr × Obj)) (s:Shared) (σ:St) (H:Hp) (D:Ends),Inv X AA σ H s->t D σ H->wpAny (model X.prog X.w) X.A (exec st X.env) (SP X AA D) X.xe s
def FN(X:Cx)(st:List Stmt)(t:TS):Prop :=
 ∀ (AA:List (Addr × Obj)) (s:Shared) (σ:St) (H:Hp) (D:Ends),Inv X AA σ H s->t D σ H->wpAny (model X.prog X.w) X.A (execs st X.env) (SP X AA D) X.xe s
theorem AV{α :Type}{t:Sem α}{Q Q': α ->Shared->Prop}{M:Model}{A:Around}{E:Value->Shared->Prop}{s:Shared}(h:wpAny M A t Q E s)(hQ:∀ a s,Q a s->Q' a s):wpAny M A t Q' E s:=wpAny_mono h hQ λ_ _ x=>x
end L2
namespace L2
section
variable{X:Cx}
def RA(i:Nat):TE:=λσ H Q=>∃ v,σ[i]? =some (some v)/\Q v H
def tC(v:V):TE:=λ_ H Q=>Q v H
theorem qE{i:Nat}{x:Str}{pos:Pos}(hN:X.N[i]? =some x)(hv:Q9 X.env.scope x)(hd:(x ==("__debug__":Str))=false:=by decide)(HR:(x ==("__classdict__":Str))=false:=by decide):PE X (.Name x pos) (RA i):=by
 intro AA s σ H Q I h
 obtain⟨v,e,h⟩:=h
 obtain⟨m,hn,hl⟩:=I.loc
 obtain⟨u,r,l⟩:=hl i x v hN e hv
 have fin:EP X AA σ Q u s:=⟨v,H,I,r,h⟩
 rcases l with⟨hk,hm⟩ | ⟨hk,c,hc,hcell⟩
 ·exact wpAny_Name (wpAny_loadName_local I.ok.kind hk hn hm fin) hd
 ·rcases hk with hk | hk
  ·exact wpAny_Name (wpAny_loadName_cell I.ok.kind hk hc hcell fin) hd
  ·exact wpAny_Name (wpAny_loadName_free I.ok.kind hk hc hcell fin HR) hd
theorem AS{i j pos}:PE X (.Constant (.int i) j pos) (tC (.int i)):=λ_ _ _ H _ I h=>wpAny_Constant_int ⟨.int i,H,I.tok _,⟨_,rfl⟩,h⟩
theorem FO{b j pos}:PE X (.Constant (.bool b) j pos) (tC (.bl b)):=λ_ _ _ H _ I h=>Constant_bool ⟨.bl b,H,I,rfl,h⟩
theorem EM{j pos}:PE X (.Constant .none j pos) (tC .non):=λ_ _ _ H _ I h=>Constant_none ⟨.non,H,I,rfl,h⟩
theorem DG{x j pos}:PE X (.Constant (.str x) j pos) (tC (.str x)):=λ_ _ _ H _ I h=>Calls.Constant_str ⟨.str x,H,I.tok _,⟨_,rfl⟩,h⟩
def Gl(X:Cx)(x:Str):Prop:=X.env.kindOf x=some .globalImplicit
theorem L9{E:Value->Shared->Prop}{AA:List (Addr × Obj)}{s:Shared}{σ:St}{H:Hp}{x:Str}{u:Value}{pos:Pos}{Q:Value->Shared->Prop}(I:Inv X AA σ H s)(hg:Gl X x)(hm:X.mg x=some u)(h:Q u s)
  (hd:(x ==("__debug__":Str))=false:=by decide):wpAny (model X.prog X.w) X.A (eval (.Name x pos) X.env) Q E s :=
 Calls.Name_function_global I.ok.kind hg (Calls.loadGlobal_global (by rw[I.ok.glob];exact I.mod.glob.keeps I.bk) hm h) hd
theorem MA{E:Value->Shared->Prop}{AA:List (Addr × Obj)}{s:Shared}{σ:St}{H:Hp}{x:Str}{u:Value}{pos:Pos}{Q:Value->Shared->Prop}(I:Inv X AA σ H s)(hg:Gl X x)(hm:X.mg x=none)(hv:bootBuiltins x=some u)(h:Q u s)
  (hn:x≠"__name__":=by decide) (hd:(x ==("__debug__":Str))=false:=by decide):wpAny (model X.prog X.w) X.A (eval (.Name x pos) X.env) Q E s:=by
 obtain⟨mb,h1,h2⟩:=I.mod.blt
 exact Calls.Name_function_global I.ok.kind hg (Calls.loadGlobal_builtin (by rw[I.ok.glob];exact I.mod.glob.keeps I.bk) hm (by rw[I.ok.blt];exact h1.keeps I.bk) ((h2 x hn).trans hv) h) hd
theorem qF{x:Str}{v:V}{u:Value}{pos:Pos}(hg:Gl X x)(hm:X.mg x=some u)(r:RelV v u)(hd:(x ==("__debug__":Str))=false:=by decide):PE X (.Name x pos) (tC v) :=
 λ_ _ _ H _ I h=>L9 I hg hm ⟨v,H,I,r,h⟩ hd
theorem RB{x:Str}{v:V}{u:Value}{pos:Pos}(hg:Gl X x)(hm:X.mg x=none)(hv:bootBuiltins x=some u)(r:RelV v u)(hn:x≠"__name__":=by decide)(hd:(x ==("__debug__":Str))=false:=by decide):PE X (.Name x pos) (tC v) :=
 λ_ _ _ H _ I h=>MA I hg hm hv ⟨v,H,I,r,h⟩ hn hd
variable{a b:Expr}{ta tb:TE}{pos:Pos}
def PC(X:Cx)(op:CmpOp)(a b:Expr)(t:TE):Prop :=
 ∀ (AA:List (Addr × Obj)) (s:Shared) (σ:St) (H:Hp) (Q:VK),Inv X AA σ H s->t σ H Q →
  wpAny (model X.prog X.w) X.A (eval a X.env) (λv s₁=>wpAny (model X.prog X.w) X.A (eval b X.env) (λu s₂=>wpAny (model X.prog X.w) X.A (compareOp op v u) (EP X AA σ Q) X.xe s₂) X.xe s₁) X.xe s
theorem qG(b:Expr){op:CmpOp}(h:op≠.In)(h2:op≠.NotIn):behindInMarks op b=false:=by
 have e1:(op == CmpOp.In)=false:=by cases op<;>first | rfl | exact absurd rfl h
 have e2:(op == CmpOp.NotIn)=false:=by cases op<;>first | rfl | exact absurd rfl h2
 cases b<;>simp[behindInMarks,e1,e2]
def tB(t:TE):TT:=λσ H Q=>t σ H λx H1=>∃ c,x=.bl c/\Q c H1
theorem IQ{op:CmpOp}{t:TE}(h:PC X op a b t)(h1:behindInMarks op b=false:=by first | exact qG _ (by decide) (by decide) | rfl):PT X (.Compare a [op] [b] pos) (tB t):=by
 intro AA s σ H Q I hw
 refine wpAny_isTrue_Compare1 (AV (h AA s σ H _ I hw) λv s1 h1=>AV h1 λu s2 h2=>AV h2 λc s3 hzz=> ?_) h1
 obtain⟨x,H1,I1,r1,q1⟩:=hzz
 obtain⟨d,rfl,q⟩:=q1
 cases r1
 exact wpAny_truthy_bool ⟨H1,I1,q⟩
variable{tA tB':TT}{rest:List Expr}
def MB(t u:TT):TT:=λσ H Q=>t σ H λc H1=>if c=true then u σ H1 Q else Q false H1
def JY(t u:TT):TT:=λσ H Q=>t σ H λc H1=>if c=true then Q true H1 else u σ H1 Q
def FQ(t:TT):TT:=λσ H Q=>t σ H λc H1=>Q (!c) H1
theorem RC(ha:PT X a tA):PW X (.BoolOp .And [a] pos) tA:=by
 intro wh AA s σ H Q I h
 refine isTrue_and (AV (ha AA s σ H Q I h) λc s1 e=> ?_)
 cases c with
 | true=>exact isTrue_and_nil e
 | false=>exact e
theorem NV(ha:PT X a tA):PW X (.BoolOp .Or [a] pos) tA:=by
 intro wh AA s σ H Q I h
 refine isTrue_or (AV (ha AA s σ H Q I h) λc s1 e=> ?_)
 cases c with
 | false=>exact isTrue_or_nil e
 | true=>exact e
theorem RD(ha:PT X a tA)(hb:PW X (.BoolOp .And (b::rest) pos) tB'):PW X (.BoolOp .And (a::b::rest) pos) (MB tA tB'):=by
 intro wh AA s σ H Q I h
 refine isTrue_and (AV (ha AA s σ H _ I h) λc s1 hzz=> ?_)
 obtain⟨H1,I1,q1⟩:=hzz
 cases c with
 | true=>exact hb wh AA s1 σ H1 Q I1 q1
 | false=>exact⟨H1,I1,q1⟩
theorem MC(ha:PT X a tA)(hb:PW X (.BoolOp .Or (b::rest) pos) tB'):PW X (.BoolOp .Or (a::b::rest) pos) (JY tA tB'):=by
 intro wh AA s σ H Q I h
 refine isTrue_or (AV (ha AA s σ H _ I h) λc s1 hzz=> ?_)
 obtain⟨H1,I1,q1⟩:=hzz
 cases c with
 | true=>exact⟨H1,I1,q1⟩
 | false=>exact hb wh AA s1 σ H1 Q I1 q1
theorem GO(ha:PT X a tA):PT X (.UnaryOp .Not a pos) (FQ tA):=by
 intro AA s σ H Q I h
 exact isTrue_not (ha AA s σ H (λc H1=>Q (!c) H1) I h)
def MD(ta tb:TE):TE:=λσ H Q=>ta σ H λx H1=>∃ c,x=.bl c/\if c=true then tb σ H1 Q else Q (.bl false) H1
theorem RE{op}{t:TE}(h:PE X a t):PE X (.BoolOp op [a] pos) t:=λAA s σ H Q I hw=>BoolOp_one (h AA s σ H Q I hw)
theorem RF(ha:PE X a ta)(hb:PE X (.BoolOp .And (b::rest) pos) tb):PE X (.BoolOp .And (a::b::rest) pos) (MD ta tb):=by
 intro AA s σ H Q I h
 refine BoolOp_and (AV (ha AA s σ H _ I h) λv s1 hzz=> ?_)
 obtain⟨x,H1,I1,r1,q1⟩:=hzz
 obtain⟨c,rfl,q1⟩:=q1
 cases r1
 refine wpAny_truthy_bool ?_
 cases c with
 | true=>exact hb AA s1 σ H1 Q I1 q1
 | false=>exact⟨.bl false,H1,I1,rfl,q1⟩
end
end L2
namespace L2
def SqL(K:W.Frag)(H:Hp)(a:Addr)(xs:List V):Prop :=
 Rd H a (.lst xs) ∨
  ∃ (o:Obj) (its:Array Value) (n:Nat),K.lookup a=some o/\o.cls=.type "list"/\o.dict=none/\o.data=.seq its n/\its.size<=sizeLine/\Vals xs its.toList
def SqT(K:W.Frag)(H:Hp)(a:Addr)(xs:List V):Prop :=
 Rd H a (.tup xs) ∨
  ∃ (o:Obj) (its:Array Value) (n:Nat),K.lookup a=some o/\o.cls=.type "tuple"/\o.data=.seq its n/\its.size<=sizeLine/\Vals xs its.toList
def qH:Value->Option V
 | .none=>some .non
 | .bool b=>some (.bl b)
 | .int i _=>some (.int i)
 | .str x _=>some (.str x)
 | .bytes b _=>some (.byt b)
 | .float b _=>some (.flt b)
 | .ref a=>some (.ref a)
 | .type n=>some (.ty n)
 | _=>none
theorem RelV.abs{x:V}{u:Value}(r:RelV x u):qH u=some x:=by
 cases x with
 | non=>cases r;rfl
 | bl _=>cases r;rfl
 | int _=>obtain⟨t,rfl⟩:=r;rfl
 | str _=>obtain⟨t,rfl⟩:=r;rfl
 | byt _=>obtain⟨t,rfl⟩:=r;rfl
 | flt _=>obtain⟨t,rfl⟩:=r;rfl
 | ref _=>cases r;rfl
 | ty _=>cases r;rfl
theorem RelV.inj{x y:V}{u:Value}(r:RelV x u)(q:RelV y u):x=y:=Option.some.inj (r.abs.symm.trans q.abs)
theorem Vals.inj:∀ {xs ys:List V} {us:List Value},Vals xs us->Vals ys us->xs=ys
 | _,_,_,.nil,.nil=>rfl
 | _,_,_,.cons r t,.cons r' t'=>by rw[r.inj r',Vals.inj t t']
section
variable{X:Cx}{AA:List (Addr × Obj)}{σ:St}{H:Hp}{s:Shared}{a:Addr}{xs ys:List V}
theorem SqL.of{K:W.Frag}(h:H a=some (.lst xs)):SqL K H a xs:=.inl (.inl h)
theorem SqT.of{K:W.Frag}(h:H a=some (.tup xs)):SqT K H a xs:=.inl (.inl h)
theorem Inv.list(I:Inv X AA σ H s)(h:SqL X.K H a xs):∃ its:List Value,Vals xs its/\PlainL s.heap a its.toArray/\xs.length<=sizeLine:=by
 rcases h with h | ⟨o,its,n,hk,hc,hd,hs,hz,r⟩
 ·obtain⟨z,its,n,r,e⟩:=h.ok I.hok
  exact⟨its,r,⟨_,n,e,rfl,rfl,rfl⟩,z⟩
 ·refine⟨its.toList,r,⟨o,n,I.kIn a o hk,hc,hd,by simpa using hs⟩,?_⟩
  have e:=r.length
  simp only[Array.length_toList]at e
  omega
theorem Inv.tuple(I:Inv X AA σ H s)(h:SqT X.K H a xs):∃ its:List Value,Vals xs its/\IsTup s.heap a its.toArray/\xs.length<=sizeLine:=by
 rcases h with h | ⟨o,its,n,hk,hc,hs,hz,r⟩
 ·obtain⟨z,its,r,p⟩:=h.ok I.hok
  exact⟨its,r,p,z⟩
 ·refine⟨its.toList,r,⟨o,I.kIn a o hk,hc,n,by simpa using hs⟩,?_⟩
  have e:=r.length
  simp only[Array.length_toList]at e
  omega
theorem Inv.list_inj(I:Inv X AA σ H s)(h:SqL X.K H a xs)(h':SqL X.K H a ys):xs=ys:=by
 obtain⟨its,r,⟨o,n,e,_,_,d⟩,_⟩:=I.list h
 obtain⟨its',r',⟨o',n',e',_,_,d'⟩,_⟩:=I.list h'
 rw[e]at e';cases e'
 rw[d]at d'
 injection d' with d1 _
 have:its=its':=by simpa using congrArg Array.toList d1
 subst this
 exact r.inj r'
theorem Inv.tuple_inj(I:Inv X AA σ H s)(h:SqT X.K H a xs)(h':SqT X.K H a ys):xs=ys:=by
 obtain⟨its,r,⟨o,e,_,n,d⟩,_⟩:=I.tuple h
 obtain⟨its',r',⟨o',e',_,n',d'⟩,_⟩:=I.tuple h'
 rw[e]at e';cases e'
 rw[d]at d'
 injection d' with d1 _
 have:its=its':=by simpa using congrArg Array.toList d1
 subst this
 exact r.inj r'
end
section
variable{X:Cx}{AA:List (Addr × Obj)}{σ:St}{H:Hp}{s:Shared}{E:Value->Shared->Prop}
end
section
variable{X:Cx}{st:Stmt}{rest:List Stmt}{t u:TS}{e:Expr}{te:TE}{pos:Pos}
def CN:TS:=λD σ H=>D.nx σ H
def AK(t u:TS):TS:=λD σ H=>t { D with nx:=u D } σ H
theorem CW:FN X [] CN:=λ_ _ σ H _ I h=>wpAny_execs_nil ⟨σ,H,I,h⟩
theorem AN(h1:PS X st t)(h2:FN X rest u):FN X (st::rest) (AK t u):=by
 intro AA s σ H D I h
 refine wpAny_execs_cons (AV (h1 AA s σ H { D with nx:=u D } I h) λf s1 q=> ?_)
 cases f with
 | next =>
  obtain⟨σ',H',I',q⟩:=q
  exact h2 AA s1 σ' H' D I' q
 | ret v=>exact q
 | brk=>exact q
 | cont=>exact q
theorem AL(h1:PS X st t):FN X [st] t:=by
 intro AA s σ H D I h
 refine wpAny_execs_cons (AV (h1 AA s σ H D I h) λf s1 q=> ?_)
 cases f with
 | next=>exact wpAny_execs_nil q
 | ret v=>exact q
 | brk=>exact q
 | cont=>exact q
theorem Inv.quiet{AA:List (Addr × Obj)}{σ:St}{H:Hp}{s:Shared}(I:Inv X AA σ H s):interactive X.env=false:=by simp[interactive,I.ok.kind]
def DH(te:TE):TS:=λD σ H=>te σ H λ_ H1=>D.nx σ H1
theorem DQ(he:PE X e te)(hs:swapsWith e none pos.line X.env=pure false:=by rfl):PS X (.Expr e pos) (DH te):=by
 intro AA s σ H D I h
 exact wpAny_Expr_any (AV (he AA s σ H _ I h) λv s1 ⟨x,H1,I1,r1,q1⟩=>⟨σ,H1,I1,q1⟩) I.quiet hs
def A9(te:TE):TS:=λD σ H=>te σ H D.rt
theorem BC(he:PE X e te):PS X (.Return (some e) pos) (A9 te):=by
 intro AA s σ H D I h
 exact wpAny_Return_some (AV (he AA s σ H _ I h) λv s1 ⟨x,H1,I1,r1,q1⟩=>⟨x,σ,H1,I1,r1,q1⟩)
def B0(c:TT)(t u:TS):TS:=λD σ H=>c σ H λb H1=>if b=true then t D σ H1 else u D σ H1
theorem B9{c:Expr}{a b:List Stmt}{tc:TT}(hc:PT X c tc)(ha:FN X a t)(hb:FN X b u):PS X (.If c a b pos) (B0 tc t u):=by
 intro AA s σ H D I h
 refine wpAny_If (AV (hc AA s σ H _ I h) λd s1 hzz=> ?_)
 obtain⟨H1,I1,q1⟩:=hzz
 cases d with
 | true=>exact ha AA s1 σ H1 D I1 q1
 | false=>exact hb AA s1 σ H1 D I1 q1
end
abbrev TG:=V->St->Hp->(St->Hp->Prop)->Prop
abbrev IR:=List V->St->Hp->(St->Hp->Prop)->Prop
def PG(X:Cx)(target:Expr)(t:TG):Prop :=
 ∀ (AA:List (Addr × Obj)) (s:Shared) (σ:St) (H:Hp) (v:V) (u:Value) (Q:St->Hp->Prop),Inv X AA σ H s->RelV v u->t v σ H Q →
  wpAny (model X.prog X.w) X.A (assign target X.env u) (λ_ s'=>∃ σ' H',Inv X AA σ' H' s'/\Q σ' H') X.xe s
def NW(X:Cx)(ts:List Expr)(t:IR):Prop :=
 ∀ (AA:List (Addr × Obj)) (s:Shared) (σ:St) (H:Hp) (vs:List V) (us:List Value) (Q:St->Hp->Prop),Inv X AA σ H s->Vals vs us->t vs σ H Q →
  wpAny (model X.prog X.w) X.A (assignInOrder ((assignEach ts X.env).map (·.2)) us) (λ_ s'=>∃ σ' H',Inv X AA σ' H' s'/\Q σ' H') X.xe s
abbrev NX:=V->V->V->Hp->(Hp->Prop)->Prop
def RG(X:Cx)(t:NX):Prop :=
 ∀ (AA:List (Addr × Obj)) (s:Shared) (σ:St) (H:Hp) (o i v:V) (ov iv u:Value) (Q:Hp->Prop),Inv X AA σ H s->RelV o ov->RelV i iv->RelV v u->t o i v H Q →
  wpAny (model X.prog X.w) X.A (setItem ov iv u) (λ_ s'=>∃ H',Inv X AA σ H' s'/\Q H') X.xe s
abbrev ZX:=V->V->Hp->VK->Prop
section
variable{X:Cx}{pos:Pos}
def AO(i:Nat):TG:=λv σ H Q=>Q (σ.set i (some v)) H
theorem qI{i:Nat}{x:Str}(hN:X.N.Nodup)(hi:X.N[i]? =some x)(hx:KO X.env.scope x)(hf:X.fn x=true\/X.env.scope.names.lookup x=some .local:=by first | exact .inl rfl | exact .inr rfl | assumption):PG X (.Name x pos) (AO i):=by
 intro AA s σ H v u Q I r h
 exact wpAny_assign_Name (ZW I hN hi hx r (λs' I'=>⟨_,H,I',h⟩) hf)
def NY:IR:=λvs σ H Q=>vs=[]/\Q σ H
def KP(t:TG)(u:IR):IR:=λvs σ H Q=>∃ v r,vs=v::r/\t v σ H λσ' H'=>u r σ' H' Q
theorem ZY:NW X [] NY:=by
 intro AA s σ H vs us Q I r h
 obtain⟨e,h⟩:=h
 subst e
 cases r
 exact assignInOrder_nil ⟨σ,H,I,h⟩
theorem NZ{e:Expr}{es:List Expr}{t:TG}{u:IR}(h1:PG X e t)(h2:NW X es u)
  (hs:(assignEach (e::es) X.env).map (·.2)=assign e X.env::(assignEach es X.env).map (·.2):=by rfl):NW X (e::es) (KP t u):=by
 intro AA s σ H vs us Q I r h
 obtain⟨v,vr,e1,h⟩:=h
 subst e1
 cases r with
 | cons r rr =>
  rw[hs]
  refine assignInOrder_cons (AV (h1 AA s σ H _ _ _ I r h) λ_ s1 hzz=> ?_)
  obtain⟨σ1,H1,I1,q1⟩:=hzz
  exact h2 AA s1 σ1 H1 _ _ Q I1 rr q1
def N0(K:W.Frag)(n:Nat)(t:IR):TG:=λv σ H Q=>∃ a xs,v=.ref a/\SqT K H a xs/\xs.length=n/\t xs σ H Q
theorem ZZ{es:List Expr}{k:Nat}{t:IR}{n:Nat}(hc:X.calm=true)(h:NW X es t)
  (hn:(assignEach es X.env).length=n:=by rfl) (hst:(assignEach es X.env).findIdx? (·.1)=none:=by rfl):PG X (.Tuple es k pos) (N0 X.K n t):=by
 intro AA s σ H v u Q I r hw
 obtain⟨a,xs,e1,hq,hl,hw⟩:=hw
 subst e1
 cases r
 obtain⟨its,rv,ht,hz⟩:=I.tuple hq
 refine assign_Tuple_tuple (I.ok.hd hc) ht (by simp[hn,<-hl,rv.length]) hst λh' hx=> ?_
 have I1:Inv X AA σ H { s with heap:=h' }:=I.kept (t':=s.toks) λb o e=>hx b o (Nat.ne_of_lt (Heap.lt_size e)) e
 exact h AA _ σ H xs _ Q I1 (by simpa using rv) hw
def N1(to ti:TE)(t:NX):TG:=λv σ H Q=>to σ H λo H1=>ti σ H1 λi H2=>t o i v H2 λH3=>Q σ H3
theorem Z0{o i:Expr}{to ti:TE}{t:NX}(ho:PE X o to)(hi:PE X i ti)(hs:RG X t)
  (ha:∀ v,assign (.Subscript o i pos) X.env v=(do
   let ov ← holding [v] (eval o X.env)
   let iv ← holding [v,ov] (eval i X.env)
   standAt pos
   holding [v,ov,iv] (setItem ov iv v)
   release [v,ov,iv] []):=by intro _;rfl):PG X (.Subscript o i pos) (N1 to ti t):=by
 intro AA s σ H v u Q I r h
 rw[ha]
 refine wpAny_bind (wpAny_holding (AV (ho AA s σ H _ I h) λov s1 hzz=> ?_))
 obtain⟨x,H1,I1,r1,q1⟩:=hzz
 refine wpAny_bind (wpAny_holding (AV (hi AA s1 σ H1 _ I1 q1) λiv s2 hzz=> ?_))
 obtain⟨y,H2,I2,r2,q2⟩:=hzz
 refine wpAny_bind (wpAny_standAt (wpAny_bind (wpAny_holding (AV (hs AA s2 σ H2 x y v ov iv u _ I2 r1 r2 r q2) λ_ s3 hzz=> ?_))))
 obtain⟨H3,I3,q3⟩:=hzz
 exact wpAny_release ⟨σ,H3,I3,q3⟩
def A5(te:TE)(g:TG):TS:=λD σ H=>te σ H λx H1=>g x σ H1 D.nx
theorem Z1{tg e:Expr}{te:TE}{g:TG}(he:PE X e te)(hg:PG X tg g)(hs:swapsWithSole [tg] e pos.line X.env=pure false:=by rfl)(hw:swappedStores [tg] e X.env=pure none:=by rfl)
  (h1:(assignEach [tg] X.env).map (·.2)=[assign tg X.env]:=by rfl):PS X (.Assign [tg] e pos) (A5 te g):=by
 intro AA s σ H D I h
 refine wpAny_Assign_stores (AV (he AA s σ H _ I h) λv s1 hzz=> ?_) hs hw
 obtain⟨x,H1,I1,r1,q1⟩:=hzz
 rw[h1]
 exact AV (hg AA s1 σ H1 x v _ I1 r1 q1) λ_ s2 q=>q
theorem ME{i:Nat}{x:Str}{e:Expr}{te:TE}{pos':Pos}(hN:X.N.Nodup)(hi:X.N[i]? =some x)(hx:KO X.env.scope x)(he:PE X e te)(hs:swapsWith e (some (.Name x pos')) pos.line X.env=pure false:=by rfl)(hf:X.fn x=true\/X.env.scope.names.lookup x=some .local:=by first | exact .inl rfl | exact .inr rfl | assumption) :
  PS X (.Assign [.Name x pos'] e pos) (A5 te (AO i)):=by
 intro AA s σ H D I h
 refine wpAny_Assign_Name (AV (he AA s σ H _ I h) λv s1 hzz=> ?_) hs
 obtain⟨y,H1,I1,r1,q1⟩:=hzz
 exact ZW I1 hN hi hx r1 (λs2 I2=>⟨_,H1,I2,q1⟩) hf
def qJ(f:Int->Int->Int):ZX:=λx y H Q=>∃ i j,x=.int i/\y=.int j/\Q (.int (f i j)) H
end
section
variable{X:Cx}{pos:Pos}
end
structure It where
 go:Nat->Hp->Prop
 yld:Nat->Hp->V->Hp->Prop
 stop:Nat->Hp->Prop
def FpOk(X:Cx)(AA:List (Addr × Obj))(H:Hp)(b:Addr):Prop :=
 H b=none/\b≠X.env.locals/\b∉X.fs/\(b∈X.ex\/X.s₀.heap.objs.size<=b)/\(∀ x c,X.env.cells.lookup x=some c->c≠b)/\∀ p∈X.pn++AA,p.1≠b
theorem Inv.fpOk{X:Cx}{AA:List (Addr × Obj)}{σ:St}{H H':Hp}{s:Shared}{b:Addr}(I:Inv X AA σ H s)(hb:s.heap.objs.size<=b)(hn:H' b=none):FpOk X AA H' b:=by
 refine⟨hn,Nat.ne_of_gt (Nat.lt_of_lt_of_le I.lt hb),I.nofs hb,.inr (Nat.le_trans I.sz hb),λx c e z=> ?_,λp hp z=> ?_⟩
 ·obtain⟨v,q⟩:=I.cell x c e
  exact absurd (Nat.lt_of_lt_of_le q.lt (by rw[z];exact hb)) (Nat.lt_irrefl _)
 ·exact absurd (Nat.lt_of_lt_of_le (Heap.lt_size (I.pin p hp).1) (by rw[z];exact hb)) (Nat.lt_irrefl _)
structure IS(P:Program)(w:World)(K:W.Frag)(tg:Expr)(J:It)(fp:List Addr)(it:Addr)(tn:Nat->Heap->Prop):Prop where
 mem:it∈fp
 obj:∀ i h,tn i h->∀ b∈fp,∃ o,h.get? b=some o/\∀ v,o.data≠.cell v
 keep:∀ i h h',tn i h->(∀ b∈fp,∀ o,h.get? b=some o->h'.get? b=some o)->tn i h'
 item:∀ (X:Cx),X.prog=P->X.w=w->X.K=K->X.calm=true->∀ (i:Nat) (AA:List (Addr × Obj)) (s:Shared) (σ:St) (H:Hp) (E:Value->Shared->Prop),Inv X AA σ H s->(∀ b∈fp,FpOk X AA H b)->tn i s.heap->J.go i H →
  wpAny (model P w) X.A (pyNext (.ref it)) (λr s1=>∃ u,r=some u ∧
   wpAny (model P w) X.A (letOwnedTupleGo tg (.ref it) u) (λ_ s2=>∃ x H',Inv X AA σ H' s2/\RelV x u/\J.yld i H x H'/\tn (i+1) s2.heap/\∀ b∈fp,H' b=none) E s1) E s
 done:∀ (X:Cx),X.prog=P->X.w=w->X.K=K->X.calm=true->∀ (i:Nat) (AA:List (Addr × Obj)) (s:Shared) (σ:St) (H:Hp) (E:Value->Shared->Prop),Inv X AA σ H s->(∀ b∈fp,FpOk X AA H b)->tn i s.heap->J.stop i H →
  wpAny (model P w) X.A (pyNext (.ref it)) (λr s1=>r=none/\Inv X AA σ H s1) E s
 self:∀ (A:Around) (i:Nat) (s:Shared) (Q:Value->Shared->Prop) (E:Value->Shared->Prop),tn i s.heap->Q (.ref it) s->wpAny (model P w) A (pyIter (.ref it)) Q E s
abbrev TI:=St->Hp->(It->Hp->Prop)->Prop
def Z2(X:Cx)(AA:List (Addr × Obj))(σ:St)(tg:Expr)(R:It->Hp->Prop)(itv:Value)(s2:Shared):Prop :=
 ∃ (it:Addr) (fp:List Addr) (tn:Nat->Heap->Prop) (J:It) (H':Hp),itv=.ref it/\Inv X AA σ H' s2/\IS X.prog X.w X.K tg J fp it tn/\tn 0 s2.heap/\(∀ b∈fp,FpOk X AA H' b)/\R J H'
def PI(X:Cx)(tg iter:Expr)(wi:TI):Prop :=
 ∀ (AA:List (Addr × Obj)) (s:Shared) (σ:St) (H:Hp) (R:It->Hp->Prop),Inv X AA σ H s->wi σ H R →
  wpAny (model X.prog X.w) X.A (eval iter X.env) (λv s1=>wpAny (model X.prog X.w) X.A (pyIter v) (Z2 X AA σ tg R) X.xe s1) X.xe s
theorem MF{M:Model}{A:Around}{E:Value->Shared->Prop}{s:Shared}{tg:Expr}{it:Addr}{u:Value}{o:Obj}{n:String}{vs:Array Value}{Q:Unit->Shared->Prop}(ho:s.heap.get? it=some o)(hc:o.cls=.type n)(hd:o.data=.fields vs)
    (hn:["enumerate","zip","dict_itemiterator","dict_reverseitemiterator","odict_iterator","itertools.zip_longest","itertools.pairwise"].contains n=false) (hQ:Q () s):wpAny M A (letOwnedTupleGo tg (.ref it) u) Q E s:=by
  unfold letOwnedTupleGo
  cases tg<;>first
    | exact wpAny_pure hQ
    | (cases u<;>first
        | exact wpAny_pure hQ
        | (refine wpAny_bind (wpAny_load ho ?_)
           rw[hc,hd]
           show wpAny M A (if(["enumerate","zip","dict_itemiterator","dict_reverseitemiterator","odict_iterator","itertools.zip_longest","itertools.pairwise"].contains n && vs[0]? == some (rawInt _))=true then _ else _) Q E s
           rw[if_neg (by intro h;rw[hn,Bool.false_and]at h;cases h)]
           exact wpAny_pure hQ))
def HV(K:W.Frag)(a:Addr):It :=
 ⟨λi H=>∃ xs x,SqL K H a xs/\xs[i]? =some x,λi H x H'=>H'=H/\∀ xs,SqL K H a xs->xs[i]? =some x,λi H=>∃ xs,SqL K H a xs/\xs.length<=i⟩
def HW(K:W.Frag)(a:Addr):It :=
 ⟨λi H=>∃ xs x,SqT K H a xs/\xs[i]? =some x,λi H x H'=>H'=H/\∀ xs,SqT K H a xs->xs[i]? =some x,λi H=>∃ xs,SqT K H a xs/\xs.length<=i⟩
def GP(lo:Int)(n:Nat):It:=⟨λi _=>i<n,λi H x H'=>H'=H/\x=.int (lo+i),λi _=>n<=i⟩
theorem qK{P:Program}{w:World}{K:W.Frag}{tg:Expr}(a it:Addr):IS P w K tg (HV K a) [it] it (λi h=>h.IsListIter it a i) where
 mem:=by simp
 obj:=λi h st b hb=>by
  have e:b=it:=by simpa using hb
  subst e
  obtain⟨o,e,c,d⟩:=st
  exact⟨o,e,λv z=>by rw[d]at z;cases z⟩
 keep:=λi h h' st k=>st.at λo e=>k it (by simp) o e
 item:=by
  intro X hP hw hK hc i AA s σ H E I hf st hg
  subst hP hw hK
  obtain⟨xs,x,hq,hx⟩:=hg
  obtain⟨its,rv,p,hz⟩:=I.list hq
  obtain⟨u,hu,ru⟩:=rv.get hx
  obtain⟨f0,f1,f2,f3,f4,f5⟩:=hf it (by simp)
  refine wpAny_pyNext_list_item st p.isList (x:=u) (by simpa using hu) λh' st' sb=> ?_
  have I1:Inv X AA σ H { s with heap:=h' }:=I.turned (t':=s.toks) (λb o hb e=>(sb.2 b hb).trans e) f0 f1 f3 f4 f5
  obtain⟨o,e,c,d⟩:=id st'
  exact⟨u,rfl,MF (s:={ s with heap:=h' }) e c d (by decide) ⟨x,H,I1,ru,⟨rfl,λys hy=>by rw[I.list_inj hy hq];exact hx⟩,st',λb hb=>(hf b hb).1⟩⟩
 done:=by
  intro X hP hw hK hc i AA s σ H E I hf st hg
  subst hP hw hK
  obtain⟨xs,hq,hx⟩:=hg
  obtain⟨its,rv,p,hz⟩:=I.list hq
  obtain⟨f0,f1,f2,f3,f4,f5⟩:=hf it (by simp)
  have hl:=rv.length
  exact wpAny_pyNext_list_end (I.ok.hd hc) st p.isList (by simp;omega) λh' eb=>⟨rfl,I.turned (t':=s.toks) (λb o hb e=>eb b o hb e) f0 f1 f3 f4 f5⟩
 self:=λ_ _ _ _ _ st h=>wpAny_pyIter_listiter st h
theorem qL{P:Program}{w:World}{K:W.Frag}{tg:Expr}(a it:Addr):IS P w K tg (HW K a) [it] it (λi h=>h.IsTupleIter it a i) where
 mem:=by simp
 obj:=λi h st b hb=>by
  have e:b=it:=by simpa using hb
  subst e
  obtain⟨o,e,c,d⟩:=st
  exact⟨o,e,λv z=>by rw[d]at z;cases z⟩
 keep:=λi h h' st k=>st.at λo e=>k it (by simp) o e
 item:=by
  intro X hP hw hK hc i AA s σ H E I hf st hg
  subst hP hw hK
  obtain⟨xs,x,hq,hx⟩:=hg
  obtain⟨its,rv,p,hz⟩:=I.tuple hq
  obtain⟨u,hu,ru⟩:=rv.get hx
  obtain⟨f0,f1,f2,f3,f4,f5⟩:=hf it (by simp)
  refine wpAny_pyNext_tuple_item st (show s.heap.IsTuple a its.toArray from p) (x:=u) (by simpa using hu) λh' st' sb=> ?_
  have I1:Inv X AA σ H { s with heap:=h' }:=I.turned (t':=s.toks) (λb o hb e=>(sb.2 b hb).trans e) f0 f1 f3 f4 f5
  obtain⟨o,e,c,d⟩:=id st'
  exact⟨u,rfl,MF (s:={ s with heap:=h' }) e c d (by decide) ⟨x,H,I1,ru,⟨rfl,λys hy=>by rw[I.tuple_inj hy hq];exact hx⟩,st',λb hb=>(hf b hb).1⟩⟩
 done:=by
  intro X hP hw hK hc i AA s σ H E I hf st hg
  subst hP hw hK
  obtain⟨xs,hq,hx⟩:=hg
  obtain⟨its,rv,p,hz⟩:=I.tuple hq
  obtain⟨f0,f1,f2,f3,f4,f5⟩:=hf it (by simp)
  have hl:=rv.length
  exact wpAny_pyNext_tuple_end (I.ok.hd hc) st (show s.heap.IsTuple a its.toArray from p) (by simp;omega) λh' eb=>⟨rfl,I.turned (t':=s.toks) (λb o hb e=>eb b o hb e) f0 f1 f3 f4 f5⟩
 self:=λ_ _ _ _ _ st h=>wpAny_pyIter_tupleiter st h
theorem qM{P:Program}{w:World}{K:PySem.W.Frag}{tg:Expr}(it:Addr)(lo:Int)(n:Nat):IS P w K tg (GP lo n) [it] it (λi h=>IsRangeIter h it (lo+(i:Nat) * 1) ((n:Int) - (i:Nat)) 1) where
 mem:=by simp
 obj:=λi h st b hb=>by
  have e:b=it:=by simpa using hb
  subst e
  exact⟨_,st,λv z=>by
   have z':Data.fields _=Data.cell v:=z
   cases z'⟩
 keep:=λi h h' st k=>k it (by simp) _ st
 item:=by
  intro X hP hw hK hc i AA s σ H E I hf st hg
  subst hP hw hK
  obtain⟨f0,f1,f2,f3,f4,f5⟩:=hf it (by simp)
  have W:=Walks.range (prog:=X.prog) (w:=X.w) (I.ok.hd hc) it lo 1 n
  refine W.item i s _ _ hg st λv h' tk hv st' kk=> ?_
  obtain⟨t,rfl⟩:=hv
  have I1:Inv X AA σ H { s with heap:=h',toks:=tk }:=I.turned (λb o hb e=>kk b o (by simpa using hb) e) f0 f1 f3 f4 f5
  refine⟨_,rfl,MF (s:={ s with heap:=h',toks:=tk }) (n:="range_iterator") st' rfl rfl (by decide) ⟨.int (lo+i),H,I1,⟨t,?_⟩,⟨rfl,rfl⟩,st',λb hb=>(hf b hb).1⟩⟩
  rw[Int.mul_one]
 done:=by
  intro X hP hw hK hc i AA s σ H E I hf st hg
  subst hP hw hK
  obtain⟨f0,f1,f2,f3,f4,f5⟩:=hf it (by simp)
  exact wpAny_pyNext_range_end (I.ok.hd hc) st (by have:n<=i:=hg;omega) λh' eb=>⟨rfl,I.turned (t':=s.toks) (λb o hb e=>eb b o hb e) f0 f1 f3 f4 f5⟩
 self:=λ_ _ _ _ _ st h=>wpAny_pyIter_rangeiter st h
end L2
namespace L2
section
variable{X:Cx}{tg:Expr}
theorem qN{AA:List (Addr × Obj)}{σ:St}{H:Hp}{s:Shared}{R:It->Hp->Prop}{E:Value->Shared->Prop}{lo hi:Int}{t u v:Tok}{tk:Nat}(I:Inv X AA σ H s)(h1: -(2 ^ 62)<=lo)(h2:lo<2 ^ 62)(h3: -(2 ^ 62)<=hi)(h4:hi<2 ^ 62)
  (q:R (GP lo (hi - lo).toNat) H):wpAny (model X.prog X.w) X.A (pyIter (.ref s.heap.objs.size)) (Z2 X AA σ tg R) E { s with heap:=s.heap.push { cls:=.type "range",data:=.fields #[.int lo t,.int hi u,.int 1 v] },toks:=tk }:=by
 refine wpAny_pyIter_range (IsRange.new ..) (small_one h1 h2 h3 h4) ?_
 have I1:Inv X AA σ H { s with heap:=s.heap.push { cls:=.type "range",data:=.fields #[.int lo t,.int hi u,.int 1 v] },toks:=tk }:=I.kept λb o e=>Heap.get?_push_of_some _ e
 refine⟨(s.heap.push { cls:=.type "range",data:=.fields #[.int lo t,.int hi u,.int 1 v] }).objs.size,[(s.heap.push { cls:=.type "range",data:=.fields #[.int lo t,.int hi u,.int 1 v] }).objs.size],_,_,H,rfl,
  I1.kept (t':=tk) λb o e=>Heap.get?_push_of_some _ e,qM _ lo (hi - lo).toNat,?_,λb hb=> ?_,q⟩
 ·have e1:lo+((0:Nat):Int) * 1=lo:=by simp
  have e2:(((hi - lo).toNat:Nat):Int) - ((0:Nat):Int)=Builtin.Range.rangeSize lo hi 1:=by rw[rangeSize_one];split<;>omega
  show IsRangeIter _ _ (lo+((0:Nat):Int) * 1) ((((hi - lo).toNat:Nat):Int) - ((0:Nat):Int)) 1
  rw[e1,e2]
  exact Heap.get?_push_size _ rfl
 ·have e:b=(s.heap.push { cls:=.type "range",data:=.fields #[.int lo t,.int hi u,.int 1 v] }).objs.size:=by simpa using hb
  subst e
  exact I1.fpOk (Nat.le_refl _) (I1.hok.fresh (Nat.le_refl _))
def EX(ta:TA):TI:=λσ H R=>ta σ H λvs H1=>∃ j:Int,vs=[.int j]/\ -(2 ^ 62)<=j/\j<2 ^ 62/\R (GP 0 j.toNat) H1
theorem FR{a:Expr}{ta:TA}{p pos:Pos}(hg:Gl X "range")(hm:X.mg "range"=none)(ha:PA X [a] ta)(hs:starEach [a] X.env=[(false,eval a X.env)]:=by rfl):PI X tg (.Call (.Name "range" p) [a] [] pos) (EX ta):=by
 intro AA s σ H R I h
 refine Call_ (MA I hg hm boot_range (PyProof.Rows.callWith_type1 (AV (ha pos AA s σ H _ I h) λus s1 hzz=> ?_) hs rfl))
 obtain⟨vs,H1,I1,r1,q1⟩:=hzz
 obtain⟨j,e,q1,q2,q⟩:=q1
 subst e
 cases r1 with
 | cons r rr =>
  cases rr
  obtain⟨t,rfl⟩:=r
  exact call_range_1 (qN I1 (by omega) (by omega) q1 q2 (by simpa using q))
def DR(wi:TI)(g:TG)(tb:TS):TS:=λD σ H=>wi σ H λJ H1=>∃ W:Nat->Nat->St->Hp->Prop,(∃ m,W 0 m σ H1)/\∀ i m σ H,W i m σ H →
 (J.stop i H/\D.nx σ H)\/(J.go i H/\∃ N:St->Hp->Prop,(∀ σ' H',N σ' H'->∃ m',m'<m/\W (i+1) m' σ' H')/\∀ x H',J.yld i H x H'->g x σ H' λσ2 H2=>tb { D with nx:=N,ct:=N,bk:=D.nx } σ2 H2)
def MG(fp:List Addr)(h:Heap):List (Addr × Obj):=fp.filterMap λb=>(h.get? b).map λo=>(b,o)
theorem N2{fp:List Addr}{h:Heap}{b:Addr}{o:Obj}(hb:b∈fp)(e:h.get? b=some o):(b,o)∈MG fp h:=List.mem_filterMap.mpr ⟨b,hb,by rw[e];rfl⟩
theorem qO{fp:List Addr}{h:Heap}{p:Addr × Obj}(hp:p∈MG fp h):p.1∈fp/\h.get? p.1=some p.2:=by
 obtain⟨b,hb,e⟩:=List.mem_filterMap.mp hp
 cases q:h.get? b with
 | none=>rw[q]at e;cases e
 | some o =>
  rw[q]at e
  have e':(b,o)=p:=Option.some.inj e
  subst e'
  exact⟨hb,q⟩
theorem Inv.pinned{AA:List (Addr × Obj)}{σ:St}{H:Hp}{s:Shared}{fp:List Addr}(I:Inv X AA σ H s)(hf:∀ b∈fp,FpOk X AA H b)(ho:∀ b∈fp,∃ o,s.heap.get? b=some o/\∀ v,o.data≠.cell v):Inv X (AA++MG fp s.heap) σ H s :=
 I.pins_of λp hp=>(List.mem_append.mp hp).elim (λz=>I.pin p (List.mem_append_right _ z)) λz=>by
  obtain⟨hb,e⟩:=qO z
  obtain⟨f0,f1,f2,_⟩:=hf p.1 hb
  obtain⟨o,e',d⟩:=ho p.1 hb
  rw[e]at e';cases e'
  exact⟨e,f0,f1,f2,d⟩
theorem Inv.unpinned{AA pl:List (Addr × Obj)}{σ:St}{H:Hp}{s:Shared}(I:Inv X (AA++pl) σ H s):Inv X AA σ H s:=I.pins_of λp hp=>I.pin p (List.mem_append_right _ (List.mem_append_left _ hp))
theorem EN{iter:Expr}{body:List Stmt}{wi:TI}{g:TG}{tb:TS}{pos:Pos}(hp:PassesOwn (model X.prog X.w) X.A X.env X.xe)(hc:X.calm=true)(hi:PI X tg iter wi)(hg:PG X tg g)(hb:FN X body tb)
  (hs:∀ x,foldedSetIterable iter X.env x=pure x:=by intro _;rfl):PS X (.For tg iter body [] pos) (DR wi g tb):=by
 intro AA s σ H D I h
 refine wpAny_For (AV (hi AA s σ H _ I h) λv s1 h1=>AV h1 λitv s2 h2=> ?_) hs
 obtain⟨it,fp,tn,J,H2,e,I2,T,st2,f2,W,⟨m0,w0⟩,turn⟩:=h2
 subst e
 have stat:∀ {H':Hp},(∀ b∈fp,H' b=none)->∀ b∈fp,FpOk X AA H' b:=λhn b hb=>⟨hn b hb,(f2 b hb).2⟩
 refine codeAny_forLoop_any (λn s'=>∃ i σ' H',Inv X AA σ' H' s'/\tn i s'.heap/\(∀ b∈fp,H' b=none)/\W i n σ' H') ?_ m0 ⟨0,σ,H2,I2,st2,λb hb=>(f2 b hb).1,w0⟩
 rintro n s3 ⟨i,σ3,H3,I3,st3,fr3,w3⟩
 rcases turn i n σ3 H3 w3 with⟨stop,qn⟩ | ⟨go,N,hN,step⟩
 ·refine wpAny_passesOwn hp (AV (T.done X rfl rfl rfl hc i AA s3 σ3 H3 X.xe I3 (stat fr3) st3 stop) λr s4 ⟨hr,I4⟩=> ?_)
  subst hr
  exact wpAny_execs_nil ⟨σ3,H3,I4,qn⟩
 ·refine wpAny_passesOwn hp (AV (T.item X rfl rfl rfl hc i AA s3 σ3 H3 X.xe I3 (stat fr3) st3 go) λr s4 hzz=> ?_)
  obtain⟨u,hr,h4⟩:=hzz
  subst hr
  refine wpAny_passesOwn hp (AV h4 λ_ s5 hzz=> ?_)
  obtain⟨x,H5,I5,r5,y5,st5,fr5⟩:=hzz
  have I5':=I5.pinned (stat fr5) (T.obj _ _ st5)
  refine wpAny_passesOwn hp (AV (hg _ s5 σ3 H5 x u _ I5' r5 (step x H5 y5)) λ_ s6 hzz=> ?_)
  obtain⟨σ6,H6,I6,q6⟩:=hzz
  refine wpAny_passesOwn hp (AV (hb _ s6 σ6 H6 _ I6 q6) λf s7 q7=> ?_)
  have again:∀ {σ7:St} {H7:Hp},Inv X (AA++MG fp s5.heap) σ7 H7 s7->N σ7 H7->∃ m,m<n/\∃ i σ' H',Inv X AA σ' H' s7/\tn i s7.heap/\(∀ b∈fp,H' b=none)/\W i m σ' H':=λ{σ7 H7} I7 n7=>by
   obtain⟨m',hm,w7⟩:=hN σ7 H7 n7
   refine⟨m',hm,i+1,σ7,H7,I7.unpinned,T.keep _ _ _ st5 λb hb o e=>(I7.pin (b,o) (List.mem_append_right _ (List.mem_append_right _ (N2 hb e)))).1,λb hb=> ?_,w7⟩
   obtain⟨o,e,d⟩:=T.obj _ _ st5 b hb
   exact(I7.pin (b,o) (List.mem_append_right _ (List.mem_append_right _ (N2 hb e)))).2.1
  cases f with
  | next=>obtain⟨σ7,H7,I7,n7⟩:=q7;exact again I7 n7
  | cont=>obtain⟨σ7,H7,I7,n7⟩:=q7;exact again I7 n7
  | brk=>obtain⟨σ7,H7,I7,q7⟩:=q7;exact⟨σ7,H7,I7.unpinned,q7⟩
  | ret v=>obtain⟨x7,σ7,H7,I7,r7,q7⟩:=q7;exact⟨x7,σ7,H7,I7.unpinned,r7,q7⟩
end
theorem qP{K:PySem.W.Frag}{a:Addr}{xs:List V}{g:TG}{tb:TS}{D:Ends}{σ:St}{H:Hp}(Pv:Nat->St->Hp->Prop)(h0:Pv 0 σ H)(hl:∀ i σ H,i<=xs.length->Pv i σ H->SqL K H a xs)
  (hs:∀ i x σ H,xs[i]? =some x->Pv i σ H->g x σ H λσ2 H2=>tb { D with nx:=Pv (i+1),ct:=Pv (i+1),bk:=D.nx } σ2 H2) (hd:∀ σ H,Pv xs.length σ H->D.nx σ H) :
  ∃ W:Nat->Nat->St->Hp->Prop,(∃ m,W 0 m σ H)/\∀ i m σ H,W i m σ H →
   ((HV K a).stop i H/\D.nx σ H)\/((HV K a).go i H/\∃ N:St->Hp->Prop,(∀ σ' H',N σ' H'->∃ m',m'<m/\W (i+1) m' σ' H')/\∀ x H',(HV K a).yld i H x H'->g x σ H' λσ2 H2=>tb { D with nx:=N,ct:=N,bk:=D.nx } σ2 H2):=by
 refine⟨λi m σ H=>m=xs.length - i/\i<=xs.length/\Pv i σ H,⟨xs.length,by simp,Nat.zero_le _,h0⟩,?_⟩
 rintro i m σ H ⟨rfl,hi,p⟩
 have q:=hl i σ H hi p
 by_cases BI:i<xs.length
 ·refine .inr ⟨⟨xs,xs[i],q,by simp[BI]⟩,Pv (i+1),λσ' H' p'=>⟨xs.length - (i+1),by omega,rfl,BI,p'⟩,λx H' y=> ?_⟩
  obtain⟨e,y⟩:=y
  subst e
  exact hs i x σ _ (y xs q) p
 ·have e:i=xs.length:=by omega
  subst e
  exact .inl ⟨⟨xs,q,Nat.le_refl _⟩,hd σ H p⟩
theorem qQ{K:PySem.W.Frag}{a:Addr}{xs:List V}{g:TG}{tb:TS}{D:Ends}{σ:St}{H:Hp}(Pv:Nat->St->Hp->Prop)(h0:Pv 0 σ H)(hl:∀ i σ H,i<=xs.length->Pv i σ H->SqT K H a xs)
  (hs:∀ i x σ H,xs[i]? =some x->Pv i σ H->g x σ H λσ2 H2=>tb { D with nx:=Pv (i+1),ct:=Pv (i+1),bk:=D.nx } σ2 H2) (hd:∀ σ H,Pv xs.length σ H->D.nx σ H) :
  ∃ W:Nat->Nat->St->Hp->Prop,(∃ m,W 0 m σ H)/\∀ i m σ H,W i m σ H →
   ((HW K a).stop i H/\D.nx σ H)\/((HW K a).go i H/\∃ N:St->Hp->Prop,(∀ σ' H',N σ' H'->∃ m',m'<m/\W (i+1) m' σ' H')/\∀ x H',(HW K a).yld i H x H'->g x σ H' λσ2 H2=>tb { D with nx:=N,ct:=N,bk:=D.nx } σ2 H2):=by
 refine⟨λi m σ H=>m=xs.length - i/\i<=xs.length/\Pv i σ H,⟨xs.length,by simp,Nat.zero_le _,h0⟩,?_⟩
 rintro i m σ H ⟨rfl,hi,p⟩
 have q:=hl i σ H hi p
 by_cases BI:i<xs.length
 ·refine .inr ⟨⟨xs,xs[i],q,by simp[BI]⟩,Pv (i+1),λσ' H' p'=>⟨xs.length - (i+1),by omega,rfl,BI,p'⟩,λx H' y=> ?_⟩
  obtain⟨e,y⟩:=y
  subst e
  exact hs i x σ _ (y xs q) p
 ·have e:i=xs.length:=by omega
  subst e
  exact .inl ⟨⟨xs,q,Nat.le_refl _⟩,hd σ H p⟩
theorem qR{lo:Int}{n:Nat}{g:TG}{tb:TS}{D:Ends}{σ:St}{H:Hp}(Pv:Nat->St->Hp->Prop)(h0:Pv 0 σ H)
  (hs:∀ i σ H,i<n->Pv i σ H->g (.int (lo+i)) σ H λσ2 H2=>tb { D with nx:=Pv (i+1),ct:=Pv (i+1),bk:=D.nx } σ2 H2) (hd:∀ σ H,Pv n σ H->D.nx σ H) :
  ∃ W:Nat->Nat->St->Hp->Prop,(∃ m,W 0 m σ H)/\∀ i m σ H,W i m σ H →
   ((GP lo n).stop i H/\D.nx σ H)\/((GP lo n).go i H/\∃ N:St->Hp->Prop,(∀ σ' H',N σ' H'->∃ m',m'<m/\W (i+1) m' σ' H')/\∀ x H',(GP lo n).yld i H x H'->g x σ H' λσ2 H2=>tb { D with nx:=N,ct:=N,bk:=D.nx } σ2 H2):=by
 refine⟨λi m σ H=>m=n - i/\i<=n/\Pv i σ H,⟨n,by simp,Nat.zero_le _,h0⟩,?_⟩
 rintro i m σ H ⟨rfl,hi,p⟩
 by_cases BI:i<n
 ·refine .inr ⟨BI,Pv (i+1),λσ' H' p'=>⟨n - (i+1),by omega,rfl,BI,p'⟩,λx H' y=> ?_⟩
  obtain⟨e,y⟩:=y
  subst e y
  exact hs i σ _ BI p
 ·have e:i=n:=by omega
  subst e
  exact .inl ⟨Nat.le_refl _,hd σ H p⟩
end L2
namespace L2
abbrev R2:=V->V->Hp->VK->Prop
def B1(X:Cx)(f:Value->Value->Sem Value)(r:R2):Prop :=
 ∀ (AA:List (Addr × Obj)) (s:Shared) (σ:St) (H:Hp) (x y:V) (v u:Value) (Q:VK),Inv X AA σ H s->RelV x v->RelV y u->r x y H Q →
  wpAny (model X.prog X.w) X.A (f v u) (EP X AA σ Q) X.xe s
def RH(X:Cx)(f:Value->Sem Value)(r:V->Hp->VK->Prop):Prop :=
 ∀ (AA:List (Addr × Obj)) (s:Shared) (σ:St) (H:Hp) (x:V) (v:Value) (Q:VK),Inv X AA σ H s->RelV x v->r x H Q →
  wpAny (model X.prog X.w) X.A (f v) (EP X AA σ Q) X.xe s
def E8(X:Cx)(f:Value)(r:List V->Hp->VK->Prop):Prop :=
 ∀ (AA:List (Addr × Obj)) (s:Shared) (σ:St) (H:Hp) (xs:List V) (us:List Value) (Q:VK),Inv X AA σ H s->Vals xs us->r xs H Q →
  wpAny (model X.prog X.w) X.A (call f us) (EP X AA σ Q) X.xe s
def qS(X:Cx)(r:V->Hp->(Bool->Hp->Prop)->Prop):Prop :=
 ∀ (AA:List (Addr × Obj)) (s:Shared) (σ:St) (H:Hp) (x:V) (v:Value) (Q:Bool->Hp->Prop),Inv X AA σ H s->RelV x v->r x H Q →
  wpAny (model X.prog X.w) X.A (truthy v) (TP X AA σ Q) X.xe s
def AG(r:R2)(ta tb:TE):TE:=λσ H Q=>ta σ H λx H1=>tb σ H1 λy H2=>r x y H2 Q
def N3(r:V->Hp->VK->Prop)(ta:TE):TE:=λσ H Q=>ta σ H λx H1=>r x H1 Q
def rI(C:Int->Int->Prop)(g:Int->Int->V):R2:=λx y H Q=>∃ i j,x=.int i/\y=.int j/\C i j/\Q (g i j) H
def G9(g:Int->Int->V):R2:=λx y H Q=>∃ i j,x=.int i/\y=.int j/\Q (g i j) H
def rU(g:Int->V):V->Hp->VK->Prop:=λx H Q=>∃ i,x=.int i/\Q (g i) H
section
variable{X:Cx}{a b c:Expr}{ta tb tc:TE}{pos:Pos}
theorem RI(ha:PE X a ta)(hb:PE X b tb){AA:List (Addr × Obj)}{s:Shared}{σ:St}{H:Hp}{R:V->V->Hp->Prop}(I:Inv X AA σ H s)
  (h:ta σ H λx H1=>tb σ H1 λy H2=>R x y H2) {Q:Value->Shared->Prop} {f:Value->Value->Sem Value}
  (hf:∀ v u s2 x y H2,Inv X AA σ H2 s2->RelV x v->RelV y u->R x y H2->wpAny (model X.prog X.w) X.A (f v u) Q X.xe s2) :
  wpAny (model X.prog X.w) X.A (eval a X.env) (λv s₁=>wpAny (model X.prog X.w) X.A (eval b X.env) (λu s₂=>wpAny (model X.prog X.w) X.A (f v u) Q X.xe s₂) X.xe s₁) X.xe s:=by
 refine AV (ha AA s σ H _ I h) λv s1 hzz=> ?_
 obtain⟨x,H1,I1,r1,q1⟩:=hzz
 refine AV (hb AA s1 σ H1 _ I1 q1) λu s2 hzz=> ?_
 obtain⟨y,H2,I2,r2,q2⟩:=hzz
 exact hf v u s2 x y H2 I2 r1 r2 q2
theorem AW{op:Operator}{r:R2}(ho:B1 X (binaryOp op) r)(ha:PE X a ta)(hb:PE X b tb):PE X (.BinOp a op b pos) (AG r ta tb):=by
 intro AA s σ H Q I h
 exact wpAny_BinOp (RI ha hb I h λv u s2 x y H2 I2 rx ry q=>ho AA s2 σ H2 x y v u Q I2 rx ry q)
theorem Z3{op:UnaryOp}{r:V->Hp->VK->Prop}(ho:RH X (unaryOp op) r)(ha:PE X a ta):PE X (.UnaryOp op a pos) (N3 r ta):=by
 intro AA s σ H Q I h
 exact UnaryOp_ (AV (ha AA s σ H _ I h) λv s1 ⟨x,H1,I1,r1,q1⟩=>ho AA s1 σ H1 x v Q I1 r1 q1)
theorem RJ{f:Value->Value->Sem Value}{C:Int->Int->Prop}{g:Int->Int->Int}
  (rule:∀ (i j:Int) (t u:Tok) (s:Shared) (Q:Value->Shared->Prop) (E:Value->Shared->Prop),C i j->Q (.int (g i j) s.toks) { s with toks:=s.toks+1 }->wpAny (model X.prog X.w) X.A (f (.int i t) (.int j u)) Q E s) :
  B1 X f (rI C λi j=>.int (g i j)):=by
 intro AA s σ H x y v u Q I rx ry h
 obtain⟨i,j,rfl,rfl,hc,q⟩:=h
 obtain⟨t,rfl⟩:=rx
 obtain⟨t',rfl⟩:=ry
 exact rule i j t t' s _ _ hc ⟨.int (g i j),H,I.tok _,⟨_,rfl⟩,q⟩
theorem Z4{f:Value->Value->Sem Value}{g:Int->Int->Int}
  (rule:∀ (i j:Int) (t u:Tok) (s:Shared) (Q:Value->Shared->Prop) (E:Value->Shared->Prop),Q (.int (g i j) s.toks) { s with toks:=s.toks+1 }->wpAny (model X.prog X.w) X.A (f (.int i t) (.int j u)) Q E s) :
  B1 X f (G9 λi j=>.int (g i j)):=by
 intro AA s σ H x y v u Q I rx ry h
 obtain⟨i,j,rfl,rfl,q⟩:=h
 obtain⟨t,rfl⟩:=rx
 obtain⟨t',rfl⟩:=ry
 exact rule i j t t' s _ _ ⟨.int (g i j),H,I.tok _,⟨_,rfl⟩,q⟩
theorem RK{f:Value->Value->Sem Value}{g:Int->Int->Bool}
  (rule:∀ (i j:Int) (t u:Tok) (s:Shared) (Q:Value->Shared->Prop) (E:Value->Shared->Prop),Q (.bool (g i j)) s->wpAny (model X.prog X.w) X.A (f (.int i t) (.int j u)) Q E s) :
  B1 X f (G9 λi j=>.bl (g i j)):=by
 intro AA s σ H x y v u Q I rx ry h
 obtain⟨i,j,rfl,rfl,q⟩:=h
 obtain⟨t,rfl⟩:=rx
 obtain⟨t',rfl⟩:=ry
 exact rule i j t t' s _ _ ⟨.bl (g i j),H,I,rfl,q⟩
def Z5(i j:Int):Prop:=0<j/\j<1073741824
def qT(i j:Int):Prop:=0<=j/\j<=1000000/\i.natAbs<2 ^ 64
def CMul(i j:Int):Prop:=(-(2 ^ 64)<i/\i<2 ^ 64)\/(-(2 ^ 64)<j/\j<2 ^ 64)
theorem CMul.ok{i j:Int}(h:CMul i j):IntMulOk i j:=by
 rcases h with⟨h1,h2⟩ | ⟨h1,h2⟩
 ·exact .of_left (intBits_le_64 h1 h2)
 ·exact .of_right (intBits_le_64 h1 h2)
theorem qU:B1 X (binaryOp .Add) (G9 λi j=>.int (i+j)):=Z4 λ_ _ _ _ _ _ _ q=>add_int q
theorem RL:B1 X (binaryOp .Sub) (G9 λi j=>.int (i - j)):=Z4 λ_ _ _ _ _ _ _ q=>sub_int q
theorem qV:B1 X (binaryOp .Mult) (rI CMul λi j=>.int (i * j)):=RJ λ_ _ _ _ _ _ _ hc q=>mul_int q hc.ok
theorem DB:B1 X (binaryOp .FloorDiv) (rI Z5 λi j=>.int (i / j)):=RJ λi j _ _ _ _ _ hc q=>by
 have h1:(0:Int)<j:=hc.1
 have h2:j<1073741824:=hc.2
 exact floordiv_int (by omega) (by rw[Int.fdiv_eq_ediv_of_nonneg i (by omega)];exact q) (.inl (PyProof.noPylong_small (by omega)))
theorem C1:B1 X (binaryOp .Mod) (rI (λ_ j=>0<j) λi j=>.int (i % j)):=RJ λi j _ _ _ _ _ hc q=>by
 have h1:(0:Int)<j:=hc
 exact mod_int' (by omega) (by rw[Int.fmod_eq_emod_of_nonneg i (by omega)];exact q)
theorem qW{f:Value->Sem Value}{g:Int->Int}
  (rule:∀ (i:Int) (t:Tok) (s:Shared) (Q:Value->Shared->Prop) (E:Value->Shared->Prop),Q (.int (g i) s.toks) { s with toks:=s.toks+1 }->wpAny (model X.prog X.w) X.A (f (.int i t)) Q E s) :
  RH X f (rU λi=>.int (g i)):=by
 intro AA s σ H x v Q I rx h
 obtain⟨i,rfl,q⟩:=h
 obtain⟨t,rfl⟩:=rx
 exact rule i t s _ _ ⟨.int (g i),H,I.tok _,⟨_,rfl⟩,q⟩
theorem Z6:RH X (unaryOp .USub) (rU λi=>.int (-i)):=qW λ_ _ _ _ _ q=>neg_int q
end
def JZ:V->V->Bool
 | .non,.non=>true | .non,.int _=>true | .int _,.non=>true | .non,.bl _=>true | .bl _,.non=>true | .non,.str _=>true | .str _,.non=>true
 | .int _,.int _=>true | .bl _,.bl _=>true | .str _,.str _=>true | .byt _,.byt _=>true
 | .int _,.str _=>true | .str _,.int _=>true | .bl _,.str _=>true | .str _,.bl _=>true
 | _,_=>false
def qX:R2:=λx y H Q=>JZ x y=true/\Q (.bl (decide (x=y))) H
def qY:R2:=λx y H Q=>JZ x y=true/\Q (.bl (!decide (x=y))) H
theorem Z7{i j:Int}:decide (V.int i=V.int j)=(i == j):=by
 rw[Bool.eq_iff_iff]
 simp
theorem Z8{i j:Bool}:decide (V.bl i=V.bl j)=(i == j):=by
 rw[Bool.eq_iff_iff]
 simp
theorem Z9{i j:Str}:decide (V.str i=V.str j)=(i == j):=by
 rw[Bool.eq_iff_iff]
 simp
theorem aA{i j:Array UInt8}:decide (V.byt i=V.byt j)=(i.toList == j.toList):=by
 rw[Bool.eq_iff_iff]
 cases i
 cases j
 simp
section
variable{X:Cx}{a b c:Expr}{ta tb tc:TE}{pos:Pos}
theorem CO{AA:List (Addr × Obj)}{σ:St}{H:Hp}{s:Shared}{Q:VK}{k k':Bool}(I:Inv X AA σ H s)(q:Q (.bl k) H)(e:k=k'):EP X AA σ Q (.bool k') s:=by
 subst e
 exact⟨.bl k,H,I,rfl,q⟩
theorem qZ:B1 X (compareOp .Eq) qX:=by
 intro AA s σ H x y v u Q I rx ry h
 obtain⟨hs,q⟩:=h
 cases x with
 | non =>
  cases rx
  cases y with
  | non=>cases ry;exact PySem.EqNone.eq_none_none (CO I q (by simp))
  | bl j=>cases ry;exact PySem.EqNone.eq_none_bool (CO I q (by simp))
  | int j=>obtain⟨t',rfl⟩:=ry;exact PySem.EqNone.eq_none_int (CO I q (by simp))
  | str j=>obtain⟨t',rfl⟩:=ry;exact PySem.EqNone.eq_none_str (CO I q (by simp))
  | _=>exact absurd (show false=true from hs) Bool.false_ne_true
 | bl i =>
  cases rx
  cases y with
  | non=>cases ry;exact PySem.EqNone.eq_bool_none (CO I q (by simp))
  | bl j=>cases ry;exact eq_bool (CO I q Z8)
  | str j=>obtain⟨t',rfl⟩:=ry;exact PySem.EqMixed.eq_bool_str (CO I q (by simp))
  | _=>exact absurd (show false=true from hs) Bool.false_ne_true
 | int i =>
  obtain⟨t,rfl⟩:=rx
  cases y with
  | non=>cases ry;exact PySem.EqNone.eq_int_none (CO I q (by simp))
  | int j=>obtain⟨t',rfl⟩:=ry;exact eq_int (CO I q Z7)
  | str j=>obtain⟨t',rfl⟩:=ry;exact PySem.EqMixed.eq_int_str (CO I q (by simp))
  | _=>exact absurd (show false=true from hs) Bool.false_ne_true
 | str i =>
  obtain⟨t,rfl⟩:=rx
  cases y with
  | non=>cases ry;exact PySem.EqNone.eq_str_none (CO I q (by simp))
  | bl j=>cases ry;exact PySem.EqMixed.eq_str_bool (CO I q (by simp))
  | int j=>obtain⟨t',rfl⟩:=ry;exact PySem.EqMixed.eq_str_int (CO I q (by simp))
  | str j=>obtain⟨t',rfl⟩:=ry;exact eq_str (CO I q Z9)
  | _=>exact absurd (show false=true from hs) Bool.false_ne_true
 | byt i =>
  obtain⟨t,rfl⟩:=rx
  cases y with
  | byt j=>obtain⟨t',rfl⟩:=ry;exact W.eq_bytes (CO I q aA)
  | _=>exact absurd (show false=true from hs) Bool.false_ne_true
 | _=>cases y<;>exact absurd (show false=true from hs) Bool.false_ne_true
theorem rA:B1 X (compareOp .NotEq) qY:=by
 intro AA s σ H x y v u Q I rx ry h
 obtain⟨hs,q⟩:=h
 cases x with
 | non =>
  cases rx
  cases y with
  | non=>cases ry;exact PySem.EqNone.ne_none_none (CO I q (by simp))
  | bl j=>cases ry;exact PySem.EqNone.ne_none_bool (CO I q (by simp))
  | int j=>obtain⟨t',rfl⟩:=ry;exact PySem.EqNone.ne_none_int (CO I q (by simp))
  | str j=>obtain⟨t',rfl⟩:=ry;exact PySem.EqNone.ne_none_str (CO I q (by simp))
  | _=>exact absurd (show false=true from hs) Bool.false_ne_true
 | bl i =>
  cases rx
  cases y with
  | non=>cases ry;exact PySem.EqNone.ne_bool_none (CO I q (by simp))
  | bl j=>cases ry;exact ne_bool (CO I q (congrArg not Z8))
  | str j=>obtain⟨t',rfl⟩:=ry;exact PySem.EqMixed.ne_bool_str (CO I q (by simp))
  | _=>exact absurd (show false=true from hs) Bool.false_ne_true
 | int i =>
  obtain⟨t,rfl⟩:=rx
  cases y with
  | non=>cases ry;exact PySem.EqNone.ne_int_none (CO I q (by simp))
  | int j=>obtain⟨t',rfl⟩:=ry;exact ne_int (CO I q (congrArg not Z7))
  | str j=>obtain⟨t',rfl⟩:=ry;exact PySem.EqMixed.ne_int_str (CO I q (by simp))
  | _=>exact absurd (show false=true from hs) Bool.false_ne_true
 | str i =>
  obtain⟨t,rfl⟩:=rx
  cases y with
  | non=>cases ry;exact PySem.EqNone.ne_str_none (CO I q (by simp))
  | bl j=>cases ry;exact PySem.EqMixed.ne_str_bool (CO I q (by simp))
  | int j=>obtain⟨t',rfl⟩:=ry;exact PySem.EqMixed.ne_str_int (CO I q (by simp))
  | str j=>obtain⟨t',rfl⟩:=ry;exact ne_str (CO I q (congrArg not Z9))
  | _=>exact absurd (show false=true from hs) Bool.false_ne_true
 | byt i =>
  obtain⟨t,rfl⟩:=rx
  cases y with
  | byt j=>obtain⟨t',rfl⟩:=ry;exact W.ne_bytes (CO I q (congrArg not aA))
  | _=>exact absurd (show false=true from hs) Bool.false_ne_true
 | _=>cases y<;>exact absurd (show false=true from hs) Bool.false_ne_true
theorem rB:B1 X (compareOp .Lt) (G9 λi j=>.bl (decide (i<j))):=RK λ_ _ _ _ _ _ _ q=>lt_int q
theorem rC:B1 X (compareOp .LtE) (G9 λi j=>.bl (decide (i<=j))):=RK λ_ _ _ _ _ _ _ q=>le_int q
theorem rD:B1 X (compareOp .Gt) (G9 λi j=>.bl (decide (j<i))):=RK λ_ _ _ _ _ _ _ q=>gt_int q
theorem MH:B1 X (compareOp .Is) (λx y H Q=>y=.non/\Q (.bl (decide (x=.non))) H):=by
 intro AA s σ H x y v u Q I rx ry h
 obtain⟨rfl,q⟩:=h
 cases ry
 refine is_none_gen (CO I q ?_)
 cases x<;>first
  | (cases rx;rfl)
  | (obtain⟨t,rfl⟩:=rx;rfl)
theorem N4:B1 X (compareOp .IsNot) (λx y H Q=>y=.non/\Q (.bl (!decide (x=.non))) H):=by
 intro AA s σ H x y v u Q I rx ry h
 obtain⟨rfl,q⟩:=h
 cases ry
 refine isnot_none_gen (CO I q ?_)
 cases x<;>first
  | (cases rx;rfl)
  | (obtain⟨t,rfl⟩:=rx;rfl)
theorem DC(b:Expr){op:CmpOp}(h:op≠.In:=by decide)(h2:op≠.NotIn:=by decide):behindInMarks op b=false:=by
 have e1:(op == CmpOp.In)=false:=by cases op<;>first | rfl | exact absurd rfl h
 have e2:(op == CmpOp.NotIn)=false:=by cases op<;>first | rfl | exact absurd rfl h2
 cases b<;>simp[behindInMarks,e1,e2]
theorem rE{op:CmpOp}{r:R2}(ho:B1 X (compareOp op) r)(ha:PE X a ta)(hb:PE X b tb)(hm:behindInMarks op b=false):PE X (.Compare a [op] [b] pos) (AG r ta tb):=by
 intro AA s σ H Q I h
 exact wpAny_Compare1 (RI ha hb I h λv u s2 x y H2 I2 rx ry q=>ho AA s2 σ H2 x y v u Q I2 rx ry q) hm
def CJ(t:TE):TT:=λσ H Q=>t σ H λx H'=>∃ k,x=.bl k/\Q k H'
theorem DD{op:CmpOp}{r:R2}(ho:B1 X (compareOp op) r)(ha:PE X a ta)(hb:PE X b tb)(hm:behindInMarks op b=false):PT X (.Compare a [op] [b] pos) (CJ (AG r ta tb)):=by
 intro AA s σ H Q I h
 refine wpAny_isTrue_Compare1 (AV (ha AA s σ H _ I h) λv s1 ⟨x,H1,I1,r1,q1⟩=>AV (hb AA s1 σ H1 _ I1 q1) λu s2 ⟨y,H2,I2,r2,q2⟩ =>
  AV (ho AA s2 σ H2 x y v u _ I2 r1 r2 q2) λc s3 ⟨z,H3,I3,r3,k,e,q3⟩=> ?_) hm
 subst e
 cases r3
 exact wpAny_truthy_bool ⟨H3,I3,q3⟩
def F7(r r':R2)(ta tb tc:TE):TE:=λσ H Q=>ta σ H λx H1=>tb σ H1 λy H2=>r x y H2 λz H3=>∃ k,z=.bl k ∧
 (if k=true then tc σ H3 λw' H4=>r' y w' H4 Q else Q (.bl false) H3)
theorem N5{op op':CmpOp}{r r':R2}(ho:B1 X (compareOp op) r)(ho':B1 X (compareOp op') r')(ha:PE X a ta)(hb:PE X b tb)(hc:PE X c tc)
  (hm:lastMarks [op,op'] [b,c]=false:=by with_unfolding_all rfl):PE X (.Compare a [op,op'] [b,c] pos) (F7 r r' ta tb tc):=by
 intro AA s σ H Q I h
 refine Compare_chain (AV (ha AA s σ H _ I h) λv s1 ⟨x,H1,I1,r1,q1⟩=>chain_link (AV (hb AA s1 σ H1 _ I1 q1) λu s2 ⟨y,H2,I2,r2,q2⟩ =>
  AV (ho AA s2 σ H2 x y v u _ I2 r1 r2 q2) λd s3 ⟨z,H3,I3,r3,k,e,q3⟩=> ?_)) hm
 subst e
 cases r3
 refine wpAny_truthy_bool ?_
 cases k with
 | false=>exact ite_ff ⟨.bl false,H3,I3,rfl,q3⟩
 | true=>exact ite_tt (chain_last (AV (hc AA s3 σ H3 _ I3 q3) λw' s4 ⟨z',H4,I4,r4,q4⟩=>ho' AA s4 σ H4 y z' u w' Q I4 r2 r4 q4))
theorem MI{op op':CmpOp}{r r':R2}(ho:B1 X (compareOp op) r)(ho':B1 X (compareOp op') r')(ha:PE X a ta)(hb:PE X b tb)(hc:PE X c tc)
  (hm:lastMarks [op,op'] [b,c]=false:=by with_unfolding_all rfl):PT X (.Compare a [op,op'] [b,c] pos) (CJ (F7 r r' ta tb tc)):=by
 intro AA s σ H Q I h
 refine isTrue_chain (AV (ha AA s σ H _ I h) λv s1 ⟨x,H1,I1,r1,q1⟩=>test_link (AV (hb AA s1 σ H1 _ I1 q1) λu s2 ⟨y,H2,I2,r2,q2⟩ =>
  AV (ho AA s2 σ H2 x y v u _ I2 r1 r2 q2) λd s3 ⟨z,H3,I3,r3,k,e,q3⟩=> ?_)) hm
 subst e
 cases r3
 refine wpAny_truthy_bool ?_
 cases k with
 | false =>
  obtain⟨k',e',q'⟩:=q3
  cases e'
  exact ite_ff ⟨H3,I3,q'⟩
 | true =>
  refine ite_tt (test_last (AV (hc AA s3 σ H3 _ I3 q3) λw' s4 ⟨z',H4,I4,r4,q4⟩=>AV (ho' AA s4 σ H4 y z' u w' _ I4 r2 r4 q4) λd' s5 hzz=> ?_))
  obtain⟨z2,H5,I5,r5,k2,e2,q5⟩:=hzz
  subst e2
  cases r5
  exact wpAny_truthy_bool ⟨H5,I5,q5⟩
def KQ(K:W.Frag)(x:V)(H:Hp)(k:Bool):Prop :=
 match x with
 | .non=>k=false
 | .bl b=>k=b
 | .int i=>k=(i != 0)
 | .str y=>y.length<=sizeLine/\k=((y.length:Int) != 0)
 | .byt y=>y.size<=sizeLine/\k=((y.size:Int) != 0)
 | .ref p=>(∃ xs,SqL K H p xs/\k= !xs.isEmpty)\/(∃ xs,SqT K H p xs/\k= !xs.isEmpty)\/∃ AD,H p=some (.dK AD)/\k= !AD.isEmpty
 | _=>False
theorem rF{κ :Type}{AD:List (κ × V)}{vs:List (κ × Value)}(r:KV AD vs):(!vs.isEmpty)= !AD.isEmpty:=by
 cases r<;>rfl
theorem aB{xs:List V}{its:List Value}(r:Vals xs its):(!its.toArray.isEmpty)= !xs.isEmpty:=by
 cases r<;>simp
theorem KR:(sizeLine:Nat)<2 ^ 63:=by rw[sizeLine_eq];decide
theorem rG:qS X (λx H Q=>∃ k,KQ X.K x H k/\Q k H):=by
 intro AA s σ H x v Q I rx h
 obtain⟨k,e,q⟩:=h
 have hl:=KR
 have hs:sizeLine=16777216:=sizeLine_eq
 cases x with
 | non =>
  cases rx
  have e':k=false:=e
  subst e'
  exact truthy_none ⟨H,I,q⟩
 | bl b =>
  cases rx
  have e':k=b:=e
  subst e'
  exact wpAny_truthy_bool ⟨H,I,q⟩
 | int i =>
  obtain⟨t,rfl⟩:=rx
  have e':k=(i != 0):=e
  subst e'
  exact PySem.P.truthy_int ⟨H,I,q⟩
 | str y =>
  obtain⟨t,rfl⟩:=rx
  obtain⟨hy,e'⟩:y.length<=sizeLine/\k=((y.length:Int) != 0):=e
  subst e'
  exact PySem.P.truthy_str (by omega) ⟨H,I.tok _,q⟩
 | byt y =>
  obtain⟨t,rfl⟩:=rx
  obtain⟨hy,e'⟩:y.size<=sizeLine/\k=((y.size:Int) != 0):=e
  subst e'
  exact W.truthy_bytes (by omega) ⟨H,I.tok _,q⟩
 | ref p =>
  cases rx
  have e':(∃ xs,SqL X.K H p xs/\k= !xs.isEmpty)\/(∃ xs,SqT X.K H p xs/\k= !xs.isEmpty)\/∃ AD,H p=some (.dK AD)/\k= !AD.isEmpty:=e
  rcases e' with⟨xs,hx,e'⟩ | ⟨xs,hx,e'⟩ | ⟨AD,hx,e'⟩
  ·subst e'
   obtain⟨its,r,pl,hz⟩:=I.list hx
   have BT:=r.length
   exact wpAny_truthy_list pl.isList (by simp only[List.size_toArray];omega) ⟨H,I.tok _,by rw[aB r];exact q⟩
  ·subst e'
   obtain⟨its,r,pl,hz⟩:=I.tuple hx
   have BT:=r.length
   exact truthy_tuple pl (by simp only[List.size_toArray];omega) ⟨H,I.tok _,by rw[aB r];exact q⟩
  ·subst e'
   obtain⟨hz,hS,vs,r,m⟩:AD.length<=sizeLine/\(p == sysModules)=false/\∃ vs,KV AD vs/\s.heap.DictOf (D4 X.prog X.w) p vs:=I.hok p _ hx
   have BT:AD.length=vs.length:=Paired.length r
   exact wpAny_truthy_dict hS m (by omega) ⟨H,I.tok _,by rw[rF r];exact q⟩
 | _=>exact(show False from e).elim
theorem J0(ha:PE X a ta)(he:∀ whole,isTrue a X.env whole=(do let v ← whole;standAt a.pos;holding [v] (truthy v))) :
  PT X a (λσ H Q=>ta σ H λx H'=>∃ k,KQ X.K x H' k/\Q k H'):=by
 intro AA s σ H Q I h
 exact isTrue_plain (AV (ha AA s σ H _ I h) λv s1 ⟨x,H1,I1,r1,q1⟩=>rG AA s1 σ H1 x v Q I1 r1 q1) (he _)
theorem rH:B1 X (binaryOp .Add) (λx y H Q=>∃ i j,x=.str i/\y=.str j/\i.length+j.length<=sizeLine/\Q (.str (i++j)) H):=by
 intro AA s σ H x y v u Q I rx ry h
 obtain⟨i,j,rfl,rfl,hz,q⟩:=h
 obtain⟨t,rfl⟩:=rx
 obtain⟨t',rfl⟩:=ry
 exact add_str (λt' tk=>⟨.str (i++j),H,I.tok _,⟨_,rfl⟩,q⟩) hz
theorem HX{x:V}{us:List Value}(r:Vals [x] us):∃ u,us=[u]/\RelV x u:=by
 cases r with
 | cons r1 r2=>cases r2;exact⟨_,rfl,r1⟩
theorem rJ:E8 X (.builtin "ord") (λxs H Q=>∃ x,xs=[.str x]/\x.length=1/\Q (.int (x.cps.getD 0 0:Nat)) H):=by
 intro AA s σ H xs us Q I r h
 obtain⟨x,rfl,hz,q⟩:=h
 obtain⟨u,rfl,t,rfl⟩:=HX r
 exact ord_of_one hz ⟨.int _,H,I.tok _,⟨_,rfl⟩,q⟩
def RM(K:W.Frag)(x:V)(H:Hp)(n:Nat):Prop :=
 match x with
 | .str y=>y.length<=sizeLine/\n=y.length
 | .byt y=>y.size<=sizeLine/\n=y.size
 | .ref p=>(∃ xs,SqL K H p xs/\n=xs.length)\/∃ xs,SqT K H p xs/\n=xs.length
 | _=>False
theorem rK:E8 X (.builtin "len") (λxs H Q=>∃ x n,xs=[x]/\RM X.K x H n/\Q (.int n) H):=by
 intro AA s σ H xs us Q I r h
 obtain⟨x,n,rfl,e,q⟩:=h
 obtain⟨u,rfl,rx⟩:=HX r
 have hl:=KR
 have hs:sizeLine=16777216:=sizeLine_eq
 cases x with
 | str y =>
  obtain⟨t,rfl⟩:=rx
  obtain⟨hy,e'⟩:y.length<=sizeLine/\n=y.length:=e
  subst e'
  exact len_str (by omega) ⟨.int _,H,I.tok _,⟨_,rfl⟩,q⟩
 | byt y =>
  obtain⟨t,rfl⟩:=rx
  obtain⟨hy,e'⟩:y.size<=sizeLine/\n=y.size:=e
  subst e'
  exact W.len_bytes (by omega) ⟨.int _,H,I.tok _,⟨_,rfl⟩,q⟩
 | ref p =>
  cases rx
  have e':(∃ xs,SqL X.K H p xs/\n=xs.length)\/∃ xs,SqT X.K H p xs/\n=xs.length:=e
  rcases e' with⟨xs,hx,e'⟩ | ⟨xs,hx,e'⟩
  ·subst e'
   obtain⟨its,r',pl,hz⟩:=I.list hx
   have BT:=r'.length
   exact Calls.call_len_list pl.isList (by simp only[List.size_toArray];omega) ⟨.int xs.length,H,I.tok _,⟨_,by simp only[List.size_toArray];rw[BT]⟩,q⟩
  ·subst e'
   obtain⟨its,r',pl,hz⟩:=I.tuple hx
   have BT:=r'.length
   exact len_tuple pl (by simp only[List.size_toArray];omega) ⟨.int xs.length,H,I.tok _,⟨_,by simp only[List.size_toArray];rw[BT]⟩,q⟩
 | _=>exact(show False from e).elim
end
end L2
namespace L2
structure ObjM(h:Heap)(x dx C:Addr)(mA:Str->Option Value):Prop where
 obj:h.get? x=some (W.instObj C dx)
 ns:h.Ns1 dx mA
 ne:dx≠x
theorem rM{h:Heap}{dx:Addr}{mA:Str->Option Value}(n:h.Ns1 dx mA):∃ od,h.get? dx=some od/\∀ name,W.lookIn name od=some (mA name):=by
 obtain⟨o,es,ep,ho,hd,hk,_,hm⟩:=n
 refine⟨o,ho,λname=> ?_⟩
 have e:=hm name
 unfold nsFind findBy at e
 rw[<-Array.find?_toList]at e
 unfold W.lookIn
 rw[hd]
 dsimp only
 split
 ·rename_i y q
  rw[q]at e
  exact congrArg some e
 ·rename_i q
  rw[q]at e
  have a:es.toList.any (·.refKey)=false:=by
   rw[List.any_eq_false]
   intro y hy
   obtain⟨z,t,hkey⟩:=hk y (Array.mem_toList_iff.mp hy)
   simp[DictEntry.refKey,hkey]
  have a':¬ es.toList.any (·.refKey)=true:=by rw[a];exact Bool.false_ne_true
  rw[if_neg a']
  exact congrArg some e
theorem ObjM.look{h:Heap}{x dx C:Addr}{mA:Str->Option Value}(I:ObjM h x dx C mA):∃ od,W.InstAt h x (W.instObj C dx) C (some od)/\∀ name,W.lookIn name od=some (mA name) :=
 let ⟨od,ho,hl⟩:=rM I.ns
 ⟨od,⟨I.obj,rfl,rfl,ho⟩,hl⟩
section
variable{prog:Program}{w:World}{A:Around}{E:Value->Shared->Prop}{s:Shared}{K:W.Frag}{x dx C f:Addr}{mA:Str->Option Value}{name:Str}{v:Value}
theorem rN{expr:Bool}{Q:Value->Shared->Prop}(X:K.In s.heap)(I:ObjM s.heap x dx C mA)(hg:W.plainGet K C name=true)(hh:W.hasDictIn K C=true)
  (ha:W.findIn K (.ref C) name=some none) (hv:mA name=some v) (hv':W.handedIn v=true) (h:Q v { s with toks:=s.toks+1 }) :
  wpAny (model prog w) A (getAttr (.ref x) name expr) Q E s:=by
 obtain⟨od,J,hl⟩:=I.look
 exact W.get_value X J (W.plainGet_of hg).1 (W.findObj_own hh ha rfl (by rw[hl,hv])) hv' h
theorem rO{pl:Sem Bool}{Q:Value × List Value->Shared->Prop}(X:K.In s.heap)(I:ObjM s.heap x dx C mA)(hg:W.plainGet K C name=true)
  (hf:W.findIn K (.ref C) name=some (some (.ref f))) (ht:W.isFn K (.ref f)=true) (hv:mA name=none) (h:Q (.ref f,[.ref x]) s) :
  wpAny (model prog w) A (getMethod (.ref x) name pl) Q E s:=by
 obtain⟨od,J,hl⟩:=I.look
 exact W.method_fn X J (W.plainGet_of hg).1 (W.plainGet_of hg).2 hf (beq_iff_eq.mp ht) (by show(W.lookIn name od).map (·.isSome)=some false;rw[hl,hv];rfl) h
theorem rP{ns:List Str}{Q:Unit->Shared->Prop}(X:K.In s.heap)(I:ObjM s.heap x dx C mA)
  (hs:W.findIn K (.ref C) "__setattr__"=some (some (.builtin "object.__setattr__"))) (hp:W.plainOver K C=true) (ht:W.takerIn K C name=some none) (hh:W.hasDictIn K C=true)
  (hw:PySem.Within mA ns) (hsz:ns.length<=sizeLine)
  (h:∀ h',ObjM h' x dx C (λy=>if y=name then some v else mA y)->Heap.SameBut dx s.heap h'->Q () { s with heap:=h',toks:=s.toks+2 }) :
  wpAny (model prog w) A (setAttr (.ref x) name v) Q E s:=by
 obtain⟨od,J,hl⟩:=I.look
 refine W.set_plain X J hs (W.osa_open (s:={ s with toks:=s.toks+1 }) (r:=none) X J hp ht λb=> ?_)
 obtain⟨cd,hc,hd'⟩:=W.any_some hh
 have hx:s.heap.get? x=some ⟨.ref C,some dx,.plain,#[]⟩:=I.obj
 refine wpAny_bind (wpAny_pure (wpAny_bind (wpAny_bind (wpAny_loadPart hx (wpAny_bind (W.Looks.here (s:={ s with toks:=s.toks+1 }) (W.looks_clsIn X hc) ?_))))))
 rw[hd']
 refine wpAny_pure (a:=some dx) (wpAny_bind (wpAny_pure (wpAny_bind ?_)))
 refine wpAny_nsSet1 (s:={ s with toks:=s.toks+1 }) I.ns λh' hn2 hs2=> ?_
 obtain⟨oD,esD,epD,hoD,hdD,hcD⟩:=hn2.count (PySem.Within.cons name v hw)
 refine wpAny_bind (wpAny_lookBehind hoD (by rw[hdD];exact pastItsLine_dict (Nat.le_trans hcD (by rw[List.length_cons];omega))) ?_)
 exact wpAny_pure (h _ ⟨(hs2.2 _ (Ne.symm I.ne)).trans I.obj,hn2,I.ne⟩ hs2)
theorem rQ{R:Result->Shared->Prop}{vs:List Value}{kw:List (Str × Value)}(X:K.In s.heap)(hm:W.makesIn K C=true)
  (hi:W.findIn K (.ref C) "__init__"=some (some (.ref f))) (hf:W.typeIn K (.ref f)=some (.type "function"))
  (h:codeAny (model prog w) (A.under (.builtin "type.__call__" ⟨.ref C::vs,kw⟩)) (.call (.ref f) ⟨.ref (s.heap.objs.size+1)::vs,kw⟩) (W.InitBack (s.heap.objs.size+1) R)
   { s with heap:=(s.heap.push W.emptyDict).push (W.instObj C s.heap.objs.size) }) :
  codeAny (model prog w) A (.call (.ref C) ⟨vs,kw⟩) R s:=by
 obtain⟨hh,g,d,t,os⟩:=s
 exact W.make_core (W.makes_of X hm) (W.looks_findIn X hi) (λself=>W.bind_fn X self hf) (.inl rfl) h
end
def A7(f:Str)(v:V):List (Str × V)->List (Str × V)
 | []=>[(f,v)]
 | (g,x)::r=>if g=f then(g,v)::r else(g,x)::A7 f v r
theorem aC(f g:Str)(v:V):∀ fs:List (Str × V),(A7 f v fs).lookup g=if g=f then some v else fs.lookup g
 | []=>by
  show List.lookup g [(f,v)]=_
  by_cases h:g=f
  ·have hb:(g == f)=true:=beq_iff_eq.mpr h
   simp only[List.lookup,hb,if_pos h]
  ·have hb:(g == f)=false:=beq_eq_false_iff_ne.mpr h
   simp only[List.lookup,hb,if_neg h]
 | (k,x)::r=>by
  have ih:=aC f g v r
  rw[show A7 f v ((k,x)::r)=(if k=f then(k,v)::r else(k,x)::A7 f v r)from rfl]
  by_cases hk:k=f
  ·rw[if_pos hk]
   by_cases h:g=k
   ·have hb:(g == k)=true:=beq_iff_eq.mpr h
    simp only[List.lookup,hb,if_pos (h.trans hk)]
   ·have hb:(g == k)=false:=beq_eq_false_iff_ne.mpr h
    simp only[List.lookup,hb,if_neg (λe:g=f=>h (e.trans hk.symm))]
  ·rw[if_neg hk]
   by_cases h:g=k
   ·have hb:(g == k)=true:=beq_iff_eq.mpr h
    simp only[List.lookup,hb,if_neg (λe:g=f=>hk (h.symm.trans e))]
   ·have hb:(g == k)=false:=beq_eq_false_iff_ne.mpr h
    simp only[List.lookup,hb]
    exact ih
theorem RN(f:Str)(v:V):∀ fs:List (Str × V),f∈(A7 f v fs).map (·.1)/\∀ g,g∈fs.map (·.1)->g∈(A7 f v fs).map (·.1)
 | []=>⟨by simp[A7],λg h=>by simp at h⟩
 | (k,x)::r=>by
  obtain⟨i1,i2⟩:=RN f v r
  rw[show A7 f v ((k,x)::r)=(if k=f then(k,v)::r else(k,x)::A7 f v r)from rfl]
  by_cases hk:k=f
  ·rw[if_pos hk]
   subst hk
   exact⟨by simp,λg h=>by simpa using h⟩
  ·rw[if_neg hk]
   refine⟨?_,λg h=> ?_⟩
   ·rw[List.map_cons]
    exact List.mem_cons_of_mem _ i1
   ·rw[List.map_cons]at h ⊢
    rcases List.mem_cons.mp h with e | e
    ·exact List.mem_cons.mpr (.inl e)
    ·exact List.mem_cons_of_mem _ (i2 g e)
theorem MJ(f:Str)(v:V):∀ fs:List (Str × V),(A7 f v fs).length<=fs.length+1
 | []=>by simp[A7]
 | (k,x)::r=>by
  have ih:=MJ f v r
  rw[show A7 f v ((k,x)::r)=(if k=f then(k,v)::r else(k,x)::A7 f v r)from rfl]
  by_cases hk:k=f
  ·rw[if_pos hk,List.length_cons,List.length_cons];omega
  ·rw[if_neg hk,List.length_cons,List.length_cons];omega
theorem RelO.some_of{v:V}{o:Option Value}(r:RelO (some v) o):∃ u,o=some u/\RelV v u:=by
 cases o with
 | none=>exact(show False from r).elim
 | some u=>exact⟨u,rfl,r⟩
theorem RelO.none_of{o:Option Value}(r:RelO none o):o=none:=by
 cases o with
 | none=>rfl
 | some u=>exact(show False from r).elim
theorem rR{v:V}{u:Value}(r:RelV v u):W.handedIn u=true:=by
 cases v with
 | non=>cases (show u=Value.none from r);rfl
 | bl b=>cases (show u=Value.bool b from r);rfl
 | int i=>obtain⟨t,e⟩:=(show ∃ t,u=Value.int i t from r);cases e;rfl
 | str x=>obtain⟨t,e⟩:=(show ∃ t,u=Value.str x t from r);cases e;rfl
 | byt b=>obtain⟨t,e⟩:=(show ∃ t,u=Value.bytes b t from r);cases e;rfl
 | flt b=>obtain⟨t,e⟩:=(show ∃ t,u=Value.float b t from r);cases e;rfl
 | ref a=>cases (show u=Value.ref a from r);rfl
 | ty n=>cases (show u=Value.type n from r);rfl
section
variable{P:Program}{w:World}{H H':Hp}{h h':Heap}{a C dx:Addr}{fs fs':List (Str × V)}
theorem N6(hok:HOk P w H h)(e:H a=some (.ins C dx fs)):∃ mA,ObjM h a dx C mA/\(∀ f,RelO (fs.lookup f) (mA f))/\PySem.Within mA (fs.map (·.1))/\fs.length<=1000/\H dx=some (.own a):=by
 obtain⟨d,z,ne,ob,mA,n,r,q⟩:=(show ObjOk P w H h a (.ins C dx fs)from hok a _ e)
 exact⟨mA,⟨ob,n,ne⟩,r,q,z,d⟩
end
structure Cls(K:W.Frag)(C:Addr):Prop where
 pg:W.plainGet K C Str.empty=true
 hd:W.hasDictIn K C=true
 po:W.plainOver K C=true
 sa:W.findIn K (.ref C) "__setattr__"=some (some (.builtin "object.__setattr__"))
theorem Cls.get{K:W.Frag}{C:Addr}(c:Cls K C)(f:Str):W.plainGet K C f=true:=c.pg
def NoAttr(K:W.Frag)(C:Addr)(f:Str):Prop:=W.findIn K (.ref C) f=some none
theorem NoAttr.taker{K:W.Frag}{C:Addr}{f:Str}(n:NoAttr K C f):W.takerIn K C f=some none:=by
 unfold W.takerIn
 rw[show W.findIn K (.ref C) f=some none from n]
 rfl
structure Con(K:W.Frag)(C:Addr)(f:Str)(v:V)(u:Value):Prop where
 at_:W.findIn K (.ref C) f=some (some u)
 rel:RelV v u
 get:W.specialIn K u "__get__"=some none
 cp:W.copiedNames.contains f=false
structure N7(K:W.Frag)(C:Addr)(m:Str)(f:Addr):Prop where
 at_:W.findIn K (.ref C) m=some (some (.ref f))
 fn:W.isFn K (.ref f)=true
 kp:W.keepIn K (.ref f)=true
section
variable{X:Cx}{AA:List (Addr × Obj)}{σ:St}{H:Hp}{s:Shared}{a C dx:Addr}{fs:List (Str × V)}{f:Str}{v:V}{A:Around}{E:Value->Shared->Prop}
theorem aD{b:Bool}{Q:Value->Shared->Prop}(I:Inv X AA σ H s)(e:H a=some (.ins C dx fs))(c:Cls X.K C)(n:NoAttr X.K C f)(l:fs.lookup f=some v)
  (h:∀ u s',Inv X AA σ H s'->RelV v u->Q u s'):wpAny (model X.prog X.w) A (getAttr (.ref a) f b) Q E s:=by
 obtain⟨mA,O,r,_,_,_⟩:=N6 I.hok e
 obtain⟨u,hu,ru⟩:=RelO.some_of (v:=v) (o:=mA f) (by rw[<-l];exact r f)
 exact rN I.kIn O (c.get f) c.hd n hu (rR ru) (h u _ (I.tok _) ru)
theorem aE{m:Str}{g:Addr}{pl:Sem Bool}{Q:Value × List Value->Shared->Prop}(I:Inv X AA σ H s)(e:H a=some (.ins C dx fs))(c:Cls X.K C)(k:N7 X.K C m g)(l:fs.lookup m=none)
  (h:Q (.ref g,[.ref a]) s):wpAny (model X.prog X.w) A (getMethod (.ref a) m pl) Q E s:=by
 obtain⟨mA,O,r,_,_,_⟩:=N6 I.hok e
 have hn:mA m=none:=RelO.none_of (by rw[<-l];exact r m)
 exact rO I.kIn O (c.get m) k.at_ k.fn hn h
theorem aF{y:V}{u:Value}{Q:Unit->Shared->Prop}(I:Inv X AA σ H s)(e:H a=some (.ins C dx fs))(c:Cls X.K C)(n:NoAttr X.K C f)(hl:fs.length<1000)(ry:RelV y u)
  (h:∀ s',Inv X AA σ (upd H a (.ins C dx (A7 f y fs))) s'->Q () s'):wpAny (model X.prog X.w) A (setAttr (.ref a) f u) Q E s:=by
 obtain⟨mA,O,r,wi,_,ho⟩:=N6 I.hok e
 have hz:(fs.map (·.1)).length<=sizeLine:=by rw[List.length_map,sizeLine_eq];omega
 refine rP I.kIn O c.sa c.po n.taker c.hd wi hz λh' O' sb=>h _ ?_
 have hd:∃ o,h'.get? dx=some o:=let ⟨o,_,_,e',_⟩:=O'.ns;⟨o,e'⟩
 refine I.write (x:=a) (e:=dx) (by rw[e];exact True.intro) (.inr ho) (λb q hb z=>(sb.2 b hb).trans z) hd ?_
 refine⟨by rw[AH O.ne];exact ho,?_,O.ne,O'.obj,_,O'.ns,λg=> ?_,λg hg=> ?_⟩
 ·have:=MJ f y fs;omega
 ·show RelO ((A7 f y fs).lookup g) (if g=f then some u else mA g)
  rw[aC]
  by_cases q:g=f
  ·rw[if_pos q,if_pos q];exact ry
  ·rw[if_neg q,if_neg q];exact r g
 ·by_cases q:g=f
  ·rw[q];exact(RN f y fs).1
  ·refine(RN f y fs).2 g (wi g λz=>hg ?_)
   show(if g=f then some u else mA g)=none
   rw[if_neg q];exact z
theorem Inv.made(I:Inv X AA σ H s):Inv X AA σ (upd (upd H s.heap.objs.size (.own (s.heap.objs.size+1))) (s.heap.objs.size+1) (.ins C s.heap.objs.size []))
  { s with heap:=(s.heap.push W.emptyDict).push (W.instObj C s.heap.objs.size) }:=by
 have e1:(s.heap.push W.emptyDict).get? s.heap.objs.size=some W.emptyDict:=Heap.get?_push_size s.heap rfl
 have e2:((s.heap.push W.emptyDict).push (W.instObj C s.heap.objs.size)).get? (s.heap.objs.size+1)=some (W.instObj C s.heap.objs.size):=by
  have:=Heap.get?_push_size (s.heap.push W.emptyDict) (o:=W.instObj C s.heap.objs.size) rfl
  rwa [Heap.size_push]at this
 have e3:(s.heap.push W.emptyDict).Ns s.heap.objs.size (λ_=>none):=⟨W.emptyDict,#[],_,e1,rfl,(λe he=>absurd he (by simp)),λ_=>rfl⟩
 have I1:=I.laid (a:=s.heap.objs.size) (o:=.own (s.heap.objs.size+1)) (h':=s.heap.push W.emptyDict) (t':=s.toks) (λb u q=>Heap.get?_push_of_some _ q) (Nat.le_refl _) ⟨_,e1⟩
 refine I1.laid (a:=s.heap.objs.size+1) (o:=.ins C s.heap.objs.size []) (t':=s.toks) (λb u q=>Heap.get?_push_of_some _ q) (Nat.le_of_eq (Heap.size_push _ _)) ?_
 have ne:s.heap.objs.size≠s.heap.objs.size+1:=Nat.ne_of_lt (Nat.lt_succ_self _)
 refine⟨by rw[AH ne,AF],Nat.zero_le _,ne,e2,λ_=>none,(Heap.Ns1.of_empty e3).at λo q=>Heap.get?_push_of_some _ q,λ_=>True.intro,λy hy=>absurd rfl hy⟩
theorem rS{prog:Program}{w:World}{env:Env}{e:Expr}{f:Str}{pos:Pos}{s:Shared}{Q:Value->Shared->Prop}(hb:attributeBase e f env (eval e env)=eval e env)
  (h:wpAny (model prog w) A (eval e env) (λo s₁=>wpAny (model prog w) A (getAttr o f true) Q E s₁) E s):wpAny (model prog w) A (eval (.Attribute e f pos) env) Q E s :=
 Attribute_any_ h (by rw[arm_eval_Attribute,hb])
end
def AY(K:W.Frag)(ta:TE)(f:Str):TE:=λσ H Q=>ta σ H λx H1=>∃ a C dx fs v,x=.ref a/\H1 a=some (.ins C dx fs)/\Cls K C/\NoAttr K C f/\fs.lookup f=some v/\Q v H1
def D5(K:W.Frag)(ta tv:TE)(f:Str):TS:=λD σ H=>tv σ H λy H1=>ta σ H1 λx H2=>∃ a C dx fs,x=.ref a/\H2 a=some (.ins C dx fs)/\Cls K C/\NoAttr K C f/\fs.length<1000 ∧
 D.nx σ (upd H2 a (.ins C dx (A7 f y fs)))
def aG(X:Cx)(op:Operator)(rd:V->V->Hp->VK->Prop):Prop :=
 ∀ (AA:List (Addr × Obj)) (s:Shared) (σ:St) (H:Hp) (x y:V) (u v:Value) (Q:VK),Inv X AA σ H s->RelV x u->RelV y v->rd x y H Q->wpAny (model X.prog X.w) X.A (inplaceOp op u v) (EP X AA σ Q) X.xe s
def RO(K:W.Frag)(ta tv:TE)(rd:V->V->Hp->VK->Prop)(f:Str):TS:=λD σ H=>ta σ H λx H1=>∃ a C dx fs v,x=.ref a/\H1 a=some (.ins C dx fs)/\Cls K C/\NoAttr K C f/\fs.lookup f=some v ∧
 tv σ H1 λy H2=>rd v y H2 λz H3=>∃ dx' fs',H3 a=some (.ins C dx' fs')/\fs'.length<1000/\D.nx σ (upd H3 a (.ins C dx' (A7 f z fs')))
section
variable{X:Cx}{o e value:Expr}{f:Str}{pos pos' tpos:Pos}{ta tv:TE}
theorem AZ(he:PE X e ta)(hb:attributeBase e f X.env (eval e X.env)=eval e X.env):PE X (.Attribute e f pos) (AY X.K ta f):=by
 intro AA s σ H Q I h
 refine rS hb (AV (he AA s σ H _ I h) λu s1 hzz=> ?_)
 obtain⟨x,H1,I1,rx,a,C,dx,fs,v,ex,ea,c,n,l,q⟩:=hzz
 subst ex
 obtain rfl:u=Value.ref a:=rx
 exact aD I1 ea c n l λu' s2 I2 ru=>⟨v,H1,I2,ru,q⟩
theorem EH(ha:PE X o ta)(hv:PE X value tv)(hs:swapsWith value (some (.Attribute o f pos')) pos.line X.env=pure false):PS X (.Assign [.Attribute o f pos'] value pos) (D5 X.K ta tv f):=by
 intro AA s σ H D I h
 refine plainObj_wpAny_Assign_Attribute (AV (hv AA s σ H _ I h) λu s1 ⟨y,H1,I1,ry,q⟩=>AV (ha AA s1 σ H1 _ I1 q) λov s2 hzz=> ?_) hs
 obtain⟨x,H2,I2,rx,a,C,dx,fs,ex,ea,c,n,l,q2⟩:=hzz
 subst ex
 obtain rfl:ov=Value.ref a:=rx
 exact aF I2 ea c n l ry λs3 I3=>⟨σ,_,I3,q2⟩
theorem rT{op:Operator}{rd:V->V->Hp->VK->Prop}(ha:PE X o ta)(hv:PE X value tv)(hop:aG X op rd):PS X (.AugAssign (.Attribute o f tpos) op value pos) (RO X.K ta tv rd f):=by
 intro AA s σ H D I h
 refine wpAny_AugAssign_AttributeAny (AV (ha AA s σ H _ I h) λov s1 hzz=> ?_)
 obtain⟨x,H1,I1,rx,a,C,dx,fs,v,ex,ea,c,n,l,q⟩:=hzz
 subst ex
 obtain rfl:ov=Value.ref a:=rx
 refine aD I1 ea c n l λu s2 I2 ru=>AV (hv AA s2 σ H1 _ I2 q) λw3 s3 ⟨y,H2,I3,ry,q3⟩=>AV (hop AA s3 σ H2 v y u w3 _ I3 ru ry q3) λw4 s4 hzz=> ?_
 obtain⟨z,H3,I4,rz,dx',fs',ea',l',q4⟩:=hzz
 exact aF I4 ea' c n l' rz λs5 I5=>⟨σ,_,I5,q4⟩
def N8:V->V->Hp->VK->Prop:=λx y H Q=>∃ i j,x=.int i/\y=.int j/\Q (.int (i+j)) H
theorem rV:aG X .Add N8:=by
 rintro AA s σ H x y u v Q I rx ry ⟨i,j,rfl,rfl,q⟩
 obtain⟨t,rfl⟩:=(show ∃ t,u=Value.int i t from rx)
 obtain⟨t',rfl⟩:=(show ∃ t',v=Value.int j t' from ry)
 exact PyProof.Rows.iadd_int ⟨.int (i+j),H,I.tok _,⟨_,rfl⟩,q⟩
end
section
variable{X:Cx}{AA:List (Addr × Obj)}{σ:St}{H:Hp}{s:Shared}{A:Around}{E:Value->Shared->Prop}{Q:Value->Shared->Prop}{c:Value}{b:Bool}
inductive F8(K:W.Frag)(H:Hp):V->Value->Prop where
 | non:F8 K H .non (.type "NoneType")
 | bl (x:Bool):F8 K H (.bl x) (.type "bool")
 | int (i:Int):F8 K H (.int i) (.type "int")
 | str (x:Str):F8 K H (.str x) (.type "str")
 | flt (x:UInt64):F8 K H (.flt x) (.type "float")
 | lst {a:Addr} {xs:List V} (e:H a=some (.lst xs)):F8 K H (.ref a) (.type "list")
 | frz {a:Addr} {o:Obj} {xs:List V} (e:H a=some (.frz o (.lst xs))):F8 K H (.ref a) (.type "list")
 | tup {a:Addr} {xs:List V} (e:H a=some (.tup xs)):F8 K H (.ref a) (.type "tuple")
 | dK {a:Addr} {AD:List (AM × V)} (e:H a=some (.dK AD)):F8 K H (.ref a) (.type "dict")
 | dT {a:Addr} {AD:List (List AM × V)} (e:H a=some (.dT AD)):F8 K H (.ref a) (.type "dict")
 | ins {a C dx:Addr} {fs:List (Str × V)} (e:H a=some (.ins C dx fs)) (cl:Cls K C) (ha:W.findIn K (.ref C) "__class__"=some (some (.builtin "object.__class__")))
   (hn:W.specialIn K (.builtin "object.__class__") "__get__"=some (some (.builtin "getset_descriptor.__get__"))) (htk:W.takesIn K (.builtin "object.__class__")=some true)
   (hm:W.mroIn K C (.type "object")=some true):F8 K H (.ref a) (.ref C)
end
end L2
namespace L2
structure Room(k:Nat)(A:Around):Prop where
 hd:A.handled=none
 dp:A.depth+3 * k+5<recursionLimit
 un:A.units+16 * k+200<cLine
theorem Room.mono{j k:Nat}{A:Around}(r:Room k A)(h:j<=k):Room j A:=⟨r.hd,by have:=r.dp;omega,by have:=r.un;omega⟩
theorem Room.deeper{k:Nat}{A:Around}(r:Room (k+1) A)(env:Env):Room k (A.deeper env) :=
 ⟨r.hd,by have:=r.dp;show A.depth+1+3 * k+5<_;omega,by have:=r.un;show A.units+3+16 * k+200<_;omega⟩
theorem rW{A:Around}{C:Addr}{us:List Value}{kw:List (Str × Value)}:(A.under (.builtin "type.__call__" ⟨.ref C::us,kw⟩)).depth=A.depth+1:=by
 first | rfl | simp[Around.under,Code.weight,Code.isCreation,Code.isGuard,Code.isCaller,Code.frames,Code.isFrame,guardIds]
theorem rX{A:Around}{C:Addr}{us:List Value}{kw:List (Str × Value)}:(A.under (.builtin "type.__call__" ⟨.ref C::us,kw⟩)).units=A.units+1:=by
 first | rfl | simp[Around.under,Code.cUnits,Code.frames,Code.isFrame]
theorem Room.make{k:Nat}{A:Around}(r:Room (k+1) A)(C:Addr)(us:List Value)(kw:List (Str × Value)):Room k (A.under (.builtin "type.__call__" ⟨.ref C::us,kw⟩)) :=
 ⟨r.hd,by have:=r.dp;rw[rW];omega,by have:=r.un;rw[rX];omega⟩
theorem Room.depth{k:Nat}{A:Around}(r:Room k A):A.depth<recursionLimit:=by have:=r.dp;omega
theorem Room.units{k:Nat}{A:Around}(r:Room k A):A.units+64<cLine:=by have:=r.un;omega
def BV:TA:=λ_ H Q=>Q [] H
def DI(ta:TE)(tr:TA):TA:=λσ H Q=>ta σ H λx H1=>tr σ H1 λxs H2=>Q (x::xs) H2
section
variable{X:Cx}{e:Expr}{es:List Expr}{te:TE}{t:TA}{pos:Pos}
theorem FS:PA X [] BV:=λ_ _ _ _ H Q I h=>Calls.spliced_nil ⟨[],H,I,.nil,h⟩
theorem IT(ha:PE X e te)(hr:PA X es t)(hs:starEach (e::es) X.env=(false,eval e X.env)::starEach es X.env:=by rfl):PA X (e::es) (DI te t):=by
 intro pos AA s σ H Q I h
 rw[hs]
 show wpAny _ _ (spliced ((false,eval e X.env)::backTo pos (starEach es X.env))) _ _ s
 refine Calls.spliced_cons (AV (ha AA s σ H _ I h) λu s1 hzz=> ?_)
 obtain⟨x,H1,I1,r1,q1⟩:=hzz
 exact AV (hr pos AA s1 σ H1 _ I1 q1) λus s2 ⟨xs,H2,I2,r2,q2⟩=>⟨x::xs,H2,I2,.cons r1 r2,q2⟩
def EO(t:TA):TE:=λσ H Q=>t σ H λxs H1=>xs.length<=sizeLine/\∀ p,H1 p=none->Q (.ref p) (upd H1 p (.tup xs))
def CG(t:TA):TE:=λσ H Q=>t σ H λxs H1=>xs.length<=sizeLine/\∀ p,H1 p=none->Q (.ref p) (upd H1 p (.lst xs))
theorem E9{x1}(h:PA X es t):PE X (.Tuple es x1 pos) (EO t):=by
 intro AA s σ H Q I hq
 refine wpAny_Tuple_spliced (AV (h pos AA s σ H _ I hq) λus s1 ⟨xs,H1,I1,r,z,q⟩=>⟨by rw[<-r.length];exact z,?_⟩)
 have hf:H1 s1.heap.objs.size=none:=I1.hok.fresh (Nat.le_refl _)
 refine⟨.ref s1.heap.objs.size,upd H1 s1.heap.objs.size (.tup xs),I1.laid (t':=s1.toks) (λb u e=>Heap.get?_push_of_some _ e) (Nat.le_refl _) ?_,rfl,q _ hf⟩
 exact⟨z,us,r,⟨_,Heap.get?_push_size _ rfl,rfl,_,rfl⟩⟩
theorem CP(h:PA X es t):PE X (.List es pos) (CG t):=by
 intro AA s σ H Q I hq
 refine wpAny_List_spliced (AV (h pos AA s σ H _ I hq) λus s1 ⟨xs,H1,I1,r,z,q⟩=>⟨by rw[<-r.length];exact z,?_⟩)
 have hf:H1 s1.heap.objs.size=none:=I1.hok.fresh (Nat.le_refl _)
 refine⟨.ref s1.heap.objs.size,upd H1 s1.heap.objs.size (.lst xs),I1.laid (t':=s1.toks) (λb u e=>Heap.get?_push_of_some _ e) (Nat.le_refl _) ?_,rfl,q _ hf⟩
 exact⟨z,us,0,r,Heap.get?_push_size _ rfl⟩
end
abbrev Sp:=List V->Hp->VK->XK->Prop
abbrev F9:=List Env->Hp->Shared->XK->Value->Shared->Prop
structure Env0(P:Program)(w:World)(K:W.Frag)(mg:Str->Option Value)(base:Heap)(A:Around)(outer:List Env)(s:Shared)(H:Hp):Prop where
 frames:A.frames=some outer
 mod:Mod K mg base
 bs:∀ b o,base.get? b=some o->s.heap.get? b=some o/\H b=none
 bsz:base.objs.size<=s.heap.objs.size
 funs:s.heap.FunFrames base outer
 frf:∀ b∈DP outer,H b=none
 hok:HOk P w H s.heap
 bare:AllBare s.gens
def CE(outer:List Env)(P:Program)(w:World)(H:Hp)(s:Shared)(Q:VK)(u:Value)(s':Shared):Prop :=
 ∃ v H',s'.os=s.os/\AllBare s'.gens/\Un (DP outer) [] H H' s.heap s'.heap/\HOk P w H' s'.heap/\RelV v u/\Q v H'
def CR(CX:F9)(outer:List Env)(P:Program)(w:World)(H:Hp)(s:Shared)(Q:VK)(E:XK)(r:Result)(s':Shared):Prop :=
 match r with
 | .ok (.ret u)=>CE outer P w H s Q u s'
 | .ok _=>False
 | .error e=>CX outer H s E e s'
structure FnOk(P:Program)(w:World)(K:W.Frag)(mg:Str->Option Value)(base:Heap)(CX:F9)(k:Nat)(f:Addr)(fd:FuncData)(ps:List Str)(sp:Sp):Prop where
 len:∀ vs H Q E,sp vs H Q E->vs.length=ps.length
 run:∀ (A:Around) (outer:List Env) (s:Shared) (H:Hp) (args:Args) (us:List Value) (vs:List V) (Q:VK) (E:XK),Room k A->Env0 P w K mg base A outer s H->BindsTo s fd args (ps.zip us)->Vals vs us->sp vs H Q E →
  codeAny (model P w) A (.call (.ref f) args) (CR CX outer P w H s Q E) s
theorem FnOk.imp{P:Program}{w:World}{K:W.Frag}{mg:Str->Option Value}{base:Heap}{CX:F9}{k:Nat}{f:Addr}{fd:FuncData}{ps:List Str}{sp sp':Sp}(F:FnOk P w K mg base CX k f fd ps sp)
  (h:∀ vs H Q E,sp' vs H Q E->sp vs H Q E):FnOk P w K mg base CX k f fd ps sp' :=
 ⟨λvs H Q E q=>F.len vs H Q E (h _ _ _ _ q),λA outer s H args us vs Q E hr he hb hv hs=>F.run A outer s H args us vs Q E hr he hb hv (h _ _ _ _ hs)⟩
theorem Env0.make{P:Program}{w:World}{K:W.Frag}{mg:Str->Option Value}{base:Heap}{A:Around}{outer:List Env}{s:Shared}{H:Hp}(e:Env0 P w K mg base A outer s H)(C:Addr)(us:List Value)(kw:List (Str × Value)) :
  Env0 P w K mg base (A.under (.builtin "type.__call__" ⟨.ref C::us,kw⟩)) outer s H:=⟨by first | exact e.frames | (simpa [Around.under,Code.envs,Code.isFrame,pushEnvs]using e.frames),e.mod,e.bs,e.bsz,e.funs,e.frf,e.hok,e.bare⟩
section
variable{X:Cx}{AA:List (Addr × Obj)}{σ:St}{H:Hp}{s s':Shared}
theorem Inv.env0(I:Inv X AA σ H s):Env0 X.prog X.w X.K X.mg X.base X.A X.stack s H :=
 ⟨I.ok.frames,I.ok.mod,I.bs,Nat.le_trans I.ok.bsz I.sz,I.stack,I.stkFree,I.hok,I.bare⟩
theorem Inv.after{Q:VK}{u:Value}(I:Inv X AA σ H s)(h:CE X.stack X.prog X.w H s Q u s'):EP X AA σ Q u s':=by
 obtain⟨v,H',os,bare,un,hok,r,q⟩:=h
 obtain⟨hh,g,d,t,os'⟩:=s'
 obtain rfl:os'=s.os:=os
 exact⟨v,H',I.call (h':=hh) (g':=g) (d':=d) (t':=t) (ch:=[]) un hok bare (λb z=>absurd z (by simp)),r,q⟩
end
def DE(sp:Sp)(C6:List V)(E:St->XK)(t:TA):TE:=λσ H Q=>t σ H λvs H1=>sp (vs++C6) H1 Q (E σ)
def AR(C:Addr)(m:Str)(sp:Sp)(C6:List V)(E:St->XK)(ta:TE)(t:TA):TE:=λσ H Q=>ta σ H λx H1=>∃ a dx fs,x=.ref a/\H1 a=some (.ins C dx fs)/\fs.lookup m=none ∧
 t σ H1 λvs H2=>sp (x::(vs++C6)) H2 Q (E σ)
def IU(C:Addr)(sp:Sp)(C6:List V)(E:St->XK)(t:TA):TE:=λσ H Q=>t σ H λvs H1=>∀ x dx,H1 x=none->H1 dx=none->dx≠x →
 sp (.ref x::(vs++C6)) (upd (upd H1 dx (.own x)) x (.ins C dx [])) (λv H2=>v=.non/\Q (.ref x) H2) (E σ)
def Binds(K:W.Frag)(fd:FuncData)(ps:List Str)(ds:List Value):Prop :=
 ∀ (s:Shared) (us:List Value),K.In s.heap->(us++ds).length=ps.length->BindsTo s fd ⟨us,[]⟩ (ps.zip (us++ds))
theorem Binds.all{K:W.Frag}{fd:FuncData}{ps:List Str}(h:∀ us:List Value,us.length=ps.length->bindArgs fd ⟨us,[]⟩=pure (ps.zip us)):Binds K fd ps []:=λs us _ hl=>by
 rw[List.append_nil]at hl ⊢
 exact .of_eq (h us hl)
def GA(CX:F9)(X:Cx)(E:St->XK):Prop:=∀ (AA:List (Addr × Obj)) (σ:St) (H:Hp) (s:Shared) (e:Value) (s':Shared),Inv X AA σ H s->CX X.stack H s (E σ) e s'->X.xe e s'
section
variable{X:Cx}{CX:F9}{k:Nat}{f C:Addr}{fd:FuncData}{ps:List Str}{sp:Sp}{C6:List V}{ds:List Value}{E:St->XK}{x m:Str}{p pos CM:Pos}{e o:Expr}{es:List Expr}{ta:TE}{t:TA}
theorem RP{AA:List (Addr × Obj)}{σ:St}{H:Hp}{s:Shared}{Q:VK}{us:List Value}{vs:List V}(F:FnOk X.prog X.w X.K X.mg X.base CX k f fd ps sp)(hr:Room k X.A)(hb:Binds X.K fd ps ds)(hd:Vals C6 ds)(hx:GA CX X E)
  (I:Inv X AA σ H s) (r:Vals vs us) (h:sp (vs++C6) H Q (E σ)):wpAny (model X.prog X.w) X.A (call (.ref f) us) (EP X AA σ Q) X.xe s:=by
 have r2:Vals (vs++C6) (us++ds):=r.append hd
 have hl:(us++ds).length=ps.length:=by rw[<-r2.length];exact F.len _ _ _ _ h
 refine wpAny_call (codeAny_mono (F.run X.A X.stack s H ⟨us,[]⟩ (us++ds) (vs++C6) Q (E σ) hr I.env0 (hb s us I.kIn hl) r2 h) λr s' hq=> ?_)
 cases r with
 | error e=>exact hx AA σ H s e s' I hq
 | ok fl =>
  cases fl with
  | ret u=>exact I.after hq
  | next=>exact False.elim hq
  | brk=>exact False.elim hq
  | cont=>exact False.elim hq
theorem rY(F:FnOk X.prog X.w X.K X.mg X.base CX k f fd ps sp)(hr:Room k X.A)(hg:Gl X x)(hm:X.mg x=some (.ref f))(hk:W.keepIn X.K (.ref f)=true)(hb:Binds X.K fd ps ds)(hd:Vals C6 ds)(hx:GA CX X E)
  (ha:PA X (e::es) t) (hdb:(x ==("__debug__":Str))=false:=by decide) (he:starEach (e::es) X.env=(false,eval e X.env)::starEach es X.env:=by rfl) (CF:(backTo pos (starEach es X.env)).any (·.1)=false:=by rfl) :
  PE X (.Call (.Name x p) (e::es) [] pos) (DE sp C6 E t):=by
 intro AA s σ H Q I h
 refine wpAny_Call_Name_kw (L9 I hg hm ?_ hdb)
 refine W.callWith_K (h₀:=X.base) I.ok.mod.kin hk (AV (ha pos AA s σ H _ I h) λus s1 ⟨vs,H1,I1,r,q⟩=>⟨I1.kIn,?_⟩) he CF
 exact RP F hr hb hd hx I1 r q
theorem rZ{pl:Sem Bool}(he:PE X o ta)(c:Cls X.K C)(hm:N7 X.K C m f)(F:FnOk X.prog X.w X.K X.mg X.base CX k f fd ps sp)(hr:Room k X.A)(hb:Binds X.K fd ps ds)(hd:Vals C6 ds)(hx:GA CX X E)(ha:PA X (e::es) t)
  (hst:starEach (e::es) X.env=(false,eval e X.env)::starEach es X.env:=by rfl) (CF:(backTo pos (starEach es X.env)).any (·.1)=false:=by rfl)
  (ht:eval (.Call (.Attribute o m CM) (e::es) [] pos) X.env=(do
   let ov ← eval o X.env
   standAt CM.atName
   let (f,first) ← holding [ov] (getMethod ov m pl)
   callWith pos f first (backTo pos (starEach (e::es) X.env)) (backToKw pos (keywordEach [] X.env))):=by rfl) :
  PE X (.Call (.Attribute o m CM) (e::es) [] pos) (AR C m sp C6 E ta t):=by
 intro AA s σ H Q I h
 refine W.methodCall_KW (pl:=pl) (AV (he AA s σ H _ I h) λu s1 hzz=> ?_) ht
 obtain⟨x,H1,I1,rx,a,dx,fs,ex,ea,l,q⟩:=hzz
 subst ex
 obtain rfl:u=Value.ref a:=rx
 refine aE I1 ea c hm l ?_
 refine W.callWith_K (first:=[.ref a]) (h₀:=X.base) I.ok.mod.kin hm.kp (AV (ha pos AA s1 σ H1 _ I1 q) λus s2 ⟨vs,H2,I2,r,q2⟩=>⟨I2.kIn,?_⟩) hst CF
 exact RP (us:=.ref a::us) (vs:=.ref a::vs) F hr hb hd hx I2 (.cons rfl r) q2
theorem r8{pl:Sem Bool}(he:PE X o ta)(c:Cls X.K C)(hm:N7 X.K C m f)(F:FnOk X.prog X.w X.K X.mg X.base CX k f fd ps sp)(hr:Room k X.A)(hb:Binds X.K fd ps ds)(hd:Vals C6 ds)(hx:GA CX X E)
  (ht:eval (.Call (.Attribute o m CM) [] [] pos) X.env=(do
   let ov ← eval o X.env
   standAt CM.atName
   let (f,first) ← holding [ov] (getMethod ov m pl)
   callWith pos f first (backTo pos (starEach [] X.env)) (backToKw pos (keywordEach [] X.env))):=by rfl) :
  PE X (.Call (.Attribute o m CM) [] [] pos) (AR C m sp C6 E ta BV):=by
 intro AA s σ H Q I h
 refine W.methodCall_KW (pl:=pl) (AV (he AA s σ H _ I h) λu s1 hzz=> ?_) ht
 obtain⟨x,H1,I1,rx,a,dx,fs,ex,ea,l,q⟩:=hzz
 subst ex
 obtain rfl:u=Value.ref a:=rx
 refine aE I1 ea c hm l ?_
 exact W.callWith_K0 (first:=[.ref a]) I1.kIn hm.kp (RP (us:=[.ref a]) (vs:=[.ref a]) F hr hb hd hx I1 (.cons rfl .nil) q)
structure Mk(K:W.Frag)(C f:Addr):Prop where
 makes:W.makesIn K C=true
 init:W.findIn K (.ref C) "__init__"=some (some (.ref f))
 fn:W.isFn K (.ref f)=true
 kp:W.keepIn K (.ref C)=true
theorem sA{AA:List (Addr × Obj)}{σ:St}{H:Hp}{s:Shared}{Q:VK}{us:List Value}{vs:List V}(M:Mk X.K C f)(F:FnOk X.prog X.w X.K X.mg X.base CX k f fd ps sp)(hr:Room (k+1) X.A)(hb:Binds X.K fd ps ds)(hd:Vals C6 ds)
  (hx:GA CX X E) (I:Inv X AA σ H s) (r:Vals vs us)
  (h:∀ x dx,H x=none->H dx=none->dx≠x->sp (.ref x::(vs++C6)) (upd (upd H dx (.own x)) x (.ins C dx [])) (λv H2=>v=.non/\Q (.ref x) H2) (E σ)) :
  wpAny (model X.prog X.w) X.A (call (.ref C) us) (EP X AA σ Q) X.xe s:=by
 have hq:=h (s.heap.objs.size+1) s.heap.objs.size (I.hok.fresh (Nat.le_succ _)) (I.hok.fresh (Nat.le_refl _)) (Nat.ne_of_lt (Nat.lt_succ_self _))
 have I2:=Inv.made (C:=C) I
 have r2:Vals (V.ref (s.heap.objs.size+1)::(vs++C6)) (Value.ref (s.heap.objs.size+1)::(us++ds)):=.cons rfl (r.append hd)
 have hl:(Value.ref (s.heap.objs.size+1)::us++ds).length=ps.length:=by
  have e:=r2.length
  rw[F.len _ _ _ _ hq]at e
  exact e.symm
 refine wpAny_call (rQ (f:=f) I.kIn M.makes M.init (beq_iff_eq.mp M.fn) (codeAny_mono (F.run _ X.stack _ _ ⟨Value.ref (s.heap.objs.size+1)::us,[]⟩ (Value.ref (s.heap.objs.size+1)::(us++ds)) _ _ (E σ) (hr.make C us [])
  (I2.env0.make C us []) (hb _ (Value.ref (s.heap.objs.size+1)::us) I2.kIn hl) r2 hq) λr s' hq'=> ?_))
 cases r with
 | error e=>exact hx AA σ _ _ e s' I2 hq'
 | ok fl =>
  cases fl with
  | ret u =>
   obtain⟨v,H',I3,rv,ev,q3⟩:=I2.after hq'
   subst ev
   exact⟨rv,⟨V.ref (s.heap.objs.size+1),H',I3,rfl,q3⟩⟩
  | next=>exact False.elim hq'
  | brk=>exact False.elim hq'
  | cont=>exact False.elim hq'
theorem sB(M:Mk X.K C f)(F:FnOk X.prog X.w X.K X.mg X.base CX k f fd ps sp)(hr:Room (k+1) X.A)(hg:Gl X x)(hm:X.mg x=some (.ref C))(hb:Binds X.K fd ps ds)(hd:Vals C6 ds)(hx:GA CX X E)
  (ha:PA X (e::es) t) (hdb:(x ==("__debug__":Str))=false:=by decide) (he:starEach (e::es) X.env=(false,eval e X.env)::starEach es X.env:=by rfl) (CF:(backTo pos (starEach es X.env)).any (·.1)=false:=by rfl) :
  PE X (.Call (.Name x p) (e::es) [] pos) (IU C sp C6 E t):=by
 intro AA s σ H Q I h
 refine wpAny_Call_Name_kw (L9 I hg hm ?_ hdb)
 refine W.callWith_K (h₀:=X.base) I.ok.mod.kin M.kp (AV (ha pos AA s σ H _ I h) λus s1 ⟨vs,H1,I1,r,q⟩=>⟨I1.kIn,?_⟩) he CF
 exact sA M F hr hb hd hx I1 r q
end
section
variable{X:Cx}{CX:F9}{k:Nat}{f C:Addr}{fd:FuncData}{ps ks:List Str}{sp:Sp}{E:St->XK}{x m:Str}{p pos CM kpos:Pos}{e o:Expr}{es:List Expr}{kws:List Keyword}{te ta:TE}{t tk:TA}{nm:Option Str}
structure zdd(K:W.Frag)(fd:FuncData)(ps ks:List Str)(g:List Value->List Value->List Value)(gV:List V->List V->List V):Prop where
 to:∀ (s:Shared) (us ws:List Value),K.In s.heap->(g us ws).length=ps.length->BindsTo s fd ⟨us,ks.zip ws⟩ (ps.zip (g us ws))
 rel:∀ {vs:List V} {us:List Value} {zs:List V} {ws:List Value},Vals vs us->Vals zs ws->Vals (gV vs zs) (g us ws)
variable{g:List Value->List Value->List Value}{gV:List V->List V->List V}
end
structure FnScope(N P:List Str)(sc:Scope):Prop where
 kind:sc.kind=.function
 co:sc.isCoroutine=false
 gen:sc.isGenerator=false
 nd:N.Nodup
 pre:N.take P.length=P
 par:∀ x∈P,sc.names.lookup x=some .local\/sc.names.lookup x=some .cell
 nofree:∀ y∈sc.names,y.2≠.free
theorem aH{kindOf:Str->Option NameKind}{x:Str}:∀ {binds:List (Str × Value)} {m:Str->Option Value},(∀ v,(x,v)∉binds)->bindL kindOf binds m x=m x
 | [],_,_=>rfl
 | (n,v)::r,m,h=>by
  unfold bindL
  rw[aH λw hw=>h w (List.mem_cons_of_mem _ hw)]
  split
  ·have:x≠n:=by rintro rfl;exact h v List.mem_cons_self
   simp[this]
  ·rfl
theorem aI{kindOf:Str->Option NameKind}{x:Str}:∀ {binds:List (Str × Value)} {m:Str->Option Value},(∀ v,(x,v)∉binds)->bindC kindOf binds m x=m x
 | [],_,_=>rfl
 | (n,v)::r,m,h=>by
  unfold bindC
  rw[aI λw hw=>h w (List.mem_cons_of_mem _ hw)]
  split
  ·rfl
  ·have:x≠n:=by rintro rfl;exact h v List.mem_cons_self
   simp[this]
theorem aJ{kindOf:Str->Option NameKind}{x:Str}{v:Value}:∀ {P:List Str} {vs:List Value} {i:Nat} {m:Str->Option Value},P.Nodup->P[i]? =some x->vs[i]? =some v->kindOf x=some .local →
  bindL kindOf (P.zip vs) m x=some v
 | [],_,_,_,_,h,_,_=>by simp at h
 | _::_,[],_,_,_,_,h,_=>by simp at h
 | p::P,w::vs,0,m,nd,h1,h2,hk=>by
  simp at h1 h2;subst h1;subst h2
  show bindL kindOf ((p,w)::P.zip vs) m p=_
  unfold bindL
  rw[aH λv hv=>(List.nodup_cons.mp nd).1 (List.of_mem_zip hv).1,if_pos hk]
  simp
 | p::P,w::vs,i+1,m,nd,h1,h2,hk=>by
  show bindL kindOf ((p,w)::P.zip vs) m x=_
  unfold bindL
  exact aJ (i:=i) (List.nodup_cons.mp nd).2 (by simpa using h1) (by simpa using h2) hk
theorem aK{kindOf:Str->Option NameKind}{x:Str}{v:Value}:∀ {P:List Str} {vs:List Value} {i:Nat} {m:Str->Option Value},P.Nodup->P[i]? =some x->vs[i]? =some v->kindOf x≠some .local →
  bindC kindOf (P.zip vs) m x=some v
 | [],_,_,_,_,h,_,_=>by simp at h
 | _::_,[],_,_,_,_,h,_=>by simp at h
 | p::P,w::vs,0,m,nd,h1,h2,hk=>by
  simp at h1 h2;subst h1;subst h2
  show bindC kindOf ((p,w)::P.zip vs) m p=_
  unfold bindC
  rw[aI λv hv=>(List.nodup_cons.mp nd).1 (List.of_mem_zip hv).1,if_neg hk]
  simp
 | p::P,w::vs,i+1,m,nd,h1,h2,hk=>by
  show bindC kindOf ((p,w)::P.zip vs) m x=_
  unfold bindC
  exact aK (i:=i) (List.nodup_cons.mp nd).2 (by simpa using h1) (by simpa using h2) hk
def A8(N:List Str)(vs:List V):St:=vs.map some++List.replicate (N.length - vs.length) none
def GQ(CX:F9)(P:Program)(w:World)(K:W.Frag)(mg:Str->Option Value)(base:Heap)(N:List Str)(qual:Str)(scope:Scope)(f:Addr)(cd:Value)(A:Around)(outer:List Env)(s:Shared)(H:Hp)(E:XK):Cx where
 prog:=P
 w:=w
 K:=K
 mg:=mg
 base:=base
 A:=A.deeper (envOfC qual scope s.heap.objs.size f cd)
 N:=N
 s₀:=s
 H₀:=H
 env:=envOfC qual scope s.heap.objs.size f cd
 outer:=outer
 stack:=envOfC qual scope s.heap.objs.size f cd::outer
 ex:=[]
 calm:=true
 fn:=λ_=>true
 pn:=[]
 xe:=λe s'=>wpAny (model P w) (A.deeper (envOfC qual scope s.heap.objs.size f cd)) (leaving (envOfC qual scope s.heap.objs.size f cd) e) (λ_ s''=>CX outer H s E e s'') (λe' s''=>CX outer H s E e' s'') s'
theorem aL{sc:Scope}{n:Nat}{x:Str}(h:sc.names.lookup x=some .cell):∃ c,(cellsFrom n sc.names []).lookup x=some c:=by
 have q:=W.cellsFrom_some sc.names n [] (.inl h)
 exact Option.isSome_iff_exists.mp q
theorem sC{CX:F9}{P:Program}{w:World}{K:W.Frag}{mg:Str->Option Value}{base:Heap}{N ps:List Str}{qual:Str}{scope:Scope}{f:Addr}{cd:Value}{A:Around}{outer:List Env}{s s1:Shared}{H:Hp}{E:XK}{us:List Value}{vs:List V}
  (S:FnScope N ps scope) (hd:A.handled=none) (e0:Env0 P w K mg base A outer s H) (hl:vs.length=ps.length) (r:Vals vs us)
  (x:InCallC s s.heap.objs.size (bindL (envOfC qual scope s.heap.objs.size f cd).kindOf (ps.zip us) λ_=>none) (cellsFrom (s.heap.objs.size+1) scope.names []) (bindC (envOfC qual scope s.heap.objs.size f cd).kindOf (ps.zip us) λ_=>none) s1) :
  Inv (GQ CX P w K mg base N qual scope f cd A outer s H E) [] (A8 N vs) H s1:=by
 have CF:ps.length<=N.length:=by have:=congrArg List.length S.pre;rw[List.length_take]at this;omega
 obtain⟨h1,tk,rfl,hk⟩:=x.done
 have noA:∀ b:Addr,b∉(GQ CX P w K mg base N qual scope f cd A outer s H E).ex:=λb z=>absurd (show b∈([]:List Addr)from z) (by simp)
 refine⟨⟨e0.mod,S.kind,rfl,rfl,Nat.le_refl _,λy z c h1 h2=> ?_,λy hy=> ?_,λy c _ h=> ?_,λ_=>hd,Around.frames_deeper e0.frames,.inr ⟨rfl,rfl⟩,λb z=>absurd z (noA b),e0.bs,e0.bsz,λb _ _=>noA b,λb z=>absurd z (noA b),e0.funs,e0.frf⟩,
  rfl,e0.bare,Un.kept hk,⟨_,x.toInCall.ns,λi y v h1 h2 h3=> ?_⟩,λy c h=>⟨_,x.cell y c h⟩,e0.hok.fresh (Nat.le_refl _),λy c h=> ?_,λp hp=>absurd (show p∈([]:List (Addr × Obj))from hp) (by simp),e0.hok.kept hk,?_⟩
 ·exact name_of_addr x.apart (PySem.mem_of_lookup h1) (PySem.mem_of_lookup h2)
 ·have hy:scope.names.lookup y=some .cell\/scope.names.lookup y=some .free:=hy
  rcases hy with hy | hy
  ·exact aL hy
  ·exact absurd rfl (S.nofree _ (PySem.mem_of_lookup hy))
 ·exact Nat.le_of_lt (x.above y c (PySem.mem_of_lookup h))
 ·have hi:i<vs.length:=by
   unfold A8 at h2
   by_cases hi:i<vs.length
   ·exact hi
   ·rw[List.getElem?_append_right (by simpa using hi)]at h2
    rw[List.getElem?_replicate]at h2
    split at h2<;>cases h2
  have ha:vs[i]? =some v:=by
   unfold A8 at h2
   rw[List.getElem?_append_left (by simpa using hi),List.getElem?_map]at h2
   cases e:vs[i]? with
   | none=>rw[e]at h2;cases h2
   | some a=>rw[e]at h2;cases h2;rfl
  obtain⟨u,hu,rv⟩:=r.get ha
  have hp:ps[i]? =some y:=by
   rw[<-S.pre,List.getElem?_take_of_lt (by omega)];exact h1
  have ndP:ps.Nodup:=by rw[<-S.pre];exact S.nd.sublist (List.take_sublist _ _)
  refine⟨u,rv,?_⟩
  rcases S.par y (List.mem_of_getElem? hp)with k | k
  ·exact .inl ⟨k,aJ ndP hp hu k⟩
  ·obtain⟨c,e⟩:=aL (n:=s.heap.objs.size+1) k
   refine .inr ⟨.inl k,c,e,?_⟩
   have q:=x.cell y c e
   rw[aK ndP hp hu (by show scope.names.lookup y≠_;rw[k];decide)]at q
   exact q
 ·exact e0.hok.fresh (Nat.le_of_lt (x.above y c (PySem.mem_of_lookup h)))
 ·unfold A8
  show _=N.length
  rw[List.length_append,List.length_map,List.length_replicate]
  omega
theorem sD{CX:F9}{P:Program}{w:World}{K:W.Frag}{mg:Str->Option Value}{base:Heap}{k:Nat}{f:Addr}{name qual:Str}{params:Arguments}{body:List Stmt}{scope:Scope}{dV kV doc pm BR ct oc:Value}{an od:Option Addr}
  {osl:Array (Option Value)} {N ps:List Str} {sp:Sp} (lk:K.lookup f=some ⟨oc,od,.func (W.fnOf name qual params body scope dV kV doc pm an BR ct),osl⟩) (HR:W.codeIn K BR qual=true) (S:FnScope N ps scope)
  (len:∀ vs H Q E,sp vs H Q E->vs.length=ps.length)
  (ZL:∀ (A:Around) (outer:List Env) (s:Shared) (H:Hp) (vs:List V) (Q:VK) (E:XK),Room k (A.deeper (envOfC qual scope s.heap.objs.size f BR))->sp vs H Q E →
   ∃ t,FN (GQ CX P w K mg base N qual scope f BR A outer s H E) body t/\t { nx:=λ_ H'=>Q .non H',rt:=Q } (A8 N vs) H) :
  FnOk P w K mg base CX (k+1) f (W.fnOf name qual params body scope dV kV doc pm an BR ct) ps sp:=by
 refine⟨len,λA outer s H args us vs Q E hr e0 hb r hsp=> ?_⟩
 have hl:=len _ _ _ _ hsp
 have KX:K.In s.heap:=e0.mod.kin.keeps λb o e=>(e0.bs b o e).1
 have lim:s.heap.NoLimit:=e0.mod.nolimit.keeps λb o e=>(e0.bs b o e).1
 have hkind:∀ y∈ps.zip us,scope.names.lookup y.1=some .local\/(scope.names.lookup y.1=some .cell/\((cellsFrom (s.heap.objs.size+1) scope.names []).lookup y.1).isSome=true):=λ⟨n,v⟩ hy=>by
  rcases S.par n (List.of_mem_zip hy).1 with q | q
  ·exact .inl q
  ·exact .inr ⟨q,W.cellsFrom_some _ _ _ (.inl q)⟩
 refine codeAny_call_function hr.depth (KX _ _ lk) rfl S.co S.gen rfl (W.codeRec_of KX HR) (hb _ _ _ _ ?_)
 refine wpAny_newFunctionEnv_cells S.kind hkind λenv he s1 x=> ?_
 subst he
 refine⟨lim.keeps x.toInCall.keep,codeAny_func ?_⟩
 obtain⟨t,ht,hq⟩:=ZL A outer s H vs Q E (hr.deeper _) hsp
 have I:Inv (GQ CX P w K mg base N qual scope f BR A outer s H E) [] (A8 N vs) H s1:=sC S hr.hd e0 hl r x
 refine wpAny_mono (ht [] s1 (A8 N vs) H _ I hq) (λfl s' hs=> ?_) λe s' hs=>hs
 have fin:∀ {σ':St} {H':Hp} {v:V} {u:Value},Inv (GQ CX P w K mg base N qual scope f BR A outer s H E) [] σ' H' s'->RelV v u->Q v H'->CE outer P w H s Q u s' :=
  λ{σ' H' v u} J rv q=>⟨v,H',J.os,J.bare,J.base,J.hok,rv,q⟩
 cases fl with
 | ret u =>
  obtain⟨v,σ',H',J,rv,q⟩:=hs
  exact fin J rv q
 | next =>
  obtain⟨σ',H',J,q⟩:=hs
  exact fin (v:=V.non) (u:=Value.none) J rfl q
 | brk =>
  obtain⟨_,_,_,q⟩:=hs
  exact False.elim q
 | cont =>
  obtain⟨_,_,_,q⟩:=hs
  exact False.elim q
end L2
namespace L2
section
variable{X:Cx}{x:Str}{p pos:Pos}{e:Expr}{es:List Expr}{t:TA}{id T:String}{r:List V->Hp->VK->Prop}
def C2(r:List V->Hp->VK->Prop)(t:TA):TE:=λσ H Q=>t σ H λvs H1=>r vs H1 Q
theorem EB(hc:E8 X (.builtin id) r)(hg:Gl X x)(hm:X.mg x=none)(hv:bootBuiltins x=some (.builtin id))(ha:PA X (e::es) t)(hn:x≠"__name__":=by decide)(hdb:(x ==("__debug__":Str))=false:=by decide)
  (he:starEach (e::es) X.env=(false,eval e X.env)::starEach es X.env:=by rfl) (CF:(backTo pos (starEach es X.env)).any (·.1)=false:=by rfl):PE X (.Call (.Name x p) (e::es) [] pos) (C2 r t):=by
 intro AA s σ H Q I h
 refine wpAny_Call_Name_kw (MA I hg hm hv ?_ hn hdb)
 exact PyProof.Rows.callWith_builtin1 (AV (ha pos AA s σ H _ I h) λus s1 ⟨vs,H1,I1,r1,q1⟩=>hc AA s1 σ H1 vs us Q I1 r1 q1) he CF
theorem IV(hc:E8 X (.type T) r)(hg:Gl X x)(hm:X.mg x=none)(hv:bootBuiltins x=some (.type T))(ha:PA X (e::es) t)(hn:x≠"__name__":=by decide)(hdb:(x ==("__debug__":Str))=false:=by decide)
  (he:starEach (e::es) X.env=(false,eval e X.env)::starEach es X.env:=by rfl) (CF:(backTo pos (starEach es X.env)).any (·.1)=false:=by rfl):PE X (.Call (.Name x p) (e::es) [] pos) (C2 r t):=by
 intro AA s σ H Q I h
 refine wpAny_Call_Name_kw (MA I hg hm hv ?_ hn hdb)
 exact PyProof.Rows.callWith_type1 (AV (ha pos AA s σ H _ I h) λus s1 ⟨vs,H1,I1,r1,q1⟩=>hc AA s1 σ H1 vs us Q I1 r1 q1) he CF
end
end L2
namespace HT
open PySem PyProof.Rows
section
open PySem.SeqAt
open PySem.AutoSeq1 (wpAny_loadPart')
open PySem.MeetsSeq PySem.MeetsSeq2 PySem.MeetsSeq3
end
section
variable{prog:Program}{w:World}{A:Around}{E:Value->Shared->Prop}{s:Shared}
theorem cat_tup{t b:Addr}{vs ws:List Value}{Q:Value->Shared->Prop}(ht:IsTup s.heap t vs.toArray)(hb:IsTup s.heap b ws.toArray)(hv:vs≠[])
  (h1:ws=[]->Q (.ref t) s) (h2:ws≠[]->Q (.ref s.heap.objs.size) { s with heap:=s.heap.push { cls:=.type "tuple",data:=.seq (vs++ws).toArray } })
  (hsz:vs.length+ws.length<=sizeLine):wpAny (model prog w) A (binaryOp .Add (.ref t) (.ref b)) Q E s:=by
 obtain⟨⟨cls,dd,data,sl⟩,ho,hc,n,hd⟩:=id ht
 obtain⟨⟨cls2,dd2,data2,sl2⟩,ho2,hc2,n2,hd2⟩:=id hb
 simp only at hc hd hc2 hd2
 subst hc hd hc2 hd2
 have e:vs.toArray++ws.toArray=(vs++ws).toArray:=by simp
 by_cases hw:ws=[]
 ·exact concat_meets ⟨_,ho,rfl⟩ ⟨_,ho2,rfl⟩ noFill_tuple_add seq_tuple_add PySem.F.slot_tuple_add PySem.F.entry_tuple_add (PySem.F.args_tuple_add_2 _ _)
   (tuple_addW1 t b vs.toArray ws.toArray n n2 dd dd2 sl sl2 (by simpa using hv) (by simp[hw])) ⟨ho,ho2,h1 hw⟩
 ·refine concat_meets ⟨_,ho,rfl⟩ ⟨_,ho2,rfl⟩ noFill_tuple_add seq_tuple_add PySem.F.slot_tuple_add PySem.F.entry_tuple_add (PySem.F.args_tuple_add_2 _ _)
   (tuple_addW2 t b vs.toArray ws.toArray n n2 dd dd2 sl sl2 (by simpa using hv) (by simpa using hw) (by rw[List.size_toArray,List.size_toArray];exact hsz)) ⟨ho,ho2,?_⟩
  rw[e]
  exact h2 hw
def sIx(n d:Nat):Option Int->Nat
 | none=>d
 | some v=>if v<0 then(v+(n:Int)).toNat else min v.toNat n
theorem sIx_none(n d:Nat):sIx n d none=d:=rfl
theorem sE(n d:Nat)(hd:d<=n)(o:Option Int):sIx n d o<=n:=by
 cases o with
 | none=>exact hd
 | some v =>
  show(if v<0 then(v+(n:Int)).toNat else min v.toNat n)<=n
  by_cases hv:v<0
  ·rw[if_pos hv];omega
  ·rw[if_neg hv];exact Nat.min_le_right _ _
theorem aM(v:Int)(n d:Nat):(if v<0 then max (v+(n:Int)) 0 else min v (n:Int))=((sIx n d (some v):Nat):Int):=by
 show(if v<0 then max (v+(n:Int)) 0 else min v (n:Int))=(((if v<0 then(v+(n:Int)).toNat else min v.toNat n):Nat):Int)
 by_cases hv:v<0
 ·simp only[if_pos hv];omega
 ·simp only[if_neg hv];omega
theorem sF(lo hi:Option Int)(n:Nat):Builtin.Slice.sliceAdjust lo hi 1 (n:Int)=(((sIx n 0 lo:Nat):Int),((sIx n n hi:Nat):Int)):=by
 have h1:¬ ((1:Int)<0):=by omega
 unfold Builtin.Slice.sliceAdjust
 simp only[h1,if_false]
 refine Prod.ext ?_ ?_
 ·cases lo with
  | none=>rfl
  | some v=>exact aM v n 0
 ·cases hi with
  | none=>rfl
  | some v=>exact aM v n n
theorem sG(i j:Nat):Builtin.Slice.slicePlaces (i:Int) (j:Int) 1=j - i:=by
 unfold Builtin.Slice.slicePlaces
 have h1:(1:Int) > 0:=by omega
 simp only[h1,if_true,Int.ediv_one]
 split<;>omega
theorem aN{v:Value}{o:Option Int}{Q:Option Int->Shared->Prop}(p:IsPart v o)(h:Q o s):wpAny (model prog w) A (Builtin.Slice.slicePartIndex v) Q E s:=by
 cases p with
 | none=>exact slicePart_none h
 | int i t=>exact slicePart_int h
theorem sI{sl:Addr}{vl vu:Value}{lo hi:Option Int}{n:Nat}{Q:Int × Int × Nat->Shared->Prop}(hs:s.heap.IsSliceOf sl vl vu .none)(pl:IsPart vl lo)(pu:IsPart vu hi)
  (h:Q (((sIx n 0 lo:Nat):Int),1,sIx n n hi - sIx n 0 lo) s):wpAny (model prog w) A (Builtin.Slice.sliceApplied (.ref sl) (pure (n:Int))) Q E s:=by
 obtain⟨os,hos,hcs,hds⟩:=id hs
 unfold Builtin.Slice.sliceApplied Builtin.Slice.sliceFields
 refine wpAny_bind (wpAny_bind (wpAny_field hos hds (x:=vl) rfl (wpAny_bind (wpAny_field hos hds (x:=vu) rfl (wpAny_bind (wpAny_field hos hds (x:=.none) rfl (wpAny_pure ?_)))))))
 refine wpAny_bind (slicePart_none ?_)
 show wpAny _ _ (if((1:Int) == 0)=true then _ else _) _ _ s
 rw[if_neg (by decide)]
 refine wpAny_bind (aN pl (wpAny_bind (aN pu (wpAny_bind (wpAny_pure ?_)))))
 show wpAny _ _ (match Builtin.Slice.sliceAdjust lo hi 1 (n:Int)with | (lo,hi)=>pure (lo,(1:Int),Builtin.Slice.slicePlaces lo hi 1)) _ _ s
 rw[sF lo hi n]
 show wpAny _ _ (pure (((sIx n 0 lo:Nat):Int),(1:Int),Builtin.Slice.slicePlaces ((sIx n 0 lo:Nat):Int) ((sIx n n hi:Nat):Int) 1)) _ _ s
 rw[sG]
 exact wpAny_pure h
theorem sJ(xs:Array Value)(i k:Nat):((List.range k).filterMap λ(m:Nat)=>xs[((i:Int)+(m:Int) * 1).toNat]?).toArray=((xs.toList.drop i).take k).toArray:=by
 have e:(λ(m:Nat)=>xs[((i:Int)+(m:Int) * 1).toNat]?)=λm=>xs[i+m]? :=by
  funext m
  have:((i:Int)+(m:Int) * 1).toNat=i+m:=by omega
  rw[this]
 rw[e]
 have:=pick_run xs i k
 rw[List.filterMap_map]at this
 have e2:((λx=>xs[x]?) ∘ λx=>i+x)=λm=>xs[i+m]? :=rfl
 rw[e2]at this
 rw[this]
theorem getItem_tuple_cut{t sl:Addr}{BG:Array Value}{vl vu:Value}{lo hi:Option Int}{Q:Value->Shared->Prop}(ht:IsTup s.heap t BG)(hs:s.heap.IsSliceOf sl vl vu .none)(pl:IsPart vl lo)(pu:IsPart vu hi)
  (hw:¬ (sIx BG.size 0 lo=0/\sIx BG.size BG.size hi=BG.size))
  (h:Q (.ref s.heap.objs.size) { s with heap:=s.heap.push { cls:=.type "tuple",data:=.seq ((BG.toList.drop (sIx BG.size 0 lo)).take (sIx BG.size BG.size hi - sIx BG.size 0 lo)).toArray } })
  (hsz:BG.size<=sizeLine):wpAny (model prog w) A (getItem (.ref t) (.ref sl)) Q E s:=by
 have htake:sizeOk (.seq ((BG.toList.drop (sIx BG.size 0 lo)).take (sIx BG.size BG.size hi - sIx BG.size 0 lo)).toArray):=by
  show((BG.toList.drop (sIx BG.size 0 lo)).take (sIx BG.size BG.size hi - sIx BG.size 0 lo)).toArray.size<=sizeLine
  rw[List.size_toArray,List.length_take,List.length_drop,Array.length_toList]
  omega
 have hj:sIx BG.size BG.size hi<=BG.size:=sE _ _ (Nat.le_refl _) hi
 obtain⟨os,hos,hcs,hds⟩:=id hs
 have hTs:s.TypeIs (.ref sl) "slice":=⟨os,hos,hcs⟩
 unfold getItem
 try with_reducible refine wpAny_holding ?_
 first | refine wpAny_bind (wpAny_pure ?_) | skip
 refine wpAny_bind (wpAny_sequenceKey ht.typeIs (by decide) ?_)
 refine wpAny_bind (wpAny_callSpecial?_slot (name:=Str.ofString "__getitem__") ht.typeIs PyProof.Rows.slot_tuple_getitem
  (wpAny_call_entry PyProof.Rows.slot_tuple_getitem ht.typeIs entry_tuple_getitem ?_ (args_tuple_getitem _ _)))
 show wpAny _ _ (Builtin.Tuple.tupleItemsOf (.ref t) >>= _) _ _ s
 refine wpAny_bind (tupleItemsOf_ ht ?_)
 refine wpAny_bind (wpAny_typeOf hTs ?_)
 rw[if_pos (by decide)]
 refine wpAny_bind (sI hs pl pu ?_)
 have hno:¬ ((((sIx BG.size 0 lo:Nat):Int) == 0 && (1:Int) == 1 && (sIx BG.size BG.size hi - sIx BG.size 0 lo) == BG.size)=true):=by
  intro q
  rw[Bool.and_eq_true,Bool.and_eq_true]at q
  have q1:((sIx BG.size 0 lo:Nat):Int)=0:=eq_of_beq q.1.1
  have q2:sIx BG.size BG.size hi - sIx BG.size 0 lo=BG.size:=eq_of_beq q.2
  exact hw ⟨by omega,by omega⟩
 show wpAny _ _ (if(((sIx BG.size 0 lo:Nat):Int) == 0 && (1:Int) == 1 && (sIx BG.size BG.size hi - sIx BG.size 0 lo) == BG.size)=true then _ else _) _ _ s
 rw[if_neg hno,sJ]
 first
  | exact wpAny_bind (m:=Builtin.Tuple.tupleExact _) (wpAny_newObj_type (wpAny_pure ⟨_,rfl,wpAny_pure h⟩) htake)
  | exact wpAny_bind (m:=Builtin.Tuple.tupleExact _) (wpAny_newObj_type (wpAny_bind (wpAny_pure (wpAny_pure ⟨_,rfl,wpAny_pure h⟩))) htake)
  | exact wpAny_bind (wpAny_bind (m:=Builtin.Tuple.tupleExact _) (wpAny_newObj_type (wpAny_pure (wpAny_pure ⟨_,rfl,wpAny_pure h⟩)) htake))
  | exact wpAny_bind (wpAny_bind (m:=Builtin.Tuple.tupleExact _) (wpAny_newObj_type (wpAny_pure ⟨_,rfl,wpAny_pure h⟩) htake))
end
end HT
namespace L2
abbrev TO:=St->Hp->(Option Int->Hp->Prop)->Prop
def PO(X:Cx)(e:Option Expr)(t:TO):Prop :=
 ∀ (AA:List (Addr × Obj)) (s:Shared) (σ:St) (H:Hp) (Q:Option Int->Hp->Prop),Inv X AA σ H s->t σ H Q →
  wpAny (model X.prog X.w) X.A (evalPart e X.env) (λu s'=>∃ o H',Inv X AA σ H' s'/\IsPart u o/\Q o H') X.xe s
def J1:TO:=λ_ H Q=>Q none H
def J2(t:TE):TO:=λσ H Q=>t σ H λx H1=>∃ i,x=.int i/\Q (some i) H1
section
variable{X:Cx}{e:Expr}{te:TE}{lo hi:Option Expr}{tl th:TO}{pos p2:Pos}
theorem MK:PO X none J1:=by
 intro AA s σ H Q I h
 rw[evalPart_none]
 exact wpAny_pure ⟨none,H,I,.none,h⟩
theorem ML(h:PE X e te):PO X (some e) (J2 te):=by
 intro AA s σ H Q I hw
 rw[evalPart_some]
 refine AV (h AA s σ H _ I hw) λu s1 hzz=> ?_
 obtain⟨x,H1,I1,r1,q1⟩:=hzz
 obtain⟨i,rfl,q⟩:=q1
 obtain⟨t,rfl⟩:=r1
 exact⟨some i,H1,I1,.int i t,q⟩
def SlR(X:Cx)(r:V->Option Int->Option Int->Hp->VK->Prop):Prop :=
 ∀ (AA:List (Addr × Obj)) (s:Shared) (σ:St) (H:Hp) (x:V) (v vl vu:Value) (lo hi:Option Int) (sl:Addr) (Q:VK),Inv X AA σ H s->RelV x v->s.heap.IsSliceOf sl vl vu .none->IsPart vl lo->IsPart vu hi->r x lo hi H Q →
  ∃ T id,typeLookup (.type T) "__getitem__"=pure (some (.builtin id))/\s.TypeIs v T/\wpAny (model X.prog X.w) X.A (getItem v (.ref sl)) (EP X AA σ Q) X.xe s
theorem SlR.or{r r':V->Option Int->Option Int->Hp->VK->Prop}(h:SlR X r)(h':SlR X r'):SlR X (λx lo hi H Q=>r x lo hi H Q\/r' x lo hi H Q):=by
 intro AA s σ H x v vl vu lo hi sl Q I rx hs pl pu q
 rcases q with q | q
 ·exact h AA s σ H x v vl vu lo hi sl Q I rx hs pl pu q
 ·exact h' AA s σ H x v vl vu lo hi sl Q I rx hs pl pu q
def J3(r:V->Option Int->Option Int->Hp->VK->Prop)(te:TE)(tl th:TO):TE:=λσ H Q=>te σ H λx H1=>tl σ H1 λl H2=>th σ H2 λu H3=>r x l u H3 Q
theorem MM{r:V->Option Int->Option Int->Hp->VK->Prop}(hr:SlR X r)(he:PE X e te)(hl:PO X lo tl)(hu:PO X hi th):PE X (.Subscript e (.Slice lo hi none p2) pos) (J3 r te tl th):=by
 intro AA s σ H Q I h
 refine Subscript_ (AV (he AA s σ H _ I h) λv s1 hzz=> ?_)
 obtain⟨x,H1,I1,r1,q1⟩:=hzz
 refine wpAny_Slice (AV (hl AA s1 σ H1 _ I1 q1) λvl s2 ⟨l,H2,I2,pl,q2⟩=>AV (hu AA s2 σ H2 _ I2 q2) λvu s3 hzz=> ?_)
 obtain⟨u,H3,I3,pu,q3⟩:=hzz
 rw[evalPart_none]
 refine wpAny_pure ?_
 have I4:Inv X AA σ H3 { s3 with heap:=s3.heap.push { cls:=.type "slice",data:=.fields #[vl,vu,.none] } }:=I3.kept (t':=s3.toks) λb ob q=>Heap.get?_push_of_some _ q
 obtain⟨T,id,hT,ht,hg⟩:=hr AA { s3 with heap:=s3.heap.push { cls:=.type "slice",data:=.fields #[vl,vu,.none] } } σ H3 x v vl vu l u s3.heap.objs.size Q I4 r1 (Heap.IsSliceOf.new ..) pl pu q3
 show wpAny (model X.prog X.w) X.A (subscriptTail e (.Slice lo hi none p2) v (.ref s3.heap.objs.size)) (EP X AA σ Q) X.xe { s3 with heap:=s3.heap.push { cls:=.type "slice",data:=.fields #[vl,vu,.none] } }
 exact tail_any (ops:=[.ref s3.heap.objs.size,v]) ht hT hg (by with_unfolding_all rfl)
def EQ(xs:List V)(lo hi:Option Int):List V:=(xs.drop (HT.sIx xs.length 0 lo)).take (HT.sIx xs.length xs.length hi - HT.sIx xs.length 0 lo)
theorem aO(xs:List V)(lo hi:Option Int):(EQ xs lo hi).length<=xs.length:=by
 unfold EQ
 rw[List.length_take,List.length_drop]
 omega
def aP(K:W.Frag):V->Option Int->Option Int->Hp->VK->Prop:=λx lo hi H Q=>∃ a xs,x=.ref a/\SqT K H a xs ∧
 ¬ (HT.sIx xs.length 0 lo=0/\HT.sIx xs.length xs.length hi=xs.length)/\∀ p,H p=none->Q (.ref p) (upd H p (.tup (EQ xs lo hi)))
theorem sK:SlR X (aP X.K):=by
 intro AA s σ H x v vl vu lo hi sl Q I rx hs pl pu h
 obtain⟨a,xs,rfl,hx,hw,q⟩:=h
 cases rx
 obtain⟨its,r,ht,hz⟩:=I.tuple hx
 have BT:its.toArray.size=xs.length:=by rw[List.size_toArray];exact r.length.symm
 refine⟨"tuple",_,PyProof.Rows.slot_tuple_getitem.lookup,ht.typeIs,?_⟩
 refine HT.getItem_tuple_cut ht hs pl pu (by rw[BT];exact hw) ?_ (by rw[BT];exact hz)
 rw[BT]
 refine⟨.ref s.heap.objs.size,_,I.laid (t':=s.toks) (o:=.tup (EQ xs lo hi)) (λb ob q=>Heap.get?_push_of_some _ q) (Nat.le_refl _) ?_,rfl,q _ (I.hok.fresh (Nat.le_refl _))⟩
 exact⟨Nat.le_trans (aO xs lo hi) hz,_,(r.drop (HT.sIx xs.length 0 lo)).take (HT.sIx xs.length xs.length hi - HT.sIx xs.length 0 lo),IsTup.new _ _⟩
def RQ(K:W.Frag):R2:=λx y H Q=>∃ a b xs ys,x=.ref a/\y=.ref b/\SqT K H a xs/\SqT K H b ys/\xs≠[]/\xs.length+ys.length<=sizeLine ∧
 (ys=[]->Q (.ref a) H)/\(ys≠[]->∀ p,H p=none->Q (.ref p) (upd H p (.tup (xs++ys))))
theorem Vals.nil_iff{xs:List V}{us:List Value}(r:Vals xs us):us=[]↔xs=[]:=by
 cases r with
 | nil=>simp
 | cons _ _=>simp
theorem sL:B1 X (binaryOp .Add) (RQ X.K):=by
 intro AA s σ H x y v u Q I rx ry h
 obtain⟨a,b,xs,ys,rfl,rfl,ha,hb,hx,hz,q1,q2⟩:=h
 cases rx
 cases ry
 obtain⟨its,r1,p1,_⟩:=I.tuple ha
 obtain⟨NP,r2,p2,_⟩:=I.tuple hb
 refine HT.cat_tup p1 p2 (λz=>hx (r1.nil_iff.mp z)) (λz=>⟨.ref a,H,I,rfl,q1 (r2.nil_iff.mp z)⟩) (λz=> ?_) (by rw[<-r1.length,<-r2.length];exact hz)
 refine⟨.ref s.heap.objs.size,_,I.laid (t':=s.toks) (o:=.tup (xs++ys)) (λb ob q=>Heap.get?_push_of_some _ q) (Nat.le_refl _) ?_,rfl,q2 (λw=>z (r2.nil_iff.mpr w)) _ (I.hok.fresh (Nat.le_refl _))⟩
 exact⟨by rw[List.length_append];exact hz,_,r1.append r2,IsTup.new _ _⟩
end
end L2
namespace L2
def HY(n:Nat)(i:Int):Option Nat:=if 0<=i then(if i<n then some i.toNat else none)else if -(n:Int)<=i then some (i+n).toNat else none
def J4{α :Type}(xs:List α)(i:Int):Option α :=(HY xs.length i).bind λj=>xs[j]?
theorem aQ{n:Nat}{i:Int}{j:Nat}(h:HY n i=some j):seqIndex? i n=some j/\j<n/\ -(n:Int)<=i/\i<n:=by
 unfold HY at h
 by_cases h0:0<=i
 ·rw[if_pos h0]at h
  by_cases h1:i<n
  ·rw[if_pos h1]at h
   have e:i.toNat=j:=Option.some.inj h
   exact⟨by rw[seqIndex_of h0 h1,e],by omega,by omega,h1⟩
  ·rw[if_neg h1]at h;cases h
 ·rw[if_neg h0]at h
  by_cases h1: -(n:Int)<=i
  ·rw[if_pos h1]at h
   have e:(i+n).toNat=j:=Option.some.inj h
   exact⟨by rw[seqIndex_neg (by omega) h1,e],by omega,h1,by omega⟩
  ·rw[if_neg h1]at h;cases h
theorem RR{α :Type}{xs:List α}{i:Int}{v: α}(h:J4 xs i=some v):∃ j,seqIndex? i xs.length=some j/\xs[j]? =some v/\j<xs.length/\ -(xs.length:Int)<=i/\i<xs.length:=by
 unfold J4 at h
 cases e:HY xs.length i with
 | none=>rw[e]at h;cases h
 | some j =>
  rw[e]at h
  obtain⟨h1,h2,h3,h4⟩:=aQ e
  exact⟨j,h1,h,h2,h3,h4⟩
theorem N9{α :Type}{xs:List α}{j:Nat}{v: α}(h:xs[j]? =some v):J4 xs (j:Int)=some v:=by
 have hj:j<xs.length:=(List.getElem?_eq_some_iff.mp h).1
 have e:HY xs.length (j:Int)=some j:=by
  unfold HY
  rw[if_pos (by omega),if_pos (by omega)];simp
 unfold J4;rw[e];exact h
def sM(b:Expr):Prop:=∀ o i,subscripted b false o i=operate [o,i] (getItem o i)
def IxR(X:Cx)(r:R2):Prop :=
 ∀ (value slice:Expr) (AA:List (Addr × Obj)) (s:Shared) (σ:St) (H:Hp) (x y:V) (v u:Value) (Q:VK),Inv X AA σ H s->RelV x v->RelV y u->r x y H Q →
  subscripted slice false v u=operate [v,u] (getItem v u)->wpAny (model X.prog X.w) X.A (subscriptTail value slice v u) (EP X AA σ Q) X.xe s
def RS(X:Cx)(id:String)(r:V->List V->Hp->VK->Prop):Prop :=
 ∀ (AA:List (Addr × Obj)) (s:Shared) (σ:St) (H:Hp) (x:V) (xs:List V) (v:Value) (us:List Value) (Q:VK),Inv X AA σ H s->RelV x v->Vals xs us->r x xs H Q →
  wpAny (model X.prog X.w) X.A (call (.builtin id) (v::us)) (EP X AA σ Q) X.xe s
section
variable{X:Cx}{a b:Expr}{ta tb:TE}{pos:Pos}
theorem IxR.or{r r':R2}(h:IxR X r)(h':IxR X r'):IxR X (λx y H Q=>r x y H Q\/r' x y H Q):=by
 intro value slice AA s σ H x y v u Q I rx ry q hs
 rcases q with q | q
 ·exact h value slice AA s σ H x y v u Q I rx ry q hs
 ·exact h' value slice AA s σ H x y v u Q I rx ry q hs
theorem CC{r:R2}(hr:IxR X r)(ha:PE X a ta)(hb:PE X b tb)(hs:sM b):PE X (.Subscript a b pos) (AG r ta tb):=by
 intro AA s σ H Q I h
 exact Subscript_ (RI ha hb I h λv u s2 x y H2 I2 rx ry q=>hr a b AA s2 σ H2 x y v u Q I2 rx ry q (hs _ _))
def aR(K:W.Frag):R2:=λx y H Q=>∃ p xs i v,x=.ref p/\y=.int i/\SqL K H p xs/\J4 xs i=some v/\Q v H
def aS(K:W.Frag):R2:=λx y H Q=>∃ p xs i v,x=.ref p/\y=.int i/\SqT K H p xs/\J4 xs i=some v/\Q v H
def aT:R2:=λx y H Q=>∃ z i c,x=.str z/\y=.int i/\z.length<=sizeLine/\J4 z.cps.toList i=some c/\Q (.str ⟨#[c]⟩) H
theorem sN:IxR X (aR X.K):=by
 intro value slice AA s σ H x y v u Q I rx ry h hs
 obtain⟨p,xs,i,z,rfl,rfl,hq,he,q⟩:=h
 cases rx
 obtain⟨t,rfl⟩:=ry
 obtain⟨its,r,pl,hz⟩:=I.list hq
 obtain⟨j,h1,h2,h3,h4,h5⟩:=RR he
 obtain⟨w,ew,rw'⟩:=r.get h2
 have hl:=r.length
 have hn:=KR
 have fin:EP X AA σ Q w s:=⟨z,H,I,rw',q⟩
 by_cases h0:0<=i
 ·have hj:i.toNat=j:=by
   rw[seqIndex_of h0 h5]at h1
   exact Option.some.inj h1
  exact item_listR pl.isList h0 (by omega) (by rw[hj];simpa using ew) fin hs
 ·have hj:(i+(its.toArray.size:Int)).toNat=j:=by
   rw[seqIndex_neg (by omega) h4]at h1
   rw[List.size_toArray,<-hl]
   exact Option.some.inj h1
  exact subscriptTail_builtinR (x:=w) pl.isList.typeIs slot_list_getitem.lookup
   (wpAny_getItem_list_neg (Q:=λr s'=>r=w/\EP X AA σ Q r s') pl.isList (by omega) (by rw[List.size_toArray]<;>omega) (by omega) (by rw[hj];simpa using ew) ⟨rfl,fin⟩) hs
theorem sO:IxR X (aS X.K):=by
 intro value slice AA s σ H x y v u Q I rx ry h hs
 obtain⟨p,xs,i,z,rfl,rfl,hq,he,q⟩:=h
 cases rx
 obtain⟨t,rfl⟩:=ry
 obtain⟨its,r,pl,hz⟩:=I.tuple hq
 obtain⟨j,h1,h2,h3,h4,h5⟩:=RR he
 obtain⟨w,ew,rw'⟩:=r.get h2
 have hl:=r.length
 have hn:=KR
 have fin:EP X AA σ Q w s:=⟨z,H,I,rw',q⟩
 exact subscriptTail_builtinR (x:=w) pl.typeIs slot_tuple_getitem.lookup
  (getItem_tuple (j:=j) (Q:=λr s'=>r=w/\EP X AA σ Q r s') pl (by omega) (by omega) (by rw[List.size_toArray,<-hl];exact h1) (by simpa using ew) ⟨rfl,fin⟩) hs
theorem sP:IxR X aT:=by
 intro value slice AA s σ H x y v u Q I rx ry h hs
 obtain⟨z,i,c,rfl,rfl,hz,he,q⟩:=h
 obtain⟨t,rfl⟩:=rx
 obtain⟨t',rfl⟩:=ry
 obtain⟨j,h1,h2,h3,h4,h5⟩:=RR he
 have hl:z.cps.toList.length=z.length:=by simp[Str.length]
 rw[hl]at h1 h4 h5
 have hn:=KR
 exact tail_any (typeIs_str s z t) slot_str_getitem.lookup (getItem_str (c:=c) (by
  have e1:decide (i< -(2 ^ 63:Int))=false:=decide_eq_false (by omega)
  have e2:decide (i ≥ 2 ^ 63)=false:=decide_eq_false (by omega)
  rw[e1,e2,Bool.or_false]) (by rw[h1];simpa using h2) ⟨.str ⟨#[c]⟩,H,I.tok _,⟨_,rfl⟩,q⟩) hs
def aU(K:W.Frag):R2:=λx y H Q=>aR K x y H Q\/aS K x y H Q\/aT x y H Q
theorem sQ:IxR X (aU X.K):=sN.or (sO.or sP)
theorem sR(its:List Value)(n j:Nat)(u:Value):Obj.mapSeq (·.setIfInBounds j u) { cls:=.type "list",data:=.seq its.toArray n }={ cls:=.type "list",data:=.seq (its.set j u).toArray n }:=by
 simp[Obj.mapSeq]
theorem Inv.lst{AA:List (Addr × Obj)}{σ:St}{H:Hp}{s:Shared}{p:Addr}{xs:List V}(I:Inv X AA σ H s)(h:H p=some (.lst xs)) :
  ∃ (its:List Value) (n:Nat),Vals xs its/\s.heap.get? p=some { cls:=.type "list",data:=.seq its.toArray n }/\xs.length<=sizeLine:=by
 obtain⟨z,its,n,r,e⟩:=I.hok p _ h
 exact⟨its,n,r,e,z⟩
theorem Inv.lstUpd{AA:List (Addr × Obj)}{σ:St}{H:Hp}{s:Shared}{p:Addr}{xs ys:List V}{its its':List Value}{n n':Nat}{f:Obj->Obj}(I:Inv X AA σ H s)(h:H p=some (.lst xs))
  (ho:s.heap.get? p=some { cls:=.type "list",data:=.seq its.toArray n }) (hf:f { cls:=.type "list",data:=.seq its.toArray n }={ cls:=.type "list",data:=.seq its'.toArray n' }) (r:Vals ys its') (hz:ys.length<=sizeLine) (t:Nat) :
  Inv X AA σ (upd H p (.lst ys)) { s with heap:=s.heap.update p f,toks:=t }:=by
 have e:(s.heap.update p f).get? p=some { cls:=.type "list",data:=.seq its'.toArray n' }:=by
  rw[Heap.get?_update_self f ho (by rw[hf]<;>rfl),hf]
 refine I.write (x:=p) (e:=p) (by rw[h];trivial) (.inl rfl) (λb u hb q=>(Heap.get?_update_other _ _ (Ne.symm hb)).trans q) ⟨_,e⟩ ?_
 exact⟨hz,its',n',r,e⟩
def aV:V->V->V->Hp->(Hp->Prop)->Prop:=λo i v H Q=>∃ p xs k j,o=.ref p/\i=.int k/\H p=some (.lst xs)/\HY xs.length k=some j/\Q (upd H p (.lst (xs.set j v)))
theorem sS:RG X aV:=by
 intro AA s σ H o i v ov iv u Q I ro ri rv h
 obtain⟨p,xs,k,j,rfl,rfl,hp,hj,q⟩:=h
 cases ro
 obtain⟨t,rfl⟩:=ri
 obtain⟨its,n,r,ho,hz⟩:=I.lst hp
 obtain⟨h1,h2,h3,h4⟩:=aQ hj
 have hl:=r.length
 have hn:=KR
 have I':Inv X AA σ (upd H p (.lst (xs.set j v))) { s with heap:=s.heap.update p (Obj.mapSeq (·.setIfInBounds j u)) } :=
  I.lstUpd hp ho (sR its n j u) (r.set rv j) (by rw[List.length_set];exact hz) s.toks
 by_cases h0:0<=k
 ·have hk:k.toNat=j:=by
   rw[seqIndex_of h0 h4]at h1
   exact Option.some.inj h1
  exact W.ki_setAt ho h0 (by omega) (by rw[List.size_toArray,<-hl];exact h4) (by rw[hk];exact⟨_,I',q⟩)
 ·have hk:(k+(its.toArray.size:Int)).toNat=j:=by
   rw[seqIndex_neg (by omega) h3]at h1
   rw[List.size_toArray,<-hl]
   exact Option.some.inj h1
  exact W.ki_setBack ho (by omega) (by rw[List.size_toArray,<-hl];exact h3) (by omega) (by rw[hk];exact⟨_,I',q⟩)
theorem sT(lo hi:Option Int)(n:Nat):(sliceBounds lo hi none n).1=((HT.sIx n 0 lo:Nat):Int)/\(sliceBounds lo hi none n).2.1=((HT.sIx n n hi:Nat):Int)/\(sliceBounds lo hi none n).2.2=1:=by
 refine⟨?_,?_,rfl⟩
 ·cases lo with
  | none=>simp[sliceBounds,HT.sIx]
  | some i =>
   simp only[sliceBounds,HT.sIx,Option.getD_none,show(1:Int) > 0 by decide,if_true]
   by_cases h:i<0
   ·simp only[h,if_true]<;>omega
   ·simp only[h,if_false]<;>omega
 ·cases hi with
  | none=>simp[sliceBounds,HT.sIx]
  | some i =>
   simp only[sliceBounds,HT.sIx,Option.getD_none,show(1:Int) > 0 by decide,if_true]
   by_cases h:i<0
   ·simp only[h,if_true]<;>omega
   ·simp only[h,if_false]<;>omega
theorem sU(its:List Value)(lo hi:Option Int):slicePick its.toArray lo hi none=((its.drop (HT.sIx its.length 0 lo)).take (HT.sIx its.length its.length hi - HT.sIx its.length 0 lo)).toArray:=by
 obtain⟨h1,h2,h3⟩:=sT lo hi its.toArray.size
 unfold slicePick
 rw[h1,h2,h3]
 simp only[sliceRange_one,pick_run,List.size_toArray]<;>rfl
def aW(K:W.Frag):V->Option Int->Option Int->Hp->VK->Prop:=λx lo hi H Q=>∃ a xs,x=.ref a/\SqL K H a xs/\∀ p,H p=none->Q (.ref p) (upd H p (.lst (EQ xs lo hi)))
theorem sV:SlR X (aW X.K):=by
 intro AA s σ H x v vl vu lo hi sl Q I rx hs pl pu h
 obtain⟨a,xs,rfl,hx,q⟩:=h
 cases rx
 obtain⟨its,r,ht,hz⟩:=I.list hx
 have BT:=r.length
 refine⟨"list",_,slot_list_getitem.lookup,ht.isList.typeIs,?_⟩
 refine wpAny_getItem_list_slice ht.isList hs pl pu .none (by simp) ?_ (by rw[List.size_toArray]<;>omega)
 rw[sU,<-BT]
 refine⟨.ref s.heap.objs.size,_,I.laid (t':=s.toks) (o:=.lst (EQ xs lo hi)) (λb ob q=>Heap.get?_push_of_some _ q) (Nat.le_refl _) ?_,rfl,q _ (I.hok.fresh (Nat.le_refl _))⟩
 exact⟨Nat.le_trans (aO xs lo hi) hz,_,0,(r.drop (HT.sIx xs.length 0 lo)).take (HT.sIx xs.length xs.length hi - HT.sIx xs.length 0 lo),Heap.get?_push_size _ rfl⟩
def GB:V->Bool
 | .non=>true
 | .bl _=>true
 | .int _=>true
 | .str _=>true
 | _=>false
def HA:V->V->Bool
 | .non,.non=>true
 | .bl a,.bl b=>a == b
 | .bl a,.int b=>(if a then 1 else 0) == b
 | .int a,.bl b=>a ==(if b then 1 else 0)
 | .int a,.int b=>a == b
 | .str a,.str b=>a == b
 | _,_=>false
theorem sW{A:Around}{s:Shared}{y x:V}{u v:Value}(ry:RelV y u)(rx:RelV x v)(fy:GB y=true)(fx:GB x=true):SeqAt.EqAt A s u v (HA y x):=by
 cases y with
 | non =>
  cases ry
  cases x with
  | non=>cases rx;exact SeqAt.EqAt.same _
  | bl b=>cases rx;exact SeqAt.EqAt.none_bool b
  | int b=>obtain⟨t,rfl⟩:=rx;exact SeqAt.EqAt.none_int b t
  | str b=>obtain⟨t,rfl⟩:=rx;exact SeqAt.EqAt.none_str b t
  | _=>exact absurd (show false=true from fx) Bool.false_ne_true
 | bl a =>
  cases ry
  cases x with
  | non=>cases rx;exact SeqAt.EqAt.bool_none a
  | bl b=>cases rx;exact SeqAt.EqAt.bool_bool a b
  | int b=>obtain⟨t,rfl⟩:=rx;exact SeqAt.EqAt.bool_int a b t
  | str b=>obtain⟨t,rfl⟩:=rx;exact SeqAt.EqAt.bool_str a b t
  | _=>exact absurd (show false=true from fx) Bool.false_ne_true
 | int a =>
  obtain⟨t',rfl⟩:=ry
  cases x with
  | non=>cases rx;exact SeqAt.EqAt.int_none a t'
  | bl b=>cases rx;exact SeqAt.EqAt.int_bool a t' b
  | int b=>obtain⟨t,rfl⟩:=rx;exact SeqAt.EqAt.int_int a t' b t
  | str b=>obtain⟨t,rfl⟩:=rx;exact SeqAt.EqAt.int_str a t' b t
  | _=>exact absurd (show false=true from fx) Bool.false_ne_true
 | str a =>
  obtain⟨t',rfl⟩:=ry
  cases x with
  | non=>cases rx;exact SeqAt.EqAt.str_none a t'
  | bl b=>cases rx;exact SeqAt.EqAt.str_bool a t' b
  | int b=>obtain⟨t,rfl⟩:=rx;exact SeqAt.EqAt.str_int a t' b t
  | str b=>obtain⟨t,rfl⟩:=rx;exact SeqAt.EqAt.str_str a t' b t
  | _=>exact absurd (show false=true from fx) Bool.false_ne_true
 | _=>exact absurd (show false=true from fy) Bool.false_ne_true
def HZ(x:V)(u:Value):Bool:=match u with
 | .none=>HA .non x
 | .bool b=>HA (.bl b) x
 | .int i _=>HA (.int i) x
 | .str z _=>HA (.str z) x
 | _=>false
theorem aX{x y:V}{u:Value}(r:RelV y u)(f:GB y=true):HZ x u=HA y x:=by
 cases y with
 | non=>cases r;rfl
 | bl b=>cases r;rfl
 | int i=>obtain⟨t,rfl⟩:=r;rfl
 | str z=>obtain⟨t,rfl⟩:=r;rfl
 | _=>exact absurd (show false=true from f) Bool.false_ne_true
theorem RU{x:V}:∀ {xs:List V} {us:List Value},Vals xs us->xs.all GB=true->us.any (HZ x)=xs.any λy=>HA y x
 | _,_,.nil,_=>rfl
 | y::xs,u::us,.cons r t,f=>by
  rw[List.all_cons,Bool.and_eq_true]at f
  rw[List.any_cons,List.any_cons,aX r f.1,RU t f.2]
theorem RV{A:Around}{s:Shared}{x:V}{v:Value}(rx:RelV x v)(fx:GB x=true):∀ {xs:List V} {us:List Value},Vals xs us->xs.all GB=true->∀ u∈us,SeqAt.EqAt A s u v (HZ x u)
 | _,_,.nil,_=>λu hu=>by cases hu
 | y::xs,u::us,.cons r t,f=>λu' hu=>by
  rw[List.all_cons,Bool.and_eq_true]at f
  rcases List.mem_cons.mp hu with rfl | hu
  ·rw[aX r f.1];exact sW r rx f.1 fx
  ·exact RV rx fx t f.2 u' hu
def MN(x:V)(xs:List V):Bool:=xs.any λy=>HA y x
def aY(K:W.Frag)(neg:Bool):R2:=λx y H Q=>∃ p xs,y=.ref p/\(SqL K H p xs\/SqT K H p xs)/\GB x=true/\xs.all GB=true/\Q (.bl (if neg then !MN x xs else MN x xs)) H
theorem sX:B1 X (compareOp .In) (aY X.K false):=by
 intro AA s σ H x y v u Q I rx ry h
 obtain⟨p,xs,rfl,hq,fx,fs,q⟩:=h
 cases ry
 rcases hq with hq | hq
 ·obtain⟨its,r,pl,hz⟩:=I.list hq
  refine SeqAt.in_listAt (HZ x) pl.isList (λw hw=>RV rx fx r fs w (by simpa using hw)) ⟨.bl _,H,I,rfl,?_⟩
  rw[show its.toArray.any (HZ x)=its.any (HZ x) by simp,RU r fs]
  exact q
 ·obtain⟨its,r,pl,hz⟩:=I.tuple hq
  refine SeqAt.in_tupleAt (HZ x) pl (λw hw=>RV rx fx r fs w (by simpa using hw)) ⟨.bl _,H,I,rfl,?_⟩
  rw[show its.toArray.any (HZ x)=its.any (HZ x) by simp,RU r fs]
  exact q
theorem sY:E8 X (.type "list") (λxs H Q=>∃ p ys,xs=[.ref p]/\(SqL X.K H p ys\/SqT X.K H p ys)/\∀ l,H l=none->Q (.ref l) (upd H l (.lst ys))):=by
 intro AA s σ H xs us Q I r h
 obtain⟨p,ys,rfl,hq,q⟩:=h
 obtain⟨u,rfl,rx⟩:=HX r
 cases rx
 have fin:∀ (its:List Value),Vals ys its->ys.length<=sizeLine->∀ (h':Heap) (c':Nat),(∀ b o',s.heap.get? b=some o'->h'.get? b=some o') →
   h'.get? s.heap.objs.size=some { cls:=.type "list",dict:=none,data:=.seq its.toArray c',slots:= #[] }->EP X AA σ Q (.ref s.heap.objs.size) { s with heap:=h' }:=λits r' hz h' c' kp e =>
  ⟨.ref s.heap.objs.size,_,I.laid (t':=s.toks) kp (Nat.le_refl _) (show ObjOk X.prog X.w _ h' _ (.lst ys)from⟨hz,its,c',r',e⟩),rfl,q _ (I.hok.fresh (Nat.le_refl _))⟩
 rcases hq with hq | hq
 ·obtain⟨its,r',pl,hz⟩:=I.list hq
  have BT:=r'.length
  obtain⟨o,ho,hc,n,hd⟩:=pl.isList
  exact call_list_seq p (.inl rfl) ho hc hd (λh' c' kp e=>fin its r' hz h' c' kp e) (by simp only[List.size_toArray]<;>omega)
 ·obtain⟨its,r',pl,hz⟩:=I.tuple hq
  have BT:=r'.length
  obtain⟨o,ho,hc,n,hd⟩:=pl
  exact call_list_seq p (.inr rfl) ho hc hd (λh' c' kp e=>fin its r' hz h' c' kp e) (by simp only[List.size_toArray]<;>omega)
theorem sZ:E8 X (.type "tuple") (λxs H Q=>∃ p ys,xs=[.ref p]/\((SqL X.K H p ys/\∀ l,H l=none->Q (.ref l) (upd H l (.tup ys)))\/(SqT X.K H p ys/\Q (.ref p) H))):=by
 intro AA s σ H xs us Q I r h
 obtain⟨p,ys,rfl,h⟩:=h
 obtain⟨u,rfl,rx⟩:=HX r
 cases rx
 rcases h with⟨hq,q⟩ | ⟨hq,q⟩
 ·obtain⟨its,r',pl,hz⟩:=I.list hq
  have BT:=r'.length
  refine call_tuple_list pl.isList (λh' kp=> ?_) (by simp only[List.size_toArray]<;>omega)
  have I1:Inv X AA σ H { s with heap:=h' }:=I.kept (t':=s.toks) kp
  have I2:Inv X AA σ (upd H h'.objs.size (.tup ys)) { s with heap:=h'.push { cls:=.type "tuple",data:=.seq its.toArray } } :=
   I1.laid (t':=s.toks) (λb o e=>Heap.get?_push_of_some _ e) (Nat.le_refl _) (show ObjOk X.prog X.w _ _ _ (.tup ys)from⟨hz,its,r',IsTup.new _ _⟩)
  exact⟨.ref h'.objs.size,_,I2,rfl,q _ (I1.hok.fresh (Nat.le_refl _))⟩
 ·obtain⟨its,r',pl,hz⟩:=I.tuple hq
  exact call_tuple_same pl ⟨.ref p,H,I,rfl,q⟩
def RW(K:W.Frag)(T:String)(x:V)(H:Hp):Prop:=match x with
 | .str _=>T="str"
 | .int _=>T="int"
 | .ref p=>(T="list"/\∃ xs,SqL K H p xs)\/(T="tuple"/\∃ o,K.lookup p=some o/\o.cls=.type "tuple"/\o.dict=none) ∨
   (T="dict"/\((∃ AD,H p=some (.dK AD))\/∃ AD,H p=some (.dT AD)))\/(T="set"/\∃ S n,H p=some (.set S n))
 | _=>False
theorem tD{AA:List (Addr × Obj)}{σ:St}{H:Hp}{s:Shared}{T:String}{x:V}{v:Value}(I:Inv X AA σ H s)(r:RelV x v)(ty:RW X.K T x H) :
  s.TypeIs v T/\∀ a,v=.ref a->∃ ob,s.heap.get? a=some ob/\ob.dict=none:=by
 cases x with
 | str z =>
  obtain⟨t,rfl⟩:=r
  cases (show T="str" from ty)
  exact⟨typeIs_str s z t,λ_ e=>nomatch e⟩
 | int i =>
  obtain⟨t,rfl⟩:=r
  cases (show T="int" from ty)
  exact⟨typeIs_int s i t,λ_ e=>nomatch e⟩
 | ref p =>
  cases r
  rcases ty with⟨rfl,xs,hq⟩ | ⟨rfl,o,hk,hc,hd⟩ | ⟨rfl,hk⟩ | ⟨rfl,S,n,hk⟩
  ·obtain⟨its,_,pl,_⟩:=I.list hq
   refine⟨pl.isList.typeIs,λa e=> ?_⟩
   cases e
   obtain⟨o,n,e,c,hd,_⟩:=pl
   exact⟨o,e,hd⟩
  ·refine⟨⟨o,I.kIn p o hk,hc⟩,λa e=> ?_⟩
   cases e
   exact⟨o,I.kIn _ o hk,hd⟩
  ·have z:∃ o,s.heap.get? p=some o/\o.ExactDict:=by
    rcases hk with⟨AD,hk⟩ | ⟨AD,hk⟩
    ·obtain⟨_,_,_,_,o,_,_,e,ex,_⟩:=I.hok p _ hk
     exact⟨o,e,ex⟩
    ·obtain⟨_,_,_,_,o,_,_,e,ex,_⟩:=I.hok p _ hk
     exact⟨o,e,ex⟩
   obtain⟨o,e,ex⟩:=z
   refine⟨⟨o,e,ex.1⟩,λa e2=> ?_⟩
   cases e2
   exact⟨o,e,ex.2.1⟩
  ·obtain⟨o,_,_,_,e,ex,_⟩:=I.hok p _ hk
   refine⟨⟨o,e,ex.1⟩,λa e2=> ?_⟩
   cases e2
   exact⟨o,e,ex.2.1⟩
 | _=>exact False.elim ty
def HB(K:W.Frag)(T:String)(r:V->List V->Hp->VK->Prop)(to:TE)(t:TA):TE:=λσ H Q=>to σ H λx H1=>RW K T x H1/\t σ H1 λxs H2=>r x xs H2 Q
variable{o e:Expr}{es:List Expr}{to:TE}{t:TA}{name:Str}{CM C5:Pos}{T id:String}{r:V->List V->Hp->VK->Prop}
theorem IW(pa:PlainAttrs T)(slot:Slot T name id)(hty:typeOf (.builtin id)=pure (.type "method_descriptor"))(hm:RS X id r)(ho:PE X o to)(ha:PA X (e::es) t)
  (hbase:attributeBase o name X.env (eval o X.env)=eval o X.env:=by rfl)
  (hfew:((backTo C5 (starEach (e::es) X.env)).all (λx=> !x.1) && (backToKw C5 (keywordEach [] X.env)).all (λx=>x.1.isSome)
   && decide ((e::es).length+([]:List Keyword).length+(if([]:List Keyword).isEmpty then 0 else 1)<30))=true:=by rfl)
  (hline:(CM.endLine == C5.line)=true:=by rfl) (hs:starEach (e::es) X.env=(false,eval e X.env)::starEach es X.env:=by rfl) (hplain:(backTo C5 (starEach es X.env)).any (·.1)=false:=by rfl) :
  PE X (.Call (.Attribute o name CM) (e::es) [] C5) (HB X.K T r to t):=by
 intro AA s σ H Q I h
 refine wpAny_Call_method_late hbase hfew hline rfl (AV (ho AA s σ H _ I h) λv s1 hzz=> ?_)
 obtain⟨x,H1,I1,r1,ty,q1⟩:=hzz
 obtain⟨h1,h2⟩:=tD I1 r1 ty
 refine⟨T,id,pa,slot,hty,h1,h2,?_⟩
 have hA:=ha C5 AA s1 σ H1 _ I1 q1
 rw[hs]at hA ⊢
 refine Calls.callWith_builtin (by show(false || (backTo C5 (starEach es X.env)).any (·.1))=false;rw[hplain]<;>rfl) (Calls.evalArgs_plain ?_)
 exact AV hA λus s2 ⟨vs,H2,I2,r2,q2⟩=>hm AA s2 σ H2 x vs v us Q I2 r1 r2 q2
end
end L2
namespace L2
def tE(X:Cx)(id:String)(r:V->List V->Hp->VK->Prop):Prop :=
 ∀ (AA:List (Addr × Obj)) (s:Shared) (σ:St) (H:Hp) (x:V) (xs:List V) (v:Value) (us:List Value) (Q:VK),Inv X AA σ H s->RelV x v->Vals xs us->r x xs H Q →
  wpAny (model X.prog X.w) X.A (call (.builtin id) (v::us)) (EP X AA σ Q) X.xe s
theorem Vals.one:∀ {x:V} {us:List Value},Vals [x] us->∃ u,us=[u]/\RelV x u
 | _,_,.cons r .nil=>⟨_,rfl,r⟩
theorem Vals.two:∀ {x y:V} {us:List Value},Vals [x,y] us->∃ u v,us=[u,v]/\RelV x u/\RelV y v
 | _,_,_,h=>by
  cases h with | cons r h=>cases h with | cons q h=>cases h;exact⟨_,_,rfl,r,q⟩
theorem Vals.eraseIdx:∀ {xs:List V} {us:List Value} (i:Nat),Vals xs us->Vals (xs.eraseIdx i) (us.eraseIdx i)
 | _,_,_,.nil=>.nil
 | _,_,0,.cons _ t=>t
 | _,_,i+1,.cons r t=>.cons r (Vals.eraseIdx i t)
theorem Vals.rep{xs:List V}{us:List Value}(h:Vals xs us):∀ k:Nat,Vals (List.replicate k xs).flatten (List.replicate k us).flatten
 | 0=>.nil
 | k+1=>by
  rw[List.replicate_succ,List.replicate_succ,List.flatten_cons,List.flatten_cons]
  exact Vals.append h (Vals.rep h k)
theorem OA(its:List Value):∀ (k:Nat) (BY:List Value),
  List.foldl (λx1 x2=>x1++x2) BY.toArray (List.replicate k its.toArray)=(BY++(List.replicate k its).flatten).toArray
 | 0,BY=>by simp
 | k+1,BY=>by
  have e:BY.toArray++its.toArray=(BY++its).toArray:=by simp
  have e2:(BY++its)++(List.replicate k its).flatten=BY++(List.replicate (k+1) its).flatten:=by
   rw[List.replicate_succ,List.flatten_cons,List.append_assoc]
  rw[<-e2,<-OA its k (BY++its),<-e,List.replicate_succ,List.foldl_cons]
section
variable{X:Cx}{AA:List (Addr × Obj)}{σ:St}{H:Hp}{s:Shared}{l b:Addr}{xs ys zs:List V}
theorem Inv.lset{its its':List Value}{n:Nat}{f:Array Value->Array Value}{t':Nat}(I:Inv X AA σ H s)(hH:H l=some (.lst xs))
  (e:s.heap.get? l=some { cls:=.type "list",data:=.seq its.toArray n }) (hf:f its.toArray=its'.toArray) (hv:Vals ys its') (hz:ys.length<=sizeLine) :
  Inv X AA σ (upd H l (.lst ys)) { s with heap:=s.heap.update l (Obj.mapSeq f),toks:=t' }:=by
 have q:=PySem.IsL.update e f
 rw[hf]at q
 refine I.write (x:=l) (e:=l) (by rw[hH];exact trivial) (.inl rfl) (λb' u hb hu=>(Heap.get?_update_other s.heap (Obj.mapSeq f) (Ne.symm hb)).trans hu) ⟨_,q⟩ ?_
 exact⟨hz,its',_,hv,q⟩
theorem Inv.lnew{its:List Value}{t':Nat}(I:Inv X AA σ H s)(hv:Vals ys its)(hz:ys.length<=sizeLine) :
  Inv X AA σ (upd H s.heap.objs.size (.lst ys)) { s with heap:=s.heap.push { cls:=.type "list",data:=.seq its.toArray },toks:=t' } :=
 I.laid (λ_ _ q=>Heap.get?_push_of_some _ q) (Nat.le_refl _) ⟨hz,its,0,hv,Heap.get?_push_size _ rfl⟩
theorem Inv.fresh(I:Inv X AA σ H s):H s.heap.objs.size=none:=I.hok.fresh (Nat.le_refl _)
theorem Inv.lstM(I:Inv X AA σ H s)(hH:H l=some (.lst xs)):xs.length<=sizeLine/\∃ (its:List Value) (n:Nat),Vals xs its/\xs.length=its.length/\s.heap.get? l=some { cls:=.type "list",data:=.seq its.toArray n }:=by
 obtain⟨z,its,n,r,e⟩:=I.hok l _ hH
 exact⟨z,its,n,r,r.length,e⟩
theorem tF{n:Nat}(h:n<=sizeLine):Builtin.List.listTooLong n=false:=by
 unfold Builtin.List.listTooLong
 exact decide_eq_false (by omega)
end
section
variable{X:Cx}
def aZ:V->List V->Hp->VK->Prop:=λx vs H Q=>∃ l xs y,x=.ref l/\vs=[y]/\H l=some (.lst xs)/\xs.length<sizeLine/\Q .non (upd H l (.lst (xs++[y])))
theorem KS:tE X "list.append" aZ:=by
 intro AA s σ H x vs v us Q I rx rv h
 obtain⟨l,xs,y,rfl,rfl,hH,hz,q⟩:=h
 cases rx
 obtain⟨u,rfl,ru⟩:=rv.one
 obtain⟨z,its,n,r,hl,e⟩:=I.lstM hH
 refine call_meets F.slot_list_append ⟨_,e,rfl⟩ F.entry_list_append (F.args_list_append_2 _ _) (PySem.list_append l its.toArray n u (by rw[List.size_toArray];omega)) ⟨e,?_⟩
 refine⟨.non,_,I.lset (its':=its++[u]) hH e (by simp) (r.append (.cons ru .nil)) ?_,rfl,q⟩
 rw[List.length_append,List.length_singleton]
 omega
def RX:R2:=λx y H Q=>∃ l b xs zs,x=.ref l/\y=.ref b/\H l=some (.lst xs)/\H b=some (.lst zs)/\xs.length+zs.length<=sizeLine/\∀ p,H p=none->Q (.ref p) (upd H p (.lst (xs++zs)))
theorem tG:B1 X (binaryOp .Add) RX:=by
 intro AA s σ H x y v u Q I rx ry h
 obtain⟨l,b,xs,zs,rfl,rfl,hH,hB,hz,q⟩:=h
 cases rx
 cases ry
 obtain⟨z,its,n,r,hl,e⟩:=I.lstM hH
 obtain⟨z2,NP,n2,r2,LZ,e2⟩:=I.lstM hB
 refine PySem.P.add_list e e2 ?_ (by rw[List.size_toArray,List.size_toArray];omega)
 have ea:its.toArray++NP.toArray=(its++NP).toArray:=by simp
 rw[ea]
 exact⟨.ref _,_,I.lnew (t':=s.toks) (r.append r2) (by rw[List.length_append];omega),rfl,q _ I.fresh⟩
def RY:R2:=λx y H Q=>∃ l k xs,x=.ref l/\y=.int k/\H l=some (.lst xs)/\ -(2 ^ 63)<=k/\k<2 ^ 63/\xs.length * k.toNat<=sizeLine ∧
 ∀ p,H p=none->Q (.ref p) (upd H p (.lst (List.replicate k.toNat xs).flatten))
theorem a0{α :Type}(xs:List α)(k:Nat):(List.replicate k xs).flatten.length=k * xs.length:=by
 induction k with
 | zero=>simp
 | succ k ih=>rw[List.replicate_succ,List.flatten_cons,List.length_append,ih,Nat.succ_mul,Nat.add_comm]
theorem tH:B1 X (binaryOp .Mult) RY:=by
 intro AA s σ H x y v u Q I rx ry h
 obtain⟨l,k,xs,rfl,rfl,hH,h1,h2,hz,q⟩:=h
 cases rx
 obtain⟨t,rfl⟩:=ry
 obtain⟨z,its,n,r,hl,e⟩:=I.lstM hH
 have BT:its.toArray.size * k.toNat<=sizeLine:=by rw[List.size_toArray,<-hl];exact hz
 have hcap:¬ its.toArray.size * k.toNat >(2 ^ 63 - 1) / 8:=by
  have:(sizeLine:Nat)<=(2 ^ 63 - 1) / 8:=by decide
  omega
 have hfit:¬ (!Builtin.List.listFitsIndex k)=true:=by
  rw[fitsIndex_both h1 h2]
  exact Bool.false_ne_true
 have hlong:¬ Builtin.List.listTooLong (its.toArray.size * k.toNat)=true:=by
  rw[tF BT]
  exact Bool.false_ne_true
 have hnew:List.foldl (λx1 x2=>x1++x2) #[] (List.replicate (if its.toArray.isEmpty=true then 0 else k.toNat) its.toArray)=(List.replicate k.toNat its).flatten.toArray:=by
  have f0:∀ m:Nat,List.foldl (λx1 x2=>x1++x2) #[] (List.replicate m its.toArray)=(List.replicate m its).flatten.toArray:=λm=>by
   have:=OA its m []
   rw[List.nil_append]at this
   exact this
  rw[f0]
  cases its with
  | nil=>simp
  | cons a r'=>rw[if_neg (by simp)]
 refine wpAny_binaryOp_repeat_ref (T:="list") (U:="int") (by decide) ⟨_,e,rfl⟩ (λs'=>typeIs_int s' k t) noFill_list_mul F.fills_int_mul F.slot_int_rmul repeat_list F.slot_int_index.lookup
  (call_meets F.slot_int_rmul (typeIs_int s k t) F.entry_int_rmul (F.args_int_rmul_2 _ _) (int___rmul___int_list k t l its.toArray n)
   ⟨e,rfl,⟨_,e,rfl⟩,call_meets F.slot_list_mul ⟨_,e,rfl⟩ F.entry_list_mul (F.args_list_mul_2 _ _) (AutoListH.list___mul___list_int_3 l its.toArray n k t hfit hcap hlong) ⟨e,?_⟩⟩)
 rw[hnew]
 exact⟨.ref _,_,I.lnew (t':=s.toks) (r.rep k.toNat) (by rw[a0,Nat.mul_comm];exact hz),rfl,q _ I.fresh⟩
end
section
variable{prog:Program}{w:World}{A:Around}{E:Value->Shared->Prop}{s:Shared}
set_option maxRecDepth 100000 in
end
section
variable{X:Cx}
end
end L2
namespace L2
section
variable{κ :Type}[DecidableEq κ]
def BK(AD:List (κ × V))(k: κ):Option V:=(AD.find? λkv=>decide (kv.1=k)).map (·.2)
def BW(AD:List (κ × V))(k: κ)(v:V):List (κ × V) :=
 if(AD.any λkv=>decide (kv.1=k))=true then AD.map (λkv=>if kv.1=k then(kv.1,v)else kv)else AD++[(k,v)]
theorem GR{p: κ × V}{r:List (κ × V)}{k: κ}(e:p.1=k):BK (p::r) k=some p.2:=by simp[BK,List.find?_cons,e]
theorem GS{p: κ × V}{r:List (κ × V)}{k: κ}(e:¬ p.1=k):BK (p::r) k=BK r k:=by simp[BK,List.find?_cons,e]
theorem IX(k: κ):∀ AD:List (κ × V),(AD.any λkv=>decide (kv.1=k))=(BK AD k).isSome
 | []=>rfl
 | p::r=>by
  rw[List.any_cons]
  by_cases e:p.1=k
  ·simp only[GR e,decide_eq_true e,Bool.true_or,Option.isSome_some]
  ·rw[GS e,decide_eq_false e,Bool.false_or];exact IX k r
theorem bA(k j: κ)(y:V):∀ AD:List (κ × V),BK (AD.map λkv=>if kv.1=k then(kv.1,y)else kv) j=(BK AD j).map λx=>if j=k then y else x
 | []=>rfl
 | p::r=>by
  have ih:=bA k j y r
  rw[List.map_cons]
  by_cases h:p.1=k
  ·rw[if_pos h]
   by_cases e:p.1=j
   ·rw[GR (p:=(p.1,y)) e,GR e,Option.map_some,if_pos (e.symm.trans h)]
   ·rw[GS (p:=(p.1,y)) e,GS e,ih]
  ·rw[if_neg h]
   by_cases e:p.1=j
   ·rw[GR (p:=p) e,GR e,Option.map_some,if_neg (λz=>h (e.trans z))]
   ·rw[GS (p:=p) e,GS e,ih]
theorem bB(k j: κ)(y:V):∀ AD:List (κ × V),BK AD k=none->BK (AD++[(k,y)]) j=if j=k then some y else BK AD j
 | [],_=>by
  by_cases e:k=j
  ·rw[if_pos e.symm];exact GR (p:=(k,y)) e
  ·rw[if_neg (λz=>e z.symm)];exact GS (p:=(k,y)) e
 | p::r,hn=>by
  rw[List.cons_append]
  have hk:¬ p.1=k:=λz=>by rw[GR z]at hn;cases hn
  rw[GS hk]at hn
  have ih:=bB k j y r hn
  by_cases e:p.1=j
  ·rw[GR e,GR e,if_neg (λz=>hk (e.trans z))]
  ·rw[GS e,GS e,ih]
theorem IY(AD:List (κ × V))(k j: κ)(y:V):BK (BW AD k y) j=if j=k then some y else BK AD j:=by
 unfold BW
 by_cases a:(AD.any λkv=>decide (kv.1=k))=true
 ·rw[if_pos a,bA]
  rw[IX]at a
  by_cases e:j=k
  ·obtain⟨x,hx⟩:=Option.isSome_iff_exists.mp a
   rw[if_pos e,e,hx,Option.map_some,if_pos rfl]
  ·rw[if_neg e]
   cases BK AD j with
   | none=>rfl
   | some x=>rw[Option.map_some,if_neg e]
 ·rw[if_neg a]
  refine bB k j y AD ?_
  rw[IX]at a
  cases q:BK AD k with
  | none=>rfl
  | some x=>rw[q]at a;exact(a rfl).elim
theorem H0(AD:List (κ × V))(k: κ)(v:V):(BW AD k v).length<=AD.length+1:=by
 unfold BW
 split
 ·rw[List.length_map];omega
 ·rw[List.length_append,List.length_cons,List.length_nil];omega
theorem bC{AD:List (κ × V)}{k: κ}(v:V)(h:BK AD k=none):BW AD k v=AD++[(k,v)]:=by
 unfold BW
 rw[IX,h]
 exact if_neg (by decide)
theorem RelO.isSome_eq{o:Option V}{u:Option Value}(r:RelO o u):o.isSome=u.isSome:=by
 cases o with
 | none=>cases u with
  | none=>rfl
  | some _=>exact(show False from r).elim
 | some _=>cases u with
  | none=>exact(show False from r).elim
  | some _=>rfl
theorem RelO.getD{o:Option V}{u:Option Value}{d:V}{d':Value}(r:RelO o u)(rd:RelV d d'):RelV (o.getD d) (u.getD d'):=by
 cases o with
 | none=>cases u with
  | none=>exact rd
  | some _=>exact(show False from r).elim
 | some _=>cases u with
  | none=>exact(show False from r).elim
  | some _=>exact r
theorem KV.val{AD:List (κ × V)}{vs:List (κ × Value)}(r:KV AD vs)(k: κ):RelO (BK AD k) (valueAt vs k):=by
 unfold KV at r
 induction r with
 | nil=>exact True.intro
 | @cons p q ps qs h t ih =>
  obtain⟨h1,h2⟩:=h
  by_cases e:p.1=k
  ·have e':q.1=k:=h1.symm.trans e
   have b:valueAt (q::qs) k=some q.2:=by simp[valueAt,List.find?_cons,e']
   rw[GR e,b];exact h2
  ·have e':¬ q.1=k:=λz=>e (h1.trans z)
   have b:valueAt (q::qs) k=valueAt qs k:=by simp[valueAt,List.find?_cons,e']
   rw[GS e,b];exact ih
theorem KV.any{AD:List (κ × V)}{vs:List (κ × Value)}(r:KV AD vs)(k: κ):(AD.any λkv=>decide (kv.1=k))=vs.any λkv=>decide (kv.1=k):=by
 unfold KV at r
 induction r with
 | nil=>rfl
 | cons h t ih=>rw[List.any_cons,List.any_cons,ih,h.1]
theorem KV.repl{AD:List (κ × V)}{vs:List (κ × Value)}(r:KV AD vs)(k: κ){y:V}{u:Value}(ry:RelV y u) :
  KV (AD.map λkv=>if kv.1=k then(kv.1,y)else kv) (vs.map λkv=>if kv.1=k then(kv.1,u)else kv):=by
 unfold KV at r ⊢
 induction r with
 | nil=>exact .nil
 | @cons p q ps qs h t ih =>
  rw[List.map_cons,List.map_cons]
  refine .cons ?_ ih
  obtain⟨h1,h2⟩:=h
  by_cases e:p.1=k
  ·rw[if_pos e,if_pos (h1.symm.trans e)];exact⟨h1,ry⟩
  ·rw[if_neg e,if_neg (λz=>e (h1.trans z))];exact⟨h1,h2⟩
theorem KV.put{AD:List (κ × V)}{vs:List (κ × Value)}(r:KV AD vs)(k: κ){y:V}{u:Value}(ry:RelV y u):KV (BW AD k y) (stored vs k u):=by
 unfold BW stored
 rw[r.any k]
 by_cases e:(vs.any λkv=>decide (kv.1=k))=true
 ·rw[if_pos e,if_pos e];exact r.repl k ry
 ·rw[if_neg e,if_neg e];exact Paired.snoc r ⟨rfl,ry⟩
theorem KV.length{AD:List (κ × V)}{vs:List (κ × Value)}(r:KV AD vs):AD.length=vs.length:=Paired.length r
end
theorem J5{P:Program}{w:World}{k:AM}{u:Value}(r:RelV (kV k) u):(D4 P w).is k u=true:=by
 cases k with
 | inl i=>obtain⟨t,e⟩:=(show ∃ t,u=Value.int i t from r);subst e;exact p7 P w i t
 | inr x=>obtain⟨t,e⟩:=(show ∃ t,u=Value.str x t from r);subst e;exact p8 P w x t
theorem bD{P:Program}{w:World}:∀ {ks:List AM} {us:List Value},Vals (ks.map kV) us->ItemsAre (D4 P w) ks us
 | [],_,r=>by rw[List.map_nil]at r;cases r;exact .nil
 | k::ks,_,r=>by
  rw[List.map_cons]at r
  cases r with
  | cons h t=>exact .cons (J5 h) (bD t)
abbrev KT(H:Hp):List (List AM × V)->List (List AM × Addr × Value)->Prop:=Paired λp q=>p.1=q.1/\H q.2.1=some (.tup (p.1.map kV))/\RelV p.2 q.2.2
theorem KT.val{H:Hp}{AD:List (List AM × V)}{xs:List (List AM × Addr × Value)}(r:KT H AD xs)(k:List AM):RelO (BK AD k) ((atKey xs k).map (·.2)):=by
 induction r with
 | nil=>exact True.intro
 | @cons p q ps qs h t ih =>
  obtain⟨h1,_,h2⟩:=h
  by_cases e:p.1=k
  ·have e':q.1=k:=h1.symm.trans e
   have b:atKey (q::qs) k=some q.2:=by simp[atKey,List.find?_cons,e']
   rw[GR e,b];exact h2
  ·have e':¬ q.1=k:=λz=>e (h1.trans z)
   have b:atKey (q::qs) k=atKey qs k:=by simp[atKey,List.find?_cons,e']
   rw[GS e,b];exact ih
theorem KT.repl{H:Hp}{AD:List (List AM × V)}{xs:List (List AM × Addr × Value)}(r:KT H AD xs)(k:List AM){y:V}{u:Value}(ry:RelV y u) :
  KT H (AD.map λkv=>if kv.1=k then(kv.1,y)else kv) (xs.map (putAt k u)):=by
 induction r with
 | nil=>exact .nil
 | @cons p q ps qs h t ih =>
  rw[List.map_cons,List.map_cons]
  refine .cons ?_ ih
  obtain⟨h1,h2,h3⟩:=h
  unfold putAt
  by_cases e:p.1=k
  ·rw[if_pos e,if_pos (h1.symm.trans e)];exact⟨h1,h2,ry⟩
  ·rw[if_neg e,if_neg (λz=>e (h1.trans z))];exact⟨h1,h2,h3⟩
theorem KT.put{H:Hp}{AD:List (List AM × V)}{xs:List (List AM × Addr × Value)}(r:KT H AD xs)(k:List AM){b:Addr}{y:V}{u:Value}(hb:H b=some (.tup (k.map kV)))(ry:RelV y u) :
  KT H (BW AD k y) (storedH xs k b u):=by
 have e:(AD.any λkv=>decide (kv.1=k))=(atKey xs k).isSome:=by
  rw[IX,(r.val k).isSome_eq,Option.isSome_map]
 unfold BW storedH
 rw[e]
 by_cases q:(atKey xs k).isSome=true
 ·rw[if_pos q,if_pos q];exact r.repl k ry
 ·rw[if_neg q,if_neg q];exact Paired.snoc r ⟨rfl,hb,ry⟩
theorem KT.keeps{H H':Hp}{AD:List (List AM × V)}{xs:List (List AM × Addr × Value)}(r:KT H AD xs)(ht:∀ b ys,H b=some (.tup ys)->H' b=some (.tup ys)):KT H' AD xs :=
 Paired.mapP r λ_ _ z=>⟨z.1,ht _ _ z.2.1,z.2.2⟩
section
variable{P:Program}{w:World}{H:Hp}{h:Heap}{a:Addr}
theorem bE{u:HO}(ok:HOk P w H h)(e:Rd H a u):ObjOk P w H h a u:=e.ok ok
theorem IA{AD:List (AM × V)}(ok:HOk P w H h)(e:Rd H a (.dK AD)):AD.length<=sizeLine/\(a == sysModules)=false/\∃ vs,KV AD vs/\h.DictOf (D4 P w) a vs :=
 show ObjOk P w H h a (.dK AD)from bE ok e
theorem tI{AD:List (AM × V)}(ok:HOk P w H h)(e:H a=some (.dK AD)):AD.length<=sizeLine/\(a == sysModules)=false/\∃ vs,KV AD vs/\h.DictOf (D4 P w) a vs:=IA ok (.inl e)
theorem J6{ks:List AM}(ok:HOk P w H h)(e:H a=some (.tup (ks.map kV))):(tupleKind (D4 P w)).is h ks a:=by
 obtain⟨_,its,r,o,h1,h2,n,h3⟩:=(show ObjOk P w H h a (.tup (ks.map kV))from ok a _ e)
 exact⟨o,its.toArray,n,h1,h2,h3,by simpa using bD r⟩
theorem IZ{AD:List (List AM × V)}(ok:HOk P w H h)(e:Rd H a (.dT AD)):AD.length<=sizeLine/\(a == sysModules)=false ∧
  ∃ xs,KT H AD xs/\h.DictOfH (tupleKind (D4 P w)) a xs:=by
 obtain⟨z,y,xs,r,o,es,ep,h1,h2,h3,h4,h5⟩:=(show ObjOk P w H h a (.dT AD)from bE ok e)
 refine⟨z,y,xs,r,o,es,ep,h1,h2,h3,h4,λx hx=> ?_,h5⟩
 have all:∀ {l:List (List AM × V)} {m:List (List AM × Addr × Value)},KT H l m->∀ x∈m,(tupleKind (D4 P w)).is h x.1 x.2.1:=by
  intro l m q
  induction q with
  | nil=>intro x hx;exact nomatch hx
  | @cons p q ps qs hq t ih =>
   intro x hx
   rcases List.mem_cons.mp hx with e | hx
   ·subst e
    exact J6 ok (by rw[<-hq.1];exact hq.2.1)
   ·exact ih x hx
 exact all r x hx
theorem tJ{AD:List (List AM × V)}(ok:HOk P w H h)(e:H a=some (.dT AD)):AD.length<=sizeLine/\(a == sysModules)=false ∧
  ∃ xs,KT H AD xs/\h.DictOfH (tupleKind (D4 P w)) a xs:=IZ ok (.inl e)
end
def DGet(H:Hp)(a:Addr)(y:V)(r:Option V):Prop :=
 (∃ AD k,Rd H a (.dK AD)/\y=kV k/\r=BK AD k)\/∃ AD k b,Rd H a (.dT AD)/\y=.ref b/\H b=some (.tup (k.map kV))/\r=BK AD k
def DPut(H:Hp)(a:Addr)(y v:V)(H':Hp):Prop :=
 (∃ AD k,H a=some (.dK AD)/\y=kV k/\AD.length<sizeLine/\H'=upd H a (.dK (BW AD k v))) ∨
 ∃ AD k b,H a=some (.dT AD)/\y=.ref b/\H b=some (.tup (k.map kV))/\AD.length<sizeLine/\H'=upd H a (.dT (BW AD k v))
theorem DGet.k{H:Hp}{a:Addr}{AD:List (AM × V)}{k:AM}(e:H a=some (.dK AD)):DGet H a (kV k) (BK AD k):=.inl ⟨AD,k,.inl e,rfl,rfl⟩
theorem DGet.t{H:Hp}{a b:Addr}{AD:List (List AM × V)}{k:List AM}(e:H a=some (.dT AD))(eb:H b=some (.tup (k.map kV))):DGet H a (.ref b) (BK AD k):=.inr ⟨AD,k,b,.inl e,rfl,eb,rfl⟩
theorem DPut.k{H:Hp}{a:Addr}{AD:List (AM × V)}{k:AM}{v:V}(e:H a=some (.dK AD))(hl:AD.length<sizeLine):DPut H a (kV k) v (upd H a (.dK (BW AD k v))):=.inl ⟨AD,k,e,rfl,hl,rfl⟩
theorem DPut.t{H:Hp}{a b:Addr}{AD:List (List AM × V)}{k:List AM}{v:V}(e:H a=some (.dT AD))(eb:H b=some (.tup (k.map kV)))(hl:AD.length<sizeLine) :
  DPut H a (.ref b) v (upd H a (.dT (BW AD k v))):=.inr ⟨AD,k,b,e,rfl,eb,hl,rfl⟩
section
variable{X:Cx}{AA:List (Addr × Obj)}{σ:St}{H:Hp}{s:Shared}{a:Addr}{y v:V}{u r:Value}{o:Option V}{A:Around}{E:Value->Shared->Prop}
theorem Inv.big(I:Inv X AA σ H s):sysModules<s.heap.objs.size:=by
 have h:mainGlobals<s.heap.objs.size:=(I.mod.glob.keeps I.bk).lt
 exact Nat.lt_trans (by decide) h
theorem tK{Q:Value->Shared->Prop}(hu:A.units+1<cLine)(I:Inv X AA σ H s)(g:DGet H a y (some v))(ry:RelV y u)(h:∀ w' s',Inv X AA σ H s'->RelV v w'->Q w' s') :
  wpAny (model X.prog X.w) A (getItem (.ref a) u) Q E s:=by
 rcases g with⟨AD,k,e,ey,l⟩ | ⟨AD,k,b,e,ey,eb,l⟩
 ·subst ey
  obtain⟨z,hd,vs,rel,dd⟩:=IA I.hok e
  obtain⟨w',hw,rw'⟩:=RelO.some_of (v:=v) (o:=valueAt vs k) (by rw[l];exact rel.val k)
  exact wpAny_getItem_of (J5 ry) dd.mapOf hw (h w' _ (I.tok _) rw')
 ·subst ey
  cases (show u=Value.ref b from ry)
  obtain⟨z,hd,xs,rel,dd⟩:=IZ I.hok e
  obtain⟨w',hw,rw'⟩:=RelO.some_of (v:=v) (o:=(atKey xs k).map (·.2)) (by rw[l];exact rel.val k)
  obtain⟨p,hp,HQ⟩:=Option.map_eq_some_iff.mp hw
  refine wpAny_getItem_heap (tupleKind_room_in1 hu) (J6 I.hok eb) dd hp ?_
  rw[HQ]
  exact h w' _ (I.tok _) rw'
theorem tL{Q:Value->Shared->Prop}(hu:A.units+1<cLine)(I:Inv X AA σ H s)(g:DGet H a y o)(ry:RelV y u)(h:∀ s',Inv X AA σ H s'->Q (.bool o.isSome) s') :
  wpAny (model X.prog X.w) A (compareOp .In u (.ref a)) Q E s:=by
 rcases g with⟨AD,k,e,ey,l⟩ | ⟨AD,k,b,e,ey,eb,l⟩
 ·subst ey
  obtain⟨z,hd,vs,rel,dd⟩:=IA I.hok e
  refine wpAny_in_of (J5 ry) hd dd.mapOf ?_
  rw[<-(rel.val k).isSome_eq,<-l]
  exact h _ (I.tok _)
 ·subst ey
  cases (show u=Value.ref b from ry)
  obtain⟨z,hd,xs,rel,dd⟩:=IZ I.hok e
  refine wpAny_in_heap (tupleKind_room_in1 hu) (J6 I.hok eb) hd dd ?_
  have q:=(rel.val k).isSome_eq
  rw[Option.isSome_map]at q
  rw[<-q,<-l]
  exact h _ (I.tok _)
theorem tM{Q:Value->Shared->Prop}(hu:A.units+1<cLine)(I:Inv X AA σ H s)(g:DGet H a y o)(ry:RelV y u)(h:∀ s',Inv X AA σ H s'->Q (.bool (!o.isSome)) s') :
  wpAny (model X.prog X.w) A (compareOp .NotIn u (.ref a)) Q E s:=by
 rcases g with⟨AD,k,e,ey,l⟩ | ⟨AD,k,b,e,ey,eb,l⟩
 ·subst ey
  obtain⟨z,hd,vs,rel,dd⟩:=IA I.hok e
  refine wpAny_notIn_of (J5 ry) hd dd.mapOf ?_
  rw[<-(rel.val k).isSome_eq,<-l]
  exact h _ (I.tok _)
 ·subst ey
  cases (show u=Value.ref b from ry)
  obtain⟨z,hd,xs,rel,dd⟩:=IZ I.hok e
  refine wpAny_notIn_heap (tupleKind_room_in1 hu) (J6 I.hok eb) hd dd ?_
  have q:=(rel.val k).isSome_eq
  rw[Option.isSome_map]at q
  rw[<-q,<-l]
  exact h _ (I.tok _)
theorem bF{h':Heap}{t':Nat}{ob:HO}(I:Inv X AA σ H s)(mu:L7 (H a))(hs:Heap.SameBut a s.heap h')(he:∃ q,h'.get? a=some q)(new:ObjOk X.prog X.w (upd H a ob) h' a ob) :
  Inv X AA σ (upd H a ob) { s with heap:=h',toks:=t' } :=
 I.write (x:=a) (e:=a) mu (.inl rfl) (λb q hb z=>(hs.2 b hb).trans z) he new
theorem bG{P:Program}{w:World}{H':Hp}{h':Heap}{AD:List (AM × V)}{vs:List (AM × Value)}(z:AD.length<=sizeLine)(hd:(a == sysModules)=false)(rel:KV AD vs)(dd:h'.DictOf (D4 P w) a vs) :
  ObjOk P w H' h' a (.dK AD):=⟨z,hd,vs,rel,dd⟩
theorem tN{H':Hp}{Q:Unit->Shared->Prop}(hu:A.units+1<cLine)(I:Inv X AA σ H s)(g:DPut H a y v H')(ry:RelV y u)(rv:RelV v r)(h:∀ s',Inv X AA σ H' s'->Q () s') :
  wpAny (model X.prog X.w) A (setItem (.ref a) u r) Q E s:=by
 rcases g with⟨AD,k,e,ey,l,eH⟩ | ⟨AD,k,b,e,ey,eb,l,eH⟩
 ·subst ey eH
  obtain⟨z,hd,vs,rel,dd⟩:=tI I.hok e
  have hz:vs.length<=sizeLine:=by rw[<-rel.length];exact z
  have hl:(BW AD k v).length<=sizeLine:=by have:=H0 AD k v;omega
  refine wpAny_setItem_pairs (hsz:=hz) (J5 ry) dd λh' dd' hs=>h _ ?_
  have he:∃ q,h'.get? a=some q:=let ⟨q,_,_,hq,_⟩:=dd';⟨q,hq⟩
  exact bF I (by rw[e];exact True.intro) hs he (bG hl hd (rel.put k rv) dd')
 ·subst ey eH
  cases (show u=Value.ref b from ry)
  obtain⟨z,hd,xs,rel,dd⟩:=tJ I.hok e
  have hz:xs.length<=sizeLine:=by rw[<-Paired.length rel];exact z
  have hl:(BW AD k v).length<=sizeLine:=by have:=H0 AD k v;omega
  refine wpAny_setItem_heap (hsz:=hz) (tupleKind_room_in1 hu) (J6 I.hok eb) dd λh' dd' hs=>h _ ?_
  obtain⟨q,es,ep,hq,h2,h3,h4,_,h5⟩:=dd'
  refine bF I (by rw[e];exact True.intro) hs ⟨q,hq⟩ ⟨hl,hd,_,(rel.put k eb rv).keeps λc ys ec=> ?_,q,es,ep,hq,h2,h3,h4,h5⟩
  rw[AH (BH ec e (λz=>nomatch z))]
  exact ec
end
section
variable{X:Cx}{AA:List (Addr × Obj)}{σ:St}{H:Hp}{s:Shared}{a:Addr}{AD:List (AM × V)}{k:AM}{u:Value}{A:Around}{E:Value->Shared->Prop}
end
def bH(i:Expr):Prop:=∀ ov iv,subscripted i false ov iv=operate [ov,iv] (getItem ov iv)
theorem tO{prog:Program}{w:World}{A:Around}{E:Value->Shared->Prop}{s:Shared}{env:Env}{value slice:Expr}{pos:Pos}{T id:String}{Q:Value->Shared->Prop}
  (hl:typeLookup (.type T) "__getitem__"=pure (some (.builtin id))) (hs:bH slice)
  (h:wpAny (model prog w) A (eval value env) (λo s₁=>wpAny (model prog w) A (eval slice env) (λi s₂=>s₂.TypeIs o T/\wpAny (model prog w) A (getItem o i) Q E s₂) E s₁) E s) :
  wpAny (model prog w) A (eval (.Subscript value slice pos) env) Q E s:=by
 refine Subscript_ (wpAny_mono h (λo s₁ h₁=>wpAny_mono h₁ (λi s₂ h₂=> ?_) λ_ _ x=>x) λ_ _ x=>x)
 obtain⟨hT,h₂⟩:=h₂
 unfold subscriptTail
 refine wpAny_bind ?_
 rw[getitemInPython_of_ne hT.not_modules]
 refine wpAny_bind (wpAny_specialOf hT hl ?_)
 have fin:wpAny (model prog w) A (subscripted slice false o i) (λr s₃=>wpAny (model prog w) A (letTemporaryGo value o r >>= λ_=>pure r) Q E s₃) E s₂:=by
  rw[hs o i]
  exact wpAny_operating (wpAny_mono h₂ (λr s₃ h₃=>wpAny_bind (wpAny_letTemporaryGo (wpAny_pure h₃))) λ_ _ x=>x)
 first
  | exact wpAny_pure (wpAny_bind fin)
  | exact wpAny_bind (wpAny_pure (wpAny_bind fin))
  | exact wpAny_bind fin
theorem tP{X:Cx}{AA:List (Addr × Obj)}{σ:St}{H:Hp}{s:Shared}{a:Addr}{y:V}{o:Option V}(I:Inv X AA σ H s)(g:DGet H a y o):s.TypeIs (.ref a) "dict":=by
 rcases g with⟨AD,k,e,_,_⟩ | ⟨AD,k,b,e,_,_,_⟩
 ·obtain⟨_,_,vs,_,dd⟩:=IA I.hok e
  exact dd.typeIs
 ·obtain⟨_,_,xs,_,dd⟩:=IZ I.hok e
  exact dd.typeIs
def HC(td ty:TE):TE:=λσ H Q=>td σ H λx H1=>ty σ H1 λy H2=>∃ a v,x=.ref a/\DGet H2 a y (some v)/\Q v H2
def KU(ty td:TE):TE:=λσ H Q=>ty σ H λy H1=>td σ H1 λx H2=>∃ a o,x=.ref a/\DGet H2 a y o/\Q (.bl o.isSome) H2
def KW(ty td:TE):TE:=λσ H Q=>ty σ H λy H1=>td σ H1 λx H2=>∃ a o,x=.ref a/\DGet H2 a y o/\Q (.bl (!o.isSome)) H2
def HD(td ty tv:TE):TS:=λD σ H=>tv σ H λv H1=>td σ H1 λx H2=>ty σ H2 λy H3=>∃ a H4,x=.ref a/\DPut H3 a y v H4/\D.nx σ H4
section
variable{X:Cx}{o i e value:Expr}{pos pos' tpos:Pos}{td ty tv:TE}
theorem JA(hu:X.A.units+1<cLine)(ho:PE X o td)(hi:PE X i ty)(hs:bH i):PE X (.Subscript o i pos) (HC td ty):=by
 intro AA s σ H Q I h
 refine tO PySem.F.slot_dict_getitem.lookup hs (AV (ho AA s σ H _ I h) λu s1 ⟨x,H1,I1,rx,q1⟩=>AV (hi AA s1 σ H1 _ I1 q1) λiv s2 hzz=> ?_)
 obtain⟨y,H2,I2,ry,a,v,ex,g,q2⟩:=hzz
 subst ex
 obtain rfl:u=Value.ref a:=rx
 exact⟨tP I2 g,tK hu I2 g ry λw' s3 I3 rw'=>⟨v,H2,I3,rw',q2⟩⟩
theorem OB(hu:X.A.units+1<cLine)(hi:PE X i ty)(ho:PE X o td):PC X .In i o (KU ty td):=by
 intro AA s σ H Q I h
 refine AV (hi AA s σ H _ I h) λiv s1 ⟨y,H1,I1,ry,q1⟩=>AV (ho AA s1 σ H1 _ I1 q1) λu s2 hzz=> ?_
 obtain⟨x,H2,I2,rx,a,ov,ex,g,q2⟩:=hzz
 subst ex
 obtain rfl:u=Value.ref a:=rx
 exact tL hu I2 g ry λs3 I3=>⟨.bl ov.isSome,H2,I3,rfl,q2⟩
theorem OC(hu:X.A.units+1<cLine)(hi:PE X i ty)(ho:PE X o td):PC X .NotIn i o (KW ty td):=by
 intro AA s σ H Q I h
 refine AV (hi AA s σ H _ I h) λiv s1 ⟨y,H1,I1,ry,q1⟩=>AV (ho AA s1 σ H1 _ I1 q1) λu s2 hzz=> ?_
 obtain⟨x,H2,I2,rx,a,ov,ex,g,q2⟩:=hzz
 subst ex
 obtain rfl:u=Value.ref a:=rx
 exact tM hu I2 g ry λs3 I3=>⟨.bl (!ov.isSome),H2,I3,rfl,q2⟩
theorem JB(hu:X.A.units+1<cLine)(ho:PE X o td)(hi:PE X i ty)(hv:PE X value tv)(hs:swapsWith value (some (.Subscript o i pos')) pos.line X.env=pure false) :
  PS X (.Assign [.Subscript o i pos'] value pos) (HD td ty tv):=by
 intro AA s σ H D I h
 refine wpAny_Assign_Subscript (AV (hv AA s σ H _ I h) λr s1 ⟨v,H1,I1,rv,q1⟩=>AV (ho AA s1 σ H1 _ I1 q1) λu s2 ⟨x,H2,I2,rx,q2⟩=>AV (hi AA s2 σ H2 _ I2 q2) λiv s3 hzz=> ?_) hs
 obtain⟨y,H3,I3,ry,a,H4,ex,g,q3⟩:=hzz
 subst ex
 obtain rfl:u=Value.ref a:=rx
 exact tN hu I3 g ry rv λs4 I4=>⟨σ,H4,I4,q3⟩
end
theorem tQ{P:Program}{w:World}{H:Hp}(h:Heap)(hb:sysModules<h.objs.size):ObjOk P w H (h.push { cls:=.type "dict",data:=.dict #[] }) h.objs.size (.dK []) :=
 ⟨Nat.zero_le _,beq_eq_false_iff_ne.mpr (Ne.symm (Nat.ne_of_lt hb)),[],.nil,Heap.DictOf.new h⟩
theorem tR{P:Program}{w:World}{H:Hp}(h:Heap)(hb:sysModules<h.objs.size):ObjOk P w H (h.push { cls:=.type "dict",data:=.dict #[] }) h.objs.size (.dT []) :=
 ⟨Nat.zero_le _,beq_eq_false_iff_ne.mpr (Ne.symm (Nat.ne_of_lt hb)),[],.nil,_,#[],0,Heap.get?_push_size _ rfl,⟨rfl,rfl,rfl⟩,rfl,rfl,List.nodup_nil⟩
def JC:TE:=λ_ H Q=>∀ p,H p=none->Q (.ref p) (upd H p (.dK []))
def OD:TE:=λ_ H Q=>∀ p,H p=none->Q (.ref p) (upd H p (.dT []))
section
variable{X:Cx}{pos:Pos}
theorem KY:PE X (.Dict [] [] pos) JC:=λAA s σ H Q I h =>
 wpAny_Dict_empty ⟨.ref s.heap.objs.size,_,I.laid (a:=s.heap.objs.size) (o:=.dK []) (t':=s.toks) (λ_ _ q=>Heap.get?_push_of_some _ q) (Nat.le_refl _) (tQ s.heap I.big),rfl,h _ (I.hok.fresh (Nat.le_refl _))⟩
theorem bI:PE X (.Dict [] [] pos) OD:=λAA s σ H Q I h =>
 wpAny_Dict_empty ⟨.ref s.heap.objs.size,_,I.laid (a:=s.heap.objs.size) (o:=.dT []) (t':=s.toks) (λ_ _ q=>Heap.get?_push_of_some _ q) (Nat.le_refl _) (tR s.heap I.big),rfl,h _ (I.hok.fresh (Nat.le_refl _))⟩
end
structure M1(X:Cx)(o:Expr)(m:Str)(CM:Pos)(e:Expr)(C5:Pos):Prop where
 base:attributeBase o m X.env (eval o X.env)=eval o X.env
 few:((backTo C5 (starEach [e] X.env)).all (λx=> !x.1) && (backToKw C5 (keywordEach [] X.env)).all (λx=>x.1.isSome)
  && decide (([e]:List Expr).length+([]:List Keyword).length+(if([]:List Keyword).isEmpty then 0 else 1)<30))=true
 line:(CM.endLine == C5.line)=true
 trees:backTo C5 (starEach [e] X.env)=[(false,eval e X.env)]
structure M2(X:Cx)(o:Expr)(m:Str)(CM:Pos)(e f:Expr)(C5:Pos):Prop where
 base:attributeBase o m X.env (eval o X.env)=eval o X.env
 few:((backTo C5 (starEach [e,f] X.env)).all (λx=> !x.1) && (backToKw C5 (keywordEach [] X.env)).all (λx=>x.1.isSome)
  && decide (([e,f]:List Expr).length+([]:List Keyword).length+(if([]:List Keyword).isEmpty then 0 else 1)<30))=true
 line:(CM.endLine == C5.line)=true
 trees:backTo C5 (starEach [e,f] X.env)=[(false,eval e X.env),(false,eval f X.env)]
def MO(H:Hp)(a:Addr):Prop:=(∃ AD,Rd H a (.dK AD))\/∃ AD,Rd H a (.dT AD)
theorem bJ{X:Cx}{AA:List (Addr × Obj)}{σ:St}{H:Hp}{s:Shared}{a:Addr}(I:Inv X AA σ H s)(d:MO H a) :
  s.TypeIs (.ref a) "dict"/\(∀ b,Value.ref a=.ref b->∃ ob,s.heap.get? b=some ob/\ob.dict=none)/\(a == sysModules)=false:=by
 rcases d with⟨AD,e⟩ | ⟨AD,e⟩
 ·obtain⟨_,hd,vs,_,dd⟩:=IA I.hok e
  refine⟨dd.typeIs,λb q=> ?_,hd⟩
  cases q
  obtain⟨ob,_,_,h1,h2,_⟩:=dd
  exact⟨ob,h1,h2.2.1⟩
 ·obtain⟨_,hd,xs,_,dd⟩:=IZ I.hok e
  refine⟨dd.typeIs,λb q=> ?_,hd⟩
  cases q
  obtain⟨ob,_,_,h1,h2,_⟩:=dd
  exact⟨ob,h1,h2.2.1⟩
section
variable{X:Cx}{AA:List (Addr × Obj)}{σ:St}{H:Hp}{s:Shared}{a:Addr}{y d:V}{u r:Value}{o:Option V}{A:Around}{E:Value->Shared->Prop}
theorem tS{Q:Value->Shared->Prop}(hu:A.units+1<cLine)(I:Inv X AA σ H s)(g:DGet H a y o)(ry:RelV y u)(h:∀ w' s',Inv X AA σ H s'->RelV (o.getD .non) w'->Q w' s') :
  wpAny (model X.prog X.w) A (call (.builtin "dict.get") [.ref a,u]) Q E s:=by
 rcases g with⟨AD,k,e,ey,l⟩ | ⟨AD,k,b,e,ey,eb,l⟩
 ·subst ey
  obtain⟨z,hd,vs,rel,dd⟩:=IA I.hok e
  refine call_meetsIn PySem.F.slot_dict_get dd.typeIs PySem.F.entry_dict_get (PySem.F.args_dict_get_2 _ _) (meets_dict_get (D4 X.prog X.w) a (J5 ry) hd) ⟨_,dd.mapOf,h _ _ (I.tok _) ?_⟩
  rw[l]
  exact(rel.val k).getD rfl
 ·subst ey
  cases (show u=Value.ref b from ry)
  obtain⟨z,hd,xs,rel,dd⟩:=IZ I.hok e
  refine call_meetsIn PySem.F.slot_dict_get dd.typeIs PySem.F.entry_dict_get (PySem.F.args_dict_get_2 _ _) (meetsH_dict_get (tupleKind (D4 X.prog X.w)) a b hd) ⟨tupleKind_room_in1 hu,k,xs,J6 I.hok eb,dd,h _ _ (I.tok _) ?_⟩
  rw[l]
  exact(rel.val k).getD rfl
theorem tT{Q:Value->Shared->Prop}(hu:A.units+1<cLine)(I:Inv X AA σ H s)(g:DGet H a y o)(ry:RelV y u)(rd:RelV d r)(h:∀ w' s',Inv X AA σ H s'->RelV (o.getD d) w'->Q w' s') :
  wpAny (model X.prog X.w) A (call (.builtin "dict.get") [.ref a,u,r]) Q E s:=by
 rcases g with⟨AD,k,e,ey,l⟩ | ⟨AD,k,b,e,ey,eb,l⟩
 ·subst ey
  obtain⟨z,hd,vs,rel,dd⟩:=IA I.hok e
  refine call_meetsIn PySem.F.slot_dict_get dd.typeIs PySem.F.entry_dict_get (PySem.F.args_dict_get_3 _ _ _) (meets_dict_get_default (D4 X.prog X.w) a (J5 ry) hd r) ⟨_,dd.mapOf,h _ _ (I.tok _) ?_⟩
  rw[l]
  exact(rel.val k).getD rd
 ·subst ey
  cases (show u=Value.ref b from ry)
  obtain⟨z,hd,xs,rel,dd⟩:=IZ I.hok e
  refine call_meetsIn PySem.F.slot_dict_get dd.typeIs PySem.F.entry_dict_get (PySem.F.args_dict_get_3 _ _ _) (meetsH_dict_get_default (tupleKind (D4 X.prog X.w)) a b hd r) ⟨tupleKind_room_in1 hu,k,xs,J6 I.hok eb,dd,h _ _ (I.tok _) ?_⟩
  rw[l]
  exact(rel.val k).getD rd
end
def RZ(td ty:TE):TE:=λσ H Q=>td σ H λx H1=>∃ a,x=.ref a/\MO H1 a/\ty σ H1 λy H2=>∃ o,DGet H2 a y o/\Q (o.getD .non) H2
def R0(td ty tx:TE):TE:=λσ H Q=>td σ H λx H1=>∃ a,x=.ref a/\MO H1 a/\ty σ H1 λy H2=>tx σ H2 λz H3=>∃ o,DGet H3 a y o/\Q (o.getD z) H3
section
variable{X:Cx}{o e f:Expr}{CM C5:Pos}{td ty tx:TE}
theorem tU(hu:X.A.units+1<cLine)(ho:PE X o td)(he:PE X e ty)(m:M1 X o "get" CM e C5):PE X (.Call (.Attribute o "get" CM) [e] [] C5) (RZ td ty):=by
 intro AA s σ H Q I h
 refine wpAny_Call_method m.base m.few m.line PySem.F.plainAttrs_dict PySem.F.slot_dict_get PySem.F.type_dict_get (AV (ho AA s σ H _ I h) λu s1 hzz=> ?_)
 obtain⟨x,H1,I1,rx,a,ex,d,q1⟩:=hzz
 subst ex
 obtain rfl:u=Value.ref a:=rx
 obtain⟨t1,t2,_⟩:=bJ I1 d
 refine⟨t1,t2,?_⟩
 rw[m.trees]
 refine Calls.callWith_builtin rfl (Calls.evalArgs_plain (Calls.spliced_cons (AV (he AA s1 σ H1 _ I1 q1) λiv s2 ⟨y,H2,I2,ry,ov,g,q2⟩=>Calls.spliced_nil ?_)))
 exact tS hu I2 g ry λw' s3 I3 rw'=>⟨_,H2,I3,rw',q2⟩
theorem tV(hu:X.A.units+1<cLine)(ho:PE X o td)(he:PE X e ty)(hf:PE X f tx)(m:M2 X o "get" CM e f C5):PE X (.Call (.Attribute o "get" CM) [e,f] [] C5) (R0 td ty tx):=by
 intro AA s σ H Q I h
 refine wpAny_Call_method m.base m.few m.line PySem.F.plainAttrs_dict PySem.F.slot_dict_get PySem.F.type_dict_get (AV (ho AA s σ H _ I h) λu s1 hzz=> ?_)
 obtain⟨x,H1,I1,rx,a,ex,d,q1⟩:=hzz
 subst ex
 obtain rfl:u=Value.ref a:=rx
 obtain⟨t1,t2,_⟩:=bJ I1 d
 refine⟨t1,t2,?_⟩
 rw[m.trees]
 refine Calls.callWith_builtin rfl (Calls.evalArgs_plain (Calls.spliced_cons (AV (he AA s1 σ H1 _ I1 q1) λiv s2 ⟨y,H2,I2,ry,q2⟩ =>
  Calls.spliced_cons (AV (hf AA s2 σ H2 _ I2 q2) λfv s3 ⟨z,H3,I3,rz,ov,g,q3⟩=>Calls.spliced_nil ?_))))
 exact tT hu I3 g ry rz λw' s4 I4 rw'=>⟨_,H3,I4,rw',q3⟩
end
section
variable{X:Cx}{AA:List (Addr × Obj)}{σ:St}{H:Hp}{s:Shared}{a:Addr}{AD:List (AM × V)}{A:Around}{E:Value->Shared->Prop}
theorem tW{Q:Value->Shared->Prop}(I:Inv X AA σ H s)(e:Rd H a (.dK AD))(h:∀ p s',H p=none->Inv X AA σ (upd H p (.dK AD)) s'->Q (.ref p) s'):wpAny (model X.prog X.w) A (call (.type "dict") [.ref a]) Q E s:=by
 obtain⟨z,hd,vs,rel,dd⟩:=IA I.hok e
 refine kt_call_dict hd dd (by rw[<-rel.length];exact z) λh' dd' hs=> ?_
 refine h _ _ (I.hok.fresh (Nat.le_refl _)) (I.laid (a:=s.heap.objs.size) (o:=.dK AD) (t':=s.toks) (λb q hq=> ?_) (Nat.le_refl _) (bG z (beq_eq_false_iff_ne.mpr (Ne.symm (Nat.ne_of_lt I.big))) rel dd'))
 exact(hs.2 b (Nat.ne_of_lt (Heap.lt_size hq))).trans (Heap.get?_push_of_some _ hq)
end
section
variable{X:Cx}{AA:List (Addr × Obj)}{σ:St}{H:Hp}{s:Shared}{a:Addr}{y:V}{u:Value}{A:Around}{E:Value->Shared->Prop}
end
end L2
namespace Att
open PySem PySem.W PySem.Calls PyProof.Rows
theorem tX{P:Params}{h:Heap}:∀ (ns:List Int) (vs:List Value),WellAll P h vs (ns.map WData.int)->IntsAre vs ns:=by
 intro ns
 induction ns with
 | nil =>
  intro vs w
  rw[List.map_nil]at w
  cases w
  exact .nil
 | cons n ns ih =>
  intro vs w
  rw[List.map_cons]at w
  cases w with
  | cons a b =>
   cases a
   exact .cons _ _ (ih _ b)
theorem tY{l:OpenLaw}{n:Nat}(hn:l.most=some n){P:Params}{h:Heap}{args:List WData}{vals:List Value}
  (hpre:l.row.toRowW.claim.pre args=true) (hwl:WellAll P h vals args) :
  ∃ a vs ns,vals=[Value.ref a]/\args=[WData.list (ns.map WData.int)]/\h.get? a=some { cls:=.type "list",data:=.seq vs.toArray }/\IntsAre vs ns/\ns.length<=n:=by
 have hsh:WShape.hasAll [] args [.list .int]=true:=(pre_splitW hpre).1
 have hc:l.pre.holds [] { args:=args }=true:=(pre_splitW hpre).2
 obtain⟨d,r,rfl,h1,h2⟩:=hasAllW_cons hsh
 obtain rfl:=hasAllW_nil h2
 obtain⟨xs,rfl,h3⟩:=hasW_list h1
 obtain⟨ns,rfl⟩:=items_int h3
 have BT:ns.length<=n:=by
  unfold OpenLaw.pre at hc
  have h4:(WTm.not (.lt (.lit (.int (n:Int))) (.len (.arg 0)))).holds [] { args:=[.list (ns.map .int)] }=true:=by
   have h4:=(holds_andW hc).1
   rw[hn]at h4
   exact h4
  have h5:=condW_of h4 (w_not (w_lt w_lit (w_len_list (w_arg rfl))))
  rw[List.length_map]at h5
  refine Nat.le_of_not_lt λq=> ?_
  have q':(n:Int)<((ns.length:Nat):Int):=by omega
  first
   | (rw[decide_eq_true q']at h5;exact absurd h5 (by decide))
   | (simp at h5;omega)
 cases hwl with
 | cons w1 w2 =>
  cases w2
  cases w1 with
  | list ho hall=>exact⟨_,_,ns,rfl,rfl,ho,tX ns _ hall,BT⟩
theorem tZ(l:OpenLaw)(args:List WData):l.row.toRowW.claim.post args (.bool true) args=true :=
 postW_of (r:=l.row.toRowW) (X:=(true == true))
  (show WShape.has [] (.bool true) .bool=true by first | rfl | decide | simp[WShape.has,WShape.arms,WShape.armsAll])
  (show(WTm.eq .res (.lit (.bool true))).value [] { args:=args,res:=some (.bool true),after:=args }=some (.bool (true == true))from w_eq_bool (w_res rfl) w_lit) rfl
theorem attach_call{l:OpenLaw}{n:Nat}{q:Program}{loose:List Str}{XP:(Str->Option Value)->Heap->Prop}{YP:World->Heap->Prop}{d:DefRec}
  (hn:l.most=some n) (hdf:d.params.defaults=[])
  (call:∀ (w:World) (s₀ s₁:Shared) (mg mb:Str->Option Value) (fa:Addr) (o:Obj) (pm cd doc:Value) (a:Addr) (vs:List Value) (ns:List Int),
   Ground q loose [] XP w s₀ mg mb s₁.heap->YP w s₁.heap →
   s₁.heap.get? fa=some o->o.data=.func (docDef d.name d.params d.body d.scope pm cd doc)->s₁.heap.CodeRec cd d.name->mg d.name=some (.ref fa) →
   s₁.heap.get? a=some { cls:=.type "list",data:=.seq vs.toArray }->IntsAre vs ns->ns.length<=n->s₁.gens= #[] →
   codeAny (model l.prog w) callerA (.call (.ref fa) ⟨[.ref a],[]⟩) (λr s'=>r=.ok (.ret (.bool true))/\OldK s₁.heap s'.heap/\s'.os=s₁.os/\AllBare s'.gens) s₁) :
  WalkO q loose XP YP l.row.toRowW d [] (λf vs=>PySem.call f vs):=by
 intro w s₀ s₁ mg mb G Y fa o pm cd doc dV kV ho hd HR hD hmg hg args vals as hpre hlay hrd hwl hlo
 obtain rfl:dV=.none:=Dflts.none hD hdf
 obtain rfl:kV=.none:=Dflts.noKw hD
 obtain⟨a,vs,ns,rfl,rfl,hobj,hints,BT⟩:=tY hn hpre hwl
 refine enter_call (codeAny_mono (call w s₀ s₁ mg mb fa o pm cd doc a vs ns G Y ho (fd_plain hd) HR hmg hobj hints BT hg) λr s' hq=> ?_)
 obtain⟨rfl,h2,h3,h4⟩:=hq
 exact⟨.inl ⟨.bool true,.bool true,[],rfl,λ_=>rfl,.bool true,tZ l _,λ_=>⟨List.Pairwise.nil,λ_ hm=>(nomatch hm)⟩⟩,h2,h3,h4⟩
section
variable{prog:Program}{w:World}{A:Around}{E:Value->Shared->Prop}{s:Shared}{K:Frag}
end
end Att
namespace L2
theorem R1:∀ {vs:List Value} {ns:List Int},IntsAre vs ns->Vals (ns.map V.int) vs
 | _,_,.nil=>.nil
 | _,_,.cons n t h=>.cons ⟨t,rfl⟩ (R1 h)
def R3(H:Hp):Prop:=∀ b,H b=none\/∃ o xs,H b=some (.frz o (.lst xs))
theorem t3 {P:Program} {w:World} {K:W.Frag} {mg mb:Str->Option Value} {CX:F9} {k:Nat} {fa a:Addr} {fd:FuncData} {x:Str} {sp:Sp} {s₁:Shared} {vs:List Value} {ns:List Int}
    (KX:K.In s₁.heap) (hns:s₁.heap.Ns mainGlobals mg) (hb:s₁.heap.Ns builtinsNs mb) (hbb:∀ x:Str,x≠"__name__"->mb x=bootBuiltins x) (hlim:s₁.heap.NoLimit) (hg:s₁.gens= #[])
    (ha:s₁.heap.get? a=some { cls:=.type "list",data:=.seq vs.toArray }) (hi:IntsAre vs ns) (hl:ns.length<=sizeLine) (hr:Room k callerA)
    (F:∀ base:Heap,K.In base->base.Ns mainGlobals mg->FnOk P w K mg base CX k fa fd [x] sp) (hbind:∀ (s:Shared) (u:Value),BindsTo s fd ⟨[u],[]⟩ [(x,u)])
    (hsp:∀ H:Hp,R3 H->SqL K H a (ns.map V.int)->sp [.ref a] H (λv _=>v=.bl true) λ_ _ _=>False)
    (hCX:∀ H e s',CX [] H s₁ (λ_ _ _=>False) e s'->False) :
    codeAny (model P w) callerA (.call (.ref fa) ⟨[.ref a],[]⟩) (λr s'=>r=.ok (.ret (.bool true))/\OldK s₁.heap s'.heap/\s'.os=s₁.os/\AllBare s'.gens) s₁:=by
  have rv:=R1 hi
  have lenV:=hi.length
  have core:∀ H:Hp,R3 H->SqL K H a (ns.map V.int)->HOk P w H s₁.heap->(∀ b,H b≠none->b=a)->(H a≠none->K.lookup a=none) →
      codeAny (model P w) callerA (.call (.ref fa) ⟨[.ref a],[]⟩) (λr s'=>r=.ok (.ret (.bool true))/\OldK s₁.heap s'.heap/\s'.os=s₁.os/\AllBare s'.gens) s₁:=by
    intro H hO hS hok hA hK
    have base_of:∀ {b:Addr} {o:Obj},s₁.heap.get? b=some o->H b=none->(HU s₁.heap H).get? b=some o:=λe n=>qA e n
    have noA:∀ {b:Addr} {o:Obj} {es:Array DictEntry} {ep:Nat},s₁.heap.get? b=some o->o.data=.dict es ep->H b=none:=λ{b o es ep} e d=>by
      cases q:H b with
      | none=>rfl
      | some u =>
        have e':b=a:=hA b (by rw[q];simp)
        subst e'
        rw[ha]at e;cases e
        have d':Data.seq vs.toArray _=Data.dict es ep:=d
        cases d'
    have nsK:∀ {b:Addr} {m:Str->Option Value},s₁.heap.Ns b m->(HU s₁.heap H).Ns b m:=λ{b m} ⟨o,es,ep,e,d,r⟩=>⟨o,es,ep,base_of e (noA e d),d,r⟩
    have hKb:K.In (HU s₁.heap H):=λb o e=>base_of (KX b o e) (by
      cases q:H b with
      | none=>rfl
      | some u =>
        have e':b=a:=hA b (by rw[q];simp)
        subst e'
        rw[hK (by rw[q];simp)]at e;cases e)
    have hM:Mod K mg (HU s₁.heap H):=⟨hKb,nsK hns,⟨mb,nsK hb,hbb⟩,let ⟨mc,h1,h2⟩:=hlim;⟨mc,nsK h1,h2⟩⟩
    have e0:Env0 P w K mg (HU s₁.heap H) callerA [] s₁ H:=⟨rfl,hM,λb o e=>qB e,Nat.le_of_eq (p9 _ _),trivial,λb hb=>absurd (show b∈([]:List Addr)from hb) (by simp),hok,.of_eq hg⟩
    refine codeAny_mono ((F _ hKb (nsK hns)).run callerA [] s₁ H ⟨[.ref a],[]⟩ [.ref a] [.ref a] _ _ hr e0 (hbind s₁ (.ref a)) (.cons rfl .nil) (hsp H hO hS)) λr s' h=> ?_
    cases r with
    | error e=>exact(hCX H e s' h).elim
    | ok fl =>
      cases fl with
      | next=>exact False.elim h
      | brk=>exact False.elim h
      | cont=>exact False.elim h
      | ret u =>
        obtain⟨v,H',os,bare,un,hok',r',q⟩:=h
        have q':v=.bl true:=q
        subst q'
        obtain rfl:u=Value.bool true:=r'
        refine⟨rfl,OldK.of_keep λb o e=> ?_,os,bare⟩
        cases q:H b with
        | none=>exact un.keep b o e q (by intro z;exact absurd (show b∈([]:List Addr)from z) (by simp)) (by simp)
        | some u =>
          rcases hO b with z | ⟨ob,xs,z⟩
          ·rw[q]at z;cases z
          · have z2:=un.frzs b ob _ z
            obtain⟨e1,_⟩:=hok b _ z
            obtain⟨e2,_⟩:=hok' b _ z2
            rw[e]at e1;cases e1
            exact e2
  cases hk:K.lookup a with
  | some o =>
    have e:=KX a o hk
    rw[ha]at e
    cases e
    refine core (λ_=>none) (λ_=>.inl rfl) (.inr ⟨_,vs.toArray,_,hk,rfl,rfl,rfl,by rw[List.size_toArray,lenV];exact hl,by simpa using rv⟩) (λb u z=>by have z':(none:Option HO)=some u:=z;cases z') (λb z=>absurd rfl z) λz=>absurd rfl z
  | none =>
    refine core (λb=>if b=a then some (.frz { cls:=.type "list",data:=.seq vs.toArray } (.lst (ns.map V.int)))else none) (λb=> ?_) (.inl (.inr ⟨{ cls:=.type "list",data:=.seq vs.toArray },if_pos rfl⟩)) (λb u z=> ?_) (λb z=> ?_) λ_=>hk
    · by_cases hb:b=a
      ·exact .inr ⟨_,_,if_pos hb⟩
      ·exact .inl (if_neg hb)
    · by_cases hb:b=a
      · have z':=(if_pos hb).symm.trans z
        cases z'
        subst hb
        exact⟨ha,by rw[List.length_map];exact hl,vs,_,rv,ha⟩
      · have z':=(if_neg hb).symm.trans z
        cases z'
    · by_cases hb:b=a
      ·exact hb
      ·exact absurd (if_neg hb) z
end L2
namespace L2
theorem walk_of{l:W.OpenLaw}{n k:Nat}{q:Program}{loose:List Str}{XP:(Str->Option Value)->Heap->Prop}{YP:World->Heap->Prop}{d:DefRec}{K:Params->W.Frag}{CX:World->F9}{sp:World->Sp}{x:Str}
  (hn:l.most=some n) (hn2:n<=sizeLine) (hdf:d.params.defaults=[]) (hr:Room k callerA)
  (hY:∀ (w:World) (h:Heap),YP w h->(K w.params).In h)
  (F:∀ (w:World) (mg:Str->Option Value) (fa:Addr) (h:Heap),(K w.params).In h->h.Ns mainGlobals mg->mg d.name=some (.ref fa) →
   ∃ fd:FuncData,(∀ (s:Shared) (u:Value),BindsTo s fd ⟨[u],[]⟩ [(x,u)]) ∧
    ∀ base:Heap,(K w.params).In base->base.Ns mainGlobals mg->FnOk l.prog w (K w.params) mg base (CX w) k fa fd [x] (sp w))
  (hsp:∀ (w:World) (H:Hp) (a:Addr) (ns:List Int),ns.length<=n->R3 H->SqL (K w.params) H a (ns.map V.int)->sp w [.ref a] H (λv _=>v=.bl true) λ_ _ _=>False)
  (hCX:∀ (w:World) (H:Hp) (s:Shared) (e:Value) (s':Shared),CX w [] H s (λ_ _ _=>False) e s'->False) :
  W.WalkO q loose XP YP l.row.toRowW d [] (λf vs=>PySem.call f vs):=by
 refine Att.attach_call hn hdf λw s₀ s₁ mg mb fa o pm cd doc a vs ns G Y ho hd HR hmg hobj hints BT hg=> ?_
 have KX:=hY w _ Y
 obtain⟨fd,hb,hF⟩:=F w mg fa _ KX G.T.g hmg
 exact t3 KX G.T.g G.T.b G.T.builtins G.T.nolimit hg hobj hints (Nat.le_trans BT hn2) hr hF hb (λH hO hS=>hsp w H a ns BT hO hS) λH e s'=>hCX w H s₁ e s'
end L2
namespace L2
def BS(s:Stmt)(j:Nat):Stmt:=match s with
 | .ClassDef _ _ _ body _ _ _ _ _ _ _=>body.getD j (.Pass ⟨0,0,0,0⟩)
 | _=>.Pass ⟨0,0,0,0⟩
def IB(s:Stmt):Arguments:=match s with
 | .FunctionDef _ a _ _ _ _ _ _ _ _=>a
 | _=>{ posonlyargs:=[],args:=[],vararg:=none,kwonlyargs:=[],kw_defaults:=[],kwarg:=none,defaults:=[] }
def GD(s:Stmt):List Stmt:=match s with
 | .FunctionDef _ _ b _ _ _ _ _ _ _=>b
 | _=>[]
def A1(s:Stmt):Scope:=match s with
 | .FunctionDef _ _ _ _ _ _ sc _ _ _=>sc
 | _=>{ kind:=.function,names:=[],isGenerator:=false,isCoroutine:=false }
abbrev E0:XK:=λ_ _ _=>False
structure Fun(K:W.Frag)(x qual:Str)(st:Stmt)(f:Addr)(fd:FuncData):Prop where
 ex:∃ (oc:Value) (od:Option Addr) (kV doc pm:Value) (an:Option Addr) (BR ct:Value) (osl:Array (Option Value)),
  fd=W.fnOf x qual (IB st) (GD st) (A1 st) .none kV doc pm an BR ct/\K.lookup f=some ⟨oc,od,.func fd,osl⟩/\W.codeIn K BR qual=true
 kp:W.keepIn K (.ref f)=true
section
variable{P:Program}{w:World}{K:W.Frag}{mg:Str->Option Value}{base:Heap}
theorem Fun.binds{x qual:Str}{st:Stmt}{f:Addr}{fd:FuncData}{ps:List Str}(F:Fun K x qual st f fd)
  (h:∀ (kV doc pm:Value) (an:Option Addr) (BR ct:Value) (us:List Value),us.length=ps.length->bindArgs (W.fnOf x qual (IB st) (GD st) (A1 st) .none kV doc pm an BR ct) ⟨us,[]⟩=pure (ps.zip us)):Binds K fd ps []:=by
 obtain⟨oc,od,kV,doc,pm,an,BR,ct,osl,rfl,lk,HR⟩:=F.ex
 exact .all (h kV doc pm an BR ct)
theorem bK{x qual:Str}{st:Stmt}{f:Addr}{oc:Value}{od an:Option Addr}{osl:Array (Option Value)}{kV doc pm BR ct:Value}(l:K.lookup f=some ⟨oc,od,.func (W.fnOf x qual (IB st) (GD st) (A1 st) .none kV doc pm an BR ct),osl⟩)
  (c:W.codeIn K BR qual=true) (k:W.keepIn K (.ref f)=true):Fun K x qual st f (W.fnOf x qual (IB st) (GD st) (A1 st) .none kV doc pm an BR ct):=⟨⟨oc,od,kV,doc,pm,an,BR,ct,osl,rfl,l,c⟩,k⟩
end
theorem C7{A:Around}{k:Nat}(hr:Room k A):A.units+1<cLine:=Nat.lt_of_le_of_lt (Nat.add_le_add_left (by decide:1<=64) _) hr.units
section
variable{X:Cx}
end
def Same(H H':Hp):Prop:=∀ b o,H b=some o->H' b=some o
theorem Same.refl(H:Hp):Same H H:=λ_ _ h=>h
theorem Same.trans{H H1 H2:Hp}(a:Same H H1)(b:Same H1 H2):Same H H2:=λc o h=>b c o (a c o h)
theorem Same.free{H H':Hp}(e:Same H H'){l:Addr}(h:H' l=Option.none):H l=Option.none:=by
 cases q:H l with
 | none=>rfl
 | some o =>
  rw[e l o q]at h
  cases h
theorem Same.seq{K:W.Frag}{H H':Hp}{a:Addr}{xs:List V}(e:Same H H')(h:SqL K H a xs):SqL K H' a xs:=by
 rcases h with(h | ⟨o,h⟩) | h
 ·exact .inl (.inl (e _ _ h))
 ·exact .inl (.inr ⟨o,e _ _ h⟩)
 ·exact .inr h
section
variable{κ :Type}[DecidableEq κ]
theorem t4{AD:List (κ × V)}{k: κ}(h:BK AD k=none):¬ k∈AD.map (·.1):=by
 intro m
 obtain⟨p,hp,e⟩:=List.mem_map.mp m
 have q:(AD.any λkv=>decide (kv.1=k))=true:=List.any_eq_true.mpr ⟨p,hp,decide_eq_true e⟩
 rw[IX,h]at q
 exact absurd q (by simp)
theorem bL:∀ {l:List κ} {k: κ},l.Nodup->¬ k∈l->(l++[k]).Nodup
 | [],k,_,_=>by simp
 | a::r,k,h,hk=>by
  obtain⟨h1,h2⟩:=List.nodup_cons.mp h
  show(a::(r++[k])).Nodup
  refine List.nodup_cons.mpr ⟨λm=> ?_,bL h2 λm=>hk (List.mem_cons.mpr (Or.inr m))⟩
  rcases List.mem_append.mp m with q | q
  ·exact h1 q
  ·exact hk (List.mem_cons.mpr (Or.inl (List.mem_singleton.mp q).symm))
theorem t5{AD:List (κ × V)}{k: κ}(v:V)(hn:(AD.map (·.1)).Nodup)(h:BK AD k=none):((BW AD k v).map (·.1)).Nodup:=by
 rw[bC v h,List.map_append]
 exact bL hn (t4 h)
end
end L2
namespace L2
theorem R4{env:Env}:∀ (names:List (Str × NameKind)) (cs:List (Str × Addr)),
  (∀ x∈names,x.2=.free->∃ c,env.cells.lookup x.1=some c)->(∀ x c,cs.lookup x=some c->env.cells.lookup x=some c) →
  ∃ cl,(forIn names cs λx r=>(if(x.2 == NameKind.free)=true then do let a ← cellOf env x.1;pure (ForInStep.yield ((x.1,a)::r))else pure (ForInStep.yield r):Sem (ForInStep (List (Str × Addr)))))=pure cl ∧
   (∀ x c,cl.lookup x=some c->env.cells.lookup x=some c)/\(∀ x,(cs.lookup x).isSome=true->(cl.lookup x).isSome=true) ∧
   ∀ x∈names,x.2=.free->(cl.lookup x.1).isSome=true
 | [],cs,_,h=>⟨cs,rfl,h,λ_ z=>z,λ_ z=>nomatch z⟩
 | (n,k)::r,cs,hf,h=>by
  by_cases hk:k=.free
  ·subst hk
   obtain⟨c,hc⟩:=hf (n,.free) List.mem_cons_self rfl
   obtain⟨cl,e,h1,h2,h3⟩:=R4 r ((n,c)::cs) (λx hx=>hf x (List.mem_cons_of_mem _ hx)) (λx c' hx=>by
    by_cases hxn:x=n
    ·subst hxn;simp only[List.lookup_cons,beq_self_eq_true]at hx;cases hx;exact hc
    ·have:(x == n)=false:=beq_eq_false_iff_ne.mpr hxn
     simp only[List.lookup_cons,this]at hx;exact h x c' hx)
   refine⟨cl,?_,h1,λx hx=>h2 x ?_,λx hx hxf=> ?_⟩
   ·rw[List.forIn_cons]
    show((if(NameKind.free == NameKind.free)=true then _ else _) >>= _)=_
    rw[if_pos (show(NameKind.free == NameKind.free)=true from rfl)]
    unfold cellOf
    show(((match env.cells.lookup n with | some a=>pure a | none=>_) >>= _) >>= _)=_
    rw[hc]
    exact e
   ·by_cases hxn:x=n
    ·subst hxn;simp
    ·have:(x == n)=false:=beq_eq_false_iff_ne.mpr hxn
     simp only[List.lookup_cons,this];exact hx
   ·rcases List.mem_cons.mp hx with rfl | hx
    ·exact h2 n (by simp)
    ·exact h3 x hx hxf
  ·obtain⟨cl,e,h1,h2,h3⟩:=R4 r cs (λx hx=>hf x (List.mem_cons_of_mem _ hx)) h
   refine⟨cl,?_,h1,h2,λx hx hxf=> ?_⟩
   ·rw[List.forIn_cons]
    have hb:(k == NameKind.free)=false:=by simpa using hk
    show((if(k == NameKind.free)=true then _ else _) >>= _)=_
    rw[if_neg (by simp[hb])]
    exact e
   ·rcases List.mem_cons.mp hx with rfl | hx
    ·exact absurd hxf hk
    ·exact h3 x hx hxf
theorem bM{env:Env}{scope:Scope}(hf:∀ x∈scope.names,x.2=.free->∃ c,env.cells.lookup x.1=some c) :
  ∃ cl,closureFor scope env=pure cl/\(∀ x c,cl.lookup x=some c->env.cells.lookup x=some c)/\∀ x∈scope.names,x.2=.free->(cl.lookup x.1).isSome=true:=by
 obtain⟨cl,e,h1,_,h3⟩:=R4 (env:=env) scope.names [] hf (λx c h=>by simp at h)
 refine⟨cl,?_,h1,h3⟩
 unfold closureFor
 show(forIn scope.names ([]:List (Str × Addr)) _ >>= _)=_
 have:(forIn scope.names ([]:List (Str × Addr)) λx r=>(if(x.2 == NameKind.free)=true then do let a ← cellOf env x.1;pure (ForInStep.yield ((x.1,a)::r))else pure (ForInStep.yield r):Sem (ForInStep (List (Str × Addr))))) >>=(λr=>(pure r:Sem _))=(pure cl:Sem _):=by rw[e];rfl
 exact this
theorem bN{env:Env}:∀ {names:List (Str × NameKind)} {x:Str},names.lookup x=some .free →
  (names.map λ(n,k)=>if(k == NameKind.free && env.scope.kind == .function && env.kindOf n == some .cell)then(n,NameKind.cell)else(n,k)).lookup x=some .cell ∨
  (names.map λ(n,k)=>if(k == NameKind.free && env.scope.kind == .function && env.kindOf n == some .cell)then(n,NameKind.cell)else(n,k)).lookup x=some .free
 | [],_,h=>by simp at h
 | (n,k)::r,x,h=>by
  by_cases hx:x=n
  ·subst hx
   simp only[List.lookup_cons,beq_self_eq_true]at h
   cases h
   show List.lookup x ((if _ then(x,NameKind.cell)else(x,NameKind.free))::_)=_\/List.lookup x ((if _ then(x,NameKind.cell)else(x,NameKind.free))::_)=_
   split
   ·exact .inl (by simp)
   ·exact .inr (by simp)
  ·have hb:(x == n)=false:=beq_eq_false_iff_ne.mpr hx
   simp only[List.lookup_cons,hb]at h
   have ih:=bN (env:=env) h
   show List.lookup x ((if _ then(n,NameKind.cell)else(n,k))::_)=_\/List.lookup x ((if _ then(n,NameKind.cell)else(n,k))::_)=_
   split<;>(simp only[List.lookup_cons,hb];exact ih)
theorem bO{env:Env}:∀ {names:List (Str × NameKind)} {x:Str},
  ((names.map λ(n,k)=>if(k == NameKind.free && env.scope.kind == .function && env.kindOf n == some .cell)then(n,NameKind.cell)else(n,k)).lookup x=some .cell ∨
  (names.map λ(n,k)=>if(k == NameKind.free && env.scope.kind == .function && env.kindOf n == some .cell)then(n,NameKind.cell)else(n,k)).lookup x=some .free)->(x,NameKind.free)∈names\/(x,NameKind.cell)∈names
 | [],_,h=>by simp at h
 | (n,k)::r,x,h=>by
  by_cases hx:x=n
  ·subst hx
   have h:List.lookup x ((if(k == NameKind.free && env.scope.kind == .function && env.kindOf x == some .cell)=true then(x,NameKind.cell)else(x,k))::_)=some .cell\/List.lookup x ((if(k == NameKind.free && env.scope.kind == .function && env.kindOf x == some .cell)=true then(x,NameKind.cell)else(x,k))::_)=some .free:=h
   split at h
   ·rename_i hc
    rw[Bool.and_eq_true,Bool.and_eq_true]at hc
    have:k=.free:=by simpa using hc.1.1
    subst this
    exact .inl List.mem_cons_self
   ·simp only[List.lookup_cons,beq_self_eq_true]at h
    rcases h with h | h
    ·cases h;exact .inr List.mem_cons_self
    ·cases h;exact .inl List.mem_cons_self
  ·have hb:(x == n)=false:=beq_eq_false_iff_ne.mpr hx
   have h:List.lookup x ((if(k == NameKind.free && env.scope.kind == .function && env.kindOf n == some .cell)=true then(n,NameKind.cell)else(n,k))::_)=some .cell\/List.lookup x ((if(k == NameKind.free && env.scope.kind == .function && env.kindOf n == some .cell)=true then(n,NameKind.cell)else(n,k))::_)=some .free:=h
   have h':=h
   split at h'
   all_goals
    simp only[List.lookup_cons,hb]at h'
    exact(bO h').imp (List.mem_cons_of_mem _) (List.mem_cons_of_mem _)
theorem EY{a b:Addr}{n:Nat}(h:a<n)(h2:n<=b):a≠b:=Nat.ne_of_lt (Nat.lt_of_lt_of_le h h2)
def Cx.block(X:Cx)(AA:List (Addr × Obj))(s:Shared)(H:Hp)(Nc:List Str)(scope:Scope)(cl:List (Str × Addr))(C:Addr)(fp:List Addr):Cx where
 prog:=X.prog
 w:=X.w
 K:=X.K
 mg:=X.mg
 base:=X.base
 A:=X.A
 N:=Nc
 s₀:=s
 H₀:=H
 env:=compEnvC scope cl C X.env
 outer:=X.stack
 stack:=X.stack
 ex:=fp
 fn:=λ_=>false
 calm:=X.calm
 pn:=X.pn++AA
 xe:=λ_ _=>False
structure KZ(X:Cx)(scope:Scope)(tn cn:List Str)(cap:List Nat):Prop where
 kind:scope.kind=.function
 nocell:∀ y∈scope.names,y.2≠.cell
 names:∀ y∈scope.names,y.2=.local->scope.names.lookup y.1=some .local
 free:∀ y∈scope.names,y.2=.free->X.env.kindOf y.1=some .cell\/X.env.kindOf y.1=some .free
 drawn:∀ x∈cn,scope.names.lookup x=some .free
 caps:cap.map (λi=>X.N[i]?)=cn.map some
def JD(k:Nat)(cap:List Nat)(σ:St):St:=List.replicate k none++cap.map λi=>(σ[i]?).join
theorem HOk.track{P:Program}{w:World}{H:Hp}{h:Heap}{a:Addr}{o:HO}(x:HOk P w H h)(hn:H a=none)(new:ObjOk P w (upd H a o) h a o):HOk P w (upd H a o) h:=λb u e=>by
 by_cases hb:b=a
 ·subst hb;rw[AF]at e;cases e;exact new
 ·rw[AH hb]at e
  refine(x b u e).stay (λ_ _ _ q=>q) (λc q=> ?_) λc xs q=> ?_
  ·rw[AH (BL q hn)];exact q
  ·rw[AH (BL q hn)];exact q
section
variable{X:Cx}{AA:List (Addr × Obj)}{σ:St}{H:Hp}{s:Shared}
theorem Inv.pinlt(I:Inv X AA σ H s){p:Addr × Obj}(hp:p∈X.pn++AA):p.1<s.heap.objs.size:=Heap.lt_size (I.pin p hp).1
theorem Inv.stkne(I:Inv X AA σ H s){b:Addr}(h1:b≠X.env.locals)(h2:b∉X.fs):b∉DP X.stack:=λz=>(List.mem_cons.mp (I.stkSub b z)).elim h1 h2
theorem Inv.stklt(I:Inv X AA σ H s){b:Addr}(h:b∈DP X.stack):b<s.heap.objs.size:=by
 obtain⟨_,o,ho,_⟩:=I.stack.mem h
 exact Heap.lt_size ho
theorem Inv.block{scope:Scope}{tn cn:List Str}{cap:List Nat}{cl:List (Str × Addr)}{C:Addr}{fp:List Addr}{pins':List (Addr × Obj)}{s1:Shared}(I:Inv X AA σ H s)(S:KZ X scope tn cn cap)
  (BJ:∀ x c,cl.lookup x=some c->X.env.cells.lookup x=some c) (JW:∀ x∈scope.names,x.2=.free->(cl.lookup x.1).isSome=true)
  (hf:∀ b∈fp,FpOk X AA H b) (hfl:∀ b∈fp,b<s.heap.objs.size) (hC:s.heap.objs.size<=C) (k:∀ b o,s.heap.get? b=some o->s1.heap.get? b=some o)
  (hos:s1.os=s.os) (hg:s1.gens=s.gens) (hns:∃ m,s1.heap.Ns C m)
  (hp:∀ p∈pins',s1.heap.get? p.1=some p.2/\H p.1=none/\p.1≠C/\p.1∉DP X.stack/\∀ v,p.2.data≠.cell v) :
  Inv (X.block AA s H (tn++cn) scope cl C fp) pins' (JD tn.length cap σ) H s1:=by
 have ok:(X.block AA s H (tn++cn) scope cl C fp).Ok:=by
  refine⟨I.ok.mod,S.kind,I.ok.glob,I.ok.blt,hC,λx y c h1 h2=>I.ok.inj x y c (BJ x c h1) (BJ y c h2),λx hx=> ?_,λx c z _=>(by cases z),I.ok.hd,I.ok.frames,.inl rfl,λb hb=>⟨?_,λx c e=>(hf b hb).2.2.2.2.1 x c (BJ x c e)⟩,I.bs,Nat.le_trans I.ok.bsz I.sz,λb o e hb=> ?_,λb hb=>I.stkne (hf b hb).2.1 (hf b hb).2.2.1,I.stack,I.stkFree⟩
  ·rcases bO (env:=X.env) hx with z | z
   ·exact Option.isSome_iff_exists.mp (JW _ z rfl)
   ·exact absurd rfl (S.nocell _ z)
  ·exact Nat.ne_of_lt (Nat.lt_of_lt_of_le (hfl b hb) hC)
  ·rcases(hf b hb).2.2.2.1 with z | z
   ·exact I.ok.noex b o e z
   ·have h1:b<X.base.objs.size:=Heap.lt_size e
    exact absurd (Nat.lt_of_lt_of_le h1 (Nat.le_trans I.ok.bsz z)) (Nat.lt_irrefl _)
 refine⟨ok,hos,by rw[hg];exact I.bare,Un.kept k,?_,λx c e=> ?_,I.hok.fresh hC,λx c e=>I.freeC x c (BJ x c e),λp hp'=> ?_,I.hok.kept k,?_⟩
 ·obtain⟨m,hm⟩:=hns
  refine⟨m,hm,λi x v h1 h2 h3=> ?_⟩
  have hi:tn.length<=i:=by
   rcases Nat.lt_or_ge i tn.length with z | z
   ·unfold JD at h2
    rw[List.getElem?_append_left (by simpa using z),List.getElem?_replicate]at h2
    split at h2<;>cases h2
   ·exact z
  unfold JD at h2
  rw[List.getElem?_append_right (by simpa using hi),List.length_replicate,List.getElem?_map]at h2
  have h1':cn[i - tn.length]? =some x:=by
   have:(tn++cn)[i]? =some x:=h1
   rwa [List.getElem?_append_right hi]at this
  cases hq:cap[i - tn.length]? with
  | none=>rw[hq]at h2;cases h2
  | some j =>
   rw[hq]at h2
   have hj:X.N[j]? =some x:=by
    have:=congrArg (λl=>l[i - tn.length]?) S.caps
    simp only[List.getElem?_map,hq,h1',Option.map_some]at this
    exact Option.some.inj this
   have hv:σ[j]? =some (some v):=by
    cases hs:σ[j]? with
    | none=>simp[hs]at h2
    | some y=>simp only[Option.map_some,hs,Option.join_some]at h2;cases h2;rfl
   have hxf:(x,NameKind.free)∈scope.names:=PySem.mem_of_lookup (S.drawn x (List.mem_of_getElem? h1'))
   have hk:=S.free _ hxf rfl
   obtain⟨m0,_,hl0⟩:=I.loc
   obtain⟨u,r,q⟩:=hl0 j x v hj hv (hk.elim (λz=>.inr (.inl z)) λz=>.inr (.inr z))
   refine⟨u,r,.inr ⟨bN (S.drawn x (List.mem_of_getElem? h1')),?_⟩⟩
   rcases q with⟨kl,_⟩ | ⟨_,c,hc,z⟩
   ·have kl':X.env.kindOf x=some .local:=kl
    rcases hk with hk | hk<;>(rw[kl']at hk;cases hk)
   ·obtain⟨c',hc'⟩:=Option.isSome_iff_exists.mp (JW _ hxf rfl)
    have:=BJ _ _ hc'
    rw[hc]at this
    cases this
    exact⟨c,hc',z.keeps k⟩
 ·obtain⟨v,z⟩:=I.cell x c (BJ x c e)
  exact⟨v,z.keeps k⟩
 ·rcases List.mem_append.mp hp' with z | z
  ·obtain⟨e,n,ne,nf,d⟩:=I.pin p z
   exact⟨k _ _ e,n,Nat.ne_of_lt (Nat.lt_of_lt_of_le (Heap.lt_size e) hC),I.stkne ne nf,d⟩
  ·exact hp p z
 ·unfold JD
  show _=(tn++cn).length
  have:=congrArg List.length S.caps
  simp only[List.length_map]at this
  simp[this]
end
def DL:TT:=λ_ H Q=>Q true H
def OE(X:Cx)(E6:List Expr)(t:TT):Prop :=
 ∀ (AA:List (Addr × Obj)) (s:Shared) (σ:St) (H:Hp) (Q:Bool->Hp->Prop),Inv X AA σ H s->t σ H Q →
  wpAny (model X.prog X.w) X.A (forIn E6 true λc r=>if r=true then do let ok ← isTrue c X.env (eval c X.env);pure (ForInStep.yield ok)else pure (ForInStep.yield r)) (TP X AA σ Q) X.xe s
theorem GT{X:Cx}:OE X [] DL:=λAA s σ H Q I h=>wpAny_tests_nil ⟨H,I,h⟩
theorem t7 {prog:Program} {w:World} {A:Around} {R:Result->Shared->Prop} {s:Shared} {FM target iter:Expr} {E6:List Expr} {scope:Scope} {pos:Pos} {it BY:Value} {env:Env} (Jn:Nat->Shared->Prop)
    (turn:∀ n s,Jn n s->wpAny (model prog w) A (pyNext it) (λr s₁=>match r with
      | none=>R (.ok .next) s₁
      | some v=>wpAny (model prog w) A (letOwnedTupleGo target it v) (λ_ s₂=>wpAny (model prog w) A (assign target env v) (λ_ s₃ =>
          wpAny (model prog w) A (forIn E6 true λc r=>if r=true then do let ok ← isTrue c env (eval c env);pure (ForInStep.yield ok)else pure (ForInStep.yield r)) (λok s₄ =>
            if ok=true then wpAny (model prog w) A (eval FM env) (λx s₅ =>
              wpAny (model prog w) A (call (.builtin "list.append") [BY,x]) (λ_ s₆=>∃ m,m<n/\Jn m s₆) (λ_ _=>False) s₅) (λ_ _=>False) s₄
            else ∃ m,m<n/\Jn m s₄) (λ_ _=>False) s₃) (λ_ _=>False) s₂) (λ_ _=>False) s₁) (λ_ _=>False) s)
    (n:Nat) (h:Jn n s):codeAny (model prog w) A (.compLoop (.ListComp FM [⟨target,iter,E6,0⟩] scope pos) 0 it BY env) R s:=by
  refine codeAny_loop rfl Jn (λn' s' hJ=> ?_) n h
  show wpAny _ A ((compTurn (.ListComp FM [⟨target,iter,E6,0⟩] scope pos) 0 it BY env).onRaise (λx'=>do noteFrame x' env;theTreesLotGoes x')) _ _ s'
  refine wpAny_noted (wpAny_noRaise ?_)
  rw[compTurn_list]
  refine wpAny_bind (wpAny_standAt (wpAny_bind (AV (turn n' s' hJ) λr s₁ h₁=> ?_)))
  cases r with
  | none=>exact wpAny_pure h₁
  | some v =>
    refine wpAny_bind (AV h₁ λ_ s₂ h₂=> ?_)
    refine wpAny_bind (AV h₂ λ_ s₃ h₃=>wpAny_bind (AV h₃ λok s₄ h₄=> ?_))
    cases ok with
    | false=>exact wpAny_pure ⟨rfl,h₄⟩
    | true=>exact wpAny_bind (wpAny_bind (AV h₄ λx' s₅ h₅=>wpAny_bind (AV h₅ λ_ s₆ h₆=>wpAny_pure (wpAny_pure ⟨rfl,h₆⟩))))
def EZ(wi:TI)(g:TG)(tt:TT)(te:TE)(k:Nat)(cap:List Nat):TE:=λσ H Q=>wi σ H λJ H1 =>
 ∃ W:Nat->Nat->St->List V->Hp->Prop,(∃ m,W 0 m (JD k cap σ) [] H1)/\∀ i m σ' ys H,W i m σ' ys H →
  (J.stop i H/\∀ p,H p=none->Q (.ref p) (upd H p (.lst ys))) ∨
  (J.go i H/\ys.length<sizeLine/\∀ x H',J.yld i H x H'->g x σ' H' λσ2 H2=>tt σ2 H2 λb H3 =>
   if b=true then ∃ N:VK,(∀ y H4,N y H4->∃ m',m'<m/\W (i+1) m' σ2 (ys++[y]) H4)/\te σ2 H3 N else ∃ m',m'<m/\W (i+1) m' σ2 ys H3)
structure CompDone(X:Cx)(fp:List Addr)(H:Hp)(s:Shared)(Q:VK)(BY:Value)(C:Addr)(r:Result)(s':Shared):Prop where
 ok:r=.ok .next
 ex:∃ (D:Addr) (ys:List V) (its:List Value) (n:Nat) (H':Hp),BY=.ref D/\Vals ys its/\ys.length<=sizeLine/\s'.heap.get? D=some { cls:=.type "list",data:=.seq its.toArray n }/\s.heap.objs.size<=D/\D≠C/\H' D=none/\H' C=none ∧
  (∃ m,s'.heap.Ns C m)/\Un (DP X.stack) fp H H' s.heap s'.heap/\HOk X.prog X.w H' s'.heap/\∀ p,H' p=none->Q (.ref p) (upd H' p (.lst ys))
 ge:s.heap.objs.size<=C
 os:s'.os=s.os
 bare:AllBare s'.gens
section
variable{X:Cx}{AA:List (Addr × Obj)}{σ:St}{H:Hp}{s:Shared}
theorem bP {tg iter FM:Expr} {E6:List Expr} {scope:Scope} {pos:Pos} {g:TG} {tt:TT} {te:TE} {tn cn:List Str} {cap:List Nat} {cl:List (Str × Addr)} {it:Addr} {fp:List Addr} {tn':Nat->Heap->Prop} {J:It} {Q:VK} {E:Value->Shared->Prop}
    (I:Inv X AA σ H s) (S:KZ X scope tn cn cap) (hc:X.calm=true)
    (BJ:∀ x c,cl.lookup x=some c->X.env.cells.lookup x=some c) (JW:∀ x∈scope.names,x.2=.free->(cl.lookup x.1).isSome=true)
    (T:IS X.prog X.w X.K tg J fp it tn') (st:tn' 0 s.heap) (hf:∀ b∈fp,FpOk X AA H b)
    (hg:∀ C,PG (X.block AA s H (tn++cn) scope cl C fp) tg g) (ht:∀ C,OE (X.block AA s H (tn++cn) scope cl C fp) E6 tt) (he:∀ C,PE (X.block AA s H (tn++cn) scope cl C fp) FM te)
    (W:Nat->Nat->St->List V->Hp->Prop) {m0:Nat} (w0:W 0 m0 (JD tn.length cap σ) [] H)
    (step:∀ i m σ' ys H,W i m σ' ys H →
      (J.stop i H/\∀ p,H p=none->Q (.ref p) (upd H p (.lst ys))) ∨
      (J.go i H/\ys.length<sizeLine/\∀ x H',J.yld i H x H'->g x σ' H' λσ2 H2=>tt σ2 H2 λb H3 =>
        if b=true then ∃ N:VK,(∀ y H4,N y H4->∃ m',m'<m/\W (i+1) m' σ2 (ys++[y]) H4)/\te σ2 H3 N else ∃ m',m'<m/\W (i+1) m' σ2 ys H3)) :
    wpAny (model X.prog X.w) X.A (newList []) (λBY s₃=>wpAny (model X.prog X.w) X.A (newFunctionEnv scope X.env.globals cl [] X.env.qual none .none (some X.env)) (λcenv s₄ =>
      codeAny (model X.prog X.w) X.A (.compStart (.ListComp FM [⟨tg,iter,E6,0⟩] scope pos) 0 (.ref it) BY { cenv with scope:=relabel scope X.env }) (CompDone X fp H s Q BY cenv.locals) s₄) E s₃) E s:=by
  refine wpAny_newObj_type (wpAny_newFunctionEnv S.nocell (by intro y hy;simp at hy) (λh₁ hns₁ hsb₁=> ?_) S.kind)
  dsimp only at hns₁ hsb₁ ⊢
  generalize hH2:s.heap.push { cls:=.type "list",dict:=none,data:=.seq ([]:List Value).toArray }=H2 at hns₁ hsb₁ ⊢
  have hCs:H2.objs.size=s.heap.objs.size+1:=by rw[<-hH2,Heap.size_push]
  generalize hCe:H2.objs.size=C at hns₁ hsb₁ ⊢
  have hC:C=s.heap.objs.size+1:=hCe.symm.trans hCs
  generalize hD:s.heap.objs.size=D at *
  have hDC:D≠C:=by rw[hC];exact Nat.ne_of_lt (Nat.lt_succ_self _)
  have old:∀ b o,s.heap.get? b=some o->h₁.get? b=some o:=λb o e=>by
    have hb:b<D:=by rw[<-hD];exact Heap.lt_size e
    have hbC:b≠C:=EY hb (by rw[hC];exact Nat.le_succ _)
    exact hsb₁.extBut b o hbC (Heap.get?_push_of_some _ (hH2 ▸ Heap.get?_push_of_some _ e))
  have hDo:h₁.get? D=some { cls:=.type "list",data:=.seq ([]:List Value).toArray }:=by
    refine hsb₁.extBut _ _ hDC (Heap.get?_push_of_some _ ?_)
    rw[<-hH2,<-hD]
    exact Heap.get?_push_size _ rfl
  have hfl:∀ b∈fp,b<s.heap.objs.size:=λb hb=>by
    obtain⟨o,e,_⟩:=T.obj 0 _ st b hb
    exact Heap.lt_size e
  have hDn:H D=none:=by rw[<-hD];exact I.hok.fresh (Nat.le_refl _)
  have hDs:D∉DP X.stack:=λz=>EY (I.stklt z) (Nat.le_of_eq hD) rfl
  have I0:Inv (X.block AA s H (tn++cn) scope cl C fp) [(D,{ cls:=.type "list",data:=.seq ([]:List Value).toArray 0 })] (JD tn.length cap σ) H { s with heap:=h₁,toks:=s.toks+([]:List (Str × Value)).length } :=
    I.block S BJ JW hf hfl (by omega) old rfl rfl ⟨_,hns₁⟩ λp hp=>by
      rw[List.mem_singleton]at hp
      subst hp
      exact⟨hDo,hDn,hDC,hDs,λv z=>nomatch z⟩
  have fpok:∀ {H':Hp} {o:Obj},(∀ b∈fp,H' b=none)->∀ b∈fp,FpOk (X.block AA s H (tn++cn) scope cl C fp) [(D,o)] H' b:=λ{H' o} hn b hb=>by
    obtain⟨_,f1,f2,f3,f4,f5⟩:=hf b hb
    have hbl:=hfl b hb
    refine⟨hn b hb,?_,I.stkne f1 f2,.inl hb,λx c e=>f4 x c (BJ x c e),λp hp=> ?_⟩
    ·exact EY hbl (by rw[hD,hC];exact Nat.le_succ _)
    · rcases List.mem_append.mp hp with z | z
      ·exact f5 p z
      ·rw[List.mem_singleton]at z;subst z;exact Ne.symm (EY hbl (Nat.le_of_eq hD))
  have st1:tn' 0 h₁:=T.keep _ _ _ st λb _ o e=>old b o e
  have loop:∀ s₃:Shared,s₃={ s with heap:=h₁,toks:=s.toks+([]:List (Str × Value)).length } →
      codeAny (model X.prog X.w) X.A (.compLoop (.ListComp FM [⟨tg,iter,E6,0⟩] scope pos) 0 (.ref it) (.ref D) (compEnvC scope cl C X.env)) (CompDone X fp H s Q (.ref D) C) s₃:=by
    rintro s₃ rfl
    refine t7 (λn s'=>∃ i σ' ys its nn H',Inv (X.block AA s H (tn++cn) scope cl C fp) [(D,{ cls:=.type "list",data:=.seq (its:List Value).toArray nn })] σ' H' s'/\tn' i s'.heap/\(∀ b∈fp,H' b=none)/\Vals ys its/\ys.length<=sizeLine/\W i n σ' ys H') ?_ m0
      ⟨0,_,[],[],0,H,I0,st1,λb hb=>(hf b hb).1,.nil,Nat.zero_le _,w0⟩
    rintro n s4 ⟨i,σ4,ys,its,nn,H4,I4,st4,fr4,r4,l4,w4⟩
    rcases step i n σ4 ys H4 w4 with⟨stop,qn⟩ | ⟨go,BI,next⟩
    · refine AV (T.done (X.block AA s H (tn++cn) scope cl C fp) rfl rfl rfl hc i _ s4 σ4 H4 _ I4 (fpok fr4) st4 stop) λr s5 ⟨hr,I5⟩=> ?_
      subst hr
      have hp:=I5.pin (D,_) (List.mem_append_right _ List.mem_cons_self)
      obtain⟨m5,hm5,_⟩:=I5.loc
      exact⟨rfl,⟨D,ys,its,nn,H4,rfl,r4,l4,hp.1,by omega,hDC,hp.2.1,I5.free,⟨m5,hm5⟩,I5.base,I5.hok,qn⟩,by omega,I5.os,I5.bare⟩
    · refine AV (T.item (X.block AA s H (tn++cn) scope cl C fp) rfl rfl rfl hc i _ s4 σ4 H4 _ I4 (fpok fr4) st4 go) λr s5 hzz=> ?_
      obtain⟨u,hr,h5⟩:=hzz
      subst hr
      refine AV h5 λ_ s6 hzz=> ?_
      obtain⟨x,H6,I6,r6,y6,st6,fr6⟩:=hzz
      have I6':=I6.pinned (fpok fr6) (T.obj _ _ st6)
      refine AV (hg C _ s6 σ4 H6 x u _ I6' r6 (next x H6 y6)) λ_ s7 hzz=> ?_
      obtain⟨σ7,H7,I7,q7⟩:=hzz
      refine AV (ht C _ s7 σ7 H7 _ I7 q7) λok s8 hzz=> ?_
      obtain⟨H8,I8,q8⟩:=hzz
      have keepst:∀ {σ9:St} {H9:Hp} {s9:Shared},Inv (X.block AA s H (tn++cn) scope cl C fp) ([(D,{ cls:=.type "list",data:=.seq its.toArray nn })]++MG fp s6.heap) σ9 H9 s9->(∀ b∈fp,∀ o,s6.heap.get? b=some o->s9.heap.get? b=some o)/\∀ b∈fp,H9 b=none:=λ{σ9 H9 s9} I9=>by
        refine⟨λb hb o e=>(I9.pin (b,o) (List.mem_append_right _ (List.mem_append_right _ (N2 hb e)))).1,λb hb=> ?_⟩
        obtain⟨o,e,_⟩:=T.obj _ _ st6 b hb
        exact(I9.pin (b,o) (List.mem_append_right _ (List.mem_append_right _ (N2 hb e)))).2.1
      cases ok with
      | false =>
        obtain⟨m',hm',w'⟩:=q8
        obtain⟨k1,k2⟩:=keepst I8
        exact⟨m',hm',i+1,σ7,ys,its,nn,H8,I8.unpinned,T.keep _ _ _ st6 k1,k2,r4,l4,w'⟩
      | true =>
        obtain⟨Nw,hN,q8⟩:=q8
        refine AV (he C _ s8 σ7 H8 Nw I8 q8) λv s9 hzz=> ?_
        obtain⟨y,H9,I9,r9,n9⟩:=hzz
        obtain⟨m',hm',w'⟩:=hN y H9 n9
        obtain⟨k1,k2⟩:=keepst I9
        have hp:=I9.pin (D,_) (List.mem_append_right _ (List.mem_append_left _ List.mem_cons_self))
        have e:=hp.1
        have BT:=r4.length
        refine call_meets F.slot_list_append ⟨_,e,rfl⟩ F.entry_list_append (F.args_list_append_2 _ _) (PySem.list_append D its.toArray nn v (by rw[List.size_toArray];omega)) ⟨e,?_⟩
        have q:=PySem.IsL.update e (λxs=>xs.push v)
        have Ia:Inv (X.block AA s H (tn++cn) scope cl C fp) [] σ7 H9 s9:=I9.pins_of λp hp=>nomatch hp
        have Ib:=Ia.turned (h':=s9.heap.update D (Obj.mapSeq (·.push v))) (t':=s9.toks) (it:=D) (λb o hb eb=>(Heap.get?_update_other _ _ (Ne.symm hb)).trans eb) hp.2.1 hDC (.inr (by show s.heap.objs.size<=D;omega))
          (λx c ec z=>by
            obtain⟨vv,zc⟩:=I.cell x c (BJ x c ec)
            exact EY zc.lt (Nat.le_of_eq hD) z)
          (λp hp'=>by
            rw[List.append_nil]at hp'
            exact EY (I.pinlt hp') (Nat.le_of_eq hD))
        have q':(s9.heap.update D (Obj.mapSeq (·.push v))).get? D=some { cls:=.type "list",data:=.seq (its++[v]).toArray (nn+1) }:=by
          rw[if_neg (by simp)]at q
          rw[<-List.push_toArray]
          exact q
        refine⟨m',hm',i+1,σ7,ys++[y],its++[v],nn+1,H9,Ib.pins_of (λp hp'=> ?_),T.keep _ _ _ st6 λb hb o eb=> ?_,k2,r4.append (.cons r9 .nil),?_,w'⟩
        · rw[List.mem_singleton]at hp'
          subst hp'
          exact⟨q',hp.2.1,hDC,hDs,λv' z=>nomatch z⟩
        · have hbl:=hfl b hb
          exact(Heap.get?_update_other _ _ (Ne.symm (EY hbl (Nat.le_of_eq hD)))).trans (k1 b hb o eb)
        · rw[List.length_append,List.length_singleton]
          omega
  exact codeAny_compStart_list (loop _ rfl) (T.self _ 0 _ _ _ st1 (loop _ rfl))
theorem CompDone.inv{Q:VK}{BY:Value}{C:Addr}{r:Result}{s':Shared}{fp:List Addr}(I:Inv X AA σ H s)(hf:∀ b∈fp,FpOk X AA H b)(h:CompDone X fp H s Q BY C r s') :
  ∃ D H',BY=.ref D/\Inv X AA σ H' s'/\Q (.ref D) H'/\H' C=none/\∃ m,s'.heap.Ns C m:=by
 obtain⟨_,⟨D,ys,its,n,H',rfl,r4,l4,e,hD,hDC,hDn,hCn,hm,u,ok,q⟩,hC,os,bare⟩:=h
 have lt:∀ b o,s.heap.get? b=some o->b≠D:=λb o eb=>EY (Heap.lt_size eb) hD
 have ltH:∀ b o,H b=some o->b≠D:=λb o eb=>EY (I.hok.lt eb) hD
 refine⟨D,upd H' D (.lst ys),rfl,I.call' (ch:=fp) os ⟨u.keep,u.slot,λb o eb n' hx=> ?_,u.there,λb xs eb=> ?_,λb o x eb=> ?_,λb ps eb=> ?_⟩ (ok.track hDn ⟨l4,its,n,r4,e⟩) bare (λb hb=> ?_),q D hDn,?_,hm⟩
 ·rw[AH (lt b o eb)];exact u.free b o eb n' hx
 ·rw[AH (ltH b _ eb)];exact u.tups b xs eb
 ·rw[AH (ltH b _ eb)];exact u.frzs b o x eb
 ·rw[AH (ltH b _ eb)];exact u.tbls b ps eb
 ·obtain⟨_,f1,f2,f3,f4,f5⟩:=hf b hb
  exact⟨f3,f1,f4,f5⟩
 ·rw[AH (Ne.symm hDC)];exact hCn
theorem Inv.letgo{C:Addr}{h':Heap}{s1:Shared}{σ1:St}{H1:Hp}(I:Inv X AA σ H s)(hC:s.heap.objs.size<=C)(I1:Inv X AA σ1 H1 s1)(hn:H1 C=none)(hs:Heap.SameBut C s1.heap h'):Inv X AA σ1 H1 { s1 with heap:=h' }:=by
 refine I1.turned (t':=s1.toks) (it:=C) (λb o hb e=>(hs.2 b hb).trans e) hn (λz=> ?_) (.inr ?_) (λx c e z=> ?_) λp hp z=> ?_
 ·exact EY I.lt hC z.symm
 ·exact Nat.le_trans I.sz hC
 ·obtain⟨v,zc⟩:=I.cell x c e
  exact EY zc.lt hC z
 ·exact EY (I.pinlt hp) hC z
variable{tg iter FM:Expr}{E6:List Expr}{scope:Scope}{pos:Pos}{wi:TI}{g:TG}{tt:TT}{te:TE}{tn cn:List Str}{cap:List Nat}
theorem JE(S:KZ X scope tn cn cap)(hc:X.calm=true)(hi:PI X tg iter wi)
  (hg:∀ AA s H cl C fp,PG (X.block AA s H (tn++cn) scope cl C fp) tg g) (ht:∀ AA s H cl C fp,OE (X.block AA s H (tn++cn) scope cl C fp) E6 tt) (he:∀ AA s H cl C fp,PE (X.block AA s H (tn++cn) scope cl C fp) FM te)
  (hs:∀ x,foldedSetIterable iter X.env x=pure x:=by intro _;rfl):PE X (.ListComp FM [⟨tg,iter,E6,0⟩] scope pos) (EZ wi g tt te tn.length cap):=by
 intro AA s σ H Q I h
 obtain⟨cl,ecl,BJ,JW⟩:=bM (env:=X.env) (scope:=scope) λx hx hxf=>I.ok.has x.1 (S.free x hx hxf)
 rw[eval_ListComp]
 refine wpAny_comprehension_free (use:=none) rfl hs ecl S.kind S.names (AV (hi AA s σ H _ I h) λv s1 h1=>AV h1 λitv s2 h2=> ?_)
 obtain⟨it,fp,tn',J,H2,e,I2,T,st2,f2,W,⟨m0,w0⟩,turn⟩:=h2
 subst e
 refine AV (bP I2 S hc BJ JW T st2 f2 (λC=>hg _ _ _ _ C _) (λC=>ht _ _ _ _ C _) (λC=>he _ _ _ _ C _) W w0 turn) λBY s3 h3=>AV h3 λcenv s4 h4=>codeAny_mono h4 λr s5 h5=> ?_
 have hr:=h5.ok
 subst hr
 obtain⟨D,H',rfl,I5,q5,hCn,m,hm⟩:=h5.inv I2 f2
 exact⟨m,hm,λh' hs'=>⟨.ref D,H',I2.letgo h5.ge I5 hCn hs',rfl,q5⟩⟩
theorem R5{i:Nat}{x:Str}{px spos:Pos}(S:KZ X scope tn cn cap)(hc:X.calm=true)(hN:X.N.Nodup)(hi':X.N[i]? =some x)(hx:X.env.scope.names.lookup x=some .local)(hi:PI X tg iter wi)
  (hg:∀ AA s H cl C fp,PG (X.block AA s H (tn++cn) scope cl C fp) tg g) (ht:∀ AA s H cl C fp,OE (X.block AA s H (tn++cn) scope cl C fp) E6 tt) (he:∀ AA s H cl C fp,PE (X.block AA s H (tn++cn) scope cl C fp) FM te)
  (hsw:swapsWith (.ListComp FM [⟨tg,iter,E6,0⟩] scope pos) (some (.Name x px)) spos.line X.env=pure true:=by rfl)
  (hs:∀ x,foldedSetIterable iter X.env x=pure x:=by intro _;rfl):PS X (.Assign [.Name x px] (.ListComp FM [⟨tg,iter,E6,0⟩] scope pos) spos) (A5 (EZ wi g tt te tn.length cap) (AO i)):=by
 intro AA s σ H D I h
 obtain⟨cl,ecl,BJ,JW⟩:=bM (env:=X.env) (scope:=scope) λx hx hxf=>I.ok.has x.1 (S.free x hx hxf)
 rw[exec_Assign_Name_used _ _ _ _ hsw]
 refine wpAny_bind (wpAny_standAt (wpAny_bind ?_))
 unfold evalThenUse
 refine wpAny_bind ?_
 refine wpAny_comprehension_free (use:=some (assign (.Name x px) X.env)) rfl hs ecl S.kind S.names (AV (hi AA s σ H _ I h) λv s1 h1=>AV h1 λitv s2 h2=> ?_)
 obtain⟨it,fp,tn',J,H2,e,I2,T,st2,f2,W,⟨m0,w0⟩,turn⟩:=h2
 subst e
 refine AV (bP (Q:=λx' H1=>AO i x' σ H1 D.nx) I2 S hc BJ JW T st2 f2 (λC=>hg _ _ _ _ C _) (λC=>ht _ _ _ _ C _) (λC=>he _ _ _ _ C _) W w0 turn) λBY s3 h3=>AV h3 λcenv s4 h4=>codeAny_mono h4 λr s5 h5=> ?_
 have hr:=h5.ok
 subst hr
 obtain⟨Da,H',rfl,I5,q5,hCn,m,hm⟩:=h5.inv I2 f2
 show wpAny _ _ (assign (.Name x px) X.env (.ref Da)) _ _ s5
 refine wpAny_assign_Name (ZV I5 hN hi' (.inl hx) (show RelV (.ref Da) (.ref Da)from rfl) (λs6 I6 hzz=> ?_) (.inr hx))
 obtain⟨a,hsb,ha⟩:=hzz
 refine⟨m,hm.sameBut hsb ?_,λh' hs'=> ?_⟩
 ·rcases ha with z | z
  ·exact Ne.symm (z ▸ EY I2.lt h5.ge)
  ·obtain⟨vv,zc⟩:=I2.cell x a z
   exact Ne.symm (EY zc.lt h5.ge)
 ·exact wpAny_pure (wpAny_pure ⟨σ.set i (some (.ref Da)),H',I2.letgo h5.ge I6 hCn hs',q5⟩)
end
end L2
namespace L2
theorem ObjOk.there{P:Program}{w:World}{H:Hp}{h:Heap}{a:Addr}{o:HO}(x:ObjOk P w H h a o):∃ ob,h.get? a=some ob:=by
 cases o with
 | lst xs=>obtain⟨_,_,_,_,e⟩:=x;exact⟨_,e⟩
 | tup xs=>obtain⟨_,_,_,ob,e,_⟩:=x;exact⟨_,e⟩
 | dK AD=>obtain⟨_,_,_,_,ob,_,_,e,_⟩:=x;exact⟨_,e⟩
 | dT AD=>obtain⟨_,_,_,_,ob,_,_,e,_⟩:=x;exact⟨_,e⟩
 | set S n=>obtain⟨ob,_,_,_,e,_⟩:=x;exact⟨_,e⟩
 | ins C dx fs=>obtain⟨_,_,_,e,_⟩:=x;exact⟨_,e⟩
 | own y=>exact x
 | xd fs=>obtain⟨_,⟨ob,_,_,e,_⟩,_⟩:=x;exact⟨_,e⟩
 | rng lo hi=>obtain⟨_,_,_,e⟩:=x;exact⟨_,e⟩
 | frz ob u=>obtain⟨e,_⟩:=x;exact⟨_,e⟩
 | tbl ps=>exact⟨_,show h.get? a=some _ from x⟩
 | met f y=>exact⟨_,show h.get? a=some _ from x⟩
 | ext φ =>exact x.2.1
theorem HOk.nh{P:Program}{w:World}{H:Hp}{h:Heap}{a:Addr}(x:HOk P w H h)(e:h.get? a=none):H a=none:=by
 cases q:H a with
 | none=>rfl
 | some o =>
  obtain⟨ob,e'⟩:=(x a o q).there
  rw[e]at e';cases e'
section
variable{X:Cx}{AA:List (Addr × Obj)}{σ:St}{H H':Hp}{s:Shared}{h':Heap}
theorem Inv.stepN{g':Array GenState}{t':Nat}{d':Drawn}{ch:List Addr}(I:Inv X AA σ H s)
  (DF:∀ b∈ch,(b∈X.ex\/X.s₀.heap.get? b=none)/\b≠X.env.locals/\(∀ x c,X.env.cells.lookup x=some c->c≠b)/\∀ p∈X.pn++AA,p.1≠b)
  (keep:∀ b o,b≠X.env.locals->b∉X.fs->b∉ch->s.heap.get? b=some o->H b=none->h'.get? b=some o)
  (slot:∀ b o,b≠X.env.locals->b∈X.fs->b∉ch->s.heap.get? b=some o->H b=none->∃ sl,h'.get? b=some { o with slots:=sl }) (free:∀ b o,b∉ch->s.heap.get? b=some o->H b=none->H' b=none)
  (there:∀ b o,b∉ch->s.heap.get? b=some o->∃ o',h'.get? b=some o')
  (tups:∀ b xs,H b=some (.tup xs)->H' b=some (.tup xs)) (frzs:∀ b o u,H b=some (.frz o u)->H' b=some (.frz o u)) (tbls:∀ b ps,H b=some (.tbl ps)->∃ more,H' b=some (.tbl (ps++more)))
  (ns:∀ m,s.heap.Ns X.env.locals m->h'.Ns X.env.locals m) (hok:HOk X.prog X.w H' h') (hg:AllBare g') :
  Inv X AA σ H' { s with heap:=h',gens:=g',drawn:=d',toks:=t' }:=by
 have neL:∀ b o,X.s₀.heap.get? b=some o->b≠X.env.locals:=λb o e=>Nat.ne_of_lt (Nat.lt_of_lt_of_le (Heap.lt_size e) I.ok.above)
 have neC:∀ b o,X.s₀.heap.get? b=some o->b∉X.ex->b∉ch:=λb o e hx hb=>by
  rcases(DF b hb).1 with z | z
  ·exact hx z
  ·rw[e]at z;cases z
 have cellK:∀ x c,X.env.cells.lookup x=some c->∀ v,s.heap.IsCell c v->h'.IsCell c v:=λx c e v ⟨o,ho,hd⟩=>by
  have nch:c∉ch:=λz=>(DF c z).2.2.1 x c e rfl
  by_cases hc:c∈X.fs
  ·obtain⟨sl,q⟩:=slot c o (I.cne x c e) hc nch ho (I.freeC x c e)
   exact⟨_,q,hd⟩
  ·exact⟨o,keep c o (I.cne x c e) hc nch ho (I.freeC x c e),hd⟩
 refine⟨I.ok,I.os,hg,⟨λb o e n hb hx=> ?_,λb o e n hb hx=> ?_,λb o e n hx=> ?_,λb o e hx=> ?_,λb xs e=>tups b xs (I.base.tups b xs e),λb o xs e=>frzs b o xs (I.base.frzs b o xs e),λb ps e=> ?_⟩,?_,λx c e=> ?_,?_,λx c e=> ?_,λp hp=> ?_,hok,I.len⟩
 ·exact keep b o (neL b o e) hb (neC b o e hx) (I.base.keep b o e n hb hx) (I.base.free b o e n hx)
 ·obtain⟨sl,e1⟩:=I.base.slot b o e n hb hx
  obtain⟨sl',e2⟩:=slot b _ (neL b o e) hb (neC b o e hx) e1 (I.base.free b o e n hx)
  exact⟨sl',e2⟩
 ·obtain⟨o',e1⟩:=I.base.there b o e hx
  exact free b o' (neC b o e hx) e1 (I.base.free b o e n hx)
 ·obtain⟨o',e1⟩:=I.base.there b o e hx
  exact there b o' (neC b o e hx) e1
 ·obtain⟨m1,e1⟩:=I.base.tbls b ps e
  obtain⟨m2,e2⟩:=tbls b _ e1
  exact⟨m1++m2,by rw[e2,Array.append_assoc]⟩
 ·obtain⟨m,hn,hl⟩:=I.loc
  refine⟨m,ns m hn,λi x v e1 e2 e3=> ?_⟩
  obtain⟨u,r,l⟩:=hl i x v e1 e2 e3
  refine⟨u,r,?_⟩
  rcases l with l | ⟨k,c,e,z⟩
  ·exact .inl l
  ·exact .inr ⟨k,c,e,cellK x c e _ z⟩
 ·obtain⟨v,z⟩:=I.cell x c e
  exact⟨v,cellK x c e v z⟩
 ·obtain⟨m,⟨o,_,_,ho,_⟩,_⟩:=I.loc
  exact free _ o (λz=>(DF _ z).2.1 rfl) ho I.free
 ·obtain⟨v,o,ho,hd⟩:=I.cell x c e
  exact free c o (λz=>(DF c z).2.2.1 x c e rfl) ho (I.freeC x c e)
 ·obtain⟨e,n,ne,nf,d⟩:=I.pin p hp
  have nch:p.1∉ch:=λz=>(DF p.1 z).2.2.2 p hp rfl
  exact⟨keep p.1 p.2 ne nf nch e n,free p.1 p.2 nch e n,ne,nf,d⟩
end
structure Fly(bad:Addr->Prop)(H:Hp)(h:Heap)(e:Addr)(cls:Value):Prop where
 nb:¬ bad e
 free:H e=none
 ex:∃ (oe:Obj) (vs:Array Value),h.get? e=some oe/\oe.cls=cls/\oe.dict=none/\oe.data=.fields vs/\(vs[1]? =some .none ∨
  ∃ (T:Addr) (oT:Obj) (ts:Array Value),vs[1]? =some (.ref T)/\¬ bad T/\H T=none/\T≠e/\h.get? T=some oT/\oT.data=.fields ts/\ts[3]? =some .none)
theorem Fly.mono{bad bad':Addr->Prop}{H:Hp}{h:Heap}{e:Addr}{cls:Value}(F:Fly bad H h e cls)(k:∀ a,bad' a->bad a):Fly bad' H h e cls:=by
 obtain⟨nb,fr,oe,vs,h1,h2,h3,h4,h5⟩:=F
 refine⟨λz=>nb (k _ z),fr,oe,vs,h1,h2,h3,h4,?_⟩
 rcases h5 with z | ⟨T,oT,ts,a,b,c⟩
 ·exact .inl z
 ·exact .inr ⟨T,oT,ts,a,λz=>b (k _ z),c⟩
section
variable{M:Model}{A:Around}{E:Value->Shared->Prop}{s:Shared}
theorem bQ{base:Heap}{env:Env}{outer:List Env}{L e:Addr}{oe:Obj}{vs:Array Value}{hd:Value}{nx:Bool}{Q:Unit->Shared->Prop}
  (JV:A.frames=some (env::outer)) (hl:s.heap.FunFrames base (env::outer)) (hf:env.frame=some L) (he:s.heap.get? e=some oe) (hdt:oe.data=.fields vs) (hsz:1<vs.size)
  (h:∀ h' T oT ts,(∀ b o,s.heap.get? b=some o->b≠e->b∉DP (env::outer)->h'.get? b=some o)->(∀ b o,s.heap.get? b=some o->b≠e->∃ sl,h'.get? b=some { o with slots:=sl }) →
   h'.get? e=some (oe.mapFields (·.setIfInBounds 1 (.ref T)))->s.heap.objs.size<=T->h'.get? T=some oT->oT.data=.fields ts->ts[3]? =some (rawInt L)->Q () { s with heap:=h' }) :
  wpAny M A (do let a ← frameOf env;let pl ← entryPlaceOf L nx;let b ← EntryCells.newEntry hd a .none (rawInt L) .none pl;setField (.ref e) 1 b) Q E s:=by
 have hne:e∉(env::outer).filterMap (·.frame):=λz=>by
  obtain⟨_,o,ho,hn⟩:=hl.mem z
  rw[he]at ho;cases ho
  exact hn vs hdt
 refine wpAny_bind (wpAny_frameOf_fun JV hl hf λh1 hs1=> ?_)
 refine wpAny_bind (wpAny_entryPlaceOf λpl CF=> ?_)
 unfold EntryCells.newEntry newFields
 refine wpAny_bind (wpAny_newObj_type ?_ (CF.sizeOk5 _ _ _ _ _))
 have he1:h1.get? e=some oe:=(hs1.2.1 e hne).trans he
 refine wpAny_setField (Heap.get?_push_of_some _ he1) hdt hsz ?_
 have hTe:h1.objs.size≠e:=Nat.ne_of_gt (Heap.lt_size he1)
 have hd3:=Obj.data_mapFields hdt (·.setIfInBounds 1 (Value.ref h1.objs.size))
 have keep:∀ b o,b≠e->h1.get? b=some o->((h1.push { cls:=.type "traceback",dict:=none,data:=.fields ([hd,.ref L,.none,rawInt L,.none]++(if pl.isEmpty then List.replicate 6 Value.none else pl)).toArray }).update e (Obj.mapFields (·.setIfInBounds 1 (Value.ref h1.objs.size)))).get? b=some o:=λb o hb e1=>by
  rw[Heap.get?_update_other _ _ (Ne.symm hb)]
  exact Heap.get?_push_of_some _ e1
 refine h _ h1.objs.size _ _ (λb o e1 hb hnf=>keep b o hb ((hs1.2.1 b hnf).trans e1)) (λb o e1 hb=> ?_) (Heap.get?_update_self _ (Heap.get?_push_of_some _ he1) (Obj.isFreed_of_fields hd3)) (by rw[hs1.1];exact Nat.le_refl _)
  ((Heap.get?_update_other _ _ (Ne.symm hTe)).trans (Heap.get?_push_size _ rfl)) rfl ?_
 ·obtain⟨sl,e2⟩:=hs1.2.2 b o e1
  exact⟨sl,keep b _ hb e2⟩
 ·first | (simp;done) | (rcases CF with rfl | ⟨_,_,_,_,_,_,_,rfl⟩<;>simp)
structure R6(fr:List Addr)(bad:Addr->Prop)(H:Hp)(e:Addr)(cls:Value)(h h':Heap):Prop where
 ch:∃ ch:List Addr,(∀ b∈ch,¬ bad b/\H b=none/\∃ o vs,h.get? b=some o/\o.data=.fields vs)/\(∀ b o,h.get? b=some o->b∉ch->b∉fr->h'.get? b=some o) ∧
  (∀ b o,h.get? b=some o->b∉ch->∃ sl,h'.get? b=some { o with slots:=sl })
 fly:Fly bad H h' e cls
theorem bR{A2:Around}{E2:Value->Shared->Prop}{base:Heap}{env:Env}{outer:List Env}{L e:Addr}{cls:Value}{bad:Addr->Prop}{H:Hp}{Q:Unit->Shared->Prop}
  (JV:A.frames=some (env::outer)) (hl:s.heap.FunFrames base (env::outer)) (hf:env.frame=some L) (F:Fly bad H s.heap e cls) (hb:∀ a,s.heap.objs.size<=a->¬ bad a) (hH:∀ a,s.heap.objs.size<=a->H a=none)
  (h:∀ h',R6 (DP (env::outer)) bad H e cls s.heap h'->Q () { s with heap:=h' }) :
  wpAny M A (noteFrame (.ref e) env) (λ_ s2=>wpAny M A2 (setFlight (.ref e) none) Q E2 s2) E s:=by
 obtain⟨nb,fr,oe,vs,he,L6,Q8,hd,htb⟩:=F
 have rest:∀ (s1:Shared) (ch:List Addr) (h':Heap) (T:Addr) (oT:Obj) (ts:Array Value) (oe1:Obj),(∀ b o,s.heap.get? b=some o->s1.heap.get? b=some o\/b∈ch)->s1.heap.objs.size=s.heap.objs.size->e∈ch->(∀ b∈ch,¬ bad b/\H b=none/\∃ o vs,s.heap.get? b=some o/\o.data=.fields vs) →
   oe1.cls=cls->oe1.dict=none->oe1.data=.fields vs->1<vs.size →
   (∀ b o,s1.heap.get? b=some o->b≠e->b∉DP (env::outer)->h'.get? b=some o)->(∀ b o,s1.heap.get? b=some o->b≠e->∃ sl,h'.get? b=some { o with slots:=sl }) →
   h'.get? e=some (oe1.mapFields (·.setIfInBounds 1 (.ref T)))->s1.heap.objs.size<=T->h'.get? T=some oT->oT.data=.fields ts->ts[3]? =some (rawInt L)->wpAny M A2 (setFlight (.ref e) none) Q E2 { s with heap:=h' }:=by
  intro s1 ch h' T oT ts oe1 hk1 hsz hech DF hcls1 hdict1 hd1 hv k1 k2 e1 hT e2 hdT h3
  have hT':s.heap.objs.size<=T:=hsz ▸ hT
  have hTe:T≠e:=Ne.symm (EY (Heap.lt_size he) hT')
  have hde:=Obj.data_mapFields hd1 (·.setIfInBounds 1 (Value.ref T))
  unfold setFlight
  refine wpAny_bind (wpAny_field e1 hde (x:=.ref T) (by simp[hv]) ?_)
  rw[if_pos (show(Value.ref T != Value.none)=true from by simp)]
  have hs3:3<ts.size:=(Array.getElem?_eq_some_iff.mp h3).1
  refine wpAny_setField e2 hdT hs3 (h _ ?_)
  have oth:∀ b,b≠T->(h'.update T (Obj.mapFields (·.setIfInBounds 3 ((none:Option Addr).elim Value.none λf=>rawInt f)))).get? b=h'.get? b:=λb hb'=>Heap.get?_update_other _ _ (Ne.symm hb')
  have ltT:∀ b o,s.heap.get? b=some o->b≠T:=λb o eb=>EY (Heap.lt_size eb) hT'
  refine⟨⟨ch,DF,λb o eb hbc hbf=> ?_,λb o eb hbc=> ?_⟩,nb,fr,_,_,(oth e (Ne.symm hTe)).trans e1,(Obj.cls_mapFields _ _).trans hcls1,?_,hde,.inr ⟨T,_,_,by simp[hv],hb T hT',hH T hT',hTe,Heap.get?_update_self _ e2 (Obj.isFreed_of_fields (Obj.data_mapFields hdT _)),Obj.data_mapFields hdT _,by simp[hs3]⟩⟩
  ·rw[oth b (ltT b o eb)]
   rcases hk1 b o eb with z | z
   ·exact k1 b o z (λz'=>hbc (z' ▸ hech)) hbf
   ·exact absurd z hbc
  ·rw[oth b (ltT b o eb)]
   rcases hk1 b o eb with z | z
   ·exact k2 b o z (λz'=>hbc (z' ▸ hech))
   ·exact absurd z hbc
  ·obtain⟨c1,c2,c3,c4⟩:=oe1
   dsimp only at hd1
   subst hd1
   exact hdict1
 unfold noteFrame
 simp only[hf]
 rcases htb with h1 | ⟨T0,oT0,ts0,h1,nbT,frT,neT,eT,dT,h3⟩
 ·have hv:1<vs.size:=(Array.getElem?_eq_some_iff.mp h1).1
  refine wpAny_bind (wpAny_field he hd h1 ?_)
  rw[if_neg (by decide)]
  refine bQ JV hl hf he hd hv λh' T oT ts k1 k2 e1 hT e2 hdT h3=> ?_
  exact rest s [e] h' T oT ts oe (λb o eb=>.inl eb) rfl (by simp) (λb hb'=>by rw[List.mem_singleton]at hb';subst hb';exact⟨nb,fr,oe,vs,he,hd⟩) L6 Q8 hd hv k1 k2 e1 hT e2 hdT h3
 ·have hv:1<vs.size:=(Array.getElem?_eq_some_iff.mp h1).1
  refine wpAny_bind (wpAny_field he hd h1 ?_)
  rw[if_pos (show(Value.ref T0 != Value.none)=true from by simp)]
  refine wpAny_bind (wpAny_field eT dT h3 ?_)
  rw[if_neg (show ¬ ((Value.none == rawInt L)=true)from by simp[rawInt])]
  refine wpAny_bind (wpAny_setField eT dT (Array.getElem?_eq_some_iff.mp h3).1 ?_)
  have oth:∀ b,b≠T0->(s.heap.update T0 (Obj.mapFields (·.setIfInBounds 3 Value.none))).get? b=s.heap.get? b:=λb hb'=>Heap.get?_update_other _ _ (Ne.symm hb')
  have nf:∀ b o,s.heap.get? b=some o->(∀ vs,o.data≠.fields vs)->b≠T0:=λb o eb hn z=>by rw[z,eT]at eb;cases eb;exact hn ts0 dT
  refine bQ JV (hl.of_keeps λb o eb hn=>⟨o,(oth b (nf b o eb hn)).trans eb,rfl⟩) hf ((oth e (Ne.symm neT)).trans he) hd hv λh' T oT ts k1 k2 e1 hT e2 hdT h3'=> ?_
  exact rest { s with heap:=s.heap.update T0 (Obj.mapFields (·.setIfInBounds 3 Value.none)) } [e,T0] h' T oT ts oe
   (λb o eb=>by
    by_cases z:b=T0
    ·exact .inr (by simp[z])
    ·exact .inl ((oth b z).trans eb))
   (Heap.size_after_update ..) (by simp)
   (λb hb'=>by
    rcases List.mem_cons.mp hb' with z | z
    ·subst z;exact⟨nb,fr,oe,vs,he,hd⟩
    ·rw[List.mem_singleton]at z;subst z;exact⟨nbT,frT,oT0,ts0,eT,dT⟩)
   L6 Q8 hd hv k1 k2 e1 hT e2 hdT h3'
end
def Cx.bad(X:Cx)(AA:List (Addr × Obj)):Addr->Prop:=λa=>X.s₀.heap.get? a≠none\/∃ p∈X.pn++AA,p.1=a
structure XOk(X:Cx)(E:St->XK):Prop where
 po:PassesOwn (model X.prog X.w) X.A X.env X.xe
 ex:X.ex=[]
 calm:X.calm=true
 go:∀ (AA:List (Addr × Obj)) (σ:St) (H:Hp) (s:Shared) (e:Addr) (cls:Value),Inv X AA σ H s->Fly (X.bad AA) H s.heap e cls->E σ cls none H->X.xe (.ref e) s
section
variable{X:Cx}{AA:List (Addr × Obj)}{σ:St}{H:Hp}{s:Shared}
theorem Inv.notbad(I:Inv X AA σ H s)(hx:X.ex=[]){a:Addr}(h:s.heap.get? a=none):¬ X.bad AA a:=λz=>by
 rcases z with z | ⟨p,hp,rfl⟩
 ·cases q:X.s₀.heap.get? a with
  | none=>exact z q
  | some o =>
   obtain⟨o',e⟩:=I.base.there a o q (by rw[hx];simp)
   rw[h]at e;cases e
 ·have:=(I.pin p hp).1
  rw[h]at this;cases this
theorem bS{h:Heap}{a:Addr}(z:h.objs.size<=a):h.get? a=none:=by
 cases q:h.get? a with
 | none=>rfl
 | some o=>exact absurd (Nat.lt_of_lt_of_le (Heap.lt_size q) z) (Nat.lt_irrefl _)
theorem Inv.noted{e:Addr}{cls:Value}{h':Heap}(I:Inv X AA σ H s)(N:R6 (DP X.stack) (X.bad AA) H e cls s.heap h'):Inv X AA σ H { s with heap:=h' }:=by
 obtain⟨⟨ch,DF,k1,k2⟩,_⟩:=N
 obtain⟨mL,⟨oL,esL,epL,hoL,dL,rL⟩,_⟩:=id I.loc
 have chne:∀ b∈ch,∀ o,s.heap.get? b=some o->∃ vs,o.data=.fields vs:=λb hb o eb=>by
  obtain⟨_,_,o',vs,e',d⟩:=DF b hb
  rw[eb]at e';cases e'
  exact⟨vs,d⟩
 have hL:X.env.locals∉ch:=λz=>by
  obtain⟨vs,d⟩:=chne _ z _ hoL
  rw[dL]at d;cases d
 refine I.stepN (g':=s.gens) (t':=s.toks) (d':=s.drawn) (ch:=ch) (λb hb=>⟨.inr ?_,λz=>hL (z ▸ hb),λx c ec z=> ?_,λp hp z=>(DF b hb).1 (.inr ⟨p,hp,z⟩)⟩)
  (λb o hbL hbf hbc eb _=>k1 b o eb hbc λz=>(List.mem_cons.mp (I.stkSub b z)).elim hbL hbf) (λb o _ _ hbc eb _=>k2 b o eb hbc) (λ_ _ _ _ n=>n) (λb o hbc eb=> ?_) (λ_ _ q=>q) (λ_ _ _ q=>q) (λb ps q=>⟨#[],by rw[q];simp⟩) (λm hm=> ?_) (λb o eb=> ?_) I.bare
 ·cases q:X.s₀.heap.get? b with
  | none=>rfl
  | some o=>exact absurd (.inl (by rw[q];simp)) (DF b hb).1
 ·obtain⟨v,oc,hoc,hd⟩:=I.cell x c ec
  obtain⟨vs,d⟩:=chne c (z ▸ hb) oc hoc
  rw[hd]at d;cases d
 ·obtain⟨sl,q⟩:=k2 b o eb hbc
  exact⟨_,q⟩
 ·obtain⟨o',es',ep',ho',r'⟩:=hm
  rw[hoL]at ho';cases ho'
  obtain⟨sl,q⟩:=k2 _ _ hoL hL
  exact⟨_,es',ep',q,r'⟩
 ·refine(I.hok b o eb).stay (λc u hc q=>k1 c u q ?_ ?_) (λ_ q=>q) λ_ _ q=>q
  ·intro z
   have fr:=(DF c z).2.1
   rcases hc with rfl | hc
   ·rw[eb]at fr;cases fr
   ·rw[hc]at fr;cases fr
  ·intro z
   have fr:=I.stkFree c z
   rcases hc with rfl | hc
   ·rw[eb]at fr;cases fr
   ·rw[hc]at fr;cases fr
def DY(P:Program)(w:World):F9:=λouter H s E e s'=>∃ (ea:Addr) (cls:Value) (H':Hp),e=.ref ea/\s'.os=s.os/\AllBare s'.gens/\Un (DP outer) [] H H' s.heap s'.heap/\HOk P w H' s'.heap/\Fly (λa=>s.heap.get? a≠none) H' s'.heap ea cls/\E cls none H'
theorem bT{P:Program}{w:World}{outer:List Env}{H:Hp}{s:Shared}{e:Value}{s':Shared}(h:DY P w outer H s (λ_ _ _=>False) e s'):False:=by
 obtain⟨_,_,_,_,_,_,_,_,_,f⟩:=h
 exact f
theorem XOk.passes{E:St->XK}(x:XOk X E):GA (DY X.prog X.w) X E:=λAA σ H s e s' I h=>by
 obtain⟨ea,cls,H',rfl,os,bare,un,hok,F,q⟩:=h
 refine x.go AA σ H' s' ea cls (I.call' (ch:=[]) os un hok bare λb z=>absurd z (by simp)) (F.mono λa z=> ?_) q
 rcases z with z | ⟨p,hp,rfl⟩
 ·cases q0:X.s₀.heap.get? a with
  | none=>exact absurd q0 z
  | some o =>
   obtain⟨o',e⟩:=I.base.there a o q0 (by rw[x.ex];simp)
   rw[e];simp
 ·rw[(I.pin p hp).1];simp
theorem JF{P:Program}{w:World}:GA (DY P w) X (λ_=>E0):=λ_ _ _ _ _ _ _ h=>(bT h).elim
end
theorem t8{P:Program}{w:World}{K:W.Frag}{mg:Str->Option Value}{base:Heap}{N:List Str}{qual:Str}{scope:Scope}{f:Addr}{cd:Value}{A:Around}{outer:List Env}{s:Shared}{H:Hp}{E:XK} :
  XOk (GQ (DY P w) P w K mg base N qual scope f cd A outer s H E) (λ_=>E) where
 po:=PassesOwn.leaving
 ex:=rfl
 calm:=rfl
 go:=λAA σ H' s' e cls I F q=>by
  have JV:(A.deeper (envOfC qual scope s.heap.objs.size f cd)).frames=some (envOfC qual scope s.heap.objs.size f cd::outer):=I.ok.frames
  show wpAny _ _ (leaving _ _) _ _ _
  unfold leaving
  refine wpAny_bind (bR JV I.stack rfl F (λa z=>I.notbad rfl (bS z)) (λa z=>I.hok.fresh z) λh' N=> ?_)
  have I':=I.noted N
  exact⟨e,cls,H',rfl,I'.os,I'.bare,I'.base,I'.hok,N.fly.mono λa z=>.inl z,q⟩
structure Exc(K:W.Frag)(C:Addr):Prop where
 ex:W.excIn K C [.type "ValueError",.type "Exception",.type "BaseException",.type "object"] "ValueError.__new__"=true
theorem Exc.obj{K:W.Frag}{C:Addr}{h:Heap}(x:Exc K C)(X:K.In h):∃ (tl:List Value) (N:Addr) (nm q:Str) (bs:List Value) (hdct:Bool) (sn:List Str) (sub:List Value) (ab:Bool) (col:Option Bool) (dd:Option Addr) (k0 k1 k2 k3 k5:Option Value) (mN:Str->Option Value),
  h.get? C=some (excClassObj nm q C N bs tl hdct sn sub ab col dd k0 k1 k2 k3 k5 "ValueError.__new__")/\h.Ns N mN/\mN "__init__"=none/\OwnTail h [.type "ValueError",.type "Exception",.type "BaseException",.type "object"] tl:=by
 have q:=x.ex
 unfold W.excIn at q
 split at q
 ·rename_i dd cd sl ho
  split at q
  ·rename_i C' bm k0 k1 k2 k3 n k5 hm hs
   simp only[Bool.and_eq_true,beq_iff_eq,Bool.not_eq_true']at q
   obtain⟨⟨⟨⟨⟨rfl,rfl⟩,hdel⟩,ht⟩,hok⟩,hni⟩:=q
   obtain⟨nm,bs,mro,ns,qn,hd,sn,sub,ab,col,del⟩:=cd
   dsimp only at hm hdel hok hni
   subst hm hdel
   obtain⟨l⟩:=sl
   simp only at hs
   subst hs
   exact⟨bm,ns,nm,qn,bs,hd,sn,sub,ab,col,dd,k0,k1,k2,k3,k5,_,X _ _ ho,.of_isNs (W.isNs_of_in X hok),W.nsMap_none_of_in X hok hni,W.tail_of_in X ht⟩
  ·cases q
 ·cases q
def GE(C:Addr)(E:St->XK)(t:TA):TS:=λ_ σ H=>t σ H λvs H1=>vs.length<=sizeLine/\E σ (.ref C) none H1
section
variable{X:Cx}{E:St->XK}{C:Addr}{x:Str}{np C5 pos:Pos}{e:Expr}{es:List Expr}{t:TA}
theorem HE(hx:XOk X E)(c:Exc X.K C)(hg:Gl X x)(hm:X.mg x=some (.ref C))(ha:PA X (e::es) t)(hdb:(x ==("__debug__":Str))=false:=by decide)
  (he:starEach (e::es) X.env=(false,eval e X.env)::starEach es X.env:=by rfl) (CF:(backTo C5 (starEach es X.env)).any (·.1)=false:=by rfl) :
  PS X (.Raise (some (.Call (.Name x np) (e::es) [] C5)) none pos) (GE C E t):=by
 intro AA s σ H D I h
 obtain⟨tl,N,nm,q,bs,hdct,sn,sub,ab,col,dd,k0,k1,k2,k3,k5,mN,hC,hN,hni,T⟩:=c.obj I.mod.kin
 have hpl2:(backTo C5 (starEach (e::es) X.env)).any (·.1)=false:=by
  rw[he]
  show(false || (backTo C5 (starEach es X.env)).any (·.1))=false
  rw[CF];rfl
 refine wpAny_Raise_call_subT (C:=C) (nm:=nm) (q:=q) (N:=N) (bs:=bs) (bm:=tl) (hdct:=hdct) (sn:=sn) (sub:=sub) (ab:=ab) (col:=col) (dd:=dd) (k0:=k0) (k1:=k1) (k2:=k2) (k3:=k3) (k5:=k5)
  PySem.F.excBase_ValueError (mN:=mN) (T.hasType PySem.F.excBase_ValueError.hasBase) (I.ok.hd hx.calm) hpl2 hni (L9 I hg hm ⟨rfl,?_⟩ hdb)
 have hq:=ha C5 AA s σ H _ I h
 rw[he]at hq ⊢
 refine Calls.evalArgs_plain (AV hq λus s1 ⟨vs,H1,I1,r,hz,q1⟩=>⟨rfl,?_,I1.bk _ _ hC,hN.keeps I1.bk,T.keeps I1.bk,λh' ea hM=> ?_⟩)
 ·show us.length<=_
  rw[<-r.length];exact hz
 ·have I2:Inv X AA σ H1 { s1 with heap:=h' }:=I1.kept (t':=s1.toks) hM.keeps
  obtain⟨tt,h1,h2,h3⟩:=hM.there
  refine hx.go AA σ H1 _ ea (.ref C) I2 ⟨λz=>I1.notbad hx.ex hM.new z,I1.hok.nh hM.new,_,_,h1,rfl,rfl,rfl,.inl rfl⟩ q1
end
end L2
namespace L2
section
variable(P:Program)(w:World)(K:W.Frag)(mg:Str->Option Value)(base:Heap)
structure DS(k:Nat)(x:Str)(ps:List Str)(sp:Sp):Prop where
 ex:∃ (f:Addr) (fd:FuncData),FnOk P w K mg base (DY P w) k f fd ps sp/\mg x=some (.ref f)/\W.keepIn K (.ref f)=true/\Binds K fd ps []
structure AT(C:Addr)(k:Nat)(m:Str)(ps:List Str)(sp:Sp):Prop where
 ex:∃ (f:Addr) (fd:FuncData),FnOk P w K mg base (DY P w) k f fd ps sp/\N7 K C m f/\Binds K fd ps []
structure KA(C:Addr)(k:Nat)(x:Str)(ps:List Str)(sp:Sp):Prop where
 ex:∃ (f:Addr) (fd:FuncData),FnOk P w K mg base (DY P w) k f fd ps sp/\Mk K C f/\mg x=some (.ref C)/\Binds K fd ps []
end
section
variable{X:Cx}{E:St->XK}{k:Nat}{x m:Str}{ps:List Str}{sp:Sp}{C:Addr}{p pos CM:Pos}{e o:Expr}{es:List Expr}{ta:TE}{t:TA}
theorem MP(c:DS X.prog X.w X.K X.mg X.base k x ps sp)(hr:Room k X.A)(hp:GA (DY X.prog X.w) X E)(hg:Gl X x)(ha:PA X (e::es) t)(hdb:(x ==("__debug__":Str))=false:=by decide)
  (he:starEach (e::es) X.env=(false,eval e X.env)::starEach es X.env:=by rfl) (CF:(backTo pos (starEach es X.env)).any (·.1)=false:=by rfl):PE X (.Call (.Name x p) (e::es) [] pos) (DE sp [] E t):=by
 obtain⟨f,fd,F,hm,hk,hb⟩:=c.ex
 exact rY F hr hg hm hk hb .nil hp ha hdb he CF
theorem FT{pl:Sem Bool}(he:PE X o ta)(cl:Cls X.K C)(c:AT X.prog X.w X.K X.mg X.base C k m ps sp)(hr:Room k X.A)(hp:GA (DY X.prog X.w) X E)(ha:PA X (e::es) t)
  (hst:starEach (e::es) X.env=(false,eval e X.env)::starEach es X.env:=by rfl) (CF:(backTo pos (starEach es X.env)).any (·.1)=false:=by rfl)
  (ht:eval (.Call (.Attribute o m CM) (e::es) [] pos) X.env=(do
   let ov ← eval o X.env
   standAt CM.atName
   let (f,first) ← holding [ov] (getMethod ov m pl)
   callWith pos f first (backTo pos (starEach (e::es) X.env)) (backToKw pos (keywordEach [] X.env))):=by rfl):PE X (.Call (.Attribute o m CM) (e::es) [] pos) (AR C m sp [] E ta t):=by
 obtain⟨f,fd,F,hm,hb⟩:=c.ex
 exact rZ he cl hm F hr hb .nil hp ha hst CF ht
theorem uA{pl:Sem Bool}(he:PE X o ta)(cl:Cls X.K C)(c:AT X.prog X.w X.K X.mg X.base C k m ps sp)(hr:Room k X.A)(hp:GA (DY X.prog X.w) X E)
  (ht:eval (.Call (.Attribute o m CM) [] [] pos) X.env=(do
   let ov ← eval o X.env
   standAt CM.atName
   let (f,first) ← holding [ov] (getMethod ov m pl)
   callWith pos f first (backTo pos (starEach [] X.env)) (backToKw pos (keywordEach [] X.env))):=by rfl):PE X (.Call (.Attribute o m CM) [] [] pos) (AR C m sp [] E ta BV):=by
 obtain⟨f,fd,F,hm,hb⟩:=c.ex
 exact r8 he cl hm F hr hb .nil hp ht
theorem MQ(c:KA X.prog X.w X.K X.mg X.base C k x ps sp)(hr:Room (k+1) X.A)(hp:GA (DY X.prog X.w) X E)(hg:Gl X x)(ha:PA X (e::es) t)(hdb:(x ==("__debug__":Str))=false:=by decide)
  (he:starEach (e::es) X.env=(false,eval e X.env)::starEach es X.env:=by rfl) (CF:(backTo pos (starEach es X.env)).any (·.1)=false:=by rfl):PE X (.Call (.Name x p) (e::es) [] pos) (IU C sp [] E t):=by
 obtain⟨f,fd,F,M,hm,hb⟩:=c.ex
 exact sB M F hr hg hm hb .nil hp ha hdb he CF
end
theorem Fun.okE{P:Program}{w:World}{K:W.Frag}{mg:Str->Option Value}{base:Heap}{x qual:Str}{st:Stmt}{f:Addr}{fd:FuncData}{N ps:List Str}{k:Nat}{sp:Sp}(F:Fun K x qual st f fd)(S:FnScope N ps (A1 st))(len:∀ vs H Q E,sp vs H Q E->vs.length=ps.length)
  (ZL:∀ (BR:Value) (A:Around) (outer:List Env) (s:Shared) (H:Hp) (vs:List V) (Q:VK) (E:XK),Room k (A.deeper (envOfC qual (A1 st) s.heap.objs.size f BR))->sp vs H Q E →
   ∃ t,FN (GQ (DY P w) P w K mg base N qual (A1 st) f BR A outer s H E) (GD st) t/\t { nx:=λ_ H'=>Q .non H',rt:=Q } (A8 N vs) H):FnOk P w K mg base (DY P w) (k+1) f fd ps sp:=by
 obtain⟨oc,od,kV,doc,pm,an,BR,ct,osl,rfl,l,c⟩:=F.ex
 exact sD l c S len λA outer s H vs Q E hr h=>ZL BR A outer s H vs Q E hr h
def GV(mg:Str->Option Value)(x:Str)(v:V):Prop:=∃ u,mg x=some u/\RelV v u
theorem R7{X:Cx}{x:Str}{v:V}{pos:Pos}(g:GV X.mg x v)(hg:Gl X x)(hd:(x ==("__debug__":Str))=false:=by decide):PE X (.Name x pos) (tC v):=by
 obtain⟨u,hm,r⟩:=g
 exact qF hg hm r hd
abbrev Cx.tri(X:Cx)(pn:List (Addr × Obj))(xe:Value->Shared->Prop):Cx:={ X with pn:=pn,xe:=xe }
abbrev Cx.hand(X:Cx)(e:Addr):Cx:={ X with A:=X.A.mark (some (.ref e)),calm:=false,xe:=λ_ _=>False }
section
variable{X:Cx}{AA:List (Addr × Obj)}{σ:St}{H:Hp}{s:Shared}
theorem Cx.Ok.tri{pn:List (Addr × Obj)}{xe:Value->Shared->Prop}(ok:X.Ok):(X.tri pn xe).Ok :=
 ⟨ok.mod,ok.kind,ok.glob,ok.blt,ok.above,ok.inj,ok.has,ok.cab,ok.hd,ok.frames,ok.stk,ok.exf,ok.bs,ok.bsz,ok.noex,ok.exfs,ok.funs,ok.frf⟩
theorem Inv.tri{xe:Value->Shared->Prop}(I:Inv X AA σ H s):Inv (X.tri (X.pn++AA) xe) [] σ H s :=
 ⟨I.ok.tri,I.os,I.bare,I.base,I.loc,I.cell,I.free,I.freeC,λp hp=>I.pin p (by simpa using hp),I.hok,I.len⟩
theorem Cx.Ok.untri{pn:List (Addr × Obj)}{xe:Value->Shared->Prop}(ok:(X.tri pn xe).Ok):X.Ok :=
 ⟨ok.mod,ok.kind,ok.glob,ok.blt,ok.above,ok.inj,ok.has,ok.cab,ok.hd,ok.frames,ok.stk,ok.exf,ok.bs,ok.bsz,ok.noex,ok.exfs,ok.funs,ok.frf⟩
theorem Inv.untri{pl:List (Addr × Obj)}{xe:Value->Shared->Prop}(I:Inv (X.tri (X.pn++AA) xe) pl σ H s):Inv X AA σ H s :=
 ⟨I.ok.untri,I.os,I.bare,I.base,I.loc,I.cell,I.free,I.freeC,λp hp=>I.pin p (List.mem_append_left _ hp),I.hok,I.len⟩
theorem Cx.Ok.hand{e:Addr}(ok:X.Ok):(X.hand e).Ok :=
 ⟨ok.mod,ok.kind,ok.glob,ok.blt,ok.above,ok.inj,ok.has,ok.cab,(λz=>nomatch z),ok.frames,ok.stk,ok.exf,ok.bs,ok.bsz,ok.noex,ok.exfs,ok.funs,ok.frf⟩
theorem Inv.hand{e:Addr}(I:Inv X AA σ H s):Inv (X.hand e) AA σ H s:=⟨I.ok.hand,I.os,I.bare,I.base,I.loc,I.cell,I.free,I.freeC,I.pin,I.hok,I.len⟩
theorem Inv.unhand{e:Addr}(ok:X.Ok)(I:Inv (X.hand e) AA σ H s):Inv X AA σ H s:=⟨ok,I.os,I.bare,I.base,I.loc,I.cell,I.free,I.freeC,I.pin,I.hok,I.len⟩
end
def MR(e:Addr)(cls:Value):Heap->Prop:=λh=>∃ oe vs,h.get? e=some oe/\oe.cls=cls/\oe.dict=none/\oe.data=.fields vs
abbrev TH:=Value->Ends->St->Hp->Prop
def R8:TH:=λ_ _ _ _=>False
def IC(p:Value->Option Bool)(ts:TS)(rest:TH):TH:=λcls D σ H=>(p cls=some true/\ts D σ H)\/(p cls=some false/\rest cls D σ H)
def Ends.drop(D:Ends)(i:Nat):Ends:={ nx:=λσ H=>D.nx (σ.set i none) H,rt:=D.rt,bk:=λσ H=>D.bk (σ.set i none) H,ct:=λσ H=>D.ct (σ.set i none) H }
def PH(X:Cx)(hs:List ExceptHandler)(th:TH):Prop :=
 ∀ (AA:List (Addr × Obj)) (s:Shared) (σ:St) (H:Hp) (D:Ends) (e:Addr) (cls:Value),X.ex=[]->Inv X AA σ H s->Fly (X.bad AA) H s.heap e cls->th cls D σ H →
  wpAny (model X.prog X.w) X.A (handleBy (.ref e) X.env hs) (SP X AA D) X.xe s
def PX(X:Cx)(t:Expr)(p:Value->Option Bool):Prop :=
 ∀ (AA:List (Addr × Obj)) (s:Shared) (σ:St) (H:Hp) (e:Addr) (cls:Value) (b:Bool) (Q:Bool->Shared->Prop) (E:Value->Shared->Prop),Inv X AA σ H s->Fly (X.bad AA) H s.heap e cls->p cls=some b →
  (∀ s',Inv X AA σ H s'->Fly (X.bad AA) H s'.heap e cls->Q b s')->wpAny (model X.prog X.w) (X.A.mark (some (.ref e))) (eval t X.env) (λc s1=>wpAny (model X.prog X.w) (X.A.mark (some (.ref e))) (excMatches (.ref e) c) Q E s1) E s
def R9(tb:(St->XK)->TS)(th:TH):TS:=λD σ H=>tb (λσ' cls _ H'=>th cls D σ' H') D σ H
section
variable{X:Cx}{hs:List ExceptHandler}{h₀:ExceptHandler}{th:TH}{body:List Stmt}{tb:(St->XK)->TS}{pos:Pos}
theorem uB:PH X [] R8:=λ_ _ _ _ _ _ _ _ _ _ h=>h.elim
theorem uC{bad:Addr->Prop}{H:Hp}{h:Heap}{e:Addr}{cls:Value}{M:Model}(F:Fly bad H h e cls):W.Looks M h (typeOf (.ref e)) cls:=by
 obtain⟨_,_,oe,vs,h1,h2,_⟩:=F
 subst h2
 exact(W.Looks.ld h1).andThen .now
theorem OF{x:Str}{np:Pos}{C:Value}(hg:Gl X x)(hm:X.mg x=some C)(hd:(x ==("__debug__":Str))=false:=by decide):PX X (.Name x np) (λcls=>W.exmOne X.K cls C):=by
 intro AA s σ H e cls b Q E I F hp h
 have I2:Inv (X.hand e) AA σ H s:=I.hand
 refine L9 (X:=X.hand e) I2 hg hm ?_ hd
 exact W.exm_one I.kIn (uC F) hp _ _ _ s (λ_ _ z=>z) (h s I F)
theorem uD{M:Model}{A:Around}{E:Value->Shared->Prop}{s:Shared}{bad:Addr->Prop}{H:Hp}{fr:List Addr}{e:Addr}{cls:Value}{Q:Unit->Shared->Prop}(F:Fly bad H s.heap e cls)
  (h:∀ h',R6 fr bad H e cls s.heap h'->Q () { s with heap:=h' }):wpAny M A (setFlight (.ref e) none) Q E s:=by
 have F0:=F
 obtain⟨nb,frr,oe,vs,he,L6,Q8,hd,htb⟩:=F
 unfold setFlight
 rcases htb with h1 | ⟨T,oT,ts,h1,nbT,frT,neT,eT,dT,h3⟩
 ·refine wpAny_bind (wpAny_field he hd h1 ?_)
  rw[if_neg (by decide)]
  exact wpAny_pure (h s.heap ⟨⟨[],(λb hb=>nomatch hb),λb o eb _ _=>eb,λb o eb _=>⟨o.slots,eb⟩⟩,F0⟩)
 ·refine wpAny_bind (wpAny_field he hd h1 ?_)
  rw[if_pos (show(Value.ref T != Value.none)=true from by simp)]
  have hs3:3<ts.size:=(Array.getElem?_eq_some_iff.mp h3).1
  refine wpAny_setField eT dT hs3 (h _ ?_)
  have oth:∀ b,b≠T->(s.heap.update T (Obj.mapFields (·.setIfInBounds 3 ((none:Option Addr).elim Value.none λf=>rawInt f)))).get? b=s.heap.get? b:=λb hb'=>Heap.get?_update_other _ _ (Ne.symm hb')
  refine⟨⟨[T],λb hb=> ?_,λb o eb hb _=>(oth b λz=>hb (by simp[z])).trans eb,λb o eb hb=>⟨o.slots,(oth b λz=>hb (by simp[z])).trans eb⟩⟩,nb,frr,oe,vs,(oth e (Ne.symm neT)).trans he,L6,Q8,hd,.inr ⟨T,_,_,h1,nbT,frT,neT,Heap.get?_update_self _ eT (Obj.isFreed_of_fields (Obj.data_mapFields dT _)),Obj.data_mapFields dT _,by simp[hs3]⟩⟩
  rw[List.mem_singleton]at hb
  subst hb
  exact⟨nbT,frT,oT,ts,eT,dT⟩
theorem SP.unhand{AA:List (Addr × Obj)}{D:Ends}{e:Addr}{f:Flow}{s:Shared}(ok:X.Ok)(h:SP (X.hand e) AA D f s):SP X AA D f s:=by
 cases f with
 | next=>obtain⟨σ1,H1,I1,q⟩:=h;exact⟨σ1,H1,I1.unhand ok,q⟩
 | brk=>obtain⟨σ1,H1,I1,q⟩:=h;exact⟨σ1,H1,I1.unhand ok,q⟩
 | cont=>obtain⟨σ1,H1,I1,q⟩:=h;exact⟨σ1,H1,I1.unhand ok,q⟩
 | ret u=>obtain⟨v,σ1,H1,I1,r,q⟩:=h;exact⟨v,σ1,H1,I1.unhand ok,r,q⟩
theorem OG{t:Expr}{b₀:Stmt}{suite:List Stmt}{hp:Pos}{p:Value->Option Bool}{ts:TS}{rest:List ExceptHandler}{tr:TH}(ht:PX X t p)(hsu:∀ e,FN (X.hand e) (b₀::suite) ts)(hr:PH X rest tr) :
  PH X (.ExceptHandler (some t) none (b₀::suite) hp::rest) (IC p ts tr):=by
 intro AA s σ H D e cls hx I F h
 have hmain:∃ b,p cls=some b/\(b=true->ts D σ H)/\(b=false->tr cls D σ H):=by
  rcases h with⟨h1,h2⟩ | ⟨h1,h2⟩
  ·exact⟨true,h1,λ_=>h2,λz=>nomatch z⟩
  ·exact⟨false,h1,(λz=>nomatch z),λ_=>h2⟩
 obtain⟨b,hp',hT,hF⟩:=hmain
 refine wpAny_handleBy_cons (codeAny_handlers_test (ht AA s σ H e cls b _ _ I F hp' λs' I' F'=> ?_)) (by intro z;cases z)
 cases b with
 | false=>exact hr AA s' σ H D e cls hx I' F' (hF rfl)
 | true =>
  refine codeAny_handlers_suite (uD (fr:=DP X.stack) F' λh' N=> ?_)
  have I2:Inv (X.hand e) AA σ H { s' with heap:=h' }:=(I'.noted N).hand
  refine wpAny_mono (hsu e AA _ σ H D I2 (hT rfl)) (λf s2 h2=>h2.unhand I.ok) λ_ _ z=>z.elim
theorem uE(hx:X.ex=[])(hcalm:X.calm=true)(hst:X.stack=X.env::X.outer)(JV:X.env.frame=some X.env.locals)(hb:∀ (E:St->XK) (pn:List (Addr × Obj)) (xe:Value->Shared->Prop),XOk (X.tri pn xe) E->FN (X.tri pn xe) body (tb E))(hh:PH X (h₀::hs) th) :
  PS X (.Try body (h₀::hs) [] [] pos) (R9 tb th):=by
 intro AA s σ H D I h
 refine wpAny_Try_except ?_
 let xe:Value->Shared->Prop:=λe s₁=>wpAny (model X.prog X.w) X.A (noteFrame e X.env) (λ_ s₂=>wpAny (model X.prog X.w) X.A (setFlight e none) (λ_ s₃=>wpAny (model X.prog X.w) X.A (handleBy e X.env (h₀::hs)) (SP X AA D) X.xe s₃) X.xe s₂) X.xe s₁
 have xok:XOk (X.tri (X.pn++AA) xe) (λσ' cls _ H'=>th cls D σ' H'):=by
  refine⟨PassesOwn.looking,hx,hcalm,λpl σ' H' s' e cls I' F' q=> ?_⟩
  have Iu:=I'.untri
  refine bR (hst ▸ Iu.ok.frames) (hst ▸ Iu.stack) JV F' (λa z=>I'.notbad hx (bS z)) (λa z=>I'.hok.fresh z) λh' N=> ?_
  rw[<-hst]at N
  have I2:Inv (X.tri (X.pn++AA) xe) pl σ' H' { s' with heap:=h' }:=I'.noted N
  exact hh AA _ σ' H' D e cls hx I2.untri (N.fly.mono λa z=>by
   rcases z with z | ⟨p,hp,z⟩
   ·exact .inl z
   ·exact .inr ⟨p,List.mem_append_left _ hp,z⟩) q
 refine wpAny_mono (hb _ _ xe xok [] s σ H D I.tri h) (λf s1 hs1=> ?_) λ_ _ z=>z
 cases f with
 | next =>
  obtain⟨σ1,H1,I1,q⟩:=hs1
  exact wpAny_execs_nil ⟨σ1,H1,I1.untri,q⟩
 | brk=>obtain⟨σ1,H1,I1,q⟩:=hs1;exact⟨σ1,H1,I1.untri,q⟩
 | cont=>obtain⟨σ1,H1,I1,q⟩:=hs1;exact⟨σ1,H1,I1.untri,q⟩
 | ret u=>obtain⟨v,σ1,H1,I1,r,q⟩:=hs1;exact⟨v,σ1,H1,I1.untri,r,q⟩
end
end L2
namespace L2
mutual
inductive Rep(K:W.Frag)(H:Hp):V->PyData->Prop
 | non:Rep K H .non .none
 | bl (b:Bool):Rep K H (.bl b) (.bool b)
 | int (i:Int):Rep K H (.int i) (.int i)
 | str (x:Str):Rep K H (.str x) (.str x)
 | lst {a:Addr} {xs:List V} {ds:List PyData}:SqL K H a xs->RepAll K H xs ds->Rep K H (.ref a) (.list ds)
 | tup {a:Addr} {xs:List V} {ds:List PyData}:SqT K H a xs->RepAll K H xs ds->Rep K H (.ref a) (.tuple ds)
inductive RepAll(K:W.Frag)(H:Hp):List V->List PyData->Prop
 | nil:RepAll K H [] []
 | cons {v:V} {d:PyData} {vs:List V} {ds:List PyData}:Rep K H v d->RepAll K H vs ds->RepAll K H (v::vs) (d::ds)
end
section
variable{X:Cx}{AA:List (Addr × Obj)}{σ:St}{H:Hp}{s:Shared}
mutual
theorem Rep.reads(I:Inv X AA σ H s):∀ {v:V} {d:PyData} {u:Value},Rep X.K H v d->RelV v u->∃ as,Reads s.heap u d as
 | _,_,_,.non,r=>by cases (show _=Value.none from r);exact⟨_,.none⟩
 | _,_,_,.bl b,r=>by cases (show _=Value.bool b from r);exact⟨_,.bool b⟩
 | _,_,_,.int i,r=>by obtain⟨t,e⟩:=(show ∃ t,_=Value.int i t from r);cases e;exact⟨_,.int i t⟩
 | _,_,_,.str x,r=>by obtain⟨t,e⟩:=(show ∃ t,_=Value.str x t from r);cases e;exact⟨_,.str x t⟩
 | _,_,_,.lst (a:=a) h hr,r=>by
  cases (show _=Value.ref a from r)
  obtain⟨its,rv,p,_⟩:=I.list h
  obtain⟨as,q⟩:=RepAll.reads I hr rv
  obtain⟨o,e1,e2,n,e3⟩:=p.isList
  exact⟨_,.list e1 e2 e3 q⟩
 | _,_,_,.tup (a:=a) h hr,r=>by
  cases (show _=Value.ref a from r)
  obtain⟨its,rv,p,_⟩:=I.tuple h
  obtain⟨as,q⟩:=RepAll.reads I hr rv
  obtain⟨o,e1,e2,n,e3⟩:=p
  exact⟨_,.tuple e1 e2 e3 q⟩
theorem RepAll.reads(I:Inv X AA σ H s):∀ {vs:List V} {ds:List PyData} {us:List Value},RepAll X.K H vs ds->Vals vs us->∃ as,ReadsAll s.heap us ds as
 | _,_,_,.nil,.nil=>⟨_,.nil⟩
 | _,_,_,.cons h hr,.cons r rr=>by
  obtain⟨as,q⟩:=Rep.reads I h r
  obtain⟨bs,q2⟩:=RepAll.reads I hr rr
  exact⟨_,.cons q q2⟩
end
end
abbrev OH(d:PyData):Prop:=PySem.SeqAt.shaped d=true
def FU(K:W.Frag):R2:=λx y H Q=>if JZ x y=true then Q (.bl (decide (x=y))) H else ∃ d e,Rep K H x d/\Rep K H y e/\OH d/\OH e/\Q (.bl (PyData.eqv d e)) H
def JG(K:W.Frag):R2:=λx y H Q=>if JZ x y=true then Q (.bl (!decide (x=y))) H else ∃ d e,Rep K H x d/\Rep K H y e/\OH d/\OH e/\Q (.bl (!PyData.eqv d e)) H
section
variable{X:Cx}
theorem KB(hu:X.A.units+64<cLine):B1 X (compareOp .Eq) (FU X.K):=by
 intro AA s σ H x y v u Q I rx ry h
 unfold FU at h
 split at h
 ·rename_i hs
  exact qZ AA s σ H x y v u Q I rx ry ⟨hs,h⟩
 ·obtain⟨d,e,rd,re,sd,se,q⟩:=h
  obtain⟨as,ra⟩:=rd.reads I rx
  obtain⟨bs,rb⟩:=re.reads I ry
  exact eq_dataH ra rb sd se hu ⟨.bl _,H,I,rfl,q⟩
theorem OI(hu:X.A.units+64<cLine):B1 X (compareOp .NotEq) (JG X.K):=by
 intro AA s σ H x y v u Q I rx ry h
 unfold JG at h
 split at h
 ·rename_i hs
  exact rA AA s σ H x y v u Q I rx ry ⟨hs,h⟩
 ·obtain⟨d,e,rd,re,sd,se,q⟩:=h
  obtain⟨as,ra⟩:=rd.reads I rx
  obtain⟨bs,rb⟩:=re.reads I ry
  exact ne_dataH ra rb sd se hu ⟨.bl _,H,I,rfl,q⟩
def SB(K:W.Frag):R2:=λx y H Q=>∃ a b ys,x=.ref a/\y=.ref b/\SqT K H a []/\SqT K H b ys/\Q (.ref b) H
theorem uF:B1 X (binaryOp .Add) (SB X.K):=by
 intro AA s σ H x y v u Q I rx ry h
 obtain⟨a,b,ys,rfl,rfl,ha,hb,q⟩:=h
 cases rx
 cases ry
 obtain⟨its,r1,⟨⟨c1,c2,c3,c4⟩,e1,e2,n1,e3⟩,_⟩:=I.tuple ha
 obtain⟨NP,r2,⟨⟨d1,d2,d3,d4⟩,f1,f2,n2,f3⟩,_⟩:=I.tuple hb
 obtain rfl:c1=_:=e2
 obtain rfl:c3=_:=e3
 obtain rfl:d1=_:=f2
 obtain rfl:d3=_:=f3
 cases r1
 exact concat_meets ⟨_,e1,rfl⟩ ⟨_,f1,rfl⟩ noFill_tuple_add seq_tuple_add PySem.F.slot_tuple_add PySem.F.entry_tuple_add (PySem.F.args_tuple_add_2 _ _) (tuple_addW0 a b #[] NP.toArray n1 n2 c2 d2 c4 d4 rfl) ⟨e1,f1,.ref b,H,I,rfl,q⟩
def BQ(K:W.Frag):R2:=λx y H Q=>match x,y with
 | .int i,.int j=>Q (.int (i+j)) H
 | .str i,.str j=>i.length+j.length<=sizeLine/\Q (.str (i++j)) H
 | .ref _,.ref _=>RX x y H Q\/RQ K x y H Q\/SB K x y H Q
 | _,_=>False
theorem BZ:B1 X (binaryOp .Add) (BQ X.K):=by
 intro AA s σ H x y v u Q I rx ry h
 cases x<;>cases y<;>simp only[BQ]at h
 ·exact qU AA s σ H _ _ v u Q I rx ry ⟨_,_,rfl,rfl,h⟩
 ·exact rH AA s σ H _ _ v u Q I rx ry ⟨_,_,rfl,rfl,h⟩
 ·rcases h with h | h
  ·exact tG AA s σ H _ _ v u Q I rx ry h
  rcases h with h | h
  ·exact sL AA s σ H _ _ v u Q I rx ry h
  ·exact uF AA s σ H _ _ v u Q I rx ry h
def FV:R2:=λx y H Q=>match x,y with
 | .int i,.int j=>Q (.bl (decide (i<j))) H
 | .str i,.str j=>Q (.bl (decide (i.cps.toList<j.cps.toList))) H
 | _,_=>False
def ER:R2:=λx y H Q=>match x,y with
 | .int i,.int j=>Q (.bl (decide (i<=j))) H
 | .str i,.str j=>Q (.bl (!decide (j.cps.toList<i.cps.toList))) H
 | _,_=>False
end
end L2
namespace L2
theorem uG:fillsNumberSlot (.type "tuple") "mul"=pure false :=
 PySem.fillsNumberSlot_seq (id:="tuple.__mul__") (r:=some (.builtin "tuple.__rmul__")) F.slot_tuple_mul.lookup (by decide +kernel) F.slot_tuple_rmul.lookup (by decide +kernel)
theorem uH:seqRepeat? (.type "tuple")=pure (some (.builtin "tuple.__mul__")):=by
 unfold seqRepeat?
 rw[PySem.seqSlot_of (T:="tuple") (name:="__mul__") (id:="tuple.__mul__") F.slot_tuple_mul.lookup (by decide +kernel),PySem.seqSlot_of (T:="tuple") (name:="__rmul__") (id:="tuple.__rmul__") F.slot_tuple_rmul.lookup (by decide +kernel)]
 rfl
theorem uI(a:Int)(t:Tok)(l:Addr)(BG:Array Value)(dd:Option Addr)(n:Nat)(sl:Array (Option Value)) :
  Meets (Builtin.«int.__rmul__» ⟨[.int a t,.ref l],[]⟩) (λ_ R s=>s.heap.get? l=some ⟨.type "tuple",dd,.seq BG n,sl⟩/\R (.ok (.ret Value.notImplemented)) s) :=
 .of_wp λprog w A R s h=>by obtain⟨hp,g,d,tk,os⟩:=s;obtain⟨hl,h⟩:=h;wp_walk;exact⟨_,rfl,h⟩
theorem uJ(l:Addr)(BG:Array Value)(dd:Option Addr)(n:Nat)(sl:Array (Option Value))(x:Int)(u:Tok)(h1:1<x)(h2:x<2 ^ 63)(hne:BG.isEmpty=false)(hz:BG.size * x.toNat<=sizeLine) :
  Meets (Builtin.«tuple.__mul__» ⟨[.ref l,.int x u],[]⟩) (λ_ R s=>s.heap.get? l=some ⟨.type "tuple",dd,.seq BG n,sl⟩ ∧
   R (.ok (.ret (Value.ref s.heap.objs.size))) { s with heap:=s.heap.push { cls:=Value.type "tuple",data:=Data.seq (List.foldl (λx1 x2=>x1++x2) #[] (List.replicate x.toNat BG)) } }) :=
 .of_wp λprog w A R s h=>by
  obtain⟨hp,g,d,tk,os⟩:=s;obtain⟨hl,h⟩:=h
  have hsl:(sizeLine:Nat)<=(2 ^ 63 - 1) / 8:=by decide
  have BT:(List.foldl (λx1 x2=>x1++x2) #[] (List.replicate x.toNat BG)).size<=sizeLine:=by
   have:=OA BG.toList x.toNat []
   simp only[List.nil_append,Array.toArray_toList]at this
   rw[this]
   simp only[List.size_toArray,List.length_flatten,List.map_replicate,List.sum_replicate_nat,Array.length_toList]
   rw[Nat.mul_comm];exact hz
  have hx:∃ N:Nat,(BG.size:Int) * x=(N:Int)/\N<=sizeLine:=⟨BG.size * x.toNat,by rw[Int.natCast_mul,Int.toNat_of_nonneg (by omega)],hz⟩
  obtain⟨N,hx,hN⟩:=hx
  unfold Builtin.«tuple.__mul__»
  wp_walk
  refine wpAny_ite_false (by simp;omega) ?_
  wp_walk
  refine wpAny_ite_false (by simp only[hne,Bool.false_or];simp;omega) ?_
  refine wpAny_ite_false (by simp only[hne,Bool.or_false];simp;omega) ?_
  refine wpAny_ite_false (by rw[hx];exact decide_eq_false (by omega)) ?_
  refine wpAny_ite_false (by rw[hx];unfold Builtin.Tuple.tupleTooMany;simp;omega) ?_
  wp_walk
  exact⟨_,rfl,h⟩
theorem uK(l:Addr)(BG:Array Value)(dd:Option Addr)(n:Nat)(sl:Array (Option Value))(u:Tok) :
  Meets (Builtin.«tuple.__mul__» ⟨[.ref l,.int 1 u],[]⟩) (λ_ R s=>s.heap.get? l=some ⟨.type "tuple",dd,.seq BG n,sl⟩/\R (.ok (.ret (Value.ref l))) s) :=
 .of_wp λprog w A R s h=>by
  obtain⟨hp,g,d,tk,os⟩:=s;obtain⟨hl,h⟩:=h
  unfold Builtin.«tuple.__mul__»
  wp_walk
  exact⟨_,rfl,h⟩
def SD(K:W.Frag):R2:=λx y H Q=>∃ a k xs,x=.ref a/\y=.int k/\SqT K H a xs/\xs≠[]/\1<=k/\k<2 ^ 63/\xs.length * k.toNat<=sizeLine ∧
 (k=1->Q (.ref a) H)/\(k≠1->∀ p,H p=none->Q (.ref p) (upd H p (.tup (List.replicate k.toNat xs).flatten)))
section
variable{X:Cx}
theorem Inv.tnew{AA:List (Addr × Obj)}{σ:St}{H:Hp}{s:Shared}{ys:List V}{its:List Value}(I:Inv X AA σ H s)(hv:Vals ys its)(hz:ys.length<=sizeLine) :
  Inv X AA σ (upd H s.heap.objs.size (.tup ys)) { s with heap:=s.heap.push { cls:=.type "tuple",data:=.seq its.toArray } } :=
 I.laid (t':=s.toks) (λ_ _ q=>Heap.get?_push_of_some _ q) (Nat.le_refl _) ⟨hz,its,hv,_,Heap.get?_push_size _ rfl,rfl,0,rfl⟩
theorem uL:B1 X (binaryOp .Mult) (SD X.K):=by
 intro AA s σ H x y v u Q I rx ry h
 obtain⟨a,k,xs,rfl,rfl,hx,hne,h1,h2,hz,q1,q2⟩:=h
 cases rx
 obtain⟨t,rfl⟩:=ry
 obtain⟨its,r,⟨⟨c1,c2,c3,c4⟩,e1,e2,n,e3⟩,_⟩:=I.tuple hx
 obtain rfl:c1=_:=e2
 obtain rfl:c3=_:=e3
 have hl:=r.length
 have he:its.toArray.isEmpty=false:=by
  cases its with
  | nil=>exact absurd (List.length_eq_zero_iff.mp hl) hne
  | cons b t=>rfl
 refine wpAny_binaryOp_repeat_ref (T:="tuple") (U:="int") (by decide) ⟨_,e1,rfl⟩ (λs'=>typeIs_int s' k t) uG F.fills_int_mul F.slot_int_rmul uH F.slot_int_index.lookup
  (call_meets F.slot_int_rmul (typeIs_int s k t) F.entry_int_rmul (F.args_int_rmul_2 _ _) (uI k t a its.toArray c2 n c4) ⟨e1,rfl,⟨_,e1,rfl⟩,?_⟩)
 by_cases hk:k=1
 ·subst hk
  exact call_meets F.slot_tuple_mul ⟨_,e1,rfl⟩ F.entry_tuple_mul (F.args_tuple_mul_2 _ _) (uK a its.toArray c2 n c4 t) ⟨e1,.ref a,H,I,rfl,q1 rfl⟩
 ·refine call_meets F.slot_tuple_mul ⟨_,e1,rfl⟩ F.entry_tuple_mul (F.args_tuple_mul_2 _ _) (uJ a its.toArray c2 n c4 k t (by omega) h2 he (by rw[List.size_toArray,<-hl];exact hz)) ⟨e1,?_⟩
  have f0:=OA its k.toNat []
  rw[List.nil_append]at f0
  rw[f0]
  exact⟨.ref _,_,I.tnew (r.rep k.toNat) (by rw[a0,Nat.mul_comm];exact hz),rfl,q2 hk _ I.fresh⟩
abbrev OJ:R2:=G9 λi j=>.int (i - j)
abbrev C0:R2:=rI (λ_ j=>0<j) λi j=>.int (i % j)
abbrev C8:R2:=rI Z5 λi j=>.int (i / j)
abbrev uM:R2:=rI qT λi j=>.int (i ^ j.toNat)
abbrev SE:V->Hp->VK->Prop:=rU λi=>.int (-i)
abbrev uN:ZX:=qJ λi j=>i+j
def OK(z:Str)(k:Int):Str:=if k<1 then Str.empty else if(k == 1 || z.length == 0)=true then z else⟨(List.replicate k.toNat z.cps).foldl (· ++·) #[]⟩
theorem uO(z:Str)(k:Nat):(Str.mk ((List.replicate k z.cps).foldl (· ++·) #[])).length=k * z.length:=by
 have e:∀ (m:Nat) (BY:Array Nat),((List.replicate m z.cps).foldl (· ++·) BY).size=BY.size+m * z.cps.size:=λm=>by
  induction m with
  | zero=>intro BY;simp
  | succ m ih=>intro BY;rw[List.replicate_succ,List.foldl_cons,ih,Array.size_append,Nat.succ_mul];omega
 have:=e k #[]
 simpa [Str.length]using this
def uP:R2:=λx y H Q=>∃ z k,x=.str z/\y=.int k/\0<=k/\k<=1000/\z.length<=1000/\Q (.str (OK z k)) H
theorem uQ:B1 X (binaryOp .Mult) uP:=by
 intro AA s σ H x y v u Q I rx ry h
 obtain⟨z,k,rfl,rfl,h1,h2,h3,q⟩:=h
 obtain⟨t,rfl⟩:=rx
 obtain⟨t',rfl⟩:=ry
 refine PySem.P.mul_str (by simp;omega) (λa _=> ?_) (λa _=> ?_) ?_
 ·have:(1000:Int)<=(2 ^ 63 - 1) / k:=(Int.le_ediv_iff_mul_le (by omega)).mpr (by omega)
  omega
 ·have h4:z.length * k.toNat<=1000 * 1000:=Nat.mul_le_mul h3 (by omega)
  have h5:(1000 * 1000:Nat)<=sizeLine:=by decide
  unfold Builtin.Str.tooLong
  exact decide_eq_false (by omega)
 ·unfold OK at q
  split
  ·rename_i c
   rw[if_pos c]at q
   exact⟨by show(0:Nat)<=sizeLine;omega,.str _,H,I.tok _,⟨_,rfl⟩,q⟩
  ·rename_i c
   rw[if_neg c]at q
   split
   ·rename_i d
    rw[if_pos d]at q
    exact⟨.str _,H,I,⟨_,rfl⟩,q⟩
   ·rename_i d
    rw[if_neg d]at q
    exact⟨by rw[uO];have:=Nat.mul_le_mul (show k.toNat<=1000 by omega) h3;show _<=2 ^ 24;omega,.str _,H,I.tok _,⟨_,rfl⟩,q⟩
def FW(K:W.Frag):R2:=λx y H Q=>match x,y with
 | .int i,.int j=>CMul i j/\Q (.int (i * j)) H
 | .str z,.int k=>0<=k/\k<=1000/\z.length<=1000/\Q (.str (OK z k)) H
 | .ref _,.int _=>RY x y H Q\/SD K x y H Q
 | _,_=>False
theorem JH:B1 X (binaryOp .Mult) (FW X.K):=by
 intro AA s σ H x y v u Q I rx ry h
 cases x<;>cases y<;>simp only[FW]at h
 ·exact qV AA s σ H _ _ v u Q I rx ry ⟨_,_,rfl,rfl,h⟩
 ·exact uQ AA s σ H _ _ v u Q I rx ry ⟨_,_,rfl,rfl,h⟩
 ·rcases h with h | h
  ·exact tH AA s σ H _ _ v u Q I rx ry h
  ·exact uL AA s σ H _ _ v u Q I rx ry h
def OL:R2:=λx y H Q=>match x,y with
 | .int i,.int j=>Q (.bl (decide (j<i))) H
 | _,_=>False
theorem ID:B1 X (compareOp .Lt) FV:=by
 intro AA s σ H x y v u Q I rx ry h
 cases x<;>cases y<;>simp only[FV]at h
 ·exact rB AA s σ H _ _ v u Q I rx ry ⟨_,_,rfl,rfl,h⟩
 ·obtain⟨t,rfl⟩:=rx
  obtain⟨t',rfl⟩:=ry
  exact PySem.P.lt_str ⟨.bl _,H,I,rfl,h⟩
theorem FX:B1 X (compareOp .LtE) ER:=by
 intro AA s σ H x y v u Q I rx ry h
 cases x<;>cases y<;>simp only[ER]at h
 ·exact rC AA s σ H _ _ v u Q I rx ry ⟨_,_,rfl,rfl,h⟩
 ·obtain⟨t,rfl⟩:=rx
  obtain⟨t',rfl⟩:=ry
  exact PySem.P.le_str ⟨.bl _,H,I,rfl,h⟩
theorem uR:B1 X (compareOp .Gt) OL:=by
 intro AA s σ H x y v u Q I rx ry h
 cases x<;>cases y<;>simp only[OL]at h
 exact rD AA s σ H _ _ v u Q I rx ry ⟨_,_,rfl,rfl,h⟩
abbrev KC:R2:=λx y H Q=>y=.non/\Q (.bl (decide (x=.non))) H
abbrev K0:R2:=λx y H Q=>y=.non/\Q (.bl (!decide (x=.non))) H
variable{a:Expr}{ta:TE}{tA:TT}{pos:Pos}
abbrev JI(K:W.Frag)(ta:TE):TT:=λσ H Q=>ta σ H λx H'=>∃ k,KQ K x H' k/\Q k H'
def CQ(K:W.Frag):R2:=aU K
theorem CD:IxR X (CQ X.K):=sQ
def uS:V->Option Int->Option Int->Hp->VK->Prop:=λx lo hi H Q=>∃ z,x=.str z/\z.length<=sizeLine/\Q (.str (Txt.slice z lo hi)) H
theorem bU{v:Value}{lo:Option Int}(p:IsPart v lo):∃ l:Option (Int × Tok),v=partValue l/\l.map (·.1)=lo:=by
 cases p with
 | none=>exact⟨none,rfl,rfl⟩
 | int i t=>exact⟨some (i,t),rfl,rfl⟩
theorem uT:SlR X uS:=by
 intro AA s σ H x v vl vu lo hi sl Q I rx hs pl pu h
 obtain⟨z,rfl,hz,q⟩:=h
 obtain⟨t,rfl⟩:=rx
 obtain⟨l,rfl,rfl⟩:=bU pl
 obtain⟨u,rfl,rfl⟩:=bU pu
 refine⟨"str",_,PySem.F.slot_str_getitem.lookup,typeIs_str _ _ _,?_⟩
 exact wpAny_getItem_str_slice (l:=l) (u:=u) (st:=none) hs rfl (post_val_or_str ⟨Nat.le_trans (Txt.slice_le z _ _) hz,λt' k=>⟨.str _,H,I.tok k,⟨t',rfl⟩,q⟩⟩)
def JJ(K:W.Frag):V->Option Int->Option Int->Hp->VK->Prop:=λx lo hi H Q=>match x with
 | .str z=>z.length<=sizeLine/\Q (.str (Txt.slice z lo hi)) H
 | _=>aW K x lo hi H Q\/aP K x lo hi H Q
theorem MS:SlR X (JJ X.K):=by
 intro AA s σ H x v vl vu lo hi sl Q I rx hs pl pu h
 cases x<;>first
  | exact uT AA s σ H _ v vl vu lo hi sl Q I rx hs pl pu ⟨_,rfl,h⟩
  | exact(SlR.or sV sK) AA s σ H _ v vl vu lo hi sl Q I rx hs pl pu h
abbrev SF:V->V->V->Hp->(Hp->Prop)->Prop:=aV
theorem bV:RG X SF:=sS
def FY(K:W.Frag)(tl:TE):TI:=λσ H R=>tl σ H λx H1=>∃ a,x=.ref a/\(((∃ xs,SqL K H1 a xs)/\R (HV K a) H1)\/((∃ xs,SqT K H1 a xs)/\R (HW K a) H1))
def FF(K:W.Frag):List V->Hp->VK->Prop:=λxs H Q=>∃ x n,xs=[x]/\RM K x H n/\Q (.int n) H
theorem GU:E8 X (.builtin "len") (FF X.K):=rK
def K1(K:W.Frag):List V->Hp->VK->Prop:=λxs H Q=>∃ p ys,xs=[.ref p]/\(SqL K H p ys\/SqT K H p ys)/\∀ l,H l=none->Q (.ref l) (upd H l (.lst ys))
theorem SG:E8 X (.type "list") (K1 X.K):=sY
def K2(K:W.Frag):List V->Hp->VK->Prop:=λxs H Q=>∃ p ys,xs=[.ref p]/\((SqL K H p ys/\∀ l,H l=none->Q (.ref l) (upd H l (.tup ys)))\/(SqT K H p ys/\Q (.ref p) H))
theorem SH:E8 X (.type "tuple") (K2 X.K):=sZ
abbrev K3:=aZ
end
end L2
namespace L2
section
variable{X:Cx}{tg a:Expr}{ta:TE}{pos:Pos}
theorem HF{l:Expr}{tl:TE}(hl:PE X l tl):PI X tg l (FY X.K tl):=by
 intro AA s σ H R I h
 refine AV (hl AA s σ H _ I h) λv s1 hzz=> ?_
 obtain⟨x,H1,I1,r1,q1⟩:=hzz
 obtain⟨a,e,q1⟩:=q1
 subst e
 cases r1
 have fp1:∀ b∈[s1.heap.objs.size],FpOk X AA H1 b:=λb hb=>by
  have e:b=s1.heap.objs.size:=by simpa using hb
  subst e
  exact I1.fpOk (Nat.le_refl _) (I1.hok.fresh (Nat.le_refl _))
 rcases q1 with⟨⟨xs,hq⟩,q⟩ | ⟨⟨xs,hq⟩,q⟩
 ·obtain⟨its,rv,p,hz⟩:=I1.list hq
  refine wpAny_pyIter_list p.isList ?_
  exact⟨s1.heap.objs.size,[s1.heap.objs.size],_,_,H1,rfl,I1.kept (t':=s1.toks) λb o e=>Heap.get?_push_of_some _ e,qK a _,⟨_,Heap.get?_push_size _ rfl,rfl,rfl⟩,fp1,q⟩
 ·obtain⟨its,rv,p,hz⟩:=I1.tuple hq
  refine wpAny_pyIter_tuple (show s1.heap.IsTuple a its.toArray from p) ?_
  exact⟨s1.heap.objs.size,[s1.heap.objs.size],_,_,H1,rfl,I1.kept (t':=s1.toks) λb o e=>Heap.get?_push_of_some _ e,qL a _,⟨_,Heap.get?_push_size _ rfl,rfl,rfl⟩,fp1,q⟩
end
def SI(scope outer:Scope)(N cn:List Str)(cap:List Nat):Bool :=
 scope.kind == .function && scope.names.all (λy=>y.2 != .cell) && scope.names.all (λy=>y.2 != .local || scope.names.lookup y.1 == some .local) &&
 scope.names.all (λy=>y.2 != .free || outer.names.lookup y.1 == some .cell || outer.names.lookup y.1 == some .free) && cn.all (λx=>scope.names.lookup x == some .free) && (cap.map (λi=>N[i]?) == cn.map some)
theorem uU{X:Cx}{scope outer:Scope}{N tn cn:List Str}{cap:List Nat}(h1:X.env.scope=outer)(h2:X.N=N)(h:SI scope outer N cn cap=true):KZ X scope tn cn cap:=by
 unfold SI at h
 simp only[Bool.and_eq_true,List.all_eq_true,Bool.or_eq_true,bne_iff_ne,beq_iff_eq]at h
 obtain⟨⟨⟨⟨⟨k1,k2⟩,k3⟩,k4⟩,k5⟩,k6⟩:=h
 refine⟨k1,k2,λy hy hl=>(k3 y hy).resolve_left λz=>z hl,λy hy hf=> ?_,k5,by rw[h2];exact k6⟩
 have z:=k4 y hy
 show X.env.scope.names.lookup y.1=_\/X.env.scope.names.lookup y.1=_
 rw[h1]
 rcases z with(z | z) | z
 ·exact absurd hf z
 ·exact .inl z
 ·exact .inr z
structure OM(K:W.Frag)(C:Addr):Prop where
 ga:W.findIn K (.ref C) "__getattribute__"=some (some (.builtin "BaseException.__getattribute__"))
 gt:W.findIn K (.ref C) "__getattr__"=some none
 be:W.mroIn K C (.type "BaseException")=some true
 cl:W.isClsIn K C=true
 ha:W.findIn K (.ref C) "__class__"=some (some (.builtin "object.__class__"))
 hn:W.specialIn K (.builtin "object.__class__") "__get__"=some (some (.builtin "getset_descriptor.__get__"))
 tk:W.takesIn K (.builtin "object.__class__")=some true
 mr:W.mroIn K C (.type "object")=some true
theorem uV{K:W.Frag}{C:Addr}{od:Option Obj}{name:Str}{a g:Value}(hc:(W.clsIn K C).isSome=true)(ha:W.findIn K (.ref C) name=some (some a))(hg:W.specialIn K a "__get__"=some (some g))(ht:W.takesIn K a=some true) :
  W.findObj K C od name=some (.bind g a):=by
 obtain⟨cd,hc⟩:=Option.isSome_iff_exists.mp hc
 unfold W.findObj
 rw[hc,Option.bind_some,ha,Option.bind_some]
 simp[hg,ht]
theorem uW{K:W.Frag}{M:Model}{A:Around}{E:Value->Shared->Prop}{Q:Unit->Shared->Prop}{s:Shared}{x D:Addr}{ox:Obj}{nm:Value}(c:OM K D)(X:K.In s.heap)(I:W.InstAt s.heap x ox D none)(k:Q () s) :
  wpAny M A (checkBuiltinCall "BaseException.__getattribute__" ⟨[.ref x,nm],[]⟩) Q E s:=by
 have e1:builtinKind "BaseException.__getattribute__"=some .slot:=by decide +kernel
 have e2:splitId "BaseException.__getattribute__"=some ("BaseException","__getattribute__"):=by decide +kernel
 have L:W.Looks M s.heap (isInstance (.ref x) (.type "BaseException")) true:=(I.type (M:=M)).andThen (W.looks_mroIn (M:=M) X c.be)
 have ar:=PySem.F.args_bexc_ga (.ref x) nm
 obtain⟨hh,g,d,t,os⟩:=s
 simp only[checkBuiltinCall,e1,e2]
 refine wpAny_bind (L.at ?_)
 simp only[Bool.not_true,Bool.false_eq_true,if_false]
 cases hs:Manifest.signature? "BaseException.__getattribute__" with
 | none=>exact wpAny_pure k
 | some sig =>
  simp only[argsOk,hs]at ar
  have z:Bind.checkArgs "BaseException.__getattribute__" sig ⟨[.ref x,nm],[]⟩=pure ():=ar
  show wpAny M A (Bind.checkArgs "BaseException.__getattribute__" sig ⟨[.ref x,nm],[]⟩) Q E _
  rw[z];exact wpAny_pure k
theorem uX{K:W.Frag}{prog:Program}{w:World}{A:Around}{E:Value->Shared->Prop}{Q:Option Value->Shared->Prop}{s:Shared}{x D:Addr}{ox:Obj}(c:OM K D)(X:K.In s.heap)(I:W.InstAt s.heap x ox D none)
  (k:Q (some (.ref D)) { s with toks:=s.toks+1 }):wpAny (model prog w) A (getAttr? (.ref x) "__class__") Q E s:=by
 obtain⟨hh,g,d,t,os⟩:=s
 have L0:=I.type (M:=model prog w)
 have L1:=W.looks_findIn (M:=model prog w) X c.ga
 have L2:=W.looks_findIn (M:=model prog w) X c.gt
 have L3:=W.looks_find (M:=model prog w) X I (uV (name:="__class__") c.cl c.ha c.hn c.tk)
 unfold getAttr? getAttrBy? getAttrBy
 refine wpAny_bind (wpAny_mkText (wpAny_bind (wpAny_attempt (wpAny_holding (wpAny_bind (L0.at (wpAny_bind (L1.at ?_))))))))
 show wpAny _ _ (getAttrByItsOwn _ _ _ _ _ _) _ _ _
 unfold getAttrByItsOwn
 refine wpAny_bind (L2.at (wpAny_bind (wpAny_attempt (wpAny_holding ?_))))
 show wpAny _ _ (boundAndCalled _ _ _) _ _ _
 unfold boundAndCalled
 rw[PySem.F.attr_ValueError.ga.bind (.ref x)]
 refine wpAny_bind (wpAny_pure (wpAny_call (codeAny_call_builtin PySem.F.attr_ValueError.ga.plain PySem.F.entry_bexc_ga (uW c X I ?_))))
 refine wpAny_bind (wpAny_pure (wpAny_bind (wpAny_pure (wpAny_bind (L0.at (wpAny_bind (L3.at ?_)))))))
 show wpAny _ _ (holding [_] (call _ _) >>= ret) _ _ _
 refine wpAny_bind (wpAny_holding (wpAny_call (W.class_get (ox:=ox) (od:=none) X I c.mr (wpAny_pure ?_))))
 exact W.handed_on rfl (wpAny_pure k)
theorem uY{K:W.Frag}{x D:Addr}(c:OM K D):W.KitX K (.ref x) (.ref D) (MR x (.ref D)):=by
 have inst:∀ {h:Heap},MR x (.ref D) h->∃ ox,W.InstAt h x ox D none:=λ{h} ⟨oe,vs,e1,e2,e3,e4⟩=>by
  refine⟨oe,e1,e2,?_,?_⟩
  ·unfold W.notCls;rw[e4]
  ·rw[e3];trivial
 have cls:∃ cd,W.clsIn K D=some cd:=Option.isSome_iff_exists.mp c.cl
 refine⟨λM h _ p=>(inst p).elim λ_ I=>I.type,λM h X p=> ?_,λh tp dd its n sl X htp=> ?_,λ{prog w A E Q s} X p k=> ?_⟩
 ·obtain⟨cd,hc⟩:=cls
  unfold W.clsIn at hc
  split at hc
  ·rename_i c' d' cd' sl' ho
   intro A' Q' E' s' k q
   unfold isType loadHead
   exact wpAny_bind (wpAny_loadPart (k _ _ (X _ _ ho)) (wpAny_pure q))
  ·cases hc
 ·obtain⟨cd,hc⟩:=cls
  refine Bool.eq_false_iff.mpr λq=> ?_
  have e:D=tp:=Value.ref.inj (beq_iff_eq.mp q)
  subst e
  unfold W.clsIn at hc
  split at hc
  ·rename_i c' d' cd' sl' ho
   have z:=(X _ _ ho).symm.trans htp
   cases z
  ·cases hc
 ·obtain⟨ox,I⟩:=inst p
  exact uX c X I k
def TyX(K:W.Frag)(H:Hp)(x:V)(t:Value):Prop:=F8 K H x t\/∃ a C,x=.ref a/\t=.ref C/\H a=some (.ext (MR a (.ref C)))/\OM K C
inductive ClsV:V->Value->Prop
 | own (C:Addr):ClsV (.ref C) (.ref C)
 | ty (n:String):ClsV (.ty n) (.type n)
theorem ClsV.rel{y:V}{c u:Value}(h:ClsV y c)(r:RelV y u):u=c:=by
 cases h<;>exact r
theorem bW:∀ {ys:List V} {cs us:List Value},Paired ClsV ys cs->Vals ys us->us=cs
 | _,_,_,.nil,.nil=>rfl
 | _,_,_,.cons h t,.cons r rr=>by rw[h.rel r,bW t rr]
def MT(K:W.Frag):List V->Hp->VK->Prop:=λxs H Q=>∃ x y t b,xs=[x,y]/\TyX K H x t ∧
 ((∃ c,ClsV y c/\W.kitOne K t c=some b)\/∃ p ys cs,y=.ref p/\SqT K H p ys/\Paired ClsV ys cs/\W.kitAny K t cs=some b)/\Q (.bl b) H
section
variable{X:Cx}
theorem TyX.kit{AA:List (Addr × Obj)}{σ:St}{H:Hp}{s:Shared}{x:V}{t u:Value}(I:Inv X AA σ H s)(h:TyX X.K H x t)(r:RelV x u):∃ φ :Heap->Prop,W.KitX X.K u t φ /\ φ s.heap/\u≠.builtin "__main__.__loader__#opaque":=by
 rcases h with h | ⟨a,C,rfl,rfl,e,c⟩
 ·cases h with
  | non=>cases (show u=Value.none from r);exact⟨_,W.kitx_none,trivial,λz=>nomatch z⟩
  | bl y=>cases (show u=Value.bool y from r);exact⟨_,W.kitx_bool,trivial,λz=>nomatch z⟩
  | int i=>obtain⟨t,q⟩:=(show ∃ t,u=Value.int i t from r);cases q;exact⟨_,W.kitx_int,trivial,λz=>nomatch z⟩
  | str y=>obtain⟨t,q⟩:=(show ∃ t,u=Value.str y t from r);cases q;exact⟨_,W.kitx_str,trivial,λz=>nomatch z⟩
  | flt y=>obtain⟨t,q⟩:=(show ∃ t,u=Value.float y t from r);cases q;exact⟨_,W.kitx_float,trivial,λz=>nomatch z⟩
  | @lst a xs ea =>
   cases (show u=Value.ref a from r)
   obtain⟨_,_,n,_,h1⟩:=(show ObjOk X.prog X.w H s.heap a (.lst xs)from I.hok a _ ea)
   exact⟨_,W.kitx_list,⟨_,h1,rfl⟩,λz=>nomatch z⟩
  | @frz a ob xs ea =>
   cases (show u=Value.ref a from r)
   obtain⟨_,_,_,n,_,h1⟩:=(show ObjOk X.prog X.w H s.heap a (.frz ob (.lst xs))from I.hok a _ ea)
   exact⟨_,W.kitx_list,⟨_,h1,rfl⟩,λz=>nomatch z⟩
  | @tup a xs ea =>
   cases (show u=Value.ref a from r)
   obtain⟨_,_,_,p⟩:=(show ObjOk X.prog X.w H s.heap a (.tup xs)from I.hok a _ ea)
   obtain⟨o,h1,h2,_⟩:=p
   exact⟨_,W.kitx_tuple,⟨o,h1,h2⟩,λz=>nomatch z⟩
  | @dK a AD ea =>
   cases (show u=Value.ref a from r)
   obtain⟨_,_,vs,_,p⟩:=(show ObjOk X.prog X.w H s.heap a (.dK AD)from I.hok a _ ea)
   obtain⟨o,es,ep,h1,h2,_⟩:=p
   exact⟨_,W.kitx_dict,⟨o,h1,h2.1⟩,λz=>nomatch z⟩
  | @dT a AD ea =>
   cases (show u=Value.ref a from r)
   obtain⟨_,_,xs,_,o,es,ep,h1,h2,_⟩:=(show ObjOk X.prog X.w H s.heap a (.dT AD)from I.hok a _ ea)
   exact⟨_,W.kitx_dict,⟨o,h1,h2.1⟩,λz=>nomatch z⟩
  | @ins a C dx fs ea cl ha hn htk hm =>
   cases (show u=Value.ref a from r)
   obtain⟨mA,O,_⟩:=N6 I.hok ea
   obtain⟨od,J,_⟩:=O.look
   exact⟨_,W.kitx_own (cl.get _) cl.hd ha hn htk hm,J,λz=>nomatch z⟩
 ·cases (show u=Value.ref a from r)
  have p:MR a (.ref C) s.heap:=(show ObjOk X.prog X.w H s.heap a (.ext (MR a (.ref C)))from I.hok a _ e).1
  exact⟨_,uY c,p,λz=>nomatch z⟩
theorem SJ:E8 X (.builtin "isinstance") (MT X.K):=by
 intro AA s σ H xs us Q I r h
 obtain⟨x,y,t,b,rfl,ty,hc,q⟩:=h
 obtain⟨u,v,rfl,rx,ry⟩:=Vals.two r
 obtain⟨φ,Z,p,ne⟩:=ty.kit I rx
 rcases hc with⟨c,hy,e⟩ | ⟨pt,ys,cs,rfl,hs,hcs,e⟩
 ·have:=hy.rel ry
  subst this
  exact W.kia_one Z I.kIn p e ne λtk=>⟨.bl b,H,I.tok tk,rfl,q⟩
 ·cases (show v=Value.ref pt from ry)
  obtain⟨its,rv,⟨⟨c1,c2,c3,c4⟩,e1,e2,n,e3⟩,_⟩:=I.tuple hs
  obtain rfl:c1=_:=e2
  obtain rfl:c3=_:=e3
  have:=bW hcs rv
  subst this
  exact W.kia_tup Z I.kIn p e1 e ne λtk=>⟨.bl b,H,I.tok tk,rfl,q⟩
end
end L2
namespace L2
def HG(J:It)(g:TG)(tt:TT)(te:TE)(k:Nat)(cap:List Nat)(σ:St)(H1:Hp)(Q:VK):Prop :=
 ∃ W:Nat->Nat->St->List V->Hp->Prop,(∃ m,W 0 m (JD k cap σ) [] H1)/\∀ i m σ' ys H,W i m σ' ys H →
  (J.stop i H/\∀ p,H p=none->Q (.ref p) (upd H p (.lst ys))) ∨
  (J.go i H/\ys.length<sizeLine/\∀ x H',J.yld i H x H'->g x σ' H' λσ2 H2=>tt σ2 H2 λb H3 =>
   if b=true then ∃ N:VK,(∀ y H4,N y H4->∃ m',m'<m/\W (i+1) m' σ2 (ys++[y]) H4)/\te σ2 H3 N else ∃ m',m'<m/\W (i+1) m' σ2 ys H3)
def HH(J:It)(g:TG)(tb:TS)(D:Ends)(σ:St)(H1:Hp):Prop :=
 ∃ W:Nat->Nat->St->Hp->Prop,(∃ m,W 0 m σ H1)/\∀ i m σ H,W i m σ H →
  (J.stop i H/\D.nx σ H)\/(J.go i H/\∃ N:St->Hp->Prop,(∀ σ' H',N σ' H'->∃ m',m'<m/\W (i+1) m' σ' H')/\∀ x H',J.yld i H x H'->g x σ H' λσ2 H2=>tb { D with nx:=N,ct:=N,bk:=D.nx } σ2 H2)
section
variable{K:W.Frag}{ta tb tc to ti tv tl:TE}{tt tA tB' tu:TT}{s1 s2:TS}{r r':R2}{σ:St}{H:Hp}{Q:VK}{D:Ends}{QB:Bool->Hp->Prop}{as:TA}{g:TG}{gs:IR}{te:TE}{k i:Nat}{cap:List Nat}{f m:Str}{C:Addr}{sp:Sp}{C6:List V}{E:St->XK}{v:V}{vs:List V}{QA:List V->Hp->Prop}{QG:St->Hp->Prop}{QO:Option Int->Hp->Prop}
theorem uZ:AK s1 s2 D σ H=(s1 { D with nx:=s2 D } σ H):=rfl
theorem u1:CN D σ H=(D.nx σ H):=rfl
theorem u3:A5 ta g D σ H=(ta σ H λx H1=>g x σ H1 D.nx):=rfl
theorem u4:DH ta D σ H=(ta σ H λ_ H1=>D.nx σ H1):=rfl
theorem u8:A9 ta D σ H=(ta σ H D.rt):=rfl
theorem u9:B0 tt s1 s2 D σ H=(tt σ H λb H1=>if b=true then s1 D σ H1 else s2 D σ H1):=rfl
theorem vA:tC v σ H Q=(Q v H):=rfl
theorem vB:AG r ta tb σ H Q=(ta σ H λx H1=>tb σ H1 λy H2=>r x y H2 Q):=rfl
theorem vC:CJ ta σ H QB=(ta σ H λx H'=>∃ k,x=.bl k/\QB k H'):=rfl
theorem vD:F7 r r' ta tb tc σ H Q=(ta σ H λx H1=>tb σ H1 λy H2=>r x y H2 λz H3=>∃ k,z=.bl k/\(if k=true then tc σ H3 λw' H4=>r' y w' H4 Q else Q (.bl false) H3)):=rfl
theorem vE:FQ tt σ H QB=(tt σ H λc H1=>QB (!c) H1):=rfl
theorem vF:MB tt tu σ H QB=(tt σ H λc H1=>if c=true then tu σ H1 QB else QB false H1):=rfl
theorem vG:JY tt tu σ H QB=(tt σ H λc H1=>if c=true then QB true H1 else tu σ H1 QB):=rfl
theorem vH:MD ta tb σ H Q=(ta σ H λx H1=>∃ c,x=.bl c/\if c=true then tb σ H1 Q else Q (.bl false) H1):=rfl
theorem vI:JI K ta σ H QB=(ta σ H λx H'=>∃ k,KQ K x H' k/\QB k H'):=rfl
theorem vJ:BV σ H QA=(QA [] H):=rfl
theorem vK:DI ta as σ H QA=(ta σ H λx H1=>as σ H1 λxs H2=>QA (x::xs) H2):=rfl
theorem vL:EO as σ H Q=(as σ H λxs H1=>xs.length<=sizeLine/\∀ p,H1 p=none->Q (.ref p) (upd H1 p (.tup xs))):=rfl
theorem vM:CG as σ H Q=(as σ H λxs H1=>xs.length<=sizeLine/\∀ p,H1 p=none->Q (.ref p) (upd H1 p (.lst xs))):=rfl
theorem vN:DE sp C6 E as σ H Q=(as σ H λvs H1=>sp (vs++C6) H1 Q (E σ)):=rfl
theorem vO:AR C m sp C6 E ta as σ H Q=(ta σ H λx H1=>∃ a dx fs,x=.ref a/\H1 a=some (.ins C dx fs)/\fs.lookup m=none/\as σ H1 λvs H2=>sp (x::(vs++C6)) H2 Q (E σ)):=rfl
theorem vP:IU C sp C6 E as σ H Q=(as σ H λvs H1=>∀ x dx,H1 x=none->H1 dx=none->dx≠x->sp (.ref x::(vs++C6)) (upd (upd H1 dx (.own x)) x (.ins C dx [])) (λv H2=>v=.non/\Q (.ref x) H2) (E σ)):=rfl
theorem vQ:AY K ta f σ H Q=(ta σ H λx H1=>∃ a C dx fs v,x=.ref a/\H1 a=some (.ins C dx fs)/\Cls K C/\NoAttr K C f/\fs.lookup f=some v/\Q v H1):=rfl
theorem vR:D5 K ta tv f D σ H=(tv σ H λy H1=>ta σ H1 λx H2=>∃ a C dx fs,x=.ref a/\H2 a=some (.ins C dx fs)/\Cls K C/\NoAttr K C f/\fs.length<1000/\D.nx σ (upd H2 a (.ins C dx (A7 f y fs)))):=rfl
theorem vS{ru:V->Hp->VK->Prop}:N3 ru ta σ H Q=ta σ H λx H1=>ru x H1 Q:=rfl
theorem vT{rc:List V->Hp->VK->Prop}:C2 rc as σ H Q=as σ H λvs H1=>rc vs H1 Q:=rfl
theorem vU:GE C E as D σ H=(as σ H λvs H1=>vs.length<=sizeLine/\E σ (.ref C) none H1):=rfl
theorem vV{sb:(St->XK)->TS}{th:TH}:R9 sb th D σ H=sb (λσ' cls _ H'=>th cls D σ' H') D σ H:=rfl
theorem vW:AO i v σ H QG=(QG (σ.set i (some v)) H):=rfl
theorem vX{rs:NX}:N1 to ti rs v σ H QG=to σ H λo H1=>ti σ H1 λi H2=>rs o i v H2 λH3=>QG σ H3:=rfl
theorem vY:N0 K k gs v σ H QG=(∃ a xs,v=.ref a/\SqT K H a xs/\xs.length=k/\gs xs σ H QG):=rfl
theorem vZ:NY vs σ H QG=((vs=[]/\QG σ H)):=rfl
theorem v0:KP g gs vs σ H QG=(∃ v r,vs=v::r/\g v σ H λσ' H'=>gs r σ' H' QG):=rfl
theorem v1{rs:V->Option Int->Option Int->Hp->VK->Prop}{ol oh:TO}:J3 rs ta ol oh σ H Q=ta σ H λx H1=>ol σ H1 λl H2=>oh σ H2 λu H3=>rs x l u H3 Q:=rfl
theorem v2:J1 σ H QO=(QO none H):=rfl
theorem v4:J2 ta σ H QO=(ta σ H λx H1=>∃ i,x=.int i/\QO (some i) H1):=rfl
theorem v8{T:String}{rm:V->List V->Hp->VK->Prop}:HB K T rm ta as σ H Q=ta σ H λx H1=>RW K T x H1/\as σ H1 λxs H2=>rm x xs H2 Q:=rfl
theorem v9:DL σ H QB=(QB true H):=rfl
theorem wA:EZ (EX as) g tt te k cap σ H Q=(as σ H λvs H1=>∃ j:Int,vs=[.int j]/\ -(2 ^ 62)<=j/\j<2 ^ 62/\HG (GP 0 j.toNat) g tt te k cap σ H1 Q):=rfl
theorem wB:EZ (FY K tl) g tt te k cap σ H Q=(tl σ H λx H1=>∃ a,x=.ref a/\(((∃ xs,SqL K H1 a xs)/\HG (HV K a) g tt te k cap σ H1 Q)\/((∃ xs,SqT K H1 a xs)/\HG (HW K a) g tt te k cap σ H1 Q))):=rfl
theorem wC:DR (EX as) g s1 D σ H=(as σ H λvs H1=>∃ j:Int,vs=[.int j]/\ -(2 ^ 62)<=j/\j<2 ^ 62/\HH (GP 0 j.toNat) g s1 D σ H1):=rfl
theorem wD:DR (FY K tl) g s1 D σ H=(tl σ H λx H1=>∃ a,x=.ref a/\(((∃ xs,SqL K H1 a xs)/\HH (HV K a) g s1 D σ H1)\/((∃ xs,SqT K H1 a xs)/\HH (HW K a) g s1 D σ H1))):=rfl
theorem wE{rd:V->V->Hp->VK->Prop}:RO K ta tv rd f D σ H=(ta σ H λx H1=>∃ a C dx fs v,x=.ref a/\H1 a=some (.ins C dx fs)/\Cls K C/\NoAttr K C f/\fs.lookup f=some v/\tv σ H1 λy H2=>rd v y H2 λz H3=>∃ dx' fs',H3 a=some (.ins C dx' fs')/\fs'.length<1000/\D.nx σ (upd H3 a (.ins C dx' (A7 f z fs')))):=rfl
end
end L2
namespace L2
section
variable{K:W.Frag}{σ:St}{H:Hp}{Q:VK}{P:Bool->Prop}{PI':Int->Prop}{PV:V->Prop}{QB:Bool->Hp->Prop}{v:V}{x:Option V}{i j:Int}{n:Nat}{b b':Bool}{s s':Str}{p q:Addr}{f:Int->Int->V}{C:Int->Int->Prop}
def FA(i:Nat):TE:=λσ H Q=>match σ[i]? with
 | some (some v)=>Q v H
 | _=>False
theorem wF:FA 0 (some v::σ) H Q=Q v H:=rfl
theorem wG:FA (n+1) (x::σ) H Q=FA n σ H Q:=rfl
theorem wH(i:Nat):FA i=RA i:=by
 funext σ H Q
 unfold FA RA
 cases σ[i]? with
 | none=>simp
 | some o=>cases o<;>simp
theorem wI{P:Bool->Prop}:(∃ k,V.bl b=V.bl k/\P k)=P b:=by simp
theorem wJ{P:Int->Prop}:(∃ k,V.int i=V.int k/\P k)=P i:=by simp
theorem wK{P:Addr->Prop}:(∃ k,V.ref p=V.ref k/\P k)=P p:=by simp
theorem wL{P:Bool->Prop}:(∃ k,KQ K (.bl b) H k/\P k)=P b:=by simp[KQ]
theorem wM:BQ K (.int i) (.int j) H Q=Q (.int (i+j)) H:=rfl
theorem wN:BQ K (.str s) (.str s') H Q=(s.length+s'.length<=sizeLine/\Q (.str (s++s')) H):=rfl
theorem SK:BQ K (.ref p) (.ref q) H Q=(RX (.ref p) (.ref q) H Q\/RQ K (.ref p) (.ref q) H Q\/SB K (.ref p) (.ref q) H Q):=rfl
theorem wO{x y:Str}:ER (.str x) (.str y) H Q=Q (.bl (!decide (y.cps.toList<x.cps.toList))) H:=rfl
theorem wP{x y:Str}:FV (.str x) (.str y) H Q=Q (.bl (decide (x.cps.toList<y.cps.toList))) H:=rfl
theorem wQ{x:Str}{lo hi:Option Int}:JJ K (.str x) lo hi H Q=(x.length<=sizeLine/\Q (.str (Txt.slice x lo hi)) H):=rfl
theorem wR:FW K (.int i) (.int j) H Q=(CMul i j/\Q (.int (i * j)) H):=rfl
theorem wS{z:Str}{j:Int}:FW K (.str z) (.int j) H Q=(0<=j/\j<=1000/\z.length<=1000/\Q (.str (OK z j)) H):=rfl
theorem wT:FW K (.ref p) (.int j) H Q=(RY (.ref p) (.int j) H Q\/SD K (.ref p) (.int j) H Q):=rfl
theorem wU:G9 f (.int i) (.int j) H Q=Q (f i j) H:=by simp[G9]
theorem bX:rI C f (.int i) (.int j) H Q=(C i j/\Q (f i j) H):=by simp[rI]
theorem wV{g:Int->V}:rU g (.int i) H Q=Q (g i) H:=by simp[rU]
theorem wW:FV (.int i) (.int j) H Q=Q (.bl (decide (i<j))) H:=rfl
theorem wX:ER (.int i) (.int j) H Q=Q (.bl (decide (i<=j))) H:=rfl
theorem wY:OL (.int i) (.int j) H Q=Q (.bl (decide (j<i))) H:=rfl
theorem wZ:FU K (.int i) (.int j) H Q=Q (.bl (decide (i=j))) H:=by simp[FU,JZ]
theorem w5:FU K (.str s) (.str s') H Q=Q (.bl (decide (s=s'))) H:=by simp[FU,JZ]
theorem w8:JG K (.int i) (.int j) H Q=Q (.bl (!decide (i=j))) H:=by simp[JG,JZ]
theorem w9:KC v .non H Q=Q (.bl (decide (v=.non))) H:=by simp[KC]
theorem xA:K0 v .non H Q=Q (.bl (!decide (v=.non))) H:=by simp[K0]
theorem xB:N8 (.int i) (.int j) H Q=Q (.int (i+j)) H:=by simp[N8]
theorem xC:FF K [v] H Q=∃ n:Nat,RM K v H n/\Q (.int n) H:=by simp[FF]
theorem bY:K1 K [.ref p] H Q=∃ ys,(SqL K H p ys\/SqT K H p ys)/\∀ l,H l=none->Q (.ref l) (upd H l (.lst ys)):=by simp[K1]
theorem xD:K2 K [.ref p] H Q=∃ ys,((SqL K H p ys/\∀ l,H l=none->Q (.ref l) (upd H l (.tup ys)))\/(SqT K H p ys/\Q (.ref p) H)):=by simp[K2]
end
theorem AB{X:Cx}(i:Nat){x:Str}{pos:Pos}(hN:X.N[i]? =some x:=by rfl)(hv:Q9 X.env.scope x:=by first | exact Or.inl rfl | exact Or.inr (Or.inl rfl) | exact Or.inr (Or.inr rfl))(hd:(x ==("__debug__":Str))=false:=by decide)
  (HR:(x ==("__classdict__":Str))=false:=by decide):PE X (.Name x pos) (FA i):=by
 rw[wH]
 exact qE hN hv hd HR
end L2
namespace L2
abbrev BB(Q:VK):Ends:={ nx:=λ_ H'=>Q .non H',rt:=Q }
abbrev ES(cap:List Nat)(σ:St):St:=cap.map λi=>(σ[i]?).join
section
variable{K:W.Frag}{te:TE}{cap:List Nat}{σ:St}{H:Hp}{Q:VK}
theorem MU{lo:Int}{n:Nat}(hn:n<=sizeLine)(Pv:Nat->List V->Hp->Prop)(h0:Pv 0 [] H)(hs:∀ i ys H,i<n->ys.length=i->Pv i ys H->te (some (.int (lo+i))::ES cap σ) H λy H2=>Pv (i+1) (ys++[y]) H2)
  (hd:∀ ys H,ys.length=n->Pv n ys H->∀ p,H p=none->Q (.ref p) (upd H p (.lst ys))) :
  HG (GP lo n) (AO 0) DL te 1 cap σ H Q:=by
 refine⟨λi m σ' ys H=>m=n - i/\i<=n/\ys.length=i/\(∃ x0,σ'=x0::ES cap σ)/\Pv i ys H,⟨n,by simp,Nat.zero_le _,rfl,⟨none,rfl⟩,h0⟩,?_⟩
 rintro i m σ' ys H ⟨rfl,hi,hl,⟨x0,rfl⟩,p⟩
 by_cases BI:i<n
 ·refine .inr ⟨BI,by omega,λx H' y=> ?_⟩
  obtain⟨e,y⟩:=y
  subst e y
  simp only[AO,DL,if_true]
  refine⟨_,λy H4 q=>⟨n - (i+1),by omega,rfl,BI,?_,⟨_,rfl⟩,q⟩,hs i ys _ BI hl p⟩
  rw[List.length_append,List.length_singleton,hl]
 ·have e:i=n:=by omega
  subst e
  exact .inl ⟨Nat.le_refl _,hd ys H hl p⟩
theorem xE{b:Addr}{xs:List V}(hn:xs.length<=sizeLine)(Pv:Nat->List V->Hp->Prop)(h0:Pv 0 [] H)(hq:∀ i ys H,i<=xs.length->Pv i ys H->SqL K H b xs)
  (hs:∀ i x ys H,xs[i]? =some x->ys.length=i->Pv i ys H->te (some x::ES cap σ) H λy H2=>Pv (i+1) (ys++[y]) H2)
  (hd:∀ ys H,ys.length=xs.length->Pv xs.length ys H->∀ p,H p=none->Q (.ref p) (upd H p (.lst ys))) :
  HG (HV K b) (AO 0) DL te 1 cap σ H Q:=by
 refine⟨λi m σ' ys H=>m=xs.length - i/\i<=xs.length/\ys.length=i/\(∃ x0,σ'=x0::ES cap σ)/\Pv i ys H,⟨xs.length,by simp,Nat.zero_le _,rfl,⟨none,rfl⟩,h0⟩,?_⟩
 rintro i m σ' ys H ⟨rfl,hi,hl,⟨x0,rfl⟩,p⟩
 have q:=hq i ys H hi p
 by_cases BI:i<xs.length
 ·refine .inr ⟨⟨xs,xs[i],q,by simp[BI]⟩,by omega,λx H' y=> ?_⟩
  obtain⟨e,y⟩:=y
  subst e
  have hx:=y xs q
  simp only[AO,DL,if_true]
  refine⟨_,λy H4 q=>⟨xs.length - (i+1),by omega,rfl,BI,?_,⟨_,rfl⟩,q⟩,hs i x ys _ hx hl p⟩
  rw[List.length_append,List.length_singleton,hl]
 ·have e:i=xs.length:=by omega
  subst e
  exact .inl ⟨⟨xs,q,Nat.le_refl _⟩,hd ys H hl p⟩
theorem K4{b:Addr}{xs:List V}{g:TG}{tb:TS}{D:Ends}(Pv:Nat->St->Hp->Prop)(h0:Pv 0 σ H)(hl:∀ i σ H,i<=xs.length->Pv i σ H->SqL K H b xs)
  (hs:∀ i x σ H,xs[i]? =some x->Pv i σ H->g x σ H λσ2 H2=>tb { D with nx:=Pv (i+1),ct:=Pv (i+1),bk:=D.nx } σ2 H2) (hd:∀ σ H,Pv xs.length σ H->D.nx σ H):HH (HV K b) g tb D σ H:=qP Pv h0 hl hs hd
theorem bZ{b:Addr}{xs:List V}{g:TG}{tb:TS}{D:Ends}(Pv:Nat->St->Hp->Prop)(h0:Pv 0 σ H)(hl:∀ i σ H,i<=xs.length->Pv i σ H->SqT K H b xs)
  (hs:∀ i x σ H,xs[i]? =some x->Pv i σ H->g x σ H λσ2 H2=>tb { D with nx:=Pv (i+1),ct:=Pv (i+1),bk:=D.nx } σ2 H2) (hd:∀ σ H,Pv xs.length σ H->D.nx σ H):HH (HW K b) g tb D σ H:=qQ Pv h0 hl hs hd
theorem K5{lo:Int}{n:Nat}{g:TG}{tb:TS}{D:Ends}(Pv:Nat->St->Hp->Prop)(h0:Pv 0 σ H)
  (hs:∀ i σ H,i<n->Pv i σ H->g (.int (lo+i)) σ H λσ2 H2=>tb { D with nx:=Pv (i+1),ct:=Pv (i+1),bk:=D.nx } σ2 H2) (hd:∀ σ H,Pv n σ H->D.nx σ H):HH (GP lo n) g tb D σ H:=qR Pv h0 hs hd
end
theorem SL{K:W.Frag}{H:Hp}{x y:V}{t c:Value}{b:Bool}{Q:VK}(ty:TyX K H x t)(cv:ClsV y c)(k:W.kitOne K t c=some b)(q:Q (.bl b) H):MT K [x,y] H Q:=⟨x,y,t,b,rfl,ty,.inl ⟨c,cv,k⟩,q⟩
theorem AQ{H:Hp}{p:Addr}{o:HO}(h:H p=none):Same H (upd H p o):=λb u e=>by rw[AH (BL e h)];exact e
theorem K6{α β :Type}{F: α -> β ->Prop}:∀ {l:List α} {m:List β} {i:Nat} {y: β},Paired F l m->m[i]? =some y->∃ x,l[i]? =some x/\F x y
 | _,_,_,_,.nil,e=>by simp at e
 | _,_,0,_,.cons r _,e=>by simp at e;subst e;exact⟨_,rfl,r⟩
 | _,_,i+1,y,.cons _ t,e=>by
  obtain⟨u,h1,h2⟩:=K6 (i:=i) (y:=y) t (by simpa using e)
  exact⟨u,by simpa using h1,h2⟩
theorem cA{α β :Type}{F: α -> β ->Prop}{x: α}{y: β}(r:F x y):∀ {l:List α} {m:List β} (i:Nat),Paired F l m->Paired F (l.set i x) (m.set i y)
 | _,_,_,.nil=>.nil
 | _,_,0,.cons _ t=>.cons r t
 | _,_,i+1,.cons q t=>.cons q (cA r i t)
theorem FG{K:W.Frag}{H:Hp}{p:Addr}{xs:List V}{i:Int}{n:Nat}{v:V}{Q:VK}(h:SqL K H p xs)(hi:i=n)(hx:xs[n]? =some v)(q:Q v H):CQ K (.ref p) (.int i) H Q :=
 .inl ⟨p,xs,i,v,rfl,rfl,h,hi ▸ N9 hx,q⟩
theorem CS(n:Nat)(h:n<=100000):n<=sizeLine:=Nat.le_trans h (by decide)
theorem cB{α :Type}(x: α):∀ w:Nat,(List.replicate w [x]).flatten=List.replicate w x
 | 0=>rfl
 | w+1=>by rw[List.replicate_succ,List.flatten_cons,cB x w];rfl
theorem IE{f:Str}{v:V}{fs:List (Str × V)}{n:Nat}(h:fs.length+1<n):(A7 f v fs).length<n:=Nat.lt_of_le_of_lt (MJ f v fs) h
end L2
namespace L2
def ItK(k:Bool)(h:Heap)(j a:Addr)(i:Nat):Prop:=if k then h.IsListIter j a i else h.IsTupleIter j a i
def cC(k:Bool)(h:Heap)(a:Addr)(xs:Array Value):Prop:=if k then h.IsList a xs else h.IsTuple a xs
theorem ItK.up{k:Bool}{h h':Heap}{j a:Addr}{i:Nat}(x:ItK k h j a i)(q:∀ o,h.get? j=some o->h'.get? j=some o):ItK k h' j a i:=by
 cases k<;>exact(let ⟨o,e,r⟩:=x;⟨o,q o e,r⟩)
theorem ItK.ob{k:Bool}{h:Heap}{j a:Addr}{i:Nat}(x:ItK k h j a i):∃ o,h.get? j=some o/\o.data=.fields #[.ref a,.int i 0]:=by
 cases k<;>exact(let ⟨o,e,_,r⟩:=x;⟨o,e,r⟩)
section
variable{P:Program}{w:World}{A:Around}{E:Value->Shared->Prop}{s:Shared}
theorem xF{j t:Addr}{i:Nat}{its:Array Value}{Q:Value->Shared->Prop}(z:A.handled=none)(c:s.heap.IsTupleIter j t i)(d:s.heap.IsTuple t its)(e:its[i]? =none)
  (q:∀ h' x,Heap.ExtBut j s.heap h'->(∃ o,h'.get? x=some o/\o.cls=.type "StopIteration")->E (.ref x) { s with heap:=h' }):wpAny (model P w) A (Builtin.SmallTypes.nextOf (.ref j)) Q E s:=by
 obtain⟨oj,e1,e2,e3⟩:=id c
 obtain⟨ot,f1,_,n,f2⟩:=d
 unfold Builtin.SmallTypes.nextOf
 refine wpAny_bind (wpAny_callSpecial?_slot (name:=Str.ofString "__next__") c.typeIs F.slot_tuple_iterator_next (wpAny_call_entry F.slot_tuple_iterator_next c.typeIs F.entry_tuple_iterator_next ?_ (F.args_tuple_iterator_next_1 _)))
 show wpAny (model P w) _ (field (.ref j) 0 >>= _) _ _ s
 refine wpAny_bind (wpAny_field e1 e3 (x:=.ref t) rfl ?_)
 show wpAny (model P w) _ (field (.ref j) 1 >>= _) _ _ s
 refine wpAny_bind (wpAny_field e1 e3 (x:=.int i 0) rfl ?_)
 show wpAny (model P w) _ (seqItems? (.ref t) >>= _) _ _ s
 refine wpAny_bind (wpAny_seqItems f1 f2 ?_)
 simp only[Int.toNat_natCast,e]
 refine wpAny_bind (wpAny_rule (wpAny_bind (wpAny_setField e1 e3 (by simp) ?_)))
 show wpAny (model P w) _ (newExc (.type "StopIteration") [] >>= _) _ _ _
 refine wpAny_bind ?_
 simp only[newExc,newTuple]
 refine wpAny_bind (wpAny_newObj_type (wpAny_bind (m:=firstArgMember _ _) (wpAny_of_eq (a:=Value.none) (by first | rfl | (simp only[firstArgMember];rfl)) (wpAny_newObj_type ?_ (by size_fits)))) (by size_fits))
 simp only[raiseNew]
 refine wpAny_bind (wpAny_handled ?_)
 rw[show A.in1.handled=none from z]
 exact wpAny_bind (wpAny_pure (wpAny_throw (q _ _ (((Heap.SameBut.update ..).extBut.push _).push _) ⟨_,Heap.get?_push_size _ rfl,rfl⟩)))
theorem xG{k:Bool}{j t:Addr}{i:Nat}{its:Array Value}{Q:Value->Shared->Prop}(z:A.handled=none)(c:ItK k s.heap j t i)(d:cC k s.heap t its)(e:its[i]? =none)
  (q:∀ h' x,Heap.ExtBut j s.heap h'->(∃ o,h'.get? x=some o/\o.cls=.type "StopIteration")->E (.ref x) { s with heap:=h' }):wpAny (model P w) A (Builtin.SmallTypes.nextOf (.ref j)) Q E s:=by
 cases k
 ·exact xF z c d e q
 ·exact wpAny_nextOf_list_end z c d e q
end
section
variable{P:Program}{w:World}{A:Around}{E:Value->Shared->Prop}{s:Shared}
end
theorem Inv.turnedS{X:Cx}{AA:List (Addr × Obj)}{σ:St}{H:Hp}{s:Shared}{h':Heap}{t':Nat}{fp:List Addr}(I:Inv X AA σ H s)(k:∀ b o,b∉fp->s.heap.get? b=some o->h'.get? b=some o)(hf:∀ b∈fp,FpOk X AA H b):Inv X AA σ H { s with heap:=h',toks:=t' }:=by
 have nit:∀ b u,H b=some u->b∉fp:=λb u e z=>by rw[(hf b z).1]at e;cases e
 refine I.step (g':=s.gens) (d':=s.drawn) (ch:=fp) (λb hb=> ?_) (λb o _ _ hc e _=>k b o hc e) (λb o _ _ hc e _=>⟨o.slots,k b o hc e⟩) (λ_ _ _ _ n=>n)
  (λb o hc e=>⟨o,k b o hc e⟩) (λ_ _ e=>e) (λ_ _ _ e=>e) (λb ps e=>⟨#[],by rw[e];simp⟩) (λm hm=> ?_) (λb u e=> ?_) I.bare
 ·obtain⟨_,f1,_,f3,f4,f5⟩:=hf b hb
  exact⟨f3,f1,f4,f5⟩
 ·obtain⟨o,es,ep,ho,r⟩:=hm
  exact⟨o,es,ep,k _ o (λz=>(hf _ z).2.1 rfl) ho,r⟩
 ·refine(I.hok b u e).stay (λc v hc q=>k c v ?_ q) (λ_ q=>q) λ_ _ q=>q
  rcases hc with z | z
  ·rw[z];exact nit b u e
  ·exact nit c _ z
def SN(K:W.Frag)(k:Bool)(H:Hp)(a:Addr)(xs:List V):Prop:=if k then SqL K H a xs else SqT K H a xs
theorem Inv.seqK{X:Cx}{AA:List (Addr × Obj)}{σ:St}{H:Hp}{s:Shared}{k:Bool}{a:Addr}{xs:List V}(I:Inv X AA σ H s)(q:SN X.K k H a xs):∃ its,Vals xs its/\cC k s.heap a its.toArray:=by
 cases k
 ·obtain⟨its,rv,p,_⟩:=I.tuple q
  exact⟨its,rv,p⟩
 ·obtain⟨its,rv,p,_⟩:=I.list q
  exact⟨its,rv,p.isList⟩
theorem Inv.seqK_inj{X:Cx}{AA:List (Addr × Obj)}{σ:St}{H:Hp}{s:Shared}{k:Bool}{a:Addr}{xs ys:List V}(I:Inv X AA σ H s)(p:SN X.K k H a xs)(q:SN X.K k H a ys):xs=ys:=by
 cases k
 ·exact I.tuple_inj p q
 ·exact I.list_inj p q
structure zde(z T U j j':Addr):Prop where
 a1:T≠z
 a2:U≠z
 a3:j≠z
 a4:j'≠z
 a5:T≠U
 a6:T≠j
 a7:T≠j'
 a8:U≠j
 a9:U≠j'
 a10:j≠j'
theorem FpOk.upd{X:Cx}{AA:List (Addr × Obj)}{H:Hp}{a b:Addr}{o:HO}(f:FpOk X AA H b)(n:b≠a):FpOk X AA (upd H a o) b:=⟨(AH n).trans f.1,f.2⟩
section
variable{X:Cx}{tg:Expr}
end
end L2
namespace L2
def MV(z:Str):It:=⟨λi _=>i<z.cps.size,λi H x H'=>H'=H/\∃ c,z.cps[i]? =some c/\x=.str ⟨#[c]⟩,λi _=>z.cps.size<=i⟩
theorem cD{P:Program}{w:World}{K:PySem.W.Frag}{tg:Expr}{it:Addr}{z:Str}{t:Tok}{nm:String}(hn:["enumerate","zip","dict_itemiterator","dict_reverseitemiterator","odict_iterator","itertools.zip_longest","itertools.pairwise"].contains nm=false)
  (W:∀ A:Around,A.handled=none->Walks P w A it [it] [it] z.cps.size (SignAt z) (λi h=>h.IsStrIter it nm z t i)) (sf:∀ (A:Around) (i:Nat) (s:Shared) (Q:Value->Shared->Prop) (E:Value->Shared->Prop),s.heap.IsStrIter it nm z t i->Q (.ref it) s->wpAny (model P w) A (pyIter (.ref it)) Q E s) :
  IS P w K tg (MV z) [it] it (λi h=>i<=z.cps.size/\h.IsStrIter it nm z t i) where
 mem:=by simp
 obj:=λi h ⟨_,o,e,c,d⟩ b hb=>by
  have e':b=it:=by simpa using hb
  subst e'
  exact⟨o,e,λv q=>by rw[d]at q;cases q⟩
 keep:=λi h h' ⟨l,o,e,r⟩ k=>⟨l,o,k it (by simp) o e,r⟩
 item:=by
  intro X hP hw hK hc i AA s σ H E I hf ⟨_,st⟩ hg
  subst hP hw hK
  obtain⟨f0,f1,f2,f3,f4,f5⟩:=hf it (by simp)
  refine(W _ (I.ok.hd hc)).item i s _ _ hg st λv h' tk hv st' kk=> ?_
  obtain⟨c,u,hx,rfl⟩:=hv
  have I1:Inv X AA σ H { s with heap:=h',toks:=tk }:=I.turned (λb o hb e=>kk b o (by simpa using hb) e) f0 f1 f3 f4 f5
  obtain⟨o,e,c1,d⟩:=id st'
  exact⟨_,rfl,MF (s:={ s with heap:=h',toks:=tk }) e c1 d hn ⟨.str ⟨#[c]⟩,H,I1,⟨u,rfl⟩,⟨rfl,c,hx,rfl⟩,⟨hg,st'⟩,λb hb=>(hf b hb).1⟩⟩
 done:=by
  intro X hP hw hK hc i AA s σ H E I hf ⟨l,st⟩ hg
  subst hP hw hK
  obtain⟨f0,f1,f2,f3,f4,f5⟩:=hf it (by simp)
  have e:i=z.cps.size:=Nat.le_antisymm l hg
  subst e
  exact(W _ (I.ok.hd hc)).done s _ _ st λh' tk kk=>⟨rfl,I.turned (λb o hb e=>kk b o (by simpa using hb) e) f0 f1 f3 f4 f5⟩
 self:=λA i s Q E st h=>sf A i s Q E st.2 h
theorem cE:∀ bs:List Bool,(List.range bs.length).all (λi=>bs.getD i false)=bs.all id
 | []=>rfl
 | b::t=>by
  have ih:=cE t
  rw[List.length_cons,List.range_succ_eq_map,List.all_cons,List.all_map,List.all_cons,<-ih]
  rfl
def ON(tl:TE):TI:=λσ H R=>tl σ H λx H1=>∃ z,x=.str z/\R (MV z) H1
section
variable{X:Cx}{tg:Expr}
theorem cF{l:Expr}{tl:TE}(hl:PE X l tl):PI X tg l (ON tl):=by
 intro AA s σ H R I h
 refine AV (hl AA s σ H _ I h) λv s1 hzz=> ?_
 obtain⟨x,H1,I1,r1,q1⟩:=hzz
 obtain⟨z,rfl,q⟩:=q1
 obtain⟨t,rfl⟩:=r1
 have fp1:∀ b∈[s1.heap.objs.size],FpOk X AA H1 b:=λb hb=>by
  have e:b=s1.heap.objs.size:=by simpa using hb
  subst e
  exact I1.fpOk (Nat.le_refl _) (I1.hok.fresh (Nat.le_refl _))
 cases ha:z.cps.all (· <128)
 ·refine wpAny_pyIter_wide ha ⟨s1.heap.objs.size,[s1.heap.objs.size],_,_,H1,rfl,I1.kept (t':=s1.toks) λb o e=>Heap.get?_push_of_some _ e,cD (nm:="str_iterator") (t:=t) (by decide) (λA hA=>Walks.strWide hA _ z t) (λA i s Q E st h=>wpAny_pyIter_striter_wide st h),⟨Nat.zero_le _,_,Heap.get?_push_size _ rfl,rfl,rfl⟩,fp1,q⟩
 ·refine wpAny_pyIter_ascii ha ⟨s1.heap.objs.size,[s1.heap.objs.size],_,_,H1,rfl,I1.kept (t':=s1.toks) λb o e=>Heap.get?_push_of_some _ e,cD (nm:="str_ascii_iterator") (t:=t) (by decide) (λA hA=>Walks.strAscii hA _ z t) (λA i s Q E st h=>wpAny_pyIter_striter_ascii st h),⟨Nat.zero_le _,_,Heap.get?_push_size _ rfl,rfl,rfl⟩,fp1,q⟩
def OO(K:W.Frag):List V->Hp->VK->Prop:=λxs H Q=>∃ x,xs=[.str x]/\x.length=1/\Q (.int (x.cps.getD 0 0:Nat)) H
theorem xH:E8 X (.builtin "ord") (OO X.K):=rJ
def MW(K:W.Frag):List V->Hp->VK->Prop:=λxs H Q=>∃ (p:Addr) (bs:List Bool),xs=[.ref p]/\SqL K H p (bs.map V.bl)/\Q (.bl (bs.all id)) H
theorem SO(hc:X.calm=true):E8 X (.builtin "all") (MW X.K):=by
 intro AA s σ H xs us Q I r h
 obtain⟨p,bs,rfl,hp,q⟩:=h
 obtain⟨u,rfl,ru⟩:=HX r
 cases ru
 obtain⟨its,rv,pl,hz⟩:=I.list hp
 have hl:=rv.length
 refine call_all_walk (wpAny_pyIter_list pl.isList ?_)
 have hne:p≠s.heap.objs.size:=by
  obtain⟨o,e,_⟩:=pl.isList
  exact Nat.ne_of_lt (Heap.lt_size e)
 refine⟨s.heap.objs.size,_,_,_,_,_,λi=>bs.getD i false,rfl,Walks.list (show X.A.in1.handled=none from I.ok.hd hc) s.heap.objs.size p hne its.toArray,⟨⟨_,Heap.get?_push_size _ rfl,rfl,rfl⟩,pl.isList.push _⟩,?_,?_⟩
 ·intro i v s' Q' E' hv hq
  have hv:its[i]? =some v:=by simpa using hv
  have hi:=(List.getElem?_eq_some_iff.mp hv).1
  rw[List.length_map]at hl
  obtain⟨b,hb⟩:∃ b,bs[i]? =some b:=⟨_,List.getElem?_eq_getElem (by omega)⟩
  obtain⟨u,hu,ru⟩:=rv.get (i:=i) (x:=V.bl b) (by rw[List.getElem?_map,hb];rfl)
  rw[hv]at hu
  cases hu
  cases (show v=Value.bool b from ru)
  have e:bs.getD i false=b:=by rw[List.getD_eq_getElem?_getD,hb];rfl
  have hq:Q' (bs.getD i false) s':=hq
  rw[e]at hq
  exact wpAny_pure hq
 ·intro h' tk kk
  have e:(List.range its.toArray.size).all (λi=>bs.getD i false)=bs.all id:=by
   rw[List.length_map]at hl
   rw[List.size_toArray,<-hl]
   exact cE bs
  rw[e]
  exact⟨.bl _,H,I.kept (t':=tk) λb o eb=>kk b o (by simpa using Nat.ne_of_lt (Heap.lt_size eb)) (Heap.get?_push_of_some _ eb),rfl,q⟩
end
theorem xI{K:W.Frag}{x:Str}{H:Hp}{Q:VK}:OO K [.str x] H Q=(x.length=1/\Q (.int (x.cps.getD 0 0:Nat)) H):=by simp[OO]
section
variable{P:Program}{w:World}{A:Around}{E:Value->Shared->Prop}{s:Shared}
end
section
variable{X:Cx}
end
theorem xJ{tl:TE}{g:TG}{tt:TT}{te:TE}{k:Nat}{cap:List Nat}{σ:St}{H:Hp}{Q:VK}:EZ (ON tl) g tt te k cap σ H Q=(tl σ H λx H1=>∃ z,x=.str z/\HG (MV z) g tt te k cap σ H1 Q):=rfl
theorem xK{te:TE}{cap:List Nat}{σ:St}{H:Hp}{Q:VK}{z:Str}(hn:z.cps.size<=sizeLine)(Pv:Nat->List V->Hp->Prop)(h0:Pv 0 [] H)(hs:∀ i c ys H,z.cps[i]? =some c->ys.length=i->Pv i ys H->te (some (.str ⟨#[c]⟩)::ES cap σ) H λy H2=>Pv (i+1) (ys++[y]) H2)
  (hd:∀ ys H,ys.length=z.cps.size->Pv z.cps.size ys H->∀ p,H p=none->Q (.ref p) (upd H p (.lst ys))):HG (MV z) (AO 0) DL te 1 cap σ H Q:=by
 refine⟨λi m σ' ys H=>m=z.cps.size - i/\i<=z.cps.size/\ys.length=i/\(∃ x0,σ'=x0::ES cap σ)/\Pv i ys H,⟨z.cps.size,by simp,Nat.zero_le _,rfl,⟨none,rfl⟩,h0⟩,?_⟩
 rintro i m σ' ys H ⟨rfl,hi,hl,⟨x0,rfl⟩,p⟩
 by_cases BI:i<z.cps.size
 ·refine .inr ⟨BI,by omega,λx H' y=> ?_⟩
  obtain⟨e,c,hc,y⟩:=y
  subst e y
  simp only[AO,DL,if_true]
  refine⟨_,λy H4 q=>⟨z.cps.size - (i+1),by omega,rfl,BI,?_,⟨_,rfl⟩,q⟩,hs i c ys _ hc hl p⟩
  rw[List.length_append,List.length_singleton,hl]
 ·have e:i=z.cps.size:=by omega
  subst e
  exact .inl ⟨Nat.le_refl _,hd ys H hl p⟩
end L2
namespace L2
open PySem
abbrev HI(l:List Nat):Prop:=l.Pairwise (· <·)
theorem MX{l:List Nat}(R:HI l){i k a b:Nat}(h:i<k)(ha:l[i]? =some a)(hb:l[k]? =some b):a<b:=by
 obtain⟨h1,rfl⟩:=List.getElem?_eq_some_iff.mp ha
 obtain⟨h2,rfl⟩:=List.getElem?_eq_some_iff.mp hb
 exact List.pairwise_iff_getElem.mp R i k h1 h2 h
structure Below(xs:Array Nat)(j r:Nat):Prop where
 le:r<=xs.size
 lo:∀ i v,i<r->xs.toList[i]? =some v->v<j
 hi:∀ i v,r<=i->xs.toList[i]? =some v->j<=v
theorem SQ{xs:Array Nat}{j:Nat}(R:HI xs.toList):∀ (fuel lo hi:Nat),lo<=hi->hi<=xs.size->hi - lo<=fuel->(∀ i v,i<lo->xs.toList[i]? =some v->v<j)->(∀ i v,hi<=i->xs.toList[i]? =some v->j<=v) →
  Below xs j (SetTable.below.go xs j fuel lo hi)
 | 0,lo,hi,h1,h2,h3,a,b=>by
  have e:lo=hi:=by omega
  subst e
  exact⟨h2,a,b⟩
 | fuel+1,lo,hi,h1,h2,h3,a,b=>by
  unfold SetTable.below.go
  by_cases BI:lo<hi
  ·rw[if_pos BI]
   have hm:(lo+hi) / 2<xs.size:=by omega
   have em:xs.toList[(lo+hi) / 2]? =some (xs[(lo+hi) / 2]):=by simp[hm]
   have ed:xs.getD ((lo+hi) / 2) j=xs[(lo+hi) / 2]:=by simp[hm]
   simp only[ed]
   split
   ·rename_i hv
    refine SQ R fuel _ _ (by omega) h2 (by omega) (λi v hi' e=> ?_) b
    by_cases q:i=(lo+hi) / 2
    ·subst q;rw[em]at e;cases e;exact hv
    ·exact Nat.lt_trans (MX R (show i<(lo+hi) / 2 by omega) e em) hv
   ·rename_i hv
    refine SQ R fuel _ _ (by omega) (by omega) (by omega) a λi v hi' e=> ?_
    by_cases q:i=(lo+hi) / 2
    ·subst q;rw[em]at e;cases e;omega
    ·have:=MX R (show(lo+hi) / 2<i by omega) em e
     omega
  ·rw[if_neg BI]
   have e:lo=hi:=by omega
   subst e
   exact⟨h2,a,b⟩
theorem SR{xs:Array Nat}{j:Nat}(R:HI xs.toList):Below xs j (SetTable.below xs j) :=
 SQ R _ _ _ (Nat.zero_le _) (Nat.le_refl _) (by omega) (λ_ _ h=>absurd h (Nat.not_lt_zero _)) λi v h e=>by
  rw[List.getElem?_eq_none (by simpa using h)]at e;cases e
theorem Below.uniq{xs:Array Nat}{j r r':Nat}(a:Below xs j r)(b:Below xs j r'):r=r':=by
 rcases Nat.lt_trichotomy r r' with h | h | h
 ·have hs:r<xs.size:=Nat.lt_of_lt_of_le h b.le
  have e:xs.toList[r]? =some (xs[r]):=by simp[hs]
  have:=b.lo _ _ h e
  have:=a.hi _ _ (Nat.le_refl _) e
  omega
 ·exact h
 ·have hs:r'<xs.size:=Nat.lt_of_lt_of_le h a.le
  have e:xs.toList[r']? =some (xs[r']):=by simp[hs]
  have:=a.lo _ _ h e
  have:=b.hi _ _ (Nat.le_refl _) e
  omega
def NotIn(t:SetTable)(j:Nat):Prop:=t.place[SetTable.below t.place j]? ≠some j
theorem xL{t:SetTable}{j:Nat}(h:t.slot j=.empty):NotIn t j:=λe=>by
 unfold SetTable.slot at h
 simp only[e,beq_self_eq_true,if_true]at h
 cases h
theorem xM{t:SetTable}{j:Nat}(h:t.slot j=.dummy):NotIn t j:=λe=>by
 unfold SetTable.slot at h
 simp only[e,beq_self_eq_true,if_true]at h
 cases h
theorem cG(t:SetTable)(p:SetTable.Probe):(t.advance p).dummy=p.dummy:=by
 unfold SetTable.advance
 split<;>rfl
theorem SS{t:SetTable}{f:Nat->Int}{h:Int}:∀ (fuel:Nat) (p:SetTable.Probe) (j:Nat) (d:Option Nat),SetTable.probe.go t f h fuel p=some (.empty j d)->(∀ x,p.dummy=some x->NotIn t x)->NotIn t (d.getD j)
 | 0,p,j,d,e,_=>by cases e
 | fuel+1,p,j,d,e,hd=>by
  unfold SetTable.probe.go at e
  split at e
  ·rename_i hs
   cases e
   cases q:p.dummy with
   | none=>exact xL hs
   | some x=>exact hd x q
  ·rename_i hs
   refine SS fuel _ j d e λx hx=> ?_
   rw[cG]at hx
   cases hx
   exact xM hs
  ·rename_i i hs
   split at e
   ·cases e
   ·exact SS fuel _ j d e λx hx=>by rw[cG]at hx;exact hd x hx
theorem xN{t:SetTable}{h:Int}{s:Nat}{b:Bool}(e:t.freeSlot h=some (s,b)):NotIn t s:=by
 unfold SetTable.freeSlot at e
 split at e
 ·rename_i j d hp
  cases e
  refine SS _ _ _ _ hp λx hx=> ?_
  cases hx
 ·cases e
theorem xO(n:Nat):HI (Array.range n).toList:=by
 rw[Array.toList_range]
 exact List.pairwise_lt_range
theorem xP {t:SetTable} {j:Nat} (R:HI t.place.toList) (h:NotIn t j):HI (t.put j).1.place.toList:=by
  have b:=SR (j:=j) R
  show HI (SetTable.insertAt t.place (SetTable.below t.place j) j).toList
  rw[SetTable.toList_insertAt]
  have hlo:∀ v∈t.place.toList.take (SetTable.below t.place j),v<j:=λv hv=>by
    obtain⟨i,hi,e⟩:=List.getElem_of_mem hv
    have hi':i<SetTable.below t.place j:=by rw[List.length_take]at hi;omega
    refine b.lo i v hi' ?_
    rw[<-e];simp only[List.getElem_take];exact List.getElem?_eq_getElem _
  have hhi:∀ v∈t.place.toList.drop (SetTable.below t.place j),j<v:=λv hv=>by
    obtain⟨i,hi,e⟩:=List.getElem_of_mem hv
    have e2:t.place.toList[SetTable.below t.place j+i]? =some v:=by
      rw[<-List.getElem?_drop,List.getElem?_eq_getElem hi,e]
    have:=b.hi _ _ (Nat.le_add_right _ _) e2
    by_cases q:j=v
    · subst q
      have z:i=0:=by
        by_cases z:i=0
        ·exact z
        · have hl:SetTable.below t.place j<t.place.toList.length:=by
            rw[List.length_drop]at hi;omega
          have e3:=List.getElem?_eq_getElem hl
          have:=MX R (show SetTable.below t.place j<SetTable.below t.place j+i by omega) e3 e2
          have:=b.hi _ _ (Nat.le_refl _) e3
          omega
      subst z
      rw[Nat.add_zero,Array.getElem?_toList]at e2
      exact absurd e2 h
    ·omega
  refine List.pairwise_append.mpr ⟨R.sublist (List.take_sublist ..),List.pairwise_cons.mpr ⟨hhi,R.sublist (List.drop_sublist ..)⟩,λx hx y hy=> ?_⟩
  rcases List.mem_cons.mp hy with rfl | hy
  ·exact hlo x hx
  ·exact Nat.lt_trans (hlo x hx) (hhi y hy)
structure Led(led:Bool)(t:SetTable):Prop where
 rise:HI t.place.toList
 led:t.led=led
theorem Led.standIn{led:Bool}{t:SetTable}(h:t.led=led)(n:Nat):Led led (t.standIn n):=⟨xO n,h⟩
theorem Led.or{led:Bool}{t:SetTable}(h:Led led t)(n:Nat):Led led (t.orStandIn n):=by
 unfold SetTable.orStandIn
 split
 ·exact h
 ·exact .standIn h.led n
theorem Led.layNew{led:Bool}{t:SetTable}(L:Led led t)(es:Array (Int × Value))(h:Int)(x:Value):Led led (layNew t es h x).2.1:=by
 unfold PySem.layNew
 split
 ·rename_i slot b e
  exact Led.or ⟨xP L.rise (xN e),L.led⟩ _
 ·exact .standIn L.led _
theorem xQ(owner:Array (Option Nat))(m:Nat):HI (((List.range m).filterMap λj=>(owner.getD j none).map (j,·)).map (·.1)):=by
 rw[List.map_filterMap]
 refine(List.pairwise_lt_range (n:=m)).filterMap _ λa b hab x hx y hy=> ?_
 simp only[Option.mem_def,Option.map_map,Option.map_eq_some_iff,Function.comp_apply]at hx hy
 obtain⟨_,_,rfl⟩:=hx
 obtain⟨_,_,rfl⟩:=hy
 exact hab
theorem Led.relayAll{led:Bool}{t:SetTable}(h:t.led=led)(L:Led led t)(es:Array (Int × Value))(wanted:Nat):Led led (relayAll t es wanted).2.1:=by
 unfold PySem.relayAll
 split
 ·rename_i t' order e
  dsimp only
  split
  ·unfold SetTable.relaid SetTable.laid at e
   simp only[Option.bind_eq_bind,Option.bind_eq_some_iff,Option.pure_def,Option.some.injEq,Prod.mk.injEq]at e
   obtain⟨owner,_,rfl,_⟩:=e
   exact⟨by simpa using xQ owner _,h⟩
  ·exact .standIn h _
 ·exact .standIn h _
theorem Led.plainOff{led:Bool}{t:SetTable}(L:Led led t):Led led { t with plain:=false }:=⟨L.rise,L.led⟩
theorem Led.fresh(led:Bool):Led led (.fresh 0 0 led):=⟨List.Pairwise.nil,rfl⟩
def K7(xs:Array Nat):Nat->Nat
 | 0=>0
 | i+1=>xs.getD i 0+1
theorem xR{xs:Array Nat}(R:HI xs.toList):∀ {i:Nat},i<=xs.size->SetTable.below xs (K7 xs i)=i
 | 0,_=>(SR R).uniq ⟨Nat.zero_le _,λ_ _ h=>absurd h (Nat.not_lt_zero _),λ_ _ _ _=>Nat.zero_le _⟩
 | i+1,hi=>(SR R).uniq ⟨hi,λk v hk e=>by
   have hi':i<xs.size:=by omega
   have ei:xs.toList[i]? =some xs[i]:=by simp[hi']
   have ed:xs.getD i 0=xs[i]:=by simp[hi']
   show v<xs.getD i 0+1
   rw[ed]
   by_cases q:k=i
   ·subst q;rw[ei]at e;cases e;omega
   ·have:=MX R (show k<i by omega) e ei
    omega,λk v hk e=>by
   have hi':i<xs.size:=by omega
   have ei:xs.toList[i]? =some xs[i]:=by simp[hi']
   have ed:xs.getD i 0=xs[i]:=by simp[hi']
   show xs.getD i 0+1<=v
   rw[ed]
   exact MX R (show i<k by omega) ei e⟩
theorem cH{α :Type}(next:Nat->Nat):∀ (fuel k:Nat) (left:List α) (out:Array α),left.length=fuel->List.Perm (pickOrder.go next fuel k left out).toList (out.toList++left)
 | 0,k,left,out,h=>by
  rw[List.length_eq_zero_iff.mp h]
  unfold pickOrder.go
  simp
 | fuel+1,k,left,out,h=>by
  unfold pickOrder.go
  have hl:next k % left.length<left.length:=Nat.mod_lt _ (by omega)
  rw[List.getElem?_eq_getElem hl]
  dsimp only
  refine(cH next fuel (k+1) _ _ (by rw[List.length_eraseIdx_of_lt hl];omega)).trans ?_
  rw[Array.toList_push,List.append_assoc]
  refine List.Perm.append_left _ ?_
  rw[List.eraseIdx_eq_take_drop_succ]
  show List.Perm (left[next k % left.length]::(left.take (next k % left.length)++left.drop (next k % left.length+1))) left
  refine List.perm_middle.symm.trans ?_
  rw[<-List.drop_eq_getElem_cons hl,List.take_append_drop]
theorem xS{α :Type}(next:Nat->Nat)(xs:Array α):List.Perm (pickOrder next xs).toList xs.toList:=by
 have:=cH next xs.size 0 xs.toList #[] (by simp)
 simpa [pickOrder]using this
end L2
namespace L2
open PySem PyProof.Rows
def leads(w:World):Bool:= !w.params.followText "set-order"
def iv:Value->Int
 | .int n _=>n
 | _=>0
def IntSet(P:Program)(w:World)(h:Heap)(a:Addr)(ms:List Int):Prop :=
 ∃ (o:Obj) (es:Array (Int × Value)) (ep:Nat) (t:SetTable),h.get? a=some o/\o.ExactSet/\o.data=.set es ep t/\ElemsOf (intKind P w) es.toList ∧
  List.Perm (es.toList.map λe=>iv e.2) ms/\es.size<scanBound/\t.fits es.size=true/\Led (leads w) t
section
variable{P:Program}{w:World}{A:Around}{E:Value->Shared->Prop}{s:Shared}
theorem ST{es:List (Int × Value)}(h:ElemsOf (intKind P w) es){e:Int × Value}(he:e∈es):∃ t,e.2=.int (iv e.2) t:=by
 obtain⟨⟨k,hk,_⟩,_⟩:=h e he
 obtain⟨t,z⟩:=Value.isInt_shape hk
 exact⟨t,by rw[z];rfl⟩
theorem cI{es:List (Int × Value)}(h:ElemsOf (intKind P w) es){e:Int × Value}(he:e∈es){k:Int}:(intKind P w).is k e.2=true↔iv e.2=k:=by
 obtain⟨t,z⟩:=ST h he
 rw[z]
 refine⟨λq=> ?_,λq=> ?_⟩
 ·have q':Value.isInt k (.int (iv e.2) t)=true:=q
  obtain⟨t',z'⟩:=Value.isInt_shape q'
  cases z';rfl
 ·rw[<-q];exact intKind_is ..
theorem cJ{es:List (Int × Value)}{ms:List Int}(h:ElemsOf (intKind P w) es)(p:List.Perm (es.map λe=>iv e.2) ms)(k:Int):k∈ms↔∃ e∈es,(intKind P w).is k e.2=true:=by
 rw[<-p.mem_iff,List.mem_map]
 exact⟨λ⟨e,he,q⟩=>⟨e,he,(cI h he).mpr q⟩,λ⟨e,he,q⟩=>⟨e,he,(cI h he).mp q⟩⟩
theorem cK{h:Heap}{a:Addr}{o:Obj}{es es':Array (Int × Value)}{ep:Nat}{t t':SetTable}{ms:List Int}(ho:h.get? a=some o)(hex:o.ExactSet)(hd:o.data=.set es ep t)
  (hel:ElemsOf (intKind P w) es'.toList) (hp:List.Perm (es'.toList.map λe=>iv e.2) ms) (hb:es'.size<scanBound) (hf:t'.fits es'.size=true) (L:Led (leads w) t') :
  (h.update a (Obj.putSet es' t')).get? a=some { o with data:=.set es' (ep+1) t' }/\IntSet P w (h.update a (Obj.putSet es' t')) a ms:=by
 have g:=(SetOf_store (knd:=intKind P w) (S':=λk=>es'.toList.any λe=>(intKind P w).is k e.2) ho hex hd hel (λk=>by rw[List.any_eq_true]) hb hf).1
 exact⟨g,_,es',ep+1,t',g,hex,rfl,hel,hp,hb,hf,L⟩
theorem cM{g:Bool->Sem Unit}(hg:∀ (b:Bool) (s1:Shared) (R:Unit->Shared->Prop),R () s1->wpAny (model P w) A (g b) R E s1){a:Addr}{o:Obj}{es e1:Array (Int × Value)}{ep:Nat}{t t1:SetTable}{ms:List Int}{wd:Bool}
  (ho:s.heap.get? a=some o) (hex:o.ExactSet) (hd:o.data=.set es ep t) (hel:ElemsOf (intKind P w) e1.toList) (hp:List.Perm (e1.toList.map λe=>iv e.2) ms) (hb:e1.size<scanBound) (hf:t1.fits e1.size=true) (L:Led (leads w) t1)
  {R:Option Bool->Shared->Prop} (h:∀ h',Heap.SameBut a s.heap h'->IntSet P w h' a ms->R (some true) { s with heap:=h' }) :
  wpAny (model P w) A (do
   storeSet a e1 t1
   if(!wd && t1.tooFull)=true then do
    g (relayAll t1 e1 (SetTable.grown e1.size)).2.2
    storeSet a (relayAll t1 e1 (SetTable.grown e1.size)).1 (relayAll t1 e1 (SetTable.grown e1.size)).2.1
    pure (some true)
   else pure (some true)) R E s:=by
 refine wpAny_bind (wpAny_storeSet_of ho hd ?_ (fits_of_scanBound hb))
 obtain⟨g1,S1⟩:=cK ho hex hd hel hp hb hf L
 have sb1:=Heap.SameBut.update s.heap a (Obj.putSet e1 t1)
 split
 ·have p2:=relayAll_perm t1 e1 (SetTable.grown e1.size)
  have f2:=relayAll_fits t1 e1 (SetTable.grown e1.size)
  have L2:=Led.relayAll L.led L e1 (SetTable.grown e1.size)
  revert p2 f2 L2
  generalize relayAll t1 e1 (SetTable.grown e1.size)=r
  obtain⟨e2,t2,gv⟩:=r
  intro p2 f2 L2
  dsimp only at p2 f2 L2 ⊢
  have z2:e2.size=e1.size:=by rw[<-Array.length_toList,p2.length_eq,Array.length_toList]
  have b2:e2.size<scanBound:=z2 ▸ hb
  refine wpAny_bind (hg _ _ _ ?_)
  refine wpAny_bind (wpAny_storeSet_of g1 rfl ?_ (fits_of_scanBound b2))
  obtain⟨_,S2⟩:=cK (P:=P) (w:=w) g1 hex rfl (hel.perm p2) ((p2.map _).trans hp) b2 f2 L2
  exact wpAny_pure (h _ (sb1.trans (Heap.SameBut.update ..)) S2)
 ·exact wpAny_pure (h _ sb1 S1)
theorem cN{ms:List Int}{k:Int}(h:k∈ms):step_dedup ms k=ms:=by
 unfold step_dedup
 have e:(ms.any λx=>x == k)=true:=List.any_eq_true.mpr ⟨k,h,beq_self_eq_true k⟩
 rw[if_pos e]
theorem cO{ms:List Int}{k:Int}(h:¬ k∈ms):step_dedup ms k=ms++[k]:=by
 unfold step_dedup
 rw[if_neg λz=> ?_]
 obtain⟨x,hx,q⟩:=List.any_eq_true.mp z
 rw[beq_iff_eq]at q
 exact h (q ▸ hx)
theorem xT{a:Addr}{ms:List Int}{k:Int}{tk:Tok}{Q:Bool->Shared->Prop}(hS:IntSet P w s.heap a ms)(hr:ms.length+1<scanBound)
    (h:∀ (b:Bool) h',Heap.SameBut a s.heap h'->IntSet P w h' a (step_dedup ms k)->Q b { s with heap:=h' }):wpAny (model P w) A (setAddHashed a (.int k tk) ((intKind P w).hash k)) Q E s:=by
  have hk:(intKind P w).is k (.int k tk)=true:=intKind_is ..
  have hsc:(Value.int k tk).scannable=true:=rfl
  generalize Value.int k tk=x at hk hsc
  obtain⟨o,es,ep,t,ho,hex,hd,hel,hp,hb,hf,L⟩:=hS
  have BT:es.size=ms.length:=by rw[<-hp.length_eq,List.length_map,Array.length_toList]
  have hivx:iv x=k:=by obtain⟨_,z⟩:=Value.isInt_shape hk;rw[z];rfl
  unfold setAddHashed setAddHashedIn
  refine wpAny_holding (wpAny_bind (wpAny_setState_of ho hd hf ?_))
  dsimp only
  rw[byScan_of hsc hb hel,if_pos rfl]
  unfold setAddByScan
  refine wpAny_bind (wpAny_bind (wpAny_rule (wpAny_bind (wpAny_setScan_of hk ho hd hf hel ?_))))
  cases hx:es.toList.findIdx? (λe=>(intKind P w).is k e.2)with
  | some j =>
    dsimp only
    obtain⟨hj,pj,_⟩:=List.findIdx?_eq_some_iff_getElem.mp hx
    have hm:k∈ms:=(cJ hel hp k).mpr ⟨_,List.getElem_mem hj,pj⟩
    refine wpAny_pure (wpAny_pure ?_)
    have:=h false s.heap (Heap.SameBut.refl a s.heap) ⟨o,es,ep,t,ho,hex,hd,hel,by rw[cN hm];exact hp,hb,hf,L⟩
    exact this
  | none =>
    dsimp only
    have hm:¬ k∈ms:=λz=>by
      obtain⟨e,he,q⟩:=(cJ hel hp k).mp z
      have:=List.findIdx?_eq_none_iff.mp hx e he
      rw[q]at this;cases this
    have p1:=layNew_perm t es ((intKind P w).hash k) x
    have f1:=layNew_fits t es ((intKind P w).hash k) x
    have L1:=L.layNew es ((intKind P w).hash k) x
    revert p1 f1 L1
    generalize layNew t es ((intKind P w).hash k) x=r
    obtain⟨e1,t1,wd,gv⟩:=r
    intro p1 f1 L1
    dsimp only at p1 f1 L1 ⊢
    rw[Array.toList_push]at p1
    have hel1:ElemsOf (intKind P w) e1.toList:=(hel.push hk hsc).perm p1
    have Q7:List.Perm (e1.toList.map λe=>iv e.2) (step_dedup ms k):=by
      rw[cO hm]
      refine(p1.map _).trans ?_
      rw[List.map_append,List.map_cons,List.map_nil,hivx]
      exact List.Perm.append_right _ hp
    have hb1:e1.size<scanBound:=by
      rw[<-Array.length_toList,p1.length_eq,List.length_append,Array.length_toList,BT]
      exact hr
    have gw:∀ (b:Bool) (s1:Shared) (R:Unit->Shared->Prop),R () s1 →
        wpAny (model P w) A (match b with
          | true=>rule "set.scan.the-table-gave-way"
          | false=>pure ()) R E s1:=λb s1 R q=>by
      cases b
      ·exact wpAny_pure q
      ·exact wpAny_rule q
    refine wpAny_bind (gw _ _ _ ?_)
    split
    · refine wpAny_bind ?_
      rw[hashByValue_scannable 8 hsc]
      refine wpAny_pure (cM ?_ ho hex hd hel1 Q7 hb1 ?_ ?_ λh' sb S'=> ?_)
      · intro b s1 R q
        cases b
        ·exact wpAny_pure q
        ·exact wpAny_rule q
      · split
        ·exact f1
        ·exact SetTable.fits_plain_off f1
      · split
        ·exact L1
        ·exact L1.plainOff
      ·dsimp only;exact wpAny_pure (h _ h' sb S')
    · refine wpAny_bind (wpAny_pure ?_)
      rw[if_pos rfl]
      refine cM ?_ ho hex hd hel1 Q7 hb1 f1 L1 λh' sb S'=> ?_
      · intro b s1 R q
        cases b
        ·exact wpAny_pure q
        ·exact wpAny_rule q
      ·dsimp only;exact wpAny_pure (h _ h' sb S')
theorem IntSet.at{h h':Heap}{a:Addr}{ms:List Int}(x:IntSet P w h a ms)(k:∀ o,h.get? a=some o->h'.get? a=some o):IntSet P w h' a ms:=by
 obtain⟨o,es,ep,t,ho,r⟩:=x
 exact⟨o,es,ep,t,k _ ho,r⟩
end
section
variable{P:Program}{w:World}{A:Around}{R:Result->Shared->Prop}{I:Addr}{fp wr:List Addr}{G:Array GenState->Array GenState->Prop}{n:Nat}{T:Nat->Value->Prop}{St:Nat->Shared->Prop}
theorem xU(W:WalksS P w A.in1 I fp wr G n T St)(a:Addr)(ha:a∉fp)(val:Nat->Int)(hv:∀ i v,T i v->∃ t,v=.int (val i) t)(hb:n+1<scanBound):∀ (k i:Nat) (s:Shared),n - i=k->i<=n->St i s →
  IntSet P w s.heap a (firstMet val i)->(∀ s',Moved (a::wr) G s s'->IntSet P w s'.heap a (firstMet val n)->R (.ok (.ret .none)) s') →
  codeAny (model P w) A (.builtin "set.update.loop" ⟨[.ref a,.ref I],[]⟩) R s:=by
 have haw:a∉wr:=λz=>ha (W.sub _ z)
 have up:∀ b∈wr,b∈a::wr:=λb q=>List.mem_cons_of_mem _ q
 intro k
 induction k with
 | zero =>
  intro i s e1 e2 st S q
  obtain rfl:i=n:=by omega
  refine codeAny_builtin PyProof.Rows.F.entry_set_update_loop ?_
  rw[Around.under_plainId PyProof.Rows.F.plain_set_update_loop _]
  show wpAny _ A.in1 (pyNext (.ref I) >>= _) _ _ s
  refine wpAny_bind (W.done s _ _ st λs' m=> ?_)
  show wpAny _ A.in1 (ret Value.none) _ _ s'
  exact wpAny_pure (q s' (m.mono up) (S.at λo e=>m.heap a o haw e))
 | succ k ih =>
  intro i s e1 e2 st S q
  have hi:i<n:=by omega
  refine codeAny_builtin PyProof.Rows.F.entry_set_update_loop ?_
  rw[Around.under_plainId PyProof.Rows.F.plain_set_update_loop _]
  show wpAny _ A.in1 (pyNext (.ref I) >>= _) _ _ s
  refine wpAny_bind (W.item i s _ _ hi st λv s1 tv st1 m=> ?_)
  obtain⟨t,rfl⟩:=hv i v tv
  have S1:=S.at λo e=>m.heap a o haw e
  show wpAny _ A.in1 (holding [Value.int (val i) t] (setAdd a (.int (val i) t)) >>= _) _ _ s1
  refine wpAny_bind (wpAny_holding ?_)
  unfold setAdd
  refine wpAny_holding (wpAny_bind ((intKind P w).pyHash (k:=val i) (intKind_is ..) ?_))
  refine xT (s:={ s1 with toks:=s1.toks+1 }) S1 (by have:=firstMet_length_le val i;omega) λb h' sb S2=> ?_
  rw[<-firstMet_succ]at S2
  refine wpAny_pure ⟨plainId_quiet PyProof.Rows.F.plain_set_update_loop _,ih (i+1) _ (by omega) hi (W.frame _ s1 _ _ st1 (Nat.le_succ _) λb hb o e=> ?_) S2 λs2 m2 S3=> ?_⟩
  ·rw[sb.2 b λz:b=a=>ha (z ▸ hb)];exact e
  ·refine q s2 (Moved.trans W.gtrans ((m.mono up).then_heap (Nat.le_succ _) λb o hb e=> ?_) m2) S3
   rw[sb.2 b λz:b=a=>hb (z ▸ List.mem_cons_self)];exact e
end
section
variable{P:Program}{w:World}{A:Around}{E:Value->Shared->Prop}{s:Shared}
theorem xV{x:Value}{Q:Value->Shared->Prop}(h:Q (.ref s.heap.objs.size) { s with heap:=s.heap.push { cls:=.type "set",dict:=none,data:=.set #[] 0 (.fresh 0 0 (leads w)) } }) :
  codeAny (model P w) A (.call (.builtin "set.__new__") ⟨[.type "set",x],[]⟩) (wants Q E) s:=by
 refine codeAny_of_tree ?_
 show wpAny _ A.in1 (checkBuiltinCall "set.__new__" ⟨[.type "set",x],[]⟩ >>= λ_=>again (.builtin "set.__new__" ⟨[.type "set",x],[]⟩)) _ _ s
 refine wpAny_bind (wpAny_of_eq (PySem.F.newCall_set_1 x) (wpAny_pure ⟨plainId_quiet PySem.F.plain_set_new _,codeAny_builtin PySem.F.entry_set_new ?_⟩))
 rw[Around.under_plainId PySem.F.plain_set_new _]
 unfold Builtin.«set.__new__» Builtin.Frozenset.newClass
 have e:=sub_set_self
 obtain⟨hp,g,d,tk,os⟩:=s
 dsimp only
 wp_walk
 refine wpAny_askSetting (wpAny_pure ?_)
 dsimp only
 simp only[newObj]
 exact wpAny_bind (wpAny_alloc (wpAny_pure (wpAny_pure h)))
end
end L2
namespace L2
open PySem PyProof.Rows
abbrev GW(f:Value)(i:Nat)(a:Addr)(n ep:Nat):Obj:={ cls:=.type "set_iterator",dict:=none,data:=.fields #[f,rawInt i,.ref a,rawInt n,rawInt ep],slots:= #[] }
theorem GY:Slot "set_iterator" "__next__" "set_iterator.__next__" :=
 .of (owner:="set_iterator") (n:="__next__") (by rw[typeLookup_type,builtinLookup_eq_fast];kernel_rfl) (by decide +kernel) (by decide +kernel) (by decide +kernel)
  (by first | exact .inl (by decide +kernel) | exact .inr (by decide +kernel))
  (by rw[isSubtype_type];kernel_rfl)
theorem OP:entryFor table "set_iterator.__next__"=some Builtin.«set_iterator.__next__» :=entryFor_of_fast (by kernel_rfl)
theorem OQ(a:Value):argsOk "set_iterator.__next__" ⟨[a],[]⟩:=by
 unfold argsOk
 kernel_rfl
theorem cP:Slot "set_iterator" "__iter__" "set_iterator.__iter__" :=
 .of (owner:="set_iterator") (n:="__iter__") (by rw[typeLookup_type,builtinLookup_eq_fast];kernel_rfl) (by decide +kernel) (by decide +kernel) (by decide +kernel)
  (by first | exact .inl (by decide +kernel) | exact .inr (by decide +kernel))
  (by rw[isSubtype_type];kernel_rfl)
section
variable{P:Program}{w:World}{A:Around}{E:Value->Shared->Prop}{s:Shared}
theorem xW{it a:Addr}{sl i n ep nx:Nat}{x:Value}{o:Obj}{es:Array (Int × Value)}{ep':Nat}{t:SetTable}{Q:Option Value->Shared->Prop}(hit:s.heap.get? it=some (GW (rawInt sl) i a n ep))
  (ho:s.heap.get? a=some o) (hd:o.data=.set es ep' t) (hf:t.fits es.size=true) (hn:es.size=n)
  (hs:∀ (A':Around) (E':Value->Shared->Prop) (Q':Option (Value × Nat)->Shared->Prop),Q' (some (x,nx)) s->wpAny (model P w) A' (setNext a sl i ep) Q' E' s)
  (q:∀ h',h'.get? it=some (GW (rawInt nx) (i+1) a n ep)->Heap.SameBut it s.heap h'->Q (some x) { s with heap:=h' }):wpAny (model P w) A (pyNext (.ref it)) Q E s:=by
 have T:s.TypeIs (.ref it) "set_iterator":=⟨_,hit,rfl⟩
 unfold pyNext
 refine wpAny_bind (wpAny_attempt (wpAny_callSpecial?_slot (name:=Str.ofString "__next__") T GY (wpAny_call_entry GY T OP ?_ (OQ _))))
 unfold Builtin.«set_iterator.__next__»
 refine wpAny_bind (wpAny_pure ?_)
 refine wpAny_bind (wpAny_fieldsOf hit rfl ?_)
 show wpAny _ _ (setEntries a >>= _) _ _ s
 refine wpAny_bind (wpAny_setEntries_of ho hd hf ?_)
 rw[if_neg (by rw[hn];simp)]
 show wpAny _ _ (setNext a (sl:Int).toNat (i:Int).toNat (ep:Int).toNat >>= _) _ _ s
 rw[Int.toNat_natCast,Int.toNat_natCast,Int.toNat_natCast]
 refine wpAny_bind (hs _ _ _ ?_)
 dsimp only
 refine wpAny_bind (wpAny_setField_rec hit (by simp) λh1 g1 b1=> ?_)
 refine wpAny_bind (wpAny_setField_rec g1 (by simp) λh2 g2 b2=> ?_)
 exact wpAny_pure ⟨_,rfl,wpAny_pure (q h2 g2 (b1.trans b2))⟩
theorem cQ{it:Addr}{h1:Heap}{Q:Except Value (Option Value)->Shared->Prop}(hh:A.handled=none)(hx:Heap.ExtBut it s.heap h1)
  (q:∀ h' e,Heap.ExtBut it s.heap h'->({ s with heap:=h' }:Shared).TypeIs e "StopIteration"->Q (.error e) { s with heap:=h' }) :
  wpAny (model P w) A (newExc (.type "StopIteration") [] >>= raiseNew (α :=Fin)) (λ_ _=>False) (λe=>Q (.error e)) { s with heap:=h1 }:=by
 refine wpAny_bind ?_
 simp only[newExc,newTuple]
 refine wpAny_bind (wpAny_newObj_type ?_ (by size_fits))
 refine wpAny_bind (m:=firstArgMember _ _) (wpAny_of_eq (a:=Value.none) (by first | rfl | (simp only[firstArgMember];rfl)) ?_)
 refine wpAny_newObj_type ?_ (by size_fits)
 simp only[raiseNew]
 refine wpAny_bind (wpAny_handled ?_)
 rw[hh]
 refine wpAny_bind (wpAny_pure (wpAny_throw ?_))
 exact q _ _ ((hx.push _).push _) ⟨_,Heap.get?_push_size _ rfl,rfl⟩
theorem xX{it a:Addr}{sl i n ep:Nat}{o:Obj}{es:Array (Int × Value)}{ep':Nat}{t:SetTable}{Q:Option Value->Shared->Prop}(hh:A.handled=none)(hit:s.heap.get? it=some (GW (rawInt sl) i a n ep))
  (ho:s.heap.get? a=some o) (hd:o.data=.set es ep' t) (hf:t.fits es.size=true) (hn:es.size=n)
  (hs:∀ (A':Around) (E':Value->Shared->Prop) (Q':Option (Value × Nat)->Shared->Prop),Q' none s->wpAny (model P w) A' (setNext a sl i ep) Q' E' s)
  (q:∀ h',Heap.ExtBut it s.heap h'->Q none { s with heap:=h' }):wpAny (model P w) A (pyNext (.ref it)) Q E s:=by
 have T:s.TypeIs (.ref it) "set_iterator":=⟨_,hit,rfl⟩
 unfold pyNext
 refine wpAny_bind (wpAny_attempt (wpAny_callSpecial?_slot (name:=Str.ofString "__next__") T GY (wpAny_call_entry GY T OP ?_ (OQ _))))
 unfold Builtin.«set_iterator.__next__»
 refine wpAny_bind (wpAny_pure ?_)
 refine wpAny_bind (wpAny_fieldsOf hit rfl ?_)
 show wpAny _ _ (setEntries a >>= _) _ _ s
 refine wpAny_bind (wpAny_setEntries_of ho hd hf ?_)
 rw[if_neg (by rw[hn];simp)]
 show wpAny _ _ (setNext a (sl:Int).toNat (i:Int).toNat (ep:Int).toNat >>= _) _ _ s
 rw[Int.toNat_natCast,Int.toNat_natCast,Int.toNat_natCast]
 refine wpAny_bind (hs _ _ _ ?_)
 dsimp only
 refine wpAny_bind (wpAny_setField_rec hit (by simp) λh1 g1 b1=> ?_)
 refine wpAny_mono (cQ (s:=s) (it:=it) (A:=A.in1) (Q:=λr s'=>match r with
  | .error e=>wpAny (model P w) A (isInstance e (.type "StopIteration") >>= λb=>if b=true then pure none else throw e) Q E s'
  | _=>False) (by simpa using hh) b1.extBut λh' e hx te=> ?_) (λ_ _ z=>z.elim) (λe s' z=>z)
 refine wpAny_bind (wpAny_isInstance (T:="StopIteration") (b:=true) te isSubtype_stop ?_)
 exact wpAny_pure (q _ hx)
theorem xY{it a tp:Addr}{i n ep pl:Nat}{ot:Obj}{ps:Array Value}{k:Nat}{x:Int × Value}{o:Obj}{es:Array (Int × Value)}{t:SetTable}{Q:Option Value->Shared->Prop}(hit:s.heap.get? it=some (GW (.ref tp) i a n ep))
  (ho:s.heap.get? a=some o) (hd:o.data=.set es ep t) (hf:t.fits es.size=true) (hn:es.size=n) (ht:s.heap.get? tp=some ot) (hdt:ot.data=.seq ps k) (hp:ps[i]? =some (rawInt pl)) (hx:es[pl]? =some x)
  (q:∀ h',h'.get? it=some (GW (.ref tp) (i+1) a n ep)->Heap.SameBut it s.heap h'->Q (some x.2) { s with heap:=h' }):wpAny (model P w) A (pyNext (.ref it)) Q E s:=by
 have T:s.TypeIs (.ref it) "set_iterator":=⟨_,hit,rfl⟩
 unfold pyNext
 refine wpAny_bind (wpAny_attempt (wpAny_callSpecial?_slot (name:=Str.ofString "__next__") T GY (wpAny_call_entry GY T OP ?_ (OQ _))))
 unfold Builtin.«set_iterator.__next__»
 refine wpAny_bind (wpAny_pure ?_)
 refine wpAny_bind (wpAny_fieldsOf hit rfl ?_)
 show wpAny _ _ (setEntries a >>= _) _ _ s
 refine wpAny_bind (wpAny_setEntries_of ho hd hf ?_)
 rw[if_neg (by rw[hn];simp)]
 show wpAny _ _ (seqItems? (.ref tp) >>= _) _ _ s
 refine wpAny_bind (wpAny_seqItems ht hdt ?_)
 dsimp only
 rw[Int.toNat_natCast,hp]
 show wpAny _ _ (setNextDrawn a (pl:Int).toNat (ep:Int).toNat >>= _) _ _ s
 rw[Int.toNat_natCast,Int.toNat_natCast]
 unfold setNextDrawn
 refine wpAny_bind (wpAny_bind (wpAny_setState_of ho hd hf ?_))
 dsimp only
 rw[if_neg (by simp)]
 obtain⟨x1,x2⟩:=x
 rw[hx]
 refine wpAny_pure ?_
 refine wpAny_bind (wpAny_setField_rec hit (by simp) λh2 g2 b2=> ?_)
 exact wpAny_pure ⟨_,rfl,wpAny_pure (q h2 g2 b2)⟩
theorem xZ{it a tp:Addr}{i n ep:Nat}{ot:Obj}{ps:Array Value}{k:Nat}{o:Obj}{es:Array (Int × Value)}{t:SetTable}{Q:Option Value->Shared->Prop}(hh:A.handled=none)(hit:s.heap.get? it=some (GW (.ref tp) i a n ep))
  (ho:s.heap.get? a=some o) (hd:o.data=.set es ep t) (hf:t.fits es.size=true) (hn:es.size=n) (ht:s.heap.get? tp=some ot) (hdt:ot.data=.seq ps k) (hp:ps[i]? =none)
  (q:∀ h',Heap.ExtBut it s.heap h'->Q none { s with heap:=h' }):wpAny (model P w) A (pyNext (.ref it)) Q E s:=by
 have T:s.TypeIs (.ref it) "set_iterator":=⟨_,hit,rfl⟩
 unfold pyNext
 refine wpAny_bind (wpAny_attempt (wpAny_callSpecial?_slot (name:=Str.ofString "__next__") T GY (wpAny_call_entry GY T OP ?_ (OQ _))))
 unfold Builtin.«set_iterator.__next__»
 refine wpAny_bind (wpAny_pure ?_)
 refine wpAny_bind (wpAny_fieldsOf hit rfl ?_)
 show wpAny _ _ (setEntries a >>= _) _ _ s
 refine wpAny_bind (wpAny_setEntries_of ho hd hf ?_)
 rw[if_neg (by rw[hn];simp)]
 show wpAny _ _ (seqItems? (.ref tp) >>= _) _ _ s
 refine wpAny_bind (wpAny_seqItems ht hdt ?_)
 dsimp only
 rw[Int.toNat_natCast,hp]
 dsimp only
 refine wpAny_bind (wpAny_setField_rec hit (by simp) λh1 g1 b1=> ?_)
 refine wpAny_bind (wpAny_setField_rec g1 (by simp) λh2 g2 b2=> ?_)
 refine wpAny_mono (cQ (s:=s) (it:=it) (A:=A.in1) (Q:=λr s'=>match r with
  | .error e=>wpAny (model P w) A (isInstance e (.type "StopIteration") >>= λb=>if b=true then pure none else throw e) Q E s'
  | _=>False) (by simpa using hh) (b1.trans b2).extBut λh' e hx te=> ?_) (λ_ _ z=>z.elim) (λe s' z=>z)
 refine wpAny_bind (wpAny_isInstance (T:="StopIteration") (b:=true) te isSubtype_stop ?_)
 exact wpAny_pure (q _ hx)
theorem x4{a:Addr}{o:Obj}{es:Array (Int × Value)}{ep:Nat}{t:SetTable}{i:Nat}{Q:Option (Value × Nat)->Shared->Prop}(ft:w.params.followText "set-order"=true)(ho:s.heap.get? a=some o)(hd:o.data=.set es ep t)(hf:t.fits es.size=true)
  (q:Q (((pickOrder (w.params.setOrder a ep) es)[i]?).map λe=>(e.2,0)) s):wpAny (model P w) A (setNext a 0 i ep) Q E s:=by
 unfold setNext
 refine wpAny_bind (wpAny_setState_of ho hd hf ?_)
 dsimp only
 refine wpAny_bind ?_
 unfold setsByText
 refine wpAny_bind (wpAny_askSetting (wpAny_pure ?_))
 show wpAny _ _ (if w.params.followText "set-order"=true then _ else _) _ _ s
 rw[if_pos ft,if_neg (by simp)]
 refine wpAny_bind ?_
 unfold setWalk
 refine wpAny_bind (wpAny_setState_of ho hd hf ?_)
 dsimp only
 refine wpAny_bind ?_
 unfold setsByText
 refine wpAny_bind (wpAny_askSetting (wpAny_pure ?_))
 show wpAny _ _ (if w.params.followText "set-order"=true then _ else _) _ _ s
 rw[if_pos ft]
 refine wpAny_bind (wpAny_askSetting (wpAny_pure ?_))
 exact wpAny_pure q
theorem x5{a:Addr}{o:Obj}{es:Array (Int × Value)}{ep:Nat}{t:SetTable}{i:Nat}{Q:Option (Value × Nat)->Shared->Prop}(ft:w.params.followText "set-order"=false)(ho:s.heap.get? a=some o)(hd:o.data=.set es ep t)(hf:t.fits es.size=true)
  (L:Led (leads w) t) (pl:(!t.plain && decide (es.size > 1))=false) (hi:i<=es.size) (q:Q ((es[i]?).map λe=>(e.2,K7 t.place (i+1))) s):wpAny (model P w) A (setNext a (K7 t.place i) i ep) Q E s:=by
 have hz:t.place.size=es.size:=by
  unfold SetTable.fits at hf
  simp only[Bool.and_eq_true,beq_iff_eq]at hf
  exact hf.1
 unfold setNext
 refine wpAny_bind (wpAny_setState_of ho hd hf ?_)
 dsimp only
 refine wpAny_bind ?_
 unfold setsByText
 refine wpAny_bind (wpAny_askSetting (wpAny_pure ?_))
 show wpAny _ _ (if w.params.followText "set-order"=true then _ else _) _ _ s
 rw[if_neg (show ¬ w.params.followText "set-order"=true by rw[ft];exact Bool.false_ne_true)]
 have ld:t.led=true:=by rw[L.led];unfold leads;rw[ft];rfl
 show wpAny _ _ (if(!t.plain && decide (es.size > 1))=true then _ else _) _ _ s
 rw[if_neg (by rw[pl];exact Bool.false_ne_true)]
 refine wpAny_bind (m:=if(!t.led && !es.isEmpty)=true then _ else _) ?_
 rw[if_neg (by rw[ld];simp)]
 refine wpAny_pure (wpAny_pure ?_)
 rw[xR L.rise (by omega)]
 by_cases BI:i<es.size
 ·have h2:i<t.place.size:=by omega
  rw[Array.getElem?_eq_getElem BI,Array.getElem?_eq_getElem h2]
  rw[Array.getElem?_eq_getElem BI]at q
  have:K7 t.place (i+1)=t.place[i]+1:=by simp[K7,h2]
  rw[Option.map_some,this]at q
  exact q
 ·rw[Array.getElem?_eq_none (by omega)]
  rw[Array.getElem?_eq_none (by omega),Option.map_none]at q
  exact q
end
end L2
namespace L2
open PySem PyProof.Rows
theorem x6:entryFor table "set.__iter__"=some Builtin.«frozenset.__iter__» :=entryFor_alias (id':="frozenset.__iter__") (by kernel_rfl) rfl (by decide +kernel) (by kernel_rfl)
theorem x8:entryFor table "set_iterator.__iter__"=some Builtin.«dict_keyiterator.__iter__» :=entryFor_alias (id':="dict_keyiterator.__iter__") (by kernel_rfl) rfl (by decide +kernel) (by kernel_rfl)
theorem x9(a:Value):argsOk "set_iterator.__iter__" ⟨[a],[]⟩:=by
 unfold argsOk
 kernel_rfl
structure SU(P:Program)(w:World)(A:Around)(h h1:Heap)(a I:Addr)(ms:List Int):Prop where
 ex:∃ (fp:List Addr) (ord:List Value) (ks:List Int) (St:Nat->Heap->Prop),(∀ b∈fp,b=a\/h.objs.size<=b)/\Walks P w A I fp [I] ord.length (λi v=>ord[i]? =some v) St/\St 0 h1/\IntsAre ord ks/\ks.Perm ms
 new:h.objs.size<=I
section
variable{P:Program}{w:World}{A:Around}{E:Value->Shared->Prop}{s:Shared}
theorem SV:∀ {es:List (Int × Value)},ElemsOf (intKind P w) es->IntsAre (es.map (·.2)) (es.map λe=>iv e.2)
 | [],_=>.nil
 | e::r,h=>by
  obtain⟨t,z⟩:=ST h (List.mem_cons_self ..)
  have:=SV h.tail
  rw[List.map_cons,List.map_cons,z]
  exact .cons _ _ this
theorem cR{it:Addr}{f:Value}{i:Nat}{a:Addr}{n ep:Nat}{Q:Value->Shared->Prop}(hit:s.heap.get? it=some (GW f i a n ep))(q:Q (.ref it) s):wpAny (model P w) A (pyIter (.ref it)) Q E s:=by
 have T:s.TypeIs (.ref it) "set_iterator":=⟨_,hit,rfl⟩
 refine wpAny_pyIter_slot T cP (wpAny_call_entry cP T x8 ?_ (x9 _))
 show wpAny _ _ (ret (.ref it)) _ _ s
 exact wpAny_pure ⟨_,rfl,"set_iterator",_,T,GY.lookup,q⟩
theorem yA{a I:Addr}{es:Array (Int × Value)}{ep:Nat}{t:SetTable}{o:Obj}{f:Nat->Nat}{ord:List Value}(hh:A.handled=none)(hne:a≠I)(hd:o.data=.set es ep t)(hf:t.fits es.size=true)(hl:ord.length=es.size)
  (nx:∀ (s:Shared),s.heap.get? a=some o->∀ (i:Nat),i<=es.size->∀ (A':Around) (E':Value->Shared->Prop) (Q':Option (Value × Nat)->Shared->Prop),Q' ((ord[i]?).map λv=>(v,f (i+1))) s->wpAny (model P w) A' (setNext a (f i) i ep) Q' E' s) :
  Walks P w A I [I,a] [I] ord.length (λi v=>ord[i]? =some v) (λi h=>h.get? I=some (GW (rawInt (f i)) i a es.size ep)/\h.get? a=some o) where
 sub:=λb hb=>by simp at hb;simp[hb]
 frame:=λ_ _ _ st k=>⟨k I (by simp) _ st.1,k a (by simp) _ st.2⟩
 item:=λi s Q E hi st q=>by
  have e:ord[i]? =some ord[i]:=List.getElem?_eq_getElem hi
  refine xW st.1 st.2 hd hf rfl (λA' E' Q' q'=>nx s st.2 i (by omega) A' E' Q' (by rw[e];exact q')) λh' g b=> ?_
  exact q _ h' s.toks e ⟨g,b.extBut a _ hne st.2⟩ λc u hc z=>b.extBut c u (λy=>hc (by simp[y])) z
 done:=λs Q E st q=>by
  refine xX hh st.1 st.2 hd hf rfl (λA' E' Q' q'=>nx s st.2 ord.length (by omega) A' E' Q' (by rw[List.getElem?_eq_none (Nat.le_refl _)];exact q')) λh' x=> ?_
  exact q h' s.toks λc u hc z=>x c u (λy=>hc (by simp[y])) z
 self:=λ_ _ _ _ st q=>cR st.1 q
theorem yB{a I tp:Addr}{es:Array (Int × Value)}{ep k:Nat}{t:SetTable}{o ot:Obj}{pl:List Nat}{ord:List Value}(hh:A.handled=none)(hne:a≠I)(hnt:tp≠I)(hd:o.data=.set es ep t)(hf:t.fits es.size=true)
  (hdt:ot.data=.seq (pl.map λ(i:Nat)=>rawInt i).toArray k) (hl:ord.length=pl.length) (hx:∀ (i p:Nat),pl[i]? =some p->∃ e:Int × Value,es[p]? =some e/\ord[i]? =some e.2) :
  Walks P w A I [I,a,tp] [I] ord.length (λi v=>ord[i]? =some v) (λi h=>h.get? I=some (GW (.ref tp) i a es.size ep)/\h.get? a=some o/\h.get? tp=some ot) where
 sub:=λb hb=>by simp at hb;simp[hb]
 frame:=λ_ _ _ st k=>⟨k I (by simp) _ st.1,k a (by simp) _ st.2.1,k tp (by simp) _ st.2.2⟩
 item:=λi s Q E hi st q=>by
  have hi':i<pl.length:=by omega
  have e:=List.getElem?_eq_getElem hi'
  obtain⟨x,e1,e2⟩:=hx i _ e
  refine xY st.1 st.2.1 hd hf rfl st.2.2 hdt (by rw[List.getElem?_toArray,List.getElem?_map,e];rfl) e1 λh' g b=> ?_
  exact q _ h' s.toks e2 ⟨g,b.extBut a _ hne st.2.1,b.extBut tp _ hnt st.2.2⟩ λc u hc z=>b.extBut c u (λy=>hc (by simp[y])) z
 done:=λs Q E st q=>by
  refine xZ hh st.1 st.2.1 hd hf rfl st.2.2 hdt (by rw[List.getElem?_toArray,List.getElem?_map,List.getElem?_eq_none (by omega)];rfl) λh' x=> ?_
  exact q h' s.toks λc u hc z=>x c u (λy=>hc (by simp[y])) z
 self:=λ_ _ _ _ st q=>cR st.1 q
theorem yC{n:Nat}{Q:Nat->Shared->Prop}(hn:n≠0)(q:∀ i d,i<n->Q i { s with drawn:=d }):wpAny (model P w) A (choose .order n) Q E s:=fun Γ p hΓ =>by
 show Sem.wp _ _ (.choose .order n .pure) _ _ _ _
 rw[Sem.wp_choose]
 refine⟨hn,?_⟩
 show Sem.wp _ _ (.pure _) _ _ _ _
 rw[Sem.wp]
 exact q _ _ (Nat.mod_lt _ (Nat.pos_of_ne_zero hn))
theorem cS{α :Type}:∀ (n:Nat) (xs:List α) (s:Shared) (Q:List α ->Shared->Prop),xs.length=n->(∀ ys d,List.Perm ys xs->Q ys { s with drawn:=d })->wpAny (model P w) A (drawOrder n xs) Q E s
 | 0,xs,s,Q,hn,q=>by
  have:xs=[]:=List.length_eq_zero_iff.mp hn
  subst this
  unfold drawOrder
  exact wpAny_pure (q [] s.drawn .nil)
 | n+1,[],s,Q,hn,q=>by cases hn
 | n+1,x::r,s,Q,hn,q=>by
  unfold drawOrder
  refine wpAny_bind (yC (by simp) λi d hi=> ?_)
  rw[List.getElem?_eq_getElem hi]
  dsimp only
  refine wpAny_bind (cS n _ _ _ (by rw[List.length_eraseIdx_of_lt hi,hn];rfl) λys d' p=> ?_)
  refine wpAny_pure (q _ d' ?_)
  refine(List.Perm.cons _ p).trans ?_
  rw[List.eraseIdx_eq_take_drop_succ]
  refine List.perm_middle.symm.trans ?_
  rw[<-List.drop_eq_getElem_cons hi,List.take_append_drop]
theorem yD {a:Addr} {ms:List Int} {Q:Value->Shared->Prop} (hh:A.handled=none) (S:IntSet P w s.heap a ms)
    (q:∀ I h1 d1,(∀ b o,s.heap.get? b=some o->h1.get? b=some o)->SU P w A s.heap h1 a I ms->Q (.ref I) { s with heap:=h1,drawn:=d1 }):wpAny (model P w) A (pyIter (.ref a)) Q E s:=by
  obtain⟨o,es,ep,t,ho,hex,hd,hel,hp,hb,hf,L⟩:=S
  have T:s.TypeIs (.ref a) "set":=⟨o,ho,hex.1⟩
  have BI:a<s.heap.objs.size:=Heap.lt_size ho
  refine wpAny_pyIter_slot T PySem.F.slot_set_iter (wpAny_call_entry PySem.F.slot_set_iter T x6 ?_ (PySem.F.args_set_iter_1 _))
  unfold Builtin.«frozenset.__iter__»
  show wpAny _ _ ((pure a:Sem Addr) >>= _) _ _ s
  refine wpAny_bind (wpAny_pure ?_)
  refine wpAny_bind ?_
  unfold Builtin.Frozenset.sizeOf
  refine wpAny_bind (wpAny_setEntries_of ho hd hf (wpAny_pure ?_))
  refine wpAny_bind ?_
  unfold setDrawn
  refine wpAny_bind (wpAny_setState_of ho hd hf ?_)
  dsimp only
  refine wpAny_bind ?_
  unfold setsByText
  refine wpAny_bind (wpAny_askSetting (wpAny_pure (wpAny_pure ?_)))
  show wpAny _ _ (if(!w.params.followText "set-order" && (!t.plain && decide (es.size > 1)))=true then _ else _) _ _ s
  have plain:∀ (f:Nat->Nat) (ord:List Value),f 0=0->ord.length=es.size->(∃ ks,IntsAre ord ks/\ks.Perm ms) →
      (∀ (s:Shared),s.heap.get? a=some o->∀ (i:Nat),i<=es.size->∀ (A':Around) (E':Value->Shared->Prop) (Q':Option (Value × Nat)->Shared->Prop),Q' ((ord[i]?).map λv=>(v,f (i+1))) s->wpAny (model P w) A' (setNext a (f i) i ep) Q' E' s) →
      SU P w A s.heap (s.heap.push (GW (rawInt 0) 0 a es.size ep)) a s.heap.objs.size ms:=λf ord f0 hl ⟨ks,hi,pk⟩ nx =>
    ⟨⟨_,ord,ks,_,λb hb=>by
        simp only[List.mem_cons,List.not_mem_nil,or_false]at hb
        rcases hb with rfl | rfl
        ·exact .inr (Nat.le_refl _)
        ·exact .inl rfl,yA hh (Nat.ne_of_lt BI) hd hf hl nx,⟨by rw[f0];exact Heap.get?_push_size _ rfl,Heap.get?_push_of_some _ ho⟩,hi,pk⟩,Nat.le_refl _⟩
  have fin:∀ (W:SU P w A s.heap (s.heap.push (GW (rawInt 0) 0 a es.size ep)) a s.heap.objs.size ms),
      wpAny (model P w) A.in1 (do
        let first ← (pure (rawInt 0):Sem Value)
        ret (← newFields "set_iterator" [first,rawInt 0,.ref a,rawInt es.size,rawInt (← setEpoch a)])) (λfin s'=>∃ v,fin=.done (.ret v)/\∃ T' r,s'.TypeIs v T'/\typeLookup (.type T') "__next__"=pure (some r)/\Q v s') E s:=λW=>by
    refine wpAny_bind (wpAny_pure ?_)
    refine wpAny_bind (wpAny_setEpoch_of ho hd hf ?_)
    refine wpAny_bind (wpAny_newObj_type (wpAny_pure ⟨_,rfl,"set_iterator",_,⟨_,Heap.get?_push_size _ rfl,rfl⟩,GY.lookup,?_⟩))
    exact q _ _ s.drawn (λb u e=>Heap.get?_push_of_some _ e) W
  cases ft:w.params.followText "set-order" with
  | true =>
    rw[if_neg (by simp)]
    have pk:=xS (w.params.setOrder a ep) es
    have hl:(pickOrder (w.params.setOrder a ep) es).size=es.size:=by rw[<-Array.length_toList,pk.length_eq,Array.length_toList]
    refine fin (plain (λ_=>0) ((pickOrder (w.params.setOrder a ep) es).toList.map (·.2)) rfl (by rw[List.length_map,Array.length_toList,hl]) ⟨_,SV (hel.perm pk),(pk.map _).trans hp⟩ λs1 h1 i hi A' E' Q' q'=> ?_)
    refine x4 ft h1 hd hf ?_
    rw[List.getElem?_map,Array.getElem?_toList,Option.map_map]at q'
    exact q'
  | false =>
    cases pl:(!t.plain && decide (es.size > 1))with
    | false =>
      rw[if_neg (by simp)]
      refine fin (plain (K7 t.place) (es.toList.map (·.2)) rfl (by rw[List.length_map,Array.length_toList]) ⟨_,SV hel,hp⟩ λs1 h1 i hi A' E' Q' q'=> ?_)
      refine x5 ft h1 hd hf L pl hi ?_
      rw[List.getElem?_map,Array.getElem?_toList,Option.map_map]at q'
      exact q'
    | true =>
      rw[if_pos (by simp)]
      refine wpAny_bind (cS es.size (List.range es.size) s _ (List.length_range) λys d p=> ?_)
      have hy:ys.length=es.size:=by rw[p.length_eq,List.length_range]
      have hys:∀ x∈ys,x<es.size:=λx hx=>List.mem_range.mp (p.mem_iff.mp hx)
      refine wpAny_bind (wpAny_newTuple ?_ (by rw[List.length_map,hy];exact fits_of_scanBound hb))
      refine wpAny_bind (wpAny_setEpoch_of (o:=o) (Heap.get?_push_of_some _ ho) hd hf ?_)
      refine wpAny_bind (wpAny_newObj_type (wpAny_pure ⟨_,rfl,"set_iterator",_,⟨_,Heap.get?_push_size _ rfl,rfl⟩,GY.lookup,?_⟩))
      refine q _ _ d (λb u e=>Heap.get?_push_of_some _ (Heap.get?_push_of_some _ e)) ⟨⟨_,ys.map λp=>(es[p]?.map (·.2)).getD .none,ys.map λp=>(es[p]?.map λe=>iv e.2).getD 0,_,λb hb=> ?_,
        yB hh ?_ ?_ hd hf rfl (by rw[List.length_map]) λi p e=> ?_,⟨Heap.get?_push_size _ rfl,Heap.get?_push_of_some _ (Heap.get?_push_of_some _ ho),Heap.get?_push_of_some _ (Heap.get?_push_size _ rfl)⟩,?_,?_⟩,?_⟩
      · simp only[List.mem_cons,List.not_mem_nil,or_false]at hb
        rcases hb with rfl | rfl | rfl
        ·right;rw[size_push'];exact Nat.le_succ _
        ·exact .inl rfl
        ·exact .inr (Nat.le_refl _)
      ·rw[size_push'];exact Nat.ne_of_lt (Nat.lt_succ_of_lt BI)
      ·rw[size_push'];exact Nat.ne_of_lt (Nat.lt_succ_self _)
      · have hp':p<es.size:=hys p (List.mem_of_getElem? e)
        exact⟨es[p],Array.getElem?_eq_getElem hp',by rw[List.getElem?_map,e];simp[hp']⟩
      · have all:∀ (l:List Nat),(∀ x∈l,x<es.size)->IntsAre (l.map λp=>(es[p]?.map (·.2)).getD .none) (l.map λp=>(es[p]?.map λe=>iv e.2).getD 0):=by
          intro l
          induction l with
          | nil=>exact λ_=>.nil
          | cons x r ih =>
            intro hl
            have hx:=hl x (List.mem_cons_self ..)
            obtain⟨tk,z⟩:=ST hel (e:=es[x]) (by simp)
            have e1:(es[x]?.map (·.2)).getD Value.none=Value.int (iv es[x].2) tk:=by rw[Array.getElem?_eq_getElem hx];exact z
            have e2:(es[x]?.map λe=>iv e.2).getD 0=iv es[x].2:=by rw[Array.getElem?_eq_getElem hx];rfl
            rw[List.map_cons,List.map_cons,e1,e2]
            exact .cons _ _ (ih λy hy=>hl y (List.mem_cons_of_mem _ hy))
        exact all ys hys
      · refine(p.map _).trans (List.Perm.trans (List.Perm.of_eq ?_) hp)
        refine List.ext_getElem (by simp) λi h1 h2=> ?_
        have hi:i<es.size:=by simpa using h1
        simp[hi]
      ·rw[size_push'];exact Nat.le_succ _
theorem yE{a:Addr}{Q:Bool->Shared->Prop}(T:s.TypeIs (.ref a) "set")(q:Q false s):wpAny (model P w) A (Builtin.List.listLengthHint (.ref a)) Q E s:=by
 unfold Builtin.List.listLengthHint
 refine wpAny_bind (wpAny_specialOf T PySem.F.slot_set_len.lookup ?_)
 generalize hid:("set.__len__":String)=id0
 wp_delta
 rw[show splitId id0=some ("set","__len__")from by subst hid;decide +kernel]
 subst hid
 refine wpAny_bind (wpAny_isInstance (T:="set") (b:=true) T (by rw[isSubtype_type];kernel_rfl) ?_)
 refine wpAny_ite_split (λz=>absurd z (by decide)) (λ_=> ?_)
 refine wpAny_ite_split (λ_=> ?_) (λz=>absurd (by decide +kernel) z)
 exact wpAny_bind (wpAny_typeOf T (wpAny_pure q))
theorem yF{a:Addr}{ms:List Int}{R:List Value->Shared->Prop}(hh:A.handled=none)(S:IntSet P w s.heap a ms)(hn:ms.length<=sizeLine)
  (q:∀ h' tk d vs ks,(∀ b o,s.heap.get? b=some o->h'.get? b=some o)->s.heap.objs.size<=h'.objs.size->IntsAre vs ks->ks.Perm ms->R vs { s with heap:=h',toks:=tk,drawn:=d }):wpAny (model P w) A (collect (.ref a)) R E s:=by
 have BI:a<s.heap.objs.size:=let ⟨_,_,_,_,ho,_⟩:=S;Heap.lt_size ho
 unfold collect
 refine wpAny_bind (wpAny_runValue (codeAny_builtin entry_proto_collect' ?_))
 rw[Around.under_plainId PySem.F.plain_proto_collect _]
 show wpAny _ A.in1 (newList [] >>= λl=>again (.builtin "list.__iadd__" ⟨[l,.ref a],[]⟩)) _ _ s
 refine wpAny_bind (wpAny_newObj_type ?_)
 refine wpAny_pure ⟨plainId_quiet PySem.F.plain_list_iadd _,codeAny_builtin entry_list_iadd' ?_⟩
 rw[Around.under_plainId PySem.F.plain_list_iadd _]
 show wpAny _ A.in1 (Builtin.List.listExtendWith (.ref s.heap.objs.size) (.ref a) (.ref s.heap.objs.size)) _ _ _
 generalize eN:s.heap.objs.size=N at BI ⊢
 have gN:(s.heap.push { cls:=.type "list",data:=.seq ([]:List Value).toArray }).get? N=some { cls:=.type "list",data:=.seq #[] }:=eN ▸ Heap.get?_push_size _ rfl
 have keep1:∀ b o,s.heap.get? b=some o->(s.heap.push { cls:=.type "list",data:=.seq ([]:List Value).toArray }).get? b=some o:=λb o e=>Heap.get?_push_of_some _ e
 have S1:=S.at λo e=>keep1 a o e
 have big:(s.heap.push { cls:=.type "list",data:=.seq ([]:List Value).toArray }).objs.size=N+1:=by rw[size_push',eN]
 revert gN keep1 S1 big
 generalize s.heap.push { cls:=.type "list",data:=.seq ([]:List Value).toArray }=h0
 intro gN keep1 S1 big
 have T1:∀ h':Heap,(∀ b o,h0.get? b=some o->h'.get? b=some o)->∀ tk d,({ s with heap:=h',toks:=tk,drawn:=d }:Shared).TypeIs (.ref a) "set":=λh' k tk d=>by
  obtain⟨o,_,_,_,ho,hex,_⟩:=S1
  exact⟨o,k _ _ ho,hex.1⟩
 unfold Builtin.List.listExtendWith
 refine wpAny_bind (wpAny_typeOf (T:="set") (T1 h0 (λ_ _ e=>e) s.toks s.drawn) ?_)
 have ne:Builtin.List.listSameRef (.ref N) (.ref a)=false:=by
  simp only[Builtin.List.listSameRef,beq_eq_false_iff_ne]
  exact Nat.ne_of_gt BI
 have n1:(Value.type "set" == Value.type "list")=false:=by decide
 have n2:(Value.type "set" == Value.type "tuple")=false:=by decide
 simp only[ne,n1,n2,Bool.or_false,Bool.false_eq_true,if_false]
 refine wpAny_bind (yD (A:=A.in1) (s:={ s with heap:=h0 }) (by simpa using hh) S1 λI h1 d1 k1 W=> ?_)
 obtain⟨⟨fp,ord,ks,St,hfp,W,st,hi,pk⟩,hI⟩:=W
 have hI:N+1<=I:=big ▸ hI
 have BT:ord.length=ms.length:=by rw[IntsAre.length hi,pk.length_eq]
 refine wpAny_bind (wpAny_holding (yE (T1 h1 k1 s.toks d1) ?_))
 rw[if_pos (by decide)]
 refine wpAny_bind (wpAny_rule ?_)
 refine wpAny_bind ?_
 show wpAny _ _ (updateSeq N (·.push .none) >>= λ_=>updateSeq N (·.pop)) _ _ _
 have g1:=k1 _ _ gN
 refine wpAny_bind (wpAny_updateSeq (s:={ s with heap:=h1,drawn:=d1 }) g1 rfl ?_)
 have g2:=Heap.get?_update_self (Obj.mapSeq (·.push Value.none)) g1 rfl
 refine wpAny_updateSeq (hz:=by seq_fits) g2 rfl ?_
 have g3:=Heap.get?_update_self (Obj.mapSeq (·.pop)) g2 rfl
 have oth:∀ b o,b≠N->h1.get? b=some o->((h1.update N (Obj.mapSeq (·.push Value.none))).update N (Obj.mapSeq (·.pop))).get? b=some o:=λb o hb e =>
  (Heap.get?_update_other _ _ (Ne.symm hb)).trans ((Heap.get?_update_other _ _ (Ne.symm hb)).trans e)
 have Nfp:N∉fp:=λz=>by
  rcases hfp N z with y | y
  ·exact Nat.ne_of_gt BI y
  ·have y':h0.objs.size<=N:=y
   rw[big]at y'
   exact absurd y' (Nat.not_succ_le_self _)
 refine wpAny_pure ⟨plainId_quiet PySem.F.plain_extend_loop _,?_⟩
 refine codeAny_extend_loopS W.toS (by rw[BT];exact hn) N Nfp (.ref N) ord.length 0 _ #[] _ rfl (Nat.zero_le _) (W.frame 0 _ _ st λb hb o e=>oth b o (λz=>Nfp (z ▸ hb)) e) g3 (ItemsOf.nil _) λs' BY c m g4 hacc=> ?_
 show wpAny _ A (load N >>= _) _ _ _
 refine wpAny_bind (wpAny_load g4 ?_)
 refine wpAny_pure ?_
 have eacc:BY.toList=ord:=by
  refine List.ext_getElem? λi=> ?_
  by_cases hlt':i<ord.length
  ·have h3:i<BY.size:=by rw[hacc.1];exact hlt'
   have:=hacc.2 i BY[i] (Array.getElem?_eq_getElem h3)
   rw[Array.getElem?_toList,Array.getElem?_eq_getElem h3,this]
  ·have e1:BY.toList[i]? =none:=List.getElem?_eq_none (by rw[Array.length_toList,hacc.1];omega)
   have e2:ord[i]? =none:=List.getElem?_eq_none (by omega)
   rw[e1,e2]
 show R BY.toList s'
 rw[eacc]
 obtain⟨h3,gn3,dr3,tk3,os3⟩:=s'
 have a1:gn3=s.gens:=m.gens
 have a2:dr3=d1:=m.drawn
 have a3:os3=s.os:=m.os
 subst a1;subst a2;subst a3
 refine q _ _ dr3 ord ks (λb o e=> ?_) (by rw[eN];exact Nat.le_of_lt (Heap.lt_size g4)) hi pk
 have hb:b<N:=eN ▸ Heap.lt_size e
 refine m.heap b o (λz=> ?_) (oth b o (Nat.ne_of_lt hb) (k1 _ _ (keep1 _ _ e)))
 simp only[List.mem_cons,List.not_mem_nil,or_false]at z
 rcases z with z | z
 ·exact Nat.ne_of_lt hb z
 ·exact Nat.ne_of_lt (Nat.lt_of_lt_of_le (Nat.lt_succ_of_lt hb) hI) z
theorem yG{a:Addr}{ms:List Int}{Q:Value->Shared->Prop}(hh:A.handled=none)(S:IntSet P w s.heap a ms)(hn:ms.length<64)
  (q:∀ D h' tk d c out ks,(∀ b o,s.heap.get? b=some o->h'.get? b=some o)->s.heap.objs.size<=D->h'.get? D=some (seqObj "list" out c)->IntsAre out.toList ks->ks.Perm ms->ks.Pairwise (· <=·)->Q (.ref D) { s with heap:=h',toks:=tk,drawn:=d }) :
  wpAny (model P w) A (call (.builtin "sorted") [.ref a]) Q E s:=by
 refine Calls.call_function_entry kind_sorted plain_sorted entry_sorted (args_sorted1 _) ?_
 unfold Builtin.«sorted»
 refine wpAny_bind (m:=checkCount "sorted" 1 1 _) (wpAny_pure ?_)
 refine wpAny_bind (yF (A:=A.in1) (by simpa using hh) S (by rw[sizeLine_eq];omega) λh1 tk d vs ks k1 size_le hi pk=> ?_)
 have hl:vs.length<64:=by rw[IntsAre.length hi,pk.length_eq];exact hn
 refine wpAny_bind (wpAny_newList ?_ (by rw[sizeLine_eq];omega))
 have g:(h1.push (seqObj "list" vs.toArray 0)).get? h1.objs.size=some (seqObj "list" vs.toArray 0):=Heap.get?_push_size _ rfl
 show wpAny _ _ _ _ _ { s with heap:=h1.push (seqObj "list" vs.toArray 0),toks:=tk,drawn:=d }
 refine wpAny_bind (wpAny_holding (wpAny_call_entry slot_list_sort ⟨_,g,rfl⟩ entry_list_sort (list_sort_tree g hi hl λout ks' i1 p1 r1=>⟨_,rfl,?_⟩) (args_list_sort _)))
 obtain⟨c,gc⟩:=sortedHeap_at (n:=0) (out:=out) g
 refine wpAny_pure ⟨_,rfl,q _ _ tk d c out ks' (λb o e=> ?_) size_le gc i1 (p1.trans pk) r1⟩
 have hb:=Heap.lt_size (k1 _ _ e)
 rw[sortedHeap_old (Nat.ne_of_lt hb) (by rw[size_push'];exact Nat.lt_succ_of_lt hb)]
 exact Heap.get?_push_of_some _ (k1 _ _ e)
end
end L2
namespace L2
open PySem PyProof.Rows
section
variable{P:Program}{w:World}{A:Around}{E:Value->Shared->Prop}{s:Shared}
theorem yH {l:Addr} {its:Array Value} {ns:List Int} {Q:Value->Shared->Prop} (hh:A.handled=none) (hl:s.heap.IsList l its) (hi:IntsAre its.toList ns) (hb:its.size+1<scanBound)
    (q:∀ h' tk,IntSet P w h' s.heap.objs.size (firstMet (λi=>ns.getD i 0) its.size)->(∀ b o,s.heap.get? b=some o->h'.get? b=some o)->Q (.ref s.heap.objs.size) { s with heap:=h',toks:=tk }) :
    wpAny (model P w) A (call (.type "set") [.ref l]) Q E s:=by
  obtain⟨c,tl,mro⟩:=PySem.F.called_set.mro
  have made:=PySem.F.called_set.made
  have sub:=PySem.F.called_set.sub
  refine wpAny_call (codeAny_of_tree ?_)
  show wpAny _ _ (callAny (.type "set") _) _ _ _
  refine wpAny_pure ⟨Code.quiet_builtin _ (by decide +kernel),codeAny_builtin PySem.F.entry_type_call ?_⟩
  rw[Around.under_plain (weight_type_call_type "set" [.ref l] []) rfl]
  have n1:=PySem.F.called_set.notType
  have n2:=PySem.F.called_set.canCreate
  have n3:=PySem.F.typeCall_set_1 (.ref l)
  repeat (any_goals (first | assumption | wp_step))
  generalize eS:({ cls:=.type "set",dict:=none,data:=.set #[] 0 (.fresh 0 0 (leads w)) }:Obj)=oS
  refine codeAny_mono (xV (E:=E) (Q:=λx s1=>x=.ref s.heap.objs.size/\s1={ s with heap:=s.heap.push oS }) ⟨rfl,by rw[<-eS]⟩) λr s1 hr=> ?_
  cases r with
  | error e=>exact hr
  | ok fl =>
    cases fl with
    | ret x =>
      obtain⟨rfl,rfl⟩:=hr
      have g0:(s.heap.push oS).get? s.heap.objs.size=some oS:=Heap.get?_push_size _ (by rw[<-eS];rfl)
      have T0:Shared.TypeIs { s with heap:=s.heap.push oS } (.ref s.heap.objs.size) "set":=⟨_,g0,by rw[<-eS]⟩
      have i1:=PySem.F.called_set.init.lookup
      have i2:=PySem.F.called_set.init.bind (.ref s.heap.objs.size)
      repeat (any_goals (first | assumption | wp_step))
      refine codeAny_mono (codeAny_call_builtin (R:=wants (λr s2=>r=.none/\∃ h' tk,s2={ s with heap:=h',toks:=tk }/\IntSet P w h' s.heap.objs.size (firstMet (λi=>ns.getD i 0) its.size) ∧
        (∀ b o,s.heap.get? b=some o->h'.get? b=some o)) E) PySem.F.called_set.init.plain PySem.F.entry_set_init (check_set_init_1 T0 ?_)) λr2 s2 ZK=> ?_
      · obtain⟨ol,gl,cl,nl,dl⟩:=hl
        obtain⟨c1,d1,dt1,sl1⟩:=ol
        simp only at cl dl
        subst cl;subst dl
        have gl':=Heap.get?_push_of_some oS gl
        have e1:=PySem.F.sub_list_set
        have e2:=PySem.F.sub_list_frozenset
        have e3:(Value.type "list" == Value.type "dict")=false:=by decide
        have HP:(s.heap.push oS).IsList l its:=⟨_,gl',rfl,nl,rfl⟩
        have BI:l<s.heap.objs.size:=Heap.lt_size gl
        have big:=size_push' s.heap oS
        revert gl' HP g0 T0 big
        have keep0:∀ b o,s.heap.get? b=some o->(s.heap.push oS).get? b=some o:=λb o e=>Heap.get?_push_of_some _ e
        revert keep0
        generalize s.heap.push oS=h0
        intro keep0 g0 T0 gl' HP big
        subst eS
        unfold Builtin.«set.__init__» noKeywords Builtin.Frozenset.updateFrom
        generalize hPI:pyIter=PI
        wp_walk
        subst hPI
        refine wpAny_pyIter_list HP ?_
        refine wpAny_bind (wpAny_runValue ?_)
        have hh3:A.in1.in1.in1.handled=none:=by simp[hh]
        have ne1:l≠h0.objs.size:=Nat.ne_of_lt (by rw[big];exact Nat.lt_succ_of_lt BI)
        have nin:s.heap.objs.size∉[h0.objs.size,l]:=by
          simp only[List.mem_cons,List.not_mem_nil,or_false,not_or]
          exact⟨Nat.ne_of_lt (by rw[big];exact Nat.lt_succ_self _),Nat.ne_of_gt BI⟩
        refine xU ((Walks.list hh3 _ l ne1 its).toS) s.heap.objs.size nin (λi=>ns.getD i 0) (λi v e=>IntsAre.int_at hi i v (by rw[Array.getElem?_toList];exact e)) hb (its.size - 0) 0 _ (by omega) (Nat.zero_le _)
          ⟨⟨_,Heap.get?_push_size _ rfl,rfl,rfl⟩,HP.push _⟩ ⟨_,#[],0,_,Heap.get?_push_of_some _ g0,⟨rfl,rfl,rfl⟩,rfl,λe he=>by simp at he,by exact .nil,by decide,by rfl,Led.fresh _⟩ λs3 m S3=> ?_
        obtain⟨h3,g3,d3,tk3,os3⟩:=s3
        have a1:g3=s.gens:=m.gens
        have a2:d3=s.drawn:=m.drawn
        have a3:os3=s.os:=m.os
        subst a1;subst a2;subst a3
        show wpAny _ _ _ _ _ _
        refine wpAny_pure ?_
        show wpAny _ _ (ret Value.none) _ _ _
        refine wpAny_pure ⟨rfl,h3,tk3,rfl,S3,λb o e=> ?_⟩
        have hb:=Heap.lt_size e
        refine m.heap b o ?_ (Heap.get?_push_of_some _ (keep0 _ _ e))
        simp only[List.mem_cons,List.not_mem_nil,or_false,not_or]
        exact⟨Nat.ne_of_lt hb,Nat.ne_of_lt (by rw[big];exact Nat.lt_succ_of_lt hb)⟩
      · cases r2 with
        | error e=>exact ZK
        | ok fl2 =>
          cases fl2 with
          | ret r =>
            obtain⟨rfl,h',tk,rfl,S',k'⟩:=ZK
            repeat (any_goals (first | assumption | wp_step))
            exact q _ _ S' k'
          | _=>exact ZK.elim
    | _=>exact hr.elim
end
end L2
namespace L2
section
variable{X:Cx}
theorem Inv.drawn{AA:List (Addr × Obj)}{σ:St}{H:Hp}{s:Shared}(I:Inv X AA σ H s)(d):Inv X AA σ H { s with drawn:=d } :=
 { ok:=I.ok,os:=I.os,bare:=I.bare,base:=I.base,loc:=I.loc,cell:=I.cell,free:=I.free,freeC:=I.freeC,pin:=I.pin,hok:=I.hok,len:=I.len }
theorem cT:∀ {ns:List Int} {us:List Value},Vals (ns.map V.int) us->IntsAre us ns
 | [],_,.nil=>.nil
 | n::r,_,.cons h t=>by
  obtain⟨tk,rfl⟩:=h
  exact .cons _ _ (cT t)
abbrev cU(X:Cx)(a:Addr)(ms:List Int):HO:=.ext λh=>IntSet X.prog X.w h a ms
theorem yI(hc:X.calm=true):E8 X (.type "set") (λxs H Q=>∃ (p:Addr) (ns:List Int),xs=[.ref p]/\SqL X.K H p (ns.map V.int)/\ns.length<=1000 ∧
  ∀ (a:Addr),H a=none->Q (.ref a) (upd H a (cU X a (firstMet (λi=>ns.getD i 0) ns.length)))):=by
 intro AA s σ H xs us Q I r h
 obtain⟨p,ns,rfl,hq,hn,q⟩:=h
 obtain⟨u,rfl,rx⟩:=HX r
 cases rx
 obtain⟨its,r',pl,hz⟩:=I.list hq
 have hi:=cT r'
 have BT:its.length=ns.length:=IntsAre.length hi
 refine yH (I.ok.hd hc) pl.isList hi (by rw[List.size_toArray,BT];exact Nat.lt_of_le_of_lt (Nat.succ_le_succ hn) (by decide)) λh' tk S k=> ?_
 have hz2:its.toArray.size=ns.length:=by rw[List.size_toArray,BT]
 rw[hz2]at S
 refine⟨.ref s.heap.objs.size,_,I.laid k (Nat.le_refl _) ?_,rfl,q _ (I.hok.fresh (Nat.le_refl _))⟩
 exact⟨S,⟨_,S.choose_spec.choose_spec.choose_spec.choose_spec.1⟩,λh1 h2 z e=>z.at e⟩
theorem yJ(hc:X.calm=true):E8 X (.builtin "sorted") (λxs H Q=>∃ (a:Addr) (ms:List Int),xs=[.ref a]/\H a=some (cU X a ms)/\ms.length<64 ∧
  ∀ (D:Addr) (ks:List Int),H D=none->List.Perm ks ms->ks.Pairwise (· <=·)->Q (.ref D) (upd H D (.lst (ks.map V.int)))):=by
 intro AA s σ H xs us Q I r h
 obtain⟨a,ms,rfl,ha,hn,q⟩:=h
 obtain⟨u,rfl,rx⟩:=HX r
 cases rx
 obtain⟨S,_,_⟩:=I.hok a _ ha
 refine yG (I.ok.hd hc) S hn λD h' tk d c out ks k hD g hi pk hr=> ?_
 have hl:ks.length<64:=by rw[pk.length_eq];exact hn
 refine⟨.ref D,_,(I.laid (t':=tk) k hD ?_).drawn d,rfl,q D ks (I.hok.fresh hD) pk hr⟩
 exact⟨by rw[List.length_map,sizeLine_eq];omega,out.toList,c,R1 hi,g⟩
theorem yK(val:Nat->Int)(n:Nat)(x:Int):x∈firstMet val n↔∃ i,i<n/\val i=x:=by
 have h:=firstMet_any val n x
 rw[Bool.eq_iff_iff,List.any_eq_true,List.any_eq_true]at h
 constructor
 ·intro hx
  obtain⟨y,hy,e⟩:=h.mp ⟨x,hx,beq_self_eq_true x⟩
  obtain⟨i,hi,rfl⟩:=List.mem_map.mp hy
  exact⟨i,List.mem_range.mp hi,eq_of_beq e⟩
 ·rintro ⟨i,hi,rfl⟩
  obtain⟨y,hy,e⟩:=h.mpr ⟨val i,List.mem_map.mpr ⟨i,List.mem_range.mpr hi,rfl⟩,beq_self_eq_true _⟩
  exact eq_of_beq e ▸ hy
theorem SW(val:Nat->Int):∀ n,(firstMet val n).Nodup
 | 0=>by rw[firstMet_zero];exact List.nodup_nil
 | n+1=>by
  rw[firstMet_succ]
  by_cases h:val n∈firstMet val n
  ·rw[cN h];exact SW val n
  ·rw[cO h]
   exact List.nodup_append.mpr ⟨SW val n,by simp,λa ha b hb e=>by rw[List.mem_singleton]at hb;subst hb;subst e;exact h ha⟩
theorem cV:∀ {l:List Int},l.Pairwise (· <=·)->l.Nodup->l.Pairwise (· <·)
 | [],_,_=>.nil
 | x::r,h,n=>by
  obtain⟨h1,h2⟩:=List.pairwise_cons.mp h
  obtain⟨n1,n2⟩:=List.nodup_cons.mp n
  refine List.pairwise_cons.mpr ⟨λy hy=> ?_,cV h2 n2⟩
  have:=h1 y hy
  have:x≠y:=λz=>n1 (z ▸ hy)
  omega
def OR(K:W.Frag)(te:TE):TE:=λσ H Q=>te σ H λx H1=>∃ (p:Addr) (ns:List Int),x=.ref p/\SqL K H1 p (ns.map V.int)/\ns.length<64 ∧
 ∀ (a:Addr) (o:HO) (D:Addr) (ks:List Int),H1 a=none->upd H1 a o D=none->ks.Pairwise (· <·)->(∀ x,x∈ks↔x∈ns)->ks.length<=ns.length->Q (.ref D) (upd (upd H1 a o) D (.lst (ks.map V.int)))
def clo(te:TE):TE:=λσ H Q=>∃ C:VK,te σ H C/\∀ x H1,C x H1->Q x H1
theorem PE.clo{e:Expr}{te:TE}(h:PE X e te):PE X e (clo te):=λAA s σ H Q I ⟨C,q,m⟩=>AV (h AA s σ H C I q) λv s' ⟨x,H1,I1,r1,q1⟩=>⟨x,H1,I1,r1,m _ _ q1⟩
theorem cW{e:Expr}{te:TE}{p1 p2 p3 p4:Pos}(hc:X.calm=true)(g1:Gl X "sorted")(m1:X.mg "sorted"=none)(g2:Gl X "set")(m2:X.mg "set"=none)(h:PE X e te)
  (he:starEach [e] X.env=[(false,eval e X.env)]:=by rfl) :
  PE X (.Call (.Name "sorted" p1) [.Call (.Name "set" p2) [e] [] p3] [] p4) (OR X.K te):=λAA s σ H Q I q=>by
 refine(EB (yJ hc) g1 m1 (by rfl) (IT (IV (yI hc) g2 m2 (by rfl) (IT h.clo FS he) (he:=he)) FS)) AA s σ H Q I ?_
 refine⟨_,q,λx H1 hzz=> ?_⟩
 obtain⟨p,ns,e1,hq,hn,q1⟩:=hzz
 subst e1
 refine⟨p,ns,rfl,hq,by omega,λa ha=>⟨a,_,rfl,AF,?_,λD ks hD pk hr=> ?_⟩⟩
 ·exact Nat.lt_of_le_of_lt (firstMet_length_le ..) hn
 ·have nd:=SW (λi=>ns.getD i 0) ns.length
  refine q1 a _ D ks ha hD (cV hr (pk.nodup_iff.mpr nd)) (λx=> ?_) (by rw[pk.length_eq];exact firstMet_length_le ..)
  rw[pk.mem_iff,yK]
  refine⟨λhzz=> ?_,λhx=> ?_⟩
  ·obtain⟨i,hi,e⟩:=hzz
   rw[<-e]
   simp[List.getD,hi]
  ·obtain⟨i,hi,e⟩:=List.getElem_of_mem hx
   exact⟨i,hi,by simp[List.getD,hi,e]⟩
end
end L2
namespace L2
section
variable{X:Cx}{tg:Expr}
def OS(K:W.Frag):List V->Hp->VK->Prop:=λxs H Q=>∃ (p:Addr) (AD:List (AM × V)),xs=[.ref p]/\H p=some (.dK AD)/\∀ l,H l=none->Q (.ref l) (upd H l (.dK AD))
theorem yL:E8 X (.type "dict") (OS X.K):=by
 intro AA s σ H xs us Q I r h
 obtain⟨p,AD,rfl,hp,q⟩:=h
 obtain⟨u,rfl,rx⟩:=HX r
 cases rx
 exact tW I (.inl hp) λl s' hl I'=>⟨.ref l,_,I',rfl,q l hl⟩
theorem yM{K:W.Frag}{p:Addr}{H:Hp}{Q:VK}:OS K [.ref p] H Q=∃ AD,H p=some (.dK AD)/\∀ l,H l=none->Q (.ref l) (upd H l (.dK AD)):=by simp[OS]
end
section
variable{K:W.Frag}{tt:TT}{cap:List Nat}{σ:St}{H:Hp}{Q:VK}
end
section
variable{K:W.Frag}{td ty tv te:TE}{D:Ends}{σ:St}{H:Hp}{Q:VK}{QB:Bool->Hp->Prop}
theorem yN:HC td ty σ H Q=(td σ H λx H1=>ty σ H1 λy H2=>∃ a v,x=.ref a/\DGet H2 a y (some v)/\Q v H2):=rfl
theorem yO:KU ty td σ H Q=(ty σ H λy H1=>td σ H1 λx H2=>∃ a o,x=.ref a/\DGet H2 a y o/\Q (.bl o.isSome) H2):=rfl
theorem yP:KW ty td σ H Q=(ty σ H λy H1=>td σ H1 λx H2=>∃ a o,x=.ref a/\DGet H2 a y o/\Q (.bl (!o.isSome)) H2):=rfl
theorem yQ:HD td ty tv D σ H=(tv σ H λv H1=>td σ H1 λx H2=>ty σ H2 λy H3=>∃ a H4,x=.ref a/\DPut H3 a y v H4/\D.nx σ H4):=rfl
theorem yR:RZ td ty σ H Q=(td σ H λx H1=>∃ a,x=.ref a/\MO H1 a/\ty σ H1 λy H2=>∃ o,DGet H2 a y o/\Q (o.getD .non) H2):=rfl
theorem yS:JC σ H Q=(∀ p,H p=none->Q (.ref p) (upd H p (.dK []))):=rfl
theorem yT:OD σ H Q=(∀ p,H p=none->Q (.ref p) (upd H p (.dT []))):=rfl
theorem yU:tB te σ H QB=(te σ H λx H1=>∃ c,x=.bl c/\QB c H1):=rfl
theorem yV:OR K te σ H Q=(te σ H λx H1=>∃ (p:Addr) (ns:List Int),x=.ref p/\SqL K H1 p (ns.map V.int)/\ns.length<64 ∧
 ∀ (a:Addr) (o:HO) (D:Addr) (ks:List Int),H1 a=none->upd H1 a o D=none->ks.Pairwise (· <·)->(∀ x,x∈ks↔x∈ns)->ks.length<=ns.length->Q (.ref D) (upd (upd H1 a o) D (.lst (ks.map V.int)))):=rfl
variable{a b:Addr}{i j:Int}{z:Str}{AD:List (AM × V)}{kvt:List (List AM × V)}{v:V}
theorem dI(e:H a=some (.dK AD)):DGet H a (.int i) (BK AD (.inl i)):=DGet.k (k:=.inl i) e
theorem dS(e:H a=some (.dK AD)):DGet H a (.str z) (BK AD (.inr z)):=DGet.k (k:=.inr z) e
theorem cX(e:H a=some (.dT kvt))(eb:H b=some (.tup [.int i,.int j])):DGet H a (.ref b) (BK kvt [.inl i,.inl j]):=DGet.t (k:=[.inl i,.inl j]) e eb
theorem yW(e:H a=some (.dK AD))(h:BK AD (.inr z)=some v):DGet H a (.str z) (some v):=h ▸ dS e
theorem yX(e:H a=some (.dT kvt))(eb:H b=some (.tup [.int i,.int j]))(h:BK kvt [.inl i,.inl j]=some v):DGet H a (.ref b) (some v):=h ▸ cX e eb
theorem pI(e:H a=some (.dK AD))(hl:AD.length<100000):DPut H a (.int i) v (upd H a (.dK (BW AD (.inl i) v))):=DPut.k (k:=.inl i) e (Nat.lt_of_lt_of_le hl (by decide))
theorem pS(e:H a=some (.dK AD))(hl:AD.length<100000):DPut H a (.str z) v (upd H a (.dK (BW AD (.inr z) v))):=DPut.k (k:=.inr z) e (Nat.lt_of_lt_of_le hl (by decide))
theorem yY(e:H a=some (.dT kvt))(eb:H b=some (.tup [.int i,.int j]))(hl:kvt.length<100000):DPut H a (.ref b) v (upd H a (.dT (BW kvt [.inl i,.inl j] v))):=DPut.t (k:=[.inl i,.inl j]) e eb (Nat.lt_of_lt_of_le hl (by decide))
end
end L2
namespace L2
section
variable{X:Cx}
abbrev cY(K:W.Frag):R2:=aY K false
theorem yZ(hu:X.A.units+64<cLine):B1 X (compareOp .In) (cY X.K):=sX
end
theorem SqT.same{K:W.Frag}{H H':Hp}{a:Addr}{xs:List V}(e:Same H H')(h:SqT K H a xs):SqT K H' a xs:=by
 rcases h with(h | ⟨o,h⟩) | h
 ·exact .inl (.inl (e _ _ h))
 ·exact .inl (.inr ⟨o,e _ _ h⟩)
 ·exact .inr h
mutual
theorem Rep.same{K:W.Frag}{H H':Hp}(s:Same H H'):∀ {v:V} {d:PyData},Rep K H v d->Rep K H' v d
 | _,_,.non=>.non
 | _,_,.bl b=>.bl b
 | _,_,.int i=>.int i
 | _,_,.str x=>.str x
 | _,_,.lst h r=>.lst (s.seq h) (RepAll.same s r)
 | _,_,.tup h r=>.tup (SqT.same s h) (RepAll.same s r)
theorem RepAll.same{K:W.Frag}{H H':Hp}(s:Same H H'):∀ {vs:List V} {ds:List PyData},RepAll K H vs ds->RepAll K H' vs ds
 | _,_,.nil=>.nil
 | _,_,.cons h r=>.cons (Rep.same s h) (RepAll.same s r)
end
section
variable{K:W.Frag}{H:Hp}{n:Nat}{Q:VK}
end
end L2
namespace L2
end L2
namespace L2
section
variable{prog:Program}{w:World}{A:Around}{E:Value->Shared->Prop}{s:Shared}{d it:Addr}{od:Obj}{es:Array DictEntry}{ep i:Nat}
theorem y8{Q:Value->Shared->Prop}(hd:(d == sysModules)=false)(ho:s.heap.get? d=some od)(hx:od.ExactDict)(hdat:od.data=.dict es ep)
  (hQ:Q (.ref s.heap.objs.size) { s with heap:=s.heap.push { cls:=.type "dict_keyiterator",data:=.fields #[.ref d,.int 0 0,.int es.size 0,.int ep 0] } }) :
  wpAny (model prog w) A (pyIter (.ref d)) Q E s:=by
 have hT:s.TypeIs (.ref d) "dict":=⟨od,ho,hx.1⟩
 refine wpAny_pyIter_slot hT F.slot_dict_iter (wpAny_call_entry F.slot_dict_iter hT F.entry_dict_iter ?_ (F.args_dict_iter_1 _))
 unfold Builtin.«dict.__iter__» Builtin.Dict.dictSlotNone
 refine wpAny_bind (wpAny_bind (wpAny_notOrdered_dict hT (wpAny_pure ?_)))
 show wpAny _ _ (Builtin.Dict.showsAll d >>= _) _ _ s
 unfold Builtin.Dict.showsAll
 rw[if_neg (by rw[hd];exact Bool.false_ne_true)]
 refine wpAny_bind (wpAny_pure (wpAny_bind (wpAny_dictEntries ho hdat (wpAny_bind (wpAny_dictEpoch ho hdat ?_)))))
 refine wpAny_bind (wpAny_newObj_type (wpAny_pure ⟨_,rfl,"dict_keyiterator",_,⟨_,Heap.get?_push_size _ rfl,rfl⟩,F.slot_dict_keyiterator_next.lookup,?_⟩))
 simpa [rawInt]using hQ
theorem y9{Q:Option Value->Shared->Prop}(hit:s.heap.IsKeyIter it d i es.size ep)(hod:s.heap.get? d=some od)(hdd:od.data=.dict es ep){e:DictEntry}(he:es[i]? =some e)
  (hQ:∀ h',h'.IsKeyIter it d (i+1) es.size ep->Heap.SameBut it s.heap h'->Q (some e.key) { s with heap:=h' }) :
  wpAny (model prog w) A (pyNext (.ref it)) Q E s:=by
 obtain⟨o,ho,hc,hd⟩:=id hit
 unfold pyNext
 refine wpAny_bind (wpAny_attempt (wpAny_callSpecial?_slot (name:=Str.ofString "__next__") hit.typeIs F.slot_dict_keyiterator_next
  (wpAny_call_entry F.slot_dict_keyiterator_next hit.typeIs F.entry_dict_keyiterator_next ?_ (F.args_dict_keyiterator_next_1 _))))
 refine wpAny_bind (wpAny_pure (wpAny_bind (wpAny_bind ?_)))
 first | refine wpAny_bind (wpAny_typeNameOfWhole_keyiter hit.typeIs (wpAny_pure ?_)) | refine wpAny_bind (wpAny_typeNameOf_keyiter hit.typeIs (wpAny_pure ?_))
 refine wpAny_bind (wpAny_fieldsOf ho hd ?_)
 have hown:Builtin.Dict_items.ownsTuple "dict_keyiterator"=false:=by decide
 simp only[hown,Bool.false_eq_true,if_false]
 show wpAny _ _ (if(Value.ref d == Value.none)=true then _ else _) _ _ s
 rw[if_neg (show ¬ ((Value.ref d == Value.none)=true)from Bool.false_ne_true)]
 refine wpAny_bind (wpAny_pure (wpAny_bind (wpAny_dictEntries hod hdd ?_)))
 rw[if_neg (by simp)]
 refine wpAny_bind (wpAny_pure (wpAny_bind (wpAny_dictEpoch hod hdd ?_)))
 rw[if_neg (by simp)]
 refine wpAny_pure ?_
 simp only[show ¬ ((i:Int)<0)from by omega,if_false,Int.toNat_natCast,he]
 refine wpAny_bind ?_
 first | refine wpAny_bind (wpAny_typeNameOfWhole_keyiter hit.typeIs (wpAny_pure ?_)) | refine wpAny_bind (wpAny_typeNameOf_keyiter hit.typeIs (wpAny_pure ?_))
 refine wpAny_bind (wpAny_isOneOf_keyiter hit.typeIs ?_)
 show wpAny _ _ (setField (.ref it) 1 (rawInt ((i:Int)+1)) >>= _) _ _ s
 refine wpAny_bind (wpAny_setField ho hd (by simp) ?_)
 have hit':(s.heap.update it (Obj.mapFields (·.setIfInBounds 1 (rawInt ((i:Int)+1))))).IsKeyIter it d (i+1) es.size ep :=
  ⟨_,Heap.get?_update_self _ ho (Obj.isFreed_of_fields (Obj.data_mapFields hd _)),(Obj.cls_mapFields ..).trans hc,by rw[Obj.data_mapFields hd];simp[rawInt]⟩
 refine wpAny_bind (wpAny_holding (wpAny_bind (wpAny_isOneOf_keyiter (s:={ s with heap:=s.heap.update it (Obj.mapFields (·.setIfInBounds 1 (rawInt ((i:Int)+1)))) }) hit'.typeIs ?_)))
 show wpAny _ _ (pure e.key) _ _ _
 exact wpAny_pure (wpAny_pure ⟨_,rfl,wpAny_pure (hQ _ hit' (Heap.SameBut.update ..))⟩)
theorem zA{Q:Option Value->Shared->Prop}(hh:A.handled=none)(hit:s.heap.IsKeyIter it d i es.size ep)(hod:s.heap.get? d=some od)(hdd:od.data=.dict es ep)(hge:es.size<=i)
  (hQ:∀ h',Heap.ExtBut it s.heap h'->Q none { s with heap:=h' }):wpAny (model prog w) A (pyNext (.ref it)) Q E s:=by
 obtain⟨o,ho,hc,hd⟩:=id hit
 unfold pyNext
 refine wpAny_bind (wpAny_attempt (wpAny_callSpecial?_slot (name:=Str.ofString "__next__") hit.typeIs F.slot_dict_keyiterator_next
  (wpAny_call_entry F.slot_dict_keyiterator_next hit.typeIs F.entry_dict_keyiterator_next ?_ (F.args_dict_keyiterator_next_1 _))))
 refine wpAny_bind (wpAny_pure (wpAny_bind (wpAny_bind ?_)))
 first | refine wpAny_bind (wpAny_typeNameOfWhole_keyiter hit.typeIs (wpAny_pure ?_)) | refine wpAny_bind (wpAny_typeNameOf_keyiter hit.typeIs (wpAny_pure ?_))
 refine wpAny_bind (wpAny_fieldsOf ho hd ?_)
 have hown:Builtin.Dict_items.ownsTuple "dict_keyiterator"=false:=by decide
 simp only[hown,Bool.false_eq_true,if_false]
 show wpAny _ _ (if(Value.ref d == Value.none)=true then _ else _) _ _ s
 rw[if_neg (show ¬ ((Value.ref d == Value.none)=true)from Bool.false_ne_true)]
 refine wpAny_bind (wpAny_pure (wpAny_bind (wpAny_dictEntries hod hdd ?_)))
 rw[if_neg (by simp)]
 refine wpAny_bind (wpAny_pure (wpAny_bind (wpAny_dictEpoch hod hdd ?_)))
 rw[if_neg (by simp)]
 refine wpAny_pure ?_
 simp only[show ¬ ((i:Int)<0)from by omega,if_false,Int.toNat_natCast,Array.getElem?_eq_none hge]
 refine wpAny_bind ?_
 first | refine wpAny_bind (wpAny_typeNameOfWhole_keyiter hit.typeIs (wpAny_pure ?_)) | refine wpAny_bind (wpAny_typeNameOf_keyiter hit.typeIs (wpAny_pure ?_))
 show wpAny _ _ (setField (.ref it) 0 .none >>= _) _ _ s
 refine wpAny_bind (wpAny_setField ho hd (by simp) ?_)
 show wpAny _ _ (newExc (.type "StopIteration") [] >>= _) _ _ _
 refine wpAny_bind ?_
 simp only[newExc,newTuple]
 refine wpAny_bind (wpAny_newObj_type ?_ (by size_fits))
 refine wpAny_bind (m:=firstArgMember _ _) (wpAny_of_eq (a:=Value.none) (by first | rfl | (simp only[firstArgMember];rfl)) ?_)
 refine wpAny_newObj_type ?_ (by size_fits)
 simp only[raiseNew]
 refine wpAny_bind (wpAny_handled ?_)
 rw[show A.in1.handled=none from hh]
 refine wpAny_bind (wpAny_pure (wpAny_throw ?_))
 refine wpAny_bind (wpAny_isInstance (T:="StopIteration") (b:=true) ⟨_,Heap.get?_push_size _ rfl,rfl⟩ isSubtype_stop ?_)
 exact wpAny_pure (hQ _ (((Heap.SameBut.update ..).extBut.push _).push _))
end
end L2
namespace L2
theorem cZ:∀ {ys:List Str} {us:List Value},Vals (ys.map V.str) us->StrsAre us ys
 | [],_,.nil=>.nil
 | y::r,_,.cons h t=>by
  obtain⟨tk,rfl⟩:=h
  exact .cons _ _ (cZ t)
section
variable{X:Cx}
def c5(K:W.Frag):V->List V->Hp->VK->Prop:=λx vs H Q=>∃ (z:Str) (p:Addr) (ys:List Str),x=.str z/\vs=[.ref p]/\SqL K H p (ys.map V.str)/\z.length<=16/\(ys.map (·.length)).sum+ys.length<=1048576/\Q (.str (Txt.join z ys)) H
theorem zB:RS X "str.join" (c5 X.K):=by
 intro AA s σ H x vs v us Q I rx rv h
 obtain⟨z,p,ys,rfl,rfl,hp,hz,hw,q⟩:=h
 obtain⟨t,rfl⟩:=rx
 obtain⟨u,rfl,ru⟩:=rv.one
 cases ru
 obtain⟨its,r,pl,hz'⟩:=I.list hp
 exact join_listW pl.isList (cZ r) hz hw λt' k=>⟨.str _,H,I.tok k,⟨t',rfl⟩,q⟩
end
section
variable{K:W.Frag}{tt:TT}{te:TE}{cap:List Nat}{σ:St}{H:Hp}{Q:VK}
end
end L2
namespace L2
section
variable{X:Cx}{tg:Expr}
end
section
variable{K:W.Frag}{tt:TT}{cap:List Nat}{σ:St}{H:Hp}{Q:VK}
end
section
variable{P:Program}{w:World}{A:Around}{E:Value->Shared->Prop}{s:Shared}
end
section
variable{X:Cx}
end
end L2
namespace L2
section
variable{P:Program}{w:World}{A:Around}{E:Value->Shared->Prop}{s:Shared}
theorem zC{e it l:Addr}{i:Nat}{BG:Array Value}{x old:Value}{Q:Option Value->Shared->Prop}(he:IsEnum s.heap e it i old)(hi:s.heap.IsListIter it l i)(hl:s.heap.IsList l BG)(ex:BG[i]? =some x)(ne:e≠it)
  (q:∀ h',IsEnumOut h' e it (i+1) x s.heap.objs.size->h'.IsListIter it l (i+1)->h'.get? s.heap.objs.size=some { cls:=Value.type "tuple",data:=Data.seq #[Value.int i s.toks,x] }->(∀ b o,b≠e->b≠it->s.heap.get? b=some o->h'.get? b=some o) →
   Q (some (.ref s.heap.objs.size)) { s with heap:=h',toks:=s.toks+1 }):wpAny (model P w) A (pyNext (.ref e)) Q E s:=by
 have ty:s.TypeIs (.ref e) "enumerate":=⟨_,he,rfl⟩
 unfold pyNext
 exact wpAny_bind (wpAny_attempt (wpAny_callSpecial?_slot (name:=Str.ofString "__next__") ty F.slot_enumerate_next (wpAny_call_entry F.slot_enumerate_next ty F.entry_enumerate_next
  (enumerate_next_item he hi hl ex ne λh' a1 a2 a3 _ a4=>wpAny_pure (q h' a1 a2 a3 a4)) (F.args_enumerate_next_1 _))))
theorem zD{e it l:Addr}{i:Nat}{BG:Array Value}{old:Value}{Q:Fin->Shared->Prop}(hh:A.handled=none)(he:IsEnum s.heap e it i old)(hi:s.heap.IsListIter it l i)(hl:s.heap.IsList l BG)(ex:BG[i]? =none)
  (q:∀ h' x,Heap.ExtBut it s.heap h'->(∃ o,h'.get? x=some o/\o.cls=.type "StopIteration")->E (.ref x) { s with heap:=h' }):wpAny (model P w) A (Builtin.«enumerate.__next__» ⟨[.ref e],[]⟩) Q E s:=by
 show wpAny (model P w) A (field (.ref e) 2 >>= _) _ _ s
 refine wpAny_bind (wpAny_field he rfl (x:=.ref it) rfl ?_)
 exact wpAny_bind (xG (k:=true) hh hi hl ex q)
theorem zE{e it l:Addr}{i:Nat}{BG:Array Value}{old:Value}{Q:Option Value->Shared->Prop}(hh:A.handled=none)(he:IsEnum s.heap e it i old)(hi:s.heap.IsListIter it l i)(hl:s.heap.IsList l BG)(ex:BG[i]? =none)
  (q:∀ h',Heap.ExtBut it s.heap h'->Q none { s with heap:=h' }):wpAny (model P w) A (pyNext (.ref e)) Q E s:=by
 have ty:s.TypeIs (.ref e) "enumerate":=⟨_,he,rfl⟩
 unfold pyNext
 refine wpAny_bind (wpAny_attempt (wpAny_callSpecial?_slot (name:=Str.ofString "__next__") ty F.slot_enumerate_next (wpAny_call_entry F.slot_enumerate_next ty F.entry_enumerate_next (zD hh he hi hl ex λh' x kk ⟨o,e1,e2⟩=> ?_) (F.args_enumerate_next_1 _))))
 exact wpAny_bind (wpAny_isInstance (T:="StopIteration") (b:=true) ⟨o,e1,e2⟩ isSubtype_stop (wpAny_pure (q _ kk)))
end
def OT(K:W.Frag)(a:Addr):It :=
  ⟨λi H=>∃ xs x,SqL K H a xs/\xs[i]? =some x,
   λi H v H'=>∃ t,H t=none/\v=.ref t/\∃ x,H'=upd H t (.tup [.int (i:Int),x])/\∀ xs,SqL K H a xs->xs[i]? =some x,
   λi H=>∃ xs,SqL K H a xs/\xs.length<=i⟩
def EnSt(e it l:Addr)(i:Nat)(h:Heap):Prop:=(∃ old,IsEnum h e it i old)/\h.IsListIter it l i
theorem EnSt.lt{e it l:Addr}{i:Nat}{h:Heap}(q:EnSt e it l i h):∀ b∈[e,it],b<h.objs.size:=by
 obtain⟨⟨old,h1⟩,o,h2,_⟩:=q
 intro b hb
 simp only[List.mem_cons,List.not_mem_nil,or_false]at hb
 rcases hb with rfl | rfl
 ·exact Heap.lt_size h1
 ·exact Heap.lt_size h2
theorem zF{P:Program}{w:World}{K:W.Frag}{elts:List Expr}{kn:Nat}{pos:Pos}{e it l:Addr}(ne:e≠it) :
  IS P w K (.Tuple elts kn pos) (OT K l) [e,it] e (λi h=>EnSt e it l i h) where
 mem:=by simp
 obj:=λi h st b hb=>by
  obtain⟨⟨old,h1⟩,h2⟩:=st
  obtain⟨o4,e4,d4⟩:=ItK.ob (k:=true) h2
  simp only[List.mem_cons,List.not_mem_nil,or_false]at hb
  rcases hb with rfl | rfl
  ·exact⟨_,h1,λv q=>by cases q⟩
  ·exact⟨_,e4,λv q=>by rw[d4]at q;cases q⟩
 keep:=λi h h' ⟨⟨old,h1⟩,h2⟩ q=>⟨⟨old,q e (by simp) _ h1⟩,ItK.up (k:=true) h2 λo x=>q it (by simp) o x⟩
 item:=by
  intro X hP hw hK hc i AA s σ H E I hf st hg
  subst hP hw hK
  obtain⟨xs,x,hx,ex⟩:=hg
  obtain⟨its,rv,d1⟩:=I.seqK (k:=true) hx
  obtain⟨u,hu,ru⟩:=rv.get ex
  have lt:=EnSt.lt st
  obtain⟨⟨old,h1⟩,h2⟩:=st
  refine zC h1 h2 d1 (x:=u) (by simpa using hu) ne λh' g1 g2 g3 kk=>⟨_,rfl,?_⟩
  refine wpAny_letOwnedTupleGo_enum g1 λh2' z2 sb=> ?_
  have I1:=I.tnew (ys:=[.int (i:Int),x]) (its:=[Value.int (i:Int) s.toks,u]) (.cons (show RelV (.int (i:Int)) (Value.int (i:Int) s.toks)from⟨s.toks,rfl⟩) (.cons ru .nil)) (by show 2<=sizeLine;decide)
  have f':∀ b∈[e,it],b≠s.heap.objs.size:=λb hb=>Nat.ne_of_lt (lt b hb)
  have nz:s.heap.objs.size≠e:=(f' e (by simp)).symm
  have I2:Inv X AA σ (upd H s.heap.objs.size (.tup [.int (i:Int),x])) { s with heap:=h2',toks:=s.toks+1 }:=by
   refine Inv.turnedS (s:={ s with heap:=s.heap.push { cls:=Value.type "tuple",data:=Data.seq #[Value.int i s.toks,u] } }) (t':=s.toks+1) (fp:=[e,it]) I1 (λb o hb eo=> ?_) λb hb=>(hf b hb).upd (f' b hb)
   simp only[List.mem_cons,List.not_mem_nil,or_false,not_or]at hb
   rcases Heap.get?_push_cases eo with⟨e1,e2⟩ | e1
   ·subst e1 e2
    exact sb.extBut _ _ nz g3
   ·exact sb.extBut _ _ hb.1 (kk _ _ hb.1 hb.2 e1)
  exact⟨.ref s.heap.objs.size,_,I2,rfl,⟨s.heap.objs.size,I.fresh,rfl,x,rfl,λys' q=>by rw[I.seqK_inj (k:=true) q hx];exact ex⟩,
   ⟨⟨_,z2⟩,ItK.up (k:=true) g2 λo x=>sb.extBut _ _ ne.symm x⟩,λb hb=>((hf b hb).upd (f' b hb)).1⟩
 done:=by
  intro X hP hw hK hc i AA s σ H E I hf st hg
  subst hP hw hK
  obtain⟨xs,hx,en⟩:=hg
  obtain⟨its,rv,d1⟩:=I.seqK (k:=true) hx
  obtain⟨⟨old,h1⟩,h2⟩:=st
  have e1:=rv.length
  refine zE (I.ok.hd hc) h1 h2 d1 (by simp;omega) λh' kk=>⟨rfl,I.turnedS (t':=s.toks) (fp:=[e,it]) (λb o hb eo=> ?_) hf⟩
  simp only[List.mem_cons,List.not_mem_nil,or_false,not_or]at hb
  exact kk _ _ hb.2 eo
 self:=λ_ _ _ _ _ st h=>by
  obtain⟨⟨old,h1⟩,_⟩:=st
  exact wpAny_pyIter_enum h1 h
section
variable{X:Cx}
def OU(K:W.Frag)(ta:TA):TI:=λσ H R=>ta σ H λvs H1=>∃ a:Addr,vs=[.ref a]/\(∃ xs,SqL K H1 a xs)/\R (OT K a) H1
theorem c7{a:Expr}{ta:TA}{p pos p2:Pos}{elts:List Expr}{kn:Nat}(hg:Gl X "enumerate")(hm:X.mg "enumerate"=none)(ha:PA X [a] ta)(hs:starEach [a] X.env=[(false,eval a X.env)]:=by rfl) :
  PI X (.Tuple elts kn p2) (.Call (.Name "enumerate" p) [a] [] pos) (OU X.K ta):=by
 intro AA s σ H R I h
 refine Call_ (MA I hg hm boot_enumerate (PyProof.Rows.callWith_type1 (AV (ha pos AA s σ H _ I h) λus s1 hzz=> ?_) (by rw[hs];rfl) (by rfl)))
 obtain⟨vs,H1,I1,r1,q1⟩:=hzz
 obtain⟨l,e,⟨xs,hx⟩,q⟩:=q1
 subst e
 obtain⟨u,rfl,rx⟩:=HX r1
 cases rx
 obtain⟨its,rv,d1⟩:=I1.seqK (k:=true) hx
 refine call_enumerate_list d1 λh' z1 z2 sz kk=>wpAny_pyIter_enum z1 ?_
 have I2:Inv X AA σ H1 { s1 with heap:=h' }:=I1.kept (t':=s1.toks) kk
 refine⟨_,[s1.heap.objs.size+1,s1.heap.objs.size],_,_,H1,rfl,I2,zF (Nat.ne_of_gt (by omega)),⟨⟨_,z1⟩,z2⟩,λb hb=>I1.fpOk ?_ (I1.hok.fresh ?_),q⟩
 all_goals
  simp only[List.mem_cons,List.not_mem_nil,or_false]at hb
  rcases hb with rfl | rfl<;>omega
end
theorem zG{K:W.Frag}{as:TA}{g:TG}{s1:TS}{D:Ends}{σ:St}{H:Hp}:DR (OU K as) g s1 D σ H=(as σ H λvs H1=>∃ a:Addr,vs=[.ref a]/\(∃ xs,SqL K H1 a xs)/\HH (OT K a) g s1 D σ H1):=rfl
theorem c8{K:W.Frag}{σ:St}{H:Hp}{a:Addr}{xs:List V}{g:TG}{tb:TS}{D:Ends}(Pv:Nat->St->Hp->Prop)(h0:Pv 0 σ H)(ha:∀ i σ H,i<=xs.length->Pv i σ H->SqL K H a xs)
  (hs:∀ i x σ H t,xs[i]? =some x->Pv i σ H->H t=none->g (.ref t) σ (upd H t (.tup [.int (i:Int),x])) λσ2 H2=>tb { D with nx:=Pv (i+1),ct:=Pv (i+1),bk:=D.nx } σ2 H2) (hd:∀ σ H,Pv xs.length σ H->D.nx σ H):HH (OT K a) g tb D σ H:=by
 refine⟨λi m σ H=>i+m=xs.length/\Pv i σ H,⟨xs.length,by omega,h0⟩,λi m σ H ⟨e,p⟩=> ?_⟩
 have h1:=ha i σ H (by omega) p
 by_cases hi:i<xs.length
 ·refine .inr ⟨⟨xs,xs[i],h1,List.getElem?_eq_getElem hi⟩,Pv (i+1),λσ' H' q=>⟨m - 1,by omega,by omega,q⟩,λv H' ⟨t,ht,e,x,e',q1⟩=> ?_⟩
  subst e e'
  exact hs i x σ H t (q1 _ h1) p ht
 ·have e:i=xs.length:=by omega
  subst e
  exact .inl ⟨⟨xs,h1,Nat.le_refl _⟩,hd _ _ p⟩
def OV(K:W.Frag):R2:=λx y H Q=>cY K x y H Q\/∃ t ts p xs,x=.ref t/\SqT K H t ts/\y=.ref p/\SqT K H p xs/\(∀ z∈xs,z=.non\/∃ i,z=.int i)/\Q (.bl false) H
theorem c9:∀ {xs:List V} {us:List Value} {u:Value},Vals xs us->u∈us->∃ x∈xs,RelV x u
 | _,_,_,.nil,h=>by cases h
 | _,_,_,.cons r t,h=>by
  rcases List.mem_cons.mp h with rfl | h
  ·exact⟨_,List.mem_cons_self ..,r⟩
  ·obtain⟨x,hx,e⟩:=c9 t h
   exact⟨x,List.mem_cons_of_mem _ hx,e⟩
theorem zH{X:Cx}(hu:X.A.units+64<cLine):B1 X (compareOp .In) (OV X.K):=by
 intro AA s σ H x y v u Q I rx ry h
 rcases h with h | ⟨t,ts,p,xs,rfl,ht,rfl,hp,hx,q⟩
 ·exact yZ hu AA s σ H x y v u Q I rx ry h
 ·cases rx
  cases ry
  obtain⟨its,r,pl,hz⟩:=I.tuple hp
  obtain⟨tts,tr,tl,_⟩:=I.tuple ht
  have hin:X.A.in1.units<cLine:=by
   have:X.A.in1.units=X.A.units+1:=rfl
   omega
  refine SeqAt.in_tupleAt (λ_=>false) pl (λz hz'=> ?_) ⟨.bl _,H,I,rfl,?_⟩
  ·obtain⟨z0,h0,r0⟩:=c9 r (by simpa using hz')
   rcases hx z0 h0 with rfl | ⟨i,rfl⟩
   ·cases r0
    exact SeqAt.EqAt.none_tuple tl hin
   ·obtain⟨tk,rfl⟩:=r0
    exact SeqAt.EqAt.int_tuple _ _ tl hin
  ·have:its.toArray.any (λ_=>false)=false:=by
    rw[Array.any_eq_false]
    simp
   rw[this]
   exact q
end L2
namespace L2
section
variable{X:Cx}
def dA:V->List V->Hp->VK->Prop:=λx vs H Q=>∃ z y:Str,x=.str z/\vs=[.str y]/\Q (.int (Txt.find z y)) H
theorem zI:RS X "str.find" dA:=by
 intro AA s σ H x vs v us Q I rx rv h
 obtain⟨z,y,rfl,rfl,q⟩:=h
 obtain⟨t,rfl⟩:=rx
 obtain⟨u,rfl,ru⟩:=rv.one
 obtain⟨t2,rfl⟩:=ru
 exact PySem.SC.find ⟨.int _,H,I.tok _,⟨_,rfl⟩,q⟩
end
end L2
namespace L2
section
variable{P:Program}{w:World}{A:Around}{E:Value->Shared->Prop}{s:Shared}
end
section
variable{X:Cx}
end
end L2
namespace L2
section
variable{X:Cx}{AA:List (Addr × Obj)}{σ:St}{H:Hp}{s:Shared}
def OW(d:Addr)(o:Obj)(AD:List (AM × V)):It :=
 ⟨λi H=>H d=some (.frz o (.dK AD))/\i<AD.length,λi H x H'=>H'=H/\∃ k v,x=kV k/\AD[i]? =some (k,v),λi H=>H d=some (.frz o (.dK AD))/\AD.length<=i⟩
theorem dB{P:Program}{w:World}:∀ {es:List DictEntry} {vs:List (AM × Value)} {i:Nat} {x:AM × Value},Pairs (D4 P w) es vs->vs[i]? =some x->∃ e,es[i]? =some e/\JX x.1 e.key=true
 | _,_,0,_,.cons h _ _,e=>by cases e;exact⟨_,rfl,h⟩
 | _,_,i+1,_,.cons _ _ t,e=>dB (i:=i) t e
theorem dC{P:Program}{w:World}:∀ {es:List DictEntry} {vs:List (AM × Value)},Pairs (D4 P w) es vs->es.length=vs.length
 | _,_,.nil=>rfl
 | _,_,.cons _ _ t=>by rw[List.length_cons,List.length_cons,dC t]
theorem zJ{P:Program}{w:World}{K:W.Frag}{tg:Expr}(d it:Addr){o:Obj}{AD:List (AM × V)}{es:Array DictEntry}{ep:Nat}(hdat:o.data=.dict es ep):IS P w K tg (OW d o AD) [it] it (λi h=>h.IsKeyIter it d i es.size ep) where
 mem:=by simp
 obj:=λi h st b hb=>by
  have e:b=it:=by simpa using hb
  subst e
  obtain⟨o,e,c,d⟩:=st
  exact⟨o,e,λv z=>by rw[d]at z;cases z⟩
 keep:=λi h h' st k=>st.at λo e=>k it (by simp) o e
 item:=by
  intro X hP hw hK hc i AA s σ H E I hf st hg
  subst hP hw hK
  obtain⟨hq,hi⟩:=hg
  obtain⟨h1,z,y,vs,r,o',es',ep',g1,g2,g3,g4,g5,g6⟩:=(show ObjOk X.prog X.w H s.heap d (.frz o (.dK AD))from I.hok d _ hq)
  rw[h1]at g1;cases g1
  rw[hdat]at g3;cases g3
  obtain⟨f0,f1,f2,f3,f4,f5⟩:=hf it (by simp)
  have hl:vs.length=AD.length:=r.length.symm
  have hix:i<vs.length:=by omega
  obtain⟨x,ex,hx1,hx2⟩:=K6 r (List.getElem?_eq_getElem hix)
  obtain⟨en,ee,hk⟩:=dB g5 (List.getElem?_eq_getElem hix)
  have he:es[i]? =some en:=by rw[<-Array.getElem?_toList];exact ee
  refine y9 st h1 hdat he λh' st' sb=> ?_
  have I1:Inv X AA σ H { s with heap:=h' }:=I.turned (t':=s.toks) (λb o hb e=>(sb.2 b hb).trans e) f0 f1 f3 f4 f5
  obtain⟨o2,e2,c2,d2⟩:=id st'
  have rk:RelV (kV x.1) en.key:=by
   rw[hx1]
   rcases G8 hk with⟨j,t,e5,e6⟩ | ⟨j,t,e5,e6⟩
   ·rw[e5,e6];exact⟨t,rfl⟩
   ·rw[e5,e6];exact⟨t,rfl⟩
  exact⟨_,rfl,MF (s:={ s with heap:=h' }) e2 c2 d2 (by decide) ⟨kV x.1,H,I1,rk,⟨rfl,x.1,x.2,rfl,ex⟩,st',λb hb=>(hf b hb).1⟩⟩
 done:=by
  intro X hP hw hK hc i AA s σ H E I hf st hg
  subst hP hw hK
  obtain⟨hq,hi⟩:=hg
  obtain⟨h1,z,y,vs,r,o',es',ep',g1,g2,g3,g4,g5,g6⟩:=(show ObjOk X.prog X.w H s.heap d (.frz o (.dK AD))from I.hok d _ hq)
  rw[h1]at g1;cases g1
  rw[hdat]at g3;cases g3
  obtain⟨f0,f1,f2,f3,f4,f5⟩:=hf it (by simp)
  have hes:es.size=AD.length:=by rw[<-Array.length_toList,dC g5];exact r.length.symm
  exact zA (I.ok.hd hc) st h1 hdat (by omega) λh' eb=>⟨rfl,I.turned (t':=s.toks) (λb o hb e=>eb b o hb e) f0 f1 f3 f4 f5⟩
 self:=λ_ _ _ _ _ st h=>wpAny_pyIter_keyiter st h
variable{tg iter FM:Expr}{E6:List Expr}{scope:Scope}{pos:Pos}{td:TE}{g:TG}{tt:TT}{te:TE}{tn cn:List Str}{cap:List Nat}
end
end L2
namespace L2
theorem FnScope.go{N P:List Str}{sc:Scope}(h1:sc.kind=.function:=by exact rfl)(h2:sc.isCoroutine=false:=by exact rfl)(h3:sc.isGenerator=false:=by exact rfl)(h4:N.Nodup:=by decide +kernel)(h5:N.take P.length=P:=by exact rfl)(h6:∀ x∈P,sc.names.lookup x=some .local\/sc.names.lookup x=some .cell:=by decide +kernel)(h7:∀ y∈sc.names,y.2≠.free:=by decide +kernel):FnScope N P sc:=⟨h1,h2,h3,h4,h5,h6,h7⟩
theorem Room.m{j k:Nat}{A:Around}(r:Room k A)(h:j<=k:=by decide):Room j A:=r.mono h
abbrev FP(P:Program)(w:World)(K:W.Frag)(mg:Str->Option Value)(base:Heap)(k:Nat)(f:Addr)(fd:FuncData)(ps:List Str)(sp:Sp):Prop:=FnOk P w K mg base (DY P w) k f fd ps sp
theorem Fun.okF{P:Program}{w:World}{K:W.Frag}{mg:Str->Option Value}{base:Heap}{x qual:Str}{st:Stmt}{f:Addr}{fd:FuncData}{N ps:List Str}{k:Nat}{sp:Sp}(F:Fun K x qual st f fd)(rd:(St->XK)->TS)(S:FnScope N ps (A1 st))(len:∀ {vs H Q E},sp vs H Q E->vs.length=ps.length)
  (ok:∀ {vs H Q E},sp vs H Q E->rd (λ_=>E) { nx:=λ_ H'=>Q .non H',rt:=Q } (A8 N vs) H)
  (hb:∀ (BR:Value) (A:Around) (outer:List Env) (s:Shared) (H:Hp) (E:XK),Room k (A.deeper (envOfC qual (A1 st) s.heap.objs.size f BR))->XOk (GQ (DY P w) P w K mg base N qual (A1 st) f BR A outer s H E) (λ_=>E) →
   FN (GQ (DY P w) P w K mg base N qual (A1 st) f BR A outer s H E) (GD st) (rd λ_=>E)):FP P w K mg base (k+1) f fd ps sp :=
 F.okE S (λ_ _ _ _=>len) λBR A outer s H _ _ E hr h=>⟨_,hb BR A outer s H E hr t8,ok h⟩
section
variable{X:Cx}{pos:Pos}
theorem BD(i:Nat){x:Str}{e:Expr}{te:TE}{pos':Pos}(hN:X.N.Nodup)(he:PE X e te)(hi:X.N[i]? =some x:=by exact rfl)(hx:KO X.env.scope x:=by exact Or.inl rfl)(hs:swapsWith e (some (.Name x pos')) pos.line X.env=pure false:=by rfl)(hf:X.fn x=true\/X.env.scope.names.lookup x=some .local:=by first | exact .inl rfl | exact .inr rfl | assumption) :
  PS X (.Assign [.Name x pos'] e pos) (A5 te (AO i)):=ME hN hi hx he hs hf
theorem CY(i:Nat){x:Str}(hN:X.N.Nodup)(hi:X.N[i]? =some x:=by exact rfl)(hx:KO X.env.scope x:=by exact Or.inl rfl)(hf:X.fn x=true\/X.env.scope.names.lookup x=some .local:=by first | exact .inl rfl | exact .inr rfl | assumption):PG X (.Name x pos) (AO i):=qI hN hi hx hf
end
end L2
namespace L2
section
variable{X:Cx}{pos:Pos}
theorem EI{a:Expr}{ta:TE}{i:Int}{j pos'}(ha:PE X a ta):PE X (.Subscript a (.Constant (.int i) j pos') pos) (AG (CQ X.K) ta (tC (.int i))):=CC CD ha AS (λ_ _=>rfl)
theorem FnScope.cp{scope outer:Scope}{N P tn cn:List Str}{cap:List Nat}(_:FnScope N P outer)(h:SI scope outer N cn cap=true:=by decide +kernel)(h1:X.env.scope=outer:=by exact rfl)(h2:X.N=N:=by exact rfl):KZ X scope tn cn cap:=uU h1 h2 h
end
section
variable{X:Cx}{E:St->XK}{k j:Nat}{x m:Str}{ps:List Str}{sp:Sp}{C:Addr}{p pos CM:Pos}{e o e1 e2 e3:Expr}{es:List Expr}{ta tb tc td:TE}{t:TA}
theorem AI(h:PE X e ta)(s:starEach [e] X.env=(false,eval e X.env)::starEach [] X.env:=by rfl):PA X [e] (DI ta BV):=IT h FS s
theorem BN(h:PE X e ta)(h1:PE X e1 tb)(s:starEach [e,e1] X.env=(false,eval e X.env)::starEach [e1] X.env:=by rfl)(s1:starEach [e1] X.env=(false,eval e1 X.env)::starEach [] X.env:=by rfl):PA X [e,e1] (DI ta (DI tb BV)):=IT h (AI h1 s1) s
theorem DJ(h:PE X e ta)(h1:PE X e1 tb)(h2:PE X e2 tc)(s:starEach [e,e1,e2] X.env=(false,eval e X.env)::starEach [e1,e2] X.env:=by rfl)(s1:starEach [e1,e2] X.env=(false,eval e1 X.env)::starEach [e2] X.env:=by rfl)(s2:starEach [e2] X.env=(false,eval e2 X.env)::starEach [] X.env:=by rfl):PA X [e,e1,e2] (DI ta (DI tb (DI tc BV))):=IT h (BN h1 h2 s1 s2) s
theorem MY(h:PE X e ta)(h1:PE X e1 tb)(h2:PE X e2 tc)(h3:PE X e3 td)(s:starEach [e,e1,e2,e3] X.env=(false,eval e X.env)::starEach [e1,e2,e3] X.env:=by rfl)(s1:starEach [e1,e2,e3] X.env=(false,eval e1 X.env)::starEach [e2,e3] X.env:=by rfl)(s2:starEach [e2,e3] X.env=(false,eval e2 X.env)::starEach [e3] X.env:=by rfl)(s3:starEach [e3] X.env=(false,eval e3 X.env)::starEach [] X.env:=by rfl):PA X [e,e1,e2,e3] (DI ta (DI tb (DI tc (DI td BV)))):=IT h (DJ h1 h2 h3 s1 s2 s3) s
theorem ET(c:DS X.prog X.w X.K X.mg X.base k x ps sp)(hr:Room j X.A)(hx:XOk X E)(ha:PA X (e::es) t)(hj:k<=j:=by decide)(hg:Gl X x:=by exact rfl)(hdb:(x ==("__debug__":Str))=false:=by decide)
  (he:starEach (e::es) X.env=(false,eval e X.env)::starEach es X.env:=by rfl) (CF:(backTo pos (starEach es X.env)).any (·.1)=false:=by rfl):PE X (.Call (.Name x p) (e::es) [] pos) (DE sp [] E t):=MP c (hr.mono hj) hx.passes hg ha hdb he CF
theorem A6{pl:Sem Bool}(he:PE X o ta)(cl:Cls X.K C)(c:AT X.prog X.w X.K X.mg X.base C k m ps sp)(hr:Room j X.A)(hx:XOk X E)(ha:PA X (e::es) t)(hj:k<=j:=by decide)
  (hst:starEach (e::es) X.env=(false,eval e X.env)::starEach es X.env:=by rfl) (CF:(backTo pos (starEach es X.env)).any (·.1)=false:=by rfl)
  (ht:eval (.Call (.Attribute o m CM) (e::es) [] pos) X.env=(do
   let ov ← eval o X.env
   standAt CM.atName
   let (f,first) ← holding [ov] (getMethod ov m pl)
   callWith pos f first (backTo pos (starEach (e::es) X.env)) (backToKw pos (keywordEach [] X.env))):=by rfl):PE X (.Call (.Attribute o m CM) (e::es) [] pos) (AR C m sp [] E ta t):=FT he cl c (hr.mono hj) hx.passes ha hst CF ht
theorem EC{pl:Sem Bool}(he:PE X o ta)(cl:Cls X.K C)(c:AT X.prog X.w X.K X.mg X.base C k m ps sp)(hr:Room j X.A)(hx:XOk X E)(hj:k<=j:=by decide)
  (ht:eval (.Call (.Attribute o m CM) [] [] pos) X.env=(do
   let ov ← eval o X.env
   standAt CM.atName
   let (f,first) ← holding [ov] (getMethod ov m pl)
   callWith pos f first (backTo pos (starEach [] X.env)) (backToKw pos (keywordEach [] X.env))):=by rfl):PE X (.Call (.Attribute o m CM) [] [] pos) (AR C m sp [] E ta BV):=uA he cl c (hr.mono hj) hx.passes ht
end
theorem Fun.okL{P:Program}{w:World}{K:W.Frag}{mg:Str->Option Value}{base:Heap}{x qual:Str}{st:Stmt}{f:Addr}{fd:FuncData}{N ps:List Str}{k:Nat}{sp:Sp}(F:Fun K x qual st f fd)(rd:(St->XK)->TS)(S:FnScope N ps (A1 st))
  (ok:∀ {vs H Q E},sp vs H Q E->rd (λ_=>E) { nx:=λ_ H'=>Q .non H',rt:=Q } (A8 N vs) H)
  (hb:∀ (BR:Value) (A:Around) (outer:List Env) (s:Shared) (H:Hp) (E:XK),Room k (A.deeper (envOfC qual (A1 st) s.heap.objs.size f BR))->XOk (GQ (DY P w) P w K mg base N qual (A1 st) f BR A outer s H E) (λ_=>E) →
   FN (GQ (DY P w) P w K mg base N qual (A1 st) f BR A outer s H E) (GD st) (rd λ_=>E))
  (len:∀ {vs H Q E},sp vs H Q E->vs.length=ps.length:=by
   intro _ _ _ _ h
   repeat (first | (obtain⟨rfl,_⟩:=h;rfl) | (refine Or.elim h ?_ ?_<;>(clear h;intro h)) | obtain⟨_,h⟩:=h)):FP P w K mg base (k+1) f fd ps sp:=F.okF rd S len ok hb
theorem zK{α :Type}{P:List α ->Prop}(h:P []):∀ us:List α,us.length=0->P us
 | [],_=>h
theorem SY{α :Type}{P:List α ->Prop}(h:∀ a,P [a]):∀ us:List α,us.length=1->P us
 | [a],_=>h a
theorem SZ{α :Type}{P:List α ->Prop}(h:∀ a b,P [a,b]):∀ us:List α,us.length=2->P us
 | [a,b],_=>h a b
theorem S0{α :Type}{P:List α ->Prop}(h:∀ a b c,P [a,b,c]):∀ us:List α,us.length=3->P us
 | [a,b,c],_=>h a b c
theorem S4{α :Type}{P:List α ->Prop}(h:∀ a b c d,P [a,b,c,d]):∀ us:List α,us.length=4->P us
 | [a,b,c,d],_=>h a b c d
theorem S5{α :Type}{P:List α ->Prop}(h:∀ a b c d e,P [a,b,c,d,e]):∀ us:List α,us.length=5->P us
 | [a,b,c,d,e],_=>h a b c d e
theorem S6{α :Type}{P:List α ->Prop}(h:∀ a b c d e f,P [a,b,c,d,e,f]):∀ us:List α,us.length=6->P us
 | [a,b,c,d,e,f],_=>h a b c d e f
theorem S7{α :Type}{P:List α ->Prop}(h:∀ a b c d e f g,P [a,b,c,d,e,f,g]):∀ us:List α,us.length=7->P us
 | [a,b,c,d,e,f,g],_=>h a b c d e f g
def S8(x qual:Str)(st:Stmt)(ps:List Str):Prop:=∀ (kV doc pm:Value) (an:Option Addr) (BR ct:Value) (us:List Value),us.length=ps.length->bindArgs (W.fnOf x qual (IB st) (GD st) (A1 st) .none kV doc pm an BR ct) ⟨us,[]⟩=pure (ps.zip us)
structure GF(K:W.Frag)(x:Str)(st:Stmt):Prop where
 ex:∃ (f:Addr) (fd:FuncData),W.nsIn K mainGlobals x=some (some (.ref f))/\Fun K x x st f fd
structure GM(K:W.Frag)(C:Addr)(m q:Str)(st:Stmt):Prop where
 ex:∃ (f:Addr) (fd:FuncData),W.findIn K (.ref C) m=some (some (.ref f))/\W.isFn K (.ref f)=true/\Fun K m q st f fd
structure GC(K:W.Frag)(C:Addr)(x:Str):Prop where
 ac:W.nsIn K mainGlobals x=some (some (.ref C))
 c:Cls K C
structure GN(K:W.Frag)(C:Addr)(x q:Str)(st:Stmt):Prop where
 m:GM K C "__init__" q st
 mks:W.makesIn K C=true
 kc:W.keepIn K (.ref C)=true
 ac:W.nsIn K mainGlobals x=some (some (.ref C))
structure GX(K:W.Frag)(C:Addr)(x:Str):Prop where
 ac:W.nsIn K mainGlobals x=some (some (.ref C))
 ex:W.excIn K C [.type "ValueError",.type "Exception",.type "BaseException",.type "object"] "ValueError.__new__"=true
section
variable{K:W.Frag}{x q:Str}{st:Stmt}{C f:Addr}{oc:Value}{od an:Option Addr}{osl:Array (Option Value)}{kV doc pm BR ct:Value}
theorem gf(a:W.nsIn K mainGlobals x=some (some (.ref f)))(l:K.lookup f=some ⟨oc,od,.func (W.fnOf x x (IB st) (GD st) (A1 st) .none kV doc pm an BR ct),osl⟩)
  (c:W.codeIn K BR x=true) (k:W.keepIn K (.ref f)=true):GF K x st:=⟨_,_,a,bK l c k⟩
theorem gm(a:W.findIn K (.ref C) x=some (some (.ref f)))(l:K.lookup f=some ⟨oc,od,.func (W.fnOf x q (IB st) (GD st) (A1 st) .none kV doc pm an BR ct),osl⟩)
  (c:W.codeIn K BR q=true) (k:W.keepIn K (.ref f)=true) (i:W.isFn K (.ref f)=true):GM K C x q st:=⟨_,_,a,i,bK l c k⟩
theorem gn{y:Str}(a:W.findIn K (.ref C) "__init__"=some (some (.ref f)))(l:K.lookup f=some ⟨oc,od,.func (W.fnOf "__init__" q (IB st) (GD st) (A1 st) .none kV doc pm an BR ct),osl⟩)
  (c:W.codeIn K BR q=true) (k:W.keepIn K (.ref f)=true) (i:W.isFn K (.ref f)=true) (m:W.makesIn K C=true) (n:W.keepIn K (.ref C)=true) (s:W.nsIn K mainGlobals y=some (some (.ref C))):GN K C y q st:=⟨gm a l c k i,m,n,s⟩
theorem gc(a:W.nsIn K mainGlobals x=some (some (.ref C)))(l:W.plainGet K C Str.empty=true)(c:W.hasDictIn K C=true)(k:W.plainOver K C=true)(i:W.findIn K (.ref C) "__setattr__"=some (some (.builtin "object.__setattr__"))):GC K C x:=⟨a,l,c,k,i⟩
end
section
variable{P:Program}{w:World}{K:W.Frag}{h:Heap}{mg:Str->Option Value}{base:Heap}{x q:Str}{st:Stmt}{C:Addr}{k:Nat}{ps:List Str}{sp:Sp}
theorem GF.cal(g:GF K x st)(X:K.In h)(G:h.Ns mainGlobals mg)(ok:∀ {f fd},Fun K x x st f fd->FP P w K mg base k f fd ps sp)
  (b:S8 x x st ps:=by intro _ _ _ _ _ _;first | exact SY λ_=>rfl | exact SZ λ_ _=>rfl | exact S0 λ_ _ _=>rfl | exact S4 λ_ _ _ _=>rfl | exact S5 λ_ _ _ _ _=>rfl | exact zK rfl | exact S6 λ_ _ _ _ _ _=>rfl | exact S7 λ_ _ _ _ _ _ _=>rfl):DS P w K mg base k x ps sp:=by
 obtain⟨f,fd,a,F⟩:=g.ex
 exact⟨f,fd,ok F,W.mg_of X G a,F.kp,F.binds b⟩
theorem GM.cal(g:GM K C x q st)(ok:∀ {f fd},Fun K x q st f fd->FP P w K mg base k f fd ps sp)
  (b:S8 x q st ps:=by intro _ _ _ _ _ _;first | exact SY λ_=>rfl | exact SZ λ_ _=>rfl | exact S0 λ_ _ _=>rfl | exact S4 λ_ _ _ _=>rfl | exact S5 λ_ _ _ _ _=>rfl | exact S6 λ_ _ _ _ _ _=>rfl | exact S7 λ_ _ _ _ _ _ _=>rfl):AT P w K mg base C k x ps sp:=by
 obtain⟨f,fd,a,i,F⟩:=g.ex
 exact⟨f,fd,ok F,⟨a,i,F.kp⟩,F.binds b⟩
theorem GN.cal(g:GN K C x q st)(X:K.In h)(G:h.Ns mainGlobals mg)(ok:∀ {f fd},Fun K "__init__" q st f fd->FP P w K mg base k f fd ps sp)
  (b:S8 "__init__" q st ps:=by intro _ _ _ _ _ _;first | exact SY λ_=>rfl | exact SZ λ_ _=>rfl | exact S0 λ_ _ _=>rfl | exact S4 λ_ _ _ _=>rfl | exact S5 λ_ _ _ _ _=>rfl | exact S6 λ_ _ _ _ _ _=>rfl | exact S7 λ_ _ _ _ _ _ _=>rfl):KA P w K mg base C k x ps sp:=by
 obtain⟨f,fd,a,i,F⟩:=g.m.ex
 exact⟨f,fd,ok F,⟨g.mks,a,i,g.kc⟩,W.mg_of X G g.ac,F.binds b⟩
theorem GF.law{fa:Addr}(g:GF K x st)(X:K.In h)(G:h.Ns mainGlobals mg)(hfa:mg x=some (.ref fa))
  (b:∀ (kV doc pm:Value) (an:Option Addr) (BR ct:Value) (s:Shared) (v:Value),BindsTo s (W.fnOf x x (IB st) (GD st) (A1 st) .none kV doc pm an BR ct) ⟨[v],[]⟩ [("script",v)]) :
  ∃ fd:FuncData,(∀ (s:Shared) (v:Value),BindsTo s fd ⟨[v],[]⟩ [("script",v)])/\Fun K x x st fa fd:=by
 obtain⟨f,fd,a,F⟩:=g.ex
 have e:=hfa.symm.trans (W.mg_of X G a)
 cases e
 obtain⟨oc,od,kV,doc,pm,an,BR,ct,osl,rfl,lk,HR⟩:=F.ex
 exact⟨_,b kV doc pm an BR ct,F⟩
end
end L2
namespace L2
section
variable{X:Cx}{o i value:Expr}{td ty tv:TE}{tpos pos:Pos}
end
section
variable{X:Cx}{tg:Expr}
end
section
variable{K:W.Frag}{g:TG}{tt:TT}{te:TE}{k:Nat}{cap:List Nat}{σ:St}{H:Hp}{Q:VK}
end
end L2
namespace L2
section
variable{prog:Program}{w:World}{K:Type}[DecidableEq K]{knd:HeapKind prog w K}{A:Around}{E:Value->Shared->Prop}{s:Shared}
end
theorem zL{td ty tx:TE}{σ:St}{H:Hp}{Q:VK}:R0 td ty tx σ H Q=(td σ H λx H1=>∃ a,x=.ref a/\MO H1 a/\ty σ H1 λy H2=>tx σ H2 λz H3=>∃ o,DGet H3 a y o/\Q (o.getD z) H3):=rfl
end L2
namespace L2
def S9(te:TE):TI:=λσ H R=>te σ H λx H1=>∃ d AD,x=.ref d/\H1 d=some (.dK AD)/\∀ o,R (OW d o AD) (upd H1 d (.frz o (.dK AD)))
theorem zM{X:Cx}{tg a:Expr}{te:TE}(ha:PE X a te):PI X tg a (S9 te):=by
 intro AA s σ H R I h
 refine AV (ha AA s σ H _ I h) λv s1 hzz=> ?_
 obtain⟨x,H1,I1,r1,d,AD,e,hd,q⟩:=hzz
 subst e
 cases r1
 obtain⟨z,y,vs,r,o,es,ep,g1,g2,g3,g4,g5,g6⟩:=(show ObjOk X.prog X.w H1 s1.heap d (.dK AD)from I1.hok d _ hd)
 refine y8 y g1 g2 g3 ?_
 have new:ObjOk X.prog X.w (upd H1 d (.frz o (.dK AD))) s1.heap d (.frz o (.dK AD)):=⟨g1,(I1.hok d _ hd).stay (λ_ _ _ e=>e) (λb e=>by rw[AH (BH e hd (by intro z;cases z))];exact e) λb xs e=>by rw[AH (BH e hd (by intro z;cases z))];exact e⟩
 have I2:Inv X AA σ (upd H1 d (.frz o (.dK AD))) { s1 with heap:=s1.heap,toks:=s1.toks }:=I1.write (by rw[hd];trivial) (.inl rfl) (λ_ _ _ e=>e) ⟨o,g1⟩ new
 have I3:Inv X AA σ (upd H1 d (.frz o (.dK AD))) { s1 with heap:=s1.heap.push { cls:=.type "dict_keyiterator",data:=.fields #[.ref d,.int 0 0,.int es.size 0,.int ep 0] } }:=I2.kept (t':=s1.toks) λb o e=>Heap.get?_push_of_some _ e
 exact⟨_,[s1.heap.objs.size],_,_,_,rfl,I3,zJ d s1.heap.objs.size g3,⟨_,Heap.get?_push_size _ rfl,rfl,by simp⟩,λb hb=>by
  have e:b=s1.heap.objs.size:=by simpa using hb
  subst e
  exact I2.fpOk (Nat.le_refl _) (I2.hok.fresh (Nat.le_refl _)),q o⟩
theorem zN{d:Addr}{ob:Obj}{AD:List (AM × V)}{g:TG}{tb:TS}{D:Ends}{σ:St}{H:Hp}(Pv:Nat->St->Hp->Prop)(h0:Pv 0 σ H)(hl:∀ i σ H,i<=AD.length->Pv i σ H->H d=some (.frz ob (.dK AD)))
  (hs:∀ i k v σ H,AD[i]? =some (k,v)->Pv i σ H->g (kV k) σ H λσ2 H2=>tb { D with nx:=Pv (i+1),ct:=Pv (i+1),bk:=D.nx } σ2 H2) (hd:∀ σ H,Pv AD.length σ H->D.nx σ H):HH (OW d ob AD) g tb D σ H:=by
 refine⟨λi m σ H=>m=AD.length - i/\i<=AD.length/\Pv i σ H,⟨_,rfl,Nat.zero_le _,h0⟩,?_⟩
 rintro i m σ H ⟨rfl,hi,p⟩
 by_cases BI:i<AD.length
 ·refine .inr ⟨⟨hl i σ H hi p,BI⟩,Pv (i+1),λσ' H' p'=>⟨_,by omega,rfl,by omega,p'⟩,?_⟩
  rintro x H' ⟨rfl,k,v,rfl,e1⟩
  exact hs i k v σ H' e1 p
 ·have e:i=AD.length:=by omega
  subst e
  exact .inl ⟨⟨hl _ σ H hi p,hi⟩,hd σ H p⟩
theorem zO{te:TE}{g:TG}{s1:TS}{D:Ends}{σ:St}{H:Hp}:DR (S9 te) g s1 D σ H=(te σ H λx H1=>∃ d AD,x=.ref d/\H1 d=some (.dK AD)/\∀ o,HH (OW d o AD) g s1 D σ (upd H1 d (.frz o (.dK AD)))):=rfl
end L2
namespace L2
abbrev Ad:=String->Addr
def SameBut(F:Addr->Prop)(H H':Hp):Prop:=∀ b o,H b=some o->¬ F b->H' b=some o
structure D6(K:W.Frag)(a:Ad):Prop where
 cl:Cls K (a "Plank")
 nC:NoAttr K (a "Plank") "contents"
 nW:NoAttr K (a "Plank") "width"
 nN:NoAttr K (a "Plank") "written"
def pf(cl:Addr)(w n:Int):List (Str × V):=[("contents",.ref cl),("width",.int w),("written",.int n)]
theorem dD:¬ ("contents":Str)="width":=by decide +kernel
theorem TC:¬ ("contents":Str)="written":=by decide +kernel
theorem TF:¬ ("width":Str)="written":=by decide +kernel
theorem OX(cl:Addr)(w n:Int):(pf cl w n).lookup ("contents":Str)=some (V.ref cl):=by simp[pf]
theorem dE(cl:Addr)(w n:Int):(pf cl w n).lookup ("width":Str)=some (V.int w):=by
 have h:(("width":Str) == "contents")=false:=beq_eq_false_iff_ne.mpr (Ne.symm dD)
 simp[pf,List.lookup_cons,h]
theorem zP(cl:Addr)(w n:Int):(pf cl w n).lookup ("written":Str)=some (V.int n):=by
 have h:(("written":Str) == "contents")=false:=beq_eq_false_iff_ne.mpr (Ne.symm TC)
 have h2:(("written":Str) == "width")=false:=beq_eq_false_iff_ne.mpr (Ne.symm TF)
 simp[pf,List.lookup_cons,h,h2]
theorem zQ(cl:Addr)(w n:Int):A7 "written" (.int n) (A7 "width" (.int w) (A7 "contents" (.ref cl) []))=pf cl w n:=by
 simp only[A7,pf]
 rw[if_neg dD]
 simp only[A7]
 rw[if_neg TC,if_neg TF]
theorem zR(cl:Addr)(w n m:Int):A7 "written" (.int m) (pf cl w n)=pf cl w m:=by
 simp only[A7,pf]
 rw[if_neg TC,if_neg TF]
 simp
theorem K8(cl:Addr)(w n:Int){m:Str}(h1:¬ m="contents")(h2:¬ m="width")(h3:¬ m="written"):(pf cl w n).lookup m=none:=by
 have e1:=beq_eq_false_iff_ne.mpr h1
 have e2:=beq_eq_false_iff_ne.mpr h2
 have e3:=beq_eq_false_iff_ne.mpr h3
 simp[pf,List.lookup_cons,e1,e2,e3]
structure PlankAt(a:Ad)(H:Hp)(p cl:Addr)(w:Nat)(rows:List (List V))(n:Nat):Prop where
 ob:∃ dx,H p=some (.ins (a "Plank") dx (pf cl w n))
 ls:∃ ts:List Addr,H cl=some (.lst (ts.map V.ref))/\Paired (λt r=>H t=some (.tup r)) ts rows
 wd:∀ r∈rows,r.length=w
 sz:rows.length<=1000
 sw:w<=1000
theorem PlankAt.ne{a:Ad}{H:Hp}{p cl:Addr}{w:Nat}{rows:List (List V)}{n:Nat}(P:PlankAt a H p cl w rows n):p≠cl:=by
 obtain⟨⟨dx,h1⟩,⟨ts,h2,_⟩,_⟩:=P
 exact BH h1 h2 (by intro z;cases z)
theorem PlankAt.same{a:Ad}{H H':Hp}{p cl:Addr}{w:Nat}{rows:List (List V)}{n:Nat}(P:PlankAt a H p cl w rows n)(s:Same H H'):PlankAt a H' p cl w rows n:=by
 obtain⟨⟨dx,e1⟩,⟨ts,e2,e3⟩,r1,r2,r3⟩:=P
 exact⟨⟨dx,s _ _ e1⟩,⟨ts,s _ _ e2,Paired.mapP e3 λt r q=>s _ _ q⟩,r1,r2,r3⟩
def OY(K:W.Frag)(a:Ad):Sp:=λvs H Q _=>∃ (p dx:Addr) (m w:Nat),vs=[.ref p,.int m,.int w]/\D6 K a/\H p=some (.ins (a "Plank") dx [])/\m<=1000/\1<=w/\w<=1000 ∧
 ∀ cl H',H cl=none->PlankAt a H' p cl w (List.replicate m (List.replicate w .non)) 0->SameBut (· =p) H H'->Q .non H'
def K9(K:W.Frag)(a:Ad):Sp:=λvs H Q _=>∃ p cl w rows n,vs=[.ref p]/\D6 K a/\PlankAt a H p cl w rows n/\Q (.int rows.length) H
def OZ(K:W.Frag)(a:Ad):Sp:=λvs H Q _=>∃ (p cl:Addr) (w:Nat) (rows:List (List V)) (n:Nat),vs=[.ref p]/\D6 K a/\PlankAt a H p cl w rows n/\Q (.int w) H
def JK(K:W.Frag)(a:Ad):Sp:=λvs H Q E=>∃ (p cl:Addr) (w:Nat) (rows:List (List V)) (n:Nat) (b:Int),vs=[.ref p,.int b]/\D6 K a/\PlankAt a H p cl w rows n ∧
 (0<=b->b<rows.length->Q .non H)/\(b<0\/rows.length<=b->E (.ref (a "NoBlock")) none H)
def JL(K:W.Frag)(a:Ad):Sp:=λvs H Q E=>∃ (p cl:Addr) (w:Nat) (rows:List (List V)) (n:Nat) (b:Int),vs=[.ref p,.int b]/\D6 K a/\PlankAt a H p cl w rows n ∧
 (∀ (i:Nat) row,b=i->rows[i]? =some row->∀ l,H l=none->Q (.ref l) (upd H l (.lst row)))/\(b<0\/rows.length<=b->E (.ref (a "NoBlock")) none H)
def O0(K:W.Frag)(a:Ad):Sp:=λvs H Q E=>∃ (p cl:Addr) (w:Nat) (rows:List (List V)) (n:Nat) (b:Int) (v:Addr) (xs:List V),vs=[.ref p,.int b,.ref v]/\D6 K a/\PlankAt a H p cl w rows n/\SqL K H v xs/\xs.length<=2000 ∧
 (∀ (i:Nat),b=i->i<rows.length->xs.length=w->∀ H',PlankAt a H' p cl w (rows.set i xs) (n+1)->SameBut (λx=>x=p\/x=cl) H H'->Q .non H') ∧
 (b<0\/rows.length<=b\/xs.length≠w->E (.ref (a "NoBlock")) none H)
end L2
namespace L2
theorem CT{K:W.Frag}{H:Hp}{p:Addr}{xs:List V}{i:Int}{n:Nat}{v:V}{Q:VK}(h:H p=some (.tup xs))(hi:i=n)(hx:xs[n]? =some v)(q:Q v H):CQ K (.ref p) (.int i) H Q :=
 .inr (.inl ⟨p,xs,i,v,rfl,rfl,SqT.of h,by rw[hi];exact N9 hx,q⟩)
theorem LA{C C' dx dx':Addr}{fs fs':List (Str × V)}(h:fs≠fs'):HO.ins C dx fs≠HO.ins C' dx' fs':=by
 intro z
 injection z with _ _ z
 exact h z
theorem zS(xs:List V){k:Int}(h:0<=k):EQ xs none (some k)=xs.take k.toNat:=by
 unfold EQ
 have e:HT.sIx xs.length xs.length (some k)=min k.toNat xs.length:=by
  show(if k<0 then(k+(xs.length:Int)).toNat else min k.toNat xs.length)=_
  rw[if_neg (by omega)]
 rw[e,HT.sIx_none,List.drop_zero,Nat.sub_zero,List.take_eq_take_iff]
 omega
theorem zT(xs:List V){k:Int}(h:0<=k):EQ xs (some k) none=xs.drop k.toNat:=by
 unfold EQ
 have e:HT.sIx xs.length 0 (some k)=min k.toNat xs.length:=by
  show(if k<0 then(k+(xs.length:Int)).toNat else min k.toNat xs.length)=_
  rw[if_neg (by omega)]
 rw[e,HT.sIx_none]
 rcases Nat.lt_or_ge k.toNat xs.length with z | z
 ·rw[Nat.min_eq_left (Nat.le_of_lt z),List.take_of_length_le (by rw[List.length_drop];exact Nat.le_refl _)]
 ·rw[Nat.min_eq_right z,List.drop_of_length_le (Nat.le_refl _),List.drop_of_length_le z];simp
theorem zU{K:W.Frag}{H:Hp}{p:Addr}{xs:List V}{lo hi:Option Int}{Q:VK}(h:SqL K H p xs)(q:∀ r,H r=none->Q (.ref r) (upd H r (.lst (EQ xs lo hi)))):JJ K (.ref p) lo hi H Q:=.inl ⟨p,xs,rfl,h,q⟩
theorem SameBut.refl{F:Addr->Prop}(H:Hp):SameBut F H H:=λ_ _ e _=>e
theorem SameBut.trans{F:Addr->Prop}{H H' H2:Hp}(s:SameBut F H H')(t:SameBut F H' H2):SameBut F H H2:=λb o e n=>t _ _ (s _ _ e n) n
theorem SameBut.wide{F G:Addr->Prop}{H H':Hp}(s:SameBut F H H')(i:∀ x,F x->G x):SameBut G H H':=λb o e n=>s _ _ e λz=>n (i _ z)
theorem Same.sb{F:Addr->Prop}{H H':Hp}(s:Same H H'):SameBut F H H':=λb o e _=>s b o e
theorem SameBut.upd{F:Addr->Prop}{H H':Hp}{p:Addr}{o:HO}(s:SameBut F H H')(h:F p\/H p=none):SameBut F H (upd H' p o):=λb u e n=>by
 have:b≠p:=by
  rcases h with h | h
  ·exact λz=>n (z ▸ h)
  ·exact BL e h
 rw[AH this];exact s _ _ e n
structure Ch where
 blk:Nat
 cell:Nat
 val:V
 nd:List Int
def KD:List Ch->Int->Int->Option Nat
 | [],_,_=>none
 | c::r,i,j=>if(c.blk:Int)=i/\(c.cell:Int)=j then some r.length else KD r i j
def DZ(cs:List Ch)(i j:Int):Option Nat:=KD cs.reverse i j
def FZ:List Ch->Nat->List Nat
 | [],_=>[]
 | c::r,b=>if c.blk=b then FZ r b++[r.length]else FZ r b
def CH(cs:List Ch)(b:Nat):List Nat:=FZ cs.reverse b
theorem TJ(cs:List Ch)(c:Ch)(i j:Int):DZ (cs++[c]) i j=if(c.blk:Int)=i/\(c.cell:Int)=j then some cs.length else DZ cs i j:=by
 simp[DZ,KD]
theorem zV(cs:List Ch)(c:Ch)(b:Nat):CH (cs++[c]) b=if c.blk=b then CH cs b++[cs.length]else CH cs b:=by
 simp[CH,FZ]
theorem TK:∀ {l:List Ch} {i j:Int} {k:Nat},KD l i j=some k->k<l.length
 | [],_,_,_,h=>by cases h
 | c::r,i,j,k,h=>by
  unfold KD at h
  split at h
  ·cases h;simp
  ·have:=TK h
   simp only[List.length_cons];omega
theorem O1{cs:List Ch}{i j:Int}{k:Nat}(h:DZ cs i j=some k):k<cs.length:=by
 have:=TK h
 rwa [List.length_reverse]at this
theorem TM:∀ {l:List Ch} {b k:Nat},k∈FZ l b->k<l.length
 | [],_,_,h=>by cases h
 | c::r,b,k,h=>by
  unfold FZ at h
  split at h
  ·rcases List.mem_append.mp h with h | h
   ·have:=TM h
    simp only[List.length_cons];omega
   ·rw[List.mem_singleton.mp h];simp
  ·have:=TM h
   simp only[List.length_cons];omega
theorem TN{cs:List Ch}{b k:Nat}(h:k∈CH cs b):k<cs.length:=by
 have:=TM h
 rwa [List.length_reverse]at this
theorem dF:∀ (l:List Ch) (b:Nat),(FZ l b).length<=l.length
 | [],_=>Nat.le_refl _
 | c::r,b=>by
  have:=dF r b
  unfold FZ
  split<;>simp<;>omega
theorem dG(cs:List Ch)(b:Nat):(CH cs b).length<=cs.length:=by
 have:=dF cs.reverse b
 rwa [List.length_reverse]at this
def FB(pl:Addr)(v:V)(nt:Addr):List (Str × V):=[("place",.ref pl),("value",v),("needs",.ref nt)]
def bf(gp m mi lt ou:Addr):List (Str × V):=[("ground",.ref gp),("made",.ref m),("made_in",.ref mi),("latest",.ref lt),("outs",.ref ou)]
def FC(a b:Str):Bool:=a == b
section
variable{pl nt gp m mi lt ou:Addr}{v:V}
theorem CI{a b:Str}(h:FC a b=false):(a == b)=false:=h
theorem zW:(FB pl v nt).lookup ("place":Str)=some (V.ref pl):=by simp[FB]
theorem dH:(FB pl v nt).lookup ("value":Str)=some v:=by
 simp[FB,List.lookup_cons,CI (a:="value") (b:="place") (by decide +kernel)]
theorem zX:(FB pl v nt).lookup ("needs":Str)=some (V.ref nt):=by
 simp[FB,List.lookup_cons,CI (a:="needs") (b:="place") (by decide +kernel),CI (a:="needs") (b:="value") (by decide +kernel)]
theorem LB{f g:Str}{x y:V}{r:List (Str × V)}(h:FC g f=false):A7 f y ((g,x)::r)=(g,x)::A7 f y r:=by
 have:¬ g=f:=λe=>by rw[e]at h;simp[FC]at h
 simp[A7,this]
theorem LC{f:Str}{y:V}:A7 f y []=[(f,y)]:=rfl
theorem zY:A7 "needs" (.ref nt) (A7 "value" v (A7 "place" (.ref pl) []))=FB pl v nt:=by
 rw[LC,LB (by decide +kernel),LC,LB (by decide +kernel),LB (by decide +kernel),LC]
 rfl
theorem MZ:(bf gp m mi lt ou).lookup ("ground":Str)=some (V.ref gp):=by simp[bf]
theorem KE:(bf gp m mi lt ou).lookup ("made":Str)=some (V.ref m):=by
 simp[bf,List.lookup_cons,CI (a:="made") (b:="ground") (by decide +kernel)]
theorem TQ:(bf gp m mi lt ou).lookup ("made_in":Str)=some (V.ref mi):=by
 simp[bf,List.lookup_cons,CI (a:="made_in") (b:="ground") (by decide +kernel),CI (a:="made_in") (b:="made") (by decide +kernel)]
theorem dJ:(bf gp m mi lt ou).lookup ("latest":Str)=some (V.ref lt):=by
 simp[bf,List.lookup_cons,CI (a:="latest") (b:="ground") (by decide +kernel),CI (a:="latest") (b:="made") (by decide +kernel),CI (a:="latest") (b:="made_in") (by decide +kernel)]
theorem O2:(bf gp m mi lt ou).lookup ("outs":Str)=some (V.ref ou):=by
 simp[bf,List.lookup_cons,CI (a:="outs") (b:="ground") (by decide +kernel),CI (a:="outs") (b:="made") (by decide +kernel),CI (a:="outs") (b:="made_in") (by decide +kernel),CI (a:="outs") (b:="latest") (by decide +kernel)]
theorem DT{x:Str}(h:(FC x "ground" || FC x "made" || FC x "made_in" || FC x "latest" || FC x "outs")=false):(bf gp m mi lt ou).lookup x=none:=by
 simp only[Bool.or_eq_false_iff]at h
 obtain⟨⟨⟨⟨h1,h2⟩,h3⟩,h4⟩,h5⟩:=h
 simp[bf,List.lookup_cons,CI h1,CI h2,CI h3,CI h4,CI h5]
theorem zZ:A7 "outs" (.ref ou) (A7 "latest" (.ref lt) (A7 "made_in" (.ref mi) (A7 "made" (.ref m) (A7 "ground" (.ref gp) []))))=bf gp m mi lt ou:=by
 repeat (first | rw[LC] | rw[LB (by decide +kernel)])
 rfl
end
structure dM(K:W.Frag)(C D:Addr):Prop where
 cl:Cls K C
 nG:NoAttr K C "ground"
 nM:NoAttr K C "made"
 nI:NoAttr K C "made_in"
 nL:NoAttr K C "latest"
 nO:NoAttr K C "outs"
 cc:Cls K D
 nP:NoAttr K D "place"
 nV:NoAttr K D "value"
 nN:NoAttr K D "needs"
def ChAt(D:Addr)(H:Hp)(x:Addr)(c:Ch):Prop:=∃ dx pl nt,H x=some (.ins D dx (FB pl c.val nt))/\H pl=some (.tup [.int c.blk,.int c.cell])/\H nt=some (.tup (c.nd.map V.int))
structure BA where
 b:Addr
 gp:Addr
 m:Addr
 mi:Addr
 lt:Addr
 ou:Addr
 ls:List Addr
 cl:Addr
def BA.F(A:BA)(x:Addr):Prop:=x=A.m\/x=A.mi\/x∈A.ls\/x=A.lt\/x=A.ou\/x=A.cl
def KeysOk(CZ:List (AM × V))(n:Nat):Prop:=(CZ.map (·.1)).Nodup/\∀ p∈CZ,∃ x:Nat,p.1=Sum.inl (x:Int)/\x<n
theorem KeysOk.mono{CZ:List (AM × V)}{n m:Nat}(h:KeysOk CZ n)(hm:n<=m):KeysOk CZ m:=⟨h.1,λp hp=>by obtain⟨x,e,hx⟩:=h.2 p hp;exact⟨x,e,by omega⟩⟩
theorem KeysOk.len{CZ:List (AM × V)}{n:Nat}(h:KeysOk CZ n):CZ.length<=n:=by
 have:=List.Nodup.length_le_of_subset (l₂:=(List.range n).map λ(k:Nat)=>(Sum.inl (k:Int):AM)) h.1 λk hk=>by
  obtain⟨p,hp,rfl⟩:=List.mem_map.mp hk
  obtain⟨x,e,hx⟩:=h.2 p hp
  rw[e]
  exact List.mem_map.mpr ⟨x,List.mem_range.mpr hx,rfl⟩
 simpa using this
theorem KeysOk.put{CZ:List (AM × V)}{n:Nat}(h:KeysOk CZ n){k:Nat}(hk:k<n)(hn:BK CZ (.inl (k:Int))=none)(v:V):KeysOk (BW CZ (.inl (k:Int)) v) n:=by
 refine⟨t5 v h.1 hn,λp hp=> ?_⟩
 rw[bC v hn]at hp
 rcases List.mem_append.mp hp with hp | hp
 ·exact h.2 p hp
 ·rw[List.mem_singleton.mp hp];exact⟨k,rfl,hk⟩
structure BookIn(C D:Addr)(H:Hp)(A:BA)(w:Nat)(cs:List Ch)(outs:Int->Bool):Prop where
 ob:∃ dx,H A.b=some (.ins C dx (bf A.gp A.m A.mi A.lt A.ou))
 made:∃ chs:List Addr,H A.m=some (.lst (chs.map V.ref))/\Paired (ChAt D H) chs cs
 mil:H A.mi=some (.lst (A.ls.map V.ref))
 mic:∀ (i:Nat) l,A.ls[i]? =some l->H l=some (.lst ((CH cs i).map λ(k:Nat)=>V.int k))
 nd:A.ls.Nodup
 lat:∃ AD,H A.lt=some (.dT AD)/\(∀ i j:Int,BK AD [.inl i,.inl j]=(DZ cs i j).map λ(k:Nat)=>V.int k)/\AD.length<=cs.length
 out:∃ CZ,H A.ou=some (.dK CZ)/\(∀ k:Int,(BK CZ (.inl k)).isSome=outs k)/\KeysOk CZ cs.length
 sz:cs.length<=990
 inn:∀ c∈cs,c.blk<A.ls.length/\c.cell<w
 need:∀ (k:Nat) c,cs[k]? =some c->(∀ x∈c.nd,0<=x/\x<k)/\c.nd.Pairwise (· <·)/\c.nd.length<=100
 ap:A.m≠A.mi/\A.m∉A.ls/\A.mi∉A.ls/\A.cl≠A.m/\A.cl≠A.mi/\A.cl∉A.ls
 chn:∀ (k:Nat) c,cs[k]? =some c->∀ j,DZ (cs.take k) c.blk c.cell=some j->(j:Int)∈c.nd
structure BookAt(a:Ad)(C:Addr)(H:Hp)(A:BA)(w:Nat)(rows:List (List V))(n:Nat)(cs:List Ch)(outs:Int->Bool):Prop where
 bk:BookIn C (a "Change") H A w cs outs
 pk:PlankAt a H A.gp A.cl w rows n
 nb:A.ls.length=rows.length
def E3(o:Option HO):Prop:=(∀ xs,o≠some (.tup xs))/\∀ C dx fs,o≠some (.ins C dx fs)
theorem ChAt.sb{D:Addr}{G:Addr->Prop}{H H':Hp}(s:SameBut G H H')(g:∀ x,G x->E3 (H x)){x:Addr}{c:Ch}(h:ChAt D H x c):ChAt D H' x c:=by
 obtain⟨dx,pl,nt,e1,e2,e3⟩:=h
 exact⟨dx,pl,nt,s _ _ e1 λz=>(g _ z).2 _ _ _ e1,s _ _ e2 λz=>(g _ z).1 _ e2,s _ _ e3 λz=>(g _ z).1 _ e3⟩
theorem BookIn.sb{C D:Addr}{G:Addr->Prop}{H H':Hp}{A:BA}{w:Nat}{cs:List Ch}{outs:Int->Bool}(B:BookIn C D H A w cs outs)(s:SameBut G H H')(g:∀ x,G x->E3 (H x))(f:∀ x,G x->¬ A.F x):BookIn C D H' A w cs outs:=by
 obtain⟨⟨dx,e1⟩,⟨chs,e2,e3⟩,e4,e5,e6,⟨AD,e7,e8⟩,⟨CZ,e9,e10⟩,r1,r2,r3,r4,r5⟩:=B
 refine⟨⟨dx,s _ _ e1 λz=>(g _ z).2 _ _ _ e1⟩,⟨chs,s _ _ e2 λz=>f _ z (.inl rfl),Paired.mapP e3 λx c h=>h.sb s g⟩,s _ _ e4 λz=>f _ z (.inr (.inl rfl)),λi l h=>s _ _ (e5 i l h) λz=>f _ z (.inr (.inr (.inl (List.mem_of_getElem? h)))),e6,
  ⟨AD,s _ _ e7 λz=>f _ z (.inr (.inr (.inr (.inl rfl)))),e8⟩,⟨CZ,s _ _ e9 λz=>f _ z (.inr (.inr (.inr (.inr (.inl rfl))))),e10⟩,r1,r2,r3,r4,r5⟩
theorem PlankAt.sbL{a:Ad}{G:Addr->Prop}{H H':Hp}{p cl:Addr}{w:Nat}{rows:List (List V)}{n:Nat}(P:PlankAt a H p cl w rows n)(s:SameBut G H H')(g:∀ x,G x->E3 (H x))(h:¬ G cl):PlankAt a H' p cl w rows n:=by
 obtain⟨⟨dx,e1⟩,⟨ts,e2,e3⟩,r1,r2,r3⟩:=P
 exact⟨⟨dx,s _ _ e1 λz=>(g _ z).2 _ _ _ e1⟩,⟨ts,s _ _ e2 h,Paired.mapP e3 λt r q=>s _ _ q λz=>(g _ z).1 _ q⟩,r1,r2,r3⟩
theorem BookAt.sb{a:Ad}{C:Addr}{G:Addr->Prop}{H H':Hp}{A:BA}{w:Nat}{rows:List (List V)}{n:Nat}{cs:List Ch}{outs:Int->Bool}(B:BookAt a C H A w rows n cs outs)(s:SameBut G H H')(g:∀ x,G x->E3 (H x))(f:∀ x,G x->¬ A.F x):BookAt a C H' A w rows n cs outs :=
 ⟨B.bk.sb s g f,B.pk.sbL s g λz=>f _ z (.inr (.inr (.inr (.inr (.inr rfl))))),B.nb⟩
theorem BookAt.same{a:Ad}{C:Addr}{H H':Hp}{A:BA}{w:Nat}{rows:List (List V)}{n:Nat}{cs:List Ch}{outs:Int->Bool}(B:BookAt a C H A w rows n cs outs)(s:Same H H'):BookAt a C H' A w rows n cs outs :=
 B.sb (G:=λ_=>False) (Same.sb s) (λ_ z=>z.elim) λ_ z=>z.elim
theorem BookAt.off{a:Ad}{C:Addr}{H:Hp}{A:BA}{w:Nat}{rows:List (List V)}{n:Nat}{cs:List Ch}{outs:Int->Bool}(B:BookAt a C H A w rows n cs outs){x:Addr}(h:H x=none):¬ A.F x:=by
 obtain⟨⟨_,⟨chs,e2,_⟩,e4,e5,_,⟨AD,e7,_⟩,⟨CZ,e9,_⟩,_⟩,⟨_,⟨ts,e11,_⟩,_⟩,_⟩:=B
 rintro (z | z | z | z | z | z)
 ·rw[z,e2]at h;cases h
 ·rw[z,e4]at h;cases h
 ·obtain⟨i,hi,e⟩:=List.getElem_of_mem z
  have:=e5 i x (by rw[<-e];exact List.getElem?_eq_getElem hi)
  rw[this]at h;cases h
 ·rw[z,e7]at h;cases h
 ·rw[z,e9]at h;cases h
 ·rw[z,e11]at h;cases h
theorem z6{α :Type}{l:List α}{x: α}(h:x∈l):∃ i:Nat,l[i]? =some x:=by
 obtain⟨i,hi,e⟩:=List.getElem_of_mem h
 exact⟨i,by rw[<-e];exact List.getElem?_eq_getElem hi⟩
theorem M3{H:Hp}{x:Addr}{xs:List V}(h:H x=some (.lst xs)):E3 (H x):=by
 rw[h];exact⟨λ_ z=>(by cases z),λ_ _ _ z=>(by cases z)⟩
theorem O3{H:Hp}{x:Addr}{xs:List (AM × V)}(h:H x=some (.dK xs)):E3 (H x):=by
 rw[h];exact⟨λ_ z=>(by cases z),λ_ _ _ z=>(by cases z)⟩
theorem z7{H:Hp}{x:Addr}{xs:List (List AM × V)}(h:H x=some (.dT xs)):E3 (H x):=by
 rw[h];exact⟨λ_ z=>(by cases z),λ_ _ _ z=>(by cases z)⟩
theorem BookAt.loose{a:Ad}{C:Addr}{H:Hp}{A:BA}{w:Nat}{rows:List (List V)}{n:Nat}{cs:List Ch}{outs:Int->Bool}(B:BookAt a C H A w rows n cs outs){x:Addr}(h:A.F x):E3 (H x):=by
 obtain⟨⟨_,⟨chs,e2,_⟩,e4,e5,_,⟨AD,e7,_⟩,⟨CZ,e9,_⟩,_⟩,⟨_,⟨ts,e11,_⟩,_⟩,_⟩:=B
 rcases h with z | z | z | z | z | z
 ·exact M3 (z ▸ e2)
 ·exact M3 (z ▸ e4)
 ·obtain⟨i,e⟩:=z6 z
  exact M3 (e5 i x e)
 ·exact z7 (z ▸ e7)
 ·exact O3 (z ▸ e9)
 ·exact M3 (z ▸ e11)
structure zdf(cs:List Ch)(outs:Int->Bool)(ns:List Int)(R:Int->Bool):Prop where
 all:∀ x∈ns,R x=true
 up:∀ (k:Nat) (c:Ch),cs[k]? =some c->outs k=false->R k=true->∀ y∈c.nd,R y=true
 only:∀ x,R x=true->x∈ns\/∃ (k:Nat) (c:Ch),cs[k]? =some c/\outs k=false/\R k=true/\x∈c.nd
end L2
namespace L2
def LD(nd:List Int)(there:Int->Bool):Option Int:=nd.find? λx=> !there x
structure Pass where
 out:List Nat
 held:List (Nat × Int)
 gone:Int->Bool
def DM(cs:List Ch)(outs:Int->Bool)(s:Pass)(k:Nat):Pass :=
 if outs k || s.gone k then s else
  match (cs[k]?).bind λc=>LD c.nd λx=>outs x || s.gone x with
  | none=>⟨s.out++[k],s.held,λx=>s.gone x || x ==(k:Int)⟩
  | some l=>⟨s.out,s.held++[(k,l)],s.gone⟩
def outcome(cs:List Ch)(outs taken:Int->Bool)(b:Nat):Pass:=(CH cs b).foldl (DM cs outs) ⟨[],[],taken⟩
def FH(cs:List Ch)(outs:Int->Bool)(r:List V)(k:Nat):List V :=
 if outs k then match cs[k]? with
  | some c=>r.set c.cell c.val
  | none=>r
 else r
def ED(cs:List Ch)(outs:Int->Bool)(b:Nat)(row:List V):List V:=(CH cs b).foldl (FH cs outs) row
def EU(cs:List Ch)(outs:Int->Bool)(b:Nat):Int->Bool:=λx=>outs x || (outcome cs outs (λ_=>false) b).out.any λ(k:Nat)=>x ==(k:Int)
theorem z8{cs:List Ch}{outs:Int->Bool}(r:List V)(k:Nat):(FH cs outs r k).length=r.length:=by
 unfold FH
 split
 ·split
  ·rw[List.length_set]
  ·rfl
 ·rfl
theorem TR{cs:List Ch}{outs:Int->Bool}:∀ (l:List Nat) (r:List V),(l.foldl (FH cs outs) r).length=r.length
 | [],r=>rfl
 | k::l,r=>by rw[List.foldl_cons,TR l,z8]
theorem dN{cs:List Ch}{outs:Int->Bool}{b:Nat}{row:List V}:(ED cs outs b row).length=row.length:=TR _ _
theorem dO{cs:List Ch}{outs:Int->Bool}:∀ (l:List Nat) (s:Pass),(l.foldl (DM cs outs) s).out.length+(l.foldl (DM cs outs) s).held.length<=s.out.length+s.held.length+l.length
 | [],s=>by simp
 | k::l,s=>by
  rw[List.foldl_cons]
  have h:=dO (cs:=cs) (outs:=outs) l (DM cs outs s k)
  have h2:(DM cs outs s k).out.length+(DM cs outs s k).held.length<=s.out.length+s.held.length+1:=by
   unfold DM
   split
   ·omega
   ·split<;>simp<;>omega
  simp only[List.length_cons]
  omega
theorem dP{α β :Type}(f: β -> α -> β)(b: β){l:List α}{i:Nat}{x: α}(h:l[i]? =some x):(l.take (i+1)).foldl f b=f ((l.take i).foldl f b) x:=by
 obtain⟨hi,e⟩:=List.getElem?_eq_some_iff.mp h
 rw[<-e,<-List.take_append_getElem hi,List.foldl_append]
 rfl
theorem dQ(b:Nat):∀ l:List Ch,FZ l b=(List.range l.length).filter λ(k:Nat)=>(l.reverse[k]?).any λc=>c.blk == b
 | []=>rfl
 | c::r=>by
  have ih:=dQ b r
  have e:(List.range r.length).filter (λ(k:Nat)=>((c::r).reverse[k]?).any λc=>c.blk == b)=FZ r b:=by
   rw[ih]
   refine List.filter_congr λk hk=> ?_
   rw[List.reverse_cons,List.getElem?_append_left (by rw[List.length_reverse];exact List.mem_range.mp hk)]
  have e2:(c::r).reverse[r.length]? =some c:=by
   rw[List.reverse_cons,List.getElem?_append_right (by rw[List.length_reverse];exact Nat.le_refl _)]
   simp
  rw[List.length_cons,List.range_succ,List.filter_append,e]
  show(if c.blk=b then FZ r b++[r.length]else FZ r b)=_
  by_cases h:c.blk=b
  ·rw[if_pos h]
   simp[e2,h]
  ·rw[if_neg h]
   simp[e2,h]
theorem dR(cs:List Ch)(b:Nat):CH cs b=(List.range cs.length).filter λ(k:Nat)=>(cs[k]?).any λc=>c.blk == b:=by
 have:=dQ b cs.reverse
 rw[List.reverse_reverse,List.length_reverse]at this
 exact this
theorem z9(cs:List Ch)(b:Nat):(CH cs b).Pairwise (· <·):=by
 rw[dR]
 exact List.pairwise_lt_range.filter _
theorem TU{cs:List Ch}{b k:Nat}:k∈CH cs b↔∃ c,cs[k]? =some c/\c.blk=b:=by
 rw[dR,List.mem_filter,List.mem_range]
 constructor
 ·rintro ⟨h,h2⟩
  rw[List.getElem?_eq_getElem h]at h2 ⊢
  exact⟨_,rfl,by simpa using h2⟩
 ·rintro ⟨c,e,rfl⟩
  exact⟨(List.getElem?_eq_some_iff.mp e).1,by rw[e];simp⟩
theorem dU{cs:List Ch}{outs:Int->Bool}(s:Pass)(k:Nat):DM cs outs s k=s\/(outs k=false/\DM cs outs s k=⟨s.out++[k],s.held,λx=>s.gone x || x ==(k:Int)⟩)\/∃ l,DM cs outs s k=⟨s.out,s.held++[(k,l)],s.gone⟩:=by
 unfold DM
 split
 ·exact .inl rfl
 ·rename_i hc
  simp only[Bool.or_eq_true,not_or,Bool.not_eq_true]at hc
  split
  ·exact .inr (.inl ⟨hc.1,rfl⟩)
  ·exact .inr (.inr ⟨_,rfl⟩)
theorem dW{cs:List Ch}{outs:Int->Bool}:∀ (l:List Nat) (s:Pass),∃ l',(l.foldl (DM cs outs) s).out=s.out++l'/\l'.Sublist l/\(∀ k∈l',outs k=false)/\∀ x,(l.foldl (DM cs outs) s).gone x=(s.gone x || l'.any λ(k:Nat)=>x ==(k:Int))
 | [],s=>⟨[],by simp,.slnil,by simp,by simp⟩
 | k::l,s=>by
  rw[List.foldl_cons]
  obtain⟨l',h1,h2,h3,h4⟩:=dW (cs:=cs) (outs:=outs) l (DM cs outs s k)
  rcases dU (cs:=cs) (outs:=outs) s k with e | ⟨ho,e⟩ | ⟨l0,e⟩
  ·rw[e]at h1 h4 ⊢
   exact⟨l',h1,h2.cons _,h3,h4⟩
  ·rw[e]at h1 h4 ⊢
   refine⟨k::l',by rw[h1];simp,h2.cons_cons _,λx hx=> ?_,λx=> ?_⟩
   ·rcases List.mem_cons.mp hx with rfl | hx
    ·exact ho
    ·exact h3 x hx
   ·rw[h4,List.any_cons,Bool.or_assoc]
  ·rw[e]at h1 h4 ⊢
   exact⟨l',h1,h2.cons _,h3,h4⟩
theorem TV{cs:List Ch}{outs:Int->Bool}{b:Nat}:(outcome cs outs (λ_=>false) b).out.Pairwise (· <·)/\(∀ k∈(outcome cs outs (λ_=>false) b).out,outs k=false/\k∈CH cs b)/\∀ x,(outcome cs outs (λ_=>false) b).gone x=(outcome cs outs (λ_=>false) b).out.any λ(k:Nat)=>x ==(k:Int):=by
 obtain⟨l',h1,h2,h3,h4⟩:=dW (cs:=cs) (outs:=outs) (CH cs b) ⟨[],[],λ_=>false⟩
 have e:(outcome cs outs (λ_=>false) b).out=l':=by unfold outcome;rw[h1];rfl
 rw[e]
 exact⟨(z9 cs b).sublist h2,λk hk=>⟨h3 k hk,h2.subset hk⟩,λx=>by unfold outcome;rw[h4];simp⟩
def dX(H:Hp)(t ol hl:Addr)(out:List Nat)(held:List (Nat × Int)):Prop:=H t=some (.tup [.ref ol,.ref hl])/\H ol=some (.lst (out.map λ(k:Nat)=>V.int k))/\∃ hs:List Addr,H hl=some (.lst (hs.map V.ref))/\Paired (λx (p:Nat × Int)=>H x=some (.tup [.int p.1,.int p.2])) hs held
def O4(cs:List Ch)(r:List V)(k:Nat):List V:=match cs[k]? with
 | some c=>r.set c.cell c.val
 | none=>r
def O5(cs:List Ch)(ks:List Nat)(row:List V):List V:=ks.foldl (O4 cs) row
theorem Ab(cs:List Ch)(O:Int->Bool)(b:Nat)(row:List V):ED cs O b row=O5 cs ((CH cs b).filter λ(k:Nat)=>O k) row:=by
 unfold ED O5
 rw[List.foldl_filter]
 rfl
def HJ(cs:List Ch):List Nat->Nat->Option Ch
 | [],_=>none
 | k::r,j=>match HJ cs r j with
  | some c=>some c
  | none=>(cs[k]?).filter λc=>c.cell == j
theorem TW(cs:List Ch)(k:Nat)(r:List Nat)(j:Nat):HJ cs (k::r) j=match HJ cs r j with
  | some c=>some c
  | none=>(cs[k]?).filter λc=>c.cell == j:=rfl
theorem dY(cs:List Ch)(j:Nat):∀ (ks:List Nat) (row:List V),(O5 cs ks row)[j]? =(row[j]?).map λv=>((HJ cs ks j).map (·.val)).getD v
 | [],row=>by
  show row[j]? =_
  cases row[j]? <;>rfl
 | k::r,row=>by
  show(O5 cs r (O4 cs row k))[j]? =_
  rw[dY cs j r,TW]
  cases h:HJ cs r j with
  | some c =>
   unfold O4
   cases e:cs[k]? with
   | none=>rfl
   | some c0 =>
    dsimp only
    rw[List.getElem?_set]
    by_cases hj:c0.cell=j
    ·subst hj
     rw[if_pos rfl]
     by_cases hl:c0.cell<row.length
     ·rw[if_pos hl,List.getElem?_eq_getElem hl];rfl
     ·rw[if_neg hl,List.getElem?_eq_none (by omega)]
    ·rw[if_neg hj]
  | none =>
   unfold O4
   cases e:cs[k]? with
   | none=>rfl
   | some c0 =>
    dsimp only
    rw[List.getElem?_set]
    by_cases hj:c0.cell=j
    ·subst hj
     rw[if_pos rfl]
     by_cases hl:c0.cell<row.length
     ·rw[if_pos hl,List.getElem?_eq_getElem hl];simp[Option.filter]
     ·rw[if_neg hl,List.getElem?_eq_none (by omega)];rfl
    ·rw[if_neg hj]
     have:(Option.filter (λ(c:Ch)=>c.cell == j) (some c0))=none:=by simp[Option.filter,hj]
     rw[this]
theorem dZ{cs:List Ch}{j:Nat}{c:Ch}:∀ {ks:List Nat},HJ cs ks j=some c->∃ k∈ks,cs[k]? =some c/\c.cell=j/\(ks.Pairwise (· <·)->∀ k'∈ks,k<k'->∀ c',cs[k']? =some c'->c'.cell≠j)
 | [],h=>by cases h
 | k::r,h=>by
  rw[TW]at h
  cases e:HJ cs r j with
  | some c1 =>
   rw[e]at h
   cases h
   obtain⟨k1,h1,h2,h3,h4⟩:=dZ e
   refine⟨k1,List.mem_cons_of_mem _ h1,h2,h3,λhp k' hk' BI c' ec=> ?_⟩
   obtain⟨p1,p2⟩:=List.pairwise_cons.mp hp
   rcases List.mem_cons.mp hk' with rfl | hk'
   ·have:=p1 k1 h1;omega
   ·exact h4 p2 k' hk' BI c' ec
  | none =>
   rw[e]at h
   dsimp only at h
   cases ec:cs[k]? with
   | none=>rw[ec]at h;cases h
   | some c0 =>
    rw[ec]at h
    have hc:c0.cell=j/\c0=c:=by
     simp only[Option.filter]at h
     split at h
     ·rename_i hh;cases h;exact⟨by simpa using hh,rfl⟩
     ·cases h
    obtain⟨hc,rfl⟩:=hc
    refine⟨k,List.mem_cons_self ..,ec,hc,λhp k' hk' BI c' ec'=> ?_⟩
    rcases List.mem_cons.mp hk' with rfl | hk'
    ·omega
    ·exact lastAt_no e k' hk' c' ec'
where
 lastAt_no {cs:List Ch} {j:Nat}:∀ {ks:List Nat},HJ cs ks j=none->∀ k∈ks,∀ c,cs[k]? =some c->c.cell≠j
  | [],_,k,hk=>by cases hk
  | k0::r,h,k,hk=>λc ec hj=>by
   rw[TW]at h
   cases e:HJ cs r j with
   | some c1=>rw[e]at h;cases h
   | none =>
    rw[e]at h
    rcases List.mem_cons.mp hk with rfl | hk
    ·rw[ec]at h
     simp[Option.filter,hj]at h
    ·exact lastAt_no e k hk c ec hj
theorem d0{i j:Int}:∀ {l:List Ch} {k:Nat} {c:Ch},l.reverse[k]? =some c->(c.blk:Int)=i->(c.cell:Int)=j->∃ j0 c0,KD l i j=some j0/\k<=j0/\l.reverse[j0]? =some c0/\(c0.blk:Int)=i/\(c0.cell:Int)=j
 | [],k,c,h,_,_=>by simp at h
 | c1::r,k,c,h,h1,h2=>by
  have hk:=(List.getElem?_eq_some_iff.mp h).1
  rw[List.length_reverse,List.length_cons]at hk
  unfold KD
  by_cases hp:(c1.blk:Int)=i/\(c1.cell:Int)=j
  ·rw[if_pos hp]
   refine⟨r.length,c1,rfl,by omega,?_,hp⟩
   rw[List.reverse_cons,List.getElem?_append_right (by rw[List.length_reverse];exact Nat.le_refl _)]
   simp
  ·rw[if_neg hp]
   have BI:k<r.length:=by
    rcases Nat.lt_or_ge k r.length with z | z
    ·exact z
    ·exfalso
     have:k=r.length:=by omega
     subst this
     rw[List.reverse_cons,List.getElem?_append_right (by rw[List.length_reverse];exact Nat.le_refl _)]at h
     simp at h
     subst h
     exact hp ⟨h1,h2⟩
   rw[List.reverse_cons,List.getElem?_append_left (by rw[List.length_reverse];exact BI)]at h
   obtain⟨j0,c0,e1,e2,e3,e4⟩:=d0 h h1 h2
   refine⟨j0,c0,e1,e2,?_,e4⟩
   have:=TK e1
   rw[List.reverse_cons,List.getElem?_append_left (by rw[List.length_reverse];exact this)]
   exact e3
theorem Ac{cs:List Ch}{k:Nat}{c:Ch}(h:cs[k]? =some c):∃ j0 c0,DZ cs c.blk c.cell=some j0/\k<=j0/\cs[j0]? =some c0/\c0.blk=c.blk/\c0.cell=c.cell:=by
 obtain⟨j0,c0,e1,e2,e3,e4,e5⟩:=d0 (l:=cs.reverse) (i:=c.blk) (j:=c.cell) (by rw[List.reverse_reverse];exact h) rfl rfl
 rw[List.reverse_reverse]at e3
 exact⟨j0,c0,e1,e2,e3,by omega,by omega⟩
def O6(cs:List Ch)(outs:Int->Bool):Prop:=∀ (k:Nat) (c:Ch),cs[k]? =some c->outs k=true->∀ y∈c.nd,outs y=true
theorem Ag{cs:List Ch}{outs:Int->Bool}(s:Pass)(k:Nat)(h:(DM cs outs s k).out=s.out++[k]):∀ c,cs[k]? =some c->∀ y∈c.nd,(outs y || s.gone y)=true:=λc ec y hy=>by
 unfold DM at h
 split at h
 ·exact absurd h (by intro z;have:=congrArg List.length z;simp at this)
 ·rw[ec]at h
  simp only[Option.bind_some]at h
  split at h
  ·rename_i hn
   have:=List.find?_eq_none.mp hn y hy
   cases e:(outs y || s.gone y)with
   | true=>rfl
   | false =>
    have this:¬ (!(outs y || s.gone y))=true:=this
    rw[e]at this
    exact absurd rfl this
  ·exact absurd h (by intro z;have:=congrArg List.length z;simp at this)
theorem d6{cs:List Ch}{outs:Int->Bool}:∀ (l:List Nat) (s:Pass),(∀ k∈s.out,∀ c,cs[k]? =some c->∀ y∈c.nd,(outs y || s.gone y)=true)->∀ k∈(l.foldl (DM cs outs) s).out,∀ c,cs[k]? =some c->∀ y∈c.nd,(outs y || (l.foldl (DM cs outs) s).gone y)=true
 | [],s,h=>h
 | k::l,s,h=>by
  rw[List.foldl_cons]
  refine d6 l _ ?_
  rcases dU (cs:=cs) (outs:=outs) s k with e | ⟨ho,e⟩ | ⟨l0,e⟩
  ·rw[e];exact h
  ·have hl:=Ag (cs:=cs) (outs:=outs) s k (by rw[e])
   rw[e]
   intro k' hk' c ec y hy
   rcases List.mem_append.mp hk' with hk' | hk'
   ·have:=h k' hk' c ec y hy
    rw[<-Bool.or_assoc,this,Bool.true_or]
   ·rw[List.mem_singleton.mp hk']at ec
    have:=hl c ec y hy
    rw[<-Bool.or_assoc,this,Bool.true_or]
  ·rw[e];exact h
theorem Ah{cs:List Ch}{outs:Int->Bool}(cut:O6 cs outs)(b:Nat):O6 cs (EU cs outs b):=λk c ec ho y hy=>by
 obtain⟨_,_,hg⟩:=TV (cs:=cs) (outs:=outs) (b:=b)
 unfold EU at ho ⊢
 rw[Bool.or_eq_true]at ho
 rcases ho with ho | ho
 ·rw[cut k c ec ho y hy,Bool.true_or]
 ·obtain⟨k',hk',e⟩:=List.any_eq_true.mp ho
  have e:(k:Int)=k':=by simpa using e
  have e:k=k':=by omega
  subst e
  have:=d6 (cs:=cs) (outs:=outs) (CH cs b) ⟨[],[],λ_=>false⟩ (by simp) k hk' c ec y hy
  rw[<-hg y]
  exact this
end L2
namespace L2
end L2
namespace L2
structure DU(K:W.Frag)(a:Ad):Prop where
 cl:Cls K (a "Layout")
 n1:NoAttr K (a "Layout") "name_blocks"
 n2:NoAttr K (a "Layout") "record_blocks"
 n3:NoAttr K (a "Layout") "piece_blocks"
 n4:NoAttr K (a "Layout") "width"
section
variable{n r c w:Int}
def lf(n r c w:Int):List (Str × V):=[("name_blocks",.int n),("record_blocks",.int r),("piece_blocks",.int c),("width",.int w)]
theorem O7:(lf n r c w).lookup ("name_blocks":Str)=some (V.int n):=by simp[lf]
theorem M4:(lf n r c w).lookup ("record_blocks":Str)=some (V.int r):=by
 simp[lf,List.lookup_cons,CI (a:="record_blocks") (b:="name_blocks") (by decide +kernel)]
theorem TX:(lf n r c w).lookup ("piece_blocks":Str)=some (V.int c):=by
 simp[lf,List.lookup_cons,CI (a:="piece_blocks") (b:="name_blocks") (by decide +kernel),CI (a:="piece_blocks") (b:="record_blocks") (by decide +kernel)]
theorem LE:(lf n r c w).lookup ("width":Str)=some (V.int w):=by
 simp[lf,List.lookup_cons,CI (a:="width") (b:="name_blocks") (by decide +kernel),CI (a:="width") (b:="record_blocks") (by decide +kernel),CI (a:="width") (b:="piece_blocks") (by decide +kernel)]
theorem BX{x:Str}(h:(FC x "name_blocks" || FC x "record_blocks" || FC x "piece_blocks" || FC x "width")=false):(lf n r c w).lookup x=none:=by
 simp only[Bool.or_eq_false_iff]at h
 obtain⟨⟨⟨h1,h2⟩,h3⟩,h4⟩:=h
 simp[lf,List.lookup_cons,CI h1,CI h2,CI h3,CI h4]
theorem Aj:A7 "width" (.int w) (A7 "piece_blocks" (.int c) (A7 "record_blocks" (.int r) (A7 "name_blocks" (.int n) [])))=lf n r c w:=by
 repeat (first | rw[LC] | rw[LB (by decide +kernel)])
 rfl
end
structure LayAt(a:Ad)(H:Hp)(p:Addr)(n r c w:Nat):Prop where
 ob:∃ dx,H p=some (.ins (a "Layout") dx (lf n r c w))
 hn:n<=100
 hr:r<=100
 hc:c<=100
 h1:1<=w
 hw:w<=100
theorem LayAt.same{a:Ad}{H H':Hp}{p:Addr}{n r c w:Nat}(L:LayAt a H p n r c w)(s:Same H H'):LayAt a H' p n r c w:=by
 obtain⟨⟨dx,e⟩,z1,z2,z3,z4,z5⟩:=L
 exact⟨⟨dx,s _ _ e⟩,z1,z2,z3,z4,z5⟩
theorem LayAt.sb{a:Ad}{F:Addr->Prop}{H H':Hp}{p:Addr}{n r c w:Nat}(L:LayAt a H p n r c w)(s:SameBut F H H')(f:¬ F p):LayAt a H' p n r c w:=by
 obtain⟨⟨dx,e⟩,z1,z2,z3,z4,z5⟩:=L
 exact⟨⟨dx,s _ _ e f⟩,z1,z2,z3,z4,z5⟩
def O8(K:W.Frag)(a:Ad):Sp:=λvs H Q _=>∃ (p dx:Addr) (n r c w:Nat),vs=[.ref p,.int n,.int r,.int c,.int w]/\DU K a/\H p=some (.ins (a "Layout") dx [])/\n<=100/\r<=100/\c<=100/\1<=w/\w<=100 ∧
 ∀ H',LayAt a H' p n r c w->SameBut (· =p) H H'->Q .non H'
def GG(x y:Int)(Q:VK)(H:Hp):Prop:=∀ t,H t=none->Q (.ref t) (upd H t (.tup [.int x,.int y]))
def GH(K:W.Frag)(a:Ad):Sp:=λvs H Q _=>∃ (p:Addr) (n r c w k:Nat) (b:Int),vs=[.ref p,.int b,.int k]/\DU K a/\LayAt a H p n r c w/\GG (b+k / w) (k % w) Q H
def F1(K:W.Frag)(a:Ad):Sp:=λvs H Q _=>∃ (p:Addr) (n r c w k:Nat),vs=[.ref p,.int k]/\DU K a/\LayAt a H p n r c w/\GG (0+k / w) (k % w) Q H
def EV(K:W.Frag)(a:Ad):Sp:=λvs H Q _=>∃ (p:Addr) (n r c w k:Nat),vs=[.ref p,.int k]/\DU K a/\LayAt a H p n r c w/\GG (n+k / w) (k % w) Q H
def KF(K:W.Frag)(a:Ad):Sp:=λvs H Q _=>∃ (p:Addr) (n r c w k:Nat),vs=[.ref p,.int k]/\DU K a/\LayAt a H p n r c w/\GG (n+r+k / w) (k % w) Q H
def GZ(K:W.Frag)(a:Ad):Sp:=λvs H Q _=>∃ (p:Addr) (n r c w k:Nat),vs=[.ref p,.int k]/\DU K a/\LayAt a H p n r c w/\GG (n+r+c+k / w) (k % w) Q H
def F2(K:W.Frag)(a:Ad):Sp:=λvs H Q _=>∃ (p:Addr) (n r c w k:Nat),vs=[.ref p,.int k]/\DU K a/\LayAt a H p n r c w/\GG (n+r+c+r+k / w) (k % w) Q H
def JM(K:W.Frag)(a:Ad):Sp:=λvs H Q _=>∃ (p:Addr) (n r c w:Nat),vs=[.ref p]/\DU K a/\LayAt a H p n r c w/\Q (.int (n+r+c)) H
def IF(K:W.Frag)(a:Ad):Sp:=λvs H Q _=>∃ (p:Addr) (n r c w:Nat),vs=[.ref p]/\DU K a/\LayAt a H p n r c w/\Q (.int (n+r+c+r+c)) H
def FI(K:W.Frag)(a:Ad):Sp:=λvs H Q _=>∃ (p:Addr) (n r c w:Nat),vs=[.ref p]/\DU K a/\LayAt a H p n r c w/\∀ t,H t=none->Q (.ref t) (upd H t (.tup [.int (n * w),.int (r * w),.int (c * w)]))
def O9(K:W.Frag)(a:Ad):Sp:=λvs H Q _=>∃ (p:Addr) (n r c w:Nat),vs=[.ref p]/\DU K a/\D6 K a/\LayAt a H p n r c w ∧
 ∀ x cl H',H x=none->H cl=none->PlankAt a H' x cl w (List.replicate (n+r+c+r+c) (List.replicate w .non)) 0->Same H H'->Q (.ref x) H'
end L2
namespace L2
inductive CV where
 | no
 | nm (z:Str) (k:Nat)
 | mk (i:Nat)
 | rc (m:Nat) (ps:List Nat)
 | tx (z:Str)
abbrev Md:=Nat->Nat->CV
def Md.put(M:Md)(kind k:Nat)(x:CV):Md:=λi j=>if i=kind/\j=k then x else M i j
structure AC where
 kind:Nat
 k:Nat
 x:CV
 nd:List Nat
def sh(M0:Md)(C:Nat->Bool):List AC->Md
 | []=>M0
 | a::r=>if C r.length then(sh M0 C r).put a.kind a.k a.x else sh M0 C r
abbrev B2(M0:Md)(as:List AC):Md:=sh M0 (λ_=>true) as
def G0(kind k:Nat):List AC->Option Nat
 | []=>none
 | a::r=>if a.kind=kind/\a.k=k then some r.length else G0 kind k r
def FJ(C:Nat->Bool):List AC->Prop
 | []=>True
 | a::r=>FJ C r/\(C r.length=true->(∀ y∈a.nd,C y=true)/\∀ j,G0 a.kind a.k r=some j->C j=true)
section
variable{M0 S:Md}{C:Nat->Bool}{as:List AC}{kind k m0:Nat}{x:CV}
theorem CK:S.put kind k x kind k=x:=if_pos ⟨rfl,rfl⟩
theorem D0{i j:Nat}(h:i≠kind):S.put kind k x i j=S i j:=if_neg λz=>h z.1
theorem DK{i j:Nat}(h:j≠k):S.put kind k x i j=S i j:=if_neg λz=>h z.2
theorem Ak(h:∀ j,G0 kind k as=some j->C j=true):sh M0 C as kind k=B2 M0 as kind k:=by
 induction as with
 | nil=>rfl
 | cons a r ih =>
  unfold G0 at h
  simp only[sh,if_true]
  by_cases e:a.kind=kind/\a.k=k
  ·rw[if_pos e]at h
   obtain⟨rfl,rfl⟩:=e
   rw[h _ rfl]
   simp only[if_true]
   rw[CK,CK]
  ·rw[if_neg e]at h
   have:=ih h
   have e':¬ (kind=a.kind/\k=a.k):=λz=>e ⟨z.1.symm,z.2.symm⟩
   unfold Md.put
   rw[if_neg e']
   by_cases c:C r.length=true
   ·rw[if_pos c,if_neg e'];exact this
   ·rw[if_neg c];exact this
theorem IG{a:AC}(h:FJ C (a::as))(c:C as.length=true):sh M0 C as a.kind a.k=B2 M0 as a.kind a.k:=Ak (h.2 c).2
theorem D1{a:AC}:B2 M0 (a::as)=(B2 M0 as).put a.kind a.k a.x:=rfl
theorem CL{a:AC}(c:C as.length=true):sh M0 C (a::as)=(sh M0 C as).put a.kind a.k a.x:=if_pos c
theorem D7{a:AC}(c:¬ C as.length=true):sh M0 C (a::as)=sh M0 C as:=if_neg c
def D2:CV->Nat->Bool
 | .nm _ r',r=>r' == r
 | _,_=>false
def ld(m0:Nat)(S:Md)(r:Nat):Nat:=(List.range m0).countP λk=>D2 (S 0 k) r
theorem PB{r:Nat}(h:kind≠0):ld m0 (S.put kind k x) r=ld m0 S r:=by
 unfold ld
 congr 1
 funext j
 rw[D0 h.symm]
theorem TY{r:Nat}:∀ {m0:Nat},k<m0->ld m0 (S.put 0 k x) r+(if D2 (S 0 k) r then 1 else 0)=ld m0 S r+(if D2 x r then 1 else 0):=by
 intro m0
 unfold ld
 induction m0 with
 | zero=>intro h;omega
 | succ n ih =>
  intro h
  rw[List.range_succ,List.countP_append,List.countP_append]
  simp only[List.countP_cons,List.countP_nil,Nat.zero_add]
  by_cases e:k=n
  ·subst e
   have:(List.range k).countP (λj=>D2 ((S.put 0 k x) 0 j) r)=(List.range k).countP (λj=>D2 (S 0 j) r):=List.countP_congr λj hj=>by
    rw[DK (by have:=List.mem_range.mp hj;omega)]
   rw[this,CK]
   omega
  ·have:=ih (by omega)
   rw[DK (λz=>e z.symm)]
   omega
structure Snd(m0:Nat)(S:Md):Prop where
 nl:∀ k z r,k<m0->S 0 k=.nm z r->∃ m ps,S 3 r=.rc m ps
 ct:∀ r m ps,S 3 r=.rc m ps->ld m0 S r<=m
 mr:∀ r m ps,S 3 r=.rc m ps->S 1 r=.mk 1
 nd:∀ r m ps,S 3 r=.rc m ps->ps.Nodup
 pm:∀ r m ps,S 3 r=.rc m ps->∀ p∈ps,S 2 p=.mk 1/\∃ t,S 4 p=.tx t
 dj:∀ r r' m m' ps ps',r≠r'->S 3 r=.rc m ps->S 3 r'=.rc m' ps'->∀ p∈ps,p∉ps'
 un:∀ k k' z r r',k<m0->k'<m0->S 0 k=.nm z r->S 0 k'=.nm z r'->k=k'
theorem Snd.rmark(I:Snd m0 S){r i:Nat}(h:i=1\/∀ m ps,S 3 r≠.rc m ps):Snd m0 (S.put 1 r (.mk i)):=by
 refine⟨I.nl,λr' m ps e=>I.ct r' m ps e,λr' m ps e=> ?_,I.nd,I.pm,I.dj,I.un⟩
 have e:S 3 r'=.rc m ps:=e
 by_cases z:r'=r
 ·subst z
  rw[CK]
  rcases h with h | h
  ·rw[h]
  ·exact absurd e (h m ps)
 ·rw[DK z];exact I.mr r' m ps e
theorem Snd.pmark(I:Snd m0 S){p i:Nat}(h:i=1\/∀ r m ps,S 3 r=.rc m ps->p∉ps):Snd m0 (S.put 2 p (.mk i)):=by
 refine⟨I.nl,λr' m ps e=>I.ct r' m ps e,I.mr,I.nd,λr' m ps e q hq=>⟨?_,(I.pm r' m ps e q hq).2⟩,I.dj,I.un⟩
 have e:S 3 r'=.rc m ps:=e
 by_cases z:q=p
 ·subst z
  rw[CK]
  rcases h with h | h
  ·rw[h]
  ·exact absurd hq (h r' m ps e)
 ·rw[DK z];exact(I.pm r' m ps e q hq).1
theorem Snd.text(I:Snd m0 S){p:Nat}{t:Str}:Snd m0 (S.put 4 p (.tx t)):=by
 refine⟨I.nl,λr' m ps e=>I.ct r' m ps e,I.mr,I.nd,λr' m ps e q hq=>⟨(I.pm r' m ps e q hq).1,?_⟩,I.dj,I.un⟩
 by_cases z:q=p
 ·subst z;exact⟨t,CK⟩
 ·rw[DK z];exact(I.pm r' m ps e q hq).2
theorem Snd.gone(I:Snd m0 S)(hk:k<m0):Snd m0 (S.put 0 k .no):=by
 have at':∀ {j z r},(S.put 0 k .no) 0 j=.nm z r->S 0 j=.nm z r:=λ{j z r} e=>by
  by_cases h:j=k
  ·subst h;rw[CK]at e;cases e
  ·rw[DK h]at e;exact e
 refine⟨λj z r hj e=>I.nl j z r hj (at' e),λr m ps e=> ?_,I.mr,I.nd,I.pm,I.dj,λj j' z r r' h h' e e'=>I.un j j' z r r' h h' (at' e) (at' e')⟩
 have l:=TY (S:=S) (x:=.no) (r:=r) hk
 have c:=I.ct r m ps e
 rw[show D2 .no r=false from rfl]at l
 simp only[Bool.false_eq_true,if_false]at l
 omega
theorem Snd.fill(I:Snd m0 S)(hk:k<m0){z:Str}{r m:Nat}{ps:List Nat}(h3:S 3 r=.rc m ps)(hl:ld m0 S r+1<=m)(hz:∀ j r',j<m0->S 0 j≠.nm z r')(h0:∀ z r,S 0 k≠.nm z r):Snd m0 (S.put 0 k (.nm z r)):=by
 have at':∀ {j y q},(S.put 0 k (.nm z r)) 0 j=.nm y q->(j=k/\y=z/\q=r)\/(j≠k/\S 0 j=.nm y q):=λ{j y q} e=>by
  by_cases h:j=k
  ·subst h;rw[CK]at e;cases e;exact .inl ⟨rfl,rfl,rfl⟩
  ·rw[DK h]at e;exact .inr ⟨h,e⟩
 refine⟨λj y q hj e=> ?_,λq m' ps' e=> ?_,I.mr,I.nd,I.pm,I.dj,λj j' y q q' h h' e e'=> ?_⟩
 ·rcases at' e with⟨_,_,rfl⟩ | ⟨_,e⟩
  ·exact⟨m,ps,h3⟩
  ·exact I.nl j y q hj e
 ·have e:S 3 q=.rc m' ps':=e
  have l:=TY (S:=S) (x:=.nm z r) (r:=q) hk
  have c:=I.ct q m' ps' e
  have n0:D2 (S 0 k) q=false:=by
   cases e0:S 0 k with
   | nm y q'=>exact absurd e0 (h0 y q')
   | _=>rfl
  rw[n0]at l
  simp only[D2]at l
  by_cases z:r=q
  ·subst z
   rw[e]at h3;cases h3
   simp at l;omega
  ·simp[z]at l;omega
 ·rcases at' e with⟨e1,e2,_⟩ | ⟨e1,e2⟩<;>rcases at' e' with⟨f1,f2,_⟩ | ⟨f1,f2⟩
  ·rw[e1,f1]
  ·subst e2;exact absurd f2 (hz _ _ h')
  ·subst f2;exact absurd e2 (hz _ _ h)
  ·exact I.un j j' y q q' h h' e2 f2
theorem Snd.recd(I:Snd m0 S){r m':Nat}{ps':List Nat}(hl:ld m0 S r<=m')(hm:S 1 r=.mk 1)(hn:ps'.Nodup)(hp:∀ p∈ps',(S 2 p=.mk 1/\∃ t,S 4 p=.tx t)/\∀ q m ps,q≠r->S 3 q=.rc m ps->p∉ps):Snd m0 (S.put 3 r (.rc m' ps')):=by
 have at':∀ {q m ps},(S.put 3 r (.rc m' ps')) 3 q=.rc m ps->(q=r/\m=m'/\ps=ps')\/(q≠r/\S 3 q=.rc m ps):=λ{q m ps} e=>by
  by_cases h:q=r
  ·subst h;rw[CK]at e;cases e;exact .inl ⟨rfl,rfl,rfl⟩
  ·rw[DK h]at e;exact .inr ⟨h,e⟩
 refine⟨λj z q hj e=> ?_,λq m ps e=> ?_,λq m ps e=> ?_,λq m ps e=> ?_,λq m ps e p h=> ?_,λq q' m m1 ps ps1 ne e e' p h=> ?_,I.un⟩
 ·by_cases h:q=r
  ·subst h;exact⟨m',ps',CK⟩
  ·rw[DK h];exact I.nl j z q hj e
 ·rw[PB (by decide)]
  rcases at' e with⟨rfl,rfl,_⟩ | ⟨_,e⟩
  ·exact hl
  ·exact I.ct q m ps e
 ·rcases at' e with⟨rfl,_,_⟩ | ⟨_,e⟩
  ·exact hm
  ·exact I.mr q m ps e
 ·rcases at' e with⟨_,_,rfl⟩ | ⟨_,e⟩
  ·exact hn
  ·exact I.nd q m ps e
 ·rcases at' e with⟨_,_,rfl⟩ | ⟨_,e⟩
  ·exact(hp p h).1
  ·exact I.pm q m ps e p h
 ·rcases at' e with⟨e1,_,rfl⟩ | ⟨e1,e2⟩<;>rcases at' e' with⟨f1,_,rfl⟩ | ⟨f1,f2⟩
  ·exact absurd (e1.trans f1.symm) ne
  ·exact(hp p h).2 q' m1 ps1 (λz=>ne (e1.trans z.symm)) f2
  ·exact λz=>(hp p z).2 q m ps (λy=>ne (y.trans f1.symm)) e2 h
  ·exact I.dj q q' m m1 ps ps1 ne e2 f2 p h
theorem Snd.count(I:Snd m0 S){r m m':Nat}{ps:List Nat}(h3:S 3 r=.rc m ps)(hl:ld m0 S r<=m'):Snd m0 (S.put 3 r (.rc m' ps)) :=
 I.recd hl (I.mr r m ps h3) (I.nd r m ps h3) λp hp=>⟨I.pm r m ps h3 p hp,λq m1 ps1 ne e=>I.dj r q m m1 ps ps1 ne.symm h3 e p hp⟩
theorem Snd.less(I:Snd m0 S){r m:Nat}{ps ps':List Nat}(h3:S 3 r=.rc m ps)(hs:ps'.Sublist ps):Snd m0 (S.put 3 r (.rc m ps')) :=
 I.recd (I.ct r m ps h3) (I.mr r m ps h3) ((I.nd r m ps h3).sublist hs) λp hp=>⟨I.pm r m ps h3 p (hs.subset hp),λq m1 ps1 ne e=>I.dj r q m m1 ps ps1 ne.symm h3 e p (hs.subset hp)⟩
theorem Snd.more(I:Snd m0 S){r m p:Nat}{ps:List Nat}{t:Str}(h3:S 3 r=.rc m ps)(h2:S 2 p=.mk 1)(h4:S 4 p=.tx t)(hu:∀ q m ps,S 3 q=.rc m ps->p∉ps):Snd m0 (S.put 3 r (.rc m (ps++[p]))):=by
 refine I.recd (I.ct r m ps h3) (I.mr r m ps h3) (List.nodup_append.mpr ⟨I.nd r m ps h3,by simp,λx hx y hy e=> ?_⟩) λy hy=> ?_
 ·rw[List.mem_singleton]at hy;subst hy;subst e;exact hu r m ps h3 hx
 ·rcases List.mem_append.mp hy with hy | hy
  ·exact⟨I.pm r m ps h3 y hy,λq m1 ps1 ne e=>I.dj r q m m1 ps ps1 ne.symm h3 e y hy⟩
  ·rw[List.mem_singleton.mp hy];exact⟨⟨h2,t,h4⟩,λq m1 ps1 _ e=>hu q m1 ps1 e⟩
theorem Snd.drop(I:Snd m0 S){r:Nat}(hl:ld m0 S r=0):Snd m0 (S.put 3 r .no):=by
 have at':∀ {q m ps},(S.put 3 r .no) 3 q=.rc m ps->S 3 q=.rc m ps:=λ{q m ps} e=>by
  by_cases h:q=r
  ·subst h;rw[CK]at e;cases e
  ·rw[DK h]at e;exact e
 refine⟨λj z q hj e=> ?_,λq m ps e=> ?_,λq m ps e=>I.mr q m ps (at' e),λq m ps e=>I.nd q m ps (at' e),λq m ps e=>I.pm q m ps (at' e),λq q' m m1 ps ps1 ne e e'=>I.dj q q' m m1 ps ps1 ne (at' e) (at' e'),I.un⟩
 ·have e:S 0 j=.nm z q:=e
  by_cases h:q=r
  ·subst h
   exfalso
   have:0<ld m0 S q:=List.countP_pos_iff.mpr ⟨j,List.mem_range.mpr hj,by have e:S 0 j=.nm z q:=e;simp[e,D2]⟩
   omega
  ·rw[DK h];exact I.nl j z q hj e
 ·rw[PB (by decide)];exact I.ct q m ps (at' e)
structure Hist(m0:Nat)(M0:Md)(as:List AC)(t o:Str->Option Nat):Prop where
 sd:∀ C,FJ C as->Snd m0 (sh M0 C as)
 k1:∀ z k r,k<m0->B2 M0 as 0 k=.nm z r->G0 0 k as=o z
 k2:∀ z,(∀ k r,k<m0->B2 M0 as 0 k≠.nm z r)->t z=o z
 k3:∀ C z,FJ C as->(∀ j,o z=some j->C j=true)->∀ k r,k<m0->(sh M0 C as 0 k=.nm z r↔B2 M0 as 0 k=.nm z r)
theorem d7:∀ as:List AC,FJ (λ_=>true) as
 | []=>trivial
 | _::r=>⟨d7 r,λ_=>⟨λ_ _=>rfl,λ_ _=>rfl⟩⟩
variable{t o:Str->Option Nat}
theorem Hist.now(I:Hist m0 M0 as t o):Snd m0 (B2 M0 as):=I.sd _ (d7 as)
theorem Hist.step(I:Hist m0 M0 as t o){a:AC}(ha:a.kind≠0)(h:∀ C,FJ C (a::as)->C as.length=true->Snd m0 ((sh M0 C as).put a.kind a.k a.x)):Hist m0 M0 (a::as) t o:=by
 have s0:∀ (C:Nat->Bool) (k:Nat),sh M0 C (a::as) 0 k=sh M0 C as 0 k:=λC k=>by
  by_cases c:C as.length=true
  ·rw[CL c,D0 ha.symm]
  ·rw[D7 c]
 have s1:∀ k:Nat,B2 M0 (a::as) 0 k=B2 M0 as 0 k:=s0 _
 refine⟨λC hC=> ?_,λz k r hk e=> ?_,λz e=>I.k2 z λk r hk=>by rw[<-s1];exact e k r hk,λC z hC ho k r hk=> ?_⟩
 ·by_cases c:C as.length=true
  ·rw[CL c];exact h C hC c
  ·rw[D7 c];exact I.sd C hC.1
 ·rw[s1]at e
  unfold G0
  rw[if_neg λz=>ha z.1]
  exact I.k1 z k r hk e
 ·rw[s0,s1];exact I.k3 C z hC.1 ho k r hk
def EE(f:Str->Option Nat)(z:Str)(j:Nat):Str->Option Nat:=λy=>if y=z then some j else f y
theorem Hist.fill(I:Hist m0 M0 as t o){z:Str}{k r:Nat}{nd:List Nat}(hk:k<m0)(h0:B2 M0 as 0 k=.no)(hz:∀ j r,j<m0->B2 M0 as 0 j≠.nm z r)(ht:∀ j,t z=some j->j∈nd)
  (h:∀ C,FJ C (⟨0,k,.nm z r,nd⟩::as)->C as.length=true->∃ m ps,sh M0 C as 3 r=.rc m ps/\ld m0 (sh M0 C as) r+1<=m):Hist m0 M0 (⟨0,k,.nm z r,nd⟩::as) t (EE o z as.length):=by
 have to:=I.k2 z hz
 have hnk:∀ {j y q},j<m0->B2 M0 as 0 j=.nm y q->j≠k/\y≠z:=λ{j y q} hj e=>⟨λe'=>(by rw[e',h0]at e;cases e),λe'=>hz j q hj (e' ▸ e)⟩
 have free:∀ C,FJ C (⟨0,k,.nm z r,nd⟩::as)->C as.length=true->sh M0 C as 0 k=.no/\∀ j q,j<m0->sh M0 C as 0 j≠.nm z q:=λC hC c=>by
  refine⟨by rw[IG (a:=⟨0,k,.nm z r,nd⟩) hC c];exact h0,λj q hj e=> ?_⟩
  exact hz j q hj ((I.k3 C z hC.1 (λi ei=>(hC.2 c).1 i (ht i (by rw[to,ei]))) j q hj).mp e)
 refine⟨λC hC=> ?_,λy j q hj e=> ?_,λy e=> ?_,λC y hC ho j q hj=> ?_⟩
 ·by_cases c:C as.length=true
  ·obtain⟨m,ps,h3,hl⟩:=h C hC c
   obtain⟨f1,f2⟩:=free C hC c
   rw[CL c]
   exact(I.sd C hC.1).fill hk h3 hl f2 λz r e=>by rw[f1]at e;cases e
  ·rw[D7 c];exact I.sd C hC.1
 ·rw[D1]at e
  unfold G0
  by_cases z':j=k
  ·subst z'
   rw[CK]at e;cases e
   rw[if_pos ⟨rfl,rfl⟩]
   exact(if_pos rfl).symm
  ·rw[DK z']at e
   rw[if_neg λw=>z' w.2.symm]
   unfold EE
   rw[if_neg (hnk hj e).2]
   exact I.k1 y j q hj e
 ·have ny:y≠z:=λw=>by
   subst w
   exact e k r hk (by rw[D1,CK])
  unfold EE
  rw[if_neg ny]
  refine I.k2 y λj q hj e'=>e j q hj ?_
  rw[D1,DK (hnk hj e').1];exact e'
 ·rw[D1]
  by_cases c:C as.length=true
  ·obtain⟨f1,f2⟩:=free C hC c
   rw[CL c]
   by_cases z':j=k
   ·subst z';rw[CK,CK]
   ·rw[DK z',DK z']
    by_cases w:y=z
    ·subst w
     exact⟨λe=>absurd e (f2 j q hj),λe=>absurd e (hz j q hj)⟩
    ·unfold EE at ho
     rw[if_neg w]at ho
     exact I.k3 C y hC.1 ho j q hj
  ·rw[D7 c]
   unfold EE at ho
   by_cases w:y=z
   ·subst w
    rw[if_pos rfl]at ho
    exact absurd (ho _ rfl) c
   ·rw[if_neg w]at ho
    have k3:=I.k3 C y hC.1 ho j q hj
    by_cases z':j=k
    ·subst z'
     rw[CK]
     refine⟨λe=> ?_,λe=>absurd (by cases e;rfl) w⟩
     have:=k3.mp e
     rw[h0]at this;cases this
    ·rw[DK z'];exact k3
theorem Hist.gone(I:Hist m0 M0 as t o){z:Str}{k r:Nat}{nd:List Nat}(hk:k<m0)(h0:B2 M0 as 0 k=.nm z r):Hist m0 M0 (⟨0,k,.no,nd⟩::as) (EE t z as.length) (EE o z as.length):=by
 have un:=I.now.un
 have k1:=I.k1 z k r hk h0
 have only:∀ {j q},j<m0->B2 M0 as 0 j=.nm z q->j=k:=λ{j q} hj e=>un j k z q r hj hk e h0
 refine⟨λC hC=> ?_,λy j q hj e=> ?_,λy e=> ?_,λC y hC ho j q hj=> ?_⟩
 ·by_cases c:C as.length=true
  ·rw[CL c];exact(I.sd C hC.1).gone hk
  ·rw[D7 c];exact I.sd C hC.1
 ·rw[D1]at e
  by_cases z':j=k
  ·subst z';rw[CK]at e;cases e
  ·rw[DK z']at e
   unfold G0 EE
   rw[if_neg λw=>z' w.2.symm,if_neg λw=>z' (only hj (w ▸ e))]
   exact I.k1 y j q hj e
 ·unfold EE
  by_cases w:y=z
  ·rw[if_pos w,if_pos w]
  ·rw[if_neg w,if_neg w]
   refine I.k2 y λj q hj e'=>e j q hj ?_
   have:j≠k:=λz'=>by rw[z',h0]at e';cases e';exact w rfl
   rw[D1,DK this];exact e'
 ·rw[D1]
  unfold EE at ho
  by_cases c:C as.length=true
  ·rw[CL c]
   have ck:sh M0 C as 0 k=.nm z r:=by rw[IG (a:=⟨0,k,.no,nd⟩) hC c];exact h0
   by_cases z':j=k
   ·subst z';rw[CK,CK]
   ·rw[DK z',DK z']
    by_cases w:y=z
    ·subst w
     exact⟨λe=>absurd ((I.sd C hC.1).un j k y q r hj hk e ck) z',λe=>absurd (only hj e) z'⟩
    ·rw[if_neg w]at ho;exact I.k3 C y hC.1 ho j q hj
  ·rw[D7 c]
   by_cases w:y=z
   ·subst w
    rw[if_pos rfl]at ho
    exact absurd (ho _ rfl) c
   ·rw[if_neg w]at ho
    have k3:=I.k3 C y hC.1 ho j q hj
    by_cases z':j=k
    ·subst z'
     rw[CK]
     refine⟨λe=> ?_,λe=>by cases e⟩
     have:=k3.mp e
     rw[h0]at this;cases this;exact absurd rfl w
    ·rw[DK z'];exact k3
theorem Snd.ld0(I:Snd m0 S){r:Nat}(h:∀ m ps,S 3 r≠.rc m ps):ld m0 S r=0:=by
 refine List.countP_eq_zero.mpr λk hk e=> ?_
 cases e0:S 0 k with
 | nm z q =>
  simp only[e0,D2,beq_iff_eq]at e
  subst e
  obtain⟨m,ps,e⟩:=I.nl k z q (List.mem_range.mp hk) e0
  exact h m ps e
 | _=>simp[e0,D2]at e
theorem Hist.make(I:Hist m0 M0 as t o){z:Str}{k r:Nat}{nd:List Nat}(hk:k<m0)(h0:B2 M0 as 0 k=.no)(hz:∀ j r,j<m0->B2 M0 as 0 j≠.nm z r)(h1:B2 M0 as 1 r≠.mk 1)(hn:as.length+1∈nd)(ht:∀ j,t z=some j->j∈nd) :
  Hist m0 M0 (⟨0,k,.nm z r,nd⟩::⟨3,r,.rc 1 [],[as.length]⟩::⟨1,r,.mk 1,[]⟩::as) t (EE o z (as.length+2)):=by
 have I1:=I.step (a:=⟨1,r,.mk 1,[]⟩) (by simp) λC hC _=>(I.sd C hC.1).rmark (.inl rfl)
 have no:∀ C,FJ C (⟨3,r,.rc 1 [],[as.length]⟩::⟨1,r,.mk 1,[]⟩::as)->C (as.length+1)=true->ld m0 (sh M0 C (⟨1,r,.mk 1,[]⟩::as)) r=0:=λC hC c=>by
  refine(I1.sd C hC.1).ld0 λm ps e=> ?_
  rw[IG (a:=⟨3,r,.rc 1 [],[as.length]⟩) hC c,D1,D0 (by simp)]at e
  exact h1 (I.now.mr r m ps e)
 have I2:=I1.step (a:=⟨3,r,.rc 1 [],[as.length]⟩) (by simp) λC hC c=>by
  have cL:C as.length=true:=(hC.2 c).1 _ (by simp)
  refine(I1.sd C hC.1).recd (by rw[no C hC c];omega) ?_ List.nodup_nil (by simp)
  rw[CL cL,CK]
 refine I2.fill hk (by rw[D1,D0 (by simp),D1,D0 (by simp)];exact h0) (λj q hj=>by rw[D1,D0 (by simp),D1,D0 (by simp)];exact hz j q hj) ht λC hC c=> ?_
 have cL:C (as.length+1)=true:=(hC.2 c).1 _ hn
 refine⟨1,[],by rw[CL cL,CK],?_⟩
 rw[CL cL,PB (by simp),no C hC.1 cL]
 exact Nat.le_refl 1
theorem Hist.link(I:Hist m0 M0 as t o){z:Str}{k r m:Nat}{ps nd:List Nat}(hk:k<m0)(h0:B2 M0 as 0 k=.no)(hz:∀ j r,j<m0->B2 M0 as 0 j≠.nm z r)(h3:B2 M0 as 3 r=.rc m ps)(hn:as.length∈nd)(ht:∀ j,t z=some j->j∈nd) :
  Hist m0 M0 (⟨0,k,.nm z r,nd⟩::⟨3,r,.rc (m+1) ps,[]⟩::as) t (EE o z (as.length+1)):=by
 have a3:∀ C,FJ C (⟨3,r,.rc (m+1) ps,[]⟩::as)->C as.length=true->sh M0 C as 3 r=.rc m ps:=λC hC c=>by
  rw[IG (a:=⟨3,r,.rc (m+1) ps,[]⟩) hC c];exact h3
 have I1:=I.step (a:=⟨3,r,.rc (m+1) ps,[]⟩) (by simp) λC hC c=>(I.sd C hC.1).count (a3 C hC c) (Nat.le_succ_of_le ((I.sd C hC.1).ct r m ps (a3 C hC c)))
 refine I1.fill hk (by rw[D1,D0 (by simp)];exact h0) (λj q hj=>by rw[D1,D0 (by simp)];exact hz j q hj) ht λC hC c=> ?_
 have cL:C as.length=true:=(hC.2 c).1 _ hn
 refine⟨m+1,ps,by rw[CL cL,CK],?_⟩
 rw[CL cL,PB (by simp)]
 exact Nat.succ_le_succ ((I.sd C hC.1.1).ct r m ps (a3 C hC.1 cL))
theorem Hist.fewer(I:Hist m0 M0 as t o){z:Str}{k r m:Nat}{ps nd:List Nat}{b:AC}(hk:k<m0)(h0:B2 M0 as 0 k=.nm z r)(h3:B2 M0 as 3 r=.rc m ps)(hb:b.kind=3/\b.k=r/\as.length∈b.nd){C:Nat->Bool}(hC:FJ C (b::⟨0,k,.no,nd⟩::as))(c:C (as.length+1)=true) :
  sh M0 C (⟨0,k,.no,nd⟩::as) 3 r=.rc m ps/\ld m0 (sh M0 C (⟨0,k,.no,nd⟩::as)) r+1<=m/\sh M0 C as 3 r=.rc m ps:=by
 obtain⟨b1,b2,b3⟩:=hb
 have cL:C as.length=true:=(hC.2 c).1 _ b3
 have e3:sh M0 C (⟨0,k,.no,nd⟩::as) 3 r=.rc m ps:=by
  have:=IG (M0:=M0) hC c
  rw[b1,b2]at this
  rw[this,D1,D0 (by simp)];exact h3
 have f3:sh M0 C as 3 r=.rc m ps:=by
  rw[CL cL,D0 (by simp)]at e3;exact e3
 have f0:sh M0 C as 0 k=.nm z r:=by rw[IG (a:=⟨0,k,.no,nd⟩) hC.1 cL];exact h0
 refine⟨e3,?_,f3⟩
 have l:=TY (S:=sh M0 C as) (x:=.no) (r:=r) hk
 rw[f0,show D2 (.nm z r) r=true from by simp[D2],show D2 .no r=false from rfl]at l
 simp only[Bool.false_eq_true,if_false,if_true]at l
 have c1:=(I.sd C hC.1.1).ct r m ps f3
 have e:ld m0 (sh M0 C (⟨0,k,.no,nd⟩::as)) r=ld m0 ((sh M0 C as).put 0 k .no) r:=by rw[CL cL]
 omega
theorem Hist.unlead(I:Hist m0 M0 as t o){z:Str}{k r m:Nat}{ps nd:List Nat}(hk:k<m0)(h0:B2 M0 as 0 k=.nm z r)(h3:B2 M0 as 3 r=.rc (m+1) ps) :
  Hist m0 M0 (⟨3,r,.rc m ps,[as.length]⟩::⟨0,k,.no,nd⟩::as) (EE t z as.length) (EE o z as.length):=by
 have I1:=I.gone (nd:=nd) hk h0
 exact I1.step (a:=⟨3,r,.rc m ps,[as.length]⟩) (by simp) λC hC c=>by
  obtain⟨e1,e2,_⟩:=I.fewer hk h0 h3 ⟨rfl,rfl,by simp⟩ hC c
  exact(I1.sd C hC.1).count e1 (Nat.le_of_succ_le_succ e2)
theorem Hist.unmark{d:Nat}:∀ {ps:List Nat} {bs:List AC},Hist m0 M0 bs t o->(∀ C,FJ C bs->C d=true->∀ q m ps',sh M0 C bs 3 q=.rc m ps'->∀ p∈ps,p∉ps')->Hist m0 M0 ((ps.map λp=>(⟨2,p,.mk 0,[d]⟩:AC)).reverse++bs) t o
 | [],bs,I,_=>I
 | p::ps,bs,I,h=>by
  have I1:=I.step (a:=⟨2,p,.mk 0,[d]⟩) (by simp) λC hC c=>(I.sd C hC.1).pmark (.inr λr m ps' e=>h C hC.1 ((hC.2 c).1 d (by simp)) r m ps' e p List.mem_cons_self)
  have:=Hist.unmark (ps:=ps) I1 λC hC cd q m ps' e p' hp'=>by
   have e':sh M0 C bs 3 q=.rc m ps':=by
    by_cases c:C bs.length=true
    ·rw[CL c,D0 (by simp)]at e;exact e
    ·rw[D7 c]at e;exact e
   exact h C hC.1 cd q m ps' e' p' (List.mem_cons_of_mem _ hp')
  rw[List.map_cons,List.reverse_cons,List.append_assoc]
  exact this
theorem Al{cs:List AC}{i j:Nat}(h:∀ a∈cs,a.kind≠i):sh M0 C (cs++as) i j=sh M0 C as i j:=by
 induction cs with
 | nil=>rfl
 | cons a r ih =>
  have ih:=ih λb hb=>h b (List.mem_cons_of_mem _ hb)
  rw[List.cons_append]
  by_cases c:C (r++as).length=true
  ·rw[CL c,D0 (h a List.mem_cons_self).symm];exact ih
  ·rw[D7 c];exact ih
theorem Hist.dropped(I:Hist m0 M0 as t o){z:Str}{k r m:Nat}{ps nd:List Nat}(hk:k<m0)(h0:B2 M0 as 0 k=.nm z r)(h3:B2 M0 as 3 r=.rc m ps)(hm:m<=1) :
  Hist m0 M0 (⟨1,r,.mk 0,[as.length+1]⟩::((ps.map λp=>(⟨2,p,.mk 0,[as.length+1]⟩:AC)).reverse++⟨3,r,.no,[as.length]⟩::⟨0,k,.no,nd⟩::as)) (EE t z as.length) (EE o z as.length):=by
 have I1:=I.gone (nd:=nd) hk h0
 have I2:=I1.step (a:=⟨3,r,.no,[as.length]⟩) (by simp) λC hC c=>by
  obtain⟨e1,e2,_⟩:=I.fewer hk h0 h3 ⟨rfl,rfl,by simp⟩ hC c
  exact(I1.sd C hC.1).drop (Nat.le_zero.mp (Nat.le_of_succ_le_succ (Nat.le_trans e2 hm)))
 have I3:=Hist.unmark (d:=as.length+1) (ps:=ps) I2 λC hC cd q m' ps' e p hp=>by
  obtain⟨_,_,f3⟩:=I.fewer hk h0 h3 ⟨rfl,rfl,by simp⟩ hC cd
  have cL:C as.length=true:=(hC.2 cd).1 _ (by simp)
  rw[CL cd]at e
  by_cases z:q=r
  ·subst z;rw[CK]at e;cases e
  ·rw[DK z,CL cL,D0 (by simp)]at e
   exact(I.sd C hC.1.1).dj r q m m' ps ps' (λy=>z y.symm) f3 e p hp
 refine I3.step (a:=⟨1,r,.mk 0,[as.length+1]⟩) (by simp) λC hC c=>(I3.sd C hC.1).rmark (.inr λm' ps' e=> ?_)
 have cd:C (as.length+1)=true:=(hC.2 c).1 _ (by simp)
 rw[Al (λa ha=>by
  obtain⟨p,_,rfl⟩:=List.mem_map.mp (List.mem_reverse.mp ha)
  simp),CL cd,CK]at e
 cases e
theorem Hist.put(I:Hist m0 M0 as t o){r m p:Nat}{ps:List Nat}{x:Str}(h2:B2 M0 as 2 p≠.mk 1)(h3:B2 M0 as 3 r=.rc m ps) :
  Hist m0 M0 (⟨3,r,.rc m (ps++[p]),[as.length+1]⟩::⟨4,p,.tx x,[as.length]⟩::⟨2,p,.mk 1,[]⟩::as) t o:=by
 have I1:=I.step (a:=⟨2,p,.mk 1,[]⟩) (by simp) λC hC _=>(I.sd C hC.1).pmark (.inl rfl)
 have I2:=I1.step (a:=⟨4,p,.tx x,[as.length]⟩) (by simp) λC hC _=>(I1.sd C hC.1).text
 refine I2.step (a:=⟨3,r,.rc m (ps++[p]),[as.length+1]⟩) (by simp) λC hC c=> ?_
 have c1:C (as.length+1)=true:=(hC.2 c).1 _ (by simp)
 have c0:C as.length=true:=(hC.1.2 c1).1 _ (by simp)
 refine(I2.sd C hC.1).more (t:=x) ?_ ?_ ?_ λq m' ps' e hp=> ?_
 ·rw[IG (a:=⟨3,r,.rc m (ps++[p]),[as.length+1]⟩) hC c,D1,D0 (by simp),D1,D0 (by simp)];exact h3
 ·rw[CL c1,D0 (by simp),CL c0,CK]
 ·rw[CL c1,CK]
 ·rw[CL c1,D0 (by simp),CL c0,D0 (by simp)]at e
  have:=((I.sd C hC.1.1.1).pm q m' ps' e p hp).1
  rw[IG (a:=⟨2,p,.mk 1,[]⟩) hC.1.1 c0]at this
  exact h2 this
theorem Hist.take(I:Hist m0 M0 as t o){r m p i:Nat}{ps:List Nat}(h3:B2 M0 as 3 r=.rc m ps)(hi:ps[i]? =some p) :
  Hist m0 M0 (⟨2,p,.mk 0,[as.length]⟩::⟨3,r,.rc m (ps.eraseIdx i),[]⟩::as) t o:=by
 have a3:∀ C,FJ C (⟨3,r,.rc m (ps.eraseIdx i),[]⟩::as)->C as.length=true->sh M0 C as 3 r=.rc m ps:=λC hC c=>by
  rw[IG (a:=⟨3,r,.rc m (ps.eraseIdx i),[]⟩) hC c];exact h3
 have I1:=I.step (a:=⟨3,r,.rc m (ps.eraseIdx i),[]⟩) (by simp) λC hC c=>(I.sd C hC.1).less (a3 C hC c) (List.eraseIdx_sublist ..)
 refine I1.step (a:=⟨2,p,.mk 0,[as.length]⟩) (by simp) λC hC c=>(I1.sd C hC.1).pmark (.inr λq m' ps' e=> ?_)
 have c0:C as.length=true:=(hC.2 c).1 _ (by simp)
 have e3:=a3 C hC.1 c0
 rw[CL c0]at e
 by_cases z:q=r
 ·subst z
  rw[CK]at e
  cases e
  have nd:=(I.sd C hC.1.1).nd q m ps e3
  exact λh=>by
   have hl:=(List.getElem?_eq_some_iff.mp hi).1
   obtain⟨j,hj,ej⟩:=List.mem_eraseIdx_iff_getElem?.mp h
   exact hj ((List.getElem?_inj hl nd).mp (hi.trans ej.symm)).symm
 ·rw[DK z]at e
  exact(I.sd C hC.1.1).dj r q m m' ps ps' (λy=>z y.symm) e3 e p (List.mem_of_getElem? hi)
end
end L2
namespace L2
abbrev EW(a:Ad):Addr:=a "Hold"
def KG(ns:List Int)(k:Nat):Int:=ns.getD k 0
def LF(K:W.Frag)(a:Ad):Sp:=λvs H Q _=>∃ (s:Addr) (ns:List Int) (k:Nat),vs=[.ref s,.int k]/\SqL K H s (ns.map V.int)/\ns.length<=1000/\Q (.int (KG ns k)) H
theorem Am{K:W.Frag}{a:Ad}{s:Addr}{k:Int}{H:Hp}{Q:VK}{E:XK}:LF K a [.ref s,.int k] H Q E=∃ (ns:List Int) (n:Nat),k=n/\SqL K H s (ns.map V.int)/\ns.length<=1000/\Q (.int (KG ns n)) H:=by simp[LF,and_assoc]
abbrev TB(K:W.Frag)(a:Ad):Prop:=dM K (EW a) (a "Change")
abbrev D8(a:Ad)(H:Hp)(A:BA)(w:Nat)(rows:List (List V))(n:Nat)(cs:List Ch)(outs:Int->Bool):Prop:=BookAt a (EW a) H A w rows n cs outs
def G1:Option Nat->V
 | none=>.non
 | some k=>.int k
def BE(l:List Nat):List V:=l.map λ(k:Nat)=>V.int k
abbrev onPl(rows:List (List V))(w:Nat)(i j:Int):Prop:=0<=i/\i<rows.length/\0<=j/\j<w
def PD(K:W.Frag)(a:Ad):Sp:=λvs H Q _=>∃ x dx pl v nt,vs=[.ref x,.ref pl,v,.ref nt]/\TB K a/\H x=some (.ins (a "Change") dx [])/\Q .non (upd H x (.ins (a "Change") dx (FB pl v nt)))
def M5(K:W.Frag)(a:Ad):Sp:=λvs H Q _=>∃ (b gp cl dx:Addr) (w:Nat) (rows:List (List V)) (n:Nat),vs=[.ref b,.ref gp]/\TB K a/\D6 K a/\PlankAt a H gp cl w rows n/\H b=some (.ins (EW a) dx []) ∧
 ∀ (m mi lt ou:Addr) (ls:List Addr) (H':Hp),H m=none->H mi=none->H lt=none->H ou=none->(∀ l∈ls,H l=none)->D8 a H' ⟨b,gp,m,mi,lt,ou,ls,cl⟩ w rows n [] (λ_=>false)->SameBut (· =b) H H'->Q .non H'
def PF(K:W.Frag)(a:Ad):Sp:=λvs H Q _=>∃ (nl:Addr) (ns:List Int) (o:Option Nat),vs=[.ref nl,G1 o]/\SqL K H nl (ns.map V.int)/\ns.length<=60 ∧
 ∀ (t:Addr) (ks:List Int) (H':Hp),Same H H'->H' t=some (.tup (ks.map V.int))->ks.Pairwise (· <·)->(∀ x,x∈ks↔x∈ns\/∃ k:Nat,o=some k/\x=k)->ks.length<=ns.length+1->Q (.ref t) H'
def PJ(K:W.Frag)(a:Ad):Sp:=λvs H Q E=>∃ (A:BA) (w:Nat) (rows:List (List V)) (n:Nat) (cs:List Ch) (outs:Int->Bool) (pl:Addr) (i j:Int),vs=[.ref A.b,.ref pl]/\TB K a/\D6 K a/\D8 a H A w rows n cs outs/\H pl=some (.tup [.int i,.int j]) ∧
 (onPl rows w i j->Q .non H)/\(¬ onPl rows w i j->E (.ref (a "NoBlock")) none H)
def LG(K:W.Frag)(a:Ad):Sp:=λvs H Q E=>∃ (A:BA) (w:Nat) (rows:List (List V)) (n:Nat) (cs:List Ch) (outs:Int->Bool) (pl:Addr) (i j:Int),vs=[.ref A.b,.ref pl]/\TB K a/\D6 K a/\D8 a H A w rows n cs outs/\H pl=some (.tup [.int i,.int j]) ∧
 (onPl rows w i j->Q (G1 (DZ cs i j)) H)/\(¬ onPl rows w i j->E (.ref (a "NoBlock")) none H)
abbrev known(cs:List Ch)(x:Int):Prop:=0<=x/\x<cs.length
def PK(K:W.Frag)(a:Ad):Sp:=λvs H Q E=>∃ (A:BA) (w:Nat) (rows:List (List V)) (n:Nat) (cs:List Ch) (outs:Int->Bool) (nl:Addr) (ns:List Int),vs=[.ref A.b,.ref nl]/\TB K a/\D8 a H A w rows n cs outs/\SqL K H nl (ns.map V.int) ∧
 ((∀ x∈ns,known cs x)->Q .non H)/\((∃ x∈ns,¬ known cs x)->E (.ref (a "NoChange")) none H)
def DV(K:W.Frag)(a:Ad):Sp:=λvs H Q E=>∃ (A:BA) (w:Nat) (rows:List (List V)) (n:Nat) (cs:List Ch) (outs:Int->Bool) (pl nl:Addr) (v:V) (ns:List Int) (i j:Int),vs=[.ref A.b,.ref pl,v,.ref nl]/\TB K a/\D6 K a/\D8 a H A w rows n cs outs/\H pl=some (.tup [.int i,.int j])/\SqL K H nl (ns.map V.int)/\ns.length<=60/\cs.length<990 ∧
 (onPl rows w i j->(∀ x∈ns,known cs x)->∀ (nd:List Int) (H':Hp),nd.Pairwise (· <·)->(∀ x,x∈nd↔x∈ns\/∃ k:Nat,DZ cs i j=some k/\x=k)->D8 a H' A w rows n (cs++[⟨i.toNat,j.toNat,v,nd⟩]) outs->SameBut A.F H H'->Q (.int cs.length) H') ∧
 (¬ onPl rows w i j->E (.ref (a "NoBlock")) none H)/\(onPl rows w i j->(∃ x∈ns,¬ known cs x)->E (.ref (a "NoChange")) none H)
def D9(cs:List Ch)(rows:List (List V))(i j:Int):Option V:=match DZ cs i j with
 | some k=>(cs[k]?).map (·.val)
 | none=>(rows[i.toNat]?).bind λr=>r[j.toNat]?
def JN(K:W.Frag)(a:Ad):Sp:=λvs H Q E=>∃ (A:BA) (w:Nat) (rows:List (List V)) (n:Nat) (cs:List Ch) (outs:Int->Bool) (pl:Addr) (i j:Int),vs=[.ref A.b,.ref pl]/\TB K a/\D6 K a/\D8 a H A w rows n cs outs/\H pl=some (.tup [.int i,.int j]) ∧
 (onPl rows w i j->∀ (v:V) (H':Hp),D9 cs rows i j=some v->Same H H'->Q v H')/\(¬ onPl rows w i j->E (.ref (a "NoBlock")) none H)
def TZ:Option Int->V
 | none=>.non
 | some k=>.int k
abbrev DW(AD:List (AM × V))(x:Int):Bool:=(BK AD (.inl x)).isSome
def PL(K:W.Frag)(a:Ad):Sp:=λvs H Q _=>∃ (A:BA) (w:Nat) (rows:List (List V)) (n:Nat) (cs:List Ch) (outs:Int->Bool) (k:Nat) (c:Ch) (g:Addr) (kvg:List (AM × V)),vs=[.ref A.b,.int k,.ref g]/\TB K a/\D8 a H A w rows n cs outs/\cs[k]? =some c/\H g=some (.dK kvg) ∧
 Q (TZ (LD c.nd λx=>outs x || DW kvg x)) H
def PM(K:W.Frag)(a:Ad):Sp:=λvs H Q _=>∃ (A:BA) (w:Nat) (rows:List (List V)) (n:Nat) (cs:List Ch) (outs:Int->Bool) (b:Nat) (tk:Addr) (kvt:List (AM × V)),vs=[.ref A.b,.int b,.ref tk]/\TB K a/\D8 a H A w rows n cs outs/\b<rows.length/\H tk=some (.dK kvt)/\kvt.length<=1000 ∧
 ∀ (t ol hl:Addr) (H':Hp),H ol=none->H hl=none->ol≠hl->Same H H'->dX H' t ol hl (outcome cs outs (DW kvt) b).out (outcome cs outs (DW kvt) b).held->Q (.ref t) H'
def PN(K:W.Frag)(a:Ad):Sp:=λvs H Q _=>∃ (A:BA) (w:Nat) (rows:List (List V)) (n:Nat) (cs:List Ch) (outs:Int->Bool) (b:Nat) (vl:Addr) (row:List V),vs=[.ref A.b,.ref vl,.int b]/\TB K a/\D8 a H A w rows n cs outs/\b<rows.length/\H vl=some (.lst row)/\row.length=w ∧
 ∀ (l:Addr) (H':Hp),H l=none->Same H H'->H' l=some (.lst (ED cs outs b row))->Q (.ref l) H'
def PQ(K:W.Frag)(a:Ad):Sp:=λvs H Q E=>∃ (A:BA) (w:Nat) (rows:List (List V)) (n:Nat) (cs:List Ch) (outs:Int->Bool) (b:Int),vs=[.ref A.b,.int b]/\TB K a/\D6 K a/\D8 a H A w rows n cs outs ∧
 (∀ (b':Nat) (row:List V) (t ol hl:Addr) (H':Hp),b=b'->rows[b']? =some row->H ol=none->H hl=none->ol≠hl->dX H' t ol hl (outcome cs outs (λ_=>false) b').out (outcome cs outs (λ_=>false) b').held →
  D8 a H' A w (rows.set b' (ED cs (EU cs outs b') b' row)) (n+1) cs (EU cs outs b')->SameBut (λx=>A.F x\/x=A.gp) H H'->Q (.ref t) H') ∧
 (b<0\/rows.length<=b->E (.ref (a "NoBlock")) none H)
def GoodV:Nat->Hp->V->Prop
 | 0,_,_=>False
 | _+1,_,.int _=>True
 | _+1,_,.non=>True
 | _+1,_,.str z=>PyData.strOk z=true
 | n+1,H,.ref p=>∃ xs,H p=some (.tup xs)/\xs.length<=100/\∀ v∈xs,GoodV n H v
 | _,_,_=>False
def PR(v:V):Prop:=v=.non\/∃ i,v=.int i
def A0(n r c w kind k:Nat):Nat:=(if kind=0 then 0 else if kind=1 then n+r+c else if kind=2 then n+r+c+r else if kind=3 then n else n+r)+k / w
def AX(n r c w kind:Nat):Nat:=(if kind=0 then n else if kind=1 then r else if kind=2 then c else if kind=3 then r else c) * w
def IH(kind:Nat)(v:V):Bool:=decide (v=.non) || (decide (0<kind) && decide (v=.int 0))
def EF(f:Nat->Bool)(m:Nat):Int:=match (List.range m).find? f with
 | some k=>k
 | none=> -1
def d8(H:Hp)(rows:List (List V)):Prop:=∀ r∈rows,∀ v∈r,GoodV 4 H v
def goodH(H:Hp)(cs:List Ch)(rows:List (List V)):Prop:=d8 H rows/\∀ c∈cs,GoodV 4 H c.val
def JO(cs:List Ch)(rows:List (List V))(n r c w kind:Nat)(k:Nat):Bool:=match D9 cs rows (A0 n r c w kind k:Nat) (k % w:Nat)with
 | some v=>IH kind v
 | none=>false
def II(K:W.Frag)(a:Ad):Sp:=λvs H Q E=>∃ (A:BA) (w:Nat) (rows:List (List V)) (n:Nat) (cs:List Ch) (outs:Int->Bool) (pl vl:Addr) (ts:List Addr) (xs:List V) (f:Nat->Bool) (m:Nat),vs=[.ref A.b,.ref pl,.ref vl]/\TB K a/\D6 K a/\D8 a H A w rows n cs outs/\H pl=some (.lst (ts.map V.ref))/\ts.length=m/\m<=1000/\H vl=some (.tup xs)/\(∀ z∈xs,PR z) ∧
 (∀ k t,ts[k]? =some t->∃ i j v,H t=some (.tup [.int i,.int j])/\onPl rows w i j/\D9 cs rows i j=some v/\GoodV 4 H v/\f k=decide (v∈xs)) ∧
 (∀ k:Nat,EF f m=k->∀ H',Same H H'->Q (.int k) H')/\(EF f m= -1->∀ H',Same H H'->E (.ref (a "NoRoom")) none H')
def PU(kind:Nat)(K:W.Frag)(a:Ad)(p b:Addr)(H:Hp)(Q:VK)(E:XK):Prop:=∃ (A:BA) (n r c w:Nat) (rows:List (List V)) (nn:Nat) (cs:List Ch) (outs:Int->Bool),b=A.b/\TB K a/\D6 K a/\DU K a/\LayAt a H p n r c w/\n<=6/\r<=6/\c<=6/\w<=6/\D8 a H A w rows nn cs outs/\rows.length=n+r+c+r+c/\(∀ i j v,D9 cs rows i j=some v->GoodV 4 H v) ∧
 (∀ k:Nat,EF (JO cs rows n r c w kind) (AX n r c w kind)=k->∀ H',Same H H'->Q (.int k) H')/\(EF (JO cs rows n r c w kind) (AX n r c w kind)= -1->∀ H',Same H H'->E (.ref (a "NoRoom")) none H')
def LH(K:W.Frag)(a:Ad):Sp:=λvs H Q E=>∃ p b,vs=[.ref p,.ref b]/\PU 0 K a p b H Q E
def PY(K:W.Frag)(a:Ad):Sp:=λvs H Q E=>∃ p b,vs=[.ref p,.ref b]/\PU 1 K a p b H Q E
def PZ(K:W.Frag)(a:Ad):Sp:=λvs H Q E=>∃ p b,vs=[.ref p,.ref b]/\PU 2 K a p b H Q E
def T2(c:Nat):Bool:=decide (32<=c) && decide (c<=126) && decide (c≠37)
def M6(c:Nat):Bool:=decide (97<=c) && decide (c<=122)
def BM(z:Str):Bool:=decide (1<=z.length) && decide (z.length<=8) && z.cps.toList.all M6
def LI(z:Str):Bool:=decide (1<=z.length) && decide (z.length<=40) && z.cps.toList.all T2
def P0(K:W.Frag)(a:Ad):Sp:=λvs H Q _=>∃ c:Nat,vs=[.str ⟨#[c]⟩]/\Q (.bl (T2 c)) H
def P4(K:W.Frag)(a:Ad):Sp:=λvs H Q _=>∃ z:Str,vs=[.str z]/\z.length<=1000/\∀ H',Same H H'->Q (.bl (BM z)) H'
def P5(K:W.Frag)(a:Ad):Sp:=λvs H Q _=>∃ z:Str,vs=[.str z]/\z.length<=1000/\∀ H',Same H H'->Q (.bl (LI z)) H'
structure P7(K:W.Frag)(a:Ad):Prop where
 cl:Cls K (a "Store")
 n1:NoAttr K (a "Store") "plan"
 n2:NoAttr K (a "Store") "book"
 n3:NoAttr K (a "Store") "taken_out"
def sf(lp b tk:Addr):List (Str × V):=[("plan",.ref lp),("book",.ref b),("taken_out",.ref tk)]
structure SA where
 A:BA
 st:Addr
 lp:Addr
 tk:Addr
structure Hs where
 b:Md
 as:List AC
abbrev Hs.f(M:Hs):Md:=B2 M.b M.as
instance:CoeFun Hs λ_=>Nat->Nat->CV:=⟨Hs.f⟩
def Hs.put(M:Hs)(kind k:Nat)(x:CV)(nd:List Nat):Hs:=⟨M.b,⟨kind,k,x,nd⟩::M.as⟩
theorem Hs.put_at{M:Hs}{kind k i j:Nat}{x:CV}{nd:List Nat}:(M.put kind k x nd) i j=if i=kind/\j=k then x else M i j:=rfl
def RepC(H:Hp):CV->V->Prop
 | .no,v=>v=.non
 | .nm z k,v=>∃ t,v=.ref t/\H t=some (.tup [.str z,.int k])
 | .mk i,v=>v=.int i
 | .rc m ps,v=>∃ t u,v=.ref t/\H t=some (.tup [.int m,.ref u])/\H u=some (.tup (BE ps))
 | .tx z,v=>v=.str z
def EA:Nat->CV->Prop
 | _,.no=>True
 | 0,.nm _ _=>True
 | 1,.mk i=>i<=1
 | 2,.mk i=>i<=1
 | 3,.rc _ _=>True
 | 4,.tx _=>True
 | _,_=>False
inductive LaidA(n r c w:Nat)(H:Hp):List Ch->List AC->Prop
 | nil:LaidA n r c w H [] []
 | snoc {cs:List Ch} {as:List AC} {ch:Ch} {x:AC}:LaidA n r c w H cs as->ch.blk=A0 n r c w x.kind x.k->ch.cell=x.k % w->RepC H x.x ch.val->(∀ y:Int,y∈ch.nd↔(∃ j∈x.nd,y=(j:Nat))\/∃ j:Nat,G0 x.kind x.k as=some j/\y=j)->x.kind<5->x.k<AX n r c w x.kind->LaidA n r c w H (cs++[ch]) (x::as)
structure SM(a:Ad)(H:Hp)(S:SA)(n r c w:Nat)(rows:List (List V))(nn:Nat)(cs:List Ch)(outs:Int->Bool)(tks:List (AM × V))(M:Hs):Prop where
 ob:∃ dx,H S.st=some (.ins (a "Store") dx (sf S.lp S.A.b S.tk))
 ly:LayAt a H S.lp n r c w
 bk:D8 a H S.A w rows nn cs outs
 tk:H S.tk=some (.dK tks)
 tl:tks.length<=cs.length
 tv:∀ z v,BK tks (.inr z)=some v->∃ k:Nat,v=.int k/\k<cs.length
 ap:¬ S.A.F S.tk
 sz:n<=6/\r<=6/\c<=6/\w<=6/\rows.length=n+r+c+r+c
 gd:goodH H cs rows
 rp:∀ kind k v,kind<5->k<AX n r c w kind->D9 cs rows (A0 n r c w kind k:Nat) (k % w:Nat)=some v->RepC H (M kind k) v
 ok:∀ kind k,kind<5->k<AX n r c w kind->EA kind (M kind k)
 la:LaidA n r c w H cs M.as
def F3(M:Hs)(k:Nat):Option (Str × Nat):=match M 0 k with
 | .nm z r=>some (z,r)
 | _=>none
def cellOf(M:Hs)(m:Nat)(z:Str):Option Nat:=(List.range m).find? λk=>(F3 M k).any λp=>decide (p.1=z)
def FD(kind:Nat):CV->Bool
 | .no=>true
 | .mk i=>decide (0<kind) && decide (i=0)
 | _=>false
def F4(M:Hs)(kind m:Nat):Int:=EF (λk=>FD kind (M kind k)) m
abbrev C9(K:W.Frag)(a:Ad):Prop:=TB K a/\D6 K a/\DU K a/\P7 K a
abbrev d9(cs:List Ch)(i j:Int)(x:Int):Prop:=∃ k:Nat,DZ cs i j=some k/\x=k
structure SX where
 S:SA
 n:Nat
 r:Nat
 c:Nat
 w:Nat
 rows:List (List V)
 nn:Nat
 outs:Int->Bool
abbrev SX.at(X:SX)(a:Ad)(H:Hp)(cs:List Ch)(tks:List (AM × V))(M:Hs):Prop:=SM a H X.S X.n X.r X.c X.w X.rows X.nn cs X.outs tks M
abbrev SX.m0(X:SX):Nat:=X.n * X.w
def P8(K:W.Frag)(a:Ad):Sp:=λvs H Q _=>∃ (x dx lp gp cl:Addr) (n r c w:Nat) (rows:List (List V)) (nn:Nat) (M:Md),vs=[.ref x,.ref lp,.ref gp]/\C9 K a/\H x=some (.ins (a "Store") dx [])/\LayAt a H lp n r c w/\PlankAt a H gp cl w rows nn/\(n<=6/\r<=6/\c<=6/\w<=6/\rows.length=n+r+c+r+c)/\d8 H rows/\(∀ kind k v,kind<5->k<AX n r c w kind->D9 [] rows (A0 n r c w kind k:Nat) (k % w:Nat)=some v->RepC H (M kind k) v)/\(∀ kind k,kind<5->k<AX n r c w kind->EA kind (M kind k)) ∧
 ∀ (S:SA) (H':Hp),S.st=x->S.lp=lp->S.A.gp=gp->S.A.cl=cl->(∀ y o,H y=some o->y=cl\/¬ S.A.F y)->H S.tk=none->SM a H' S n r c w rows nn [] (λ_=>false) [] ⟨M,[]⟩->SameBut (· =x) H H'->Q .non H'
def LJ(K:W.Frag)(a:Ad):Sp:=λvs H Q _=>∃ (X:SX) (cs:List Ch) (tks:List (AM × V)) (M:Hs),vs=[.ref X.S.st]/\C9 K a/\X.at a H cs tks M ∧
 ∀ (l:Addr) (xs:List V) (H':Hp),Same H H'->H' l=some (.lst xs)->xs.length=X.m0->(∀ k v,xs[k]? =some v->RepC H' (M 0 k) v)->Q (.ref l) H'
def JP(K:W.Frag)(a:Ad):Sp:=λvs H Q _=>∃ (X:SX) (cs:List Ch) (tks:List (AM × V)) (M:Hs) (z:Str),vs=[.ref X.S.st,.str z]/\C9 K a/\X.at a H cs tks M/\∀ (H':Hp),Same H H'->Q (G1 (cellOf M X.m0 z)) H'
def GI(K:W.Frag)(a:Ad):Sp:=λvs H Q E=>∃ (X:SX) (cs:List Ch) (tks:List (AM × V)) (M:Hs) (z:Str),vs=[.ref X.S.st,.str z]/\C9 K a/\X.at a H cs tks M ∧
 (∀ cell k,cellOf M X.m0 z=some cell->cell<X.m0->M 0 cell=.nm z k->∀ H',Same H H'->Q (.int k) H')/\(cellOf M X.m0 z=none->∀ H',Same H H'->E (.ref (a "NoName")) none H')
def FL(K:W.Frag)(a:Ad):Sp:=λvs H Q _=>∃ (X:SX) (cs:List Ch) (tks:List (AM × V)) (M:Hs) (rec:Nat),vs=[.ref X.S.st,.int rec]/\C9 K a/\X.at a H cs tks M/\rec<X.r * X.w/\∀ v H',RepC H' (M 3 rec) v->Same H H'->Q v H'
def LK(K:W.Frag)(a:Ad):Sp:=λvs H Q E=>∃ (X:SX) (cs:List Ch) (tks:List (AM × V)) (M:Hs) (z:Str) (gl:Addr) (zs:List Str),vs=[.ref X.S.st,.str z,.ref gl]/\C9 K a/\X.at a H cs tks M/\H gl=some (.lst (zs.map V.str))/\zs.length<=60/\(∀ y∈zs,y.length<=1000) ∧
 (zs.all BM=true->cellOf M X.m0 z=none->∀ H',Same H H'->Q .non H')/\(zs.all BM=false->∀ H',Same H H'->E (.ref (a "NoName")) none H')/\(zs.all BM=true->(∃ k,cellOf M X.m0 z=some k)->∀ H',Same H H'->E (.ref (a "Twice")) none H')
def P9(X:SX)(a:Ad)(H:Hp)(cs:List Ch)(tks:List (AM × V))(M':Hs)(Q:VK):Prop:=∀ (ch:Ch) (H':Hp),X.at a H' (cs++[ch]) tks M'->SameBut X.S.A.F H H'->Q (.int cs.length) H'
def EG(tks:List (AM × V))(z:Str):List Nat:=match BK tks (.inr z)with
 | some (.int k)=>[k.toNat]
 | _=>[]
abbrev IJ(ns:List Int):List Nat:=ns.map Int.toNat
def LM(K:W.Frag)(a:Ad):Sp:=λvs H Q _=>∃ (X:SX) (cs:List Ch) (tks:List (AM × V)) (M:Hs) (cell rec need:Nat) (z:Str),vs=[.ref X.S.st,.int cell,.str z,.int rec,.int need]/\C9 K a/\X.at a H cs tks M/\cell<X.m0/\need<cs.length/\cs.length<980/\PyData.strOk z=true/\P9 X a H cs tks (M.put 0 cell (.nm z rec) (need::EG tks z)) Q
def JQ(K:W.Frag)(a:Ad):Sp:=λvs H Q _=>∃ (X:SX) (cs:List Ch) (tks:List (AM × V)) (M:Hs) (rec m m':Nat) (more:Int) (ps:List Nat) (nl:Addr) (ns:List Int),vs=[.ref X.S.st,.int rec,.int more,.ref nl]/\C9 K a/\X.at a H cs tks M/\rec<X.r * X.w/\M 3 rec=.rc m ps/\(m:Int)+more=m'/\ps.length<=100/\H nl=some (.lst (ns.map V.int))/\ns.length<=60/\(∀ x∈ns,known cs x)/\cs.length<980/\P9 X a H cs tks (M.put 3 rec (.rc m' ps) (IJ ns)) Q
def LN(K:W.Frag)(a:Ad):Sp:=λvs H Q _=>∃ (X:SX) (cs:List Ch) (tks:List (AM × V)) (M:Hs) (rec m:Nat) (ps ps':List Nat) (pl nl:Addr) (ns:List Int),vs=[.ref X.S.st,.int rec,.ref pl,.ref nl]/\C9 K a/\X.at a H cs tks M/\rec<X.r * X.w/\M 3 rec=.rc m ps/\H pl=some (.tup (BE ps'))/\ps'.length<=100/\H nl=some (.lst (ns.map V.int))/\ns.length<=60/\(∀ x∈ns,known cs x)/\cs.length<980/\P9 X a H cs tks (M.put 3 rec (.rc m ps') (IJ ns)) Q
def LO(K:W.Frag)(a:Ad):Sp:=λvs H Q _=>∃ (X:SX) (cs:List Ch) (tks:List (AM × V)) (M:Hs) (cell:Nat) (z:Str) (nl:Addr) (ns:List Int),vs=[.ref X.S.st,.str z,.ref nl]/\C9 K a/\X.at a H cs tks M/\cellOf M X.m0 z=some cell/\cell<X.m0/\H nl=some (.lst (ns.map V.int))/\ns.length<=60/\(∀ x∈ns,known cs x)/\cs.length<980 ∧
 ∀ (ch:Ch) (H':Hp),X.at a H' (cs++[ch]) (BW tks (.inr z) (.int cs.length)) (M.put 0 cell .no (IJ ns))->SameBut (λx=>X.S.A.F x\/x=X.S.tk) H H'->Q (.int cs.length) H'
def Hs.unmark(M:Hs)(d:Nat)(ps:List Nat):Hs:=ps.foldl (λM p=>M.put 2 p (.mk 0) [d]) M
def QC(K:W.Frag)(a:Ad):Sp:=λvs H Q _=>∃ (X:SX) (cs:List Ch) (tks:List (AM × V)) (M:Hs) (rec m gone:Nat) (ps:List Nat),vs=[.ref X.S.st,.int rec,.int gone]/\C9 K a/\X.at a H cs tks M/\rec<X.r * X.w/\M 3 rec=.rc m ps/\gone<cs.length/\(∀ p∈ps,p<X.c * X.w)/\ps.length<=36/\cs.length<940 ∧
 ∀ (ex:List Ch) (l:Addr) (H':Hp),H l=none->H' l=some (.lst (BE ((List.range (ps.length+2)).map (cs.length+·))))->ex.length=ps.length+2->X.at a H' (cs++ex) tks (((M.put 3 rec .no [gone]).unmark cs.length ps).put 1 rec (.mk 0) [cs.length])->SameBut X.S.A.F H H'->Q (.ref l) H'
def KH(X:SX)(a:Ad)(H:Hp)(cs:List Ch)(d:Nat)(tks':List (AM × V))(M':Hs)(Q:VK):Prop:=∀ (ex:List Ch) (l:Addr) (H':Hp),ex.length=d->H l=none->H' l=some (.lst (BE ((List.range d).map (cs.length+·))))->X.at a H' (cs++ex) tks' M'->SameBut (λx=>X.S.A.F x\/x=X.S.tk) H H'->Q (.ref l) H'
def EJ(a:Ad)(H:Hp)(c:String)(E:XK):Prop:=∀ H',Same H H'->E (.ref (a c)) none H'
def QD(K:W.Frag)(a:Ad):Sp:=λvs H Q E=>∃ (X:SX) (cs:List Ch) (tks:List (AM × V)) (M:Hs) (z:Str),vs=[.ref X.S.st,.str z]/\C9 K a/\X.at a H cs tks M/\z.length<=1000/\cs.length<930 ∧
 (BM z=true->cellOf M X.m0 z=none->∀ rec cell:Nat,F4 M 1 (X.r * X.w)=rec->F4 M 0 X.m0=cell->rec<X.r * X.w->cell<X.m0->KH X a H cs 3 tks (((M.put 1 rec (.mk 1) []).put 3 rec (.rc 1 []) [cs.length]).put 0 cell (.nm z rec) ((cs.length+1)::EG tks z)) Q) ∧
 (BM z=false->EJ a H "NoName" E)/\(BM z=true->(∃ k,cellOf M X.m0 z=some k)->EJ a H "Twice" E) ∧
 (BM z=true->cellOf M X.m0 z=none->(F4 M 1 (X.r * X.w)= -1\/F4 M 0 X.m0= -1)->EJ a H "NoRoom" E)
def LP(K:W.Frag)(a:Ad):Sp:=λvs H Q E=>∃ (X:SX) (cs:List Ch) (tks:List (AM × V)) (M:Hs) (y z:Str),vs=[.ref X.S.st,.str y,.str z]/\C9 K a/\X.at a H cs tks M/\y.length<=1000/\z.length<=1000/\cs.length<930 ∧
 (BM y=true->BM z=true->cellOf M X.m0 z=none->∀ old rec cell:Nat,cellOf M X.m0 y=some old->old<X.m0->M 0 old=.nm y rec->rec<X.r * X.w/\∃ m ps,M 3 rec=.rc m ps/\ps.length<=100/\(F4 M 0 X.m0=cell->cell<X.m0->KH X a H cs 2 tks ((M.put 3 rec (.rc (m+1) ps) []).put 0 cell (.nm z rec) (cs.length::EG tks z)) Q)) ∧
 ((BM y && BM z)=false->EJ a H "NoName" E)/\(BM y=true->BM z=true->(∃ k,cellOf M X.m0 z=some k)->EJ a H "Twice" E)/\(BM y=true->BM z=true->cellOf M X.m0 z=none->cellOf M X.m0 y=none->EJ a H "NoName" E) ∧
 (BM y=true->BM z=true->cellOf M X.m0 z=none->(∃ k,cellOf M X.m0 y=some k)->F4 M 0 X.m0= -1->EJ a H "NoRoom" E)
def QE(K:W.Frag)(a:Ad):Sp:=λvs H Q E=>∃ (X:SX) (cs:List Ch) (tks:List (AM × V)) (M:Hs) (z:Str),vs=[.ref X.S.st,.str z]/\C9 K a/\X.at a H cs tks M/\cs.length<930 ∧
 (∀ cell rec:Nat,cellOf M X.m0 z=some cell->cell<X.m0->M 0 cell=.nm z rec->rec<X.r * X.w/\∃ m ps,M 3 rec=.rc m ps/\(∀ p∈ps,p<X.c * X.w)/\ps.length<=36 ∧
  (1<m->KH X a H cs 2 (BW tks (.inr z) (.int cs.length)) ((M.put 0 cell .no []).put 3 rec (.rc (m - 1) ps) [cs.length]) Q)/\(m<=1->KH X a H cs (ps.length+3) (BW tks (.inr z) (.int cs.length)) ((((M.put 0 cell .no []).put 3 rec .no [cs.length]).unmark (cs.length+1) ps).put 1 rec (.mk 0) [cs.length+1]) Q)) ∧
 (cellOf M X.m0 z=none->EJ a H "NoName" E)
def QF(K:W.Frag)(a:Ad):Sp:=λvs H Q E=>∃ (X:SX) (cs:List Ch) (tks:List (AM × V)) (M:Hs) (z t:Str),vs=[.ref X.S.st,.str z,.str t]/\C9 K a/\X.at a H cs tks M/\t.length<=1000/\PyData.strOk t=true/\cs.length<930 ∧
 (∀ cell rec:Nat,cellOf M X.m0 z=some cell->cell<X.m0->M 0 cell=.nm z rec->LI t=true->∀ p:Nat,F4 M 2 (X.c * X.w)=p->p<X.c * X.w->rec<X.r * X.w/\∃ m ps,M 3 rec=.rc m ps/\ps.length<=90/\KH X a H cs 3 tks (((M.put 2 p (.mk 1) []).put 4 p (.tx t) [cs.length]).put 3 rec (.rc m (ps++[p])) [cs.length+1]) Q) ∧
 (cellOf M X.m0 z=none->EJ a H "NoName" E)/\((∃ k,cellOf M X.m0 z=some k)->LI t=false->EJ a H "NoPiece" E)/\((∃ k,cellOf M X.m0 z=some k)->LI t=true->F4 M 2 (X.c * X.w)= -1->EJ a H "NoRoom" E)
def QH(K:W.Frag)(a:Ad):Sp:=λvs H Q E=>∃ (X:SX) (cs:List Ch) (tks:List (AM × V)) (M:Hs) (z:Str) (x:Int),vs=[.ref X.S.st,.str z,.int x]/\C9 K a/\X.at a H cs tks M/\cs.length<930 ∧
 (∀ cell rec:Nat,cellOf M X.m0 z=some cell->cell<X.m0->M 0 cell=.nm z rec->rec<X.r * X.w/\∃ m ps,M 3 rec=.rc m ps/\ps.length<=100/\((x<0\/ps.length<=x)->EJ a H "NoPiece" E)/\(∀ (k p:Nat),x=k->ps[k]? =some p->p<X.c * X.w/\KH X a H cs 2 tks ((M.put 3 rec (.rc m (ps.eraseIdx k)) []).put 2 p (.mk 0) [cs.length]) Q)) ∧
 (cellOf M X.m0 z=none->EJ a H "NoName" E)
def QI(K:W.Frag)(a:Ad):Sp:=λvs H Q E=>∃ (X:SX) (cs:List Ch) (tks:List (AM × V)) (M:Hs) (y z:Str),vs=[.ref X.S.st,.str y,.str z]/\C9 K a/\X.at a H cs tks M/\y.length<=1000/\z.length<=1000/\cs.length<920 ∧
 (BM y=true->BM z=true->cellOf M X.m0 z=none->∀ old rec cell:Nat,cellOf M X.m0 y=some old->old<X.m0->M 0 old=.nm y rec->rec<X.r * X.w/\∃ m ps,M 3 rec=.rc m ps/\ps.length<=100/\(F4 M 0 X.m0=cell->cell<X.m0->KH X a H cs 4 (BW tks (.inr y) (.int (cs.length+2:Nat))) ((((M.put 3 rec (.rc (m+1) ps) []).put 0 cell (.nm z rec) (cs.length::EG tks z)).put 0 old .no [cs.length+1]).put 3 rec (.rc m ps) [cs.length+2]) Q)) ∧
 ((BM y && BM z)=false->EJ a H "NoName" E)/\(BM y=true->BM z=true->(∃ k,cellOf M X.m0 z=some k)->EJ a H "Twice" E)/\(BM y=true->BM z=true->cellOf M X.m0 z=none->cellOf M X.m0 y=none->EJ a H "NoName" E) ∧
 (BM y=true->BM z=true->cellOf M X.m0 z=none->(∃ k,cellOf M X.m0 y=some k)->F4 M 0 X.m0= -1->EJ a H "NoRoom" E)
def SX.wr(X:SX)(cs:List Ch)(b:Nat)(row:List V):SX:={ X with rows:=X.rows.set b (ED cs (EU cs X.outs b) b row),nn:=X.nn+1,outs:=EU cs X.outs b }
def LQ(K:W.Frag)(a:Ad):Sp:=λvs H Q _=>∃ (X:SX) (cs:List Ch) (tks:List (AM × V)) (M:Hs) (b:Nat) (row:List V),vs=[.ref X.S.st,.int b]/\C9 K a/\X.at a H cs tks M/\X.rows[b]? =some row/\∀ t H',(X.wr cs b row).at a H' cs tks M->SameBut (λx=>X.S.A.F x\/x=X.S.A.gp) H H'->Q (.ref t) H'
def QJ(K:W.Frag)(a:Ad):Sp:=λvs H Q _=>∃ x:Int,vs=[.int x]/\∀ (l:Addr) (zs:List Str) (H':Hp),H l=none->Same H H'->H' l=some (.lst (zs.map V.str))->zs.length=5->(∀ z∈zs,BM z=true)->Q (.ref l) H'
def QK(K:W.Frag)(a:Ad):Sp:=λvs H Q _=>∃ x:Int,vs=[.int x]/\∀ (t:Str) (H':Hp),t.length<=40->PyData.strOk t=true->Same H H'->Q (.str t) H'
def QL(K:W.Frag)(a:Ad):Sp:=λvs H Q _=>∃ x:Int,vs=[.int x]/\∀ y,Q (.int y) H
structure TD(K:W.Frag)(a:Ad):Prop where
 n1:W.exmOne K (.ref (a "NoName")) (.ref (a "NoName"))=some true
 t1:W.exmOne K (.ref (a "Twice")) (.ref (a "NoName"))=some false
 t2:W.exmOne K (.ref (a "Twice")) (.ref (a "Twice"))=some true
 p1:W.exmOne K (.ref (a "NoPiece")) (.ref (a "NoName"))=some false
 p2:W.exmOne K (.ref (a "NoPiece")) (.ref (a "Twice"))=some false
 p3:W.exmOne K (.ref (a "NoPiece")) (.ref (a "NoPiece"))=some true
 r1:W.exmOne K (.ref (a "NoRoom")) (.ref (a "NoName"))=some false
 r2:W.exmOne K (.ref (a "NoRoom")) (.ref (a "Twice"))=some false
 r3:W.exmOne K (.ref (a "NoRoom")) (.ref (a "NoPiece"))=some false
 r4:W.exmOne K (.ref (a "NoRoom")) (.ref (a "NoRoom"))=some true
def KI(tks:List (AM × V)):Str->Option Nat:=λz=>(EG tks z).head?
def RowsAre(H:Hp)(n r c w:Nat)(rows:List (List V))(S:Md):Prop:=∀ kind k v,kind<5->k<AX n r c w kind->(rows[A0 n r c w kind k]?).bind (λq=>q[k % w]?)=some v->RepC H (S kind k) v
structure C45(a:Ad)(H:Hp)(X:SX)(cs:List Ch)(tks:List (AM × V))(M:Hs):Prop where
 st:X.at a H cs tks M
 hi:∃ o,Hist X.m0 M.b M.as (KI tks) o
 b0:M.b=λ_ _=>.no
 cut:O6 cs X.outs
 rows:RowsAre H X.n X.r X.c X.w X.rows (sh M.b (λj=>X.outs (j:Nat)) M.as)
 few:X.c * X.w<=12
 ok:∀ x∈M.as,EA x.kind x.x
def M7(K:W.Frag)(a:Ad):Sp:=λvs H Q _=>∃ (X:SX) (cs:List Ch) (tks:List (AM × V)) (M:Hs) (kind:Nat) (y z:Str) (x:Int),vs=[.ref X.S.st,.int kind,.str y,.str z,.int x]/\C9 K a/\TD K a/\C45 a H X cs tks M/\cs.length<920/\kind<8/\BM y=true/\BM z=true ∧
 ∀ v cs' tks' M' H',C45 a H' X cs' tks' M'->cs'.length<=cs.length+15->SameBut (λx=>X.S.A.F x\/x=X.S.tk) H H'->Q (.str v) H'
def LR(K:W.Frag)(a:Ad):Sp:=λvs H Q _=>∃ (ly gp cl:Addr) (n r c w:Nat) (rows:List (List V)) (m:Nat),vs=[.ref ly,.ref gp]/\DU K a/\D6 K a/\LayAt a H ly n r c w/\PlankAt a H gp cl w rows m/\rows.length=n+r+c+r+c/\rows.length<=30/\w<=6 ∧
 ∀ (d:Addr) (AD:List (List AM × V)) (H':Hp),Same H H'->H' d=some (.dT AD)->(∀ b k:Nat,b<rows.length->k<w->BK AD [.inl (b:Int),.inl (k:Int)]=(rows[b]?).bind λq=>q[k]?)->Q (.ref d) H'
structure There(K:W.Frag)(a:Ad)(H:Hp)(ly d:Addr)(n r c w:Nat)(S:Md):Prop where
 tl:DU K a
 la:LayAt a H ly n r c w
 e:∃ AD,H d=some (.dT AD)/\∀ kind k,kind<5->k<AX n r c w kind->∃ v,BK AD [.inl ((A0 n r c w kind k:Nat):Int),.inl ((k % w:Nat):Int)]=some v/\RepC H (S kind k) v
 sd:Snd (n * w) S
 ok:∀ kind k,kind<5->k<AX n r c w kind->EA kind (S kind k)
 ps:∀ q m ps,S 3 q=.rc m ps->(∀ p∈ps,p<c * w)/\ps.length<=12
 rr:∀ k z q,k<n * w->S 0 k=.nm z q->q<r * w
 w1:1<=w
 w6:w<=6
 n6:n<=6
 r6:r<=6
 c6:c<=6
def eA(K:W.Frag)(a:Ad):Sp:=λvs H Q _=>∃ (ly d:Addr) (n r c w:Nat) (S:Md),vs=[.ref ly,.ref d]/\There K a H ly d n r c w S/\∀ H',Same H H'->Q (.bl true) H'
def QM(K:W.Frag)(a:Ad):Sp:=eA K a
def LS(K:W.Frag)(a:Ad):Sp:=eA K a
def eB(K:W.Frag)(a:Ad):Sp:=λvs H Q _=>∃ (s:Addr) (ns:List Int),vs=[.ref s]/\C9 K a/\TD K a/\SqL K H s (ns.map V.int)/\ns.length<=63/\∀ H',Q (.bl true) H'
end L2
namespace L2
abbrev FK:=W.Frag
abbrev XE:=St->XK
abbrev RT:=FK->Ad->XE->XE->TS
theorem A3{f g:RT}(h:∀ K a E E1,f K a E E1=g K a E E1){K a E E1 D σ H}:f K a E E1 D σ H=g K a E E1 D σ H:=by rw[h]
abbrev E4:TE:=tC (.int 0)
abbrev C3:TE:=tC (.int 1)
abbrev QN:TE:=tC (.int 2)
abbrev GJ:TE:=tC (.int 3)
abbrev eC:TE:=tC (.int 4)
abbrev M8:TE:=tC (.int 5)
abbrev QP:TE:=tC (.int 6)
abbrev T5:TE:=tC (.int 7)
abbrev T6:TE:=tC (.int 8)
abbrev Ap:TE:=tC (.int 9)
abbrev DA(n:Int):TE:=tC (.int n)
abbrev AJ(x0:TE):TA:=DI x0 BV
abbrev BO(x0 x1:TE):TA:=DI x0 (DI x1 BV)
abbrev DN(x0 x1 x2:TE):TA:=DI x0 (DI x1 (DI x2 BV))
abbrev M9(x0 x1 x2 x3:TE):TA:=DI x0 (DI x1 (DI x2 (DI x3 BV)))
abbrev CU(K:W.Frag)(x:TE)(n:Int):TE:=AG (CQ K) x (tC (.int n))
abbrev AE:TE:=FA 0
abbrev AU:TE:=FA 1
abbrev A4:TE:=FA 2
abbrev BP:TE:=FA 3
abbrev B7:TE:=FA 4
abbrev CB:TE:=FA 5
abbrev FE:TE:=FA 6
abbrev JR:TE:=FA 7
abbrev Aq:TE:=FA 8
section
variable{K:FK}{a:Ad}{n:Nat}{E E1:XE}{D:Ends}{σ:St}{H:Hp}
def eD:RT:=λK a E E1=>(D5 K AE AU "place")
theorem Av:type_of%(@A3 _ _ eD.eq_1):=rfl
def eE:RT:=λK a E E1=>(D5 K AE A4 "value")
theorem Aw:type_of%(@A3 _ _ eE.eq_1):=rfl
def eF:RT:=λK a E E1=>(D5 K AE BP "needs")
theorem Ax:type_of%(@A3 _ _ eF.eq_1):=rfl
def T7(K:FK)(a:Ad)(E:XE):TS:=(AK (eD K a E E) (AK (eE K a E E) (eF K a E E)))
def eG:RT:=λK a E E1=>(GE (a "NoChange") E (AJ (tC (.str "there is no change of such a number"))))
theorem eI:type_of%(@A3 _ _ eG.eq_1):=rfl
def eJ:RT:=λK a E E1=>(B0 (FQ (CJ (F7 ER FV E4 A4 (C2 (FF K) (AJ (AY K AE "made")))))) (eG K a E E) CN)
theorem eK:type_of%(@A3 _ _ eJ.eq_1):=rfl
def eL:RT:=λK a E E1=>(DR (FY K AU) (AO 2) (eJ K a E E))
theorem eO:type_of%(@A3 _ _ eL.eq_1):=rfl
def T8(K:FK)(a:Ad)(E:XE):TS:=(eL K a E E)
def eP:RT:=λK a E E1=>(A9 (C2 (K2 K) (AJ (OR K AE))))
theorem eQ:type_of%(@A3 _ _ eP.eq_1):=rfl
def eU:RT:=λK a E E1=>(B0 (CJ (AG KC AU (tC .non))) (eP K a E E) CN)
theorem eV:type_of%(@A3 _ _ eU.eq_1):=rfl
def eY:RT:=λK a E E1=>(A9 (C2 (K2 K) (AJ (OR K (AG (BQ K) (C2 (K1 K) (AJ AE)) (CG (AJ AU)))))))
theorem eZ:type_of%(@A3 _ _ eY.eq_1):=rfl
def QQ(K:FK)(a:Ad)(E:XE):TS:=(AK (eU K a E E) (eY K a E E))
def fA:RT:=λK a E E1=>(A9 BP)
theorem T9:type_of%(@A3 _ _ fA.eq_1):=rfl
def fB:RT:=λK a E E1=>(B0 (MB (tB (KW BP (AY K AE "outs"))) (tB (KW BP A4))) (fA K a E E) CN)
theorem UA:type_of%(@A3 _ _ fB.eq_1):=rfl
def fC:RT:=λK a E E1=>(DR (FY K (AY K (AG (CQ K) (AY K AE "made") AU) "needs")) (AO 3) (fB K a E E))
theorem UB:type_of%(@A3 _ _ fC.eq_1):=rfl
def fD:RT:=λK a E E1=>(A9 (tC .non))
theorem UC:type_of%(@A3 _ _ fD.eq_1):=rfl
def UD(K:FK)(a:Ad)(E:XE):TS:=(AK (fC K a E E) (fD K a E E))
def fE:RT:=λK a E E1=>(A5 (C2 (K1 K) (AJ AU)) (AO 3))
theorem UE:type_of%(@A3 _ _ fE.eq_1):=rfl
def fF:RT:=λK a E E1=>(A5 (AY K (AG (CQ K) (AY K AE "made") B7) "value") (N1 BP (CU K (AY K (AG (CQ K) (AY K AE "made") B7) "place") 1) SF))
theorem UF:type_of%(@A3 _ _ fF.eq_1):=rfl
def fG:RT:=λK a E E1=>(B0 (tB (KU B7 (AY K AE "outs"))) (fF K a E E) CN)
theorem UG:type_of%(@A3 _ _ fG.eq_1):=rfl
def fH:RT:=λK a E E1=>(DR (FY K (AG (CQ K) (AY K AE "made_in") A4)) (AO 4) (fG K a E E))
theorem UH:type_of%(@A3 _ _ fH.eq_1):=rfl
def fI:RT:=λK a E E1=>(A9 BP)
theorem UI:type_of%(@A3 _ _ fI.eq_1):=rfl
def UJ(K:FK)(a:Ad)(E:XE):TS:=(AK (fE K a E E) (AK (fH K a E E) (fI K a E E)))
def fJ:RT:=λK a E E1=>(A9 (MD (F7 ER ER (tC (.str " ")) AE (tC (.str "~"))) (AG (JG K) (C2 (OO K) (AJ AE)) (DA 37))))
theorem Ay:type_of%(@A3 _ _ fJ.eq_1):=rfl
def UK(K:FK)(a:Ad)(E:XE):TS:=(fJ K a E E)
def fK:RT:=λK a E E1=>(A9 (MD (F7 ER ER C3 (C2 (FF K) (AJ AE)) T6) (C2 (MW K) (AJ (EZ (ON AE) (AO 0) DL (F7 ER ER (tC (.str "a")) AE (tC (.str "z"))) 1 [])))))
theorem Az:type_of%(@A3 _ _ fK.eq_1):=rfl
def UL(K:FK)(a:Ad)(E:XE):TS:=(fK K a E E)
def fM:RT:=λK a E E1=>(D5 K AE (EZ (EX (AJ AU)) (AO 0) DL (AG (FW K) (EO (AJ (tC .non))) AU) 1 [2]) "contents")
theorem Bb:type_of%(@A3 _ _ fM.eq_1):=rfl
def fN:RT:=λK a E E1=>(D5 K AE A4 "width")
theorem Bc:type_of%(@A3 _ _ fN.eq_1):=rfl
def fP:RT:=λK a E E1=>(D5 K AE E4 "written")
theorem Bd:type_of%(@A3 _ _ fP.eq_1):=rfl
def UM(K:FK)(a:Ad)(E:XE):TS:=(AK (fM K a E E) (AK (fN K a E E) (fP K a E E)))
def fQ:RT:=λK a E E1=>(A9 (C2 (FF K) (AJ (AY K AE "contents"))))
theorem Bg:type_of%(@A3 _ _ fQ.eq_1):=rfl
def UN(K:FK)(a:Ad)(E:XE):TS:=(fQ K a E E)
def fR:RT:=λK a E E1=>(A9 (AY K AE "width"))
theorem Bh:type_of%(@A3 _ _ fR.eq_1):=rfl
def UO(K:FK)(a:Ad)(E:XE):TS:=(fR K a E E)
def fS:RT:=λK a E E1=>(GE (a "NoBlock") E (AJ (tC (.str "there is no such block"))))
theorem Bj:type_of%(@A3 _ _ fS.eq_1):=rfl
def fT:RT:=λK a E E1=>(B0 (FQ (CJ (F7 ER FV E4 AU (C2 (FF K) (AJ (AY K AE "contents")))))) (fS K a E E) CN)
theorem Bk:type_of%(@A3 _ _ fT.eq_1):=rfl
def UP(K:FK)(a:Ad)(E:XE):TS:=(fT K a E E)
def fU:RT:=λK a E E1=>(D5 K AE AU "name_blocks")
theorem Bl:type_of%(@A3 _ _ fU.eq_1):=rfl
def fV:RT:=λK a E E1=>(D5 K AE A4 "record_blocks")
theorem Bm:type_of%(@A3 _ _ fV.eq_1):=rfl
def fW:RT:=λK a E E1=>(D5 K AE BP "piece_blocks")
theorem Bp:type_of%(@A3 _ _ fW.eq_1):=rfl
def fX:RT:=λK a E E1=>(D5 K AE B7 "width")
theorem Bq:type_of%(@A3 _ _ fX.eq_1):=rfl
def UQ(K:FK)(a:Ad)(E:XE):TS:=(AK (fU K a E E) (AK (fV K a E E) (AK (fW K a E E) (fX K a E E))))
def fY:RT:=λK a E E1=>(A9 (EO (DN (AG (FW K) (AY K AE "name_blocks") (AY K AE "width")) (AG (FW K) (AY K AE "record_blocks") (AY K AE "width")) (AG (FW K) (AY K AE "piece_blocks") (AY K AE "width")))))
theorem Bv:type_of%(@A3 _ _ fY.eq_1):=rfl
def UR(K:FK)(a:Ad)(E:XE):TS:=(fY K a E E)
def fZ:RT:=λK a E E1=>(A9 (AG (BQ K) (AG (BQ K) (AY K AE "name_blocks") (AY K AE "record_blocks")) (AY K AE "piece_blocks")))
theorem Bw:type_of%(@A3 _ _ fZ.eq_1):=rfl
def US(K:FK)(a:Ad)(E:XE):TS:=(fZ K a E E)
def f7:RT:=λK a E E1=>(A9 (EO (BO (AG (BQ K) AU (AG C8 A4 (AY K AE "width"))) (AG C0 A4 (AY K AE "width")))))
theorem Bx:type_of%(@A3 _ _ f7.eq_1):=rfl
def UT(K:FK)(a:Ad)(E:XE):TS:=(f7 K a E E)
def f8:RT:=λK a E E1=>(A9 (AG (CQ K) AE AU))
theorem By:type_of%(@A3 _ _ f8.eq_1):=rfl
def f9:RT:=λK a E E1=>(B0 (CJ (AG FV AU (C2 (FF K) (AJ AE)))) (f8 K a E E) CN)
theorem Bz:type_of%(@A3 _ _ f9.eq_1):=rfl
def gA:RT:=λK a E E1=>(A9 E4)
theorem Cb:type_of%(@A3 _ _ gA.eq_1):=rfl
def UU(K:FK)(a:Ad)(E:XE):TS:=(AK (f9 K a E E) (gA K a E E))
def gB:RT:=λK a E E1=>(A5 (tC (.str "abcdefghijklmnopqrstuvwxyz")) (AO 1))
theorem Cc:type_of%(@A3 _ _ gB.eq_1):=rfl
def gC:RT:=λK a E E1=>(A5 (tC (.str "")) (AO 2))
theorem Cd:type_of%(@A3 _ _ gC.eq_1):=rfl
def gD:RT:=λK a E E1=>(A5 (AG C8 AE QP) (AO 3))
theorem Cg:type_of%(@A3 _ _ gD.eq_1):=rfl
def gE:RT:=λK a E E1=>(A5 (AG (BQ K) A4 (AG (CQ K) AU (AG C0 (AG (BQ K) BP (AG (FW K) (AG (FW K) T5 B7) (AG C0 (AG C8 BP (DA 26)) M8))) (DA 26)))) (AO 2))
theorem Cj:type_of%(@A3 _ _ gE.eq_1):=rfl
def gF:RT:=λK a E E1=>(A5 (AG (BQ K) (AG C8 BP (DA 29)) (AG (FW K) GJ B7)) (AO 3))
theorem Ck:type_of%(@A3 _ _ gF.eq_1):=rfl
def gG:RT:=λK a E E1=>(DR (EX (AJ (AG (BQ K) C3 (AG C0 AE QP)))) (AO 4) (AK (gE K a E E) (gF K a E E)))
theorem Cl:type_of%(@A3 _ _ gG.eq_1):=rfl
def gH:RT:=λK a E E1=>(A5 (AG C0 (AG C8 AE T5) (C2 (FF K) (AJ A4))) (AO 5))
theorem Cm:type_of%(@A3 _ _ gH.eq_1):=rfl
def gI:RT:=λK a E E1=>(A5 (AG (CQ K) AU (AG C0 (AG C8 AE (DA 11)) (DA 26))) (AO 6))
theorem Cp:type_of%(@A3 _ _ gI.eq_1):=rfl
def gJ:RT:=λK a E E1=>(A5 (AG (CQ K) AU (AG C0 (AG (BQ K) (AG (BQ K) (AG C8 AE (DA 11)) C3) (AG C0 (AG C8 AE (DA 13)) (DA 25))) (DA 26))) (AO 7))
theorem Cq:type_of%(@A3 _ _ gJ.eq_1):=rfl
def gK:RT:=λK a E E1=>(A5 (AG (CQ K) AU (AG C0 (AG (BQ K) (AG (BQ K) (HB K "str" dA AU (AJ (AG (CQ K) A4 CB))) C3) (AG C0 (AG C8 AE (DA 17)) (DA 25))) (DA 26))) (AO 8))
theorem Cv:type_of%(@A3 _ _ gK.eq_1):=rfl
def gL:RT:=λK a E E1=>(A9 (CG (DI A4 (M9 (AG (BQ K) A4 JR) (AG (BQ K) FE A4) (AG (BQ K) (AG (BQ K) (J3 (JJ K) A4 J1 (J2 CB)) Aq) (J3 (JJ K) A4 (J2 (AG (BQ K) CB C3)) J1)) (AG (BQ K) (AG (BQ K) A4 JR) FE)))))
theorem Cw:type_of%(@A3 _ _ gL.eq_1):=rfl
def UV(K:FK)(a:Ad)(E:XE):TS:=(AK (gB K a E E) (AK (gC K a E E) (AK (gD K a E E) (AK (gG K a E E) (AK (gH K a E E) (AK (gI K a E E) (AK (gJ K a E E) (AK (gK K a E E) (gL K a E E)))))))))
def gM:RT:=λK a E E1=>(A5 (tC (.str " !\"#$&'()*+,-./0123456789:;<=>?@ABCDEFGHIJKLMNOPQRSTUVWXYZ[\\]^_`")) (AO 1))
theorem Cy:type_of%(@A3 _ _ gM.eq_1):=rfl
def gO:RT:=λK a E E1=>(A5 (AG (BQ K) AU (tC (.str "abcdefghijklmnopqrstuvwxyz{|}~"))) (AO 1))
theorem Cz:type_of%(@A3 _ _ gO.eq_1):=rfl
def gP:RT:=λK a E E1=>(A5 (AG (BQ K) C3 (AG C0 AE M8)) (AO 2))
theorem Db:type_of%(@A3 _ _ gP.eq_1):=rfl
def gQ:RT:=λK a E E1=>(A5 (AG OJ (DA 40) (AG C0 (AG C8 AE (DA 40)) QN)) (AO 2))
theorem Dc:type_of%(@A3 _ _ gQ.eq_1):=rfl
def gR:RT:=λK a E E1=>(B0 (CJ (AG (FU K) (AG C0 (AG C8 AE M8) T6) GJ)) (gQ K a E E) CN)
theorem Dd:type_of%(@A3 _ _ gR.eq_1):=rfl
def UW:RT:=λK a E E1=>(A5 (AG (BQ K) C3 (AG C0 (AG C8 AE (DA 19)) (DA 93))) (AO 3))
theorem Dg:type_of%(@A3 _ _ UW.eq_1):=rfl
def UX:RT:=λK a E E1=>(A5 (AG (BQ K) C3 (AG C0 (AG C8 AE T5) GJ)) (AO 4))
theorem Dh:type_of%(@A3 _ _ UX.eq_1):=rfl
def UY:RT:=λK a E E1=>(A9 (HB K "str" (c5 K) (tC (.str "")) (AJ (EZ (EX (AJ A4)) (AO 0) DL (AG (CQ K) AU (AG C0 (AG (BQ K) (AG C8 A4 GJ) (AG (FW K) BP (AG C8 AE B7))) (DA 94))) 1 [1,0,3,4]))))
theorem Dj:type_of%(@A3 _ _ UY.eq_1):=rfl
def UZ(K:FK)(a:Ad)(E:XE):TS:=(AK (gM K a E E) (AK (gO K a E E) (AK (gP K a E E) (AK (gR K a E E) (AK (UW K a E E) (AK (UX K a E E) (UY K a E E)))))))
def gS:RT:=λK a E E1=>(A9 (AG OJ (AG C0 AE eC) C3))
theorem Dk:type_of%(@A3 _ _ gS.eq_1):=rfl
def gT:RT:=λK a E E1=>(B0 (CJ (AG (FU K) (AG C0 (AG C8 AE (DA 28)) QN) E4)) (gS K a E E) CN)
theorem Dl:type_of%(@A3 _ _ gT.eq_1):=rfl
def gU:RT:=λK a E E1=>(A9 (AG OJ (AG C0 AE (DA 14)) C3))
theorem Dm:type_of%(@A3 _ _ gU.eq_1):=rfl
def U0(K:FK)(a:Ad)(E:XE):TS:=(AK (gT K a E E) (gU K a E E))
def gW:RT:=λK a E E1=>(D5 K AE AU "ground")
theorem Dp:type_of%(@A3 _ _ gW.eq_1):=rfl
def gX:RT:=λK a E E1=>(D5 K AE (CG BV) "made")
theorem Dq:type_of%(@A3 _ _ gX.eq_1):=rfl
def gY:RT:=λK a E E1=>(D5 K AE (EZ (EX (AJ (AR (a "Plank") "blocks" (K9 K a) [] E AU BV))) (AO 0) DL (CG BV) 1 []) "made_in")
theorem Dv:type_of%(@A3 _ _ gY.eq_1):=rfl
def gZ:RT:=λK a E E1=>(D5 K AE OD "latest")
theorem Dw:type_of%(@A3 _ _ gZ.eq_1):=rfl
def g7:RT:=λK a E E1=>(D5 K AE JC "outs")
theorem Dx:type_of%(@A3 _ _ g7.eq_1):=rfl
def U1(K:FK)(a:Ad)(E:XE):TS:=(AK (gW K a E E) (AK (gX K a E E) (AK (gY K a E E) (AK (gZ K a E E) (g7 K a E E)))))
def g8:RT:=λK a E E1=>(GE (a "NoBlock") E (AJ (tC (.str "there is no such place on the plank"))))
theorem Dy:type_of%(@A3 _ _ g8.eq_1):=rfl
def g9:RT:=λK a E E1=>(B0 (JY (FQ (CJ (F7 ER FV E4 (CU K AU 0) (AR (a "Plank") "blocks" (K9 K a) [] E (AY K AE "ground") BV)))) (FQ (CJ (F7 ER FV E4 (CU K AU 1) (AR (a "Plank") "cells" (OZ K a) [] E (AY K AE "ground") BV))))) (g8 K a E E) CN)
theorem Dz:type_of%(@A3 _ _ g9.eq_1):=rfl
def U2(K:FK)(a:Ad)(E:XE):TS:=(g9 K a E E)
def hE:RT:=λK a E E1=>(A5 (C2 (OS K) (AJ A4)) (AO 3))
theorem U3:type_of%(@A3 _ _ hE.eq_1):=rfl
def hG:RT:=λK a E E1=>(A5 (CG BV) (AO 4))
theorem U4:type_of%(@A3 _ _ hG.eq_1):=rfl
def hR:RT:=λK a E E1=>(A5 (CG BV) (AO 5))
theorem U5:type_of%(@A3 _ _ hR.eq_1):=rfl
def hU:RT:=λK a E E1=>(A5 (AR (a "Hold") "lack_of" (PL K a) [] E AE (BO FE BP)) (AO 7))
theorem U6:type_of%(@A3 _ _ hU.eq_1):=rfl
def hV:RT:=λK a E E1=>(HD BP FE (tC (.bl true)))
theorem U7:type_of%(@A3 _ _ hV.eq_1):=rfl
def hW:RT:=λK a E E1=>(DH (HB K "list" K3 B7 (AJ FE)))
theorem U8:type_of%(@A3 _ _ hW.eq_1):=rfl
def hX:RT:=λK a E E1=>(DH (HB K "list" K3 CB (AJ (EO (BO FE JR)))))
theorem U9:type_of%(@A3 _ _ hX.eq_1):=rfl
def hZ:RT:=λK a E E1=>(B0 (CJ (AG KC JR (tC .non))) (AK (hV K a E E) (hW K a E E)) (hX K a E E))
theorem VA:type_of%(@A3 _ _ hZ.eq_1):=rfl
def h9:RT:=λK a E E1=>(B0 (MB (tB (KW FE (AY K AE "outs"))) (tB (KW FE BP))) (AK (hU K a E E) (hZ K a E E)) CN)
theorem VB:type_of%(@A3 _ _ h9.eq_1):=rfl
def iA:RT:=λK a E E1=>(DR (FY K (AG (CQ K) (AY K AE "made_in") AU)) (AO 6) (h9 K a E E))
theorem VC:type_of%(@A3 _ _ iA.eq_1):=rfl
def iB:RT:=λK a E E1=>(A9 (EO (BO B7 CB)))
theorem VD:type_of%(@A3 _ _ iB.eq_1):=rfl
def VE(K:FK)(a:Ad)(E:XE):TS:=(AK (hE K a E E) (AK (hG K a E E) (AK (hR K a E E) (AK (iA K a E E) (iB K a E E)))))
def iC:RT:=λK a E E1=>(A9 (MD (F7 ER ER C3 (C2 (FF K) (AJ AE)) (DA 40)) (C2 (MW K) (AJ (EZ (ON AE) (AO 0) DL (DE (P0 K a) [] (λ_=>E0) (AJ AE)) 1 [])))))
theorem Eb:type_of%(@A3 _ _ iC.eq_1):=rfl
def VF(K:FK)(a:Ad)(E:XE):TS:=(iC K a E E)
def iD:RT:=λK a E E1=>(DH (AR (a "Plank") "ask_for_block" (JK K a) [] E AE (AJ AU)))
theorem Ec:type_of%(@A3 _ _ iD.eq_1):=rfl
def iE:RT:=λK a E E1=>(A9 (C2 (K1 K) (AJ (AG (CQ K) (AY K AE "contents") AU))))
theorem Ed:type_of%(@A3 _ _ iE.eq_1):=rfl
def VG(K:FK)(a:Ad)(E:XE):TS:=(AK (iD K a E E) (iE K a E E))
def iF:RT:=λK a E E1=>(DH (AR (a "Plank") "ask_for_block" (JK K a) [] E AE (AJ AU)))
theorem Eg:type_of%(@A3 _ _ iF.eq_1):=rfl
def iG:RT:=λK a E E1=>(GE (a "NoBlock") E (AJ (tC (.str "the list is not as long as a block"))))
theorem Eh:type_of%(@A3 _ _ iG.eq_1):=rfl
def iH:RT:=λK a E E1=>(B0 (CJ (AG (JG K) (C2 (FF K) (AJ A4)) (AY K AE "width"))) (iG K a E E) CN)
theorem Ej:type_of%(@A3 _ _ iH.eq_1):=rfl
def iI:RT:=λK a E E1=>(A5 (C2 (K2 K) (AJ A4)) (N1 (AY K AE "contents") AU SF))
theorem Ek:type_of%(@A3 _ _ iI.eq_1):=rfl
def iJ:RT:=λK a E E1=>(RO K AE C3 N8 "written")
theorem El:type_of%(@A3 _ _ iJ.eq_1):=rfl
def VH(K:FK)(a:Ad)(E:XE):TS:=(AK (iF K a E E) (AK (iH K a E E) (AK (iI K a E E) (iJ K a E E))))
def iK:RT:=λK a E E1=>(A9 (AR (a "Layout") "place_from" (GH K a) [] E AE (BO E4 AU)))
theorem Em:type_of%(@A3 _ _ iK.eq_1):=rfl
def VI(K:FK)(a:Ad)(E:XE):TS:=(iK K a E E)
def iL:RT:=λK a E E1=>(A9 (AR (a "Layout") "place_from" (GH K a) [] E AE (BO (AY K AE "name_blocks") AU)))
theorem Ep:type_of%(@A3 _ _ iL.eq_1):=rfl
def VJ(K:FK)(a:Ad)(E:XE):TS:=(iL K a E E)
def iM:RT:=λK a E E1=>(A9 (AR (a "Layout") "place_from" (GH K a) [] E AE (BO (AG (BQ K) (AY K AE "name_blocks") (AY K AE "record_blocks")) AU)))
theorem Ev:type_of%(@A3 _ _ iM.eq_1):=rfl
def VL(K:FK)(a:Ad)(E:XE):TS:=(iM K a E E)
def iN:RT:=λK a E E1=>(A9 (AR (a "Layout") "place_from" (GH K a) [] E AE (BO (AR (a "Layout") "blocks_ahead_of_marks" (JM K a) [] E AE BV) AU)))
theorem Ew:type_of%(@A3 _ _ iN.eq_1):=rfl
def VM(K:FK)(a:Ad)(E:XE):TS:=(iN K a E E)
def iO:RT:=λK a E E1=>(A9 (AR (a "Layout") "place_from" (GH K a) [] E AE (BO (AG (BQ K) (AR (a "Layout") "blocks_ahead_of_marks" (JM K a) [] E AE BV) (AY K AE "record_blocks")) AU)))
theorem Ex:type_of%(@A3 _ _ iO.eq_1):=rfl
def VN(K:FK)(a:Ad)(E:XE):TS:=(iO K a E E)
def iP:RT:=λK a E E1=>(A9 (AG (BQ K) (AG (BQ K) (AR (a "Layout") "blocks_ahead_of_marks" (JM K a) [] E AE BV) (AY K AE "record_blocks")) (AY K AE "piece_blocks")))
theorem Ey:type_of%(@A3 _ _ iP.eq_1):=rfl
def VO(K:FK)(a:Ad)(E:XE):TS:=(iP K a E E)
def iQ:RT:=λK a E E1=>(DH (AR (a "Hold") "ask_for_place" (PJ K a) [] E AE (AJ AU)))
theorem Ez:type_of%(@A3 _ _ iQ.eq_1):=rfl
def iR:RT:=λK a E E1=>(A9 (RZ (AY K AE "latest") AU))
theorem Fb:type_of%(@A3 _ _ iR.eq_1):=rfl
def VP(K:FK)(a:Ad)(E:XE):TS:=(AK (iQ K a E E) (iR K a E E))
def iS:RT:=λK a E E1=>(A5 (AR (a "Plank") "read" (JL K a) [] E (AY K AE "ground") (AJ AU)) (AO 2))
theorem QR:type_of%(@A3 _ _ iS.eq_1):=rfl
def iT:RT:=λK a E E1=>(A5 (AR (a "Hold") "outcome" (PM K a) [] E AE (BO AU JC)) (AO 3))
theorem QS:type_of%(@A3 _ _ iT.eq_1):=rfl
def iU:RT:=λK a E E1=>(HD (AY K AE "outs") B7 (tC (.bl true)))
theorem QT:type_of%(@A3 _ _ iU.eq_1):=rfl
def iV:RT:=λK a E E1=>(DR (FY K (CU K BP 0)) (AO 4) (iU K a E E))
theorem QU:type_of%(@A3 _ _ iV.eq_1):=rfl
def iW:RT:=λK a E E1=>(DH (AR (a "Plank") "write" (O0 K a) [] E (AY K AE "ground") (BO AU (AR (a "Hold") "laid_over" (PN K a) [] E AE (BO A4 AU)))))
theorem QW:type_of%(@A3 _ _ iW.eq_1):=rfl
def iX:RT:=λK a E E1=>(A9 BP)
theorem QX:type_of%(@A3 _ _ iX.eq_1):=rfl
def VQ(K:FK)(a:Ad)(E:XE):TS:=(AK (iS K a E E) (AK (iT K a E E) (AK (iV K a E E) (AK (iW K a E E) (iX K a E E)))))
def iY:RT:=λK a E E1=>(A9 (IU (a "Plank") (OY K a) [] E (BO (AR (a "Layout") "blocks" (IF K a) [] E AE BV) (AY K AE "width"))))
theorem Fc:type_of%(@A3 _ _ iY.eq_1):=rfl
def VR(K:FK)(a:Ad)(E:XE):TS:=(iY K a E E)
def iZ:RT:=λK a E E1=>(A5 OD (AO 2))
theorem Fd:type_of%(@A3 _ _ iZ.eq_1):=rfl
def i4:RT:=λK a E E1=>(A5 (AR (a "Plank") "read" (JL K a) [] E AU (AJ BP)) (AO 4))
theorem Fg:type_of%(@A3 _ _ i4.eq_1):=rfl
def i5:RT:=λK a E E1=>(HD A4 (EO (BO BP CB)) (AG (CQ K) B7 CB))
theorem Fh:type_of%(@A3 _ _ i5.eq_1):=rfl
def i6:RT:=λK a E E1=>(DR (EX (AJ (C2 (FF K) (AJ B7)))) (AO 5) (i5 K a E E))
theorem Fj:type_of%(@A3 _ _ i6.eq_1):=rfl
def i7:RT:=λK a E E1=>(DR (EX (AJ (AR (a "Layout") "blocks" (IF K a) [] E AE BV))) (AO 3) (AK (i4 K a E E) (i6 K a E E)))
theorem Fk:type_of%(@A3 _ _ i7.eq_1):=rfl
def i8:RT:=λK a E E1=>(A9 A4)
theorem Fl:type_of%(@A3 _ _ i8.eq_1):=rfl
def VS(K:FK)(a:Ad)(E:XE):TS:=(AK (iZ K a E E) (AK (i7 K a E E) (i8 K a E E)))
def i9:RT:=λK a E E1=>(A5 JC (AO 2))
theorem Fm:type_of%(@A3 _ _ i9.eq_1):=rfl
def jA:RT:=λK a E E1=>(A5 (HC AU (AR (a "Layout") "record_at" (EV K a) [] E AE (AJ BP))) (AO 4))
theorem Fp:type_of%(@A3 _ _ jA.eq_1):=rfl
def Fq:RT:=λK a E E1=>(A9 (tC (.bl false)))
def jB:RT:=λK a E E1=>(B0 (JY (tB (KU CB A4)) (FQ (JI K (C2 (MT K) (BO (HC AU (AR (a "Layout") "piece_at" (KF K a) [] E AE (AJ CB))) (tC (.ty "str"))))))) (Fq K a E E) CN)
theorem Fv:type_of%(@A3 _ _ jB.eq_1):=rfl
def Fw:RT:=λK a E E1=>(A9 (tC (.bl false)))
def jC:RT:=λK a E E1=>(B0 (CJ (AG (JG K) (HC AU (AR (a "Layout") "piece_mark" (F2 K a) [] E AE (AJ CB))) C3)) (Fw K a E E) CN)
theorem Fx:type_of%(@A3 _ _ jC.eq_1):=rfl
def jD:RT:=λK a E E1=>(HD A4 CB (tC (.bl true)))
theorem Fy:type_of%(@A3 _ _ jD.eq_1):=rfl
def jE:RT:=λK a E E1=>(DR (FY K (CU K B7 1)) (AO 5) (AK (jB K a E E) (AK (jC K a E E) (jD K a E E))))
theorem Fz:type_of%(@A3 _ _ jE.eq_1):=rfl
def jF:RT:=λK a E E1=>(B0 (CJ (AG K0 B7 (tC .non))) (jE K a E E) CN)
theorem Gb:type_of%(@A3 _ _ jF.eq_1):=rfl
def jG:RT:=λK a E E1=>(DR (EX (AJ (CU K (AR (a "Layout") "counts" (FI K a) [] E AE BV) 1))) (AO 3) (AK (jA K a E E) (jF K a E E)))
theorem Gc:type_of%(@A3 _ _ jG.eq_1):=rfl
def jH:RT:=λK a E E1=>(A9 (tC (.bl true)))
theorem Gd:type_of%(@A3 _ _ jH.eq_1):=rfl
def VT(K:FK)(a:Ad)(E:XE):TS:=(AK (i9 K a E E) (AK (jG K a E E) (jH K a E E)))
def jI:RT:=λK a E E1=>(A5 (AR (a "Hold") "newest" (LG K a) [] E AE (AJ AU)) (AO 4))
theorem Gg:type_of%(@A3 _ _ jI.eq_1):=rfl
def jJ:RT:=λK a E E1=>(DH (AR (a "Hold") "ask_for_changes" (PK K a) [] E AE (AJ BP)))
theorem Gh:type_of%(@A3 _ _ jJ.eq_1):=rfl
def jK:RT:=λK a E E1=>(A5 (C2 (FF K) (AJ (AY K AE "made"))) (AO 5))
theorem Gj:type_of%(@A3 _ _ jK.eq_1):=rfl
def jL:RT:=λK a E E1=>(DH (HB K "list" K3 (AY K AE "made") (AJ (IU (a "Change") (PD K a) [] E (DN AU A4 (DE (PF K a) [] E (BO BP B7)))))))
theorem Gk:type_of%(@A3 _ _ jL.eq_1):=rfl
def jM:RT:=λK a E E1=>(DH (HB K "list" K3 (AG (CQ K) (AY K AE "made_in") (CU K AU 0)) (AJ CB)))
theorem Gm:type_of%(@A3 _ _ jM.eq_1):=rfl
def jN:RT:=λK a E E1=>(HD (AY K AE "latest") AU CB)
theorem Gp:type_of%(@A3 _ _ jN.eq_1):=rfl
def jO:RT:=λK a E E1=>(A9 CB)
theorem Gq:type_of%(@A3 _ _ jO.eq_1):=rfl
def VU(K:FK)(a:Ad)(E:XE):TS:=(AK (jI K a E E) (AK (jJ K a E E) (AK (jK K a E E) (AK (jL K a E E) (AK (jM K a E E) (AK (jN K a E E) (jO K a E E)))))))
def jP:RT:=λK a E E1=>(A5 (AR (a "Hold") "newest" (LG K a) [] E AE (AJ AU)) (AO 2))
theorem Gv:type_of%(@A3 _ _ jP.eq_1):=rfl
def jQ:RT:=λK a E E1=>(A9 (AG (CQ K) (AR (a "Plank") "read" (JL K a) [] E (AY K AE "ground") (AJ (CU K AU 0))) (CU K AU 1)))
theorem Gw:type_of%(@A3 _ _ jQ.eq_1):=rfl
def jR:RT:=λK a E E1=>(B0 (CJ (AG KC A4 (tC .non))) (jQ K a E E) CN)
theorem Gx:type_of%(@A3 _ _ jR.eq_1):=rfl
def jS:RT:=λK a E E1=>(A9 (AY K (AG (CQ K) (AY K AE "made") A4) "value"))
theorem Gy:type_of%(@A3 _ _ jS.eq_1):=rfl
def VV(K:FK)(a:Ad)(E:XE):TS:=(AK (jP K a E E) (AK (jR K a E E) (jS K a E E)))
def jT:RT:=λK a E E1=>(D5 K AE AU "plan")
theorem Gz:type_of%(@A3 _ _ jT.eq_1):=rfl
def jU:RT:=λK a E E1=>(D5 K AE (IU (a "Hold") (M5 K a) [] E (AJ A4)) "book")
theorem Hb:type_of%(@A3 _ _ jU.eq_1):=rfl
def jV:RT:=λK a E E1=>(D5 K AE JC "taken_out")
theorem Hc:type_of%(@A3 _ _ jV.eq_1):=rfl
def VW(K:FK)(a:Ad)(E:XE):TS:=(AK (jT K a E E) (AK (jU K a E E) (jV K a E E)))
def jW:RT:=λK a E E1=>(A9 (AR (a "Hold") "write" (PQ K a) [] E (AY K AE "book") (AJ AU)))
theorem Hd:type_of%(@A3 _ _ jW.eq_1):=rfl
def VX(K:FK)(a:Ad)(E:XE):TS:=(jW K a E E)
def jX:RT:=λK a E E1=>(A5 JC (AO 2))
theorem Hg:type_of%(@A3 _ _ jX.eq_1):=rfl
def jY:RT:=λK a E E1=>(A5 JC (AO 3))
theorem Hh:type_of%(@A3 _ _ jY.eq_1):=rfl
def jZ:RT:=λK a E E1=>(A5 (HC AU (AR (a "Layout") "name_at" (F1 K a) [] E AE (AJ B7))) (AO 5))
theorem Hj:type_of%(@A3 _ _ jZ.eq_1):=rfl
def Hk:RT:=λK a E E1=>(A9 (tC (.bl false)))
def j2:RT:=λK a E E1=>(B0 (tB (KU (CU K CB 0) BP)) (Hk K a E E) CN)
theorem Hl:type_of%(@A3 _ _ j2.eq_1):=rfl
def j3:RT:=λK a E E1=>(HD BP (CU K CB 0) (tC (.bl true)))
theorem Hm:type_of%(@A3 _ _ j3.eq_1):=rfl
def j4:RT:=λK a E E1=>(HD A4 (CU K CB 1) (AG (BQ K) (R0 A4 (CU K CB 1) E4) C3))
theorem Hq:type_of%(@A3 _ _ j4.eq_1):=rfl
def j5:RT:=λK a E E1=>(B0 (CJ (AG K0 CB (tC .non))) (AK (j2 K a E E) (AK (j3 K a E E) (j4 K a E E))) CN)
theorem Hv:type_of%(@A3 _ _ j5.eq_1):=rfl
def j6:RT:=λK a E E1=>(DR (EX (AJ (CU K (AR (a "Layout") "counts" (FI K a) [] E AE BV) 0))) (AO 4) (AK (jZ K a E E) (j5 K a E E)))
theorem Hw:type_of%(@A3 _ _ j6.eq_1):=rfl
def j7:RT:=λK a E E1=>(A5 (HC AU (AR (a "Layout") "record_at" (EV K a) [] E AE (AJ FE))) (AO 7))
theorem Hx:type_of%(@A3 _ _ j7.eq_1):=rfl
def Hy:RT:=λK a E E1=>(A9 (tC (.bl false)))
def j8:RT:=λK a E E1=>(B0 (JY (CJ (AG KC JR (tC .non))) (CJ (AG (JG K) (HC AU (AR (a "Layout") "record_mark" (GZ K a) [] E AE (AJ FE))) C3))) (Hy K a E E) CN)
theorem Hz:type_of%(@A3 _ _ j8.eq_1):=rfl
def Jb:RT:=λK a E E1=>(A9 (tC (.bl false)))
def j9:RT:=λK a E E1=>(B0 (JY (FQ (JI K (C2 (MT K) (BO (CU K JR 0) (tC (.ty "int")))))) (JY (JI K (C2 (MT K) (BO (CU K JR 0) (tC (.ty "bool"))))) (CJ (AG FV (CU K JR 0) (HC A4 FE))))) (Jb K a E E) CN)
theorem Jc:type_of%(@A3 _ _ j9.eq_1):=rfl
def kA:RT:=λK a E E1=>(DR (S9 A4) (AO 6) (AK (j7 K a E E) (AK (j8 K a E E) (j9 K a E E))))
theorem Jd:type_of%(@A3 _ _ kA.eq_1):=rfl
def kB:RT:=λK a E E1=>(A9 (DE (QM K a) [] E (BO AE AU)))
theorem Jg:type_of%(@A3 _ _ kB.eq_1):=rfl
def VY(K:FK)(a:Ad)(E:XE):TS:=(AK (jX K a E E) (AK (jY K a E E) (AK (j6 K a E E) (AK (kA K a E E) (kB K a E E)))))
def kC:RT:=λK a E E1=>(A9 BP)
theorem Jh:type_of%(@A3 _ _ kC.eq_1):=rfl
def kD:RT:=λK a E E1=>(B0 (CJ (AG (OV K) (AR (a "Hold") "in_hand" (JN K a) [] E AE (AJ B7)) A4)) (kC K a E E) CN)
theorem Jj:type_of%(@A3 _ _ kD.eq_1):=rfl
def kE:RT:=λK a E E1=>(DR (OU K (AJ AU)) (N0 K 2 (KP (AO 3) (KP (AO 4) NY))) (kD K a E E))
theorem Jk:type_of%(@A3 _ _ kE.eq_1):=rfl
def kF:RT:=λK a E E1=>(GE (a "NoRoom") E (AJ (tC (.str "nothing of what is to be taken is free"))))
theorem Jl:type_of%(@A3 _ _ kF.eq_1):=rfl
def VZ(K:FK)(a:Ad)(E:XE):TS:=(AK (kE K a E E) (kF K a E E))
def kG:RT:=λK a E E1=>(A9 (EZ (EX (AJ (CU K (AR (a "Layout") "counts" (FI K a) [] E (AY K AE "plan") BV) 0))) (AO 0) DL (AR (a "Hold") "in_hand" (JN K a) [] (λ_=>E0) (AY K AU "book") (AJ (AR (a "Layout") "name_at" (F1 K a) [] (λ_=>E0) (AY K AU "plan") (AJ AE)))) 1 [0]))
theorem Jm:type_of%(@A3 _ _ kG.eq_1):=rfl
def V0(K:FK)(a:Ad)(E:XE):TS:=(kG K a E E)
def kH:RT:=λK a E E1=>(A9 (AR (a "Hold") "in_hand" (JN K a) [] E (AY K AE "book") (AJ (AR (a "Layout") "record_at" (EV K a) [] E (AY K AE "plan") (AJ AU)))))
theorem Jp:type_of%(@A3 _ _ kH.eq_1):=rfl
def V1(K:FK)(a:Ad)(E:XE):TS:=(kH K a E E)
def kI:RT:=λK a E E1=>(A5 (CG (AJ B7)) (AO 5))
theorem Jq:type_of%(@A3 _ _ kI.eq_1):=rfl
def kJ:RT:=λK a E E1=>(DH (HB K "list" K3 CB (AJ (HC (AY K AE "taken_out") A4))))
theorem Jv:type_of%(@A3 _ _ kJ.eq_1):=rfl
def kK:RT:=λK a E E1=>(B0 (tB (KU A4 (AY K AE "taken_out"))) (kJ K a E E) CN)
theorem Jw:type_of%(@A3 _ _ kK.eq_1):=rfl
def V2:RT:=λK a E E1=>(A9 (AR (a "Hold") "change" (DV K a) [] E (AY K AE "book") (DN (AR (a "Layout") "name_at" (F1 K a) [] E (AY K AE "plan") (AJ AU)) (EO (BO A4 BP)) CB)))
theorem Jx:type_of%(@A3 _ _ V2.eq_1):=rfl
def V3(K:FK)(a:Ad)(E:XE):TS:=(AK (kI K a E E) (AK (kK K a E E) (V2 K a E E)))
def kL:RT:=λK a E E1=>(A5 (EZ (EX (AJ (CU K (AR (a "Layout") "counts" (FI K a) [] E AE BV) 0))) (AO 0) DL (AR (a "Layout") "name_at" (F1 K a) [] (λ_=>E0) AU (AJ AE)) 1 [0]) (AO 2))
theorem Jy:type_of%(@A3 _ _ kL.eq_1):=rfl
def kM:RT:=λK a E E1=>(A9 (DE (II K a) [] E (DN AU A4 (EO (AJ (tC .non))))))
theorem Jz:type_of%(@A3 _ _ kM.eq_1):=rfl
def V4(K:FK)(a:Ad)(E:XE):TS:=(AK (kL K a E E) (kM K a E E))
def kN:RT:=λK a E E1=>(A5 (EZ (EX (AJ (CU K (AR (a "Layout") "counts" (FI K a) [] E AE BV) 1))) (AO 0) DL (AR (a "Layout") "record_mark" (GZ K a) [] (λ_=>E0) AU (AJ AE)) 1 [0]) (AO 2))
theorem Kb:type_of%(@A3 _ _ kN.eq_1):=rfl
def kO:RT:=λK a E E1=>(A9 (DE (II K a) [] E (DN AU A4 (EO (BO (tC .non) E4)))))
theorem Kc:type_of%(@A3 _ _ kO.eq_1):=rfl
def V5(K:FK)(a:Ad)(E:XE):TS:=(AK (kN K a E E) (kO K a E E))
def kP:RT:=λK a E E1=>(A5 (EZ (EX (AJ (CU K (AR (a "Layout") "counts" (FI K a) [] E AE BV) 2))) (AO 0) DL (AR (a "Layout") "piece_mark" (F2 K a) [] (λ_=>E0) AU (AJ AE)) 1 [0]) (AO 2))
theorem Kd:type_of%(@A3 _ _ kP.eq_1):=rfl
def kQ:RT:=λK a E E1=>(A9 (DE (II K a) [] E (DN AU A4 (EO (BO (tC .non) E4)))))
theorem Kg:type_of%(@A3 _ _ kQ.eq_1):=rfl
def V6(K:FK)(a:Ad)(E:XE):TS:=(AK (kP K a E E) (kQ K a E E))
def kR:RT:=λK a E E1=>(A9 A4)
theorem Kh:type_of%(@A3 _ _ kR.eq_1):=rfl
def kS:RT:=λK a E E1=>(B0 (MB (CJ (AG K0 BP (tC .non))) (CJ (AG (FU K) (CU K BP 0) AU))) (kR K a E E) CN)
theorem Kj:type_of%(@A3 _ _ kS.eq_1):=rfl
def kT:RT:=λK a E E1=>(DR (OU K (AJ (AR (a "Store") "name_cells" (LJ K a) [] E AE BV))) (N0 K 2 (KP (AO 2) (KP (AO 3) NY))) (kS K a E E))
theorem Kk:type_of%(@A3 _ _ kT.eq_1):=rfl
def kU:RT:=λK a E E1=>(A9 (tC .non))
theorem Kl:type_of%(@A3 _ _ kU.eq_1):=rfl
def V7(K:FK)(a:Ad)(E:XE):TS:=(AK (kT K a E E) (kU K a E E))
def kW:RT:=λK a E E1=>(A5 (AR (a "Store") "standing" (FL K a) [] E AE (AJ AU)) (AO 4))
theorem Km:type_of%(@A3 _ _ kW.eq_1):=rfl
def kX:RT:=λK a E E1=>(A9 (AR (a "Hold") "change" (DV K a) [] E (AY K AE "book") (DN (AR (a "Layout") "record_at" (EV K a) [] E (AY K AE "plan") (AJ AU)) (EO (BO (AG (BQ K) (CU K B7 0) A4) (CU K B7 1))) BP)))
theorem Kp:type_of%(@A3 _ _ kX.eq_1):=rfl
def V8(K:FK)(a:Ad)(E:XE):TS:=(AK (kW K a E E) (kX K a E E))
def kY:RT:=λK a E E1=>(A9 (AR (a "Hold") "change" (DV K a) [] E (AY K AE "book") (DN (AR (a "Layout") "record_at" (EV K a) [] E (AY K AE "plan") (AJ AU)) (EO (BO (CU K (AR (a "Store") "standing" (FL K a) [] E AE (AJ AU)) 0) A4)) BP)))
theorem Kq:type_of%(@A3 _ _ kY.eq_1):=rfl
def V9(K:FK)(a:Ad)(E:XE):TS:=(kY K a E E)
def kZ:RT:=λK a E E1=>(A5 (CU K (AR (a "Store") "standing" (FL K a) [] E AE (AJ AU)) 1) (AO 3))
theorem Kv:type_of%(@A3 _ _ kZ.eq_1):=rfl
def k8:RT:=λK a E E1=>(A5 (AR (a "Hold") "change" (DV K a) [] E (AY K AE "book") (DN (AR (a "Layout") "record_at" (EV K a) [] E (AY K AE "plan") (AJ AU)) (tC .non) (CG (AJ A4)))) (AO 4))
theorem Kw:type_of%(@A3 _ _ k8.eq_1):=rfl
def k9:RT:=λK a E E1=>(A5 (CG (AJ B7)) (AO 5))
theorem Kx:type_of%(@A3 _ _ k9.eq_1):=rfl
def lA:RT:=λK a E E1=>(DH (HB K "list" K3 CB (AJ (AR (a "Hold") "change" (DV K a) [] E (AY K AE "book") (DN FE E4 (CG (AJ B7)))))))
theorem Ky:type_of%(@A3 _ _ lA.eq_1):=rfl
def lB:RT:=λK a E E1=>(DR (FY K (AG (BQ K) (EZ (FY K BP) (AO 0) DL (AR (a "Layout") "piece_mark" (F2 K a) [] (λ_=>E0) (AY K AU "plan") (AJ AE)) 1 [0]) (CG (AJ (AR (a "Layout") "record_mark" (GZ K a) [] E (AY K AE "plan") (AJ AU)))))) (AO 6) (lA K a E E))
theorem Kz:type_of%(@A3 _ _ lB.eq_1):=rfl
def lC:RT:=λK a E E1=>(A9 CB)
theorem Lb:type_of%(@A3 _ _ lC.eq_1):=rfl
def WA(K:FK)(a:Ad)(E:XE):TS:=(AK (kZ K a E E) (AK (k8 K a E E) (AK (k9 K a E E) (AK (lB K a E E) (lC K a E E)))))
def lD:RT:=λK a E E1=>(GE (a "NoName") E (AJ (tC (.str "the text is no name"))))
theorem Lc:type_of%(@A3 _ _ lD.eq_1):=rfl
def lE:RT:=λK a E E1=>(B0 (FQ (JI K (C2 (MW K) (AJ (EZ (FY K A4) (AO 0) DL (DE (P4 K a) [] (λ_=>E0) (AJ AE)) 1 []))))) (lD K a E E) CN)
theorem Ld:type_of%(@A3 _ _ lE.eq_1):=rfl
def lF:RT:=λK a E E1=>(GE (a "Twice") E (AJ (tC (.str "the new name stands already"))))
theorem Lg:type_of%(@A3 _ _ lF.eq_1):=rfl
def lG:RT:=λK a E E1=>(B0 (CJ (AG K0 (AR (a "Store") "cell_of" (JP K a) [] E AE (AJ AU)) (tC .non))) (lF K a E E) CN)
theorem Lh:type_of%(@A3 _ _ lG.eq_1):=rfl
def WB(K:FK)(a:Ad)(E:XE):TS:=(AK (lE K a E E) (lG K a E E))
def lH:RT:=λK a E E1=>(A5 (AR (a "Store") "cell_of" (JP K a) [] E AE (AJ AU)) (AO 2))
theorem Lj:type_of%(@A3 _ _ lH.eq_1):=rfl
def lI:RT:=λK a E E1=>(GE (a "NoName") E (AJ (tC (.str "no such name stands"))))
theorem Lk:type_of%(@A3 _ _ lI.eq_1):=rfl
def lJ:RT:=λK a E E1=>(B0 (CJ (AG KC A4 (tC .non))) (lI K a E E) CN)
theorem Ll:type_of%(@A3 _ _ lJ.eq_1):=rfl
def lK:RT:=λK a E E1=>(A9 (CU K (AG (CQ K) (AR (a "Store") "name_cells" (LJ K a) [] E AE BV) A4) 1))
theorem Lm:type_of%(@A3 _ _ lK.eq_1):=rfl
def WC(K:FK)(a:Ad)(E:XE):TS:=(AK (lH K a E E) (AK (lJ K a E E) (lK K a E E)))
def lL:RT:=λK a E E1=>(A5 (AR (a "Hold") "change" (DV K a) [] E (AY K AE "book") (DN (AR (a "Layout") "name_at" (F1 K a) [] E (AY K AE "plan") (AJ (AR (a "Store") "cell_of" (JP K a) [] E AE (AJ AU)))) (tC .non) A4)) (AO 3))
theorem Lp:type_of%(@A3 _ _ lL.eq_1):=rfl
def lM:RT:=λK a E E1=>(HD (AY K AE "taken_out") AU BP)
theorem Lq:type_of%(@A3 _ _ lM.eq_1):=rfl
def lN:RT:=λK a E E1=>(A9 BP)
theorem Lv:type_of%(@A3 _ _ lN.eq_1):=rfl
def WD(K:FK)(a:Ad)(E:XE):TS:=(AK (lL K a E E) (AK (lM K a E E) (lN K a E E)))
def lO:RT:=λK a E E1=>(DH (AR (a "Store") "ask_for_new_name" (LK K a) [] E AE (BO AU (CG (AJ AU)))))
theorem Lw:type_of%(@A3 _ _ lO.eq_1):=rfl
def lP:RT:=λK a E E1=>(A5 (DE (PY K a) [] E (BO (AY K AE "plan") (AY K AE "book"))) (AO 2))
theorem Lx:type_of%(@A3 _ _ lP.eq_1):=rfl
def lQ:RT:=λK a E E1=>(A5 (DE (LH K a) [] E (BO (AY K AE "plan") (AY K AE "book"))) (AO 3))
theorem Ly:type_of%(@A3 _ _ lQ.eq_1):=rfl
def lR:RT:=λK a E E1=>(A5 (AR (a "Hold") "change" (DV K a) [] E (AY K AE "book") (DN (AR (a "Layout") "record_mark" (GZ K a) [] E (AY K AE "plan") (AJ A4)) C3 (CG BV))) (AO 4))
theorem Lz:type_of%(@A3 _ _ lR.eq_1):=rfl
def lS:RT:=λK a E E1=>(A5 (AR (a "Hold") "change" (DV K a) [] E (AY K AE "book") (DN (AR (a "Layout") "record_at" (EV K a) [] E (AY K AE "plan") (AJ A4)) (EO (BO C3 (EO BV))) (CG (AJ B7)))) (AO 5))
theorem Mb:type_of%(@A3 _ _ lS.eq_1):=rfl
def lT:RT:=λK a E E1=>(A9 (CG (DN B7 CB (AR (a "Store") "fill_cell" (LM K a) [] E AE (M9 BP AU A4 CB)))))
theorem Mc:type_of%(@A3 _ _ lT.eq_1):=rfl
def WE(K:FK)(a:Ad)(E:XE):TS:=(AK (lO K a E E) (AK (lP K a E E) (AK (lQ K a E E) (AK (lR K a E E) (AK (lS K a E E) (lT K a E E))))))
def lU:RT:=λK a E E1=>(DH (AR (a "Store") "ask_for_new_name" (LK K a) [] E AE (BO A4 (CG (BO AU A4)))))
theorem Mg:type_of%(@A3 _ _ lU.eq_1):=rfl
def lV:RT:=λK a E E1=>(A5 (AR (a "Store") "record_of" (GI K a) [] E AE (AJ AU)) (AO 3))
theorem Mh:type_of%(@A3 _ _ lV.eq_1):=rfl
def lW:RT:=λK a E E1=>(A5 (DE (LH K a) [] E (BO (AY K AE "plan") (AY K AE "book"))) (AO 4))
theorem Mj:type_of%(@A3 _ _ lW.eq_1):=rfl
def lX:RT:=λK a E E1=>(A5 (AR (a "Store") "recount" (JQ K a) [] E AE (DN BP C3 (CG BV))) (AO 5))
theorem Ml:type_of%(@A3 _ _ lX.eq_1):=rfl
def lY:RT:=λK a E E1=>(A9 (CG (BO CB (AR (a "Store") "fill_cell" (LM K a) [] E AE (M9 B7 A4 BP CB)))))
theorem Mm:type_of%(@A3 _ _ lY.eq_1):=rfl
def WF(K:FK)(a:Ad)(E:XE):TS:=(AK (lU K a E E) (AK (lV K a E E) (AK (lW K a E E) (AK (lX K a E E) (lY K a E E)))))
def lZ:RT:=λK a E E1=>(A5 (AR (a "Store") "record_of" (GI K a) [] E AE (AJ AU)) (AO 2))
theorem Mp:type_of%(@A3 _ _ lZ.eq_1):=rfl
def l9:RT:=λK a E E1=>(A5 (AR (a "Store") "empty_cell" (LO K a) [] E AE (BO AU (CG BV))) (AO 3))
theorem Mq:type_of%(@A3 _ _ l9.eq_1):=rfl
def mB:RT:=λK a E E1=>(A9 (CG (BO BP (AR (a "Store") "recount" (JQ K a) [] E AE (DN A4 (N3 SE C3) (CG (AJ BP)))))))
theorem Mv:type_of%(@A3 _ _ mB.eq_1):=rfl
def mC:RT:=λK a E E1=>(B0 (CJ (AG OL (CU K (AR (a "Store") "standing" (FL K a) [] E AE (AJ A4)) 0) C3)) (mB K a E E) CN)
theorem Mw:type_of%(@A3 _ _ mC.eq_1):=rfl
def mD:RT:=λK a E E1=>(A9 (AG (BQ K) (CG (AJ BP)) (AR (a "Store") "drop_record" (QC K a) [] E AE (BO A4 BP))))
theorem Mx:type_of%(@A3 _ _ mD.eq_1):=rfl
def WG(K:FK)(a:Ad)(E:XE):TS:=(AK (lZ K a E E) (AK (l9 K a E E) (AK (mC K a E E) (mD K a E E))))
def mE:RT:=λK a E E1=>(A5 (AR (a "Store") "record_of" (GI K a) [] E AE (AJ AU)) (AO 3))
theorem My:type_of%(@A3 _ _ mE.eq_1):=rfl
def mF:RT:=λK a E E1=>(GE (a "NoPiece") E (AJ (tC (.str "the text is none of a piece"))))
theorem Mz:type_of%(@A3 _ _ mF.eq_1):=rfl
def mG:RT:=λK a E E1=>(B0 (FQ (JI K (DE (P5 K a) [] E (AJ A4)))) (mF K a E E) CN)
theorem Nb:type_of%(@A3 _ _ mG.eq_1):=rfl
def mH:RT:=λK a E E1=>(A5 (DE (PZ K a) [] E (BO (AY K AE "plan") (AY K AE "book"))) (AO 4))
theorem Nd:type_of%(@A3 _ _ mH.eq_1):=rfl
def mI:RT:=λK a E E1=>(A5 (AR (a "Hold") "change" (DV K a) [] E (AY K AE "book") (DN (AR (a "Layout") "piece_mark" (F2 K a) [] E (AY K AE "plan") (AJ B7)) C3 (CG BV))) (AO 5))
theorem Ng:type_of%(@A3 _ _ mI.eq_1):=rfl
def mJ:RT:=λK a E E1=>(A5 (AR (a "Hold") "change" (DV K a) [] E (AY K AE "book") (DN (AR (a "Layout") "piece_at" (KF K a) [] E (AY K AE "plan") (AJ B7)) A4 (CG (AJ CB)))) (AO 6))
theorem Nh:type_of%(@A3 _ _ mJ.eq_1):=rfl
def mK:RT:=λK a E E1=>(A9 (CG (DN CB FE (AR (a "Store") "regroup" (LN K a) [] E AE (DN BP (AG (BQ K) (CU K (AR (a "Store") "standing" (FL K a) [] E AE (AJ BP)) 1) (EO (AJ B7))) (CG (AJ FE)))))))
theorem Nj:type_of%(@A3 _ _ mK.eq_1):=rfl
def WH(K:FK)(a:Ad)(E:XE):TS:=(AK (mE K a E E) (AK (mG K a E E) (AK (mH K a E E) (AK (mI K a E E) (AK (mJ K a E E) (mK K a E E))))))
def mM:RT:=λK a E E1=>(A5 (AR (a "Store") "record_of" (GI K a) [] E AE (AJ AU)) (AO 3))
theorem Nk:type_of%(@A3 _ _ mM.eq_1):=rfl
def mO:RT:=λK a E E1=>(A5 (CU K (AR (a "Store") "standing" (FL K a) [] E AE (AJ BP)) 1) (AO 4))
theorem Nl:type_of%(@A3 _ _ mO.eq_1):=rfl
def mP:RT:=λK a E E1=>(GE (a "NoPiece") E (AJ (tC (.str "the record has no piece at that place"))))
theorem Nm:type_of%(@A3 _ _ mP.eq_1):=rfl
def mQ:RT:=λK a E E1=>(B0 (FQ (CJ (F7 ER FV E4 A4 (C2 (FF K) (AJ B7))))) (mP K a E E) CN)
theorem Np:type_of%(@A3 _ _ mQ.eq_1):=rfl
def mR:RT:=λK a E E1=>(A5 (AR (a "Store") "regroup" (LN K a) [] E AE (DN BP (AG (BQ K) (J3 (JJ K) B7 J1 (J2 A4)) (J3 (JJ K) B7 (J2 (AG (BQ K) A4 C3)) J1)) (CG BV))) (AO 5))
theorem Nq:type_of%(@A3 _ _ mR.eq_1):=rfl
def mS:RT:=λK a E E1=>(A9 (CG (BO CB (AR (a "Hold") "change" (DV K a) [] E (AY K AE "book") (DN (AR (a "Layout") "piece_mark" (F2 K a) [] E (AY K AE "plan") (AJ (AG (CQ K) B7 A4))) E4 (CG (AJ CB)))))))
theorem Nv:type_of%(@A3 _ _ mS.eq_1):=rfl
def WI(K:FK)(a:Ad)(E:XE):TS:=(AK (mM K a E E) (AK (mO K a E E) (AK (mQ K a E E) (AK (mR K a E E) (mS K a E E)))))
def mT:RT:=λK a E E1=>(A5 (AR (a "Store") "link" (LP K a) [] E AE (BO AU A4)) (AO 3))
theorem Nx:type_of%(@A3 _ _ mT.eq_1):=rfl
def mU:RT:=λK a E E1=>(A5 (AR (a "Store") "record_of" (GI K a) [] E AE (AJ AU)) (AO 4))
theorem Ny:type_of%(@A3 _ _ mU.eq_1):=rfl
def mV:RT:=λK a E E1=>(A5 (AR (a "Store") "empty_cell" (LO K a) [] E AE (BO AU (CG (AJ (CU K BP 1))))) (AO 5))
theorem Nz:type_of%(@A3 _ _ mV.eq_1):=rfl
def mW:RT:=λK a E E1=>(A9 (AG (BQ K) BP (CG (BO CB (AR (a "Store") "recount" (JQ K a) [] E AE (DN B7 (N3 SE C3) (CG (AJ CB))))))))
theorem Pb:type_of%(@A3 _ _ mW.eq_1):=rfl
def WJ(K:FK)(a:Ad)(E:XE):TS:=(AK (mT K a E E) (AK (mU K a E E) (AK (mV K a E E) (mW K a E E))))
def mX:RT:=λK a E E1=>(A5 (tC (.str "")) (AO 5))
theorem Pc:type_of%(@A3 _ _ mX.eq_1):=rfl
def mY:RT:=λK a E E1=>(DH (AR (a "Store") "make" (QD K a) [] E1 AE (AJ A4)))
theorem Pd:type_of%(@A3 _ _ mY.eq_1):=rfl
def mZ:RT:=λK a E E1=>(DH (AR (a "Store") "link" (LP K a) [] E1 AE (BO A4 BP)))
theorem Pg:type_of%(@A3 _ _ mZ.eq_1):=rfl
def m6:RT:=λK a E E1=>(DH (AR (a "Store") "cut" (QE K a) [] E1 AE (AJ A4)))
theorem Ph:type_of%(@A3 _ _ m6.eq_1):=rfl
def m7:RT:=λK a E E1=>(DH (AR (a "Store") "put" (QF K a) [] E1 AE (BO A4 (DE (QK K a) [] E1 (AJ B7)))))
theorem Pj:type_of%(@A3 _ _ m7.eq_1):=rfl
def m8:RT:=λK a E E1=>(DH (AR (a "Store") "take" (QH K a) [] E1 AE (BO A4 (DE (QL K a) [] E1 (AJ B7)))))
theorem Pk:type_of%(@A3 _ _ m8.eq_1):=rfl
def m9:RT:=λK a E E1=>(DH (AR (a "Store") "move" (QI K a) [] E1 AE (BO A4 BP)))
theorem Pl:type_of%(@A3 _ _ m9.eq_1):=rfl
def nA:RT:=λK a E E1=>(B0 (CJ (AG (FU K) AU QP)) (m8 K a E E1) (m9 K a E E1))
theorem Pm:type_of%(@A3 _ _ nA.eq_1):=rfl
def nB:RT:=λK a E E1=>(B0 (CJ (AG FV AU QP)) (m7 K a E E1) (nA K a E E1))
theorem Pp:type_of%(@A3 _ _ nB.eq_1):=rfl
def nD:RT:=λK a E E1=>(B0 (CJ (AG (FU K) AU GJ)) (m6 K a E E1) (nB K a E E1))
theorem Pq:type_of%(@A3 _ _ nD.eq_1):=rfl
def nE:RT:=λK a E E1=>(B0 (CJ (AG (FU K) AU QN)) (mZ K a E E1) (nD K a E E1))
theorem Pw:type_of%(@A3 _ _ nE.eq_1):=rfl
def nH:RT:=λK a E E1=>(B0 (CJ (AG FV AU QN)) (mY K a E E1) (nE K a E E1))
theorem Px:type_of%(@A3 _ _ nH.eq_1):=rfl
def WK:RT:=λK a E E1=>(A5 (tC (.str "NoRoom")) (AO 5))
theorem Py:type_of%(@A3 _ _ WK.eq_1):=rfl
def WL:RT:=λK a E E1=>(A5 (tC (.str "NoPiece")) (AO 5))
theorem Pz:type_of%(@A3 _ _ WL.eq_1):=rfl
def WM:RT:=λK a E E1=>(A5 (tC (.str "Twice")) (AO 5))
theorem Qb:type_of%(@A3 _ _ WM.eq_1):=rfl
def WN:RT:=λK a E E1=>(A5 (tC (.str "NoName")) (AO 5))
theorem Qc:type_of%(@A3 _ _ WN.eq_1):=rfl
def nJ:RT:=λK a E E1=>(R9 (λE1=>(nH K a E E1)) (IC (λcls=>W.exmOne K cls (.ref (a "NoName"))) (WN K a E E) (IC (λcls=>W.exmOne K cls (.ref (a "Twice"))) (WM K a E E) (IC (λcls=>W.exmOne K cls (.ref (a "NoPiece"))) (WL K a E E) (IC (λcls=>W.exmOne K cls (.ref (a "NoRoom"))) (WK K a E E) R8)))))
theorem Qd:type_of%(@A3 _ _ nJ.eq_1):=rfl
def NA:RT:=λK a E E1=>(A9 CB)
theorem nK:type_of%(@A3 _ _ NA.eq_1):=rfl
def WO(K:FK)(a:Ad)(E:XE):TS:=(AK (mX K a E E) (AK (nJ K a E E) (NA K a E E)))
def nQ:RT:=λK a E E1=>(A5 (DE (LF K a) [] E (BO AE E4)) (AO 1))
theorem Qg:type_of%(@A3 _ _ nQ.eq_1):=rfl
def nR:RT:=λK a E E1=>(A5 (IU (a "Layout") (O8 K a) [] E (M9 (AG (BQ K) C3 (AG C0 AU GJ)) (AG (BQ K) C3 (AG C0 (AG C8 AU GJ) GJ)) (AG (BQ K) C3 (AG C0 (AG C8 AU Ap) GJ)) (AG (BQ K) C3 (AG C0 (AG C8 AU (DA 27)) eC)))) (AO 2))
theorem Qh:type_of%(@A3 _ _ nR.eq_1):=rfl
def nS:RT:=λK a E E1=>(A5 (AR (a "Layout") "plank" (O9 K a) [] E A4 BV) (AO 3))
theorem Qj:type_of%(@A3 _ _ nS.eq_1):=rfl
def nT:RT:=λK a E E1=>(A5 (IU (a "Store") (P8 K a) [] E (BO A4 BP)) (AO 4))
theorem Qk:type_of%(@A3 _ _ nT.eq_1):=rfl
def nU:RT:=λK a E E1=>(A5 (DE (QJ K a) [] E (AJ (AG C8 AU (DA 108)))) (AO 5))
theorem Ql:type_of%(@A3 _ _ nU.eq_1):=rfl
def nX:RT:=λK a E E1=>(DH (AR (a "Store") "write" (LQ K a) [] E B7 (AJ (AG C0 (AG C8 AU GJ) (AR (a "Layout") "blocks" (IF K a) [] E A4 BV)))))
theorem Qm:type_of%(@A3 _ _ nX.eq_1):=rfl
def Qp:RT:=λK a E E1=>(A9 (tC (.bl false)))
def nY:RT:=λK a E E1=>(B0 (FQ (JI K (DE (LS K a) [] E (BO A4 (DE (LR K a) [] E (BO A4 BP)))))) (Qp K a E E) CN)
theorem Qq:type_of%(@A3 _ _ nY.eq_1):=rfl
def nZ:RT:=λK a E E1=>(DH (DE (M7 K a) [] E (DI B7 (M9 (AG C0 (AG C8 AU GJ) T6) (AG (CQ K) CB (AG C0 (AG C8 AU (DA 24)) M8)) (AG (CQ K) CB (AG C0 (AG C8 AU (DA 120)) M8)) (AG C8 AU (DA 600))))))
theorem Qv:type_of%(@A3 _ _ nZ.eq_1):=rfl
def n5:RT:=λK a E E1=>(B0 (CJ (AG (FU K) (AG C0 AU GJ) E4)) (AK (nX K a E E) (nY K a E E)) (nZ K a E E))
theorem Qw:type_of%(@A3 _ _ n5.eq_1):=rfl
def oA:RT:=λK a E E1=>(DR (FY K (J3 (JJ K) AE (J2 C3) J1)) (AO 1) (n5 K a E E))
theorem Qx:type_of%(@A3 _ _ oA.eq_1):=rfl
def oB:RT:=λK a E E1=>(DH (AR (a "Store") "write" (LQ K a) [] E B7 (AJ FE)))
theorem Qy:type_of%(@A3 _ _ oB.eq_1):=rfl
def Qz:RT:=λK a E E1=>(A9 (tC (.bl false)))
def oC:RT:=λK a E E1=>(B0 (FQ (JI K (DE (LS K a) [] E (BO A4 (DE (LR K a) [] E (BO A4 BP)))))) (Qz K a E E) CN)
theorem Rb:type_of%(@A3 _ _ oC.eq_1):=rfl
def oE:RT:=λK a E E1=>(DR (EX (AJ (AR (a "Layout") "blocks" (IF K a) [] E A4 BV))) (AO 6) (AK (oB K a E E) (oC K a E E)))
theorem Rc:type_of%(@A3 _ _ oE.eq_1):=rfl
def oF:RT:=λK a E E1=>(A9 (tC (.bl true)))
theorem Rg:type_of%(@A3 _ _ oF.eq_1):=rfl
def WP(K:FK)(a:Ad)(E:XE):TS:=(AK (nQ K a E E) (AK (nR K a E E) (AK (nS K a E E) (AK (nT K a E E) (AK (nU K a E E) (AK (oA K a E E) (AK (oE K a E E) (oF K a E E))))))))
end
end L2
namespace L2
local macro_rules
 | `(tactic| push_cast[$ls,*])=>`(tactic| simp only[↓uZ,↓u1,↓u3,↓u4,↓u8,↓u9,↓vA,↓vB,↓vC,↓vD,↓vE,↓vF,↓vG,↓vH,↓vI,↓vJ,↓vK,↓vL,↓vM,↓vN,↓vO,↓vP,↓vQ,↓vR,↓vS,↓vT,↓vU,↓vV,↓vW,↓vX,↓vY,↓vZ,↓v0,↓v1,↓v2,↓v4,↓v8,↓v9,↓wA,↓wB,↓wC,↓wD,↓wE,
     ↓wF,↓wG,↓wI,↓wJ,↓wK,↓wL,↓wM,↓wN,↓SK,↓wR,↓wT,↓wS,↓wU,↓bX,↓wV,↓wW,↓wX,↓wP,↓wO,↓wQ,↓wY,↓wZ,↓w5,↓w8,↓w9,↓xA,↓xB,↓xC,↓bY,↓xD,
     OJ,C0,C8,uM,SE,uN,Ends.drop,A8,List.map_cons,List.map_nil,List.length_cons,List.length_nil,List.reduceReplicate,Nat.reduceAdd,Nat.reduceSub,Nat.zero_add,List.cons_append,List.nil_append,List.append_nil,List.getElem?_cons_zero,List.getElem?_cons_succ,Option.some.injEq,Option.join_some,List.set_cons_zero,List.set_cons_succ,
     V.int.injEq,V.ref.injEq,V.bl.injEq,V.str.injEq,List.cons.injEq,and_true,true_and,exists_eq_left',exists_eq_left,exists_eq',exists_eq,exists_and_left,exists_and_right,reduceCtorEq,false_and,and_false,or_false,false_or,exists_false,decide_eq_true_eq,Bool.not_eq_true',Bool.not_eq_true,decide_eq_false_iff_not,eq_self_iff_true,if_true,Bool.false_eq_true,if_false,ite_true,Bool.true_eq_false,forall_const,and_assoc,Int.reduceToNat,Int.reduceLT,Int.reduceLE,Int.reduceEq,Nat.reduceLeDiff,Int.toNat_natCast,not_true_eq_false,not_false_eq_true,Bool.not_false,Bool.not_true,↓yN,↓yO,↓yP,↓yQ,↓yR,↓yS,↓yT,↓yU,↓yV,↓yM,↓zO,↓zG,↓zL,↓xJ,↓xI,$ls,*])
section
variable{K:W.Frag}{a:Ad}{vs:List V}{H:Hp}{Q:VK}{E:XK}
theorem Rh(h:LF K a vs H Q E):UU K a (λ_=>E) (BB Q) (A8 ["script","k"] vs) H:=by
 obtain⟨s,ns,k,rfl,hs,hl,q⟩:=h
 push_cast[UU,↓By,↓Bz,↓Cb]
 refine⟨ns.length,?_,?_⟩
 ·exact .inl ⟨_,hs,(List.length_map _).symm⟩
 split
 ·rename_i hk
  have hk:k<ns.length:=by omega
  refine FG hs rfl (v:=.int (KG ns k)) ?_ q
  unfold KG
  rw[List.getElem?_map,List.getElem?_eq_getElem hk]
  simp[List.getD,hk]
 ·rename_i hk
  have:KG ns k=0:=by
   unfold KG
   rw[List.getD_eq_getElem?_getD,List.getElem?_eq_none (by omega)];rfl
  rw[this]at q
  exact q
theorem Rj(h:OY K a vs H Q E):UM K a (λ_=>E) (BB Q) (A8 ["self","blocks","cells"] vs) H:=by
 obtain⟨p,dx,m,w,rfl,T,hp,hm,h1,h2,q⟩:=h
 push_cast[UM,↓Bb,↓Bc,↓Bd]
 refine⟨by omega,by omega,?_⟩
 refine MU (CS m (by omega)) (λi ys H'=>Same H H'/\∃ ts:List Addr,ys=ts.map V.ref/\Paired (λt r=>H' t=some (.tup r)) ts (List.replicate i (List.replicate w .non))) ⟨Same.refl _,[],rfl,.nil⟩ (λi ys H' hi hl hzz=> ?_) (λys H' hl ⟨s,ts,e,P⟩ cl BJ=> ?_)
 ·obtain⟨s,ts,e,P⟩:=hzz
  push_cast[ES,Option.join_some,Int.zero_add]
  refine⟨by decide,λt ht=>.inr ?_⟩
  have fin:∀ (t':Addr) (H2:Hp),Same H' H2->H2 t'=some (.tup (List.replicate w .non))->Same H H2/\∃ ts':List Addr,ys++[V.ref t']=ts'.map V.ref/\Paired (λt r=>H2 t=some (.tup r)) ts' (List.replicate (i+1) (List.replicate w .non)):=λt' H2 s2 e2=>by
   refine⟨s.trans s2,ts++[t'],by rw[e,List.map_append];rfl,?_⟩
   rw[List.replicate_succ']
   exact Paired.snoc (Paired.mapP P λt r z=>s2 _ _ z) e2
  have s1:Same H' (upd H' t (.tup [V.non])):=λb o z=>by rw[AH (BL z ht)];exact z
  refine⟨t,w,[.non],rfl,rfl,SqT.of AF,by simp,by omega,by omega,CS _ (by simp;omega),λe1=> ?_,λe1 u hu=> ?_⟩
  ·have e1:w=1:=by omega
   refine fin t _ s1 ?_
   rw[AF,e1];rfl
  ·rw[Int.toNat_natCast,cB]
   exact fin u _ (s1.trans λb o z=>by rw[AH (BL z hu)];exact z) AF
 ·have npc:p≠cl:=BL (s _ _ hp) BJ
  have e1:upd H' cl (HO.lst ys) p=some (HO.ins (a "Plank") dx []):=by rw[AH npc];exact s _ _ hp
  refine⟨_,_,_,e1,T.cl,T.nC,by decide,_,_,_,AF,T.cl,T.nW,IE (by decide),_,_,_,AF,T.cl,T.nN,IE (n:=1000) (Nat.succ_lt_succ (IE (n:=999) (by decide))),?_⟩
  rw[zQ,GL,GL]
  refine q cl _ (s.free BJ) ⟨⟨dx,AF⟩,⟨ts,by rw[AH npc.symm,AF,e],?_⟩,λr hr=> ?_,by simpa using hm,h2⟩ λb o eb hb=> ?_
  ·refine Paired.mapP P λt r z=> ?_
   rw[AH (BH z (s _ _ hp) (by intro z';cases z')),AH (BL z BJ)]
   exact z
  ·rw[List.eq_of_mem_replicate hr,List.length_replicate]
  ·rw[AH hb,AH (BL (s _ _ eb) BJ)]
   exact s _ _ eb
theorem Rk(h:K9 K a vs H Q E):UN K a (λ_=>E) (BB Q) (A8 ["self"] vs) H:=by
 obtain⟨p,cl,w,rows,n,rfl,T,P,q⟩:=h
 obtain⟨dx,h1⟩:=P.ob
 obtain⟨ts,h2,h3⟩:=P.ls
 push_cast[UN,↓Bg]
 refine⟨_,_,_,h1,T.cl,T.nC,_,OX _ _ _,rows.length,.inl ⟨_,SqL.of h2,?_⟩,q⟩
 rw[List.length_map,h3.length]
theorem Rl(h:OZ K a vs H Q E):UO K a (λ_=>E) (BB Q) (A8 ["self"] vs) H:=by
 obtain⟨p,cl,w,rows,n,rfl,T,P,q⟩:=h
 obtain⟨dx,h1⟩:=P.ob
 push_cast[UO,↓Bh]
 exact⟨_,_,_,h1,T.cl,T.nW,_,dE _ _ _,q⟩
theorem Rm(h:JK K a vs H Q E):UP K a (λ_=>E) (BB Q) (A8 ["self","block"] vs) H:=by
 obtain⟨p,cl,w,rows,n,b,rfl,T,P,q,qe⟩:=h
 obtain⟨dx,h1⟩:=P.ob
 obtain⟨ts,h2,h3⟩:=P.ls
 push_cast[UP,↓Bj,↓Bk]
 have hl:rows.length=(ts.map V.ref).length:=by rw[List.length_map,h3.length]
 split
 ·rename_i h0
  refine⟨_,_,_,h1,T.cl,T.nC,_,OX _ _ _,rows.length,.inl ⟨_,SqL.of h2,hl⟩,?_⟩
  split
  ·exact⟨by decide,qe (by omega)⟩
  ·exact q h0 (by omega)
 ·exact⟨by decide,qe (by omega)⟩
theorem oG(cl:Addr)(w n:Int):(pf cl w n).lookup ("ask_for_block":Str)=none:=K8 _ _ _ (by decide +kernel) (by decide +kernel) (by decide +kernel)
theorem Rp(h:JL K a vs H Q E):VG K a (λ_=>E) (BB Q) (A8 ["self","block"] vs) H:=by
 obtain⟨p,cl,w,rows,n,b,rfl,T,P,q,qe⟩:=h
 obtain⟨dx,h1⟩:=P.ob
 obtain⟨ts,h2,h3⟩:=P.ls
 push_cast[VG,↓Ec,↓Ed,JK]
 refine⟨_,_,h1,oG _ _ _,T,cl,w,rows,⟨n,P⟩,λh0 hb=>⟨_,_,_,h1,T.cl,T.nC,_,OX _ _ _,?_⟩,qe⟩
 obtain⟨i,rfl⟩:∃ i:Nat,b=i:=⟨b.toNat,by omega⟩
 have hi:i<rows.length:=by omega
 obtain⟨t,et,ht⟩:=K6 h3 (List.getElem?_eq_getElem hi)
 refine FG (SqL.of h2) rfl (v:=.ref t) (by rw[List.getElem?_map,et];rfl) ?_
 rw[bY]
 exact⟨_,.inr (SqT.of ht),q i _ rfl (List.getElem?_eq_getElem hi)⟩
theorem Rq(h:O0 K a vs H Q E):VH K a (λ_=>E) (BB Q) (A8 ["self","block","values"] vs) H:=by
 obtain⟨p,cl,w,rows,n,b,v,xs,rfl,T,P,hv,hx,q,qe⟩:=h
 obtain⟨dx,h1⟩:=P.ob
 obtain⟨ts,h2,h3⟩:=P.ls
 have npc:=P.ne
 push_cast[VH,↓Eg,↓Eh,↓Ej,↓Ek,↓El,JK]
 refine⟨_,_,h1,oG _ _ _,T,cl,w,rows,⟨n,P⟩,λh0 hb=>⟨xs.length,.inl ⟨_,hv,rfl⟩,_,_,_,h1,T.cl,T.nW,_,dE _ _ _,?_⟩,λz=>qe (z.imp id .inl)⟩
 obtain⟨i,rfl⟩:∃ i:Nat,b=i:=⟨b.toNat,by omega⟩
 have hi:i<rows.length:=by omega
 push_cast[]
 split
 ·exact⟨by decide,qe (.inr (.inr (by omega)))⟩
 ·rename_i hw
  have hw:xs.length=w:=by omega
  refine⟨xs,.inl ⟨hv,λt ht=> ?_⟩⟩
  have ntp:p≠t:=BL h1 ht
  have ntc:cl≠t:=BL h2 ht
  refine⟨_,_,_,by rw[AH ntp];exact h1,T.cl,T.nC,_,OX _ _ _,?_⟩
  refine⟨cl,ts.map V.ref,(i:Int),i,rfl,rfl,by rw[AH ntc];exact h2,?_,?_⟩
  ·unfold HY
   rw[if_pos (by omega),if_pos (by rw[List.length_map,h3.length];omega),Int.toNat_natCast]
  ·refine⟨_,_,_,by rw[AH npc,AH ntp];exact h1,T.cl,T.nN,_,zP _ _ _,?_⟩
   push_cast[]
   refine⟨_,_,by rw[AH npc,AH ntp];exact h1,by show 3<1000;decide,?_⟩
   rw[zR]
   refine q i rfl hi hw _ ⟨⟨dx,AF⟩,⟨ts.set i t,?_,?_⟩,λr hr=> ?_,by rw[List.length_set];exact P.sz,P.sw⟩ λx o ex hxn=> ?_
   ·rw[AH npc.symm,AF,List.map_set]
   ·have keep:∀ u r,H u=some (.tup r)->upd (upd (upd H t (.tup xs)) cl (.lst ((ts.map V.ref).set i (.ref t)))) p (.ins (a "Plank") dx (pf cl w ((n:Int)+1))) u=some (.tup r):=λu r hu=>by
     rw[AH (BH hu h1 (by intro z;cases z)),AH (BH hu h2 (by intro z;cases z)),AH (BL hu ht)]
     exact hu
    refine cA ?_ i (Paired.mapP h3 keep)
    rw[AH ntp.symm,AH ntc.symm,AF]
   ·rcases List.mem_or_eq_of_mem_set hr with z | z
    ·exact P.wd r z
    ·rw[z];exact hw
   ·have hxn:x≠p/\x≠cl:=⟨λz=>hxn (.inl z),λz=>hxn (.inr z)⟩
    rw[AH hxn.1,AH hxn.2,AH (BL ex ht)]
    exact ex
theorem WQ(cl:Addr)(w n:Int):(pf cl w n).lookup ("read":Str)=none:=K8 _ _ _ (by decide +kernel) (by decide +kernel) (by decide +kernel)
theorem Rv(cl:Addr)(w n:Int):(pf cl w n).lookup ("write":Str)=none:=K8 _ _ _ (by decide +kernel) (by decide +kernel) (by decide +kernel)
theorem E5{f:Str}{v:V}{fs:List (Str × V)}{n:Nat}(h:fs.length<n):(A7 f v fs).length<n+1:=Nat.lt_of_le_of_lt (MJ f v fs) (Nat.succ_lt_succ h)
theorem SameBut.none{b:Addr}{H H1:Hp}{x:Addr}(s:SameBut (· =b) H H1)(hb:H1 b≠Option.none)(h:H1 x=Option.none):H x=Option.none:=by
 cases e:H x with
 | none=>rfl
 | some o =>
  have:x≠b:=λz=>hb (z ▸ h)
  rw[s _ _ e this]at h
  cases h
theorem Rw(h:PD K a vs H Q E):T7 K a (λ_=>E) (BB Q) (A8 ["self","place","value","needs"] vs) H:=by
 obtain⟨x,dx,pl,v,nt,rfl,T,hx,q⟩:=h
 push_cast[T7,↓Av,↓Aw,↓Ax]
 refine⟨_,_,_,hx,T.cc,T.nP,by decide,_,_,_,AF,T.cc,T.nV,E5 (n:=999) (by decide),_,_,_,AF,T.cc,T.nN,E5 (n:=999) (E5 (n:=998) (by decide)),?_⟩
 rw[zY,GL,GL]
 exact q
theorem Rx(h:M5 K a vs H Q E):U1 K a (λ_=>E) (BB Q) (A8 ["self","plank"] vs) H:=by
 obtain⟨b,gp,cl,dx,w,rows,n,rfl,T,TP,P,hb,q⟩:=h
 push_cast[U1,↓Dp,↓Dq,↓Dv,↓Dw,↓Dx]
 refine⟨_,_,_,hb,T.cl,T.nG,by decide,by decide,?_⟩
 have e1:upd H b (.ins (EW a) dx (A7 "ground" (.ref gp) [])) b=some (.ins (EW a) dx (A7 "ground" (.ref gp) [])):=AF
 have s1:SameBut (· =b) H (upd H b (.ins (EW a) dx (A7 "ground" (.ref gp) []))):=λx o e n=>by rw[AH n];exact e
 revert e1 s1
 generalize upd H b (.ins (EW a) dx (A7 "ground" (.ref gp) []))=H1
 intro e1 s1 m hm
 have nbm:b≠m:=BL e1 hm
 have hmH:=s1.none (by rw[e1];intro z;cases z) hm
 refine⟨_,_,_,by rw[AH nbm];exact e1,T.cl,T.nM,E5 (n:=999) (by decide),?_⟩
 have s2:SameBut (· =b) H (upd (upd H1 m (.lst [])) b (.ins (EW a) dx (A7 "made" (.ref m) (A7 "ground" (.ref gp) [])))):=(s1.upd (.inr hmH)).upd (.inl rfl)
 have e2:upd (upd H1 m (.lst [])) b (.ins (EW a) dx (A7 "made" (.ref m) (A7 "ground" (.ref gp) []))) b=some (.ins (EW a) dx (A7 "made" (.ref m) (A7 "ground" (.ref gp) []))):=AF
 have m2:upd (upd H1 m (.lst [])) b (.ins (EW a) dx (A7 "made" (.ref m) (A7 "ground" (.ref gp) []))) m=some (.lst []):=by rw[AH nbm.symm,AF]
 revert s2 e2 m2
 generalize upd (upd H1 m (.lst [])) b (.ins (EW a) dx (A7 "made" (.ref m) (A7 "ground" (.ref gp) [])))=H2
 intro s2 e2 m2
 have gb:∀ x xs,(· =b) x->H x≠some (.tup xs):=λx xs e=>by rw[show x=b from e,hb];intro z;cases z
 have ncl:¬ cl=b:=by obtain⟨ts,z,_⟩:=P.ls;exact BH z hb (by intro z;cases z)
 have P2:PlankAt a H2 gp cl w rows n:=by
  obtain⟨⟨dx',f1⟩,⟨ts,f2,f3⟩,r1,r2,r3⟩:=P
  exact⟨⟨dx',s2 _ _ f1 (BH f1 hb (LA (by simp[pf])))⟩,⟨ts,s2 _ _ f2 (BH f2 hb (by intro z;cases z)),Paired.mapP f3 λt r z=>s2 _ _ z (BH z hb (by intro z;cases z))⟩,r1,r2,r3⟩
 obtain⟨dp,hp⟩:=P2.ob
 refine⟨_,_,hp,K8 _ _ _ (by decide +kernel) (by decide +kernel) (by decide +kernel),gp,cl,w,rows,n,rfl,TP,P2,rows.length,rfl,by omega,by have:=P.sz;omega,?_⟩
 rw[Int.toNat_natCast]
 refine MU (CS _ (by have:=P.sz;omega)) (λi ys H'=>Same H2 H'/\∃ ls:List Addr,ys=ls.map V.ref/\ls.Nodup/\∀ l∈ls,H' l=some (.lst [])/\H2 l=none) ⟨Same.refl _,[],rfl,List.nodup_nil,by simp⟩ (λi ys H' hi hl hzz=> ?_) (λys H' hl ⟨s,ls,ey,nd,al⟩ mi GK=> ?_)
 ·obtain⟨s,ls,ey,nd,al⟩:=hzz
  push_cast[]
  refine⟨by decide,λl hl'=>⟨s.trans (AQ hl'),ls++[l],by rw[ey,List.map_append];rfl,?_,λx hx=> ?_⟩⟩
  ·exact List.nodup_append.mpr ⟨nd,by simp,λx hx y hy e=>by rw[List.mem_singleton]at hy;subst hy;subst e;rw[(al _ hx).1]at hl';cases hl'⟩
  ·rcases List.mem_append.mp hx with hx | hx
   ·exact⟨AQ hl' _ _ (al x hx).1,(al x hx).2⟩
   ·rw[List.mem_singleton.mp hx];exact⟨AF,s.free hl'⟩
 ·have s3:SameBut (· =b) H (upd H' mi (.lst ys)):=by
   intro x o e nx
   have e':=s _ _ (s2 _ _ e nx)
   rw[AH (BL e' GK)];exact e'
  have e3:upd H' mi (.lst ys) b=some (.ins (EW a) dx (A7 "made" (.ref m) (A7 "ground" (.ref gp) []))):=by rw[AH (BL (s _ _ e2) GK)];exact s _ _ e2
  have m3:upd H' mi (.lst ys) m=some (.lst []):=by rw[AH (BL (s _ _ m2) GK)];exact s _ _ m2
  have i3:upd H' mi (.lst ys) mi=some (.lst (ls.map V.ref)):=by rw[AF,ey]
  have l3:∀ l∈ls,upd H' mi (.lst ys) l=some (.lst [])/\H l=none/\l≠mi/\l≠m:=λl hl'=>by
   have z:=al l hl'
   have n1:=BL z.1 GK
   exact⟨by rw[AH n1];exact z.1,s2.none (by rw[e2];intro z;cases z) z.2,n1,λy=>by rw[y,m2]at z;cases z.2⟩
  have hmiH:H mi=none:=s2.none (by rw[e2];intro z;cases z) (s.free GK)
  have nmm:m≠mi:=BL (s _ _ m2) GK
  have BT:ls.length=rows.length:=by rw[<-hl,ey,List.length_map]
  revert s3 e3 m3 i3 l3
  generalize upd H' mi (.lst ys)=H3
  intro s3 e3 m3 i3 l3
  refine⟨_,_,_,e3,T.cl,T.nI,E5 (n:=999) (E5 (n:=998) (by decide)),λlt BI=> ?_⟩
  have nb4:b≠lt:=BL AF BI
  rw[AH nb4.symm]at BI
  have ltH:H lt=none:=s3.none (by rw[e3];intro z;cases z) BI
  refine⟨_,_,_,by rw[AH nb4,AF],T.cl,T.nL,E5 (n:=999) (E5 (n:=998) (E5 (n:=997) (by decide))),λou DX=> ?_⟩
  have nb5:b≠ou:=BL AF DX
  rw[AH nb5.symm]at DX
  have nl5:lt≠ou:=BL AF DX
  rw[AH nl5.symm,AH nb5.symm]at DX
  have ouH:H ou=none:=s3.none (by rw[e3];intro z;cases z) DX
  refine⟨_,_,_,by rw[AH nb5,AF],T.cl,T.nO,E5 (n:=999) (E5 (n:=998) (E5 (n:=997) (E5 (n:=996) (by decide)))),?_⟩
  rw[zZ]
  generalize eH:upd (upd (upd (upd (upd H3 b _) lt (.dT [])) b _) ou (.dK [])) b (.ins (EW a) dx (bf gp m mi lt ou))=H5
  have kp:∀ x,x≠b->x≠lt->x≠ou->H5 x=H3 x:=λx n1 n2 n3=>by rw[<-eH,AH n1,AH n3,AH n1,AH n2,AH n1]
  have kk:∀ x o,H3 x=some o->x≠b->H5 x=some o:=λx o e n1=>by rw[kp x n1 (BL e BI) (BL e DX)];exact e
  have s5:SameBut (· =b) H H5:=λx o e n1=>kk x o (s3 _ _ e n1) n1
  have nbx:∀ x xs,H3 x=some (.lst xs)->x≠b:=λx xs e=>BH e e3 (by intro z;cases z)
  refine q m mi lt ou ls H5 hmH hmiH ltH ouH (λl hl'=>(l3 l hl').2.1) ⟨⟨⟨dx,by rw[<-eH,AF]⟩,⟨[],kk _ _ m3 (nbx _ _ m3),.nil⟩,kk _ _ i3 (nbx _ _ i3),λi l e=> ?_,nd,⟨[],?_,λi j=>rfl,Nat.le_refl _⟩,⟨[],?_,λk=>rfl,List.nodup_nil,by simp⟩,by simp,by simp,by simp,⟨nmm,?_,?_,?_,?_,?_⟩,by simp⟩,?_,BT⟩ s5
  ·have z:=l3 l (List.mem_of_getElem? e)
   exact kk _ _ z.1 (nbx _ _ z.1)
  ·rw[<-eH,AH nb4.symm,AH nl5,AH nb4.symm,AF]
  ·rw[<-eH,AH nb5.symm,AF]
  ·exact λz=>(l3 _ z).2.2.2 rfl
  ·exact λz=>(l3 _ z).2.2.1 rfl
  ·obtain⟨ts,z,_⟩:=P.ls;exact BL z hmH
  ·obtain⟨ts,z,_⟩:=P.ls;exact BL z hmiH
  ·obtain⟨ts,z,_⟩:=P.ls;exact λy=>by rw[(l3 _ y).2.1]at z;cases z
  ·obtain⟨⟨dx',f1⟩,⟨ts,f2,f3⟩,r1,r2,r3⟩:=P
   exact⟨⟨dx',s5 _ _ f1 (BH f1 hb (LA (by simp[pf])))⟩,⟨ts,s5 _ _ f2 (BH f2 hb (by intro z;cases z)),Paired.mapP f3 λt r z=>s5 _ _ z (BH z hb (by intro z;cases z))⟩,r1,r2,r3⟩
theorem Ry(h:PF K a vs H Q E):QQ K a (λ_=>E) (BB Q) (A8 ["needs","ahead"] vs) H:=by
 obtain⟨nl,ns,o,rfl,hs,hl,q⟩:=h
 cases o with
 | none =>
  push_cast[QQ,↓eQ,↓eV,↓eZ,G1]
  refine⟨ns,hs,by omega,λx o D ks hx hD r m l=>⟨_,.inl ⟨SqL.of AF,λt ht=>q t ks _ (((AQ hx).trans (AQ hD)).trans (AQ ht)) AF r (λy=> ?_) (by omega)⟩⟩⟩
  rw[m y];simp
 | some k =>
  push_cast[QQ,↓eQ,↓eV,↓eZ,G1]
  refine⟨_,.inl hs,λl hl'=>⟨by decide,λp hp=>.inl ?_⟩⟩
  have np:l≠p:=BL AF hp
  have s0:Same H (upd (upd H l (.lst (ns.map V.int))) p (.lst [.int k])):=(AQ hl').trans (AQ hp)
  have e1:upd (upd H l (.lst (ns.map V.int))) p (.lst [.int k]) l=some (.lst (ns.map V.int)):=by rw[AH np,AF]
  have e2:upd (upd H l (.lst (ns.map V.int))) p (.lst [.int k]) p=some (.lst [.int k]):=AF
  revert s0 e1 e2
  generalize upd (upd H l (.lst (ns.map V.int))) p (.lst [.int k])=H1
  intro s0 e1 e2
  refine⟨l,p,_,_,rfl,rfl,e1,e2,CS _ (by simp;omega),λr hr=>⟨r,rfl,ns++[(k:Int)],?_,by simp;omega,λx o D ks hx hD rs m ll=>⟨_,.inl ⟨SqL.of AF,λt ht=>q t ks _ ((((s0.trans (AQ hr)).trans (AQ hx)).trans (AQ hD)).trans (AQ ht)) AF rs (λy=> ?_) (by simpa using ll)⟩⟩⟩⟩
  ·rw[List.map_append];exact SqL.of AF
  ·rw[m y,List.mem_append,List.mem_singleton];simp
theorem Rz(h:PJ K a vs H Q E):U2 K a (λ_=>E) (BB Q) (A8 ["self","place"] vs) H:=by
 obtain⟨A,w,rows,n,cs,outs,pl,i,j,rfl,T,TP,B,hp,q,qe⟩:=h
 obtain⟨dx,hb⟩:=B.bk.ob
 obtain⟨dp,hg⟩:=B.pk.ob
 have ng:∀ {m:Str},¬ m="contents"->¬ m="width"->¬ m="written"->(pf A.cl w n).lookup m=none:=λh1 h2 h3=>K8 _ _ _ h1 h2 h3
 push_cast[U2,↓Dy,↓Dz]
 refine CT hp (n:=0) rfl rfl ?_
 push_cast[]
 split
 ·rename_i h0
  refine⟨_,_,_,hb,T.cl,T.nG,_,MZ,A.gp,rfl,_,_,hg,ng (by decide +kernel) (by decide +kernel) (by decide +kernel),A.gp,A.cl,w,rows,n,rfl,TP,B.pk,?_⟩
  push_cast[]
  split
  ·exact⟨by decide,qe λz=>by omega⟩
  ·rename_i h1
   refine CT hp (n:=1) rfl rfl ?_
   push_cast[]
   split
   ·rename_i h2
    refine⟨_,_,_,hb,T.cl,T.nG,_,MZ,A.gp,rfl,_,_,hg,ng (by decide +kernel) (by decide +kernel) (by decide +kernel),A.gp,A.cl,w,rows,n,rfl,TP,B.pk,?_⟩
    push_cast[]
    split
    ·exact⟨by decide,qe λz=>by omega⟩
    ·exact q ⟨h0,by omega,h2,by omega⟩
   ·exact⟨by decide,qe λz=>by omega⟩
 ·exact⟨by decide,qe λz=>by omega⟩
theorem Sb(h:LG K a vs H Q E):VP K a (λ_=>E) (BB Q) (A8 ["self","place"] vs) H:=by
 obtain⟨A,w,rows,n,cs,outs,pl,i,j,rfl,T,TP,B,hp,q,qe⟩:=h
 obtain⟨dx,hb⟩:=B.bk.ob
 obtain⟨AD,hl,hv,_⟩:=B.bk.lat
 push_cast[VP,↓Ez,↓Fb]
 refine⟨_,_,hb,DT (by decide +kernel),A,w,rows,n,cs,outs,pl,i,j,rfl,T,TP,B,hp,λh=> ?_,qe⟩
 push_cast[]
 refine⟨_,_,_,hb,T.cl,T.nL,_,dJ,A.lt,rfl,.inr ⟨_,.inl hl⟩,_,cX hl hp,?_⟩
 rw[hv]
 have:=q h
 cases e:DZ cs i j with
 | none=>rw[e]at this;exact this
 | some k=>rw[e]at this;exact this
theorem BookIn.len{C D:Addr}{A:BA}{w:Nat}{cs:List Ch}{outs:Int->Bool}(B:BookIn C D H A w cs outs):∃ xs,H A.m=some (.lst xs)/\xs.length=cs.length:=by
 obtain⟨chs,e,p⟩:=B.made
 exact⟨_,e,by rw[List.length_map,p.length]⟩
theorem Sc(h:PK K a vs H Q E):T8 K a (λ_=>E) (BB Q) (A8 ["self","numbers","number"] vs) H:=by
 obtain⟨A,w,rows,n,cs,outs,nl,ns,rfl,T,B,hs,q,qe⟩:=h
 obtain⟨dx,hb⟩:=B.bk.ob
 obtain⟨xs,hm,hml⟩:=B.bk.len
 push_cast[T8,↓eI,↓eK,↓eO]
 refine .inl ⟨⟨_,hs⟩,?_⟩
 refine K4 (xs:=ns.map V.int) (λi σ H'=>H'=H/\(∃ z,σ=[some (.ref A.b),some (.ref nl),z])/\∀ x∈ns.take i,known cs x) ⟨rfl,⟨_,rfl⟩,by simp⟩ (λi σ H' _ ⟨e,_⟩=>e ▸ hs) (λi x σ H' hx ⟨e,⟨z,ez⟩,kn⟩=> ?_) (λσ H' ⟨e,⟨z,ez⟩,kn⟩=> ?_)
 ·subst e;subst ez
  rw[List.getElem?_map,Option.map_eq_some_iff]at hx
  obtain⟨x',hx',rfl⟩:=hx
  push_cast[↓eI,↓eK,↓eO]
  have bad:¬ known cs x'->1<=sizeLine/\E (.ref (a "NoChange")) none H':=λh=>⟨by decide,qe ⟨x',List.mem_of_getElem? hx',h⟩⟩
  split
  ·rename_i h0
   refine⟨_,_,_,hb,T.cl,T.nM,_,KE,cs.length,.inl ⟨_,SqL.of hm,hml.symm⟩,?_⟩
   split
   ·exact bad λz=>by omega
   ·intro y hy
    rw[List.take_add_one,hx']at hy
    rcases List.mem_append.mp hy with hy | hy
    ·exact kn y hy
    ·simp only[Option.toList_some,List.mem_singleton]at hy
     subst hy
     exact⟨h0,by omega⟩
  ·exact bad λz=>by omega
 ·subst e
  refine q λx hx=>kn x ?_
  rw[List.length_map,List.take_length];exact hx
theorem Sd(h:DV K a vs H Q E):VU K a (λ_=>E) (BB Q) (A8 ["self","place","value","needs","ahead","number"] vs) H:=by
 obtain⟨A,w,rows,n,cs,outs,pl,nl,v,ns,i,j,rfl,T,TP,B,hp,hs,hl,hc,q,q1,q2⟩:=h
 obtain⟨dx,hb⟩:=B.bk.ob
 obtain⟨xs,hm,hml⟩:=B.bk.len
 push_cast[VU,↓Gg]
 refine⟨_,_,hb,DT (by decide +kernel),A,w,rows,n,cs,outs,pl,i,j,rfl,T,TP,B,hp,λhon=> ?_,q1⟩
 push_cast[↓Gh]
 refine⟨_,_,hb,DT (by decide +kernel),A,w,rows,n,cs,outs,nl,ns,rfl,T,B,hs,λhkn=> ?_,q2 hon⟩
 push_cast[↓Gj]
 refine⟨_,_,_,hb,T.cl,T.nM,_,KE,cs.length,.inl ⟨_,SqL.of hm,hml.symm⟩,?_⟩
 push_cast[↓Gk]
 refine⟨_,_,_,hb,T.cl,T.nM,_,KE,.inl ⟨rfl,_,SqL.of hm⟩,nl,ns,DZ cs i j,rfl,hs,hl,λt ks H1 s1 et kr km kl=> ?_⟩
 push_cast[]
 intro x dy hx hdy ndy
 refine⟨x,dy,pl,v,t,rfl,T,AF,rfl,?_⟩
 rw[GL]
 have s2:Same H1 (upd (upd H1 dy (.own x)) x (.ins (a "Change") dy (FB pl v t))):=(AQ hdy).trans (AQ (by rw[AH ndy.symm];exact hx))
 have ex:upd (upd H1 dy (.own x)) x (.ins (a "Change") dy (FB pl v t)) x=some (.ins (a "Change") dy (FB pl v t)):=AF
 revert s2 ex
 generalize upd (upd H1 dy (.own x)) x (.ins (a "Change") dy (FB pl v t))=H2
 intro s2 ex
 have s:=s1.trans s2
 have hxH:H x=none:=s1.free hx
 replace et:=s2 _ _ et
 obtain⟨chs,hm',pch⟩:=B.bk.made
 have GK:=B.bk.mil
 obtain⟨AD,BI,hv,NS⟩:=B.bk.lat
 obtain⟨CZ,DX,hvo,hko⟩:=B.bk.out
 obtain⟨i0,i1,j0,j1⟩:=hon
 obtain⟨i',rfl⟩:∃ i':Nat,i=i':=⟨i.toNat,by omega⟩
 obtain⟨j',rfl⟩:∃ j':Nat,j=j':=⟨j.toNat,by omega⟩
 have hil:i'<A.ls.length:=by rw[B.nb];omega
 have el:=List.getElem?_eq_getElem hil
 have hll:=B.bk.mic i' _ el
 have hmem:A.ls[i']∈A.ls:=List.getElem_mem hil
 revert el hll hmem
 generalize A.ls[i']=l
 intro el hll hmem
 have ap:=B.bk.ap
 have nml:A.m≠l:=λz=>ap.2.1 (z ▸ hmem)
 have nil':A.mi≠l:=λz=>ap.2.2.1 (z ▸ hmem)
 have ncl:A.cl≠l:=λz=>ap.2.2.2.2.2 (z ▸ hmem)
 have klt:∀ {y:Addr} {o:HO},H2 y=some o->(∀ k,o≠.dT k)->y≠A.lt:=λe h=>BH e (s _ _ BI) (h _)
 have km':∀ {y:Addr} {o:HO},H2 y=some o->(∀ k,o≠.lst k)->y≠A.m:=λe h=>BH e (s _ _ hm') (h _)
 have kll:∀ {y:Addr} {o:HO},H2 y=some o->(∀ k,o≠.lst k)->y≠l:=λe h=>BH e (s _ _ hll) (h _)
 have hb2:=s _ _ hb
 have HQ:=s _ _ hp
 have sz:=B.bk.sz
 have lenc:chs.length=cs.length:=pch.length
 refine⟨A.m,_,_,rfl,rfl,s _ _ hm',Nat.lt_of_lt_of_le (show(chs.map V.ref).length<1000 by rw[List.length_map];omega) (by decide),?_⟩
 push_cast[↓Gm]
 have bb:A.b≠A.m:=km' hb2 (by intro k z;cases z)
 have bl:A.b≠l:=kll hb2 (by intro k z;cases z)
 have bt:A.b≠A.lt:=klt hb2 (by intro k z;cases z)
 have pm:pl≠A.m:=km' HQ (by intro k z;cases z)
 have pl':pl≠l:=kll HQ (by intro k z;cases z)
 have pt:pl≠A.lt:=klt HQ (by intro k z;cases z)
 have lt':l≠A.lt:=klt (s _ _ hll) (by intro k z;cases z)
 have mt:A.m≠A.lt:=klt (s _ _ hm') (by intro k z;cases z)
 have it:A.mi≠A.lt:=klt (s _ _ GK) (by intro k z;cases z)
 refine⟨_,_,_,by rw[AH bb];exact hb2,T.cl,T.nI,_,TQ,CT (by rw[AH pm];exact HQ) (n:=0) rfl rfl (FG (SqL.of (by rw[AH ap.1.symm];exact s _ _ GK)) (n:=i') (v:=.ref l) rfl (by rw[List.getElem?_map,el];rfl) ⟨.inl ⟨rfl,_,SqL.of (by rw[AH nml.symm];exact s _ _ hll)⟩,?_⟩)⟩
 have bln:=dG cs i'
 refine⟨l,_,_,rfl,rfl,by rw[AH nml.symm];exact s _ _ hll,Nat.lt_of_lt_of_le (show((CH cs i').map λ(k:Nat)=>V.int k).length<1000 by rw[List.length_map];omega) (by decide),?_⟩
 push_cast[↓Gp,↓Gq]
 refine⟨_,_,_,by rw[AH bl,AH bb];exact hb2,T.cl,T.nL,_,dJ,A.lt,rfl,_,yY (by rw[AH lt'.symm,AH mt.symm];exact s _ _ BI) (by rw[AH pl',AH pm];exact HQ) (by omega),?_⟩
 generalize eH:upd (upd (upd H2 A.m _) l _) A.lt (.dT (BW AD [.inl ↑i',.inl ↑j'] (.int ↑cs.length)))=H5
 have kp:∀ y,y≠A.m->y≠l->y≠A.lt->H5 y=H2 y:=λy n1 n2 n3=>by rw[<-eH,AH n3,AH n2,AH n1]
 have s5:SameBut (λy=>y=A.m\/y=l\/y=A.lt) H H5:=λy o e ny=>by
  rw[kp y (λz=>ny (.inl z)) (λz=>ny (.inr (.inl z))) (λz=>ny (.inr (.inr z)))]
  exact s _ _ e
 have lo:∀ y,(y=A.m\/y=l\/y=A.lt)->E3 (H y):=by
  rintro y (z | z | z)
  ·exact B.loose (.inl z)
  ·exact B.loose (.inr (.inr (.inl (z ▸ hmem))))
  ·exact B.loose (.inr (.inr (.inr (.inl z))))
 have B2:∀ y∈ks,0<=y/\y<cs.length:=λy hy=>by
  rcases(km y).mp hy with h | ⟨k,e,rfl⟩
  ·exact hkn y h
  ·exact⟨by omega,by have:=O1 e;omega⟩
 refine q ⟨i0,i1,j0,j1⟩ hkn ks H5 kr km ⟨⟨⟨dx,by rw[kp _ bb bl bt];exact hb2⟩,⟨chs++[x],?_,Paired.snoc (Paired.mapP pch λy c h=>h.sb s5 lo) ⟨dy,pl,t,?_,?_,?_⟩⟩,?_,λk l' e=> ?_,B.bk.nd,⟨BW AD [.inl ↑i',.inl ↑j'] (.int ↑cs.length),?_,λp q=> ?_,?_⟩,⟨CZ,?_,hvo,?_⟩,?_,λc hc'=> ?_,λk c e=> ?_,ap,λk c e j ej=> ?_⟩,B.pk.sbL s5 lo ?_,B.nb⟩ (s5.wide λy z=> ?_)
 ·rw[<-eH,AH mt,AH nml,AF,List.map_append];rfl
 ·rw[kp x (km' ex (by intro k z;cases z)) (kll ex (by intro k z;cases z)) (klt ex (by intro k z;cases z))];exact ex
 ·rw[kp pl pm pl' pt];exact HQ
 ·rw[kp t (km' et (by intro k z;cases z)) (kll et (by intro k z;cases z)) (klt et (by intro k z;cases z))];exact et
 ·rw[kp _ ap.1.symm nil' it];exact s _ _ GK
 ·rw[zV]
  by_cases z:l'=l
  ·subst z
   have ek:k=i':=by
    obtain⟨h1,h2⟩:=List.getElem?_eq_some_iff.mp e
    obtain⟨h3,h4⟩:=List.getElem?_eq_some_iff.mp el
    exact(List.getElem_inj B.bk.nd).mp (h2.trans h4.symm)
   subst ek
   rw[<-eH,AH lt',AF]
   simp
  ·have nk:¬ i'=k:=λy=>by subst y;rw[el]at e;cases e;exact z rfl
   have hl':=B.bk.mic k l' e
   rw[kp l' (λy=>ap.2.1 (y ▸ List.mem_of_getElem? e)) z (klt (s _ _ hl') (by intro k z;cases z))]
   simp only[Int.toNat_natCast,if_neg nk]
   exact s _ _ hl'
 ·rw[<-eH,AF]
 ·rw[IY,TJ]
  by_cases z:p=i'/\q=j'
  ·obtain⟨rfl,rfl⟩:=z
   simp
  ·have z1:¬ ([Sum.inl p,Sum.inl q]:List AM)=[.inl ↑i',.inl ↑j']:=λy=>z (by simpa using y)
   have z2:¬ ((((i':Int).toNat:Nat):Int)=p/\(((j':Int).toNat:Nat):Int)=q):=λy=>z ⟨by omega,by omega⟩
   rw[if_neg z1,if_neg z2]
   exact hv p q
 ·have:=H0 AD [.inl ↑i',.inl ↑j'] (.int ↑cs.length)
  simp;omega
 ·rw[kp _ (km' (s _ _ DX) (by intro k z;cases z)) (kll (s _ _ DX) (by intro k z;cases z)) (klt (s _ _ DX) (by intro k z;cases z))];exact s _ _ DX
 ·exact hko.mono (by simp)
 ·simp;omega
 ·rcases List.mem_append.mp hc' with h | h
  ·exact B.bk.inn c h
  ·rw[List.mem_singleton.mp h]
   exact⟨by rw[Int.toNat_natCast];exact hil,(show(j':Int).toNat<w by omega)⟩
 ·rcases Nat.lt_or_ge k cs.length with h | h
  ·rw[List.getElem?_append_left h]at e
   exact B.bk.need k c e
  ·rw[List.getElem?_append_right h]at e
   have:k - cs.length=0:=by
    rcases Nat.eq_zero_or_pos (k - cs.length)with z | z
    ·exact z
    ·rw[List.getElem?_eq_none (by simp;omega)]at e;cases e
   rw[this]at e
   cases e
   exact⟨λy hy=>⟨(B2 y hy).1,by have:=(B2 y hy).2;omega⟩,kr,(show ks.length<=100 by omega)⟩
 ·rcases Nat.lt_or_ge k cs.length with h | h
  ·rw[List.getElem?_append_left h]at e
   rw[List.take_append_of_le_length (by omega)]at ej
   exact B.bk.chn k c e j ej
  ·rw[List.getElem?_append_right h]at e
   have:k - cs.length=0:=by
    rcases Nat.eq_zero_or_pos (k - cs.length)with z | z
    ·exact z
    ·rw[List.getElem?_eq_none (by simp;omega)]at e;cases e
   have hk:k=cs.length:=by omega
   subst hk
   rw[this]at e
   cases e
   rw[List.take_left' rfl]at ej
   exact(km _).mpr (.inr ⟨j,by simpa using ej,rfl⟩)
 ·rintro (z | z | z)
  ·exact ap.2.2.2.1 z
  ·exact ncl z
  ·obtain⟨ts,e,_⟩:=B.pk.ls
   exact klt (s _ _ e) (by intro k z;cases z) z
 ·rcases z with z | z | z
  ·exact .inl z
  ·exact .inr (.inr (.inl (z ▸ hmem)))
  ·exact .inr (.inr (.inr (.inl z)))
theorem BookIn.at{C D:Addr}{A:BA}{w:Nat}{cs:List Ch}{outs:Int->Bool}{H:Hp}(B:BookIn C D H A w cs outs){k:Nat}{c:Ch}(e:cs[k]? =some c):∃ xs x,H A.m=some (.lst xs)/\xs[k]? =some (.ref x)/\ChAt D H x c:=by
 obtain⟨chs,h,p⟩:=B.made
 obtain⟨x,ex,hx⟩:=K6 p e
 exact⟨_,x,h,by rw[List.getElem?_map,ex];rfl,hx⟩
theorem Sg{w n:Nat}{rows:List (List V)}{gp cl:Addr}{H1:Hp}{Q:Addr->Hp->Prop}{E:XK}(T:TB K a)(TP:D6 K a)(P:PlankAt a H1 gp cl w rows n)
  (q:∀ (A:BA) (H2:Hp),A.gp=gp->A.cl=cl->(∀ x o,H1 x=some o->x=cl\/¬ A.F x)->D8 a H2 A w rows n [] (λ_=>false)->Same H1 H2->Q A.b H2) :
  ∀ x dx,H1 x=none->H1 dx=none->dx≠x->M5 K a [.ref x,.ref gp] (upd (upd H1 dx (.own x)) x (.ins (EW a) dx [])) (λv H2=>v=.non/\Q x H2) E:=λb db hb hdb ndb=>by
 have s0:Same H1 (upd (upd H1 db (.own b)) b (.ins (EW a) db [])):=(AQ hdb).trans (AQ (by rw[AH ndb.symm];exact hb))
 refine⟨b,gp,cl,db,w,rows,n,rfl,T,TP,P.same s0,AF,λm mi lt ou ls H4 hm GK BI DX hls B4 sb4=>⟨rfl,?_⟩⟩
 refine q ⟨b,gp,m,mi,lt,ou,ls,cl⟩ H4 rfl rfl (λx o e=> ?_) B4 λy o e=>sb4 _ _ (s0 _ _ e) (BL e hb)
 by_cases z:x=cl
 ·exact .inl z
 ·refine .inr ?_
  have e':=s0 _ _ e
  rintro (y | y | y | y | y | y)
  ·rw[y]at e';rw[show(BA.mk b gp m mi lt ou ls cl).m=m from rfl,hm]at e';cases e'
  ·rw[y]at e';rw[show(BA.mk b gp m mi lt ou ls cl).mi=mi from rfl,GK]at e';cases e'
  ·rw[hls x y]at e';cases e'
  ·rw[y]at e';rw[show(BA.mk b gp m mi lt ou ls cl).lt=lt from rfl,BI]at e';cases e'
  ·rw[y]at e';rw[show(BA.mk b gp m mi lt ou ls cl).ou=ou from rfl,DX]at e';cases e'
  ·exact z y
theorem Sh(h:JN K a vs H Q E):VV K a (λ_=>E) (BB Q) (A8 ["self","place","number"] vs) H:=by
 obtain⟨A,w,rows,n,cs,outs,pl,i,j,rfl,T,TP,B,hp,q,qe⟩:=h
 obtain⟨dx,hb⟩:=B.bk.ob
 obtain⟨dp,hg⟩:=B.pk.ob
 push_cast[VV,↓Gv,↓Gw,↓Gx,↓Gy]
 refine⟨_,_,hb,DT (by decide +kernel),A,w,rows,n,cs,outs,pl,i,j,rfl,T,TP,B,hp,λh=> ?_,qe⟩
 have q:=q h
 unfold D9 at q
 cases e:DZ cs i j with
 | none =>
  rw[e]at q
  push_cast[G1]
  refine⟨_,_,_,hb,T.cl,T.nG,_,MZ,A.gp,rfl,_,_,hg,WQ _ _ _,CT hp (n:=0) rfl rfl ?_⟩
  refine⟨A.gp,A.cl,w,rows,n,i,rfl,TP,B.pk,λb' row eb er vl hvl=> ?_,λz=>absurd h λy=>by omega⟩
  subst eb
  have s1:=AQ (o:=.lst row) hvl
  refine CT (s1 _ _ hp) (n:=1) rfl rfl ?_
  have rl:=B.pk.wd row (List.mem_of_getElem? er)
  have hj:j.toNat<row.length:=by omega
  have ej:=List.getElem?_eq_getElem hj
  refine FG (SqL.of AF) (n:=j.toNat) (v:=row[j.toNat]) (by omega) ej ?_
  refine q _ _ ?_ s1
  rw[show((b':Int)).toNat=b' from by omega,er]
  exact ej
 | some k =>
  rw[e]at q
  push_cast[G1]
  have hk:=O1 e
  have ec:=List.getElem?_eq_getElem hk
  obtain⟨chs,hm,pc⟩:=B.bk.made
  obtain⟨x,ex,dx',p1,n1,h1,h2,h3⟩:=K6 pc ec
  refine⟨_,_,_,hb,T.cl,T.nM,_,KE,FG (SqL.of hm) (n:=k) (v:=.ref x) rfl (by rw[List.getElem?_map,ex];rfl) ⟨x,rfl,_,_,_,h1,T.cc,T.nV,_,dH,q _ _ ?_ (Same.refl _)⟩⟩
  show(cs[k]?).map (·.val)=_
  rw[ec]
  rfl
theorem Sj(h:PL K a vs H Q E):UD K a (λ_=>E) (BB Q) (A8 ["self","number","gone","need"] vs) H:=by
 obtain⟨A,w,rows,n,cs,outs,k,c,g,kvg,rfl,T,B,ec,hg,q⟩:=h
 obtain⟨dx,hb⟩:=B.bk.ob
 obtain⟨xs,cx,hm,ex,DF⟩:=B.bk.at ec
 obtain⟨dc,pl,nt,hc1,hc2,hc3⟩:=DF
 obtain⟨CZ,ho,hv,_⟩:=B.bk.out
 push_cast[UD,↓T9,↓UA,↓UB,↓UC]
 refine⟨_,_,_,hb,T.cl,T.nM,_,KE,FG (SqL.of hm) rfl ex ⟨cx,rfl,_,_,_,hc1,T.cc,T.nN,_,zX,nt,rfl,.inr ⟨⟨_,SqT.of hc3⟩,?_⟩⟩⟩
 refine bZ (xs:=c.nd.map V.int) (λi σ H'=>H'=H/\(∀ x∈c.nd.take i,(outs x || DW kvg x)=true)/\∃ z,σ=[some (.ref A.b),some (.int k),some (.ref g),z]) ⟨rfl,by simp,_,rfl⟩ (λi σ H' _ ⟨e,_⟩=>e ▸ SqT.of hc3) (λi x σ H' hx hzz=> ?_) (λσ H' hzz=> ?_)
 ·obtain⟨e,al,z,ez⟩:=hzz
  subst e;subst ez
  rw[List.getElem?_map,Option.map_eq_some_iff]at hx
  obtain⟨y,hy,rfl⟩:=hx
  push_cast[↓T9,↓UA,↓UB,↓UC]
  have step:(outs y || DW kvg y)=true->∀ x∈c.nd.take (i+1),(outs x || DW kvg x)=true:=λh x hx=>by
   rw[List.take_add_one,hy]at hx
   rcases List.mem_append.mp hx with hx | hx
   ·exact al x hx
   ·have:x=y:=by simpa using hx
    exact this ▸ h
  refine⟨_,_,_,hb,T.cl,T.nO,_,O2,A.ou,rfl,_,dI ho,?_⟩
  rw[hv]
  cases h1:outs y with
  | true =>
   push_cast[]
   exact step (by rw[h1];rfl)
  | false =>
   push_cast[]
   refine⟨_,dI hg,?_⟩
   cases h2:(BK kvg (.inl y)).isSome with
   | true =>
    push_cast[]
    exact step (by show(outs y || (BK kvg (.inl y)).isSome)=true;rw[h2];simp)
   | false =>
    push_cast[]
    have e:LD c.nd (λx=>outs x || DW kvg x)=some y:=by
     obtain⟨hi,e⟩:=List.getElem?_eq_some_iff.mp hy
     unfold LD
     rw[List.find?_eq_some_iff_append]
     refine⟨by show(!(outs y || (BK kvg (.inl y)).isSome))=true;rw[h1,h2];rfl,c.nd.take i,c.nd.drop (i+1),?_,λx hx=>by show(!!(outs x || DW kvg x))=true;rw[al x hx];rfl⟩
     rw[<-e,<-List.drop_eq_getElem_cons hi,List.take_append_drop]
    rw[e]at q
    exact q
 ·obtain⟨e,al,z,ez⟩:=hzz
  subst e;subst ez
  rw[List.length_map,List.take_length]at al
  push_cast[↓T9,↓UA,↓UB,↓UC]
  have e:LD c.nd (λx=>outs x || DW kvg x)=none:=List.find?_eq_none.mpr λx hx=>by show ¬ (!(outs x || DW kvg x))=true;rw[al x hx];exact Bool.false_ne_true
  rw[e]at q
  exact q
def Sk(s:Pass)(m:Nat)(H1 H':Hp)(g ol hl:Addr):Prop:=∃ (kvg:List (AM × V)) (hs:List Addr),SameBut (λy=>y=g\/y=ol\/y=hl) H1 H'/\H' g=some (.dK kvg)/\(∀ x:Int,DW kvg x=s.gone x)/\kvg.length<=m/\H' ol=some (.lst (s.out.map λ(k:Nat)=>V.int k)) ∧
 H' hl=some (.lst (hs.map V.ref))/\Paired (λx (p:Nat × Int)=>H' x=some (.tup [.int p.1,.int p.2])) hs s.held
theorem oH(AD:List (AM × V))(k x:Int)(v:V):DW (BW AD (.inl k) v) x=(DW AD x || x == k):=by
 unfold DW
 rw[IY]
 by_cases e:x=k
 ·subst e;simp
 ·have:¬ (Sum.inl x:AM)=Sum.inl k:=λz=>e (by simpa using z)
  rw[if_neg this];simp[e]
theorem Sl (h:PM K a vs H Q E):VE K a (λ_=>E) (BB Q) (A8 ["self","block","taken","gone","out","held","number","lack"] vs) H:=by
  obtain⟨A,w,rows,n,cs,outs,b,tk,kvt,rfl,T,B,hbl,htk,hkt,q⟩:=h
  obtain⟨dx,hb⟩:=B.bk.ob
  push_cast[VE,↓U3,↓U4,↓U5,↓U6,↓U7,↓U8,↓U9,↓VA,↓VB,↓VC,↓VD]
  refine⟨_,htk,λg hg=>⟨by decide,λol hol=>⟨by decide,λhl hhl=> ?_⟩⟩⟩
  have s1:Same H (upd (upd (upd H g (.dK kvt)) ol (.lst [])) hl (.lst [])):=((AQ hg).trans (AQ hol)).trans (AQ hhl)
  have ngo:g≠ol:=BL AF hol
  have nol:ol≠hl:=BL AF hhl
  have ngl:g≠hl:=BL (by rw[AH ngo];exact AF) hhl
  have eg:upd (upd (upd H g (.dK kvt)) ol (.lst [])) hl (.lst []) g=some (.dK kvt):=by rw[AH ngl,AH ngo,AF]
  have eo:upd (upd (upd H g (.dK kvt)) ol (.lst [])) hl (.lst []) ol=some (.lst []):=by rw[AH nol,AF]
  have el:upd (upd (upd H g (.dK kvt)) ol (.lst [])) hl (.lst []) hl=some (.lst []):=AF
  have holH:H ol=none:=(AQ hg).free hol
  have hhlH:H hl=none:=((AQ hg).trans (AQ hol)).free hhl
  revert s1 eg eo el
  generalize upd (upd (upd H g (.dK kvt)) ol (.lst [])) hl (.lst [])=H1
  intro s1 eg eo el
  have hil:b<A.ls.length:=by rw[B.nb];exact hbl
  have ell:=List.getElem?_eq_getElem hil
  have hll:=B.bk.mic b _ ell
  revert ell hll
  generalize A.ls[b]=l
  intro ell hll
  refine⟨_,_,_,s1 _ _ hb,T.cl,T.nI,_,TQ,FG (SqL.of (s1 _ _ B.bk.mil)) (n:=b) (v:=.ref l) rfl (by rw[List.getElem?_map,ell];rfl) ⟨l,rfl,.inl ⟨⟨_,SqL.of (s1 _ _ hll)⟩,?_⟩⟩⟩
  have bln:=dG cs b
  have sz:=B.bk.sz
  have G:∀ {H':Hp},SameBut (λy=>y=g\/y=ol\/y=hl) H1 H'->Same H H':=λsb y o e=>sb _ _ (s1 _ _ e) (by
    rintro (z | z | z)
    ·rw[z,hg]at e;cases e
    ·rw[z,holH]at e;cases e
    ·rw[z,hhlH]at e;cases e)
  refine K4 (xs:=(CH cs b).map λ(k:Nat)=>V.int k) (λi σ H'=>Sk (((CH cs b).take i).foldl (DM cs outs) ⟨[],[],DW kvt⟩) (1000+i) H1 H' g ol hl/\∃ z1 z2,σ=[some (.ref A.b),some (.int b),some (.ref tk),some (.ref g),some (.ref ol),some (.ref hl),z1,z2])
    ⟨⟨kvt,[],SameBut.refl _,eg,λ_=>rfl,by omega,eo,el,.nil⟩,_,_,rfl⟩ (λi σ H' _ ⟨⟨kvg,hs,sb,_⟩,_⟩=>SqL.of (G sb _ _ hll)) (λi x σ H' hx ⟨iv,z1,z2,ez⟩=> ?_) (λσ H' ⟨iv,z1,z2,ez⟩=> ?_)
  · subst ez
    have hi:=(List.getElem?_eq_some_iff.mp hx).1
    rw[List.length_map]at hi
    rw[List.getElem?_map,Option.map_eq_some_iff]at hx
    obtain⟨k,hk,rfl⟩:=hx
    have hkc:=TN (List.mem_of_getElem? hk)
    have ec:=List.getElem?_eq_getElem hkc
    revert ec
    generalize cs[k]=c
    intro ec
    have hszs:=dO (cs:=cs) (outs:=outs) ((CH cs b).take i) ⟨[],[],DW kvt⟩
    have es:=dP (DM cs outs) (⟨[],[],DW kvt⟩:Pass) hk
    revert iv hszs es
    generalize ((CH cs b).take i).foldl (DM cs outs) ⟨[],[],DW kvt⟩=s
    generalize ((CH cs b).take (i+1)).foldl (DM cs outs) ⟨[],[],DW kvt⟩=s'
    intro iv hszs es
    obtain⟨kvg,hs,sb,e1,e2,e3,e4,e5,e6⟩:=iv
    simp only[List.length_nil,List.length_take]at hszs
    have sH:=G sb
    have B':=B.same sH
    obtain⟨CZ,ho,hv,_⟩:=B.bk.out
    push_cast[↓U3,↓U4,↓U5,↓U6,↓U7,↓U8,↓U9,↓VA,↓VB,↓VC,↓VD]
    refine⟨_,_,_,sH _ _ hb,T.cl,T.nO,_,O2,A.ou,rfl,_,dI (sH _ _ ho),?_⟩
    rw[hv]
    unfold DM at es
    cases h1:outs k with
    | true =>
      rw[h1,Bool.true_or,if_pos rfl]at es
      push_cast[]
      rw[es]
      exact⟨kvg,hs,sb,e1,e2,by omega,e4,e5,e6⟩
    | false =>
      rw[h1,Bool.false_or]at es
      push_cast[]
      refine⟨_,dI e1,?_⟩
      have e2k:(BK kvg (.inl (k:Int))).isSome=s.gone k:=e2 k
      rw[e2k]
      cases h2:s.gone k with
      | true =>
        rw[h2,if_pos rfl]at es
        push_cast[]
        rw[es]
        exact⟨kvg,hs,sb,e1,e2,by omega,e4,e5,e6⟩
      | false =>
        rw[h2,if_neg Bool.false_ne_true,ec]at es
        push_cast[]
        refine⟨_,_,sH _ _ hb,DT (by decide +kernel),A,w,rows,n,cs,outs,k,c,g,kvg,rfl,T,B',ec,e1,?_⟩
        have efn:(λx=>outs x || DW kvg x)=λx=>outs x || s.gone x:=by funext x;rw[e2]
        rw[efn]
        simp only[Option.bind_some]at es
        cases h3:LD c.nd (λx=>outs x || s.gone x)with
        | none =>
          rw[h3]at es
          dsimp only at es
          dsimp only [TZ]
          rw[if_pos rfl]
          refine⟨_,pI e1 (by omega),.inl ⟨rfl,_,SqL.of (by rw[AH ngo.symm];exact e4)⟩,ol,_,_,rfl,rfl,by rw[AH ngo.symm];exact e4,Nat.lt_of_lt_of_le (show(s.out.map λ(k:Nat)=>V.int k).length<1000 by rw[List.length_map];omega) (by decide),?_⟩
          rw[es]
          refine⟨_,hs,?_,by rw[AH ngo,AF],λx=>by rw[oH,e2],?_,by rw[AF,List.map_append];rfl,by rw[AH nol.symm,AH ngl.symm];exact e5,Paired.mapP e6 λx p e=> ?_⟩
          · intro y o e ny
            rw[AH λz=>ny (.inr (.inl z)),AH λz=>ny (.inl z)]
            exact sb _ _ e ny
          · have:=H0 kvg (.inl (k:Int)) (.bl true)
            omega
          ·rw[AH (BH e e4 (by intro z;cases z)),AH (BH e e1 (by intro z;cases z))];exact e
        | some l' =>
          rw[h3]at es
          dsimp only at es
          dsimp only [TZ]
          rw[if_neg (by intro z;cases z)]
          refine⟨.inl ⟨rfl,_,SqL.of e5⟩,by decide,λtp htp=> ?_⟩
          have ntl:hl≠tp:=BL e5 htp
          refine⟨hl,_,_,rfl,rfl,by rw[AH ntl];exact e5,Nat.lt_of_lt_of_le (show(hs.map V.ref).length<1000 by rw[List.length_map,e6.length];omega) (by decide),?_⟩
          rw[es]
          have s2:=AQ (o:=.tup [.int (k:Int),.int l']) htp
          have kp:∀ y,y≠hl->y≠tp->upd (upd H' tp (.tup [.int (k:Int),.int l'])) hl (.lst (hs.map V.ref++[.ref tp])) y=H' y:=λy n1 n2=>by rw[AH n1,AH n2]
          refine⟨kvg,hs++[tp],?_,by rw[kp g ngl (BL e1 htp)];exact e1,e2,by omega,by rw[kp ol nol (BL e4 htp)];exact e4,by rw[AF,List.map_append];rfl,Paired.snoc (Paired.mapP e6 λx p e=> ?_) ?_⟩
          · intro y o e ny
            have e':=sb _ _ e ny
            rw[kp y (λz=>ny (.inr (.inr z))) (BL e' htp)];exact e'
          ·rw[kp x (BH e e5 (by intro z;cases z)) (BL e htp)];exact e
          ·rw[AH ntl.symm,AF]
  · subst ez
    rw[List.length_map,List.take_length]at iv
    push_cast[↓U3,↓U4,↓U5,↓U6,↓U7,↓U8,↓U9,↓VA,↓VB,↓VC,↓VD]
    obtain⟨kvg,hs,sb,e1,e2,e3,e4,e5,e6⟩:=iv
    refine⟨by decide,λt ht=> ?_⟩
    have s2:=AQ (o:=.tup [.ref ol,.ref hl]) ht
    exact q t ol hl _ holH hhlH nol ((G sb).trans s2) ⟨AF,s2 _ _ e4,hs,s2 _ _ e5,Paired.mapP e6 λx p e=>s2 _ _ e⟩
theorem Sm(h:PN K a vs H Q E):UJ K a (λ_=>E) (BB Q) (A8 ["self","values","block","laid","number"] vs) H:=by
 obtain⟨A,w,rows,n,cs,outs,b,vl,row,rfl,T,B,hbl,hvl,NO,q⟩:=h
 obtain⟨dx,hb⟩:=B.bk.ob
 obtain⟨CZ,ho,hv,_⟩:=B.bk.out
 push_cast[UJ,↓UE,↓UF,↓UG,↓UH,↓UI]
 refine⟨_,.inl (SqL.of hvl),λla hla=> ?_⟩
 have s1:=AQ (o:=.lst row) hla
 have hil:b<A.ls.length:=by rw[B.nb];exact hbl
 have ell:=List.getElem?_eq_getElem hil
 have hll:=B.bk.mic b _ ell
 revert ell hll
 generalize A.ls[b]=l
 intro ell hll
 refine⟨_,_,_,s1 _ _ hb,T.cl,T.nI,_,TQ,FG (SqL.of (s1 _ _ B.bk.mil)) (n:=b) (v:=.ref l) rfl (by rw[List.getElem?_map,ell];rfl) ⟨l,rfl,.inl ⟨⟨_,SqL.of (s1 _ _ hll)⟩,?_⟩⟩⟩
 have sk:∀ o,Same H (upd H la o):=λo=>AQ hla
 refine K4 (xs:=(CH cs b).map λ(k:Nat)=>V.int k) (λi σ H'=>H'=upd H la (.lst (((CH cs b).take i).foldl (FH cs outs) row))/\∃ z1,σ=[some (.ref A.b),some (.ref vl),some (.int b),some (.ref la),z1])
  ⟨rfl,_,rfl⟩ (λi σ H' _ ⟨e,_⟩=>by rw[e];exact SqL.of (sk _ _ _ hll)) (λi x σ H' hx ⟨e,z1,ez⟩=> ?_) (λσ H' ⟨e,z1,ez⟩=> ?_)
 ·subst e;subst ez
  rw[List.getElem?_map,Option.map_eq_some_iff]at hx
  obtain⟨k,hk,rfl⟩:=hx
  have hkc:=TN (List.mem_of_getElem? hk)
  have ec:=List.getElem?_eq_getElem hkc
  revert ec
  generalize cs[k]=c
  intro ec
  have es:=dP (FH cs outs) row hk
  have BT:=TR (cs:=cs) (outs:=outs) ((CH cs b).take i) row
  revert es BT
  generalize ((CH cs b).take i).foldl (FH cs outs) row=r
  generalize ((CH cs b).take (i+1)).foldl (FH cs outs) row=r'
  intro es BT
  have sH:=sk (.lst r)
  push_cast[↓UE,↓UF,↓UG,↓UH,↓UI]
  refine⟨_,_,_,sH _ _ hb,T.cl,T.nO,_,O2,A.ou,rfl,_,dI (sH _ _ ho),?_⟩
  rw[hv]
  unfold FH at es
  cases h1:outs k with
  | false =>
   rw[h1,if_neg Bool.false_ne_true]at es
   push_cast[]
   rw[es]
  | true =>
   rw[h1,if_pos rfl,ec]at es
   dsimp only at es
   push_cast[]
   obtain⟨xs,cx,hm,ex,dc,pl,nt,hc1,hc2,hc3⟩:=(B.same sH).bk.at ec
   have hcell:=(B.bk.inn c (List.mem_of_getElem? ec)).2
   refine⟨_,_,_,sH _ _ hb,T.cl,T.nM,_,KE,FG (SqL.of hm) rfl ex ⟨cx,rfl,_,_,_,hc1,T.cc,T.nV,_,dH,?_⟩⟩
   refine⟨_,_,_,sH _ _ hb,T.cl,T.nM,_,KE,FG (SqL.of hm) rfl ex ⟨cx,rfl,_,_,_,hc1,T.cc,T.nP,_,zW,CT hc2 (n:=1) rfl rfl ?_⟩⟩
   refine⟨la,r,(c.cell:Int),c.cell,rfl,rfl,AF,?_,?_⟩
   ·unfold HY
    rw[if_pos (by omega),if_pos (by omega),Int.toNat_natCast]
   ·rw[GL,es]
 ·subst e;subst ez
  rw[List.length_map,List.take_length]
  push_cast[↓UE,↓UF,↓UG,↓UH,↓UI]
  exact q la _ hla (sk _) AF
theorem Sq(h:PQ K a vs H Q E):VQ K a (λ_=>E) (BB Q) (A8 ["self","block","values","told","number"] vs) H:=by
 obtain⟨A,w,rows,n,cs,outs,b,rfl,T,TP,B,q,qe⟩:=h
 obtain⟨dx,hb⟩:=B.bk.ob
 obtain⟨dp,hg⟩:=B.pk.ob
 push_cast[VQ,↓QR,↓QS,↓QT,↓QU,↓QW,↓QX]
 refine⟨_,_,_,hb,T.cl,T.nG,_,MZ,A.gp,rfl,_,_,hg,WQ _ _ _,A.gp,A.cl,w,rows,n,b,rfl,TP,B.pk,λb' row eb er vl hvl=> ?_,qe⟩
 subst eb
 push_cast[]
 have hbl:=(List.getElem?_eq_some_iff.mp er).1
 have s1:=AQ (o:=.lst row) hvl
 have ev:upd H vl (.lst row) vl=some (.lst row):=AF
 revert s1 ev
 generalize upd H vl (.lst row)=H1
 intro s1 ev
 refine⟨_,_,s1 _ _ hb,DT (by decide +kernel),λe0 he0=> ?_⟩
 have s2:=s1.trans (AQ (o:=.dK []) he0)
 refine⟨A,w,rows,n,cs,outs,b',e0,[],rfl,T,B.same s2,hbl,AF,by simp,λt ol hl H3 hol hhl nol s3 told=> ?_⟩
 have Q6:=s2.trans s3
 have ev3:=s3 _ _ (AQ he0 _ _ ev)
 have holH:=s2.free hol
 have hhlH:=s2.free hhl
 have hasnil:(DW ([]:List (AM × V)))=λ_=>false:=rfl
 rw[hasnil]at told
 obtain⟨ht,ho3,hs,hh3,hpr⟩:=told
 obtain⟨rise,fresh,_⟩:=TV (cs:=cs) (outs:=outs) (b:=b')
 have eW:EU cs outs b'=λx=>outs x || (outcome cs outs (λ_=>false) b').out.any λ(k:Nat)=>x ==(k:Int):=rfl
 replace q:=λH' a1 a2 a3=>q b' row t ol hl H' rfl er holH hhlH nol a1 a2 a3
 revert ho3 hpr rise fresh eW q
 generalize outcome cs outs (λ_=>false) b'=oc
 generalize EU cs outs b'=ow
 intro ho3 hpr rise fresh eW q
 push_cast[]
 refine CT ht (n:=0) rfl rfl ⟨ol,rfl,.inl ⟨⟨_,SqL.of ho3⟩,?_⟩⟩
 obtain⟨CZ,DX,hvo,hko⟩:=B.bk.out
 have hou3:=Q6 _ _ DX
 have fO:¬ A.F ol:=B.off holH
 have fL:¬ A.F hl:=B.off hhlH
 have nou:ol≠A.ou:=λz=>fO (.inr (.inr (.inr (.inr (.inl z)))))
 refine K4 (xs:=oc.out.map λ(k:Nat)=>V.int k) (λi σ H'=>(∃ kv,H'=upd H3 A.ou (.dK kv)/\(∀ x:Int,(BK kv (.inl x)).isSome=(outs x || (oc.out.take i).any λ(k:Nat)=>x ==(k:Int)))/\KeysOk kv cs.length)/\∃ z1,σ=[some (.ref A.b),some (.int b'),some (.ref vl),some (.ref t),z1])
  ⟨⟨CZ,?_,λx=>by rw[hvo];simp,hko⟩,_,rfl⟩ (λi σ H' _ ⟨⟨kv,e,_⟩,_⟩=>by rw[e];exact SqL.of (by rw[AH nou];exact ho3)) (λi x σ H' hx ⟨⟨kv,e,hv,hk⟩,z1,ez⟩=> ?_) (λσ H' ⟨⟨kv,e,hv,hk⟩,z1,ez⟩=> ?_)
 ·funext y
  by_cases e:y=A.ou
  ·subst e;rw[AF];exact hou3
  ·rw[AH e]
 ·subst e;subst ez
  rw[List.getElem?_map,Option.map_eq_some_iff]at hx
  obtain⟨k,ek,rfl⟩:=hx
  have hkm:=List.mem_of_getElem? ek
  have hkc:=TN (fresh k hkm).2
  have hnone:BK kv (.inl (k:Int))=none:=by
   have:=hv k
   rw[(fresh k hkm).1,Bool.false_or]at this
   have z:(oc.out.take i).any (λ(j:Nat)=>(k:Int) ==(j:Int))=false:=by
    rw[List.any_eq_false]
    intro j hj
    obtain⟨m,hm,e⟩:=List.getElem_of_mem hj
    rw[List.length_take]at hm
    rw[List.getElem_take]at e
    obtain⟨hi,e2⟩:=List.getElem?_eq_some_iff.mp ek
    have:=List.pairwise_iff_getElem.mp rise m i (by omega) hi (by omega)
    rw[e,e2]at this
    simp;omega
   rw[z]at this
   exact Option.isSome_eq_false_iff.mp this |> Option.isNone_iff_eq_none.mp
  push_cast[↓QR,↓QS,↓QT,↓QU,↓QW,↓QX]
  have hb3:upd H3 A.ou (.dK kv) A.b=some (.ins (EW a) dx (bf A.gp A.m A.mi A.lt A.ou)):=by
   rw[AH (BH (Q6 _ _ hb) hou3 (by intro z;cases z))];exact Q6 _ _ hb
  refine⟨_,_,_,hb3,T.cl,T.nO,_,O2,A.ou,rfl,_,pI AF (by have:=hk.len;have:=B.bk.sz;omega),_,GL,λx=> ?_,hk.put hkc hnone _⟩
  have:=oH kv k x (.bl true)
  unfold DW at this
  rw[this,hv,List.take_add_one,ek,List.any_append,Bool.or_assoc]
  simp
 ·subst e;subst ez
  rw[List.length_map,List.take_length]at hv
  replace hv:∀ x:Int,(BK kv (.inl x)).isSome=ow x:=λx=>by rw[hv,eW]
  push_cast[↓QR,↓QS,↓QT,↓QU,↓QW,↓QX]
  have lou:E3 (H A.ou):=O3 DX
  have kb:∀ {y:Addr} {o:HO},H y=some o->y≠A.ou->upd H3 A.ou (.dK kv) y=some o:=λe n=>by rw[AH n];exact Q6 _ _ e
  have sb4:SameBut (· =A.ou) H (upd H3 A.ou (.dK kv)):=λy o e n=>kb e n
  have B4:D8 a (upd H3 A.ou (.dK kv)) A w rows n cs ow:=by
   obtain⟨⟨b1,b2,b3,b4,b5,b6,_,b8,b9,b10,b11,b12⟩,pk,nb⟩:=B
   have g:∀ x,x=A.ou->E3 (H x):=λx e=>e ▸ lou
   obtain⟨dx',b1⟩:=b1
   obtain⟨chs,b2,b2'⟩:=b2
   obtain⟨AD,b6,b6'⟩:=b6
   obtain⟨ts,pl1,pl2⟩:=pk.ls
   refine⟨⟨⟨dx',kb b1 (BH b1 DX (by intro z;cases z))⟩,⟨chs,kb b2 (BH b2 DX (by intro z;cases z)),Paired.mapP b2' λx c h=>h.sb sb4 g⟩,kb b3 (BH b3 DX (by intro z;cases z)),λi l e=>kb (b4 i l e) (BH (b4 i l e) DX (by intro z;cases z)),b5,⟨AD,kb b6 (BH b6 DX (by intro z;cases z)),b6'⟩,⟨kv,AF,hv,hk⟩,b8,b9,b10,b11,b12⟩,pk.sbL sb4 g (BH pl1 DX (by intro z;cases z)),nb⟩
  have ev4:upd H3 A.ou (.dK kv) vl=some (.lst row):=by rw[AH (BH ev3 hou3 (by intro z;cases z))];exact ev3
  have ht4:upd H3 A.ou (.dK kv) t=some (.tup [.ref ol,.ref hl]):=by rw[AH (BH ht hou3 (by intro z;cases z))];exact ht
  have ho4:upd H3 A.ou (.dK kv) ol=some (.lst (oc.out.map λ(k:Nat)=>V.int k)):=by rw[AH nou];exact ho3
  have hh4:upd H3 A.ou (.dK kv) hl=some (.lst (hs.map V.ref)):=by rw[AH (BH hh3 hou3 (by intro z;cases z))];exact hh3
  have hp4:Paired (λx (p:Nat × Int)=>upd H3 A.ou (.dK kv) x=some (.tup [.int p.1,.int p.2])) hs oc.held:=Paired.mapP hpr λx p e=>by rw[AH (BH e hou3 (by intro z;cases z))];exact e
  revert sb4 B4 ev4 ht4 ho4 hh4 hp4
  generalize upd H3 A.ou (.dK kv)=H4
  intro sb4 B4 ev4 ht4 ho4 hh4 hp4
  obtain⟨dx4,hb4⟩:=B4.bk.ob
  obtain⟨dp4,hg4⟩:=B4.pk.ob
  refine⟨_,_,_,hb4,T.cl,T.nG,_,MZ,A.gp,rfl,_,_,hg4,Rv _ _ _,_,_,hb4,DT (by decide +kernel),A,w,rows,n,cs,ow,b',vl,row,rfl,T,B4,hbl,ev4,B.pk.wd row (List.mem_of_getElem? er),λll H5 hll5 s5 ell5=> ?_⟩
  have B5:=B4.same s5
  refine⟨A.gp,A.cl,w,rows,n,b',ll,ED cs ow b' row,rfl,TP,B5.pk,SqL.of ell5,by rw[dN,B.pk.wd row (List.mem_of_getElem? er)];have:=B.pk.sw;omega,λi ei hi hxw H6 P6 sb6=> ?_,λz=> ?_⟩
  ·have ei:b'=i:=by omega
   subst ei
   push_cast[↓QR,↓QS,↓QT,↓QU,↓QW,↓QX]
   obtain⟨ts5,pl5,pt5⟩:=B5.pk.ls
   obtain⟨dp5,hg5⟩:=B5.pk.ob
   have ap:=B5.bk.ap
   have nF:∀ {y:Addr} {o:HO},H5 y=some o->(∀ C d f,o≠.ins C d f)->(∀ xs,o≠.lst xs)->¬ (y=A.gp\/y=A.cl):=λe n1 n2=>by
    rintro (z | z)
    ·exact BH e hg5 (n1 _ _ _) z
    ·exact BH e pl5 (n2 _) z
   have gp_b:A.b≠A.gp:=by
    obtain⟨d5,hb5⟩:=B5.bk.ob
    exact BH hb5 hg5 (LA (by simp[bf,pf]))
   have k6:∀ {y:Addr} {o:HO},H5 y=some o->y≠A.gp->y≠A.cl->H6 y=some o:=λe n1 n2=>sb6 _ _ e (by rintro (z | z);exact n1 z;exact n2 z)
   have notins:∀ {y:Addr} {o:HO},H5 y=some o->(∀ C d f,o≠.ins C d f)->y≠A.gp:=λe n=>BH e hg5 (n _ _ _)
   have B6:D8 a H6 A w (rows.set b' (ED cs ow b' row)) (n+1) cs ow:=by
    obtain⟨⟨b1,b2,b3,b4,b5,b6,b7,b8,b9,b10,b11,b12⟩,pk,nb⟩:=B5
    obtain⟨dx',b1⟩:=b1
    obtain⟨chs,b2,b2'⟩:=b2
    obtain⟨AD,b6,b6'⟩:=b6
    obtain⟨kvo',b7,b7'⟩:=b7
    refine⟨⟨⟨dx',k6 b1 gp_b (BH b1 pl5 (by intro z;cases z))⟩,⟨chs,k6 b2 (notins b2 (by intro _ _ _ z;cases z)) ap.2.2.2.1.symm,Paired.mapP b2' λx c h=> ?_⟩,k6 b3 (notins b3 (by intro _ _ _ z;cases z)) ap.2.2.2.2.1.symm,λi l e=>k6 (b4 i l e) (notins (b4 i l e) (by intro _ _ _ z;cases z)) (λz=>ap.2.2.2.2.2 (z ▸ List.mem_of_getElem? e)),b5,⟨AD,k6 b6 (notins b6 (by intro _ _ _ z;cases z)) (BH b6 pl5 (by intro z;cases z)),b6'⟩,⟨kvo',k6 b7 (notins b7 (by intro _ _ _ z;cases z)) (BH b7 pl5 (by intro z;cases z)),b7'⟩,b8,b9,b10,b11,b12⟩,P6,by rw[nb,List.length_set]⟩
    obtain⟨dc,p1,n1,h1,h2,h3⟩:=h
    exact⟨dc,p1,n1,k6 h1 (BH h1 hg5 (LA (by simp[FB,pf]))) (BH h1 pl5 (by intro z;cases z)),k6 h2 (notins h2 (by intro _ _ _ z;cases z)) (BH h2 pl5 (by intro z;cases z)),k6 h3 (notins h3 (by intro _ _ _ z;cases z)) (BH h3 pl5 (by intro z;cases z))⟩
   have ncO:ol≠A.cl:=λz=>fO (.inr (.inr (.inr (.inr (.inr z)))))
   have ncL:hl≠A.cl:=λz=>fL (.inr (.inr (.inr (.inr (.inr z)))))
   have ht5:=s5 _ _ ht4
   have ho5:=s5 _ _ ho4
   have hh5:=s5 _ _ hh4
   refine q H6 ⟨k6 ht5 (notins ht5 (by intro _ _ _ z;cases z)) (BH ht5 pl5 (by intro z;cases z)),k6 ho5 (notins ho5 (by intro _ _ _ z;cases z)) ncO,hs,k6 hh5 (notins hh5 (by intro _ _ _ z;cases z)) ncL,Paired.mapP hp4 λx p e=> ?_⟩ B6 λy o e ny=> ?_
   ·have e5:=s5 _ _ e
    exact k6 e5 (notins e5 (by intro _ _ _ z;cases z)) (BH e5 pl5 (by intro z;cases z))
   ·exact k6 (s5 _ _ (sb4 _ _ e λz=>ny (.inl (.inr (.inr (.inr (.inr (.inl z)))))))) (λz=>ny (.inr z)) (λz=>ny (.inl (.inr (.inr (.inr (.inr (.inr z)))))))
  ·rcases z with z | z | z
   ·omega
   ·omega
   ·exact absurd (by rw[dN,B.pk.wd row (List.mem_of_getElem? er)]) z
theorem Sv(h:O8 K a vs H Q E):UQ K a (λ_=>E) (BB Q) (A8 ["self","names","records","pieces","cells"] vs) H:=by
 obtain⟨p,dx,n,r,c,w,rfl,T,hp,b1,b2,b3,b4,b5,q⟩:=h
 push_cast[UQ,↓Bl,↓Bm,↓Bp,↓Bq]
 refine⟨_,_,_,hp,T.cl,T.n1,by decide,_,_,_,AF,T.cl,T.n2,IE (by decide),_,_,_,AF,T.cl,T.n3,IE (n:=1000) (Nat.succ_lt_succ (IE (n:=999) (by decide))),_,_,_,AF,T.cl,T.n4,?_,?_⟩
 ·exact IE (n:=1000) (Nat.succ_lt_succ (IE (n:=999) (Nat.succ_lt_succ (IE (n:=998) (by decide)))))
 ·rw[Aj,GL,GL,GL]
  exact q _ ⟨⟨dx,AF⟩,b1,b2,b3,b4,b5⟩ λb o e hb=>by rw[AH hb];exact e
theorem Sw(h:GH K a vs H Q E):UT K a (λ_=>E) (BB Q) (A8 ["self","block","k"] vs) H:=by
 obtain⟨p,n,r,c,w,k,b,rfl,T,L,q⟩:=h
 obtain⟨dx,e⟩:=L.ob
 have:=L.h1
 have:=L.hw
 push_cast[UT,↓Bx]
 refine⟨_,_,_,e,T.cl,T.n4,_,LE,?_⟩
 push_cast[]
 refine⟨⟨by omega,by omega⟩,_,_,_,e,T.cl,T.n4,_,LE,?_⟩
 push_cast[]
 exact⟨by omega,by decide,q⟩
theorem Sx(h:F1 K a vs H Q E):VI K a (λ_=>E) (BB Q) (A8 ["self","k"] vs) H:=by
 obtain⟨p,n,r,c,w,k,rfl,T,L,q⟩:=h
 obtain⟨dx,e⟩:=L.ob
 push_cast[VI,↓Em]
 exact⟨_,_,e,BX (by decide +kernel),p,n,r,c,w,k,0,rfl,T,L,q⟩
theorem Sy(h:EV K a vs H Q E):VJ K a (λ_=>E) (BB Q) (A8 ["self","k"] vs) H:=by
 obtain⟨p,n,r,c,w,k,rfl,T,L,q⟩:=h
 obtain⟨dx,e⟩:=L.ob
 push_cast[VJ,↓Ep]
 exact⟨_,_,e,BX (by decide +kernel),_,_,_,e,T.cl,T.n1,_,O7,p,n,r,c,w,k,_,rfl,T,L,q⟩
theorem Sz(h:KF K a vs H Q E):VL K a (λ_=>E) (BB Q) (A8 ["self","k"] vs) H:=by
 obtain⟨p,n,r,c,w,k,rfl,T,L,q⟩:=h
 obtain⟨dx,e⟩:=L.ob
 push_cast[VL,↓Ev]
 refine⟨_,_,e,BX (by decide +kernel),_,_,_,e,T.cl,T.n1,_,O7,_,_,_,e,T.cl,T.n2,_,M4,?_⟩
 push_cast[]
 exact⟨p,n,r,c,w,k,_,rfl,T,L,q⟩
theorem Tb(h:GZ K a vs H Q E):VM K a (λ_=>E) (BB Q) (A8 ["self","k"] vs) H:=by
 obtain⟨p,n,r,c,w,k,rfl,T,L,q⟩:=h
 obtain⟨dx,e⟩:=L.ob
 push_cast[VM,↓Ew]
 exact⟨_,_,e,BX (by decide +kernel),_,_,e,BX (by decide +kernel),p,n,r,c,w,rfl,T,L,p,n,r,c,w,k,_,rfl,T,L,q⟩
theorem Tc(h:F2 K a vs H Q E):VN K a (λ_=>E) (BB Q) (A8 ["self","k"] vs) H:=by
 obtain⟨p,n,r,c,w,k,rfl,T,L,q⟩:=h
 obtain⟨dx,e⟩:=L.ob
 push_cast[VN,↓Ex]
 refine⟨_,_,e,BX (by decide +kernel),_,_,e,BX (by decide +kernel),p,n,r,c,w,rfl,T,L,_,_,_,e,T.cl,T.n2,_,M4,?_⟩
 push_cast[]
 exact⟨p,n,r,c,w,k,_,rfl,T,L,q⟩
theorem Td(h:JM K a vs H Q E):US K a (λ_=>E) (BB Q) (A8 ["self"] vs) H:=by
 obtain⟨p,n,r,c,w,rfl,T,L,q⟩:=h
 obtain⟨dx,e⟩:=L.ob
 push_cast[US,↓Bw]
 refine⟨_,_,_,e,T.cl,T.n1,_,O7,_,_,_,e,T.cl,T.n2,_,M4,?_⟩
 push_cast[]
 refine⟨_,_,_,e,T.cl,T.n3,_,TX,?_⟩
 push_cast[]
 exact q
theorem Tg(h:IF K a vs H Q E):VO K a (λ_=>E) (BB Q) (A8 ["self"] vs) H:=by
 obtain⟨p,n,r,c,w,rfl,T,L,q⟩:=h
 obtain⟨dx,e⟩:=L.ob
 push_cast[VO,↓Ey]
 refine⟨_,_,e,BX (by decide +kernel),p,n,r,c,w,rfl,T,L,_,_,_,e,T.cl,T.n2,_,M4,?_⟩
 push_cast[]
 refine⟨_,_,_,e,T.cl,T.n3,_,TX,?_⟩
 push_cast[]
 exact q
theorem Th(h:FI K a vs H Q E):UR K a (λ_=>E) (BB Q) (A8 ["self"] vs) H:=by
 obtain⟨p,n,r,c,w,rfl,T,L,q⟩:=h
 obtain⟨dx,e⟩:=L.ob
 obtain⟨_,b1,b2,b3,b4,b5⟩:=L
 push_cast[UR,↓Bv]
 refine⟨_,_,_,e,T.cl,T.n1,_,O7,_,_,_,e,T.cl,T.n4,_,LE,?_⟩
 push_cast[]
 refine⟨.inl ⟨by omega,by omega⟩,_,_,_,e,T.cl,T.n2,_,M4,_,_,_,e,T.cl,T.n4,_,LE,?_⟩
 push_cast[]
 refine⟨.inl ⟨by omega,by omega⟩,_,_,_,e,T.cl,T.n3,_,TX,_,_,_,e,T.cl,T.n4,_,LE,?_⟩
 push_cast[]
 exact⟨.inl ⟨by omega,by omega⟩,by decide,q⟩
theorem Tj(h:O9 K a vs H Q E):VR K a (λ_=>E) (BB Q) (A8 ["self"] vs) H:=by
 obtain⟨p,n,r,c,w,rfl,T,TP,L,q⟩:=h
 obtain⟨dx,e⟩:=L.ob
 have LL:=L
 obtain⟨_,b1,b2,b3,b4,b5⟩:=L
 push_cast[VR,↓Fc]
 refine⟨_,_,e,BX (by decide +kernel),p,n,r,c,w,rfl,T,LL,_,_,_,e,T.cl,T.n4,_,LE,λx dx' hx hdx hne=> ?_⟩
 have s3:Same H (upd (upd H dx' (.own x)) x (.ins (a "Plank") dx' [])):=(AQ hdx).trans (AQ (by rw[AH hne.symm];exact hx))
 refine⟨x,dx',n+r+c+r+c,w,by simp,TP,AF,by omega,b4,by omega,λcl H2 BJ P2 s4=>⟨rfl,q x cl H2 hx (s3.free BJ) P2 λb o eb=>s4 _ _ (s3 _ _ eb) (BL eb hx)⟩⟩
theorem Tk{f:Nat->Bool}{m i:Nat}(hi:i<m)(h:f i=true)(hl:∀ j<i,f j=false):EF f m=i:=by
 unfold EF
 have:(List.range m).find? f=some i:=by
  rw[List.find?_eq_some_iff_append]
  refine⟨h,List.range i,(List.range (m - i - 1)).map (i+1+·),?_,λj hj=>by rw[hl j (List.mem_range.mp hj)];rfl⟩
  have e1:m=i+(1+(m - i - 1)):=by omega
  conv=>lhs;rw[e1]
  rw[List.range_add,List.range_add]
  simp[Nat.add_assoc,Function.comp_def]
 rw[this]
theorem Tl{f:Nat->Bool}{m:Nat}(hl:∀ j<m,f j=false):EF f m= -1:=by
 unfold EF
 have:(List.range m).find? f=none:=List.find?_eq_none.mpr λj hj=>by rw[hl j (List.mem_range.mp hj)];exact Bool.false_ne_true
 rw[this]
theorem Tm{n:Nat}{H:Hp}{v:V}{xs:List V}(hx:∀ z∈xs,PR z)(hv:GoodV n H v)(hf:GB v=true):MN v xs=decide (v∈xs):=by
 rw[Bool.eq_iff_iff,decide_eq_true_iff]
 unfold MN
 rw[List.any_eq_true]
 have key:∀ z,PR z->(HA z v=true↔z=v):=λz hz=>by
  rcases hz with rfl | ⟨i,rfl⟩<;>(cases v<;>first | (simp[HA];done) | (cases n<;>exact hv.elim) | (simp[GB]at hf))
 constructor
 ·rintro ⟨z,hz,e⟩
  rw[<-(key z (hx z hz)).mp e];exact hz
 ·intro h
  exact⟨v,h,(key v (hx v h)).mpr rfl⟩
def EK(H H':Hp):Prop:=∀ b xs,H b=some (.tup xs)->H' b=some (.tup xs)
theorem GoodV.keep{H H':Hp}(k:EK H H'):∀ {n:Nat} {v:V},GoodV n H v->GoodV n H' v
 | 0,_,h=>h
 | _+1,.int _,_=>trivial
 | _+1,.non,_=>trivial
 | _+1,.str _,h=>h
 | n+1,.ref p,⟨xs,h1,h2,h3⟩=>⟨xs,k _ _ h1,h2,λv hv=>(h3 v hv).keep k⟩
theorem Same.tk{H H':Hp}(s:Same H H'):EK H H':=λb xs e=>s _ _ e
theorem Tp{v:V}{vl:Addr}{xs:List V}(hg:GoodV 4 H v)(hv:H vl=some (.tup xs))(hx:∀ z∈xs,PR z)(q:Q (.bl (decide (v∈xs))) H):OV K v (.ref vl) H Q:=by
 have fx:xs.all GB=true:=List.all_eq_true.mpr λz hz=>by rcases hx z hz with rfl | ⟨i,rfl⟩<;>rfl
 have flat:GB v=true->OV K v (.ref vl) H Q:=λhf=>.inl ⟨vl,xs,rfl,.inr (SqT.of hv),hf,fx,by
  show Q (.bl (MN v xs)) H
  rw[Tm hx hg hf];exact q⟩
 cases v with
 | ref t =>
  obtain⟨ys,e,_⟩:=hg
  have:decide ((V.ref t)∈xs)=false:=decide_eq_false λhm=>by rcases hx _ hm with z | ⟨i,z⟩<;>cases z
  rw[this]at q
  exact .inr ⟨t,ys,vl,xs,rfl,SqT.of e,rfl,SqT.of hv,hx,q⟩
 | int i=>exact flat rfl
 | non=>exact flat rfl
 | str z=>exact flat rfl
 | _=>exact hg.elim
theorem Tq(h:II K a vs H Q E):VZ K a (λ_=>E) (BB Q) (A8 ["hold","places","values","k","place"] vs) H:=by
 obtain⟨A,w,rows,n,cs,outs,pl,vl,ts,xs,f,m,rfl,T,TP,B,hp,hm,hm2,hv,hx,hf,q,qe⟩:=h
 obtain⟨dx,ho⟩:=B.bk.ob
 push_cast[VZ,↓Jk]
 refine⟨⟨_,SqL.of hp⟩,c8 (xs:=ts.map V.ref) (λi σ H'=>(Same H H'/\∀ j<i,f j=false)/\∃ x y,σ=[some (.ref A.b),some (.ref pl),some (.ref vl),x,y]) ⟨⟨Same.refl _,λj hj=>absurd hj (Nat.not_lt_zero _)⟩,_,_,rfl⟩ (λi σ H' _ ⟨⟨s,_⟩,_⟩=>SqL.of (s _ _ hp)) (λi x σ H' t hx' ⟨⟨s,lo⟩,x0,y0,ez⟩ ht=> ?_) (λσ H' ⟨⟨s,lo⟩,x0,y0,ez⟩=> ?_)⟩
 ·subst ez
  rw[List.getElem?_map]at hx'
  cases et:ts[i]? with
  | none=>rw[et]at hx';cases hx'
  | some tt =>
   rw[et]at hx'
   cases hx'
   obtain⟨bi,bj,v,e1,on,ev,gv,ef⟩:=hf i tt et
   have s2:=s.trans (AQ (o:=.tup [.int (i:Int),.ref tt]) ht)
   push_cast[]
   refine⟨_,SqT.of AF,rfl,_,_,rfl,_,_,rfl,rfl,?_⟩
   revert s2
   generalize upd H' t (.tup [.int (i:Int),.ref tt])=H2
   intro s2
   push_cast[↓Jj,↓Jh]
   refine⟨_,_,s2 _ _ ho,DT (by decide +kernel),A,w,rows,n,cs,outs,tt,bi,bj,rfl,T,TP,B.same s2,s2 _ _ e1,λ_ v' H3 ev' s3=> ?_,λz=>absurd on z⟩
   rw[ev]at ev'
   cases ev'
   have s4:=s2.trans s3
   refine Tp (gv.keep s4.tk) (s4 _ _ hv) hx ?_
   rw[<-ef]
   push_cast[]
   cases hfi:f i with
   | true=>exact q i (Tk (by have:=(List.getElem?_eq_some_iff.mp et).1;omega) hfi lo) _ s4
   | false=>exact⟨s4,λj hj=>by
     rcases Nat.lt_or_ge j i with z | z
     ·exact lo j z
     ·rw[show j=i by omega];exact hfi⟩
 ·subst ez
  push_cast[↓Jl]
  rw[List.length_map,hm]at lo
  exact⟨by decide,qe (Tl lo) _ s⟩
theorem WR{m w:Nat}{B:Nat->Int}{te:TE}{cap:List Nat}{σ:St}{H:Hp}{Q:VK}(hm:m<=1000)(ht:∀ i H' Q',i<m->Same H H'->GG (B i) (i % w:Nat) Q' H'->te (some (.int (0+(i:Int)))::ES cap σ) H' Q')
  (q:∀ (ts:List Addr) (H':Hp) (l:Addr),ts.length=m->Same H H'->(∀ k t,ts[k]? =some t->H' t=some (.tup [.int (B k),.int (k % w:Nat)]))->H' l=some (.lst (ts.map V.ref))->Q (.ref l) H'):HG (GP 0 m) (AO 0) DL te 1 cap σ H Q:=by
 refine MU (CS m (by omega)) (λi ys H'=>Same H H'/\∃ ts:List Addr,ys=ts.map V.ref/\ts.length=i/\∀ k t,ts[k]? =some t->H' t=some (.tup [.int (B k),.int (k % w:Nat)])) ⟨Same.refl _,[],rfl,rfl,λk t h=>by simp at h⟩ (λi ys H' hi hl hzz=> ?_) λys H' hl ⟨s,ts,e,el,h⟩ l hl'=> ?_
 ·obtain⟨s,ts,e,el,h⟩:=hzz
  refine ht i H' _ hi s λt htn=> ?_
  have st:=AQ (o:=.tup [.int (B i),.int (i % w:Nat)]) htn
  refine⟨s.trans st,ts++[t],by rw[e,List.map_append];rfl,by simp[el],λk t' hk=> ?_⟩
  rcases Nat.lt_or_ge k ts.length with z | z
  ·rw[List.getElem?_append_left z]at hk
   exact st _ _ (h k t' hk)
  ·rw[List.getElem?_append_right z]at hk
   have hk0:k - ts.length=0:=by
    rcases Nat.eq_zero_or_pos (k - ts.length)with z | z
    ·exact z
    ·rw[List.getElem?_eq_none (by simp;omega)]at hk;cases hk
   rw[hk0]at hk
   cases hk
   have:k=i:=by omega
   subst this
   exact AF
 ·subst e
  have st:=AQ (o:=.lst (ts.map V.ref)) hl'
  exact q ts _ l (by simpa using hl) (s.trans st) (λk t hk=>st _ _ (h k t hk)) AF
theorem oI{rows:List (List V)}{w i j:Nat}(hw:∀ r∈rows,r.length=w)(hi:i<rows.length)(hj:j<w)(cs:List Ch):∃ v,D9 cs rows i j=some v:=by
 unfold D9
 cases e:DZ cs i j with
 | some k =>
  have:=O1 e
  exact⟨_,by show(cs[k]?).map _=_;rw[List.getElem?_eq_getElem this];rfl⟩
 | none =>
  have er:=List.getElem?_eq_getElem hi
  have hl:=hw _ (List.mem_of_getElem? er)
  exact⟨rows[i][j],by show(rows[(i:Int).toNat]?).bind (λr=>r[(j:Int).toNat]?)=_;rw[Int.toNat_natCast,Int.toNat_natCast,er];exact List.getElem?_eq_getElem (by omega)⟩
theorem Tv{n r c w kind k:Nat}(hk:kind<3)(h:k<AX n r c w kind):A0 n r c w kind k<n+r+c+r+c:=by
 unfold AX at h
 unfold A0
 have hd:k / w<(if kind=0 then n else if kind=1 then r else if kind=2 then c else if kind=3 then r else c):=Nat.div_lt_of_lt_mul (by rw[Nat.mul_comm];exact h)
 rcases(by omega:kind=0\/kind=1\/kind=2)with z | z | z<;>subst z<;>simp at hd ⊢ <;>omega
theorem oJ{n r c w kind k:Nat}(h:k<AX n r c w kind):1<=w:=by
 unfold AX at h
 rcases Nat.eq_zero_or_pos w with z | z
 ·rw[z,Nat.mul_zero]at h;omega
 ·exact z
theorem QY{n r c w kind:Nat}(h1:n<=6)(h2:r<=6)(h3:c<=6)(h4:w<=6):AX n r c w kind<=36:=by
 unfold AX
 have h:(if kind=0 then n else if kind=1 then r else if kind=2 then c else if kind=3 then r else c)<=6:=by
  split<;>(try split)<;>(try split)<;>(try split)<;>omega
 exact Nat.mul_le_mul h h4
def LT(kind:Nat):List V:=if kind=0 then [.non]else [.non,.int 0]
theorem Tw(kind:Nat)(v:V):decide (v∈LT kind)=IH kind v:=by
 unfold LT IH
 by_cases h:kind=0
 ·subst h;simp
 ·rw[if_neg h];simp[Nat.pos_of_ne_zero h]
theorem WS{kind:Nat}{A:BA}{n r c w:Nat}{rows:List (List V)}{nn:Nat}{cs:List Ch}{outs:Int->Bool}{ts:List Addr}{l:Addr}{H':Hp}(hk:kind<3)(T:TB K a)(TP:D6 K a)(s:Same H H')(B:D8 a H A w rows nn cs outs)(hM:rows.length=n+r+c+r+c)(h1:n<=6)(h2:r<=6)(h3:c<=6)(h4:w<=6)
  (gh:∀ i j v,D9 cs rows i j=some v->GoodV 4 H v) (hts:ts.length=AX n r c w kind) (ht:∀ k t,ts[k]? =some t->H' t=some (.tup [.int (A0 n r c w kind k:Nat),.int (k % w:Nat)])) (el:H' l=some (.lst (ts.map V.ref)))
  (q:∀ k:Nat,EF (JO cs rows n r c w kind) (AX n r c w kind)=k->∀ H',Same H H'->Q (.int k) H') (qe:EF (JO cs rows n r c w kind) (AX n r c w kind)= -1->∀ H',Same H H'->E (.ref (a "NoRoom")) none H') :
  ∀ u,H' u=none->II K a [.ref A.b,.ref l,.ref u] (upd H' u (.tup (LT kind))) Q E:=λu hu=>by
 have su:=AQ (o:=.tup (LT kind)) hu
 have s2:=s.trans su
 refine⟨A,w,rows,nn,cs,outs,l,u,ts,LT kind,JO cs rows n r c w kind,AX n r c w kind,rfl,T,TP,B.same s2,su _ _ el,hts,by have:=QY (kind:=kind) h1 h2 h3 h4;omega,AF,λz hz=> ?_,λk t hkt=> ?_,λk hk' H3 s3=>q k hk' H3 (s2.trans s3),λhk' H3 s3=>qe hk' H3 (s2.trans s3)⟩
 ·unfold LT at hz
  split at hz<;>simp at hz
  ·exact .inl hz
  ·rcases hz with z | z
   ·exact .inl z
   ·exact .inr ⟨0,z⟩
 ·have BI:k<AX n r c w kind:=by have:=(List.getElem?_eq_some_iff.mp hkt).1;omega
  have hb:=Tv hk BI
  have hw:=oJ BI
  have hj:k % w<w:=Nat.mod_lt _ (by omega)
  obtain⟨v,ev⟩:=oI (λr' hr'=>B.pk.wd r' hr') (show A0 n r c w kind k<rows.length by omega) hj cs
  refine⟨_,_,v,su _ _ (ht k t hkt),⟨by omega,by omega,by omega,by omega⟩,ev,(gh _ _ _ ev).keep s2.tk,?_⟩
  unfold JO
  rw[ev,Tw]
theorem Tx(h:LH K a vs H Q E):V4 K a (λ_=>E) (BB Q) (A8 ["layout","hold","places"] vs) H:=by
 obtain⟨p,b,rfl,A,n,r,c,w,rows,nn,cs,outs,rfl,T,TP,TL,L,h1,h2,h3,h4,B,hM,gh,q,qe⟩:=h
 obtain⟨dx,e⟩:=L.ob
 push_cast[V4,↓Jy,↓Jz]
 refine⟨_,_,e,BX (by decide +kernel),p,n,r,c,w,rfl,TL,L,λt ht=> ?_⟩
 have s1:=AQ (o:=.tup [V.int ((n:Int) * w),V.int ((r:Int) * w),V.int ((c:Int) * w)]) ht
 refine CT AF (n:=0) rfl rfl ?_
 revert s1
 generalize upd H t (.tup [V.int ((n:Int) * w),V.int ((r:Int) * w),V.int ((c:Int) * w)])=H1
 intro s1
 have hk:=QY (kind:=0) h1 h2 h3 h4
 have em:(n:Int) * w=(AX n r c w 0:Nat):=by unfold AX;simp
 rw[em]
 push_cast[]
 refine⟨by omega,by omega,WR (B:=λk=>(A0 n r c w 0 k:Nat)) (w:=w) (by omega) (λi H' Q' hi s' q'=> ?_) λts H' l hts s' htt el=> ?_⟩
 ·push_cast[ES]
  refine⟨_,_,s' _ _ (s1 _ _ e),BX (by decide +kernel),p,n,r,c,w,i,(by simp),TL,(L.same s1).same s',?_⟩
  unfold A0 at q'
  simpa using q'
 ·push_cast[]
  exact⟨by decide,WS (kind:=0) (by decide) T TP (s1.trans s') B hM h1 h2 h3 h4 gh hts htt el q qe⟩
theorem Ty(h:PY K a vs H Q E):V5 K a (λ_=>E) (BB Q) (A8 ["layout","hold","marks"] vs) H:=by
 obtain⟨p,b,rfl,A,n,r,c,w,rows,nn,cs,outs,rfl,T,TP,TL,L,h1,h2,h3,h4,B,hM,gh,q,qe⟩:=h
 obtain⟨dx,e⟩:=L.ob
 push_cast[V5,↓Kb,↓Kc]
 refine⟨_,_,e,BX (by decide +kernel),p,n,r,c,w,rfl,TL,L,λt ht=> ?_⟩
 have s1:=AQ (o:=.tup [V.int ((n:Int) * w),V.int ((r:Int) * w),V.int ((c:Int) * w)]) ht
 refine CT AF (n:=1) rfl rfl ?_
 revert s1
 generalize upd H t (.tup [V.int ((n:Int) * w),V.int ((r:Int) * w),V.int ((c:Int) * w)])=H1
 intro s1
 have hk:=QY (kind:=1) h1 h2 h3 h4
 have em:(r:Int) * w=(AX n r c w 1:Nat):=by unfold AX;simp
 rw[em]
 push_cast[]
 refine⟨by omega,by omega,WR (B:=λk=>(A0 n r c w 1 k:Nat)) (w:=w) (by omega) (λi H' Q' hi s' q'=> ?_) λts H' l hts s' htt el=> ?_⟩
 ·push_cast[ES]
  refine⟨_,_,s' _ _ (s1 _ _ e),BX (by decide +kernel),p,n,r,c,w,i,(by simp),TL,(L.same s1).same s',?_⟩
  unfold A0 at q'
  simpa using q'
 ·push_cast[]
  exact⟨by decide,WS (kind:=1) (by decide) T TP (s1.trans s') B hM h1 h2 h3 h4 gh hts htt el q qe⟩
theorem Tz(h:PZ K a vs H Q E):V6 K a (λ_=>E) (BB Q) (A8 ["layout","hold","marks"] vs) H:=by
 obtain⟨p,b,rfl,A,n,r,c,w,rows,nn,cs,outs,rfl,T,TP,TL,L,h1,h2,h3,h4,B,hM,gh,q,qe⟩:=h
 obtain⟨dx,e⟩:=L.ob
 push_cast[V6,↓Kd,↓Kg]
 refine⟨_,_,e,BX (by decide +kernel),p,n,r,c,w,rfl,TL,L,λt ht=> ?_⟩
 have s1:=AQ (o:=.tup [V.int ((n:Int) * w),V.int ((r:Int) * w),V.int ((c:Int) * w)]) ht
 refine CT AF (n:=2) rfl rfl ?_
 revert s1
 generalize upd H t (.tup [V.int ((n:Int) * w),V.int ((r:Int) * w),V.int ((c:Int) * w)])=H1
 intro s1
 have hk:=QY (kind:=2) h1 h2 h3 h4
 have em:(c:Int) * w=(AX n r c w 2:Nat):=by unfold AX;simp
 rw[em]
 push_cast[]
 refine⟨by omega,by omega,WR (B:=λk=>(A0 n r c w 2 k:Nat)) (w:=w) (by omega) (λi H' Q' hi s' q'=> ?_) λts H' l hts s' htt el=> ?_⟩
 ·push_cast[ES]
  refine⟨_,_,s' _ _ (s1 _ _ e),BX (by decide +kernel),p,n,r,c,w,i,(by simp),TL,(L.same s1).same s',?_⟩
  unfold A0 at q'
  simpa using q'
 ·push_cast[]
  exact⟨by decide,WS (kind:=2) (by decide) T TP (s1.trans s') B hM h1 h2 h3 h4 gh hts htt el q qe⟩
theorem Ub{cs:List Ch}{rows:List (List V)}(g:goodH H cs rows){i j:Int}{v:V}(h:D9 cs rows i j=some v):GoodV 4 H v:=by
 unfold D9 at h
 cases e:DZ cs i j with
 | some k =>
  rw[e]at h
  have h:(cs[k]?).map (·.val)=some v:=h
  cases ec:cs[k]? with
  | none=>rw[ec]at h;cases h
  | some c =>
   rw[ec]at h
   cases h
   exact g.2 c (List.mem_of_getElem? ec)
 | none =>
  rw[e]at h
  have h:(rows[i.toNat]?).bind (λr=>r[j.toNat]?)=some v:=h
  cases er:rows[i.toNat]? with
  | none=>rw[er]at h;cases h
  | some r =>
   rw[er]at h
   exact g.1 r (List.mem_of_getElem? er) v (List.mem_of_getElem? h)
theorem goodH.keep{H H':Hp}{cs:List Ch}{rows:List (List V)}(g:goodH H cs rows)(k:EK H H'):goodH H' cs rows:=⟨λr hr v hv=>(g.1 r hr v hv).keep k,λc hc=>(g.2 c hc).keep k⟩
theorem Uc{cs:List Ch}{rows:List (List V)}{i j:Int}{bi bj:Nat}{v:V}{nd:List Int}:D9 (cs++[⟨bi,bj,v,nd⟩]) rows i j=if(bi:Int)=i/\(bj:Int)=j then some v else D9 cs rows i j:=by
 unfold D9
 rw[TJ]
 by_cases h:(bi:Int)=i/\(bj:Int)=j
 ·rw[if_pos h,if_pos h]
  simp
 ·rw[if_neg h,if_neg h]
  cases e:DZ cs i j with
  | none=>rfl
  | some k =>
   show((cs++[_])[k]?).map _=(cs[k]?).map _
   rw[List.getElem?_append_left (O1 e)]
theorem KJ{G:Addr->Prop}{H H':Hp}(s:SameBut G H H')(g:∀ x,G x->E3 (H x)):EK H H':=λb xs e=>s _ _ e λz=>(g _ z).1 _ e
theorem oK{z:Str}{i:Int}{n:Nat}{c:Nat}{Q:VK}(hi:i=n)(hL:z.cps.toList.length<=1000)(hc:z.cps.toList[n]? =some c)(q:Q (.str ⟨#[c]⟩) H):CQ K (.str z) (.int i) H Q:=by
 subst hi
 exact .inr (.inr ⟨z,n,c,rfl,rfl,Nat.le_trans (by simpa [Str.length]using hL) (CS _ (by omega)),N9 hc,q⟩)
theorem Ud{c:Nat}:[c]<(Str.ofString " ").cps.toList↔c<32:=by
 rw[show(Str.ofString " ").cps.toList=[32] by decide +kernel,List.cons_lt_cons_iff]
 simp
theorem Ug{c:Nat}:(Str.ofString "~").cps.toList<[c]↔126<c:=by
 rw[show(Str.ofString "~").cps.toList=[126] by decide +kernel,List.cons_lt_cons_iff]
 simp
theorem Uh{c:Nat}:[c]<(Str.ofString "a").cps.toList↔c<97:=by
 rw[show(Str.ofString "a").cps.toList=[97] by decide +kernel,List.cons_lt_cons_iff]
 simp
theorem Uj{c:Nat}:(Str.ofString "z").cps.toList<[c]↔122<c:=by
 rw[show(Str.ofString "z").cps.toList=[122] by decide +kernel,List.cons_lt_cons_iff]
 simp
theorem Uk(h:P0 K a vs H Q E):UK K a (λ_=>E) (BB Q) (A8 ["sign"] vs) H:=by
 obtain⟨c,rfl,q⟩:=h
 push_cast[UK,↓Ay,Ud,Ug]
 unfold T2 at q
 split
 ·rename_i h1
  split
  ·rename_i h2
   rw[show decide (32<=c)=true from decide_eq_true (by omega),show decide (c<=126)=true from decide_eq_true (by omega)]at q
   refine⟨rfl,?_⟩
   have e:(!decide (((#[c].getD 0 0:Nat):Int)=37))=decide (c≠37):=by
    rw[show(#[c]:Array Nat).getD 0 0=c from rfl,<-decide_not]
    exact decide_eq_decide.mpr (by omega)
   rw[e]
   simpa using q
  ·rename_i h2
   rw[show decide (c<=126)=false from decide_eq_false (by omega)]at q
   simpa using q
 ·rename_i h1
  rw[show decide (32<=c)=false from decide_eq_false (by omega)]at q
  simpa using q
theorem oM{z:Str}{f:Nat->Bool}{te:TE}{Q:VK}(hz:z.length<=1000)(ht:∀ c (Q':VK),Q' (.bl (f c)) H->te [some (.str ⟨#[c]⟩)] H Q')(q:∀ H',Same H H'->Q (.bl (z.cps.toList.all f)) H') :
  HG (MV z) (AO 0) DL te 1 [] [some (.str z)] H λx H1=>MW K [x] H1 Q:=by
 have hs:z.cps.size=z.length:=rfl
 refine xK (CS _ (by omega)) (λi ys H'=>H'=H/\ys=(z.cps.toList.take i).map λc=>V.bl (f c)) ⟨rfl,by simp⟩ (λi c ys H' hc hl ⟨e1,e2⟩=> ?_) (λys H' hl ⟨e1,e2⟩ p hp=> ?_)
 ·subst e1
  refine ht c _ ⟨rfl,?_⟩
  have hc':z.cps.toList[i]? =some c:=by simpa using hc
  rw[List.take_add_one,hc',e2]
  simp
 ·subst e1
  have e3:ys=(z.cps.toList.map f).map V.bl:=by
   rw[e2,List.map_map,List.take_of_length_le (by simp)];rfl
  refine⟨p,z.cps.toList.map f,rfl,by rw[<-e3];exact SqL.of AF,?_⟩
  have:=q _ (AQ (o:=.lst ys) hp)
  rw[List.all_map]
  exact this
theorem Ul(h:P4 K a vs H Q E):UL K a (λ_=>E) (BB Q) (A8 ["thing"] vs) H:=by
 obtain⟨z,rfl,hz,q⟩:=h
 push_cast[UL,↓Az]
 unfold BM at q
 refine⟨z.length,⟨CS _ (by omega),rfl⟩,?_⟩
 split
 ·rename_i h1
  rw[show decide (1<=z.length)=true from decide_eq_true (by omega),Bool.true_and]at q
  by_cases h2:z.length<=8
  ·rw[show decide (z.length<=8)=true from decide_eq_true h2,Bool.true_and]at q
   rw[if_pos (by omega)]
   refine oM hz (λc Q' q'=> ?_) q
   push_cast[Uh,Uj]
   unfold M6 at q'
   split
   ·rename_i h3
    rw[show decide (97<=c)=true from decide_eq_true (by omega),Bool.true_and]at q'
    rw[show(!decide (122<c))=decide (c<=122) by rw[<-decide_not];exact decide_eq_decide.mpr (by omega)]
    exact q'
   ·rename_i h3
    rw[show decide (97<=c)=false from decide_eq_false (by omega),Bool.false_and]at q'
    exact q'
  ·rw[show decide (z.length<=8)=false from decide_eq_false h2,Bool.false_and]at q
   rw[if_neg (by omega)]
   exact q _ (Same.refl _)
 ·rename_i h1
  rw[show decide (1<=z.length)=false from decide_eq_false (by omega),Bool.false_and,Bool.false_and]at q
  exact q _ (Same.refl _)
theorem Um(h:P5 K a vs H Q E):VF K a (λ_=>E) (BB Q) (A8 ["thing"] vs) H:=by
 obtain⟨z,rfl,hz,q⟩:=h
 push_cast[VF,↓Eb]
 unfold LI at q
 refine⟨z.length,⟨CS _ (by omega),rfl⟩,?_⟩
 split
 ·rename_i h1
  rw[show decide (1<=z.length)=true from decide_eq_true (by omega),Bool.true_and]at q
  by_cases h2:z.length<=40
  ·rw[show decide (z.length<=40)=true from decide_eq_true h2,Bool.true_and]at q
   rw[if_pos (by omega)]
   refine oM hz (λc Q' q'=> ?_) q
   push_cast[]
   exact⟨c,rfl,q'⟩
  ·rw[show decide (z.length<=40)=false from decide_eq_false h2,Bool.false_and]at q
   rw[if_neg (by omega)]
   exact q _ (Same.refl _)
 ·rename_i h1
  rw[show decide (1<=z.length)=false from decide_eq_false (by omega),Bool.false_and,Bool.false_and]at q
  exact q _ (Same.refl _)
theorem oN(x y:Str):(x++y).length=x.length+y.length:=PySem.strLen_append x y
theorem WT(x:Int){n:Nat}(h:1<=n):∃ b:Nat,x % (n:Int)=b/\b<n :=
  ⟨(x % (n:Int)).toNat,by have:=Int.emod_nonneg x (show(n:Int)≠0 by omega);omega,by
    have:=Int.emod_lt_of_pos x (show(0:Int)<n by omega)
    have:=Int.emod_nonneg x (show(n:Int)≠0 by omega);omega⟩
theorem Up{z:Str}{i:Int}{n:Nat}{Q:VK}(hi:i=n)(hn:n<z.length)(hz:z.length<=1000)(q:∀ c,Q (.str ⟨#[c]⟩) H):CQ K (.str z) (.int i) H Q:=by
 subst hi
 have hn':n<z.cps.toList.length:=by simpa [Str.length]using hn
 exact .inr (.inr ⟨z,n,z.cps.toList[n],rfl,rfl,CS _ (by omega),N9 (List.getElem?_eq_getElem hn'),q _⟩)
section
variable{lp b tk:Addr}
theorem G2:(sf lp b tk).lookup ("plan":Str)=some (V.ref lp):=by simp[sf]
theorem HK:(sf lp b tk).lookup ("book":Str)=some (V.ref b):=by
 simp[sf,List.lookup_cons,CI (a:="book") (b:="plan") (by decide +kernel)]
theorem WU:(sf lp b tk).lookup ("taken_out":Str)=some (V.ref tk):=by
 simp[sf,List.lookup_cons,CI (a:="taken_out") (b:="plan") (by decide +kernel),CI (a:="taken_out") (b:="book") (by decide +kernel)]
theorem CA{x:Str}(h:(FC x "plan" || FC x "book" || FC x "taken_out")=false):(sf lp b tk).lookup x=none:=by
 simp only[Bool.or_eq_false_iff]at h
 obtain⟨⟨h1,h2⟩,h3⟩:=h
 simp[sf,List.lookup_cons,CI h1,CI h2,CI h3]
theorem Uq:A7 "taken_out" (.ref tk) (A7 "book" (.ref b) (A7 "plan" (.ref lp) []))=sf lp b tk:=by
 repeat (first | rw[LC] | rw[LB (by decide +kernel)])
 rfl
end
theorem Uv{w k k':Nat}(h1:k / w=k' / w)(h2:k % w=k' % w):k=k':=by
 rw[<-Nat.div_add_mod k w,<-Nat.div_add_mod k' w,h1,h2]
theorem Uw{f:Nat->Bool}{m k:Nat}(h:EF f m=k):k<m:=by
 unfold EF at h
 cases e:(List.range m).find? f with
 | none=>rw[e]at h;simp at h
 | some k' =>
  rw[e]at h
  have:=List.mem_range.mp (List.mem_of_find?_eq_some e)
  simp at h
  omega
theorem oO{z:Str}(h:BM z=true):PyData.strOk z=true:=by
 unfold BM at h
 rw[Bool.and_eq_true]at h
 have h:=h.2
 unfold PyData.strOk
 rw[<-Array.all_toList]
 rw[List.all_eq_true]at h ⊢
 intro c hc
 have:=h c hc
 simp only[M6,Bool.and_eq_true,decide_eq_true_eq]at this ⊢
 omega
theorem RepC.keep{H H':Hp}(k:EK H H'):∀ {x:CV} {v:V},RepC H x v->RepC H' x v
 | .no,_,h=>h
 | .nm _ _,_,⟨t,e,et⟩=>⟨t,e,k _ _ et⟩
 | .mk _,_,h=>h
 | .rc _ _,_,⟨t,u,e,et,eu⟩=>⟨t,u,e,k _ _ et,k _ _ eu⟩
 | .tx _,_,h=>h
theorem LaidA.keep{n r c w:Nat}{H H':Hp}{cs:List Ch}{as:List AC}(k:EK H H')(h:LaidA n r c w H cs as):LaidA n r c w H' cs as:=by
 induction h with
 | nil=>exact .nil
 | snoc _ e1 e2 e3 e4 e5 e6 ih=>exact ih.snoc e1 e2 (e3.keep k) e4 e5 e6
theorem SM.same{H H':Hp}{S:SA}{n r c w:Nat}{rows:List (List V)}{nn:Nat}{cs:List Ch}{outs:Int->Bool}{tks:List (AM × V)}{M:Hs}(I:SM a H S n r c w rows nn cs outs tks M)(s:Same H H'):SM a H' S n r c w rows nn cs outs tks M:=by
 obtain⟨⟨dx,e1⟩,e2,e3,e4,e5,e6,e7,e8,e9,e10,e11,e12⟩:=I
 exact⟨⟨dx,s _ _ e1⟩,e2.same s,e3.same s,s _ _ e4,e5,e6,e7,e8,e9.keep s.tk,λkind k v h1 h2 hv=>(e10 kind k v h1 h2 hv).keep s.tk,e11,e12.keep s.tk⟩
theorem BookAt.ins1{C:Addr}{H H':Hp}{A:BA}{w:Nat}{rows:List (List V)}{n:Nat}{cs:List Ch}{outs:Int->Bool}{x C' dx:Addr}{fs:List (Str × V)}(B:BookAt a C H A w rows n cs outs)(s:SameBut (· =x) H H')(hx:H x=some (.ins C' dx fs))(hf:fs.length<=2):BookAt a C H' A w rows n cs outs:=by
 obtain⟨⟨⟨d1,e1⟩,⟨chs,e2,e3⟩,e4,e5,e6,⟨AD,e7,e8⟩,⟨CZ,e9,e10⟩,r1,r2,r3,r4,r5⟩,⟨⟨d2,f1⟩,⟨ts,f2,f3⟩,f4,f5,f6⟩,nb⟩:=B
 have o:∀ {y:Addr} {o:HO},H y=some o->(∀ C'' d'' ,o≠.ins C'' d'' fs)->H' y=some o:=λe h=>s _ _ e (BH e hx (h _ _))
 have oi:∀ {y:Addr} {C'' d'':Addr} {gs:List (Str × V)},H y=some (.ins C'' d'' gs)->2<gs.length->H' y=some (.ins C'' d'' gs):=λe h=>o e λ_ _ z=>by injection z with _ _ z;rw[z]at h;omega
 have ol:∀ {y:Addr} {o':HO},H y=some o'->(∀ C'' d'' gs,o'≠.ins C'' d'' gs)->H' y=some o':=λe h=>o e λ_ _=>h _ _ _
 exact⟨⟨⟨d1,oi e1 (by simp[bf])⟩,⟨chs,ol e2 (by intros;simp),Paired.mapP e3 λy c ⟨d,pl,nt,g1,g2,g3⟩=>⟨d,pl,nt,oi g1 (by simp[FB]),ol g2 (by intros;simp),ol g3 (by intros;simp)⟩⟩,ol e4 (by intros;simp),λi l h=>ol (e5 i l h) (by intros;simp),e6,⟨AD,ol e7 (by intros;simp),e8⟩,⟨CZ,ol e9 (by intros;simp),e10⟩,r1,r2,r3,r4,r5⟩,⟨⟨d2,oi f1 (by simp[pf])⟩,⟨ts,ol f2 (by intros;simp),Paired.mapP f3 λt r z=>ol z (by intros;simp)⟩,f4,f5,f6⟩,nb⟩
theorem Ux(h:P8 K a vs H Q E):VW K a (λ_=>E) (BB Q) (A8 ["self","layout","plank"] vs) H:=by
 obtain⟨x,dx,lp,gp,cl,n,r,c,w,rows,nn,M,rfl,⟨T,TP,TL,TS⟩,hx,L,P,sz,g,hrp,hok,q⟩:=h
 push_cast[VW,↓Gz,↓Hb,↓Hc]
 refine⟨_,_,_,hx,TS.cl,TS.n1,by decide,?_⟩
 have e1:upd H x (.ins (a "Store") dx (A7 "plan" (.ref lp) [])) x=some (.ins (a "Store") dx (A7 "plan" (.ref lp) [])):=AF
 have s1:SameBut (· =x) H (upd H x (.ins (a "Store") dx (A7 "plan" (.ref lp) []))):=λy o e n=>by rw[AH n];exact e
 revert e1 s1
 generalize upd H x (.ins (a "Store") dx (A7 "plan" (.ref lp) []))=H1
 intro e1 s1
 have P1:PlankAt a H1 gp cl w rows nn:=by
  obtain⟨⟨dx',f1⟩,⟨ts,f2,f3⟩,r1,r2,r3⟩:=P
  exact⟨⟨dx',s1 _ _ f1 (BH f1 hx (LA (by simp[pf])))⟩,⟨ts,s1 _ _ f2 (BH f2 hx (by intro z;cases z)),Paired.mapP f3 λt r z=>s1 _ _ z (BH z hx (by intro z;cases z))⟩,r1,r2,r3⟩
 have ncl:cl≠x:=by obtain⟨ts,z,_⟩:=P.ls;exact BH z hx (by intro z;cases z)
 refine Sg T TP P1 λA H2 eg ec off B s2=> ?_
 have hx2:=s2 _ _ e1
 refine⟨_,_,_,hx2,TS.cl,TS.n2,E5 (n:=999) (by decide),λp hp=> ?_⟩
 have np:x≠p:=BL AF hp
 rw[AH np.symm]at hp
 refine⟨_,_,_,by rw[AH np,AF],TS.cl,TS.n3,E5 (n:=999) (E5 (n:=998) (by decide)),?_⟩
 rw[Uq]
 have s3:SameBut (· =x) H2 (upd (upd (upd H2 x (.ins (a "Store") dx (A7 "book" (.ref A.b) (A7 "plan" (.ref lp) [])))) p (.dK [])) x (.ins (a "Store") dx (sf lp A.b p))):=λy o e n=>by
  rw[AH n,AH (BL e hp),AH n];exact e
 have e3:upd (upd (upd H2 x (.ins (a "Store") dx (A7 "book" (.ref A.b) (A7 "plan" (.ref lp) [])))) p (.dK [])) x (.ins (a "Store") dx (sf lp A.b p)) x=some (.ins (a "Store") dx (sf lp A.b p)):=AF
 have p3:upd (upd (upd H2 x (.ins (a "Store") dx (A7 "book" (.ref A.b) (A7 "plan" (.ref lp) [])))) p (.dK [])) x (.ins (a "Store") dx (sf lp A.b p)) p=some (.dK []):=by rw[AH np.symm,AF]
 revert s3 e3 p3
 generalize upd (upd (upd H2 x (.ins (a "Store") dx (A7 "book" (.ref A.b) (A7 "plan" (.ref lp) [])))) p (.dK [])) x (.ins (a "Store") dx (sf lp A.b p))=H3
 intro s3 e3 p3
 have B3:=B.ins1 s3 hx2 (Nat.le_trans (MJ _ _ _) (by simp))
 have sb:SameBut (· =x) H H3:=(s1.trans (Same.sb s2)).trans s3
 have tk:EK H H3:=λb xs e=>sb _ _ e (BH e hx (by intro z;cases z))
 have hpH:H p=none:=s1.none (by rw[e1];intro z;cases z) (s2.free hp)
 obtain⟨dl,el⟩:=L.ob
 refine q ⟨A,x,lp,p⟩ H3 rfl rfl eg ec (λy o e=> ?_) hpH ⟨⟨dx,e3⟩,L.sb sb (BH el hx (LA (by simp[lf]))),B3,p3,Nat.le_refl _,λz v h=>by simp[BK]at h,B.off hp,sz,⟨λr hr v hv=>(g r hr v hv).keep tk,λc hc=>by cases hc⟩,λkind k v h1 h2 hv=>(hrp kind k v h1 h2 hv).keep tk,hok,.nil⟩ sb
 by_cases hy:y=x
 ·subst hy
  exact(off _ _ e1).imp id id
 ·exact off y o (s1 _ _ e hy)
section
variable{X:SX}{cs:List Ch}{tks:List (AM × V)}{M:Hs}
theorem WV{n r c w kind kind' k k':Nat}(h1:kind<5)(h2:kind'<5)(hk:k<AX n r c w kind)(hk':k'<AX n r c w kind')(e1:A0 n r c w kind k=A0 n r c w kind' k')(e2:k % w=k' % w):kind=kind'/\k=k':=by
 unfold AX at hk hk'
 unfold A0 at e1
 have d1:k / w<(if kind=0 then n else if kind=1 then r else if kind=2 then c else if kind=3 then r else c):=Nat.div_lt_of_lt_mul (by rw[Nat.mul_comm];exact hk)
 have d2:k' / w<(if kind'=0 then n else if kind'=1 then r else if kind'=2 then c else if kind'=3 then r else c):=Nat.div_lt_of_lt_mul (by rw[Nat.mul_comm];exact hk')
 have key:kind=kind'/\k / w=k' / w:=by
  generalize k / w=x at *
  generalize k' / w=y at *
  clear hk hk' e2
  rcases(by omega:kind=0\/kind=1\/kind=2\/kind=3\/kind=4)with z | z | z | z | z<;>rcases(by omega:kind'=0\/kind'=1\/kind'=2\/kind'=3\/kind'=4)with y | y | y | y | y<;>subst z<;>subst y<;>simp at d1 d2 e1 ⊢ <;>omega
 exact⟨key.1,Uv key.2 e2⟩
theorem LaidA.newest{n r c w:Nat}{H:Hp}{cs:List Ch}{as:List AC}(h:LaidA n r c w H cs as){kind k:Nat}(h1:kind<5)(hk:k<AX n r c w kind):DZ cs (A0 n r c w kind k:Nat) (k % w:Nat)=G0 kind k as/\cs.length=as.length:=by
 induction h with
 | nil=>exact⟨rfl,rfl⟩
 | @snoc cs as ch x _ e1 e2 e3 e4 e5 e6 ih =>
  refine⟨?_,by rw[List.length_append,ih.2];rfl⟩
  rw[TJ,ih.1,ih.2]
  show _=(if x.kind=kind/\x.k=k then some as.length else G0 kind k as)
  by_cases e:x.kind=kind/\x.k=k
  ·rw[if_pos e,if_pos ⟨by rw[e1,e.1,e.2],by rw[e2,e.2]⟩]
  ·rw[if_neg e,if_neg λz=>e (WV e5 h1 e6 hk (by have:=z.1;rw[e1]at this;omega) (by have:=z.2;rw[e2]at this;omega))]
theorem SM.on(I:X.at a H cs tks M){kind k:Nat}(h1:kind<5)(hk:k<AX X.n X.r X.c X.w kind):A0 X.n X.r X.c X.w kind k<X.rows.length/\k % X.w<X.w:=by
 refine⟨?_,Nat.mod_lt _ (by have:=oJ hk;omega)⟩
 rw[I.sz.2.2.2.2]
 unfold AX at hk
 unfold A0
 have hd:k / X.w<(if kind=0 then X.n else if kind=1 then X.r else if kind=2 then X.c else if kind=3 then X.r else X.c):=Nat.div_lt_of_lt_mul (by rw[Nat.mul_comm];exact hk)
 generalize k / X.w=x at *
 clear hk
 rcases(by omega:kind=0\/kind=1\/kind=2\/kind=3\/kind=4)with z | z | z | z | z<;>subst z<;>simp at hd ⊢ <;>omega
theorem SM.onPl(I:X.at a H cs tks M){kind k:Nat}(h1:kind<5)(hk:k<AX X.n X.r X.c X.w kind):onPl X.rows X.w (A0 X.n X.r X.c X.w kind k:Nat) (k % X.w:Nat):=by
 have:=I.on h1 hk
 exact⟨Int.natCast_nonneg _,by omega,Int.natCast_nonneg _,by omega⟩
theorem SM.val(I:X.at a H cs tks M){kind k:Nat}(h1:kind<5)(hk:k<AX X.n X.r X.c X.w kind):∃ v,D9 cs X.rows (A0 X.n X.r X.c X.w kind k:Nat) (k % X.w:Nat)=some v/\RepC H (M kind k) v:=by
 obtain⟨b1,b2⟩:=I.on h1 hk
 obtain⟨v,ev⟩:=oI (λr' hr'=>I.bk.pk.wd r' hr') b1 b2 cs
 exact⟨v,ev,I.rp kind k v h1 hk ev⟩
theorem SM.snoc{H':Hp}{kind k:Nat}{v:V}{x:CV}{nd:List Int}{nd':List Nat}(hd:∀ y:Int,y∈nd↔(∃ j∈nd',y=(j:Nat))\/d9 cs (A0 X.n X.r X.c X.w kind k:Nat) (k % X.w:Nat) y)(I:X.at a H cs tks M)(h1:kind<5)(hk:k<AX X.n X.r X.c X.w kind)(B:D8 a H' X.S.A X.w X.rows X.nn (cs++[⟨A0 X.n X.r X.c X.w kind k,k % X.w,v,nd⟩]) X.outs)(s:SameBut X.S.A.F H H')(g:GoodV 4 H' v)(rx:RepC H' x v)(ox:EA kind x):X.at a H' (cs++[⟨A0 X.n X.r X.c X.w kind k,k % X.w,v,nd⟩]) tks (M.put kind k x nd'):=by
 have lo:∀ x,X.S.A.F x->E3 (H x):=λx hx=>I.bk.loose hx
 have tk:EK H H':=KJ s lo
 obtain⟨⟨dx,e1⟩,e2,e3,e4,e5,e6,e7,e8,e9,e10,e11,e12⟩:=I
 obtain⟨dl,el⟩:=e2.ob
 refine⟨⟨dx,s _ _ e1 λz=>(lo _ z).2 _ _ _ e1⟩,e2.sb s λz=>(lo _ z).2 _ _ _ el,B,s _ _ e4 e7,by rw[List.length_append];omega,λz v h=> ?_,e7,e8,⟨(e9.keep tk).1,λc hc=> ?_⟩,λkind' k' v' h1' hk' hv=> ?_,λkind' k' h1' hk'=> ?_,(e12.keep tk).snoc rfl rfl rx (λy=>by rw[hd];unfold d9;rw[(e12.newest h1 hk).1]) h1 hk⟩
 ·obtain⟨k,ek,hk⟩:=e6 z v h
  exact⟨k,ek,by rw[List.length_append];omega⟩
 ·rcases List.mem_append.mp hc with y | y
  ·exact(e9.keep tk).2 c y
  ·rw[List.mem_singleton.mp y];exact g
 ·rw[Uc]at hv
  rw[Hs.put_at]
  by_cases hp:kind'=kind/\k'=k
  ·obtain⟨rfl,rfl⟩:=hp
   rw[if_pos ⟨rfl,rfl⟩]at hv ⊢
   cases hv
   exact rx
  ·rw[if_neg λy=>hp (by
    have:=WV h1 h1' hk hk' (by omega) (by omega)
    exact⟨this.1.symm,this.2.symm⟩)]at hv
   rw[if_neg hp]
   exact(e10 kind' k' v' h1' hk' hv).keep tk
 ·rw[Hs.put_at]
  split
  ·rename_i y
   rw[y.1];exact ox
  ·exact e11 kind' k' h1' hk'
theorem G3{kind k:Nat}{v:V}{x:CV}{u nl:Addr}{ns:List Int}(T4:C9 K a)(I:X.at a H cs tks M)(h1:kind<5)(hk:k<AX X.n X.r X.c X.w kind)(hu:H u=some (.tup [.int (A0 X.n X.r X.c X.w kind k:Nat),.int (k % X.w:Nat)]))(hn:H nl=some (.lst (ns.map V.int)))(hl:ns.length<=60)(hcs:cs.length<990)(kn:∀ x∈ns,known cs x)(g:GoodV 4 H v)(rx:RepC H x v)(ox:EA kind x)
  (q:∀ ch H',X.at a H' (cs++[ch]) tks (M.put kind k x (IJ ns))->SameBut X.S.A.F H H'->Q (.int cs.length) H'):DV K a [.ref X.S.A.b,.ref u,v,.ref nl] H Q E:=by
 obtain⟨T,TP,TL,TS⟩:=T4
 refine⟨X.S.A,X.w,X.rows,X.nn,cs,X.outs,u,nl,v,ns,_,_,rfl,T,TP,I.bk,hu,SqL.of hn,hl,hcs,λ_ _ nd H5 pw mem B5 NR=> ?_,λy=>absurd (I.onPl h1 hk) y,λ_ ⟨x,hx,hk⟩=>absurd (kn x hx) hk⟩
 rw[Int.toNat_natCast,Int.toNat_natCast]at B5
 have tk:=KJ NR λx hx=>I.bk.loose hx
 refine q _ H5 (I.snoc (λy=> ?_) h1 hk B5 NR (g.keep tk) (rx.keep tk) ox) NR
 rw[mem]
 refine or_congr ⟨λh=>⟨y.toNat,List.mem_map.mpr ⟨y,h,rfl⟩,by have:=(kn y h).1;omega⟩,λhzz=> ?_⟩ Iff.rfl
 obtain⟨j,hj,e⟩:=hzz
 obtain⟨x,hx,rfl⟩:=List.mem_map.mp hj
 have:=(kn x hx).1
 rw[show y=x by omega]
 exact hx
end
def NmV(H:Hp)(v:V):Option (Str × Nat)->Prop
 | none=>v=.non
 | some (z,k)=>∃ t,v=.ref t/\H t=some (.tup [.str z,.int k])
theorem NmV.keep{H H':Hp}{v:V}{x:Option (Str × Nat)}(h:NmV H v x)(k:EK H H'):NmV H' v x:=by
 cases x with
 | none=>exact h
 | some p=>obtain⟨t,e,et⟩:=h;exact⟨t,e,k _ _ et⟩
theorem RepC.nmv{M:Hs}{k:Nat}{v:V}(h:RepC H (M 0 k) v)(ok:EA 0 (M 0 k)):NmV H v (F3 M k):=by
 unfold F3
 cases e:M 0 k with
 | no=>rw[e]at h;exact h
 | nm z r=>rw[e]at h;exact h
 | mk i=>rw[e]at ok;exact ok.elim
 | rc m ps=>rw[e]at ok;exact ok.elim
 | tx z=>rw[e]at ok;exact ok.elim
theorem Uy(h:LJ K a vs H Q E):V0 K a (λ_=>E) (BB Q) (A8 ["self"] vs) H:=by
 obtain⟨X,cs,tks,M,rfl,⟨T,TP,TL,TS⟩,I,q⟩:=h
 obtain⟨S,n,r,c,w,rows,nn,outs⟩:=X
 dsimp only at *
 have I0:(SX.mk S n r c w rows nn outs).at a H cs tks M:=I
 obtain⟨dx,ho⟩:=I.ob
 obtain⟨dl,el⟩:=I.ly.ob
 obtain⟨db,eb⟩:=I.bk.bk.ob
 have hz:=I.sz
 have hkm:n * w<=36:=Nat.mul_le_mul hz.1 hz.2.2.2.1
 push_cast[V0,↓Jm]
 refine⟨_,_,_,ho,TS.cl,TS.n1,_,G2,S.lp,rfl,_,_,el,BX (by decide +kernel),S.lp,n,r,c,w,rfl,TL,I.ly,λt ht=> ?_⟩
 have s1:=AQ (o:=.tup [V.int ((n:Int) * w),V.int ((r:Int) * w),V.int ((c:Int) * w)]) ht
 refine CT AF (n:=0) rfl rfl ?_
 revert s1
 generalize upd H t (.tup [V.int ((n:Int) * w),V.int ((r:Int) * w),V.int ((c:Int) * w)])=H1
 intro s1
 have em:(n:Int) * w=(n * w:Nat):=by simp
 rw[em]
 push_cast[]
 refine⟨by omega,by omega,MU (CS _ (by omega)) (λi ys H'=>Same H H'/\ys.length=i/\∀ k v,ys[k]? =some v->D9 cs rows (A0 n r c w 0 k:Nat) (k % w:Nat)=some v) ⟨s1,rfl,λk v h=>by simp at h⟩ (λi ys H' hi hl hzz=> ?_) (λys H' hl ⟨s,_,al⟩ p hp=> ?_)⟩
 ·obtain⟨s,_,al⟩:=hzz
  push_cast[ES]
  refine⟨_,_,_,s _ _ ho,TS.cl,TS.n2,_,HK,S.A.b,rfl,_,_,s _ _ eb,DT (by decide +kernel),_,_,_,s _ _ ho,TS.cl,TS.n1,_,G2,S.lp,rfl,_,_,s _ _ el,BX (by decide +kernel),S.lp,n,r,c,w,i,by simp,TL,I.ly.same s,λu hu=> ?_⟩
  have s2:=s.trans (AQ (o:=.tup [.int (0+(i:Int) / w),.int ((i:Int) % w)]) hu)
  have hm0:i<AX n r c w 0:=by simpa [AX]using hi
  refine⟨S.A,w,rows,nn,cs,outs,u,(A0 n r c w 0 i:Nat),(i % w:Nat),rfl,T,TP,I.bk.same s2,by rw[AF];simp[A0],λ_ v H3 ev s3=>⟨s2.trans s3,by simp[hl],λk v' hk=> ?_⟩,λz=>absurd (SM.onPl I0 (kind:=0) (by decide) hm0) z⟩
  rcases Nat.lt_or_ge k ys.length with z | z
  ·rw[List.getElem?_append_left z]at hk;exact al k v' hk
  ·rw[List.getElem?_append_right z]at hk
   have:k=i:=by
    rcases Nat.eq_or_lt_of_le z with y | y
    ·omega
    ·rw[List.getElem?_eq_none (by simp;omega)]at hk;cases hk
   subst this
   rw[hl,Nat.sub_self]at hk
   cases hk
   exact ev
 ·have sp:=AQ (o:=.lst ys) hp
  have s3:=s.trans sp
  refine q p ys _ s3 AF hl λk v hk=> ?_
  have NS:=(List.getElem?_eq_some_iff.mp hk).1
  exact(I.rp 0 k v (by decide) (by simp[AX];omega) (al k v hk)).keep s3.tk
theorem Uz{M:Hs}{m i:Nat}{z:Str}(hi:i<m)(h:(F3 M i).any (λp=>decide (p.1=z))=true)(hl:∀ j<i,(F3 M j).any (λp=>decide (p.1=z))=false):cellOf M m z=some i:=by
 unfold cellOf
 rw[List.find?_eq_some_iff_append]
 refine⟨h,List.range i,(List.range (m - i - 1)).map (i+1+·),?_,λj hj=>by rw[hl j (List.mem_range.mp hj)];rfl⟩
 have e1:m=i+(1+(m - i - 1)):=by omega
 conv=>lhs;rw[e1]
 rw[List.range_add,List.range_add]
 simp[Nat.add_assoc,Function.comp_def]
theorem Vb{M:Hs}{m:Nat}{z:Str}(hl:∀ j<m,(F3 M j).any (λp=>decide (p.1=z))=false):cellOf M m z=none:=by
 unfold cellOf
 exact List.find?_eq_none.mpr λj hj=>by rw[hl j (List.mem_range.mp hj)];exact Bool.false_ne_true
theorem Vc(h:JP K a vs H Q E):V7 K a (λ_=>E) (BB Q) (A8 ["self","name","cell","value"] vs) H:=by
 obtain⟨X,cs,tks,M,z,rfl,T4,I,q⟩:=h
 obtain⟨dx,ho⟩:=I.ob
 push_cast[V7,↓Kk]
 refine⟨_,_,ho,CA (by decide +kernel),X,cs,tks,M,rfl,T4,I,λl xs H1 s1 el hl hx=> ?_⟩
 refine⟨l,rfl,⟨_,SqL.of el⟩,c8 (xs:=xs) (λi σ H'=>(Same H H'/\Same H1 H'/\∀ j<i,(F3 M j).any (λp=>decide (p.1=z))=false)/\∃ x y,σ=[some (.ref X.S.st),some (.str z),x,y]) ⟨⟨s1,Same.refl _,λj hj=>absurd hj (Nat.not_lt_zero _)⟩,_,_,rfl⟩ (λi σ H' _ ⟨⟨_,s,_⟩,_⟩=>SqL.of (s _ _ el)) (λi x σ H' t hxi ⟨⟨sH,s,lo⟩,y1,y2,ez⟩ ht=> ?_) (λσ H' ⟨⟨sH,s,lo⟩,y1,y2,ez⟩=> ?_)⟩
 ·subst ez
  have hi:=(List.getElem?_eq_some_iff.mp hxi).1
  have s2:=s.trans (AQ (o:=.tup [.int (i:Int),x]) ht)
  have sH2:=sH.trans (AQ (o:=.tup [.int (i:Int),x]) ht)
  have nx:=((hx i x hxi).nmv (I.ok 0 i (by decide) (by rw[hl]at hi;simpa [AX]using hi))).keep s2.tk
  push_cast[]
  refine⟨_,SqT.of AF,rfl,_,_,rfl,_,_,rfl,rfl,?_⟩
  revert s2 sH2 nx
  generalize upd H' t (.tup [.int (i:Int),x])=H2
  intro s2 sH2 nx
  have next:(F3 M i).any (λp=>decide (p.1=z))=false->Same H H2/\Same H1 H2/\∀ j<i+1,(F3 M j).any (λp=>decide (p.1=z))=false:=λh=>⟨sH2,s2,λj hj=>by
   rcases Nat.lt_or_ge j i with y | y
   ·exact lo j y
   ·rw[show j=i by omega];exact h⟩
  push_cast[↓Kj,↓Kh]
  cases en:F3 M i with
  | none =>
   rw[en]at nx next
   rw[show x=.non from nx]
   push_cast[]
   exact next rfl
  | some p =>
   rw[en]at nx next
   obtain⟨u,rfl,eu⟩:=nx
   rw[if_pos (by simp)]
   refine CT eu (n:=0) rfl rfl ?_
   push_cast[]
   by_cases hz:p.1=z
   ·rw[if_pos hz]
    have:=q _ sH2
    rw[Uz (i:=i) (by omega) (by rw[en];simpa using hz) lo]at this
    exact this
   ·rw[if_neg hz]
    exact next (by simpa using hz)
 ·subst ez
  push_cast[↓Kl]
  have:=q _ sH
  rw[Vb (by rw[<-hl];exact lo)]at this
  exact this
theorem Vd(h:LK K a vs H Q E):WB K a (λ_=>E) (BB Q) (A8 ["self","new","given"] vs) H:=by
 obtain⟨X,cs,tks,M,z,gl,zs,rfl,T4,I,eg,hl,hy,q,q1,q2⟩:=h
 obtain⟨dx,ho⟩:=I.ob
 push_cast[WB,↓Ld]
 refine .inl ⟨⟨_,SqL.of eg⟩,xE (xs:=zs.map V.str) (CS _ (by rw[List.length_map];omega)) (λi ys H'=>Same H H'/\ys=((zs.take i).map BM).map V.bl) ⟨Same.refl _,rfl⟩ (λi ys H' _ ⟨s,_⟩=>SqL.of (s _ _ eg)) (λi x ys H' hxi hyl ⟨s,ey⟩=> ?_) (λys H' hyl ⟨s,ey⟩ p hp=> ?_)⟩
 ·rw[List.getElem?_map,Option.map_eq_some_iff]at hxi
  obtain⟨x',hx',rfl⟩:=hxi
  push_cast[ES]
  refine⟨x',rfl,hy x' (List.mem_of_getElem? hx'),λH2 s2=>⟨s.trans s2,?_⟩⟩
  rw[List.take_add_one,hx',ey]
  simp
 ·rw[List.length_map,List.take_length]at ey
  have sp:=AQ (o:=.lst ys) hp
  have s2:=s.trans sp
  refine⟨p,zs.map BM,rfl,by rw[<-ey];exact SqL.of AF,?_⟩
  rw[List.all_map,Function.id_comp]
  revert s2
  generalize upd H' p (.lst ys)=H2
  intro s2
  cases hb:zs.all BM with
  | false =>
   push_cast[↓Lc]
   exact⟨by decide,q1 hb _ s2⟩
  | true =>
   push_cast[↓Lh]
   refine⟨_,_,s2 _ _ ho,CA (by decide +kernel),X,cs,tks,M,z,rfl,T4,I.same s2,λH3 s3=> ?_⟩
   have s4:=s2.trans s3
   cases hc:cellOf M X.m0 z with
   | none =>
    push_cast[G1]
    exact q hb hc _ s4
   | some k =>
    push_cast[G1,↓Lg]
    exact⟨by decide,q2 hb ⟨k,hc⟩ _ s4⟩
theorem IK{S:SA}{dx db gp mm mi lt ou:Addr}{mth:Str}{P:V->Prop}(TS:P7 K a)(ho:H S.st=some (.ins (a "Store") dx (sf S.lp S.A.b S.tk)))(eb:H S.A.b=some (.ins (a "Hold") db (bf gp mm mi lt ou)))(hm:(bf gp mm mi lt ou).lookup mth=none)(p:P (.ref S.A.b)) :
  ∃ x x1 x2,H S.st=some (.ins x x1 x2)/\Cls K x/\NoAttr K x "book"/\∃ v,x2.lookup ("book":Str)=some v/\∃ b,v=.ref b/\∃ y y1,H b=some (.ins (a "Hold") y y1)/\y1.lookup mth=none/\P v:=⟨_,_,_,ho,TS.cl,TS.n2,_,HK,_,rfl,_,_,eb,hm,p⟩
theorem HL{S:SA}{dx dl:Addr}{n r c w:Int}{mth:Str}{P:V->Prop}(TS:P7 K a)(ho:H S.st=some (.ins (a "Store") dx (sf S.lp S.A.b S.tk)))(el:H S.lp=some (.ins (a "Layout") dl (lf n r c w)))(hm:(lf n r c w).lookup mth=none)(p:P (.ref S.lp)) :
  ∃ x x1 x2,H S.st=some (.ins x x1 x2)/\Cls K x/\NoAttr K x "plan"/\∃ v,x2.lookup ("plan":Str)=some v/\∃ b,v=.ref b/\∃ y y1,H b=some (.ins (a "Layout") y y1)/\y1.lookup mth=none/\P v:=⟨_,_,_,ho,TS.cl,TS.n1,_,G2,_,rfl,_,_,el,hm,p⟩
section
variable{p:Addr}{n r c w k:Nat}
theorem oP(TL:DU K a)(L:LayAt a H p n r c w)(q:GG (0+k / w) (k % w) Q H):F1 K a [.ref p,.int k] H Q E:=⟨p,n,r,c,w,k,rfl,TL,L,q⟩
theorem KK(TL:DU K a)(L:LayAt a H p n r c w)(q:GG (n+k / w) (k % w) Q H):EV K a [.ref p,.int k] H Q E:=⟨p,n,r,c,w,k,rfl,TL,L,q⟩
theorem oQ(TL:DU K a)(L:LayAt a H p n r c w)(q:GG (n+r+k / w) (k % w) Q H):KF K a [.ref p,.int k] H Q E:=⟨p,n,r,c,w,k,rfl,TL,L,q⟩
theorem WW(TL:DU K a)(L:LayAt a H p n r c w)(q:GG (n+r+c+k / w) (k % w) Q H):GZ K a [.ref p,.int k] H Q E:=⟨p,n,r,c,w,k,rfl,TL,L,q⟩
theorem oR(TL:DU K a)(L:LayAt a H p n r c w)(q:GG (n+r+c+r+k / w) (k % w) Q H):F2 K a [.ref p,.int k] H Q E:=⟨p,n,r,c,w,k,rfl,TL,L,q⟩
end
theorem WX{f g:Nat->Bool}:∀ {l:List Nat},(∀ k∈l,f k=g k)->l.find? f=l.find? g
 | [],_=>rfl
 | k::l,h=>by
  rw[List.find?_cons,List.find?_cons,h k List.mem_cons_self,WX λk' hk'=>h k' (List.mem_cons_of_mem _ hk')]
theorem Vg{f g:Nat->Bool}{m:Nat}(h:∀ k<m,f k=g k):EF f m=EF g m:=by
 unfold EF
 rw[WX λk hk=>h k (List.mem_range.mp hk)]
section
variable{X:SX}{cs:List Ch}{tks:List (AM × V)}{M:Hs}
theorem SM.free(I:X.at a H cs tks M){kind:Nat}(hk:kind<3):EF (JO cs X.rows X.n X.r X.c X.w kind) (AX X.n X.r X.c X.w kind)=F4 M kind (AX X.n X.r X.c X.w kind):=Vg λk hkm=>by
 obtain⟨v,ev,rv⟩:=I.val (by omega:kind<5) hkm
 have ok:=I.ok kind k (by omega) hkm
 unfold JO
 rw[ev]
 show IH kind v=FD kind (M kind k)
 cases e:M kind k with
 | no=>rw[e]at rv;rw[show v=.non from rv];simp[IH,FD]
 | nm z r=>rw[e]at rv;obtain⟨t,rfl,_⟩:=rv;simp[IH,FD]
 | mk i =>
  rw[e]at rv;rw[show v=.int i from rv]
  simp[IH,FD]
 | rc m ps=>rw[e]at rv;obtain⟨t,u,rfl,_⟩:=rv;simp[IH,FD]
 | tx z=>rw[e]at rv;rw[show v=.str z from rv];simp[IH,FD]
theorem Vh{m cell:Nat}{z:Str}(h:cellOf M m z=some cell):cell<m/\∃ k,M 0 cell=.nm z k:=by
 unfold cellOf at h
 have h1:=List.mem_range.mp (List.mem_of_find?_eq_some h)
 have h2:=List.find?_some h
 unfold F3 at h2
 refine⟨h1,?_⟩
 cases e:M 0 cell with
 | nm z' k =>
  rw[e]at h2
  simp at h2
  exact⟨k,by rw[h2]⟩
 | _=>rw[e]at h2;simp at h2
theorem QZ{kind:Nat}(T4:C9 K a)(I:X.at a H cs tks M)(hk:kind<3)(q:∀ k:Nat,F4 M kind (AX X.n X.r X.c X.w kind)=k->k<AX X.n X.r X.c X.w kind->∀ H',Same H H'->Q (.int k) H')(qe:F4 M kind (AX X.n X.r X.c X.w kind)= -1->EJ a H "NoRoom" E):PU kind K a X.S.lp X.S.A.b H Q E:=by
 obtain⟨T,TP,TL,TS⟩:=T4
 obtain⟨z1,z2,z3,z4,z5⟩:=I.sz
 refine⟨X.S.A,X.n,X.r,X.c,X.w,X.rows,X.nn,cs,X.outs,rfl,T,TP,TL,I.ly,z1,z2,z3,z4,I.bk,z5,λi j v hv=>Ub I.gd hv,λk e H' s=> ?_,λe H' s=> ?_⟩
 ·rw[I.free hk]at e
  exact q k e (Uw e) H' s
 ·rw[I.free hk]at e
  exact qe e H' s
end
theorem Vj(h:FL K a vs H Q E):V1 K a (λ_=>E) (BB Q) (A8 ["self","record"] vs) H:=by
 obtain⟨X,cs,tks,M,rec,rfl,⟨T,TP,TL,TS⟩,I,hr,q⟩:=h
 obtain⟨dx,ho⟩:=I.ob
 obtain⟨dl,el⟩:=I.ly.ob
 obtain⟨db,eb⟩:=I.bk.bk.ob
 have hm:rec<AX X.n X.r X.c X.w 3:=by simpa [AX]using hr
 push_cast[V1,↓Jp]
 refine IK TS (ho) (eb) (DT (by decide +kernel)) (HL TS (ho) (el) (BX (by decide +kernel)) (KK TL (I.ly) λu hu=> ?_))
 have s2:=AQ (o:=.tup [.int (X.n+(rec:Int) / X.w),.int ((rec:Int) % X.w)]) hu
 refine⟨X.S.A,X.w,X.rows,X.nn,cs,X.outs,u,(A0 X.n X.r X.c X.w 3 rec:Nat),(rec % X.w:Nat),rfl,T,TP,I.bk.same s2,by rw[AF];simp[A0],λ_ v H3 ev s3=> ?_,λz=>absurd (I.onPl (kind:=3) (by decide) hm) z⟩
 have s4:=s2.trans s3
 exact q v H3 ((I.rp 3 rec v (by decide) hm ev).keep s4.tk) s4
theorem Vk(h:GI K a vs H Q E):WC K a (λ_=>E) (BB Q) (A8 ["self","name","cell"] vs) H:=by
 obtain⟨X,cs,tks,M,z,rfl,T4,I,q,qe⟩:=h
 obtain⟨dx,ho⟩:=I.ob
 push_cast[WC,↓Lj]
 refine⟨_,_,ho,CA (by decide +kernel),X,cs,tks,M,z,rfl,T4,I,λH1 s1=> ?_⟩
 push_cast[↓Ll]
 cases e:cellOf M X.m0 z with
 | none =>
  push_cast[G1,↓Lk]
  exact⟨by decide,qe e _ s1⟩
 | some cell =>
  push_cast[G1,↓Lm]
  obtain⟨hc,k,ek⟩:=Vh e
  refine⟨_,_,s1 _ _ ho,CA (by decide +kernel),X,cs,tks,M,rfl,T4,I.same s1,λl xs H2 s2 el hl hx=> ?_⟩
  have BJ:cell<xs.length:=by rw[hl];exact hc
  have ex:=List.getElem?_eq_getElem BJ
  have rx:=hx cell _ ex
  rw[ek]at rx
  obtain⟨t,et,et2⟩:=rx
  exact FG (SqL.of el) rfl ex (by rw[et];exact CT et2 (n:=1) rfl rfl (q cell k e hc ek _ (s1.trans s2)))
theorem oU{X:SX}{cs:List Ch}{tks:List (AM × V)}{M:Hs}{cell rec need:Nat}{z:Str}{nl:Addr}{ns:List Int}{H2:Hp}(T4:C9 K a)(I:X.at a H cs tks M)(hc:cell<X.m0)(hcs:cs.length<980)(hz:PyData.strOk z=true)(s:Same H H2)(en:H2 nl=some (.lst (ns.map V.int)))(hl:ns.length<=60)(kn:∀ x∈ns,known cs x)
  (q:P9 X a H cs tks (M.put 0 cell (.nm z rec) (IJ ns)) Q) :
  V2 K a (λ_=>E) (λ_=>E) (BB Q) [some (.ref X.S.st),some (.int cell),some (.str z),some (.int rec),some (.int need),some (.ref nl)] H2:=by
 have T4':=T4
 obtain⟨T,TP,TL,TS⟩:=T4
 obtain⟨dx,ho⟩:=I.ob
 obtain⟨dl,el⟩:=I.ly.ob
 obtain⟨db,eb⟩:=I.bk.bk.ob
 have hm:cell<AX X.n X.r X.c X.w 0:=by simpa [AX]using hc
 push_cast[↓Jx]
 refine IK TS (s _ _ ho) (s _ _ eb) (DT (by decide +kernel)) (HL TS (s _ _ ho) (s _ _ el) (BX (by decide +kernel)) (oP TL (I.ly.same s) λu hu=> ?_))
 have s2:=s.trans (AQ (o:=.tup [.int (0+(cell:Int) / X.w),.int ((cell:Int) % X.w)]) hu)
 have eu:upd H2 u (.tup [.int (0+(cell:Int) / X.w),.int ((cell:Int) % X.w)]) u=some (.tup [.int (A0 X.n X.r X.c X.w 0 cell:Nat),.int (cell % X.w:Nat)]):=by rw[AF];simp[A0]
 have en2:=AQ (o:=.tup [.int (0+(cell:Int) / X.w),.int ((cell:Int) % X.w)]) hu _ _ en
 revert s2 eu en2
 generalize upd H2 u (.tup [.int (0+(cell:Int) / X.w),.int ((cell:Int) % X.w)])=H3
 intro s2 eu en2
 push_cast[]
 refine⟨by decide,λt ht=> ?_⟩
 have st:=AQ (o:=.tup [V.str z,V.int rec]) ht
 have s4:=s2.trans st
 have et:upd H3 t (.tup [V.str z,V.int rec]) t=some (.tup [V.str z,V.int rec]):=AF
 refine G3 T4' (I.same s4) (kind:=0) (x:=.nm z rec) (by decide) hm (st _ _ eu) (st _ _ en2) hl (by omega) kn ⟨_,et,by simp,λv hv=> ?_⟩ ⟨t,rfl,et⟩ trivial λch H' I' sb=>q ch H' I' λb o e n=>sb _ _ (s4 _ _ e) n
 simp only[List.mem_cons,List.not_mem_nil,or_false]at hv
 rcases hv with rfl | rfl
 ·exact hz
 ·trivial
theorem Vl(h:LM K a vs H Q E):V3 K a (λ_=>E) (BB Q) (A8 ["self","cell","name","record","need","needs"] vs) H:=by
 obtain⟨X,cs,tks,M,cell,rec,need,z,rfl,T4,I,hc,hn,hcs,hz,q⟩:=h
 obtain⟨T,TP,TL,TS⟩:=T4
 obtain⟨dx,ho⟩:=I.ob
 push_cast[V3,↓Jq,↓Jw]
 refine⟨by decide,λnl hnl=> ?_⟩
 have s1:=AQ (o:=.lst [V.int need]) hnl
 refine⟨_,_,_,s1 _ _ ho,TS.cl,TS.n3,_,WU,X.S.tk,rfl,_,dS (s1 _ _ I.tk),?_⟩
 have e1:upd H nl (.lst [V.int need]) nl=some (.lst [V.int need]):=AF
 have kn:known cs (need:Int):=⟨by omega,by omega⟩
 cases hv:BK tks (.inr z)with
 | none =>
  rw[show EG tks z=[] by unfold EG;rw[hv]]at q
  rw[if_neg (by simp)]
  exact oU (ns:=[(need:Int)]) ⟨T,TP,TL,TS⟩ I hc hcs hz s1 e1 (by simp) (λx hx=>by rw[List.mem_singleton.mp hx];exact kn) q
 | some v =>
  obtain⟨k,rfl,hk⟩:=I.tv z v hv
  rw[show EG tks z=[k] by unfold EG;rw[hv];rfl]at q
  rw[if_pos (by simp)]
  push_cast[↓Jv]
  refine⟨.inl ⟨rfl,_,SqL.of e1⟩,_,_,_,s1 _ _ ho,TS.cl,TS.n3,_,WU,X.S.tk,rfl,_,yW (s1 _ _ I.tk) hv,nl,_,_,rfl,rfl,e1,(by show 1<sizeLine;decide),?_⟩
  rw[GL]
  refine oU (ns:=[(need:Int),(k:Int)]) ⟨T,TP,TL,TS⟩ I hc hcs hz (AQ hnl) AF (by simp) (λx hx=> ?_) q
  simp only[List.mem_cons,List.not_mem_nil,or_false]at hx
  rcases hx with rfl | rfl
  ·exact kn
  ·exact⟨by omega,by omega⟩
theorem Vm{n:Nat}{H:Hp}(ps:List Nat):∀ v∈BE ps,GoodV (n+1) H v:=λv hv=>by
 obtain⟨p,_,rfl⟩:=List.mem_map.mp hv
 trivial
theorem WY{H:Hp}{t u:Addr}{m:Nat}{ps:List Nat}(h1:H t=some (.tup [.int m,.ref u]))(h2:H u=some (.tup (BE ps)))(hl:ps.length<=100):GoodV 4 H (.ref t):=⟨_,h1,by simp,λv hv=>by
 simp only[List.mem_cons,List.not_mem_nil,or_false]at hv
 rcases hv with rfl | rfl
 ·trivial
 ·exact⟨_,h2,by simp[BE];exact hl,Vm ps⟩⟩
theorem Vp(h:JQ K a vs H Q E):V8 K a (λ_=>E) (BB Q) (A8 ["self","record","more","needs","value"] vs) H:=by
 obtain⟨X,cs,tks,M,rec,m,m',more,ps,nl,ns,rfl,T4,I,hr,eM,hm',hps,en,hl,kn,hcs,q⟩:=h
 have T4':=T4
 obtain⟨T,TP,TL,TS⟩:=T4
 obtain⟨dx,ho⟩:=I.ob
 obtain⟨dl,el⟩:=I.ly.ob
 obtain⟨db,eb⟩:=I.bk.bk.ob
 have hm:rec<AX X.n X.r X.c X.w 3:=by simpa [AX]using hr
 push_cast[V8,↓Km]
 refine⟨_,_,ho,CA (by decide +kernel),X,cs,tks,M,rec,rfl,T4',I,hr,λv H1 rv s=> ?_⟩
 rw[eM]at rv
 obtain⟨t0,u0,rfl,D3,E7⟩:=rv
 push_cast[↓Kp]
 refine IK TS (s _ _ ho) (s _ _ eb) (DT (by decide +kernel)) (HL TS (s _ _ ho) (s _ _ el) (BX (by decide +kernel)) (KK TL (I.ly.same s) λu hu=> ?_))
 have sa:=AQ (o:=.tup [.int (X.n+(rec:Int) / X.w),.int ((rec:Int) % X.w)]) hu
 have eu:upd H1 u (.tup [.int (X.n+(rec:Int) / X.w),.int ((rec:Int) % X.w)]) u=some (.tup [.int (A0 X.n X.r X.c X.w 3 rec:Nat),.int (rec % X.w:Nat)]):=by rw[AF];simp[A0]
 revert sa eu
 generalize upd H1 u (.tup [.int (X.n+(rec:Int) / X.w),.int ((rec:Int) % X.w)])=H2
 intro sa eu
 refine CT (sa _ _ D3) (n:=0) rfl rfl ?_
 push_cast[]
 refine CT (sa _ _ D3) (n:=1) rfl rfl ⟨by decide,λt ht=> ?_⟩
 rw[hm']
 have st:=AQ (o:=.tup [V.int m',V.ref u0]) ht
 have s4:=(s.trans sa).trans st
 have e1:upd H2 t (.tup [V.int m',V.ref u0]) t=some (.tup [V.int m',V.ref u0]):=AF
 have e2:=st _ _ (sa _ _ E7)
 exact G3 T4' (I.same s4) (kind:=3) (x:=.rc m' ps) (by decide) hm (st _ _ eu) (s4 _ _ en) hl (by omega) kn (WY e1 e2 hps) ⟨t,u0,rfl,e1,e2⟩ trivial λch H' I' sb=>q ch H' I' λb o e n=>sb _ _ (s4 _ _ e) n
theorem Vq(h:LN K a vs H Q E):V9 K a (λ_=>E) (BB Q) (A8 ["self","record","pieces","needs"] vs) H:=by
 obtain⟨X,cs,tks,M,rec,m,ps,ps',pl,nl,ns,rfl,T4,I,hr,eM,epl,hps,en,hl,kn,hcs,q⟩:=h
 have T4':=T4
 obtain⟨T,TP,TL,TS⟩:=T4
 obtain⟨dx,ho⟩:=I.ob
 obtain⟨dl,el⟩:=I.ly.ob
 obtain⟨db,eb⟩:=I.bk.bk.ob
 have hm:rec<AX X.n X.r X.c X.w 3:=by simpa [AX]using hr
 push_cast[V9,↓Kq]
 refine IK TS (ho) (eb) (DT (by decide +kernel)) (HL TS (ho) (el) (BX (by decide +kernel)) (KK TL (I.ly) λu hu=> ?_))
 have sa:=AQ (o:=.tup [.int (X.n+(rec:Int) / X.w),.int ((rec:Int) % X.w)]) hu
 have eu:upd H u (.tup [.int (X.n+(rec:Int) / X.w),.int ((rec:Int) % X.w)]) u=some (.tup [.int (A0 X.n X.r X.c X.w 3 rec:Nat),.int (rec % X.w:Nat)]):=by rw[AF];simp[A0]
 revert sa eu
 generalize upd H u (.tup [.int (X.n+(rec:Int) / X.w),.int ((rec:Int) % X.w)])=H2
 intro sa eu
 push_cast[]
 refine⟨_,_,sa _ _ ho,CA (by decide +kernel),X,cs,tks,M,rec,rfl,T4',I.same sa,hr,λv H3 rv s3=> ?_⟩
 rw[eM]at rv
 obtain⟨t0,u0,rfl,D3,E7⟩:=rv
 refine CT D3 (n:=0) rfl rfl ?_
 push_cast[]
 refine⟨by decide,λt ht=> ?_⟩
 have st:=AQ (o:=.tup [V.int m,V.ref pl]) ht
 have s4:=(sa.trans s3).trans st
 have e1:upd H3 t (.tup [V.int m,V.ref pl]) t=some (.tup [V.int m,V.ref pl]):=AF
 have e2:=s4 _ _ epl
 exact G3 T4' (I.same s4) (kind:=3) (x:=.rc m ps') (by decide) hm (st _ _ (s3 _ _ eu)) (s4 _ _ en) hl (by omega) kn (WY e1 e2 hps) ⟨t,pl,rfl,e1,e2⟩ trivial λch H' I' sb=>q ch H' I' λb o e n=>sb _ _ (s4 _ _ e) n
theorem oV{α β γ :Type}{F: α -> β ->Prop}{G: α -> γ ->Prop}{f: β -> γ}:∀ {l:List α} {m:List β},Paired F l m->(∀ x y,F x y->G x (f y))->Paired G l (m.map f)
 | _,_,.nil,_=>.nil
 | _,_,.cons h t,k=>.cons (k _ _ h) (oV t k)
theorem Vv{te:TE}{cap:List Nat}{σ:St}{b:Addr}{xs:List V}(hn:xs.length<=sizeLine)(Pv:Nat->List V->Hp->Prop)(h0:Pv 0 [] H)(hq:∀ i ys H,i<=xs.length->Pv i ys H->SqT K H b xs)
  (hs:∀ i x ys H,xs[i]? =some x->ys.length=i->Pv i ys H->te (some x::ES cap σ) H λy H2=>Pv (i+1) (ys++[y]) H2)
  (hd:∀ ys H,ys.length=xs.length->Pv xs.length ys H->∀ p,H p=none->Q (.ref p) (upd H p (.lst ys))) :
  HG (HW K b) (AO 0) DL te 1 cap σ H Q:=by
 refine⟨λi m σ' ys H=>m=xs.length - i/\i<=xs.length/\ys.length=i/\(∃ x0,σ'=x0::ES cap σ)/\Pv i ys H,⟨xs.length,by simp,Nat.zero_le _,rfl,⟨none,rfl⟩,h0⟩,?_⟩
 rintro i m σ' ys H ⟨rfl,hi,hl,⟨x0,rfl⟩,p⟩
 have q:=hq i ys H hi p
 by_cases BI:i<xs.length
 ·refine .inr ⟨⟨xs,xs[i],q,by simp[BI]⟩,by omega,λx H' y=> ?_⟩
  obtain⟨e,y⟩:=y
  subst e
  have hx:=y xs q
  simp only[AO,DL,if_true]
  refine⟨_,λy H4 q=>⟨xs.length - (i+1),by omega,rfl,BI,?_,⟨_,rfl⟩,q⟩,hs i x ys _ hx hl p⟩
  rw[List.length_append,List.length_singleton,hl]
 ·have e:i=xs.length:=by omega
  subst e
  exact .inl ⟨⟨xs,q,Nat.le_refl _⟩,hd ys H hl p⟩
section
variable{X:SX}{cs:List Ch}{tks:List (AM × V)}{M:Hs}
theorem SM.lput{l:Addr}{xs ys:List V}(I:X.at a H cs tks M)(e:H l=some (.lst xs))(f:¬ X.S.A.F l):X.at a (upd H l (.lst ys)) cs tks M:=by
 have s:SameBut (· =l) H (upd H l (.lst ys)):=λy o ey n=>by rw[AH n];exact ey
 have g:∀ x,x=l->E3 (H x):=λx hx=>by rw[hx];exact M3 e
 have tk:EK H (upd H l (.lst ys)):=KJ s g
 obtain⟨⟨dx,e1⟩,e2,e3,e4,e5,e6,e7,e8,e9,e10,e11,e12⟩:=I
 obtain⟨dl,el⟩:=e2.ob
 exact⟨⟨dx,s _ _ e1 (BH e1 e (by intro z;cases z))⟩,e2.sb s (BH el e (by intro z;cases z)),e3.sb s g λx hx=>by rw[hx];exact f,s _ _ e4 (BH e4 e (by intro z;cases z)),e5,e6,e7,e8,e9.keep tk,λkind k v h1 h2 hv=>(e10 kind k v h1 h2 hv).keep tk,e11,e12.keep tk⟩
theorem SM.taken{z:Str}{k:Nat}(I:X.at a H cs tks M)(hk:k<cs.length)(hl:tks.length<cs.length):X.at a (upd H X.S.tk (.dK (BW tks (.inr z) (.int k)))) cs (BW tks (.inr z) (.int k)) M:=by
 have s:SameBut (· =X.S.tk) H (upd H X.S.tk (.dK (BW tks (.inr z) (.int k)))):=λy o ey n=>by rw[AH n];exact ey
 have g:∀ x,x=X.S.tk->E3 (H x):=λx hx=>by rw[hx];exact O3 I.tk
 have tk:EK H (upd H X.S.tk (.dK (BW tks (.inr z) (.int k)))):=KJ s g
 obtain⟨⟨dx,e1⟩,e2,e3,e4,e5,e6,e7,e8,e9,e10,e11,e12⟩:=I
 obtain⟨dl,el⟩:=e2.ob
 refine⟨⟨dx,s _ _ e1 (BH e1 e4 (by intro z;cases z))⟩,e2.sb s (BH el e4 (by intro z;cases z)),e3.sb s g λx hx=>by rw[hx];exact e7,AF,Nat.le_trans (H0 ..) (by omega),λy v h=> ?_,e7,e8,e9.keep tk,λkind k v h1 h2 hv=>(e10 kind k v h1 h2 hv).keep tk,e11,e12.keep tk⟩
 rw[IY]at h
 split at h
 ·cases h
  exact⟨k,rfl,hk⟩
 ·exact e6 y v h
end
theorem Vw(h:LO K a vs H Q E):WD K a (λ_=>E) (BB Q) (A8 ["self","name","needs","gone"] vs) H:=by
 obtain⟨X,cs,tks,M,cell,z,nl,ns,rfl,T4,I,ec,hc,en,hl,kn,hcs,q⟩:=h
 have T4':=T4
 obtain⟨T,TP,TL,TS⟩:=T4
 obtain⟨dx,ho⟩:=I.ob
 obtain⟨dl,el⟩:=I.ly.ob
 obtain⟨db,eb⟩:=I.bk.bk.ob
 have hm:cell<AX X.n X.r X.c X.w 0:=by simpa [AX]using hc
 push_cast[WD,↓Lp]
 refine⟨_,_,_,ho,TS.cl,TS.n2,_,HK,X.S.A.b,rfl,_,_,eb,DT (by decide +kernel),_,_,_,ho,TS.cl,TS.n1,_,G2,X.S.lp,rfl,_,_,el,BX (by decide +kernel),_,_,ho,CA (by decide +kernel),X,cs,tks,M,z,rfl,T4',I,λH1 s1=> ?_⟩
 rw[ec]
 refine⟨X.S.lp,X.n,X.r,X.c,X.w,cell,rfl,TL,I.ly.same s1,λu hu=> ?_⟩
 have sa:=AQ (o:=.tup [.int (0+(cell:Int) / X.w),.int ((cell:Int) % X.w)]) hu
 have eu:upd H1 u (.tup [.int (0+(cell:Int) / X.w),.int ((cell:Int) % X.w)]) u=some (.tup [.int (A0 X.n X.r X.c X.w 0 cell:Nat),.int (cell % X.w:Nat)]):=by rw[AF];simp[A0]
 have s2:=s1.trans sa
 revert eu s2
 generalize upd H1 u (.tup [.int (0+(cell:Int) / X.w),.int ((cell:Int) % X.w)])=H2
 intro eu s2
 refine G3 T4' (I.same s2) (kind:=0) (x:=.no) (by decide) hm eu (s2 _ _ en) hl (by omega) kn trivial rfl trivial λch H3 I3 sb=> ?_
 obtain⟨dx3,ho3⟩:=I3.ob
 push_cast[↓Lq,↓Lv]
 have tl:=I.tl
 refine⟨_,_,_,ho3,TS.cl,TS.n3,_,WU,X.S.tk,rfl,_,pS I3.tk (by omega),?_⟩
 refine q ch _ (I3.taken (by simp) (by simp;omega)) λy o e n=> ?_
 rw[AH λy=>n (.inr y)]
 exact sb _ _ (s2 _ _ e) λy=>n (.inl y)
def Vx(a:Ad)(X:SX)(cs:List Ch)(tks:List (AM × V))(M:Hs)(rec gone:Nat)(u0 ml:Addr)(pls:List (Nat × Nat))(H6:Hp)(i:Nat)(σ:St)(H':Hp):Prop:=(∃ ex,ex.length=i+1/\X.at a H' (cs++ex) tks ((pls.take i).foldl (λ(M:Hs) (y:Nat × Nat)=>M.put y.1 y.2 (.mk 0) [cs.length]) (M.put 3 rec .no [gone]))/\H' ml=some (.lst (BE ((List.range (i+1)).map (cs.length+·))))/\SameBut (λx=>X.S.A.F x\/x=ml) H6 H')/\∃ y6,σ=[some (.ref X.S.st),some (.int rec),some (.int gone),some (.ref u0),some (.int cs.length),some (.ref ml),y6]
theorem Vy(h:QC K a vs H Q E):WA K a (λ_=>E) (BB Q) (A8 ["self","record","gone","pieces","dropped","made","mark"] vs) H:=by
 obtain⟨X,cs,tks,M,rec,m,gone,ps,rfl,T4,I,hr,eM,hg,hps,CF,hcs,q⟩:=h
 have T4':=T4
 obtain⟨T,TP,TL,TS⟩:=T4
 obtain⟨dx,ho⟩:=I.ob
 have hm:rec<AX X.n X.r X.c X.w 3:=by simpa [AX]using hr
 push_cast[WA,↓Kv]
 refine⟨_,_,ho,CA (by decide +kernel),X,cs,tks,M,rec,rfl,T4',I,hr,λv H1 rv s=> ?_⟩
 rw[eM]at rv
 obtain⟨t0,u0,rfl,D3,E7⟩:=rv
 refine CT D3 (n:=1) rfl rfl ?_
 have I1:=I.same s
 obtain⟨dx1,ho1⟩:=I1.ob
 obtain⟨dl1,el1⟩:=I1.ly.ob
 obtain⟨db1,eb1⟩:=I1.bk.bk.ob
 push_cast[↓Kw]
 refine IK TS (ho1) (eb1) (DT (by decide +kernel)) (HL TS (ho1) (el1) (BX (by decide +kernel)) (KK TL (I1.ly) λu hu=>⟨by decide,λnl hnl=> ?_⟩))
 have sa:=AQ (o:=.tup [.int (X.n+(rec:Int) / X.w),.int ((rec:Int) % X.w)]) hu
 have sb:=AQ (o:=.lst [V.int gone]) hnl
 have eu:=sb _ _ (show upd H1 u (.tup [.int (X.n+(rec:Int) / X.w),.int ((rec:Int) % X.w)]) u=some (.tup [.int (A0 X.n X.r X.c X.w 3 rec:Nat),.int (rec % X.w:Nat)]) by rw[AF];simp[A0])
 have en:upd (upd H1 u (.tup [.int (X.n+(rec:Int) / X.w),.int ((rec:Int) % X.w)])) nl (.lst [V.int gone]) nl=some (.lst ([(gone:Int)].map V.int)):=AF
 have s2:=sa.trans sb
 revert eu en s2
 generalize upd (upd H1 u (.tup [.int (X.n+(rec:Int) / X.w),.int ((rec:Int) % X.w)])) nl (.lst [V.int gone])=H2
 clear sa sb
 intro eu en s2
 refine G3 T4' (I1.same s2) (kind:=3) (x:=.no) (by decide) hm eu en (by simp) (by omega) (λx hx=>by rw[List.mem_singleton.mp hx];exact⟨by omega,by omega⟩) trivial rfl trivial λch H3 I3 NQ=> ?_
 push_cast[↓Kx]
 refine⟨by decide,λml hml=> ?_⟩
 have k3:EK H2 H3:=KJ NQ λx hx=>(I1.same s2).bk.loose hx
 have fml:¬ X.S.A.F ml:=I3.bk.off hml
 have sm:=AQ (o:=.lst [V.int cs.length]) hml
 have I4:=I3.same sm
 have eu4:=sm _ _ (k3 _ _ (s2 _ _ E7))
 have em4:upd H3 ml (.lst [V.int cs.length]) ml=some (.lst [V.int cs.length]):=AF
 have sb4:SameBut X.S.A.F H (upd H3 ml (.lst [V.int cs.length])):=λy o e n=>sm _ _ (NQ _ _ (s2 _ _ (s _ _ e)) n)
 have hmlH:H ml=none:=by
  cases e:H ml with
  | none=>rfl
  | some o=>have:=NQ _ _ (s2 _ _ (s _ _ e)) fml;rw[hml]at this;cases this
 revert I4 eu4 em4 sb4
 clear sm k3 en eu
 generalize upd H3 ml (.lst [V.int cs.length])=H4
 intro I4 eu4 em4 sb4
 obtain⟨dx4,ho4⟩:=I4.ob
 obtain⟨dl4,el4⟩:=I4.ly.ob
 have BT:(cs++[ch]).length=cs.length+1:=by simp
 push_cast[↓Kz]
 refine .inr ⟨⟨_,SqT.of eu4⟩,Vv (xs:=BE ps) (CS _ (by simp[BE];omega)) (λi ys H'=>Same H4 H'/\∃ us:List Addr,ys=us.map V.ref/\Paired (λu p=>H' u=some (.tup [.int (A0 X.n X.r X.c X.w 2 p:Nat),.int (p % X.w:Nat)])) us (ps.take i)) ⟨Same.refl _,[],rfl,.nil⟩ (λi ys H' _ ⟨s',_⟩=>SqT.of (s' _ _ eu4)) (λi x ys H' hx hyl hzz=> ?_) (λys H' hyl ⟨s',us,ey,pu⟩ lc hlc=> ?_)⟩
 ·obtain⟨s',us,ey,pu⟩:=hzz
  unfold BE at hx
  rw[List.getElem?_map,Option.map_eq_some_iff]at hx
  obtain⟨p,ep,rfl⟩:=hx
  push_cast[ES]
  refine⟨_,_,_,s' _ _ ho4,TS.cl,TS.n1,_,G2,X.S.lp,rfl,_,_,s' _ _ el4,BX (by decide +kernel),X.S.lp,X.n,X.r,X.c,X.w,p,rfl,TL,I4.ly.same s',λu' hu'=> ?_⟩
  have su:=AQ (o:=.tup [.int (X.n+X.r+X.c+X.r+(p:Int) / X.w),.int ((p:Int) % X.w)]) hu'
  refine⟨s'.trans su,us++[u'],by rw[ey,List.map_append];rfl,?_⟩
  rw[List.take_add_one,ep]
  exact Paired.snoc (Paired.mapP pu λt r z=>su _ _ z) (by rw[AF];simp[A0])
 ·rw[show(BE ps).length=ps.length by simp[BE],List.take_length]at pu
  subst ey
  have sc:=AQ (o:=.lst (us.map V.ref)) hlc
  have s5:=s'.trans sc
  refine HL TS (s5 _ _ ho4) (s5 _ _ el4) (BX (by decide +kernel)) (WW TL (I4.ly.same s5) λur hur=>⟨by decide,λlr hlr=>.inl ?_⟩)
  have sd:=AQ (o:=.tup [.int (X.n+X.r+X.c+(rec:Int) / X.w),.int ((rec:Int) % X.w)]) hur
  have se:=AQ (o:=.lst [V.ref ur]) hlr
  refine⟨lc,lr,_,_,rfl,rfl,se _ _ (sd _ _ AF),AF,CS _ (by have:=pu.length;simp;omega),λl2 LZ=> ?_⟩
  have sf':=AQ (o:=.lst (us.map V.ref++[V.ref ur])) LZ
  have sg:=(sd.trans se).trans sf'
  have er:upd (upd (upd (upd H' lc (.lst (us.map V.ref))) ur (.tup [.int (X.n+X.r+X.c+(rec:Int) / X.w),.int ((rec:Int) % X.w)])) lr (.lst [V.ref ur])) l2 (.lst (us.map V.ref++[V.ref ur])) ur=some (.tup [.int (A0 X.n X.r X.c X.w 1 rec:Nat),.int (rec % X.w:Nat)]):=(se.trans sf') _ _ (by rw[AF];simp[A0])
  have el2:upd (upd (upd (upd H' lc (.lst (us.map V.ref))) ur (.tup [.int (X.n+X.r+X.c+(rec:Int) / X.w),.int ((rec:Int) % X.w)])) lr (.lst [V.ref ur])) l2 (.lst (us.map V.ref++[V.ref ur])) l2=some (.lst ((us++[ur]).map V.ref)):=by rw[AF];simp
  have hl2F:¬ X.S.A.F l2:=by
   have:=((I4.same s5).same (sd.trans se)).bk.off LZ
   exact this
  have nlm:l2≠ml:=(BL (se _ _ (sd _ _ (s5 _ _ em4))) LZ).symm
  have s6:=s5.trans sg
  have PP:Paired (λu (y:Nat × Nat)=>upd (upd (upd (upd H' lc (.lst (us.map V.ref))) ur (.tup [.int (X.n+X.r+X.c+(rec:Int) / X.w),.int ((rec:Int) % X.w)])) lr (.lst [V.ref ur])) l2 (.lst (us.map V.ref++[V.ref ur])) u=some (.tup [.int (A0 X.n X.r X.c X.w y.1 y.2:Nat),.int (y.2 % X.w:Nat)])) (us++[ur]) (ps.map (λp=>(2,p))++[(1,rec)]) :=
   Paired.snoc (oV pu λu p z=>sg _ _ (sc _ _ z)) er
  revert s6 el2 PP
  clear er sg sf' se sd s5
  generalize upd (upd (upd (upd H' lc (.lst (us.map V.ref))) ur (.tup [.int (X.n+X.r+X.c+(rec:Int) / X.w),.int ((rec:Int) % X.w)])) lr (.lst [V.ref ur])) l2 (.lst (us.map V.ref++[V.ref ur]))=H6
  intro el2 s6 PP
  generalize us++[ur]=vs at el2 PP
  have hall:∀ y∈ps.map (λp=>(2,p))++[(1,rec)],(y.1=1\/y.1=2)/\y.2<AX X.n X.r X.c X.w y.1:=λy hy=>by
   rcases List.mem_append.mp hy with hy | hy
   ·obtain⟨p,hp,rfl⟩:=List.mem_map.mp hy
    exact⟨.inr rfl,by simpa [AX]using hps p hp⟩
   ·rw[List.mem_singleton.mp hy]
    exact⟨.inl rfl,by simpa [AX]using hr⟩
  have hyl:(ps.map (λp=>((2:Nat),p))++[(1,rec)]).length=ps.length+1:=by simp
  have hfin:(ps.map (λp=>(2,p))++[(1,rec)]).foldl (λ(M:Hs) (y:Nat × Nat)=>M.put y.1 y.2 (.mk 0) [cs.length]) (M.put 3 rec .no [gone])=((M.put 3 rec .no [gone]).unmark cs.length ps).put 1 rec (.mk 0) [cs.length]:=by
   rw[List.foldl_append,List.foldl_map];rfl
  revert hall hyl hfin PP
  generalize ps.map (λp=>((2:Nat),p))++[(1,rec)]=pls
  intro PP hall hyl hfin
  refine⟨l2,rfl,.inl ⟨⟨_,SqL.of el2⟩,K4 (xs:=vs.map V.ref) (Vx a X cs tks M rec gone u0 ml pls H6)
   ⟨⟨[ch],rfl,I4.same s6,by rw[s6 _ _ em4];simp[BE,List.range_succ],λy o e _=>e⟩,_,rfl⟩ (λi σ H' _ ⟨⟨_,_,_,_,sb'⟩,_⟩=>SqL.of (sb' _ _ el2 ?_)) (λi x σ H7 hx ⟨⟨ex,NT,I7,em7,sb7⟩,y6,ez⟩=> ?_) (λσ H7 ⟨⟨ex,NT,I7,em7,sb7⟩,y6,ez⟩=> ?_)⟩⟩
  ·rintro (y | y)
   ·exact hl2F y
   ·exact nlm y
  ·subst ez
   have hi:=(List.getElem?_eq_some_iff.mp hx).1
   rw[List.length_map]at hi
   have hip:i<pls.length:=by rw[<-PP.length];exact hi
   have ey:=List.getElem?_eq_getElem hip
   obtain⟨u',eu',hu'⟩:=K6 PP ey
   rw[List.getElem?_map,eu']at hx
   cases hx
   obtain⟨hk12,hky⟩:=hall _ (List.mem_of_getElem? ey)
   have etk:pls.take (i+1)=pls.take i++[pls[i]]:=by rw[List.take_add_one,ey];rfl
   revert etk hk12 hky hu'
   generalize pls[i]=y
   intro hu' hk12 hky etk
   obtain⟨dx7,ho7⟩:=I7.ob
   obtain⟨db7,eb7⟩:=I7.bk.bk.ob
   push_cast[↓Ky]
   have k67:∀ b xs,H6 b=some (.tup xs)->H7 b=some (.tup xs):=λb xs e=>sb7 _ _ e λz=>z.elim (λz=>((I4.same s6).bk.loose z).1 _ e) λz=>by rw[z,s6 _ _ em4]at e;cases e
   refine⟨.inl ⟨rfl,_,SqL.of em7⟩,_,_,_,ho7,TS.cl,TS.n2,_,HK,X.S.A.b,rfl,_,_,eb7,DT (by decide +kernel),by decide,λn8 hn8=> ?_⟩
   have s8:=AQ (o:=.lst [V.int cs.length]) hn8
   refine G3 (ns:=[(cs.length:Int)]) T4' (I7.same s8) (kind:=y.1) (x:=.mk 0) (by omega) hky (s8 _ _ (k67 _ _ hu')) AF (by simp) (by simp;omega) (λx hx=>by rw[List.mem_singleton.mp hx];exact⟨by omega,by simp;omega⟩) trivial rfl (by rcases hk12 with z | z<;>rw[z]<;>exact Nat.zero_le _) λch9 H9 I9 L5=> ?_
   have em9:=L5 _ _ (s8 _ _ em7) fml
   refine⟨ml,_,_,rfl,rfl,em9,Nat.lt_of_lt_of_le (show(BE ((List.range (i+1)).map (cs.length+·))).length<1000 by simp[BE];omega) (by decide),?_⟩
   refine⟨⟨ex++[ch9],by simp[NT],by have:=I9.lput (ys:=BE ((List.range (i+1)).map (cs.length+·))++[V.int ((cs++ex).length:Nat)]) em9 fml;rw[etk,List.foldl_append,<-List.append_assoc];exact this,by rw[AF];simp[BE,List.range_succ,NT],λb o e n=> ?_⟩,_,rfl⟩
   rw[AH λz=>n (.inr z)]
   exact L5 _ _ (s8 _ _ (sb7 _ _ e n)) λz=>n (.inl z)
  ·subst ez
   push_cast[↓Lb]
   have hvl:=PP.length
   rw[List.length_map,hvl,hyl]at NT em7
   rw[List.length_map,hvl,List.take_length,hfin]at I7
   refine q ex ml H7 hmlH em7 NT I7 λy o e n=> ?_
   exact sb7 _ _ (s6 _ _ (sb4 _ _ e n)) λy'=>y'.elim n λz=>by rw[z,hmlH]at e;cases e
theorem KL{X:SX}{cs:List Ch}{tks:List (AM × V)}{M:Hs}{H':Hp}{l:Addr}(I:X.at a H' cs tks M)(sb:SameBut (λx=>X.S.A.F x\/x=X.S.tk) H H')(hl:H' l=none):H l=none:=by
 cases e:H l with
 | none=>rfl
 | some o =>
  have:=sb _ _ e λz=>z.elim (I.bk.off hl) λz=>by rw[z,I.tk]at hl;cases hl
  rw[hl]at this
  cases this
theorem Vz(h:QD K a vs H Q E):WE K a (λ_=>E) (BB Q) (A8 ["self","name","record","cell","mark","stands"] vs) H:=by
 obtain⟨X,cs,tks,M,z,rfl,T4,I,hzl,hcs,q,q1,q2,q3⟩:=h
 have T4':=T4
 obtain⟨dx,ho⟩:=I.ob
 have hm1:AX X.n X.r X.c X.w 1=X.r * X.w:=by simp[AX]
 have hm0:AX X.n X.r X.c X.w 0=X.m0:=by simp[AX]
 have hm3:AX X.n X.r X.c X.w 3=X.r * X.w:=by simp[AX]
 push_cast[WE,↓Lw]
 refine⟨_,_,ho,CA (by decide +kernel),by decide,λgl hgl=> ?_⟩
 have s1:=AQ (o:=.lst [V.str z]) hgl
 refine⟨X,cs,tks,M,z,gl,[z],rfl,T4,I.same s1,AF,by simp,λy hy=>by rw[List.mem_singleton.mp hy];exact hzl,λhb hc H2 s2=> ?_,λhb H2 s2=>q1 (by simpa using hb) _ (s1.trans s2),λhb hc H2 s2=>q2 (by simpa using hb) hc _ (s1.trans s2)⟩
 have hb:BM z=true:=by simpa using hb
 have C4:=s1.trans s2
 clear s1 s2 hgl
 obtain⟨T,TP,TL,TS⟩:=T4
 push_cast[↓Lx]
 refine⟨_,_,_,C4 _ _ ho,TS.cl,TS.n1,_,G2,_,_,_,C4 _ _ ho,TS.cl,TS.n2,_,HK,X.S.lp,X.S.A.b,rfl,QZ T4' (I.same C4) (by decide) (λrec er NO H3 s3=> ?_) λer H3 s3=>q3 hb hc (.inl (by rw[<-hm1];exact er)) _ (C4.trans s3)⟩
 rw[hm1]at er NO
 have s13:=C4.trans s3
 clear C4 s3
 push_cast[↓Ly]
 refine⟨_,_,_,s13 _ _ ho,TS.cl,TS.n1,_,G2,_,_,_,s13 _ _ ho,TS.cl,TS.n2,_,HK,X.S.lp,X.S.A.b,rfl,QZ T4' (I.same s13) (by decide) (λcell ec BJ H4 s4=> ?_) λer H3 s3=>q3 hb hc (.inr (by rw[<-hm0];exact er)) _ (s13.trans s3)⟩
 rw[hm0]at ec BJ
 have s14:=s13.trans s4
 have I4:=I.same s14
 clear s13 s4
 obtain⟨dx4,ho4⟩:=I4.ob
 obtain⟨dl4,el4⟩:=I4.ly.ob
 obtain⟨db4,eb4⟩:=I4.bk.bk.ob
 push_cast[↓Lz]
 refine IK TS (ho4) (eb4) (DT (by decide +kernel)) (HL TS (ho4) (el4) (BX (by decide +kernel)) (WW TL (I4.ly) λu hu=>⟨by decide,λl0 hl0=> ?_⟩))
 have sa:=AQ (o:=.tup [.int (X.n+X.r+X.c+(rec:Int) / X.w),.int ((rec:Int) % X.w)]) hu
 have sb:=AQ (o:=.lst []) hl0
 have eu:=sb _ _ (show upd H4 u (.tup [.int (X.n+X.r+X.c+(rec:Int) / X.w),.int ((rec:Int) % X.w)]) u=some (.tup [.int (A0 X.n X.r X.c X.w 1 rec:Nat),.int (rec % X.w:Nat)]) by rw[AF];simp[A0])
 have el0:upd (upd H4 u (.tup [.int (X.n+X.r+X.c+(rec:Int) / X.w),.int ((rec:Int) % X.w)])) l0 (.lst []) l0=some (.lst (([]:List Int).map V.int)):=AF
 have s5:=sa.trans sb
 revert eu el0 s5
 clear sa sb
 generalize upd (upd H4 u (.tup [.int (X.n+X.r+X.c+(rec:Int) / X.w),.int ((rec:Int) % X.w)])) l0 (.lst [])=H5
 intro eu el0 s5
 refine G3 T4' (I4.same s5) (kind:=1) (x:=.mk 1) (by decide) (by rw[hm1];exact NO) eu el0 (by simp) (by omega) (λx hx=>by cases hx) trivial rfl (Nat.le_refl _) λc1 H6 I6 sb6=> ?_
 obtain⟨dx6,ho6⟩:=I6.ob
 obtain⟨dl6,el6⟩:=I6.ly.ob
 obtain⟨db6,eb6⟩:=I6.bk.bk.ob
 push_cast[↓Mb]
 refine IK TS (ho6) (eb6) (DT (by decide +kernel)) (HL TS (ho6) (el6) (BX (by decide +kernel)) (KK TL (I6.ly) λu2 hu2=> ?_))
 push_cast[]
 refine⟨by decide,λe6 he6=>⟨by decide,λt6 ht6=>⟨by decide,λl6 hl6=> ?_⟩⟩⟩
 have sa:=AQ (o:=.tup [.int (X.n+(rec:Int) / X.w),.int ((rec:Int) % X.w)]) hu2
 have sb:=AQ (o:=.tup []) he6
 have sc:=AQ (o:=.tup [.int 1,.ref e6]) ht6
 have sd:=AQ (o:=.lst [.int cs.length]) hl6
 have s67:=((sa.trans sb).trans sc).trans sd
 have f1:=sd _ _ (sc _ _ (sb _ _ (show upd H6 u2 (.tup [.int (X.n+(rec:Int) / X.w),.int ((rec:Int) % X.w)]) u2=some (.tup [.int (A0 X.n X.r X.c X.w 3 rec:Nat),.int (rec % X.w:Nat)]) by rw[AF];simp[A0])))
 have f2:=sd _ _ (sc _ _ (AF (H:=upd H6 u2 (.tup [.int (X.n+(rec:Int) / X.w),.int ((rec:Int) % X.w)])) (a:=e6) (o:=.tup [])))
 have f3:=sd _ _ (AF (H:=upd (upd H6 u2 (.tup [.int (X.n+(rec:Int) / X.w),.int ((rec:Int) % X.w)])) e6 (.tup [])) (a:=t6) (o:=.tup [.int 1,.ref e6]))
 have f4:=AF (H:=upd (upd (upd H6 u2 (.tup [.int (X.n+(rec:Int) / X.w),.int ((rec:Int) % X.w)])) e6 (.tup [])) t6 (.tup [.int 1,.ref e6])) (a:=l6) (o:=.lst [.int cs.length])
 revert s67 f1 f2 f3 f4
 generalize upd (upd (upd (upd H6 u2 (.tup [.int (X.n+(rec:Int) / X.w),.int ((rec:Int) % X.w)])) e6 (.tup [])) t6 (.tup [.int 1,.ref e6])) l6 (.lst [.int cs.length])=H7
 clear sa sb sc sd
 intro s67 f1 f2 f3 f4
 refine G3 (ns:=[(cs.length:Int)]) T4' (I6.same s67) (kind:=3) (x:=.rc 1 []) (by decide) (by rw[hm3];exact NO) f1 f4 (by simp) (by simp;omega) (λx hx=>by rw[List.mem_singleton.mp hx];exact⟨by omega,by simp;omega⟩) (WY (ps:=[]) f3 f2 (by simp)) ⟨t6,e6,rfl,f3,f2⟩ trivial λc2 H8 I8 sb8=> ?_
 obtain⟨dx8,ho8⟩:=I8.ob
 push_cast[↓Mc]
 have BT:(cs++[c1]).length=cs.length+1:=by simp
 rw[BT]
 refine⟨_,_,ho8,CA (by decide +kernel),X,_,tks,_,cell,rec,cs.length+1,z,rfl,T4',I8,BJ,by simp,by simp;omega,oO hb,λc3 H9 I9 L5=>⟨by decide,λl hl=> ?_⟩⟩
 have sl:=AQ (o:=.lst [V.int cs.length,V.int (cs.length+1:Nat),V.int ((cs++[c1]++[c2]).length:Nat)]) hl
 have sbH:SameBut (λx=>X.S.A.F x\/x=X.S.tk) H H9:=λy o e n=>L5 _ _ (sb8 _ _ (s67 _ _ (sb6 _ _ (s5 _ _ (s14 _ _ e)) λz=>n (.inl z))) λz=>n (.inl z)) λz=>n (.inl z)
 exact q hb hc rec cell er ec NO BJ [c1,c2,c3] l _ rfl (KL I9 sbH hl) (by rw[AF];simp[BE,List.range_succ]) (by have:=I9.same sl;simpa using this) λy o e n=>sl _ _ (sbH _ _ e n)
theorem Wb(h:LP K a vs H Q E):WF K a (λ_=>E) (BB Q) (A8 ["self","old","new","record","cell","more"] vs) H:=by
 obtain⟨X,cs,tks,M,y,z,rfl,T4,I,hyl,hzl,hcs,q,q1,q2,q3,q4⟩:=h
 have T4':=T4
 obtain⟨dx,ho⟩:=I.ob
 have hm0:AX X.n X.r X.c X.w 0=X.m0:=by simp[AX]
 push_cast[WF,↓Mg]
 refine⟨_,_,ho,CA (by decide +kernel),by decide,λgl hgl=> ?_⟩
 have s1:=AQ (o:=.lst [V.str y,V.str z]) hgl
 refine⟨X,cs,tks,M,z,gl,[y,z],rfl,T4,I.same s1,AF,by simp,λx hx=> ?_,λhb hc H2 s2=> ?_,λhb H2 s2=>q1 (by simpa using hb) _ (s1.trans s2),λhb hc H2 s2=> ?_⟩
 ·simp only[List.mem_cons,List.not_mem_nil,or_false]at hx
  rcases hx with rfl | rfl
  ·exact hyl
  ·exact hzl
 ·have hb:BM y=true/\BM z=true:=by simpa using hb
  have C4:=s1.trans s2
  clear s1 s2 hgl
  obtain⟨T,TP,TL,TS⟩:=T4
  push_cast[↓Mh]
  refine⟨_,_,C4 _ _ ho,CA (by decide +kernel),X,cs,tks,M,y,rfl,T4',I.same C4,λold rec eo hol eM H3 s3=> ?_,λeo H3 s3=>q3 hb.1 hb.2 hc eo _ (C4.trans s3)⟩
  have s13:=C4.trans s3
  clear C4 s3
  push_cast[↓Mj]
  refine⟨_,_,_,s13 _ _ ho,TS.cl,TS.n1,_,G2,_,_,_,s13 _ _ ho,TS.cl,TS.n2,_,HK,X.S.lp,X.S.A.b,rfl,QZ T4' (I.same s13) (by decide) (λcell ec BJ H4 s4=> ?_) λer H3 s3=>q4 hb.1 hb.2 hc ⟨old,eo⟩ (by rw[<-hm0];exact er) _ (s13.trans s3)⟩
  rw[hm0]at ec BJ
  obtain⟨hr,m,ps,eR,hps,q⟩:=q hb.1 hb.2 hc old rec cell eo hol eM
  have s14:=s13.trans s4
  have I4:=I.same s14
  push_cast[↓Ml]
  refine⟨_,_,s14 _ _ ho,CA (by decide +kernel),by decide,λl0 hl0=> ?_⟩
  have s5:=AQ (o:=.lst []) hl0
  refine⟨X,cs,tks,M,rec,m,m+1,1,ps,l0,[],rfl,T4',I4.same s5,hr,eR,by omega,hps,AF,by simp,(λx hx=>by cases hx),by omega,λc1 H6 I6 sb6=> ?_⟩
  obtain⟨dx6,ho6⟩:=I6.ob
  push_cast[↓Mm]
  refine⟨_,_,ho6,CA (by decide +kernel),X,_,tks,_,cell,rec,cs.length,z,rfl,T4',I6,BJ,by simp,by simp;omega,oO hb.2,λc2 H7 I7 sb7=>⟨by decide,λl hl=> ?_⟩⟩
  have sl:=AQ (o:=.lst [V.int cs.length,V.int ((cs++[c1]).length:Nat)]) hl
  have sbH:SameBut (λx=>X.S.A.F x\/x=X.S.tk) H H7:=λy o e n=>sb7 _ _ (sb6 _ _ (s5 _ _ (s14 _ _ e)) λz=>n (.inl z)) λz=>n (.inl z)
  exact q ec BJ [c1,c2] l _ rfl (KL I7 sbH hl) (by rw[AF];simp[BE,List.range_succ]) (by have:=I7.same sl;simpa using this) λy o e n=>sl _ _ (sbH _ _ e n)
 ·have hb:BM y=true/\BM z=true:=by simpa using hb
  exact q2 hb.1 hb.2 hc _ (s1.trans s2)
theorem Wc(n d:Nat):BE ((List.range (d+1)).map (n+·))=[V.int n]++BE ((List.range d).map (n+1+·)):=by
 rw[List.range_succ_eq_map]
 simp[BE,Nat.add_assoc,Nat.add_comm 1]
theorem Wd(h:QE K a vs H Q E):WG K a (λ_=>E) (BB Q) (A8 ["self","name","record","gone"] vs) H:=by
 obtain⟨X,cs,tks,M,z,rfl,T4,I,hcs,q,q1⟩:=h
 obtain⟨dx,ho⟩:=I.ob
 push_cast[WG,↓Mp]
 refine⟨_,_,ho,CA (by decide +kernel),X,cs,tks,M,z,rfl,T4,I,λcell rec ec BJ eM H1 s1=> ?_,λeo H3 s3=>q1 eo _ s3⟩
 obtain⟨hr,m,ps,eR,hps,CF,q2,q3⟩:=q cell rec ec BJ eM
 have I1:=I.same s1
 push_cast[↓Mq]
 refine⟨_,_,s1 _ _ ho,CA (by decide +kernel),by decide,λl0 hl0=> ?_⟩
 have s2:=AQ (o:=.lst []) hl0
 refine⟨X,cs,tks,M,cell,z,l0,[],rfl,T4,I1.same s2,ec,BJ,AF,by simp,(λx hx=>by cases hx),by omega,λc1 H3 I3 NQ=> ?_⟩
 obtain⟨dx3,ho3⟩:=I3.ob
 have sb:SameBut (λx=>X.S.A.F x\/x=X.S.tk) H H3:=λy o e n=>NQ _ _ (s2 _ _ (s1 _ _ e)) n
 have eR':(M.put 0 cell .no (IJ [])) 3 rec=.rc m ps:=by rw[Hs.put_at,if_neg (by omega)];exact eR
 push_cast[↓Mw]
 refine⟨_,_,ho3,CA (by decide +kernel),X,_,_,_,rec,rfl,T4,I3,hr,λv H4 rv s4=> ?_⟩
 rw[eR']at rv
 obtain⟨t0,u0,rfl,D3,E7⟩:=rv
 have I4:=I3.same s4
 refine CT D3 (n:=0) rfl rfl ?_
 push_cast[]
 split
 ·rename_i hm
  push_cast[↓Mv]
  refine⟨_,_,s4 _ _ ho3,CA (by decide +kernel),by decide,λl5 hl5=> ?_⟩
  have s5:=AQ (o:=.lst [V.int cs.length]) hl5
  refine⟨X,_,_,_,rec,m,m - 1,-1,ps,l5,[(cs.length:Int)],rfl,T4,I4.same s5,hr,eR',by omega,by omega,AF,by simp,(λx hx=>by rw[List.mem_singleton.mp hx];exact⟨by omega,by simp;omega⟩),by simp;omega,λc2 H6 I6 sb6=>⟨by decide,λl hl=> ?_⟩⟩
  have sl:=AQ (o:=.lst [V.int cs.length,V.int ((cs++[c1]).length:Nat)]) hl
  have sbH:SameBut (λx=>X.S.A.F x\/x=X.S.tk) H H6:=λy o e n=>sb6 _ _ (s5 _ _ (s4 _ _ (sb _ _ e n))) λz=>n (.inl z)
  exact q2 (by omega) [c1,c2] l _ rfl (KL I6 sbH hl) (by rw[AF];simp[BE,List.range_succ]) (by have:=I6.same sl;simpa using this) λy o e n=>sl _ _ (sbH _ _ e n)
 ·rename_i hm
  push_cast[↓Mx]
  refine⟨by decide,λl5 hl5=> ?_⟩
  have s5:=AQ (o:=.lst [V.int cs.length]) hl5
  have I5:=I4.same s5
  refine⟨_,_,s5 _ _ (s4 _ _ ho3),CA (by decide +kernel),X,_,_,_,rec,m,cs.length,ps,rfl,T4,I5,hr,eR',by simp,hps,CF,by simp;omega,λex l H6 hl6 el6 hex I6 sb6=>.inl ?_⟩
  have f5:¬ X.S.A.F l5:=I4.bk.off hl5
  refine⟨l5,l,_,_,rfl,rfl,sb6 _ _ AF f5,el6,CS _ (by simp[BE];omega),λl7 hl7=> ?_⟩
  have sl:=AQ (o:=.lst ([V.int cs.length]++BE ((List.range (ps.length+2)).map ((cs++[c1]).length+·)))) hl7
  have sbH:SameBut (λx=>X.S.A.F x\/x=X.S.tk) H H6:=λy o e n=>sb6 _ _ (s5 _ _ (s4 _ _ (sb _ _ e n))) λz=>n (.inl z)
  exact q3 (by omega) (c1::ex) l7 _ (by simp[hex]) (KL I6 sbH hl7) (by rw[AF,Wc cs.length (ps.length+2)];simp) (by have:=I6.same sl;simpa using this) λy o e n=>sl _ _ (sbH _ _ e n)
theorem cat_tup{b d:Addr}{xs ys:List V}(h1:H b=some (.tup xs))(h2:H d=some (.tup ys))(hy:ys≠[])(hl:xs.length+ys.length<=1000)(q:∀ p H',Same H H'->H' p=some (.tup (xs++ys))->Q (.ref p) H'):BQ K (.ref b) (.ref d) H Q:=by
 rw[SK]
 by_cases hx:xs=[]
 ·subst hx
  exact .inr (.inr ⟨b,d,ys,rfl,rfl,SqT.of h1,SqT.of h2,q d H (Same.refl _) h2⟩)
 ·exact .inr (.inl ⟨b,d,xs,ys,rfl,rfl,SqT.of h1,SqT.of h2,hx,CS _ (by omega),λe=>absurd e hy,λ_ p hp=>q p _ (AQ hp) AF⟩)
theorem Wg(h:QF K a vs H Q E):WH K a (λ_=>E) (BB Q) (A8 ["self","name","text","record","piece","mark","filled"] vs) H:=by
 obtain⟨X,cs,tks,M,z,t,rfl,T4,I,htl,hts,hcs,q,q1,q2,q3⟩:=h
 have T4':=T4
 obtain⟨dx,ho⟩:=I.ob
 have hm2:AX X.n X.r X.c X.w 2=X.c * X.w:=by simp[AX]
 have hm4:AX X.n X.r X.c X.w 4=X.c * X.w:=by simp[AX]
 push_cast[WH,↓My]
 refine⟨_,_,ho,CA (by decide +kernel),X,cs,tks,M,z,rfl,T4,I,λcell rec ec BJ eM H1 s1=> ?_,λeo H3 s3=>q1 eo _ s3⟩
 obtain⟨T,TP,TL,TS⟩:=T4
 push_cast[↓Nb]
 refine⟨t,rfl,htl,λH2 s2=> ?_⟩
 have C4:=s1.trans s2
 cases hb:LI t with
 | false =>
  push_cast[↓Mz]
  exact⟨by decide,q2 ⟨cell,ec⟩ hb _ C4⟩
 | true =>
  push_cast[↓Nd]
  refine⟨_,_,_,C4 _ _ ho,TS.cl,TS.n1,_,G2,_,_,_,C4 _ _ ho,TS.cl,TS.n2,_,HK,X.S.lp,X.S.A.b,rfl,QZ T4' (I.same C4) (by decide) (λp ep CF H4 s4=> ?_) λer H3 s3=>q3 ⟨cell,ec⟩ hb (by rw[<-hm2];exact er) _ (C4.trans s3)⟩
  rw[hm2]at ep CF
  obtain⟨hr,m,ps,eR,hps,q⟩:=q cell rec ec BJ eM hb p ep CF
  have s14:=C4.trans s4
  have I4:=I.same s14
  clear s1 s2 C4 s4
  obtain⟨dx4,ho4⟩:=I4.ob
  obtain⟨dl4,el4⟩:=I4.ly.ob
  obtain⟨db4,eb4⟩:=I4.bk.bk.ob
  push_cast[↓Ng]
  refine IK TS (ho4) (eb4) (DT (by decide +kernel)) (HL TS (ho4) (el4) (BX (by decide +kernel)) (oR TL (I4.ly) λu hu=>⟨by decide,λl0 hl0=> ?_⟩))
  have sa:=AQ (o:=.tup [.int (X.n+X.r+X.c+X.r+(p:Int) / X.w),.int ((p:Int) % X.w)]) hu
  have sb:=AQ (o:=.lst []) hl0
  have eu:=sb _ _ (show upd H4 u (.tup [.int (X.n+X.r+X.c+X.r+(p:Int) / X.w),.int ((p:Int) % X.w)]) u=some (.tup [.int (A0 X.n X.r X.c X.w 2 p:Nat),.int (p % X.w:Nat)]) by rw[AF];simp[A0])
  have el0:upd (upd H4 u (.tup [.int (X.n+X.r+X.c+X.r+(p:Int) / X.w),.int ((p:Int) % X.w)])) l0 (.lst []) l0=some (.lst (([]:List Int).map V.int)):=AF
  have s5:=sa.trans sb
  revert eu el0 s5
  clear sa sb
  generalize upd (upd H4 u (.tup [.int (X.n+X.r+X.c+X.r+(p:Int) / X.w),.int ((p:Int) % X.w)])) l0 (.lst [])=H5
  intro eu el0 s5
  refine G3 T4' (I4.same s5) (kind:=2) (x:=.mk 1) (by decide) (by rw[hm2];exact CF) eu el0 (by simp) (by omega) (λx hx=>by cases hx) trivial rfl (Nat.le_refl _) λc1 H6 I6 sb6=> ?_
  obtain⟨dx6,ho6⟩:=I6.ob
  obtain⟨dl6,el6⟩:=I6.ly.ob
  obtain⟨db6,eb6⟩:=I6.bk.bk.ob
  push_cast[↓Nh]
  refine IK TS (ho6) (eb6) (DT (by decide +kernel)) (HL TS (ho6) (el6) (BX (by decide +kernel)) (oQ TL (I6.ly) λu2 hu2=>⟨by decide,λl6 hl6=> ?_⟩))
  have sa:=AQ (o:=.tup [.int (X.n+X.r+(p:Int) / X.w),.int ((p:Int) % X.w)]) hu2
  have sb:=AQ (o:=.lst [.int cs.length]) hl6
  have f1:=sb _ _ (show upd H6 u2 (.tup [.int (X.n+X.r+(p:Int) / X.w),.int ((p:Int) % X.w)]) u2=some (.tup [.int (A0 X.n X.r X.c X.w 4 p:Nat),.int (p % X.w:Nat)]) by rw[AF];simp[A0])
  have f4:=AF (H:=upd H6 u2 (.tup [.int (X.n+X.r+(p:Int) / X.w),.int ((p:Int) % X.w)])) (a:=l6) (o:=.lst [.int cs.length])
  have s67:=sa.trans sb
  revert s67 f1 f4
  generalize upd (upd H6 u2 (.tup [.int (X.n+X.r+(p:Int) / X.w),.int ((p:Int) % X.w)])) l6 (.lst [.int cs.length])=H7
  clear sa sb
  intro f1 f4 s67
  refine G3 (ns:=[(cs.length:Int)]) T4' (I6.same s67) (kind:=4) (x:=.tx t) (by decide) (by rw[hm4];exact CF) f1 f4 (by simp) (by simp;omega) (λx hx=>by rw[List.mem_singleton.mp hx];exact⟨by omega,by simp;omega⟩) hts rfl trivial λc2 H8 I8 sb8=> ?_
  obtain⟨dx8,ho8⟩:=I8.ob
  have eR':((M.put 2 p (.mk 1) (IJ [])).put 4 p (.tx t) (IJ [(cs.length:Int)])) 3 rec=.rc m ps:=by rw[Hs.put_at,if_neg (by omega),Hs.put_at,if_neg (by omega)];exact eR
  push_cast[↓Nj]
  refine⟨_,_,ho8,CA (by decide +kernel),_,_,ho8,CA (by decide +kernel),X,_,tks,_,rec,rfl,T4',I8,hr,λv H9 rv s9=> ?_⟩
  rw[eR']at rv
  obtain⟨t0,u0,rfl,D3,E7⟩:=rv
  have BT:(cs++[c1]).length=cs.length+1:=by simp
  refine CT D3 (n:=1) rfl rfl ⟨by decide,λt9 ht9=> ?_⟩
  have sa:=AQ (o:=.tup [V.int p]) ht9
  refine cat_tup (sa _ _ E7) AF (by simp) (by simp[BE];omega) λpp H10 s10 epp=>⟨by decide,λl10 hl10=> ?_⟩
  have s11:=(s9.trans sa).trans s10
  have sc:=AQ (o:=.lst [V.int ((cs++[c1]).length:Nat)]) hl10
  have C4:=s11.trans sc
  refine⟨X,_,tks,_,rec,m,ps,ps++[p],pp,l10,[((cs++[c1]).length:Int)],rfl,T4',I8.same C4,hr,eR',sc _ _ (by rw[epp];simp[BE]),by simp;omega,AF,by simp,(λx hx=>by rw[List.mem_singleton.mp hx];exact⟨by omega,by simp⟩),by simp;omega,λc3 H13 I13 sb13=>⟨by decide,λl hl=> ?_⟩⟩
  have sl:=AQ (o:=.lst [V.int cs.length,V.int ((cs++[c1]).length:Nat),V.int ((cs++[c1]++[c2]).length:Nat)]) hl
  have sbH:SameBut (λx=>X.S.A.F x\/x=X.S.tk) H H13:=λy o e n=>sb13 _ _ (C4 _ _ (sb8 _ _ (s67 _ _ (sb6 _ _ (s5 _ _ (s14 _ _ e)) λz=>n (.inl z))) λz=>n (.inl z))) λz=>n (.inl z)
  exact q [c1,c2,c3] l _ rfl (KL I13 sbH hl) (by rw[AF];simp[BE,List.range_succ]) (by have:=I13.same sl;simpa using this) λy o e n=>sl _ _ (sbH _ _ e n)
theorem Wh{b d:Addr}{xs ys:List V}(h1:H b=some (.tup xs))(h2:H d=some (.tup ys))(hl:xs.length+ys.length<=1000)(q:∀ p H',Same H H'->H' p=some (.tup (xs++ys))->Q (.ref p) H'):BQ K (.ref b) (.ref d) H Q:=by
 by_cases hy:ys=[]
 ·subst hy
  rw[SK]
  by_cases hx:xs=[]
  ·subst hx
   exact .inr (.inr ⟨b,d,[],rfl,rfl,SqT.of h1,SqT.of h2,q d H (Same.refl _) h2⟩)
  ·exact .inr (.inl ⟨b,d,xs,[],rfl,rfl,SqT.of h1,SqT.of h2,hx,CS _ (by omega),λ_=>q b H (Same.refl _) (by rw[h1];simp),λe=>absurd rfl e⟩)
 ·exact cat_tup h1 h2 hy hl q
theorem Wj(h:QH K a vs H Q E):WI K a (λ_=>E) (BB Q) (A8 ["self","name","at","record","pieces","without"] vs) H:=by
 obtain⟨X,cs,tks,M,z,x,rfl,T4,I,hcs,q,q1⟩:=h
 have T4':=T4
 obtain⟨dx,ho⟩:=I.ob
 push_cast[WI,↓Nk]
 refine⟨_,_,ho,CA (by decide +kernel),X,cs,tks,M,z,rfl,T4,I,λcell rec ec BJ eM H1 s1=> ?_,λeo H3 s3=>q1 eo _ s3⟩
 obtain⟨hr,m,ps,eR,hps,q2,q3⟩:=q cell rec ec BJ eM
 push_cast[↓Nl]
 refine⟨_,_,s1 _ _ ho,CA (by decide +kernel),X,cs,tks,M,rec,rfl,T4,I.same s1,hr,λv H2 rv s2=> ?_⟩
 rw[eR]at rv
 obtain⟨t0,u0,rfl,D3,E7⟩:=rv
 refine CT D3 (n:=1) rfl rfl ?_
 have C4:=s1.trans s2
 push_cast[↓Np,↓Nm]
 split
 ·rename_i h0
  refine⟨ps.length,.inr ⟨_,SqT.of E7,by simp[BE]⟩,?_⟩
  split
  ·exact⟨by decide,q2 (by omega) _ C4⟩
  ·obtain⟨k,rfl⟩:∃ k:Nat,x=k:=⟨x.toNat,by omega⟩
   have hk:k<ps.length:=by omega
   have ek:=List.getElem?_eq_getElem hk
   obtain⟨hp,q3⟩:=q3 k _ rfl ek
   push_cast[↓Nq]
   refine⟨_,_,C4 _ _ ho,CA (by decide +kernel),?_⟩
   have e1:HT.sIx (BE ps).length (BE ps).length (some (k:Int))=k:=by
    show(if(k:Int)<0 then((k:Int)+((BE ps).length:Int)).toNat else min (k:Int).toNat (BE ps).length)=_
    rw[if_neg (by omega)]
    simp[BE]
    omega
   have e2:HT.sIx (BE ps).length 0 (some ((k:Int)+1))=k+1:=by
    show(if((k:Int)+1)<0 then((k:Int)+1+((BE ps).length:Int)).toNat else min ((k:Int)+1).toNat (BE ps).length)=_
    rw[if_neg (by omega)]
    simp[BE]
    omega
   have hnl:(BE ps).length=ps.length:=by simp[BE]
   refine .inr ⟨u0,_,rfl,SqT.of E7,λy=>by rw[e1]at y;omega,λp1 Q7=> ?_⟩
   have sa:=AQ (o:=.tup (EQ (BE ps) none (some (k:Int)))) Q7
   refine .inr ⟨u0,_,rfl,SqT.of (sa _ _ E7),λy=>by rw[e2]at y;omega,λp2 HQ=> ?_⟩
   have sb:=AQ (o:=.tup (EQ (BE ps) (some ((k:Int)+1)) none)) HQ
   have c1:EQ (BE ps) none (some (k:Int))=BE (ps.take k):=by rw[zS _ (by omega),Int.toNat_natCast];simp[BE]
   have c2:EQ (BE ps) (some ((k:Int)+1)) none=BE (ps.drop (k+1)):=by rw[zT _ (by omega),show((k:Int)+1).toNat=k+1 by omega];simp[BE]
   rw[c1,c2]at sb
   rw[c1]at sa
   rw[c1,c2]
   have HP:(BE (ps.take k)).length+(BE (ps.drop (k+1))).length<=1000:=by simp[BE];omega
   refine Wh (sb _ _ AF) AF HP λpp H5 s5 epp=>⟨by decide,λl5 hl5=> ?_⟩
   have sc:=AQ (o:=.lst []) hl5
   have s6:=(((C4.trans sa).trans sb).trans s5).trans sc
   have epp':H5 pp=some (.tup (BE (ps.eraseIdx k))):=by rw[epp,List.eraseIdx_eq_take_drop_succ];simp[BE]
   have hel:(ps.eraseIdx k).length<=100:=by rw[List.length_eraseIdx];split<;>omega
   refine⟨X,cs,tks,M,rec,m,ps,ps.eraseIdx k,pp,l5,[],rfl,T4',I.same s6,hr,eR,sc _ _ epp',hel,AF,by simp,(λx hx=>by cases hx),by omega,λc1' H7 I7 sb7=> ?_⟩
   obtain⟨T,TP,TL,TS⟩:=T4
   obtain⟨dx7,ho7⟩:=I7.ob
   obtain⟨dl7,el7⟩:=I7.ly.ob
   obtain⟨db7,eb7⟩:=I7.bk.bk.ob
   have k7:EK _ H7:=KJ sb7 λx hx=>(I.same s6).bk.loose hx
   have eu7:=k7 _ _ ((((sa.trans sb).trans s5).trans sc) _ _ E7)
   push_cast[↓Nv]
   refine⟨_,_,_,ho7,TS.cl,TS.n2,_,HK,X.S.A.b,rfl,_,_,eb7,DT (by decide +kernel),_,_,_,ho7,TS.cl,TS.n1,_,G2,X.S.lp,rfl,_,_,el7,BX (by decide +kernel),CT eu7 (n:=k) rfl (by unfold BE;rw[List.getElem?_map,ek];rfl) ?_⟩
   refine⟨X.S.lp,X.n,X.r,X.c,X.w,ps[k],rfl,TL,I7.ly,λu hu=>⟨by decide,λl8 hl8=> ?_⟩⟩
   have hm2:AX X.n X.r X.c X.w 2=X.c * X.w:=by simp[AX]
   have sd:=AQ (o:=.tup [.int (X.n+X.r+X.c+X.r+(ps[k]:Int) / X.w),.int ((ps[k]:Int) % X.w)]) hu
   have se:=AQ (o:=.lst [.int cs.length]) hl8
   have f1:=se _ _ (show upd H7 u (.tup [.int (X.n+X.r+X.c+X.r+(ps[k]:Int) / X.w),.int ((ps[k]:Int) % X.w)]) u=some (.tup [.int (A0 X.n X.r X.c X.w 2 ps[k]:Nat),.int (ps[k] % X.w:Nat)]) by rw[AF];simp[A0])
   refine G3 (ns:=[(cs.length:Int)]) T4' (I7.same (sd.trans se)) (kind:=2) (x:=.mk 0) (by decide) (by rw[hm2];exact hp) f1 AF (by simp) (by simp;omega) (λx hx=>by rw[List.mem_singleton.mp hx];exact⟨by omega,by simp;omega⟩) trivial rfl (Nat.zero_le _) λc2' H9 I9 L5=>⟨by decide,λl hl=> ?_⟩
   have sl:=AQ (o:=.lst [V.int cs.length,V.int ((cs++[c1']).length:Nat)]) hl
   have sbH:SameBut (λx=>X.S.A.F x\/x=X.S.tk) H H9:=λy o e n=>L5 _ _ ((sd.trans se) _ _ (sb7 _ _ (s6 _ _ e) λz=>n (.inl z))) λz=>n (.inl z)
   exact q3 [c1',c2'] l _ rfl (KL I9 sbH hl) (by rw[AF];simp[BE,List.range_succ]) (by have:=I9.same sl;simpa using this) λy o e n=>sl _ _ (sbH _ _ e n)
 ·exact⟨by decide,q2 (by omega) _ C4⟩
theorem LU{f:Nat->Bool}{m k:Nat}(h:EF f m=k):f k=true:=by
 unfold EF at h
 cases e:(List.range m).find? f with
 | none=>rw[e]at h;simp at h
 | some k' =>
  rw[e]at h
  have:=List.find?_some e
  have:k'=k:=by simp at h;omega
  subst this
  assumption
theorem Wk{M:Hs}{m cell rec:Nat}{x:CV}{y z:Str}{n1 n2:List Nat}(hyz:y≠z)(fc:FD 0 (M 0 cell)=true):cellOf ((M.put 3 rec x n1).put 0 cell (.nm z rec) n2) m y=cellOf M m y:=by
 unfold cellOf
 refine WX λk _=> ?_
 unfold F3
 by_cases hk:k=cell
 ·subst hk
  rw[Hs.put_at,if_pos ⟨rfl,rfl⟩]
  cases e:M 0 k with
  | nm z' r'=>rw[e]at fc;simp[FD]at fc
  | _=>simp;exact λh=>hyz h.symm
 ·rw[Hs.put_at,if_neg (by omega),Hs.put_at,if_neg (by omega)]
theorem Wl(h:QI K a vs H Q E):WJ K a (λ_=>E) (BB Q) (A8 ["self","old","new","linked","record","gone"] vs) H:=by
 obtain⟨X,cs,tks,M,y,z,rfl,T4,I,hyl,hzl,hcs,q,q1,q2,q3,q4⟩:=h
 obtain⟨dx,ho⟩:=I.ob
 push_cast[WJ,↓Nx]
 refine⟨_,_,ho,CA (by decide +kernel),X,cs,tks,M,y,z,rfl,T4,I,hyl,hzl,by omega,λhy hz hc old rec cell eo hol e0=> ?_,q1,q2,q3,q4⟩
 obtain⟨hr,m,ps,e3,hps,q⟩:=q hy hz hc old rec cell eo hol e0
 refine⟨hr,m,ps,e3,hps,λec BJ ex l1 H1 hex HP el1 I1 sb1=> ?_⟩
 have q:=q ec BJ
 have hyz:y≠z:=λh=>by rw[h,hc]at eo;cases eo
 have fc:FD 0 (M 0 cell)=true:=LU ec
 have hco:old≠cell:=λh=>by rw[<-h,e0]at fc;simp[FD]at fc
 have ec1:cellOf ((M.put 3 rec (.rc (m+1) ps) []).put 0 cell (.nm z rec) (cs.length::EG tks z)) X.m0 y=some old:=by rw[Wk hyz fc];exact eo
 have e01:((M.put 3 rec (.rc (m+1) ps) []).put 0 cell (.nm z rec) (cs.length::EG tks z)) 0 old=.nm y rec:=by rw[Hs.put_at,if_neg (by omega),Hs.put_at,if_neg (by omega)];exact e0
 obtain⟨dx1,ho1⟩:=I1.ob
 have fl1:¬ X.S.A.F l1/\l1≠X.S.tk:=⟨λz=>by
  have:=I.bk.off HP
  exact this z,λz=>by rw[z,I.tk]at HP;cases HP⟩
 push_cast[↓Ny]
 refine⟨_,_,ho1,CA (by decide +kernel),X,_,tks,_,y,rfl,T4,I1,λcell' k' ec' hc' eM' H2 s2=> ?_,λe=>by rw[ec1]at e;cases e⟩
 rw[ec1]at ec'
 cases ec'
 rw[e01]at eM'
 cases eM'
 have I2:=I1.same s2
 push_cast[↓Nz]
 refine⟨_,_,s2 _ _ ho1,CA (by decide +kernel),FG (SqL.of (s2 _ _ el1)) (n:=1) (v:=.int (cs.length+1:Nat)) rfl (by simp[BE,List.range_succ]) ⟨by decide,λl3 hl3=> ?_⟩⟩
 have s3:=AQ (o:=.lst [V.int (cs.length+1:Nat)]) hl3
 have I3:=I2.same s3
 have e33:((M.put 3 rec (.rc (m+1) ps) []).put 0 cell (.nm z rec) (cs.length::EG tks z)) 3 rec=.rc (m+1) ps:=by rw[Hs.put_at,if_neg (by omega),Hs.put_at,if_pos ⟨rfl,rfl⟩]
 refine⟨X,_,tks,_,old,y,l3,[((cs.length+1:Nat):Int)],rfl,T4,I3,ec1,hol,AF,by simp,(λx hx=>by rw[List.mem_singleton.mp hx];exact⟨by omega,by simp[hex]⟩),by simp[hex];omega,λc3 H4 I4 sb4=> ?_⟩
 obtain⟨dx4,ho4⟩:=I4.ob
 have BT:(cs++ex).length=cs.length+2:=by simp[hex]
 rw[BT]
 have el4:=sb4 _ _ (s3 _ _ (s2 _ _ el1)) λz=>z.elim fl1.1 fl1.2
 push_cast[↓Pb]
 refine⟨_,_,ho4,CA (by decide +kernel),by decide,λl5 hl5=> ?_⟩
 have s5:=AQ (o:=.lst [V.int (cs.length+2:Nat)]) hl5
 have e34:(((M.put 3 rec (.rc (m+1) ps) []).put 0 cell (.nm z rec) (cs.length::EG tks z)).put 0 old .no (IJ [((cs.length+1:Nat):Int)])) 3 rec=.rc (m+1) ps:=by rw[Hs.put_at,if_neg (by omega)];exact e33
 refine⟨X,_,_,_,rec,m+1,m,-1,ps,l5,[((cs.length+2:Nat):Int)],rfl,T4,I4.same s5,hr,e34,by omega,hps,AF,by simp,(λx hx=>by rw[List.mem_singleton.mp hx];exact⟨by omega,by simp[hex]⟩),by simp[hex];omega,λc4 H6 I6 sb6=>⟨by decide,λl6 hl6=>.inl ?_⟩⟩
 have el6:=sb6 _ _ (s5 _ _ el4) fl1.1
 have s6:=AQ (o:=.lst [V.int (cs.length+2:Nat),V.int ((cs++ex++[c3]).length:Nat)]) hl6
 refine⟨l1,l6,_,_,rfl,rfl,s6 _ _ el6,AF,CS _ (by simp[BE]),λl hl=> ?_⟩
 have sl:=AQ (o:=.lst (BE ((List.range 2).map (cs.length+·))++[V.int (cs.length+2:Nat),V.int ((cs++ex++[c3]).length:Nat)])) hl
 have sbH:SameBut (λx=>X.S.A.F x\/x=X.S.tk) H (upd H6 l6 (.lst [V.int (cs.length+2:Nat),V.int ((cs++ex++[c3]).length:Nat)])):=λb o e n=>s6 _ _ (sb6 _ _ (s5 _ _ (sb4 _ _ (s3 _ _ (s2 _ _ (sb1 _ _ e n))) n)) λz=>n (.inl z))
 have h2:((cs.length:Int)+2).toNat=cs.length+2:=by omega
 exact q (ex++[c3]++[c4]) l _ (by simp[hex]) (KL (I6.same s6) sbH hl) (by rw[AF];simp[BE,List.range_succ,hex]) (by have:=(I6.same s6).same sl;simpa [List.append_assoc,hex,h2]using this) λb o e n=>sl _ _ (sbH _ _ e n)
theorem oW(C C':Nat->Bool)(hC:∀ j,C j=true->C' j=true)(kind k:Nat):∀ as:List AC,(∃ x,∀ M,sh M C' as kind k=x)\/((∀ M,sh M C' as kind k=M kind k)/\∀ M,sh M C as kind k=M kind k)
 | []=>.inr ⟨λ_=>rfl,λ_=>rfl⟩
 | b::r=>by
  have ih:=oW C C' hC kind k r
  by_cases e:kind=b.kind/\k=b.k
  ·obtain⟨rfl,rfl⟩:=e
   by_cases c:C' r.length=true
   ·exact .inl ⟨b.x,λM=>by rw[CL c,CK]⟩
   ·have c0:¬ C r.length=true:=λz=>c (hC _ z)
    rcases ih with⟨x,h⟩ | ⟨h1,h2⟩
    ·exact .inl ⟨x,λM=>by rw[D7 c];exact h M⟩
    ·exact .inr ⟨λM=>by rw[D7 c];exact h1 M,λM=>by rw[D7 c0];exact h2 M⟩
  ·have far:∀ (D:Nat->Bool) (M:Md),sh M D (b::r) kind k=sh M D r kind k:=λD M=>by
    by_cases c:D r.length=true
    ·rw[CL c];exact if_neg e
    ·rw[D7 c]
   rcases ih with⟨x,h⟩ | ⟨h1,h2⟩
   ·exact .inl ⟨x,λM=>by rw[far];exact h M⟩
   ·exact .inr ⟨λM=>by rw[far];exact h1 M,λM=>by rw[far];exact h2 M⟩
theorem Wm{C C':Nat->Bool}(hC:∀ j,C j=true->C' j=true){M:Md}{as:List AC}{kind k:Nat}:sh (sh M C as) C' as kind k=sh M C' as kind k:=by
 rcases oW C C' hC kind k as with⟨x,h⟩ | ⟨h1,h2⟩
 ·rw[h,h]
 ·rw[h1,h1,h2]
theorem Wp{cs:List Ch}{ch:Ch}{O:Int->Bool}{b:Nat}{row:List V}:ED (cs++[ch]) O b row=if ch.blk=b/\O cs.length=true then(ED cs O b row).set ch.cell ch.val else ED cs O b row:=by
 have ib:CH (cs++[ch]) b=if ch.blk=b then CH cs b++[cs.length]else CH cs b:=by simp[CH,FZ]
 have st:∀ (l:List Nat) (row:List V),(∀ k∈l,k<cs.length)->l.foldl (FH (cs++[ch]) O) row=l.foldl (FH cs O) row:=by
  intro l
  induction l with
  | nil=>intro _ _;rfl
  | cons k l ih =>
   intro row h
   rw[List.foldl_cons,List.foldl_cons,ih _ λj hj=>h j (List.mem_cons_of_mem _ hj)]
   congr 1
   unfold FH
   rw[List.getElem?_append_left (h k List.mem_cons_self)]
 have lt:∀ k∈CH cs b,k<cs.length:=λk hk=>by
  obtain⟨c,e,_⟩:=TU.mp hk
  exact(List.getElem?_eq_some_iff.mp e).1
 unfold ED
 rw[ib]
 by_cases e:ch.blk=b
 ·rw[if_pos e,List.foldl_append,st _ _ lt]
  simp only[List.foldl_cons,List.foldl_nil]
  unfold FH
  rw[List.getElem?_append_right (Nat.le_refl _),Nat.sub_self]
  by_cases o:O cs.length=true
  ·rw[if_pos o,if_pos ⟨e,o⟩];rfl
  ·rw[if_neg o,if_neg λz=>o z.2]
 ·rw[if_neg e,if_neg λz=>e z.1,st _ _ lt]
section
variable{n r c w:Nat}{cs:List Ch}{as:List AC}
theorem LaidA.len(h:LaidA n r c w H cs as):cs.length=as.length:=by
 induction h with
 | nil=>rfl
 | snoc _ _ _ _ _ _ _ ih=>rw[List.length_append,ih];rfl
theorem LaidA.cut(h:LaidA n r c w H cs as){outs:Int->Bool}(hc:O6 cs outs):FJ (λj=>outs (j:Nat)) as:=by
 induction h with
 | nil=>trivial
 | @snoc cs as ch x l e1 e2 e3 e4 e5 e6 ih =>
  refine⟨ih λk c ec=>hc k c (by rw[List.getElem?_append_left (List.getElem?_eq_some_iff.mp ec).1];exact ec),λo=> ?_⟩
  have o:outs (cs.length:Nat)=true:=by rw[l.len];exact o
  have nd:=hc cs.length ch (by rw[List.getElem?_append_right (Nat.le_refl _),Nat.sub_self];rfl) o
  exact⟨λy hy=>nd _ ((e4 _).mpr (.inl ⟨y,hy,rfl⟩)),λj hj=>nd _ ((e4 _).mpr (.inr ⟨j,hj,rfl⟩))⟩
theorem LaidA.far(h:LaidA n r c w H cs as){C C':Int->Bool}{b:Nat}(hC:∀ (j:Nat) (ch:Ch),cs[j]? =some ch->ch.blk≠b->C' j=C j){M:Md}{kind k:Nat}(hb:A0 n r c w kind k≠b):sh M (λj=>C' (j:Nat)) as kind k=sh M (λj=>C (j:Nat)) as kind k:=by
 induction h with
 | nil=>rfl
 | @snoc cs as ch x l e1 e2 e3 e4 e5 e6 ih =>
  have ih:=ih λj c ec=>hC j c (by rw[List.getElem?_append_left (List.getElem?_eq_some_iff.mp ec).1];exact ec)
  by_cases e:kind=x.kind/\k=x.k
  ·have cc:=hC cs.length ch (by rw[List.getElem?_append_right (Nat.le_refl _),Nat.sub_self];rfl) (by rw[e1,<-e.1,<-e.2];exact hb)
   rw[l.len]at cc
   by_cases o:C as.length=true
   ·rw[CL (C:=λj=>C (j:Nat)) o,CL (C:=λj=>C' (j:Nat)) (cc.trans o),e.1,e.2,CK,CK]
   ·rw[D7 (C:=λj=>C (j:Nat)) o,D7 (C:=λj=>C' (j:Nat)) (by rw[cc];exact o)];exact ih
  ·have far:∀ D:Nat->Bool,sh M D (x::as) kind k=sh M D as kind k:=λD=>by
    by_cases o:D as.length=true
    ·rw[CL o];exact if_neg e
    ·rw[D7 o]
   rw[far,far];exact ih
theorem LaidA.laid(h:LaidA n r c w H cs as){O:Int->Bool}{b:Nat}{row:List V}{S:Md}(hr:∀ kind k v,kind<5->k<AX n r c w kind->A0 n r c w kind k=b->row[k % w]? =some v->RepC H (S kind k) v):∀ kind k v,kind<5->k<AX n r c w kind->A0 n r c w kind k=b->(ED cs O b row)[k % w]? =some v->RepC H (sh S (λj=>O (j:Nat)) as kind k) v:=by
 induction h with
 | nil=>exact hr
 | @snoc cs as ch x l e1 e2 e3 e4 e5 e6 ih =>
  intro kind k v h1 hk hb hv
  rw[Wp]at hv
  have ih:=ih kind k v h1 hk hb
  by_cases e:kind=x.kind/\k=x.k
  ·obtain⟨rfl,rfl⟩:=e
   rw[e1,hb]at hv
   by_cases o:O as.length=true
   ·rw[CL (C:=λj=>O (j:Nat)) o,CK]
    rw[if_pos ⟨rfl,by rw[l.len];exact o⟩,e2]at hv
    have hl:=(List.getElem?_eq_some_iff.mp hv).1
    rw[List.length_set]at hl
    rw[List.getElem?_set_self hl]at hv
    cases hv
    exact e3
   ·rw[D7 (C:=λj=>O (j:Nat)) o]
    rw[if_neg λz=>o (by rw[<-l.len];exact z.2)]at hv
    exact ih hv
  ·have far:sh S (λj=>O (j:Nat)) (x::as) kind k=sh S (λj=>O (j:Nat)) as kind k:=by
    by_cases o:O as.length=true
    ·rw[CL (C:=λj=>O (j:Nat)) o];exact if_neg e
    ·rw[D7 (C:=λj=>O (j:Nat)) o]
   rw[far]
   refine ih ?_
   split at hv
   ·rename_i z
    have:ch.cell≠k % w:=λy=>e (by
     have:=WV (n:=n) (r:=r) (c:=c) (w:=w) h1 e5 hk e6 (by rw[hb,<-e1];exact z.1.symm) (by rw[<-y,e2])
     exact this)
    rw[List.getElem?_set_ne this]at hv
    exact hv
   ·exact hv
end
theorem RowsAre.keep{n r c w:Nat}{rows:List (List V)}{S:Md}{H':Hp}(h:RowsAre H n r c w rows S)(k:EK H H'):RowsAre H' n r c w rows S:=λkind i v h1 h2 h3=>(h kind i v h1 h2 h3).keep k
theorem RowsAre.write{n r c w b:Nat}{cs:List Ch}{as:List AC}{rows:List (List V)}{row:List V}{B:Md}{outs:Int->Bool}(h:RowsAre H n r c w rows (sh B (λj=>outs (j:Nat)) as))(l:LaidA n r c w H cs as)(er:rows[b]? =some row) :
  RowsAre H n r c w (rows.set b (ED cs (EU cs outs b) b row)) (sh B (λj=>EU cs outs b (j:Nat)) as):=λkind k v h1 hk hv=>by
 have hb:=(List.getElem?_eq_some_iff.mp er).1
 have up:∀ j:Nat,outs j=true->EU cs outs b j=true:=λj e=>by unfold EU;rw[e];rfl
 by_cases e:A0 n r c w kind k=b
 ·rw[e,List.getElem?_set_self hb]at hv
  have:=l.laid (O:=EU cs outs b) (b:=b) (row:=row) (S:=sh B (λj=>outs (j:Nat)) as) (λkind k v h1 hk e hv=>h kind k v h1 hk (by rw[e,er];exact hv)) kind k v h1 hk e hv
  rw[Wm (C:=λj=>outs (j:Nat)) (C':=λj=>EU cs outs b (j:Nat)) up]at this
  exact this
 ·rw[List.getElem?_set_ne (λz=>e z.symm)]at hv
  rw[l.far (C:=outs) (C':=EU cs outs b) (b:=b) (λj ch ej nb=> ?_) e]
  ·exact h kind k v h1 hk hv
  ·unfold EU
   have:(outcome cs outs (λ_=>false) b).out.any (λ(i:Nat)=>(j:Int) ==(i:Int))=false:=by
    rw[Bool.eq_false_iff]
    intro z
    obtain⟨i,hi,ei⟩:=List.any_eq_true.mp z
    have ei:i=j:=by have:=beq_iff_eq.mp ei;omega
    subst ei
    obtain⟨c',ec',eb⟩:=TU.mp ((TV.2.1 i hi).2)
    rw[ej]at ec'
    cases ec'
    exact nb eb
   rw[this,Bool.or_false]
theorem Wq:∀ i:Fin 26,(Str.ofString "abcdefghijklmnopqrstuvwxyz").cps.toList[i.val]? =some (97+i.val):=by decide +kernel
theorem Wv{i:Int}{n:Nat}{Q:VK}(hi:i=n)(hn:n<26)(q:Q (.str ⟨#[97+n]⟩) H):CQ K (.str (Str.ofString "abcdefghijklmnopqrstuvwxyz")) (.int i) H Q:=oK hi (by decide +kernel) (Wq ⟨n,hn⟩) q
theorem Q0{x:Int}{Q:VK}(q:∀ n:Nat,n<26->Q (.str ⟨#[97+n]⟩) H):CQ K (.str (Str.ofString "abcdefghijklmnopqrstuvwxyz")) (.int (x % 26)) H Q:=by
 obtain⟨b,eb,hb⟩:=WT x (n:=26) (by omega)
 rw[show((26:Nat):Int)=26 from rfl]at eb
 rw[eb]
 exact Wv rfl hb (q b hb)
theorem Ww(x y:Str):(x++y).cps.toList=x.cps.toList++y.cps.toList:=by
 show(x.cps++y.cps).toList=_
 simp
theorem Q1(z:Str):z.cps.toList.length=z.length:=by simp[Str.length]
theorem Wx{z:Str}{k:Nat}(h:k<=z.length):(Txt.slice z none (some (k:Int))).cps.toList=z.cps.toList.take k:=by
 rw[eq_of_beq (slice_closes_to (x:=z) (j:=(k:Int)) ⟨by omega,by rw[Q1];omega⟩)]
 simp
theorem Wy{z:Str}{k:Nat}(h:k<=z.length):(Txt.slice z (some (k:Int)) none).cps.toList=z.cps.toList.drop k:=by
 rw[eq_of_beq (slice_closes_from (x:=z) (i:=(k:Int)) ⟨by omega,by rw[Q1];omega⟩)]
 have:((z.cps.toList.length:Int) - k).toNat=(z.cps.toList.drop k).length:=by rw[List.length_drop];omega
 simp only[Int.toNat_natCast,this,List.take_length]
def Lts(z:Str)(n:Nat):Prop:=z.cps.toList.length=n/\z.cps.toList.all M6=true
theorem Lts.len{z:Str}{n:Nat}(h:Lts z n):z.length=n:=by rw[<-Q1];exact h.1
theorem Lts.cat{x y:Str}{n m:Nat}(h:Lts x n)(h':Lts y m):Lts (x++y) (n+m):=by
 unfold Lts
 rw[Ww,List.length_append,List.all_append,h.1,h'.1,h.2,h'.2]
 exact⟨rfl,rfl⟩
theorem Lts.one{n:Nat}(h:n<26):Lts ⟨#[97+n]⟩ 1:=⟨rfl,by simp[M6];omega⟩
theorem Lts.to{z:Str}{n k:Nat}(h:Lts z n)(hk:k<=n):Lts (Txt.slice z none (some (k:Int))) k:=by
 unfold Lts
 rw[Wx (by rw[h.len];exact hk)]
 refine⟨by rw[List.length_take,h.1];omega,?_⟩
 rw[List.all_eq_true]
 exact λc hc=>List.all_eq_true.mp h.2 c (List.mem_of_mem_take hc)
theorem Lts.from{z:Str}{n k:Nat}(h:Lts z n)(hk:k<=n):Lts (Txt.slice z (some (k:Int)) none) (n - k):=by
 unfold Lts
 rw[Wy (by rw[h.len];exact hk)]
 refine⟨by rw[List.length_drop,h.1],?_⟩
 rw[List.all_eq_true]
 exact λc hc=>List.all_eq_true.mp h.2 c (List.mem_of_mem_drop hc)
theorem Lts.name{z:Str}{n:Nat}(h:Lts z n)(h1:1<=n)(h8:n<=8):BM z=true:=by
 unfold BM
 rw[h.len,h.2]
 simp
 omega
theorem oX{z:Str}(h:BM z=true):Lts z z.length/\1<=z.length/\z.length<=8:=by
 unfold BM at h
 simp only[Bool.and_eq_true,decide_eq_true_eq]at h
 exact⟨⟨Q1 z,h.2⟩,h.1.1,h.1.2⟩
theorem Wz(h:QJ K a vs H Q E):UV K a (λ_=>E) (BB Q) (A8 ["cell","letters","base","rest","k","at","first","last","turned"] vs) H:=by
 obtain⟨x,rfl,q⟩:=h
 push_cast[UV,↓Cc,↓Cd,↓Cg,↓Cl]
 obtain⟨m,em,hm⟩:∃ m:Nat,1+x % 6=m/\1<=m/\m<=6:=⟨(1+x % 6).toNat,by omega,by omega⟩
 rw[em,Int.toNat_natCast]
 refine⟨⟨by decide,by decide⟩,by omega,by omega,K5 (λi σ H'=>∃ (p:Str) (rest:Int),H'=H/\Lts p i/\∃ y,σ=[some (.int x),some (.str (Str.ofString "abcdefghijklmnopqrstuvwxyz")),some (.str p),some (.int rest),y,none,none,none,none]) ⟨Str.ofString "",_,rfl,⟨by decide +kernel,by decide +kernel⟩,_,rfl⟩ (λi σ H' hi hzz=> ?_) (λσ H' hzz=> ?_)⟩
 ·obtain⟨p,rest,e,hp,y,ez⟩:=hzz
  subst e ez
  push_cast[↓Cj,↓Ck]
  have:=hp.len
  refine⟨.inl ⟨by omega,by omega⟩,⟨by decide,by decide⟩,.inl ⟨by omega,by omega⟩,Q0 λn hn=> ?_⟩
  push_cast[]
  have h1:=(Lts.one hn).len
  exact⟨CS _ (by omega),⟨by decide,by decide⟩,.inl ⟨by omega,by omega⟩,_,hp.cat (Lts.one hn),rfl⟩
 ·obtain⟨p,rest,e,hp,y,ez⟩:=hzz
  subst e ez
  have CF:=hp.len
  push_cast[↓Cm]
  refine⟨⟨by decide,by decide⟩,m,⟨CS _ (by omega),CF.symm⟩,by omega,?_⟩
  obtain⟨at',eat,hat⟩:=WT (x / 7) (n:=m) (by omega)
  rw[eat]
  push_cast[↓Cp]
  refine⟨⟨by decide,by decide⟩,Q0 λn1 hn1=> ?_⟩
  push_cast[↓Cq]
  refine⟨⟨by decide,by decide⟩,⟨by decide,by decide⟩,Q0 λn2 hn2=> ?_⟩
  push_cast[↓Cv]
  refine⟨rfl,Up (n:=at') rfl (by omega) (by omega) λc=>⟨_,_,rfl,rfl,?_⟩⟩
  push_cast[]
  refine⟨⟨by decide,by decide⟩,Q0 λn3 hn3=> ?_⟩
  push_cast[↓Cw]
  have l1:=Lts.one hn1
  have l2:=Lts.one hn2
  have l3:=Lts.one hn3
  have lt:=hp.to (k:=at') (by omega)
  have lf:=hp.from (k:=at'+1) (by omega)
  have d1:=l1.len
  have d2:=l2.len
  have d3:=l3.len
  have d4:=lt.len
  have d5:=lf.len
  have ea:((at':Nat):Int)+1=((at'+1:Nat):Int):=by omega
  rw[ea]
  have e1:=hp.cat l2
  have e2:=l1.cat hp
  have e3:=(lt.cat l3).cat lf
  have e4:=(hp.cat l2).cat l1
  refine⟨CS _ (by omega),CS _ (by omega),CS _ (by omega),CS _ (by omega),CS _ (by omega),CS _ (by rw[oN];omega),CS _ (by omega),CS _ (by rw[oN];omega),by decide,λl hl=> ?_⟩
  refine q l [p,p++(⟨#[97+n2]⟩:Str),(⟨#[97+n1]⟩:Str)++p,Txt.slice p none (some (at':Int))++(⟨#[97+n3]⟩:Str)++Txt.slice p (some ((at'+1:Nat):Int)) none,p++(⟨#[97+n2]⟩:Str)++(⟨#[97+n1]⟩:Str)] _ hl (AQ hl) (by rw[AF];rfl) rfl λz hz=> ?_
  simp only[List.mem_cons,List.not_mem_nil,or_false]at hz
  rcases hz with rfl | rfl | rfl | rfl | rfl
  ·exact hp.name (by omega) (by omega)
  ·exact e1.name (by omega) (by omega)
  ·exact e2.name (by omega) (by omega)
  ·exact e3.name (by omega) (by omega)
  ·exact e4.name (by omega) (by omega)
def NB:Str:=Str.ofString " !\"#$&'()*+,-./0123456789:;<=>?@ABCDEFGHIJKLMNOPQRSTUVWXYZ[\\]^_`"++Str.ofString "abcdefghijklmnopqrstuvwxyz{|}~"
theorem Xb:∀ i:Fin 94,∃ c,NB.cps.toList[i.val]? =some c/\c<1114112:=by
 have h:∀ i:Fin 94,NB.cps.toList[i.val]? =some (NB.cps.toList[i.val]!)/\NB.cps.toList[i.val]! <1114112:=by decide +kernel
 exact λi=>⟨_,(h i).1,(h i).2⟩
theorem Xc(h:QL K a vs H Q E):U0 K a (λ_=>E) (BB Q) (A8 ["cell"] vs) H:=by
 obtain⟨x,rfl,q⟩:=h
 push_cast[U0,↓Dk,↓Dl,↓Dm]
 refine⟨⟨by decide,by decide⟩,?_⟩
 split
 ·exact q _
 ·exact q _
theorem oY:∀ l:List Str,(∀ x∈l,x.length=1)->(l.map (·.length)).sum=l.length
 | [],_=>rfl
 | x::r,h=>by
  rw[List.map_cons,List.sum_cons,oY r λy hy=>h y (List.mem_cons_of_mem _ hy),h x List.mem_cons_self,List.length_cons]
  omega
theorem oZ{g:Str}(hg:PyData.strOk g=true):∀ (l:List Str) (BY:Array Nat),(BY.all λx=>decide (x<1114112))=true->(∀ z∈l,PyData.strOk z=true)->((l.foldl (λBY p=>BY++g.cps++p.cps) BY).all λx=>decide (x<1114112))=true
 | [],BY,h,_=>h
 | z::l,BY,h,hz=>by
  rw[List.foldl_cons]
  refine oZ hg l _ ?_ λy hy=>hz y (List.mem_cons_of_mem _ hy)
  have h1:(g.cps.all λx=>decide (x<1114112))=true:=hg
  have h2:(z.cps.all λx=>decide (x<1114112))=true:=hz z List.mem_cons_self
  rw[Array.all_append,Array.all_append,h,h1,h2,Bool.true_and,Bool.true_and]
theorem Xd{g:Str}{l:List Str}(hg:PyData.strOk g=true)(h:∀ z∈l,PyData.strOk z=true):PyData.strOk (Txt.join g l)=true:=by
 unfold PyData.strOk Txt.join Builtin.Str.glued
 cases l with
 | nil=>show((Str.empty.cps).all λx=>decide (x<1114112))=true;decide +kernel
 | cons z l=>exact oZ hg l z.cps (h z List.mem_cons_self) λy hy=>h y (List.mem_cons_of_mem _ hy)
theorem Xg(h:QK K a vs H Q E):UZ K a (λ_=>E) (BB Q) (A8 ["cell","signs","many","step","wide"] vs) H:=by
 obtain⟨x,rfl,q⟩:=h
 have tail:∀ m:Nat,m<=40->UW K a (λ_=>E) (λ_=>E) { nx:=AK (UX K a (λ_=>E) (λ_=>E)) (UY K a (λ_=>E) (λ_=>E)) (BB Q),rt:=Q } [some (.int x),some (.str NB),some (.int m),none,none] H:=λm hm=>by
  push_cast[↓Dg,↓Dh,↓Dj]
  refine⟨⟨by decide,by decide⟩,⟨by decide,by decide⟩,rfl,by omega,by omega,?_⟩
  refine MU (CS _ (by omega)) (λi ys H'=>H'=H/\∃ zs:List Str,ys=zs.map V.str/\∀ z∈zs,z.length=1/\PyData.strOk z=true) ⟨rfl,[],rfl,by simp⟩ (λi ys H' hi hl hzz=> ?_) (λys H' hl ⟨e1,zs,e2,e3⟩ p hp=> ?_)
  ·obtain⟨e1,zs,e2,e3⟩:=hzz
   subst e1
   push_cast[ES]
   obtain⟨b,eb,hb⟩:=WT (x / 3+(1+x / 19 % 93) * ((0+(i:Int)) / (1+x / 7 % 3))) (n:=94) (by omega)
   obtain⟨c,hc,hco⟩:=Xb ⟨b,hb⟩
   have hd:(0+(i:Int)) / (1+x / 7 % 3)<=40/\0<=(0+(i:Int)) / (1+x / 7 % 3):=by
    have h1:0<1+x / 7 % 3:=by omega
    refine⟨?_,Int.ediv_nonneg (by omega) (by omega)⟩
    exact Int.le_trans (Int.ediv_le_self _ (by omega)) (by omega)
   refine⟨⟨by decide,by decide⟩,⟨by omega,by omega⟩,.inl ⟨by omega,by omega⟩,?_⟩
   rw[show((94:Nat):Int)=94 from rfl]at eb
   rw[eb]
   refine oK rfl (by decide +kernel) hc ⟨rfl,zs++[⟨#[c]⟩],by rw[e2,List.map_append];rfl,λz hz=> ?_⟩
   rcases List.mem_append.mp hz with hz | hz
   ·exact e3 z hz
   ·rw[List.mem_singleton.mp hz]
    exact⟨rfl,by simp[PyData.strOk];exact hco⟩
  ·subst e1
   have LZ:zs.length=m:=by rw[<-hl,e2,List.length_map]
   refine⟨_,p,zs,rfl,rfl,by rw[<-e2];exact SqL.of AF,by decide,by rw[oY zs λz hz=>(e3 z hz).1];omega,q _ _ ?_ ?_ (AQ hp)⟩
   ·rw[W.KT.join_ones zs λz hz=>(e3 z hz).1,LZ];exact hm
   ·exact Xd (by decide +kernel) λz hz=>(e3 z hz).2
 push_cast[UZ,↓Cy,↓Cz,↓Db,↓Dd,↓Dc]
 refine⟨by decide +kernel,⟨by decide,by decide⟩,?_⟩
 split
 ·obtain⟨m,em,hm⟩:∃ m:Nat,40 - x / 40 % 2=m/\m<=40:=⟨(40 - x / 40 % 2).toNat,by omega,by omega⟩
  rw[em]
  exact⟨⟨by decide,by decide⟩,tail m hm⟩
 ·obtain⟨m,em,hm⟩:∃ m:Nat,1+x % 5=m/\m<=40:=⟨(1+x % 5).toNat,by omega,by omega⟩
  rw[em]
  exact tail m hm
theorem NC{c A B:Prop}[Decidable c](h:c)(x:A):if c then A else B:=by rw[if_pos h];exact x
theorem HM{c A B:Prop}[Decidable c](h:¬ c)(x:B):if c then A else B:=by rw[if_neg h];exact x
theorem o0{M:Md}{C:Nat->Bool}{as:List AC}:∀ {es:List AC},(∀ j,as.length<=j->C j=false)->sh M C (es++as)=sh M C as
 | [],_=>rfl
 | e::es,h=>by
  rw[List.cons_append,D7 (by rw[h _ (by simp)];exact Bool.false_ne_true)]
  exact o0 h
theorem WZ{tks:List (AM × V)}{z:Str}{k:Nat}:KI (BW tks (.inr z) (.int (k:Nat)))=EE (KI tks) z k:=by
 funext y
 unfold KI EG EE
 rw[IY]
 by_cases e:y=z
 ·subst e;rw[if_pos rfl,if_pos rfl];rfl
 ·rw[if_neg (λh=>e (Sum.inr.inj h)),if_neg e]
theorem W0{tks:List (AM × V)}{z:Str}{j:Nat}(h:KI tks z=some j):j∈EG tks z:=List.mem_of_mem_head? h
theorem LaidA.off{n r c w:Nat}{cs:List Ch}{as:List AC}(h:LaidA n r c w H cs as){C:Nat->Bool}{kind k:Nat}(hk:¬ k<AX n r c w kind):sh (λ_ _=>.no) C as kind k=.no:=by
 induction h with
 | nil=>rfl
 | @snoc cs as ch x l e1 e2 e3 e4 e5 e6 ih =>
  have e:¬ (kind=x.kind/\k=x.k):=λe=>hk (by rw[e.1,e.2];exact e6)
  by_cases c:C as.length=true
  ·rw[CL c];unfold Md.put;rw[if_neg e];exact ih
  ·rw[D7 c];exact ih
section
variable{X:SX}{cs:List Ch}{tks:List (AM × V)}{M:Hs}
theorem C45.more{H':Hp}{ex:List Ch}{tks':List (AM × V)}{M':Hs}(I:C45 a H X cs tks M)(I':X.at a H' (cs++ex) tks' M')(sb:SameBut (λx=>X.S.A.F x\/x=X.S.tk) H H')(hH:∃ o,Hist X.m0 M'.b M'.as (KI tks') o)(hb:M'.b=M.b)(hs:∃ es,M'.as=es++M.as/\∀ x∈es,EA x.kind x.x):C45 a H' X (cs++ex) tks' M':=by
 obtain⟨es,he,ho⟩:=hs
 have tk:EK H H':=KJ sb λx hx=>hx.elim (λh=>I.st.bk.loose h) λh=>by rw[h];exact O3 I.st.tk
 have out:∀ j:Nat,cs.length<=j->X.outs j=false:=λj hj=>by
  obtain⟨CZ,e,hv,ks⟩:=I.st.bk.bk.out
  cases eo:X.outs j with
  | false=>rfl
  | true =>
   exfalso
   rw[<-hv,<-IX]at eo
   obtain⟨p,hp,ep⟩:=List.any_eq_true.mp eo
   have ep:p.1=.inl (j:Int):=by simpa using ep
   have:=ks.2 p hp
   rw[ep]at this
   obtain⟨k,e1,e2⟩:=this
   have:=Sum.inl.inj e1
   omega
 refine⟨I',hH,hb.trans I.b0,λk c ec o=> ?_,?_,I.few,λx hx=> ?_⟩
 ·by_cases hk:k<cs.length
  ·rw[List.getElem?_append_left hk]at ec
   exact I.cut k c ec o
  ·rw[out k (by omega)]at o;cases o
 ·rw[hb,he,o0 λj hj=>out j (by rw[I.st.la.len];exact hj)]
  exact I.rows.keep tk
 ·rw[he]at hx
  rcases List.mem_append.mp hx with h | h
  ·exact ho x h
  ·exact I.ok x h
theorem W1{m:Nat}{z:Str}(h:cellOf M m z=none):∀ j r,j<m->M 0 j≠.nm z r:=λj r hj e=>by
 have:=List.find?_eq_none.mp h j (List.mem_range.mpr hj)
 unfold F3 at this
 rw[e]at this
 simp at this
theorem W2{cell:Nat}(ok:EA 0 (M 0 cell))(h:FD 0 (M 0 cell)=true):M 0 cell=.no:=by
 cases e:M 0 cell with
 | no=>rfl
 | _=>rw[e]at h;simp[FD]at h
theorem o1{kind k:Nat}(h:FD kind (M kind k)=true):M kind k≠.mk 1:=λe=>by
 rw[e]at h
 simp[FD]at h
theorem C45.ps(I:C45 a H X cs tks M){r m:Nat}{ps:List Nat}(h:M 3 r=.rc m ps):(∀ p∈ps,p<X.c * X.w)/\ps.length<=12:=by
 obtain⟨o,hi⟩:=I.hi
 have lt:∀ p∈ps,p<X.c * X.w:=λp hp=>by
  have e:=(hi.now.pm r m ps h p hp).1
  rcases Nat.lt_or_ge p (X.c * X.w)with z | z
  ·exact z
  ·exfalso
   have:M 2 p=.no:=by
    show B2 M.b M.as 2 p=.no
    rw[I.b0]
    have la:=I.st.la
    revert la
    generalize M.as=as
    intro la
    exact la.off λhk=>by simp[AX]at hk;omega
   rw[show B2 M.b M.as 2 p=.no from this]at e
   cases e
 have:=List.Nodup.length_le_of_subset (hi.now.nd r m ps h) (l₂:=List.range (X.c * X.w)) λp hp=>List.mem_range.mpr (lt p hp)
 rw[List.length_range]at this
 have:=I.few
 exact⟨lt,by omega⟩
end
theorem ND{d:Nat}:∀ {ps:List Nat} {M:Hs},(M.unmark d ps).as=(ps.map λp=>(⟨2,p,.mk 0,[d]⟩:AC)).reverse++M.as/\(M.unmark d ps).b=M.b
 | [],_=>⟨rfl,rfl⟩
 | p::ps,M=>by
  have:=ND (d:=d) (ps:=ps) (M:=M.put 2 p (.mk 0) [d])
  refine⟨?_,this.2⟩
  rw[List.map_cons,List.reverse_cons,List.append_assoc]
  exact this.1
theorem Xh(h:M7 K a vs H Q E):WO K a (λ_=>E) (BB Q) (A8 ["store","kind","one","other","cell","refused"] vs) H:=by
 obtain⟨X,cs,tks,M,kind,y,z,x,rfl,T4,TD,I,hcs,hk,hy,hz,q⟩:=h
 obtain⟨dx,ho⟩:=I.st.ob
 obtain⟨ly,_,hy8⟩:=oX hy
 obtain⟨lz,_,hz8⟩:=oX hz
 obtain⟨o,hi⟩:=I.hi
 have len:=I.st.la.len
 have sd:=hi.now
 have few:=I.few
 have ok0:∀ {cell},cell<X.m0->EA 0 (M 0 cell):=λh=>I.st.ok 0 _ (by decide) (by simpa [AX]using h)
 have rl:∀ {k z rec},k<X.m0->M 0 k=.nm z rec->∃ m ps,rec<X.r * X.w/\M 3 rec=.rc m ps:=λ{k z rec} hk e=>by
  obtain⟨m,ps,e3⟩:=sd.nl k z rec hk e
  refine⟨m,ps,?_,e3⟩
  rcases Nat.lt_or_ge rec (X.r * X.w)with h | h
  ·exact h
  ·exfalso
   have e3':sh M.b (λ_=>true) M.as 3 rec=.rc m ps:=e3
   rw[I.b0,I.st.la.off (C:=λ_=>true) (kind:=3) (k:=rec) (λhk=>by simp[AX]at hk;omega)]at e3'
   cases e3'
 push_cast[WO,↓Pc,↓Qd]
 have fin:∀ (v:String) (H':Hp),Same H H'->NA K a (λ_=>E) (λ_=>E) (BB Q) [some (.ref X.S.st),some (.int kind),some (.str y),some (.str z),some (.int x),some (.str (Str.ofString v))] H':=λv H' s=>by
  push_cast[↓nK]
  exact q _ cs tks M H' ⟨I.st.same s,I.hi,I.b0,I.cut,I.rows.keep s.tk,few,I.ok⟩ (by omega) (Same.sb s)
 have bad:∀ c:String,(c="NoName"\/c="Twice"\/c="NoPiece"\/c="NoRoom")->∀ H',Same H H'->IC (λcls=>W.exmOne K cls (.ref (a "NoName"))) (WN K a (λ_=>E) λ_=>E) (IC (λcls=>W.exmOne K cls (.ref (a "Twice"))) (WM K a (λ_=>E) λ_=>E) (IC (λcls=>W.exmOne K cls (.ref (a "NoPiece"))) (WL K a (λ_=>E) λ_=>E) (IC (λcls=>W.exmOne K cls (.ref (a "NoRoom"))) (WK K a (λ_=>E) λ_=>E) R8))) (.ref (a c)) { nx:=NA K a (λ_=>E) (λ_=>E) (BB Q),rt:=Q } [some (.ref X.S.st),some (.int kind),some (.str y),some (.str z),some (.int x),some (.str (Str.ofString ""))] H':=λc hc H' s=>by
  rcases hc with rfl | rfl | rfl | rfl
  ·refine .inl ⟨TD.n1,?_⟩
   push_cast[↓Qc]
   exact fin _ _ s
  ·refine .inr ⟨TD.t1,.inl ⟨TD.t2,?_⟩⟩
   push_cast[↓Qb]
   exact fin _ _ s
  ·refine .inr ⟨TD.p1,.inr ⟨TD.p2,.inl ⟨TD.p3,?_⟩⟩⟩
   push_cast[↓Pz]
   exact fin _ _ s
  ·refine .inr ⟨TD.r1,.inr ⟨TD.r2,.inr ⟨TD.r3,.inl ⟨TD.r4,?_⟩⟩⟩⟩
   push_cast[↓Py]
   exact fin _ _ s
 have good:∀ {ex:List Ch} {tks':List (AM × V)} {M':Hs} {H':Hp} {d:Nat},ex.length=d->d<=15->X.at a H' (cs++ex) tks' M'->(∃ o,Hist X.m0 M'.b M'.as (KI tks') o)->M'.b=M.b->(∃ es,M'.as=es++M.as/\∀ x∈es,EA x.kind x.x)->SameBut (λx=>X.S.A.F x\/x=X.S.tk) H H'->NA K a (λ_=>E) (λ_=>E) (BB Q) [some (.ref X.S.st),some (.int kind),some (.str y),some (.str z),some (.int x),some (.str (Str.ofString ""))] H':=λ{ex tks' M' H' d} h1 h2 I' h3 h4 h5 sb=>by
  push_cast[↓nK]
  exact q _ (cs++ex) tks' M' H' (I.more I' sb h3 h4 h5) (by simp;omega) sb
 have noY:BM y=false->False:=λh=>by rw[hy]at h;cases h
 have noZ:(BM y && BM z)=false->False:=λh=>by rw[hy,hz]at h;cases h
 push_cast[↓Px]
 by_cases k1:kind<2
 ·refine NC (by omega) ?_
  push_cast[↓Pd]
  refine⟨_,_,ho,CA (by decide +kernel),X,cs,tks,M,y,rfl,T4,I.st,by omega,by omega,λ_ hc rec cell er ec hr BJ ex v H' hl _ _ I' sb=> ?_,λh=>(noY h).elim,λ_ ⟨k,hc⟩ H' s=>bad _ (.inr (.inl rfl)) H' s,λ_ hc h H' s=>bad _ (.inr (.inr (.inr rfl))) H' s⟩
  refine good hl (by omega) I' ?_ rfl ⟨[_,_,_],rfl,by simp[EA]⟩ sb
  have:=hi.make (z:=y) (nd:=(cs.length+1)::EG tks y) BJ (W2 (ok0 BJ) (LU ec)) (W1 hc) (o1 (kind:=1) (LU er)) (by rw[len];simp) λj h=>List.mem_cons_of_mem _ (W0 h)
  rw[<-len]at this
  exact⟨_,this⟩
 refine HM (by omega) ?_
 push_cast[↓Pw]
 by_cases k2:kind=2
 ·subst k2
  refine NC (by decide) ?_
  push_cast[↓Pg]
  refine⟨_,_,ho,CA (by decide +kernel),X,cs,tks,M,y,z,rfl,T4,I.st,by omega,by omega,by omega,λ_ _ hc old rec cell eo hol e0=> ?_,λh=>(noZ h).elim,λ_ _ ⟨k,hc⟩ H' s=>bad _ (.inr (.inl rfl)) H' s,λ_ _ _ _ H' s=>bad _ (.inl rfl) H' s,λ_ _ _ _ _ H' s=>bad _ (.inr (.inr (.inr rfl))) H' s⟩
  obtain⟨m,ps,hr,e3⟩:=rl hol e0
  refine⟨hr,m,ps,e3,by have:=(I.ps e3).2;omega,λec BJ ex v H' hl _ _ I' sb=>good hl (by omega) I' ?_ rfl ⟨[_,_],rfl,by simp[EA]⟩ sb⟩
  have:=hi.link (z:=z) (nd:=cs.length::EG tks z) BJ (W2 (ok0 BJ) (LU ec)) (W1 hc) e3 (by rw[len];simp) λj h=>List.mem_cons_of_mem _ (W0 h)
  exact⟨_,this⟩
 refine HM (by omega) ?_
 push_cast[↓Pq]
 by_cases k3:kind=3
 ·subst k3
  refine NC (by decide) ?_
  push_cast[↓Ph]
  refine⟨_,_,ho,CA (by decide +kernel),X,cs,tks,M,y,rfl,T4,I.st,by omega,λcell rec ec BJ e0=> ?_,λhc H' s=>bad _ (.inl rfl) H' s⟩
  obtain⟨m,ps,hr,e3⟩:=rl BJ e0
  obtain⟨p1,p2⟩:=I.ps e3
  refine⟨hr,m,ps,e3,p1,by omega,λhm ex v H' hl _ _ I' sb=>good hl (by omega) I' ?_ rfl ⟨[_,_],rfl,by simp[EA]⟩ sb,λhm ex v H' hl _ _ I' sb=>good hl (by omega) I' ?_ ?_ ?_ sb⟩
  ·obtain⟨m',rfl⟩:∃ m',m=m'+1:=⟨m - 1,by omega⟩
   have:=hi.unlead (nd:=[]) BJ e0 e3
   rw[<-len]at this
   rw[WZ]
   exact⟨_,this⟩
  ·have:=hi.dropped (nd:=[]) BJ e0 e3 hm
   rw[<-len]at this
   rw[WZ]
   refine⟨EE o y cs.length,?_⟩
   show Hist X.m0 (Hs.unmark _ _ _).b (⟨1,rec,.mk 0,[cs.length+1]⟩::(Hs.unmark _ _ _).as) _ _
   rw[ND.1,ND.2]
   exact this
  ·exact ND.2
  ·refine⟨⟨1,rec,.mk 0,[cs.length+1]⟩::((ps.map λp=>(⟨2,p,.mk 0,[cs.length+1]⟩:AC)).reverse++[⟨3,rec,.no,[cs.length]⟩,⟨0,cell,.no,[]⟩]),?_,λx hx=> ?_⟩
   ·show⟨1,rec,.mk 0,[cs.length+1]⟩::(Hs.unmark _ _ _).as=_
    rw[ND.1]
    simp[Hs.put]
   ·simp only[List.mem_cons,List.mem_append,List.mem_reverse,List.mem_map,List.not_mem_nil,or_false]at hx
    rcases hx with rfl | ⟨p,_,rfl⟩ | rfl | rfl<;>simp[EA]
 refine HM (by omega) ?_
 push_cast[↓Pp]
 by_cases k4:kind<6
 ·refine NC (by omega) ?_
  push_cast[↓Pj]
  refine⟨_,_,ho,CA (by decide +kernel),x,rfl,λt H1 tl tst s1=> ?_⟩
  refine⟨X,cs,tks,M,y,t,rfl,T4,I.st.same s1,by omega,tst,by omega,λcell rec ec BJ e0 _ p ep hp=> ?_,λhc H' s=>bad _ (.inl rfl) H' (s1.trans s),λ_ _ H' s=>bad _ (.inr (.inr (.inl rfl))) H' (s1.trans s),λ_ _ _ H' s=>bad _ (.inr (.inr (.inr rfl))) H' (s1.trans s)⟩
  obtain⟨m,ps,hr,e3⟩:=rl BJ e0
  have p2:=(I.ps e3).2
  refine⟨hr,m,ps,e3,by omega,λex v H' hl _ _ I' sb=>good hl (by omega) I' ?_ rfl ⟨[_,_,_],rfl,by simp[EA]⟩ λb o e n=>sb _ _ (s1 _ _ e) n⟩
  have:=hi.put (x:=t) (o1 (kind:=2) (LU ep)) e3
  rw[<-len]at this
  exact⟨_,this⟩
 refine HM (by omega) ?_
 push_cast[↓Pm]
 by_cases k6:kind=6
 ·subst k6
  refine NC (by decide) ?_
  push_cast[↓Pk]
  refine⟨_,_,ho,CA (by decide +kernel),x,rfl,λu=>⟨X,cs,tks,M,y,u,rfl,T4,I.st,by omega,λcell rec ec BJ e0=> ?_,λhc H' s=>bad _ (.inl rfl) H' s⟩⟩
  obtain⟨m,ps,hr,e3⟩:=rl BJ e0
  obtain⟨p1,p2⟩:=I.ps e3
  refine⟨hr,m,ps,e3,by omega,λhx H' s=>bad _ (.inr (.inr (.inl rfl))) H' s,λk p ek ep=>⟨p1 p (List.mem_of_getElem? ep),λex v H' hl _ _ I' sb=>good hl (by omega) I' ?_ rfl ⟨[_,_],rfl,by simp[EA]⟩ sb⟩⟩
  have:=hi.take e3 ep
  rw[<-len]at this
  exact⟨_,this⟩
 refine HM (by omega) ?_
 have k7:kind=7:=by omega
 subst k7
 push_cast[↓Pl]
 refine⟨_,_,ho,CA (by decide +kernel),X,cs,tks,M,y,z,rfl,T4,I.st,by omega,by omega,by omega,λ_ _ hc old rec cell eo hol e0=> ?_,λh=>(noZ h).elim,λ_ _ ⟨k,hc⟩ H' s=>bad _ (.inr (.inl rfl)) H' s,λ_ _ _ _ H' s=>bad _ (.inl rfl) H' s,λ_ _ _ _ _ H' s=>bad _ (.inr (.inr (.inr rfl))) H' s⟩
 obtain⟨m,ps,hr,e3⟩:=rl hol e0
 refine⟨hr,m,ps,e3,by have:=(I.ps e3).2;omega,λec BJ ex v H' hl _ _ I' sb=>good hl (by omega) I' ?_ rfl ⟨[_,_,_,_],rfl,by simp[EA]⟩ sb⟩
 have f0:=W2 (ok0 BJ) (LU ec)
 have noc:old≠cell:=λe=>by rw[e,f0]at e0;cases e0
 have l1:=hi.link (z:=z) (nd:=cs.length::EG tks z) BJ f0 (W1 hc) e3 (by rw[len];simp) λj h=>List.mem_cons_of_mem _ (W0 h)
 have l2:=l1.unlead (z:=y) (nd:=[cs.length+1]) (m:=m) (ps:=ps) hol (by rw[D1,DK noc,D1,D0 (by simp)];exact e0) (by rw[D1,D0 (by simp),D1,CK])
 have l3:(⟨0,cell,.nm z rec,cs.length::EG tks z⟩::⟨3,rec,.rc (m+1) ps,[]⟩::M.as:List AC).length=cs.length+2:=by rw[len];rfl
 rw[l3]at l2
 rw[WZ]
 exact⟨_,l2⟩
theorem Xj{cs:List Ch}{O:Int->Bool}{b j:Nat}{row:List V}(hn:DZ cs (b:Nat) (j:Nat)=none):(ED cs O b row)[j]? =row[j]? :=by
 rw[Ab,dY]
 cases el:HJ cs ((CH cs b).filter λ(k:Nat)=>O k) j with
 | none=>simp
 | some c =>
  exfalso
  obtain⟨k,hk,ec,ecell,_⟩:=dZ el
  obtain⟨c',ec',eb⟩:=TU.mp (List.mem_filter.mp hk).1
  rw[ec]at ec'
  cases ec'
  obtain⟨j0,c0,hn0,_⟩:=Ac ec
  rw[eb,ecell,hn]at hn0
  cases hn0
theorem Xk{cs:List Ch}{O:Int->Bool}{b:Nat}{row:List V}{v:V}(h:v∈ED cs O b row):v∈row\/∃ c∈cs,v=c.val:=by
 unfold ED at h
 revert h
 generalize CH cs b=l
 induction l generalizing row with
 | nil=>exact .inl
 | cons k l ih =>
  intro h
  rw[List.foldl_cons]at h
  rcases ih h with h | h
  ·unfold FH at h
   split at h
   ·split at h
    ·rename_i c ec
     rcases List.mem_or_eq_of_mem_set h with h | h
     ·exact .inl h
     ·exact .inr ⟨c,List.mem_of_getElem? ec,h⟩
    ·exact .inl h
   ·exact .inl h
  ·exact .inr h
theorem Xl(h:LQ K a vs H Q E):VX K a (λ_=>E) (BB Q) (A8 ["self","block"] vs) H:=by
 obtain⟨X,cs,tks,M,b,row,rfl,⟨T,TP,TL,TS⟩,I,er,q⟩:=h
 obtain⟨dx,ho⟩:=I.ob
 obtain⟨db,eb⟩:=I.bk.bk.ob
 obtain⟨dp,ep⟩:=I.bk.pk.ob
 have hb:=(List.getElem?_eq_some_iff.mp er).1
 push_cast[VX,↓Hd]
 refine⟨_,_,_,ho,TS.cl,TS.n2,_,HK,X.S.A.b,rfl,_,_,eb,DT (by decide +kernel),X.S.A,X.w,X.rows,X.nn,cs,X.outs,b,rfl,T,TP,I.bk,λb' row' t ol hl H' eb' er' _ _ _ _ B' sb=> ?_,λz=>by omega⟩
 obtain rfl:b=b':=by omega
 rw[er]at er'
 cases er'
 have lo:∀ x,X.S.A.F x->E3 (H x):=λx hx=>I.bk.loose hx
 have tk:EK H H':=λy ys e=>sb _ _ e λz=>z.elim (λz=>(lo _ z).1 _ e) λz=>by rw[z,ep]at e;cases e
 obtain⟨⟨dx,e1⟩,e2,e3,e4,e5,e6,e7,e8,e9,e10,e11,e12⟩:=I
 obtain⟨dl,el⟩:=e2.ob
 refine q t H' ⟨⟨dx,sb _ _ e1 λz=>z.elim (λz=>(lo _ z).2 _ _ _ e1) λz=> ?_⟩,e2.sb sb λz=>z.elim (λz=>(lo _ z).2 _ _ _ el) λz=> ?_,B',sb _ _ e4 λz=>z.elim e7 λz=> ?_,e5,e6,e7,⟨e8.1,e8.2.1,e8.2.2.1,e8.2.2.2.1,by show(X.rows.set b _).length=X.n+X.r+X.c+X.r+X.c;rw[List.length_set];exact e8.2.2.2.2⟩,⟨λq hq v hv=> ?_,(e9.keep tk).2⟩,λkind k v h1 hk hv=> ?_,e11,e12.keep tk⟩ sb
 ·rw[show X.S.st=X.S.A.gp from z,ep]at e1
  injection e1 with e1
  injection e1 with _ _ e1
  have:=congrArg (·.lookup ("plan":Str)) e1
  simp only[G2]at this
  rw[K8 _ _ _ (by decide +kernel) (by decide +kernel) (by decide +kernel)]at this
  cases this
 ·rw[show X.S.lp=X.S.A.gp from z,ep]at el
  injection el with el
  injection el with _ _ el
  exact absurd (congrArg List.length el) (by simp[pf,lf])
 ·rw[show X.S.tk=X.S.A.gp from z,ep]at e4;cases e4
 ·have g:=e9.keep tk
  rcases List.mem_or_eq_of_mem_set hq with hq | hq
  ·exact g.1 q hq v hv
  ·rw[hq]at hv
   rcases Xk hv with hv | ⟨c,hc,rfl⟩
   ·exact g.1 row (List.mem_of_getElem? er) v hv
   ·exact g.2 c hc
 ·have hv:D9 cs (X.rows.set b (ED cs (EU cs X.outs b) b row)) (A0 X.n X.r X.c X.w kind k:Nat) (k % X.w:Nat)=some v:=hv
  refine(e10 kind k v h1 hk ?_).keep tk
  rw[<-hv]
  unfold D9
  cases en:DZ cs (A0 X.n X.r X.c X.w kind k:Nat) (k % X.w:Nat)with
  | some j=>rfl
  | none =>
   show(X.rows[((A0 X.n X.r X.c X.w kind k:Nat):Int).toNat]?).bind _=((X.rows.set b _)[((A0 X.n X.r X.c X.w kind k:Nat):Int).toNat]?).bind _
   rw[Int.toNat_natCast]
   by_cases e:A0 X.n X.r X.c X.w kind k=b
   ·rw[e]at en ⊢
    rw[er,List.getElem?_set_self hb]
    show row[_]? =(ED cs _ b row)[_]?
    rw[Int.toNat_natCast,Xj en]
   ·rw[List.getElem?_set_ne (λz=>e z.symm)]
theorem C45.write{X:SX}{cs:List Ch}{tks:List (AM × V)}{M:Hs}{b:Nat}{row:List V}{H':Hp}(I:C45 a H X cs tks M)(er:X.rows[b]? =some row)(I':(X.wr cs b row).at a H' cs tks M)(sb:SameBut (λx=>X.S.A.F x\/x=X.S.A.gp) H H'):C45 a H' (X.wr cs b row) cs tks M:=by
 obtain⟨dp,ep⟩:=I.st.bk.pk.ob
 have tk:EK H H':=λy ys e=>sb _ _ e λz=>z.elim (λz=>(I.st.bk.loose z).1 _ e) λz=>by rw[z,ep]at e;cases e
 exact⟨I',I.hi,I.b0,Ah I.cut b,(I.rows.write I.st.la er).keep tk,I.few,I.ok⟩
theorem C45.snd{X:SX}{cs:List Ch}{tks:List (AM × V)}{M:Hs}(I:C45 a H X cs tks M):Snd X.m0 (sh M.b (λj=>X.outs (j:Nat)) M.as):=by
 obtain⟨o,hi⟩:=I.hi
 exact hi.sd _ (I.st.la.cut I.cut)
structure o3(H:Hp)(d:Addr)(rows:List (List V))(w b j:Nat)(AD:List (List AM × V)):Prop where
 e:H d=some (.dT AD)
 l:AD.length<=b * w+j
 v:∀ x y:Nat,(x<b\/x=b/\y<j)->y<w->BK AD [.inl (x:Int),.inl (y:Int)]=(rows[x]?).bind λq=>q[y]?
theorem Xm (h:LR K a vs H Q E):VS K a (λ_=>E) (BB Q) (A8 ["layout","plank","there","block","values","k"] vs) H:=by
  obtain⟨ly,gp,cl,n,r,c,w,rows,m,rfl,TL,TP,L,P,rl,r30,w6,q⟩:=h
  obtain⟨dl,el⟩:=L.ob
  push_cast[VS,↓Fd]
  intro d hd
  have s1:=AQ (o:=.dT []) hd
  have e1:upd H d (.dT []) d=some (.dT []):=AF
  revert s1 e1
  generalize upd H d (.dT [])=H1
  intro s1 e1
  push_cast[↓Fk]
  refine⟨_,_,s1 _ _ el,BX (by decide +kernel),ly,n,r,c,w,rfl,TL,L.same s1,(n+r+c+r+c:Nat),by simp,by omega,by omega,?_⟩
  rw[Int.toNat_natCast,<-rl]
  refine K5 (λi σ H'=>(Same H H'/\∃ AD,o3 H' d rows w i 0 AD)/\∃ y3 y4 y5,σ=[some (.ref ly),some (.ref gp),some (.ref d),y3,y4,y5]) ⟨⟨s1,[],e1,Nat.zero_le _,λx y h=>by omega⟩,_,_,_,rfl⟩ (λi σ H' hi ⟨⟨s,AD,T⟩,y3,y4,y5,es⟩=> ?_) (λσ H' ⟨⟨s,AD,T⟩,y3,y4,y5,es⟩=> ?_)
  · subst es
    have P':=P.same s
    obtain⟨dp,ep⟩:=P'.ob
    push_cast[↓Fg,Int.zero_add]
    refine⟨_,_,ep,WQ _ _ _,gp,cl,w,rows,m,i,rfl,TP,P',λb' row eb er vl hvl=> ?_,λz=>by omega⟩
    obtain rfl:i=b':=by omega
    have rw1:=P'.wd row (List.mem_of_getElem? er)
    have s2:=AQ (o:=.lst row) hvl
    have e2:upd H' vl (.lst row) vl=some (.lst row):=AF
    revert s2 e2
    generalize upd H' vl (.lst row)=H2
    intro s2 e2
    have ndv:vl≠d:=λz=>by rw[z,T.e]at hvl;cases hvl
    push_cast[↓Fj]
    refine⟨row.length,.inl ⟨_,SqL.of e2,rfl⟩,by omega,by omega,?_⟩
    rw[rw1]
    refine K5 (λj σ H'=>(Same H H'/\H' vl=some (.lst row)/\∃ AD,o3 H' d rows w i j AD)/\∃ y5,σ=[some (.ref ly),some (.ref gp),some (.ref d),some (.int i),some (.ref vl),y5]) ⟨⟨s.trans s2,e2,AD,s2 _ _ T.e,T.l,T.v⟩,_,rfl⟩ (λj σ H3 hj ⟨⟨s3,ev,kv3,T3⟩,y5,es⟩=> ?_) (λσ H3 ⟨⟨s3,ev,kv3,T3⟩,y5,es⟩=> ?_)
    · subst es
      have ej:=List.getElem?_eq_getElem (show j<row.length by omega)
      push_cast[↓Fh,Int.zero_add]
      refine FG (SqL.of ev) rfl ej ⟨by decide,λp hp=> ?_⟩
      have sp:=AQ (o:=.tup [V.int (i:Int),V.int (j:Int)]) hp
      have l3:=T3.l
      have l4:i * w<=30 * 6:=Nat.mul_le_mul (by omega) w6
      refine⟨_,DPut.t (k:=[.inl (i:Int),.inl (j:Int)]) (sp _ _ T3.e) AF (CS _ (by omega)),λb o e=> ?_,?_,_,AF,?_,λx y hxy hy=> ?_⟩
      ·rw[AH (BL e hd)];exact sp _ _ (s3 _ _ e)
      ·rw[AH ndv];exact sp _ _ ev
      ·exact Nat.le_trans (H0 ..) (by omega)
      · rw[IY]
        by_cases z:x=i/\y=j
        · obtain⟨rfl,rfl⟩:=z
          rw[if_pos rfl,er];exact ej.symm
        · rw[if_neg λe=>z (by
            simp only[List.cons.injEq,Sum.inl.injEq,and_true]at e
            omega)]
          exact T3.v x y (by omega) hy
    · subst es
      push_cast[]
      exact⟨s3,kv3,T3.e,by have:=T3.l;rw[Nat.add_mul];omega,λx y h hy=>T3.v x y (by omega) hy⟩
  · subst es
    push_cast[↓Fl]
    exact q d AD H' s T.e λb k hb hk=>T.v b k (.inl hb) hk
section
variable{ly d:Addr}{n r c w:Nat}{S:Md}
theorem There.same{H':Hp}(I:There K a H ly d n r c w S)(s:Same H H'):There K a H' ly d n r c w S:=by
 obtain⟨AD,e,v⟩:=I.e
 exact⟨I.tl,I.la.same s,⟨AD,s _ _ e,λkind k h1 h2=>by obtain⟨x,e1,e2⟩:=v kind k h1 h2;exact⟨x,e1,e2.keep s.tk⟩⟩,I.sd,I.ok,I.ps,I.rr,I.w1,I.w6,I.n6,I.r6,I.c6⟩
theorem There.get{kind k:Nat}{t:Addr}{H':Hp}{P:V->Prop}(I:There K a H ly d n r c w S)(s:Same H H')(h1:kind<5)(hk:k<AX n r c w kind)(et:H' t=some (.tup [.int (A0 n r c w kind k:Nat),.int (k % w:Nat)]))(q:∀ v,RepC H' (S kind k) v->P v):∃ v,DGet H' d (.ref t) (some v)/\P v:=by
 obtain⟨AD,e,v⟩:=(I.same s).e
 obtain⟨x,e1,e2⟩:=v kind k h1 hk
 exact⟨x,yX e et e1,q x e2⟩
end
theorem Xp (h:QM K a vs H Q E):VT K a (λ_=>E) (BB Q) (A8 ["layout","there","named","r","record","p"] vs) H:=by
  obtain⟨ly,d,n,r,c,w,S,rfl,I,q⟩:=h
  have TL:=I.tl
  have L:=I.la
  obtain⟨dl,el⟩:=L.ob
  have brw:r * w<=36:=Nat.mul_le_mul I.r6 I.w6
  push_cast[VT,↓Fm]
  intro nd B2
  have s1:=AQ (o:=.dK []) B2
  have e1:upd H nd (.dK []) nd=some (.dK []):=AF
  revert s1 e1
  generalize upd H nd (.dK [])=H1
  intro s1 e1
  push_cast[↓Gc]
  refine⟨_,_,s1 _ _ el,BX (by decide +kernel),ly,n,r,c,w,rfl,TL,L.same s1,λt ht=> ?_⟩
  have s2:=AQ (o:=.tup [V.int ((n:Int) * w),V.int ((r:Int) * w),V.int ((c:Int) * w)]) ht
  refine CT AF (n:=1) rfl rfl ?_
  have e2:=s2 _ _ e1
  revert s2 e2
  generalize upd H1 t (.tup [V.int ((n:Int) * w),V.int ((r:Int) * w),V.int ((c:Int) * w)])=H2
  intro s2 e2
  have em:(r:Int) * w=(r * w:Nat):=by simp
  rw[em]
  push_cast[]
  refine⟨by omega,by omega,?_⟩
  refine K5 (λi σ H'=>(Same H H'/\∃ AD,H' nd=some (.dK AD)/\AD.length<=i * 12/\∀ p:Nat,(BK AD (.inl (p:Int))).isSome=true->∃ q m ps,q<i/\S 3 q=.rc m ps/\p∈ps)/\∃ y3 y4 y5,σ=[some (.ref ly),some (.ref d),some (.ref nd),y3,y4,y5]) ⟨⟨s1.trans s2,[],e2,Nat.zero_le _,λp h=>by simp[BK]at h⟩,_,_,_,rfl⟩ (λi σ H' hi ⟨⟨s,AD,en,hl,hv⟩,y3,y4,y5,es⟩=> ?_) (λσ H' ⟨⟨s,_⟩,y3,y4,y5,es⟩=> ?_)
  · subst es
    have L':=L.same s
    push_cast[↓Fp,Int.zero_add]
    refine⟨_,_,s _ _ el,BX (by decide +kernel),KK TL L' λu hu=> ?_⟩
    have su:=AQ (o:=.tup [.int (n+(i:Int) / w),.int ((i:Int) % w)]) hu
    have eu:upd H' u (.tup [.int (n+(i:Int) / w),.int ((i:Int) % w)]) u=some (.tup [.int (A0 n r c w 3 i:Nat),.int (i % w:Nat)]):=by rw[AF];simp[A0]
    revert su eu
    generalize upd H' u (.tup [.int (n+(i:Int) / w),.int ((i:Int) % w)])=H3
    intro su eu
    have s3:=s.trans su
    have en3:=su _ _ en
    have hk3:i<AX n r c w 3:=by simpa [AX]using hi
    refine I.get s3 (kind:=3) (by decide) hk3 eu λv rv=> ?_
    have ok3:=I.ok 3 i (by decide) hk3
    push_cast[↓Gb]
    cases e3:S 3 i with
    | no =>
      rw[e3]at rv
      rw[show v=.non from rv]
      push_cast[]
      exact⟨s3,AD,en3,by omega,λp h=>by obtain⟨q,m,ps,h1,h2⟩:=hv p h;exact⟨q,by omega,m,ps,h2⟩⟩
    | rc m ps =>
      rw[e3]at rv
      obtain⟨t0,u0,rfl,D3,E7⟩:=rv
      rw[if_pos (by simp)]
      obtain⟨pb,p12⟩:=I.ps i m ps e3
      have pnd:=I.sd.nd i m ps e3
      push_cast[↓Fz]
      refine CT D3 (n:=1) rfl rfl ?_
      push_cast[]
      refine .inr ⟨⟨_,SqT.of E7⟩,bZ (xs:=BE ps) (λj σ H'=>(Same H H'/\EK H3 H'/\∃ AD,H' nd=some (.dK AD)/\AD.length<=i * 12+j/\∀ p:Nat,(BK AD (.inl (p:Int))).isSome=true->(∃ q m ps,q<i/\S 3 q=.rc m ps/\p∈ps)\/p∈ps.take j)/\∃ y5,σ=[some (.ref ly),some (.ref d),some (.ref nd),some (.int i),some (.ref t0),y5]) ⟨⟨s3,λ_ _ e=>e,AD,en3,hl,λp h=>.inl (hv p h)⟩,_,rfl⟩ (λj σ H' hj ⟨⟨_,tk,_⟩,_⟩=>SqT.of (tk _ _ E7)) (λj x σ H4 hx ⟨⟨s4,tk4,kv4,en4,hl4,hv4⟩,y5,es⟩=> ?_) (λσ H4 ⟨⟨s4,tk4,kv4,en4,hl4,hv4⟩,y5,es⟩=> ?_)⟩
      · subst es
        unfold BE at hx
        rw[List.getElem?_map,Option.map_eq_some_iff]at hx
        obtain⟨p,ep,rfl⟩:=hx
        have hpm:=List.mem_of_getElem? ep
        have hpc:=pb p hpm
        obtain⟨m2,tx,m4⟩:=I.sd.pm i m ps e3 p hpm
        push_cast[↓Fv]
        refine⟨_,dI en4,HM (λh=> ?_) ?_⟩
        · rcases hv4 p h with⟨q,m',ps',h1,h2,h3⟩ | h
          ·exact I.sd.dj q i m' m ps' ps (by omega) h2 e3 p h3 hpm
          · obtain⟨k,hk,ek⟩:=List.mem_iff_getElem.mp h
            rw[List.getElem_take]at ek
            rw[List.length_take]at hk
            have:=(List.getElem?_inj (i:=k) (j:=j) (by omega) pnd).mp (by rw[ep,List.getElem?_eq_getElem (by omega),ek])
            omega
        have L4:=L.same s4
        refine⟨_,_,s4 _ _ el,BX (by decide +kernel),oQ TL L4 λu5 hu5=> ?_⟩
        have s5:=AQ (o:=.tup [.int (n+r+(p:Int) / w),.int ((p:Int) % w)]) hu5
        have e5:upd H4 u5 (.tup [.int (n+r+(p:Int) / w),.int ((p:Int) % w)]) u5=some (.tup [.int (A0 n r c w 4 p:Nat),.int (p % w:Nat)]):=by rw[AF];simp[A0]
        revert s5 e5
        generalize upd H4 u5 (.tup [.int (n+r+(p:Int) / w),.int ((p:Int) % w)])=H5
        intro s5 e5
        refine I.get (s4.trans s5) (kind:=4) (by decide) (by simpa [AX]using hpc) e5 λv5 rv5=> ?_
        rw[m4]at rv5
        rw[show v5=.str tx from rv5]
        refine SL (.inl (.str _)) (.ty _) (b:=true) rfl ?_
        push_cast[]
        push_cast[↓Fx]
        have ZJ:=s4.trans s5
        refine⟨_,_,ZJ _ _ el,BX (by decide +kernel),oR TL (L.same ZJ) λu6 hu6=> ?_⟩
        have s6:=AQ (o:=.tup [.int (n+r+c+r+(p:Int) / w),.int ((p:Int) % w)]) hu6
        have e6:upd H5 u6 (.tup [.int (n+r+c+r+(p:Int) / w),.int ((p:Int) % w)]) u6=some (.tup [.int (A0 n r c w 2 p:Nat),.int (p % w:Nat)]):=by rw[AF];simp[A0]
        revert s6 e6
        generalize upd H5 u6 (.tup [.int (n+r+c+r+(p:Int) / w),.int ((p:Int) % w)])=H6
        intro s6 e6
        have s46:=ZJ.trans s6
        refine I.get s46 (kind:=2) (by decide) (by simpa [AX]using hpc) e6 λv6 rv6=> ?_
        rw[m2]at rv6
        rw[show v6=.int ((1:Nat):Int)from rv6]
        push_cast[]
        refine HM (by simp) ?_
        push_cast[↓Fy]
        have en6:=(s5.trans s6) _ _ en4
        have l3:i * 12<=36 * 12:=Nat.mul_le_mul (by omega) (Nat.le_refl _)
        have l4:j<ps.length:=(List.getElem?_eq_some_iff.mp ep).1
        refine⟨_,DPut.k (k:=.inl (p:Int)) en6 (CS _ (by omega)),λb o e=> ?_,λy ys e=> ?_,_,AF,Nat.le_trans (H0 ..) (by omega),λp' h=> ?_⟩
        ·rw[AH (BL e B2)];exact s46 _ _ e
        ·rw[AH (BH ((s5.trans s6) _ _ (tk4 _ _ e)) en6 (by intro z;cases z))];exact(s5.trans s6) _ _ (tk4 _ _ e)
        · rw[IY]at h
          rw[show ps.take (j+1)=ps.take j++[p] by rw[List.take_add_one,ep];rfl]
          by_cases z:(Sum.inl (p':Int):AM)=Sum.inl (p:Int)
          · have:p'=p:=by have:=Sum.inl.inj z;omega
            exact .inr (List.mem_append.mpr (.inr (by rw[this];simp)))
          · rw[if_neg z]at h
            rcases hv4 p' h with h | h
            · obtain⟨q,m',ps',h⟩:=h
              exact .inl ⟨q,h.1,m',ps',h.2⟩
            ·exact .inr (List.mem_append.mpr (.inl h))
      · subst es
        have hll:(BE ps).length=ps.length:=by simp[BE]
        rw[hll]at hl4 hv4
        push_cast[]
        refine⟨s4,kv4,en4,by omega,λp h=> ?_⟩
        rcases hv4 p h with⟨q,m',ps',h1,h2⟩ | h
        ·exact⟨q,by omega,m',ps',h2⟩
        ·exact⟨i,by omega,m,ps,e3,List.mem_of_mem_take h⟩
    | _=>rw[e3]at ok3;exact ok3.elim
  · subst es
    push_cast[↓Gd]
    exact q _ s
theorem Xq{AD:List (AM × V)}{k:AM}{v:V}{kv:AM × V}(h:kv∈BW AD k v):kv.1=k\/kv∈AD:=by
 unfold BW at h
 split at h
 ·obtain⟨p,hp,e⟩:=List.mem_map.mp h
  split at e
  ·rename_i z
   exact .inl (by rw[<-e];exact z)
  ·exact .inr (e ▸ hp)
 ·rcases List.mem_append.mp h with h | h
  ·exact .inr h
  ·exact .inl (by rw[List.mem_singleton.mp h])
def HN(S:Md)(i q:Nat):Nat:=ld i S q
theorem o5{S:Md}{i q:Nat}:HN S (i+1) q=HN S i q+if D2 (S 0 i) q then 1 else 0:=by
 unfold HN ld
 rw[List.range_succ,List.countP_append]
 simp[List.countP_cons]
structure Xv(S:Md)(i:Nat)(kl kk:List (AM × V)):Prop where
 v:∀ q:Nat,BK kl (.inl (q:Int))=if HN S i q=0 then none else some (.int (HN S i q:Nat))
 ks:∀ kv∈kl,∃ q:Nat,kv.1=.inl (q:Int)
 kn:∀ z,(BK kk (.inr z)).isSome=true->∃ k r,k<i/\S 0 k=.nm z r
 l1:kl.length<=i
 l2:kk.length<=i
theorem Xw(h:LS K a vs H Q E):VY K a (λ_=>E) (BB Q) (A8 ["layout","there","leads","known","k","cell","r","record"] vs) H:=by
 obtain⟨ly,d,n,r,c,w,S,rfl,I,q⟩:=h
 have TL:=I.tl
 have L:=I.la
 obtain⟨dl,el⟩:=L.ob
 have bnw:n * w<=36:=Nat.mul_le_mul I.n6 I.w6
 push_cast[VY,↓Hg,↓Hh]
 intro kl0 NS kk0 hkk
 have nkk:kl0≠kk0:=BL AF hkk
 have s1:=(AQ (o:=.dK []) NS).trans (AQ (o:=.dK []) hkk)
 have e1:upd (upd H kl0 (.dK [])) kk0 (.dK []) kl0=some (.dK []):=by rw[AH nkk,AF]
 have e2:upd (upd H kl0 (.dK [])) kk0 (.dK []) kk0=some (.dK []):=AF
 have hkk:H kk0=none:=by rw[AH nkk.symm]at hkk;exact hkk
 revert s1 e1 e2
 generalize upd (upd H kl0 (.dK [])) kk0 (.dK [])=H1
 intro s1 e1 e2
 push_cast[↓Hw]
 refine⟨_,_,s1 _ _ el,BX (by decide +kernel),ly,n,r,c,w,rfl,TL,L.same s1,λt ht=> ?_⟩
 have s2:=AQ (o:=.tup [V.int ((n:Int) * w),V.int ((r:Int) * w),V.int ((c:Int) * w)]) ht
 refine CT AF (n:=0) rfl rfl ?_
 have f1:=s2 _ _ e1
 have f2:=s2 _ _ e2
 revert s2 f1 f2
 generalize upd H1 t (.tup [V.int ((n:Int) * w),V.int ((r:Int) * w),V.int ((c:Int) * w)])=H2
 intro s2 f1 f2
 have em:(n:Int) * w=(n * w:Nat):=by simp
 rw[em]
 push_cast[]
 refine⟨by omega,by omega,?_⟩
 refine K5 (λi σ H'=>(Same H H'/\∃ kl kk,H' kl0=some (.dK kl)/\H' kk0=some (.dK kk)/\Xv S i kl kk)/\∃ y4 y5 y6 y7,σ=[some (.ref ly),some (.ref d),some (.ref kl0),some (.ref kk0),y4,y5,y6,y7]) ⟨⟨s1.trans s2,[],[],f1,f2,λq=>by simp[BK,HN,ld],λkv h=>(by cases h),λz h=>(by simp[BK]at h),Nat.le_refl _,Nat.le_refl _⟩,_,_,_,_,rfl⟩ (λi σ H' hi ⟨⟨s,kl,kk,g1,g2,N⟩,y4,y5,y6,y7,es⟩=> ?_) (λσ H' ⟨⟨s,kl,kk,g1,g2,N⟩,y4,y5,y6,y7,es⟩=> ?_)
 ·subst es
  push_cast[↓Hj,Int.zero_add]
  refine⟨_,_,s _ _ el,BX (by decide +kernel),oP TL (L.same s) λu hu=> ?_⟩
  have su:=AQ (o:=.tup [.int (0+(i:Int) / w),.int ((i:Int) % w)]) hu
  have eu:upd H' u (.tup [.int (0+(i:Int) / w),.int ((i:Int) % w)]) u=some (.tup [.int (A0 n r c w 0 i:Nat),.int (i % w:Nat)]):=by rw[AF];simp[A0]
  revert su eu
  generalize upd H' u (.tup [.int (0+(i:Int) / w),.int ((i:Int) % w)])=H3
  intro su eu
  have s3:=s.trans su
  have g13:=su _ _ g1
  have g23:=su _ _ g2
  have hk0:i<AX n r c w 0:=by simpa [AX]using hi
  refine I.get s3 (kind:=0) (by decide) hk0 eu λv rv=> ?_
  have ok0:=I.ok 0 i (by decide) hk0
  push_cast[↓Hv]
  cases e0:S 0 i with
  | no =>
   rw[e0]at rv
   rw[show v=.non from rv]
   push_cast[]
   exact⟨s3,kl,g13,kk,g23,λq=>by rw[o5,e0];exact N.v q,N.ks,λz h=>by obtain⟨k,r,h1,h2⟩:=N.kn z h;exact⟨k,r,by omega,h2⟩,by have:=N.l1;omega,by have:=N.l2;omega⟩
  | nm z q' =>
   rw[e0]at rv
   obtain⟨t0,rfl,D3⟩:=rv
   rw[if_pos (by simp)]
   push_cast[↓Hl]
   refine CT D3 (n:=0) rfl rfl ⟨_,dS g23,HM (λh=> ?_) ?_⟩
   ·obtain⟨k,r',h1,h2⟩:=N.kn z h
    have:=I.sd.un k i z r' q' (by omega) hi h2 e0
    omega
   push_cast[↓Hm]
   refine CT D3 (n:=0) rfl rfl ⟨_,pS g23 (by have:=N.l2;omega),?_⟩
   have tk3:upd H3 kk0 (.dK (BW kk (.inr z) (.bl true))) t0=some (.tup [V.str z,V.int q']):=by rw[AH (BH D3 g23 (by intro y;cases y))];exact D3
   have h1:upd H3 kk0 (.dK (BW kk (.inr z) (.bl true))) kl0=some (.dK kl):=by rw[AH nkk];exact g13
   have h2:upd H3 kk0 (.dK (BW kk (.inr z) (.bl true))) kk0=some (.dK (BW kk (.inr z) (.bl true))):=AF
   have s4:Same H (upd H3 kk0 (.dK (BW kk (.inr z) (.bl true)))):=λb o e=>by rw[AH (BL e hkk)];exact s3 _ _ e
   revert tk3 h1 h2 s4
   generalize upd H3 kk0 (.dK (BW kk (.inr z) (.bl true)))=H4
   intro tk3 h1 h2 s4
   push_cast[↓Hq]
   refine⟨.inl ⟨_,.inl h1⟩,CT tk3 (n:=1) rfl rfl ⟨_,dI h1,?_⟩⟩
   have hget:(BK kl (.inl (q':Int))).getD (.int 0)=.int (HN S i q':Nat):=by
    rw[N.v]
    by_cases z0:HN S i q'=0
    ·rw[if_pos z0,z0];rfl
    ·rw[if_neg z0];rfl
   rw[hget]
   push_cast[]
   refine CT tk3 (n:=1) rfl rfl ⟨_,pI h1 (by have:=N.l1;omega),λb o e=> ?_,_,AF,BW kk (.inr z) (.bl true),?_,λq1=> ?_,λkv hkv=> ?_,λy hy=> ?_,Nat.le_trans (H0 ..) (by have:=N.l1;omega),Nat.le_trans (H0 ..) (by have:=N.l2;omega)⟩
   ·rw[AH (BL e NS)];exact s4 _ _ e
   ·rw[AH nkk.symm];exact h2
   ·rw[IY,o5,e0]
    by_cases z1:q1=q'
    ·subst z1
     rw[if_pos rfl,show D2 (.nm z q1) q1=true by simp[D2]]
     simp
    ·rw[if_neg λe=>z1 (by have:=Sum.inl.inj e;omega),show D2 (.nm z q') q1=false by simp[D2];exact λe=>z1 e.symm]
     exact N.v q1
   ·rcases Xq hkv with h | h
    ·exact⟨q',h⟩
    ·exact N.ks kv h
   ·rw[IY]at hy
    by_cases z1:y=z
    ·subst z1;exact⟨i,q',by omega,e0⟩
    ·rw[if_neg λe=>z1 (Sum.inr.inj e)]at hy
     obtain⟨k,r',a1,a2⟩:=N.kn y hy
     exact⟨k,r',by omega,a2⟩
  | _=>rw[e0]at ok0;exact ok0.elim
 ·subst es
  push_cast[↓Jd]
  refine⟨kl,g1,λob=> ?_⟩
  have s4:Same H (upd H' kl0 (.frz ob (.dK kl))):=λb o e=>by rw[AH (BL e NS)];exact s _ _ e
  have h4:upd H' kl0 (.frz ob (.dK kl)) kl0=some (.frz ob (.dK kl)):=AF
  revert s4 h4
  generalize upd H' kl0 (.frz ob (.dK kl))=H4
  intro s4 h4
  refine zN (λj σ H'=>(Same H H'/\H' kl0=some (.frz ob (.dK kl)))/\∃ y6 y7,σ=[some (.ref ly),some (.ref d),some (.ref kl0),some (.ref kk0),y4,y5,y6,y7]) ⟨⟨s4,h4⟩,_,_,rfl⟩ (λj σ H' _ ⟨⟨_,h⟩,_⟩=>h) (λj key v σ H5 ej ⟨⟨s5,h5⟩,y6,y7,es⟩=> ?_) (λσ H5 ⟨⟨s5,h5⟩,y6,y7,es⟩=> ?_)
  ·subst es
   obtain⟨q1,rfl⟩:=N.ks (key,v) (List.mem_of_getElem? ej)
   have hs:(BK kl (.inl (q1:Int))).isSome=true:=by
    rw[<-IX]
    exact List.any_eq_true.mpr ⟨_,List.mem_of_getElem? ej,by simp⟩
   have hv:=N.v q1
   have hc:HN S (n * w) q1≠0:=λz=>by rw[hv,if_pos z]at hs;cases hs
   rw[if_neg hc]at hv
   obtain⟨k,hk,hle⟩:=List.countP_pos_iff.mp (Nat.pos_of_ne_zero hc)
   have hk:=List.mem_range.mp hk
   obtain⟨z,e0⟩:∃ z,S 0 k=.nm z q1:=by
    cases e:S 0 k with
    | nm z q2=>simp[e,D2]at hle;exact⟨z,by rw[hle]⟩
    | _=>simp[e,D2]at hle
   obtain⟨m,ps,e3⟩:=I.sd.nl k z q1 hk e0
   have hr:=I.rr k z q1 hk e0
   have ct:=I.sd.ct q1 m ps e3
   have mr:=I.sd.mr q1 m ps e3
   show AO 6 (.int (q1:Int)) _ _ _
   push_cast[]
   push_cast[↓Hx]
   refine⟨_,_,s5 _ _ el,BX (by decide +kernel),KK TL (L.same s5) λu hu=> ?_⟩
   have su:=AQ (o:=.tup [.int (n+(q1:Int) / w),.int ((q1:Int) % w)]) hu
   have eu:upd H5 u (.tup [.int (n+(q1:Int) / w),.int ((q1:Int) % w)]) u=some (.tup [.int (A0 n r c w 3 q1:Nat),.int (q1 % w:Nat)]):=by rw[AF];simp[A0]
   revert su eu
   generalize upd H5 u (.tup [.int (n+(q1:Int) / w),.int ((q1:Int) % w)])=H6
   intro su eu
   have s6:=s5.trans su
   refine I.get s6 (kind:=3) (by decide) (by simpa [AX]using hr) eu λv3 rv=> ?_
   rw[e3]at rv
   obtain⟨t0,u0,rfl,D3,E7⟩:=rv
   push_cast[↓Hz]
   refine⟨_,_,s6 _ _ el,BX (by decide +kernel),WW TL (L.same s6) λu7 hu7=> ?_⟩
   have su7:=AQ (o:=.tup [.int (n+r+c+(q1:Int) / w),.int ((q1:Int) % w)]) hu7
   have eu7:upd H6 u7 (.tup [.int (n+r+c+(q1:Int) / w),.int ((q1:Int) % w)]) u7=some (.tup [.int (A0 n r c w 1 q1:Nat),.int (q1 % w:Nat)]):=by rw[AF];simp[A0]
   revert su7 eu7
   generalize upd H6 u7 (.tup [.int (n+r+c+(q1:Int) / w),.int ((q1:Int) % w)])=H7
   intro su7 eu7
   have s7:=s6.trans su7
   refine I.get s7 (kind:=1) (by decide) (by simpa [AX]using hr) eu7 λv7 rv7=> ?_
   rw[mr]at rv7
   rw[show v7=.int ((1:Nat):Int)from rv7]
   push_cast[]
   refine HM (by simp) ?_
   push_cast[↓Jc]
   have et7:=su7 _ _ D3
   have h7:=(su.trans su7) _ _ h5
   refine CT et7 (n:=0) rfl rfl (SL (.inl (.int _)) (.ty _) (b:=true) rfl ?_)
   push_cast[]
   refine CT et7 (n:=0) rfl rfl (SL (.inl (.int _)) (.ty _) (b:=false) rfl ?_)
   push_cast[]
   refine CT et7 (n:=0) rfl rfl ⟨_,.inl ⟨kl,.inl (q1:Int),.inr ⟨ob,h7⟩,rfl,hv.symm⟩,?_⟩
   have ct:HN S (n * w) q1<=m:=ct
   push_cast[]
   refine HM (by omega) ?_
   exact⟨s7,h7⟩
  ·subst es
   push_cast[↓Jg]
   exact⟨ly,d,n,r,c,w,S,rfl,I.same s5,λH6 s6=>q _ (s5.trans s6)⟩
theorem Xx{C:Nat->Bool}{as:List AC}(h:∀ x∈as,EA x.kind x.x)(kind k:Nat):EA kind (sh (λ_ _=>.no) C as kind k):=by
 induction as with
 | nil=>cases kind<;>trivial
 | cons x r ih =>
  have ih:=ih λy hy=>h y (List.mem_cons_of_mem _ hy)
  by_cases c:C r.length=true
  ·rw[CL c]
   unfold Md.put
   split
   ·rename_i z
    rw[z.1];exact h x List.mem_cons_self
   ·exact ih
  ·rw[D7 c];exact ih
theorem C45.there{X:SX}{cs:List Ch}{tks:List (AM × V)}{M:Hs}{d:Addr}{AD:List (List AM × V)}(I:C45 a H X cs tks M)(TL:DU K a)(w1:1<=X.w)(ed:H d=some (.dT AD))(hv:∀ b k:Nat,b<X.rows.length->k<X.w->BK AD [.inl (b:Int),.inl (k:Int)]=(X.rows[b]?).bind λq=>q[k]?) :
  There K a H X.S.lp d X.n X.r X.c X.w (sh M.b (λj=>X.outs (j:Nat)) M.as):=by
 have sd:=I.snd
 have out:∀ {kind k:Nat},¬ k<AX X.n X.r X.c X.w kind->sh M.b (λj=>X.outs (j:Nat)) M.as kind k=.no:=λh=>by rw[I.b0];exact I.st.la.off h
 obtain⟨z1,z2,z3,z4,z5⟩:=I.st.sz
 refine⟨TL,I.st.ly,⟨AD,ed,λkind k h1 hk=> ?_⟩,sd,λkind k h1 hk=>by rw[I.b0];exact Xx I.ok kind k,λq m ps e=> ?_,λk z q hk e=> ?_,w1,z4,z1,z2,z3⟩
 ·obtain⟨b1,b2⟩:=I.st.on h1 hk
  have er:=List.getElem?_eq_getElem b1
  have wl:=I.st.bk.pk.wd _ (List.mem_of_getElem? er)
  obtain⟨v,ev⟩:∃ v,(X.rows[A0 X.n X.r X.c X.w kind k])[k % X.w]? =some v:=⟨_,List.getElem?_eq_getElem (by rw[wl];exact b2)⟩
  have e:(X.rows[A0 X.n X.r X.c X.w kind k]?).bind (λq=>q[k % X.w]?)=some v:=by rw[er];exact ev
  exact⟨v,by rw[hv _ _ b1 b2];exact e,I.rows kind k v h1 hk e⟩
 ·have lt:∀ p∈ps,p<X.c * X.w:=λp hp=>by
   have e2:=(sd.pm q m ps e p hp).1
   rcases Nat.lt_or_ge p (X.c * X.w)with z | z
   ·exact z
   ·rw[out (kind:=2) (k:=p) (λh=>by simp[AX]at h;omega)]at e2
    cases e2
  have:=List.Nodup.length_le_of_subset (sd.nd q m ps e) (l₂:=List.range (X.c * X.w)) λp hp=>List.mem_range.mpr (lt p hp)
  rw[List.length_range]at this
  have:=I.few
  exact⟨lt,by omega⟩
 ·obtain⟨m,ps,e3⟩:=sd.nl k z q hk e
  rcases Nat.lt_or_ge q (X.r * X.w)with z | z
  ·exact z
  ·rw[out (kind:=3) (k:=q) (λh=>by simp[AX]at h;omega)]at e3
   cases e3
theorem Xy(ns:List Int):∃ ms:List Int,EQ (ns.map V.int) (some 1) none=ms.map V.int/\ms.length<=ns.length - 1:=by
 refine⟨(ns.drop (HT.sIx ns.length 0 (some 1))).take (HT.sIx ns.length ns.length none - HT.sIx ns.length 0 (some 1)),?_,?_⟩
 ·unfold EQ
  rw[List.length_map,<-List.map_drop,<-List.map_take]
 ·rw[List.length_take,List.length_drop]
  have:HT.sIx ns.length 0 (some 1)=min 1 ns.length:=by
   unfold HT.sIx
   simp
   try omega
  omega
theorem C45.same{X:SX}{cs:List Ch}{tks:List (AM × V)}{M:Hs}{H':Hp}(I:C45 a H X cs tks M)(s:Same H H'):C45 a H' X cs tks M:=⟨I.st.same s,I.hi,I.b0,I.cut,I.rows.keep s.tk,I.few,I.ok⟩
structure S45(a:Ad)(H:Hp)(S:SA)(n r c w:Nat)(nl rr:Addr)(zs:List Str)(ms:List Int)(i:Nat):Prop where
 c:∃ (X:SX) (cs:List Ch) (tks:List (AM × V)) (M:Hs),X.S=S/\X.n=n/\X.r=r/\X.c=c/\X.w=w/\C45 a H X cs tks M/\cs.length<=15 * i
 enl:H nl=some (.lst (zs.map V.str))
 err:H rr=some (.lst (ms.map V.int))
 f1:¬ S.A.F nl/\nl≠S.tk/\nl≠S.A.gp
 f2:¬ S.A.F rr/\rr≠S.tk/\rr≠S.A.gp
theorem S45.same{S:SA}{n r c w i:Nat}{nl rr:Addr}{zs:List Str}{ms:List Int}{H':Hp}(J:S45 a H S n r c w nl rr zs ms i)(s:Same H H'):S45 a H' S n r c w nl rr zs ms i:=by
 obtain⟨⟨X,cs,tks,M,a1,a2,a3,a4,a5,I,l⟩,e1,e2,f1,f2⟩:=J
 exact⟨⟨X,cs,tks,M,a1,a2,a3,a4,a5,I.same s,l⟩,s _ _ e1,s _ _ e2,f1,f2⟩
section
variable{S:SA}{n r c w i:Nat}{nl rr:Addr}{zs:List Str}{ms:List Int}{P:V->Hp->Prop}
theorem S45.obs(J:S45 a H S n r c w nl rr zs ms i):(∃ dx,H S.st=some (.ins (a "Store") dx (sf S.lp S.A.b S.tk)))/\LayAt a H S.lp n r c w:=by
 obtain⟨⟨X,cs,tks,M,rfl,rfl,rfl,rfl,rfl,I,l⟩,_⟩:=J
 exact⟨I.st.ob,I.st.ly⟩
theorem S45.up(J:S45 a H S n r c w nl rr zs ms i):S45 a H S n r c w nl rr zs ms (i+1):=by
 obtain⟨⟨X,cs,tks,M,a1,a2,a3,a4,a5,I,l⟩,e1,e2,f1,f2⟩:=J
 exact⟨⟨X,cs,tks,M,a1,a2,a3,a4,a5,I,by omega⟩,e1,e2,f1,f2⟩
theorem S45.go{b:Nat}(T4:C9 K a)(J:S45 a H S n r c w nl rr zs ms i)(hb:b<n+r+c+r+c)(q:∀ t H',S45 a H' S n r c w nl rr zs ms i->P (.ref t) H'):LQ K a [.ref S.st,.int (b:Nat)] H P E:=by
 obtain⟨⟨X,cs,tks,M,rfl,rfl,rfl,rfl,rfl,I,l⟩,e1,e2,f1,f2⟩:=J
 have hr:b<X.rows.length:=by rw[I.st.sz.2.2.2.2];exact hb
 have er:=List.getElem?_eq_getElem hr
 exact⟨X,cs,tks,M,b,_,rfl,T4,I.st,er,λt H' I' sb=>q t H' ⟨⟨X.wr cs b _,cs,tks,M,rfl,rfl,rfl,rfl,rfl,I.write er I' sb,l⟩,sb _ _ e1 (λz=>z.elim f1.1 f1.2.2),sb _ _ e2 (λz=>z.elim f2.1 f2.2.2),f1,f2⟩⟩
theorem S45.sound(T4:C9 K a)(J:S45 a H S n r c w nl rr zs ms i)(w1:1<=w)(q:∀ H',S45 a H' S n r c w nl rr zs ms i->P (.bl true) H'):LR K a [.ref S.lp,.ref S.A.gp] H (λv H1=>LS K a [.ref S.lp,v] H1 P E) E:=by
 have J':=J
 obtain⟨⟨X,cs,tks,M,rfl,rfl,rfl,rfl,rfl,I,l⟩,e1,e2,f1,f2⟩:=J
 obtain⟨z1,z2,z3,z4,z5⟩:=I.st.sz
 refine⟨X.S.lp,X.S.A.gp,X.S.A.cl,X.n,X.r,X.c,X.w,X.rows,X.nn,rfl,T4.2.2.1,T4.2.1,I.st.ly,I.st.bk.pk,z5,by omega,z4,λd AD H1 s1 ed hv=> ?_⟩
 exact⟨X.S.lp,d,X.n,X.r,X.c,X.w,_,rfl,(I.same s1).there T4.2.2.1 w1 ed hv,λH2 s2=>q H2 (J'.same (s1.trans s2))⟩
theorem S45.deed{kind:Nat}{y z:Str}{x:Int}(T4:C9 K a)(TDk:TD K a)(J:S45 a H S n r c w nl rr zs ms i)(hl:i<=61)(hk:kind<8)(hy:BM y=true)(hz:BM z=true)(q:∀ v H',S45 a H' S n r c w nl rr zs ms (i+1)->P v H'):M7 K a [.ref S.st,.int (kind:Nat),.str y,.str z,.int x] H P E:=by
 obtain⟨⟨X,cs,tks,M,rfl,rfl,rfl,rfl,rfl,I,l⟩,e1,e2,f1,f2⟩:=J
 exact⟨X,cs,tks,M,kind,y,z,x,rfl,T4,TDk,I,by omega,hk,hy,hz,λv cs' tks' M' H' I' l' sb=>q _ H' ⟨⟨X,cs',tks',M',rfl,rfl,rfl,rfl,rfl,I',by omega⟩,sb _ _ e1 (λz=>z.elim f1.1 f1.2.1),sb _ _ e2 (λz=>z.elim f2.1 f2.2.1),f1,f2⟩⟩
end
theorem Xz(h:eB K a vs H Q E):WP K a (λ_=>E) (BB Q) (A8 ["script","cell","layout","plank","store","names","block"] vs) H:=by
 obtain⟨s,ns,rfl,T4,TDk,hs,hl,q⟩:=h
 have T4':=T4
 obtain⟨T,TP,TL,TS⟩:=T4
 push_cast[WP,↓Qg,↓Am]
 refine⟨ns,0,rfl,hs,by omega,?_⟩
 generalize KG ns 0=x
 obtain⟨n,en,hn⟩:∃ n:Nat,1+x % 3=n/\1<=n/\n<=3:=⟨(1+x % 3).toNat,by omega,by omega⟩
 obtain⟨r,er,hr⟩:∃ n:Nat,1+x / 3 % 3=n/\1<=n/\n<=3:=⟨(1+x / 3 % 3).toNat,by omega,by omega⟩
 obtain⟨c,ec,hc⟩:∃ n:Nat,1+x / 9 % 3=n/\1<=n/\n<=3:=⟨(1+x / 9 % 3).toNat,by omega,by omega⟩
 obtain⟨w,ew,hw⟩:∃ n:Nat,1+x / 27 % 4=n/\1<=n/\n<=4:=⟨(1+x / 27 % 4).toNat,by omega,by omega⟩
 push_cast[↓Qh,en,er,ec,ew]
 refine⟨⟨by decide,by decide⟩,⟨by decide,by decide⟩,⟨by decide,by decide⟩,λlp dl hlp hdl ndl=> ?_⟩
 have s0:Same H (upd (upd H dl (.own lp)) lp (.ins (a "Layout") dl [])):=(AQ hdl).trans (AQ (by rw[AH ndl.symm];exact hlp))
 refine⟨lp,dl,n,r,c,w,rfl,TL,AF,by omega,by omega,by omega,hw.1,by omega,λH2 L2 sb2=>⟨rfl,?_⟩⟩
 have s2:Same H H2:=λy o e=>sb2 _ _ (s0 _ _ e) (BL e hlp)
 clear s0 sb2 hlp hdl ndl
 replace hs:=s2.seq hs
 clear s2
 obtain⟨dl2,el⟩:=L2.ob
 push_cast[↓Qj]
 refine⟨_,_,el,BX (by decide +kernel),lp,n,r,c,w,rfl,TL,TP,L2,λgp cl H3 hgp BJ P3 s3=> ?_⟩
 push_cast[↓Qk]
 intro st dst hst hdst ndst
 have s4:Same H3 (upd (upd H3 dst (.own st)) st (.ins (a "Store") dst [])):=(AQ hdst).trans (AQ (by rw[AH ndst.symm];exact hst))
 have hN:∀ r'∈List.replicate (n+r+c+r+c) (List.replicate w V.non),∀ v∈r',v=.non:=λr' hr' v hv=>by
  rw[List.eq_of_mem_replicate hr']at hv
  exact List.eq_of_mem_replicate hv
 have hB:∀ {kind k:Nat} {v:V},((List.replicate (n+r+c+r+c) (List.replicate w V.non))[A0 n r c w kind k]?).bind (λq=>q[k % w]?)=some v->v=.non:=λhv=>by
  obtain⟨r',er',ev⟩:=Option.bind_eq_some_iff.mp hv
  exact hN r' (List.mem_of_getElem? er') _ (List.mem_of_getElem? ev)
 refine⟨st,dst,lp,gp,cl,n,r,c,w,_,0,λ_ _=>.no,rfl,T4',AF,(L2.same s3).same s4,P3.same s4,⟨by omega,by omega,by omega,by omega,by simp⟩,(λr' hr' v hv=>by rw[hN r' hr' v hv];trivial),λkind k v h1 hk hv=> ?_,λ_ _ _ _=>trivial,λS H5 e1 e2 e3 e4 off htk I NR=>⟨rfl,?_⟩⟩
 ·unfold D9 at hv
  have:DZ [] (A0 n r c w kind k:Nat) (k % w:Nat)=none:=rfl
  rw[this]at hv
  exact hB hv
 subst e1 e2
 have s35:Same H3 H5:=λy o e=>NR _ _ (s4 _ _ e) (BL e hst)
 have s25:Same H2 H5:=s3.trans s35
 have fw:c * w<=12:=Nat.le_trans (Nat.mul_le_mul hc.2 hw.2) (by decide)
 obtain⟨X,eX⟩:∃ X:SX,X=⟨S,n,r,c,w,List.replicate (n+r+c+r+c) (List.replicate w V.non),0,λ_=>false⟩:=⟨_,rfl⟩
 have I5:C45 a H5 X [] [] ⟨λ_ _=>.no,[]⟩:=by
  subst eX
  refine⟨I,⟨λ_=>none,λC _=>⟨λ_ _ _ _ e=>(by cases e),λ_ _ _ e=>(by cases e),λ_ _ _ e=>(by cases e),λ_ _ _ e=>(by cases e),λ_ _ _ e=>(by cases e),λ_ _ _ _ _ _ _ e=>(by cases e),λ_ _ _ _ _ _ _ e=>(by cases e)⟩,λ_ _ _ _ e=>(by cases e),λ_ _=>rfl,λ_ _ _ _ _ _ _=>Iff.rfl⟩,rfl,λk c e=>(by simp at e),λkind k v h1 hk hv=>hB hv,fw,λx hx=>(by cases hx)⟩
 push_cast[↓Ql]
 refine⟨⟨by decide,by decide⟩,_,rfl,λnl zs H6 hnl s6 enl hzl hzn=> ?_⟩
 obtain⟨ms,ems,hms⟩:=Xy ns
 have egp:∃ dp fs,H5 gp=some (.ins (a "Plank") dp fs):=by
  obtain⟨dp,e⟩:=I.bk.pk.ob
  exact⟨_,_,e3 ▸ e⟩
 obtain⟨dgp,fgp,egp⟩:=egp
 push_cast[↓Qx]
 refine zU ((s25.trans s6).seq hs) λrr hrr=> ?_
 rw[ems]
 have s7:=AQ (o:=.lst (ms.map V.int)) hrr
 have e7:upd H6 rr (.lst (ms.map V.int)) rr=some (.lst (ms.map V.int)):=AF
 revert s7 e7
 generalize upd H6 rr (.lst (ms.map V.int))=H7
 intro s7 e7
 have J7:S45 a H7 S n r c w nl rr zs ms 0:=⟨⟨X,[],[],_,by rw[eX],by rw[eX],by rw[eX],by rw[eX],by rw[eX],I5.same (s6.trans s7),Nat.zero_le _⟩,s7 _ _ enl,e7,⟨I.bk.off hnl,λz=>(by rw[z,I.tk]at hnl;cases hnl),λz=>(by rw[z,e3,egp]at hnl;cases hnl)⟩,⟨I.bk.off (s6.free hrr),λz=>(by rw[z,s6 _ _ I.tk]at hrr;cases hrr),λz=>(by rw[z,e3,s6 _ _ egp]at hrr;cases hrr)⟩⟩
 refine⟨rr,rfl,.inl ⟨⟨_,SqL.of e7⟩,K4 (xs:=ms.map V.int) (λi σ H'=>S45 a H' S n r c w nl rr zs ms i/\∃ y1 y6,σ=[some (.ref s),y1,some (.ref S.lp),some (.ref gp),some (.ref S.st),some (.ref nl),y6]) ⟨J7,_,_,rfl⟩ (λi σ H' _ ⟨J,_⟩=>SqL.of J.err) (λi v σ H' ev hzz=> ?_) (λσ H' hzz=> ?_)⟩⟩
 ·obtain⟨J,y1,y6,es⟩:=hzz
  subst es
  rw[List.getElem?_map,Option.map_eq_some_iff]at ev
  obtain⟨y,ey,rfl⟩:=ev
  have hi:=(List.getElem?_eq_some_iff.mp ey).1
  obtain⟨⟨dxs,ho⟩,L'⟩:=J.obs
  obtain⟨dl',el'⟩:=L'.ob
  push_cast[↓Qw]
  split
  ·push_cast[↓Qm]
   obtain⟨b,eb,hb⟩:∃ b:Nat,y / 3 % ((n+r+c+r+c:Nat):Int)=b/\b<n+r+c+r+c:=⟨(y / 3 % ((n+r+c+r+c:Nat):Int)).toNat,by
    have:=Int.emod_nonneg (y / 3) (show((n+r+c+r+c:Nat):Int)≠0 by omega)
    omega,by
    have:=Int.emod_lt_of_pos (y / 3) (show 0<((n+r+c+r+c:Nat):Int) by omega)
    have:=Int.emod_nonneg (y / 3) (show((n+r+c+r+c:Nat):Int)≠0 by omega)
    omega⟩
   refine⟨_,_,ho,CA (by decide +kernel),⟨by decide,by decide⟩,_,_,el',BX (by decide +kernel),S.lp,n,r,c,w,rfl,TL,L',?_⟩
   simp only[bX]
   refine⟨by omega,?_⟩
   rw[show((n:Int)+r+c+r+c)=((n+r+c+r+c:Nat):Int) by omega,eb]
   refine J.go T4' hb λt H9 J9=> ?_
   push_cast[↓Qq]
   rw[<-e3]
   refine J9.sound T4' hw.1 λH10 J10=> ?_
   push_cast[]
   exact J10.up
  ·push_cast[↓Qv]
   have nm:∀ {i:Int} {H9:Hp} {QV:VK},H9 nl=some (.lst (zs.map V.str))->(∀ z,BM z=true->QV (.str z) H9)->CQ K (.ref nl) (.int (i % 5)) H9 QV:=λ{i H9 QV} e9 qv=>by
    have h5:(i % 5).toNat<zs.length:=by omega
    refine FG (n:=(i % 5).toNat) (v:=.str (zs[(i % 5).toNat]'h5)) (SqL.of e9) (by omega) ?_ (qv _ (hzn _ (List.getElem_mem h5)))
    rw[List.getElem?_map,List.getElem?_eq_getElem h5]
    rfl
   refine⟨⟨by decide,by decide⟩,⟨by decide,by decide⟩,nm J.enl λz1 hz1=>⟨⟨by decide,by decide⟩,nm J.enl λz2 hz2=>⟨⟨by decide,by decide⟩,?_⟩⟩⟩
   obtain⟨kk,ek,hk⟩:∃ b:Nat,y / 3 % 8=b/\b<8:=⟨(y / 3 % 8).toNat,by omega,by omega⟩
   rw[ek]
   exact J.deed T4' TDk (by omega) hk hz1 hz2 λv H9 J9=>J9
 ·obtain⟨J,y1,y6,es⟩:=hzz
  subst es
  obtain⟨⟨dxs,ho⟩,L'⟩:=J.obs
  obtain⟨dl',el'⟩:=L'.ob
  push_cast[]
  push_cast[↓Rc]
  refine⟨_,_,el',BX (by decide +kernel),S.lp,n,r,c,w,rfl,TL,L',(n+r+c+r+c:Nat),by simp,by omega,by omega,?_⟩
  rw[Int.toNat_natCast]
  refine K5 (λj σ H'=>S45 a H' S n r c w nl rr zs ms (ms.map V.int).length/\∃ y6,σ=[some (.ref s),y1,some (.ref S.lp),some (.ref gp),some (.ref S.st),some (.ref nl),y6]) ⟨J,_,rfl⟩ (λj σ H8 hj hzz=> ?_) (λσ H8 hzz=> ?_)
  ·obtain⟨J8,y6,es⟩:=hzz
   subst es
   obtain⟨⟨dxs,ho⟩,L8⟩:=J8.obs
   push_cast[↓Qy,Int.zero_add]
   refine⟨_,_,ho,CA (by decide +kernel),J8.go T4' hj λt H9 J9=> ?_⟩
   push_cast[↓Rb]
   rw[<-e3]
   refine J9.sound T4' hw.1 λH10 J10=> ?_
   push_cast[]
   exact J10
  ·obtain⟨J8,y6,es⟩:=hzz
   subst es
   push_cast[↓Rg]
   exact q _
end
end L2
namespace L2
def BF(i:Nat):Stmt:=PySem.Challenge.pw_holdback_k45_whole_every_cut_is_sound.main.body.getD i (.Pass ⟨0,0,0,0⟩)
structure Txt(K:W.Frag)(mg:Str->Option Value)(a:Ad):Prop where
 zc4:Cls K (a "Change")
 DO:Cls K (a "Hold")
 BU:Cls K (a "Layout")
 HS:Cls K (a "Plank")
 B8:Cls K (a "Store")
 zc5:GV mg "MOST_LETTERS" (.int 8)
 zc6:GV mg "MOST_PIECE_SIGNS" (.int 40)
 ZQ:mg "NoBlock"=some (.ref (a "NoBlock"))
 zdg:GV mg "NoBlock" (.ref (a "NoBlock"))
 ZT:Exc K (a "NoBlock")
 zc8:mg "NoChange"=some (.ref (a "NoChange"))
 zdh:GV mg "NoChange" (.ref (a "NoChange"))
 zc9:Exc K (a "NoChange")
 ZR:mg "NoName"=some (.ref (a "NoName"))
 zdi:GV mg "NoName" (.ref (a "NoName"))
 pU:Exc K (a "NoName")
 ZS:mg "NoPiece"=some (.ref (a "NoPiece"))
 zdj:GV mg "NoPiece" (.ref (a "NoPiece"))
 pV:Exc K (a "NoPiece")
 pR:mg "NoRoom"=some (.ref (a "NoRoom"))
 zdk:GV mg "NoRoom" (.ref (a "NoRoom"))
 zda:Exc K (a "NoRoom")
 zc7:GV mg "PERCENT" (.int 37)
 pT:mg "Twice"=some (.ref (a "Twice"))
 zdl:GV mg "Twice" (.ref (a "Twice"))
 zdb:Exc K (a "Twice")
 ZM:mg "all"=none
 zcz:mg "bool"=none
 zc0:mg "dict"=none
 pO:mg "enumerate"=none
 zc1:mg "int"=none
 ZN:mg "isinstance"=none
 G7:mg "len"=none
 ZO:mg "list"=none
 zc2:mg "ord"=none
 F6:mg "range"=none
 pP:mg "set"=none
 pQ:mg "sorted"=none
 zc3:mg "str"=none
 ZP:mg "tuple"=none
section
variable(P:Program)(w:World){K:W.Frag}{mg:Str->Option Value}(base:Heap){a:Ad}{f:Addr}{fd:FuncData}
seal wpAny
abbrev W3:Stmt:=BS (BF 10) 0
theorem Yb:FnScope ["self","place","value","needs"] ["self","place","value","needs"] (A1 W3):=.go
theorem Yc(T:Txt K mg a) (F:Fun K "__init__" "Change.__init__" W3 f fd) :
  FP P w K mg base 1 f fd ["self","place","value","needs"] (PD K a) :=
 F.okL (T7 K a) Yb Rw λ_ _ _ _ _ E hr hx=>(AN (EH (AB 0) (AB 1) rfl) (AN (EH (AB 0) (AB 2) rfl) (AL (EH (AB 0) (AB 3) rfl))))
abbrev W4:Stmt:=BS (BF 11) 10
theorem o6:FnScope ["self","numbers","number"] ["self","numbers"] (A1 W4):=.go
theorem Yd(T:Txt K mg a) (F:Fun K "ask_for_changes" "Book.ask_for_changes" W4 f fd) :
  FP P w K mg base 1 f fd ["self","numbers"] (PK K a) :=
 F.okL (T8 K a) o6 Sc λ_ _ _ _ _ E hr hx=>(AL (EN hx.po rfl (HF (AB 1)) (CY 2 o6.nd) (AL (B9 (GO (MI FX ID AS (AB 2) (EB GU rfl T.G7 (by rfl) (AI (AZ (AB 0) rfl))))) (AL (HE hx T.zc9 rfl T.zc8 (AI DG))) CW))))
abbrev W5:Stmt:=BF 12
theorem Yg:FnScope ["needs","ahead"] ["needs","ahead"] (A1 W5):=.go
theorem Yh(T:Txt K mg a) (F:Fun K "needs_with" "needs_with" W5 f fd) :
  FP P w K mg base 1 f fd ["needs","ahead"] (PF K a) :=
 F.okL (QQ K a) Yg Ry λ_ _ _ _ _ E hr hx=>(AN (B9 (DD MH (AB 1) EM (DC _)) (AL (BC (IV SH rfl T.ZP (by rfl) (AI (cW rfl rfl T.pQ rfl T.pP (AB 0)))))) CW) (AL (BC (IV SH rfl T.ZP (by rfl) (AI (cW rfl rfl T.pQ rfl T.pP (AW BZ (IV SG rfl T.ZO (by rfl) (AI (AB 0))) (CP (AI (AB 1))))))))))
abbrev W6:Stmt:=BS (BF 14) 2
theorem o7:FnScope ["self","number","gone","need"] ["self","number","gone"] (A1 W6):=.go
theorem Yj(T:Txt K mg a) (F:Fun K "lack_of" "Hold.lack_of" W6 f fd) :
  FP P w K mg base 1 f fd ["self","number","gone"] (PL K a) :=
 F.okL (UD K a) o7 Sj λ_ _ _ _ _ E hr hx=>(AN (EN hx.po rfl (HF (AZ (CC CD (AZ (AB 0) rfl) (AB 1) (λ_ _=>rfl)) rfl)) (CY 3 o7.nd) (AL (B9 (PW.pt (RD (IQ (OC (C7 hr) (AB 3) (AZ (AB 0) rfl)) (by with_unfolding_all rfl)) (RC (IQ (OC (C7 hr) (AB 3) (AB 2)) (by with_unfolding_all rfl))))) (AL (BC (AB 3))) CW))) (AL (BC EM)))
abbrev W7:Stmt:=BS (BF 14) 3
theorem W8:FnScope ["self","values","block","laid","number"] ["self","values","block"] (A1 W7):=.go
theorem Yk(T:Txt K mg a) (F:Fun K "laid_over" "Hold.laid_over" W7 f fd) :
  FP P w K mg base 1 f fd ["self","values","block"] (PN K a) :=
 F.okL (UJ K a) W8 Sm λ_ _ _ _ _ E hr hx=>(AN (BD 3 W8.nd (IV SG rfl T.ZO (by rfl) (AI (AB 1)))) (AN (EN hx.po rfl (HF (CC CD (AZ (AB 0) rfl) (AB 2) (λ_ _=>rfl))) (CY 4 W8.nd) (AL (B9 (IQ (OB (C7 hr) (AB 4) (AZ (AB 0) rfl)) (by with_unfolding_all rfl)) (AL (Z1 (AZ (CC CD (AZ (AB 0) rfl) (AB 4) (λ_ _=>rfl)) rfl) (Z0 (AB 3) (CC CD (AZ (CC CD (AZ (AB 0) rfl) (AB 4) (λ_ _=>rfl)) rfl) AS (λ_ _=>rfl)) bV))) CW))) (AL (BC (AB 3)))))
abbrev W9:Stmt:=BF 17
theorem Yl:FnScope ["sign"] ["sign"] (A1 W9):=.go
theorem Ym(T:Txt K mg a) (F:Fun K "is_sign" "is_sign" W9 f fd) :
  FP P w K mg base 1 f fd ["sign"] (P0 K a) :=
 F.okL (UK K a) Yl Uk λ_ _ _ _ _ E hr hx=>(AL (BC (RF (N5 FX FX DG (AB 0) DG) (RE (rE (OI hr.units) (EB xH rfl T.zc2 (by rfl) (AI (AB 0))) (R7 T.zc7 rfl) (DC _))))))
abbrev XA:Stmt:=BF 21
theorem o8:FnScope ["thing"] ["thing"] (A1 XA):=.go
theorem o9:(["sign"]:List Str).Nodup:=by decide +kernel
theorem Yp(T:Txt K mg a) (F:Fun K "is_name" "is_name" XA f fd) :
  FP P w K mg base 1 f fd ["thing"] (P4 K a) :=
 F.okL (UL K a) o8 Ul λ_ _ _ _ _ E hr hx=>(AL (BC (RF (N5 FX FX AS (EB GU rfl T.G7 (by rfl) (AI (AB 0))) (R7 T.zc5 rfl)) (RE (EB (SO rfl) rfl T.ZM (by rfl) (AI (JE (tn:=["sign"]) (cn:=[]) (cap:=[]) o8.cp rfl (cF (AB 0)) (λ_ _ _ _ _ _=>(CY 0 o9)) (λ_ _ _ _ _ _=>GT) (λ_ _ _ _ _ _=>(N5 FX FX DG (AB 0) DG)))))))))
abbrev XB:Stmt:=BS (BF 30) 0
theorem pA:FnScope ["self","blocks","cells"] ["self","blocks","cells"] (A1 XB):=.go
theorem Yq:(["block","cells"]:List Str).Nodup:=by decide +kernel
theorem Yv(T:Txt K mg a) (F:Fun K "__init__" "Plank.__init__" XB f fd) :
  FP P w K mg base 1 f fd ["self","blocks","cells"] (OY K a) :=
 F.okL (UM K a) pA Rj λ_ _ _ _ _ E hr hx=>(AN (EH (AB 0) (JE (tn:=["block"]) (cn:=["cells"]) (cap:=[2]) pA.cp rfl (FR rfl T.F6 (AI (AB 1))) (λ_ _ _ _ _ _=>(CY 0 Yq)) (λ_ _ _ _ _ _=>GT) (λ_ _ _ _ _ _=>(AW JH (E9 (AI EM)) (AB 1)))) rfl) (AN (EH (AB 0) (AB 2) rfl) (AL (EH (AB 0) AS rfl))))
abbrev XC:Stmt:=BS (BF 30) 1
theorem Yw:FnScope ["self"] ["self"] (A1 XC):=.go
theorem Yx(T:Txt K mg a) (F:Fun K "blocks" "Plank.blocks" XC f fd) :
  FP P w K mg base 1 f fd ["self"] (K9 K a) :=
 F.okL (UN K a) Yw Rk λ_ _ _ _ _ E hr hx=>(AL (BC (EB GU rfl T.G7 (by rfl) (AI (AZ (AB 0) rfl)))))
abbrev XD:Stmt:=BS (BF 30) 2
theorem Yy:FnScope ["self"] ["self"] (A1 XD):=.go
theorem Yz(T:Txt K mg a) (F:Fun K "cells" "Plank.cells" XD f fd) :
  FP P w K mg base 1 f fd ["self"] (OZ K a) :=
 F.okL (UO K a) Yy Rl λ_ _ _ _ _ E hr hx=>(AL (BC (AZ (AB 0) rfl)))
abbrev XF:Stmt:=BS (BF 30) 6
theorem Zb:FnScope ["self","block"] ["self","block"] (A1 XF):=.go
theorem Zc(T:Txt K mg a) (F:Fun K "ask_for_block" "Plank.ask_for_block" XF f fd) :
  FP P w K mg base 1 f fd ["self","block"] (JK K a) :=
 F.okL (UP K a) Zb Rm λ_ _ _ _ _ E hr hx=>(AL (B9 (GO (MI FX ID AS (AB 1) (EB GU rfl T.G7 (by rfl) (AI (AZ (AB 0) rfl))))) (AL (HE hx T.ZT rfl T.ZQ (AI DG))) CW))
abbrev XG:Stmt:=BS (BF 32) 0
theorem Zd:FnScope ["self","names","records","pieces","cells"] ["self","names","records","pieces","cells"] (A1 XG):=.go
theorem Zg(T:Txt K mg a) (F:Fun K "__init__" "Layout.__init__" XG f fd) :
  FP P w K mg base 1 f fd ["self","names","records","pieces","cells"] (O8 K a) :=
 F.okL (UQ K a) Zd Sv λ_ _ _ _ _ E hr hx=>(AN (EH (AB 0) (AB 1) rfl) (AN (EH (AB 0) (AB 2) rfl) (AN (EH (AB 0) (AB 3) rfl) (AL (EH (AB 0) (AB 4) rfl)))))
abbrev XH:Stmt:=BS (BF 32) 6
theorem Zh:FnScope ["self"] ["self"] (A1 XH):=.go
theorem Zj(T:Txt K mg a) (F:Fun K "counts" "Layout.counts" XH f fd) :
  FP P w K mg base 1 f fd ["self"] (FI K a) :=
 F.okL (UR K a) Zh Th λ_ _ _ _ _ E hr hx=>(AL (BC (E9 (DJ (AW JH (AZ (AB 0) rfl) (AZ (AB 0) rfl)) (AW JH (AZ (AB 0) rfl) (AZ (AB 0) rfl)) (AW JH (AZ (AB 0) rfl) (AZ (AB 0) rfl))))))
abbrev XI:Stmt:=BS (BF 32) 9
theorem Zk:FnScope ["self"] ["self"] (A1 XI):=.go
theorem Zl(T:Txt K mg a) (F:Fun K "blocks_ahead_of_marks" "Layout.blocks_ahead_of_marks" XI f fd) :
  FP P w K mg base 1 f fd ["self"] (JM K a) :=
 F.okL (US K a) Zk Td λ_ _ _ _ _ E hr hx=>(AL (BC (AW BZ (AW BZ (AZ (AB 0) rfl) (AZ (AB 0) rfl)) (AZ (AB 0) rfl))))
abbrev XJ:Stmt:=BS (BF 32) 10
theorem Zm:FnScope ["self","block","k"] ["self","block","k"] (A1 XJ):=.go
theorem Zp(T:Txt K mg a) (F:Fun K "place_from" "Layout.place_from" XJ f fd) :
  FP P w K mg base 1 f fd ["self","block","k"] (GH K a) :=
 F.okL (UT K a) Zm Sw λ_ _ _ _ _ E hr hx=>(AL (BC (E9 (BN (AW BZ (AB 1) (AW DB (AB 2) (AZ (AB 0) rfl))) (AW C1 (AB 2) (AZ (AB 0) rfl))))))
abbrev XL:Stmt:=BF 34
theorem Zq:FnScope ["script","k"] ["script","k"] (A1 XL):=.go
theorem Zv(T:Txt K mg a) (F:Fun K "_law_cell_at" "_law_cell_at" XL f fd) :
  FP P w K mg base 1 f fd ["script","k"] (LF K a) :=
 F.okL (UU K a) Zq Rh λ_ _ _ _ _ E hr hx=>(AN (B9 (DD ID (AB 1) (EB GU rfl T.G7 (by rfl) (AI (AB 0))) (DC _)) (AL (BC (CC CD (AB 0) (AB 1) (λ_ _=>rfl)))) CW) (AL (BC AS)))
abbrev XM:Stmt:=BF 35
theorem G4:FnScope ["cell","letters","base","rest","k","at","first","last","turned"] ["cell"] (A1 XM):=.go
theorem Zw(T:Txt K mg a) (F:Fun K "_law_names" "_law_names" XM f fd) :
  FP P w K mg base 1 f fd ["cell"] (QJ K a) :=
 F.okL (UV K a) G4 Wz λ_ _ _ _ _ E hr hx=>(AN (BD 1 G4.nd DG) (AN (BD 2 G4.nd DG) (AN (BD 3 G4.nd (AW DB (AB 0) AS)) (AN (EN hx.po rfl (FR rfl T.F6 (AI (AW BZ AS (AW C1 (AB 0) AS)))) (CY 4 G4.nd) (AN (BD 2 G4.nd (AW BZ (AB 2) (CC CD (AB 1) (AW C1 (AW BZ (AB 3) (AW JH (AW JH AS (AB 4)) (AW C1 (AW DB (AB 3) AS) AS))) AS) (λ_ _=>rfl)))) (AL (BD 3 G4.nd (AW BZ (AW DB (AB 3) AS) (AW JH AS (AB 4))))))) (AN (BD 5 G4.nd (AW C1 (AW DB (AB 0) AS) (EB GU rfl T.G7 (by rfl) (AI (AB 2))))) (AN (BD 6 G4.nd (CC CD (AB 1) (AW C1 (AW DB (AB 0) AS) AS) (λ_ _=>rfl))) (AN (BD 7 G4.nd (CC CD (AB 1) (AW C1 (AW BZ (AW BZ (AW DB (AB 0) AS) AS) (AW C1 (AW DB (AB 0) AS) AS)) AS) (λ_ _=>rfl))) (AN (BD 8 G4.nd (CC CD (AB 1) (AW C1 (AW BZ (AW BZ (IW PySem.F.plainAttrs_str PySem.F.slot_str_find PySem.F.type_str_find zI (AB 1) (AI (CC CD (AB 2) (AB 5) (λ_ _=>rfl)))) AS) (AW C1 (AW DB (AB 0) AS) AS)) AS) (λ_ _=>rfl))) (AL (BC (CP (IT (AB 2) (MY (AW BZ (AB 2) (AB 7)) (AW BZ (AB 6) (AB 2)) (AW BZ (AW BZ (MM MS (AB 2) MK (ML (AB 5))) (AB 8)) (MM MS (AB 2) (ML (AW BZ (AB 5) AS)) MK)) (AW BZ (AW BZ (AB 2) (AB 7)) (AB 6)))))))))))))))
abbrev XN:Stmt:=BF 36
theorem JS:FnScope ["cell","signs","many","step","wide"] ["cell"] (A1 XN):=.go
theorem Zx:(["j","signs","cell","step","wide"]:List Str).Nodup:=by decide +kernel
theorem Zy(T:Txt K mg a) (F:Fun K "_law_text" "_law_text" XN f fd) :
  FP P w K mg base 1 f fd ["cell"] (QK K a) :=
 F.okL (UZ K a) JS Xg λ_ _ _ _ _ E hr hx=>(AN (ME (i:=1) JS.nd rfl (Or.inr rfl) DG) (AN (ME (i:=1) JS.nd rfl (Or.inr rfl) (AW BZ (AB 1) DG)) (AN (BD 2 JS.nd (AW BZ AS (AW C1 (AB 0) AS))) (AN (B9 (DD (KB hr.units) (AW C1 (AW DB (AB 0) AS) AS) AS (DC _)) (AL (BD 2 JS.nd (AW RL AS (AW C1 (AW DB (AB 0) AS) AS)))) CW) (AN (ME (i:=3) JS.nd rfl (Or.inr rfl) (AW BZ AS (AW C1 (AW DB (AB 0) AS) AS))) (AN (ME (i:=4) JS.nd rfl (Or.inr rfl) (AW BZ AS (AW C1 (AW DB (AB 0) AS) AS))) (AL (BC (IW PySem.F.plainAttrs_str PySem.F.slot_str_join PySem.F.type_str_join zB DG (AI (JE (tn:=["j"]) (cn:=["signs","cell" ,"step" ,"wide" ]) (cap:=[1,0,3,4]) JS.cp rfl (FR rfl T.F6 (AI (AB 2))) (λ_ _ _ _ _ _=>(CY 0 Zx)) (λ_ _ _ _ _ _=>GT) (λ_ _ _ _ _ _=>(CC CD (AB 1) (AW C1 (AW BZ (AW DB (AB 2) AS) (AW JH (AB 3) (AW DB (AB 0) (AB 4)))) AS) (λ_ _=>rfl))))))))))))))
abbrev XO:Stmt:=BF 37
theorem Zz:FnScope ["cell"] ["cell"] (A1 XO):=.go
theorem zaa(T:Txt K mg a) (F:Fun K "_law_at" "_law_at" XO f fd) :
  FP P w K mg base 1 f fd ["cell"] (QL K a) :=
 F.okL (U0 K a) Zz Xc λ_ _ _ _ _ E hr hx=>(AN (B9 (DD (KB hr.units) (AW C1 (AW DB (AB 0) AS) AS) AS (DC _)) (AL (BC (AW RL (AW C1 (AB 0) AS) AS))) CW) (AL (BC (AW RL (AW C1 (AB 0) AS) AS))))
abbrev XQ:Stmt:=BS (BF 11) 0
theorem pB:FnScope ["self","plank"] ["self","plank"] (A1 XQ):=.go
theorem zab:(["block"]:List Str).Nodup:=by decide +kernel
theorem zac(T:Txt K mg a)(ZC:AT P w K mg base (a "Plank") 1 "blocks" ["self"] (K9 K a))(F:Fun K "__init__" "Book.__init__" XQ f fd) :
  FP P w K mg base 2 f fd ["self","plank"] (M5 K a) :=
 F.okL (U1 K a) pB Rx λ_ _ _ _ _ E hr hx=>(AN (EH (AB 0) (AB 1) rfl) (AN (EH (AB 0) (CP FS) rfl) (AN (EH (AB 0) (JE (tn:=["block"]) (cn:=[]) (cap:=[]) pB.cp rfl (FR rfl T.F6 (AI (EC (AB 1) T.HS ZC hr hx))) (λ_ _ _ _ _ _=>(CY 0 zab)) (λ_ _ _ _ _ _=>GT) (λ_ _ _ _ _ _=>(CP FS))) rfl) (AN (EH (AB 0) bI rfl) (AL (EH (AB 0) KY rfl))))))
abbrev XR:Stmt:=BS (BF 11) 9
theorem zad:FnScope ["self","place"] ["self","place"] (A1 XR):=.go
theorem zae(T:Txt K mg a)(zcm:AT P w K mg base (a "Plank") 1 "cells" ["self"] (OZ K a))(ZC:AT P w K mg base (a "Plank") 1 "blocks" ["self"] (K9 K a))(F:Fun K "ask_for_place" "Book.ask_for_place" XR f fd) :
  FP P w K mg base 2 f fd ["self","place"] (PJ K a) :=
 F.okL (U2 K a) zad Rz λ_ _ _ _ _ E hr hx=>(AL (B9 (PW.pt (MC (GO (MI FX ID AS (EI (AB 1)) (EC (AZ (AB 0) rfl) T.HS ZC hr hx))) (NV (GO (MI FX ID AS (EI (AB 1)) (EC (AZ (AB 0) rfl) T.HS zcm hr hx)))))) (AL (HE hx T.ZT rfl T.ZQ (AI DG))) CW))
abbrev XS:Stmt:=BS (BF 14) 1
theorem LV:FnScope ["self","block","taken","gone","out","held","number","lack"] ["self","block","taken"] (A1 XS):=.go
theorem zaf(T:Txt K mg a)(zch:AT P w K mg base (a "Hold") 1 "lack_of" ["self","number","gone"] (PL K a))(F:Fun K "outcome" "Hold.outcome" XS f fd) :
  FP P w K mg base 2 f fd ["self","block","taken"] (PM K a) :=
 F.okL (VE K a) LV Sl λ_ _ _ _ _ E hr hx=>(AN (BD 3 LV.nd (IV yL rfl T.zc0 (by rfl) (AI (AB 2)))) (AN (BD 4 LV.nd (CP FS)) (AN (BD 5 LV.nd (CP FS)) (AN (EN hx.po rfl (HF (CC CD (AZ (AB 0) rfl) (AB 1) (λ_ _=>rfl))) (CY 6 LV.nd) (AL (B9 (PW.pt (RD (IQ (OC (C7 hr) (AB 6) (AZ (AB 0) rfl)) (by with_unfolding_all rfl)) (RC (IQ (OC (C7 hr) (AB 6) (AB 3)) (by with_unfolding_all rfl))))) (AN (BD 7 LV.nd (A6 (AB 0) T.DO zch hr hx (BN (AB 6) (AB 3)))) (AL (B9 (DD MH (AB 7) EM (DC _)) (AN (JB (C7 hr) (AB 3) (AB 6) FO rfl) (AL (DQ (IW PySem.F.plainAttrs_list PySem.F.slot_list_append PySem.F.type_list_append KS (AB 4) (AI (AB 6)))))) (AL (DQ (IW PySem.F.plainAttrs_list PySem.F.slot_list_append PySem.F.type_list_append KS (AB 5) (AI (E9 (BN (AB 6) (AB 7)))))))))) CW))) (AL (BC (E9 (BN (AB 4) (AB 5)))))))))
abbrev XT:Stmt:=BF 22
theorem pC:FnScope ["thing"] ["thing"] (A1 XT):=.go
theorem zag(T:Txt K mg a)(zb7:DS P w K mg base (1) "is_sign" ["sign"] (P0 K a))(F:Fun K "is_piece" "is_piece" XT f fd) :
  FP P w K mg base 2 f fd ["thing"] (P5 K a) :=
 F.okL (VF K a) pC Um λ_ _ _ _ _ E hr hx=>(AL (BC (RF (N5 FX FX AS (EB GU rfl T.G7 (by rfl) (AI (AB 0))) (R7 T.zc6 rfl)) (RE (EB (SO rfl) rfl T.ZM (by rfl) (AI (JE (tn:=["sign"]) (cn:=[]) (cap:=[]) pC.cp rfl (cF (AB 0)) (λ_ _ _ _ _ _=>(CY 0 o9)) (λ_ _ _ _ _ _=>GT) (λ_ _ _ _ _ _=>(MP zb7 hr.m JF rfl (AI (AB 0)))))))))))
abbrev XU:Stmt:=BS (BF 30) 4
theorem zah:FnScope ["self","block"] ["self","block"] (A1 XU):=.go
theorem zai(T:Txt K mg a)(ZB:AT P w K mg base (a "Plank") 1 "ask_for_block" ["self","block"] (JK K a))(F:Fun K "read" "Plank.read" XU f fd) :
  FP P w K mg base 2 f fd ["self","block"] (JL K a) :=
 F.okL (VG K a) zah Rp λ_ _ _ _ _ E hr hx=>(AN (DQ (A6 (AB 0) T.HS ZB hr hx (AI (AB 1)))) (AL (BC (IV SG rfl T.ZO (by rfl) (AI (CC CD (AZ (AB 0) rfl) (AB 1) (λ_ _=>rfl)))))))
abbrev XV:Stmt:=BS (BF 30) 5
theorem zaj:FnScope ["self","block","values"] ["self","block","values"] (A1 XV):=.go
theorem zak(T:Txt K mg a)(ZB:AT P w K mg base (a "Plank") 1 "ask_for_block" ["self","block"] (JK K a))(F:Fun K "write" "Plank.write" XV f fd) :
  FP P w K mg base 2 f fd ["self","block","values"] (O0 K a) :=
 F.okL (VH K a) zaj Rq λ_ _ _ _ _ E hr hx=>(AN (DQ (A6 (AB 0) T.HS ZB hr hx (AI (AB 1)))) (AN (B9 (DD (OI hr.units) (EB GU rfl T.G7 (by rfl) (AI (AB 2))) (AZ (AB 0) rfl) (DC _)) (AL (HE hx T.ZT rfl T.ZQ (AI DG))) CW) (AN (Z1 (IV SH rfl T.ZP (by rfl) (AI (AB 2))) (Z0 (AZ (AB 0) rfl) (AB 1) bV)) (AL (rT (AB 0) AS rV)))))
abbrev XW:Stmt:=BS (BF 32) 1
theorem zal:FnScope ["self","k"] ["self","k"] (A1 XW):=.go
theorem zam(T:Txt K mg a)(IN:AT P w K mg base (a "Layout") 1 "place_from" ["self","block","k"] (GH K a))(F:Fun K "name_at" "Layout.name_at" XW f fd) :
  FP P w K mg base 2 f fd ["self","k"] (F1 K a) :=
 F.okL (VI K a) zal Sx λ_ _ _ _ _ E hr hx=>(AL (BC (A6 (AB 0) T.BU IN hr hx (BN AS (AB 1)))))
abbrev XX:Stmt:=BS (BF 32) 2
theorem zan:FnScope ["self","k"] ["self","k"] (A1 XX):=.go
theorem zao(T:Txt K mg a)(IN:AT P w K mg base (a "Layout") 1 "place_from" ["self","block","k"] (GH K a))(F:Fun K "record_at" "Layout.record_at" XX f fd) :
  FP P w K mg base 2 f fd ["self","k"] (EV K a) :=
 F.okL (VJ K a) zan Sy λ_ _ _ _ _ E hr hx=>(AL (BC (A6 (AB 0) T.BU IN hr hx (BN (AZ (AB 0) rfl) (AB 1)))))
abbrev XY:Stmt:=BS (BF 32) 3
theorem zap:FnScope ["self","k"] ["self","k"] (A1 XY):=.go
theorem zaq(T:Txt K mg a)(IN:AT P w K mg base (a "Layout") 1 "place_from" ["self","block","k"] (GH K a))(F:Fun K "piece_at" "Layout.piece_at" XY f fd) :
  FP P w K mg base 2 f fd ["self","k"] (KF K a) :=
 F.okL (VL K a) zap Sz λ_ _ _ _ _ E hr hx=>(AL (BC (A6 (AB 0) T.BU IN hr hx (BN (AW BZ (AZ (AB 0) rfl) (AZ (AB 0) rfl)) (AB 1)))))
abbrev XZ:Stmt:=BS (BF 32) 4
theorem zar:FnScope ["self","k"] ["self","k"] (A1 XZ):=.go
theorem zas(T:Txt K mg a)(NK:AT P w K mg base (a "Layout") 1 "blocks_ahead_of_marks" ["self"] (JM K a))(IN:AT P w K mg base (a "Layout") 1 "place_from" ["self","block","k"] (GH K a))(F:Fun K "record_mark" "Layout.record_mark" XZ f fd) :
  FP P w K mg base 2 f fd ["self","k"] (GZ K a) :=
 F.okL (VM K a) zar Tb λ_ _ _ _ _ E hr hx=>(AL (BC (A6 (AB 0) T.BU IN hr hx (BN (EC (AB 0) T.BU NK hr hx) (AB 1)))))
abbrev X0:Stmt:=BS (BF 32) 5
theorem zat:FnScope ["self","k"] ["self","k"] (A1 X0):=.go
theorem zau(T:Txt K mg a)(NK:AT P w K mg base (a "Layout") 1 "blocks_ahead_of_marks" ["self"] (JM K a))(IN:AT P w K mg base (a "Layout") 1 "place_from" ["self","block","k"] (GH K a))(F:Fun K "piece_mark" "Layout.piece_mark" X0 f fd) :
  FP P w K mg base 2 f fd ["self","k"] (F2 K a) :=
 F.okL (VN K a) zat Tc λ_ _ _ _ _ E hr hx=>(AL (BC (A6 (AB 0) T.BU IN hr hx (BN (AW BZ (EC (AB 0) T.BU NK hr hx) (AZ (AB 0) rfl)) (AB 1)))))
abbrev X1:Stmt:=BS (BF 32) 7
theorem zav:FnScope ["self"] ["self"] (A1 X1):=.go
theorem zaw(T:Txt K mg a)(NK:AT P w K mg base (a "Layout") 1 "blocks_ahead_of_marks" ["self"] (JM K a))(F:Fun K "blocks" "Layout.blocks" X1 f fd) :
  FP P w K mg base 2 f fd ["self"] (IF K a) :=
 F.okL (VO K a) zav Tg λ_ _ _ _ _ E hr hx=>(AL (BC (AW BZ (AW BZ (EC (AB 0) T.BU NK hr hx) (AZ (AB 0) rfl)) (AZ (AB 0) rfl))))
abbrev X2:Stmt:=BS (BF 11) 3
theorem zax:FnScope ["self","place"] ["self","place"] (A1 X2):=.go
theorem zay(T:Txt K mg a)(zcg:AT P w K mg base (a "Hold") 2 "ask_for_place" ["self","place"] (PJ K a))(F:Fun K "newest" "Book.newest" X2 f fd) :
  FP P w K mg base 3 f fd ["self","place"] (LG K a) :=
 F.okL (VP K a) zax Sb λ_ _ _ _ _ E hr hx=>(AN (DQ (A6 (AB 0) T.DO zcg hr hx (AI (AB 1)))) (AL (BC (tU (C7 hr) (AZ (AB 0) rfl) (AB 1) ⟨rfl,rfl,rfl,rfl⟩))))
abbrev X3:Stmt:=BS (BF 14) 0
theorem Q2:FnScope ["self","block","values","told","number"] ["self","block"] (A1 X3):=.go
theorem zaz(T:Txt K mg a)(NL:AT P w K mg base (a "Plank") 2 "read" ["self","block"] (JL K a))(zcj:AT P w K mg base (a "Hold") 2 "outcome" ["self","block","taken"] (PM K a))(zci:AT P w K mg base (a "Hold") 1 "laid_over" ["self","values","block"] (PN K a))(zcn:AT P w K mg base (a "Plank") 2 "write" ["self","block","values"] (O0 K a))(F:Fun K "write" "Hold.write" X3 f fd) :
  FP P w K mg base 3 f fd ["self","block"] (PQ K a) :=
 F.okL (VQ K a) Q2 Sq λ_ _ _ _ _ E hr hx=>(AN (BD 2 Q2.nd (A6 (AZ (AB 0) rfl) T.HS NL hr hx (AI (AB 1)))) (AN (BD 3 Q2.nd (A6 (AB 0) T.DO zcj hr hx (BN (AB 1) KY))) (AN (EN hx.po rfl (HF (EI (AB 3))) (CY 4 Q2.nd) (AL (JB (C7 hr) (AZ (AB 0) rfl) (AB 4) FO rfl))) (AN (DQ (A6 (AZ (AB 0) rfl) T.HS zcn hr hx (BN (AB 1) (A6 (AB 0) T.DO zci hr hx (BN (AB 2) (AB 1)))))) (AL (BC (AB 3)))))))
abbrev X4:Stmt:=BS (BF 32) 8
theorem za0:FnScope ["self"] ["self"] (A1 X4):=.go
theorem za1(T:Txt K mg a)(LY:AT P w K mg base (a "Layout") 2 "blocks" ["self"] (IF K a))(zcx:KA P w K mg base (a "Plank") 1 "Plank" ["self","blocks","cells"] (OY K a))(F:Fun K "plank" "Layout.plank" X4 f fd) :
  FP P w K mg base 3 f fd ["self"] (O9 K a) :=
 F.okL (VR K a) za0 Tj λ_ _ _ _ _ E hr hx=>(AL (BC (MQ zcx hr.m hx.passes rfl (BN (EC (AB 0) T.BU LY hr hx) (AZ (AB 0) rfl)))))
abbrev X5:Stmt:=BF 39
theorem NE:FnScope ["layout","plank","there","block","values","k"] ["layout","plank"] (A1 X5):=.go
theorem za2(T:Txt K mg a)(LY:AT P w K mg base (a "Layout") 2 "blocks" ["self"] (IF K a))(NL:AT P w K mg base (a "Plank") 2 "read" ["self","block"] (JL K a))(F:Fun K "_law_plank" "_law_plank" X5 f fd) :
  FP P w K mg base 3 f fd ["layout","plank"] (LR K a) :=
 F.okL (VS K a) NE Xm λ_ _ _ _ _ E hr hx=>(AN (BD 2 NE.nd bI) (AN (EN hx.po rfl (FR rfl T.F6 (AI (EC (AB 0) T.BU LY hr hx))) (CY 3 NE.nd) (AN (BD 4 NE.nd (A6 (AB 1) T.HS NL hr hx (AI (AB 3)))) (AL (EN hx.po rfl (FR rfl T.F6 (AI (EB GU rfl T.G7 (by rfl) (AI (AB 4))))) (CY 5 NE.nd) (AL (JB (C7 hr) (AB 2) (E9 (BN (AB 3) (AB 5))) (CC CD (AB 4) (AB 5) (λ_ _=>rfl)) rfl)))))) (AL (BC (AB 2)))))
abbrev X6:Stmt:=BF 40
theorem NF:FnScope ["layout","there","named","r","record","p"] ["layout","there"] (A1 X6):=.go
theorem za3(T:Txt K mg a)(G5:AT P w K mg base (a "Layout") 1 "counts" ["self"] (FI K a))(F5:AT P w K mg base (a "Layout") 2 "record_at" ["self","k"] (EV K a))(ZA:AT P w K mg base (a "Layout") 2 "piece_at" ["self","k"] (KF K a))(IM:AT P w K mg base (a "Layout") 2 "piece_mark" ["self","k"] (F2 K a))(F:Fun K "_law_pieces_sound" "_law_pieces_sound" X6 f fd) :
  FP P w K mg base 3 f fd ["layout","there"] (QM K a) :=
 F.okL (VT K a) NF Xp λ_ _ _ _ _ E hr hx=>(AN (BD 2 NF.nd KY) (AN (EN hx.po rfl (FR rfl T.F6 (AI (CC CD (EC (AB 0) T.BU G5 hr hx) AS (λ_ _=>rfl)))) (CY 3 NF.nd) (AN (BD 4 NF.nd (JA (C7 hr) (AB 1) (A6 (AB 0) T.BU F5 hr hx (AI (AB 3))) (λ_ _=>rfl))) (AL (B9 (DD N4 (AB 4) EM (DC _)) (AL (EN hx.po rfl (HF (EI (AB 4))) (CY 5 NF.nd) (AN (B9 (PW.pt (MC (IQ (OB (C7 hr) (AB 5) (AB 2)) (by with_unfolding_all rfl)) (NV (GO (J0 (EB SJ rfl T.ZN (by rfl) (BN (JA (C7 hr) (AB 1) (A6 (AB 0) T.BU ZA hr hx (AI (AB 5))) (λ_ _=>rfl)) (RB rfl T.zc3 (by rfl) rfl))) (λ_=>rfl)))))) (AL (BC FO)) CW) (AN (B9 (DD (OI hr.units) (JA (C7 hr) (AB 1) (A6 (AB 0) T.BU IM hr hx (AI (AB 5))) (λ_ _=>rfl)) AS (DC _)) (AL (BC FO)) CW) (AL (JB (C7 hr) (AB 2) (AB 5) FO rfl)))))) CW)))) (AL (BC FO))))
abbrev X7:Stmt:=BS (BF 11) 1
theorem X8:FnScope ["self","place","value","needs","ahead","number"] ["self","place","value","needs"] (A1 X7):=.go
theorem za4(T:Txt K mg a)(Y9:AT P w K mg base (a "Hold") 3 "newest" ["self","place"] (LG K a))(zcf:AT P w K mg base (a "Hold") 1 "ask_for_changes" ["self","numbers"] (PK K a))(zce:DS P w K mg base (1) "needs_with" ["needs","ahead"] (PF K a))(zcu:KA P w K mg base (a "Change") 1 "Change" ["self","place","value","needs"] (PD K a))(F:Fun K "change" "Book.change" X7 f fd) :
  FP P w K mg base 4 f fd ["self","place","value","needs"] (DV K a) :=
 F.okL (VU K a) X8 Sd λ_ _ _ _ _ E hr hx=>(AN (BD 4 X8.nd (A6 (AB 0) T.DO Y9 hr hx (AI (AB 1)))) (AN (DQ (A6 (AB 0) T.DO zcf hr hx (AI (AB 3)))) (AN (BD 5 X8.nd (EB GU rfl T.G7 (by rfl) (AI (AZ (AB 0) rfl)))) (AN (DQ (IW PySem.F.plainAttrs_list PySem.F.slot_list_append PySem.F.type_list_append KS (AZ (AB 0) rfl) (AI (MQ zcu hr.m hx.passes rfl (DJ (AB 1) (AB 2) (ET zce hr hx (BN (AB 3) (AB 4)))))))) (AN (DQ (IW PySem.F.plainAttrs_list PySem.F.slot_list_append PySem.F.type_list_append KS (CC CD (AZ (AB 0) rfl) (EI (AB 1)) (λ_ _=>rfl)) (AI (AB 5)))) (AN (JB (C7 hr) (AZ (AB 0) rfl) (AB 1) (AB 5) rfl) (AL (BC (AB 5)))))))))
abbrev X9:Stmt:=BS (BF 11) 2
theorem pD:FnScope ["self","place","number"] ["self","place"] (A1 X9):=.go
theorem za5(T:Txt K mg a)(Y9:AT P w K mg base (a "Hold") 3 "newest" ["self","place"] (LG K a))(NL:AT P w K mg base (a "Plank") 2 "read" ["self","block"] (JL K a))(F:Fun K "in_hand" "Book.in_hand" X9 f fd) :
  FP P w K mg base 4 f fd ["self","place"] (JN K a) :=
 F.okL (VV K a) pD Sh λ_ _ _ _ _ E hr hx=>(AN (BD 2 pD.nd (A6 (AB 0) T.DO Y9 hr hx (AI (AB 1)))) (AN (B9 (DD MH (AB 2) EM (DC _)) (AL (BC (CC CD (A6 (AZ (AB 0) rfl) T.HS NL hr hx (AI (EI (AB 1)))) (EI (AB 1)) (λ_ _=>rfl)))) CW) (AL (BC (AZ (CC CD (AZ (AB 0) rfl) (AB 2) (λ_ _=>rfl)) rfl)))))
abbrev YA:Stmt:=BS (BF 28) 0
theorem za6:FnScope ["self","layout","plank"] ["self","layout","plank"] (A1 YA):=.go
theorem za7(T:Txt K mg a)(zcv:KA P w K mg base (a "Hold") 2 "Hold" ["self","plank"] (M5 K a))(F:Fun K "__init__" "Store.__init__" YA f fd) :
  FP P w K mg base 4 f fd ["self","layout","plank"] (P8 K a) :=
 F.okL (VW K a) za6 Ux λ_ _ _ _ _ E hr hx=>(AN (EH (AB 0) (AB 1) rfl) (AN (EH (AB 0) (MQ zcv hr.m hx.passes rfl (AI (AB 2))) rfl) (AL (EH (AB 0) KY rfl))))
abbrev YB:Stmt:=BS (BF 28) 10
theorem za8:FnScope ["self","block"] ["self","block"] (A1 YB):=.go
theorem za9(T:Txt K mg a)(zck:AT P w K mg base (a "Hold") 3 "write" ["self","block"] (PQ K a))(F:Fun K "write" "Store.write" YB f fd) :
  FP P w K mg base 4 f fd ["self","block"] (LQ K a) :=
 F.okL (VX K a) za8 Xl λ_ _ _ _ _ E hr hx=>(AL (BC (A6 (AZ (AB 0) rfl) T.DO zck hr hx (AI (AB 1)))))
abbrev YC:Stmt:=BF 41
theorem KM:FnScope ["layout","there","leads","known","k","cell","r","record"] ["layout","there"] (A1 YC):=.go
theorem zba(T:Txt K mg a)(G5:AT P w K mg base (a "Layout") 1 "counts" ["self"] (FI K a))(IL:AT P w K mg base (a "Layout") 2 "name_at" ["self","k"] (F1 K a))(F5:AT P w K mg base (a "Layout") 2 "record_at" ["self","k"] (EV K a))(KN:AT P w K mg base (a "Layout") 2 "record_mark" ["self","k"] (GZ K a))(zcc:DS P w K mg base (3) "_law_pieces_sound" ["layout","there"] (QM K a))(F:Fun K "_law_sound" "_law_sound" YC f fd) :
  FP P w K mg base 4 f fd ["layout","there"] (LS K a) :=
 F.okL (VY K a) KM Xw λ_ _ _ _ _ E hr hx=>(AN (BD 2 KM.nd KY) (AN (BD 3 KM.nd KY) (AN (EN hx.po rfl (FR rfl T.F6 (AI (CC CD (EC (AB 0) T.BU G5 hr hx) AS (λ_ _=>rfl)))) (CY 4 KM.nd) (AN (BD 5 KM.nd (JA (C7 hr) (AB 1) (A6 (AB 0) T.BU IL hr hx (AI (AB 4))) (λ_ _=>rfl))) (AL (B9 (DD N4 (AB 5) EM (DC _)) (AN (B9 (IQ (OB (C7 hr) (EI (AB 5)) (AB 3)) (by with_unfolding_all rfl)) (AL (BC FO)) CW) (AN (JB (C7 hr) (AB 3) (EI (AB 5)) FO rfl) (AL (JB (C7 hr) (AB 2) (EI (AB 5)) (AW BZ (tV (C7 hr) (AB 2) (EI (AB 5)) AS ⟨rfl,rfl,rfl,rfl⟩) AS) rfl)))) CW)))) (AN (EN hx.po rfl (zM (AB 2)) (CY 6 KM.nd) (AN (BD 7 KM.nd (JA (C7 hr) (AB 1) (A6 (AB 0) T.BU F5 hr hx (AI (AB 6))) (λ_ _=>rfl))) (AN (B9 (PW.pt (MC (DD MH (AB 7) EM (DC _)) (NV (DD (OI hr.units) (JA (C7 hr) (AB 1) (A6 (AB 0) T.BU KN hr hx (AI (AB 6))) (λ_ _=>rfl)) AS (DC _))))) (AL (BC FO)) CW) (AL (B9 (PW.pt (MC (GO (J0 (EB SJ rfl T.ZN (by rfl) (BN (EI (AB 7)) (RB rfl T.zc1 (by rfl) rfl))) (λ_=>rfl))) (MC (J0 (EB SJ rfl T.ZN (by rfl) (BN (EI (AB 7)) (RB rfl T.zcz (by rfl) rfl))) (λ_=>rfl)) (NV (DD ID (EI (AB 7)) (JA (C7 hr) (AB 2) (AB 6) (λ_ _=>rfl)) (DC _)))))) (AL (BC FO)) CW))))) (AL (BC (ET zcc hr hx (BN (AB 0) (AB 1)))))))))
abbrev YD:Stmt:=BF 26
theorem YE:FnScope ["hold","places","values","k","place"] ["hold","places","values"] (A1 YD):=.go
theorem zbb(T:Txt K mg a)(NJ:AT P w K mg base (a "Hold") 4 "in_hand" ["self","place"] (JN K a))(F:Fun K "lowest_with" "lowest_with" YD f fd) :
  FP P w K mg base 5 f fd ["hold","places","values"] (II K a) :=
 F.okL (VZ K a) YE Tq λ_ _ _ _ _ E hr hx=>(AN (EN hx.po rfl (c7 rfl T.pO (AI (AB 1))) (ZZ rfl (NZ (CY 3 YE.nd) (NZ (CY 4 YE.nd) ZY))) (AL (B9 (DD (zH hr.units) (A6 (AB 0) T.DO NJ hr hx (AI (AB 4))) (AB 2) (by with_unfolding_all rfl)) (AL (BC (AB 3))) CW))) (AL (HE hx T.zda rfl T.pR (AI DG))))
abbrev YF:Stmt:=BS (BF 28) 16
theorem pE:FnScope ["self"] ["self"] (A1 YF):=.go
theorem zbc:(["k","self"]:List Str).Nodup:=by decide +kernel
theorem zbd(T:Txt K mg a)(G5:AT P w K mg base (a "Layout") 1 "counts" ["self"] (FI K a))(IL:AT P w K mg base (a "Layout") 2 "name_at" ["self","k"] (F1 K a))(NJ:AT P w K mg base (a "Hold") 4 "in_hand" ["self","place"] (JN K a))(F:Fun K "name_cells" "Store.name_cells" YF f fd) :
  FP P w K mg base 5 f fd ["self"] (LJ K a) :=
 F.okL (V0 K a) pE Uy λ_ _ _ _ _ E hr hx=>(AL (BC (JE (tn:=["k"]) (cn:=["self"]) (cap:=[0]) pE.cp rfl (FR rfl T.F6 (AI (CC CD (EC (AZ (AB 0) rfl) T.BU G5 hr hx) AS (λ_ _=>rfl)))) (λ_ _ _ _ _ _=>(CY 0 zbc)) (λ_ _ _ _ _ _=>GT) (λ_ _ _ _ _ _=>(FT (AZ (AB 1) rfl) T.DO NJ hr.m JF (AI (FT (AZ (AB 1) rfl) T.BU IL hr.m JF (AI (AB 0)))))))))
abbrev YG:Stmt:=BS (BF 28) 17
theorem zbe:FnScope ["self","record"] ["self","record"] (A1 YG):=.go
theorem zbf(T:Txt K mg a)(F5:AT P w K mg base (a "Layout") 2 "record_at" ["self","k"] (EV K a))(NJ:AT P w K mg base (a "Hold") 4 "in_hand" ["self","place"] (JN K a))(F:Fun K "standing" "Store.standing" YG f fd) :
  FP P w K mg base 5 f fd ["self","record"] (FL K a) :=
 F.okL (V1 K a) zbe Vj λ_ _ _ _ _ E hr hx=>(AL (BC (A6 (AZ (AB 0) rfl) T.DO NJ hr hx (AI (A6 (AZ (AB 0) rfl) T.BU F5 hr hx (AI (AB 1)))))))
abbrev YH:Stmt:=BS (BF 28) 18
theorem pF:FnScope ["self","cell","name","record","need","needs"] ["self","cell","name","record","need"] (A1 YH):=.go
theorem zbg(T:Txt K mg a)(IL:AT P w K mg base (a "Layout") 2 "name_at" ["self","k"] (F1 K a))(EL:AT P w K mg base (a "Hold") 4 "change" ["self","place","value","needs"] (DV K a))(F:Fun K "fill_cell" "Store.fill_cell" YH f fd) :
  FP P w K mg base 5 f fd ["self","cell","name","record","need"] (LM K a) :=
 F.okL (V3 K a) pF Vl λ_ _ _ _ _ E hr hx=>(AN (BD 5 pF.nd (CP (AI (AB 4)))) (AN (B9 (IQ (OB (C7 hr) (AB 2) (AZ (AB 0) rfl)) (by with_unfolding_all rfl)) (AL (DQ (IW PySem.F.plainAttrs_list PySem.F.slot_list_append PySem.F.type_list_append KS (AB 5) (AI (JA (C7 hr) (AZ (AB 0) rfl) (AB 2) (λ_ _=>rfl)))))) CW) (AL (BC (A6 (AZ (AB 0) rfl) T.DO EL hr hx (DJ (A6 (AZ (AB 0) rfl) T.BU IL hr hx (AI (AB 1))) (E9 (BN (AB 2) (AB 3))) (AB 5)))))))
abbrev YI:Stmt:=BF 23
theorem YJ:FnScope ["layout","hold","places"] ["layout","hold"] (A1 YI):=.go
theorem YK:(["k","layout"]:List Str).Nodup:=by decide +kernel
theorem zbh(T:Txt K mg a)(G5:AT P w K mg base (a "Layout") 1 "counts" ["self"] (FI K a))(IL:AT P w K mg base (a "Layout") 2 "name_at" ["self","k"] (F1 K a))(NI:DS P w K mg base (5) "lowest_with" ["hold","places","values"] (II K a))(F:Fun K "free_name" "free_name" YI f fd) :
  FP P w K mg base 6 f fd ["layout","hold"] (LH K a) :=
 F.okL (V4 K a) YJ Tx λ_ _ _ _ _ E hr hx=>(AN (R5 (i:=2) (tn:=["k"]) (cn:=["layout"]) (cap:=[0]) YJ.cp rfl YJ.nd rfl rfl (FR rfl T.F6 (AI (CC CD (EC (AB 0) T.BU G5 hr hx) AS (λ_ _=>rfl)))) (λ_ _ _ _ _ _=>(CY 0 YK)) (λ_ _ _ _ _ _=>GT) (λ_ _ _ _ _ _=>(FT (AB 1) T.BU IL hr.m JF (AI (AB 0))))) (AL (BC (ET NI hr hx (DJ (AB 1) (AB 2) (E9 (AI EM)))))))
abbrev YL:Stmt:=BF 24
theorem YM:FnScope ["layout","hold","marks"] ["layout","hold"] (A1 YL):=.go
theorem zbi(T:Txt K mg a)(G5:AT P w K mg base (a "Layout") 1 "counts" ["self"] (FI K a))(KN:AT P w K mg base (a "Layout") 2 "record_mark" ["self","k"] (GZ K a))(NI:DS P w K mg base (5) "lowest_with" ["hold","places","values"] (II K a))(F:Fun K "free_record" "free_record" YL f fd) :
  FP P w K mg base 6 f fd ["layout","hold"] (PY K a) :=
 F.okL (V5 K a) YM Ty λ_ _ _ _ _ E hr hx=>(AN (R5 (i:=2) (tn:=["k"]) (cn:=["layout"]) (cap:=[0]) YM.cp rfl YM.nd rfl rfl (FR rfl T.F6 (AI (CC CD (EC (AB 0) T.BU G5 hr hx) AS (λ_ _=>rfl)))) (λ_ _ _ _ _ _=>(CY 0 YK)) (λ_ _ _ _ _ _=>GT) (λ_ _ _ _ _ _=>(FT (AB 1) T.BU KN hr.m JF (AI (AB 0))))) (AL (BC (ET NI hr hx (DJ (AB 1) (AB 2) (E9 (BN EM AS)))))))
abbrev YN:Stmt:=BF 25
theorem YO:FnScope ["layout","hold","marks"] ["layout","hold"] (A1 YN):=.go
theorem zbj(T:Txt K mg a)(G5:AT P w K mg base (a "Layout") 1 "counts" ["self"] (FI K a))(IM:AT P w K mg base (a "Layout") 2 "piece_mark" ["self","k"] (F2 K a))(NI:DS P w K mg base (5) "lowest_with" ["hold","places","values"] (II K a))(F:Fun K "free_piece" "free_piece" YN f fd) :
  FP P w K mg base 6 f fd ["layout","hold"] (PZ K a) :=
 F.okL (V6 K a) YO Tz λ_ _ _ _ _ E hr hx=>(AN (R5 (i:=2) (tn:=["k"]) (cn:=["layout"]) (cap:=[0]) YO.cp rfl YO.nd rfl rfl (FR rfl T.F6 (AI (CC CD (EC (AB 0) T.BU G5 hr hx) AS (λ_ _=>rfl)))) (λ_ _ _ _ _ _=>(CY 0 YK)) (λ_ _ _ _ _ _=>GT) (λ_ _ _ _ _ _=>(FT (AB 1) T.BU IM hr.m JF (AI (AB 0))))) (AL (BC (ET NI hr hx (DJ (AB 1) (AB 2) (E9 (BN EM AS)))))))
abbrev YQ:Stmt:=BS (BF 28) 15
theorem YR:FnScope ["self","name","cell","value"] ["self","name"] (A1 YQ):=.go
theorem zbk(T:Txt K mg a)(ZH:AT P w K mg base (a "Store") 5 "name_cells" ["self"] (LJ K a))(F:Fun K "cell_of" "Store.cell_of" YQ f fd) :
  FP P w K mg base 6 f fd ["self","name"] (JP K a) :=
 F.okL (V7 K a) YR Vc λ_ _ _ _ _ E hr hx=>(AN (EN hx.po rfl (c7 rfl T.pO (AI (EC (AB 0) T.B8 ZH hr hx))) (ZZ rfl (NZ (CY 2 YR.nd) (NZ (CY 3 YR.nd) ZY))) (AL (B9 (PW.pt (RD (DD N4 (AB 3) EM (DC _)) (RC (DD (KB hr.units) (EI (AB 3)) (AB 1) (DC _))))) (AL (BC (AB 2))) CW))) (AL (BC EM)))
abbrev YS:Stmt:=BS (BF 28) 20
theorem pG:FnScope ["self","record","more","needs","value"] ["self","record","more","needs"] (A1 YS):=.go
theorem zbl(T:Txt K mg a)(G6:AT P w K mg base (a "Store") 5 "standing" ["self","record"] (FL K a))(F5:AT P w K mg base (a "Layout") 2 "record_at" ["self","k"] (EV K a))(EL:AT P w K mg base (a "Hold") 4 "change" ["self","place","value","needs"] (DV K a))(F:Fun K "recount" "Store.recount" YS f fd) :
  FP P w K mg base 6 f fd ["self","record","more","needs"] (JQ K a) :=
 F.okL (V8 K a) pG Vp λ_ _ _ _ _ E hr hx=>(AN (BD 4 pG.nd (A6 (AB 0) T.B8 G6 hr hx (AI (AB 1)))) (AL (BC (A6 (AZ (AB 0) rfl) T.DO EL hr hx (DJ (A6 (AZ (AB 0) rfl) T.BU F5 hr hx (AI (AB 1))) (E9 (BN (AW BZ (EI (AB 4)) (AB 2)) (EI (AB 4)))) (AB 3))))))
abbrev YT:Stmt:=BS (BF 28) 21
theorem zbm:FnScope ["self","record","pieces","needs"] ["self","record","pieces","needs"] (A1 YT):=.go
theorem zbn(T:Txt K mg a)(G6:AT P w K mg base (a "Store") 5 "standing" ["self","record"] (FL K a))(F5:AT P w K mg base (a "Layout") 2 "record_at" ["self","k"] (EV K a))(EL:AT P w K mg base (a "Hold") 4 "change" ["self","place","value","needs"] (DV K a))(F:Fun K "regroup" "Store.regroup" YT f fd) :
  FP P w K mg base 6 f fd ["self","record","pieces","needs"] (LN K a) :=
 F.okL (V9 K a) zbm Vq λ_ _ _ _ _ E hr hx=>(AL (BC (A6 (AZ (AB 0) rfl) T.DO EL hr hx (DJ (A6 (AZ (AB 0) rfl) T.BU F5 hr hx (AI (AB 1))) (E9 (BN (CC CD (A6 (AB 0) T.B8 G6 hr hx (AI (AB 1))) AS (λ_ _=>rfl)) (AB 2))) (AB 3)))))
abbrev YU:Stmt:=BS (BF 28) 22
theorem LW:FnScope ["self","record","gone","pieces","dropped","made","mark"] ["self","record","gone"] (A1 YU):=.go
theorem zbo:(["piece","self"]:List Str).Nodup:=by decide +kernel
theorem zbp(T:Txt K mg a)(G6:AT P w K mg base (a "Store") 5 "standing" ["self","record"] (FL K a))(F5:AT P w K mg base (a "Layout") 2 "record_at" ["self","k"] (EV K a))(EL:AT P w K mg base (a "Hold") 4 "change" ["self","place","value","needs"] (DV K a))(IM:AT P w K mg base (a "Layout") 2 "piece_mark" ["self","k"] (F2 K a))(KN:AT P w K mg base (a "Layout") 2 "record_mark" ["self","k"] (GZ K a))(F:Fun K "drop_record" "Store.drop_record" YU f fd) :
  FP P w K mg base 6 f fd ["self","record","gone"] (QC K a) :=
 F.okL (WA K a) LW Vy λ_ _ _ _ _ E hr hx=>(AN (BD 3 LW.nd (CC CD (A6 (AB 0) T.B8 G6 hr hx (AI (AB 1))) AS (λ_ _=>rfl))) (AN (BD 4 LW.nd (A6 (AZ (AB 0) rfl) T.DO EL hr hx (DJ (A6 (AZ (AB 0) rfl) T.BU F5 hr hx (AI (AB 1))) EM (CP (AI (AB 2)))))) (AN (BD 5 LW.nd (CP (AI (AB 4)))) (AN (EN hx.po rfl (HF (AW BZ (JE (tn:=["piece"]) (cn:=["self"]) (cap:=[0]) LW.cp rfl (HF (AB 3)) (λ_ _ _ _ _ _=>(CY 0 zbo)) (λ_ _ _ _ _ _=>GT) (λ_ _ _ _ _ _=>(FT (AZ (AB 1) rfl) T.BU IM hr.m JF (AI (AB 0))))) (CP (AI (A6 (AZ (AB 0) rfl) T.BU KN hr hx (AI (AB 1))))))) (CY 6 LW.nd) (AL (DQ (IW PySem.F.plainAttrs_list PySem.F.slot_list_append PySem.F.type_list_append KS (AB 5) (AI (A6 (AZ (AB 0) rfl) T.DO EL hr hx (DJ (AB 6) AS (CP (AI (AB 4)))))))))) (AL (BC (AB 5)))))))
abbrev YV:Stmt:=BS (BF 28) 13
theorem pH:FnScope ["self","new","given"] ["self","new","given"] (A1 YV):=.go
theorem zbq:(["text"]:List Str).Nodup:=by decide +kernel
theorem zbr(T:Txt K mg a)(zb5:DS P w K mg base (1) "is_name" ["thing"] (P4 K a))(NM:AT P w K mg base (a "Store") 6 "cell_of" ["self","name"] (JP K a))(F:Fun K "ask_for_new_name" "Store.ask_for_new_name" YV f fd) :
  FP P w K mg base 7 f fd ["self","new","given"] (LK K a) :=
 F.okL (WB K a) pH Vd λ_ _ _ _ _ E hr hx=>(AN (B9 (GO (J0 (EB (SO rfl) rfl T.ZM (by rfl) (AI (JE (tn:=["text"]) (cn:=[]) (cap:=[]) pH.cp rfl (HF (AB 2)) (λ_ _ _ _ _ _=>(CY 0 zbq)) (λ_ _ _ _ _ _=>GT) (λ_ _ _ _ _ _=>(MP zb5 hr.m JF rfl (AI (AB 0))))))) (λ_=>rfl))) (AL (HE hx T.pU rfl T.ZR (AI DG))) CW) (AL (B9 (DD N4 (A6 (AB 0) T.B8 NM hr hx (AI (AB 1))) EM (DC _)) (AL (HE hx T.zdb rfl T.pT (AI DG))) CW)))
abbrev YW:Stmt:=BS (BF 28) 14
theorem pJ:FnScope ["self","name","cell"] ["self","name"] (A1 YW):=.go
theorem zbs(T:Txt K mg a)(NM:AT P w K mg base (a "Store") 6 "cell_of" ["self","name"] (JP K a))(ZH:AT P w K mg base (a "Store") 5 "name_cells" ["self"] (LJ K a))(F:Fun K "record_of" "Store.record_of" YW f fd) :
  FP P w K mg base 7 f fd ["self","name"] (GI K a) :=
 F.okL (WC K a) pJ Vk λ_ _ _ _ _ E hr hx=>(AN (BD 2 pJ.nd (A6 (AB 0) T.B8 NM hr hx (AI (AB 1)))) (AN (B9 (DD MH (AB 2) EM (DC _)) (AL (HE hx T.pU rfl T.ZR (AI DG))) CW) (AL (BC (CC CD (CC CD (EC (AB 0) T.B8 ZH hr hx) (AB 2) (λ_ _=>rfl)) AS (λ_ _=>rfl))))))
abbrev YX:Stmt:=BS (BF 28) 19
theorem pK:FnScope ["self","name","needs","gone"] ["self","name","needs"] (A1 YX):=.go
theorem zbt(T:Txt K mg a)(NM:AT P w K mg base (a "Store") 6 "cell_of" ["self","name"] (JP K a))(IL:AT P w K mg base (a "Layout") 2 "name_at" ["self","k"] (F1 K a))(EL:AT P w K mg base (a "Hold") 4 "change" ["self","place","value","needs"] (DV K a))(F:Fun K "empty_cell" "Store.empty_cell" YX f fd) :
  FP P w K mg base 7 f fd ["self","name","needs"] (LO K a) :=
 F.okL (WD K a) pK Vw λ_ _ _ _ _ E hr hx=>(AN (BD 3 pK.nd (A6 (AZ (AB 0) rfl) T.DO EL hr hx (DJ (A6 (AZ (AB 0) rfl) T.BU IL hr hx (AI (A6 (AB 0) T.B8 NM hr hx (AI (AB 1))))) EM (AB 2)))) (AN (JB (C7 hr) (AZ (AB 0) rfl) (AB 1) (AB 3) rfl) (AL (BC (AB 3)))))
abbrev YY:Stmt:=BS (BF 28) 1
theorem NG:FnScope ["self","name","record","cell","mark","stands"] ["self","name"] (A1 YY):=.go
theorem zbu(T:Txt K mg a)(ZD:AT P w K mg base (a "Store") 7 "ask_for_new_name" ["self","new","given"] (LK K a))(zb4:DS P w K mg base (6) "free_record" ["layout","hold"] (PY K a))(Y8:DS P w K mg base (6) "free_name" ["layout","hold"] (LH K a))(KN:AT P w K mg base (a "Layout") 2 "record_mark" ["self","k"] (GZ K a))(EL:AT P w K mg base (a "Hold") 4 "change" ["self","place","value","needs"] (DV K a))(F5:AT P w K mg base (a "Layout") 2 "record_at" ["self","k"] (EV K a))(ZF:AT P w K mg base (a "Store") 5 "fill_cell" ["self","cell","name","record","need"] (LM K a))(F:Fun K "make" "Store.make" YY f fd) :
  FP P w K mg base 8 f fd ["self","name"] (QD K a) :=
 F.okL (WE K a) NG Vz λ_ _ _ _ _ E hr hx=>(AN (DQ (A6 (AB 0) T.B8 ZD hr hx (BN (AB 1) (CP (AI (AB 1)))))) (AN (BD 2 NG.nd (ET zb4 hr hx (BN (AZ (AB 0) rfl) (AZ (AB 0) rfl)))) (AN (BD 3 NG.nd (ET Y8 hr hx (BN (AZ (AB 0) rfl) (AZ (AB 0) rfl)))) (AN (BD 4 NG.nd (A6 (AZ (AB 0) rfl) T.DO EL hr hx (DJ (A6 (AZ (AB 0) rfl) T.BU KN hr hx (AI (AB 2))) AS (CP FS)))) (AN (BD 5 NG.nd (A6 (AZ (AB 0) rfl) T.DO EL hr hx (DJ (A6 (AZ (AB 0) rfl) T.BU F5 hr hx (AI (AB 2))) (E9 (BN AS (E9 FS))) (CP (AI (AB 4)))))) (AL (BC (CP (DJ (AB 4) (AB 5) (A6 (AB 0) T.B8 ZF hr hx (MY (AB 3) (AB 1) (AB 2) (AB 5))))))))))))
abbrev YZ:Stmt:=BS (BF 28) 2
theorem Q3:FnScope ["self","old","new","record","cell","more"] ["self","old","new"] (A1 YZ):=.go
theorem zbv(T:Txt K mg a)(ZD:AT P w K mg base (a "Store") 7 "ask_for_new_name" ["self","new","given"] (LK K a))(IP:AT P w K mg base (a "Store") 7 "record_of" ["self","name"] (GI K a))(Y8:DS P w K mg base (6) "free_name" ["layout","hold"] (LH K a))(NN:AT P w K mg base (a "Store") 6 "recount" ["self","record","more","needs"] (JQ K a))(ZF:AT P w K mg base (a "Store") 5 "fill_cell" ["self","cell","name","record","need"] (LM K a))(F:Fun K "link" "Store.link" YZ f fd) :
  FP P w K mg base 8 f fd ["self","old","new"] (LP K a) :=
 F.okL (WF K a) Q3 Wb λ_ _ _ _ _ E hr hx=>(AN (DQ (A6 (AB 0) T.B8 ZD hr hx (BN (AB 2) (CP (BN (AB 1) (AB 2)))))) (AN (BD 3 Q3.nd (A6 (AB 0) T.B8 IP hr hx (AI (AB 1)))) (AN (BD 4 Q3.nd (ET Y8 hr hx (BN (AZ (AB 0) rfl) (AZ (AB 0) rfl)))) (AN (BD 5 Q3.nd (A6 (AB 0) T.B8 NN hr hx (DJ (AB 3) AS (CP FS)))) (AL (BC (CP (BN (AB 5) (A6 (AB 0) T.B8 ZF hr hx (MY (AB 4) (AB 2) (AB 3) (AB 5)))))))))))
abbrev Y0:Stmt:=BS (BF 28) 3
theorem Y1:FnScope ["self","name","record","gone"] ["self","name"] (A1 Y0):=.go
theorem zbw(T:Txt K mg a)(IP:AT P w K mg base (a "Store") 7 "record_of" ["self","name"] (GI K a))(ZE:AT P w K mg base (a "Store") 7 "empty_cell" ["self","name","needs"] (LO K a))(G6:AT P w K mg base (a "Store") 5 "standing" ["self","record"] (FL K a))(NN:AT P w K mg base (a "Store") 6 "recount" ["self","record","more","needs"] (JQ K a))(zcp:AT P w K mg base (a "Store") 6 "drop_record" ["self","record","gone"] (QC K a))(F:Fun K "cut" "Store.cut" Y0 f fd) :
  FP P w K mg base 8 f fd ["self","name"] (QE K a) :=
 F.okL (WG K a) Y1 Wd λ_ _ _ _ _ E hr hx=>(AN (BD 2 Y1.nd (A6 (AB 0) T.B8 IP hr hx (AI (AB 1)))) (AN (BD 3 Y1.nd (A6 (AB 0) T.B8 ZE hr hx (BN (AB 1) (CP FS)))) (AN (B9 (DD uR (CC CD (A6 (AB 0) T.B8 G6 hr hx (AI (AB 2))) AS (λ_ _=>rfl)) AS (DC _)) (AL (BC (CP (BN (AB 3) (A6 (AB 0) T.B8 NN hr hx (DJ (AB 2) (Z3 Z6 AS) (CP (AI (AB 3))))))))) CW) (AL (BC (AW BZ (CP (AI (AB 3))) (A6 (AB 0) T.B8 zcp hr hx (BN (AB 2) (AB 3)))))))))
abbrev Y2:Stmt:=BS (BF 28) 4
theorem NH:FnScope ["self","name","text","record","piece","mark","filled"] ["self","name","text"] (A1 Y2):=.go
theorem zbx(T:Txt K mg a)(IP:AT P w K mg base (a "Store") 7 "record_of" ["self","name"] (GI K a))(zb6:DS P w K mg base (2) "is_piece" ["thing"] (P5 K a))(zb3:DS P w K mg base (6) "free_piece" ["layout","hold"] (PZ K a))(IM:AT P w K mg base (a "Layout") 2 "piece_mark" ["self","k"] (F2 K a))(EL:AT P w K mg base (a "Hold") 4 "change" ["self","place","value","needs"] (DV K a))(ZA:AT P w K mg base (a "Layout") 2 "piece_at" ["self","k"] (KF K a))(G6:AT P w K mg base (a "Store") 5 "standing" ["self","record"] (FL K a))(ZI:AT P w K mg base (a "Store") 6 "regroup" ["self","record","pieces","needs"] (LN K a))(F:Fun K "put" "Store.put" Y2 f fd) :
  FP P w K mg base 8 f fd ["self","name","text"] (QF K a) :=
 F.okL (WH K a) NH Wg λ_ _ _ _ _ E hr hx=>(AN (BD 3 NH.nd (A6 (AB 0) T.B8 IP hr hx (AI (AB 1)))) (AN (B9 (GO (J0 (ET zb6 hr hx (AI (AB 2))) (λ_=>rfl))) (AL (HE hx T.pV rfl T.ZS (AI DG))) CW) (AN (BD 4 NH.nd (ET zb3 hr hx (BN (AZ (AB 0) rfl) (AZ (AB 0) rfl)))) (AN (BD 5 NH.nd (A6 (AZ (AB 0) rfl) T.DO EL hr hx (DJ (A6 (AZ (AB 0) rfl) T.BU IM hr hx (AI (AB 4))) AS (CP FS)))) (AN (BD 6 NH.nd (A6 (AZ (AB 0) rfl) T.DO EL hr hx (DJ (A6 (AZ (AB 0) rfl) T.BU ZA hr hx (AI (AB 4))) (AB 2) (CP (AI (AB 5)))))) (AL (BC (CP (DJ (AB 5) (AB 6) (A6 (AB 0) T.B8 ZI hr hx (DJ (AB 3) (AW BZ (CC CD (A6 (AB 0) T.B8 G6 hr hx (AI (AB 3))) AS (λ_ _=>rfl)) (E9 (AI (AB 4)))) (CP (AI (AB 6))))))))))))))
abbrev Y3:Stmt:=BS (BF 28) 5
theorem Q4:FnScope ["self","name","at","record","pieces","without"] ["self","name","at"] (A1 Y3):=.go
theorem zby(T:Txt K mg a)(IP:AT P w K mg base (a "Store") 7 "record_of" ["self","name"] (GI K a))(G6:AT P w K mg base (a "Store") 5 "standing" ["self","record"] (FL K a))(ZI:AT P w K mg base (a "Store") 6 "regroup" ["self","record","pieces","needs"] (LN K a))(IM:AT P w K mg base (a "Layout") 2 "piece_mark" ["self","k"] (F2 K a))(EL:AT P w K mg base (a "Hold") 4 "change" ["self","place","value","needs"] (DV K a))(F:Fun K "take" "Store.take" Y3 f fd) :
  FP P w K mg base 8 f fd ["self","name","at"] (QH K a) :=
 F.okL (WI K a) Q4 Wj λ_ _ _ _ _ E hr hx=>(AN (BD 3 Q4.nd (A6 (AB 0) T.B8 IP hr hx (AI (AB 1)))) (AN (BD 4 Q4.nd (CC CD (A6 (AB 0) T.B8 G6 hr hx (AI (AB 3))) AS (λ_ _=>rfl))) (AN (B9 (GO (MI FX ID AS (AB 2) (EB GU rfl T.G7 (by rfl) (AI (AB 4))))) (AL (HE hx T.pV rfl T.ZS (AI DG))) CW) (AN (BD 5 Q4.nd (A6 (AB 0) T.B8 ZI hr hx (DJ (AB 3) (AW BZ (MM MS (AB 4) MK (ML (AB 2))) (MM MS (AB 4) (ML (AW BZ (AB 2) AS)) MK)) (CP FS)))) (AL (BC (CP (BN (AB 5) (A6 (AZ (AB 0) rfl) T.DO EL hr hx (DJ (A6 (AZ (AB 0) rfl) T.BU IM hr hx (AI (CC CD (AB 4) (AB 2) (λ_ _=>rfl)))) AS (CP (AI (AB 5)))))))))))))
abbrev Y4:Stmt:=BS (BF 28) 6
theorem Q5:FnScope ["self","old","new","linked","record","gone"] ["self","old","new"] (A1 Y4):=.go
theorem zbz(T:Txt K mg a)(ZG:AT P w K mg base (a "Store") 8 "link" ["self","old","new"] (LP K a))(IP:AT P w K mg base (a "Store") 7 "record_of" ["self","name"] (GI K a))(ZE:AT P w K mg base (a "Store") 7 "empty_cell" ["self","name","needs"] (LO K a))(NN:AT P w K mg base (a "Store") 6 "recount" ["self","record","more","needs"] (JQ K a))(F:Fun K "move" "Store.move" Y4 f fd) :
  FP P w K mg base 9 f fd ["self","old","new"] (QI K a) :=
 F.okL (WJ K a) Q5 Wl λ_ _ _ _ _ E hr hx=>(AN (BD 3 Q5.nd (A6 (AB 0) T.B8 ZG hr hx (BN (AB 1) (AB 2)))) (AN (BD 4 Q5.nd (A6 (AB 0) T.B8 IP hr hx (AI (AB 1)))) (AN (BD 5 Q5.nd (A6 (AB 0) T.B8 ZE hr hx (BN (AB 1) (CP (AI (EI (AB 3))))))) (AL (BC (AW BZ (AB 3) (CP (BN (AB 5) (A6 (AB 0) T.B8 NN hr hx (DJ (AB 4) (Z3 Z6 AS) (CP (AI (AB 5)))))))))))))
abbrev Y5:Stmt:=BF 38
theorem LX:FnScope ["store","kind","one","other","cell","refused"] ["store","kind","one","other","cell"] (A1 Y5):=.go
theorem zb0(T:Txt K mg a)(zcq:AT P w K mg base (a "Store") 8 "make" ["self","name"] (QD K a))(ZG:AT P w K mg base (a "Store") 8 "link" ["self","old","new"] (LP K a))(zco:AT P w K mg base (a "Store") 8 "cut" ["self","name"] (QE K a))(zcd:DS P w K mg base (1) "_law_text" ["cell"] (QK K a))(zcs:AT P w K mg base (a "Store") 8 "put" ["self","name","text"] (QF K a))(zb8:DS P w K mg base (1) "_law_at" ["cell"] (QL K a))(zct:AT P w K mg base (a "Store") 8 "take" ["self","name","at"] (QH K a))(zcr:AT P w K mg base (a "Store") 9 "move" ["self","old","new"] (QI K a))(F:Fun K "_law_done" "_law_done" Y5 f fd) :
  FP P w K mg base 10 f fd ["store","kind","one","other","cell"] (M7 K a) :=
 F.okL (WO K a) LX Xh λ_ _ _ _ _ E hr hx=>(AN (BD 5 LX.nd DG) (AN (uE rfl rfl rfl rfl (λE1 _ _ hx1=>(AL (B9 (DD ID (AB 1) AS (DC _)) (AL (DQ (FT (AB 0) T.B8 zcq hr.m hx1.passes (AI (AB 2))))) (AL (B9 (DD (KB hr.units) (AB 1) AS (DC _)) (AL (DQ (FT (AB 0) T.B8 ZG hr.m hx1.passes (BN (AB 2) (AB 3))))) (AL (B9 (DD (KB hr.units) (AB 1) AS (DC _)) (AL (DQ (FT (AB 0) T.B8 zco hr.m hx1.passes (AI (AB 2))))) (AL (B9 (DD ID (AB 1) AS (DC _)) (AL (DQ (FT (AB 0) T.B8 zcs hr.m hx1.passes (BN (AB 2) (MP zcd hr.m hx1.passes rfl (AI (AB 4))))))) (AL (B9 (DD (KB hr.units) (AB 1) AS (DC _)) (AL (DQ (FT (AB 0) T.B8 zct hr.m hx1.passes (BN (AB 2) (MP zb8 hr.m hx1.passes rfl (AI (AB 4))))))) (AL (DQ (FT (AB 0) T.B8 zcr hr.m hx1.passes (BN (AB 2) (AB 3)))))))))))))))) (OG (OF rfl T.ZR) (λ_=>(AL (BD 5 LX.nd DG))) (OG (OF rfl T.pT) (λ_=>(AL (BD 5 LX.nd DG))) (OG (OF rfl T.ZS) (λ_=>(AL (BD 5 LX.nd DG))) (OG (OF rfl T.pR) (λ_=>(AL (BD 5 LX.nd DG))) uB))))) (AL (BC (AB 5)))))
abbrev Y6:Stmt:=BF 42
theorem JT:FnScope ["script","cell","layout","plank","store","names","block"] ["script"] (A1 Y6):=.go
theorem zb1(T:Txt K mg a)(zb9:DS P w K mg base (1) "_law_cell_at" ["script","k"] (LF K a))(zcw:KA P w K mg base (a "Layout") 1 "Layout" ["self","names","records","pieces","cells"] (O8 K a))(zcl:AT P w K mg base (a "Layout") 3 "plank" ["self"] (O9 K a))(zcy:KA P w K mg base (a "Store") 4 "Store" ["self","layout","plank"] (P8 K a))(zcb:DS P w K mg base (1) "_law_names" ["cell"] (QJ K a))(LY:AT P w K mg base (a "Layout") 2 "blocks" ["self"] (IF K a))(pN:AT P w K mg base (a "Store") 4 "write" ["self","block"] (LQ K a))(pL:DS P w K mg base (3) "_law_plank" ["layout","plank"] (LR K a))(pM:DS P w K mg base (4) "_law_sound" ["layout","there"] (LS K a))(zca:DS P w K mg base (10) "_law_done" ["store","kind","one","other","cell"] (M7 K a))(F:Fun K "law" "law" Y6 f fd) :
  FP P w K mg base 11 f fd ["script"] (eB K a) :=
 F.okL (WP K a) JT Xz λ_ _ _ _ _ E hr hx=>(AN (BD 1 JT.nd (ET zb9 hr hx (BN (AB 0) AS))) (AN (BD 2 JT.nd (MQ zcw hr.m hx.passes rfl (MY (AW BZ AS (AW C1 (AB 1) AS)) (AW BZ AS (AW C1 (AW DB (AB 1) AS) AS)) (AW BZ AS (AW C1 (AW DB (AB 1) AS) AS)) (AW BZ AS (AW C1 (AW DB (AB 1) AS) AS))))) (AN (BD 3 JT.nd (EC (AB 2) T.BU zcl hr hx)) (AN (BD 4 JT.nd (MQ zcy hr.m hx.passes rfl (BN (AB 2) (AB 3)))) (AN (BD 5 JT.nd (ET zcb hr hx (AI (AW DB (AB 1) AS)))) (AN (EN hx.po rfl (HF (MM MS (AB 0) (ML AS) MK)) (CY 1 JT.nd) (AL (B9 (DD (KB hr.units) (AW C1 (AB 1) AS) AS (DC _)) (AN (DQ (A6 (AB 4) T.B8 pN hr hx (AI (AW C1 (AW DB (AB 1) AS) (EC (AB 2) T.BU LY hr hx))))) (AL (B9 (GO (J0 (ET pM hr hx (BN (AB 2) (ET pL hr hx (BN (AB 2) (AB 3))))) (λ_=>rfl))) (AL (BC FO)) CW))) (AL (DQ (ET zca hr hx (IT (AB 4) (MY (AW C1 (AW DB (AB 1) AS) AS) (CC CD (AB 5) (AW C1 (AW DB (AB 1) AS) AS) (λ_ _=>rfl)) (CC CD (AB 5) (AW C1 (AW DB (AB 1) AS) AS) (λ_ _=>rfl)) (AW DB (AB 1) AS))))))))) (AN (EN hx.po rfl (FR rfl T.F6 (AI (EC (AB 2) T.BU LY hr hx))) (CY 6 JT.nd) (AN (DQ (A6 (AB 4) T.B8 pN hr hx (AI (AB 6)))) (AL (B9 (GO (J0 (ET pM hr hx (BN (AB 2) (ET pL hr hx (BN (AB 2) (AB 3))))) (λ_=>rfl))) (AL (BC FO)) CW)))) (AL (BC FO)))))))))
end
end L2
namespace L2
theorem zb2(q3b q3c q3d q3e q3f q3g q3h q3i q3j q3k q3l:Addr):∃ a:Ad,a "NoBlock"=q3b/\a "NoChange"=q3c/\a "NoRoom"=q3d/\a "NoName"=q3e/\a "Twice"=q3f/\a "NoPiece"=q3g/\a "Change"=q3h/\a "Hold"=q3i/\a "Store"=q3j/\a "Plank"=q3k/\a "Layout"=q3l :=
 ⟨λs=>if s="NoBlock" then q3b else if s="NoChange" then q3c else if s="NoRoom" then q3d else if s="NoName" then q3e else if s="Twice" then q3f else if s="NoPiece" then q3g else if s="Change" then q3h else if s="Hold" then q3i else if s="Store" then q3j else if s="Plank" then q3k else if s="Layout" then q3l else 0,by simp⟩
def Y7(K:W.Frag):Sp:=λvs H Q _=>∃ (s:Addr) (ns:List Int),vs=[.ref s]/\SqL K H s (ns.map V.int)/\ns.length<=63/\∀ H',Q (.bl true) H'
theorem all_mk{l:W.OpenLaw}{w:World}{K:W.Frag}{h:Heap}{mg:Str->Option Value}{fa:Addr}{q3b q3c q3d q3e q3f q3g q3h q3i q3j q3k q3l:Addr}{tk_MOST_LETTERS:Tok}{tk_MOST_PIECE_SIGNS:Tok}{tk_PERCENT:Tok}(X:K.In h)(G:h.Ns mainGlobals mg)(hfa:mg "law"=some (.ref fa))
  (q0:GX K q3b "NoBlock")
  (q1:GX K q3c "NoChange")
  (q2:GX K q3d "NoRoom")
  (q3:GX K q3e "NoName")
  (q4:GX K q3f "Twice")
  (q5:GX K q3g "NoPiece")
  (q6:GC K q3h "Change")
  (q7:GC K q3i "Hold")
  (q8:GC K q3j "Store")
  (q9:GC K q3k "Plank")
  (qa:GC K q3l "Layout")
  (qb:W.nsIn K mainGlobals "MOST_LETTERS"=some (some (.int 8 tk_MOST_LETTERS)))
  (qc:W.nsIn K mainGlobals "MOST_PIECE_SIGNS"=some (some (.int 40 tk_MOST_PIECE_SIGNS)))
  (qd:W.nsIn K mainGlobals "PERCENT"=some (some (.int 37 tk_PERCENT)))
  (qe:W.nsIn K mainGlobals "all"=some none)
  (qf:W.nsIn K mainGlobals "bool"=some none)
  (qg:W.nsIn K mainGlobals "dict"=some none)
  (qh:W.nsIn K mainGlobals "enumerate"=some none)
  (qi:W.nsIn K mainGlobals "int"=some none)
  (qj:W.nsIn K mainGlobals "isinstance"=some none)
  (qk:W.nsIn K mainGlobals "len"=some none)
  (ql:W.nsIn K mainGlobals "list"=some none)
  (qm:W.nsIn K mainGlobals "ord"=some none)
  (qn:W.nsIn K mainGlobals "range"=some none)
  (qo:W.nsIn K mainGlobals "set"=some none)
  (qp:W.nsIn K mainGlobals "sorted"=some none)
  (qq:W.nsIn K mainGlobals "str"=some none)
  (qr:W.nsIn K mainGlobals "tuple"=some none)
  (qs:GF K "law" Y6)
  (qt:GM K q3k "blocks" "Plank.blocks" XC)
  (qu:GM K q3k "cells" "Plank.cells" XD)
  (qv:GM K q3i "lack_of" "Hold.lack_of" W6)
  (qw:GF K "is_sign" W9)
  (qx:GM K q3k "ask_for_block" "Plank.ask_for_block" XF)
  (qy:GM K q3l "place_from" "Layout.place_from" XJ)
  (qz:GM K q3l "blocks_ahead_of_marks" "Layout.blocks_ahead_of_marks" XI)
  (q10:GM K q3i "ask_for_place" "Book.ask_for_place" XR)
  (q11:GM K q3k "read" "Plank.read" XU)
  (q12:GM K q3i "outcome" "Hold.outcome" XS)
  (q13:GM K q3i "laid_over" "Hold.laid_over" W7)
  (q14:GM K q3k "write" "Plank.write" XV)
  (q15:GM K q3l "blocks" "Layout.blocks" X1)
  (q16:GN K q3k "Plank" "Plank.__init__" XB)
  (q17:GM K q3l "counts" "Layout.counts" XH)
  (q18:GM K q3l "record_at" "Layout.record_at" XX)
  (q19:GM K q3l "piece_at" "Layout.piece_at" XY)
  (q1a:GM K q3l "piece_mark" "Layout.piece_mark" X0)
  (q1b:GM K q3i "newest" "Book.newest" X2)
  (q1c:GM K q3i "ask_for_changes" "Book.ask_for_changes" W4)
  (q1d:GF K "needs_with" W5)
  (q1e:GN K q3h "Change" "Change.__init__" W3)
  (q1f:GN K q3i "Hold" "Book.__init__" XQ)
  (q1g:GM K q3i "write" "Hold.write" X3)
  (q1h:GM K q3l "name_at" "Layout.name_at" XW)
  (q1i:GM K q3l "record_mark" "Layout.record_mark" XZ)
  (q1j:GF K "_law_pieces_sound" X6)
  (q1k:GM K q3i "in_hand" "Book.in_hand" X9)
  (q1l:GM K q3i "change" "Book.change" X7)
  (q1m:GF K "lowest_with" YD)
  (q1n:GM K q3j "name_cells" "Store.name_cells" YF)
  (q1o:GM K q3j "standing" "Store.standing" YG)
  (q1p:GF K "is_name" XA)
  (q1q:GM K q3j "cell_of" "Store.cell_of" YQ)
  (q1r:GM K q3j "ask_for_new_name" "Store.ask_for_new_name" YV)
  (q1s:GF K "free_record" YL)
  (q1t:GF K "free_name" YI)
  (q1u:GM K q3j "fill_cell" "Store.fill_cell" YH)
  (q1v:GM K q3j "record_of" "Store.record_of" YW)
  (q1w:GM K q3j "recount" "Store.recount" YS)
  (q1x:GM K q3j "empty_cell" "Store.empty_cell" YX)
  (q1y:GM K q3j "drop_record" "Store.drop_record" YU)
  (q1z:GF K "is_piece" XT)
  (q20:GF K "free_piece" YN)
  (q21:GM K q3j "regroup" "Store.regroup" YT)
  (q22:GM K q3j "link" "Store.link" YZ)
  (q23:GM K q3j "make" "Store.make" YY)
  (q24:GM K q3j "cut" "Store.cut" Y0)
  (q25:GF K "_law_text" XN)
  (q26:GM K q3j "put" "Store.put" Y2)
  (q27:GF K "_law_at" XO)
  (q28:GM K q3j "take" "Store.take" Y3)
  (q29:GM K q3j "move" "Store.move" Y4)
  (q2a:GF K "_law_cell_at" XL)
  (q2b:GN K q3l "Layout" "Layout.__init__" XG)
  (q2c:GM K q3l "plank" "Layout.plank" X4)
  (q2d:GN K q3j "Store" "Store.__init__" YA)
  (q2e:GF K "_law_names" XM)
  (q2f:GM K q3j "write" "Store.write" YB)
  (q2g:GF K "_law_plank" X5)
  (q2h:GF K "_law_sound" YC)
  (q2i:GF K "_law_done" Y5)
  (q2j:W.findIn K (.ref q3k) "contents"=some none)
  (q2k:W.findIn K (.ref q3k) "width"=some none)
  (q2l:W.findIn K (.ref q3k) "written"=some none)
  (q2m:W.findIn K (.ref q3i) "ground"=some none)
  (q2n:W.findIn K (.ref q3i) "made"=some none)
  (q2o:W.findIn K (.ref q3i) "made_in"=some none)
  (q2p:W.findIn K (.ref q3i) "latest"=some none)
  (q2q:W.findIn K (.ref q3i) "outs"=some none)
  (q2r:W.findIn K (.ref q3h) "place"=some none)
  (q2s:W.findIn K (.ref q3h) "value"=some none)
  (q2t:W.findIn K (.ref q3h) "needs"=some none)
  (q2u:W.findIn K (.ref q3l) "name_blocks"=some none)
  (q2v:W.findIn K (.ref q3l) "record_blocks"=some none)
  (q2w:W.findIn K (.ref q3l) "piece_blocks"=some none)
  (q2x:W.findIn K (.ref q3l) "width"=some none)
  (q2y:W.findIn K (.ref q3j) "plan"=some none)
  (q2z:W.findIn K (.ref q3j) "book"=some none)
  (q30:W.findIn K (.ref q3j) "taken_out"=some none)
  (q31:W.exmOne K (.ref q3e) (.ref q3e)=some true)
  (q32:W.exmOne K (.ref q3f) (.ref q3e)=some false)
  (q33:W.exmOne K (.ref q3f) (.ref q3f)=some true)
  (q34:W.exmOne K (.ref q3g) (.ref q3e)=some false)
  (q35:W.exmOne K (.ref q3g) (.ref q3f)=some false)
  (q36:W.exmOne K (.ref q3g) (.ref q3g)=some true)
  (q37:W.exmOne K (.ref q3d) (.ref q3e)=some false)
  (q38:W.exmOne K (.ref q3d) (.ref q3f)=some false)
  (q39:W.exmOne K (.ref q3d) (.ref q3g)=some false)
  (q3a:W.exmOne K (.ref q3d) (.ref q3d)=some true) :
  ∃ fd:FuncData,(∀ (s:Shared) (v:Value),BindsTo s fd ⟨[v],[]⟩ [("script",v)])/\∀ base:Heap,K.In base->base.Ns mainGlobals mg->FnOk l.prog w K mg base (DY l.prog w) 11 fa fd ["script"] (Y7 K):=by
 obtain⟨a,rfl,rfl,rfl,rfl,rfl,rfl,rfl,rfl,rfl,rfl,rfl⟩:=zb2 q3b q3c q3d q3e q3f q3g q3h q3i q3j q3k q3l
 have T:Txt K mg a:=⟨q6.c,q7.c,qa.c,q9.c,q8.c,⟨_,W.mg_of X G qb,_,rfl⟩,⟨_,W.mg_of X G qc,_,rfl⟩,W.mg_of X G q0.ac,⟨_,W.mg_of X G q0.ac,rfl⟩,⟨q0.ex⟩,W.mg_of X G q1.ac,⟨_,W.mg_of X G q1.ac,rfl⟩,⟨q1.ex⟩,W.mg_of X G q3.ac,⟨_,W.mg_of X G q3.ac,rfl⟩,⟨q3.ex⟩,W.mg_of X G q5.ac,⟨_,W.mg_of X G q5.ac,rfl⟩,⟨q5.ex⟩,W.mg_of X G q2.ac,⟨_,W.mg_of X G q2.ac,rfl⟩,⟨q2.ex⟩,⟨_,W.mg_of X G qd,_,rfl⟩,W.mg_of X G q4.ac,⟨_,W.mg_of X G q4.ac,rfl⟩,⟨q4.ex⟩,W.mg_none_of X G qe,W.mg_none_of X G qf,W.mg_none_of X G qg,W.mg_none_of X G qh,W.mg_none_of X G qi,W.mg_none_of X G qj,W.mg_none_of X G qk,W.mg_none_of X G ql,W.mg_none_of X G qm,W.mg_none_of X G qn,W.mg_none_of X G qo,W.mg_none_of X G qp,W.mg_none_of X G qq,W.mg_none_of X G qr⟩
 have TPk:D6 K a:=⟨T.HS,q2j,q2k,q2l⟩
 have TBk:dM K (a "Hold") (a "Change"):=⟨T.DO,q2m,q2n,q2o,q2p,q2q,T.zc4,q2r,q2s,q2t⟩
 have TLy:DU K a:=⟨T.BU,q2u,q2v,q2w,q2x⟩
 have TSt:P7 K a:=⟨T.B8,q2y,q2z,q30⟩
 have TRm:TD K a:=⟨q31,q32,q33,q34,q35,q36,q37,q38,q39,q3a⟩
 obtain⟨fd,hb,F⟩:=qs.law X G hfa (λ_ _ _ _ _ _ _ _=>.of_eq rfl)
 refine⟨fd,hb,λbase _ _=> ?_⟩
 have q47:=q1e.cal X G (Yc l.prog w base T)
 have q45:=q1c.cal (Yd l.prog w base T)
 have q46:=q1d.cal X G (Yh l.prog w base T)
 have q3o:=qv.cal (Yj l.prog w base T)
 have q3w:=q13.cal (Yk l.prog w base T)
 have q3p:=qw.cal X G (Ym l.prog w base T)
 have q4i:=q1p.cal X G (Yp l.prog w base T)
 have q3z:=q16.cal X G (Yv l.prog w base T)
 have q3m:=qt.cal (Yx l.prog w base T)
 have q3n:=qu.cal (Yz l.prog w base T)
 have q3q:=qx.cal (Zc l.prog w base T)
 have q54:=q2b.cal X G (Zg l.prog w base T)
 have q40:=q17.cal (Zj l.prog w base T)
 have q3s:=qz.cal (Zl l.prog w base T)
 have q3r:=qy.cal (Zp l.prog w base T)
 have q53:=q2a.cal X G (Zv l.prog w base T)
 have q57:=q2e.cal X G (Zw l.prog w base T)
 have q4y:=q25.cal X G (Zy l.prog w base T)
 have q50:=q27.cal X G (zaa l.prog w base T)
 have q48:=q1f.cal X G (zac l.prog w base T q3m)
 have q3t:=q10.cal (zae l.prog w base T q3n q3m)
 have q3v:=q12.cal (zaf l.prog w base T q3o)
 have q4s:=q1z.cal X G (zag l.prog w base T q3p)
 have q3u:=q11.cal (zai l.prog w base T q3q)
 have q3x:=q14.cal (zak l.prog w base T q3q)
 have q4a:=q1h.cal (zam l.prog w base T q3r)
 have q41:=q18.cal (zao l.prog w base T q3r)
 have q42:=q19.cal (zaq l.prog w base T q3r)
 have q4b:=q1i.cal (zas l.prog w base T q3s q3r)
 have q43:=q1a.cal (zau l.prog w base T q3s q3r)
 have q3y:=q15.cal (zaw l.prog w base T q3s)
 have q44:=q1b.cal (zay l.prog w base T q3t)
 have q49:=q1g.cal (zaz l.prog w base T q3u q3v q3w q3x)
 have q55:=q2c.cal (za1 l.prog w base T q3y q3z)
 have q59:=q2g.cal X G (za2 l.prog w base T q3y q3u)
 have q4c:=q1j.cal X G (za3 l.prog w base T q40 q41 q42 q43)
 have q4e:=q1l.cal (za4 l.prog w base T q44 q45 q46 q47)
 have q4d:=q1k.cal (za5 l.prog w base T q44 q3u)
 have q56:=q2d.cal X G (za7 l.prog w base T q48)
 have q58:=q2f.cal (za9 l.prog w base T q49)
 have q5a:=q2h.cal X G (zba l.prog w base T q40 q4a q41 q4b q4c)
 have q4f:=q1m.cal X G (zbb l.prog w base T q4d)
 have q4g:=q1n.cal (zbd l.prog w base T q40 q4a q4d)
 have q4h:=q1o.cal (zbf l.prog w base T q41 q4d)
 have q4n:=q1u.cal (zbg l.prog w base T q4a q4e)
 have q4m:=q1t.cal X G (zbh l.prog w base T q40 q4a q4f)
 have q4l:=q1s.cal X G (zbi l.prog w base T q40 q4b q4f)
 have q4t:=q20.cal X G (zbj l.prog w base T q40 q43 q4f)
 have q4j:=q1q.cal (zbk l.prog w base T q4g)
 have q4p:=q1w.cal (zbl l.prog w base T q4h q41 q4e)
 have q4u:=q21.cal (zbn l.prog w base T q4h q41 q4e)
 have q4r:=q1y.cal (zbp l.prog w base T q4h q41 q4e q43 q4b)
 have q4k:=q1r.cal (zbr l.prog w base T q4i q4j)
 have q4o:=q1v.cal (zbs l.prog w base T q4j q4g)
 have q4q:=q1x.cal (zbt l.prog w base T q4j q4a q4e)
 have q4w:=q23.cal (zbu l.prog w base T q4k q4l q4m q4b q4e q41 q4n)
 have q4v:=q22.cal (zbv l.prog w base T q4k q4o q4m q4p q4n)
 have q4x:=q24.cal (zbw l.prog w base T q4o q4q q4h q4p q4r)
 have q4z:=q26.cal (zbx l.prog w base T q4o q4s q4t q43 q4e q42 q4h q4u)
 have q51:=q28.cal (zby l.prog w base T q4o q4h q4u q43 q4e)
 have q52:=q29.cal (zbz l.prog w base T q4v q4o q4q q4p)
 have q5b:=q2i.cal X G (zb0 l.prog w base T q4w q4v q4x q4y q4z q50 q51 q52)
 exact(zb1 l.prog w base T q53 q54 q55 q56 q57 q3y q58 q59 q5a q5b F).imp (λvs H Q E ⟨s,ns,e,hs,hn,q⟩=>⟨s,ns,e,⟨TBk,TPk,TLy,TSt⟩,TRm,hs,hn,q⟩)
theorem walk{l:W.OpenLaw}{q:Program}{loose:List Str}{XP:(Str->Option Value)->Heap->Prop}{YP:World->Heap->Prop}{d:DefRec}{K:Params->W.Frag}(hn:l.most=some 63)(hdf:d.params.defaults=[])
  (hY:∀ (w:World) (h:Heap),YP w h->(K w.params).In h)
  (F:∀ (w:World) (mg:Str->Option Value) (fa:Addr) (h:Heap),(K w.params).In h->h.Ns mainGlobals mg->mg d.name=some (.ref fa) →
   ∃ fd:FuncData,(∀ (s:Shared) (u:Value),BindsTo s fd ⟨[u],[]⟩ [("script",u)])/\∀ base:Heap,(K w.params).In base->base.Ns mainGlobals mg->FnOk l.prog w (K w.params) mg base (DY l.prog w) 11 fa fd ["script"] (Y7 (K w.params))) :
  W.WalkO q loose XP YP l.row.toRowW d [] (λf vs=>PySem.call f vs) :=
 L2.walk_of (n:=63) (k:=11) (x:="script") (CX:=λw=>DY l.prog w) (sp:=λw=>Y7 (K w.params)) hn (by decide) hdf ⟨rfl,by decide,by decide⟩ hY F (λ_ _ a ns hl _ hS=>⟨a,ns,rfl,hS,hl,λ_=>rfl⟩) λ_ _ _ _ _ z=>bT z
end L2
namespace PySem.W.Fast
def tw17386752659386275844:=()
def tw9167227822470673192:=()
def tw1729402768352375002:=()
def tw5278818088450884001:=()
def tw7601276228215539208:=()
def tw3992350607128549912:=()
def tw12663595030069070765:=()
def tw16963797322422964035:=()
def tw12942500230640690221:=()
def tw9112409373862540791:=()
def tw4616977385353161018:=()
def tw729826103204035029:=()
def tw1602687199412384937:=()
def tw6300856062480447504:=()
def tw7807670382065527556:=()
def tw12732750833325191998:=()
def tw16058331666557269339:=()
def tw18366920178389419201:=()
def tw3965420805709076328:=()
def tw1856653165720146122:=()
def tw15157545735432916107:=()
def tw2502273287295350103:=()
def tw3796928668462560252:=()
def tw13842326780033496732:=()
def tw8605204613444556042:=()
def tw11324663745678103393:=()
def tw9302179757002127272:=()
def tw10815976264399911540:=()
def tw11308056362064225160:=()
def tw16662712509208325919:=()
def tw431343239048175261:=()
def tw14545962661436987256:=()
def tw13001868681455586896:=()
def tw14346362827550019681:=()
def tw16120783597664260780:=()
def tw8204571176356673662:=()
def tw690688858021170360:=()
def tw109755792507867752:=()
def tw17757731890994117457:=()
def tw15907892410896807097:=()
def tw10101359051304505789:=()
def tw16478659559358257605:=()
def tw2373092838427785852:=()
def tw15888609974482302762:=()
def tw2572833629449112322:=()
def tw15870766511238748627:=()
def tw7944481773064733330:=()
def tw13004056111148864245:=()
def tw3687135504673662604:=()
def tw17832544426737377344:=()
def tw15526686847876065798:=()
def tw7342786561311100694:=()
def tw15263709639341281342:=()
def tw13109797298207321984:=()
def tw7985859630930475498:=()
def tw1523201539158896892:=()
def tw3744148408710198640:=()
def tw6084979058616437937:=()
def tw8665221574226257091:=()
def tw8144860488596184717:=()
def tw7522723615384880986:=()
def tw12888263334065268297:=()
def tw14864343778311067291:=()
def tw14692604200704350417:=()
def tw15164908409415571631:=()
def tw13715770075003822547:=()
def tw13408297930739338136:=()
def tw9901277015385389959:=()
def tw3885801549982312963:=()
def tw8424085337083300206:=()
def tw2805124015741085768:=()
def tw6991305056420062391:=()
def tw6763982813091387347:=()
def tw18290347109063190056:=()
def tw15920081848051327251:=()
def tw15016010420022955983:=()
def tw10553484851319885685:=()
def tw4175630266884630545:=()
def tw18132500390442340842:=()
def tw6710092691318973105:=()
def tw4634521221741508683:=()
def tw18102175670498820902:=()
def tw10709374755838922472:=()
def tw5452430728661966177:=()
def tw10065186252491644574:=()
def tw16594936290291399455:=()
def tw10003483491479496023:=()
def tw2436188395485768517:=()
def tw8179775479990214549:=()
def tw4867988659802393489:=()
def tw13011523354077657209:=()
def tw9428840082279762747:=()
def tw16556618220259687281:=()
def tw6010955925782969673:=()
def tw4800190486355095762:=()
def tw1267679482938762227:=()
def tw15539470713496511321:=()
def tw5114851642236500956:=()
def tw18274824125690905258:=()
def tw15477299392462270806:=()
def tw4977208179728001485:=()
def tw11431812108202425946:=()
def tw11586601394434563639:=()
def tw11868097081645359036:=()
def tw3449674214563856694:=()
def tw7777242153194746797:=()
def tw16555931620887267537:=()
def tw14100106994157886481:=()
def tw4693260385590697189:=()
def tw17007708218315973901:=()
def tw8560888162834535772:=()
def tw18071961948477762752:=()
def tw3396019353986520381:=()
def tw16626543485488385179:=()
def tw15313676177861089617:=()
def tw409268284358185326:=()
def tw7378316020000703197:=()
def tw17630532480128027732:=()
def tw14616464011761988463:=()
def tw8089574832407964238:=()
def tw7364251890656873647:=()
def tw15554004488485125183:=()
def tw16801532799495991793:=()
def tw15029202326269326241:=()
def tw13616463132642765888:=()
def tw2085613073786612981:=()
def tw18145231015288946449:=()
def tw7767834881342680662:=()
def tw2173790741067871404:=()
def tw4186333539696789885:=()
def tw7202722575456807198:=()
def tw560974965784043533:=()
def tw16096602842745648957:=()
def tw10470600417800670297:=()
def tw6395554341663100860:=()
def tw921995485435261474:=()
def tw6291465410105197879:=()
def tw15821738054104555246:=()
def tw11067175969521839098:=()
def tw8237177286146799784:=()
def tw9047411438715316455:=()
def tw13881504120140165445:=()
def tw12272314340421734588:=()
def tw17281739709490178373:=()
def tw5416074550871289053:=()
def tw3924867705047367484:=()
def tw4220764414529351867:=()
def tw1147546054031162278:=()
def tw13567808507403824587:=()
def tw9714370386156727589:=()
def tw1553353184918029244:=()
def tw14735616802761495245:=()
def tw16787706549722749217:=()
def tw12843265027269411109:=()
def tw7018179518974364320:=()
def tw2946181487671606870:=()
def tw9381298891084231625:=()
def tw10359461271574124092:=()
def tw13989130480538053837:=()
def tw1396185404581649140:=()
def tw11294427005052484778:=()
def tw3760255175281604663:=()
def tw1891178935387640275:=()
def tw17575723900034278869:=()
def tw17442009401279493494:=()
def tw15096127260787196107:=()
def tw4372291150537468205:=()
def tw12600750603109983979:=()
def tw13683304792743694380:=()
def tw10139081656203540597:=()
def tw1544355829676706864:=()
def tw11401685478989628360:=()
def tw15473841664179958499:=()
def tw11924819516015027436:=()
def tw7083306061023324280:=()
def tw15940409609603392998:=()
def tw7517619041130381348:=()
def tw5121774097259540690:=()
def tw15233588302001640596:=()
def tw2579258029893080860:=()
def tw9964306388962429544:=()
def tw16966647900697240809:=()
def tw6312740299452779457:=()
def tw2911789037167800306:=()
def tw4463901145689083116:=()
def tw18108467582603381544:=()
def tw10632975120368860641:=()
def tw18253720159839593222:=()
def tw17513226125304427111:=()
def tw5780140263874106077:=()
def tw9911780271373693047:=()
def tw1664410804904726348:=()
def tw16912735313194818502:=()
def tw1138340976279714150:=()
def tw9343159187909663932:=()
def tw1703845548133825155:=()
def tw7330810438615887229:=()
def tw17483854315828126333:=()
def tw15467729025816013362:=()
def tw15319018512973488453:=()
def tw17661923918121223453:=()
def tw15831695787634012977:=()
def tw17155656655150181453:=()
def tw10306615498468287834:=()
def tw13624911889466587164:=()
def tw15309984782322137865:=()
def tw3550511313279451223:=()
def tw10595802258135908902:=()
def tw6972796824856291222:=()
def tw15568988492436408370:=()
def tw15535569920701942675:=()
def tw12747703053127186560:=()
def tw11782477861090038510:=()
def tw16775118466215649845:=()
def tw15608965453107382034:=()
def tw1123568005585645107:=()
def tw9503951169175909719:=()
def tw13325346006469544214:=()
def tw13415071872439491859:=()
def tw6944317636973714539:=()
def tw1773793157626393793:=()
def tw3154699048600223416:=()
def tw10340333314965429069:=()
def tw6981434815184079857:=()
def tw2364543449829767159:=()
def tw2675327990671845117:=()
def tw3842327773154709792:=()
def tw18159666070138070877:=()
def tw15830836487117125061:=()
def tw5628883646478034901:=()
def tw382960230610316972:=()
def tw17227904058468971163:=()
def tw3839902811445842960:=()
def tw11113195345685403285:=()
def tw13376325635445769892:=()
def tw11396061609057388917:=()
def tw9252297908873728328:=()
def tw912129654105580313:=()
def tw4376972743600564513:=()
def tw11056204849511029516:=()
def tw11826669822523058616:=()
def tw7278112111477316188:=()
def tw2219140056400023952:=()
def tw9923550488390254294:=()
def tw4113373295573006165:=()
def tw16446069195841840442:=()
def tw1052945948549782293:=()
def tw16321884314717601543:=()
def tw18179236803344100946:=()
def tw14509491015082170068:=()
def tw3463101568860318439:=()
def tw6819307460553143418:=()
def tw6701547615814435919:=()
def tw14002465101638933097:=()
def tw7213530175511173302:=()
def tw543699734784040863:=()
def tw11530763825863352779:=()
def tw2520058226928045971:=()
def tw2145326617496903036:=()
def tw1357588155469006975:=()
def tw4907622546863198202:=()
def tw5268158601278494629:=()
def tw1463690346546833072:=()
def tw6698139195450937658:=()
def tw7630822770684227497:=()
def tw11186758183226706730:=()
def tw13483561334881952192:=()
def tw2665839868334186276:=()
def tw12297787799313929480:=()
def tw10536160535807456075:=()
def tw6045827187725993528:=()
def tw2127152609838821660:=()
def tw14791471921396838199:=()
def tw11007862577711163400:=()
def tw476957144196412319:=()
def tw8931146229757418461:=()
def tw13470580178142529175:=()
def tw12105025740546597428:=()
def tw10758570108853559104:=()
def tw12251298922275296686:=()
def tw247683561368619334:=()
def tw2976848343353464768:=()
def tw14653829533603150594:=()
def tw2149062109079599591:=()
def tw4366762920485182106:=()
def tw9243793445206103397:=()
def tw17554064764808192242:=()
def tw12348959053550419946:=()
def tw11234670720087908991:=()
def tw7544496274619575644:=()
def tw10228921930437073108:=()
def tw3439385586387910692:=()
def tw15259847981113776093:=()
def tw2481225877758570768:=()
def tw6441653357572572637:=()
def tw57549699678710286:=()
def tw9575728577628705586:=()
def tw15314969202157473482:=()
def tw1822999442255490831:=()
def tw7937866660942209163:=()
def tw2786086112767018486:=()
def tw12462142433332116483:=()
def tw5079906144525175570:=()
def tw18212639228356706872:=()
def tw4283433754449240235:=()
def tw7614283756080267426:=()
def tw8438980660593130379:=()
def tw3922212224044389875:=()
def tw14744166480014027983:=()
def tw7034499859926190643:=()
def tw10658028203744224910:=()
def tw10567847683028267721:=()
def tw11341607300133516899:=()
def tw16446723105450809031:=()
def tw6438833129693806470:=()
def tw689665642644876388:=()
def tw7974371742186514366:=()
def tw14678357697613325284:=()
def tw11358115722907476264:=()
def tw176366723752441432:=()
def tw7715485714899759408:=()
def tw12314618554231382978:=()
def tw5207091728028048673:=()
def tw2346889053130445747:=()
def tw8844278808502735499:=()
def tw7003895334914209079:=()
def tw8361572880357831080:=()
def tw16197904981975706852:=()
def tw5903988400159075956:=()
def tw12170437994240072956:=()
def tw5170489742357425629:=()
def tw16816685163200148145:=()
def tw12317467224055954420:=()
def tw17342641616968218634:=()
def tw16514877114848592007:=()
def tw17449302176217289994:=()
def tw7368798098697956818:=()
def tw4919281094302534625:=()
def tw16168354855311992692:=()
def tw10430252524655249727:=()
def tw9434376099063115692:=()
def tw17548195768752984892:=()
def tw16763539878618220730:=()
def tw2110404900415890815:=()
def tw16739861908343732089:=()
def tw7603875861904600007:=()
def tw17185194967375611543:=()
def tw17612498110784713582:=()
def tw16322900093642577885:=()
def tw5184073386223653387:=()
def tw12352530269176944490:=()
def tw4742735563587305011:=()
def tw16866158792979495290:=()
def tw4144124369439278072:=()
def tw13022285641339711506:=()
def tw2198245798021161364:=()
def tw10437575306987617095:=()
def tw415884927511818177:=()
def tw9525487706242075888:=()
def tw16029479988421773723:=()
def tw14833809405917952705:=()
def tw11677251703198049815:=()
def tw7268350291366544400:=()
def tw17582229893237813410:=()
def tw17735544072779990448:=()
def tw5024439568037112689:=()
def tw1752475696998734396:=()
def tw11369874665640586432:=()
def tw5643452778015540702:=()
def tw11383339249191346179:=()
def tw8954189234708895139:=()
def tw4469933199496538050:=()
def tw3452195764844108573:=()
def tw8304947487798572939:=()
def tw12731276358051752162:=()
def tw9830114188996543625:=()
def tw18298181218223380910:=()
def tw13519837646948661404:=()
def tw3963224208774824339:=()
def tw17743407173347105990:=()
def tw2800618055990534826:=()
def tw16278368688077578315:=()
def tw8582963095398062613:=()
def tw15309045491655494824:=()
def tw3372648228089023332:=()
def tw1337960100800581265:=()
def tw7612150554064677694:=()
def tw13333642111623221043:=()
def tw7815333208189647977:=()
def tw14855778070347012779:=()
def tw7687721425884727266:=()
def tw12568132366883130517:=()
def tw16372450347073211451:=()
def tw14509445074059876921:=()
def tw12644552118241354262:=()
def tw12835796179771631547:=()
def tw15681033283130666041:=()
def tw15953979889660137630:=()
def tw2594008161213986238:=()
def tw10731791659861527503:=()
def tw4956698961898712258:=()
def tw10728108440296299342:=()
def tw7182783040879642876:=()
def tw4646915716112732450:=()
def tw14003372035717905601:=()
def tw17496865611317831154:=()
def tw10707099793312150166:=()
def tw11365561551758268993:=()
def tw14487549992487015125:=()
def tw10723558181080354093:=()
def tw12045945525356477695:=()
def tw15220908103889514690:=()
def tw7389884768358840639:=()
def tw16699538407035023856:=()
def tw1896557746644360527:=()
def tw13578700800335810799:=()
def tw17114902678748293710:=()
def tw11312056563871076209:=()
def tw16079930703539445731:=()
def tw11068508624295832913:=()
def tw5950293151571827093:=()
def tw8920813163220624619:=()
def tw6210909668365791159:=()
def tw15136662847585330950:=()
def tw3654251824846907747:=()
def tw16890532478848899061:=()
def tw116744451816265597:=()
def tw17371692101012010046:=()
def tw115865789417652567:=()
def tw8003875654391994510:=()
def tw11639716298395878862:=()
def tw826537658200142233:=()
def tw16969457378571698129:=()
def tw12006373167756947069:=()
def tw2358906382802029648:=()
def tw16654959717967727473:=()
def tw16045902338562765070:=()
def tw1565988105418979075:=()
def tw1754698189473935063:=()
def tw13969915609593381730:=()
def tw16540235184632115356:=()
def tw2006829648816658104:=()
def tw3754205637359202497:=()
end PySem.W.Fast
open PySem PySem.W PyProof.Rows
set_option Elab.async false
set_option maxRecDepth 100000 in
set_option maxHeartbeats 0 in
theorem PySem.Challenge.cw_holdback_k45_whole_every_cut_is_sound_holds : PySem.Challenge.rw_holdback_k45_whole_every_cut_is_sound.Holds := by
 w_on;o_law;k_head;(case hw=>w_witness2)
 k_fill
 refine L2.walk (l:=PySem.Challenge.rw_holdback_k45_whole_every_cut_is_sound) rfl rfl (λw h Y=>PySem.W.kIn_of Y) ?F
 case F =>
  intro w mg fa h KX G hmg
  refine' L2.all_mk KX G hmg ?q0 ?q1 ?q2 ?q3 ?q4 ?q5 ?q6 ?q7 ?q8 ?q9 ?qa ?qb ?qc ?qd ?qe ?qf ?qg ?qh ?qi ?qj ?qk ?ql ?qm ?qn ?qo ?qp ?qq ?qr ?qs ?qt ?qu ?qv ?qw ?qx ?qy ?qz ?q10 ?q11 ?q12 ?q13 ?q14 ?q15 ?q16 ?q17 ?q18 ?q19 ?q1a ?q1b ?q1c ?q1d ?q1e ?q1f ?q1g ?q1h ?q1i ?q1j ?q1k ?q1l ?q1m ?q1n ?q1o ?q1p ?q1q ?q1r ?q1s ?q1t ?q1u ?q1v ?q1w ?q1x ?q1y ?q1z ?q20 ?q21 ?q22 ?q23 ?q24 ?q25 ?q26 ?q27 ?q28 ?q29 ?q2a ?q2b ?q2c ?q2d ?q2e ?q2f ?q2g ?q2h ?q2i ?q2j ?q2k ?q2l ?q2m ?q2n ?q2o ?q2p ?q2q ?q2r ?q2s ?q2t ?q2u ?q2v ?q2w ?q2x ?q2y ?q2z ?q30 ?q31 ?q32 ?q33 ?q34 ?q35 ?q36 ?q37 ?q38 ?q39 ?q3a
  case q6 | q7 | q8 | q9 | qa=>(apply L2.gc;(case a=>k_is);(case l=>k_is);(case c=>k_is);(case k=>k_is);(case i=>k_is))
  case q0 | q1 | q2 | q3 | q4 | q5=>(apply L2.GX.mk;(case ac=>k_is);(case ex=>k_exc))
  case qb | qc | qd | qe | qf | qg | qh | qi | qj | qk | ql | qm | qn | qo | qp | qq | qr | q2j | q2k | q2l | q2m | q2n | q2o | q2p | q2q | q2r | q2s | q2t | q2u | q2v | q2w | q2x | q2y | q2z | q30=>k_is
  case qs | qw | q1d | q1j | q1m | q1p | q1s | q1t | q1z | q20 | q25 | q27 | q2a | q2e | q2g | q2h | q2i=>(apply L2.gf;(case a=>k_is);(case l=>k_is);(case c=>k_is);(case k=>k_is))
  case qt | qu | qv | qx | qy | qz | q10 | q11 | q12 | q13 | q14 | q15 | q17 | q18 | q19 | q1a | q1b | q1c | q1g | q1h | q1i | q1k | q1l | q1n | q1o | q1q | q1r | q1u | q1v | q1w | q1x | q1y | q21 | q22 | q23 | q24 | q26 | q28 | q29 | q2c | q2f=>(apply L2.gm;(case a=>k_is);(case l=>k_is);(case c=>k_is);(case k=>k_is);(case i=>k_is))
  case q16 | q1e | q1f | q2b | q2d=>(apply L2.gn;(case a=>k_is);(case l=>k_is);(case c=>k_is);(case k=>k_is);(case i=>k_is);(case m=>k_is);(case n=>k_is);(case s=>k_is))
  case q31 | q32 | q33 | q34 | q35 | q36 | q37 | q38 | q39 | q3a=>kts_exm
