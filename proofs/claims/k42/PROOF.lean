import PyProof.Rows.All
import Wide.All
import OpenK.AllK
import Wide.FinOn
import Lean
import PyProof.EqAt
import PyProof.EqKinds
import PyProof.TupleCall
import PyProof.SetScanFacts
import PyProof.Rows.SetFrom
import PyProof.Rows.SortWalk
import PyProof.CollectWalk
import PyProof.DictWalks
import PySem.Challenge.RW_holdback_k42_names_and_texts
set_option linter.all false
set_option maxRecDepth 100000
set_option maxHeartbeats 8000000
open PySem PySem.Spec PyProof.Rows
set_option Elab.async false
namespace L2
abbrev AS:=Sum Int Str
def HE:AS->Value->Bool
 | .inl k,v=>Value.isInt k v
 | .inr x,v=>Value.isStrOf x v
def lR(w:World):AS->Int
 | .inl k=>hashInt k
 | .inr x=>hashStr w x
theorem FQ:∀ {k:AS} {v:Value},HE k v=true->(∃ i t,k=Sum.inl i/\v=Value.int i t)\/(∃ x t,k=Sum.inr x/\v=Value.str x t)
 | .inl i,v,h=>by
  obtain⟨t,e⟩:=Value.isInt_shape (k:=i) (v:=v) h
  exact .inl ⟨i,t,rfl,e⟩
 | .inr x,v,h=>by
  obtain⟨t,e⟩:=Value.isStrOf_shape (x:=x) (v:=v) h
  exact .inr ⟨x,t,rfl,e⟩
theorem lS(i:Int)(t:Tok):HE (.inl i) (.int i t)=true:=by simp[HE,Value.isInt]
theorem lT(x:Str)(t:Tok):HE (.inr x) (.str x t)=true:=by simp[HE,Value.isStrOf]
theorem lU(a b:Int):decide ((Sum.inl a:AS)=Sum.inl b)=(a == b):=by
 by_cases e:a=b
 ·subst e;simp
 ·have h:¬ (Sum.inl a:AS)=Sum.inl b:=λq=>e (Sum.inl.inj q)
  rw[decide_eq_false h]
  exact(beq_eq_false_iff_ne.mpr e).symm
theorem lV(a b:Str):decide ((Sum.inr a:AS)=Sum.inr b)=decide (a=b):=by
 by_cases e:a=b
 ·subst e;simp
 ·have h:¬ (Sum.inr a:AS)=Sum.inr b:=λq=>e (Sum.inr.inj q)
  rw[decide_eq_false h,decide_eq_false e]
theorem lW(a:Int)(b:Str):decide ((Sum.inl a:AS)=Sum.inr b)=false:=decide_eq_false (λq=>nomatch q)
theorem lX(a:Str)(b:Int):decide ((Sum.inr a:AS)=Sum.inl b)=false:=decide_eq_false (λq=>nomatch q)
def CY(prog:Program)(w:World):PySem.KeyKind prog w AS where
 is:=HE
 hash:=lR w
 inj:=λv a b ha hb=>by
  rcases FQ ha with⟨i,t,rfl,rfl⟩ | ⟨x,t,rfl,rfl⟩
  ·rcases FQ hb with⟨j,u,rfl,e⟩ | ⟨y,u,rfl,e⟩
   ·injection e with e1 _;rw[e1]
   ·exact nomatch e
  ·rcases FQ hb with⟨j,u,rfl,e⟩ | ⟨y,u,rfl,e⟩
   ·exact nomatch e
   ·injection e with e1 _;rw[e1]
 byValue:=λk v h=>by
  rcases FQ h with⟨i,t,rfl,rfl⟩ | ⟨x,t,rfl,rfl⟩<;>rfl
 pyHash:=λhv h=>by
  rcases FQ hv with⟨i,t,rfl,rfl⟩ | ⟨x,t,rfl,rfl⟩
  ·exact wpAny_pyHash_int h
  ·exact wpAny_pyHash_str h
 eqBool:=λhu hv h=>by
  rcases FQ hu with⟨i,t,rfl,rfl⟩ | ⟨x,t,rfl,rfl⟩
  ·rcases FQ hv with⟨j,u,rfl,rfl⟩ | ⟨y,u,rfl,rfl⟩
   ·rw[lU]at h;exact wpAny_eqBool_int h
   ·rw[lW]at h;exact SeqAt.EqAt.int_str i t y u _ _ _ _ h
  ·rcases FQ hv with⟨j,u,rfl,rfl⟩ | ⟨y,u,rfl,rfl⟩
   ·rw[lX]at h;exact SeqAt.EqAt.str_int x t j u _ _ _ _ h
   ·rw[lV]at h;exact wpAny_eqBool_str h
 «strs» :=λk x t v h=>by
  rcases FQ h with⟨i,u,rfl,e⟩ | ⟨y,u,rfl,e⟩
  ·exact nomatch e
  ·injection e with e1 _
   subst e1
   cases v<;>rfl
theorem lY(prog:Program)(w:World)(i:Int)(t:Tok):(CY prog w).is (.inl i) (.int i t)=true:=lS i t
theorem lZ(prog:Program)(w:World)(x:Str)(t:Tok):(CY prog w).is (.inr x) (.str x t)=true:=lT x t
end L2
namespace L2
inductive V where
 | non | bl (b:Bool) | int (i:Int) | str (x:Str) | byt (b:Array UInt8) | flt (b:UInt64) | ref (a:Addr) | ty (n:String)
 deriving DecidableEq
def RelV:V->Value->Prop
 | .non,u=>u=Value.none
 | .bl b,u=>u=Value.bool b
 | .int i,u=>∃ t,u=Value.int i t
 | .str x,u=>∃ t,u=Value.str x t
 | .byt b,u=>∃ t,u=Value.bytes b t
 | .flt b,u=>∃ t,u=Value.float b t
 | .ref a,u=>u=Value.ref a
 | .ty n,u=>u=Value.type n
abbrev Vals:List V->List Value->Prop:=Paired RelV
theorem Vals.length{xs:List V}{us:List Value}(r:Vals xs us):xs.length=us.length:=Paired.length r
theorem Vals.get:∀ {xs:List V} {us:List Value} {i:Nat} {x:V},Vals xs us->xs[i]? =some x->∃ u,us[i]? =some u/\RelV x u
 | _,_,_,_,.nil,e=>by simp at e
 | _,_,0,_,.cons r _,e=>by simp at e;subst e;exact⟨_,rfl,r⟩
 | _,_,i+1,x,.cons _ t,e=>by
  obtain⟨u,h1,h2⟩:=Vals.get (i:=i) (x:=x) t (by simpa using e)
  exact⟨u,by simpa using h1,h2⟩
theorem Vals.set{x:V}{u:Value}(r:RelV x u):∀ {xs:List V} {us:List Value} (i:Nat),Vals xs us->Vals (xs.set i x) (us.set i u)
 | _,_,_,.nil=>.nil
 | _,_,0,.cons _ t=>.cons r t
 | _,_,i+1,.cons q t=>.cons q (Vals.set r i t)
theorem Vals.append:∀ {xs ys:List V} {us ws:List Value},Vals xs us->Vals ys ws->Vals (xs++ys) (us++ws)
 | _,_,_,_,.nil,s=>s
 | _,_,_,_,.cons r t,s=>.cons r (Vals.append t s)
theorem Vals.take:∀ {xs:List V} {us:List Value} (n:Nat),Vals xs us->Vals (xs.take n) (us.take n)
 | _,_,0,_=>.nil
 | _,_,_+1,.nil=>.nil
 | _,_,n+1,.cons r t=>.cons r (Vals.take n t)
theorem Vals.drop:∀ {xs:List V} {us:List Value} (n:Nat),Vals xs us->Vals (xs.drop n) (us.drop n)
 | _,_,0,r=>r
 | _,_,_+1,.nil=>.nil
 | _,_,n+1,.cons _ t=>Vals.drop n t
def RelO:Option V->Option Value->Prop
 | some v,some u=>RelV v u
 | none,none=>True
 | _,_=>False
def KV{κ :Type}:List (κ × V)->List (κ × Value)->Prop:=Paired λ(p: κ × V) (q: κ × Value)=>p.1=q.1/\RelV p.2 q.2
def kV:AS->V
 | .inl i=>.int i
 | .inr x=>.str x
inductive HO where
 /-- a list -/
 | lst (xs:List V)
 /-- a tuple (never changes) -/
 | tup (xs:List V)
 /-- a dict whose keys are ints and texts;one whose keys are tuples of ints and texts (the empty one is both) -/
 | dK (kvs:List (AS × V)) | dT (kvs:List (List AS × V))
 /-- a set of ints: its members,its size -/
 | set (S:Int->Bool) (n:Nat)
 /-- an instance of the class at C,its dict at dx,its attributes -/
 | ins (C dx:Addr) (fs:List (Str × V))
 /-- the dict of the instance at x -/
 | own (x:Addr)
 /-- the dict of an exception -/
 | xd (fs:List (Str × V))
 /-- a bound method,f of x -/
 | met (f x:Addr)
 /-- a range object lo,lo+1,.. below hi -/
 | rng (lo hi:Int)
 /-- a thing that is known to the object (the script;a dict while a loop walks it): read,never written while it is so -/
 | frz (o:Obj) (u:HO)
 /-- a code object's table -/
 | tbl (ps:Array Value)
 /-- any other thing,by what is true of its one object (a def of one's own: SetO a S n:=HO.ext λh=>..) -/
 | ext (φ :Heap->Prop)
abbrev Hp:=Addr->Option HO
def upd(H:Hp)(a:Addr)(o:HO):Hp:=λb=>if b=a then some o else H b
theorem AJ{H:Hp}{a:Addr}{o:HO}:upd H a o a=some o:=by unfold upd;rw[if_pos rfl]
theorem AM{H:Hp}{a b:Addr}{o:HO}(h:b≠a):upd H a o b=H b:=by unfold upd;rw[if_neg h]
theorem GS{H:Hp}{a:Addr}{o u:HO}:upd (upd H a o) a u=upd H a u:=by
 funext b;unfold upd;split<;>rfl
theorem CG{H:Hp}{a b:Addr}{o u:HO}(h:H a=some o)(h':H b=some u)(d:o≠u):a≠b:=by
 intro e;subst e;rw[h]at h';exact d (Option.some.inj h')
theorem BM{H:Hp}{a b:Addr}{o:HO}(h:H a=some o)(h':H b=none):a≠b:=by
 intro e;subst e;rw[h]at h';cases h'
section
variable(P:Program)(w:World)
def ObjOk(H:Hp)(h:Heap)(a:Addr):HO->Prop
 | .lst xs=>xs.length<=sizeLine/\∃ (its:List Value) (n:Nat),Vals xs its/\h.get? a=some { cls:=.type "list",data:=.seq its.toArray n }
 | .tup xs=>xs.length<=sizeLine/\∃ its:List Value,Vals xs its/\IsTup h a its.toArray
 | .dK kvs=>kvs.length<=sizeLine/\(a == sysModules)=false/\∃ vs,KV kvs vs/\h.DictOf (CY P w) a vs
 | .dT kvs=>kvs.length<=sizeLine/\(a == sysModules)=false/\∃ xs:List (List AS × Addr × Value),
   Paired (λ(p:List AS × V) (q:List AS × Addr × Value)=>p.1=q.1/\H q.2.1=some (.tup (p.1.map kV))/\RelV p.2 q.2.2) kvs xs ∧
   ∃ o es ep,h.get? a=some o/\o.ExactDict/\o.data=.dict es ep/\es.toList=xs.map (entryOfKey (tupleKind (CY P w)))/\(xs.map (·.1)).Nodup
 | .set S n=>h.SetOf (intKind P w) a S n
 | .ins C dx fs=>H dx=some (.own a)/\fs.length<=1000/\dx≠a/\h.get? a=some (W.instObj C dx) ∧
   ∃ mA,h.Ns1 dx mA/\(∀ f,RelO (fs.lookup f) (mA f))/\PySem.Within mA (fs.map (·.1))
 | .own _=>∃ o,h.get? a=some o
 | .xd fs=>∃ mA,h.Ns1 a mA/\∀ f,RelO (fs.lookup f) (mA f)
 | .rng lo hi=>∃ t u v,h.get? a=some { cls:=.type "range",data:=.fields #[.int lo t,.int hi u,.int 1 v] }
 | .frz o u=>h.get? a=some o/\ObjOk H h a u
 | .tbl ps=>h.get? a=some { cls:=.none,data:=.fields ps }
 | .met f x=>h.get? a=some (W.methodObj (.ref f) (.ref x))
 | .ext φ => φ h/\(∃ o,h.get? a=some o)/\∀ h1 h2:Heap,φ h1->(∀ o,h1.get? a=some o->h2.get? a=some o)-> φ h2
def HOk(H:Hp)(h:Heap):Prop:=∀ a o,H a=some o->ObjOk P w H h a o
end
section
variable{P:Program}{w:World}{H H':Hp}{h h':Heap}{a:Addr}{o:HO}
theorem ObjOk.lt(x:ObjOk P w H h a o):a<h.objs.size:=by
 cases o with
 | lst xs=>obtain⟨_,_,_,_,e⟩:=x;exact Heap.lt_size e
 | tup xs=>obtain⟨_,_,_,p⟩:=x;exact p.lt
 | dK kvs=>obtain⟨_,_,_,_,o,_,_,e,_⟩:=x;exact Heap.lt_size e
 | dT kvs=>obtain⟨_,_,_,_,o,_,_,e,_⟩:=x;exact Heap.lt_size e
 | set S n=>obtain⟨o,_,_,_,e,_⟩:=x;exact Heap.lt_size e
 | ins C dx fs=>obtain⟨_,_,_,e,_⟩:=x;exact Heap.lt_size e
 | own y=>obtain⟨_,e⟩:=x;exact Heap.lt_size e
 | xd fs=>obtain⟨_,⟨_,_,_,e,_⟩,_⟩:=x;exact Heap.lt_size e
 | rng lo hi=>obtain⟨_,_,_,e⟩:=x;exact Heap.lt_size e
 | frz ob u=>obtain⟨e,_⟩:=x;exact Heap.lt_size e
 | tbl ps=>exact Heap.lt_size (show h.get? a=some _ from x)
 | met f y=>exact Heap.lt_size (show h.get? a=some _ from x)
 | ext φ =>obtain⟨_,⟨_,e⟩,_⟩:=x;exact Heap.lt_size e
theorem Paired.mapP{α β :Type}{F G: α -> β ->Prop}:∀ {l₁:List α} {l₂:List β},Paired F l₁ l₂->(∀ a b,F a b->G a b)->Paired G l₁ l₂
 | _,_,.nil,_=>.nil
 | _,_,.cons r t,f=>.cons (f _ _ r) (Paired.mapP t f)
theorem ObjOk.stay(x:ObjOk P w H h a o)(k:∀ b u,(b=a\/H b=some (.own a))->h.get? b=some u->h'.get? b=some u)
  (ho:∀ b,H b=some (.own a)->H' b=some (.own a)) (ht:∀ b xs,H b=some (.tup xs)->H' b=some (.tup xs)):ObjOk P w H' h' a o:=by
 induction o with
 | lst xs=>obtain⟨z,its,n,r,e⟩:=x;exact⟨z,its,n,r,k _ _ (.inl rfl) e⟩
 | tup xs=>obtain⟨z,its,r,ob,e,c⟩:=x;exact⟨z,its,r,ob,k _ _ (.inl rfl) e,c⟩
 | dK kvs=>obtain⟨z,y,vs,r,ob,es,ep,e,c⟩:=x;exact⟨z,y,vs,r,ob,es,ep,k _ _ (.inl rfl) e,c⟩
 | dT kvs =>
  obtain⟨z,y,xs,r,ob,es,ep,e,c⟩:=x
  exact⟨z,y,xs,Paired.mapP r λp q z=>⟨z.1,ht _ _ z.2.1,z.2.2⟩,ob,es,ep,k _ _ (.inl rfl) e,c⟩
 | set S n=>obtain⟨ob,es,ep,t,e,c⟩:=x;exact⟨ob,es,ep,t,k _ _ (.inl rfl) e,c⟩
 | ins C dx fs =>
  obtain⟨d,z,ne,e,mA,⟨od,es,ep,e2,c⟩,r⟩:=x
  exact⟨ho _ d,z,ne,k _ _ (.inl rfl) e,mA,⟨od,es,ep,k _ _ (.inr d) e2,c⟩,r⟩
 | own y=>obtain⟨ob,e⟩:=x;exact⟨ob,k _ _ (.inl rfl) e⟩
 | xd fs=>obtain⟨mA,⟨od,es,ep,e,c⟩,r⟩:=x;exact⟨mA,⟨od,es,ep,k _ _ (.inl rfl) e,c⟩,r⟩
 | rng lo hi=>obtain⟨t,u,v,e⟩:=x;exact⟨t,u,v,k _ _ (.inl rfl) e⟩
 | frz ob u ih=>obtain⟨e,q⟩:=x;exact⟨k _ _ (.inl rfl) e,ih q⟩
 | tbl ps =>
  have e:h.get? a=some { cls:=.none,data:=.fields ps }:=x
  show h'.get? a=some { cls:=.none,data:=.fields ps }
  exact k a _ (.inl rfl) e
 | met f y =>
  have e:h.get? a=some (W.methodObj (.ref f) (.ref y)):=x
  show h'.get? a=some (W.methodObj (.ref f) (.ref y))
  exact k a _ (.inl rfl) e
 | ext φ =>obtain⟨p,⟨o,e⟩,st⟩:=x;exact⟨st _ _ p λo q=>k _ _ (.inl rfl) q,⟨o,k _ _ (.inl rfl) e⟩,st⟩
theorem HOk.lt(x:HOk P w H h)(e:H a=some o):a<h.objs.size:=(x a o e).lt
theorem HOk.fresh(x:HOk P w H h)(e:h.objs.size<=a):H a=none:=by
 cases q:H a with
 | none=>rfl
 | some u=>exact absurd (Nat.lt_of_lt_of_le (x.lt q) e) (Nat.lt_irrefl _)
theorem HOk.kept(x:HOk P w H h)(k:∀ b u,h.get? b=some u->h'.get? b=some u):HOk P w H h':=λa o e =>
 (x a o e).stay (λb u _ q=>k b u q) (λ_ q=>q) λ_ _ q=>q
theorem HOk.laid(x:HOk P w H h)(k:∀ b u,h.get? b=some u->h'.get? b=some u)(hp:h.objs.size<=a)(new:ObjOk P w (upd H a o) h' a o):HOk P w (upd H a o) h':=λb u e=>by
 have hn:=x.fresh hp
 by_cases hb:b=a
 ·subst hb;rw[AJ]at e;cases e;exact new
 ·rw[AM hb]at e
  exact(x b u e).stay (λc v _ q=>k c v q) (λc q=>by rw[AM (BM q hn)];exact q) λc xs q=>by rw[AM (BM q hn)];exact q
end
def Rd(H:Hp)(a:Addr)(u:HO):Prop:=H a=some u\/∃ o,H a=some (.frz o u)
theorem Rd.ok{P:Program}{w:World}{H:Hp}{h:Heap}{a:Addr}{u:HO}(r:Rd H a u)(x:HOk P w H h):ObjOk P w H h a u:=by
 rcases r with r | ⟨o,r⟩
 ·exact x a u r
 ·obtain⟨_,q⟩:=x a _ r
  exact q
def MF:Option HO->Prop
 | some (.lst _)=>True
 | some (.dK _)=>True
 | some (.dT _)=>True
 | some (.set _ _)=>True
 | some (.ins _ _ _)=>True
 | some (.ext _)=>True
 | _=>False
section
variable{P:Program}{w:World}{H:Hp}{h h':Heap}{x e:Addr}{o':HO}
theorem HOk.write(ok:HOk P w H h)(mu:MF (H x))(he:e=x\/H e=some (.own x))(k:∀ b u,b≠e->h.get? b=some u->h'.get? b=some u)(heo:∃ u,h'.get? e=some u)
  (new:ObjOk P w (upd H x o') h' x o'):HOk P w (upd H x o') h':=λb u q=>by
 have nown:∀ c y,H c=some (.own y)->c≠x:=λc y r z=>by subst z;rw[r]at mu;exact mu
 have ntup:∀ c xs,H c=some (.tup xs)->c≠x:=λc xs r z=>by subst z;rw[r]at mu;exact mu
 by_cases hb:b=x
 ·subst hb;rw[AJ]at q;cases q;exact new
 ·rw[AM hb]at q
  by_cases hbe:b=e
  ·have q':H b=some (.own x):=by
    rcases he with z | z
    ·exact absurd (hbe.trans z) hb
    ·rw[hbe];exact z
   rw[q]at q';cases q'
   obtain⟨v,hv⟩:=heo
   exact⟨v,by rw[hbe];exact hv⟩
  ·refine(ok b u q).stay (λc v hc r=>k c v ?_ r) (λc r=>by rw[AM (nown c b r)];exact r) λc xs r=>by rw[AM (ntup c xs r)];exact r
   rcases hc with rfl | hc
   ·exact hbe
   ·rintro rfl
    rcases he with z | z
    ·exact nown c b hc z
    ·rw[hc]at z;cases z;exact hb rfl
end
structure Un(fs ex:List Addr)(H H':Hp)(h h':Heap):Prop where
 keep:∀ b o,h.get? b=some o->H b=none->b∉fs->b∉ex->h'.get? b=some o
 slot:∀ b o,h.get? b=some o->H b=none->b∈fs->b∉ex->∃ sl,h'.get? b=some { o with slots:=sl }
 free:∀ b o,h.get? b=some o->H b=none->b∉ex->H' b=none
 there:∀ b o,h.get? b=some o->b∉ex->∃ o',h'.get? b=some o'
 tups:∀ b xs,H b=some (.tup xs)->H' b=some (.tup xs)
 frzs:∀ b o u,H b=some (.frz o u)->H' b=some (.frz o u)
 tbls:∀ b ps,H b=some (.tbl ps)->∃ more,H' b=some (.tbl (ps++more))
section
variable{fs fs' ex ex':List Addr}{H H1 H2:Hp}{h h1 h2 h':Heap}{a x e:Addr}{o:HO}
theorem Un.any(u:Un fs ex H H1 h h1){b:Addr}{ob:Obj}(q:h.get? b=some ob)(n:H b=none)(hx:b∉ex):∃ sl,h1.get? b=some { ob with slots:=sl }:=by
 by_cases hb:b∈fs
 ·exact u.slot b ob q n hb hx
 ·exact⟨ob.slots,u.keep b ob q n hb hx⟩
theorem Un.kept(k:∀ b u,h.get? b=some u->h'.get? b=some u):Un fs ex H H h h' :=
 ⟨λb ob q _ _ _=>k b ob q,λb ob q _ _ _=>⟨ob.slots,k b ob q⟩,λ_ _ _ n _=>n,λb ob q _=>⟨ob,k b ob q⟩,λ_ _ q=>q,λ_ _ _ q=>q,λ_ ps q=>⟨#[],by rw[q];simp⟩⟩
theorem Un.refl:Un fs ex H H h h:=Un.kept λ_ _ q=>q
theorem Un.laid(k:∀ b u,h.get? b=some u->h'.get? b=some u)(hp:h.objs.size<=a)(hn:H a=none):Un fs ex H (upd H a o) h h' where
 keep:=λb u q _ _ _=>k b u q
 slot:=λb u q _ _ _=>⟨u.slots,k b u q⟩
 free:=λb u q n _=>by rw[AM (Nat.ne_of_lt (Nat.lt_of_lt_of_le (Heap.lt_size q) hp))];exact n
 there:=λb u q _=>⟨u,k b u q⟩
 tups:=λb xs q=>by rw[AM (BM q hn)];exact q
 frzs:=λb u xs q=>by rw[AM (BM q hn)];exact q
 tbls:=λb ps q=>⟨#[],by rw[AM (BM q hn),q];simp⟩
theorem Un.write(mu:MF (H x))(he:e=x\/H e=some (.own x))(k:∀ b u,b≠e->h.get? b=some u->h'.get? b=some u)(heo:∃ u,h'.get? e=some u):Un fs ex H (upd H x o) h h':=by
 have hx:∀ b,H b=none->b≠x:=λb n z=>by subst z;rw[n]at mu;exact mu
 have hb:∀ b,H b=none->b≠e:=λb n z=>by
  subst z
  rcases he with r | r
  ·exact hx b n r
  ·rw[n]at r;cases r
 have hm:∀ b u,H b=some u->¬ MF (some u)->b≠x:=λb u q nm z=>by subst z;rw[q]at mu;exact nm mu
 refine⟨λb u q n _ _=>k b u (hb b n) q,λb u q n _ _=>⟨u.slots,k b u (hb b n) q⟩,λb u q n _=>by rw[AM (hx b n)];exact n,λb u q _=> ?_,
  λb xs q=>by rw[AM (hm b _ q λz=>z)];exact q,λb u xs q=>by rw[AM (hm b _ q λz=>z)];exact q,λb ps q=>⟨#[],by rw[AM (hm b _ q λz=>z),q];simp⟩⟩
 by_cases hbe:b=e
 ·subst hbe;exact heo
 ·exact⟨u,k b u hbe q⟩
end
def OU(h:Heap)(H:Hp):List Addr:=(List.range h.objs.size).filter λa=>(H a).isSome
def GT(h:Heap)(H:Hp):Heap:=W.hideAll h (OU h H)
theorem l9(h:Heap)(H:Hp):(GT h H).objs.size=h.objs.size:=W.hideAll_size _ _
theorem mB{h:Heap}{H:Hp}{b:Addr}{o:Obj}(e:h.get? b=some o)(n:H b=none):(GT h H).get? b=some o :=
 W.hideAll_get _ e λhm=>by
  have q:(H b).isSome=true:=(List.mem_filter.mp hm).2
  rw[n]at q;simp at q
theorem mC{h:Heap}{H:Hp}{b:Addr}{o:Obj}(e:(GT h H).get? b=some o):h.get? b=some o/\H b=none:=by
 have e':h.get? b=some o:=W.of_hideAll (OU h H) e
 refine⟨e',?_⟩
 cases q:H b with
 | none=>rfl
 | some x =>
  have hm:b∈OU h H:=List.mem_filter.mpr ⟨List.mem_range.mpr (Heap.lt_size e'),by simp[q]⟩
  have z:(GT h H).get? b=none:=W.hideAll_none (OU h H) hm
  rw[z]at e;cases e
def mD(g h:Heap)(L:Addr):List (Addr × Obj):=(List.range h.objs.size).filterMap λa=>if a=L\/(g.get? a).isSome=true then none else(h.get? a).map λo=>(a,o)
def rest(g h:Heap)(L d:Addr):List (Addr × Obj):=(mD g h L).filter λp=>decide (p.1≠d)
end L2
namespace L2
structure Mod(K:W.Frag)(mg:Str->Option Value)(base:Heap):Prop where
 kin:K.In base
 glob:base.Ns mainGlobals mg
 blt:∃ mb,base.Ns builtinsNs mb/\∀ x:Str,x≠"__name__"->mb x=bootBuiltins x
 nolimit:base.NoLimit
structure Cx where
 prog:Program
 w:World
 K:W.Frag
 mg:Str->Option Value
 base:Heap
 A:Around
 N:List Str
 s₀:Shared
 H₀:Hp
 env:Env
 outer:List Env
 stack:List Env
 ex:List Addr
 fn:Str->Bool
 calm:Bool
 pn:List (Addr × Obj)
 xe:Value->Shared->Prop
def DB(l:List Env):List Addr:=l.filterMap (·.frame)
abbrev Cx.fs(X:Cx):List Addr:=DB X.outer
def RL(sc:Scope)(x:Str):Prop:=sc.names.lookup x=some .local\/sc.names.lookup x=some .cell\/sc.names.lookup x=some .free
def JZ(sc:Scope)(x:Str):Prop:=sc.names.lookup x=some .local\/sc.names.lookup x=some .cell
def mE(env:Env)(h:Heap)(m:Str->Option Value)(x:Str)(u:Value):Prop :=
 (env.kindOf x=some .local/\m x=some u)\/((env.kindOf x=some .cell\/env.kindOf x=some .free)/\∃ c,env.cells.lookup x=some c/\h.IsCell c (some u))
structure Cx.Ok(X:Cx):Prop where
 mod:Mod X.K X.mg X.base
 kind:X.env.scope.kind=.function
 glob:X.env.globals=mainGlobals
 blt:X.env.builtins=builtinsNs
 above:X.s₀.heap.objs.size<=X.env.locals
 inj:∀ x y c,X.env.cells.lookup x=some c->X.env.cells.lookup y=some c->x=y
 has:∀ x,(X.env.kindOf x=some .cell\/X.env.kindOf x=some .free)->∃ c,X.env.cells.lookup x=some c
 cab:∀ x c,X.fn x=true->X.env.cells.lookup x=some c->X.s₀.heap.objs.size<=c
 hd:X.calm=true->X.A.handled=none
 frames:X.A.frames=some X.stack
 stk:X.stack=X.outer\/(X.stack=X.env::X.outer/\X.env.frame=some X.env.locals)
 exf:∀ b∈X.ex,b≠X.env.locals/\∀ x c,X.env.cells.lookup x=some c->c≠b
 bs:∀ b o,X.base.get? b=some o->X.s₀.heap.get? b=some o/\X.H₀ b=none
 bsz:X.base.objs.size<=X.s₀.heap.objs.size
 noex:∀ b o,X.base.get? b=some o->b∉X.ex
 exfs:∀ b∈X.ex,b∉X.fs
 funs:X.s₀.heap.FunFrames X.base X.outer
 frf:∀ b∈X.fs,X.H₀ b=none
structure Inv(X:Cx)(pins:List (Addr × Obj))(σ:List (Option V))(H:Hp)(s:Shared):Prop where
 ok:X.Ok
 os:s.os=X.s₀.os
 bare:AllBare s.gens
 base:Un X.fs X.ex X.H₀ H X.s₀.heap s.heap
 loc:∃ m,s.heap.Ns X.env.locals m/\∀ (i:Nat) (x:Str) (v:V),X.N[i]? =some x->σ[i]? =some (some v)->RL X.env.scope x->∃ u,RelV v u/\mE X.env s.heap m x u
 cell:∀ x c,X.env.cells.lookup x=some c->∃ v,s.heap.IsCell c v
 free:H X.env.locals=none
 freeC:∀ x c,X.env.cells.lookup x=some c->H c=none
 pin:∀ p∈X.pn++pins,s.heap.get? p.1=some p.2/\H p.1=none/\p.1≠X.env.locals/\p.1∉X.fs/\∀ v,p.2.data≠.cell v
 hok:HOk X.prog X.w H s.heap
 len:σ.length=X.N.length
section
variable{X:Cx}{pins:List (Addr × Obj)}{σ:List (Option V)}{H H':Hp}{s:Shared}{h':Heap}
theorem Cx.Ok.nofr(ok:X.Ok){b:Addr}{o:Obj}(e:X.base.get? b=some o):b∉X.fs:=λhb=>by
 have:=(ok.funs.mem hb).1
 rw[e]at this;cases this
theorem Inv.bs(I:Inv X pins σ H s):∀ b o,X.base.get? b=some o->s.heap.get? b=some o/\H b=none:=λb o e =>
 ⟨I.base.keep b o (I.ok.bs b o e).1 (I.ok.bs b o e).2 (I.ok.nofr e) (I.ok.noex b o e),I.base.free b o (I.ok.bs b o e).1 (I.ok.bs b o e).2 (I.ok.noex b o e)⟩
theorem Inv.bk(I:Inv X pins σ H s):∀ b o,X.base.get? b=some o->s.heap.get? b=some o:=λb o e=>(I.bs b o e).1
theorem Inv.mod(I:Inv X pins σ H s):Mod X.K X.mg X.base:=I.ok.mod
theorem Inv.kIn(I:Inv X pins σ H s):X.K.In s.heap:=I.ok.mod.kin.keeps I.bk
theorem Inv.lt(I:Inv X pins σ H s):X.env.locals<s.heap.objs.size:=let ⟨_,hn,_⟩:=I.loc;hn.lt
theorem Inv.sz(I:Inv X pins σ H s):X.s₀.heap.objs.size<=s.heap.objs.size:=Nat.le_trans I.ok.above (Nat.le_of_lt I.lt)
theorem Inv.nofs(I:Inv X pins σ H s){a:Addr}(h:s.heap.objs.size<=a):a∉X.fs:=λhb=>by
 obtain⟨_,o,ho,_⟩:=I.ok.funs.mem hb
 exact absurd (Nat.lt_of_lt_of_le (Heap.lt_size ho) (Nat.le_trans I.sz h)) (Nat.lt_irrefl _)
theorem Inv.cne(I:Inv X pins σ H s):∀ x c,X.env.cells.lookup x=some c->c≠X.env.locals:=λx c e z=>by
 obtain⟨v,o,ho,hd⟩:=I.cell x c e
 obtain⟨m,⟨o',es,ep,ho',hd',_⟩,_⟩:=I.loc
 rw[z,ho']at ho;cases ho;rw[hd']at hd;cases hd
theorem Inv.funs(I:Inv X pins σ H s):s.heap.FunFrames X.base X.outer:=by
 have all:∀ (l:List Env),(∀ b∈DB l,b∈X.fs)->X.s₀.heap.FunFrames X.base l->s.heap.FunFrames X.base l:=by
  intro l
  induction l with
  | nil=>intro _ _;trivial
  | cons env r ih =>
   intro hs hl
   obtain⟨hk,⟨L,o,hf,hn,ho,hd⟩,hr⟩:=hl
   have hL:L∈X.fs:=hs L (by unfold DB;rw[List.filterMap_cons,hf];exact List.mem_cons_self)
   obtain⟨sl,e⟩:=I.base.slot L o ho (I.ok.frf L hL) hL λz=>I.ok.exfs L z hL
   exact⟨hk,⟨L,_,hf,hn,e,hd⟩,ih (λb hb=>hs b (by unfold DB;rw[List.filterMap_cons,hf];exact List.mem_cons_of_mem _ hb)) hr⟩
 exact all X.outer (λ_ hb=>hb) I.ok.funs
theorem Inv.stack(I:Inv X pins σ H s):s.heap.FunFrames X.base X.stack:=by
 rcases I.ok.stk with e | ⟨e,hf⟩
 ·rw[e];exact I.funs
 ·rw[e]
  obtain⟨m,hn,_⟩:=I.loc
  refine .cons (by rw[I.ok.kind];decide) hf hn ?_ I.funs
  exact Heap.get?_none_of_le (Nat.le_trans I.ok.bsz I.ok.above)
theorem Inv.stkSub(I:Inv X pins σ H s):∀ b∈DB X.stack,b∈X.env.locals::X.fs:=λb hb=>by
 rcases I.ok.stk with e | ⟨e,hf⟩
 ·rw[e]at hb;exact List.mem_cons_of_mem _ hb
 ·rw[e]at hb
  unfold DB at hb
  rw[List.filterMap_cons,hf]at hb
  exact hb
theorem Inv.stkFree(I:Inv X pins σ H s):∀ b∈DB X.stack,H b=none:=λb hb=>by
 rcases List.mem_cons.mp (I.stkSub b hb)with e | hb
 ·rw[e];exact I.free
 ·obtain⟨_,o,ho,_⟩:=I.ok.funs.mem hb
  exact I.base.free b o ho (I.ok.frf b hb) λz=>I.ok.exfs b z hb
theorem Inv.step{g':Array GenState}{t':Nat}{d':Drawn}{ch:List Addr}(I:Inv X pins σ H s)
  (hch:∀ b∈ch,(b∈X.ex\/X.s₀.heap.objs.size<=b)/\b≠X.env.locals/\(∀ x c,X.env.cells.lookup x=some c->c≠b)/\∀ p∈X.pn++pins,p.1≠b)
  (keep:∀ b o,b≠X.env.locals->b∉X.fs->b∉ch->s.heap.get? b=some o->H b=none->h'.get? b=some o)
  (slot:∀ b o,b≠X.env.locals->b∈X.fs->b∉ch->s.heap.get? b=some o->H b=none->∃ sl,h'.get? b=some { o with slots:=sl }) (free:∀ b o,b∉ch->s.heap.get? b=some o->H b=none->H' b=none)
  (there:∀ b o,b∉ch->s.heap.get? b=some o->∃ o',h'.get? b=some o')
  (tups:∀ b xs,H b=some (.tup xs)->H' b=some (.tup xs)) (frzs:∀ b o u,H b=some (.frz o u)->H' b=some (.frz o u)) (tbls:∀ b ps,H b=some (.tbl ps)->∃ more,H' b=some (.tbl (ps++more)))
  (ns:∀ m,s.heap.Ns X.env.locals m->h'.Ns X.env.locals m) (hok:HOk X.prog X.w H' h') (hg:AllBare g') :
  Inv X pins σ H' { s with heap:=h',gens:=g',drawn:=d',toks:=t' }:=by
 have neL:∀ b o,X.s₀.heap.get? b=some o->b≠X.env.locals:=λb o e=>Nat.ne_of_lt (Nat.lt_of_lt_of_le (Heap.lt_size e) I.ok.above)
 have neC:∀ b o,X.s₀.heap.get? b=some o->b∉X.ex->b∉ch:=λb o e hx hb=>by
  rcases(hch b hb).1 with z | z
  ·exact hx z
  ·exact absurd (Nat.lt_of_lt_of_le (Heap.lt_size e) z) (Nat.lt_irrefl _)
 have cellK:∀ x c,X.env.cells.lookup x=some c->∀ v,s.heap.IsCell c v->h'.IsCell c v:=λx c e v ⟨o,ho,hd⟩=>by
  have nch:c∉ch:=λz=>(hch c z).2.2.1 x c e rfl
  by_cases hc:c∈X.fs
  ·obtain⟨sl,q⟩:=slot c o (I.cne x c e) hc nch ho (I.freeC x c e)
   exact⟨_,q,hd⟩
  ·exact⟨o,keep c o (I.cne x c e) hc nch ho (I.freeC x c e),hd⟩
 refine⟨I.ok,I.os,hg,⟨λb o e n hb hx=> ?_,λb o e n hb hx=> ?_,λb o e n hx=> ?_,λb o e hx=> ?_,λb xs e=>tups b xs (I.base.tups b xs e),λb o xs e=>frzs b o xs (I.base.frzs b o xs e),λb ps e=> ?_⟩,?_,λx c e=> ?_,?_,λx c e=> ?_,λp hp=> ?_,hok,I.len⟩
 ·exact keep b o (neL b o e) hb (neC b o e hx) (I.base.keep b o e n hb hx) (I.base.free b o e n hx)
 ·obtain⟨sl,e1⟩:=I.base.slot b o e n hb hx
  obtain⟨sl',e2⟩:=slot b _ (neL b o e) hb (neC b o e hx) e1 (I.base.free b o e n hx)
  exact⟨sl',e2⟩
 ·obtain⟨o',e1⟩:=I.base.there b o e hx
  exact free b o' (neC b o e hx) e1 (I.base.free b o e n hx)
 ·obtain⟨o',e1⟩:=I.base.there b o e hx
  exact there b o' (neC b o e hx) e1
 ·obtain⟨m1,e1⟩:=I.base.tbls b ps e
  obtain⟨m2,e2⟩:=tbls b _ e1
  exact⟨m1++m2,by rw[e2,Array.append_assoc]⟩
 ·obtain⟨m,hn,hl⟩:=I.loc
  refine⟨m,ns m hn,λi x v e1 e2 e3=> ?_⟩
  obtain⟨u,r,l⟩:=hl i x v e1 e2 e3
  refine⟨u,r,?_⟩
  rcases l with l | ⟨k,c,e,z⟩
  ·exact .inl l
  ·exact .inr ⟨k,c,e,cellK x c e _ z⟩
 ·obtain⟨v,z⟩:=I.cell x c e
  exact⟨v,cellK x c e v z⟩
 ·obtain⟨m,⟨o,_,_,ho,_⟩,_⟩:=I.loc
  exact free _ o (λz=>(hch _ z).2.1 rfl) ho I.free
 ·obtain⟨v,o,ho,hd⟩:=I.cell x c e
  exact free c o (λz=>(hch c z).2.2.1 x c e rfl) ho (I.freeC x c e)
 ·obtain⟨e,n,ne,nf,d⟩:=I.pin p hp
  have nch:p.1∉ch:=λz=>(hch p.1 z).2.2.2 p hp rfl
  exact⟨keep p.1 p.2 ne nf nch e n,free p.1 p.2 nch e n,ne,nf,d⟩
theorem Inv.un{t':Nat}(I:Inv X pins σ H s)(u:Un X.fs [] H H' s.heap h')(hok:HOk X.prog X.w H' h'):Inv X pins σ H' { s with heap:=h',toks:=t' }:=by
 obtain⟨m,⟨o,es,ep,ho,r⟩,_⟩:=id I.loc
 obtain⟨sl,hL⟩:=u.any ho I.free (by simp)
 exact I.step (g':=s.gens) (d':=s.drawn) (ch:=[]) (λ_ z=>nomatch z) (λb o _ hb _ e n=>u.keep b o e n hb (by simp)) (λb o _ hb _ e n=>u.slot b o e n hb (by simp)) (λb o _ e n=>u.free b o e n (by simp)) (λb o _ e=>u.there b o e (by simp)) u.tups u.frzs u.tbls (λm' hm=>by
  obtain⟨o',es',ep',ho',r'⟩:=hm
  rw[ho]at ho';cases ho'
  exact⟨_,es',ep',hL,r'⟩) hok I.bare
theorem Inv.call{g':Array GenState}{t':Nat}{d':Drawn}{ch:List Addr}(I:Inv X pins σ H s)(u:Un (DB X.stack) ch H H' s.heap h')(hok:HOk X.prog X.w H' h')(hg:AllBare g')
  (hch:∀ b∈ch,(b∈X.ex\/X.s₀.heap.objs.size<=b)/\b≠X.env.locals/\(∀ x c,X.env.cells.lookup x=some c->c≠b)/\∀ p∈X.pn++pins,p.1≠b) :
  Inv X pins σ H' { s with heap:=h',gens:=g',drawn:=d',toks:=t' }:=by
 obtain⟨m,⟨o,es,ep,ho,r⟩,_⟩:=id I.loc
 obtain⟨sl,hL⟩:=u.any ho I.free λz=>(hch _ z).2.1 rfl
 exact I.step (ch:=ch) hch (λb o hL hb hc e n=>u.keep b o e n (λz=>(List.mem_cons.mp (I.stkSub b z)).elim hL hb) hc) (λb o _ _ hc e n=>u.any e n hc) (λb o hc e n=>u.free b o e n hc) (λb o hc e=>u.there b o e hc) u.tups u.frzs u.tbls (λm' hm=>by
  obtain⟨o',es',ep',ho',r'⟩:=hm
  rw[ho]at ho';cases ho'
  exact⟨_,es',ep',hL,r'⟩) hok hg
theorem Inv.turned{t':Nat}{it:Addr}(I:Inv X pins σ H s)(k:∀ b o,b≠it->s.heap.get? b=some o->h'.get? b=some o)(hn:H it=none)(hL:it≠X.env.locals)
  (h1:it∈X.ex\/X.s₀.heap.objs.size<=it) (h2:∀ x c,X.env.cells.lookup x=some c->c≠it) (h3:∀ p∈X.pn++pins,p.1≠it):Inv X pins σ H { s with heap:=h',toks:=t' }:=by
 have nit:∀ b u,H b=some u->b≠it:=λb u e z=>by rw[z,hn]at e;cases e
 refine I.step (g':=s.gens) (d':=s.drawn) (ch:=[it]) (λb hb=> ?_) (λb o _ _ hc e _=>k b o (λz=>hc (by simp[z])) e) (λb o _ _ hc e _=>⟨o.slots,k b o (λz=>hc (by simp[z])) e⟩) (λ_ _ _ _ n=>n)
  (λb o hc e=>⟨o,k b o (λz=>hc (by simp[z])) e⟩) (λ_ _ e=>e) (λ_ _ _ e=>e) (λb ps e=>⟨#[],by rw[e];simp⟩) (λm hm=> ?_) (λb u e=> ?_) I.bare
 ·have e:b=it:=by simpa using hb
  subst e
  exact⟨h1,hL,h2,h3⟩
 ·obtain⟨o,es,ep,ho,r⟩:=hm
  exact⟨o,es,ep,k _ o (Ne.symm hL) ho,r⟩
 ·refine(I.hok b u e).stay (λc v hc q=>k c v ?_ q) (λ_ q=>q) λ_ _ q=>q
  rcases hc with z | z
  ·rw[z];exact nit b u e
  ·exact nit c _ z
theorem Inv.tok(I:Inv X pins σ H s)(t:Nat):Inv X pins σ H { s with toks:=t }:=I.un (h':=s.heap) (t':=t) Un.refl I.hok
theorem Inv.kept{t':Nat}(I:Inv X pins σ H s)(k:∀ b u,s.heap.get? b=some u->h'.get? b=some u):Inv X pins σ H { s with heap:=h',toks:=t' }:=I.un (Un.kept k) (I.hok.kept k)
theorem Inv.laid{a:Addr}{o:HO}{t':Nat}(I:Inv X pins σ H s)(k:∀ b u,s.heap.get? b=some u->h'.get? b=some u)(hp:s.heap.objs.size<=a)(new:ObjOk X.prog X.w (upd H a o) h' a o) :
  Inv X pins σ (upd H a o) { s with heap:=h',toks:=t' }:=I.un (Un.laid k hp (I.hok.fresh hp)) (I.hok.laid k hp new)
theorem Inv.write{x e:Addr}{o:HO}{t':Nat}(I:Inv X pins σ H s)(mu:MF (H x))(he:e=x\/H e=some (.own x))(k:∀ b u,b≠e->s.heap.get? b=some u->h'.get? b=some u)(heo:∃ u,h'.get? e=some u)
  (new:ObjOk X.prog X.w (upd H x o) h' x o):Inv X pins σ (upd H x o) { s with heap:=h',toks:=t' }:=I.un (Un.write mu he k heo) (I.hok.write mu he k heo new)
theorem Inv.pins_of{pins':List (Addr × Obj)}(I:Inv X pins σ H s)(h:∀ p∈pins',s.heap.get? p.1=some p.2/\H p.1=none/\p.1≠X.env.locals/\p.1∉X.fs/\∀ v,p.2.data≠.cell v):Inv X pins' σ H s :=
 ⟨I.ok,I.os,I.bare,I.base,I.loc,I.cell,I.free,I.freeC,λp hp=>(List.mem_append.mp hp).elim (λz=>I.pin p (List.mem_append_left _ z)) (h p),I.hok,I.len⟩
theorem XA{N:List Str}(hN:N.Nodup){i j:Nat}{x:Str}(a:N[i]? =some x)(b:N[j]? =some x):i=j:=by
 obtain⟨h1,e1⟩:=List.getElem?_eq_some_iff.mp a
 obtain⟨h2,e2⟩:=List.getElem?_eq_some_iff.mp b
 exact(List.getElem_inj hN).mp (e1.trans e2.symm)
theorem XB{M:Model}{A:Around}{E:Value->Shared->Prop}{i:Nat}{x:Str}{v:V}{u:Value}{Q:Unit->Shared->Prop}(I:Inv X pins σ H s)(hN:X.N.Nodup)(hi:X.N[i]? =some x)(hx:JZ X.env.scope x)(r:RelV v u)
  (h:∀ s',Inv X pins (σ.set i (some v)) H s'->(∃ a,Heap.SameBut a s.heap s'.heap/\(a=X.env.locals\/X.env.cells.lookup x=some a))->Q () s') (hf:X.fn x=true\/X.env.scope.names.lookup x=some .local:=by first | exact .inl rfl | exact .inr rfl | assumption):wpAny M A (storeName X.env x u) Q E s:=by
 obtain⟨m,hn,hl⟩:=id I.loc
 have hcls:(X.env.scope.kind == .class || (X.env.scope.kind == .module && X.env.locals != X.env.globals))=false:=by rw[I.ok.kind];rfl
 have hiσ:i<σ.length:=by rw[I.len];exact(List.getElem?_eq_some_iff.mp hi).1
 have cne:=I.cne
 have tracked:∀ {a:Addr} {h':Heap},(∃ o,s.heap.get? a=some o/\H a=none)->Heap.SameBut a s.heap h'->HOk X.prog X.w H h':=λ{a h'} ha hs b ob e=>by
  obtain⟨_,_,hfree⟩:=ha
  refine(I.hok b ob e).stay (λc w' hc q=>(hs.2 c ?_).trans q) (λ_ q=>q) λ_ _ q=>q
  rintro rfl
  rcases hc with rfl | hc
  ·rw[hfree]at e;cases e
  ·rw[hfree]at hc;cases hc
 rcases hx with hk | hk
 ·refine wpAny_storeName_local hk hn (λh' hn' hs=> ?_) hcls
  obtain⟨oL,_,_,hoL,_⟩:=id hn
  refine h _ ⟨I.ok,I.os,I.bare,⟨λb o e n hb hx=> ?_,λb o e n hb hx=> ?_,I.base.free,λb o e hx=> ?_,I.base.tups,I.base.frzs,I.base.tbls⟩,⟨_,hn',λj y v' e1 e2 e3=> ?_⟩,λy c e=> ?_,I.free,I.freeC,λp hp=> ?_,tracked ⟨oL,hoL,I.free⟩ hs,by simpa using I.len⟩ ⟨_,hs,.inl rfl⟩
  ·exact(hs.2 b (Nat.ne_of_lt (Nat.lt_of_lt_of_le (Heap.lt_size e) I.ok.above))).trans (I.base.keep b o e n hb hx)
  ·obtain⟨sl,e1⟩:=I.base.slot b o e n hb hx
   exact⟨sl,(hs.2 b (Nat.ne_of_lt (Nat.lt_of_lt_of_le (Heap.lt_size e) I.ok.above))).trans e1⟩
  ·obtain⟨o',e1⟩:=I.base.there b o e hx
   exact⟨o',(hs.2 b (Nat.ne_of_lt (Nat.lt_of_lt_of_le (Heap.lt_size e) I.ok.above))).trans e1⟩
  ·by_cases hj:j=i
   ·subst hj
    rw[hi]at e1;cases e1
    rw[List.getElem?_set_self hiσ]at e2
    cases e2
    exact⟨u,r,.inl ⟨hk,by simp⟩⟩
   ·rw[List.getElem?_set_ne (Ne.symm hj)]at e2
    obtain⟨u',r',q⟩:=hl j y v' e1 e2 e3
    refine⟨u',r',?_⟩
    rcases q with⟨k,e⟩ | ⟨k,c,e,z⟩
    ·refine .inl ⟨k,?_⟩
     have:y≠x:=λe=>hj (XA hN e1 (e ▸ hi))
     simp[this,e]
    ·exact .inr ⟨k,c,e,z.sameBut hs (cne y c e)⟩
  ·obtain⟨w',z⟩:=I.cell y c e
   exact⟨w',z.sameBut hs (cne y c e)⟩
  ·obtain⟨e,n,ne,nf,d⟩:=I.pin p hp
   exact⟨(hs.2 p.1 ne).trans e,n,ne,nf,d⟩
 ·have hfn:X.fn x=true:=by
   rcases hf with z | z
   ·exact z
   ·rw[z]at hk;cases hk
  obtain⟨c,hc⟩:=I.ok.has x (.inl hk)
  obtain⟨w',z⟩:=I.cell x c hc
  refine wpAny_storeName_cell I.ok.kind hk hc z (λh' hc' hs=> ?_)
  obtain⟨oc,hoc,hocd⟩:=id z
  refine h { s with heap:=h' } ⟨I.ok,I.os,I.bare,⟨λb o e n hb hx=> ?_,λb o e n hb hx=> ?_,I.base.free,λb o e hx=> ?_,I.base.tups,I.base.frzs,I.base.tbls⟩,⟨m,hn.sameBut hs (Ne.symm (cne x c hc)),λj y v' e1 e2 e3=> ?_⟩,λy c' e=> ?_,I.free,I.freeC,λp hp=> ?_,tracked ⟨oc,hoc,I.freeC x c hc⟩ hs,by simpa using I.len⟩ ⟨c,hs,.inr hc⟩
  ·exact(hs.2 b (Nat.ne_of_lt (Nat.lt_of_lt_of_le (Heap.lt_size e) (I.ok.cab x c hfn hc)))).trans (I.base.keep b o e n hb hx)
  ·obtain⟨sl,e1⟩:=I.base.slot b o e n hb hx
   exact⟨sl,(hs.2 b (Nat.ne_of_lt (Nat.lt_of_lt_of_le (Heap.lt_size e) (I.ok.cab x c hfn hc)))).trans e1⟩
  ·obtain⟨o',e1⟩:=I.base.there b o e hx
   exact⟨o',(hs.2 b (Nat.ne_of_lt (Nat.lt_of_lt_of_le (Heap.lt_size e) (I.ok.cab x c hfn hc)))).trans e1⟩
  ·by_cases hj:j=i
   ·subst hj
    rw[hi]at e1;cases e1
    rw[List.getElem?_set_self hiσ]at e2
    cases e2
    exact⟨u,r,.inr ⟨.inl hk,c,hc,hc'⟩⟩
   ·rw[List.getElem?_set_ne (Ne.symm hj)]at e2
    obtain⟨u',r',q⟩:=hl j y v' e1 e2 e3
    refine⟨u',r',?_⟩
    rcases q with q | ⟨k,c',e,z'⟩
    ·exact .inl q
    ·refine .inr ⟨k,c',e,z'.sameBut hs ?_⟩
     rintro rfl
     exact hj (XA hN e1 (I.ok.inj _ _ _ e hc ▸ hi))
  ·by_cases hcc:c'=c
   ·subst hcc;exact⟨_,hc'⟩
   ·obtain⟨w2,z2⟩:=I.cell y c' e
    exact⟨w2,z2.sameBut hs hcc⟩
  ·obtain⟨e,n,ne,nf,d⟩:=I.pin p hp
   refine⟨(hs.2 p.1 ?_).trans e,n,ne,nf,d⟩
   intro q
   rw[q,hoc]at e
   have q':oc=p.2:=Option.some.inj e
   exact d w' (by rw[<-q'];exact hocd)
theorem XC{M:Model}{A:Around}{E:Value->Shared->Prop}{i:Nat}{x:Str}{v:V}{u:Value}{Q:Unit->Shared->Prop}(I:Inv X pins σ H s)(hN:X.N.Nodup)(hi:X.N[i]? =some x)(hx:JZ X.env.scope x)(r:RelV v u)
  (h:∀ s',Inv X pins (σ.set i (some v)) H s'->Q () s') (hf:X.fn x=true\/X.env.scope.names.lookup x=some .local:=by first | exact .inl rfl | exact .inr rfl | assumption):wpAny M A (storeName X.env x u) Q E s :=
 XB I hN hi hx r (λs' I' _=>h s' I') hf
theorem Inv.call'{s':Shared}{ch:List Addr}(I:Inv X pins σ H s)(ho:s'.os=s.os)(u:Un (DB X.stack) ch H H' s.heap s'.heap)(hok:HOk X.prog X.w H' s'.heap)(hg:AllBare s'.gens)
  (hch:∀ b∈ch,(b∈X.ex\/X.s₀.heap.objs.size<=b)/\b≠X.env.locals/\(∀ x c,X.env.cells.lookup x=some c->c≠b)/\∀ p∈X.pn++pins,p.1≠b):Inv X pins σ H' s':=by
 obtain⟨h',g',d',t',o'⟩:=s'
 have e:o'=s.os:=ho
 subst e
 exact I.call (g':=g') (t':=t') (d':=d') u hok hg hch
end
abbrev XK:=Value->Option Addr->Hp->Prop
abbrev St:=List (Option V)
abbrev VK:=V->Hp->Prop
abbrev TE:=St->Hp->VK->Prop
abbrev TT:=St->Hp->(Bool->Hp->Prop)->Prop
abbrev TA:=St->Hp->(List V->Hp->Prop)->Prop
structure Ends where
 nx:St->Hp->Prop
 rt:VK
 bk:St->Hp->Prop:=λ_ _=>False
 ct:St->Hp->Prop:=λ_ _=>False
abbrev TS:=Ends->St->Hp->Prop
def EP(X:Cx)(pins:List (Addr × Obj))(σ:St)(Q:VK)(u:Value)(s':Shared):Prop:=∃ v H',Inv X pins σ H' s'/\RelV v u/\Q v H'
def TP(X:Cx)(pins:List (Addr × Obj))(σ:St)(Q:Bool->Hp->Prop)(b:Bool)(s':Shared):Prop:=∃ H',Inv X pins σ H' s'/\Q b H'
def AP(X:Cx)(pins:List (Addr × Obj))(σ:St)(Q:List V->Hp->Prop)(us:List Value)(s':Shared):Prop:=∃ vs H',Inv X pins σ H' s'/\Vals vs us/\Q vs H'
def SP(X:Cx)(pins:List (Addr × Obj))(D:Ends)(f:Flow)(s':Shared):Prop :=
 match f with
 | .next=>∃ σ' H',Inv X pins σ' H' s'/\D.nx σ' H'
 | .brk=>∃ σ' H',Inv X pins σ' H' s'/\D.bk σ' H'
 | .cont=>∃ σ' H',Inv X pins σ' H' s'/\D.ct σ' H'
 | .ret u=>∃ v σ' H',Inv X pins σ' H' s'/\RelV v u/\D.rt v H'
def PE(X:Cx)(e:Expr)(t:TE):Prop :=
 ∀ (pins:List (Addr × Obj)) (s:Shared) (σ:St) (H:Hp) (Q:VK),Inv X pins σ H s->t σ H Q->wpAny (model X.prog X.w) X.A (eval e X.env) (EP X pins σ Q) X.xe s
def PT(X:Cx)(e:Expr)(t:TT):Prop :=
 ∀ (pins:List (Addr × Obj)) (s:Shared) (σ:St) (H:Hp) (Q:Bool->Hp->Prop),Inv X pins σ H s->t σ H Q->wpAny (model X.prog X.w) X.A (isTrue e X.env (eval e X.env)) (TP X pins σ Q) X.xe s
def PW(X:Cx)(e:Expr)(t:TT):Prop :=
 ∀ (whole:Sem Value) (pins:List (Addr × Obj)) (s:Shared) (σ:St) (H:Hp) (Q:Bool->Hp->Prop),Inv X pins σ H s->t σ H Q->wpAny (model X.prog X.w) X.A (isTrue e X.env whole) (TP X pins σ Q) X.xe s
theorem PW.pt{X:Cx}{e:Expr}{t:TT}(h:PW X e t):PT X e t:=h _
def PA(X:Cx)(es:List Expr)(t:TA):Prop :=
 ∀ (pos:Pos) (pins:List (Addr × Obj)) (s:Shared) (σ:St) (H:Hp) (Q:List V->Hp->Prop),Inv X pins σ H s->t σ H Q->wpAny (model X.prog X.w) X.A (spliced (backTo pos (starEach es X.env))) (AP X pins σ Q) X.xe s
def PS(X:Cx)(st:Stmt)(t:TS):Prop :=
 ∀ (pins:List (Addr × Obj)) (s:Shared) (σ:St) (H:Hp) (D:Ends),Inv X pins σ H s->t D σ H->wpAny (model X.prog X.w) X.A (exec st X.env) (SP X pins D) X.xe s
def E9(X:Cx)(st:List Stmt)(t:TS):Prop :=
 ∀ (pins:List (Addr × Obj)) (s:Shared) (σ:St) (H:Hp) (D:Ends),Inv X pins σ H s->t D σ H->wpAny (model X.prog X.w) X.A (execs st X.env) (SP X pins D) X.xe s
theorem AT{α :Type}{t:Sem α}{Q Q': α ->Shared->Prop}{M:Model}{A:Around}{E:Value->Shared->Prop}{s:Shared}(h:wpAny M A t Q E s)(hQ:∀ a s,Q a s->Q' a s):wpAny M A t Q' E s:=wpAny_mono h hQ λ_ _ x=>x
end L2
namespace L2
section
variable{X:Cx}
def RM(i:Nat):TE:=λσ H Q=>∃ v,σ[i]? =some (some v)/\Q v H
def tC(v:V):TE:=λ_ H Q=>Q v H
theorem mF{i:Nat}{x:Str}{pos:Pos}(hN:X.N[i]? =some x)(hv:RL X.env.scope x)(hd:(x ==("__debug__":Str))=false:=by decide)(hcd:(x ==("__classdict__":Str))=false:=by decide):PE X (.Name x pos) (RM i):=by
 intro pins s σ H Q I h
 obtain⟨v,e,h⟩:=h
 obtain⟨m,hn,hl⟩:=I.loc
 obtain⟨u,r,l⟩:=hl i x v hN e hv
 have fin:EP X pins σ Q u s:=⟨v,H,I,r,h⟩
 rcases l with⟨hk,hm⟩ | ⟨hk,c,hc,hcell⟩
 ·exact wpAny_Name (wpAny_loadName_local I.ok.kind hk hn hm fin) hd
 ·rcases hk with hk | hk
  ·exact wpAny_Name (wpAny_loadName_cell I.ok.kind hk hc hcell fin) hd
  ·exact wpAny_Name (wpAny_loadName_free I.ok.kind hk hc hcell fin hcd) hd
theorem AN{i j pos}:PE X (.Constant (.int i) j pos) (tC (.int i)):=λ_ _ _ H _ I h=>wpAny_Constant_int ⟨.int i,H,I.tok _,⟨_,rfl⟩,h⟩
theorem J0{b j pos}:PE X (.Constant (.bool b) j pos) (tC (.bl b)):=λ_ _ _ H _ I h=>Constant_bool ⟨.bl b,H,I,rfl,h⟩
theorem DS{j pos}:PE X (.Constant .none j pos) (tC .non):=λ_ _ _ H _ I h=>Constant_none ⟨.non,H,I,rfl,h⟩
theorem BX{x j pos}:PE X (.Constant (.str x) j pos) (tC (.str x)):=λ_ _ _ H _ I h=>Calls.Constant_str ⟨.str x,H,I.tok _,⟨_,rfl⟩,h⟩
def Gl(X:Cx)(x:Str):Prop:=X.env.kindOf x=some .globalImplicit
theorem MG{E:Value->Shared->Prop}{pins:List (Addr × Obj)}{s:Shared}{σ:St}{H:Hp}{x:Str}{u:Value}{pos:Pos}{Q:Value->Shared->Prop}(I:Inv X pins σ H s)(hg:Gl X x)(hm:X.mg x=some u)(h:Q u s)
  (hd:(x ==("__debug__":Str))=false:=by decide):wpAny (model X.prog X.w) X.A (eval (.Name x pos) X.env) Q E s :=
 Calls.Name_function_global I.ok.kind hg (Calls.loadGlobal_global (by rw[I.ok.glob];exact I.mod.glob.keeps I.bk) hm h) hd
theorem MH{E:Value->Shared->Prop}{pins:List (Addr × Obj)}{s:Shared}{σ:St}{H:Hp}{x:Str}{u:Value}{pos:Pos}{Q:Value->Shared->Prop}(I:Inv X pins σ H s)(hg:Gl X x)(hm:X.mg x=none)(hv:bootBuiltins x=some u)(h:Q u s)
  (hn:x≠"__name__":=by decide) (hd:(x ==("__debug__":Str))=false:=by decide):wpAny (model X.prog X.w) X.A (eval (.Name x pos) X.env) Q E s:=by
 obtain⟨mb,h1,h2⟩:=I.mod.blt
 exact Calls.Name_function_global I.ok.kind hg (Calls.loadGlobal_builtin (by rw[I.ok.glob];exact I.mod.glob.keeps I.bk) hm (by rw[I.ok.blt];exact h1.keeps I.bk) ((h2 x hn).trans hv) h) hd
theorem mG{x:Str}{v:V}{u:Value}{pos:Pos}(hg:Gl X x)(hm:X.mg x=some u)(r:RelV v u)(hd:(x ==("__debug__":Str))=false:=by decide):PE X (.Name x pos) (tC v) :=
 λ_ _ _ H _ I h=>MG I hg hm ⟨v,H,I,r,h⟩ hd
theorem XD{x:Str}{v:V}{u:Value}{pos:Pos}(hg:Gl X x)(hm:X.mg x=none)(hv:bootBuiltins x=some u)(r:RelV v u)(hn:x≠"__name__":=by decide)(hd:(x ==("__debug__":Str))=false:=by decide):PE X (.Name x pos) (tC v) :=
 λ_ _ _ H _ I h=>MH I hg hm hv ⟨v,H,I,r,h⟩ hn hd
variable{a b:Expr}{ta tb:TE}{pos:Pos}
def PC(X:Cx)(op:CmpOp)(a b:Expr)(t:TE):Prop :=
 ∀ (pins:List (Addr × Obj)) (s:Shared) (σ:St) (H:Hp) (Q:VK),Inv X pins σ H s->t σ H Q →
  wpAny (model X.prog X.w) X.A (eval a X.env) (λv s₁=>wpAny (model X.prog X.w) X.A (eval b X.env) (λu s₂=>wpAny (model X.prog X.w) X.A (compareOp op v u) (EP X pins σ Q) X.xe s₂) X.xe s₁) X.xe s
theorem mH(b:Expr){op:CmpOp}(h:op≠.In)(h2:op≠.NotIn):behindInMarks op b=false:=by
 have e1:(op == CmpOp.In)=false:=by cases op<;>first | rfl | exact absurd rfl h
 have e2:(op == CmpOp.NotIn)=false:=by cases op<;>first | rfl | exact absurd rfl h2
 cases b<;>simp[behindInMarks,e1,e2]
def tB(t:TE):TT:=λσ H Q=>t σ H λx H1=>∃ c,x=.bl c/\Q c H1
theorem HZ{op:CmpOp}{t:TE}(h:PC X op a b t)(h1:behindInMarks op b=false:=by first | exact mH _ (by decide) (by decide) | rfl):PT X (.Compare a [op] [b] pos) (tB t):=by
 intro pins s σ H Q I hw
 refine wpAny_isTrue_Compare1 (AT (h pins s σ H _ I hw) λv s1 h1=>AT h1 λu s2 h2=>AT h2 λc s3 ⟨x,H1,I1,r1,q1⟩=> ?_) h1
 obtain⟨d,rfl,q⟩:=q1
 cases r1
 exact wpAny_truthy_bool ⟨H1,I1,q⟩
variable{tA tB':TT}{rest:List Expr}
def RN(t u:TT):TT:=λσ H Q=>t σ H λc H1=>if c=true then u σ H1 Q else Q false H1
def J3(t u:TT):TT:=λσ H Q=>t σ H λc H1=>if c=true then Q true H1 else u σ H1 Q
def EU(t:TT):TT:=λσ H Q=>t σ H λc H1=>Q (!c) H1
theorem mI(ha:PT X a tA):PW X (.BoolOp .And [a] pos) tA:=by
 intro wh pins s σ H Q I h
 refine isTrue_and (AT (ha pins s σ H Q I h) λc s1 e=> ?_)
 cases c with
 | true=>exact isTrue_and_nil e
 | false=>exact e
theorem OV(ha:PT X a tA):PW X (.BoolOp .Or [a] pos) tA:=by
 intro wh pins s σ H Q I h
 refine isTrue_or (AT (ha pins s σ H Q I h) λc s1 e=> ?_)
 cases c with
 | false=>exact isTrue_or_nil e
 | true=>exact e
theorem mJ(ha:PT X a tA)(hb:PW X (.BoolOp .And (b::rest) pos) tB'):PW X (.BoolOp .And (a::b::rest) pos) (RN tA tB'):=by
 intro wh pins s σ H Q I h
 refine isTrue_and (AT (ha pins s σ H _ I h) λc s1 ⟨H1,I1,q1⟩=> ?_)
 cases c with
 | true=>exact hb wh pins s1 σ H1 Q I1 q1
 | false=>exact⟨H1,I1,q1⟩
theorem OW(ha:PT X a tA)(hb:PW X (.BoolOp .Or (b::rest) pos) tB'):PW X (.BoolOp .Or (a::b::rest) pos) (J3 tA tB'):=by
 intro wh pins s σ H Q I h
 refine isTrue_or (AT (ha pins s σ H _ I h) λc s1 ⟨H1,I1,q1⟩=> ?_)
 cases c with
 | true=>exact⟨H1,I1,q1⟩
 | false=>exact hb wh pins s1 σ H1 Q I1 q1
theorem FR(ha:PT X a tA):PT X (.UnaryOp .Not a pos) (EU tA):=by
 intro pins s σ H Q I h
 exact isTrue_not (ha pins s σ H (λc H1=>Q (!c) H1) I h)
def MI(ta tb:TE):TE:=λσ H Q=>ta σ H λx H1=>∃ c,x=.bl c/\if c=true then tb σ H1 Q else Q (.bl false) H1
theorem RO{op}{t:TE}(h:PE X a t):PE X (.BoolOp op [a] pos) t:=λpins s σ H Q I hw=>BoolOp_one (h pins s σ H Q I hw)
theorem RP(ha:PE X a ta)(hb:PE X (.BoolOp .And (b::rest) pos) tb):PE X (.BoolOp .And (a::b::rest) pos) (MI ta tb):=by
 intro pins s σ H Q I h
 refine BoolOp_and (AT (ha pins s σ H _ I h) λv s1 ⟨x,H1,I1,r1,q1⟩=> ?_)
 obtain⟨c,rfl,q1⟩:=q1
 cases r1
 refine wpAny_truthy_bool ?_
 cases c with
 | true=>exact hb pins s1 σ H1 Q I1 q1
 | false=>exact⟨.bl false,H1,I1,rfl,q1⟩
end
end L2
namespace L2
def SqL(K:W.Frag)(H:Hp)(a:Addr)(xs:List V):Prop :=
 Rd H a (.lst xs) ∨
  ∃ (o:Obj) (its:Array Value) (n:Nat),K.lookup a=some o/\o.cls=.type "list"/\o.dict=none/\o.data=.seq its n/\its.size<=sizeLine/\Vals xs its.toList
def SqT(K:W.Frag)(H:Hp)(a:Addr)(xs:List V):Prop :=
 Rd H a (.tup xs) ∨
  ∃ (o:Obj) (its:Array Value) (n:Nat),K.lookup a=some o/\o.cls=.type "tuple"/\o.data=.seq its n/\its.size<=sizeLine/\Vals xs its.toList
def mK:Value->Option V
 | .none=>some .non
 | .bool b=>some (.bl b)
 | .int i _=>some (.int i)
 | .str x _=>some (.str x)
 | .bytes b _=>some (.byt b)
 | .float b _=>some (.flt b)
 | .ref a=>some (.ref a)
 | .type n=>some (.ty n)
 | _=>none
theorem RelV.abs{x:V}{u:Value}(r:RelV x u):mK u=some x:=by
 cases x with
 | non=>cases r;rfl
 | bl _=>cases r;rfl
 | int _=>obtain⟨t,rfl⟩:=r;rfl
 | str _=>obtain⟨t,rfl⟩:=r;rfl
 | byt _=>obtain⟨t,rfl⟩:=r;rfl
 | flt _=>obtain⟨t,rfl⟩:=r;rfl
 | ref _=>cases r;rfl
 | ty _=>cases r;rfl
theorem RelV.inj{x y:V}{u:Value}(r:RelV x u)(q:RelV y u):x=y:=Option.some.inj (r.abs.symm.trans q.abs)
theorem Vals.inj:∀ {xs ys:List V} {us:List Value},Vals xs us->Vals ys us->xs=ys
 | _,_,_,.nil,.nil=>rfl
 | _,_,_,.cons r t,.cons r' t'=>by rw[r.inj r',Vals.inj t t']
section
variable{X:Cx}{pins:List (Addr × Obj)}{σ:St}{H:Hp}{s:Shared}{a:Addr}{xs ys:List V}
theorem SqL.of{K:W.Frag}(h:H a=some (.lst xs)):SqL K H a xs:=.inl (.inl h)
theorem SqT.of{K:W.Frag}(h:H a=some (.tup xs)):SqT K H a xs:=.inl (.inl h)
theorem Inv.list(I:Inv X pins σ H s)(h:SqL X.K H a xs):∃ its:List Value,Vals xs its/\PlainL s.heap a its.toArray/\xs.length<=sizeLine:=by
 rcases h with h | ⟨o,its,n,hk,hc,hd,hs,hz,r⟩
 ·obtain⟨z,its,n,r,e⟩:=h.ok I.hok
  exact⟨its,r,⟨_,n,e,rfl,rfl,rfl⟩,z⟩
 ·refine⟨its.toList,r,⟨o,n,I.kIn a o hk,hc,hd,by simpa using hs⟩,?_⟩
  have e:=r.length
  simp only[Array.length_toList]at e
  omega
theorem Inv.tuple(I:Inv X pins σ H s)(h:SqT X.K H a xs):∃ its:List Value,Vals xs its/\IsTup s.heap a its.toArray/\xs.length<=sizeLine:=by
 rcases h with h | ⟨o,its,n,hk,hc,hs,hz,r⟩
 ·obtain⟨z,its,r,p⟩:=h.ok I.hok
  exact⟨its,r,p,z⟩
 ·refine⟨its.toList,r,⟨o,I.kIn a o hk,hc,n,by simpa using hs⟩,?_⟩
  have e:=r.length
  simp only[Array.length_toList]at e
  omega
theorem Inv.list_inj(I:Inv X pins σ H s)(h:SqL X.K H a xs)(h':SqL X.K H a ys):xs=ys:=by
 obtain⟨its,r,⟨o,n,e,_,_,d⟩,_⟩:=I.list h
 obtain⟨its',r',⟨o',n',e',_,_,d'⟩,_⟩:=I.list h'
 rw[e]at e';cases e'
 rw[d]at d'
 injection d' with d1 _
 have:its=its':=by simpa using congrArg Array.toList d1
 subst this
 exact r.inj r'
theorem Inv.tuple_inj(I:Inv X pins σ H s)(h:SqT X.K H a xs)(h':SqT X.K H a ys):xs=ys:=by
 obtain⟨its,r,⟨o,e,_,n,d⟩,_⟩:=I.tuple h
 obtain⟨its',r',⟨o',e',_,n',d'⟩,_⟩:=I.tuple h'
 rw[e]at e';cases e'
 rw[d]at d'
 injection d' with d1 _
 have:its=its':=by simpa using congrArg Array.toList d1
 subst this
 exact r.inj r'
end
section
variable{X:Cx}{pins:List (Addr × Obj)}{σ:St}{H:Hp}{s:Shared}{E:Value->Shared->Prop}
end
section
variable{X:Cx}{st:Stmt}{rest:List Stmt}{t u:TS}{e:Expr}{te:TE}{pos:Pos}
def BY:TS:=λD σ H=>D.nx σ H
def AL(t u:TS):TS:=λD σ H=>t { D with nx:=u D } σ H
theorem B1:E9 X [] BY:=λ_ _ σ H _ I h=>wpAny_execs_nil ⟨σ,H,I,h⟩
theorem AO(h1:PS X st t)(h2:E9 X rest u):E9 X (st::rest) (AL t u):=by
 intro pins s σ H D I h
 refine wpAny_execs_cons (AT (h1 pins s σ H { D with nx:=u D } I h) λf s1 q=> ?_)
 cases f with
 | next =>
  obtain⟨σ',H',I',q⟩:=q
  exact h2 pins s1 σ' H' D I' q
 | ret v=>exact q
 | brk=>exact q
 | cont=>exact q
theorem AQ(h1:PS X st t):E9 X [st] t:=by
 intro pins s σ H D I h
 refine wpAny_execs_cons (AT (h1 pins s σ H D I h) λf s1 q=> ?_)
 cases f with
 | next=>exact wpAny_execs_nil q
 | ret v=>exact q
 | brk=>exact q
 | cont=>exact q
theorem Inv.quiet{pins:List (Addr × Obj)}{σ:St}{H:Hp}{s:Shared}(I:Inv X pins σ H s):interactive X.env=false:=by simp[interactive,I.ok.kind]
def C5(te:TE):TS:=λD σ H=>te σ H λ_ H1=>D.nx σ H1
theorem DC(he:PE X e te)(hs:swapsWith e none pos.line X.env=pure false:=by rfl):PS X (.Expr e pos) (C5 te):=by
 intro pins s σ H D I h
 exact wpAny_Expr_any (AT (he pins s σ H _ I h) λv s1 ⟨x,H1,I1,r1,q1⟩=>⟨σ,H1,I1,q1⟩) I.quiet hs
def A0(te:TE):TS:=λD σ H=>te σ H D.rt
theorem A3(he:PE X e te):PS X (.Return (some e) pos) (A0 te):=by
 intro pins s σ H D I h
 exact wpAny_Return_some (AT (he pins s σ H _ I h) λv s1 ⟨x,H1,I1,r1,q1⟩=>⟨x,σ,H1,I1,r1,q1⟩)
def BP(c:TT)(t u:TS):TS:=λD σ H=>c σ H λb H1=>if b=true then t D σ H1 else u D σ H1
theorem BQ{c:Expr}{a b:List Stmt}{tc:TT}(hc:PT X c tc)(ha:E9 X a t)(hb:E9 X b u):PS X (.If c a b pos) (BP tc t u):=by
 intro pins s σ H D I h
 refine wpAny_If (AT (hc pins s σ H _ I h) λd s1 ⟨H1,I1,q1⟩=> ?_)
 cases d with
 | true=>exact ha pins s1 σ H1 D I1 q1
 | false=>exact hb pins s1 σ H1 D I1 q1
end
abbrev TG:=V->St->Hp->(St->Hp->Prop)->Prop
abbrev HF:=List V->St->Hp->(St->Hp->Prop)->Prop
def PG(X:Cx)(target:Expr)(t:TG):Prop :=
 ∀ (pins:List (Addr × Obj)) (s:Shared) (σ:St) (H:Hp) (v:V) (u:Value) (Q:St->Hp->Prop),Inv X pins σ H s->RelV v u->t v σ H Q →
  wpAny (model X.prog X.w) X.A (assign target X.env u) (λ_ s'=>∃ σ' H',Inv X pins σ' H' s'/\Q σ' H') X.xe s
def OX(X:Cx)(ts:List Expr)(t:HF):Prop :=
 ∀ (pins:List (Addr × Obj)) (s:Shared) (σ:St) (H:Hp) (vs:List V) (us:List Value) (Q:St->Hp->Prop),Inv X pins σ H s->Vals vs us->t vs σ H Q →
  wpAny (model X.prog X.w) X.A (assignInOrder ((assignEach ts X.env).map (·.2)) us) (λ_ s'=>∃ σ' H',Inv X pins σ' H' s'/\Q σ' H') X.xe s
abbrev OY:=V->V->V->Hp->(Hp->Prop)->Prop
def RQ(X:Cx)(t:OY):Prop :=
 ∀ (pins:List (Addr × Obj)) (s:Shared) (σ:St) (H:Hp) (o i v:V) (ov iv u:Value) (Q:Hp->Prop),Inv X pins σ H s->RelV o ov->RelV i iv->RelV v u->t o i v H Q →
  wpAny (model X.prog X.w) X.A (setItem ov iv u) (λ_ s'=>∃ H',Inv X pins σ H' s'/\Q H') X.xe s
abbrev XF:=V->V->Hp->VK->Prop
section
variable{X:Cx}{pos:Pos}
def AR(i:Nat):TG:=λv σ H Q=>Q (σ.set i (some v)) H
theorem DY{i:Nat}{x:Str}(hN:X.N.Nodup)(hi:X.N[i]? =some x)(hx:JZ X.env.scope x)(hf:X.fn x=true\/X.env.scope.names.lookup x=some .local:=by first | exact .inl rfl | exact .inr rfl | assumption):PG X (.Name x pos) (AR i):=by
 intro pins s σ H v u Q I r h
 exact wpAny_assign_Name (XC I hN hi hx r (λs' I'=>⟨_,H,I',h⟩) hf)
def OZ:HF:=λvs σ H Q=>vs=[]/\Q σ H
def J4(t:TG)(u:HF):HF:=λvs σ H Q=>∃ v r,vs=v::r/\t v σ H λσ' H'=>u r σ' H' Q
theorem XG:OX X [] OZ:=by
 intro pins s σ H vs us Q I r h
 obtain⟨e,h⟩:=h
 subst e
 cases r
 exact assignInOrder_nil ⟨σ,H,I,h⟩
theorem O0{e:Expr}{es:List Expr}{t:TG}{u:HF}(h1:PG X e t)(h2:OX X es u)
  (hs:(assignEach (e::es) X.env).map (·.2)=assign e X.env::(assignEach es X.env).map (·.2):=by rfl):OX X (e::es) (J4 t u):=by
 intro pins s σ H vs us Q I r h
 obtain⟨v,vr,e1,h⟩:=h
 subst e1
 cases r with
 | cons r rr =>
  rw[hs]
  refine assignInOrder_cons (AT (h1 pins s σ H _ _ _ I r h) λ_ s1 ⟨σ1,H1,I1,q1⟩=> ?_)
  exact h2 pins s1 σ1 H1 _ _ Q I1 rr q1
def O3(K:W.Frag)(n:Nat)(t:HF):TG:=λv σ H Q=>∃ a xs,v=.ref a/\SqT K H a xs/\xs.length=n/\t xs σ H Q
theorem XH{es:List Expr}{k:Nat}{t:HF}{n:Nat}(hc:X.calm=true)(h:OX X es t)
  (hn:(assignEach es X.env).length=n:=by rfl) (hst:(assignEach es X.env).findIdx? (·.1)=none:=by rfl):PG X (.Tuple es k pos) (O3 X.K n t):=by
 intro pins s σ H v u Q I r hw
 obtain⟨a,xs,e1,hq,hl,hw⟩:=hw
 subst e1
 cases r
 obtain⟨its,rv,ht,hz⟩:=I.tuple hq
 refine assign_Tuple_tuple (I.ok.hd hc) ht (by simp[hn,<-hl,rv.length]) hst λh' hx=> ?_
 have I1:Inv X pins σ H { s with heap:=h' }:=I.kept (t':=s.toks) λb o e=>hx b o (Nat.ne_of_lt (Heap.lt_size e)) e
 exact h pins _ σ H xs _ Q I1 (by simpa using rv) hw
def RR(to ti:TE)(t:OY):TG:=λv σ H Q=>to σ H λo H1=>ti σ H1 λi H2=>t o i v H2 λH3=>Q σ H3
theorem mM{o i:Expr}{to ti:TE}{t:OY}(ho:PE X o to)(hi:PE X i ti)(hs:RQ X t)
  (ha:∀ v,assign (.Subscript o i pos) X.env v=(do
   let ov ← holding [v] (eval o X.env)
   let iv ← holding [v,ov] (eval i X.env)
   standAt pos
   holding [v,ov,iv] (setItem ov iv v)
   release [v,ov,iv] []):=by intro _;rfl):PG X (.Subscript o i pos) (RR to ti t):=by
 intro pins s σ H v u Q I r h
 rw[ha]
 refine wpAny_bind (wpAny_holding (AT (ho pins s σ H _ I h) λov s1 ⟨x,H1,I1,r1,q1⟩=> ?_))
 refine wpAny_bind (wpAny_holding (AT (hi pins s1 σ H1 _ I1 q1) λiv s2 ⟨y,H2,I2,r2,q2⟩=> ?_))
 refine wpAny_bind (wpAny_standAt (wpAny_bind (wpAny_holding (AT (hs pins s2 σ H2 x y v ov iv u _ I2 r1 r2 r q2) λ_ s3 ⟨H3,I3,q3⟩=> ?_))))
 exact wpAny_release ⟨σ,H3,I3,q3⟩
def AZ(te:TE)(g:TG):TS:=λD σ H=>te σ H λx H1=>g x σ H1 D.nx
theorem mO{tg e:Expr}{te:TE}{g:TG}(he:PE X e te)(hg:PG X tg g)(hs:swapsWithSole [tg] e pos.line X.env=pure false:=by rfl)(hw:swappedStores [tg] e X.env=pure none:=by rfl)
  (h1:(assignEach [tg] X.env).map (·.2)=[assign tg X.env]:=by rfl):PS X (.Assign [tg] e pos) (AZ te g):=by
 intro pins s σ H D I h
 refine wpAny_Assign_stores (AT (he pins s σ H _ I h) λv s1 ⟨x,H1,I1,r1,q1⟩=> ?_) hs hw
 rw[h1]
 exact AT (hg pins s1 σ H1 x v _ I1 r1 q1) λ_ s2 q=>q
theorem MJ{i:Nat}{x:Str}{e:Expr}{te:TE}{pos':Pos}(hN:X.N.Nodup)(hi:X.N[i]? =some x)(hx:JZ X.env.scope x)(he:PE X e te)(hs:swapsWith e (some (.Name x pos')) pos.line X.env=pure false:=by rfl)(hf:X.fn x=true\/X.env.scope.names.lookup x=some .local:=by first | exact .inl rfl | exact .inr rfl | assumption) :
  PS X (.Assign [.Name x pos'] e pos) (AZ te (AR i)):=by
 intro pins s σ H D I h
 refine wpAny_Assign_Name (AT (he pins s σ H _ I h) λv s1 ⟨y,H1,I1,r1,q1⟩=> ?_) hs
 exact XC I1 hN hi hx r1 (λs2 I2=>⟨_,H1,I2,q1⟩) hf
def mP(f:Int->Int->Int):XF:=λx y H Q=>∃ i j,x=.int i/\y=.int j/\Q (.int (f i j)) H
end
section
variable{X:Cx}{pos:Pos}
end
structure It where
 go:Nat->Hp->Prop
 yld:Nat->Hp->V->Hp->Prop
 stop:Nat->Hp->Prop
def FpOk(X:Cx)(pins:List (Addr × Obj))(H:Hp)(b:Addr):Prop :=
 H b=none/\b≠X.env.locals/\b∉X.fs/\(b∈X.ex\/X.s₀.heap.objs.size<=b)/\(∀ x c,X.env.cells.lookup x=some c->c≠b)/\∀ p∈X.pn++pins,p.1≠b
theorem Inv.fpOk{X:Cx}{pins:List (Addr × Obj)}{σ:St}{H H':Hp}{s:Shared}{b:Addr}(I:Inv X pins σ H s)(hb:s.heap.objs.size<=b)(hn:H' b=none):FpOk X pins H' b:=by
 refine⟨hn,Nat.ne_of_gt (Nat.lt_of_lt_of_le I.lt hb),I.nofs hb,.inr (Nat.le_trans I.sz hb),λx c e z=> ?_,λp hp z=> ?_⟩
 ·obtain⟨v,q⟩:=I.cell x c e
  exact absurd (Nat.lt_of_lt_of_le q.lt (by rw[z];exact hb)) (Nat.lt_irrefl _)
 ·exact absurd (Nat.lt_of_lt_of_le (Heap.lt_size (I.pin p hp).1) (by rw[z];exact hb)) (Nat.lt_irrefl _)
structure HG(P:Program)(w:World)(K:W.Frag)(tg:Expr)(J:It)(fp:List Addr)(it:Addr)(tn:Nat->Heap->Prop):Prop where
 mem:it∈fp
 obj:∀ i h,tn i h->∀ b∈fp,∃ o,h.get? b=some o/\∀ v,o.data≠.cell v
 keep:∀ i h h',tn i h->(∀ b∈fp,∀ o,h.get? b=some o->h'.get? b=some o)->tn i h'
 item:∀ (X:Cx),X.prog=P->X.w=w->X.K=K->X.calm=true->∀ (i:Nat) (pins:List (Addr × Obj)) (s:Shared) (σ:St) (H:Hp) (E:Value->Shared->Prop),Inv X pins σ H s->(∀ b∈fp,FpOk X pins H b)->tn i s.heap->J.go i H →
  wpAny (model P w) X.A (pyNext (.ref it)) (λr s1=>∃ u,r=some u ∧
   wpAny (model P w) X.A (letOwnedTupleGo tg (.ref it) u) (λ_ s2=>∃ x H',Inv X pins σ H' s2/\RelV x u/\J.yld i H x H'/\tn (i+1) s2.heap/\∀ b∈fp,H' b=none) E s1) E s
 done:∀ (X:Cx),X.prog=P->X.w=w->X.K=K->X.calm=true->∀ (i:Nat) (pins:List (Addr × Obj)) (s:Shared) (σ:St) (H:Hp) (E:Value->Shared->Prop),Inv X pins σ H s->(∀ b∈fp,FpOk X pins H b)->tn i s.heap->J.stop i H →
  wpAny (model P w) X.A (pyNext (.ref it)) (λr s1=>r=none/\Inv X pins σ H s1) E s
 self:∀ (A:Around) (i:Nat) (s:Shared) (Q:Value->Shared->Prop) (E:Value->Shared->Prop),tn i s.heap->Q (.ref it) s->wpAny (model P w) A (pyIter (.ref it)) Q E s
abbrev TI:=St->Hp->(It->Hp->Prop)->Prop
def XI(X:Cx)(pins:List (Addr × Obj))(σ:St)(tg:Expr)(R:It->Hp->Prop)(itv:Value)(s2:Shared):Prop :=
 ∃ (it:Addr) (fp:List Addr) (tn:Nat->Heap->Prop) (J:It) (H':Hp),itv=.ref it/\Inv X pins σ H' s2/\HG X.prog X.w X.K tg J fp it tn/\tn 0 s2.heap/\(∀ b∈fp,FpOk X pins H' b)/\R J H'
def PI(X:Cx)(tg iter:Expr)(wi:TI):Prop :=
 ∀ (pins:List (Addr × Obj)) (s:Shared) (σ:St) (H:Hp) (R:It->Hp->Prop),Inv X pins σ H s->wi σ H R →
  wpAny (model X.prog X.w) X.A (eval iter X.env) (λv s1=>wpAny (model X.prog X.w) X.A (pyIter v) (XI X pins σ tg R) X.xe s1) X.xe s
theorem MK{M:Model}{A:Around}{E:Value->Shared->Prop}{s:Shared}{tg:Expr}{it:Addr}{u:Value}{o:Obj}{n:String}{vs:Array Value}{Q:Unit->Shared->Prop}(ho:s.heap.get? it=some o)(hc:o.cls=.type n)(hd:o.data=.fields vs)
    (hn:["enumerate","zip","dict_itemiterator","dict_reverseitemiterator","odict_iterator","itertools.zip_longest","itertools.pairwise"].contains n=false) (hQ:Q () s):wpAny M A (letOwnedTupleGo tg (.ref it) u) Q E s:=by
  unfold letOwnedTupleGo
  cases tg<;>first
    | exact wpAny_pure hQ
    | (cases u<;>first
        | exact wpAny_pure hQ
        | (refine wpAny_bind (wpAny_load ho ?_)
           rw[hc,hd]
           show wpAny M A (if(["enumerate","zip","dict_itemiterator","dict_reverseitemiterator","odict_iterator","itertools.zip_longest","itertools.pairwise"].contains n && vs[0]? == some (rawInt _))=true then _ else _) Q E s
           rw[if_neg (by intro h;rw[hn,Bool.false_and]at h;cases h)]
           exact wpAny_pure hQ))
def FS(K:W.Frag)(a:Addr):It :=
 ⟨λi H=>∃ xs x,SqL K H a xs/\xs[i]? =some x,λi H x H'=>H'=H/\∀ xs,SqL K H a xs->xs[i]? =some x,λi H=>∃ xs,SqL K H a xs/\xs.length<=i⟩
def ML(K:W.Frag)(a:Addr):It :=
 ⟨λi H=>∃ xs x,SqT K H a xs/\xs[i]? =some x,λi H x H'=>H'=H/\∀ xs,SqT K H a xs->xs[i]? =some x,λi H=>∃ xs,SqT K H a xs/\xs.length<=i⟩
def FT(lo:Int)(n:Nat):It:=⟨λi _=>i<n,λi H x H'=>H'=H/\x=.int (lo+i),λi _=>n<=i⟩
theorem mQ{P:Program}{w:World}{K:W.Frag}{tg:Expr}(a it:Addr):HG P w K tg (FS K a) [it] it (λi h=>h.IsListIter it a i) where
 mem:=by simp
 obj:=λi h st b hb=>by
  have e:b=it:=by simpa using hb
  subst e
  obtain⟨o,e,c,d⟩:=st
  exact⟨o,e,λv z=>by rw[d]at z;cases z⟩
 keep:=λi h h' st k=>st.at λo e=>k it (by simp) o e
 item:=by
  intro X hP hw hK hc i pins s σ H E I hf st hg
  subst hP hw hK
  obtain⟨xs,x,hq,hx⟩:=hg
  obtain⟨its,rv,p,hz⟩:=I.list hq
  obtain⟨u,hu,ru⟩:=rv.get hx
  obtain⟨f0,f1,f2,f3,f4,f5⟩:=hf it (by simp)
  refine wpAny_pyNext_list_item st p.isList (x:=u) (by simpa using hu) λh' st' sb=> ?_
  have I1:Inv X pins σ H { s with heap:=h' }:=I.turned (t':=s.toks) (λb o hb e=>(sb.2 b hb).trans e) f0 f1 f3 f4 f5
  obtain⟨o,e,c,d⟩:=id st'
  exact⟨u,rfl,MK (s:={ s with heap:=h' }) e c d (by decide) ⟨x,H,I1,ru,⟨rfl,λys hy=>by rw[I.list_inj hy hq];exact hx⟩,st',λb hb=>(hf b hb).1⟩⟩
 done:=by
  intro X hP hw hK hc i pins s σ H E I hf st hg
  subst hP hw hK
  obtain⟨xs,hq,hx⟩:=hg
  obtain⟨its,rv,p,hz⟩:=I.list hq
  obtain⟨f0,f1,f2,f3,f4,f5⟩:=hf it (by simp)
  have hl:=rv.length
  exact wpAny_pyNext_list_end (I.ok.hd hc) st p.isList (by simp;omega) λh' eb=>⟨rfl,I.turned (t':=s.toks) (λb o hb e=>eb b o hb e) f0 f1 f3 f4 f5⟩
 self:=λ_ _ _ _ _ st h=>wpAny_pyIter_listiter st h
theorem mR{P:Program}{w:World}{K:W.Frag}{tg:Expr}(a it:Addr):HG P w K tg (ML K a) [it] it (λi h=>h.IsTupleIter it a i) where
 mem:=by simp
 obj:=λi h st b hb=>by
  have e:b=it:=by simpa using hb
  subst e
  obtain⟨o,e,c,d⟩:=st
  exact⟨o,e,λv z=>by rw[d]at z;cases z⟩
 keep:=λi h h' st k=>st.at λo e=>k it (by simp) o e
 item:=by
  intro X hP hw hK hc i pins s σ H E I hf st hg
  subst hP hw hK
  obtain⟨xs,x,hq,hx⟩:=hg
  obtain⟨its,rv,p,hz⟩:=I.tuple hq
  obtain⟨u,hu,ru⟩:=rv.get hx
  obtain⟨f0,f1,f2,f3,f4,f5⟩:=hf it (by simp)
  refine wpAny_pyNext_tuple_item st (show s.heap.IsTuple a its.toArray from p) (x:=u) (by simpa using hu) λh' st' sb=> ?_
  have I1:Inv X pins σ H { s with heap:=h' }:=I.turned (t':=s.toks) (λb o hb e=>(sb.2 b hb).trans e) f0 f1 f3 f4 f5
  obtain⟨o,e,c,d⟩:=id st'
  exact⟨u,rfl,MK (s:={ s with heap:=h' }) e c d (by decide) ⟨x,H,I1,ru,⟨rfl,λys hy=>by rw[I.tuple_inj hy hq];exact hx⟩,st',λb hb=>(hf b hb).1⟩⟩
 done:=by
  intro X hP hw hK hc i pins s σ H E I hf st hg
  subst hP hw hK
  obtain⟨xs,hq,hx⟩:=hg
  obtain⟨its,rv,p,hz⟩:=I.tuple hq
  obtain⟨f0,f1,f2,f3,f4,f5⟩:=hf it (by simp)
  have hl:=rv.length
  exact wpAny_pyNext_tuple_end (I.ok.hd hc) st (show s.heap.IsTuple a its.toArray from p) (by simp;omega) λh' eb=>⟨rfl,I.turned (t':=s.toks) (λb o hb e=>eb b o hb e) f0 f1 f3 f4 f5⟩
 self:=λ_ _ _ _ _ st h=>wpAny_pyIter_tupleiter st h
theorem mS{P:Program}{w:World}{K:PySem.W.Frag}{tg:Expr}(it:Addr)(lo:Int)(n:Nat):HG P w K tg (FT lo n) [it] it (λi h=>IsRangeIter h it (lo+(i:Nat) * 1) ((n:Int) - (i:Nat)) 1) where
 mem:=by simp
 obj:=λi h st b hb=>by
  have e:b=it:=by simpa using hb
  subst e
  exact⟨_,st,λv z=>by
   have z':Data.fields _=Data.cell v:=z
   cases z'⟩
 keep:=λi h h' st k=>k it (by simp) _ st
 item:=by
  intro X hP hw hK hc i pins s σ H E I hf st hg
  subst hP hw hK
  obtain⟨f0,f1,f2,f3,f4,f5⟩:=hf it (by simp)
  have W:=Walks.range (prog:=X.prog) (w:=X.w) (I.ok.hd hc) it lo 1 n
  refine W.item i s _ _ hg st λv h' tk hv st' kk=> ?_
  obtain⟨t,rfl⟩:=hv
  have I1:Inv X pins σ H { s with heap:=h',toks:=tk }:=I.turned (λb o hb e=>kk b o (by simpa using hb) e) f0 f1 f3 f4 f5
  refine⟨_,rfl,MK (s:={ s with heap:=h',toks:=tk }) (n:="range_iterator") st' rfl rfl (by decide) ⟨.int (lo+i),H,I1,⟨t,?_⟩,⟨rfl,rfl⟩,st',λb hb=>(hf b hb).1⟩⟩
  rw[Int.mul_one]
 done:=by
  intro X hP hw hK hc i pins s σ H E I hf st hg
  subst hP hw hK
  obtain⟨f0,f1,f2,f3,f4,f5⟩:=hf it (by simp)
  exact wpAny_pyNext_range_end (I.ok.hd hc) st (by have:n<=i:=hg;omega) λh' eb=>⟨rfl,I.turned (t':=s.toks) (λb o hb e=>eb b o hb e) f0 f1 f3 f4 f5⟩
 self:=λ_ _ _ _ _ st h=>wpAny_pyIter_rangeiter st h
end L2
namespace L2
section
variable{X:Cx}{tg:Expr}
theorem mT{pins:List (Addr × Obj)}{σ:St}{H:Hp}{s:Shared}{R:It->Hp->Prop}{E:Value->Shared->Prop}{lo hi:Int}{t u v:Tok}{tk:Nat}(I:Inv X pins σ H s)(h1: -(2 ^ 62)<=lo)(h2:lo<2 ^ 62)(h3: -(2 ^ 62)<=hi)(h4:hi<2 ^ 62)
  (q:R (FT lo (hi - lo).toNat) H):wpAny (model X.prog X.w) X.A (pyIter (.ref s.heap.objs.size)) (XI X pins σ tg R) E { s with heap:=s.heap.push { cls:=.type "range",data:=.fields #[.int lo t,.int hi u,.int 1 v] },toks:=tk }:=by
 refine wpAny_pyIter_range (IsRange.new ..) (small_one h1 h2 h3 h4) ?_
 have I1:Inv X pins σ H { s with heap:=s.heap.push { cls:=.type "range",data:=.fields #[.int lo t,.int hi u,.int 1 v] },toks:=tk }:=I.kept λb o e=>Heap.get?_push_of_some _ e
 refine⟨(s.heap.push { cls:=.type "range",data:=.fields #[.int lo t,.int hi u,.int 1 v] }).objs.size,[(s.heap.push { cls:=.type "range",data:=.fields #[.int lo t,.int hi u,.int 1 v] }).objs.size],_,_,H,rfl,
  I1.kept (t':=tk) λb o e=>Heap.get?_push_of_some _ e,mS _ lo (hi - lo).toNat,?_,λb hb=> ?_,q⟩
 ·have e1:lo+((0:Nat):Int) * 1=lo:=by simp
  have e2:(((hi - lo).toNat:Nat):Int) - ((0:Nat):Int)=Builtin.Range.rangeSize lo hi 1:=by rw[rangeSize_one];split<;>omega
  show IsRangeIter _ _ (lo+((0:Nat):Int) * 1) ((((hi - lo).toNat:Nat):Int) - ((0:Nat):Int)) 1
  rw[e1,e2]
  exact Heap.get?_push_size _ rfl
 ·have e:b=(s.heap.push { cls:=.type "range",data:=.fields #[.int lo t,.int hi u,.int 1 v] }).objs.size:=by simpa using hb
  subst e
  exact I1.fpOk (Nat.le_refl _) (I1.hok.fresh (Nat.le_refl _))
def FU(ta:TA):TI:=λσ H R=>ta σ H λvs H1=>∃ j:Int,vs=[.int j]/\ -(2 ^ 62)<=j/\j<2 ^ 62/\R (FT 0 j.toNat) H1
theorem HH{a:Expr}{ta:TA}{p pos:Pos}(hg:Gl X "range")(hm:X.mg "range"=none)(ha:PA X [a] ta)(hs:starEach [a] X.env=[(false,eval a X.env)]:=by rfl):PI X tg (.Call (.Name "range" p) [a] [] pos) (FU ta):=by
 intro pins s σ H R I h
 refine Call_ (MH I hg hm boot_range (PyProof.Rows.callWith_type1 (AT (ha pos pins s σ H _ I h) λus s1 ⟨vs,H1,I1,r1,q1⟩=> ?_) hs rfl))
 obtain⟨j,e,q1,q2,q⟩:=q1
 subst e
 cases r1 with
 | cons r rr =>
  cases rr
  obtain⟨t,rfl⟩:=r
  exact call_range_1 (mT I1 (by omega) (by omega) q1 q2 (by simpa using q))
def GE(wi:TI)(g:TG)(tb:TS):TS:=λD σ H=>wi σ H λJ H1=>∃ W:Nat->Nat->St->Hp->Prop,(∃ m,W 0 m σ H1)/\∀ i m σ H,W i m σ H →
 (J.stop i H/\D.nx σ H)\/(J.go i H/\∃ N:St->Hp->Prop,(∀ σ' H',N σ' H'->∃ m',m'<m/\W (i+1) m' σ' H')/\∀ x H',J.yld i H x H'->g x σ H' λσ2 H2=>tb { D with nx:=N,ct:=N,bk:=D.nx } σ2 H2)
def MM(fp:List Addr)(h:Heap):List (Addr × Obj):=fp.filterMap λb=>(h.get? b).map λo=>(b,o)
theorem O4{fp:List Addr}{h:Heap}{b:Addr}{o:Obj}(hb:b∈fp)(e:h.get? b=some o):(b,o)∈MM fp h:=List.mem_filterMap.mpr ⟨b,hb,by rw[e];rfl⟩
theorem mU{fp:List Addr}{h:Heap}{p:Addr × Obj}(hp:p∈MM fp h):p.1∈fp/\h.get? p.1=some p.2:=by
 obtain⟨b,hb,e⟩:=List.mem_filterMap.mp hp
 cases q:h.get? b with
 | none=>rw[q]at e;cases e
 | some o =>
  rw[q]at e
  have e':(b,o)=p:=Option.some.inj e
  subst e'
  exact⟨hb,q⟩
theorem Inv.pinned{pins:List (Addr × Obj)}{σ:St}{H:Hp}{s:Shared}{fp:List Addr}(I:Inv X pins σ H s)(hf:∀ b∈fp,FpOk X pins H b)(ho:∀ b∈fp,∃ o,s.heap.get? b=some o/\∀ v,o.data≠.cell v):Inv X (pins++MM fp s.heap) σ H s :=
 I.pins_of λp hp=>(List.mem_append.mp hp).elim (λz=>I.pin p (List.mem_append_right _ z)) λz=>by
  obtain⟨hb,e⟩:=mU z
  obtain⟨f0,f1,f2,_⟩:=hf p.1 hb
  obtain⟨o,e',d⟩:=ho p.1 hb
  rw[e]at e';cases e'
  exact⟨e,f0,f1,f2,d⟩
theorem Inv.unpinned{pins pl:List (Addr × Obj)}{σ:St}{H:Hp}{s:Shared}(I:Inv X (pins++pl) σ H s):Inv X pins σ H s:=I.pins_of λp hp=>I.pin p (List.mem_append_right _ (List.mem_append_left _ hp))
theorem J5{iter:Expr}{body:List Stmt}{wi:TI}{g:TG}{tb:TS}{pos:Pos}(hp:PassesOwn (model X.prog X.w) X.A X.env X.xe)(hc:X.calm=true)(hi:PI X tg iter wi)(hg:PG X tg g)(hb:E9 X body tb)
  (hs:∀ x,foldedSetIterable iter X.env x=pure x:=by intro _;rfl):PS X (.For tg iter body [] pos) (GE wi g tb):=by
 intro pins s σ H D I h
 refine wpAny_For (AT (hi pins s σ H _ I h) λv s1 h1=>AT h1 λitv s2 h2=> ?_) hs
 obtain⟨it,fp,tn,J,H2,e,I2,T,st2,f2,W,⟨m0,w0⟩,turn⟩:=h2
 subst e
 have stat:∀ {H':Hp},(∀ b∈fp,H' b=none)->∀ b∈fp,FpOk X pins H' b:=λhn b hb=>⟨hn b hb,(f2 b hb).2⟩
 refine codeAny_forLoop_any (λn s'=>∃ i σ' H',Inv X pins σ' H' s'/\tn i s'.heap/\(∀ b∈fp,H' b=none)/\W i n σ' H') ?_ m0 ⟨0,σ,H2,I2,st2,λb hb=>(f2 b hb).1,w0⟩
 rintro n s3 ⟨i,σ3,H3,I3,st3,fr3,w3⟩
 rcases turn i n σ3 H3 w3 with⟨stop,qn⟩ | ⟨go,N,hN,step⟩
 ·refine wpAny_passesOwn hp (AT (T.done X rfl rfl rfl hc i pins s3 σ3 H3 X.xe I3 (stat fr3) st3 stop) λr s4 ⟨hr,I4⟩=> ?_)
  subst hr
  exact wpAny_execs_nil ⟨σ3,H3,I4,qn⟩
 ·refine wpAny_passesOwn hp (AT (T.item X rfl rfl rfl hc i pins s3 σ3 H3 X.xe I3 (stat fr3) st3 go) λr s4 ⟨u,hr,h4⟩=> ?_)
  subst hr
  refine wpAny_passesOwn hp (AT h4 λ_ s5 ⟨x,H5,I5,r5,y5,st5,fr5⟩=> ?_)
  have I5':=I5.pinned (stat fr5) (T.obj _ _ st5)
  refine wpAny_passesOwn hp (AT (hg _ s5 σ3 H5 x u _ I5' r5 (step x H5 y5)) λ_ s6 ⟨σ6,H6,I6,q6⟩=> ?_)
  refine wpAny_passesOwn hp (AT (hb _ s6 σ6 H6 _ I6 q6) λf s7 q7=> ?_)
  have again:∀ {σ7:St} {H7:Hp},Inv X (pins++MM fp s5.heap) σ7 H7 s7->N σ7 H7->∃ m,m<n/\∃ i σ' H',Inv X pins σ' H' s7/\tn i s7.heap/\(∀ b∈fp,H' b=none)/\W i m σ' H':=λ{σ7 H7} I7 n7=>by
   obtain⟨m',hm,w7⟩:=hN σ7 H7 n7
   refine⟨m',hm,i+1,σ7,H7,I7.unpinned,T.keep _ _ _ st5 λb hb o e=>(I7.pin (b,o) (List.mem_append_right _ (List.mem_append_right _ (O4 hb e)))).1,λb hb=> ?_,w7⟩
   obtain⟨o,e,d⟩:=T.obj _ _ st5 b hb
   exact(I7.pin (b,o) (List.mem_append_right _ (List.mem_append_right _ (O4 hb e)))).2.1
  cases f with
  | next=>obtain⟨σ7,H7,I7,n7⟩:=q7;exact again I7 n7
  | cont=>obtain⟨σ7,H7,I7,n7⟩:=q7;exact again I7 n7
  | brk=>obtain⟨σ7,H7,I7,q7⟩:=q7;exact⟨σ7,H7,I7.unpinned,q7⟩
  | ret v=>obtain⟨x7,σ7,H7,I7,r7,q7⟩:=q7;exact⟨x7,σ7,H7,I7.unpinned,r7,q7⟩
end
theorem mV{K:PySem.W.Frag}{a:Addr}{xs:List V}{g:TG}{tb:TS}{D:Ends}{σ:St}{H:Hp}(Pv:Nat->St->Hp->Prop)(h0:Pv 0 σ H)(hl:∀ i σ H,i<=xs.length->Pv i σ H->SqL K H a xs)
  (hs:∀ i x σ H,xs[i]? =some x->Pv i σ H->g x σ H λσ2 H2=>tb { D with nx:=Pv (i+1),ct:=Pv (i+1),bk:=D.nx } σ2 H2) (hd:∀ σ H,Pv xs.length σ H->D.nx σ H) :
  ∃ W:Nat->Nat->St->Hp->Prop,(∃ m,W 0 m σ H)/\∀ i m σ H,W i m σ H →
   ((FS K a).stop i H/\D.nx σ H)\/((FS K a).go i H/\∃ N:St->Hp->Prop,(∀ σ' H',N σ' H'->∃ m',m'<m/\W (i+1) m' σ' H')/\∀ x H',(FS K a).yld i H x H'->g x σ H' λσ2 H2=>tb { D with nx:=N,ct:=N,bk:=D.nx } σ2 H2):=by
 refine⟨λi m σ H=>m=xs.length - i/\i<=xs.length/\Pv i σ H,⟨xs.length,by simp,Nat.zero_le _,h0⟩,?_⟩
 rintro i m σ H ⟨rfl,hi,p⟩
 have q:=hl i σ H hi p
 by_cases hlt:i<xs.length
 ·refine .inr ⟨⟨xs,xs[i],q,by simp[hlt]⟩,Pv (i+1),λσ' H' p'=>⟨xs.length - (i+1),by omega,rfl,hlt,p'⟩,λx H' y=> ?_⟩
  obtain⟨e,y⟩:=y
  subst e
  exact hs i x σ _ (y xs q) p
 ·have e:i=xs.length:=by omega
  subst e
  exact .inl ⟨⟨xs,q,Nat.le_refl _⟩,hd σ H p⟩
theorem mW{lo:Int}{n:Nat}{g:TG}{tb:TS}{D:Ends}{σ:St}{H:Hp}(Pv:Nat->St->Hp->Prop)(h0:Pv 0 σ H)
  (hs:∀ i σ H,i<n->Pv i σ H->g (.int (lo+i)) σ H λσ2 H2=>tb { D with nx:=Pv (i+1),ct:=Pv (i+1),bk:=D.nx } σ2 H2) (hd:∀ σ H,Pv n σ H->D.nx σ H) :
  ∃ W:Nat->Nat->St->Hp->Prop,(∃ m,W 0 m σ H)/\∀ i m σ H,W i m σ H →
   ((FT lo n).stop i H/\D.nx σ H)\/((FT lo n).go i H/\∃ N:St->Hp->Prop,(∀ σ' H',N σ' H'->∃ m',m'<m/\W (i+1) m' σ' H')/\∀ x H',(FT lo n).yld i H x H'->g x σ H' λσ2 H2=>tb { D with nx:=N,ct:=N,bk:=D.nx } σ2 H2):=by
 refine⟨λi m σ H=>m=n - i/\i<=n/\Pv i σ H,⟨n,by simp,Nat.zero_le _,h0⟩,?_⟩
 rintro i m σ H ⟨rfl,hi,p⟩
 by_cases hlt:i<n
 ·refine .inr ⟨hlt,Pv (i+1),λσ' H' p'=>⟨n - (i+1),by omega,rfl,hlt,p'⟩,λx H' y=> ?_⟩
  obtain⟨e,y⟩:=y
  subst e y
  exact hs i σ _ hlt p
 ·have e:i=n:=by omega
  subst e
  exact .inl ⟨Nat.le_refl _,hd σ H p⟩
end L2
namespace L2
abbrev R2:=V->V->Hp->VK->Prop
def BS(X:Cx)(f:Value->Value->Sem Value)(r:R2):Prop :=
 ∀ (pins:List (Addr × Obj)) (s:Shared) (σ:St) (H:Hp) (x y:V) (v u:Value) (Q:VK),Inv X pins σ H s->RelV x v->RelV y u->r x y H Q →
  wpAny (model X.prog X.w) X.A (f v u) (EP X pins σ Q) X.xe s
def RS(X:Cx)(f:Value->Sem Value)(r:V->Hp->VK->Prop):Prop :=
 ∀ (pins:List (Addr × Obj)) (s:Shared) (σ:St) (H:Hp) (x:V) (v:Value) (Q:VK),Inv X pins σ H s->RelV x v->r x H Q →
  wpAny (model X.prog X.w) X.A (f v) (EP X pins σ Q) X.xe s
def DJ(X:Cx)(f:Value)(r:List V->Hp->VK->Prop):Prop :=
 ∀ (pins:List (Addr × Obj)) (s:Shared) (σ:St) (H:Hp) (xs:List V) (us:List Value) (Q:VK),Inv X pins σ H s->Vals xs us->r xs H Q →
  wpAny (model X.prog X.w) X.A (call f us) (EP X pins σ Q) X.xe s
def mX(X:Cx)(r:V->Hp->(Bool->Hp->Prop)->Prop):Prop :=
 ∀ (pins:List (Addr × Obj)) (s:Shared) (σ:St) (H:Hp) (x:V) (v:Value) (Q:Bool->Hp->Prop),Inv X pins σ H s->RelV x v->r x H Q →
  wpAny (model X.prog X.w) X.A (truthy v) (TP X pins σ Q) X.xe s
def AH(r:R2)(ta tb:TE):TE:=λσ H Q=>ta σ H λx H1=>tb σ H1 λy H2=>r x y H2 Q
def O5(r:V->Hp->VK->Prop)(ta:TE):TE:=λσ H Q=>ta σ H λx H1=>r x H1 Q
def rI(C:Int->Int->Prop)(g:Int->Int->V):R2:=λx y H Q=>∃ i j,x=.int i/\y=.int j/\C i j/\Q (g i j) H
def GF(g:Int->Int->V):R2:=λx y H Q=>∃ i j,x=.int i/\y=.int j/\Q (g i j) H
def rU(g:Int->V):V->Hp->VK->Prop:=λx H Q=>∃ i,x=.int i/\Q (g i) H
section
variable{X:Cx}{a b c:Expr}{ta tb tc:TE}{pos:Pos}
theorem RT(ha:PE X a ta)(hb:PE X b tb){pins:List (Addr × Obj)}{s:Shared}{σ:St}{H:Hp}{R:V->V->Hp->Prop}(I:Inv X pins σ H s)
  (h:ta σ H λx H1=>tb σ H1 λy H2=>R x y H2) {Q:Value->Shared->Prop} {f:Value->Value->Sem Value}
  (hf:∀ v u s2 x y H2,Inv X pins σ H2 s2->RelV x v->RelV y u->R x y H2->wpAny (model X.prog X.w) X.A (f v u) Q X.xe s2) :
  wpAny (model X.prog X.w) X.A (eval a X.env) (λv s₁=>wpAny (model X.prog X.w) X.A (eval b X.env) (λu s₂=>wpAny (model X.prog X.w) X.A (f v u) Q X.xe s₂) X.xe s₁) X.xe s:=by
 refine AT (ha pins s σ H _ I h) λv s1 ⟨x,H1,I1,r1,q1⟩=> ?_
 refine AT (hb pins s1 σ H1 _ I1 q1) λu s2 ⟨y,H2,I2,r2,q2⟩=> ?_
 exact hf v u s2 x y H2 I2 r1 r2 q2
theorem AU{op:Operator}{r:R2}(ho:BS X (binaryOp op) r)(ha:PE X a ta)(hb:PE X b tb):PE X (.BinOp a op b pos) (AH r ta tb):=by
 intro pins s σ H Q I h
 exact wpAny_BinOp (RT ha hb I h λv u s2 x y H2 I2 rx ry q=>ho pins s2 σ H2 x y v u Q I2 rx ry q)
theorem XJ{op:UnaryOp}{r:V->Hp->VK->Prop}(ho:RS X (unaryOp op) r)(ha:PE X a ta):PE X (.UnaryOp op a pos) (O5 r ta):=by
 intro pins s σ H Q I h
 exact UnaryOp_ (AT (ha pins s σ H _ I h) λv s1 ⟨x,H1,I1,r1,q1⟩=>ho pins s1 σ H1 x v Q I1 r1 q1)
theorem RU{f:Value->Value->Sem Value}{C:Int->Int->Prop}{g:Int->Int->Int}
  (rule:∀ (i j:Int) (t u:Tok) (s:Shared) (Q:Value->Shared->Prop) (E:Value->Shared->Prop),C i j->Q (.int (g i j) s.toks) { s with toks:=s.toks+1 }->wpAny (model X.prog X.w) X.A (f (.int i t) (.int j u)) Q E s) :
  BS X f (rI C λi j=>.int (g i j)):=by
 intro pins s σ H x y v u Q I rx ry h
 obtain⟨i,j,rfl,rfl,hc,q⟩:=h
 obtain⟨t,rfl⟩:=rx
 obtain⟨t',rfl⟩:=ry
 exact rule i j t t' s _ _ hc ⟨.int (g i j),H,I.tok _,⟨_,rfl⟩,q⟩
theorem XL{f:Value->Value->Sem Value}{g:Int->Int->Int}
  (rule:∀ (i j:Int) (t u:Tok) (s:Shared) (Q:Value->Shared->Prop) (E:Value->Shared->Prop),Q (.int (g i j) s.toks) { s with toks:=s.toks+1 }->wpAny (model X.prog X.w) X.A (f (.int i t) (.int j u)) Q E s) :
  BS X f (GF λi j=>.int (g i j)):=by
 intro pins s σ H x y v u Q I rx ry h
 obtain⟨i,j,rfl,rfl,q⟩:=h
 obtain⟨t,rfl⟩:=rx
 obtain⟨t',rfl⟩:=ry
 exact rule i j t t' s _ _ ⟨.int (g i j),H,I.tok _,⟨_,rfl⟩,q⟩
theorem RV{f:Value->Value->Sem Value}{g:Int->Int->Bool}
  (rule:∀ (i j:Int) (t u:Tok) (s:Shared) (Q:Value->Shared->Prop) (E:Value->Shared->Prop),Q (.bool (g i j)) s->wpAny (model X.prog X.w) X.A (f (.int i t) (.int j u)) Q E s) :
  BS X f (GF λi j=>.bl (g i j)):=by
 intro pins s σ H x y v u Q I rx ry h
 obtain⟨i,j,rfl,rfl,q⟩:=h
 obtain⟨t,rfl⟩:=rx
 obtain⟨t',rfl⟩:=ry
 exact rule i j t t' s _ _ ⟨.bl (g i j),H,I,rfl,q⟩
def XM(i j:Int):Prop:=0<j/\j<1073741824
def mY(i j:Int):Prop:=0<=j/\j<=1000000/\i.natAbs<2 ^ 64
def CMul(i j:Int):Prop:=(-(2 ^ 64)<i/\i<2 ^ 64)\/(-(2 ^ 64)<j/\j<2 ^ 64)
theorem CMul.ok{i j:Int}(h:CMul i j):IntMulOk i j:=by
 rcases h with⟨h1,h2⟩ | ⟨h1,h2⟩
 ·exact .of_left (intBits_le_64 h1 h2)
 ·exact .of_right (intBits_le_64 h1 h2)
theorem mZ:BS X (binaryOp .Add) (GF λi j=>.int (i+j)):=XL λ_ _ _ _ _ _ _ q=>add_int q
theorem RW:BS X (binaryOp .Sub) (GF λi j=>.int (i - j)):=XL λ_ _ _ _ _ _ _ q=>sub_int q
theorem m6:BS X (binaryOp .Mult) (rI CMul λi j=>.int (i * j)):=RU λ_ _ _ _ _ _ _ hc q=>mul_int q hc.ok
theorem CZ:BS X (binaryOp .FloorDiv) (rI XM λi j=>.int (i / j)):=RU λi j _ _ _ _ _ hc q=>by
 have h1:(0:Int)<j:=hc.1
 have h2:j<1073741824:=hc.2
 exact floordiv_int (by omega) (by rw[Int.fdiv_eq_ediv_of_nonneg i (by omega)];exact q) (.inl (PyProof.noPylong_small (by omega)))
theorem CL:BS X (binaryOp .Mod) (rI (λ_ j=>0<j) λi j=>.int (i % j)):=RU λi j _ _ _ _ _ hc q=>by
 have h1:(0:Int)<j:=hc
 exact mod_int' (by omega) (by rw[Int.fmod_eq_emod_of_nonneg i (by omega)];exact q)
theorem m7{f:Value->Sem Value}{g:Int->Int}
  (rule:∀ (i:Int) (t:Tok) (s:Shared) (Q:Value->Shared->Prop) (E:Value->Shared->Prop),Q (.int (g i) s.toks) { s with toks:=s.toks+1 }->wpAny (model X.prog X.w) X.A (f (.int i t)) Q E s) :
  RS X f (rU λi=>.int (g i)):=by
 intro pins s σ H x v Q I rx h
 obtain⟨i,rfl,q⟩:=h
 obtain⟨t,rfl⟩:=rx
 exact rule i t s _ _ ⟨.int (g i),H,I.tok _,⟨_,rfl⟩,q⟩
theorem XN:RS X (unaryOp .USub) (rU λi=>.int (-i)):=m7 λ_ _ _ _ _ q=>neg_int q
end
def GU:V->V->Bool
 | .non,.non=>true | .non,.int _=>true | .int _,.non=>true | .non,.bl _=>true | .bl _,.non=>true | .non,.str _=>true | .str _,.non=>true
 | .int _,.int _=>true | .bl _,.bl _=>true | .str _,.str _=>true | .byt _,.byt _=>true
 | .int _,.str _=>true | .str _,.int _=>true | .bl _,.str _=>true | .str _,.bl _=>true
 | _,_=>false
def m8:R2:=λx y H Q=>GU x y=true/\Q (.bl (decide (x=y))) H
def nA:R2:=λx y H Q=>GU x y=true/\Q (.bl (!decide (x=y))) H
theorem XO{i j:Int}:decide (V.int i=V.int j)=(i == j):=by
 rw[Bool.eq_iff_iff]
 simp
theorem XQ{i j:Bool}:decide (V.bl i=V.bl j)=(i == j):=by
 rw[Bool.eq_iff_iff]
 simp
theorem XR{i j:Str}:decide (V.str i=V.str j)=(i == j):=by
 rw[Bool.eq_iff_iff]
 simp
theorem XS{i j:Array UInt8}:decide (V.byt i=V.byt j)=(i.toList == j.toList):=by
 rw[Bool.eq_iff_iff]
 cases i
 cases j
 simp
section
variable{X:Cx}{a b c:Expr}{ta tb tc:TE}{pos:Pos}
theorem B9{pins:List (Addr × Obj)}{σ:St}{H:Hp}{s:Shared}{Q:VK}{k k':Bool}(I:Inv X pins σ H s)(q:Q (.bl k) H)(e:k=k'):EP X pins σ Q (.bool k') s:=by
 subst e
 exact⟨.bl k,H,I,rfl,q⟩
theorem nB:BS X (compareOp .Eq) m8:=by
 intro pins s σ H x y v u Q I rx ry h
 obtain⟨hs,q⟩:=h
 cases x with
 | non =>
  cases rx
  cases y with
  | non=>cases ry;exact PySem.EqNone.eq_none_none (B9 I q (by simp))
  | bl j=>cases ry;exact PySem.EqNone.eq_none_bool (B9 I q (by simp))
  | int j=>obtain⟨t',rfl⟩:=ry;exact PySem.EqNone.eq_none_int (B9 I q (by simp))
  | str j=>obtain⟨t',rfl⟩:=ry;exact PySem.EqNone.eq_none_str (B9 I q (by simp))
  | _=>exact absurd (show false=true from hs) Bool.false_ne_true
 | bl i =>
  cases rx
  cases y with
  | non=>cases ry;exact PySem.EqNone.eq_bool_none (B9 I q (by simp))
  | bl j=>cases ry;exact eq_bool (B9 I q XQ)
  | str j=>obtain⟨t',rfl⟩:=ry;exact PySem.EqMixed.eq_bool_str (B9 I q (by simp))
  | _=>exact absurd (show false=true from hs) Bool.false_ne_true
 | int i =>
  obtain⟨t,rfl⟩:=rx
  cases y with
  | non=>cases ry;exact PySem.EqNone.eq_int_none (B9 I q (by simp))
  | int j=>obtain⟨t',rfl⟩:=ry;exact eq_int (B9 I q XO)
  | str j=>obtain⟨t',rfl⟩:=ry;exact PySem.EqMixed.eq_int_str (B9 I q (by simp))
  | _=>exact absurd (show false=true from hs) Bool.false_ne_true
 | str i =>
  obtain⟨t,rfl⟩:=rx
  cases y with
  | non=>cases ry;exact PySem.EqNone.eq_str_none (B9 I q (by simp))
  | bl j=>cases ry;exact PySem.EqMixed.eq_str_bool (B9 I q (by simp))
  | int j=>obtain⟨t',rfl⟩:=ry;exact PySem.EqMixed.eq_str_int (B9 I q (by simp))
  | str j=>obtain⟨t',rfl⟩:=ry;exact eq_str (B9 I q XR)
  | _=>exact absurd (show false=true from hs) Bool.false_ne_true
 | byt i =>
  obtain⟨t,rfl⟩:=rx
  cases y with
  | byt j=>obtain⟨t',rfl⟩:=ry;exact W.eq_bytes (B9 I q XS)
  | _=>exact absurd (show false=true from hs) Bool.false_ne_true
 | _=>cases y<;>exact absurd (show false=true from hs) Bool.false_ne_true
theorem nD:BS X (compareOp .NotEq) nA:=by
 intro pins s σ H x y v u Q I rx ry h
 obtain⟨hs,q⟩:=h
 cases x with
 | non =>
  cases rx
  cases y with
  | non=>cases ry;exact PySem.EqNone.ne_none_none (B9 I q (by simp))
  | bl j=>cases ry;exact PySem.EqNone.ne_none_bool (B9 I q (by simp))
  | int j=>obtain⟨t',rfl⟩:=ry;exact PySem.EqNone.ne_none_int (B9 I q (by simp))
  | str j=>obtain⟨t',rfl⟩:=ry;exact PySem.EqNone.ne_none_str (B9 I q (by simp))
  | _=>exact absurd (show false=true from hs) Bool.false_ne_true
 | bl i =>
  cases rx
  cases y with
  | non=>cases ry;exact PySem.EqNone.ne_bool_none (B9 I q (by simp))
  | bl j=>cases ry;exact ne_bool (B9 I q (congrArg not XQ))
  | str j=>obtain⟨t',rfl⟩:=ry;exact PySem.EqMixed.ne_bool_str (B9 I q (by simp))
  | _=>exact absurd (show false=true from hs) Bool.false_ne_true
 | int i =>
  obtain⟨t,rfl⟩:=rx
  cases y with
  | non=>cases ry;exact PySem.EqNone.ne_int_none (B9 I q (by simp))
  | int j=>obtain⟨t',rfl⟩:=ry;exact ne_int (B9 I q (congrArg not XO))
  | str j=>obtain⟨t',rfl⟩:=ry;exact PySem.EqMixed.ne_int_str (B9 I q (by simp))
  | _=>exact absurd (show false=true from hs) Bool.false_ne_true
 | str i =>
  obtain⟨t,rfl⟩:=rx
  cases y with
  | non=>cases ry;exact PySem.EqNone.ne_str_none (B9 I q (by simp))
  | bl j=>cases ry;exact PySem.EqMixed.ne_str_bool (B9 I q (by simp))
  | int j=>obtain⟨t',rfl⟩:=ry;exact PySem.EqMixed.ne_str_int (B9 I q (by simp))
  | str j=>obtain⟨t',rfl⟩:=ry;exact ne_str (B9 I q (congrArg not XR))
  | _=>exact absurd (show false=true from hs) Bool.false_ne_true
 | byt i =>
  obtain⟨t,rfl⟩:=rx
  cases y with
  | byt j=>obtain⟨t',rfl⟩:=ry;exact W.ne_bytes (B9 I q (congrArg not XS))
  | _=>exact absurd (show false=true from hs) Bool.false_ne_true
 | _=>cases y<;>exact absurd (show false=true from hs) Bool.false_ne_true
theorem nE:BS X (compareOp .Lt) (GF λi j=>.bl (decide (i<j))):=RV λ_ _ _ _ _ _ _ q=>lt_int q
theorem nF:BS X (compareOp .LtE) (GF λi j=>.bl (decide (i<=j))):=RV λ_ _ _ _ _ _ _ q=>le_int q
theorem nH:BS X (compareOp .Gt) (GF λi j=>.bl (decide (j<i))):=RV λ_ _ _ _ _ _ _ q=>gt_int q
theorem O6:BS X (compareOp .Is) (λx y H Q=>y=.non/\Q (.bl (decide (x=.non))) H):=by
 intro pins s σ H x y v u Q I rx ry h
 obtain⟨rfl,q⟩:=h
 cases ry
 refine is_none_gen (B9 I q ?_)
 cases x<;>first
  | (cases rx;rfl)
  | (obtain⟨t,rfl⟩:=rx;rfl)
theorem O7:BS X (compareOp .IsNot) (λx y H Q=>y=.non/\Q (.bl (!decide (x=.non))) H):=by
 intro pins s σ H x y v u Q I rx ry h
 obtain⟨rfl,q⟩:=h
 cases ry
 refine isnot_none_gen (B9 I q ?_)
 cases x<;>first
  | (cases rx;rfl)
  | (obtain⟨t,rfl⟩:=rx;rfl)
theorem CF(b:Expr){op:CmpOp}(h:op≠.In:=by decide)(h2:op≠.NotIn:=by decide):behindInMarks op b=false:=by
 have e1:(op == CmpOp.In)=false:=by cases op<;>first | rfl | exact absurd rfl h
 have e2:(op == CmpOp.NotIn)=false:=by cases op<;>first | rfl | exact absurd rfl h2
 cases b<;>simp[behindInMarks,e1,e2]
theorem XT{op:CmpOp}{r:R2}(ho:BS X (compareOp op) r)(ha:PE X a ta)(hb:PE X b tb)(hm:behindInMarks op b=false):PE X (.Compare a [op] [b] pos) (AH r ta tb):=by
 intro pins s σ H Q I h
 exact wpAny_Compare1 (RT ha hb I h λv u s2 x y H2 I2 rx ry q=>ho pins s2 σ H2 x y v u Q I2 rx ry q) hm
def BU(t:TE):TT:=λσ H Q=>t σ H λx H'=>∃ k,x=.bl k/\Q k H'
theorem CB{op:CmpOp}{r:R2}(ho:BS X (compareOp op) r)(ha:PE X a ta)(hb:PE X b tb)(hm:behindInMarks op b=false):PT X (.Compare a [op] [b] pos) (BU (AH r ta tb)):=by
 intro pins s σ H Q I h
 refine wpAny_isTrue_Compare1 (AT (ha pins s σ H _ I h) λv s1 ⟨x,H1,I1,r1,q1⟩=>AT (hb pins s1 σ H1 _ I1 q1) λu s2 ⟨y,H2,I2,r2,q2⟩ =>
  AT (ho pins s2 σ H2 x y v u _ I2 r1 r2 q2) λc s3 ⟨z,H3,I3,r3,k,e,q3⟩=> ?_) hm
 subst e
 cases r3
 exact wpAny_truthy_bool ⟨H3,I3,q3⟩
def EV(r r':R2)(ta tb tc:TE):TE:=λσ H Q=>ta σ H λx H1=>tb σ H1 λy H2=>r x y H2 λz H3=>∃ k,z=.bl k ∧
 (if k=true then tc σ H3 λw' H4=>r' y w' H4 Q else Q (.bl false) H3)
theorem O8{op op':CmpOp}{r r':R2}(ho:BS X (compareOp op) r)(ho':BS X (compareOp op') r')(ha:PE X a ta)(hb:PE X b tb)(hc:PE X c tc)
  (hm:lastMarks [op,op'] [b,c]=false:=by with_unfolding_all rfl):PE X (.Compare a [op,op'] [b,c] pos) (EV r r' ta tb tc):=by
 intro pins s σ H Q I h
 refine Compare_chain (AT (ha pins s σ H _ I h) λv s1 ⟨x,H1,I1,r1,q1⟩=>chain_link (AT (hb pins s1 σ H1 _ I1 q1) λu s2 ⟨y,H2,I2,r2,q2⟩ =>
  AT (ho pins s2 σ H2 x y v u _ I2 r1 r2 q2) λd s3 ⟨z,H3,I3,r3,k,e,q3⟩=> ?_)) hm
 subst e
 cases r3
 refine wpAny_truthy_bool ?_
 cases k with
 | false=>exact ite_ff ⟨.bl false,H3,I3,rfl,q3⟩
 | true=>exact ite_tt (chain_last (AT (hc pins s3 σ H3 _ I3 q3) λw' s4 ⟨z',H4,I4,r4,q4⟩=>ho' pins s4 σ H4 y z' u w' Q I4 r2 r4 q4))
theorem J6{op op':CmpOp}{r r':R2}(ho:BS X (compareOp op) r)(ho':BS X (compareOp op') r')(ha:PE X a ta)(hb:PE X b tb)(hc:PE X c tc)
  (hm:lastMarks [op,op'] [b,c]=false:=by with_unfolding_all rfl):PT X (.Compare a [op,op'] [b,c] pos) (BU (EV r r' ta tb tc)):=by
 intro pins s σ H Q I h
 refine isTrue_chain (AT (ha pins s σ H _ I h) λv s1 ⟨x,H1,I1,r1,q1⟩=>test_link (AT (hb pins s1 σ H1 _ I1 q1) λu s2 ⟨y,H2,I2,r2,q2⟩ =>
  AT (ho pins s2 σ H2 x y v u _ I2 r1 r2 q2) λd s3 ⟨z,H3,I3,r3,k,e,q3⟩=> ?_)) hm
 subst e
 cases r3
 refine wpAny_truthy_bool ?_
 cases k with
 | false =>
  obtain⟨k',e',q'⟩:=q3
  cases e'
  exact ite_ff ⟨H3,I3,q'⟩
 | true =>
  refine ite_tt (test_last (AT (hc pins s3 σ H3 _ I3 q3) λw' s4 ⟨z',H4,I4,r4,q4⟩=>AT (ho' pins s4 σ H4 y z' u w' _ I4 r2 r4 q4) λd' s5 ⟨z2,H5,I5,r5,k2,e2,q5⟩=> ?_))
  subst e2
  cases r5
  exact wpAny_truthy_bool ⟨H5,I5,q5⟩
def J7(K:W.Frag)(x:V)(H:Hp)(k:Bool):Prop :=
 match x with
 | .non=>k=false
 | .bl b=>k=b
 | .int i=>k=(i != 0)
 | .str y=>y.length<=sizeLine/\k=((y.length:Int) != 0)
 | .byt y=>y.size<=sizeLine/\k=((y.size:Int) != 0)
 | .ref p=>(∃ xs,SqL K H p xs/\k= !xs.isEmpty)\/(∃ xs,SqT K H p xs/\k= !xs.isEmpty)\/∃ kvs,H p=some (.dK kvs)/\k= !kvs.isEmpty
 | _=>False
theorem nK{κ :Type}{kvs:List (κ × V)}{vs:List (κ × Value)}(r:KV kvs vs):(!vs.isEmpty)= !kvs.isEmpty:=by
 cases r<;>rfl
theorem XU{xs:List V}{its:List Value}(r:Vals xs its):(!its.toArray.isEmpty)= !xs.isEmpty:=by
 cases r<;>simp
theorem J8:(sizeLine:Nat)<2 ^ 63:=by rw[sizeLine_eq];decide
theorem nQ:mX X (λx H Q=>∃ k,J7 X.K x H k/\Q k H):=by
 intro pins s σ H x v Q I rx h
 obtain⟨k,e,q⟩:=h
 have hl:=J8
 have hs:sizeLine=16777216:=sizeLine_eq
 cases x with
 | non =>
  cases rx
  have e':k=false:=e
  subst e'
  exact truthy_none ⟨H,I,q⟩
 | bl b =>
  cases rx
  have e':k=b:=e
  subst e'
  exact wpAny_truthy_bool ⟨H,I,q⟩
 | int i =>
  obtain⟨t,rfl⟩:=rx
  have e':k=(i != 0):=e
  subst e'
  exact PySem.P.truthy_int ⟨H,I,q⟩
 | str y =>
  obtain⟨t,rfl⟩:=rx
  obtain⟨hy,e'⟩:y.length<=sizeLine/\k=((y.length:Int) != 0):=e
  subst e'
  exact PySem.P.truthy_str (by omega) ⟨H,I.tok _,q⟩
 | byt y =>
  obtain⟨t,rfl⟩:=rx
  obtain⟨hy,e'⟩:y.size<=sizeLine/\k=((y.size:Int) != 0):=e
  subst e'
  exact W.truthy_bytes (by omega) ⟨H,I.tok _,q⟩
 | ref p =>
  cases rx
  have e':(∃ xs,SqL X.K H p xs/\k= !xs.isEmpty)\/(∃ xs,SqT X.K H p xs/\k= !xs.isEmpty)\/∃ kvs,H p=some (.dK kvs)/\k= !kvs.isEmpty:=e
  rcases e' with⟨xs,hx,e'⟩ | ⟨xs,hx,e'⟩ | ⟨kvs,hx,e'⟩
  ·subst e'
   obtain⟨its,r,pl,hz⟩:=I.list hx
   have hlen:=r.length
   exact wpAny_truthy_list pl.isList (by simp only[List.size_toArray];omega) ⟨H,I.tok _,by rw[XU r];exact q⟩
  ·subst e'
   obtain⟨its,r,pl,hz⟩:=I.tuple hx
   have hlen:=r.length
   exact truthy_tuple pl (by simp only[List.size_toArray];omega) ⟨H,I.tok _,by rw[XU r];exact q⟩
  ·subst e'
   obtain⟨hz,hS,vs,r,m⟩:kvs.length<=sizeLine/\(p == sysModules)=false/\∃ vs,KV kvs vs/\s.heap.DictOf (CY X.prog X.w) p vs:=I.hok p _ hx
   have hlen:kvs.length=vs.length:=Paired.length r
   exact wpAny_truthy_dict hS m (by omega) ⟨H,I.tok _,by rw[nK r];exact q⟩
 | _=>exact(show False from e).elim
theorem MN(ha:PE X a ta)(he:∀ whole,isTrue a X.env whole=(do let v ← whole;standAt a.pos;holding [v] (truthy v))) :
  PT X a (λσ H Q=>ta σ H λx H'=>∃ k,J7 X.K x H' k/\Q k H'):=by
 intro pins s σ H Q I h
 exact isTrue_plain (AT (ha pins s σ H _ I h) λv s1 ⟨x,H1,I1,r1,q1⟩=>nQ pins s1 σ H1 x v Q I1 r1 q1) (he _)
theorem nR:BS X (binaryOp .Add) (λx y H Q=>∃ i j,x=.str i/\y=.str j/\i.length+j.length<=sizeLine/\Q (.str (i++j)) H):=by
 intro pins s σ H x y v u Q I rx ry h
 obtain⟨i,j,rfl,rfl,hz,q⟩:=h
 obtain⟨t,rfl⟩:=rx
 obtain⟨t',rfl⟩:=ry
 exact add_str (λt' tk=>⟨.str (i++j),H,I.tok _,⟨_,rfl⟩,q⟩) hz
theorem FA{x:V}{us:List Value}(r:Vals [x] us):∃ u,us=[u]/\RelV x u:=by
 cases r with
 | cons r1 r2=>cases r2;exact⟨_,rfl,r1⟩
theorem nS:DJ X (.builtin "ord") (λxs H Q=>∃ x,xs=[.str x]/\x.length=1/\Q (.int (x.cps.getD 0 0:Nat)) H):=by
 intro pins s σ H xs us Q I r h
 obtain⟨x,rfl,hz,q⟩:=h
 obtain⟨u,rfl,t,rfl⟩:=FA r
 exact ord_of_one hz ⟨.int _,H,I.tok _,⟨_,rfl⟩,q⟩
def RX(K:W.Frag)(x:V)(H:Hp)(n:Nat):Prop :=
 match x with
 | .str y=>y.length<=sizeLine/\n=y.length
 | .byt y=>y.size<=sizeLine/\n=y.size
 | .ref p=>(∃ xs,SqL K H p xs/\n=xs.length)\/∃ xs,SqT K H p xs/\n=xs.length
 | _=>False
theorem nT:DJ X (.builtin "len") (λxs H Q=>∃ x n,xs=[x]/\RX X.K x H n/\Q (.int n) H):=by
 intro pins s σ H xs us Q I r h
 obtain⟨x,n,rfl,e,q⟩:=h
 obtain⟨u,rfl,rx⟩:=FA r
 have hl:=J8
 have hs:sizeLine=16777216:=sizeLine_eq
 cases x with
 | str y =>
  obtain⟨t,rfl⟩:=rx
  obtain⟨hy,e'⟩:y.length<=sizeLine/\n=y.length:=e
  subst e'
  exact len_str (by omega) ⟨.int _,H,I.tok _,⟨_,rfl⟩,q⟩
 | byt y =>
  obtain⟨t,rfl⟩:=rx
  obtain⟨hy,e'⟩:y.size<=sizeLine/\n=y.size:=e
  subst e'
  exact W.len_bytes (by omega) ⟨.int _,H,I.tok _,⟨_,rfl⟩,q⟩
 | ref p =>
  cases rx
  have e':(∃ xs,SqL X.K H p xs/\n=xs.length)\/∃ xs,SqT X.K H p xs/\n=xs.length:=e
  rcases e' with⟨xs,hx,e'⟩ | ⟨xs,hx,e'⟩
  ·subst e'
   obtain⟨its,r',pl,hz⟩:=I.list hx
   have hlen:=r'.length
   exact Calls.call_len_list pl.isList (by simp only[List.size_toArray];omega) ⟨.int xs.length,H,I.tok _,⟨_,by simp only[List.size_toArray];rw[hlen]⟩,q⟩
  ·subst e'
   obtain⟨its,r',pl,hz⟩:=I.tuple hx
   have hlen:=r'.length
   exact len_tuple pl (by simp only[List.size_toArray];omega) ⟨.int xs.length,H,I.tok _,⟨_,by simp only[List.size_toArray];rw[hlen]⟩,q⟩
 | _=>exact(show False from e).elim
end
end L2
namespace L2
structure ObjM(h:Heap)(x dx C:Addr)(mA:Str->Option Value):Prop where
 obj:h.get? x=some (W.instObj C dx)
 ns:h.Ns1 dx mA
 ne:dx≠x
theorem nU{h:Heap}{dx:Addr}{mA:Str->Option Value}(n:h.Ns1 dx mA):∃ od,h.get? dx=some od/\∀ name,W.lookIn name od=some (mA name):=by
 obtain⟨o,es,ep,ho,hd,hk,_,hm⟩:=n
 refine⟨o,ho,λname=> ?_⟩
 have e:=hm name
 unfold nsFind findBy at e
 rw[<-Array.find?_toList]at e
 unfold W.lookIn
 rw[hd]
 dsimp only
 split
 ·rename_i y q
  rw[q]at e
  exact congrArg some e
 ·rename_i q
  rw[q]at e
  have a:es.toList.any (·.refKey)=false:=by
   rw[List.any_eq_false]
   intro y hy
   obtain⟨z,t,hkey⟩:=hk y (Array.mem_toList_iff.mp hy)
   simp[DictEntry.refKey,hkey]
  have a':¬ es.toList.any (·.refKey)=true:=by rw[a];exact Bool.false_ne_true
  rw[if_neg a']
  exact congrArg some e
theorem ObjM.look{h:Heap}{x dx C:Addr}{mA:Str->Option Value}(I:ObjM h x dx C mA):∃ od,W.InstAt h x (W.instObj C dx) C (some od)/\∀ name,W.lookIn name od=some (mA name) :=
 let ⟨od,ho,hl⟩:=nU I.ns
 ⟨od,⟨I.obj,rfl,rfl,ho⟩,hl⟩
section
variable{prog:Program}{w:World}{A:Around}{E:Value->Shared->Prop}{s:Shared}{K:W.Frag}{x dx C f:Addr}{mA:Str->Option Value}{name:Str}{v:Value}
theorem nX{expr:Bool}{Q:Value->Shared->Prop}(X:K.In s.heap)(I:ObjM s.heap x dx C mA)(hg:W.plainGet K C name=true)(hh:W.hasDictIn K C=true)
  (ha:W.findIn K (.ref C) name=some none) (hv:mA name=some v) (hv':W.handedIn v=true) (h:Q v { s with toks:=s.toks+1 }) :
  wpAny (model prog w) A (getAttr (.ref x) name expr) Q E s:=by
 obtain⟨od,J,hl⟩:=I.look
 exact W.get_value X J (W.plainGet_of hg).1 (W.findObj_own hh ha rfl (by rw[hl,hv])) hv' h
theorem nY{pl:Sem Bool}{Q:Value × List Value->Shared->Prop}(X:K.In s.heap)(I:ObjM s.heap x dx C mA)(hg:W.plainGet K C name=true)
  (hf:W.findIn K (.ref C) name=some (some (.ref f))) (ht:W.isFn K (.ref f)=true) (hv:mA name=none) (h:Q (.ref f,[.ref x]) s) :
  wpAny (model prog w) A (getMethod (.ref x) name pl) Q E s:=by
 obtain⟨od,J,hl⟩:=I.look
 exact W.method_fn X J (W.plainGet_of hg).1 (W.plainGet_of hg).2 hf (beq_iff_eq.mp ht) (by show(W.lookIn name od).map (·.isSome)=some false;rw[hl,hv];rfl) h
theorem nZ{ns:List Str}{Q:Unit->Shared->Prop}(X:K.In s.heap)(I:ObjM s.heap x dx C mA)
  (hs:W.findIn K (.ref C) "__setattr__"=some (some (.builtin "object.__setattr__"))) (hp:W.plainOver K C=true) (ht:W.takerIn K C name=some none) (hh:W.hasDictIn K C=true)
  (hw:PySem.Within mA ns) (hsz:ns.length<=sizeLine)
  (h:∀ h',ObjM h' x dx C (λy=>if y=name then some v else mA y)->Heap.SameBut dx s.heap h'->Q () { s with heap:=h',toks:=s.toks+2 }) :
  wpAny (model prog w) A (setAttr (.ref x) name v) Q E s:=by
 obtain⟨od,J,hl⟩:=I.look
 refine W.set_plain X J hs (W.osa_open (s:={ s with toks:=s.toks+1 }) (r:=none) X J hp ht λb=> ?_)
 obtain⟨cd,hc,hd'⟩:=W.any_some hh
 have hx:s.heap.get? x=some ⟨.ref C,some dx,.plain,#[]⟩:=I.obj
 refine wpAny_bind (wpAny_pure (wpAny_bind (wpAny_bind (wpAny_loadPart hx (wpAny_bind (W.Looks.here (s:={ s with toks:=s.toks+1 }) (W.looks_clsIn X hc) ?_))))))
 rw[hd']
 refine wpAny_pure (a:=some dx) (wpAny_bind (wpAny_pure (wpAny_bind ?_)))
 refine wpAny_nsSet1 (s:={ s with toks:=s.toks+1 }) I.ns λh' hn2 hs2=> ?_
 obtain⟨oD,esD,epD,hoD,hdD,hcD⟩:=hn2.count (PySem.Within.cons name v hw)
 refine wpAny_bind (wpAny_lookBehind hoD (by rw[hdD];exact pastItsLine_dict (Nat.le_trans hcD (by rw[List.length_cons];omega))) ?_)
 exact wpAny_pure (h _ ⟨(hs2.2 _ (Ne.symm I.ne)).trans I.obj,hn2,I.ne⟩ hs2)
theorem n5{R:Result->Shared->Prop}{vs:List Value}{kw:List (Str × Value)}(X:K.In s.heap)(hm:W.makesIn K C=true)
  (hi:W.findIn K (.ref C) "__init__"=some (some (.ref f))) (hf:W.typeIn K (.ref f)=some (.type "function"))
  (h:codeAny (model prog w) (A.under (.builtin "type.__call__" ⟨.ref C::vs,kw⟩)) (.call (.ref f) ⟨.ref (s.heap.objs.size+1)::vs,kw⟩) (W.InitBack (s.heap.objs.size+1) R)
   { s with heap:=(s.heap.push W.emptyDict).push (W.instObj C s.heap.objs.size) }) :
  codeAny (model prog w) A (.call (.ref C) ⟨vs,kw⟩) R s:=by
 obtain⟨hh,g,d,t,os⟩:=s
 exact W.make_core (W.makes_of X hm) (W.looks_findIn X hi) (λself=>W.bind_fn X self hf) (.inl rfl) h
end
def A6(f:Str)(v:V):List (Str × V)->List (Str × V)
 | []=>[(f,v)]
 | (g,x)::r=>if g=f then(g,v)::r else(g,x)::A6 f v r
theorem XV(f g:Str)(v:V):∀ fs:List (Str × V),(A6 f v fs).lookup g=if g=f then some v else fs.lookup g
 | []=>by
  show List.lookup g [(f,v)]=_
  by_cases h:g=f
  ·have hb:(g == f)=true:=beq_iff_eq.mpr h
   simp only[List.lookup,hb,if_pos h]
  ·have hb:(g == f)=false:=beq_eq_false_iff_ne.mpr h
   simp only[List.lookup,hb,if_neg h]
 | (k,x)::r=>by
  have ih:=XV f g v r
  rw[show A6 f v ((k,x)::r)=(if k=f then(k,v)::r else(k,x)::A6 f v r)from rfl]
  by_cases hk:k=f
  ·rw[if_pos hk]
   by_cases h:g=k
   ·have hb:(g == k)=true:=beq_iff_eq.mpr h
    simp only[List.lookup,hb,if_pos (h.trans hk)]
   ·have hb:(g == k)=false:=beq_eq_false_iff_ne.mpr h
    simp only[List.lookup,hb,if_neg (λe:g=f=>h (e.trans hk.symm))]
  ·rw[if_neg hk]
   by_cases h:g=k
   ·have hb:(g == k)=true:=beq_iff_eq.mpr h
    simp only[List.lookup,hb,if_neg (λe:g=f=>hk (h.symm.trans e))]
   ·have hb:(g == k)=false:=beq_eq_false_iff_ne.mpr h
    simp only[List.lookup,hb]
    exact ih
theorem RY(f:Str)(v:V):∀ fs:List (Str × V),f∈(A6 f v fs).map (·.1)/\∀ g,g∈fs.map (·.1)->g∈(A6 f v fs).map (·.1)
 | []=>⟨by simp[A6],λg h=>by simp at h⟩
 | (k,x)::r=>by
  obtain⟨i1,i2⟩:=RY f v r
  rw[show A6 f v ((k,x)::r)=(if k=f then(k,v)::r else(k,x)::A6 f v r)from rfl]
  by_cases hk:k=f
  ·rw[if_pos hk]
   subst hk
   exact⟨by simp,λg h=>by simpa using h⟩
  ·rw[if_neg hk]
   refine⟨?_,λg h=> ?_⟩
   ·rw[List.map_cons]
    exact List.mem_cons_of_mem _ i1
   ·rw[List.map_cons]at h ⊢
    rcases List.mem_cons.mp h with e | e
    ·exact List.mem_cons.mpr (.inl e)
    ·exact List.mem_cons_of_mem _ (i2 g e)
theorem MO(f:Str)(v:V):∀ fs:List (Str × V),(A6 f v fs).length<=fs.length+1
 | []=>by simp[A6]
 | (k,x)::r=>by
  have ih:=MO f v r
  rw[show A6 f v ((k,x)::r)=(if k=f then(k,v)::r else(k,x)::A6 f v r)from rfl]
  by_cases hk:k=f
  ·rw[if_pos hk,List.length_cons,List.length_cons];omega
  ·rw[if_neg hk,List.length_cons,List.length_cons];omega
theorem RelO.some_of{v:V}{o:Option Value}(r:RelO (some v) o):∃ u,o=some u/\RelV v u:=by
 cases o with
 | none=>exact(show False from r).elim
 | some u=>exact⟨u,rfl,r⟩
theorem RelO.none_of{o:Option Value}(r:RelO none o):o=none:=by
 cases o with
 | none=>rfl
 | some u=>exact(show False from r).elim
theorem n6{v:V}{u:Value}(r:RelV v u):W.handedIn u=true:=by
 cases v with
 | non=>cases (show u=Value.none from r);rfl
 | bl b=>cases (show u=Value.bool b from r);rfl
 | int i=>obtain⟨t,e⟩:=(show ∃ t,u=Value.int i t from r);cases e;rfl
 | str x=>obtain⟨t,e⟩:=(show ∃ t,u=Value.str x t from r);cases e;rfl
 | byt b=>obtain⟨t,e⟩:=(show ∃ t,u=Value.bytes b t from r);cases e;rfl
 | flt b=>obtain⟨t,e⟩:=(show ∃ t,u=Value.float b t from r);cases e;rfl
 | ref a=>cases (show u=Value.ref a from r);rfl
 | ty n=>cases (show u=Value.type n from r);rfl
section
variable{P:Program}{w:World}{H H':Hp}{h h':Heap}{a C dx:Addr}{fs fs':List (Str × V)}
theorem PB(hok:HOk P w H h)(e:H a=some (.ins C dx fs)):∃ mA,ObjM h a dx C mA/\(∀ f,RelO (fs.lookup f) (mA f))/\PySem.Within mA (fs.map (·.1))/\fs.length<=1000/\H dx=some (.own a):=by
 obtain⟨d,z,ne,ob,mA,n,r,q⟩:=(show ObjOk P w H h a (.ins C dx fs)from hok a _ e)
 exact⟨mA,⟨ob,n,ne⟩,r,q,z,d⟩
end
structure Cls(K:W.Frag)(C:Addr):Prop where
 pg:W.plainGet K C Str.empty=true
 hd:W.hasDictIn K C=true
 po:W.plainOver K C=true
 sa:W.findIn K (.ref C) "__setattr__"=some (some (.builtin "object.__setattr__"))
theorem Cls.get{K:W.Frag}{C:Addr}(c:Cls K C)(f:Str):W.plainGet K C f=true:=c.pg
def NoAttr(K:W.Frag)(C:Addr)(f:Str):Prop:=W.findIn K (.ref C) f=some none
theorem NoAttr.taker{K:W.Frag}{C:Addr}{f:Str}(n:NoAttr K C f):W.takerIn K C f=some none:=by
 unfold W.takerIn
 rw[show W.findIn K (.ref C) f=some none from n]
 rfl
structure Con(K:W.Frag)(C:Addr)(f:Str)(v:V)(u:Value):Prop where
 at_:W.findIn K (.ref C) f=some (some u)
 rel:RelV v u
 get:W.specialIn K u "__get__"=some none
 cp:W.copiedNames.contains f=false
structure PD(K:W.Frag)(C:Addr)(m:Str)(f:Addr):Prop where
 at_:W.findIn K (.ref C) m=some (some (.ref f))
 fn:W.isFn K (.ref f)=true
 kp:W.keepIn K (.ref f)=true
section
variable{X:Cx}{pins:List (Addr × Obj)}{σ:St}{H:Hp}{s:Shared}{a C dx:Addr}{fs:List (Str × V)}{f:Str}{v:V}{A:Around}{E:Value->Shared->Prop}
theorem oA{b:Bool}{Q:Value->Shared->Prop}(I:Inv X pins σ H s)(e:H a=some (.ins C dx fs))(c:Cls X.K C)(n:NoAttr X.K C f)(l:fs.lookup f=some v)
  (h:∀ u s',Inv X pins σ H s'->RelV v u->Q u s'):wpAny (model X.prog X.w) A (getAttr (.ref a) f b) Q E s:=by
 obtain⟨mA,O,r,_,_,_⟩:=PB I.hok e
 obtain⟨u,hu,ru⟩:=RelO.some_of (v:=v) (o:=mA f) (by rw[<-l];exact r f)
 exact nX I.kIn O (c.get f) c.hd n hu (n6 ru) (h u _ (I.tok _) ru)
theorem XW{m:Str}{g:Addr}{pl:Sem Bool}{Q:Value × List Value->Shared->Prop}(I:Inv X pins σ H s)(e:H a=some (.ins C dx fs))(c:Cls X.K C)(k:PD X.K C m g)(l:fs.lookup m=none)
  (h:Q (.ref g,[.ref a]) s):wpAny (model X.prog X.w) A (getMethod (.ref a) m pl) Q E s:=by
 obtain⟨mA,O,r,_,_,_⟩:=PB I.hok e
 have hn:mA m=none:=RelO.none_of (by rw[<-l];exact r m)
 exact nY I.kIn O (c.get m) k.at_ k.fn hn h
theorem oB{y:V}{u:Value}{Q:Unit->Shared->Prop}(I:Inv X pins σ H s)(e:H a=some (.ins C dx fs))(c:Cls X.K C)(n:NoAttr X.K C f)(hl:fs.length<1000)(ry:RelV y u)
  (h:∀ s',Inv X pins σ (upd H a (.ins C dx (A6 f y fs))) s'->Q () s'):wpAny (model X.prog X.w) A (setAttr (.ref a) f u) Q E s:=by
 obtain⟨mA,O,r,wi,_,ho⟩:=PB I.hok e
 have hz:(fs.map (·.1)).length<=sizeLine:=by rw[List.length_map,sizeLine_eq];omega
 refine nZ I.kIn O c.sa c.po n.taker c.hd wi hz λh' O' sb=>h _ ?_
 have hd:∃ o,h'.get? dx=some o:=let ⟨o,_,_,e',_⟩:=O'.ns;⟨o,e'⟩
 refine I.write (x:=a) (e:=dx) (by rw[e];exact True.intro) (.inr ho) (λb q hb z=>(sb.2 b hb).trans z) hd ?_
 refine⟨by rw[AM O.ne];exact ho,?_,O.ne,O'.obj,_,O'.ns,λg=> ?_,λg hg=> ?_⟩
 ·have:=MO f y fs;omega
 ·show RelO ((A6 f y fs).lookup g) (if g=f then some u else mA g)
  rw[XV]
  by_cases q:g=f
  ·rw[if_pos q,if_pos q];exact ry
  ·rw[if_neg q,if_neg q];exact r g
 ·by_cases q:g=f
  ·rw[q];exact(RY f y fs).1
  ·refine(RY f y fs).2 g (wi g λz=>hg ?_)
   show(if g=f then some u else mA g)=none
   rw[if_neg q];exact z
theorem Inv.made(I:Inv X pins σ H s):Inv X pins σ (upd (upd H s.heap.objs.size (.own (s.heap.objs.size+1))) (s.heap.objs.size+1) (.ins C s.heap.objs.size []))
  { s with heap:=(s.heap.push W.emptyDict).push (W.instObj C s.heap.objs.size) }:=by
 have e1:(s.heap.push W.emptyDict).get? s.heap.objs.size=some W.emptyDict:=Heap.get?_push_size s.heap rfl
 have e2:((s.heap.push W.emptyDict).push (W.instObj C s.heap.objs.size)).get? (s.heap.objs.size+1)=some (W.instObj C s.heap.objs.size):=by
  have:=Heap.get?_push_size (s.heap.push W.emptyDict) (o:=W.instObj C s.heap.objs.size) rfl
  rwa [Heap.size_push]at this
 have e3:(s.heap.push W.emptyDict).Ns s.heap.objs.size (λ_=>none):=⟨W.emptyDict,#[],_,e1,rfl,(λe he=>absurd he (by simp)),λ_=>rfl⟩
 have I1:=I.laid (a:=s.heap.objs.size) (o:=.own (s.heap.objs.size+1)) (h':=s.heap.push W.emptyDict) (t':=s.toks) (λb u q=>Heap.get?_push_of_some _ q) (Nat.le_refl _) ⟨_,e1⟩
 refine I1.laid (a:=s.heap.objs.size+1) (o:=.ins C s.heap.objs.size []) (t':=s.toks) (λb u q=>Heap.get?_push_of_some _ q) (Nat.le_of_eq (Heap.size_push _ _)) ?_
 have ne:s.heap.objs.size≠s.heap.objs.size+1:=Nat.ne_of_lt (Nat.lt_succ_self _)
 refine⟨by rw[AM ne,AJ],Nat.zero_le _,ne,e2,λ_=>none,(Heap.Ns1.of_empty e3).at λo q=>Heap.get?_push_of_some _ q,λ_=>True.intro,λy hy=>absurd rfl hy⟩
theorem oC{prog:Program}{w:World}{env:Env}{e:Expr}{f:Str}{pos:Pos}{s:Shared}{Q:Value->Shared->Prop}(hb:attributeBase e f env (eval e env)=eval e env)
  (h:wpAny (model prog w) A (eval e env) (λo s₁=>wpAny (model prog w) A (getAttr o f true) Q E s₁) E s):wpAny (model prog w) A (eval (.Attribute e f pos) env) Q E s :=
 Attribute_any_ h (by rw[arm_eval_Attribute,hb])
end
def A1(K:W.Frag)(ta:TE)(f:Str):TE:=λσ H Q=>ta σ H λx H1=>∃ a C dx fs v,x=.ref a/\H1 a=some (.ins C dx fs)/\Cls K C/\NoAttr K C f/\fs.lookup f=some v/\Q v H1
def DG(K:W.Frag)(ta tv:TE)(f:Str):TS:=λD σ H=>tv σ H λy H1=>ta σ H1 λx H2=>∃ a C dx fs,x=.ref a/\H2 a=some (.ins C dx fs)/\Cls K C/\NoAttr K C f/\fs.length<1000 ∧
 D.nx σ (upd H2 a (.ins C dx (A6 f y fs)))
section
variable{X:Cx}{o e value:Expr}{f:Str}{pos pos' tpos:Pos}{ta tv:TE}
theorem A4(he:PE X e ta)(hb:attributeBase e f X.env (eval e X.env)=eval e X.env):PE X (.Attribute e f pos) (A1 X.K ta f):=by
 intro pins s σ H Q I h
 refine oC hb (AT (he pins s σ H _ I h) λu s1 ⟨x,H1,I1,rx,a,C,dx,fs,v,ex,ea,c,n,l,q⟩=> ?_)
 subst ex
 obtain rfl:u=Value.ref a:=rx
 exact oA I1 ea c n l λu' s2 I2 ru=>⟨v,H1,I2,ru,q⟩
theorem DT(ha:PE X o ta)(hv:PE X value tv)(hs:swapsWith value (some (.Attribute o f pos')) pos.line X.env=pure false):PS X (.Assign [.Attribute o f pos'] value pos) (DG X.K ta tv f):=by
 intro pins s σ H D I h
 refine plainObj_wpAny_Assign_Attribute (AT (hv pins s σ H _ I h) λu s1 ⟨y,H1,I1,ry,q⟩=>AT (ha pins s1 σ H1 _ I1 q) λov s2 ⟨x,H2,I2,rx,a,C,dx,fs,ex,ea,c,n,l,q2⟩=> ?_) hs
 subst ex
 obtain rfl:ov=Value.ref a:=rx
 exact oB I2 ea c n l ry λs3 I3=>⟨σ,_,I3,q2⟩
end
section
variable{X:Cx}{pins:List (Addr × Obj)}{σ:St}{H:Hp}{s:Shared}{A:Around}{E:Value->Shared->Prop}{Q:Value->Shared->Prop}{c:Value}{b:Bool}
inductive FB(K:W.Frag)(H:Hp):V->Value->Prop where
 | non:FB K H .non (.type "NoneType")
 | bl (x:Bool):FB K H (.bl x) (.type "bool")
 | int (i:Int):FB K H (.int i) (.type "int")
 | str (x:Str):FB K H (.str x) (.type "str")
 | flt (x:UInt64):FB K H (.flt x) (.type "float")
 | lst {a:Addr} {xs:List V} (e:H a=some (.lst xs)):FB K H (.ref a) (.type "list")
 | frz {a:Addr} {o:Obj} {xs:List V} (e:H a=some (.frz o (.lst xs))):FB K H (.ref a) (.type "list")
 | tup {a:Addr} {xs:List V} (e:H a=some (.tup xs)):FB K H (.ref a) (.type "tuple")
 | dK {a:Addr} {kvs:List (AS × V)} (e:H a=some (.dK kvs)):FB K H (.ref a) (.type "dict")
 | dT {a:Addr} {kvs:List (List AS × V)} (e:H a=some (.dT kvs)):FB K H (.ref a) (.type "dict")
 | ins {a C dx:Addr} {fs:List (Str × V)} (e:H a=some (.ins C dx fs)) (cl:Cls K C) (ha:W.findIn K (.ref C) "__class__"=some (some (.builtin "object.__class__")))
   (hn:W.specialIn K (.builtin "object.__class__") "__get__"=some (some (.builtin "getset_descriptor.__get__"))) (htk:W.takesIn K (.builtin "object.__class__")=some true)
   (hm:W.mroIn K C (.type "object")=some true):FB K H (.ref a) (.ref C)
end
end L2
namespace L2
structure Room(k:Nat)(A:Around):Prop where
 hd:A.handled=none
 dp:A.depth+3 * k+5<recursionLimit
 un:A.units+16 * k+200<cLine
theorem Room.mono{j k:Nat}{A:Around}(r:Room k A)(h:j<=k):Room j A:=⟨r.hd,by have:=r.dp;omega,by have:=r.un;omega⟩
theorem Room.deeper{k:Nat}{A:Around}(r:Room (k+1) A)(env:Env):Room k (A.deeper env) :=
 ⟨r.hd,by have:=r.dp;show A.depth+1+3 * k+5<_;omega,by have:=r.un;show A.units+3+16 * k+200<_;omega⟩
theorem oE{A:Around}{C:Addr}{us:List Value}{kw:List (Str × Value)}:(A.under (.builtin "type.__call__" ⟨.ref C::us,kw⟩)).depth=A.depth+1:=by
 first | rfl | simp[Around.under,Code.weight,Code.isCreation,Code.isGuard,Code.isCaller,Code.frames,Code.isFrame,guardIds]
theorem oF{A:Around}{C:Addr}{us:List Value}{kw:List (Str × Value)}:(A.under (.builtin "type.__call__" ⟨.ref C::us,kw⟩)).units=A.units+1:=by
 first | rfl | simp[Around.under,Code.cUnits,Code.frames,Code.isFrame]
theorem Room.make{k:Nat}{A:Around}(r:Room (k+1) A)(C:Addr)(us:List Value)(kw:List (Str × Value)):Room k (A.under (.builtin "type.__call__" ⟨.ref C::us,kw⟩)) :=
 ⟨r.hd,by have:=r.dp;rw[oE];omega,by have:=r.un;rw[oF];omega⟩
theorem Room.depth{k:Nat}{A:Around}(r:Room k A):A.depth<recursionLimit:=by have:=r.dp;omega
theorem Room.units{k:Nat}{A:Around}(r:Room k A):A.units+64<cLine:=by have:=r.un;omega
def AF:TA:=λ_ H Q=>Q [] H
def AC(ta:TE)(tr:TA):TA:=λσ H Q=>ta σ H λx H1=>tr σ H1 λxs H2=>Q (x::xs) H2
section
variable{X:Cx}{e:Expr}{es:List Expr}{te:TE}{t:TA}{pos:Pos}
theorem AG:PA X [] AF:=λ_ _ _ _ H Q I h=>Calls.spliced_nil ⟨[],H,I,.nil,h⟩
theorem AD(ha:PE X e te)(hr:PA X es t)(hs:starEach (e::es) X.env=(false,eval e X.env)::starEach es X.env:=by rfl):PA X (e::es) (AC te t):=by
 intro pos pins s σ H Q I h
 rw[hs]
 show wpAny _ _ (spliced ((false,eval e X.env)::backTo pos (starEach es X.env))) _ _ s
 refine Calls.spliced_cons (AT (ha pins s σ H _ I h) λu s1 ⟨x,H1,I1,r1,q1⟩=> ?_)
 exact AT (hr pos pins s1 σ H1 _ I1 q1) λus s2 ⟨xs,H2,I2,r2,q2⟩=>⟨x::xs,H2,I2,.cons r1 r2,q2⟩
def EE(t:TA):TE:=λσ H Q=>t σ H λxs H1=>xs.length<=sizeLine/\∀ p,H1 p=none->Q (.ref p) (upd H1 p (.tup xs))
def B2(t:TA):TE:=λσ H Q=>t σ H λxs H1=>xs.length<=sizeLine/\∀ p,H1 p=none->Q (.ref p) (upd H1 p (.lst xs))
theorem EW{x1}(h:PA X es t):PE X (.Tuple es x1 pos) (EE t):=by
 intro pins s σ H Q I hq
 refine wpAny_Tuple_spliced (AT (h pos pins s σ H _ I hq) λus s1 ⟨xs,H1,I1,r,z,q⟩=>⟨by rw[<-r.length];exact z,?_⟩)
 have hf:H1 s1.heap.objs.size=none:=I1.hok.fresh (Nat.le_refl _)
 refine⟨.ref s1.heap.objs.size,upd H1 s1.heap.objs.size (.tup xs),I1.laid (t':=s1.toks) (λb u e=>Heap.get?_push_of_some _ e) (Nat.le_refl _) ?_,rfl,q _ hf⟩
 exact⟨z,us,r,⟨_,Heap.get?_push_size _ rfl,rfl,_,rfl⟩⟩
theorem B6(h:PA X es t):PE X (.List es pos) (B2 t):=by
 intro pins s σ H Q I hq
 refine wpAny_List_spliced (AT (h pos pins s σ H _ I hq) λus s1 ⟨xs,H1,I1,r,z,q⟩=>⟨by rw[<-r.length];exact z,?_⟩)
 have hf:H1 s1.heap.objs.size=none:=I1.hok.fresh (Nat.le_refl _)
 refine⟨.ref s1.heap.objs.size,upd H1 s1.heap.objs.size (.lst xs),I1.laid (t':=s1.toks) (λb u e=>Heap.get?_push_of_some _ e) (Nat.le_refl _) ?_,rfl,q _ hf⟩
 exact⟨z,us,0,r,Heap.get?_push_size _ rfl⟩
end
abbrev Sp:=List V->Hp->VK->XK->Prop
abbrev FC:=List Env->Hp->Shared->XK->Value->Shared->Prop
structure Env0(P:Program)(w:World)(K:W.Frag)(mg:Str->Option Value)(base:Heap)(A:Around)(outer:List Env)(s:Shared)(H:Hp):Prop where
 frames:A.frames=some outer
 mod:Mod K mg base
 bs:∀ b o,base.get? b=some o->s.heap.get? b=some o/\H b=none
 bsz:base.objs.size<=s.heap.objs.size
 funs:s.heap.FunFrames base outer
 frf:∀ b∈DB outer,H b=none
 hok:HOk P w H s.heap
 bare:AllBare s.gens
def CE(outer:List Env)(P:Program)(w:World)(H:Hp)(s:Shared)(Q:VK)(u:Value)(s':Shared):Prop :=
 ∃ v H',s'.os=s.os/\AllBare s'.gens/\Un (DB outer) [] H H' s.heap s'.heap/\HOk P w H' s'.heap/\RelV v u/\Q v H'
def CR(CX:FC)(outer:List Env)(P:Program)(w:World)(H:Hp)(s:Shared)(Q:VK)(E:XK)(r:Result)(s':Shared):Prop :=
 match r with
 | .ok (.ret u)=>CE outer P w H s Q u s'
 | .ok _=>False
 | .error e=>CX outer H s E e s'
structure FnOk(P:Program)(w:World)(K:W.Frag)(mg:Str->Option Value)(base:Heap)(CX:FC)(k:Nat)(f:Addr)(fd:FuncData)(ps:List Str)(sp:Sp):Prop where
 len:∀ vs H Q E,sp vs H Q E->vs.length=ps.length
 run:∀ (A:Around) (outer:List Env) (s:Shared) (H:Hp) (args:Args) (us:List Value) (vs:List V) (Q:VK) (E:XK),Room k A->Env0 P w K mg base A outer s H->BindsTo s fd args (ps.zip us)->Vals vs us->sp vs H Q E →
  codeAny (model P w) A (.call (.ref f) args) (CR CX outer P w H s Q E) s
theorem FnOk.imp{P:Program}{w:World}{K:W.Frag}{mg:Str->Option Value}{base:Heap}{CX:FC}{k:Nat}{f:Addr}{fd:FuncData}{ps:List Str}{sp sp':Sp}(F:FnOk P w K mg base CX k f fd ps sp)
  (h:∀ vs H Q E,sp' vs H Q E->sp vs H Q E):FnOk P w K mg base CX k f fd ps sp' :=
 ⟨λvs H Q E q=>F.len vs H Q E (h _ _ _ _ q),λA outer s H args us vs Q E hr he hb hv hs=>F.run A outer s H args us vs Q E hr he hb hv (h _ _ _ _ hs)⟩
theorem Env0.make{P:Program}{w:World}{K:W.Frag}{mg:Str->Option Value}{base:Heap}{A:Around}{outer:List Env}{s:Shared}{H:Hp}(e:Env0 P w K mg base A outer s H)(C:Addr)(us:List Value)(kw:List (Str × Value)) :
  Env0 P w K mg base (A.under (.builtin "type.__call__" ⟨.ref C::us,kw⟩)) outer s H:=⟨by first | exact e.frames | (simpa [Around.under,Code.envs,Code.isFrame,pushEnvs]using e.frames),e.mod,e.bs,e.bsz,e.funs,e.frf,e.hok,e.bare⟩
section
variable{X:Cx}{pins:List (Addr × Obj)}{σ:St}{H:Hp}{s s':Shared}
theorem Inv.env0(I:Inv X pins σ H s):Env0 X.prog X.w X.K X.mg X.base X.A X.stack s H :=
 ⟨I.ok.frames,I.ok.mod,I.bs,Nat.le_trans I.ok.bsz I.sz,I.stack,I.stkFree,I.hok,I.bare⟩
theorem Inv.after{Q:VK}{u:Value}(I:Inv X pins σ H s)(h:CE X.stack X.prog X.w H s Q u s'):EP X pins σ Q u s':=by
 obtain⟨v,H',os,bare,un,hok,r,q⟩:=h
 obtain⟨hh,g,d,t,os'⟩:=s'
 obtain rfl:os'=s.os:=os
 exact⟨v,H',I.call (h':=hh) (g':=g) (d':=d) (t':=t) (ch:=[]) un hok bare (λb z=>absurd z (by simp)),r,q⟩
end
def CQ(sp:Sp)(dvs:List V)(E:St->XK)(t:TA):TE:=λσ H Q=>t σ H λvs H1=>sp (vs++dvs) H1 Q (E σ)
def AW(C:Addr)(m:Str)(sp:Sp)(dvs:List V)(E:St->XK)(ta:TE)(t:TA):TE:=λσ H Q=>ta σ H λx H1=>∃ a dx fs,x=.ref a/\H1 a=some (.ins C dx fs)/\fs.lookup m=none ∧
 t σ H1 λvs H2=>sp (x::(vs++dvs)) H2 Q (E σ)
def HI(C:Addr)(sp:Sp)(dvs:List V)(E:St->XK)(t:TA):TE:=λσ H Q=>t σ H λvs H1=>∀ x dx,H1 x=none->H1 dx=none->dx≠x →
 sp (.ref x::(vs++dvs)) (upd (upd H1 dx (.own x)) x (.ins C dx [])) (λv H2=>v=.non/\Q (.ref x) H2) (E σ)
def Binds(K:W.Frag)(fd:FuncData)(ps:List Str)(ds:List Value):Prop :=
 ∀ (s:Shared) (us:List Value),K.In s.heap->(us++ds).length=ps.length->BindsTo s fd ⟨us,[]⟩ (ps.zip (us++ds))
theorem Binds.all{K:W.Frag}{fd:FuncData}{ps:List Str}(h:∀ us:List Value,us.length=ps.length->bindArgs fd ⟨us,[]⟩=pure (ps.zip us)):Binds K fd ps []:=λs us _ hl=>by
 rw[List.append_nil]at hl ⊢
 exact .of_eq (h us hl)
def FD(CX:FC)(X:Cx)(E:St->XK):Prop:=∀ (pins:List (Addr × Obj)) (σ:St) (H:Hp) (s:Shared) (e:Value) (s':Shared),Inv X pins σ H s->CX X.stack H s (E σ) e s'->X.xe e s'
section
variable{X:Cx}{CX:FC}{k:Nat}{f C:Addr}{fd:FuncData}{ps:List Str}{sp:Sp}{dvs:List V}{ds:List Value}{E:St->XK}{x m:Str}{p pos apos:Pos}{e o:Expr}{es:List Expr}{ta:TE}{t:TA}
theorem RZ{pins:List (Addr × Obj)}{σ:St}{H:Hp}{s:Shared}{Q:VK}{us:List Value}{vs:List V}(F:FnOk X.prog X.w X.K X.mg X.base CX k f fd ps sp)(hr:Room k X.A)(hb:Binds X.K fd ps ds)(hd:Vals dvs ds)(hx:FD CX X E)
  (I:Inv X pins σ H s) (r:Vals vs us) (h:sp (vs++dvs) H Q (E σ)):wpAny (model X.prog X.w) X.A (call (.ref f) us) (EP X pins σ Q) X.xe s:=by
 have r2:Vals (vs++dvs) (us++ds):=r.append hd
 have hl:(us++ds).length=ps.length:=by rw[<-r2.length];exact F.len _ _ _ _ h
 refine wpAny_call (codeAny_mono (F.run X.A X.stack s H ⟨us,[]⟩ (us++ds) (vs++dvs) Q (E σ) hr I.env0 (hb s us I.kIn hl) r2 h) λr s' hq=> ?_)
 cases r with
 | error e=>exact hx pins σ H s e s' I hq
 | ok fl =>
  cases fl with
  | ret u=>exact I.after hq
  | next=>exact False.elim hq
  | brk=>exact False.elim hq
  | cont=>exact False.elim hq
theorem oG(F:FnOk X.prog X.w X.K X.mg X.base CX k f fd ps sp)(hr:Room k X.A)(hg:Gl X x)(hm:X.mg x=some (.ref f))(hk:W.keepIn X.K (.ref f)=true)(hb:Binds X.K fd ps ds)(hd:Vals dvs ds)(hx:FD CX X E)
  (ha:PA X (e::es) t) (hdb:(x ==("__debug__":Str))=false:=by decide) (he:starEach (e::es) X.env=(false,eval e X.env)::starEach es X.env:=by rfl) (hpl:(backTo pos (starEach es X.env)).any (·.1)=false:=by rfl) :
  PE X (.Call (.Name x p) (e::es) [] pos) (CQ sp dvs E t):=by
 intro pins s σ H Q I h
 refine wpAny_Call_Name_kw (MG I hg hm ?_ hdb)
 refine W.callWith_K (h₀:=X.base) I.ok.mod.kin hk (AT (ha pos pins s σ H _ I h) λus s1 ⟨vs,H1,I1,r,q⟩=>⟨I1.kIn,?_⟩) he hpl
 exact RZ F hr hb hd hx I1 r q
theorem oH{pl:Sem Bool}(he:PE X o ta)(c:Cls X.K C)(hm:PD X.K C m f)(F:FnOk X.prog X.w X.K X.mg X.base CX k f fd ps sp)(hr:Room k X.A)(hb:Binds X.K fd ps ds)(hd:Vals dvs ds)(hx:FD CX X E)(ha:PA X (e::es) t)
  (hst:starEach (e::es) X.env=(false,eval e X.env)::starEach es X.env:=by rfl) (hpl:(backTo pos (starEach es X.env)).any (·.1)=false:=by rfl)
  (ht:eval (.Call (.Attribute o m apos) (e::es) [] pos) X.env=(do
   let ov ← eval o X.env
   standAt apos.atName
   let (f,first) ← holding [ov] (getMethod ov m pl)
   callWith pos f first (backTo pos (starEach (e::es) X.env)) (backToKw pos (keywordEach [] X.env))):=by rfl) :
  PE X (.Call (.Attribute o m apos) (e::es) [] pos) (AW C m sp dvs E ta t):=by
 intro pins s σ H Q I h
 refine W.methodCall_KW (pl:=pl) (AT (he pins s σ H _ I h) λu s1 ⟨x,H1,I1,rx,a,dx,fs,ex,ea,l,q⟩=> ?_) ht
 subst ex
 obtain rfl:u=Value.ref a:=rx
 refine XW I1 ea c hm l ?_
 refine W.callWith_K (first:=[.ref a]) (h₀:=X.base) I.ok.mod.kin hm.kp (AT (ha pos pins s1 σ H1 _ I1 q) λus s2 ⟨vs,H2,I2,r,q2⟩=>⟨I2.kIn,?_⟩) hst hpl
 exact RZ (us:=.ref a::us) (vs:=.ref a::vs) F hr hb hd hx I2 (.cons rfl r) q2
theorem oI{pl:Sem Bool}(he:PE X o ta)(c:Cls X.K C)(hm:PD X.K C m f)(F:FnOk X.prog X.w X.K X.mg X.base CX k f fd ps sp)(hr:Room k X.A)(hb:Binds X.K fd ps ds)(hd:Vals dvs ds)(hx:FD CX X E)
  (ht:eval (.Call (.Attribute o m apos) [] [] pos) X.env=(do
   let ov ← eval o X.env
   standAt apos.atName
   let (f,first) ← holding [ov] (getMethod ov m pl)
   callWith pos f first (backTo pos (starEach [] X.env)) (backToKw pos (keywordEach [] X.env))):=by rfl) :
  PE X (.Call (.Attribute o m apos) [] [] pos) (AW C m sp dvs E ta AF):=by
 intro pins s σ H Q I h
 refine W.methodCall_KW (pl:=pl) (AT (he pins s σ H _ I h) λu s1 ⟨x,H1,I1,rx,a,dx,fs,ex,ea,l,q⟩=> ?_) ht
 subst ex
 obtain rfl:u=Value.ref a:=rx
 refine XW I1 ea c hm l ?_
 exact W.callWith_K0 (first:=[.ref a]) I1.kIn hm.kp (RZ (us:=[.ref a]) (vs:=[.ref a]) F hr hb hd hx I1 (.cons rfl .nil) q)
structure Mk(K:W.Frag)(C f:Addr):Prop where
 makes:W.makesIn K C=true
 init:W.findIn K (.ref C) "__init__"=some (some (.ref f))
 fn:W.isFn K (.ref f)=true
 kp:W.keepIn K (.ref C)=true
theorem oJ{pins:List (Addr × Obj)}{σ:St}{H:Hp}{s:Shared}{Q:VK}{us:List Value}{vs:List V}(M:Mk X.K C f)(F:FnOk X.prog X.w X.K X.mg X.base CX k f fd ps sp)(hr:Room (k+1) X.A)(hb:Binds X.K fd ps ds)(hd:Vals dvs ds)
  (hx:FD CX X E) (I:Inv X pins σ H s) (r:Vals vs us)
  (h:∀ x dx,H x=none->H dx=none->dx≠x->sp (.ref x::(vs++dvs)) (upd (upd H dx (.own x)) x (.ins C dx [])) (λv H2=>v=.non/\Q (.ref x) H2) (E σ)) :
  wpAny (model X.prog X.w) X.A (call (.ref C) us) (EP X pins σ Q) X.xe s:=by
 have hq:=h (s.heap.objs.size+1) s.heap.objs.size (I.hok.fresh (Nat.le_succ _)) (I.hok.fresh (Nat.le_refl _)) (Nat.ne_of_lt (Nat.lt_succ_self _))
 have I2:=Inv.made (C:=C) I
 have r2:Vals (V.ref (s.heap.objs.size+1)::(vs++dvs)) (Value.ref (s.heap.objs.size+1)::(us++ds)):=.cons rfl (r.append hd)
 have hl:(Value.ref (s.heap.objs.size+1)::us++ds).length=ps.length:=by
  have e:=r2.length
  rw[F.len _ _ _ _ hq]at e
  exact e.symm
 refine wpAny_call (n5 (f:=f) I.kIn M.makes M.init (beq_iff_eq.mp M.fn) (codeAny_mono (F.run _ X.stack _ _ ⟨Value.ref (s.heap.objs.size+1)::us,[]⟩ (Value.ref (s.heap.objs.size+1)::(us++ds)) _ _ (E σ) (hr.make C us [])
  (I2.env0.make C us []) (hb _ (Value.ref (s.heap.objs.size+1)::us) I2.kIn hl) r2 hq) λr s' hq'=> ?_))
 cases r with
 | error e=>exact hx pins σ _ _ e s' I2 hq'
 | ok fl =>
  cases fl with
  | ret u =>
   obtain⟨v,H',I3,rv,ev,q3⟩:=I2.after hq'
   subst ev
   exact⟨rv,⟨V.ref (s.heap.objs.size+1),H',I3,rfl,q3⟩⟩
  | next=>exact False.elim hq'
  | brk=>exact False.elim hq'
  | cont=>exact False.elim hq'
theorem oK(M:Mk X.K C f)(F:FnOk X.prog X.w X.K X.mg X.base CX k f fd ps sp)(hr:Room (k+1) X.A)(hg:Gl X x)(hm:X.mg x=some (.ref C))(hb:Binds X.K fd ps ds)(hd:Vals dvs ds)(hx:FD CX X E)
  (ha:PA X (e::es) t) (hdb:(x ==("__debug__":Str))=false:=by decide) (he:starEach (e::es) X.env=(false,eval e X.env)::starEach es X.env:=by rfl) (hpl:(backTo pos (starEach es X.env)).any (·.1)=false:=by rfl) :
  PE X (.Call (.Name x p) (e::es) [] pos) (HI C sp dvs E t):=by
 intro pins s σ H Q I h
 refine wpAny_Call_Name_kw (MG I hg hm ?_ hdb)
 refine W.callWith_K (h₀:=X.base) I.ok.mod.kin M.kp (AT (ha pos pins s σ H _ I h) λus s1 ⟨vs,H1,I1,r,q⟩=>⟨I1.kIn,?_⟩) he hpl
 exact oJ M F hr hb hd hx I1 r q
end
section
variable{X:Cx}{CX:FC}{k:Nat}{f C:Addr}{fd:FuncData}{ps ks:List Str}{sp:Sp}{E:St->XK}{x m:Str}{p pos apos kpos:Pos}{e o:Expr}{es:List Expr}{kws:List Keyword}{te ta:TE}{t tk:TA}{nm:Option Str}
structure zcj(K:W.Frag)(fd:FuncData)(ps ks:List Str)(g:List Value->List Value->List Value)(gV:List V->List V->List V):Prop where
 to:∀ (s:Shared) (us ws:List Value),K.In s.heap->(g us ws).length=ps.length->BindsTo s fd ⟨us,ks.zip ws⟩ (ps.zip (g us ws))
 rel:∀ {vs:List V} {us:List Value} {zs:List V} {ws:List Value},Vals vs us->Vals zs ws->Vals (gV vs zs) (g us ws)
variable{g:List Value->List Value->List Value}{gV:List V->List V->List V}
end
structure FnScope(N P:List Str)(sc:Scope):Prop where
 kind:sc.kind=.function
 co:sc.isCoroutine=false
 gen:sc.isGenerator=false
 nd:N.Nodup
 pre:N.take P.length=P
 par:∀ x∈P,sc.names.lookup x=some .local\/sc.names.lookup x=some .cell
 nofree:∀ y∈sc.names,y.2≠.free
theorem XX{kindOf:Str->Option NameKind}{x:Str}:∀ {binds:List (Str × Value)} {m:Str->Option Value},(∀ v,(x,v)∉binds)->bindL kindOf binds m x=m x
 | [],_,_=>rfl
 | (n,v)::r,m,h=>by
  unfold bindL
  rw[XX λw hw=>h w (List.mem_cons_of_mem _ hw)]
  split
  ·have:x≠n:=by rintro rfl;exact h v List.mem_cons_self
   simp[this]
  ·rfl
theorem XY{kindOf:Str->Option NameKind}{x:Str}:∀ {binds:List (Str × Value)} {m:Str->Option Value},(∀ v,(x,v)∉binds)->bindC kindOf binds m x=m x
 | [],_,_=>rfl
 | (n,v)::r,m,h=>by
  unfold bindC
  rw[XY λw hw=>h w (List.mem_cons_of_mem _ hw)]
  split
  ·rfl
  ·have:x≠n:=by rintro rfl;exact h v List.mem_cons_self
   simp[this]
theorem XZ{kindOf:Str->Option NameKind}{x:Str}{v:Value}:∀ {P:List Str} {vs:List Value} {i:Nat} {m:Str->Option Value},P.Nodup->P[i]? =some x->vs[i]? =some v->kindOf x=some .local →
  bindL kindOf (P.zip vs) m x=some v
 | [],_,_,_,_,h,_,_=>by simp at h
 | _::_,[],_,_,_,_,h,_=>by simp at h
 | p::P,w::vs,0,m,nd,h1,h2,hk=>by
  simp at h1 h2;subst h1;subst h2
  show bindL kindOf ((p,w)::P.zip vs) m p=_
  unfold bindL
  rw[XX λv hv=>(List.nodup_cons.mp nd).1 (List.of_mem_zip hv).1,if_pos hk]
  simp
 | p::P,w::vs,i+1,m,nd,h1,h2,hk=>by
  show bindL kindOf ((p,w)::P.zip vs) m x=_
  unfold bindL
  exact XZ (i:=i) (List.nodup_cons.mp nd).2 (by simpa using h1) (by simpa using h2) hk
theorem X0{kindOf:Str->Option NameKind}{x:Str}{v:Value}:∀ {P:List Str} {vs:List Value} {i:Nat} {m:Str->Option Value},P.Nodup->P[i]? =some x->vs[i]? =some v->kindOf x≠some .local →
  bindC kindOf (P.zip vs) m x=some v
 | [],_,_,_,_,h,_,_=>by simp at h
 | _::_,[],_,_,_,_,h,_=>by simp at h
 | p::P,w::vs,0,m,nd,h1,h2,hk=>by
  simp at h1 h2;subst h1;subst h2
  show bindC kindOf ((p,w)::P.zip vs) m p=_
  unfold bindC
  rw[XY λv hv=>(List.nodup_cons.mp nd).1 (List.of_mem_zip hv).1,if_neg hk]
  simp
 | p::P,w::vs,i+1,m,nd,h1,h2,hk=>by
  show bindC kindOf ((p,w)::P.zip vs) m x=_
  unfold bindC
  exact X0 (i:=i) (List.nodup_cons.mp nd).2 (by simpa using h1) (by simpa using h2) hk
def A7(N:List Str)(vs:List V):St:=vs.map some++List.replicate (N.length - vs.length) none
def GW(CX:FC)(P:Program)(w:World)(K:W.Frag)(mg:Str->Option Value)(base:Heap)(N:List Str)(qual:Str)(scope:Scope)(f:Addr)(cd:Value)(A:Around)(outer:List Env)(s:Shared)(H:Hp)(E:XK):Cx where
 prog:=P
 w:=w
 K:=K
 mg:=mg
 base:=base
 A:=A.deeper (envOfC qual scope s.heap.objs.size f cd)
 N:=N
 s₀:=s
 H₀:=H
 env:=envOfC qual scope s.heap.objs.size f cd
 outer:=outer
 stack:=envOfC qual scope s.heap.objs.size f cd::outer
 ex:=[]
 calm:=true
 fn:=λ_=>true
 pn:=[]
 xe:=λe s'=>wpAny (model P w) (A.deeper (envOfC qual scope s.heap.objs.size f cd)) (leaving (envOfC qual scope s.heap.objs.size f cd) e) (λ_ s''=>CX outer H s E e s'') (λe' s''=>CX outer H s E e' s'') s'
theorem X1{sc:Scope}{n:Nat}{x:Str}(h:sc.names.lookup x=some .cell):∃ c,(cellsFrom n sc.names []).lookup x=some c:=by
 have q:=W.cellsFrom_some sc.names n [] (.inl h)
 exact Option.isSome_iff_exists.mp q
theorem oM{CX:FC}{P:Program}{w:World}{K:W.Frag}{mg:Str->Option Value}{base:Heap}{N ps:List Str}{qual:Str}{scope:Scope}{f:Addr}{cd:Value}{A:Around}{outer:List Env}{s s1:Shared}{H:Hp}{E:XK}{us:List Value}{vs:List V}
  (S:FnScope N ps scope) (hd:A.handled=none) (e0:Env0 P w K mg base A outer s H) (hl:vs.length=ps.length) (r:Vals vs us)
  (x:InCallC s s.heap.objs.size (bindL (envOfC qual scope s.heap.objs.size f cd).kindOf (ps.zip us) λ_=>none) (cellsFrom (s.heap.objs.size+1) scope.names []) (bindC (envOfC qual scope s.heap.objs.size f cd).kindOf (ps.zip us) λ_=>none) s1) :
  Inv (GW CX P w K mg base N qual scope f cd A outer s H E) [] (A7 N vs) H s1:=by
 have hpl:ps.length<=N.length:=by have:=congrArg List.length S.pre;rw[List.length_take]at this;omega
 obtain⟨h1,tk,rfl,hk⟩:=x.done
 have noA:∀ b:Addr,b∉(GW CX P w K mg base N qual scope f cd A outer s H E).ex:=λb z=>absurd (show b∈([]:List Addr)from z) (by simp)
 refine⟨⟨e0.mod,S.kind,rfl,rfl,Nat.le_refl _,λy z c h1 h2=> ?_,λy hy=> ?_,λy c _ h=> ?_,λ_=>hd,Around.frames_deeper e0.frames,.inr ⟨rfl,rfl⟩,λb z=>absurd z (noA b),e0.bs,e0.bsz,λb _ _=>noA b,λb z=>absurd z (noA b),e0.funs,e0.frf⟩,
  rfl,e0.bare,Un.kept hk,⟨_,x.toInCall.ns,λi y v h1 h2 h3=> ?_⟩,λy c h=>⟨_,x.cell y c h⟩,e0.hok.fresh (Nat.le_refl _),λy c h=> ?_,λp hp=>absurd (show p∈([]:List (Addr × Obj))from hp) (by simp),e0.hok.kept hk,?_⟩
 ·exact name_of_addr x.apart (PySem.mem_of_lookup h1) (PySem.mem_of_lookup h2)
 ·have hy:scope.names.lookup y=some .cell\/scope.names.lookup y=some .free:=hy
  rcases hy with hy | hy
  ·exact X1 hy
  ·exact absurd rfl (S.nofree _ (PySem.mem_of_lookup hy))
 ·exact Nat.le_of_lt (x.above y c (PySem.mem_of_lookup h))
 ·have hi:i<vs.length:=by
   unfold A7 at h2
   by_cases hi:i<vs.length
   ·exact hi
   ·rw[List.getElem?_append_right (by simpa using hi)]at h2
    rw[List.getElem?_replicate]at h2
    split at h2<;>cases h2
  have ha:vs[i]? =some v:=by
   unfold A7 at h2
   rw[List.getElem?_append_left (by simpa using hi),List.getElem?_map]at h2
   cases e:vs[i]? with
   | none=>rw[e]at h2;cases h2
   | some a=>rw[e]at h2;cases h2;rfl
  obtain⟨u,hu,rv⟩:=r.get ha
  have hp:ps[i]? =some y:=by
   rw[<-S.pre,List.getElem?_take_of_lt (by omega)];exact h1
  have ndP:ps.Nodup:=by rw[<-S.pre];exact S.nd.sublist (List.take_sublist _ _)
  refine⟨u,rv,?_⟩
  rcases S.par y (List.mem_of_getElem? hp)with k | k
  ·exact .inl ⟨k,XZ ndP hp hu k⟩
  ·obtain⟨c,e⟩:=X1 (n:=s.heap.objs.size+1) k
   refine .inr ⟨.inl k,c,e,?_⟩
   have q:=x.cell y c e
   rw[X0 ndP hp hu (by show scope.names.lookup y≠_;rw[k];decide)]at q
   exact q
 ·exact e0.hok.fresh (Nat.le_of_lt (x.above y c (PySem.mem_of_lookup h)))
 ·unfold A7
  show _=N.length
  rw[List.length_append,List.length_map,List.length_replicate]
  omega
theorem oN{CX:FC}{P:Program}{w:World}{K:W.Frag}{mg:Str->Option Value}{base:Heap}{k:Nat}{f:Addr}{name qual:Str}{params:Arguments}{body:List Stmt}{scope:Scope}{dV kV doc pm cdv ct oc:Value}{an od:Option Addr}
  {osl:Array (Option Value)} {N ps:List Str} {sp:Sp} (lk:K.lookup f=some ⟨oc,od,.func (W.fnOf name qual params body scope dV kV doc pm an cdv ct),osl⟩) (hcd:W.codeIn K cdv qual=true) (S:FnScope N ps scope)
  (len:∀ vs H Q E,sp vs H Q E->vs.length=ps.length)
  (hbody:∀ (A:Around) (outer:List Env) (s:Shared) (H:Hp) (vs:List V) (Q:VK) (E:XK),Room k (A.deeper (envOfC qual scope s.heap.objs.size f cdv))->sp vs H Q E →
   ∃ t,E9 (GW CX P w K mg base N qual scope f cdv A outer s H E) body t/\t { nx:=λ_ H'=>Q .non H',rt:=Q } (A7 N vs) H) :
  FnOk P w K mg base CX (k+1) f (W.fnOf name qual params body scope dV kV doc pm an cdv ct) ps sp:=by
 refine⟨len,λA outer s H args us vs Q E hr e0 hb r hsp=> ?_⟩
 have hl:=len _ _ _ _ hsp
 have KX:K.In s.heap:=e0.mod.kin.keeps λb o e=>(e0.bs b o e).1
 have lim:s.heap.NoLimit:=e0.mod.nolimit.keeps λb o e=>(e0.bs b o e).1
 have hkind:∀ y∈ps.zip us,scope.names.lookup y.1=some .local\/(scope.names.lookup y.1=some .cell/\((cellsFrom (s.heap.objs.size+1) scope.names []).lookup y.1).isSome=true):=λ⟨n,v⟩ hy=>by
  rcases S.par n (List.of_mem_zip hy).1 with q | q
  ·exact .inl q
  ·exact .inr ⟨q,W.cellsFrom_some _ _ _ (.inl q)⟩
 refine codeAny_call_function hr.depth (KX _ _ lk) rfl S.co S.gen rfl (W.codeRec_of KX hcd) (hb _ _ _ _ ?_)
 refine wpAny_newFunctionEnv_cells S.kind hkind λenv he s1 x=> ?_
 subst he
 refine⟨lim.keeps x.toInCall.keep,codeAny_func ?_⟩
 obtain⟨t,ht,hq⟩:=hbody A outer s H vs Q E (hr.deeper _) hsp
 have I:Inv (GW CX P w K mg base N qual scope f cdv A outer s H E) [] (A7 N vs) H s1:=oM S hr.hd e0 hl r x
 refine wpAny_mono (ht [] s1 (A7 N vs) H _ I hq) (λfl s' hs=> ?_) λe s' hs=>hs
 have fin:∀ {σ':St} {H':Hp} {v:V} {u:Value},Inv (GW CX P w K mg base N qual scope f cdv A outer s H E) [] σ' H' s'->RelV v u->Q v H'->CE outer P w H s Q u s' :=
  λ{σ' H' v u} J rv q=>⟨v,H',J.os,J.bare,J.base,J.hok,rv,q⟩
 cases fl with
 | ret u =>
  obtain⟨v,σ',H',J,rv,q⟩:=hs
  exact fin J rv q
 | next =>
  obtain⟨σ',H',J,q⟩:=hs
  exact fin (v:=V.non) (u:=Value.none) J rfl q
 | brk =>
  obtain⟨_,_,_,q⟩:=hs
  exact False.elim q
 | cont =>
  obtain⟨_,_,_,q⟩:=hs
  exact False.elim q
end L2
namespace L2
section
variable{X:Cx}{x:Str}{p pos:Pos}{e:Expr}{es:List Expr}{t:TA}{id T:String}{r:List V->Hp->VK->Prop}
def CC(r:List V->Hp->VK->Prop)(t:TA):TE:=λσ H Q=>t σ H λvs H1=>r vs H1 Q
theorem C0(hc:DJ X (.builtin id) r)(hg:Gl X x)(hm:X.mg x=none)(hv:bootBuiltins x=some (.builtin id))(ha:PA X (e::es) t)(hn:x≠"__name__":=by decide)(hdb:(x ==("__debug__":Str))=false:=by decide)
  (he:starEach (e::es) X.env=(false,eval e X.env)::starEach es X.env:=by rfl) (hpl:(backTo pos (starEach es X.env)).any (·.1)=false:=by rfl):PE X (.Call (.Name x p) (e::es) [] pos) (CC r t):=by
 intro pins s σ H Q I h
 refine wpAny_Call_Name_kw (MH I hg hm hv ?_ hn hdb)
 exact PyProof.Rows.callWith_builtin1 (AT (ha pos pins s σ H _ I h) λus s1 ⟨vs,H1,I1,r1,q1⟩=>hc pins s1 σ H1 vs us Q I1 r1 q1) he hpl
theorem MP(hc:DJ X (.type T) r)(hg:Gl X x)(hm:X.mg x=none)(hv:bootBuiltins x=some (.type T))(ha:PA X (e::es) t)(hn:x≠"__name__":=by decide)(hdb:(x ==("__debug__":Str))=false:=by decide)
  (he:starEach (e::es) X.env=(false,eval e X.env)::starEach es X.env:=by rfl) (hpl:(backTo pos (starEach es X.env)).any (·.1)=false:=by rfl):PE X (.Call (.Name x p) (e::es) [] pos) (CC r t):=by
 intro pins s σ H Q I h
 refine wpAny_Call_Name_kw (MH I hg hm hv ?_ hn hdb)
 exact PyProof.Rows.callWith_type1 (AT (ha pos pins s σ H _ I h) λus s1 ⟨vs,H1,I1,r1,q1⟩=>hc pins s1 σ H1 vs us Q I1 r1 q1) he hpl
end
end L2
namespace HT
open PySem PyProof.Rows
section
open PySem.SeqAt
open PySem.AutoSeq1 (wpAny_loadPart')
open PySem.MeetsSeq PySem.MeetsSeq2 PySem.MeetsSeq3
end
section
variable{prog:Program}{w:World}{A:Around}{E:Value->Shared->Prop}{s:Shared}
theorem cat_tup{t b:Addr}{vs ws:List Value}{Q:Value->Shared->Prop}(ht:IsTup s.heap t vs.toArray)(hb:IsTup s.heap b ws.toArray)(hv:vs≠[])
  (h1:ws=[]->Q (.ref t) s) (h2:ws≠[]->Q (.ref s.heap.objs.size) { s with heap:=s.heap.push { cls:=.type "tuple",data:=.seq (vs++ws).toArray } })
  (hsz:vs.length+ws.length<=sizeLine):wpAny (model prog w) A (binaryOp .Add (.ref t) (.ref b)) Q E s:=by
 obtain⟨⟨cls,dd,data,sl⟩,ho,hc,n,hd⟩:=id ht
 obtain⟨⟨cls2,dd2,data2,sl2⟩,ho2,hc2,n2,hd2⟩:=id hb
 simp only at hc hd hc2 hd2
 subst hc hd hc2 hd2
 have e:vs.toArray++ws.toArray=(vs++ws).toArray:=by simp
 by_cases hw:ws=[]
 ·exact concat_meets ⟨_,ho,rfl⟩ ⟨_,ho2,rfl⟩ noFill_tuple_add seq_tuple_add PySem.F.slot_tuple_add PySem.F.entry_tuple_add (PySem.F.args_tuple_add_2 _ _)
   (tuple_addW1 t b vs.toArray ws.toArray n n2 dd dd2 sl sl2 (by simpa using hv) (by simp[hw])) ⟨ho,ho2,h1 hw⟩
 ·refine concat_meets ⟨_,ho,rfl⟩ ⟨_,ho2,rfl⟩ noFill_tuple_add seq_tuple_add PySem.F.slot_tuple_add PySem.F.entry_tuple_add (PySem.F.args_tuple_add_2 _ _)
   (tuple_addW2 t b vs.toArray ws.toArray n n2 dd dd2 sl sl2 (by simpa using hv) (by simpa using hw) (by rw[List.size_toArray,List.size_toArray];exact hsz)) ⟨ho,ho2,?_⟩
  rw[e]
  exact h2 hw
def sIx(n d:Nat):Option Int->Nat
 | none=>d
 | some v=>if v<0 then(v+(n:Int)).toNat else min v.toNat n
theorem sIx_none(n d:Nat):sIx n d none=d:=rfl
theorem oO(n d:Nat)(hd:d<=n)(o:Option Int):sIx n d o<=n:=by
 cases o with
 | none=>exact hd
 | some v =>
  show(if v<0 then(v+(n:Int)).toNat else min v.toNat n)<=n
  by_cases hv:v<0
  ·rw[if_pos hv];omega
  ·rw[if_neg hv];exact Nat.min_le_right _ _
theorem X2(v:Int)(n d:Nat):(if v<0 then max (v+(n:Int)) 0 else min v (n:Int))=((sIx n d (some v):Nat):Int):=by
 show(if v<0 then max (v+(n:Int)) 0 else min v (n:Int))=(((if v<0 then(v+(n:Int)).toNat else min v.toNat n):Nat):Int)
 by_cases hv:v<0
 ·simp only[if_pos hv];omega
 ·simp only[if_neg hv];omega
theorem oP(lo hi:Option Int)(n:Nat):Builtin.Slice.sliceAdjust lo hi 1 (n:Int)=(((sIx n 0 lo:Nat):Int),((sIx n n hi:Nat):Int)):=by
 have h1:¬ ((1:Int)<0):=by omega
 unfold Builtin.Slice.sliceAdjust
 simp only[h1,if_false]
 refine Prod.ext ?_ ?_
 ·cases lo with
  | none=>rfl
  | some v=>exact X2 v n 0
 ·cases hi with
  | none=>rfl
  | some v=>exact X2 v n n
theorem oQ(i j:Nat):Builtin.Slice.slicePlaces (i:Int) (j:Int) 1=j - i:=by
 unfold Builtin.Slice.slicePlaces
 have h1:(1:Int) > 0:=by omega
 simp only[h1,if_true,Int.ediv_one]
 split<;>omega
theorem X3{v:Value}{o:Option Int}{Q:Option Int->Shared->Prop}(p:IsPart v o)(h:Q o s):wpAny (model prog w) A (Builtin.Slice.slicePartIndex v) Q E s:=by
 cases p with
 | none=>exact slicePart_none h
 | int i t=>exact slicePart_int h
theorem oR{sl:Addr}{vl vu:Value}{lo hi:Option Int}{n:Nat}{Q:Int × Int × Nat->Shared->Prop}(hs:s.heap.IsSliceOf sl vl vu .none)(pl:IsPart vl lo)(pu:IsPart vu hi)
  (h:Q (((sIx n 0 lo:Nat):Int),1,sIx n n hi - sIx n 0 lo) s):wpAny (model prog w) A (Builtin.Slice.sliceApplied (.ref sl) (pure (n:Int))) Q E s:=by
 obtain⟨os,hos,hcs,hds⟩:=id hs
 unfold Builtin.Slice.sliceApplied Builtin.Slice.sliceFields
 refine wpAny_bind (wpAny_bind (wpAny_field hos hds (x:=vl) rfl (wpAny_bind (wpAny_field hos hds (x:=vu) rfl (wpAny_bind (wpAny_field hos hds (x:=.none) rfl (wpAny_pure ?_)))))))
 refine wpAny_bind (slicePart_none ?_)
 show wpAny _ _ (if((1:Int) == 0)=true then _ else _) _ _ s
 rw[if_neg (by decide)]
 refine wpAny_bind (X3 pl (wpAny_bind (X3 pu (wpAny_bind (wpAny_pure ?_)))))
 show wpAny _ _ (match Builtin.Slice.sliceAdjust lo hi 1 (n:Int)with | (lo,hi)=>pure (lo,(1:Int),Builtin.Slice.slicePlaces lo hi 1)) _ _ s
 rw[oP lo hi n]
 show wpAny _ _ (pure (((sIx n 0 lo:Nat):Int),(1:Int),Builtin.Slice.slicePlaces ((sIx n 0 lo:Nat):Int) ((sIx n n hi:Nat):Int) 1)) _ _ s
 rw[oQ]
 exact wpAny_pure h
theorem oU(xs:Array Value)(i k:Nat):((List.range k).filterMap λ(m:Nat)=>xs[((i:Int)+(m:Int) * 1).toNat]?).toArray=((xs.toList.drop i).take k).toArray:=by
 have e:(λ(m:Nat)=>xs[((i:Int)+(m:Int) * 1).toNat]?)=λm=>xs[i+m]? :=by
  funext m
  have:((i:Int)+(m:Int) * 1).toNat=i+m:=by omega
  rw[this]
 rw[e]
 have:=pick_run xs i k
 rw[List.filterMap_map]at this
 have e2:((λx=>xs[x]?) ∘ λx=>i+x)=λm=>xs[i+m]? :=rfl
 rw[e2]at this
 rw[this]
theorem getItem_tuple_cut{t sl:Addr}{items:Array Value}{vl vu:Value}{lo hi:Option Int}{Q:Value->Shared->Prop}(ht:IsTup s.heap t items)(hs:s.heap.IsSliceOf sl vl vu .none)(pl:IsPart vl lo)(pu:IsPart vu hi)
  (hw:¬ (sIx items.size 0 lo=0/\sIx items.size items.size hi=items.size))
  (h:Q (.ref s.heap.objs.size) { s with heap:=s.heap.push { cls:=.type "tuple",data:=.seq ((items.toList.drop (sIx items.size 0 lo)).take (sIx items.size items.size hi - sIx items.size 0 lo)).toArray } })
  (hsz:items.size<=sizeLine):wpAny (model prog w) A (getItem (.ref t) (.ref sl)) Q E s:=by
 have htake:sizeOk (.seq ((items.toList.drop (sIx items.size 0 lo)).take (sIx items.size items.size hi - sIx items.size 0 lo)).toArray):=by
  show((items.toList.drop (sIx items.size 0 lo)).take (sIx items.size items.size hi - sIx items.size 0 lo)).toArray.size<=sizeLine
  rw[List.size_toArray,List.length_take,List.length_drop,Array.length_toList]
  omega
 have hj:sIx items.size items.size hi<=items.size:=oO _ _ (Nat.le_refl _) hi
 obtain⟨os,hos,hcs,hds⟩:=id hs
 have hTs:s.TypeIs (.ref sl) "slice":=⟨os,hos,hcs⟩
 unfold getItem
 try with_reducible refine wpAny_holding ?_
 first | refine wpAny_bind (wpAny_pure ?_) | skip
 refine wpAny_bind (wpAny_sequenceKey ht.typeIs (by decide) ?_)
 refine wpAny_bind (wpAny_callSpecial?_slot (name:=Str.ofString "__getitem__") ht.typeIs PyProof.Rows.slot_tuple_getitem
  (wpAny_call_entry PyProof.Rows.slot_tuple_getitem ht.typeIs entry_tuple_getitem ?_ (args_tuple_getitem _ _)))
 show wpAny _ _ (Builtin.Tuple.tupleItemsOf (.ref t) >>= _) _ _ s
 refine wpAny_bind (tupleItemsOf_ ht ?_)
 refine wpAny_bind (wpAny_typeOf hTs ?_)
 rw[if_pos (by decide)]
 refine wpAny_bind (oR hs pl pu ?_)
 have hno:¬ ((((sIx items.size 0 lo:Nat):Int) == 0 && (1:Int) == 1 && (sIx items.size items.size hi - sIx items.size 0 lo) == items.size)=true):=by
  intro q
  rw[Bool.and_eq_true,Bool.and_eq_true]at q
  have q1:((sIx items.size 0 lo:Nat):Int)=0:=eq_of_beq q.1.1
  have q2:sIx items.size items.size hi - sIx items.size 0 lo=items.size:=eq_of_beq q.2
  exact hw ⟨by omega,by omega⟩
 show wpAny _ _ (if(((sIx items.size 0 lo:Nat):Int) == 0 && (1:Int) == 1 && (sIx items.size items.size hi - sIx items.size 0 lo) == items.size)=true then _ else _) _ _ s
 rw[if_neg hno,oU]
 first
  | exact wpAny_bind (m:=Builtin.Tuple.tupleExact _) (wpAny_newObj_type (wpAny_pure ⟨_,rfl,wpAny_pure h⟩) htake)
  | exact wpAny_bind (m:=Builtin.Tuple.tupleExact _) (wpAny_newObj_type (wpAny_bind (wpAny_pure (wpAny_pure ⟨_,rfl,wpAny_pure h⟩))) htake)
  | exact wpAny_bind (wpAny_bind (m:=Builtin.Tuple.tupleExact _) (wpAny_newObj_type (wpAny_pure (wpAny_pure ⟨_,rfl,wpAny_pure h⟩)) htake))
  | exact wpAny_bind (wpAny_bind (m:=Builtin.Tuple.tupleExact _) (wpAny_newObj_type (wpAny_pure ⟨_,rfl,wpAny_pure h⟩) htake))
end
end HT
namespace L2
abbrev TO:=St->Hp->(Option Int->Hp->Prop)->Prop
def PO(X:Cx)(e:Option Expr)(t:TO):Prop :=
 ∀ (pins:List (Addr × Obj)) (s:Shared) (σ:St) (H:Hp) (Q:Option Int->Hp->Prop),Inv X pins σ H s->t σ H Q →
  wpAny (model X.prog X.w) X.A (evalPart e X.env) (λu s'=>∃ o H',Inv X pins σ H' s'/\IsPart u o/\Q o H') X.xe s
def H0:TO:=λ_ H Q=>Q none H
def IA(t:TE):TO:=λσ H Q=>t σ H λx H1=>∃ i,x=.int i/\Q (some i) H1
section
variable{X:Cx}{e:Expr}{te:TE}{lo hi:Option Expr}{tl th:TO}{pos p2:Pos}
theorem MQ:PO X none H0:=by
 intro pins s σ H Q I h
 rw[evalPart_none]
 exact wpAny_pure ⟨none,H,I,.none,h⟩
theorem MR(h:PE X e te):PO X (some e) (IA te):=by
 intro pins s σ H Q I hw
 rw[evalPart_some]
 refine AT (h pins s σ H _ I hw) λu s1 ⟨x,H1,I1,r1,q1⟩=> ?_
 obtain⟨i,rfl,q⟩:=q1
 obtain⟨t,rfl⟩:=r1
 exact⟨some i,H1,I1,.int i t,q⟩
def SlR(X:Cx)(r:V->Option Int->Option Int->Hp->VK->Prop):Prop :=
 ∀ (pins:List (Addr × Obj)) (s:Shared) (σ:St) (H:Hp) (x:V) (v vl vu:Value) (lo hi:Option Int) (sl:Addr) (Q:VK),Inv X pins σ H s->RelV x v->s.heap.IsSliceOf sl vl vu .none->IsPart vl lo->IsPart vu hi->r x lo hi H Q →
  ∃ T id,typeLookup (.type T) "__getitem__"=pure (some (.builtin id))/\s.TypeIs v T/\wpAny (model X.prog X.w) X.A (getItem v (.ref sl)) (EP X pins σ Q) X.xe s
theorem SlR.or{r r':V->Option Int->Option Int->Hp->VK->Prop}(h:SlR X r)(h':SlR X r'):SlR X (λx lo hi H Q=>r x lo hi H Q\/r' x lo hi H Q):=by
 intro pins s σ H x v vl vu lo hi sl Q I rx hs pl pu q
 rcases q with q | q
 ·exact h pins s σ H x v vl vu lo hi sl Q I rx hs pl pu q
 ·exact h' pins s σ H x v vl vu lo hi sl Q I rx hs pl pu q
def IB(r:V->Option Int->Option Int->Hp->VK->Prop)(te:TE)(tl th:TO):TE:=λσ H Q=>te σ H λx H1=>tl σ H1 λl H2=>th σ H2 λu H3=>r x l u H3 Q
theorem MS{r:V->Option Int->Option Int->Hp->VK->Prop}(hr:SlR X r)(he:PE X e te)(hl:PO X lo tl)(hu:PO X hi th):PE X (.Subscript e (.Slice lo hi none p2) pos) (IB r te tl th):=by
 intro pins s σ H Q I h
 refine Subscript_ (AT (he pins s σ H _ I h) λv s1 ⟨x,H1,I1,r1,q1⟩=> ?_)
 refine wpAny_Slice (AT (hl pins s1 σ H1 _ I1 q1) λvl s2 ⟨l,H2,I2,pl,q2⟩=>AT (hu pins s2 σ H2 _ I2 q2) λvu s3 ⟨u,H3,I3,pu,q3⟩=> ?_)
 rw[evalPart_none]
 refine wpAny_pure ?_
 have I4:Inv X pins σ H3 { s3 with heap:=s3.heap.push { cls:=.type "slice",data:=.fields #[vl,vu,.none] } }:=I3.kept (t':=s3.toks) λb ob q=>Heap.get?_push_of_some _ q
 obtain⟨T,id,hT,ht,hg⟩:=hr pins { s3 with heap:=s3.heap.push { cls:=.type "slice",data:=.fields #[vl,vu,.none] } } σ H3 x v vl vu l u s3.heap.objs.size Q I4 r1 (Heap.IsSliceOf.new ..) pl pu q3
 show wpAny (model X.prog X.w) X.A (subscriptTail e (.Slice lo hi none p2) v (.ref s3.heap.objs.size)) (EP X pins σ Q) X.xe { s3 with heap:=s3.heap.push { cls:=.type "slice",data:=.fields #[vl,vu,.none] } }
 exact tail_any (ops:=[.ref s3.heap.objs.size,v]) ht hT hg (by with_unfolding_all rfl)
def DZ(xs:List V)(lo hi:Option Int):List V:=(xs.drop (HT.sIx xs.length 0 lo)).take (HT.sIx xs.length xs.length hi - HT.sIx xs.length 0 lo)
theorem X4(xs:List V)(lo hi:Option Int):(DZ xs lo hi).length<=xs.length:=by
 unfold DZ
 rw[List.length_take,List.length_drop]
 omega
def X5(K:W.Frag):V->Option Int->Option Int->Hp->VK->Prop:=λx lo hi H Q=>∃ a xs,x=.ref a/\SqT K H a xs ∧
 ¬ (HT.sIx xs.length 0 lo=0/\HT.sIx xs.length xs.length hi=xs.length)/\∀ p,H p=none->Q (.ref p) (upd H p (.tup (DZ xs lo hi)))
theorem oV:SlR X (X5 X.K):=by
 intro pins s σ H x v vl vu lo hi sl Q I rx hs pl pu h
 obtain⟨a,xs,rfl,hx,hw,q⟩:=h
 cases rx
 obtain⟨its,r,ht,hz⟩:=I.tuple hx
 have hlen:its.toArray.size=xs.length:=by rw[List.size_toArray];exact r.length.symm
 refine⟨"tuple",_,PyProof.Rows.slot_tuple_getitem.lookup,ht.typeIs,?_⟩
 refine HT.getItem_tuple_cut ht hs pl pu (by rw[hlen];exact hw) ?_ (by rw[hlen];exact hz)
 rw[hlen]
 refine⟨.ref s.heap.objs.size,_,I.laid (t':=s.toks) (o:=.tup (DZ xs lo hi)) (λb ob q=>Heap.get?_push_of_some _ q) (Nat.le_refl _) ?_,rfl,q _ (I.hok.fresh (Nat.le_refl _))⟩
 exact⟨Nat.le_trans (X4 xs lo hi) hz,_,(r.drop (HT.sIx xs.length 0 lo)).take (HT.sIx xs.length xs.length hi - HT.sIx xs.length 0 lo),IsTup.new _ _⟩
def R0(K:W.Frag):R2:=λx y H Q=>∃ a b xs ys,x=.ref a/\y=.ref b/\SqT K H a xs/\SqT K H b ys/\xs≠[]/\xs.length+ys.length<=sizeLine ∧
 (ys=[]->Q (.ref a) H)/\(ys≠[]->∀ p,H p=none->Q (.ref p) (upd H p (.tup (xs++ys))))
theorem Vals.nil_iff{xs:List V}{us:List Value}(r:Vals xs us):us=[]↔xs=[]:=by
 cases r with
 | nil=>simp
 | cons _ _=>simp
theorem oW:BS X (binaryOp .Add) (R0 X.K):=by
 intro pins s σ H x y v u Q I rx ry h
 obtain⟨a,b,xs,ys,rfl,rfl,ha,hb,hx,hz,q1,q2⟩:=h
 cases rx
 cases ry
 obtain⟨its,r1,p1,_⟩:=I.tuple ha
 obtain⟨its2,r2,p2,_⟩:=I.tuple hb
 refine HT.cat_tup p1 p2 (λz=>hx (r1.nil_iff.mp z)) (λz=>⟨.ref a,H,I,rfl,q1 (r2.nil_iff.mp z)⟩) (λz=> ?_) (by rw[<-r1.length,<-r2.length];exact hz)
 refine⟨.ref s.heap.objs.size,_,I.laid (t':=s.toks) (o:=.tup (xs++ys)) (λb ob q=>Heap.get?_push_of_some _ q) (Nat.le_refl _) ?_,rfl,q2 (λw=>z (r2.nil_iff.mpr w)) _ (I.hok.fresh (Nat.le_refl _))⟩
 exact⟨by rw[List.length_append];exact hz,_,r1.append r2,IsTup.new _ _⟩
end
end L2
namespace L2
def GX(n:Nat)(i:Int):Option Nat:=if 0<=i then(if i<n then some i.toNat else none)else if -(n:Int)<=i then some (i+n).toNat else none
def IC{α :Type}(xs:List α)(i:Int):Option α :=(GX xs.length i).bind λj=>xs[j]?
theorem R1{n:Nat}{i:Int}{j:Nat}(h:GX n i=some j):seqIndex? i n=some j/\j<n/\ -(n:Int)<=i/\i<n:=by
 unfold GX at h
 by_cases h0:0<=i
 ·rw[if_pos h0]at h
  by_cases h1:i<n
  ·rw[if_pos h1]at h
   have e:i.toNat=j:=Option.some.inj h
   exact⟨by rw[seqIndex_of h0 h1,e],by omega,by omega,h1⟩
  ·rw[if_neg h1]at h;cases h
 ·rw[if_neg h0]at h
  by_cases h1: -(n:Int)<=i
  ·rw[if_pos h1]at h
   have e:(i+n).toNat=j:=Option.some.inj h
   exact⟨by rw[seqIndex_neg (by omega) h1,e],by omega,h1,by omega⟩
  ·rw[if_neg h1]at h;cases h
theorem R3{α :Type}{xs:List α}{i:Int}{v: α}(h:IC xs i=some v):∃ j,seqIndex? i xs.length=some j/\xs[j]? =some v/\j<xs.length/\ -(xs.length:Int)<=i/\i<xs.length:=by
 unfold IC at h
 cases e:GX xs.length i with
 | none=>rw[e]at h;cases h
 | some j =>
  rw[e]at h
  obtain⟨h1,h2,h3,h4⟩:=R1 e
  exact⟨j,h1,h,h2,h3,h4⟩
theorem PF{α :Type}{xs:List α}{j:Nat}{v: α}(h:xs[j]? =some v):IC xs (j:Int)=some v:=by
 have hj:j<xs.length:=(List.getElem?_eq_some_iff.mp h).1
 have e:GX xs.length (j:Int)=some j:=by
  unfold GX
  rw[if_pos (by omega),if_pos (by omega)];simp
 unfold IC;rw[e];exact h
def oX(b:Expr):Prop:=∀ o i,subscripted b false o i=operate [o,i] (getItem o i)
def IxR(X:Cx)(r:R2):Prop :=
 ∀ (value slice:Expr) (pins:List (Addr × Obj)) (s:Shared) (σ:St) (H:Hp) (x y:V) (v u:Value) (Q:VK),Inv X pins σ H s->RelV x v->RelV y u->r x y H Q →
  subscripted slice false v u=operate [v,u] (getItem v u)->wpAny (model X.prog X.w) X.A (subscriptTail value slice v u) (EP X pins σ Q) X.xe s
def MT(X:Cx)(id:String)(r:V->List V->Hp->VK->Prop):Prop :=
 ∀ (pins:List (Addr × Obj)) (s:Shared) (σ:St) (H:Hp) (x:V) (xs:List V) (v:Value) (us:List Value) (Q:VK),Inv X pins σ H s->RelV x v->Vals xs us->r x xs H Q →
  wpAny (model X.prog X.w) X.A (call (.builtin id) (v::us)) (EP X pins σ Q) X.xe s
section
variable{X:Cx}{a b:Expr}{ta tb:TE}{pos:Pos}
theorem IxR.or{r r':R2}(h:IxR X r)(h':IxR X r'):IxR X (λx y H Q=>r x y H Q\/r' x y H Q):=by
 intro value slice pins s σ H x y v u Q I rx ry q hs
 rcases q with q | q
 ·exact h value slice pins s σ H x y v u Q I rx ry q hs
 ·exact h' value slice pins s σ H x y v u Q I rx ry q hs
theorem BJ{r:R2}(hr:IxR X r)(ha:PE X a ta)(hb:PE X b tb)(hs:oX b):PE X (.Subscript a b pos) (AH r ta tb):=by
 intro pins s σ H Q I h
 exact Subscript_ (RT ha hb I h λv u s2 x y H2 I2 rx ry q=>hr a b pins s2 σ H2 x y v u Q I2 rx ry q (hs _ _))
def X6(K:W.Frag):R2:=λx y H Q=>∃ p xs i v,x=.ref p/\y=.int i/\SqL K H p xs/\IC xs i=some v/\Q v H
def X7(K:W.Frag):R2:=λx y H Q=>∃ p xs i v,x=.ref p/\y=.int i/\SqT K H p xs/\IC xs i=some v/\Q v H
def X8:R2:=λx y H Q=>∃ z i c,x=.str z/\y=.int i/\z.length<=sizeLine/\IC z.cps.toList i=some c/\Q (.str ⟨#[c]⟩) H
theorem oY:IxR X (X6 X.K):=by
 intro value slice pins s σ H x y v u Q I rx ry h hs
 obtain⟨p,xs,i,z,rfl,rfl,hq,he,q⟩:=h
 cases rx
 obtain⟨t,rfl⟩:=ry
 obtain⟨its,r,pl,hz⟩:=I.list hq
 obtain⟨j,h1,h2,h3,h4,h5⟩:=R3 he
 obtain⟨w,ew,rw'⟩:=r.get h2
 have hl:=r.length
 have hn:=J8
 have fin:EP X pins σ Q w s:=⟨z,H,I,rw',q⟩
 by_cases h0:0<=i
 ·have hj:i.toNat=j:=by
   rw[seqIndex_of h0 h5]at h1
   exact Option.some.inj h1
  exact item_listR pl.isList h0 (by omega) (by rw[hj];simpa using ew) fin hs
 ·have hj:(i+(its.toArray.size:Int)).toNat=j:=by
   rw[seqIndex_neg (by omega) h4]at h1
   rw[List.size_toArray,<-hl]
   exact Option.some.inj h1
  exact subscriptTail_builtinR (x:=w) pl.isList.typeIs slot_list_getitem.lookup
   (wpAny_getItem_list_neg (Q:=λr s'=>r=w/\EP X pins σ Q r s') pl.isList (by omega) (by rw[List.size_toArray]<;>omega) (by omega) (by rw[hj];simpa using ew) ⟨rfl,fin⟩) hs
theorem oZ:IxR X (X7 X.K):=by
 intro value slice pins s σ H x y v u Q I rx ry h hs
 obtain⟨p,xs,i,z,rfl,rfl,hq,he,q⟩:=h
 cases rx
 obtain⟨t,rfl⟩:=ry
 obtain⟨its,r,pl,hz⟩:=I.tuple hq
 obtain⟨j,h1,h2,h3,h4,h5⟩:=R3 he
 obtain⟨w,ew,rw'⟩:=r.get h2
 have hl:=r.length
 have hn:=J8
 have fin:EP X pins σ Q w s:=⟨z,H,I,rw',q⟩
 exact subscriptTail_builtinR (x:=w) pl.typeIs slot_tuple_getitem.lookup
  (getItem_tuple (j:=j) (Q:=λr s'=>r=w/\EP X pins σ Q r s') pl (by omega) (by omega) (by rw[List.size_toArray,<-hl];exact h1) (by simpa using ew) ⟨rfl,fin⟩) hs
theorem o0:IxR X X8:=by
 intro value slice pins s σ H x y v u Q I rx ry h hs
 obtain⟨z,i,c,rfl,rfl,hz,he,q⟩:=h
 obtain⟨t,rfl⟩:=rx
 obtain⟨t',rfl⟩:=ry
 obtain⟨j,h1,h2,h3,h4,h5⟩:=R3 he
 have hl:z.cps.toList.length=z.length:=by simp[Str.length]
 rw[hl]at h1 h4 h5
 have hn:=J8
 exact tail_any (typeIs_str s z t) slot_str_getitem.lookup (getItem_str (c:=c) (by
  have e1:decide (i< -(2 ^ 63:Int))=false:=decide_eq_false (by omega)
  have e2:decide (i ≥ 2 ^ 63)=false:=decide_eq_false (by omega)
  rw[e1,e2,Bool.or_false]) (by rw[h1];simpa using h2) ⟨.str ⟨#[c]⟩,H,I.tok _,⟨_,rfl⟩,q⟩) hs
def X9(K:W.Frag):R2:=λx y H Q=>X6 K x y H Q\/X7 K x y H Q\/X8 x y H Q
theorem o1:IxR X (X9 X.K):=oY.or (oZ.or o0)
theorem o3(its:List Value)(n j:Nat)(u:Value):Obj.mapSeq (·.setIfInBounds j u) { cls:=.type "list",data:=.seq its.toArray n }={ cls:=.type "list",data:=.seq (its.set j u).toArray n }:=by
 simp[Obj.mapSeq]
theorem Inv.lst{pins:List (Addr × Obj)}{σ:St}{H:Hp}{s:Shared}{p:Addr}{xs:List V}(I:Inv X pins σ H s)(h:H p=some (.lst xs)) :
  ∃ (its:List Value) (n:Nat),Vals xs its/\s.heap.get? p=some { cls:=.type "list",data:=.seq its.toArray n }/\xs.length<=sizeLine:=by
 obtain⟨z,its,n,r,e⟩:=I.hok p _ h
 exact⟨its,n,r,e,z⟩
theorem Inv.lstUpd{pins:List (Addr × Obj)}{σ:St}{H:Hp}{s:Shared}{p:Addr}{xs ys:List V}{its its':List Value}{n n':Nat}{f:Obj->Obj}(I:Inv X pins σ H s)(h:H p=some (.lst xs))
  (ho:s.heap.get? p=some { cls:=.type "list",data:=.seq its.toArray n }) (hf:f { cls:=.type "list",data:=.seq its.toArray n }={ cls:=.type "list",data:=.seq its'.toArray n' }) (r:Vals ys its') (hz:ys.length<=sizeLine) (t:Nat) :
  Inv X pins σ (upd H p (.lst ys)) { s with heap:=s.heap.update p f,toks:=t }:=by
 have e:(s.heap.update p f).get? p=some { cls:=.type "list",data:=.seq its'.toArray n' }:=by
  rw[Heap.get?_update_self f ho (by rw[hf]<;>rfl),hf]
 refine I.write (x:=p) (e:=p) (by rw[h];trivial) (.inl rfl) (λb u hb q=>(Heap.get?_update_other _ _ (Ne.symm hb)).trans q) ⟨_,e⟩ ?_
 exact⟨hz,its',n',r,e⟩
def YA:V->V->V->Hp->(Hp->Prop)->Prop:=λo i v H Q=>∃ p xs k j,o=.ref p/\i=.int k/\H p=some (.lst xs)/\GX xs.length k=some j/\Q (upd H p (.lst (xs.set j v)))
theorem o5:RQ X YA:=by
 intro pins s σ H o i v ov iv u Q I ro ri rv h
 obtain⟨p,xs,k,j,rfl,rfl,hp,hj,q⟩:=h
 cases ro
 obtain⟨t,rfl⟩:=ri
 obtain⟨its,n,r,ho,hz⟩:=I.lst hp
 obtain⟨h1,h2,h3,h4⟩:=R1 hj
 have hl:=r.length
 have hn:=J8
 have I':Inv X pins σ (upd H p (.lst (xs.set j v))) { s with heap:=s.heap.update p (Obj.mapSeq (·.setIfInBounds j u)) } :=
  I.lstUpd hp ho (o3 its n j u) (r.set rv j) (by rw[List.length_set];exact hz) s.toks
 by_cases h0:0<=k
 ·have hk:k.toNat=j:=by
   rw[seqIndex_of h0 h4]at h1
   exact Option.some.inj h1
  exact W.ki_setAt ho h0 (by omega) (by rw[List.size_toArray,<-hl];exact h4) (by rw[hk];exact⟨_,I',q⟩)
 ·have hk:(k+(its.toArray.size:Int)).toNat=j:=by
   rw[seqIndex_neg (by omega) h3]at h1
   rw[List.size_toArray,<-hl]
   exact Option.some.inj h1
  exact W.ki_setBack ho (by omega) (by rw[List.size_toArray,<-hl];exact h3) (by omega) (by rw[hk];exact⟨_,I',q⟩)
theorem o6(lo hi:Option Int)(n:Nat):(sliceBounds lo hi none n).1=((HT.sIx n 0 lo:Nat):Int)/\(sliceBounds lo hi none n).2.1=((HT.sIx n n hi:Nat):Int)/\(sliceBounds lo hi none n).2.2=1:=by
 refine⟨?_,?_,rfl⟩
 ·cases lo with
  | none=>simp[sliceBounds,HT.sIx]
  | some i =>
   simp only[sliceBounds,HT.sIx,Option.getD_none,show(1:Int) > 0 by decide,if_true]
   by_cases h:i<0
   ·simp only[h,if_true]<;>omega
   ·simp only[h,if_false]<;>omega
 ·cases hi with
  | none=>simp[sliceBounds,HT.sIx]
  | some i =>
   simp only[sliceBounds,HT.sIx,Option.getD_none,show(1:Int) > 0 by decide,if_true]
   by_cases h:i<0
   ·simp only[h,if_true]<;>omega
   ·simp only[h,if_false]<;>omega
theorem o7(its:List Value)(lo hi:Option Int):slicePick its.toArray lo hi none=((its.drop (HT.sIx its.length 0 lo)).take (HT.sIx its.length its.length hi - HT.sIx its.length 0 lo)).toArray:=by
 obtain⟨h1,h2,h3⟩:=o6 lo hi its.toArray.size
 unfold slicePick
 rw[h1,h2,h3]
 simp only[sliceRange_one,pick_run,List.size_toArray]<;>rfl
def YB(K:W.Frag):V->Option Int->Option Int->Hp->VK->Prop:=λx lo hi H Q=>∃ a xs,x=.ref a/\SqL K H a xs/\∀ p,H p=none->Q (.ref p) (upd H p (.lst (DZ xs lo hi)))
theorem o8:SlR X (YB X.K):=by
 intro pins s σ H x v vl vu lo hi sl Q I rx hs pl pu h
 obtain⟨a,xs,rfl,hx,q⟩:=h
 cases rx
 obtain⟨its,r,ht,hz⟩:=I.list hx
 have hlen:=r.length
 refine⟨"list",_,slot_list_getitem.lookup,ht.isList.typeIs,?_⟩
 refine wpAny_getItem_list_slice ht.isList hs pl pu .none (by simp) ?_ (by rw[List.size_toArray]<;>omega)
 rw[o7,<-hlen]
 refine⟨.ref s.heap.objs.size,_,I.laid (t':=s.toks) (o:=.lst (DZ xs lo hi)) (λb ob q=>Heap.get?_push_of_some _ q) (Nat.le_refl _) ?_,rfl,q _ (I.hok.fresh (Nat.le_refl _))⟩
 exact⟨Nat.le_trans (X4 xs lo hi) hz,_,0,(r.drop (HT.sIx xs.length 0 lo)).take (HT.sIx xs.length xs.length hi - HT.sIx xs.length 0 lo),Heap.get?_push_size _ rfl⟩
def FE:V->Bool
 | .non=>true
 | .bl _=>true
 | .int _=>true
 | .str _=>true
 | _=>false
def EX:V->V->Bool
 | .non,.non=>true
 | .bl a,.bl b=>a == b
 | .bl a,.int b=>(if a then 1 else 0) == b
 | .int a,.bl b=>a ==(if b then 1 else 0)
 | .int a,.int b=>a == b
 | .str a,.str b=>a == b
 | _,_=>false
theorem o9{A:Around}{s:Shared}{y x:V}{u v:Value}(ry:RelV y u)(rx:RelV x v)(fy:FE y=true)(fx:FE x=true):SeqAt.EqAt A s u v (EX y x):=by
 cases y with
 | non =>
  cases ry
  cases x with
  | non=>cases rx;exact SeqAt.EqAt.same _
  | bl b=>cases rx;exact SeqAt.EqAt.none_bool b
  | int b=>obtain⟨t,rfl⟩:=rx;exact SeqAt.EqAt.none_int b t
  | str b=>obtain⟨t,rfl⟩:=rx;exact SeqAt.EqAt.none_str b t
  | _=>exact absurd (show false=true from fx) Bool.false_ne_true
 | bl a =>
  cases ry
  cases x with
  | non=>cases rx;exact SeqAt.EqAt.bool_none a
  | bl b=>cases rx;exact SeqAt.EqAt.bool_bool a b
  | int b=>obtain⟨t,rfl⟩:=rx;exact SeqAt.EqAt.bool_int a b t
  | str b=>obtain⟨t,rfl⟩:=rx;exact SeqAt.EqAt.bool_str a b t
  | _=>exact absurd (show false=true from fx) Bool.false_ne_true
 | int a =>
  obtain⟨t',rfl⟩:=ry
  cases x with
  | non=>cases rx;exact SeqAt.EqAt.int_none a t'
  | bl b=>cases rx;exact SeqAt.EqAt.int_bool a t' b
  | int b=>obtain⟨t,rfl⟩:=rx;exact SeqAt.EqAt.int_int a t' b t
  | str b=>obtain⟨t,rfl⟩:=rx;exact SeqAt.EqAt.int_str a t' b t
  | _=>exact absurd (show false=true from fx) Bool.false_ne_true
 | str a =>
  obtain⟨t',rfl⟩:=ry
  cases x with
  | non=>cases rx;exact SeqAt.EqAt.str_none a t'
  | bl b=>cases rx;exact SeqAt.EqAt.str_bool a t' b
  | int b=>obtain⟨t,rfl⟩:=rx;exact SeqAt.EqAt.str_int a t' b t
  | str b=>obtain⟨t,rfl⟩:=rx;exact SeqAt.EqAt.str_str a t' b t
  | _=>exact absurd (show false=true from fx) Bool.false_ne_true
 | _=>exact absurd (show false=true from fy) Bool.false_ne_true
def EF(x:V)(u:Value):Bool:=match u with
 | .none=>EX .non x
 | .bool b=>EX (.bl b) x
 | .int i _=>EX (.int i) x
 | .str z _=>EX (.str z) x
 | _=>false
theorem YC{x y:V}{u:Value}(r:RelV y u)(f:FE y=true):EF x u=EX y x:=by
 cases y with
 | non=>cases r;rfl
 | bl b=>cases r;rfl
 | int i=>obtain⟨t,rfl⟩:=r;rfl
 | str z=>obtain⟨t,rfl⟩:=r;rfl
 | _=>exact absurd (show false=true from f) Bool.false_ne_true
theorem MU{x:V}:∀ {xs:List V} {us:List Value},Vals xs us->xs.all FE=true->us.any (EF x)=xs.any λy=>EX y x
 | _,_,.nil,_=>rfl
 | y::xs,u::us,.cons r t,f=>by
  rw[List.all_cons,Bool.and_eq_true]at f
  rw[List.any_cons,List.any_cons,YC r f.1,MU t f.2]
theorem MV{A:Around}{s:Shared}{x:V}{v:Value}(rx:RelV x v)(fx:FE x=true):∀ {xs:List V} {us:List Value},Vals xs us->xs.all FE=true->∀ u∈us,SeqAt.EqAt A s u v (EF x u)
 | _,_,.nil,_=>λu hu=>by cases hu
 | y::xs,u::us,.cons r t,f=>λu' hu=>by
  rw[List.all_cons,Bool.and_eq_true]at f
  rcases List.mem_cons.mp hu with rfl | hu
  ·rw[YC r f.1];exact o9 r rx f.1 fx
  ·exact MV rx fx t f.2 u' hu
def GY(x:V)(xs:List V):Bool:=xs.any λy=>EX y x
def PJ(K:W.Frag)(neg:Bool):R2:=λx y H Q=>∃ p xs,y=.ref p/\(SqL K H p xs\/SqT K H p xs)/\FE x=true/\xs.all FE=true/\Q (.bl (if neg then !GY x xs else GY x xs)) H
theorem pA:BS X (compareOp .In) (PJ X.K false):=by
 intro pins s σ H x y v u Q I rx ry h
 obtain⟨p,xs,rfl,hq,fx,fs,q⟩:=h
 cases ry
 rcases hq with hq | hq
 ·obtain⟨its,r,pl,hz⟩:=I.list hq
  refine SeqAt.in_listAt (EF x) pl.isList (λw hw=>MV rx fx r fs w (by simpa using hw)) ⟨.bl _,H,I,rfl,?_⟩
  rw[show its.toArray.any (EF x)=its.any (EF x) by simp,MU r fs]
  exact q
 ·obtain⟨its,r,pl,hz⟩:=I.tuple hq
  refine SeqAt.in_tupleAt (EF x) pl (λw hw=>MV rx fx r fs w (by simpa using hw)) ⟨.bl _,H,I,rfl,?_⟩
  rw[show its.toArray.any (EF x)=its.any (EF x) by simp,MU r fs]
  exact q
theorem pB:BS X (compareOp .NotIn) (PJ X.K true):=by
 intro pins s σ H x y v u Q I rx ry h
 obtain⟨p,xs,rfl,hq,fx,fs,q⟩:=h
 cases ry
 rcases hq with hq | hq
 ·obtain⟨its,r,pl,hz⟩:=I.list hq
  refine SeqAt.notIn_listAt (EF x) pl.isList (λw hw=>MV rx fx r fs w (by simpa using hw)) ⟨.bl _,H,I,rfl,?_⟩
  rw[show its.toArray.any (EF x)=its.any (EF x) by simp,MU r fs]
  exact q
 ·obtain⟨its,r,pl,hz⟩:=I.tuple hq
  refine SeqAt.notIn_tupleAt (EF x) pl (λw hw=>MV rx fx r fs w (by simpa using hw)) ⟨.bl _,H,I,rfl,?_⟩
  rw[show its.toArray.any (EF x)=its.any (EF x) by simp,MU r fs]
  exact q
theorem pC:DJ X (.type "list") (λxs H Q=>∃ p ys,xs=[.ref p]/\(SqL X.K H p ys\/SqT X.K H p ys)/\∀ l,H l=none->Q (.ref l) (upd H l (.lst ys))):=by
 intro pins s σ H xs us Q I r h
 obtain⟨p,ys,rfl,hq,q⟩:=h
 obtain⟨u,rfl,rx⟩:=FA r
 cases rx
 have fin:∀ (its:List Value),Vals ys its->ys.length<=sizeLine->∀ (h':Heap) (c':Nat),(∀ b o',s.heap.get? b=some o'->h'.get? b=some o') →
   h'.get? s.heap.objs.size=some { cls:=.type "list",dict:=none,data:=.seq its.toArray c',slots:= #[] }->EP X pins σ Q (.ref s.heap.objs.size) { s with heap:=h' }:=λits r' hz h' c' kp e =>
  ⟨.ref s.heap.objs.size,_,I.laid (t':=s.toks) kp (Nat.le_refl _) (show ObjOk X.prog X.w _ h' _ (.lst ys)from⟨hz,its,c',r',e⟩),rfl,q _ (I.hok.fresh (Nat.le_refl _))⟩
 rcases hq with hq | hq
 ·obtain⟨its,r',pl,hz⟩:=I.list hq
  have hlen:=r'.length
  obtain⟨o,ho,hc,n,hd⟩:=pl.isList
  exact call_list_seq p (.inl rfl) ho hc hd (λh' c' kp e=>fin its r' hz h' c' kp e) (by simp only[List.size_toArray]<;>omega)
 ·obtain⟨its,r',pl,hz⟩:=I.tuple hq
  have hlen:=r'.length
  obtain⟨o,ho,hc,n,hd⟩:=pl
  exact call_list_seq p (.inr rfl) ho hc hd (λh' c' kp e=>fin its r' hz h' c' kp e) (by simp only[List.size_toArray]<;>omega)
theorem pD:DJ X (.type "tuple") (λxs H Q=>∃ p ys,xs=[.ref p]/\((SqL X.K H p ys/\∀ l,H l=none->Q (.ref l) (upd H l (.tup ys)))\/(SqT X.K H p ys/\Q (.ref p) H))):=by
 intro pins s σ H xs us Q I r h
 obtain⟨p,ys,rfl,h⟩:=h
 obtain⟨u,rfl,rx⟩:=FA r
 cases rx
 rcases h with⟨hq,q⟩ | ⟨hq,q⟩
 ·obtain⟨its,r',pl,hz⟩:=I.list hq
  have hlen:=r'.length
  refine call_tuple_list pl.isList (λh' kp=> ?_) (by simp only[List.size_toArray]<;>omega)
  have I1:Inv X pins σ H { s with heap:=h' }:=I.kept (t':=s.toks) kp
  have I2:Inv X pins σ (upd H h'.objs.size (.tup ys)) { s with heap:=h'.push { cls:=.type "tuple",data:=.seq its.toArray } } :=
   I1.laid (t':=s.toks) (λb o e=>Heap.get?_push_of_some _ e) (Nat.le_refl _) (show ObjOk X.prog X.w _ _ _ (.tup ys)from⟨hz,its,r',IsTup.new _ _⟩)
  exact⟨.ref h'.objs.size,_,I2,rfl,q _ (I1.hok.fresh (Nat.le_refl _))⟩
 ·obtain⟨its,r',pl,hz⟩:=I.tuple hq
  exact call_tuple_same pl ⟨.ref p,H,I,rfl,q⟩
def MW(K:W.Frag)(T:String)(x:V)(H:Hp):Prop:=match x with
 | .str _=>T="str"
 | .int _=>T="int"
 | .ref p=>(T="list"/\∃ xs,SqL K H p xs)\/(T="tuple"/\∃ o,K.lookup p=some o/\o.cls=.type "tuple"/\o.dict=none) ∨
   (T="dict"/\((∃ kvs,H p=some (.dK kvs))\/∃ kvs,H p=some (.dT kvs)))\/(T="set"/\∃ S n,H p=some (.set S n))
 | _=>False
theorem YD{pins:List (Addr × Obj)}{σ:St}{H:Hp}{s:Shared}{T:String}{x:V}{v:Value}(I:Inv X pins σ H s)(r:RelV x v)(ty:MW X.K T x H) :
  s.TypeIs v T/\∀ a,v=.ref a->∃ ob,s.heap.get? a=some ob/\ob.dict=none:=by
 cases x with
 | str z =>
  obtain⟨t,rfl⟩:=r
  cases (show T="str" from ty)
  exact⟨typeIs_str s z t,λ_ e=>nomatch e⟩
 | int i =>
  obtain⟨t,rfl⟩:=r
  cases (show T="int" from ty)
  exact⟨typeIs_int s i t,λ_ e=>nomatch e⟩
 | ref p =>
  cases r
  rcases ty with⟨rfl,xs,hq⟩ | ⟨rfl,o,hk,hc,hd⟩ | ⟨rfl,hk⟩ | ⟨rfl,S,n,hk⟩
  ·obtain⟨its,_,pl,_⟩:=I.list hq
   refine⟨pl.isList.typeIs,λa e=> ?_⟩
   cases e
   obtain⟨o,n,e,c,hd,_⟩:=pl
   exact⟨o,e,hd⟩
  ·refine⟨⟨o,I.kIn p o hk,hc⟩,λa e=> ?_⟩
   cases e
   exact⟨o,I.kIn _ o hk,hd⟩
  ·have z:∃ o,s.heap.get? p=some o/\o.ExactDict:=by
    rcases hk with⟨kvs,hk⟩ | ⟨kvs,hk⟩
    ·obtain⟨_,_,_,_,o,_,_,e,ex,_⟩:=I.hok p _ hk
     exact⟨o,e,ex⟩
    ·obtain⟨_,_,_,_,o,_,_,e,ex,_⟩:=I.hok p _ hk
     exact⟨o,e,ex⟩
   obtain⟨o,e,ex⟩:=z
   refine⟨⟨o,e,ex.1⟩,λa e2=> ?_⟩
   cases e2
   exact⟨o,e,ex.2.1⟩
  ·obtain⟨o,_,_,_,e,ex,_⟩:=I.hok p _ hk
   refine⟨⟨o,e,ex.1⟩,λa e2=> ?_⟩
   cases e2
   exact⟨o,e,ex.2.1⟩
 | _=>exact False.elim ty
def R4(K:W.Frag)(T:String)(r:V->List V->Hp->VK->Prop)(to:TE):TE:=λσ H Q=>to σ H λx H1=>MW K T x H1/\r x [] H1 Q
def EY(K:W.Frag)(T:String)(r:V->List V->Hp->VK->Prop)(to:TE)(t:TA):TE:=λσ H Q=>to σ H λx H1=>MW K T x H1/\t σ H1 λxs H2=>r x xs H2 Q
variable{o e:Expr}{es:List Expr}{to:TE}{t:TA}{name:Str}{apos cpos:Pos}{T id:String}{r:V->List V->Hp->VK->Prop}
theorem pE(pa:PlainAttrs T)(slot:Slot T name id)(hty:typeOf (.builtin id)=pure (.type "method_descriptor"))(hm:MT X id r)(ho:PE X o to)
  (hbase:attributeBase o name X.env (eval o X.env)=eval o X.env:=by rfl) (hline:(apos.endLine == cpos.line)=true:=by rfl):PE X (.Call (.Attribute o name apos) [] [] cpos) (R4 X.K T r to):=by
 intro pins s σ H Q I h
 refine wpAny_Call_method0_late hbase hline (AT (ho pins s σ H _ I h) λv s1 ⟨x,H1,I1,r1,ty,q1⟩=> ?_)
 obtain⟨h1,h2⟩:=YD I1 r1 ty
 exact⟨T,id,pa,slot,hty,h1,h2,Calls.callWith_builtin rfl (PySem.evalArgs_none (hm pins s1 σ H1 x [] v [] Q I1 r1 .nil q1))⟩
theorem FV(pa:PlainAttrs T)(slot:Slot T name id)(hty:typeOf (.builtin id)=pure (.type "method_descriptor"))(hm:MT X id r)(ho:PE X o to)(ha:PA X (e::es) t)
  (hbase:attributeBase o name X.env (eval o X.env)=eval o X.env:=by rfl)
  (hfew:((backTo cpos (starEach (e::es) X.env)).all (λx=> !x.1) && (backToKw cpos (keywordEach [] X.env)).all (λx=>x.1.isSome)
   && decide ((e::es).length+([]:List Keyword).length+(if([]:List Keyword).isEmpty then 0 else 1)<30))=true:=by rfl)
  (hline:(apos.endLine == cpos.line)=true:=by rfl) (hs:starEach (e::es) X.env=(false,eval e X.env)::starEach es X.env:=by rfl) (hplain:(backTo cpos (starEach es X.env)).any (·.1)=false:=by rfl) :
  PE X (.Call (.Attribute o name apos) (e::es) [] cpos) (EY X.K T r to t):=by
 intro pins s σ H Q I h
 refine wpAny_Call_method_late hbase hfew hline rfl (AT (ho pins s σ H _ I h) λv s1 ⟨x,H1,I1,r1,ty,q1⟩=> ?_)
 obtain⟨h1,h2⟩:=YD I1 r1 ty
 refine⟨T,id,pa,slot,hty,h1,h2,?_⟩
 have hA:=ha cpos pins s1 σ H1 _ I1 q1
 rw[hs]at hA ⊢
 refine Calls.callWith_builtin (by show(false || (backTo cpos (starEach es X.env)).any (·.1))=false;rw[hplain]<;>rfl) (Calls.evalArgs_plain ?_)
 exact AT hA λus s2 ⟨vs,H2,I2,r2,q2⟩=>hm pins s2 σ H2 x vs v us Q I2 r1 r2 q2
end
end L2
namespace L2
def YE(X:Cx)(id:String)(r:V->List V->Hp->VK->Prop):Prop :=
 ∀ (pins:List (Addr × Obj)) (s:Shared) (σ:St) (H:Hp) (x:V) (xs:List V) (v:Value) (us:List Value) (Q:VK),Inv X pins σ H s->RelV x v->Vals xs us->r x xs H Q →
  wpAny (model X.prog X.w) X.A (call (.builtin id) (v::us)) (EP X pins σ Q) X.xe s
theorem Vals.one:∀ {x:V} {us:List Value},Vals [x] us->∃ u,us=[u]/\RelV x u
 | _,_,.cons r .nil=>⟨_,rfl,r⟩
theorem Vals.two:∀ {x y:V} {us:List Value},Vals [x,y] us->∃ u v,us=[u,v]/\RelV x u/\RelV y v
 | _,_,_,.cons r (.cons q .nil)=>⟨_,_,rfl,r,q⟩
theorem Vals.eraseIdx:∀ {xs:List V} {us:List Value} (i:Nat),Vals xs us->Vals (xs.eraseIdx i) (us.eraseIdx i)
 | _,_,_,.nil=>.nil
 | _,_,0,.cons _ t=>t
 | _,_,i+1,.cons r t=>.cons r (Vals.eraseIdx i t)
theorem Vals.rep{xs:List V}{us:List Value}(h:Vals xs us):∀ k:Nat,Vals (List.replicate k xs).flatten (List.replicate k us).flatten
 | 0=>.nil
 | k+1=>by
  rw[List.replicate_succ,List.replicate_succ,List.flatten_cons,List.flatten_cons]
  exact Vals.append h (Vals.rep h k)
theorem YF{α :Type}:∀ (l:List α) (i:Nat),(l.eraseIdx i).length<=l.length
 | [],_=>Nat.le_refl _
 | _::_,0=>Nat.le_succ _
 | _::r,i+1=>Nat.succ_le_succ (YF r i)
theorem PK(its:List Value):∀ (k:Nat) (acc:List Value),
  List.foldl (λx1 x2=>x1++x2) acc.toArray (List.replicate k its.toArray)=(acc++(List.replicate k its).flatten).toArray
 | 0,acc=>by simp
 | k+1,acc=>by
  have e:acc.toArray++its.toArray=(acc++its).toArray:=by simp
  have e2:(acc++its)++(List.replicate k its).flatten=acc++(List.replicate (k+1) its).flatten:=by
   rw[List.replicate_succ,List.flatten_cons,List.append_assoc]
  rw[<-e2,<-PK its k (acc++its),<-e,List.replicate_succ,List.foldl_cons]
section
variable{X:Cx}{pins:List (Addr × Obj)}{σ:St}{H:Hp}{s:Shared}{l b:Addr}{xs ys zs:List V}
theorem Inv.lset{its its':List Value}{n:Nat}{f:Array Value->Array Value}{t':Nat}(I:Inv X pins σ H s)(hH:H l=some (.lst xs))
  (e:s.heap.get? l=some { cls:=.type "list",data:=.seq its.toArray n }) (hf:f its.toArray=its'.toArray) (hv:Vals ys its') (hz:ys.length<=sizeLine) :
  Inv X pins σ (upd H l (.lst ys)) { s with heap:=s.heap.update l (Obj.mapSeq f),toks:=t' }:=by
 have q:=PySem.IsL.update e f
 rw[hf]at q
 refine I.write (x:=l) (e:=l) (by rw[hH];exact trivial) (.inl rfl) (λb' u hb hu=>(Heap.get?_update_other s.heap (Obj.mapSeq f) (Ne.symm hb)).trans hu) ⟨_,q⟩ ?_
 exact⟨hz,its',_,hv,q⟩
theorem Inv.lnew{its:List Value}{t':Nat}(I:Inv X pins σ H s)(hv:Vals ys its)(hz:ys.length<=sizeLine) :
  Inv X pins σ (upd H s.heap.objs.size (.lst ys)) { s with heap:=s.heap.push { cls:=.type "list",data:=.seq its.toArray },toks:=t' } :=
 I.laid (λ_ _ q=>Heap.get?_push_of_some _ q) (Nat.le_refl _) ⟨hz,its,0,hv,Heap.get?_push_size _ rfl⟩
theorem Inv.fresh(I:Inv X pins σ H s):H s.heap.objs.size=none:=I.hok.fresh (Nat.le_refl _)
theorem Inv.lstM(I:Inv X pins σ H s)(hH:H l=some (.lst xs)):xs.length<=sizeLine/\∃ (its:List Value) (n:Nat),Vals xs its/\xs.length=its.length/\s.heap.get? l=some { cls:=.type "list",data:=.seq its.toArray n }:=by
 obtain⟨z,its,n,r,e⟩:=I.hok l _ hH
 exact⟨z,its,n,r,r.length,e⟩
theorem pF{n:Nat}(h:n<=sizeLine):Builtin.List.listTooLong n=false:=by
 unfold Builtin.List.listTooLong
 exact decide_eq_false (by omega)
end
section
variable{X:Cx}
def YG:V->List V->Hp->VK->Prop:=λx vs H Q=>∃ l xs y,x=.ref l/\vs=[y]/\H l=some (.lst xs)/\xs.length<sizeLine/\Q .non (upd H l (.lst (xs++[y])))
theorem HJ:YE X "list.append" YG:=by
 intro pins s σ H x vs v us Q I rx rv h
 obtain⟨l,xs,y,rfl,rfl,hH,hz,q⟩:=h
 cases rx
 obtain⟨u,rfl,ru⟩:=rv.one
 obtain⟨z,its,n,r,hl,e⟩:=I.lstM hH
 refine call_meets F.slot_list_append ⟨_,e,rfl⟩ F.entry_list_append (F.args_list_append_2 _ _) (PySem.list_append l its.toArray n u (by rw[List.size_toArray];omega)) ⟨e,?_⟩
 refine⟨.non,_,I.lset (its':=its++[u]) hH e (by simp) (r.append (.cons ru .nil)) ?_,rfl,q⟩
 rw[List.length_append,List.length_singleton]
 omega
def YH:V->List V->Hp->VK->Prop:=λx vs H Q=>∃ l xs i k y,x=.ref l/\vs=[.int i]/\H l=some (.lst xs)/\ -(2 ^ 63)<=i/\i<2 ^ 63/\seqIndex? i xs.length=some k/\xs[k]? =some y/\Q y (upd H l (.lst (xs.eraseIdx k)))
theorem pG:YE X "list.pop" YH:=by
 intro pins s σ H x vs v us Q I rx rv h
 obtain⟨l,xs,i,k,y,rfl,rfl,hH,h1,h2,hk,hy,q⟩:=h
 cases rx
 obtain⟨u,rfl,ru⟩:=rv.one
 obtain⟨t,rfl⟩:=ru
 obtain⟨z,its,n,r,hl,e⟩:=I.lstM hH
 obtain⟨w,hw,rw'⟩:=r.get hy
 refine call_meets F.slot_list_pop ⟨_,e,rfl⟩ F.entry_list_pop (F.args_list_pop_2 _ _)
  (MeetsSeq.list_pop_at l its.toArray n i t k w (fitsIndex_both h1 h2) (by rw[List.size_toArray,<-hl];exact hk) (by rw[<-Array.getElem?_toList];exact hw) (by rw[List.size_toArray];omega)) ⟨e,?_⟩
 refine⟨y,_,I.lset (its':=its.eraseIdx k) hH e ?_ (r.eraseIdx k) ?_,rw',q⟩
 ·show its.toArray.eraseIdxIfInBounds k=(its.eraseIdx k).toArray
  rw[List.eraseIdxIfInBounds_toArray]
 ·have:=YF xs k
  omega
def R5:R2:=λx y H Q=>∃ l b xs zs,x=.ref l/\y=.ref b/\H l=some (.lst xs)/\H b=some (.lst zs)/\xs.length+zs.length<=sizeLine/\∀ p,H p=none->Q (.ref p) (upd H p (.lst (xs++zs)))
theorem pH:BS X (binaryOp .Add) R5:=by
 intro pins s σ H x y v u Q I rx ry h
 obtain⟨l,b,xs,zs,rfl,rfl,hH,hB,hz,q⟩:=h
 cases rx
 cases ry
 obtain⟨z,its,n,r,hl,e⟩:=I.lstM hH
 obtain⟨z2,its2,n2,r2,hl2,e2⟩:=I.lstM hB
 refine PySem.P.add_list e e2 ?_ (by rw[List.size_toArray,List.size_toArray];omega)
 have ea:its.toArray++its2.toArray=(its++its2).toArray:=by simp
 rw[ea]
 exact⟨.ref _,_,I.lnew (t':=s.toks) (r.append r2) (by rw[List.length_append];omega),rfl,q _ I.fresh⟩
def R6:R2:=λx y H Q=>∃ l k xs,x=.ref l/\y=.int k/\H l=some (.lst xs)/\ -(2 ^ 63)<=k/\k<2 ^ 63/\xs.length * k.toNat<=sizeLine ∧
 ∀ p,H p=none->Q (.ref p) (upd H p (.lst (List.replicate k.toNat xs).flatten))
theorem YI{α :Type}(xs:List α)(k:Nat):(List.replicate k xs).flatten.length=k * xs.length:=by
 induction k with
 | zero=>simp
 | succ k ih=>rw[List.replicate_succ,List.flatten_cons,List.length_append,ih,Nat.succ_mul,Nat.add_comm]
theorem pI:BS X (binaryOp .Mult) R6:=by
 intro pins s σ H x y v u Q I rx ry h
 obtain⟨l,k,xs,rfl,rfl,hH,h1,h2,hz,q⟩:=h
 cases rx
 obtain⟨t,rfl⟩:=ry
 obtain⟨z,its,n,r,hl,e⟩:=I.lstM hH
 have hlen:its.toArray.size * k.toNat<=sizeLine:=by rw[List.size_toArray,<-hl];exact hz
 have hcap:¬ its.toArray.size * k.toNat >(2 ^ 63 - 1) / 8:=by
  have:(sizeLine:Nat)<=(2 ^ 63 - 1) / 8:=by decide
  omega
 have hfit:¬ (!Builtin.List.listFitsIndex k)=true:=by
  rw[fitsIndex_both h1 h2]
  exact Bool.false_ne_true
 have hlong:¬ Builtin.List.listTooLong (its.toArray.size * k.toNat)=true:=by
  rw[pF hlen]
  exact Bool.false_ne_true
 have hnew:List.foldl (λx1 x2=>x1++x2) #[] (List.replicate (if its.toArray.isEmpty=true then 0 else k.toNat) its.toArray)=(List.replicate k.toNat its).flatten.toArray:=by
  have f0:∀ m:Nat,List.foldl (λx1 x2=>x1++x2) #[] (List.replicate m its.toArray)=(List.replicate m its).flatten.toArray:=λm=>by
   have:=PK its m []
   rw[List.nil_append]at this
   exact this
  rw[f0]
  cases its with
  | nil=>simp
  | cons a r'=>rw[if_neg (by simp)]
 refine wpAny_binaryOp_repeat_ref (T:="list") (U:="int") (by decide) ⟨_,e,rfl⟩ (λs'=>typeIs_int s' k t) noFill_list_mul F.fills_int_mul F.slot_int_rmul repeat_list F.slot_int_index.lookup
  (call_meets F.slot_int_rmul (typeIs_int s k t) F.entry_int_rmul (F.args_int_rmul_2 _ _) (int___rmul___int_list k t l its.toArray n)
   ⟨e,rfl,⟨_,e,rfl⟩,call_meets F.slot_list_mul ⟨_,e,rfl⟩ F.entry_list_mul (F.args_list_mul_2 _ _) (AutoListH.list___mul___list_int_3 l its.toArray n k t hfit hcap hlong) ⟨e,?_⟩⟩)
 rw[hnew]
 exact⟨.ref _,_,I.lnew (t':=s.toks) (r.rep k.toNat) (by rw[YI,Nat.mul_comm];exact hz),rfl,q _ I.fresh⟩
end
section
variable{prog:Program}{w:World}{A:Around}{E:Value->Shared->Prop}{s:Shared}
set_option maxRecDepth 100000 in
end
section
variable{X:Cx}
end
end L2
namespace L2
section
variable{κ :Type}[DecidableEq κ]
def B7(kvs:List (κ × V))(k: κ):Option V:=(kvs.find? λkv=>decide (kv.1=k)).map (·.2)
def CS(kvs:List (κ × V))(k: κ)(v:V):List (κ × V) :=
 if(kvs.any λkv=>decide (kv.1=k))=true then kvs.map (λkv=>if kv.1=k then(kv.1,v)else kv)else kvs++[(k,v)]
def ID(kvs:List (κ × V))(k: κ):List (κ × V):=kvs.filter λkv=>decide (kv.1≠k)
theorem FF{p: κ × V}{r:List (κ × V)}{k: κ}(e:p.1=k):B7 (p::r) k=some p.2:=by simp[B7,List.find?_cons,e]
theorem FG{p: κ × V}{r:List (κ × V)}{k: κ}(e:¬ p.1=k):B7 (p::r) k=B7 r k:=by simp[B7,List.find?_cons,e]
theorem MX(k: κ):∀ kvs:List (κ × V),(kvs.any λkv=>decide (kv.1=k))=(B7 kvs k).isSome
 | []=>rfl
 | p::r=>by
  rw[List.any_cons]
  by_cases e:p.1=k
  ·simp only[FF e,decide_eq_true e,Bool.true_or,Option.isSome_some]
  ·rw[FG e,decide_eq_false e,Bool.false_or];exact MX k r
theorem YJ(k j: κ)(y:V):∀ kvs:List (κ × V),B7 (kvs.map λkv=>if kv.1=k then(kv.1,y)else kv) j=(B7 kvs j).map λx=>if j=k then y else x
 | []=>rfl
 | p::r=>by
  have ih:=YJ k j y r
  rw[List.map_cons]
  by_cases h:p.1=k
  ·rw[if_pos h]
   by_cases e:p.1=j
   ·rw[FF (p:=(p.1,y)) e,FF e,Option.map_some,if_pos (e.symm.trans h)]
   ·rw[FG (p:=(p.1,y)) e,FG e,ih]
  ·rw[if_neg h]
   by_cases e:p.1=j
   ·rw[FF (p:=p) e,FF e,Option.map_some,if_neg (λz=>h (e.trans z))]
   ·rw[FG (p:=p) e,FG e,ih]
theorem YK(k j: κ)(y:V):∀ kvs:List (κ × V),B7 kvs k=none->B7 (kvs++[(k,y)]) j=if j=k then some y else B7 kvs j
 | [],_=>by
  by_cases e:k=j
  ·rw[if_pos e.symm];exact FF (p:=(k,y)) e
  ·rw[if_neg (λz=>e z.symm)];exact FG (p:=(k,y)) e
 | p::r,hn=>by
  rw[List.cons_append]
  have hk:¬ p.1=k:=λz=>by rw[FF z]at hn;cases hn
  rw[FG hk]at hn
  have ih:=YK k j y r hn
  by_cases e:p.1=j
  ·rw[FF e,FF e,if_neg (λz=>hk (e.trans z))]
  ·rw[FG e,FG e,ih]
theorem YL(kvs:List (κ × V))(k j: κ)(y:V):B7 (CS kvs k y) j=if j=k then some y else B7 kvs j:=by
 unfold CS
 by_cases a:(kvs.any λkv=>decide (kv.1=k))=true
 ·rw[if_pos a,YJ]
  rw[MX]at a
  by_cases e:j=k
  ·obtain⟨x,hx⟩:=Option.isSome_iff_exists.mp a
   rw[if_pos e,e,hx,Option.map_some,if_pos rfl]
  ·rw[if_neg e]
   cases B7 kvs j with
   | none=>rfl
   | some x=>rw[Option.map_some,if_neg e]
 ·rw[if_neg a]
  refine YK k j y kvs ?_
  rw[MX]at a
  cases q:B7 kvs k with
  | none=>rfl
  | some x=>rw[q]at a;exact(a rfl).elim
theorem PL(kvs:List (κ × V))(k: κ)(v:V):(CS kvs k v).length<=kvs.length+1:=by
 unfold CS
 split
 ·rw[List.length_map];omega
 ·rw[List.length_append,List.length_cons,List.length_nil];omega
theorem pJ{kvs:List (κ × V)}{k: κ}(v:V)(h:B7 kvs k=none):CS kvs k v=kvs++[(k,v)]:=by
 unfold CS
 rw[MX,h]
 exact if_neg (by decide)
theorem RelO.isSome_eq{o:Option V}{u:Option Value}(r:RelO o u):o.isSome=u.isSome:=by
 cases o with
 | none=>cases u with
  | none=>rfl
  | some _=>exact(show False from r).elim
 | some _=>cases u with
  | none=>exact(show False from r).elim
  | some _=>rfl
theorem RelO.getD{o:Option V}{u:Option Value}{d:V}{d':Value}(r:RelO o u)(rd:RelV d d'):RelV (o.getD d) (u.getD d'):=by
 cases o with
 | none=>cases u with
  | none=>exact rd
  | some _=>exact(show False from r).elim
 | some _=>cases u with
  | none=>exact(show False from r).elim
  | some _=>exact r
theorem KV.val{kvs:List (κ × V)}{vs:List (κ × Value)}(r:KV kvs vs)(k: κ):RelO (B7 kvs k) (valueAt vs k):=by
 unfold KV at r
 induction r with
 | nil=>exact True.intro
 | @cons p q ps qs h t ih =>
  obtain⟨h1,h2⟩:=h
  by_cases e:p.1=k
  ·have e':q.1=k:=h1.symm.trans e
   have b:valueAt (q::qs) k=some q.2:=by simp[valueAt,List.find?_cons,e']
   rw[FF e,b];exact h2
  ·have e':¬ q.1=k:=λz=>e (h1.trans z)
   have b:valueAt (q::qs) k=valueAt qs k:=by simp[valueAt,List.find?_cons,e']
   rw[FG e,b];exact ih
theorem KV.any{kvs:List (κ × V)}{vs:List (κ × Value)}(r:KV kvs vs)(k: κ):(kvs.any λkv=>decide (kv.1=k))=vs.any λkv=>decide (kv.1=k):=by
 unfold KV at r
 induction r with
 | nil=>rfl
 | cons h t ih=>rw[List.any_cons,List.any_cons,ih,h.1]
theorem KV.repl{kvs:List (κ × V)}{vs:List (κ × Value)}(r:KV kvs vs)(k: κ){y:V}{u:Value}(ry:RelV y u) :
  KV (kvs.map λkv=>if kv.1=k then(kv.1,y)else kv) (vs.map λkv=>if kv.1=k then(kv.1,u)else kv):=by
 unfold KV at r ⊢
 induction r with
 | nil=>exact .nil
 | @cons p q ps qs h t ih =>
  rw[List.map_cons,List.map_cons]
  refine .cons ?_ ih
  obtain⟨h1,h2⟩:=h
  by_cases e:p.1=k
  ·rw[if_pos e,if_pos (h1.symm.trans e)];exact⟨h1,ry⟩
  ·rw[if_neg e,if_neg (λz=>e (h1.trans z))];exact⟨h1,h2⟩
theorem KV.put{kvs:List (κ × V)}{vs:List (κ × Value)}(r:KV kvs vs)(k: κ){y:V}{u:Value}(ry:RelV y u):KV (CS kvs k y) (stored vs k u):=by
 unfold CS stored
 rw[r.any k]
 by_cases e:(vs.any λkv=>decide (kv.1=k))=true
 ·rw[if_pos e,if_pos e];exact r.repl k ry
 ·rw[if_neg e,if_neg e];exact Paired.snoc r ⟨rfl,ry⟩
theorem KV.drop{kvs:List (κ × V)}{vs:List (κ × Value)}(r:KV kvs vs)(k: κ):KV (ID kvs k) (without vs k):=by
 unfold KV at r ⊢
 unfold ID without
 induction r with
 | nil=>exact .nil
 | @cons p q ps qs h t ih =>
  obtain⟨h1,h2⟩:=h
  rw[List.filter_cons,List.filter_cons]
  by_cases e:p.1=k
  ·have a:¬ decide (p.1≠k)=true:=by simp[e]
   have b:¬ decide (q.1≠k)=true:=by simp[h1.symm.trans e]
   rw[if_neg a,if_neg b];exact ih
  ·have e':¬ q.1=k:=λz=>e (h1.trans z)
   have a:decide (p.1≠k)=true:=by simp[e]
   have b:decide (q.1≠k)=true:=by simp[e']
   rw[if_pos a,if_pos b];exact .cons ⟨h1,h2⟩ ih
theorem KV.length{kvs:List (κ × V)}{vs:List (κ × Value)}(r:KV kvs vs):kvs.length=vs.length:=Paired.length r
theorem pK(kvs:List (κ × V))(k: κ):(ID kvs k).length<=kvs.length:=List.length_filter_le _ _
end
theorem IE{P:Program}{w:World}{k:AS}{u:Value}(r:RelV (kV k) u):(CY P w).is k u=true:=by
 cases k with
 | inl i=>obtain⟨t,e⟩:=(show ∃ t,u=Value.int i t from r);subst e;exact lY P w i t
 | inr x=>obtain⟨t,e⟩:=(show ∃ t,u=Value.str x t from r);subst e;exact lZ P w x t
theorem YM{P:Program}{w:World}:∀ {ks:List AS} {us:List Value},Vals (ks.map kV) us->ItemsAre (CY P w) ks us
 | [],_,r=>by rw[List.map_nil]at r;cases r;exact .nil
 | k::ks,_,r=>by
  rw[List.map_cons]at r
  cases r with
  | cons h t=>exact .cons (IE h) (YM t)
abbrev KT(H:Hp):List (List AS × V)->List (List AS × Addr × Value)->Prop:=Paired λp q=>p.1=q.1/\H q.2.1=some (.tup (p.1.map kV))/\RelV p.2 q.2.2
theorem KT.val{H:Hp}{kvs:List (List AS × V)}{xs:List (List AS × Addr × Value)}(r:KT H kvs xs)(k:List AS):RelO (B7 kvs k) ((atKey xs k).map (·.2)):=by
 induction r with
 | nil=>exact True.intro
 | @cons p q ps qs h t ih =>
  obtain⟨h1,_,h2⟩:=h
  by_cases e:p.1=k
  ·have e':q.1=k:=h1.symm.trans e
   have b:atKey (q::qs) k=some q.2:=by simp[atKey,List.find?_cons,e']
   rw[FF e,b];exact h2
  ·have e':¬ q.1=k:=λz=>e (h1.trans z)
   have b:atKey (q::qs) k=atKey qs k:=by simp[atKey,List.find?_cons,e']
   rw[FG e,b];exact ih
theorem KT.repl{H:Hp}{kvs:List (List AS × V)}{xs:List (List AS × Addr × Value)}(r:KT H kvs xs)(k:List AS){y:V}{u:Value}(ry:RelV y u) :
  KT H (kvs.map λkv=>if kv.1=k then(kv.1,y)else kv) (xs.map (putAt k u)):=by
 induction r with
 | nil=>exact .nil
 | @cons p q ps qs h t ih =>
  rw[List.map_cons,List.map_cons]
  refine .cons ?_ ih
  obtain⟨h1,h2,h3⟩:=h
  unfold putAt
  by_cases e:p.1=k
  ·rw[if_pos e,if_pos (h1.symm.trans e)];exact⟨h1,h2,ry⟩
  ·rw[if_neg e,if_neg (λz=>e (h1.trans z))];exact⟨h1,h2,h3⟩
theorem KT.put{H:Hp}{kvs:List (List AS × V)}{xs:List (List AS × Addr × Value)}(r:KT H kvs xs)(k:List AS){b:Addr}{y:V}{u:Value}(hb:H b=some (.tup (k.map kV)))(ry:RelV y u) :
  KT H (CS kvs k y) (storedH xs k b u):=by
 have e:(kvs.any λkv=>decide (kv.1=k))=(atKey xs k).isSome:=by
  rw[MX,(r.val k).isSome_eq,Option.isSome_map]
 unfold CS storedH
 rw[e]
 by_cases q:(atKey xs k).isSome=true
 ·rw[if_pos q,if_pos q];exact r.repl k ry
 ·rw[if_neg q,if_neg q];exact Paired.snoc r ⟨rfl,hb,ry⟩
theorem KT.keeps{H H':Hp}{kvs:List (List AS × V)}{xs:List (List AS × Addr × Value)}(r:KT H kvs xs)(ht:∀ b ys,H b=some (.tup ys)->H' b=some (.tup ys)):KT H' kvs xs :=
 Paired.mapP r λ_ _ z=>⟨z.1,ht _ _ z.2.1,z.2.2⟩
section
variable{P:Program}{w:World}{H:Hp}{h:Heap}{a:Addr}
theorem YN{u:HO}(ok:HOk P w H h)(e:Rd H a u):ObjOk P w H h a u:=e.ok ok
theorem HK{kvs:List (AS × V)}(ok:HOk P w H h)(e:Rd H a (.dK kvs)):kvs.length<=sizeLine/\(a == sysModules)=false/\∃ vs,KV kvs vs/\h.DictOf (CY P w) a vs :=
 show ObjOk P w H h a (.dK kvs)from YN ok e
theorem PM{kvs:List (AS × V)}(ok:HOk P w H h)(e:H a=some (.dK kvs)):kvs.length<=sizeLine/\(a == sysModules)=false/\∃ vs,KV kvs vs/\h.DictOf (CY P w) a vs:=HK ok (.inl e)
theorem J9{ks:List AS}(ok:HOk P w H h)(e:H a=some (.tup (ks.map kV))):(tupleKind (CY P w)).is h ks a:=by
 obtain⟨_,its,r,o,h1,h2,n,h3⟩:=(show ObjOk P w H h a (.tup (ks.map kV))from ok a _ e)
 exact⟨o,its.toArray,n,h1,h2,h3,by simpa using YM r⟩
theorem IF{kvs:List (List AS × V)}(ok:HOk P w H h)(e:Rd H a (.dT kvs)):kvs.length<=sizeLine/\(a == sysModules)=false ∧
  ∃ xs,KT H kvs xs/\h.DictOfH (tupleKind (CY P w)) a xs:=by
 obtain⟨z,y,xs,r,o,es,ep,h1,h2,h3,h4,h5⟩:=(show ObjOk P w H h a (.dT kvs)from YN ok e)
 refine⟨z,y,xs,r,o,es,ep,h1,h2,h3,h4,λx hx=> ?_,h5⟩
 have all:∀ {l:List (List AS × V)} {m:List (List AS × Addr × Value)},KT H l m->∀ x∈m,(tupleKind (CY P w)).is h x.1 x.2.1:=by
  intro l m q
  induction q with
  | nil=>intro x hx;exact nomatch hx
  | @cons p q ps qs hq t ih =>
   intro x hx
   rcases List.mem_cons.mp hx with e | hx
   ·subst e
    exact J9 ok (by rw[<-hq.1];exact hq.2.1)
   ·exact ih x hx
 exact all r x hx
theorem pL{kvs:List (List AS × V)}(ok:HOk P w H h)(e:H a=some (.dT kvs)):kvs.length<=sizeLine/\(a == sysModules)=false ∧
  ∃ xs,KT H kvs xs/\h.DictOfH (tupleKind (CY P w)) a xs:=IF ok (.inl e)
end
def DGet(H:Hp)(a:Addr)(y:V)(r:Option V):Prop :=
 (∃ kvs k,Rd H a (.dK kvs)/\y=kV k/\r=B7 kvs k)\/∃ kvs k b,Rd H a (.dT kvs)/\y=.ref b/\H b=some (.tup (k.map kV))/\r=B7 kvs k
def DPut(H:Hp)(a:Addr)(y v:V)(H':Hp):Prop :=
 (∃ kvs k,H a=some (.dK kvs)/\y=kV k/\kvs.length<sizeLine/\H'=upd H a (.dK (CS kvs k v))) ∨
 ∃ kvs k b,H a=some (.dT kvs)/\y=.ref b/\H b=some (.tup (k.map kV))/\kvs.length<sizeLine/\H'=upd H a (.dT (CS kvs k v))
theorem DGet.k{H:Hp}{a:Addr}{kvs:List (AS × V)}{k:AS}(e:H a=some (.dK kvs)):DGet H a (kV k) (B7 kvs k):=.inl ⟨kvs,k,.inl e,rfl,rfl⟩
theorem DGet.t{H:Hp}{a b:Addr}{kvs:List (List AS × V)}{k:List AS}(e:H a=some (.dT kvs))(eb:H b=some (.tup (k.map kV))):DGet H a (.ref b) (B7 kvs k):=.inr ⟨kvs,k,b,.inl e,rfl,eb,rfl⟩
theorem DPut.k{H:Hp}{a:Addr}{kvs:List (AS × V)}{k:AS}{v:V}(e:H a=some (.dK kvs))(hl:kvs.length<sizeLine):DPut H a (kV k) v (upd H a (.dK (CS kvs k v))):=.inl ⟨kvs,k,e,rfl,hl,rfl⟩
theorem DPut.t{H:Hp}{a b:Addr}{kvs:List (List AS × V)}{k:List AS}{v:V}(e:H a=some (.dT kvs))(eb:H b=some (.tup (k.map kV)))(hl:kvs.length<sizeLine) :
  DPut H a (.ref b) v (upd H a (.dT (CS kvs k v))):=.inr ⟨kvs,k,b,e,rfl,eb,hl,rfl⟩
section
variable{X:Cx}{pins:List (Addr × Obj)}{σ:St}{H:Hp}{s:Shared}{a:Addr}{y v:V}{u r:Value}{o:Option V}{A:Around}{E:Value->Shared->Prop}
theorem Inv.big(I:Inv X pins σ H s):sysModules<s.heap.objs.size:=by
 have h:mainGlobals<s.heap.objs.size:=(I.mod.glob.keeps I.bk).lt
 exact Nat.lt_trans (by decide) h
theorem pM{Q:Value->Shared->Prop}(hu:A.units+1<cLine)(I:Inv X pins σ H s)(g:DGet H a y (some v))(ry:RelV y u)(h:∀ w' s',Inv X pins σ H s'->RelV v w'->Q w' s') :
  wpAny (model X.prog X.w) A (getItem (.ref a) u) Q E s:=by
 rcases g with⟨kvs,k,e,ey,l⟩ | ⟨kvs,k,b,e,ey,eb,l⟩
 ·subst ey
  obtain⟨z,hd,vs,rel,dd⟩:=HK I.hok e
  obtain⟨w',hw,rw'⟩:=RelO.some_of (v:=v) (o:=valueAt vs k) (by rw[l];exact rel.val k)
  exact wpAny_getItem_of (IE ry) dd.mapOf hw (h w' _ (I.tok _) rw')
 ·subst ey
  cases (show u=Value.ref b from ry)
  obtain⟨z,hd,xs,rel,dd⟩:=IF I.hok e
  obtain⟨w',hw,rw'⟩:=RelO.some_of (v:=v) (o:=(atKey xs k).map (·.2)) (by rw[l];exact rel.val k)
  obtain⟨p,hp,hp2⟩:=Option.map_eq_some_iff.mp hw
  refine wpAny_getItem_heap (tupleKind_room_in1 hu) (J9 I.hok eb) dd hp ?_
  rw[hp2]
  exact h w' _ (I.tok _) rw'
theorem pN{Q:Value->Shared->Prop}(hu:A.units+1<cLine)(I:Inv X pins σ H s)(g:DGet H a y o)(ry:RelV y u)(h:∀ s',Inv X pins σ H s'->Q (.bool o.isSome) s') :
  wpAny (model X.prog X.w) A (compareOp .In u (.ref a)) Q E s:=by
 rcases g with⟨kvs,k,e,ey,l⟩ | ⟨kvs,k,b,e,ey,eb,l⟩
 ·subst ey
  obtain⟨z,hd,vs,rel,dd⟩:=HK I.hok e
  refine wpAny_in_of (IE ry) hd dd.mapOf ?_
  rw[<-(rel.val k).isSome_eq,<-l]
  exact h _ (I.tok _)
 ·subst ey
  cases (show u=Value.ref b from ry)
  obtain⟨z,hd,xs,rel,dd⟩:=IF I.hok e
  refine wpAny_in_heap (tupleKind_room_in1 hu) (J9 I.hok eb) hd dd ?_
  have q:=(rel.val k).isSome_eq
  rw[Option.isSome_map]at q
  rw[<-q,<-l]
  exact h _ (I.tok _)
theorem pO{Q:Value->Shared->Prop}(hu:A.units+1<cLine)(I:Inv X pins σ H s)(g:DGet H a y o)(ry:RelV y u)(h:∀ s',Inv X pins σ H s'->Q (.bool (!o.isSome)) s') :
  wpAny (model X.prog X.w) A (compareOp .NotIn u (.ref a)) Q E s:=by
 rcases g with⟨kvs,k,e,ey,l⟩ | ⟨kvs,k,b,e,ey,eb,l⟩
 ·subst ey
  obtain⟨z,hd,vs,rel,dd⟩:=HK I.hok e
  refine wpAny_notIn_of (IE ry) hd dd.mapOf ?_
  rw[<-(rel.val k).isSome_eq,<-l]
  exact h _ (I.tok _)
 ·subst ey
  cases (show u=Value.ref b from ry)
  obtain⟨z,hd,xs,rel,dd⟩:=IF I.hok e
  refine wpAny_notIn_heap (tupleKind_room_in1 hu) (J9 I.hok eb) hd dd ?_
  have q:=(rel.val k).isSome_eq
  rw[Option.isSome_map]at q
  rw[<-q,<-l]
  exact h _ (I.tok _)
theorem R7{h':Heap}{t':Nat}{ob:HO}(I:Inv X pins σ H s)(mu:MF (H a))(hs:Heap.SameBut a s.heap h')(he:∃ q,h'.get? a=some q)(new:ObjOk X.prog X.w (upd H a ob) h' a ob) :
  Inv X pins σ (upd H a ob) { s with heap:=h',toks:=t' } :=
 I.write (x:=a) (e:=a) mu (.inl rfl) (λb q hb z=>(hs.2 b hb).trans z) he new
theorem YO{P:Program}{w:World}{H':Hp}{h':Heap}{kvs:List (AS × V)}{vs:List (AS × Value)}(z:kvs.length<=sizeLine)(hd:(a == sysModules)=false)(rel:KV kvs vs)(dd:h'.DictOf (CY P w) a vs) :
  ObjOk P w H' h' a (.dK kvs):=⟨z,hd,vs,rel,dd⟩
theorem pP{H':Hp}{Q:Unit->Shared->Prop}(hu:A.units+1<cLine)(I:Inv X pins σ H s)(g:DPut H a y v H')(ry:RelV y u)(rv:RelV v r)(h:∀ s',Inv X pins σ H' s'->Q () s') :
  wpAny (model X.prog X.w) A (setItem (.ref a) u r) Q E s:=by
 rcases g with⟨kvs,k,e,ey,l,eH⟩ | ⟨kvs,k,b,e,ey,eb,l,eH⟩
 ·subst ey eH
  obtain⟨z,hd,vs,rel,dd⟩:=PM I.hok e
  have hz:vs.length<=sizeLine:=by rw[<-rel.length];exact z
  have hl:(CS kvs k v).length<=sizeLine:=by have:=PL kvs k v;omega
  refine wpAny_setItem_pairs (hsz:=hz) (IE ry) dd λh' dd' hs=>h _ ?_
  have he:∃ q,h'.get? a=some q:=let ⟨q,_,_,hq,_⟩:=dd';⟨q,hq⟩
  exact R7 I (by rw[e];exact True.intro) hs he (YO hl hd (rel.put k rv) dd')
 ·subst ey eH
  cases (show u=Value.ref b from ry)
  obtain⟨z,hd,xs,rel,dd⟩:=pL I.hok e
  have hz:xs.length<=sizeLine:=by rw[<-Paired.length rel];exact z
  have hl:(CS kvs k v).length<=sizeLine:=by have:=PL kvs k v;omega
  refine wpAny_setItem_heap (hsz:=hz) (tupleKind_room_in1 hu) (J9 I.hok eb) dd λh' dd' hs=>h _ ?_
  obtain⟨q,es,ep,hq,h2,h3,h4,_,h5⟩:=dd'
  refine R7 I (by rw[e];exact True.intro) hs ⟨q,hq⟩ ⟨hl,hd,_,(rel.put k eb rv).keeps λc ys ec=> ?_,q,es,ep,hq,h2,h3,h4,h5⟩
  rw[AM (CG ec e (λz=>nomatch z))]
  exact ec
end
section
variable{X:Cx}{pins:List (Addr × Obj)}{σ:St}{H:Hp}{s:Shared}{a:Addr}{kvs:List (AS × V)}{k:AS}{u:Value}{A:Around}{E:Value->Shared->Prop}
theorem pQ{v:V}{more:List Value}{Q:Value->Shared->Prop}(I:Inv X pins σ H s)(e:H a=some (.dK kvs))(ry:RelV (kV k) u)(l:B7 kvs k=some v)(hm:more=[]\/∃ x,more=[x])
  (h:∀ w' s',Inv X pins σ (upd H a (.dK (ID kvs k))) s'->RelV v w'->Q w' s'):wpAny (model X.prog X.w) A (call (.builtin "dict.pop") (.ref a::u::more)) Q E s:=by
 obtain⟨z,hd,vs,rel,dd⟩:=PM I.hok e
 obtain⟨w',hw,rw'⟩:=RelO.some_of (v:=v) (o:=valueAt vs k) (by rw[<-l];exact rel.val k)
 have hp:(keyPart u).isSome=true:=by
  cases k with
  | inl i=>obtain⟨t,q⟩:=(show ∃ t,u=Value.int i t from ry);subst q;rfl
  | inr x=>obtain⟨t,q⟩:=(show ∃ t,u=Value.str x t from ry);subst q;rfl
 have ha:argsOk "dict.pop" ⟨.ref a::u::more,[]⟩:=by
  rcases hm with q | ⟨x,q⟩
  ·subst q;exact PySem.F.args_dict_pop_2 _ _
  ·subst q;exact PySem.F.args_dict_pop_3 _ _ _
 refine call_meetsIn PySem.F.slot_dict_pop dd.typeIs PySem.F.entry_dict_pop ha (meets_dict_pop_there (CY X.prog X.w) a (IE ry) more hm hp)
  ⟨vs,w',dd,by rw[<-rel.length];exact z,hw,λh' dd' hs=>h w' _ ?_ rw'⟩
 have he:∃ q,h'.get? a=some q:=let ⟨q,_,_,hq,_⟩:=dd';⟨q,hq⟩
 exact R7 I (by rw[e];exact True.intro) hs he (YO (Nat.le_trans (pK kvs k) z) hd (rel.drop k) dd')
theorem pR{Q:Value->Shared->Prop}(I:Inv X pins σ H s)(e:Rd H a (.dK kvs))(h:∀ t s',Inv X pins σ H s'->Q (.int kvs.length t) s'):wpAny (model X.prog X.w) A (call (.builtin "len") [.ref a]) Q E s:=by
 obtain⟨z,hd,vs,rel,dd⟩:=HK I.hok e
 refine call_len_dict hd dd (by rw[<-rel.length];rw[sizeLine_eq]at z;omega) ?_
 rw[<-rel.length]
 exact h _ _ (I.tok _)
end
def YQ(i:Expr):Prop:=∀ ov iv,subscripted i false ov iv=operate [ov,iv] (getItem ov iv)
theorem pT{prog:Program}{w:World}{A:Around}{E:Value->Shared->Prop}{s:Shared}{env:Env}{value slice:Expr}{pos:Pos}{T id:String}{Q:Value->Shared->Prop}
  (hl:typeLookup (.type T) "__getitem__"=pure (some (.builtin id))) (hs:YQ slice)
  (h:wpAny (model prog w) A (eval value env) (λo s₁=>wpAny (model prog w) A (eval slice env) (λi s₂=>s₂.TypeIs o T/\wpAny (model prog w) A (getItem o i) Q E s₂) E s₁) E s) :
  wpAny (model prog w) A (eval (.Subscript value slice pos) env) Q E s:=by
 refine Subscript_ (wpAny_mono h (λo s₁ h₁=>wpAny_mono h₁ (λi s₂ h₂=> ?_) λ_ _ x=>x) λ_ _ x=>x)
 obtain⟨hT,h₂⟩:=h₂
 unfold subscriptTail
 refine wpAny_bind ?_
 rw[getitemInPython_of_ne hT.not_modules]
 refine wpAny_bind (wpAny_specialOf hT hl ?_)
 have fin:wpAny (model prog w) A (subscripted slice false o i) (λr s₃=>wpAny (model prog w) A (letTemporaryGo value o r >>= λ_=>pure r) Q E s₃) E s₂:=by
  rw[hs o i]
  exact wpAny_operating (wpAny_mono h₂ (λr s₃ h₃=>wpAny_bind (wpAny_letTemporaryGo (wpAny_pure h₃))) λ_ _ x=>x)
 first
  | exact wpAny_pure (wpAny_bind fin)
  | exact wpAny_bind (wpAny_pure (wpAny_bind fin))
  | exact wpAny_bind fin
theorem pU{X:Cx}{pins:List (Addr × Obj)}{σ:St}{H:Hp}{s:Shared}{a:Addr}{y:V}{o:Option V}(I:Inv X pins σ H s)(g:DGet H a y o):s.TypeIs (.ref a) "dict":=by
 rcases g with⟨kvs,k,e,_,_⟩ | ⟨kvs,k,b,e,_,_,_⟩
 ·obtain⟨_,_,vs,_,dd⟩:=HK I.hok e
  exact dd.typeIs
 ·obtain⟨_,_,xs,_,dd⟩:=IF I.hok e
  exact dd.typeIs
def IG(td ty:TE):TE:=λσ H Q=>td σ H λx H1=>ty σ H1 λy H2=>∃ a v,x=.ref a/\DGet H2 a y (some v)/\Q v H2
def MY(ty td:TE):TE:=λσ H Q=>ty σ H λy H1=>td σ H1 λx H2=>∃ a o,x=.ref a/\DGet H2 a y o/\Q (.bl o.isSome) H2
def KA(ty td:TE):TE:=λσ H Q=>ty σ H λy H1=>td σ H1 λx H2=>∃ a o,x=.ref a/\DGet H2 a y o/\Q (.bl (!o.isSome)) H2
def KB(td ty tv:TE):TS:=λD σ H=>tv σ H λv H1=>td σ H1 λx H2=>ty σ H2 λy H3=>∃ a H4,x=.ref a/\DPut H3 a y v H4/\D.nx σ H4
section
variable{X:Cx}{o i e value:Expr}{pos pos' tpos:Pos}{td ty tv:TE}
theorem MZ(hu:X.A.units+1<cLine)(ho:PE X o td)(hi:PE X i ty)(hs:YQ i):PE X (.Subscript o i pos) (IG td ty):=by
 intro pins s σ H Q I h
 refine pT PySem.F.slot_dict_getitem.lookup hs (AT (ho pins s σ H _ I h) λu s1 ⟨x,H1,I1,rx,q1⟩=>AT (hi pins s1 σ H1 _ I1 q1) λiv s2 ⟨y,H2,I2,ry,a,v,ex,g,q2⟩=> ?_)
 subst ex
 obtain rfl:u=Value.ref a:=rx
 exact⟨pU I2 g,pM hu I2 g ry λw' s3 I3 rw'=>⟨v,H2,I3,rw',q2⟩⟩
theorem R8(hu:X.A.units+1<cLine)(hi:PE X i ty)(ho:PE X o td):PC X .In i o (MY ty td):=by
 intro pins s σ H Q I h
 refine AT (hi pins s σ H _ I h) λiv s1 ⟨y,H1,I1,ry,q1⟩=>AT (ho pins s1 σ H1 _ I1 q1) λu s2 ⟨x,H2,I2,rx,a,ov,ex,g,q2⟩=> ?_
 subst ex
 obtain rfl:u=Value.ref a:=rx
 exact pN hu I2 g ry λs3 I3=>⟨.bl ov.isSome,H2,I3,rfl,q2⟩
theorem PN(hu:X.A.units+1<cLine)(hi:PE X i ty)(ho:PE X o td):PC X .NotIn i o (KA ty td):=by
 intro pins s σ H Q I h
 refine AT (hi pins s σ H _ I h) λiv s1 ⟨y,H1,I1,ry,q1⟩=>AT (ho pins s1 σ H1 _ I1 q1) λu s2 ⟨x,H2,I2,rx,a,ov,ex,g,q2⟩=> ?_
 subst ex
 obtain rfl:u=Value.ref a:=rx
 exact pO hu I2 g ry λs3 I3=>⟨.bl (!ov.isSome),H2,I3,rfl,q2⟩
theorem PQ(hu:X.A.units+1<cLine)(ho:PE X o td)(hi:PE X i ty)(hv:PE X value tv)(hs:swapsWith value (some (.Subscript o i pos')) pos.line X.env=pure false) :
  PS X (.Assign [.Subscript o i pos'] value pos) (KB td ty tv):=by
 intro pins s σ H D I h
 refine wpAny_Assign_Subscript (AT (hv pins s σ H _ I h) λr s1 ⟨v,H1,I1,rv,q1⟩=>AT (ho pins s1 σ H1 _ I1 q1) λu s2 ⟨x,H2,I2,rx,q2⟩=>AT (hi pins s2 σ H2 _ I2 q2) λiv s3 ⟨y,H3,I3,ry,a,H4,ex,g,q3⟩=> ?_) hs
 subst ex
 obtain rfl:u=Value.ref a:=rx
 exact pP hu I3 g ry rv λs4 I4=>⟨σ,H4,I4,q3⟩
end
theorem pV{P:Program}{w:World}{H:Hp}(h:Heap)(hb:sysModules<h.objs.size):ObjOk P w H (h.push { cls:=.type "dict",data:=.dict #[] }) h.objs.size (.dK []) :=
 ⟨Nat.zero_le _,beq_eq_false_iff_ne.mpr (Ne.symm (Nat.ne_of_lt hb)),[],.nil,Heap.DictOf.new h⟩
theorem pW{P:Program}{w:World}{H:Hp}(h:Heap)(hb:sysModules<h.objs.size):ObjOk P w H (h.push { cls:=.type "dict",data:=.dict #[] }) h.objs.size (.dT []) :=
 ⟨Nat.zero_le _,beq_eq_false_iff_ne.mpr (Ne.symm (Nat.ne_of_lt hb)),[],.nil,_,#[],0,Heap.get?_push_size _ rfl,⟨rfl,rfl,rfl⟩,rfl,rfl,List.nodup_nil⟩
def M0:TE:=λ_ H Q=>∀ p,H p=none->Q (.ref p) (upd H p (.dK []))
def R9:TE:=λ_ H Q=>∀ p,H p=none->Q (.ref p) (upd H p (.dT []))
section
variable{X:Cx}{pos:Pos}
theorem SB:PE X (.Dict [] [] pos) M0:=λpins s σ H Q I h =>
 wpAny_Dict_empty ⟨.ref s.heap.objs.size,_,I.laid (a:=s.heap.objs.size) (o:=.dK []) (t':=s.toks) (λ_ _ q=>Heap.get?_push_of_some _ q) (Nat.le_refl _) (pV s.heap I.big),rfl,h _ (I.hok.fresh (Nat.le_refl _))⟩
theorem pX:PE X (.Dict [] [] pos) R9:=λpins s σ H Q I h =>
 wpAny_Dict_empty ⟨.ref s.heap.objs.size,_,I.laid (a:=s.heap.objs.size) (o:=.dT []) (t':=s.toks) (λ_ _ q=>Heap.get?_push_of_some _ q) (Nat.le_refl _) (pW s.heap I.big),rfl,h _ (I.hok.fresh (Nat.le_refl _))⟩
end
structure M1(X:Cx)(o:Expr)(m:Str)(apos:Pos)(e:Expr)(cpos:Pos):Prop where
 base:attributeBase o m X.env (eval o X.env)=eval o X.env
 few:((backTo cpos (starEach [e] X.env)).all (λx=> !x.1) && (backToKw cpos (keywordEach [] X.env)).all (λx=>x.1.isSome)
  && decide (([e]:List Expr).length+([]:List Keyword).length+(if([]:List Keyword).isEmpty then 0 else 1)<30))=true
 line:(apos.endLine == cpos.line)=true
 trees:backTo cpos (starEach [e] X.env)=[(false,eval e X.env)]
structure M2(X:Cx)(o:Expr)(m:Str)(apos:Pos)(e f:Expr)(cpos:Pos):Prop where
 base:attributeBase o m X.env (eval o X.env)=eval o X.env
 few:((backTo cpos (starEach [e,f] X.env)).all (λx=> !x.1) && (backToKw cpos (keywordEach [] X.env)).all (λx=>x.1.isSome)
  && decide (([e,f]:List Expr).length+([]:List Keyword).length+(if([]:List Keyword).isEmpty then 0 else 1)<30))=true
 line:(apos.endLine == cpos.line)=true
 trees:backTo cpos (starEach [e,f] X.env)=[(false,eval e X.env),(false,eval f X.env)]
def PR(H:Hp)(a:Addr):Prop:=(∃ kvs,Rd H a (.dK kvs))\/∃ kvs,Rd H a (.dT kvs)
theorem YR{X:Cx}{pins:List (Addr × Obj)}{σ:St}{H:Hp}{s:Shared}{a:Addr}(I:Inv X pins σ H s)(d:PR H a) :
  s.TypeIs (.ref a) "dict"/\(∀ b,Value.ref a=.ref b->∃ ob,s.heap.get? b=some ob/\ob.dict=none)/\(a == sysModules)=false:=by
 rcases d with⟨kvs,e⟩ | ⟨kvs,e⟩
 ·obtain⟨_,hd,vs,_,dd⟩:=HK I.hok e
  refine⟨dd.typeIs,λb q=> ?_,hd⟩
  cases q
  obtain⟨ob,_,_,h1,h2,_⟩:=dd
  exact⟨ob,h1,h2.2.1⟩
 ·obtain⟨_,hd,xs,_,dd⟩:=IF I.hok e
  refine⟨dd.typeIs,λb q=> ?_,hd⟩
  cases q
  obtain⟨ob,_,_,h1,h2,_⟩:=dd
  exact⟨ob,h1,h2.2.1⟩
section
variable{X:Cx}{pins:List (Addr × Obj)}{σ:St}{H:Hp}{s:Shared}{a:Addr}{y d:V}{u r:Value}{o:Option V}{A:Around}{E:Value->Shared->Prop}
theorem pY{Q:Value->Shared->Prop}(hu:A.units+1<cLine)(I:Inv X pins σ H s)(g:DGet H a y o)(ry:RelV y u)(h:∀ w' s',Inv X pins σ H s'->RelV (o.getD .non) w'->Q w' s') :
  wpAny (model X.prog X.w) A (call (.builtin "dict.get") [.ref a,u]) Q E s:=by
 rcases g with⟨kvs,k,e,ey,l⟩ | ⟨kvs,k,b,e,ey,eb,l⟩
 ·subst ey
  obtain⟨z,hd,vs,rel,dd⟩:=HK I.hok e
  refine call_meetsIn PySem.F.slot_dict_get dd.typeIs PySem.F.entry_dict_get (PySem.F.args_dict_get_2 _ _) (meets_dict_get (CY X.prog X.w) a (IE ry) hd) ⟨_,dd.mapOf,h _ _ (I.tok _) ?_⟩
  rw[l]
  exact(rel.val k).getD rfl
 ·subst ey
  cases (show u=Value.ref b from ry)
  obtain⟨z,hd,xs,rel,dd⟩:=IF I.hok e
  refine call_meetsIn PySem.F.slot_dict_get dd.typeIs PySem.F.entry_dict_get (PySem.F.args_dict_get_2 _ _) (meetsH_dict_get (tupleKind (CY X.prog X.w)) a b hd) ⟨tupleKind_room_in1 hu,k,xs,J9 I.hok eb,dd,h _ _ (I.tok _) ?_⟩
  rw[l]
  exact(rel.val k).getD rfl
end
def SD(td ty:TE):TE:=λσ H Q=>td σ H λx H1=>∃ a,x=.ref a/\PR H1 a/\ty σ H1 λy H2=>∃ o,DGet H2 a y o/\Q (o.getD .non) H2
def M3(td ty:TE):TE:=λσ H Q=>td σ H λx H1=>∃ a,x=.ref a/\PR H1 a/\ty σ H1 λy H2=>∃ kvs k v,H2 a=some (.dK kvs)/\y=kV k/\B7 kvs k=some v/\Q v (upd H2 a (.dK (ID kvs k)))
section
variable{X:Cx}{o e f:Expr}{apos cpos:Pos}{td ty tx:TE}
theorem pZ(hu:X.A.units+1<cLine)(ho:PE X o td)(he:PE X e ty)(m:M1 X o "get" apos e cpos):PE X (.Call (.Attribute o "get" apos) [e] [] cpos) (SD td ty):=by
 intro pins s σ H Q I h
 refine wpAny_Call_method m.base m.few m.line PySem.F.plainAttrs_dict PySem.F.slot_dict_get PySem.F.type_dict_get (AT (ho pins s σ H _ I h) λu s1 ⟨x,H1,I1,rx,a,ex,d,q1⟩=> ?_)
 subst ex
 obtain rfl:u=Value.ref a:=rx
 obtain⟨t1,t2,_⟩:=YR I1 d
 refine⟨t1,t2,?_⟩
 rw[m.trees]
 refine Calls.callWith_builtin rfl (Calls.evalArgs_plain (Calls.spliced_cons (AT (he pins s1 σ H1 _ I1 q1) λiv s2 ⟨y,H2,I2,ry,ov,g,q2⟩=>Calls.spliced_nil ?_)))
 exact pY hu I2 g ry λw' s3 I3 rw'=>⟨_,H2,I3,rw',q2⟩
theorem YS(ho:PE X o td)(he:PE X e ty)(m:M1 X o "pop" apos e cpos):PE X (.Call (.Attribute o "pop" apos) [e] [] cpos) (M3 td ty):=by
 intro pins s σ H Q I h
 refine wpAny_Call_method m.base m.few m.line PySem.F.plainAttrs_dict PySem.F.slot_dict_pop PySem.F.type_dict_pop (AT (ho pins s σ H _ I h) λu s1 ⟨x,H1,I1,rx,a,ex,d,q1⟩=> ?_)
 subst ex
 obtain rfl:u=Value.ref a:=rx
 obtain⟨t1,t2,_⟩:=YR I1 d
 refine⟨t1,t2,?_⟩
 rw[m.trees]
 refine Calls.callWith_builtin rfl (Calls.evalArgs_plain (Calls.spliced_cons (AT (he pins s1 σ H1 _ I1 q1) λiv s2 ⟨y,H2,I2,ry,kvs,k,v,ea,ey,l,q2⟩=>Calls.spliced_nil ?_)))
 subst ey
 exact pQ I2 ea ry l (.inl rfl) λw' s3 I3 rw'=>⟨v,_,I3,rw',q2⟩
end
section
variable{X:Cx}{pins:List (Addr × Obj)}{σ:St}{H:Hp}{s:Shared}{a:Addr}{kvs:List (AS × V)}{A:Around}{E:Value->Shared->Prop}
end
section
variable{X:Cx}{pins:List (Addr × Obj)}{σ:St}{H:Hp}{s:Shared}{a:Addr}{y:V}{u:Value}{A:Around}{E:Value->Shared->Prop}
end
end L2
namespace Att
open PySem PySem.W PySem.Calls PyProof.Rows
theorem p0{P:Params}{h:Heap}:∀ (ns:List Int) (vs:List Value),WellAll P h vs (ns.map WData.int)->IntsAre vs ns:=by
 intro ns
 induction ns with
 | nil =>
  intro vs w
  rw[List.map_nil]at w
  cases w
  exact .nil
 | cons n ns ih =>
  intro vs w
  rw[List.map_cons]at w
  cases w with
  | cons a b =>
   cases a
   exact .cons _ _ (ih _ b)
theorem p5{l:OpenLaw}{n:Nat}(hn:l.most=some n){P:Params}{h:Heap}{args:List WData}{vals:List Value}
  (hpre:l.row.toRowW.claim.pre args=true) (hwl:WellAll P h vals args) :
  ∃ a vs ns,vals=[Value.ref a]/\args=[WData.list (ns.map WData.int)]/\h.get? a=some { cls:=.type "list",data:=.seq vs.toArray }/\IntsAre vs ns/\ns.length<=n:=by
 have hsh:WShape.hasAll [] args [.list .int]=true:=(pre_splitW hpre).1
 have hc:l.pre.holds [] { args:=args }=true:=(pre_splitW hpre).2
 obtain⟨d,r,rfl,h1,h2⟩:=hasAllW_cons hsh
 obtain rfl:=hasAllW_nil h2
 obtain⟨xs,rfl,h3⟩:=hasW_list h1
 obtain⟨ns,rfl⟩:=items_int h3
 have hlen:ns.length<=n:=by
  unfold OpenLaw.pre at hc
  have h4:(WTm.not (.lt (.lit (.int (n:Int))) (.len (.arg 0)))).holds [] { args:=[.list (ns.map .int)] }=true:=by
   have h4:=(holds_andW hc).1
   rw[hn]at h4
   exact h4
  have h5:=condW_of h4 (w_not (w_lt w_lit (w_len_list (w_arg rfl))))
  rw[List.length_map]at h5
  refine Nat.le_of_not_lt λq=> ?_
  have q':(n:Int)<((ns.length:Nat):Int):=by omega
  first
   | (rw[decide_eq_true q']at h5;exact absurd h5 (by decide))
   | (simp at h5;omega)
 cases hwl with
 | cons w1 w2 =>
  cases w2
  cases w1 with
  | list ho hall=>exact⟨_,_,ns,rfl,rfl,ho,p0 ns _ hall,hlen⟩
theorem p6(l:OpenLaw)(args:List WData):l.row.toRowW.claim.post args (.bool true) args=true :=
 postW_of (r:=l.row.toRowW) (X:=(true == true))
  (show WShape.has [] (.bool true) .bool=true by first | rfl | decide | simp[WShape.has,WShape.arms,WShape.armsAll])
  (show(WTm.eq .res (.lit (.bool true))).value [] { args:=args,res:=some (.bool true),after:=args }=some (.bool (true == true))from w_eq_bool (w_res rfl) w_lit) rfl
theorem attach_call{l:OpenLaw}{n:Nat}{q:Program}{loose:List Str}{XP:(Str->Option Value)->Heap->Prop}{YP:World->Heap->Prop}{d:DefRec}
  (hn:l.most=some n) (hdf:d.params.defaults=[])
  (call:∀ (w:World) (s₀ s₁:Shared) (mg mb:Str->Option Value) (fa:Addr) (o:Obj) (pm cd doc:Value) (a:Addr) (vs:List Value) (ns:List Int),
   Ground q loose [] XP w s₀ mg mb s₁.heap->YP w s₁.heap →
   s₁.heap.get? fa=some o->o.data=.func (docDef d.name d.params d.body d.scope pm cd doc)->s₁.heap.CodeRec cd d.name->mg d.name=some (.ref fa) →
   s₁.heap.get? a=some { cls:=.type "list",data:=.seq vs.toArray }->IntsAre vs ns->ns.length<=n->s₁.gens= #[] →
   codeAny (model l.prog w) callerA (.call (.ref fa) ⟨[.ref a],[]⟩) (λr s'=>r=.ok (.ret (.bool true))/\OldK s₁.heap s'.heap/\s'.os=s₁.os/\AllBare s'.gens) s₁) :
  WalkO q loose XP YP l.row.toRowW d [] (λf vs=>PySem.call f vs):=by
 intro w s₀ s₁ mg mb G Y fa o pm cd doc dV kV ho hd hcd hD hmg hg args vals as hpre hlay hrd hwl hlo
 obtain rfl:dV=.none:=Dflts.none hD hdf
 obtain rfl:kV=.none:=Dflts.noKw hD
 obtain⟨a,vs,ns,rfl,rfl,hobj,hints,hlen⟩:=p5 hn hpre hwl
 refine enter_call (codeAny_mono (call w s₀ s₁ mg mb fa o pm cd doc a vs ns G Y ho (fd_plain hd) hcd hmg hobj hints hlen hg) λr s' hq=> ?_)
 obtain⟨rfl,h2,h3,h4⟩:=hq
 exact⟨.inl ⟨.bool true,.bool true,[],rfl,λ_=>rfl,.bool true,p6 l _,λ_=>⟨List.Pairwise.nil,λ_ hm=>(nomatch hm)⟩⟩,h2,h3,h4⟩
section
variable{prog:Program}{w:World}{A:Around}{E:Value->Shared->Prop}{s:Shared}{K:Frag}
end
end Att
namespace L2
theorem SE:∀ {vs:List Value} {ns:List Int},IntsAre vs ns->Vals (ns.map V.int) vs
 | _,_,.nil=>.nil
 | _,_,.cons n t h=>.cons ⟨t,rfl⟩ (SE h)
def SF(H:Hp):Prop:=∀ b,H b=none\/∃ o xs,H b=some (.frz o (.lst xs))
theorem p7 {P:Program} {w:World} {K:W.Frag} {mg mb:Str->Option Value} {CX:FC} {k:Nat} {fa a:Addr} {fd:FuncData} {x:Str} {sp:Sp} {s₁:Shared} {vs:List Value} {ns:List Int}
    (KX:K.In s₁.heap) (hns:s₁.heap.Ns mainGlobals mg) (hb:s₁.heap.Ns builtinsNs mb) (hbb:∀ x:Str,x≠"__name__"->mb x=bootBuiltins x) (hlim:s₁.heap.NoLimit) (hg:s₁.gens= #[])
    (ha:s₁.heap.get? a=some { cls:=.type "list",data:=.seq vs.toArray }) (hi:IntsAre vs ns) (hl:ns.length<=sizeLine) (hr:Room k callerA)
    (F:∀ base:Heap,K.In base->base.Ns mainGlobals mg->FnOk P w K mg base CX k fa fd [x] sp) (hbind:∀ (s:Shared) (u:Value),BindsTo s fd ⟨[u],[]⟩ [(x,u)])
    (hsp:∀ H:Hp,SF H->SqL K H a (ns.map V.int)->sp [.ref a] H (λv _=>v=.bl true) λ_ _ _=>False)
    (hCX:∀ H e s',CX [] H s₁ (λ_ _ _=>False) e s'->False) :
    codeAny (model P w) callerA (.call (.ref fa) ⟨[.ref a],[]⟩) (λr s'=>r=.ok (.ret (.bool true))/\OldK s₁.heap s'.heap/\s'.os=s₁.os/\AllBare s'.gens) s₁:=by
  have rv:=SE hi
  have lenV:=hi.length
  have core:∀ H:Hp,SF H->SqL K H a (ns.map V.int)->HOk P w H s₁.heap->(∀ b,H b≠none->b=a)->(H a≠none->K.lookup a=none) →
      codeAny (model P w) callerA (.call (.ref fa) ⟨[.ref a],[]⟩) (λr s'=>r=.ok (.ret (.bool true))/\OldK s₁.heap s'.heap/\s'.os=s₁.os/\AllBare s'.gens) s₁:=by
    intro H hO hS hok hA hK
    have base_of:∀ {b:Addr} {o:Obj},s₁.heap.get? b=some o->H b=none->(GT s₁.heap H).get? b=some o:=λe n=>mB e n
    have noA:∀ {b:Addr} {o:Obj} {es:Array DictEntry} {ep:Nat},s₁.heap.get? b=some o->o.data=.dict es ep->H b=none:=λ{b o es ep} e d=>by
      cases q:H b with
      | none=>rfl
      | some u =>
        have e':b=a:=hA b (by rw[q];simp)
        subst e'
        rw[ha]at e;cases e
        have d':Data.seq vs.toArray _=Data.dict es ep:=d
        cases d'
    have nsK:∀ {b:Addr} {m:Str->Option Value},s₁.heap.Ns b m->(GT s₁.heap H).Ns b m:=λ{b m} ⟨o,es,ep,e,d,r⟩=>⟨o,es,ep,base_of e (noA e d),d,r⟩
    have hKb:K.In (GT s₁.heap H):=λb o e=>base_of (KX b o e) (by
      cases q:H b with
      | none=>rfl
      | some u =>
        have e':b=a:=hA b (by rw[q];simp)
        subst e'
        rw[hK (by rw[q];simp)]at e;cases e)
    have hM:Mod K mg (GT s₁.heap H):=⟨hKb,nsK hns,⟨mb,nsK hb,hbb⟩,let ⟨mc,h1,h2⟩:=hlim;⟨mc,nsK h1,h2⟩⟩
    have e0:Env0 P w K mg (GT s₁.heap H) callerA [] s₁ H:=⟨rfl,hM,λb o e=>mC e,Nat.le_of_eq (l9 _ _),trivial,λb hb=>absurd (show b∈([]:List Addr)from hb) (by simp),hok,.of_eq hg⟩
    refine codeAny_mono ((F _ hKb (nsK hns)).run callerA [] s₁ H ⟨[.ref a],[]⟩ [.ref a] [.ref a] _ _ hr e0 (hbind s₁ (.ref a)) (.cons rfl .nil) (hsp H hO hS)) λr s' h=> ?_
    cases r with
    | error e=>exact(hCX H e s' h).elim
    | ok fl =>
      cases fl with
      | next=>exact False.elim h
      | brk=>exact False.elim h
      | cont=>exact False.elim h
      | ret u =>
        obtain⟨v,H',os,bare,un,hok',r',q⟩:=h
        have q':v=.bl true:=q
        subst q'
        obtain rfl:u=Value.bool true:=r'
        refine⟨rfl,OldK.of_keep λb o e=> ?_,os,bare⟩
        cases q:H b with
        | none=>exact un.keep b o e q (by intro z;exact absurd (show b∈([]:List Addr)from z) (by simp)) (by simp)
        | some u =>
          rcases hO b with z | ⟨ob,xs,z⟩
          ·rw[q]at z;cases z
          · have z2:=un.frzs b ob _ z
            obtain⟨e1,_⟩:=hok b _ z
            obtain⟨e2,_⟩:=hok' b _ z2
            rw[e]at e1;cases e1
            exact e2
  cases hk:K.lookup a with
  | some o =>
    have e:=KX a o hk
    rw[ha]at e
    cases e
    refine core (λ_=>none) (λ_=>.inl rfl) (.inr ⟨_,vs.toArray,_,hk,rfl,rfl,rfl,by rw[List.size_toArray,lenV];exact hl,by simpa using rv⟩) (λb u z=>by have z':(none:Option HO)=some u:=z;cases z') (λb z=>absurd rfl z) λz=>absurd rfl z
  | none =>
    refine core (λb=>if b=a then some (.frz { cls:=.type "list",data:=.seq vs.toArray } (.lst (ns.map V.int)))else none) (λb=> ?_) (.inl (.inr ⟨{ cls:=.type "list",data:=.seq vs.toArray },if_pos rfl⟩)) (λb u z=> ?_) (λb z=> ?_) λ_=>hk
    · by_cases hb:b=a
      ·exact .inr ⟨_,_,if_pos hb⟩
      ·exact .inl (if_neg hb)
    · by_cases hb:b=a
      · have z':=(if_pos hb).symm.trans z
        cases z'
        subst hb
        exact⟨ha,by rw[List.length_map];exact hl,vs,_,rv,ha⟩
      · have z':=(if_neg hb).symm.trans z
        cases z'
    · by_cases hb:b=a
      ·exact hb
      ·exact absurd (if_neg hb) z
end L2
namespace L2
theorem walk_of{l:W.OpenLaw}{n k:Nat}{q:Program}{loose:List Str}{XP:(Str->Option Value)->Heap->Prop}{YP:World->Heap->Prop}{d:DefRec}{K:Params->W.Frag}{CX:World->FC}{sp:World->Sp}{x:Str}
  (hn:l.most=some n) (hn2:n<=sizeLine) (hdf:d.params.defaults=[]) (hr:Room k callerA)
  (hY:∀ (w:World) (h:Heap),YP w h->(K w.params).In h)
  (F:∀ (w:World) (mg:Str->Option Value) (fa:Addr) (h:Heap),(K w.params).In h->h.Ns mainGlobals mg->mg d.name=some (.ref fa) →
   ∃ fd:FuncData,(∀ (s:Shared) (u:Value),BindsTo s fd ⟨[u],[]⟩ [(x,u)]) ∧
    ∀ base:Heap,(K w.params).In base->base.Ns mainGlobals mg->FnOk l.prog w (K w.params) mg base (CX w) k fa fd [x] (sp w))
  (hsp:∀ (w:World) (H:Hp) (a:Addr) (ns:List Int),ns.length<=n->SF H->SqL (K w.params) H a (ns.map V.int)->sp w [.ref a] H (λv _=>v=.bl true) λ_ _ _=>False)
  (hCX:∀ (w:World) (H:Hp) (s:Shared) (e:Value) (s':Shared),CX w [] H s (λ_ _ _=>False) e s'->False) :
  W.WalkO q loose XP YP l.row.toRowW d [] (λf vs=>PySem.call f vs):=by
 refine Att.attach_call hn hdf λw s₀ s₁ mg mb fa o pm cd doc a vs ns G Y ho hd hcd hmg hobj hints hlen hg=> ?_
 have KX:=hY w _ Y
 obtain⟨fd,hb,hF⟩:=F w mg fa _ KX G.T.g hmg
 exact p7 KX G.T.g G.T.b G.T.builtins G.T.nolimit hg hobj hints (Nat.le_trans hlen hn2) hr hF hb (λH hO hS=>hsp w H a ns hlen hO hS) λH e s'=>hCX w H s₁ e s'
end L2
namespace L2
def BR(s:Stmt)(j:Nat):Stmt:=match s with
 | .ClassDef _ _ _ body _ _ _ _ _ _ _=>body.getD j (.Pass ⟨0,0,0,0⟩)
 | _=>.Pass ⟨0,0,0,0⟩
def BB(s:Stmt):Arguments:=match s with
 | .FunctionDef _ a _ _ _ _ _ _ _ _=>a
 | _=>{ posonlyargs:=[],args:=[],vararg:=none,kwonlyargs:=[],kw_defaults:=[],kwarg:=none,defaults:=[] }
def A8(s:Stmt):List Stmt:=match s with
 | .FunctionDef _ _ b _ _ _ _ _ _ _=>b
 | _=>[]
def AK(s:Stmt):Scope:=match s with
 | .FunctionDef _ _ _ _ _ _ sc _ _ _=>sc
 | _=>{ kind:=.function,names:=[],isGenerator:=false,isCoroutine:=false }
abbrev E0:XK:=λ_ _ _=>False
structure Fun(K:W.Frag)(x qual:Str)(st:Stmt)(f:Addr)(fd:FuncData):Prop where
 ex:∃ (oc:Value) (od:Option Addr) (kV doc pm:Value) (an:Option Addr) (cdv ct:Value) (osl:Array (Option Value)),
  fd=W.fnOf x qual (BB st) (A8 st) (AK st) .none kV doc pm an cdv ct/\K.lookup f=some ⟨oc,od,.func fd,osl⟩/\W.codeIn K cdv qual=true
 kp:W.keepIn K (.ref f)=true
section
variable{P:Program}{w:World}{K:W.Frag}{mg:Str->Option Value}{base:Heap}
theorem Fun.binds{x qual:Str}{st:Stmt}{f:Addr}{fd:FuncData}{ps:List Str}(F:Fun K x qual st f fd)
  (h:∀ (kV doc pm:Value) (an:Option Addr) (cdv ct:Value) (us:List Value),us.length=ps.length->bindArgs (W.fnOf x qual (BB st) (A8 st) (AK st) .none kV doc pm an cdv ct) ⟨us,[]⟩=pure (ps.zip us)):Binds K fd ps []:=by
 obtain⟨oc,od,kV,doc,pm,an,cdv,ct,osl,rfl,lk,hcd⟩:=F.ex
 exact .all (h kV doc pm an cdv ct)
theorem BF{x qual:Str}{st:Stmt}{f:Addr}{oc:Value}{od an:Option Addr}{osl:Array (Option Value)}{kV doc pm cdv ct:Value}(l:K.lookup f=some ⟨oc,od,.func (W.fnOf x qual (BB st) (A8 st) (AK st) .none kV doc pm an cdv ct),osl⟩)
  (c:W.codeIn K cdv qual=true) (k:W.keepIn K (.ref f)=true):Fun K x qual st f (W.fnOf x qual (BB st) (A8 st) (AK st) .none kV doc pm an cdv ct):=⟨⟨oc,od,kV,doc,pm,an,cdv,ct,osl,rfl,l,c⟩,k⟩
end
theorem D0{A:Around}{k:Nat}(hr:Room k A):A.units+1<cLine:=Nat.lt_of_le_of_lt (Nat.add_le_add_left (by decide:1<=64) _) hr.units
section
variable{X:Cx}
theorem p8:DJ X (.builtin "len") (λxs H Q=>∃ a kvs,xs=[V.ref a]/\H a=some (.dK kvs)/\Q (.int kvs.length) H):=by
 intro pins s σ H xs us Q I r h
 obtain⟨a,kvs,rfl,ha,q⟩:=h
 obtain⟨u,rfl,ru⟩:=FA r
 cases ru
 exact pR I (.inl ha) λt s' I'=>⟨.int kvs.length,H,I',⟨t,rfl⟩,q⟩
end
def Same(H H':Hp):Prop:=∀ b o,H b=some o->H' b=some o
theorem Same.refl(H:Hp):Same H H:=λ_ _ h=>h
theorem Same.trans{H H1 H2:Hp}(a:Same H H1)(b:Same H1 H2):Same H H2:=λc o h=>b c o (a c o h)
theorem Same.free{H H':Hp}(e:Same H H'){l:Addr}(h:H' l=Option.none):H l=Option.none:=by
 cases q:H l with
 | none=>rfl
 | some o =>
  rw[e l o q]at h
  cases h
theorem Same.seq{K:W.Frag}{H H':Hp}{a:Addr}{xs:List V}(e:Same H H')(h:SqL K H a xs):SqL K H' a xs:=by
 rcases h with(h | ⟨o,h⟩) | h
 ·exact .inl (.inl (e _ _ h))
 ·exact .inl (.inr ⟨o,e _ _ h⟩)
 ·exact .inr h
section
variable{κ :Type}[DecidableEq κ]
end
end L2
namespace L2
theorem SG{env:Env}:∀ (names:List (Str × NameKind)) (cs:List (Str × Addr)),
  (∀ x∈names,x.2=.free->∃ c,env.cells.lookup x.1=some c)->(∀ x c,cs.lookup x=some c->env.cells.lookup x=some c) →
  ∃ cl,(forIn names cs λx r=>(if(x.2 == NameKind.free)=true then do let a ← cellOf env x.1;pure (ForInStep.yield ((x.1,a)::r))else pure (ForInStep.yield r):Sem (ForInStep (List (Str × Addr)))))=pure cl ∧
   (∀ x c,cl.lookup x=some c->env.cells.lookup x=some c)/\(∀ x,(cs.lookup x).isSome=true->(cl.lookup x).isSome=true) ∧
   ∀ x∈names,x.2=.free->(cl.lookup x.1).isSome=true
 | [],cs,_,h=>⟨cs,rfl,h,λ_ z=>z,λ_ z=>nomatch z⟩
 | (n,k)::r,cs,hf,h=>by
  by_cases hk:k=.free
  ·subst hk
   obtain⟨c,hc⟩:=hf (n,.free) List.mem_cons_self rfl
   obtain⟨cl,e,h1,h2,h3⟩:=SG r ((n,c)::cs) (λx hx=>hf x (List.mem_cons_of_mem _ hx)) (λx c' hx=>by
    by_cases hxn:x=n
    ·subst hxn;simp only[List.lookup_cons,beq_self_eq_true]at hx;cases hx;exact hc
    ·have:(x == n)=false:=beq_eq_false_iff_ne.mpr hxn
     simp only[List.lookup_cons,this]at hx;exact h x c' hx)
   refine⟨cl,?_,h1,λx hx=>h2 x ?_,λx hx hxf=> ?_⟩
   ·rw[List.forIn_cons]
    show((if(NameKind.free == NameKind.free)=true then _ else _) >>= _)=_
    rw[if_pos (show(NameKind.free == NameKind.free)=true from rfl)]
    unfold cellOf
    show(((match env.cells.lookup n with | some a=>pure a | none=>_) >>= _) >>= _)=_
    rw[hc]
    exact e
   ·by_cases hxn:x=n
    ·subst hxn;simp
    ·have:(x == n)=false:=beq_eq_false_iff_ne.mpr hxn
     simp only[List.lookup_cons,this];exact hx
   ·rcases List.mem_cons.mp hx with rfl | hx
    ·exact h2 n (by simp)
    ·exact h3 x hx hxf
  ·obtain⟨cl,e,h1,h2,h3⟩:=SG r cs (λx hx=>hf x (List.mem_cons_of_mem _ hx)) h
   refine⟨cl,?_,h1,h2,λx hx hxf=> ?_⟩
   ·rw[List.forIn_cons]
    have hb:(k == NameKind.free)=false:=by simpa using hk
    show((if(k == NameKind.free)=true then _ else _) >>= _)=_
    rw[if_neg (by simp[hb])]
    exact e
   ·rcases List.mem_cons.mp hx with rfl | hx
    ·exact absurd hxf hk
    ·exact h3 x hx hxf
theorem SH{env:Env}{scope:Scope}(hf:∀ x∈scope.names,x.2=.free->∃ c,env.cells.lookup x.1=some c) :
  ∃ cl,closureFor scope env=pure cl/\(∀ x c,cl.lookup x=some c->env.cells.lookup x=some c)/\∀ x∈scope.names,x.2=.free->(cl.lookup x.1).isSome=true:=by
 obtain⟨cl,e,h1,_,h3⟩:=SG (env:=env) scope.names [] hf (λx c h=>by simp at h)
 refine⟨cl,?_,h1,h3⟩
 unfold closureFor
 show(forIn scope.names ([]:List (Str × Addr)) _ >>= _)=_
 have:(forIn scope.names ([]:List (Str × Addr)) λx r=>(if(x.2 == NameKind.free)=true then do let a ← cellOf env x.1;pure (ForInStep.yield ((x.1,a)::r))else pure (ForInStep.yield r):Sem (ForInStep (List (Str × Addr))))) >>=(λr=>(pure r:Sem _))=(pure cl:Sem _):=by rw[e];rfl
 exact this
theorem YT{env:Env}:∀ {names:List (Str × NameKind)} {x:Str},names.lookup x=some .free →
  (names.map λ(n,k)=>if(k == NameKind.free && env.scope.kind == .function && env.kindOf n == some .cell)then(n,NameKind.cell)else(n,k)).lookup x=some .cell ∨
  (names.map λ(n,k)=>if(k == NameKind.free && env.scope.kind == .function && env.kindOf n == some .cell)then(n,NameKind.cell)else(n,k)).lookup x=some .free
 | [],_,h=>by simp at h
 | (n,k)::r,x,h=>by
  by_cases hx:x=n
  ·subst hx
   simp only[List.lookup_cons,beq_self_eq_true]at h
   cases h
   show List.lookup x ((if _ then(x,NameKind.cell)else(x,NameKind.free))::_)=_\/List.lookup x ((if _ then(x,NameKind.cell)else(x,NameKind.free))::_)=_
   split
   ·exact .inl (by simp)
   ·exact .inr (by simp)
  ·have hb:(x == n)=false:=beq_eq_false_iff_ne.mpr hx
   simp only[List.lookup_cons,hb]at h
   have ih:=YT (env:=env) h
   show List.lookup x ((if _ then(n,NameKind.cell)else(n,k))::_)=_\/List.lookup x ((if _ then(n,NameKind.cell)else(n,k))::_)=_
   split<;>(simp only[List.lookup_cons,hb];exact ih)
theorem YU{env:Env}:∀ {names:List (Str × NameKind)} {x:Str},
  ((names.map λ(n,k)=>if(k == NameKind.free && env.scope.kind == .function && env.kindOf n == some .cell)then(n,NameKind.cell)else(n,k)).lookup x=some .cell ∨
  (names.map λ(n,k)=>if(k == NameKind.free && env.scope.kind == .function && env.kindOf n == some .cell)then(n,NameKind.cell)else(n,k)).lookup x=some .free)->(x,NameKind.free)∈names\/(x,NameKind.cell)∈names
 | [],_,h=>by simp at h
 | (n,k)::r,x,h=>by
  by_cases hx:x=n
  ·subst hx
   have h:List.lookup x ((if(k == NameKind.free && env.scope.kind == .function && env.kindOf x == some .cell)=true then(x,NameKind.cell)else(x,k))::_)=some .cell\/List.lookup x ((if(k == NameKind.free && env.scope.kind == .function && env.kindOf x == some .cell)=true then(x,NameKind.cell)else(x,k))::_)=some .free:=h
   split at h
   ·rename_i hc
    rw[Bool.and_eq_true,Bool.and_eq_true]at hc
    have:k=.free:=by simpa using hc.1.1
    subst this
    exact .inl List.mem_cons_self
   ·simp only[List.lookup_cons,beq_self_eq_true]at h
    rcases h with h | h
    ·cases h;exact .inr List.mem_cons_self
    ·cases h;exact .inl List.mem_cons_self
  ·have hb:(x == n)=false:=beq_eq_false_iff_ne.mpr hx
   have h:List.lookup x ((if(k == NameKind.free && env.scope.kind == .function && env.kindOf n == some .cell)=true then(n,NameKind.cell)else(n,k))::_)=some .cell\/List.lookup x ((if(k == NameKind.free && env.scope.kind == .function && env.kindOf n == some .cell)=true then(n,NameKind.cell)else(n,k))::_)=some .free:=h
   have h':=h
   split at h'
   all_goals
    simp only[List.lookup_cons,hb]at h'
    exact(YU h').imp (List.mem_cons_of_mem _) (List.mem_cons_of_mem _)
theorem D6{a b:Addr}{n:Nat}(h:a<n)(h2:n<=b):a≠b:=Nat.ne_of_lt (Nat.lt_of_lt_of_le h h2)
def Cx.block(X:Cx)(pins:List (Addr × Obj))(s:Shared)(H:Hp)(Nc:List Str)(scope:Scope)(cl:List (Str × Addr))(C:Addr)(fp:List Addr):Cx where
 prog:=X.prog
 w:=X.w
 K:=X.K
 mg:=X.mg
 base:=X.base
 A:=X.A
 N:=Nc
 s₀:=s
 H₀:=H
 env:=compEnvC scope cl C X.env
 outer:=X.stack
 stack:=X.stack
 ex:=fp
 fn:=λ_=>false
 calm:=X.calm
 pn:=X.pn++pins
 xe:=λ_ _=>False
structure KC(X:Cx)(scope:Scope)(tn cn:List Str)(cap:List Nat):Prop where
 kind:scope.kind=.function
 nocell:∀ y∈scope.names,y.2≠.cell
 names:∀ y∈scope.names,y.2=.local->scope.names.lookup y.1=some .local
 free:∀ y∈scope.names,y.2=.free->X.env.kindOf y.1=some .cell\/X.env.kindOf y.1=some .free
 drawn:∀ x∈cn,scope.names.lookup x=some .free
 caps:cap.map (λi=>X.N[i]?)=cn.map some
def GZ(k:Nat)(cap:List Nat)(σ:St):St:=List.replicate k none++cap.map λi=>(σ[i]?).join
theorem HOk.track{P:Program}{w:World}{H:Hp}{h:Heap}{a:Addr}{o:HO}(x:HOk P w H h)(hn:H a=none)(new:ObjOk P w (upd H a o) h a o):HOk P w (upd H a o) h:=λb u e=>by
 by_cases hb:b=a
 ·subst hb;rw[AJ]at e;cases e;exact new
 ·rw[AM hb]at e
  refine(x b u e).stay (λ_ _ _ q=>q) (λc q=> ?_) λc xs q=> ?_
  ·rw[AM (BM q hn)];exact q
  ·rw[AM (BM q hn)];exact q
section
variable{X:Cx}{pins:List (Addr × Obj)}{σ:St}{H:Hp}{s:Shared}
theorem Inv.pinlt(I:Inv X pins σ H s){p:Addr × Obj}(hp:p∈X.pn++pins):p.1<s.heap.objs.size:=Heap.lt_size (I.pin p hp).1
theorem Inv.stkne(I:Inv X pins σ H s){b:Addr}(h1:b≠X.env.locals)(h2:b∉X.fs):b∉DB X.stack:=λz=>(List.mem_cons.mp (I.stkSub b z)).elim h1 h2
theorem Inv.stklt(I:Inv X pins σ H s){b:Addr}(h:b∈DB X.stack):b<s.heap.objs.size:=by
 obtain⟨_,o,ho,_⟩:=I.stack.mem h
 exact Heap.lt_size ho
theorem Inv.block{scope:Scope}{tn cn:List Str}{cap:List Nat}{cl:List (Str × Addr)}{C:Addr}{fp:List Addr}{pins':List (Addr × Obj)}{s1:Shared}(I:Inv X pins σ H s)(S:KC X scope tn cn cap)
  (hcl:∀ x c,cl.lookup x=some c->X.env.cells.lookup x=some c) (hcl2:∀ x∈scope.names,x.2=.free->(cl.lookup x.1).isSome=true)
  (hf:∀ b∈fp,FpOk X pins H b) (hfl:∀ b∈fp,b<s.heap.objs.size) (hC:s.heap.objs.size<=C) (k:∀ b o,s.heap.get? b=some o->s1.heap.get? b=some o)
  (hos:s1.os=s.os) (hg:s1.gens=s.gens) (hns:∃ m,s1.heap.Ns C m)
  (hp:∀ p∈pins',s1.heap.get? p.1=some p.2/\H p.1=none/\p.1≠C/\p.1∉DB X.stack/\∀ v,p.2.data≠.cell v) :
  Inv (X.block pins s H (tn++cn) scope cl C fp) pins' (GZ tn.length cap σ) H s1:=by
 have ok:(X.block pins s H (tn++cn) scope cl C fp).Ok:=by
  refine⟨I.ok.mod,S.kind,I.ok.glob,I.ok.blt,hC,λx y c h1 h2=>I.ok.inj x y c (hcl x c h1) (hcl y c h2),λx hx=> ?_,λx c z _=>(by cases z),I.ok.hd,I.ok.frames,.inl rfl,λb hb=>⟨?_,λx c e=>(hf b hb).2.2.2.2.1 x c (hcl x c e)⟩,I.bs,Nat.le_trans I.ok.bsz I.sz,λb o e hb=> ?_,λb hb=>I.stkne (hf b hb).2.1 (hf b hb).2.2.1,I.stack,I.stkFree⟩
  ·rcases YU (env:=X.env) hx with z | z
   ·exact Option.isSome_iff_exists.mp (hcl2 _ z rfl)
   ·exact absurd rfl (S.nocell _ z)
  ·exact Nat.ne_of_lt (Nat.lt_of_lt_of_le (hfl b hb) hC)
  ·rcases(hf b hb).2.2.2.1 with z | z
   ·exact I.ok.noex b o e z
   ·have h1:b<X.base.objs.size:=Heap.lt_size e
    exact absurd (Nat.lt_of_lt_of_le h1 (Nat.le_trans I.ok.bsz z)) (Nat.lt_irrefl _)
 refine⟨ok,hos,by rw[hg];exact I.bare,Un.kept k,?_,λx c e=> ?_,I.hok.fresh hC,λx c e=>I.freeC x c (hcl x c e),λp hp'=> ?_,I.hok.kept k,?_⟩
 ·obtain⟨m,hm⟩:=hns
  refine⟨m,hm,λi x v h1 h2 h3=> ?_⟩
  have hi:tn.length<=i:=by
   rcases Nat.lt_or_ge i tn.length with z | z
   ·unfold GZ at h2
    rw[List.getElem?_append_left (by simpa using z),List.getElem?_replicate]at h2
    split at h2<;>cases h2
   ·exact z
  unfold GZ at h2
  rw[List.getElem?_append_right (by simpa using hi),List.length_replicate,List.getElem?_map]at h2
  have h1':cn[i - tn.length]? =some x:=by
   have:(tn++cn)[i]? =some x:=h1
   rwa [List.getElem?_append_right hi]at this
  cases hq:cap[i - tn.length]? with
  | none=>rw[hq]at h2;cases h2
  | some j =>
   rw[hq]at h2
   have hj:X.N[j]? =some x:=by
    have:=congrArg (λl=>l[i - tn.length]?) S.caps
    simp only[List.getElem?_map,hq,h1',Option.map_some]at this
    exact Option.some.inj this
   have hv:σ[j]? =some (some v):=by
    cases hs:σ[j]? with
    | none=>simp[hs]at h2
    | some y=>simp only[Option.map_some,hs,Option.join_some]at h2;cases h2;rfl
   have hxf:(x,NameKind.free)∈scope.names:=PySem.mem_of_lookup (S.drawn x (List.mem_of_getElem? h1'))
   have hk:=S.free _ hxf rfl
   obtain⟨m0,_,hl0⟩:=I.loc
   obtain⟨u,r,q⟩:=hl0 j x v hj hv (hk.elim (λz=>.inr (.inl z)) λz=>.inr (.inr z))
   refine⟨u,r,.inr ⟨YT (S.drawn x (List.mem_of_getElem? h1')),?_⟩⟩
   rcases q with⟨kl,_⟩ | ⟨_,c,hc,z⟩
   ·have kl':X.env.kindOf x=some .local:=kl
    rcases hk with hk | hk<;>(rw[kl']at hk;cases hk)
   ·obtain⟨c',hc'⟩:=Option.isSome_iff_exists.mp (hcl2 _ hxf rfl)
    have:=hcl _ _ hc'
    rw[hc]at this
    cases this
    exact⟨c,hc',z.keeps k⟩
 ·obtain⟨v,z⟩:=I.cell x c (hcl x c e)
  exact⟨v,z.keeps k⟩
 ·rcases List.mem_append.mp hp' with z | z
  ·obtain⟨e,n,ne,nf,d⟩:=I.pin p z
   exact⟨k _ _ e,n,Nat.ne_of_lt (Nat.lt_of_lt_of_le (Heap.lt_size e) hC),I.stkne ne nf,d⟩
  ·exact hp p z
 ·unfold GZ
  show _=(tn++cn).length
  have:=congrArg List.length S.caps
  simp only[List.length_map]at this
  simp[this]
end
def CM:TT:=λ_ H Q=>Q true H
def KD(X:Cx)(ifs:List Expr)(t:TT):Prop :=
 ∀ (pins:List (Addr × Obj)) (s:Shared) (σ:St) (H:Hp) (Q:Bool->Hp->Prop),Inv X pins σ H s->t σ H Q →
  wpAny (model X.prog X.w) X.A (forIn ifs true λc r=>if r=true then do let ok ← isTrue c X.env (eval c X.env);pure (ForInStep.yield ok)else pure (ForInStep.yield r)) (TP X pins σ Q) X.xe s
theorem EO{X:Cx}:KD X [] CM:=λpins s σ H Q I h=>wpAny_tests_nil ⟨H,I,h⟩
theorem YV{X:Cx}{c:Expr}{t:TT}(h:PT X c t):KD X [c] t:=λpins s σ H Q I q=>wpAny_tests_one (h pins s σ H Q I q)
theorem p9 {prog:Program} {w:World} {A:Around} {R:Result->Shared->Prop} {s:Shared} {elt target iter:Expr} {ifs:List Expr} {scope:Scope} {pos:Pos} {it acc:Value} {env:Env} (Jn:Nat->Shared->Prop)
    (turn:∀ n s,Jn n s->wpAny (model prog w) A (pyNext it) (λr s₁=>match r with
      | none=>R (.ok .next) s₁
      | some v=>wpAny (model prog w) A (letOwnedTupleGo target it v) (λ_ s₂=>wpAny (model prog w) A (assign target env v) (λ_ s₃ =>
          wpAny (model prog w) A (forIn ifs true λc r=>if r=true then do let ok ← isTrue c env (eval c env);pure (ForInStep.yield ok)else pure (ForInStep.yield r)) (λok s₄ =>
            if ok=true then wpAny (model prog w) A (eval elt env) (λx s₅ =>
              wpAny (model prog w) A (call (.builtin "list.append") [acc,x]) (λ_ s₆=>∃ m,m<n/\Jn m s₆) (λ_ _=>False) s₅) (λ_ _=>False) s₄
            else ∃ m,m<n/\Jn m s₄) (λ_ _=>False) s₃) (λ_ _=>False) s₂) (λ_ _=>False) s₁) (λ_ _=>False) s)
    (n:Nat) (h:Jn n s):codeAny (model prog w) A (.compLoop (.ListComp elt [⟨target,iter,ifs,0⟩] scope pos) 0 it acc env) R s:=by
  refine codeAny_loop rfl Jn (λn' s' hJ=> ?_) n h
  show wpAny _ A ((compTurn (.ListComp elt [⟨target,iter,ifs,0⟩] scope pos) 0 it acc env).onRaise (λx'=>do noteFrame x' env;theTreesLotGoes x')) _ _ s'
  refine wpAny_noted (wpAny_noRaise ?_)
  rw[compTurn_list]
  refine wpAny_bind (wpAny_standAt (wpAny_bind (AT (turn n' s' hJ) λr s₁ h₁=> ?_)))
  cases r with
  | none=>exact wpAny_pure h₁
  | some v =>
    refine wpAny_bind (AT h₁ λ_ s₂ h₂=> ?_)
    refine wpAny_bind (AT h₂ λ_ s₃ h₃=>wpAny_bind (AT h₃ λok s₄ h₄=> ?_))
    cases ok with
    | false=>exact wpAny_pure ⟨rfl,h₄⟩
    | true=>exact wpAny_bind (wpAny_bind (AT h₄ λx' s₅ h₅=>wpAny_bind (AT h₅ λ_ s₆ h₆=>wpAny_pure (wpAny_pure ⟨rfl,h₆⟩))))
def DH(wi:TI)(g:TG)(tt:TT)(te:TE)(k:Nat)(cap:List Nat):TE:=λσ H Q=>wi σ H λJ H1 =>
 ∃ W:Nat->Nat->St->List V->Hp->Prop,(∃ m,W 0 m (GZ k cap σ) [] H1)/\∀ i m σ' ys H,W i m σ' ys H →
  (J.stop i H/\∀ p,H p=none->Q (.ref p) (upd H p (.lst ys))) ∨
  (J.go i H/\ys.length<sizeLine/\∀ x H',J.yld i H x H'->g x σ' H' λσ2 H2=>tt σ2 H2 λb H3 =>
   if b=true then ∃ N:VK,(∀ y H4,N y H4->∃ m',m'<m/\W (i+1) m' σ2 (ys++[y]) H4)/\te σ2 H3 N else ∃ m',m'<m/\W (i+1) m' σ2 ys H3)
structure CompDone(X:Cx)(fp:List Addr)(H:Hp)(s:Shared)(Q:VK)(acc:Value)(C:Addr)(r:Result)(s':Shared):Prop where
 ok:r=.ok .next
 ex:∃ (D:Addr) (ys:List V) (its:List Value) (n:Nat) (H':Hp),acc=.ref D/\Vals ys its/\ys.length<=sizeLine/\s'.heap.get? D=some { cls:=.type "list",data:=.seq its.toArray n }/\s.heap.objs.size<=D/\D≠C/\H' D=none/\H' C=none ∧
  (∃ m,s'.heap.Ns C m)/\Un (DB X.stack) fp H H' s.heap s'.heap/\HOk X.prog X.w H' s'.heap/\∀ p,H' p=none->Q (.ref p) (upd H' p (.lst ys))
 ge:s.heap.objs.size<=C
 os:s'.os=s.os
 bare:AllBare s'.gens
section
variable{X:Cx}{pins:List (Addr × Obj)}{σ:St}{H:Hp}{s:Shared}
theorem SI {tg iter elt:Expr} {ifs:List Expr} {scope:Scope} {pos:Pos} {g:TG} {tt:TT} {te:TE} {tn cn:List Str} {cap:List Nat} {cl:List (Str × Addr)} {it:Addr} {fp:List Addr} {tn':Nat->Heap->Prop} {J:It} {Q:VK} {E:Value->Shared->Prop}
    (I:Inv X pins σ H s) (S:KC X scope tn cn cap) (hc:X.calm=true)
    (hcl:∀ x c,cl.lookup x=some c->X.env.cells.lookup x=some c) (hcl2:∀ x∈scope.names,x.2=.free->(cl.lookup x.1).isSome=true)
    (T:HG X.prog X.w X.K tg J fp it tn') (st:tn' 0 s.heap) (hf:∀ b∈fp,FpOk X pins H b)
    (hg:∀ C,PG (X.block pins s H (tn++cn) scope cl C fp) tg g) (ht:∀ C,KD (X.block pins s H (tn++cn) scope cl C fp) ifs tt) (he:∀ C,PE (X.block pins s H (tn++cn) scope cl C fp) elt te)
    (W:Nat->Nat->St->List V->Hp->Prop) {m0:Nat} (w0:W 0 m0 (GZ tn.length cap σ) [] H)
    (step:∀ i m σ' ys H,W i m σ' ys H →
      (J.stop i H/\∀ p,H p=none->Q (.ref p) (upd H p (.lst ys))) ∨
      (J.go i H/\ys.length<sizeLine/\∀ x H',J.yld i H x H'->g x σ' H' λσ2 H2=>tt σ2 H2 λb H3 =>
        if b=true then ∃ N:VK,(∀ y H4,N y H4->∃ m',m'<m/\W (i+1) m' σ2 (ys++[y]) H4)/\te σ2 H3 N else ∃ m',m'<m/\W (i+1) m' σ2 ys H3)) :
    wpAny (model X.prog X.w) X.A (newList []) (λacc s₃=>wpAny (model X.prog X.w) X.A (newFunctionEnv scope X.env.globals cl [] X.env.qual none .none (some X.env)) (λcenv s₄ =>
      codeAny (model X.prog X.w) X.A (.compStart (.ListComp elt [⟨tg,iter,ifs,0⟩] scope pos) 0 (.ref it) acc { cenv with scope:=relabel scope X.env }) (CompDone X fp H s Q acc cenv.locals) s₄) E s₃) E s:=by
  refine wpAny_newObj_type (wpAny_newFunctionEnv S.nocell (by intro y hy;simp at hy) (λh₁ hns₁ hsb₁=> ?_) S.kind)
  dsimp only at hns₁ hsb₁ ⊢
  generalize hH2:s.heap.push { cls:=.type "list",dict:=none,data:=.seq ([]:List Value).toArray }=H2 at hns₁ hsb₁ ⊢
  have hCs:H2.objs.size=s.heap.objs.size+1:=by rw[<-hH2,Heap.size_push]
  generalize hCe:H2.objs.size=C at hns₁ hsb₁ ⊢
  have hC:C=s.heap.objs.size+1:=hCe.symm.trans hCs
  generalize hD:s.heap.objs.size=D at *
  have hDC:D≠C:=by rw[hC];exact Nat.ne_of_lt (Nat.lt_succ_self _)
  have old:∀ b o,s.heap.get? b=some o->h₁.get? b=some o:=λb o e=>by
    have hb:b<D:=by rw[<-hD];exact Heap.lt_size e
    have hbC:b≠C:=D6 hb (by rw[hC];exact Nat.le_succ _)
    exact hsb₁.extBut b o hbC (Heap.get?_push_of_some _ (hH2 ▸ Heap.get?_push_of_some _ e))
  have hDo:h₁.get? D=some { cls:=.type "list",data:=.seq ([]:List Value).toArray }:=by
    refine hsb₁.extBut _ _ hDC (Heap.get?_push_of_some _ ?_)
    rw[<-hH2,<-hD]
    exact Heap.get?_push_size _ rfl
  have hfl:∀ b∈fp,b<s.heap.objs.size:=λb hb=>by
    obtain⟨o,e,_⟩:=T.obj 0 _ st b hb
    exact Heap.lt_size e
  have hDn:H D=none:=by rw[<-hD];exact I.hok.fresh (Nat.le_refl _)
  have hDs:D∉DB X.stack:=λz=>D6 (I.stklt z) (Nat.le_of_eq hD) rfl
  have I0:Inv (X.block pins s H (tn++cn) scope cl C fp) [(D,{ cls:=.type "list",data:=.seq ([]:List Value).toArray 0 })] (GZ tn.length cap σ) H { s with heap:=h₁,toks:=s.toks+([]:List (Str × Value)).length } :=
    I.block S hcl hcl2 hf hfl (by omega) old rfl rfl ⟨_,hns₁⟩ λp hp=>by
      rw[List.mem_singleton]at hp
      subst hp
      exact⟨hDo,hDn,hDC,hDs,λv z=>nomatch z⟩
  have fpok:∀ {H':Hp} {o:Obj},(∀ b∈fp,H' b=none)->∀ b∈fp,FpOk (X.block pins s H (tn++cn) scope cl C fp) [(D,o)] H' b:=λ{H' o} hn b hb=>by
    obtain⟨_,f1,f2,f3,f4,f5⟩:=hf b hb
    have hbl:=hfl b hb
    refine⟨hn b hb,?_,I.stkne f1 f2,.inl hb,λx c e=>f4 x c (hcl x c e),λp hp=> ?_⟩
    ·exact D6 hbl (by rw[hD,hC];exact Nat.le_succ _)
    · rcases List.mem_append.mp hp with z | z
      ·exact f5 p z
      ·rw[List.mem_singleton]at z;subst z;exact Ne.symm (D6 hbl (Nat.le_of_eq hD))
  have st1:tn' 0 h₁:=T.keep _ _ _ st λb _ o e=>old b o e
  have loop:∀ s₃:Shared,s₃={ s with heap:=h₁,toks:=s.toks+([]:List (Str × Value)).length } →
      codeAny (model X.prog X.w) X.A (.compLoop (.ListComp elt [⟨tg,iter,ifs,0⟩] scope pos) 0 (.ref it) (.ref D) (compEnvC scope cl C X.env)) (CompDone X fp H s Q (.ref D) C) s₃:=by
    rintro s₃ rfl
    refine p9 (λn s'=>∃ i σ' ys its nn H',Inv (X.block pins s H (tn++cn) scope cl C fp) [(D,{ cls:=.type "list",data:=.seq (its:List Value).toArray nn })] σ' H' s'/\tn' i s'.heap/\(∀ b∈fp,H' b=none)/\Vals ys its/\ys.length<=sizeLine/\W i n σ' ys H') ?_ m0
      ⟨0,_,[],[],0,H,I0,st1,λb hb=>(hf b hb).1,.nil,Nat.zero_le _,w0⟩
    rintro n s4 ⟨i,σ4,ys,its,nn,H4,I4,st4,fr4,r4,l4,w4⟩
    rcases step i n σ4 ys H4 w4 with⟨stop,qn⟩ | ⟨go,hlt,next⟩
    · refine AT (T.done (X.block pins s H (tn++cn) scope cl C fp) rfl rfl rfl hc i _ s4 σ4 H4 _ I4 (fpok fr4) st4 stop) λr s5 ⟨hr,I5⟩=> ?_
      subst hr
      have hp:=I5.pin (D,_) (List.mem_append_right _ List.mem_cons_self)
      obtain⟨m5,hm5,_⟩:=I5.loc
      exact⟨rfl,⟨D,ys,its,nn,H4,rfl,r4,l4,hp.1,by omega,hDC,hp.2.1,I5.free,⟨m5,hm5⟩,I5.base,I5.hok,qn⟩,by omega,I5.os,I5.bare⟩
    · refine AT (T.item (X.block pins s H (tn++cn) scope cl C fp) rfl rfl rfl hc i _ s4 σ4 H4 _ I4 (fpok fr4) st4 go) λr s5 ⟨u,hr,h5⟩=> ?_
      subst hr
      refine AT h5 λ_ s6 ⟨x,H6,I6,r6,y6,st6,fr6⟩=> ?_
      have I6':=I6.pinned (fpok fr6) (T.obj _ _ st6)
      refine AT (hg C _ s6 σ4 H6 x u _ I6' r6 (next x H6 y6)) λ_ s7 ⟨σ7,H7,I7,q7⟩=> ?_
      refine AT (ht C _ s7 σ7 H7 _ I7 q7) λok s8 ⟨H8,I8,q8⟩=> ?_
      have keepst:∀ {σ9:St} {H9:Hp} {s9:Shared},Inv (X.block pins s H (tn++cn) scope cl C fp) ([(D,{ cls:=.type "list",data:=.seq its.toArray nn })]++MM fp s6.heap) σ9 H9 s9->(∀ b∈fp,∀ o,s6.heap.get? b=some o->s9.heap.get? b=some o)/\∀ b∈fp,H9 b=none:=λ{σ9 H9 s9} I9=>by
        refine⟨λb hb o e=>(I9.pin (b,o) (List.mem_append_right _ (List.mem_append_right _ (O4 hb e)))).1,λb hb=> ?_⟩
        obtain⟨o,e,_⟩:=T.obj _ _ st6 b hb
        exact(I9.pin (b,o) (List.mem_append_right _ (List.mem_append_right _ (O4 hb e)))).2.1
      cases ok with
      | false =>
        obtain⟨m',hm',w'⟩:=q8
        obtain⟨k1,k2⟩:=keepst I8
        exact⟨m',hm',i+1,σ7,ys,its,nn,H8,I8.unpinned,T.keep _ _ _ st6 k1,k2,r4,l4,w'⟩
      | true =>
        obtain⟨Nw,hN,q8⟩:=q8
        refine AT (he C _ s8 σ7 H8 Nw I8 q8) λv s9 ⟨y,H9,I9,r9,n9⟩=> ?_
        obtain⟨m',hm',w'⟩:=hN y H9 n9
        obtain⟨k1,k2⟩:=keepst I9
        have hp:=I9.pin (D,_) (List.mem_append_right _ (List.mem_append_left _ List.mem_cons_self))
        have e:=hp.1
        have hlen:=r4.length
        refine call_meets F.slot_list_append ⟨_,e,rfl⟩ F.entry_list_append (F.args_list_append_2 _ _) (PySem.list_append D its.toArray nn v (by rw[List.size_toArray];omega)) ⟨e,?_⟩
        have q:=PySem.IsL.update e (λxs=>xs.push v)
        have Ia:Inv (X.block pins s H (tn++cn) scope cl C fp) [] σ7 H9 s9:=I9.pins_of λp hp=>nomatch hp
        have Ib:=Ia.turned (h':=s9.heap.update D (Obj.mapSeq (·.push v))) (t':=s9.toks) (it:=D) (λb o hb eb=>(Heap.get?_update_other _ _ (Ne.symm hb)).trans eb) hp.2.1 hDC (.inr (by show s.heap.objs.size<=D;omega))
          (λx c ec z=>by
            obtain⟨vv,zc⟩:=I.cell x c (hcl x c ec)
            exact D6 zc.lt (Nat.le_of_eq hD) z)
          (λp hp'=>by
            rw[List.append_nil]at hp'
            exact D6 (I.pinlt hp') (Nat.le_of_eq hD))
        have q':(s9.heap.update D (Obj.mapSeq (·.push v))).get? D=some { cls:=.type "list",data:=.seq (its++[v]).toArray (nn+1) }:=by
          rw[if_neg (by simp)]at q
          rw[<-List.push_toArray]
          exact q
        refine⟨m',hm',i+1,σ7,ys++[y],its++[v],nn+1,H9,Ib.pins_of (λp hp'=> ?_),T.keep _ _ _ st6 λb hb o eb=> ?_,k2,r4.append (.cons r9 .nil),?_,w'⟩
        · rw[List.mem_singleton]at hp'
          subst hp'
          exact⟨q',hp.2.1,hDC,hDs,λv' z=>nomatch z⟩
        · have hbl:=hfl b hb
          exact(Heap.get?_update_other _ _ (Ne.symm (D6 hbl (Nat.le_of_eq hD)))).trans (k1 b hb o eb)
        · rw[List.length_append,List.length_singleton]
          omega
  exact codeAny_compStart_list (loop _ rfl) (T.self _ 0 _ _ _ st1 (loop _ rfl))
theorem CompDone.inv{Q:VK}{acc:Value}{C:Addr}{r:Result}{s':Shared}{fp:List Addr}(I:Inv X pins σ H s)(hf:∀ b∈fp,FpOk X pins H b)(h:CompDone X fp H s Q acc C r s') :
  ∃ D H',acc=.ref D/\Inv X pins σ H' s'/\Q (.ref D) H'/\H' C=none/\∃ m,s'.heap.Ns C m:=by
 obtain⟨_,⟨D,ys,its,n,H',rfl,r4,l4,e,hD,hDC,hDn,hCn,hm,u,ok,q⟩,hC,os,bare⟩:=h
 have lt:∀ b o,s.heap.get? b=some o->b≠D:=λb o eb=>D6 (Heap.lt_size eb) hD
 have ltH:∀ b o,H b=some o->b≠D:=λb o eb=>D6 (I.hok.lt eb) hD
 refine⟨D,upd H' D (.lst ys),rfl,I.call' (ch:=fp) os ⟨u.keep,u.slot,λb o eb n' hx=> ?_,u.there,λb xs eb=> ?_,λb o x eb=> ?_,λb ps eb=> ?_⟩ (ok.track hDn ⟨l4,its,n,r4,e⟩) bare (λb hb=> ?_),q D hDn,?_,hm⟩
 ·rw[AM (lt b o eb)];exact u.free b o eb n' hx
 ·rw[AM (ltH b _ eb)];exact u.tups b xs eb
 ·rw[AM (ltH b _ eb)];exact u.frzs b o x eb
 ·rw[AM (ltH b _ eb)];exact u.tbls b ps eb
 ·obtain⟨_,f1,f2,f3,f4,f5⟩:=hf b hb
  exact⟨f3,f1,f4,f5⟩
 ·rw[AM (Ne.symm hDC)];exact hCn
theorem Inv.letgo{C:Addr}{h':Heap}{s1:Shared}{σ1:St}{H1:Hp}(I:Inv X pins σ H s)(hC:s.heap.objs.size<=C)(I1:Inv X pins σ1 H1 s1)(hn:H1 C=none)(hs:Heap.SameBut C s1.heap h'):Inv X pins σ1 H1 { s1 with heap:=h' }:=by
 refine I1.turned (t':=s1.toks) (it:=C) (λb o hb e=>(hs.2 b hb).trans e) hn (λz=> ?_) (.inr ?_) (λx c e z=> ?_) λp hp z=> ?_
 ·exact D6 I.lt hC z.symm
 ·exact Nat.le_trans I.sz hC
 ·obtain⟨v,zc⟩:=I.cell x c e
  exact D6 zc.lt hC z
 ·exact D6 (I.pinlt hp) hC z
variable{tg iter elt:Expr}{ifs:List Expr}{scope:Scope}{pos:Pos}{wi:TI}{g:TG}{tt:TT}{te:TE}{tn cn:List Str}{cap:List Nat}
theorem FW(S:KC X scope tn cn cap)(hc:X.calm=true)(hi:PI X tg iter wi)
  (hg:∀ pins s H cl C fp,PG (X.block pins s H (tn++cn) scope cl C fp) tg g) (ht:∀ pins s H cl C fp,KD (X.block pins s H (tn++cn) scope cl C fp) ifs tt) (he:∀ pins s H cl C fp,PE (X.block pins s H (tn++cn) scope cl C fp) elt te)
  (hs:∀ x,foldedSetIterable iter X.env x=pure x:=by intro _;rfl):PE X (.ListComp elt [⟨tg,iter,ifs,0⟩] scope pos) (DH wi g tt te tn.length cap):=by
 intro pins s σ H Q I h
 obtain⟨cl,ecl,hcl,hcl2⟩:=SH (env:=X.env) (scope:=scope) λx hx hxf=>I.ok.has x.1 (S.free x hx hxf)
 rw[eval_ListComp]
 refine wpAny_comprehension_free (use:=none) rfl hs ecl S.kind S.names (AT (hi pins s σ H _ I h) λv s1 h1=>AT h1 λitv s2 h2=> ?_)
 obtain⟨it,fp,tn',J,H2,e,I2,T,st2,f2,W,⟨m0,w0⟩,turn⟩:=h2
 subst e
 refine AT (SI I2 S hc hcl hcl2 T st2 f2 (λC=>hg _ _ _ _ C _) (λC=>ht _ _ _ _ C _) (λC=>he _ _ _ _ C _) W w0 turn) λacc s3 h3=>AT h3 λcenv s4 h4=>codeAny_mono h4 λr s5 h5=> ?_
 have hr:=h5.ok
 subst hr
 obtain⟨D,H',rfl,I5,q5,hCn,m,hm⟩:=h5.inv I2 f2
 exact⟨m,hm,λh' hs'=>⟨.ref D,H',I2.letgo h5.ge I5 hCn hs',rfl,q5⟩⟩
theorem PU{i:Nat}{x:Str}{px spos:Pos}(S:KC X scope tn cn cap)(hc:X.calm=true)(hN:X.N.Nodup)(hi':X.N[i]? =some x)(hx:X.env.scope.names.lookup x=some .local)(hi:PI X tg iter wi)
  (hg:∀ pins s H cl C fp,PG (X.block pins s H (tn++cn) scope cl C fp) tg g) (ht:∀ pins s H cl C fp,KD (X.block pins s H (tn++cn) scope cl C fp) ifs tt) (he:∀ pins s H cl C fp,PE (X.block pins s H (tn++cn) scope cl C fp) elt te)
  (hsw:swapsWith (.ListComp elt [⟨tg,iter,ifs,0⟩] scope pos) (some (.Name x px)) spos.line X.env=pure true:=by rfl)
  (hs:∀ x,foldedSetIterable iter X.env x=pure x:=by intro _;rfl):PS X (.Assign [.Name x px] (.ListComp elt [⟨tg,iter,ifs,0⟩] scope pos) spos) (AZ (DH wi g tt te tn.length cap) (AR i)):=by
 intro pins s σ H D I h
 obtain⟨cl,ecl,hcl,hcl2⟩:=SH (env:=X.env) (scope:=scope) λx hx hxf=>I.ok.has x.1 (S.free x hx hxf)
 rw[exec_Assign_Name_used _ _ _ _ hsw]
 refine wpAny_bind (wpAny_standAt (wpAny_bind ?_))
 unfold evalThenUse
 refine wpAny_bind ?_
 refine wpAny_comprehension_free (use:=some (assign (.Name x px) X.env)) rfl hs ecl S.kind S.names (AT (hi pins s σ H _ I h) λv s1 h1=>AT h1 λitv s2 h2=> ?_)
 obtain⟨it,fp,tn',J,H2,e,I2,T,st2,f2,W,⟨m0,w0⟩,turn⟩:=h2
 subst e
 refine AT (SI (Q:=λx' H1=>AR i x' σ H1 D.nx) I2 S hc hcl hcl2 T st2 f2 (λC=>hg _ _ _ _ C _) (λC=>ht _ _ _ _ C _) (λC=>he _ _ _ _ C _) W w0 turn) λacc s3 h3=>AT h3 λcenv s4 h4=>codeAny_mono h4 λr s5 h5=> ?_
 have hr:=h5.ok
 subst hr
 obtain⟨Da,H',rfl,I5,q5,hCn,m,hm⟩:=h5.inv I2 f2
 show wpAny _ _ (assign (.Name x px) X.env (.ref Da)) _ _ s5
 refine wpAny_assign_Name (XB I5 hN hi' (.inl hx) (show RelV (.ref Da) (.ref Da)from rfl) (λs6 I6 ⟨a,hsb,ha⟩=> ?_) (.inr hx))
 refine⟨m,hm.sameBut hsb ?_,λh' hs'=> ?_⟩
 ·rcases ha with z | z
  ·exact Ne.symm (z ▸ D6 I2.lt h5.ge)
  ·obtain⟨vv,zc⟩:=I2.cell x a z
   exact Ne.symm (D6 zc.lt h5.ge)
 ·exact wpAny_pure (wpAny_pure ⟨σ.set i (some (.ref Da)),H',I2.letgo h5.ge I6 hCn hs',q5⟩)
end
end L2
namespace L2
theorem ObjOk.there{P:Program}{w:World}{H:Hp}{h:Heap}{a:Addr}{o:HO}(x:ObjOk P w H h a o):∃ ob,h.get? a=some ob:=by
 cases o with
 | lst xs=>obtain⟨_,_,_,_,e⟩:=x;exact⟨_,e⟩
 | tup xs=>obtain⟨_,_,_,ob,e,_⟩:=x;exact⟨_,e⟩
 | dK kvs=>obtain⟨_,_,_,_,ob,_,_,e,_⟩:=x;exact⟨_,e⟩
 | dT kvs=>obtain⟨_,_,_,_,ob,_,_,e,_⟩:=x;exact⟨_,e⟩
 | set S n=>obtain⟨ob,_,_,_,e,_⟩:=x;exact⟨_,e⟩
 | ins C dx fs=>obtain⟨_,_,_,e,_⟩:=x;exact⟨_,e⟩
 | own y=>exact x
 | xd fs=>obtain⟨_,⟨ob,_,_,e,_⟩,_⟩:=x;exact⟨_,e⟩
 | rng lo hi=>obtain⟨_,_,_,e⟩:=x;exact⟨_,e⟩
 | frz ob u=>obtain⟨e,_⟩:=x;exact⟨_,e⟩
 | tbl ps=>exact⟨_,show h.get? a=some _ from x⟩
 | met f y=>exact⟨_,show h.get? a=some _ from x⟩
 | ext φ =>exact x.2.1
theorem HOk.nh{P:Program}{w:World}{H:Hp}{h:Heap}{a:Addr}(x:HOk P w H h)(e:h.get? a=none):H a=none:=by
 cases q:H a with
 | none=>rfl
 | some o =>
  obtain⟨ob,e'⟩:=(x a o q).there
  rw[e]at e';cases e'
section
variable{X:Cx}{pins:List (Addr × Obj)}{σ:St}{H H':Hp}{s:Shared}{h':Heap}
theorem Inv.stepN{g':Array GenState}{t':Nat}{d':Drawn}{ch:List Addr}(I:Inv X pins σ H s)
  (hch:∀ b∈ch,(b∈X.ex\/X.s₀.heap.get? b=none)/\b≠X.env.locals/\(∀ x c,X.env.cells.lookup x=some c->c≠b)/\∀ p∈X.pn++pins,p.1≠b)
  (keep:∀ b o,b≠X.env.locals->b∉X.fs->b∉ch->s.heap.get? b=some o->H b=none->h'.get? b=some o)
  (slot:∀ b o,b≠X.env.locals->b∈X.fs->b∉ch->s.heap.get? b=some o->H b=none->∃ sl,h'.get? b=some { o with slots:=sl }) (free:∀ b o,b∉ch->s.heap.get? b=some o->H b=none->H' b=none)
  (there:∀ b o,b∉ch->s.heap.get? b=some o->∃ o',h'.get? b=some o')
  (tups:∀ b xs,H b=some (.tup xs)->H' b=some (.tup xs)) (frzs:∀ b o u,H b=some (.frz o u)->H' b=some (.frz o u)) (tbls:∀ b ps,H b=some (.tbl ps)->∃ more,H' b=some (.tbl (ps++more)))
  (ns:∀ m,s.heap.Ns X.env.locals m->h'.Ns X.env.locals m) (hok:HOk X.prog X.w H' h') (hg:AllBare g') :
  Inv X pins σ H' { s with heap:=h',gens:=g',drawn:=d',toks:=t' }:=by
 have neL:∀ b o,X.s₀.heap.get? b=some o->b≠X.env.locals:=λb o e=>Nat.ne_of_lt (Nat.lt_of_lt_of_le (Heap.lt_size e) I.ok.above)
 have neC:∀ b o,X.s₀.heap.get? b=some o->b∉X.ex->b∉ch:=λb o e hx hb=>by
  rcases(hch b hb).1 with z | z
  ·exact hx z
  ·rw[e]at z;cases z
 have cellK:∀ x c,X.env.cells.lookup x=some c->∀ v,s.heap.IsCell c v->h'.IsCell c v:=λx c e v ⟨o,ho,hd⟩=>by
  have nch:c∉ch:=λz=>(hch c z).2.2.1 x c e rfl
  by_cases hc:c∈X.fs
  ·obtain⟨sl,q⟩:=slot c o (I.cne x c e) hc nch ho (I.freeC x c e)
   exact⟨_,q,hd⟩
  ·exact⟨o,keep c o (I.cne x c e) hc nch ho (I.freeC x c e),hd⟩
 refine⟨I.ok,I.os,hg,⟨λb o e n hb hx=> ?_,λb o e n hb hx=> ?_,λb o e n hx=> ?_,λb o e hx=> ?_,λb xs e=>tups b xs (I.base.tups b xs e),λb o xs e=>frzs b o xs (I.base.frzs b o xs e),λb ps e=> ?_⟩,?_,λx c e=> ?_,?_,λx c e=> ?_,λp hp=> ?_,hok,I.len⟩
 ·exact keep b o (neL b o e) hb (neC b o e hx) (I.base.keep b o e n hb hx) (I.base.free b o e n hx)
 ·obtain⟨sl,e1⟩:=I.base.slot b o e n hb hx
  obtain⟨sl',e2⟩:=slot b _ (neL b o e) hb (neC b o e hx) e1 (I.base.free b o e n hx)
  exact⟨sl',e2⟩
 ·obtain⟨o',e1⟩:=I.base.there b o e hx
  exact free b o' (neC b o e hx) e1 (I.base.free b o e n hx)
 ·obtain⟨o',e1⟩:=I.base.there b o e hx
  exact there b o' (neC b o e hx) e1
 ·obtain⟨m1,e1⟩:=I.base.tbls b ps e
  obtain⟨m2,e2⟩:=tbls b _ e1
  exact⟨m1++m2,by rw[e2,Array.append_assoc]⟩
 ·obtain⟨m,hn,hl⟩:=I.loc
  refine⟨m,ns m hn,λi x v e1 e2 e3=> ?_⟩
  obtain⟨u,r,l⟩:=hl i x v e1 e2 e3
  refine⟨u,r,?_⟩
  rcases l with l | ⟨k,c,e,z⟩
  ·exact .inl l
  ·exact .inr ⟨k,c,e,cellK x c e _ z⟩
 ·obtain⟨v,z⟩:=I.cell x c e
  exact⟨v,cellK x c e v z⟩
 ·obtain⟨m,⟨o,_,_,ho,_⟩,_⟩:=I.loc
  exact free _ o (λz=>(hch _ z).2.1 rfl) ho I.free
 ·obtain⟨v,o,ho,hd⟩:=I.cell x c e
  exact free c o (λz=>(hch c z).2.2.1 x c e rfl) ho (I.freeC x c e)
 ·obtain⟨e,n,ne,nf,d⟩:=I.pin p hp
  have nch:p.1∉ch:=λz=>(hch p.1 z).2.2.2 p hp rfl
  exact⟨keep p.1 p.2 ne nf nch e n,free p.1 p.2 nch e n,ne,nf,d⟩
end
structure Fly(bad:Addr->Prop)(H:Hp)(h:Heap)(e:Addr)(cls:Value):Prop where
 nb:¬ bad e
 free:H e=none
 ex:∃ (oe:Obj) (vs:Array Value),h.get? e=some oe/\oe.cls=cls/\oe.dict=none/\oe.data=.fields vs/\(vs[1]? =some .none ∨
  ∃ (T:Addr) (oT:Obj) (ts:Array Value),vs[1]? =some (.ref T)/\¬ bad T/\H T=none/\T≠e/\h.get? T=some oT/\oT.data=.fields ts/\ts[3]? =some .none)
theorem Fly.mono{bad bad':Addr->Prop}{H:Hp}{h:Heap}{e:Addr}{cls:Value}(F:Fly bad H h e cls)(k:∀ a,bad' a->bad a):Fly bad' H h e cls:=by
 obtain⟨nb,fr,oe,vs,h1,h2,h3,h4,h5⟩:=F
 refine⟨λz=>nb (k _ z),fr,oe,vs,h1,h2,h3,h4,?_⟩
 rcases h5 with z | ⟨T,oT,ts,a,b,c⟩
 ·exact .inl z
 ·exact .inr ⟨T,oT,ts,a,λz=>b (k _ z),c⟩
section
variable{M:Model}{A:Around}{E:Value->Shared->Prop}{s:Shared}
theorem YW{base:Heap}{env:Env}{outer:List Env}{L e:Addr}{oe:Obj}{vs:Array Value}{hd:Value}{nx:Bool}{Q:Unit->Shared->Prop}
  (hfr:A.frames=some (env::outer)) (hl:s.heap.FunFrames base (env::outer)) (hf:env.frame=some L) (he:s.heap.get? e=some oe) (hdt:oe.data=.fields vs) (hsz:1<vs.size)
  (h:∀ h' T oT ts,(∀ b o,s.heap.get? b=some o->b≠e->b∉DB (env::outer)->h'.get? b=some o)->(∀ b o,s.heap.get? b=some o->b≠e->∃ sl,h'.get? b=some { o with slots:=sl }) →
   h'.get? e=some (oe.mapFields (·.setIfInBounds 1 (.ref T)))->s.heap.objs.size<=T->h'.get? T=some oT->oT.data=.fields ts->ts[3]? =some (rawInt L)->Q () { s with heap:=h' }) :
  wpAny M A (do let a ← frameOf env;let pl ← entryPlaceOf L nx;let b ← EntryCells.newEntry hd a .none (rawInt L) .none pl;setField (.ref e) 1 b) Q E s:=by
 have hne:e∉(env::outer).filterMap (·.frame):=λz=>by
  obtain⟨_,o,ho,hn⟩:=hl.mem z
  rw[he]at ho;cases ho
  exact hn vs hdt
 refine wpAny_bind (wpAny_frameOf_fun hfr hl hf λh1 hs1=> ?_)
 refine wpAny_bind (wpAny_entryPlaceOf λpl hpl=> ?_)
 unfold EntryCells.newEntry newFields
 refine wpAny_bind (wpAny_newObj_type ?_ (hpl.sizeOk5 _ _ _ _ _))
 have he1:h1.get? e=some oe:=(hs1.2.1 e hne).trans he
 refine wpAny_setField (Heap.get?_push_of_some _ he1) hdt hsz ?_
 have hTe:h1.objs.size≠e:=Nat.ne_of_gt (Heap.lt_size he1)
 have hd3:=Obj.data_mapFields hdt (·.setIfInBounds 1 (Value.ref h1.objs.size))
 have keep:∀ b o,b≠e->h1.get? b=some o->((h1.push { cls:=.type "traceback",dict:=none,data:=.fields ([hd,.ref L,.none,rawInt L,.none]++(if pl.isEmpty then List.replicate 6 Value.none else pl)).toArray }).update e (Obj.mapFields (·.setIfInBounds 1 (Value.ref h1.objs.size)))).get? b=some o:=λb o hb e1=>by
  rw[Heap.get?_update_other _ _ (Ne.symm hb)]
  exact Heap.get?_push_of_some _ e1
 refine h _ h1.objs.size _ _ (λb o e1 hb hnf=>keep b o hb ((hs1.2.1 b hnf).trans e1)) (λb o e1 hb=> ?_) (Heap.get?_update_self _ (Heap.get?_push_of_some _ he1) (Obj.isFreed_of_fields hd3)) (by rw[hs1.1];exact Nat.le_refl _)
  ((Heap.get?_update_other _ _ (Ne.symm hTe)).trans (Heap.get?_push_size _ rfl)) rfl ?_
 ·obtain⟨sl,e2⟩:=hs1.2.2 b o e1
  exact⟨sl,keep b _ hb e2⟩
 ·first | (simp;done) | (rcases hpl with rfl | ⟨_,_,_,_,_,_,_,rfl⟩<;>simp)
structure SJ(fr:List Addr)(bad:Addr->Prop)(H:Hp)(e:Addr)(cls:Value)(h h':Heap):Prop where
 ch:∃ ch:List Addr,(∀ b∈ch,¬ bad b/\H b=none/\∃ o vs,h.get? b=some o/\o.data=.fields vs)/\(∀ b o,h.get? b=some o->b∉ch->b∉fr->h'.get? b=some o) ∧
  (∀ b o,h.get? b=some o->b∉ch->∃ sl,h'.get? b=some { o with slots:=sl })
 fly:Fly bad H h' e cls
theorem YX{A2:Around}{E2:Value->Shared->Prop}{base:Heap}{env:Env}{outer:List Env}{L e:Addr}{cls:Value}{bad:Addr->Prop}{H:Hp}{Q:Unit->Shared->Prop}
  (hfr:A.frames=some (env::outer)) (hl:s.heap.FunFrames base (env::outer)) (hf:env.frame=some L) (F:Fly bad H s.heap e cls) (hb:∀ a,s.heap.objs.size<=a->¬ bad a) (hH:∀ a,s.heap.objs.size<=a->H a=none)
  (h:∀ h',SJ (DB (env::outer)) bad H e cls s.heap h'->Q () { s with heap:=h' }) :
  wpAny M A (noteFrame (.ref e) env) (λ_ s2=>wpAny M A2 (setFlight (.ref e) none) Q E2 s2) E s:=by
 obtain⟨nb,fr,oe,vs,he,hcls,hdict,hd,htb⟩:=F
 have rest:∀ (s1:Shared) (ch:List Addr) (h':Heap) (T:Addr) (oT:Obj) (ts:Array Value) (oe1:Obj),(∀ b o,s.heap.get? b=some o->s1.heap.get? b=some o\/b∈ch)->s1.heap.objs.size=s.heap.objs.size->e∈ch->(∀ b∈ch,¬ bad b/\H b=none/\∃ o vs,s.heap.get? b=some o/\o.data=.fields vs) →
   oe1.cls=cls->oe1.dict=none->oe1.data=.fields vs->1<vs.size →
   (∀ b o,s1.heap.get? b=some o->b≠e->b∉DB (env::outer)->h'.get? b=some o)->(∀ b o,s1.heap.get? b=some o->b≠e->∃ sl,h'.get? b=some { o with slots:=sl }) →
   h'.get? e=some (oe1.mapFields (·.setIfInBounds 1 (.ref T)))->s1.heap.objs.size<=T->h'.get? T=some oT->oT.data=.fields ts->ts[3]? =some (rawInt L)->wpAny M A2 (setFlight (.ref e) none) Q E2 { s with heap:=h' }:=by
  intro s1 ch h' T oT ts oe1 hk1 hsz hech hch hcls1 hdict1 hd1 hv k1 k2 e1 hT e2 hdT h3
  have hT':s.heap.objs.size<=T:=hsz ▸ hT
  have hTe:T≠e:=Ne.symm (D6 (Heap.lt_size he) hT')
  have hde:=Obj.data_mapFields hd1 (·.setIfInBounds 1 (Value.ref T))
  unfold setFlight
  refine wpAny_bind (wpAny_field e1 hde (x:=.ref T) (by simp[hv]) ?_)
  rw[if_pos (show(Value.ref T != Value.none)=true from by simp)]
  have hs3:3<ts.size:=(Array.getElem?_eq_some_iff.mp h3).1
  refine wpAny_setField e2 hdT hs3 (h _ ?_)
  have oth:∀ b,b≠T->(h'.update T (Obj.mapFields (·.setIfInBounds 3 ((none:Option Addr).elim Value.none λf=>rawInt f)))).get? b=h'.get? b:=λb hb'=>Heap.get?_update_other _ _ (Ne.symm hb')
  have ltT:∀ b o,s.heap.get? b=some o->b≠T:=λb o eb=>D6 (Heap.lt_size eb) hT'
  refine⟨⟨ch,hch,λb o eb hbc hbf=> ?_,λb o eb hbc=> ?_⟩,nb,fr,_,_,(oth e (Ne.symm hTe)).trans e1,(Obj.cls_mapFields _ _).trans hcls1,?_,hde,.inr ⟨T,_,_,by simp[hv],hb T hT',hH T hT',hTe,Heap.get?_update_self _ e2 (Obj.isFreed_of_fields (Obj.data_mapFields hdT _)),Obj.data_mapFields hdT _,by simp[hs3]⟩⟩
  ·rw[oth b (ltT b o eb)]
   rcases hk1 b o eb with z | z
   ·exact k1 b o z (λz'=>hbc (z' ▸ hech)) hbf
   ·exact absurd z hbc
  ·rw[oth b (ltT b o eb)]
   rcases hk1 b o eb with z | z
   ·exact k2 b o z (λz'=>hbc (z' ▸ hech))
   ·exact absurd z hbc
  ·obtain⟨c1,c2,c3,c4⟩:=oe1
   dsimp only at hd1
   subst hd1
   exact hdict1
 unfold noteFrame
 simp only[hf]
 rcases htb with h1 | ⟨T0,oT0,ts0,h1,nbT,frT,neT,eT,dT,h3⟩
 ·have hv:1<vs.size:=(Array.getElem?_eq_some_iff.mp h1).1
  refine wpAny_bind (wpAny_field he hd h1 ?_)
  rw[if_neg (by decide)]
  refine YW hfr hl hf he hd hv λh' T oT ts k1 k2 e1 hT e2 hdT h3=> ?_
  exact rest s [e] h' T oT ts oe (λb o eb=>.inl eb) rfl (by simp) (λb hb'=>by rw[List.mem_singleton]at hb';subst hb';exact⟨nb,fr,oe,vs,he,hd⟩) hcls hdict hd hv k1 k2 e1 hT e2 hdT h3
 ·have hv:1<vs.size:=(Array.getElem?_eq_some_iff.mp h1).1
  refine wpAny_bind (wpAny_field he hd h1 ?_)
  rw[if_pos (show(Value.ref T0 != Value.none)=true from by simp)]
  refine wpAny_bind (wpAny_field eT dT h3 ?_)
  rw[if_neg (show ¬ ((Value.none == rawInt L)=true)from by simp[rawInt])]
  refine wpAny_bind (wpAny_setField eT dT (Array.getElem?_eq_some_iff.mp h3).1 ?_)
  have oth:∀ b,b≠T0->(s.heap.update T0 (Obj.mapFields (·.setIfInBounds 3 Value.none))).get? b=s.heap.get? b:=λb hb'=>Heap.get?_update_other _ _ (Ne.symm hb')
  have nf:∀ b o,s.heap.get? b=some o->(∀ vs,o.data≠.fields vs)->b≠T0:=λb o eb hn z=>by rw[z,eT]at eb;cases eb;exact hn ts0 dT
  refine YW hfr (hl.of_keeps λb o eb hn=>⟨o,(oth b (nf b o eb hn)).trans eb,rfl⟩) hf ((oth e (Ne.symm neT)).trans he) hd hv λh' T oT ts k1 k2 e1 hT e2 hdT h3'=> ?_
  exact rest { s with heap:=s.heap.update T0 (Obj.mapFields (·.setIfInBounds 3 Value.none)) } [e,T0] h' T oT ts oe
   (λb o eb=>by
    by_cases z:b=T0
    ·exact .inr (by simp[z])
    ·exact .inl ((oth b z).trans eb))
   (Heap.size_after_update ..) (by simp)
   (λb hb'=>by
    rcases List.mem_cons.mp hb' with z | z
    ·subst z;exact⟨nb,fr,oe,vs,he,hd⟩
    ·rw[List.mem_singleton]at z;subst z;exact⟨nbT,frT,oT0,ts0,eT,dT⟩)
   hcls hdict hd hv k1 k2 e1 hT e2 hdT h3'
end
def Cx.bad(X:Cx)(pins:List (Addr × Obj)):Addr->Prop:=λa=>X.s₀.heap.get? a≠none\/∃ p∈X.pn++pins,p.1=a
structure XOk(X:Cx)(E:St->XK):Prop where
 po:PassesOwn (model X.prog X.w) X.A X.env X.xe
 ex:X.ex=[]
 calm:X.calm=true
 go:∀ (pins:List (Addr × Obj)) (σ:St) (H:Hp) (s:Shared) (e:Addr) (cls:Value),Inv X pins σ H s->Fly (X.bad pins) H s.heap e cls->E σ cls none H->X.xe (.ref e) s
section
variable{X:Cx}{pins:List (Addr × Obj)}{σ:St}{H:Hp}{s:Shared}
theorem Inv.notbad(I:Inv X pins σ H s)(hx:X.ex=[]){a:Addr}(h:s.heap.get? a=none):¬ X.bad pins a:=λz=>by
 rcases z with z | ⟨p,hp,rfl⟩
 ·cases q:X.s₀.heap.get? a with
  | none=>exact z q
  | some o =>
   obtain⟨o',e⟩:=I.base.there a o q (by rw[hx];simp)
   rw[h]at e;cases e
 ·have:=(I.pin p hp).1
  rw[h]at this;cases this
theorem YY{h:Heap}{a:Addr}(z:h.objs.size<=a):h.get? a=none:=by
 cases q:h.get? a with
 | none=>rfl
 | some o=>exact absurd (Nat.lt_of_lt_of_le (Heap.lt_size q) z) (Nat.lt_irrefl _)
theorem Inv.noted{e:Addr}{cls:Value}{h':Heap}(I:Inv X pins σ H s)(N:SJ (DB X.stack) (X.bad pins) H e cls s.heap h'):Inv X pins σ H { s with heap:=h' }:=by
 obtain⟨⟨ch,hch,k1,k2⟩,_⟩:=N
 obtain⟨mL,⟨oL,esL,epL,hoL,dL,rL⟩,_⟩:=id I.loc
 have chne:∀ b∈ch,∀ o,s.heap.get? b=some o->∃ vs,o.data=.fields vs:=λb hb o eb=>by
  obtain⟨_,_,o',vs,e',d⟩:=hch b hb
  rw[eb]at e';cases e'
  exact⟨vs,d⟩
 have hL:X.env.locals∉ch:=λz=>by
  obtain⟨vs,d⟩:=chne _ z _ hoL
  rw[dL]at d;cases d
 refine I.stepN (g':=s.gens) (t':=s.toks) (d':=s.drawn) (ch:=ch) (λb hb=>⟨.inr ?_,λz=>hL (z ▸ hb),λx c ec z=> ?_,λp hp z=>(hch b hb).1 (.inr ⟨p,hp,z⟩)⟩)
  (λb o hbL hbf hbc eb _=>k1 b o eb hbc λz=>(List.mem_cons.mp (I.stkSub b z)).elim hbL hbf) (λb o _ _ hbc eb _=>k2 b o eb hbc) (λ_ _ _ _ n=>n) (λb o hbc eb=> ?_) (λ_ _ q=>q) (λ_ _ _ q=>q) (λb ps q=>⟨#[],by rw[q];simp⟩) (λm hm=> ?_) (λb o eb=> ?_) I.bare
 ·cases q:X.s₀.heap.get? b with
  | none=>rfl
  | some o=>exact absurd (.inl (by rw[q];simp)) (hch b hb).1
 ·obtain⟨v,oc,hoc,hd⟩:=I.cell x c ec
  obtain⟨vs,d⟩:=chne c (z ▸ hb) oc hoc
  rw[hd]at d;cases d
 ·obtain⟨sl,q⟩:=k2 b o eb hbc
  exact⟨_,q⟩
 ·obtain⟨o',es',ep',ho',r'⟩:=hm
  rw[hoL]at ho';cases ho'
  obtain⟨sl,q⟩:=k2 _ _ hoL hL
  exact⟨_,es',ep',q,r'⟩
 ·refine(I.hok b o eb).stay (λc u hc q=>k1 c u q ?_ ?_) (λ_ q=>q) λ_ _ q=>q
  ·intro z
   have fr:=(hch c z).2.1
   rcases hc with rfl | hc
   ·rw[eb]at fr;cases fr
   ·rw[hc]at fr;cases fr
  ·intro z
   have fr:=I.stkFree c z
   rcases hc with rfl | hc
   ·rw[eb]at fr;cases fr
   ·rw[hc]at fr;cases fr
def DK(P:Program)(w:World):FC:=λouter H s E e s'=>∃ (ea:Addr) (cls:Value) (H':Hp),e=.ref ea/\s'.os=s.os/\AllBare s'.gens/\Un (DB outer) [] H H' s.heap s'.heap/\HOk P w H' s'.heap/\Fly (λa=>s.heap.get? a≠none) H' s'.heap ea cls/\E cls none H'
theorem YZ{P:Program}{w:World}{outer:List Env}{H:Hp}{s:Shared}{e:Value}{s':Shared}(h:DK P w outer H s (λ_ _ _=>False) e s'):False:=by
 obtain⟨_,_,_,_,_,_,_,_,_,f⟩:=h
 exact f
theorem XOk.passes{E:St->XK}(x:XOk X E):FD (DK X.prog X.w) X E:=λpins σ H s e s' I h=>by
 obtain⟨ea,cls,H',rfl,os,bare,un,hok,F,q⟩:=h
 refine x.go pins σ H' s' ea cls (I.call' (ch:=[]) os un hok bare λb z=>absurd z (by simp)) (F.mono λa z=> ?_) q
 rcases z with z | ⟨p,hp,rfl⟩
 ·cases q0:X.s₀.heap.get? a with
  | none=>exact absurd q0 z
  | some o =>
   obtain⟨o',e⟩:=I.base.there a o q0 (by rw[x.ex];simp)
   rw[e];simp
 ·rw[(I.pin p hp).1];simp
theorem GG{P:Program}{w:World}:FD (DK P w) X (λ_=>E0):=λ_ _ _ _ _ _ _ h=>(YZ h).elim
end
theorem qA{P:Program}{w:World}{K:W.Frag}{mg:Str->Option Value}{base:Heap}{N:List Str}{qual:Str}{scope:Scope}{f:Addr}{cd:Value}{A:Around}{outer:List Env}{s:Shared}{H:Hp}{E:XK} :
  XOk (GW (DK P w) P w K mg base N qual scope f cd A outer s H E) (λ_=>E) where
 po:=PassesOwn.leaving
 ex:=rfl
 calm:=rfl
 go:=λpins σ H' s' e cls I F q=>by
  have hfr:(A.deeper (envOfC qual scope s.heap.objs.size f cd)).frames=some (envOfC qual scope s.heap.objs.size f cd::outer):=I.ok.frames
  show wpAny _ _ (leaving _ _) _ _ _
  unfold leaving
  refine wpAny_bind (YX hfr I.stack rfl F (λa z=>I.notbad rfl (YY z)) (λa z=>I.hok.fresh z) λh' N=> ?_)
  have I':=I.noted N
  exact⟨e,cls,H',rfl,I'.os,I'.bare,I'.base,I'.hok,N.fly.mono λa z=>.inl z,q⟩
structure Exc(K:W.Frag)(C:Addr):Prop where
 ex:W.excIn K C [.type "ValueError",.type "Exception",.type "BaseException",.type "object"] "ValueError.__new__"=true
theorem Exc.obj{K:W.Frag}{C:Addr}{h:Heap}(x:Exc K C)(X:K.In h):∃ (tl:List Value) (N:Addr) (nm q:Str) (bs:List Value) (hdct:Bool) (sn:List Str) (sub:List Value) (ab:Bool) (col:Option Bool) (dd:Option Addr) (k0 k1 k2 k3 k5:Option Value) (mN:Str->Option Value),
  h.get? C=some (excClassObj nm q C N bs tl hdct sn sub ab col dd k0 k1 k2 k3 k5 "ValueError.__new__")/\h.Ns N mN/\mN "__init__"=none/\OwnTail h [.type "ValueError",.type "Exception",.type "BaseException",.type "object"] tl:=by
 have q:=x.ex
 unfold W.excIn at q
 split at q
 ·rename_i dd cd sl ho
  split at q
  ·rename_i C' bm k0 k1 k2 k3 n k5 hm hs
   simp only[Bool.and_eq_true,beq_iff_eq,Bool.not_eq_true']at q
   obtain⟨⟨⟨⟨⟨rfl,rfl⟩,hdel⟩,ht⟩,hok⟩,hni⟩:=q
   obtain⟨nm,bs,mro,ns,qn,hd,sn,sub,ab,col,del⟩:=cd
   dsimp only at hm hdel hok hni
   subst hm hdel
   obtain⟨l⟩:=sl
   simp only at hs
   subst hs
   exact⟨bm,ns,nm,qn,bs,hd,sn,sub,ab,col,dd,k0,k1,k2,k3,k5,_,X _ _ ho,.of_isNs (W.isNs_of_in X hok),W.nsMap_none_of_in X hok hni,W.tail_of_in X ht⟩
  ·cases q
 ·cases q
def FX(C:Addr)(E:St->XK)(t:TA):TS:=λ_ σ H=>t σ H λvs H1=>vs.length<=sizeLine/\E σ (.ref C) none H1
section
variable{X:Cx}{E:St->XK}{C:Addr}{x:Str}{np cpos pos:Pos}{e:Expr}{es:List Expr}{t:TA}
theorem G0(hx:XOk X E)(c:Exc X.K C)(hg:Gl X x)(hm:X.mg x=some (.ref C))(ha:PA X (e::es) t)(hdb:(x ==("__debug__":Str))=false:=by decide)
  (he:starEach (e::es) X.env=(false,eval e X.env)::starEach es X.env:=by rfl) (hpl:(backTo cpos (starEach es X.env)).any (·.1)=false:=by rfl) :
  PS X (.Raise (some (.Call (.Name x np) (e::es) [] cpos)) none pos) (FX C E t):=by
 intro pins s σ H D I h
 obtain⟨tl,N,nm,q,bs,hdct,sn,sub,ab,col,dd,k0,k1,k2,k3,k5,mN,hC,hN,hni,T⟩:=c.obj I.mod.kin
 have hpl2:(backTo cpos (starEach (e::es) X.env)).any (·.1)=false:=by
  rw[he]
  show(false || (backTo cpos (starEach es X.env)).any (·.1))=false
  rw[hpl];rfl
 refine wpAny_Raise_call_subT (C:=C) (nm:=nm) (q:=q) (N:=N) (bs:=bs) (bm:=tl) (hdct:=hdct) (sn:=sn) (sub:=sub) (ab:=ab) (col:=col) (dd:=dd) (k0:=k0) (k1:=k1) (k2:=k2) (k3:=k3) (k5:=k5)
  PySem.F.excBase_ValueError (mN:=mN) (T.hasType PySem.F.excBase_ValueError.hasBase) (I.ok.hd hx.calm) hpl2 hni (MG I hg hm ⟨rfl,?_⟩ hdb)
 have hq:=ha cpos pins s σ H _ I h
 rw[he]at hq ⊢
 refine Calls.evalArgs_plain (AT hq λus s1 ⟨vs,H1,I1,r,hz,q1⟩=>⟨rfl,?_,I1.bk _ _ hC,hN.keeps I1.bk,T.keeps I1.bk,λh' ea hM=> ?_⟩)
 ·show us.length<=_
  rw[<-r.length];exact hz
 ·have I2:Inv X pins σ H1 { s1 with heap:=h' }:=I1.kept (t':=s1.toks) hM.keeps
  obtain⟨tt,h1,h2,h3⟩:=hM.there
  refine hx.go pins σ H1 _ ea (.ref C) I2 ⟨λz=>I1.notbad hx.ex hM.new z,I1.hok.nh hM.new,_,_,h1,rfl,rfl,rfl,.inl rfl⟩ q1
end
end L2
namespace L2
section
variable(P:Program)(w:World)(K:W.Frag)(mg:Str->Option Value)(base:Heap)
structure C6(k:Nat)(x:Str)(ps:List Str)(sp:Sp):Prop where
 ex:∃ (f:Addr) (fd:FuncData),FnOk P w K mg base (DK P w) k f fd ps sp/\mg x=some (.ref f)/\W.keepIn K (.ref f)=true/\Binds K fd ps []
structure AX(C:Addr)(k:Nat)(m:Str)(ps:List Str)(sp:Sp):Prop where
 ex:∃ (f:Addr) (fd:FuncData),FnOk P w K mg base (DK P w) k f fd ps sp/\PD K C m f/\Binds K fd ps []
structure KE(C:Addr)(k:Nat)(x:Str)(ps:List Str)(sp:Sp):Prop where
 ex:∃ (f:Addr) (fd:FuncData),FnOk P w K mg base (DK P w) k f fd ps sp/\Mk K C f/\mg x=some (.ref C)/\Binds K fd ps []
end
section
variable{X:Cx}{E:St->XK}{k:Nat}{x m:Str}{ps:List Str}{sp:Sp}{C:Addr}{p pos apos:Pos}{e o:Expr}{es:List Expr}{ta:TE}{t:TA}
theorem C7(c:C6 X.prog X.w X.K X.mg X.base k x ps sp)(hr:Room k X.A)(hp:FD (DK X.prog X.w) X E)(hg:Gl X x)(ha:PA X (e::es) t)(hdb:(x ==("__debug__":Str))=false:=by decide)
  (he:starEach (e::es) X.env=(false,eval e X.env)::starEach es X.env:=by rfl) (hpl:(backTo pos (starEach es X.env)).any (·.1)=false:=by rfl):PE X (.Call (.Name x p) (e::es) [] pos) (CQ sp [] E t):=by
 obtain⟨f,fd,F,hm,hk,hb⟩:=c.ex
 exact oG F hr hg hm hk hb .nil hp ha hdb he hpl
theorem AY{pl:Sem Bool}(he:PE X o ta)(cl:Cls X.K C)(c:AX X.prog X.w X.K X.mg X.base C k m ps sp)(hr:Room k X.A)(hp:FD (DK X.prog X.w) X E)(ha:PA X (e::es) t)
  (hst:starEach (e::es) X.env=(false,eval e X.env)::starEach es X.env:=by rfl) (hpl:(backTo pos (starEach es X.env)).any (·.1)=false:=by rfl)
  (ht:eval (.Call (.Attribute o m apos) (e::es) [] pos) X.env=(do
   let ov ← eval o X.env
   standAt apos.atName
   let (f,first) ← holding [ov] (getMethod ov m pl)
   callWith pos f first (backTo pos (starEach (e::es) X.env)) (backToKw pos (keywordEach [] X.env))):=by rfl):PE X (.Call (.Attribute o m apos) (e::es) [] pos) (AW C m sp [] E ta t):=by
 obtain⟨f,fd,F,hm,hb⟩:=c.ex
 exact oH he cl hm F hr hb .nil hp ha hst hpl ht
theorem D7{pl:Sem Bool}(he:PE X o ta)(cl:Cls X.K C)(c:AX X.prog X.w X.K X.mg X.base C k m ps sp)(hr:Room k X.A)(hp:FD (DK X.prog X.w) X E)
  (ht:eval (.Call (.Attribute o m apos) [] [] pos) X.env=(do
   let ov ← eval o X.env
   standAt apos.atName
   let (f,first) ← holding [ov] (getMethod ov m pl)
   callWith pos f first (backTo pos (starEach [] X.env)) (backToKw pos (keywordEach [] X.env))):=by rfl):PE X (.Call (.Attribute o m apos) [] [] pos) (AW C m sp [] E ta AF):=by
 obtain⟨f,fd,F,hm,hb⟩:=c.ex
 exact oI he cl hm F hr hb .nil hp ht
theorem M4(c:KE X.prog X.w X.K X.mg X.base C k x ps sp)(hr:Room (k+1) X.A)(hp:FD (DK X.prog X.w) X E)(hg:Gl X x)(ha:PA X (e::es) t)(hdb:(x ==("__debug__":Str))=false:=by decide)
  (he:starEach (e::es) X.env=(false,eval e X.env)::starEach es X.env:=by rfl) (hpl:(backTo pos (starEach es X.env)).any (·.1)=false:=by rfl):PE X (.Call (.Name x p) (e::es) [] pos) (HI C sp [] E t):=by
 obtain⟨f,fd,F,M,hm,hb⟩:=c.ex
 exact oK M F hr hg hm hb .nil hp ha hdb he hpl
end
theorem Fun.okE{P:Program}{w:World}{K:W.Frag}{mg:Str->Option Value}{base:Heap}{x qual:Str}{st:Stmt}{f:Addr}{fd:FuncData}{N ps:List Str}{k:Nat}{sp:Sp}(F:Fun K x qual st f fd)(S:FnScope N ps (AK st))(len:∀ vs H Q E,sp vs H Q E->vs.length=ps.length)
  (hbody:∀ (cdv:Value) (A:Around) (outer:List Env) (s:Shared) (H:Hp) (vs:List V) (Q:VK) (E:XK),Room k (A.deeper (envOfC qual (AK st) s.heap.objs.size f cdv))->sp vs H Q E →
   ∃ t,E9 (GW (DK P w) P w K mg base N qual (AK st) f cdv A outer s H E) (A8 st) t/\t { nx:=λ_ H'=>Q .non H',rt:=Q } (A7 N vs) H):FnOk P w K mg base (DK P w) (k+1) f fd ps sp:=by
 obtain⟨oc,od,kV,doc,pm,an,cdv,ct,osl,rfl,l,c⟩:=F.ex
 exact oN l c S len λA outer s H vs Q E hr h=>hbody cdv A outer s H vs Q E hr h
def GV(mg:Str->Option Value)(x:Str)(v:V):Prop:=∃ u,mg x=some u/\RelV v u
theorem SK{X:Cx}{x:Str}{v:V}{pos:Pos}(g:GV X.mg x v)(hg:Gl X x)(hd:(x ==("__debug__":Str))=false:=by decide):PE X (.Name x pos) (tC v):=by
 obtain⟨u,hm,r⟩:=g
 exact mG hg hm r hd
abbrev Cx.tri(X:Cx)(pn:List (Addr × Obj))(xe:Value->Shared->Prop):Cx:={ X with pn:=pn,xe:=xe }
abbrev Cx.hand(X:Cx)(e:Addr):Cx:={ X with A:=X.A.mark (some (.ref e)),calm:=false,xe:=λ_ _=>False }
section
variable{X:Cx}{pins:List (Addr × Obj)}{σ:St}{H:Hp}{s:Shared}
theorem Cx.Ok.tri{pn:List (Addr × Obj)}{xe:Value->Shared->Prop}(ok:X.Ok):(X.tri pn xe).Ok :=
 ⟨ok.mod,ok.kind,ok.glob,ok.blt,ok.above,ok.inj,ok.has,ok.cab,ok.hd,ok.frames,ok.stk,ok.exf,ok.bs,ok.bsz,ok.noex,ok.exfs,ok.funs,ok.frf⟩
theorem Inv.tri{xe:Value->Shared->Prop}(I:Inv X pins σ H s):Inv (X.tri (X.pn++pins) xe) [] σ H s :=
 ⟨I.ok.tri,I.os,I.bare,I.base,I.loc,I.cell,I.free,I.freeC,λp hp=>I.pin p (by simpa using hp),I.hok,I.len⟩
theorem Cx.Ok.untri{pn:List (Addr × Obj)}{xe:Value->Shared->Prop}(ok:(X.tri pn xe).Ok):X.Ok :=
 ⟨ok.mod,ok.kind,ok.glob,ok.blt,ok.above,ok.inj,ok.has,ok.cab,ok.hd,ok.frames,ok.stk,ok.exf,ok.bs,ok.bsz,ok.noex,ok.exfs,ok.funs,ok.frf⟩
theorem Inv.untri{pl:List (Addr × Obj)}{xe:Value->Shared->Prop}(I:Inv (X.tri (X.pn++pins) xe) pl σ H s):Inv X pins σ H s :=
 ⟨I.ok.untri,I.os,I.bare,I.base,I.loc,I.cell,I.free,I.freeC,λp hp=>I.pin p (List.mem_append_left _ hp),I.hok,I.len⟩
theorem Cx.Ok.hand{e:Addr}(ok:X.Ok):(X.hand e).Ok :=
 ⟨ok.mod,ok.kind,ok.glob,ok.blt,ok.above,ok.inj,ok.has,ok.cab,(λz=>nomatch z),ok.frames,ok.stk,ok.exf,ok.bs,ok.bsz,ok.noex,ok.exfs,ok.funs,ok.frf⟩
theorem Inv.hand{e:Addr}(I:Inv X pins σ H s):Inv (X.hand e) pins σ H s:=⟨I.ok.hand,I.os,I.bare,I.base,I.loc,I.cell,I.free,I.freeC,I.pin,I.hok,I.len⟩
theorem Inv.unhand{e:Addr}(ok:X.Ok)(I:Inv (X.hand e) pins σ H s):Inv X pins σ H s:=⟨ok,I.os,I.bare,I.base,I.loc,I.cell,I.free,I.freeC,I.pin,I.hok,I.len⟩
end
def M5(e:Addr)(cls:Value):Heap->Prop:=λh=>∃ oe vs,h.get? e=some oe/\oe.cls=cls/\oe.dict=none/\oe.data=.fields vs
abbrev TH:=Value->Ends->St->Hp->Prop
def PY:TH:=λ_ _ _ _=>False
def GH(p:Value->Option Bool)(ts:TS)(rest:TH):TH:=λcls D σ H=>(p cls=some true/\ts D σ H)\/(p cls=some false/\rest cls D σ H)
def Ends.drop(D:Ends)(i:Nat):Ends:={ nx:=λσ H=>D.nx (σ.set i none) H,rt:=D.rt,bk:=λσ H=>D.bk (σ.set i none) H,ct:=λσ H=>D.ct (σ.set i none) H }
def PH(X:Cx)(hs:List ExceptHandler)(th:TH):Prop :=
 ∀ (pins:List (Addr × Obj)) (s:Shared) (σ:St) (H:Hp) (D:Ends) (e:Addr) (cls:Value),X.ex=[]->Inv X pins σ H s->Fly (X.bad pins) H s.heap e cls->th cls D σ H →
  wpAny (model X.prog X.w) X.A (handleBy (.ref e) X.env hs) (SP X pins D) X.xe s
def PX(X:Cx)(t:Expr)(p:Value->Option Bool):Prop :=
 ∀ (pins:List (Addr × Obj)) (s:Shared) (σ:St) (H:Hp) (e:Addr) (cls:Value) (b:Bool) (Q:Bool->Shared->Prop) (E:Value->Shared->Prop),Inv X pins σ H s->Fly (X.bad pins) H s.heap e cls->p cls=some b →
  (∀ s',Inv X pins σ H s'->Fly (X.bad pins) H s'.heap e cls->Q b s')->wpAny (model X.prog X.w) (X.A.mark (some (.ref e))) (eval t X.env) (λc s1=>wpAny (model X.prog X.w) (X.A.mark (some (.ref e))) (excMatches (.ref e) c) Q E s1) E s
def PZ(tb:(St->XK)->TS)(th:TH):TS:=λD σ H=>tb (λσ' cls _ H'=>th cls D σ' H') D σ H
section
variable{X:Cx}{hs:List ExceptHandler}{h₀:ExceptHandler}{th:TH}{body:List Stmt}{tb:(St->XK)->TS}{pos:Pos}
theorem Y0:PH X [] PY:=λ_ _ _ _ _ _ _ _ _ _ h=>h.elim
theorem qB{bad:Addr->Prop}{H:Hp}{h:Heap}{e:Addr}{cls:Value}{M:Model}(F:Fly bad H h e cls):W.Looks M h (typeOf (.ref e)) cls:=by
 obtain⟨_,_,oe,vs,h1,h2,_⟩:=F
 subst h2
 exact(W.Looks.ld h1).andThen .now
theorem M6{x:Str}{np:Pos}{C:Value}(hg:Gl X x)(hm:X.mg x=some C)(hd:(x ==("__debug__":Str))=false:=by decide):PX X (.Name x np) (λcls=>W.exmOne X.K cls C):=by
 intro pins s σ H e cls b Q E I F hp h
 have I2:Inv (X.hand e) pins σ H s:=I.hand
 refine MG (X:=X.hand e) I2 hg hm ?_ hd
 exact W.exm_one I.kIn (qB F) hp _ _ _ s (λ_ _ z=>z) (h s I F)
theorem qC{M:Model}{A:Around}{E:Value->Shared->Prop}{s:Shared}{bad:Addr->Prop}{H:Hp}{fr:List Addr}{e:Addr}{cls:Value}{Q:Unit->Shared->Prop}(F:Fly bad H s.heap e cls)
  (h:∀ h',SJ fr bad H e cls s.heap h'->Q () { s with heap:=h' }):wpAny M A (setFlight (.ref e) none) Q E s:=by
 have F0:=F
 obtain⟨nb,frr,oe,vs,he,hcls,hdict,hd,htb⟩:=F
 unfold setFlight
 rcases htb with h1 | ⟨T,oT,ts,h1,nbT,frT,neT,eT,dT,h3⟩
 ·refine wpAny_bind (wpAny_field he hd h1 ?_)
  rw[if_neg (by decide)]
  exact wpAny_pure (h s.heap ⟨⟨[],(λb hb=>nomatch hb),λb o eb _ _=>eb,λb o eb _=>⟨o.slots,eb⟩⟩,F0⟩)
 ·refine wpAny_bind (wpAny_field he hd h1 ?_)
  rw[if_pos (show(Value.ref T != Value.none)=true from by simp)]
  have hs3:3<ts.size:=(Array.getElem?_eq_some_iff.mp h3).1
  refine wpAny_setField eT dT hs3 (h _ ?_)
  have oth:∀ b,b≠T->(s.heap.update T (Obj.mapFields (·.setIfInBounds 3 ((none:Option Addr).elim Value.none λf=>rawInt f)))).get? b=s.heap.get? b:=λb hb'=>Heap.get?_update_other _ _ (Ne.symm hb')
  refine⟨⟨[T],λb hb=> ?_,λb o eb hb _=>(oth b λz=>hb (by simp[z])).trans eb,λb o eb hb=>⟨o.slots,(oth b λz=>hb (by simp[z])).trans eb⟩⟩,nb,frr,oe,vs,(oth e (Ne.symm neT)).trans he,hcls,hdict,hd,.inr ⟨T,_,_,h1,nbT,frT,neT,Heap.get?_update_self _ eT (Obj.isFreed_of_fields (Obj.data_mapFields dT _)),Obj.data_mapFields dT _,by simp[hs3]⟩⟩
  rw[List.mem_singleton]at hb
  subst hb
  exact⟨nbT,frT,oT,ts,eT,dT⟩
theorem SP.unhand{pins:List (Addr × Obj)}{D:Ends}{e:Addr}{f:Flow}{s:Shared}(ok:X.Ok)(h:SP (X.hand e) pins D f s):SP X pins D f s:=by
 cases f with
 | next=>obtain⟨σ1,H1,I1,q⟩:=h;exact⟨σ1,H1,I1.unhand ok,q⟩
 | brk=>obtain⟨σ1,H1,I1,q⟩:=h;exact⟨σ1,H1,I1.unhand ok,q⟩
 | cont=>obtain⟨σ1,H1,I1,q⟩:=h;exact⟨σ1,H1,I1.unhand ok,q⟩
 | ret u=>obtain⟨v,σ1,H1,I1,r,q⟩:=h;exact⟨v,σ1,H1,I1.unhand ok,r,q⟩
theorem M7{t:Expr}{b₀:Stmt}{suite:List Stmt}{hp:Pos}{p:Value->Option Bool}{ts:TS}{rest:List ExceptHandler}{tr:TH}(ht:PX X t p)(hsu:∀ e,E9 (X.hand e) (b₀::suite) ts)(hr:PH X rest tr) :
  PH X (.ExceptHandler (some t) none (b₀::suite) hp::rest) (GH p ts tr):=by
 intro pins s σ H D e cls hx I F h
 have hmain:∃ b,p cls=some b/\(b=true->ts D σ H)/\(b=false->tr cls D σ H):=by
  rcases h with⟨h1,h2⟩ | ⟨h1,h2⟩
  ·exact⟨true,h1,λ_=>h2,λz=>nomatch z⟩
  ·exact⟨false,h1,(λz=>nomatch z),λ_=>h2⟩
 obtain⟨b,hp',hT,hF⟩:=hmain
 refine wpAny_handleBy_cons (codeAny_handlers_test (ht pins s σ H e cls b _ _ I F hp' λs' I' F'=> ?_)) (by intro z;cases z)
 cases b with
 | false=>exact hr pins s' σ H D e cls hx I' F' (hF rfl)
 | true =>
  refine codeAny_handlers_suite (qC (fr:=DB X.stack) F' λh' N=> ?_)
  have I2:Inv (X.hand e) pins σ H { s' with heap:=h' }:=(I'.noted N).hand
  refine wpAny_mono (hsu e pins _ σ H D I2 (hT rfl)) (λf s2 h2=>h2.unhand I.ok) λ_ _ z=>z.elim
theorem Y1(hx:X.ex=[])(hcalm:X.calm=true)(hst:X.stack=X.env::X.outer)(hfr:X.env.frame=some X.env.locals)(hb:∀ (E:St->XK) (pn:List (Addr × Obj)) (xe:Value->Shared->Prop),XOk (X.tri pn xe) E->E9 (X.tri pn xe) body (tb E))(hh:PH X (h₀::hs) th) :
  PS X (.Try body (h₀::hs) [] [] pos) (PZ tb th):=by
 intro pins s σ H D I h
 refine wpAny_Try_except ?_
 let xe:Value->Shared->Prop:=λe s₁=>wpAny (model X.prog X.w) X.A (noteFrame e X.env) (λ_ s₂=>wpAny (model X.prog X.w) X.A (setFlight e none) (λ_ s₃=>wpAny (model X.prog X.w) X.A (handleBy e X.env (h₀::hs)) (SP X pins D) X.xe s₃) X.xe s₂) X.xe s₁
 have xok:XOk (X.tri (X.pn++pins) xe) (λσ' cls _ H'=>th cls D σ' H'):=by
  refine⟨PassesOwn.looking,hx,hcalm,λpl σ' H' s' e cls I' F' q=> ?_⟩
  have Iu:=I'.untri
  refine YX (hst ▸ Iu.ok.frames) (hst ▸ Iu.stack) hfr F' (λa z=>I'.notbad hx (YY z)) (λa z=>I'.hok.fresh z) λh' N=> ?_
  rw[<-hst]at N
  have I2:Inv (X.tri (X.pn++pins) xe) pl σ' H' { s' with heap:=h' }:=I'.noted N
  exact hh pins _ σ' H' D e cls hx I2.untri (N.fly.mono λa z=>by
   rcases z with z | ⟨p,hp,z⟩
   ·exact .inl z
   ·exact .inr ⟨p,List.mem_append_left _ hp,z⟩) q
 refine wpAny_mono (hb _ _ xe xok [] s σ H D I.tri h) (λf s1 hs1=> ?_) λ_ _ z=>z
 cases f with
 | next =>
  obtain⟨σ1,H1,I1,q⟩:=hs1
  exact wpAny_execs_nil ⟨σ1,H1,I1.untri,q⟩
 | brk=>obtain⟨σ1,H1,I1,q⟩:=hs1;exact⟨σ1,H1,I1.untri,q⟩
 | cont=>obtain⟨σ1,H1,I1,q⟩:=hs1;exact⟨σ1,H1,I1.untri,q⟩
 | ret u=>obtain⟨v,σ1,H1,I1,r,q⟩:=hs1;exact⟨v,σ1,H1,I1.untri,r,q⟩
end
end L2
namespace L2
mutual
inductive Rep(K:W.Frag)(H:Hp):V->PyData->Prop
 | non:Rep K H .non .none
 | bl (b:Bool):Rep K H (.bl b) (.bool b)
 | int (i:Int):Rep K H (.int i) (.int i)
 | str (x:Str):Rep K H (.str x) (.str x)
 | lst {a:Addr} {xs:List V} {ds:List PyData}:SqL K H a xs->RepAll K H xs ds->Rep K H (.ref a) (.list ds)
 | tup {a:Addr} {xs:List V} {ds:List PyData}:SqT K H a xs->RepAll K H xs ds->Rep K H (.ref a) (.tuple ds)
inductive RepAll(K:W.Frag)(H:Hp):List V->List PyData->Prop
 | nil:RepAll K H [] []
 | cons {v:V} {d:PyData} {vs:List V} {ds:List PyData}:Rep K H v d->RepAll K H vs ds->RepAll K H (v::vs) (d::ds)
end
section
variable{X:Cx}{pins:List (Addr × Obj)}{σ:St}{H:Hp}{s:Shared}
mutual
theorem Rep.reads(I:Inv X pins σ H s):∀ {v:V} {d:PyData} {u:Value},Rep X.K H v d->RelV v u->∃ as,Reads s.heap u d as
 | _,_,_,.non,r=>by cases (show _=Value.none from r);exact⟨_,.none⟩
 | _,_,_,.bl b,r=>by cases (show _=Value.bool b from r);exact⟨_,.bool b⟩
 | _,_,_,.int i,r=>by obtain⟨t,e⟩:=(show ∃ t,_=Value.int i t from r);cases e;exact⟨_,.int i t⟩
 | _,_,_,.str x,r=>by obtain⟨t,e⟩:=(show ∃ t,_=Value.str x t from r);cases e;exact⟨_,.str x t⟩
 | _,_,_,.lst (a:=a) h hr,r=>by
  cases (show _=Value.ref a from r)
  obtain⟨its,rv,p,_⟩:=I.list h
  obtain⟨as,q⟩:=RepAll.reads I hr rv
  obtain⟨o,e1,e2,n,e3⟩:=p.isList
  exact⟨_,.list e1 e2 e3 q⟩
 | _,_,_,.tup (a:=a) h hr,r=>by
  cases (show _=Value.ref a from r)
  obtain⟨its,rv,p,_⟩:=I.tuple h
  obtain⟨as,q⟩:=RepAll.reads I hr rv
  obtain⟨o,e1,e2,n,e3⟩:=p
  exact⟨_,.tuple e1 e2 e3 q⟩
theorem RepAll.reads(I:Inv X pins σ H s):∀ {vs:List V} {ds:List PyData} {us:List Value},RepAll X.K H vs ds->Vals vs us->∃ as,ReadsAll s.heap us ds as
 | _,_,_,.nil,.nil=>⟨_,.nil⟩
 | _,_,_,.cons h hr,.cons r rr=>by
  obtain⟨as,q⟩:=Rep.reads I h r
  obtain⟨bs,q2⟩:=RepAll.reads I hr rr
  exact⟨_,.cons q q2⟩
end
end
abbrev IH(d:PyData):Prop:=PySem.SeqAt.shaped d=true
def DL(K:W.Frag):R2:=λx y H Q=>if GU x y=true then Q (.bl (decide (x=y))) H else ∃ d e,Rep K H x d/\Rep K H y e/\IH d/\IH e/\Q (.bl (PyData.eqv d e)) H
def FH(K:W.Frag):R2:=λx y H Q=>if GU x y=true then Q (.bl (!decide (x=y))) H else ∃ d e,Rep K H x d/\Rep K H y e/\IH d/\IH e/\Q (.bl (!PyData.eqv d e)) H
section
variable{X:Cx}
theorem EZ(hu:X.A.units+64<cLine):BS X (compareOp .Eq) (DL X.K):=by
 intro pins s σ H x y v u Q I rx ry h
 unfold DL at h
 split at h
 ·rename_i hs
  exact nB pins s σ H x y v u Q I rx ry ⟨hs,h⟩
 ·obtain⟨d,e,rd,re,sd,se,q⟩:=h
  obtain⟨as,ra⟩:=rd.reads I rx
  obtain⟨bs,rb⟩:=re.reads I ry
  exact eq_dataH ra rb sd se hu ⟨.bl _,H,I,rfl,q⟩
theorem P0(hu:X.A.units+64<cLine):BS X (compareOp .NotEq) (FH X.K):=by
 intro pins s σ H x y v u Q I rx ry h
 unfold FH at h
 split at h
 ·rename_i hs
  exact nD pins s σ H x y v u Q I rx ry ⟨hs,h⟩
 ·obtain⟨d,e,rd,re,sd,se,q⟩:=h
  obtain⟨as,ra⟩:=rd.reads I rx
  obtain⟨bs,rb⟩:=re.reads I ry
  exact ne_dataH ra rb sd se hu ⟨.bl _,H,I,rfl,q⟩
def SL(K:W.Frag):R2:=λx y H Q=>∃ a b ys,x=.ref a/\y=.ref b/\SqT K H a []/\SqT K H b ys/\Q (.ref b) H
theorem qD:BS X (binaryOp .Add) (SL X.K):=by
 intro pins s σ H x y v u Q I rx ry h
 obtain⟨a,b,ys,rfl,rfl,ha,hb,q⟩:=h
 cases rx
 cases ry
 obtain⟨its,r1,⟨⟨c1,c2,c3,c4⟩,e1,e2,n1,e3⟩,_⟩:=I.tuple ha
 obtain⟨its2,r2,⟨⟨d1,d2,d3,d4⟩,f1,f2,n2,f3⟩,_⟩:=I.tuple hb
 obtain rfl:c1=_:=e2
 obtain rfl:c3=_:=e3
 obtain rfl:d1=_:=f2
 obtain rfl:d3=_:=f3
 cases r1
 exact concat_meets ⟨_,e1,rfl⟩ ⟨_,f1,rfl⟩ noFill_tuple_add seq_tuple_add PySem.F.slot_tuple_add PySem.F.entry_tuple_add (PySem.F.args_tuple_add_2 _ _) (tuple_addW0 a b #[] its2.toArray n1 n2 c2 d2 c4 d4 rfl) ⟨e1,f1,.ref b,H,I,rfl,q⟩
def BN(K:W.Frag):R2:=λx y H Q=>match x,y with
 | .int i,.int j=>Q (.int (i+j)) H
 | .str i,.str j=>i.length+j.length<=sizeLine/\Q (.str (i++j)) H
 | .ref _,.ref _=>R5 x y H Q\/R0 K x y H Q\/SL K x y H Q
 | _,_=>False
theorem BZ:BS X (binaryOp .Add) (BN X.K):=by
 intro pins s σ H x y v u Q I rx ry h
 cases x<;>cases y<;>simp only[BN]at h
 ·exact mZ pins s σ H _ _ v u Q I rx ry ⟨_,_,rfl,rfl,h⟩
 ·exact nR pins s σ H _ _ v u Q I rx ry ⟨_,_,rfl,rfl,h⟩
 ·rcases h with h | h
  ·exact pH pins s σ H _ _ v u Q I rx ry h
  rcases h with h | h
  ·exact oW pins s σ H _ _ v u Q I rx ry h
  ·exact qD pins s σ H _ _ v u Q I rx ry h
def EQ:R2:=λx y H Q=>match x,y with
 | .int i,.int j=>Q (.bl (decide (i<j))) H
 | .str i,.str j=>Q (.bl (decide (i.cps.toList<j.cps.toList))) H
 | _,_=>False
def DU:R2:=λx y H Q=>match x,y with
 | .int i,.int j=>Q (.bl (decide (i<=j))) H
 | .str i,.str j=>Q (.bl (!decide (j.cps.toList<i.cps.toList))) H
 | _,_=>False
end
end L2
namespace L2
theorem qE:fillsNumberSlot (.type "tuple") "mul"=pure false :=
 PySem.fillsNumberSlot_seq (id:="tuple.__mul__") (r:=some (.builtin "tuple.__rmul__")) F.slot_tuple_mul.lookup (by decide +kernel) F.slot_tuple_rmul.lookup (by decide +kernel)
theorem qF:seqRepeat? (.type "tuple")=pure (some (.builtin "tuple.__mul__")):=by
 unfold seqRepeat?
 rw[PySem.seqSlot_of (T:="tuple") (name:="__mul__") (id:="tuple.__mul__") F.slot_tuple_mul.lookup (by decide +kernel),PySem.seqSlot_of (T:="tuple") (name:="__rmul__") (id:="tuple.__rmul__") F.slot_tuple_rmul.lookup (by decide +kernel)]
 rfl
theorem qG(a:Int)(t:Tok)(l:Addr)(items:Array Value)(dd:Option Addr)(n:Nat)(sl:Array (Option Value)) :
  Meets (Builtin.«int.__rmul__» ⟨[.int a t,.ref l],[]⟩) (λ_ R s=>s.heap.get? l=some ⟨.type "tuple",dd,.seq items n,sl⟩/\R (.ok (.ret Value.notImplemented)) s) :=
 .of_wp λprog w A R s h=>by obtain⟨hp,g,d,tk,os⟩:=s;obtain⟨hl,h⟩:=h;wp_walk;exact⟨_,rfl,h⟩
theorem qH(l:Addr)(items:Array Value)(dd:Option Addr)(n:Nat)(sl:Array (Option Value))(x:Int)(u:Tok)(h1:1<x)(h2:x<2 ^ 63)(hne:items.isEmpty=false)(hz:items.size * x.toNat<=sizeLine) :
  Meets (Builtin.«tuple.__mul__» ⟨[.ref l,.int x u],[]⟩) (λ_ R s=>s.heap.get? l=some ⟨.type "tuple",dd,.seq items n,sl⟩ ∧
   R (.ok (.ret (Value.ref s.heap.objs.size))) { s with heap:=s.heap.push { cls:=Value.type "tuple",data:=Data.seq (List.foldl (λx1 x2=>x1++x2) #[] (List.replicate x.toNat items)) } }) :=
 .of_wp λprog w A R s h=>by
  obtain⟨hp,g,d,tk,os⟩:=s;obtain⟨hl,h⟩:=h
  have hsl:(sizeLine:Nat)<=(2 ^ 63 - 1) / 8:=by decide
  have hlen:(List.foldl (λx1 x2=>x1++x2) #[] (List.replicate x.toNat items)).size<=sizeLine:=by
   have:=PK items.toList x.toNat []
   simp only[List.nil_append,Array.toArray_toList]at this
   rw[this]
   simp only[List.size_toArray,List.length_flatten,List.map_replicate,List.sum_replicate_nat,Array.length_toList]
   rw[Nat.mul_comm];exact hz
  have hx:∃ N:Nat,(items.size:Int) * x=(N:Int)/\N<=sizeLine:=⟨items.size * x.toNat,by rw[Int.natCast_mul,Int.toNat_of_nonneg (by omega)],hz⟩
  obtain⟨N,hx,hN⟩:=hx
  unfold Builtin.«tuple.__mul__»
  wp_walk
  refine wpAny_ite_false (by simp;omega) ?_
  wp_walk
  refine wpAny_ite_false (by simp only[hne,Bool.false_or];simp;omega) ?_
  refine wpAny_ite_false (by simp only[hne,Bool.or_false];simp;omega) ?_
  refine wpAny_ite_false (by rw[hx];exact decide_eq_false (by omega)) ?_
  refine wpAny_ite_false (by rw[hx];unfold Builtin.Tuple.tupleTooMany;simp;omega) ?_
  wp_walk
  exact⟨_,rfl,h⟩
theorem qI(l:Addr)(items:Array Value)(dd:Option Addr)(n:Nat)(sl:Array (Option Value))(u:Tok) :
  Meets (Builtin.«tuple.__mul__» ⟨[.ref l,.int 1 u],[]⟩) (λ_ R s=>s.heap.get? l=some ⟨.type "tuple",dd,.seq items n,sl⟩/\R (.ok (.ret (Value.ref l))) s) :=
 .of_wp λprog w A R s h=>by
  obtain⟨hp,g,d,tk,os⟩:=s;obtain⟨hl,h⟩:=h
  unfold Builtin.«tuple.__mul__»
  wp_walk
  exact⟨_,rfl,h⟩
def SN(K:W.Frag):R2:=λx y H Q=>∃ a k xs,x=.ref a/\y=.int k/\SqT K H a xs/\xs≠[]/\1<=k/\k<2 ^ 63/\xs.length * k.toNat<=sizeLine ∧
 (k=1->Q (.ref a) H)/\(k≠1->∀ p,H p=none->Q (.ref p) (upd H p (.tup (List.replicate k.toNat xs).flatten)))
section
variable{X:Cx}
theorem Inv.tnew{pins:List (Addr × Obj)}{σ:St}{H:Hp}{s:Shared}{ys:List V}{its:List Value}(I:Inv X pins σ H s)(hv:Vals ys its)(hz:ys.length<=sizeLine) :
  Inv X pins σ (upd H s.heap.objs.size (.tup ys)) { s with heap:=s.heap.push { cls:=.type "tuple",data:=.seq its.toArray } } :=
 I.laid (t':=s.toks) (λ_ _ q=>Heap.get?_push_of_some _ q) (Nat.le_refl _) ⟨hz,its,hv,_,Heap.get?_push_size _ rfl,rfl,0,rfl⟩
theorem qJ:BS X (binaryOp .Mult) (SN X.K):=by
 intro pins s σ H x y v u Q I rx ry h
 obtain⟨a,k,xs,rfl,rfl,hx,hne,h1,h2,hz,q1,q2⟩:=h
 cases rx
 obtain⟨t,rfl⟩:=ry
 obtain⟨its,r,⟨⟨c1,c2,c3,c4⟩,e1,e2,n,e3⟩,_⟩:=I.tuple hx
 obtain rfl:c1=_:=e2
 obtain rfl:c3=_:=e3
 have hl:=r.length
 have he:its.toArray.isEmpty=false:=by
  cases its with
  | nil=>exact absurd (List.length_eq_zero_iff.mp hl) hne
  | cons b t=>rfl
 refine wpAny_binaryOp_repeat_ref (T:="tuple") (U:="int") (by decide) ⟨_,e1,rfl⟩ (λs'=>typeIs_int s' k t) qE F.fills_int_mul F.slot_int_rmul qF F.slot_int_index.lookup
  (call_meets F.slot_int_rmul (typeIs_int s k t) F.entry_int_rmul (F.args_int_rmul_2 _ _) (qG k t a its.toArray c2 n c4) ⟨e1,rfl,⟨_,e1,rfl⟩,?_⟩)
 by_cases hk:k=1
 ·subst hk
  exact call_meets F.slot_tuple_mul ⟨_,e1,rfl⟩ F.entry_tuple_mul (F.args_tuple_mul_2 _ _) (qI a its.toArray c2 n c4 t) ⟨e1,.ref a,H,I,rfl,q1 rfl⟩
 ·refine call_meets F.slot_tuple_mul ⟨_,e1,rfl⟩ F.entry_tuple_mul (F.args_tuple_mul_2 _ _) (qH a its.toArray c2 n c4 k t (by omega) h2 he (by rw[List.size_toArray,<-hl];exact hz)) ⟨e1,?_⟩
  have f0:=PK its k.toNat []
  rw[List.nil_append]at f0
  rw[f0]
  exact⟨.ref _,_,I.tnew (r.rep k.toNat) (by rw[YI,Nat.mul_comm];exact hz),rfl,q2 hk _ I.fresh⟩
abbrev P4:R2:=GF λi j=>.int (i - j)
abbrev CH:R2:=rI (λ_ j=>0<j) λi j=>.int (i % j)
abbrev CT:R2:=rI XM λi j=>.int (i / j)
abbrev qK:R2:=rI mY λi j=>.int (i ^ j.toNat)
abbrev SO:V->Hp->VK->Prop:=rU λi=>.int (-i)
abbrev qL:XF:=mP λi j=>i+j
def P5(z:Str)(k:Int):Str:=if k<1 then Str.empty else if(k == 1 || z.length == 0)=true then z else⟨(List.replicate k.toNat z.cps).foldl (· ++·) #[]⟩
theorem qM(z:Str)(k:Nat):(Str.mk ((List.replicate k z.cps).foldl (· ++·) #[])).length=k * z.length:=by
 have e:∀ (m:Nat) (acc:Array Nat),((List.replicate m z.cps).foldl (· ++·) acc).size=acc.size+m * z.cps.size:=λm=>by
  induction m with
  | zero=>intro acc;simp
  | succ m ih=>intro acc;rw[List.replicate_succ,List.foldl_cons,ih,Array.size_append,Nat.succ_mul];omega
 have:=e k #[]
 simpa [Str.length]using this
def qN:R2:=λx y H Q=>∃ z k,x=.str z/\y=.int k/\0<=k/\k<=1000/\z.length<=1000/\Q (.str (P5 z k)) H
theorem qO:BS X (binaryOp .Mult) qN:=by
 intro pins s σ H x y v u Q I rx ry h
 obtain⟨z,k,rfl,rfl,h1,h2,h3,q⟩:=h
 obtain⟨t,rfl⟩:=rx
 obtain⟨t',rfl⟩:=ry
 refine PySem.P.mul_str (by simp;omega) (λa _=> ?_) (λa _=> ?_) ?_
 ·have:(1000:Int)<=(2 ^ 63 - 1) / k:=(Int.le_ediv_iff_mul_le (by omega)).mpr (by omega)
  omega
 ·have h4:z.length * k.toNat<=1000 * 1000:=Nat.mul_le_mul h3 (by omega)
  have h5:(1000 * 1000:Nat)<=sizeLine:=by decide
  unfold Builtin.Str.tooLong
  exact decide_eq_false (by omega)
 ·unfold P5 at q
  split
  ·rename_i c
   rw[if_pos c]at q
   exact⟨by show(0:Nat)<=sizeLine;omega,.str _,H,I.tok _,⟨_,rfl⟩,q⟩
  ·rename_i c
   rw[if_neg c]at q
   split
   ·rename_i d
    rw[if_pos d]at q
    exact⟨.str _,H,I,⟨_,rfl⟩,q⟩
   ·rename_i d
    rw[if_neg d]at q
    exact⟨by rw[qM];have:=Nat.mul_le_mul (show k.toNat<=1000 by omega) h3;show _<=2 ^ 24;omega,.str _,H,I.tok _,⟨_,rfl⟩,q⟩
def D8(K:W.Frag):R2:=λx y H Q=>match x,y with
 | .int i,.int j=>CMul i j/\Q (.int (i * j)) H
 | .str z,.int k=>0<=k/\k<=1000/\z.length<=1000/\Q (.str (P5 z k)) H
 | .ref _,.int _=>R6 x y H Q\/SN K x y H Q
 | _,_=>False
theorem FY:BS X (binaryOp .Mult) (D8 X.K):=by
 intro pins s σ H x y v u Q I rx ry h
 cases x<;>cases y<;>simp only[D8]at h
 ·exact m6 pins s σ H _ _ v u Q I rx ry ⟨_,_,rfl,rfl,h⟩
 ·exact qO pins s σ H _ _ v u Q I rx ry ⟨_,_,rfl,rfl,h⟩
 ·rcases h with h | h
  ·exact pI pins s σ H _ _ v u Q I rx ry h
  ·exact qJ pins s σ H _ _ v u Q I rx ry h
def P6:R2:=λx y H Q=>match x,y with
 | .int i,.int j=>Q (.bl (decide (j<i))) H
 | _,_=>False
theorem GI:BS X (compareOp .Lt) EQ:=by
 intro pins s σ H x y v u Q I rx ry h
 cases x<;>cases y<;>simp only[EQ]at h
 ·exact nE pins s σ H _ _ v u Q I rx ry ⟨_,_,rfl,rfl,h⟩
 ·obtain⟨t,rfl⟩:=rx
  obtain⟨t',rfl⟩:=ry
  exact PySem.P.lt_str ⟨.bl _,H,I,rfl,h⟩
theorem ER:BS X (compareOp .LtE) DU:=by
 intro pins s σ H x y v u Q I rx ry h
 cases x<;>cases y<;>simp only[DU]at h
 ·exact nF pins s σ H _ _ v u Q I rx ry ⟨_,_,rfl,rfl,h⟩
 ·obtain⟨t,rfl⟩:=rx
  obtain⟨t',rfl⟩:=ry
  exact PySem.P.le_str ⟨.bl _,H,I,rfl,h⟩
theorem qP:BS X (compareOp .Gt) P6:=by
 intro pins s σ H x y v u Q I rx ry h
 cases x<;>cases y<;>simp only[P6]at h
 exact nH pins s σ H _ _ v u Q I rx ry ⟨_,_,rfl,rfl,h⟩
abbrev KF:R2:=λx y H Q=>y=.non/\Q (.bl (decide (x=.non))) H
abbrev KG:R2:=λx y H Q=>y=.non/\Q (.bl (!decide (x=.non))) H
variable{a:Expr}{ta:TE}{tA:TT}{pos:Pos}
abbrev KH(K:W.Frag)(ta:TE):TT:=λσ H Q=>ta σ H λx H'=>∃ k,J7 K x H' k/\Q k H'
def BE(K:W.Frag):R2:=X9 K
theorem BK:IxR X (BE X.K):=o1
def qQ:V->Option Int->Option Int->Hp->VK->Prop:=λx lo hi H Q=>∃ z,x=.str z/\z.length<=sizeLine/\Q (.str (Txt.slice z lo hi)) H
theorem Y2{v:Value}{lo:Option Int}(p:IsPart v lo):∃ l:Option (Int × Tok),v=partValue l/\l.map (·.1)=lo:=by
 cases p with
 | none=>exact⟨none,rfl,rfl⟩
 | int i t=>exact⟨some (i,t),rfl,rfl⟩
theorem qR:SlR X qQ:=by
 intro pins s σ H x v vl vu lo hi sl Q I rx hs pl pu h
 obtain⟨z,rfl,hz,q⟩:=h
 obtain⟨t,rfl⟩:=rx
 obtain⟨l,rfl,rfl⟩:=Y2 pl
 obtain⟨u,rfl,rfl⟩:=Y2 pu
 refine⟨"str",_,PySem.F.slot_str_getitem.lookup,typeIs_str _ _ _,?_⟩
 exact wpAny_getItem_str_slice (l:=l) (u:=u) (st:=none) hs rfl (post_val_or_str ⟨Nat.le_trans (Txt.slice_le z _ _) hz,λt' k=>⟨.str _,H,I.tok k,⟨t',rfl⟩,q⟩⟩)
def HL(K:W.Frag):V->Option Int->Option Int->Hp->VK->Prop:=λx lo hi H Q=>match x with
 | .str z=>z.length<=sizeLine/\Q (.str (Txt.slice z lo hi)) H
 | _=>YB K x lo hi H Q\/X5 K x lo hi H Q
theorem M8:SlR X (HL X.K):=by
 intro pins s σ H x v vl vu lo hi sl Q I rx hs pl pu h
 cases x<;>first
  | exact qR pins s σ H _ v vl vu lo hi sl Q I rx hs pl pu ⟨_,rfl,h⟩
  | exact(SlR.or o8 oV) pins s σ H _ v vl vu lo hi sl Q I rx hs pl pu h
abbrev Y3:V->V->V->Hp->(Hp->Prop)->Prop:=YA
theorem qS:RQ X Y3:=o5
def FI(K:W.Frag)(tl:TE):TI:=λσ H R=>tl σ H λx H1=>∃ a,x=.ref a/\(((∃ xs,SqL K H1 a xs)/\R (FS K a) H1)\/((∃ xs,SqT K H1 a xs)/\R (ML K a) H1))
def D9(K:W.Frag):List V->Hp->VK->Prop:=λxs H Q=>∃ x n,xs=[x]/\RX K x H n/\Q (.int n) H
theorem E3:DJ X (.builtin "len") (D9 X.K):=nT
def M9(K:W.Frag):List V->Hp->VK->Prop:=λxs H Q=>∃ p ys,xs=[.ref p]/\(SqL K H p ys\/SqT K H p ys)/\∀ l,H l=none->Q (.ref l) (upd H l (.lst ys))
theorem Y4:DJ X (.type "list") (M9 X.K):=pC
def NA(K:W.Frag):List V->Hp->VK->Prop:=λxs H Q=>∃ p ys,xs=[.ref p]/\((SqL K H p ys/\∀ l,H l=none->Q (.ref l) (upd H l (.tup ys)))\/(SqT K H p ys/\Q (.ref p) H))
theorem Y5:DJ X (.type "tuple") (NA X.K):=pD
abbrev HM:=YG
end
end L2
namespace L2
section
variable{X:Cx}{tg a:Expr}{ta:TE}{pos:Pos}
theorem G1{l:Expr}{tl:TE}(hl:PE X l tl):PI X tg l (FI X.K tl):=by
 intro pins s σ H R I h
 refine AT (hl pins s σ H _ I h) λv s1 ⟨x,H1,I1,r1,q1⟩=> ?_
 obtain⟨a,e,q1⟩:=q1
 subst e
 cases r1
 have fp1:∀ b∈[s1.heap.objs.size],FpOk X pins H1 b:=λb hb=>by
  have e:b=s1.heap.objs.size:=by simpa using hb
  subst e
  exact I1.fpOk (Nat.le_refl _) (I1.hok.fresh (Nat.le_refl _))
 rcases q1 with⟨⟨xs,hq⟩,q⟩ | ⟨⟨xs,hq⟩,q⟩
 ·obtain⟨its,rv,p,hz⟩:=I1.list hq
  refine wpAny_pyIter_list p.isList ?_
  exact⟨s1.heap.objs.size,[s1.heap.objs.size],_,_,H1,rfl,I1.kept (t':=s1.toks) λb o e=>Heap.get?_push_of_some _ e,mQ a _,⟨_,Heap.get?_push_size _ rfl,rfl,rfl⟩,fp1,q⟩
 ·obtain⟨its,rv,p,hz⟩:=I1.tuple hq
  refine wpAny_pyIter_tuple (show s1.heap.IsTuple a its.toArray from p) ?_
  exact⟨s1.heap.objs.size,[s1.heap.objs.size],_,_,H1,rfl,I1.kept (t':=s1.toks) λb o e=>Heap.get?_push_of_some _ e,mR a _,⟨_,Heap.get?_push_size _ rfl,rfl,rfl⟩,fp1,q⟩
end
def Y6(scope outer:Scope)(N cn:List Str)(cap:List Nat):Bool :=
 scope.kind == .function && scope.names.all (λy=>y.2 != .cell) && scope.names.all (λy=>y.2 != .local || scope.names.lookup y.1 == some .local) &&
 scope.names.all (λy=>y.2 != .free || outer.names.lookup y.1 == some .cell || outer.names.lookup y.1 == some .free) && cn.all (λx=>scope.names.lookup x == some .free) && (cap.map (λi=>N[i]?) == cn.map some)
theorem EA{X:Cx}{scope outer:Scope}{N tn cn:List Str}{cap:List Nat}(h1:X.env.scope=outer)(h2:X.N=N)(h:Y6 scope outer N cn cap=true):KC X scope tn cn cap:=by
 unfold Y6 at h
 simp only[Bool.and_eq_true,List.all_eq_true,Bool.or_eq_true,bne_iff_ne,beq_iff_eq]at h
 obtain⟨⟨⟨⟨⟨k1,k2⟩,k3⟩,k4⟩,k5⟩,k6⟩:=h
 refine⟨k1,k2,λy hy hl=>(k3 y hy).resolve_left λz=>z hl,λy hy hf=> ?_,k5,by rw[h2];exact k6⟩
 have z:=k4 y hy
 show X.env.scope.names.lookup y.1=_\/X.env.scope.names.lookup y.1=_
 rw[h1]
 rcases z with(z | z) | z
 ·exact absurd hf z
 ·exact .inl z
 ·exact .inr z
structure P7(K:W.Frag)(C:Addr):Prop where
 ga:W.findIn K (.ref C) "__getattribute__"=some (some (.builtin "BaseException.__getattribute__"))
 gt:W.findIn K (.ref C) "__getattr__"=some none
 be:W.mroIn K C (.type "BaseException")=some true
 cl:W.isClsIn K C=true
 ha:W.findIn K (.ref C) "__class__"=some (some (.builtin "object.__class__"))
 hn:W.specialIn K (.builtin "object.__class__") "__get__"=some (some (.builtin "getset_descriptor.__get__"))
 tk:W.takesIn K (.builtin "object.__class__")=some true
 mr:W.mroIn K C (.type "object")=some true
theorem qT{K:W.Frag}{C:Addr}{od:Option Obj}{name:Str}{a g:Value}(hc:(W.clsIn K C).isSome=true)(ha:W.findIn K (.ref C) name=some (some a))(hg:W.specialIn K a "__get__"=some (some g))(ht:W.takesIn K a=some true) :
  W.findObj K C od name=some (.bind g a):=by
 obtain⟨cd,hc⟩:=Option.isSome_iff_exists.mp hc
 unfold W.findObj
 rw[hc,Option.bind_some,ha,Option.bind_some]
 simp[hg,ht]
theorem qU{K:W.Frag}{M:Model}{A:Around}{E:Value->Shared->Prop}{Q:Unit->Shared->Prop}{s:Shared}{x D:Addr}{ox:Obj}{nm:Value}(c:P7 K D)(X:K.In s.heap)(I:W.InstAt s.heap x ox D none)(k:Q () s) :
  wpAny M A (checkBuiltinCall "BaseException.__getattribute__" ⟨[.ref x,nm],[]⟩) Q E s:=by
 have e1:builtinKind "BaseException.__getattribute__"=some .slot:=by decide +kernel
 have e2:splitId "BaseException.__getattribute__"=some ("BaseException","__getattribute__"):=by decide +kernel
 have L:W.Looks M s.heap (isInstance (.ref x) (.type "BaseException")) true:=(I.type (M:=M)).andThen (W.looks_mroIn (M:=M) X c.be)
 have ar:=PySem.F.args_bexc_ga (.ref x) nm
 obtain⟨hh,g,d,t,os⟩:=s
 simp only[checkBuiltinCall,e1,e2]
 refine wpAny_bind (L.at ?_)
 simp only[Bool.not_true,Bool.false_eq_true,if_false]
 cases hs:Manifest.signature? "BaseException.__getattribute__" with
 | none=>exact wpAny_pure k
 | some sig =>
  simp only[argsOk,hs]at ar
  have z:Bind.checkArgs "BaseException.__getattribute__" sig ⟨[.ref x,nm],[]⟩=pure ():=ar
  show wpAny M A (Bind.checkArgs "BaseException.__getattribute__" sig ⟨[.ref x,nm],[]⟩) Q E _
  rw[z];exact wpAny_pure k
theorem qV{K:W.Frag}{prog:Program}{w:World}{A:Around}{E:Value->Shared->Prop}{Q:Option Value->Shared->Prop}{s:Shared}{x D:Addr}{ox:Obj}(c:P7 K D)(X:K.In s.heap)(I:W.InstAt s.heap x ox D none)
  (k:Q (some (.ref D)) { s with toks:=s.toks+1 }):wpAny (model prog w) A (getAttr? (.ref x) "__class__") Q E s:=by
 obtain⟨hh,g,d,t,os⟩:=s
 have L0:=I.type (M:=model prog w)
 have L1:=W.looks_findIn (M:=model prog w) X c.ga
 have L2:=W.looks_findIn (M:=model prog w) X c.gt
 have L3:=W.looks_find (M:=model prog w) X I (qT (name:="__class__") c.cl c.ha c.hn c.tk)
 unfold getAttr? getAttrBy? getAttrBy
 refine wpAny_bind (wpAny_mkText (wpAny_bind (wpAny_attempt (wpAny_holding (wpAny_bind (L0.at (wpAny_bind (L1.at ?_))))))))
 show wpAny _ _ (getAttrByItsOwn _ _ _ _ _ _) _ _ _
 unfold getAttrByItsOwn
 refine wpAny_bind (L2.at (wpAny_bind (wpAny_attempt (wpAny_holding ?_))))
 show wpAny _ _ (boundAndCalled _ _ _) _ _ _
 unfold boundAndCalled
 rw[PySem.F.attr_ValueError.ga.bind (.ref x)]
 refine wpAny_bind (wpAny_pure (wpAny_call (codeAny_call_builtin PySem.F.attr_ValueError.ga.plain PySem.F.entry_bexc_ga (qU c X I ?_))))
 refine wpAny_bind (wpAny_pure (wpAny_bind (wpAny_pure (wpAny_bind (L0.at (wpAny_bind (L3.at ?_)))))))
 show wpAny _ _ (holding [_] (call _ _) >>= ret) _ _ _
 refine wpAny_bind (wpAny_holding (wpAny_call (W.class_get (ox:=ox) (od:=none) X I c.mr (wpAny_pure ?_))))
 exact W.handed_on rfl (wpAny_pure k)
theorem qW{K:W.Frag}{x D:Addr}(c:P7 K D):W.KitX K (.ref x) (.ref D) (M5 x (.ref D)):=by
 have inst:∀ {h:Heap},M5 x (.ref D) h->∃ ox,W.InstAt h x ox D none:=λ{h} ⟨oe,vs,e1,e2,e3,e4⟩=>by
  refine⟨oe,e1,e2,?_,?_⟩
  ·unfold W.notCls;rw[e4]
  ·rw[e3];trivial
 have cls:∃ cd,W.clsIn K D=some cd:=Option.isSome_iff_exists.mp c.cl
 refine⟨λM h _ p=>(inst p).elim λ_ I=>I.type,λM h X p=> ?_,λh tp dd its n sl X htp=> ?_,λ{prog w A E Q s} X p k=> ?_⟩
 ·obtain⟨cd,hc⟩:=cls
  unfold W.clsIn at hc
  split at hc
  ·rename_i c' d' cd' sl' ho
   intro A' Q' E' s' k q
   unfold isType loadHead
   exact wpAny_bind (wpAny_loadPart (k _ _ (X _ _ ho)) (wpAny_pure q))
  ·cases hc
 ·obtain⟨cd,hc⟩:=cls
  refine Bool.eq_false_iff.mpr λq=> ?_
  have e:D=tp:=Value.ref.inj (beq_iff_eq.mp q)
  subst e
  unfold W.clsIn at hc
  split at hc
  ·rename_i c' d' cd' sl' ho
   have z:=(X _ _ ho).symm.trans htp
   cases z
  ·cases hc
 ·obtain⟨ox,I⟩:=inst p
  exact qV c X I k
def TyX(K:W.Frag)(H:Hp)(x:V)(t:Value):Prop:=FB K H x t\/∃ a C,x=.ref a/\t=.ref C/\H a=some (.ext (M5 a (.ref C)))/\P7 K C
inductive ClsV:V->Value->Prop
 | own (C:Addr):ClsV (.ref C) (.ref C)
 | ty (n:String):ClsV (.ty n) (.type n)
theorem ClsV.rel{y:V}{c u:Value}(h:ClsV y c)(r:RelV y u):u=c:=by
 cases h<;>exact r
theorem Y7:∀ {ys:List V} {cs us:List Value},Paired ClsV ys cs->Vals ys us->us=cs
 | _,_,_,.nil,.nil=>rfl
 | _,_,_,.cons h t,.cons r rr=>by rw[h.rel r,Y7 t rr]
def P8(K:W.Frag):List V->Hp->VK->Prop:=λxs H Q=>∃ x y t b,xs=[x,y]/\TyX K H x t ∧
 ((∃ c,ClsV y c/\W.kitOne K t c=some b)\/∃ p ys cs,y=.ref p/\SqT K H p ys/\Paired ClsV ys cs/\W.kitAny K t cs=some b)/\Q (.bl b) H
section
variable{X:Cx}
theorem TyX.kit{pins:List (Addr × Obj)}{σ:St}{H:Hp}{s:Shared}{x:V}{t u:Value}(I:Inv X pins σ H s)(h:TyX X.K H x t)(r:RelV x u):∃ φ :Heap->Prop,W.KitX X.K u t φ /\ φ s.heap/\u≠.builtin "__main__.__loader__#opaque":=by
 rcases h with h | ⟨a,C,rfl,rfl,e,c⟩
 ·cases h with
  | non=>cases (show u=Value.none from r);exact⟨_,W.kitx_none,trivial,λz=>nomatch z⟩
  | bl y=>cases (show u=Value.bool y from r);exact⟨_,W.kitx_bool,trivial,λz=>nomatch z⟩
  | int i=>obtain⟨t,q⟩:=(show ∃ t,u=Value.int i t from r);cases q;exact⟨_,W.kitx_int,trivial,λz=>nomatch z⟩
  | str y=>obtain⟨t,q⟩:=(show ∃ t,u=Value.str y t from r);cases q;exact⟨_,W.kitx_str,trivial,λz=>nomatch z⟩
  | flt y=>obtain⟨t,q⟩:=(show ∃ t,u=Value.float y t from r);cases q;exact⟨_,W.kitx_float,trivial,λz=>nomatch z⟩
  | @lst a xs ea =>
   cases (show u=Value.ref a from r)
   obtain⟨_,_,n,_,h1⟩:=(show ObjOk X.prog X.w H s.heap a (.lst xs)from I.hok a _ ea)
   exact⟨_,W.kitx_list,⟨_,h1,rfl⟩,λz=>nomatch z⟩
  | @frz a ob xs ea =>
   cases (show u=Value.ref a from r)
   obtain⟨_,_,_,n,_,h1⟩:=(show ObjOk X.prog X.w H s.heap a (.frz ob (.lst xs))from I.hok a _ ea)
   exact⟨_,W.kitx_list,⟨_,h1,rfl⟩,λz=>nomatch z⟩
  | @tup a xs ea =>
   cases (show u=Value.ref a from r)
   obtain⟨_,_,_,p⟩:=(show ObjOk X.prog X.w H s.heap a (.tup xs)from I.hok a _ ea)
   obtain⟨o,h1,h2,_⟩:=p
   exact⟨_,W.kitx_tuple,⟨o,h1,h2⟩,λz=>nomatch z⟩
  | @dK a kvs ea =>
   cases (show u=Value.ref a from r)
   obtain⟨_,_,vs,_,p⟩:=(show ObjOk X.prog X.w H s.heap a (.dK kvs)from I.hok a _ ea)
   obtain⟨o,es,ep,h1,h2,_⟩:=p
   exact⟨_,W.kitx_dict,⟨o,h1,h2.1⟩,λz=>nomatch z⟩
  | @dT a kvs ea =>
   cases (show u=Value.ref a from r)
   obtain⟨_,_,xs,_,o,es,ep,h1,h2,_⟩:=(show ObjOk X.prog X.w H s.heap a (.dT kvs)from I.hok a _ ea)
   exact⟨_,W.kitx_dict,⟨o,h1,h2.1⟩,λz=>nomatch z⟩
  | @ins a C dx fs ea cl ha hn htk hm =>
   cases (show u=Value.ref a from r)
   obtain⟨mA,O,_⟩:=PB I.hok ea
   obtain⟨od,J,_⟩:=O.look
   exact⟨_,W.kitx_own (cl.get _) cl.hd ha hn htk hm,J,λz=>nomatch z⟩
 ·cases (show u=Value.ref a from r)
  have p:M5 a (.ref C) s.heap:=(show ObjOk X.prog X.w H s.heap a (.ext (M5 a (.ref C)))from I.hok a _ e).1
  exact⟨_,qW c,p,λz=>nomatch z⟩
theorem Y8:DJ X (.builtin "isinstance") (P8 X.K):=by
 intro pins s σ H xs us Q I r h
 obtain⟨x,y,t,b,rfl,ty,hc,q⟩:=h
 obtain⟨u,v,rfl,rx,ry⟩:=Vals.two r
 obtain⟨φ,Z,p,ne⟩:=ty.kit I rx
 rcases hc with⟨c,hy,e⟩ | ⟨pt,ys,cs,rfl,hs,hcs,e⟩
 ·have:=hy.rel ry
  subst this
  exact W.kia_one Z I.kIn p e ne λtk=>⟨.bl b,H,I.tok tk,rfl,q⟩
 ·cases (show v=Value.ref pt from ry)
  obtain⟨its,rv,⟨⟨c1,c2,c3,c4⟩,e1,e2,n,e3⟩,_⟩:=I.tuple hs
  obtain rfl:c1=_:=e2
  obtain rfl:c3=_:=e3
  have:=Y7 hcs rv
  subst this
  exact W.kia_tup Z I.kIn p e1 e ne λtk=>⟨.bl b,H,I.tok tk,rfl,q⟩
end
end L2
namespace L2
def EG(J:It)(g:TG)(tt:TT)(te:TE)(k:Nat)(cap:List Nat)(σ:St)(H1:Hp)(Q:VK):Prop :=
 ∃ W:Nat->Nat->St->List V->Hp->Prop,(∃ m,W 0 m (GZ k cap σ) [] H1)/\∀ i m σ' ys H,W i m σ' ys H →
  (J.stop i H/\∀ p,H p=none->Q (.ref p) (upd H p (.lst ys))) ∨
  (J.go i H/\ys.length<sizeLine/\∀ x H',J.yld i H x H'->g x σ' H' λσ2 H2=>tt σ2 H2 λb H3 =>
   if b=true then ∃ N:VK,(∀ y H4,N y H4->∃ m',m'<m/\W (i+1) m' σ2 (ys++[y]) H4)/\te σ2 H3 N else ∃ m',m'<m/\W (i+1) m' σ2 ys H3)
def II(J:It)(g:TG)(tb:TS)(D:Ends)(σ:St)(H1:Hp):Prop :=
 ∃ W:Nat->Nat->St->Hp->Prop,(∃ m,W 0 m σ H1)/\∀ i m σ H,W i m σ H →
  (J.stop i H/\D.nx σ H)\/(J.go i H/\∃ N:St->Hp->Prop,(∀ σ' H',N σ' H'->∃ m',m'<m/\W (i+1) m' σ' H')/\∀ x H',J.yld i H x H'->g x σ H' λσ2 H2=>tb { D with nx:=N,ct:=N,bk:=D.nx } σ2 H2)
section
variable{K:W.Frag}{ta tb tc to ti tv tl:TE}{tt tA tB' tu:TT}{s1 s2:TS}{r r':R2}{σ:St}{H:Hp}{Q:VK}{D:Ends}{QB:Bool->Hp->Prop}{as:TA}{g:TG}{gs:HF}{te:TE}{k i:Nat}{cap:List Nat}{f m:Str}{C:Addr}{sp:Sp}{dvs:List V}{E:St->XK}{v:V}{vs:List V}{QA:List V->Hp->Prop}{QG:St->Hp->Prop}{QO:Option Int->Hp->Prop}
theorem qX:AL s1 s2 D σ H=(s1 { D with nx:=s2 D } σ H):=rfl
theorem qY:BY D σ H=(D.nx σ H):=rfl
theorem qZ:AZ ta g D σ H=(ta σ H λx H1=>g x σ H1 D.nx):=rfl
theorem rA:C5 ta D σ H=(ta σ H λ_ H1=>D.nx σ H1):=rfl
theorem rB:A0 ta D σ H=(ta σ H D.rt):=rfl
theorem rC:BP tt s1 s2 D σ H=(tt σ H λb H1=>if b=true then s1 D σ H1 else s2 D σ H1):=rfl
theorem rD:tC v σ H Q=(Q v H):=rfl
theorem rE:AH r ta tb σ H Q=(ta σ H λx H1=>tb σ H1 λy H2=>r x y H2 Q):=rfl
theorem rF:BU ta σ H QB=(ta σ H λx H'=>∃ k,x=.bl k/\QB k H'):=rfl
theorem rG:EV r r' ta tb tc σ H Q=(ta σ H λx H1=>tb σ H1 λy H2=>r x y H2 λz H3=>∃ k,z=.bl k/\(if k=true then tc σ H3 λw' H4=>r' y w' H4 Q else Q (.bl false) H3)):=rfl
theorem rH:EU tt σ H QB=(tt σ H λc H1=>QB (!c) H1):=rfl
theorem rJ:RN tt tu σ H QB=(tt σ H λc H1=>if c=true then tu σ H1 QB else QB false H1):=rfl
theorem rK:J3 tt tu σ H QB=(tt σ H λc H1=>if c=true then QB true H1 else tu σ H1 QB):=rfl
theorem rM:MI ta tb σ H Q=(ta σ H λx H1=>∃ c,x=.bl c/\if c=true then tb σ H1 Q else Q (.bl false) H1):=rfl
theorem rN:KH K ta σ H QB=(ta σ H λx H'=>∃ k,J7 K x H' k/\QB k H'):=rfl
theorem rO:AF σ H QA=(QA [] H):=rfl
theorem rP:AC ta as σ H QA=(ta σ H λx H1=>as σ H1 λxs H2=>QA (x::xs) H2):=rfl
theorem rQ:EE as σ H Q=(as σ H λxs H1=>xs.length<=sizeLine/\∀ p,H1 p=none->Q (.ref p) (upd H1 p (.tup xs))):=rfl
theorem rR:B2 as σ H Q=(as σ H λxs H1=>xs.length<=sizeLine/\∀ p,H1 p=none->Q (.ref p) (upd H1 p (.lst xs))):=rfl
theorem rS:CQ sp dvs E as σ H Q=(as σ H λvs H1=>sp (vs++dvs) H1 Q (E σ)):=rfl
theorem rT:AW C m sp dvs E ta as σ H Q=(ta σ H λx H1=>∃ a dx fs,x=.ref a/\H1 a=some (.ins C dx fs)/\fs.lookup m=none/\as σ H1 λvs H2=>sp (x::(vs++dvs)) H2 Q (E σ)):=rfl
theorem rV:HI C sp dvs E as σ H Q=(as σ H λvs H1=>∀ x dx,H1 x=none->H1 dx=none->dx≠x->sp (.ref x::(vs++dvs)) (upd (upd H1 dx (.own x)) x (.ins C dx [])) (λv H2=>v=.non/\Q (.ref x) H2) (E σ)):=rfl
theorem rW:A1 K ta f σ H Q=(ta σ H λx H1=>∃ a C dx fs v,x=.ref a/\H1 a=some (.ins C dx fs)/\Cls K C/\NoAttr K C f/\fs.lookup f=some v/\Q v H1):=rfl
theorem rX:DG K ta tv f D σ H=(tv σ H λy H1=>ta σ H1 λx H2=>∃ a C dx fs,x=.ref a/\H2 a=some (.ins C dx fs)/\Cls K C/\NoAttr K C f/\fs.length<1000/\D.nx σ (upd H2 a (.ins C dx (A6 f y fs)))):=rfl
theorem rY{ru:V->Hp->VK->Prop}:O5 ru ta σ H Q=ta σ H λx H1=>ru x H1 Q:=rfl
theorem rZ{rc:List V->Hp->VK->Prop}:CC rc as σ H Q=as σ H λvs H1=>rc vs H1 Q:=rfl
theorem r8:FX C E as D σ H=(as σ H λvs H1=>vs.length<=sizeLine/\E σ (.ref C) none H1):=rfl
theorem sA{sb:(St->XK)->TS}{th:TH}:PZ sb th D σ H=sb (λσ' cls _ H'=>th cls D σ' H') D σ H:=rfl
theorem sB:AR i v σ H QG=(QG (σ.set i (some v)) H):=rfl
theorem sC{rs:OY}:RR to ti rs v σ H QG=to σ H λo H1=>ti σ H1 λi H2=>rs o i v H2 λH3=>QG σ H3:=rfl
theorem sE:O3 K k gs v σ H QG=(∃ a xs,v=.ref a/\SqT K H a xs/\xs.length=k/\gs xs σ H QG):=rfl
theorem sF:OZ vs σ H QG=((vs=[]/\QG σ H)):=rfl
theorem sG:J4 g gs vs σ H QG=(∃ v r,vs=v::r/\g v σ H λσ' H'=>gs r σ' H' QG):=rfl
theorem sI{rs:V->Option Int->Option Int->Hp->VK->Prop}{ol oh:TO}:IB rs ta ol oh σ H Q=ta σ H λx H1=>ol σ H1 λl H2=>oh σ H2 λu H3=>rs x l u H3 Q:=rfl
theorem sJ:H0 σ H QO=(QO none H):=rfl
theorem sK:IA ta σ H QO=(ta σ H λx H1=>∃ i,x=.int i/\QO (some i) H1):=rfl
theorem sL{T:String}{rm:V->List V->Hp->VK->Prop}:EY K T rm ta as σ H Q=ta σ H λx H1=>MW K T x H1/\as σ H1 λxs H2=>rm x xs H2 Q:=rfl
theorem sM{T:String}{rm:V->List V->Hp->VK->Prop}:R4 K T rm ta σ H Q=ta σ H λx H1=>MW K T x H1/\rm x [] H1 Q:=rfl
theorem sN:CM σ H QB=(QB true H):=rfl
theorem sO:DH (FU as) g tt te k cap σ H Q=(as σ H λvs H1=>∃ j:Int,vs=[.int j]/\ -(2 ^ 62)<=j/\j<2 ^ 62/\EG (FT 0 j.toNat) g tt te k cap σ H1 Q):=rfl
theorem sP:DH (FI K tl) g tt te k cap σ H Q=(tl σ H λx H1=>∃ a,x=.ref a/\(((∃ xs,SqL K H1 a xs)/\EG (FS K a) g tt te k cap σ H1 Q)\/((∃ xs,SqT K H1 a xs)/\EG (ML K a) g tt te k cap σ H1 Q))):=rfl
theorem sQ:GE (FU as) g s1 D σ H=(as σ H λvs H1=>∃ j:Int,vs=[.int j]/\ -(2 ^ 62)<=j/\j<2 ^ 62/\II (FT 0 j.toNat) g s1 D σ H1):=rfl
theorem sR:GE (FI K tl) g s1 D σ H=(tl σ H λx H1=>∃ a,x=.ref a/\(((∃ xs,SqL K H1 a xs)/\II (FS K a) g s1 D σ H1)\/((∃ xs,SqT K H1 a xs)/\II (ML K a) g s1 D σ H1))):=rfl
end
end L2
namespace L2
section
variable{K:W.Frag}{σ:St}{H:Hp}{Q:VK}{P:Bool->Prop}{PI':Int->Prop}{PV:V->Prop}{QB:Bool->Hp->Prop}{v:V}{x:Option V}{i j:Int}{n:Nat}{b b':Bool}{s s':Str}{p q:Addr}{f:Int->Int->V}{C:Int->Int->Prop}
def AA(i:Nat):TE:=λσ H Q=>match σ[i]? with
 | some (some v)=>Q v H
 | _=>False
theorem sT:AA 0 (some v::σ) H Q=Q v H:=rfl
theorem sU:AA (n+1) (x::σ) H Q=AA n σ H Q:=rfl
theorem sV(i:Nat):AA i=RM i:=by
 funext σ H Q
 unfold AA RM
 cases σ[i]? with
 | none=>simp
 | some o=>cases o<;>simp
theorem sW{P:Bool->Prop}:(∃ k,V.bl b=V.bl k/\P k)=P b:=by simp
theorem sX{P:Int->Prop}:(∃ k,V.int i=V.int k/\P k)=P i:=by simp
theorem sY{P:Addr->Prop}:(∃ k,V.ref p=V.ref k/\P k)=P p:=by simp
theorem sZ{P:Bool->Prop}:(∃ k,J7 K (.bl b) H k/\P k)=P b:=by simp[J7]
theorem tD:BN K (.int i) (.int j) H Q=Q (.int (i+j)) H:=rfl
theorem tE:BN K (.str s) (.str s') H Q=(s.length+s'.length<=sizeLine/\Q (.str (s++s')) H):=rfl
theorem SQ:BN K (.ref p) (.ref q) H Q=(R5 (.ref p) (.ref q) H Q\/R0 K (.ref p) (.ref q) H Q\/SL K (.ref p) (.ref q) H Q):=rfl
theorem tF{x y:Str}:DU (.str x) (.str y) H Q=Q (.bl (!decide (y.cps.toList<x.cps.toList))) H:=rfl
theorem tG{x y:Str}:EQ (.str x) (.str y) H Q=Q (.bl (decide (x.cps.toList<y.cps.toList))) H:=rfl
theorem tH{x:Str}{lo hi:Option Int}:HL K (.str x) lo hi H Q=(x.length<=sizeLine/\Q (.str (Txt.slice x lo hi)) H):=rfl
theorem tI:D8 K (.int i) (.int j) H Q=(CMul i j/\Q (.int (i * j)) H):=rfl
theorem tJ{z:Str}{j:Int}:D8 K (.str z) (.int j) H Q=(0<=j/\j<=1000/\z.length<=1000/\Q (.str (P5 z j)) H):=rfl
theorem tK:D8 K (.ref p) (.int j) H Q=(R6 (.ref p) (.int j) H Q\/SN K (.ref p) (.int j) H Q):=rfl
theorem tL:GF f (.int i) (.int j) H Q=Q (f i j) H:=by simp[GF]
theorem tM:rI C f (.int i) (.int j) H Q=(C i j/\Q (f i j) H):=by simp[rI]
theorem tN{g:Int->V}:rU g (.int i) H Q=Q (g i) H:=by simp[rU]
theorem tO:EQ (.int i) (.int j) H Q=Q (.bl (decide (i<j))) H:=rfl
theorem tP:DU (.int i) (.int j) H Q=Q (.bl (decide (i<=j))) H:=rfl
theorem tQ:P6 (.int i) (.int j) H Q=Q (.bl (decide (j<i))) H:=rfl
theorem tR:DL K (.int i) (.int j) H Q=Q (.bl (decide (i=j))) H:=by simp[DL,GU]
theorem tS:DL K (.str s) (.str s') H Q=Q (.bl (decide (s=s'))) H:=by simp[DL,GU]
theorem tT:FH K (.int i) (.int j) H Q=Q (.bl (!decide (i=j))) H:=by simp[FH,GU]
theorem tU:FH K (.str s) (.str s') H Q=Q (.bl (!decide (s=s'))) H:=by simp[FH,GU]
theorem tV:KF v .non H Q=Q (.bl (decide (v=.non))) H:=by simp[KF]
theorem tW:KG v .non H Q=Q (.bl (!decide (v=.non))) H:=by simp[KG]
theorem tX:D9 K [v] H Q=∃ n:Nat,RX K v H n/\Q (.int n) H:=by simp[D9]
theorem Y9:M9 K [.ref p] H Q=∃ ys,(SqL K H p ys\/SqT K H p ys)/\∀ l,H l=none->Q (.ref l) (upd H l (.lst ys)):=by simp[M9]
theorem tY:NA K [.ref p] H Q=∃ ys,((SqL K H p ys/\∀ l,H l=none->Q (.ref l) (upd H l (.tup ys)))\/(SqT K H p ys/\Q (.ref p) H)):=by simp[NA]
end
theorem AB{X:Cx}(i:Nat){x:Str}{pos:Pos}(hN:X.N[i]? =some x:=by rfl)(hv:RL X.env.scope x:=by first | exact Or.inl rfl | exact Or.inr (Or.inl rfl) | exact Or.inr (Or.inr rfl))(hd:(x ==("__debug__":Str))=false:=by decide)
  (hcd:(x ==("__classdict__":Str))=false:=by decide):PE X (.Name x pos) (AA i):=by
 rw[sV]
 exact mF hN hv hd hcd
end L2
namespace L2
abbrev A9(Q:VK):Ends:={ nx:=λ_ H'=>Q .non H',rt:=Q }
abbrev C1(cap:List Nat)(σ:St):St:=cap.map λi=>(σ[i]?).join
section
variable{K:W.Frag}{te:TE}{cap:List Nat}{σ:St}{H:Hp}{Q:VK}
theorem NB{lo:Int}{n:Nat}(hn:n<=sizeLine)(Pv:Nat->List V->Hp->Prop)(h0:Pv 0 [] H)(hs:∀ i ys H,i<n->ys.length=i->Pv i ys H->te (some (.int (lo+i))::C1 cap σ) H λy H2=>Pv (i+1) (ys++[y]) H2)
  (hd:∀ ys H,ys.length=n->Pv n ys H->∀ p,H p=none->Q (.ref p) (upd H p (.lst ys))) :
  EG (FT lo n) (AR 0) CM te 1 cap σ H Q:=by
 refine⟨λi m σ' ys H=>m=n - i/\i<=n/\ys.length=i/\(∃ x0,σ'=x0::C1 cap σ)/\Pv i ys H,⟨n,by simp,Nat.zero_le _,rfl,⟨none,rfl⟩,h0⟩,?_⟩
 rintro i m σ' ys H ⟨rfl,hi,hl,⟨x0,rfl⟩,p⟩
 by_cases hlt:i<n
 ·refine .inr ⟨hlt,by omega,λx H' y=> ?_⟩
  obtain⟨e,y⟩:=y
  subst e y
  simp only[AR,CM,if_true]
  refine⟨_,λy H4 q=>⟨n - (i+1),by omega,rfl,hlt,?_,⟨_,rfl⟩,q⟩,hs i ys _ hlt hl p⟩
  rw[List.length_append,List.length_singleton,hl]
 ·have e:i=n:=by omega
  subst e
  exact .inl ⟨Nat.le_refl _,hd ys H hl p⟩
theorem ZA{b:Addr}{xs:List V}(hn:xs.length<=sizeLine)(Pv:Nat->List V->Hp->Prop)(h0:Pv 0 [] H)(hq:∀ i ys H,i<=xs.length->Pv i ys H->SqL K H b xs)
  (hs:∀ i x ys H,xs[i]? =some x->ys.length=i->Pv i ys H->te (some x::C1 cap σ) H λy H2=>Pv (i+1) (ys++[y]) H2)
  (hd:∀ ys H,ys.length=xs.length->Pv xs.length ys H->∀ p,H p=none->Q (.ref p) (upd H p (.lst ys))) :
  EG (FS K b) (AR 0) CM te 1 cap σ H Q:=by
 refine⟨λi m σ' ys H=>m=xs.length - i/\i<=xs.length/\ys.length=i/\(∃ x0,σ'=x0::C1 cap σ)/\Pv i ys H,⟨xs.length,by simp,Nat.zero_le _,rfl,⟨none,rfl⟩,h0⟩,?_⟩
 rintro i m σ' ys H ⟨rfl,hi,hl,⟨x0,rfl⟩,p⟩
 have q:=hq i ys H hi p
 by_cases hlt:i<xs.length
 ·refine .inr ⟨⟨xs,xs[i],q,by simp[hlt]⟩,by omega,λx H' y=> ?_⟩
  obtain⟨e,y⟩:=y
  subst e
  have hx:=y xs q
  simp only[AR,CM,if_true]
  refine⟨_,λy H4 q=>⟨xs.length - (i+1),by omega,rfl,hlt,?_,⟨_,rfl⟩,q⟩,hs i x ys _ hx hl p⟩
  rw[List.length_append,List.length_singleton,hl]
 ·have e:i=xs.length:=by omega
  subst e
  exact .inl ⟨⟨xs,q,Nat.le_refl _⟩,hd ys H hl p⟩
theorem SR{b:Addr}{xs:List V}{g:TG}{tb:TS}{D:Ends}(Pv:Nat->St->Hp->Prop)(h0:Pv 0 σ H)(hl:∀ i σ H,i<=xs.length->Pv i σ H->SqL K H b xs)
  (hs:∀ i x σ H,xs[i]? =some x->Pv i σ H->g x σ H λσ2 H2=>tb { D with nx:=Pv (i+1),ct:=Pv (i+1),bk:=D.nx } σ2 H2) (hd:∀ σ H,Pv xs.length σ H->D.nx σ H):II (FS K b) g tb D σ H:=mV Pv h0 hl hs hd
theorem tZ{lo:Int}{n:Nat}{g:TG}{tb:TS}{D:Ends}(Pv:Nat->St->Hp->Prop)(h0:Pv 0 σ H)
  (hs:∀ i σ H,i<n->Pv i σ H->g (.int (lo+i)) σ H λσ2 H2=>tb { D with nx:=Pv (i+1),ct:=Pv (i+1),bk:=D.nx } σ2 H2) (hd:∀ σ H,Pv n σ H->D.nx σ H):II (FT lo n) g tb D σ H:=mW Pv h0 hs hd
end
theorem ZB{K:W.Frag}{H:Hp}{x y:V}{t c:Value}{b:Bool}{Q:VK}(ty:TyX K H x t)(cv:ClsV y c)(k:W.kitOne K t c=some b)(q:Q (.bl b) H):P8 K [x,y] H Q:=⟨x,y,t,b,rfl,ty,.inl ⟨c,cv,k⟩,q⟩
theorem AV{H:Hp}{p:Addr}{o:HO}(h:H p=none):Same H (upd H p o):=λb u e=>by rw[AM (BM e h)];exact e
theorem IJ{α β :Type}{F: α -> β ->Prop}:∀ {l:List α} {m:List β} {i:Nat} {y: β},Paired F l m->m[i]? =some y->∃ x,l[i]? =some x/\F x y
 | _,_,_,_,.nil,e=>by simp at e
 | _,_,0,_,.cons r _,e=>by simp at e;subst e;exact⟨_,rfl,r⟩
 | _,_,i+1,y,.cons _ t,e=>by
  obtain⟨u,h1,h2⟩:=IJ (i:=i) (y:=y) t (by simpa using e)
  exact⟨u,by simpa using h1,h2⟩
theorem C3{K:W.Frag}{H:Hp}{p:Addr}{xs:List V}{i:Int}{n:Nat}{v:V}{Q:VK}(h:SqL K H p xs)(hi:i=n)(hx:xs[n]? =some v)(q:Q v H):BE K (.ref p) (.int i) H Q :=
 .inl ⟨p,xs,i,v,rfl,rfl,h,hi ▸ PF hx,q⟩
theorem BV(n:Nat)(h:n<=100000):n<=sizeLine:=Nat.le_trans h (by decide)
theorem ZC{α :Type}(x: α):∀ w:Nat,(List.replicate w [x]).flatten=List.replicate w x
 | 0=>rfl
 | w+1=>by rw[List.replicate_succ,List.flatten_cons,ZC x w];rfl
theorem G2{f:Str}{v:V}{fs:List (Str × V)}{n:Nat}(h:fs.length+1<n):(A6 f v fs).length<n:=Nat.lt_of_le_of_lt (MO f v fs) h
theorem t3{d:PyData}(h:IH d):PyData.eqv d d=true:=PySem.SeqAt.eqv_refl d (PySem.SeqAt.canLay_of_shaped h)
def vD:V->PyData
 | .bl b=>.bool b
 | .int i=>.int i
 | .str x=>.str x
 | _=>.none
def KI:V->Bool
 | .non=>true
 | .bl _=>true
 | .int _=>true
 | .str x=>PyData.strOk x
 | _=>false
theorem t4{K:W.Frag}{H:Hp}{v:V}(h:KI v=true):Rep K H v (vD v):=by
 cases v<;>first | exact .non | exact .bl _ | exact .int _ | exact .str _ | cases h
theorem SS{K:W.Frag}{H:Hp}:∀ {vs:List V},(∀ v∈vs,KI v=true)->RepAll K H vs (vs.map vD)
 | [],_=>.nil
 | v::r,h=>.cons (t4 (h v List.mem_cons_self)) (SS λx hx=>h x (List.mem_cons_of_mem _ hx))
theorem t5{v:V}(h:KI v=true):(vD v).canLay0=true/\(vD v).depth=0:=by
 cases v<;>first | exact⟨rfl,rfl⟩ | exact⟨h,rfl⟩ | cases h
theorem ZD:∀ {vs:List V},(∀ v∈vs,KI v=true)->PyData.canLayAll0 (vs.map vD)=true/\PyData.depthAll (vs.map vD)=0
 | [],_=>⟨rfl,rfl⟩
 | v::r,h=>by
  obtain⟨a,b⟩:=t5 (h v List.mem_cons_self)
  obtain⟨c,d⟩:=ZD λx hx=>h x (List.mem_cons_of_mem _ hx)
  simp[PyData.canLayAll0,PyData.depthAll,a,b,c,d]
theorem ST{vs:List V}(h:∀ v∈vs,KI v=true):IH (.list (vs.map vD)):=by
 obtain⟨c,d⟩:=ZD h
 unfold IH PySem.SeqAt.shaped
 simp[PyData.canLay0,PyData.depth,c,d]
theorem ZE{K:W.Frag}{H:Hp}{p q:Addr}{xs:List V}{Q:VK}(h1:SqL K H p xs)(h2:SqL K H q xs)(hf:∀ v∈xs,KI v=true)(hq:Q (.bl false) H):FH K (.ref p) (.ref q) H Q:=by
 unfold FH
 rw[if_neg (by simp[GU])]
 refine⟨_,_,.lst h1 (SS hf),.lst h2 (SS hf),ST hf,ST hf,?_⟩
 rw[t3 (ST hf)]
 exact hq
end L2
namespace L2
def ItK(k:Bool)(h:Heap)(j a:Addr)(i:Nat):Prop:=if k then h.IsListIter j a i else h.IsTupleIter j a i
def ZF(k:Bool)(h:Heap)(a:Addr)(xs:Array Value):Prop:=if k then h.IsList a xs else h.IsTuple a xs
theorem ItK.up{k:Bool}{h h':Heap}{j a:Addr}{i:Nat}(x:ItK k h j a i)(q:∀ o,h.get? j=some o->h'.get? j=some o):ItK k h' j a i:=by
 cases k<;>exact(let ⟨o,e,r⟩:=x;⟨o,q o e,r⟩)
theorem ItK.ob{k:Bool}{h:Heap}{j a:Addr}{i:Nat}(x:ItK k h j a i):∃ o,h.get? j=some o/\o.data=.fields #[.ref a,.int i 0]:=by
 cases k<;>exact(let ⟨o,e,_,r⟩:=x;⟨o,e,r⟩)
section
variable{P:Program}{w:World}{A:Around}{E:Value->Shared->Prop}{s:Shared}
theorem t7{j t:Addr}{i:Nat}{its:Array Value}{Q:Value->Shared->Prop}(z:A.handled=none)(c:s.heap.IsTupleIter j t i)(d:s.heap.IsTuple t its)(e:its[i]? =none)
  (q:∀ h' x,Heap.ExtBut j s.heap h'->(∃ o,h'.get? x=some o/\o.cls=.type "StopIteration")->E (.ref x) { s with heap:=h' }):wpAny (model P w) A (Builtin.SmallTypes.nextOf (.ref j)) Q E s:=by
 obtain⟨oj,e1,e2,e3⟩:=id c
 obtain⟨ot,f1,_,n,f2⟩:=d
 unfold Builtin.SmallTypes.nextOf
 refine wpAny_bind (wpAny_callSpecial?_slot (name:=Str.ofString "__next__") c.typeIs F.slot_tuple_iterator_next (wpAny_call_entry F.slot_tuple_iterator_next c.typeIs F.entry_tuple_iterator_next ?_ (F.args_tuple_iterator_next_1 _)))
 show wpAny (model P w) _ (field (.ref j) 0 >>= _) _ _ s
 refine wpAny_bind (wpAny_field e1 e3 (x:=.ref t) rfl ?_)
 show wpAny (model P w) _ (field (.ref j) 1 >>= _) _ _ s
 refine wpAny_bind (wpAny_field e1 e3 (x:=.int i 0) rfl ?_)
 show wpAny (model P w) _ (seqItems? (.ref t) >>= _) _ _ s
 refine wpAny_bind (wpAny_seqItems f1 f2 ?_)
 simp only[Int.toNat_natCast,e]
 refine wpAny_bind (wpAny_rule (wpAny_bind (wpAny_setField e1 e3 (by simp) ?_)))
 show wpAny (model P w) _ (newExc (.type "StopIteration") [] >>= _) _ _ _
 refine wpAny_bind ?_
 simp only[newExc,newTuple]
 refine wpAny_bind (wpAny_newObj_type (wpAny_bind (m:=firstArgMember _ _) (wpAny_of_eq (a:=Value.none) (by first | rfl | (simp only[firstArgMember];rfl)) (wpAny_newObj_type ?_ (by size_fits)))) (by size_fits))
 simp only[raiseNew]
 refine wpAny_bind (wpAny_handled ?_)
 rw[show A.in1.handled=none from z]
 exact wpAny_bind (wpAny_pure (wpAny_throw (q _ _ (((Heap.SameBut.update ..).extBut.push _).push _) ⟨_,Heap.get?_push_size _ rfl,rfl⟩)))
theorem t8{k:Bool}{j t:Addr}{i:Nat}{its:Array Value}{Q:Value->Shared->Prop}(z:A.handled=none)(c:ItK k s.heap j t i)(d:ZF k s.heap t its)(e:its[i]? =none)
  (q:∀ h' x,Heap.ExtBut j s.heap h'->(∃ o,h'.get? x=some o/\o.cls=.type "StopIteration")->E (.ref x) { s with heap:=h' }):wpAny (model P w) A (Builtin.SmallTypes.nextOf (.ref j)) Q E s:=by
 cases k
 ·exact t7 z c d e q
 ·exact wpAny_nextOf_list_end z c d e q
end
section
variable{P:Program}{w:World}{A:Around}{E:Value->Shared->Prop}{s:Shared}
end
theorem Inv.turnedS{X:Cx}{pins:List (Addr × Obj)}{σ:St}{H:Hp}{s:Shared}{h':Heap}{t':Nat}{fp:List Addr}(I:Inv X pins σ H s)(k:∀ b o,b∉fp->s.heap.get? b=some o->h'.get? b=some o)(hf:∀ b∈fp,FpOk X pins H b):Inv X pins σ H { s with heap:=h',toks:=t' }:=by
 have nit:∀ b u,H b=some u->b∉fp:=λb u e z=>by rw[(hf b z).1]at e;cases e
 refine I.step (g':=s.gens) (d':=s.drawn) (ch:=fp) (λb hb=> ?_) (λb o _ _ hc e _=>k b o hc e) (λb o _ _ hc e _=>⟨o.slots,k b o hc e⟩) (λ_ _ _ _ n=>n)
  (λb o hc e=>⟨o,k b o hc e⟩) (λ_ _ e=>e) (λ_ _ _ e=>e) (λb ps e=>⟨#[],by rw[e];simp⟩) (λm hm=> ?_) (λb u e=> ?_) I.bare
 ·obtain⟨_,f1,_,f3,f4,f5⟩:=hf b hb
  exact⟨f3,f1,f4,f5⟩
 ·obtain⟨o,es,ep,ho,r⟩:=hm
  exact⟨o,es,ep,k _ o (λz=>(hf _ z).2.1 rfl) ho,r⟩
 ·refine(I.hok b u e).stay (λc v hc q=>k c v ?_ q) (λ_ q=>q) λ_ _ q=>q
  rcases hc with z | z
  ·rw[z];exact nit b u e
  ·exact nit c _ z
def SU(K:W.Frag)(k:Bool)(H:Hp)(a:Addr)(xs:List V):Prop:=if k then SqL K H a xs else SqT K H a xs
theorem Inv.seqK{X:Cx}{pins:List (Addr × Obj)}{σ:St}{H:Hp}{s:Shared}{k:Bool}{a:Addr}{xs:List V}(I:Inv X pins σ H s)(q:SU X.K k H a xs):∃ its,Vals xs its/\ZF k s.heap a its.toArray:=by
 cases k
 ·obtain⟨its,rv,p,_⟩:=I.tuple q
  exact⟨its,rv,p⟩
 ·obtain⟨its,rv,p,_⟩:=I.list q
  exact⟨its,rv,p.isList⟩
theorem Inv.seqK_inj{X:Cx}{pins:List (Addr × Obj)}{σ:St}{H:Hp}{s:Shared}{k:Bool}{a:Addr}{xs ys:List V}(I:Inv X pins σ H s)(p:SU X.K k H a xs)(q:SU X.K k H a ys):xs=ys:=by
 cases k
 ·exact I.tuple_inj p q
 ·exact I.list_inj p q
structure zck(z T U j j':Addr):Prop where
 a1:T≠z
 a2:U≠z
 a3:j≠z
 a4:j'≠z
 a5:T≠U
 a6:T≠j
 a7:T≠j'
 a8:U≠j
 a9:U≠j'
 a10:j≠j'
theorem FpOk.upd{X:Cx}{pins:List (Addr × Obj)}{H:Hp}{a b:Addr}{o:HO}(f:FpOk X pins H b)(n:b≠a):FpOk X pins (upd H a o) b:=⟨(AM n).trans f.1,f.2⟩
section
variable{X:Cx}{tg:Expr}
end
end L2
namespace L2
def NC(z:Str):It:=⟨λi _=>i<z.cps.size,λi H x H'=>H'=H/\∃ c,z.cps[i]? =some c/\x=.str ⟨#[c]⟩,λi _=>z.cps.size<=i⟩
theorem ZG{P:Program}{w:World}{K:PySem.W.Frag}{tg:Expr}{it:Addr}{z:Str}{t:Tok}{nm:String}(hn:["enumerate","zip","dict_itemiterator","dict_reverseitemiterator","odict_iterator","itertools.zip_longest","itertools.pairwise"].contains nm=false)
  (W:∀ A:Around,A.handled=none->Walks P w A it [it] [it] z.cps.size (SignAt z) (λi h=>h.IsStrIter it nm z t i)) (sf:∀ (A:Around) (i:Nat) (s:Shared) (Q:Value->Shared->Prop) (E:Value->Shared->Prop),s.heap.IsStrIter it nm z t i->Q (.ref it) s->wpAny (model P w) A (pyIter (.ref it)) Q E s) :
  HG P w K tg (NC z) [it] it (λi h=>i<=z.cps.size/\h.IsStrIter it nm z t i) where
 mem:=by simp
 obj:=λi h ⟨_,o,e,c,d⟩ b hb=>by
  have e':b=it:=by simpa using hb
  subst e'
  exact⟨o,e,λv q=>by rw[d]at q;cases q⟩
 keep:=λi h h' ⟨l,o,e,r⟩ k=>⟨l,o,k it (by simp) o e,r⟩
 item:=by
  intro X hP hw hK hc i pins s σ H E I hf ⟨_,st⟩ hg
  subst hP hw hK
  obtain⟨f0,f1,f2,f3,f4,f5⟩:=hf it (by simp)
  refine(W _ (I.ok.hd hc)).item i s _ _ hg st λv h' tk hv st' kk=> ?_
  obtain⟨c,u,hx,rfl⟩:=hv
  have I1:Inv X pins σ H { s with heap:=h',toks:=tk }:=I.turned (λb o hb e=>kk b o (by simpa using hb) e) f0 f1 f3 f4 f5
  obtain⟨o,e,c1,d⟩:=id st'
  exact⟨_,rfl,MK (s:={ s with heap:=h',toks:=tk }) e c1 d hn ⟨.str ⟨#[c]⟩,H,I1,⟨u,rfl⟩,⟨rfl,c,hx,rfl⟩,⟨hg,st'⟩,λb hb=>(hf b hb).1⟩⟩
 done:=by
  intro X hP hw hK hc i pins s σ H E I hf ⟨l,st⟩ hg
  subst hP hw hK
  obtain⟨f0,f1,f2,f3,f4,f5⟩:=hf it (by simp)
  have e:i=z.cps.size:=Nat.le_antisymm l hg
  subst e
  exact(W _ (I.ok.hd hc)).done s _ _ st λh' tk kk=>⟨rfl,I.turned (λb o hb e=>kk b o (by simpa using hb) e) f0 f1 f3 f4 f5⟩
 self:=λA i s Q E st h=>sf A i s Q E st.2 h
theorem ZH:∀ bs:List Bool,(List.range bs.length).all (λi=>bs.getD i false)=bs.all id
 | []=>rfl
 | b::t=>by
  have ih:=ZH t
  rw[List.length_cons,List.range_succ_eq_map,List.all_cons,List.all_map,List.all_cons,<-ih]
  rfl
def P9(tl:TE):TI:=λσ H R=>tl σ H λx H1=>∃ z,x=.str z/\R (NC z) H1
section
variable{X:Cx}{tg:Expr}
theorem ZI{l:Expr}{tl:TE}(hl:PE X l tl):PI X tg l (P9 tl):=by
 intro pins s σ H R I h
 refine AT (hl pins s σ H _ I h) λv s1 ⟨x,H1,I1,r1,q1⟩=> ?_
 obtain⟨z,rfl,q⟩:=q1
 obtain⟨t,rfl⟩:=r1
 have fp1:∀ b∈[s1.heap.objs.size],FpOk X pins H1 b:=λb hb=>by
  have e:b=s1.heap.objs.size:=by simpa using hb
  subst e
  exact I1.fpOk (Nat.le_refl _) (I1.hok.fresh (Nat.le_refl _))
 cases ha:z.cps.all (· <128)
 ·refine wpAny_pyIter_wide ha ⟨s1.heap.objs.size,[s1.heap.objs.size],_,_,H1,rfl,I1.kept (t':=s1.toks) λb o e=>Heap.get?_push_of_some _ e,ZG (nm:="str_iterator") (t:=t) (by decide) (λA hA=>Walks.strWide hA _ z t) (λA i s Q E st h=>wpAny_pyIter_striter_wide st h),⟨Nat.zero_le _,_,Heap.get?_push_size _ rfl,rfl,rfl⟩,fp1,q⟩
 ·refine wpAny_pyIter_ascii ha ⟨s1.heap.objs.size,[s1.heap.objs.size],_,_,H1,rfl,I1.kept (t':=s1.toks) λb o e=>Heap.get?_push_of_some _ e,ZG (nm:="str_ascii_iterator") (t:=t) (by decide) (λA hA=>Walks.strAscii hA _ z t) (λA i s Q E st h=>wpAny_pyIter_striter_ascii st h),⟨Nat.zero_le _,_,Heap.get?_push_size _ rfl,rfl,rfl⟩,fp1,q⟩
def QC(K:W.Frag):List V->Hp->VK->Prop:=λxs H Q=>∃ x,xs=[.str x]/\x.length=1/\Q (.int (x.cps.getD 0 0:Nat)) H
theorem uA:DJ X (.builtin "ord") (QC X.K):=nS
def ND(K:W.Frag):List V->Hp->VK->Prop:=λxs H Q=>∃ (p:Addr) (bs:List Bool),xs=[.ref p]/\SqL K H p (bs.map V.bl)/\Q (.bl (bs.all id)) H
theorem SV(hc:X.calm=true):DJ X (.builtin "all") (ND X.K):=by
 intro pins s σ H xs us Q I r h
 obtain⟨p,bs,rfl,hp,q⟩:=h
 obtain⟨u,rfl,ru⟩:=FA r
 cases ru
 obtain⟨its,rv,pl,hz⟩:=I.list hp
 have hl:=rv.length
 refine call_all_walk (wpAny_pyIter_list pl.isList ?_)
 have hne:p≠s.heap.objs.size:=by
  obtain⟨o,e,_⟩:=pl.isList
  exact Nat.ne_of_lt (Heap.lt_size e)
 refine⟨s.heap.objs.size,_,_,_,_,_,λi=>bs.getD i false,rfl,Walks.list (show X.A.in1.handled=none from I.ok.hd hc) s.heap.objs.size p hne its.toArray,⟨⟨_,Heap.get?_push_size _ rfl,rfl,rfl⟩,pl.isList.push _⟩,?_,?_⟩
 ·intro i v s' Q' E' hv hq
  have hv:its[i]? =some v:=by simpa using hv
  have hi:=(List.getElem?_eq_some_iff.mp hv).1
  rw[List.length_map]at hl
  obtain⟨b,hb⟩:∃ b,bs[i]? =some b:=⟨_,List.getElem?_eq_getElem (by omega)⟩
  obtain⟨u,hu,ru⟩:=rv.get (i:=i) (x:=V.bl b) (by rw[List.getElem?_map,hb];rfl)
  rw[hv]at hu
  cases hu
  cases (show v=Value.bool b from ru)
  have e:bs.getD i false=b:=by rw[List.getD_eq_getElem?_getD,hb];rfl
  have hq:Q' (bs.getD i false) s':=hq
  rw[e]at hq
  exact wpAny_pure hq
 ·intro h' tk kk
  have e:(List.range its.toArray.size).all (λi=>bs.getD i false)=bs.all id:=by
   rw[List.length_map]at hl
   rw[List.size_toArray,<-hl]
   exact ZH bs
  rw[e]
  exact⟨.bl _,H,I.kept (t':=tk) λb o eb=>kk b o (by simpa using Nat.ne_of_lt (Heap.lt_size eb)) (Heap.get?_push_of_some _ eb),rfl,q⟩
end
theorem uB{K:W.Frag}{x:Str}{H:Hp}{Q:VK}:QC K [.str x] H Q=(x.length=1/\Q (.int (x.cps.getD 0 0:Nat)) H):=by simp[QC]
section
variable{P:Program}{w:World}{A:Around}{E:Value->Shared->Prop}{s:Shared}
end
section
variable{X:Cx}
theorem uC{ys:List V}{us:List Value}(hl:ys.length=us.length)(h:∀ (i:Nat) y u,ys[i]? =some y->us[i]? =some u->RelV y u):Vals ys us:=by
 induction ys generalizing us with
 | nil=>cases us with
  | nil=>exact .nil
  | cons u t=>simp at hl
 | cons y t ih=>cases us with
  | nil=>simp at hl
  | cons u us=>exact .cons (h 0 y u rfl rfl) (ih (by simpa using hl) λi y' u' e1 e2=>h (i+1) y' u' (by simpa using e1) (by simpa using e2))
end
theorem uD{tl:TE}{g:TG}{tt:TT}{te:TE}{k:Nat}{cap:List Nat}{σ:St}{H:Hp}{Q:VK}:DH (P9 tl) g tt te k cap σ H Q=(tl σ H λx H1=>∃ z,x=.str z/\EG (NC z) g tt te k cap σ H1 Q):=rfl
theorem uE{te:TE}{cap:List Nat}{σ:St}{H:Hp}{Q:VK}{z:Str}(hn:z.cps.size<=sizeLine)(Pv:Nat->List V->Hp->Prop)(h0:Pv 0 [] H)(hs:∀ i c ys H,z.cps[i]? =some c->ys.length=i->Pv i ys H->te (some (.str ⟨#[c]⟩)::C1 cap σ) H λy H2=>Pv (i+1) (ys++[y]) H2)
  (hd:∀ ys H,ys.length=z.cps.size->Pv z.cps.size ys H->∀ p,H p=none->Q (.ref p) (upd H p (.lst ys))):EG (NC z) (AR 0) CM te 1 cap σ H Q:=by
 refine⟨λi m σ' ys H=>m=z.cps.size - i/\i<=z.cps.size/\ys.length=i/\(∃ x0,σ'=x0::C1 cap σ)/\Pv i ys H,⟨z.cps.size,by simp,Nat.zero_le _,rfl,⟨none,rfl⟩,h0⟩,?_⟩
 rintro i m σ' ys H ⟨rfl,hi,hl,⟨x0,rfl⟩,p⟩
 by_cases hlt:i<z.cps.size
 ·refine .inr ⟨hlt,by omega,λx H' y=> ?_⟩
  obtain⟨e,c,hc,y⟩:=y
  subst e y
  simp only[AR,CM,if_true]
  refine⟨_,λy H4 q=>⟨z.cps.size - (i+1),by omega,rfl,hlt,?_,⟨_,rfl⟩,q⟩,hs i c ys _ hc hl p⟩
  rw[List.length_append,List.length_singleton,hl]
 ·have e:i=z.cps.size:=by omega
  subst e
  exact .inl ⟨Nat.le_refl _,hd ys H hl p⟩
end L2
namespace L2
open PySem
abbrev GJ(l:List Nat):Prop:=l.Pairwise (· <·)
theorem NE{l:List Nat}(R:GJ l){i k a b:Nat}(h:i<k)(ha:l[i]? =some a)(hb:l[k]? =some b):a<b:=by
 obtain⟨h1,rfl⟩:=List.getElem?_eq_some_iff.mp ha
 obtain⟨h2,rfl⟩:=List.getElem?_eq_some_iff.mp hb
 exact List.pairwise_iff_getElem.mp R i k h1 h2 h
structure Below(xs:Array Nat)(j r:Nat):Prop where
 le:r<=xs.size
 lo:∀ i v,i<r->xs.toList[i]? =some v->v<j
 hi:∀ i v,r<=i->xs.toList[i]? =some v->j<=v
theorem SW{xs:Array Nat}{j:Nat}(R:GJ xs.toList):∀ (fuel lo hi:Nat),lo<=hi->hi<=xs.size->hi - lo<=fuel->(∀ i v,i<lo->xs.toList[i]? =some v->v<j)->(∀ i v,hi<=i->xs.toList[i]? =some v->j<=v) →
  Below xs j (SetTable.below.go xs j fuel lo hi)
 | 0,lo,hi,h1,h2,h3,a,b=>by
  have e:lo=hi:=by omega
  subst e
  exact⟨h2,a,b⟩
 | fuel+1,lo,hi,h1,h2,h3,a,b=>by
  unfold SetTable.below.go
  by_cases hlt:lo<hi
  ·rw[if_pos hlt]
   have hm:(lo+hi) / 2<xs.size:=by omega
   have em:xs.toList[(lo+hi) / 2]? =some (xs[(lo+hi) / 2]):=by simp[hm]
   have ed:xs.getD ((lo+hi) / 2) j=xs[(lo+hi) / 2]:=by simp[hm]
   simp only[ed]
   split
   ·rename_i hv
    refine SW R fuel _ _ (by omega) h2 (by omega) (λi v hi' e=> ?_) b
    by_cases q:i=(lo+hi) / 2
    ·subst q;rw[em]at e;cases e;exact hv
    ·exact Nat.lt_trans (NE R (show i<(lo+hi) / 2 by omega) e em) hv
   ·rename_i hv
    refine SW R fuel _ _ (by omega) (by omega) (by omega) a λi v hi' e=> ?_
    by_cases q:i=(lo+hi) / 2
    ·subst q;rw[em]at e;cases e;omega
    ·have:=NE R (show(lo+hi) / 2<i by omega) em e
     omega
  ·rw[if_neg hlt]
   have e:lo=hi:=by omega
   subst e
   exact⟨h2,a,b⟩
theorem SY{xs:Array Nat}{j:Nat}(R:GJ xs.toList):Below xs j (SetTable.below xs j) :=
 SW R _ _ _ (Nat.zero_le _) (Nat.le_refl _) (by omega) (λ_ _ h=>absurd h (Nat.not_lt_zero _)) λi v h e=>by
  rw[List.getElem?_eq_none (by simpa using h)]at e;cases e
theorem Below.uniq{xs:Array Nat}{j r r':Nat}(a:Below xs j r)(b:Below xs j r'):r=r':=by
 rcases Nat.lt_trichotomy r r' with h | h | h
 ·have hs:r<xs.size:=Nat.lt_of_lt_of_le h b.le
  have e:xs.toList[r]? =some (xs[r]):=by simp[hs]
  have:=b.lo _ _ h e
  have:=a.hi _ _ (Nat.le_refl _) e
  omega
 ·exact h
 ·have hs:r'<xs.size:=Nat.lt_of_lt_of_le h a.le
  have e:xs.toList[r']? =some (xs[r']):=by simp[hs]
  have:=a.lo _ _ h e
  have:=b.hi _ _ (Nat.le_refl _) e
  omega
def NotIn(t:SetTable)(j:Nat):Prop:=t.place[SetTable.below t.place j]? ≠some j
theorem uF{t:SetTable}{j:Nat}(h:t.slot j=.empty):NotIn t j:=λe=>by
 unfold SetTable.slot at h
 simp only[e,beq_self_eq_true,if_true]at h
 cases h
theorem uG{t:SetTable}{j:Nat}(h:t.slot j=.dummy):NotIn t j:=λe=>by
 unfold SetTable.slot at h
 simp only[e,beq_self_eq_true,if_true]at h
 cases h
theorem ZJ(t:SetTable)(p:SetTable.Probe):(t.advance p).dummy=p.dummy:=by
 unfold SetTable.advance
 split<;>rfl
theorem SZ{t:SetTable}{f:Nat->Int}{h:Int}:∀ (fuel:Nat) (p:SetTable.Probe) (j:Nat) (d:Option Nat),SetTable.probe.go t f h fuel p=some (.empty j d)->(∀ x,p.dummy=some x->NotIn t x)->NotIn t (d.getD j)
 | 0,p,j,d,e,_=>by cases e
 | fuel+1,p,j,d,e,hd=>by
  unfold SetTable.probe.go at e
  split at e
  ·rename_i hs
   cases e
   cases q:p.dummy with
   | none=>exact uF hs
   | some x=>exact hd x q
  ·rename_i hs
   refine SZ fuel _ j d e λx hx=> ?_
   rw[ZJ]at hx
   cases hx
   exact uG hs
  ·rename_i i hs
   split at e
   ·cases e
   ·exact SZ fuel _ j d e λx hx=>by rw[ZJ]at hx;exact hd x hx
theorem uH{t:SetTable}{h:Int}{s:Nat}{b:Bool}(e:t.freeSlot h=some (s,b)):NotIn t s:=by
 unfold SetTable.freeSlot at e
 split at e
 ·rename_i j d hp
  cases e
  refine SZ _ _ _ _ hp λx hx=> ?_
  cases hx
 ·cases e
theorem uI(n:Nat):GJ (Array.range n).toList:=by
 rw[Array.toList_range]
 exact List.pairwise_lt_range
theorem uJ {t:SetTable} {j:Nat} (R:GJ t.place.toList) (h:NotIn t j):GJ (t.put j).1.place.toList:=by
  have b:=SY (j:=j) R
  show GJ (SetTable.insertAt t.place (SetTable.below t.place j) j).toList
  rw[SetTable.toList_insertAt]
  have hlo:∀ v∈t.place.toList.take (SetTable.below t.place j),v<j:=λv hv=>by
    obtain⟨i,hi,e⟩:=List.getElem_of_mem hv
    have hi':i<SetTable.below t.place j:=by rw[List.length_take]at hi;omega
    refine b.lo i v hi' ?_
    rw[<-e];simp only[List.getElem_take];exact List.getElem?_eq_getElem _
  have hhi:∀ v∈t.place.toList.drop (SetTable.below t.place j),j<v:=λv hv=>by
    obtain⟨i,hi,e⟩:=List.getElem_of_mem hv
    have e2:t.place.toList[SetTable.below t.place j+i]? =some v:=by
      rw[<-List.getElem?_drop,List.getElem?_eq_getElem hi,e]
    have:=b.hi _ _ (Nat.le_add_right _ _) e2
    by_cases q:j=v
    · subst q
      have z:i=0:=by
        by_cases z:i=0
        ·exact z
        · have hl:SetTable.below t.place j<t.place.toList.length:=by
            rw[List.length_drop]at hi;omega
          have e3:=List.getElem?_eq_getElem hl
          have:=NE R (show SetTable.below t.place j<SetTable.below t.place j+i by omega) e3 e2
          have:=b.hi _ _ (Nat.le_refl _) e3
          omega
      subst z
      rw[Nat.add_zero,Array.getElem?_toList]at e2
      exact absurd e2 h
    ·omega
  refine List.pairwise_append.mpr ⟨R.sublist (List.take_sublist ..),List.pairwise_cons.mpr ⟨hhi,R.sublist (List.drop_sublist ..)⟩,λx hx y hy=> ?_⟩
  rcases List.mem_cons.mp hy with rfl | hy
  ·exact hlo x hx
  ·exact Nat.lt_trans (hlo x hx) (hhi y hy)
structure Led(led:Bool)(t:SetTable):Prop where
 rise:GJ t.place.toList
 led:t.led=led
theorem Led.standIn{led:Bool}{t:SetTable}(h:t.led=led)(n:Nat):Led led (t.standIn n):=⟨uI n,h⟩
theorem Led.or{led:Bool}{t:SetTable}(h:Led led t)(n:Nat):Led led (t.orStandIn n):=by
 unfold SetTable.orStandIn
 split
 ·exact h
 ·exact .standIn h.led n
theorem Led.layNew{led:Bool}{t:SetTable}(L:Led led t)(es:Array (Int × Value))(h:Int)(x:Value):Led led (layNew t es h x).2.1:=by
 unfold PySem.layNew
 split
 ·rename_i slot b e
  exact Led.or ⟨uJ L.rise (uH e),L.led⟩ _
 ·exact .standIn L.led _
theorem uK(owner:Array (Option Nat))(m:Nat):GJ (((List.range m).filterMap λj=>(owner.getD j none).map (j,·)).map (·.1)):=by
 rw[List.map_filterMap]
 refine(List.pairwise_lt_range (n:=m)).filterMap _ λa b hab x hx y hy=> ?_
 simp only[Option.mem_def,Option.map_map,Option.map_eq_some_iff,Function.comp_apply]at hx hy
 obtain⟨_,_,rfl⟩:=hx
 obtain⟨_,_,rfl⟩:=hy
 exact hab
theorem Led.relayAll{led:Bool}{t:SetTable}(h:t.led=led)(L:Led led t)(es:Array (Int × Value))(wanted:Nat):Led led (relayAll t es wanted).2.1:=by
 unfold PySem.relayAll
 split
 ·rename_i t' order e
  dsimp only
  split
  ·unfold SetTable.relaid SetTable.laid at e
   simp only[Option.bind_eq_bind,Option.bind_eq_some_iff,Option.pure_def,Option.some.injEq,Prod.mk.injEq]at e
   obtain⟨owner,_,rfl,_⟩:=e
   exact⟨by simpa using uK owner _,h⟩
  ·exact .standIn h _
 ·exact .standIn h _
theorem Led.plainOff{led:Bool}{t:SetTable}(L:Led led t):Led led { t with plain:=false }:=⟨L.rise,L.led⟩
theorem Led.fresh(led:Bool):Led led (.fresh 0 0 led):=⟨List.Pairwise.nil,rfl⟩
def KJ(xs:Array Nat):Nat->Nat
 | 0=>0
 | i+1=>xs.getD i 0+1
theorem uL{xs:Array Nat}(R:GJ xs.toList):∀ {i:Nat},i<=xs.size->SetTable.below xs (KJ xs i)=i
 | 0,_=>(SY R).uniq ⟨Nat.zero_le _,λ_ _ h=>absurd h (Nat.not_lt_zero _),λ_ _ _ _=>Nat.zero_le _⟩
 | i+1,hi=>(SY R).uniq ⟨hi,λk v hk e=>by
   have hi':i<xs.size:=by omega
   have ei:xs.toList[i]? =some xs[i]:=by simp[hi']
   have ed:xs.getD i 0=xs[i]:=by simp[hi']
   show v<xs.getD i 0+1
   rw[ed]
   by_cases q:k=i
   ·subst q;rw[ei]at e;cases e;omega
   ·have:=NE R (show k<i by omega) e ei
    omega,λk v hk e=>by
   have hi':i<xs.size:=by omega
   have ei:xs.toList[i]? =some xs[i]:=by simp[hi']
   have ed:xs.getD i 0=xs[i]:=by simp[hi']
   show xs.getD i 0+1<=v
   rw[ed]
   exact NE R (show i<k by omega) ei e⟩
theorem ZK{α :Type}(next:Nat->Nat):∀ (fuel k:Nat) (left:List α) (out:Array α),left.length=fuel->List.Perm (pickOrder.go next fuel k left out).toList (out.toList++left)
 | 0,k,left,out,h=>by
  rw[List.length_eq_zero_iff.mp h]
  unfold pickOrder.go
  simp
 | fuel+1,k,left,out,h=>by
  unfold pickOrder.go
  have hl:next k % left.length<left.length:=Nat.mod_lt _ (by omega)
  rw[List.getElem?_eq_getElem hl]
  dsimp only
  refine(ZK next fuel (k+1) _ _ (by rw[List.length_eraseIdx_of_lt hl];omega)).trans ?_
  rw[Array.toList_push,List.append_assoc]
  refine List.Perm.append_left _ ?_
  rw[List.eraseIdx_eq_take_drop_succ]
  show List.Perm (left[next k % left.length]::(left.take (next k % left.length)++left.drop (next k % left.length+1))) left
  refine List.perm_middle.symm.trans ?_
  rw[<-List.drop_eq_getElem_cons hl,List.take_append_drop]
theorem uM{α :Type}(next:Nat->Nat)(xs:Array α):List.Perm (pickOrder next xs).toList xs.toList:=by
 have:=ZK next xs.size 0 xs.toList #[] (by simp)
 simpa [pickOrder]using this
end L2
namespace L2
open PySem PyProof.Rows
def IK(w:World):Bool:= !w.params.followText "set-order"
def iv:Value->Int
 | .int n _=>n
 | _=>0
def IntSet(P:Program)(w:World)(h:Heap)(a:Addr)(ms:List Int):Prop :=
 ∃ (o:Obj) (es:Array (Int × Value)) (ep:Nat) (t:SetTable),h.get? a=some o/\o.ExactSet/\o.data=.set es ep t/\ElemsOf (intKind P w) es.toList ∧
  List.Perm (es.toList.map λe=>iv e.2) ms/\es.size<scanBound/\t.fits es.size=true/\Led (IK w) t
section
variable{P:Program}{w:World}{A:Around}{E:Value->Shared->Prop}{s:Shared}
theorem S0{es:List (Int × Value)}(h:ElemsOf (intKind P w) es){e:Int × Value}(he:e∈es):∃ t,e.2=.int (iv e.2) t:=by
 obtain⟨⟨k,hk,_⟩,_⟩:=h e he
 obtain⟨t,z⟩:=Value.isInt_shape hk
 exact⟨t,by rw[z];rfl⟩
theorem ZL{es:List (Int × Value)}(h:ElemsOf (intKind P w) es){e:Int × Value}(he:e∈es){k:Int}:(intKind P w).is k e.2=true↔iv e.2=k:=by
 obtain⟨t,z⟩:=S0 h he
 rw[z]
 refine⟨λq=> ?_,λq=> ?_⟩
 ·have q':Value.isInt k (.int (iv e.2) t)=true:=q
  obtain⟨t',z'⟩:=Value.isInt_shape q'
  cases z';rfl
 ·rw[<-q];exact intKind_is ..
theorem ZM{es:List (Int × Value)}{ms:List Int}(h:ElemsOf (intKind P w) es)(p:List.Perm (es.map λe=>iv e.2) ms)(k:Int):k∈ms↔∃ e∈es,(intKind P w).is k e.2=true:=by
 rw[<-p.mem_iff,List.mem_map]
 exact⟨λ⟨e,he,q⟩=>⟨e,he,(ZL h he).mpr q⟩,λ⟨e,he,q⟩=>⟨e,he,(ZL h he).mp q⟩⟩
theorem ZN{h:Heap}{a:Addr}{o:Obj}{es es':Array (Int × Value)}{ep:Nat}{t t':SetTable}{ms:List Int}(ho:h.get? a=some o)(hex:o.ExactSet)(hd:o.data=.set es ep t)
  (hel:ElemsOf (intKind P w) es'.toList) (hp:List.Perm (es'.toList.map λe=>iv e.2) ms) (hb:es'.size<scanBound) (hf:t'.fits es'.size=true) (L:Led (IK w) t') :
  (h.update a (Obj.putSet es' t')).get? a=some { o with data:=.set es' (ep+1) t' }/\IntSet P w (h.update a (Obj.putSet es' t')) a ms:=by
 have g:=(SetOf_store (knd:=intKind P w) (S':=λk=>es'.toList.any λe=>(intKind P w).is k e.2) ho hex hd hel (λk=>by rw[List.any_eq_true]) hb hf).1
 exact⟨g,_,es',ep+1,t',g,hex,rfl,hel,hp,hb,hf,L⟩
theorem ZO{g:Bool->Sem Unit}(hg:∀ (b:Bool) (s1:Shared) (R:Unit->Shared->Prop),R () s1->wpAny (model P w) A (g b) R E s1){a:Addr}{o:Obj}{es e1:Array (Int × Value)}{ep:Nat}{t t1:SetTable}{ms:List Int}{wd:Bool}
  (ho:s.heap.get? a=some o) (hex:o.ExactSet) (hd:o.data=.set es ep t) (hel:ElemsOf (intKind P w) e1.toList) (hp:List.Perm (e1.toList.map λe=>iv e.2) ms) (hb:e1.size<scanBound) (hf:t1.fits e1.size=true) (L:Led (IK w) t1)
  {R:Option Bool->Shared->Prop} (h:∀ h',Heap.SameBut a s.heap h'->IntSet P w h' a ms->R (some true) { s with heap:=h' }) :
  wpAny (model P w) A (do
   storeSet a e1 t1
   if(!wd && t1.tooFull)=true then do
    g (relayAll t1 e1 (SetTable.grown e1.size)).2.2
    storeSet a (relayAll t1 e1 (SetTable.grown e1.size)).1 (relayAll t1 e1 (SetTable.grown e1.size)).2.1
    pure (some true)
   else pure (some true)) R E s:=by
 refine wpAny_bind (wpAny_storeSet_of ho hd ?_ (fits_of_scanBound hb))
 obtain⟨g1,S1⟩:=ZN ho hex hd hel hp hb hf L
 have sb1:=Heap.SameBut.update s.heap a (Obj.putSet e1 t1)
 split
 ·have p2:=relayAll_perm t1 e1 (SetTable.grown e1.size)
  have f2:=relayAll_fits t1 e1 (SetTable.grown e1.size)
  have L2:=Led.relayAll L.led L e1 (SetTable.grown e1.size)
  revert p2 f2 L2
  generalize relayAll t1 e1 (SetTable.grown e1.size)=r
  obtain⟨e2,t2,gv⟩:=r
  intro p2 f2 L2
  dsimp only at p2 f2 L2 ⊢
  have z2:e2.size=e1.size:=by rw[<-Array.length_toList,p2.length_eq,Array.length_toList]
  have b2:e2.size<scanBound:=z2 ▸ hb
  refine wpAny_bind (hg _ _ _ ?_)
  refine wpAny_bind (wpAny_storeSet_of g1 rfl ?_ (fits_of_scanBound b2))
  obtain⟨_,S2⟩:=ZN (P:=P) (w:=w) g1 hex rfl (hel.perm p2) ((p2.map _).trans hp) b2 f2 L2
  exact wpAny_pure (h _ (sb1.trans (Heap.SameBut.update ..)) S2)
 ·exact wpAny_pure (h _ sb1 S1)
theorem ZP{ms:List Int}{k:Int}(h:k∈ms):step_dedup ms k=ms:=by
 unfold step_dedup
 have e:(ms.any λx=>x == k)=true:=List.any_eq_true.mpr ⟨k,h,beq_self_eq_true k⟩
 rw[if_pos e]
theorem ZQ{ms:List Int}{k:Int}(h:¬ k∈ms):step_dedup ms k=ms++[k]:=by
 unfold step_dedup
 rw[if_neg λz=> ?_]
 obtain⟨x,hx,q⟩:=List.any_eq_true.mp z
 rw[beq_iff_eq]at q
 exact h (q ▸ hx)
theorem uN{a:Addr}{ms:List Int}{k:Int}{tk:Tok}{Q:Bool->Shared->Prop}(hS:IntSet P w s.heap a ms)(hr:ms.length+1<scanBound)
    (h:∀ (b:Bool) h',Heap.SameBut a s.heap h'->IntSet P w h' a (step_dedup ms k)->Q b { s with heap:=h' }):wpAny (model P w) A (setAddHashed a (.int k tk) ((intKind P w).hash k)) Q E s:=by
  have hk:(intKind P w).is k (.int k tk)=true:=intKind_is ..
  have hsc:(Value.int k tk).scannable=true:=rfl
  generalize Value.int k tk=x at hk hsc
  obtain⟨o,es,ep,t,ho,hex,hd,hel,hp,hb,hf,L⟩:=hS
  have hlen:es.size=ms.length:=by rw[<-hp.length_eq,List.length_map,Array.length_toList]
  have hivx:iv x=k:=by obtain⟨_,z⟩:=Value.isInt_shape hk;rw[z];rfl
  unfold setAddHashed setAddHashedIn
  refine wpAny_holding (wpAny_bind (wpAny_setState_of ho hd hf ?_))
  dsimp only
  rw[byScan_of hsc hb hel,if_pos rfl]
  unfold setAddByScan
  refine wpAny_bind (wpAny_bind (wpAny_rule (wpAny_bind (wpAny_setScan_of hk ho hd hf hel ?_))))
  cases hx:es.toList.findIdx? (λe=>(intKind P w).is k e.2)with
  | some j =>
    dsimp only
    obtain⟨hj,pj,_⟩:=List.findIdx?_eq_some_iff_getElem.mp hx
    have hm:k∈ms:=(ZM hel hp k).mpr ⟨_,List.getElem_mem hj,pj⟩
    refine wpAny_pure (wpAny_pure ?_)
    have:=h false s.heap (Heap.SameBut.refl a s.heap) ⟨o,es,ep,t,ho,hex,hd,hel,by rw[ZP hm];exact hp,hb,hf,L⟩
    exact this
  | none =>
    dsimp only
    have hm:¬ k∈ms:=λz=>by
      obtain⟨e,he,q⟩:=(ZM hel hp k).mp z
      have:=List.findIdx?_eq_none_iff.mp hx e he
      rw[q]at this;cases this
    have p1:=layNew_perm t es ((intKind P w).hash k) x
    have f1:=layNew_fits t es ((intKind P w).hash k) x
    have L1:=L.layNew es ((intKind P w).hash k) x
    revert p1 f1 L1
    generalize layNew t es ((intKind P w).hash k) x=r
    obtain⟨e1,t1,wd,gv⟩:=r
    intro p1 f1 L1
    dsimp only at p1 f1 L1 ⊢
    rw[Array.toList_push]at p1
    have hel1:ElemsOf (intKind P w) e1.toList:=(hel.push hk hsc).perm p1
    have hp1:List.Perm (e1.toList.map λe=>iv e.2) (step_dedup ms k):=by
      rw[ZQ hm]
      refine(p1.map _).trans ?_
      rw[List.map_append,List.map_cons,List.map_nil,hivx]
      exact List.Perm.append_right _ hp
    have hb1:e1.size<scanBound:=by
      rw[<-Array.length_toList,p1.length_eq,List.length_append,Array.length_toList,hlen]
      exact hr
    have gw:∀ (b:Bool) (s1:Shared) (R:Unit->Shared->Prop),R () s1 →
        wpAny (model P w) A (match b with
          | true=>rule "set.scan.the-table-gave-way"
          | false=>pure ()) R E s1:=λb s1 R q=>by
      cases b
      ·exact wpAny_pure q
      ·exact wpAny_rule q
    refine wpAny_bind (gw _ _ _ ?_)
    split
    · refine wpAny_bind ?_
      rw[hashByValue_scannable 8 hsc]
      refine wpAny_pure (ZO ?_ ho hex hd hel1 hp1 hb1 ?_ ?_ λh' sb S'=> ?_)
      · intro b s1 R q
        cases b
        ·exact wpAny_pure q
        ·exact wpAny_rule q
      · split
        ·exact f1
        ·exact SetTable.fits_plain_off f1
      · split
        ·exact L1
        ·exact L1.plainOff
      ·dsimp only;exact wpAny_pure (h _ h' sb S')
    · refine wpAny_bind (wpAny_pure ?_)
      rw[if_pos rfl]
      refine ZO ?_ ho hex hd hel1 hp1 hb1 f1 L1 λh' sb S'=> ?_
      · intro b s1 R q
        cases b
        ·exact wpAny_pure q
        ·exact wpAny_rule q
      ·dsimp only;exact wpAny_pure (h _ h' sb S')
theorem IntSet.at{h h':Heap}{a:Addr}{ms:List Int}(x:IntSet P w h a ms)(k:∀ o,h.get? a=some o->h'.get? a=some o):IntSet P w h' a ms:=by
 obtain⟨o,es,ep,t,ho,r⟩:=x
 exact⟨o,es,ep,t,k _ ho,r⟩
end
section
variable{P:Program}{w:World}{A:Around}{R:Result->Shared->Prop}{I:Addr}{fp wr:List Addr}{G:Array GenState->Array GenState->Prop}{n:Nat}{T:Nat->Value->Prop}{St:Nat->Shared->Prop}
theorem uO(W:WalksS P w A.in1 I fp wr G n T St)(a:Addr)(ha:a∉fp)(val:Nat->Int)(hv:∀ i v,T i v->∃ t,v=.int (val i) t)(hb:n+1<scanBound):∀ (k i:Nat) (s:Shared),n - i=k->i<=n->St i s →
  IntSet P w s.heap a (firstMet val i)->(∀ s',Moved (a::wr) G s s'->IntSet P w s'.heap a (firstMet val n)->R (.ok (.ret .none)) s') →
  codeAny (model P w) A (.builtin "set.update.loop" ⟨[.ref a,.ref I],[]⟩) R s:=by
 have haw:a∉wr:=λz=>ha (W.sub _ z)
 have up:∀ b∈wr,b∈a::wr:=λb q=>List.mem_cons_of_mem _ q
 intro k
 induction k with
 | zero =>
  intro i s e1 e2 st S q
  obtain rfl:i=n:=by omega
  refine codeAny_builtin PyProof.Rows.F.entry_set_update_loop ?_
  rw[Around.under_plainId PyProof.Rows.F.plain_set_update_loop _]
  show wpAny _ A.in1 (pyNext (.ref I) >>= _) _ _ s
  refine wpAny_bind (W.done s _ _ st λs' m=> ?_)
  show wpAny _ A.in1 (ret Value.none) _ _ s'
  exact wpAny_pure (q s' (m.mono up) (S.at λo e=>m.heap a o haw e))
 | succ k ih =>
  intro i s e1 e2 st S q
  have hi:i<n:=by omega
  refine codeAny_builtin PyProof.Rows.F.entry_set_update_loop ?_
  rw[Around.under_plainId PyProof.Rows.F.plain_set_update_loop _]
  show wpAny _ A.in1 (pyNext (.ref I) >>= _) _ _ s
  refine wpAny_bind (W.item i s _ _ hi st λv s1 tv st1 m=> ?_)
  obtain⟨t,rfl⟩:=hv i v tv
  have S1:=S.at λo e=>m.heap a o haw e
  show wpAny _ A.in1 (holding [Value.int (val i) t] (setAdd a (.int (val i) t)) >>= _) _ _ s1
  refine wpAny_bind (wpAny_holding ?_)
  unfold setAdd
  refine wpAny_holding (wpAny_bind ((intKind P w).pyHash (k:=val i) (intKind_is ..) ?_))
  refine uN (s:={ s1 with toks:=s1.toks+1 }) S1 (by have:=firstMet_length_le val i;omega) λb h' sb S2=> ?_
  rw[<-firstMet_succ]at S2
  refine wpAny_pure ⟨plainId_quiet PyProof.Rows.F.plain_set_update_loop _,ih (i+1) _ (by omega) hi (W.frame _ s1 _ _ st1 (Nat.le_succ _) λb hb o e=> ?_) S2 λs2 m2 S3=> ?_⟩
  ·rw[sb.2 b λz:b=a=>ha (z ▸ hb)];exact e
  ·refine q s2 (Moved.trans W.gtrans ((m.mono up).then_heap (Nat.le_succ _) λb o hb e=> ?_) m2) S3
   rw[sb.2 b λz:b=a=>hb (z ▸ List.mem_cons_self)];exact e
end
section
variable{P:Program}{w:World}{A:Around}{E:Value->Shared->Prop}{s:Shared}
theorem uP{x:Value}{Q:Value->Shared->Prop}(h:Q (.ref s.heap.objs.size) { s with heap:=s.heap.push { cls:=.type "set",dict:=none,data:=.set #[] 0 (.fresh 0 0 (IK w)) } }) :
  codeAny (model P w) A (.call (.builtin "set.__new__") ⟨[.type "set",x],[]⟩) (wants Q E) s:=by
 refine codeAny_of_tree ?_
 show wpAny _ A.in1 (checkBuiltinCall "set.__new__" ⟨[.type "set",x],[]⟩ >>= λ_=>again (.builtin "set.__new__" ⟨[.type "set",x],[]⟩)) _ _ s
 refine wpAny_bind (wpAny_of_eq (PySem.F.newCall_set_1 x) (wpAny_pure ⟨plainId_quiet PySem.F.plain_set_new _,codeAny_builtin PySem.F.entry_set_new ?_⟩))
 rw[Around.under_plainId PySem.F.plain_set_new _]
 unfold Builtin.«set.__new__» Builtin.Frozenset.newClass
 have e:=sub_set_self
 obtain⟨hp,g,d,tk,os⟩:=s
 dsimp only
 wp_walk
 refine wpAny_askSetting (wpAny_pure ?_)
 dsimp only
 simp only[newObj]
 exact wpAny_bind (wpAny_alloc (wpAny_pure (wpAny_pure h)))
end
end L2
namespace L2
open PySem PyProof.Rows
abbrev FZ(f:Value)(i:Nat)(a:Addr)(n ep:Nat):Obj:={ cls:=.type "set_iterator",dict:=none,data:=.fields #[f,rawInt i,.ref a,rawInt n,rawInt ep],slots:= #[] }
theorem F1:Slot "set_iterator" "__next__" "set_iterator.__next__" :=
 .of (owner:="set_iterator") (n:="__next__") (by rw[typeLookup_type,builtinLookup_eq_fast];kernel_rfl) (by decide +kernel) (by decide +kernel) (by decide +kernel)
  (by first | exact .inl (by decide +kernel) | exact .inr (by decide +kernel))
  (by rw[isSubtype_type];kernel_rfl)
theorem QD:entryFor table "set_iterator.__next__"=some Builtin.«set_iterator.__next__» :=entryFor_of_fast (by kernel_rfl)
theorem QE(a:Value):argsOk "set_iterator.__next__" ⟨[a],[]⟩:=by
 unfold argsOk
 kernel_rfl
theorem ZR:Slot "set_iterator" "__iter__" "set_iterator.__iter__" :=
 .of (owner:="set_iterator") (n:="__iter__") (by rw[typeLookup_type,builtinLookup_eq_fast];kernel_rfl) (by decide +kernel) (by decide +kernel) (by decide +kernel)
  (by first | exact .inl (by decide +kernel) | exact .inr (by decide +kernel))
  (by rw[isSubtype_type];kernel_rfl)
section
variable{P:Program}{w:World}{A:Around}{E:Value->Shared->Prop}{s:Shared}
theorem uQ{it a:Addr}{sl i n ep nx:Nat}{x:Value}{o:Obj}{es:Array (Int × Value)}{ep':Nat}{t:SetTable}{Q:Option Value->Shared->Prop}(hit:s.heap.get? it=some (FZ (rawInt sl) i a n ep))
  (ho:s.heap.get? a=some o) (hd:o.data=.set es ep' t) (hf:t.fits es.size=true) (hn:es.size=n)
  (hs:∀ (A':Around) (E':Value->Shared->Prop) (Q':Option (Value × Nat)->Shared->Prop),Q' (some (x,nx)) s->wpAny (model P w) A' (setNext a sl i ep) Q' E' s)
  (q:∀ h',h'.get? it=some (FZ (rawInt nx) (i+1) a n ep)->Heap.SameBut it s.heap h'->Q (some x) { s with heap:=h' }):wpAny (model P w) A (pyNext (.ref it)) Q E s:=by
 have T:s.TypeIs (.ref it) "set_iterator":=⟨_,hit,rfl⟩
 unfold pyNext
 refine wpAny_bind (wpAny_attempt (wpAny_callSpecial?_slot (name:=Str.ofString "__next__") T F1 (wpAny_call_entry F1 T QD ?_ (QE _))))
 unfold Builtin.«set_iterator.__next__»
 refine wpAny_bind (wpAny_pure ?_)
 refine wpAny_bind (wpAny_fieldsOf hit rfl ?_)
 show wpAny _ _ (setEntries a >>= _) _ _ s
 refine wpAny_bind (wpAny_setEntries_of ho hd hf ?_)
 rw[if_neg (by rw[hn];simp)]
 show wpAny _ _ (setNext a (sl:Int).toNat (i:Int).toNat (ep:Int).toNat >>= _) _ _ s
 rw[Int.toNat_natCast,Int.toNat_natCast,Int.toNat_natCast]
 refine wpAny_bind (hs _ _ _ ?_)
 dsimp only
 refine wpAny_bind (wpAny_setField_rec hit (by simp) λh1 g1 b1=> ?_)
 refine wpAny_bind (wpAny_setField_rec g1 (by simp) λh2 g2 b2=> ?_)
 exact wpAny_pure ⟨_,rfl,wpAny_pure (q h2 g2 (b1.trans b2))⟩
theorem ZS{it:Addr}{h1:Heap}{Q:Except Value (Option Value)->Shared->Prop}(hh:A.handled=none)(hx:Heap.ExtBut it s.heap h1)
  (q:∀ h' e,Heap.ExtBut it s.heap h'->({ s with heap:=h' }:Shared).TypeIs e "StopIteration"->Q (.error e) { s with heap:=h' }) :
  wpAny (model P w) A (newExc (.type "StopIteration") [] >>= raiseNew (α :=Fin)) (λ_ _=>False) (λe=>Q (.error e)) { s with heap:=h1 }:=by
 refine wpAny_bind ?_
 simp only[newExc,newTuple]
 refine wpAny_bind (wpAny_newObj_type ?_ (by size_fits))
 refine wpAny_bind (m:=firstArgMember _ _) (wpAny_of_eq (a:=Value.none) (by first | rfl | (simp only[firstArgMember];rfl)) ?_)
 refine wpAny_newObj_type ?_ (by size_fits)
 simp only[raiseNew]
 refine wpAny_bind (wpAny_handled ?_)
 rw[hh]
 refine wpAny_bind (wpAny_pure (wpAny_throw ?_))
 exact q _ _ ((hx.push _).push _) ⟨_,Heap.get?_push_size _ rfl,rfl⟩
theorem uR{it a:Addr}{sl i n ep:Nat}{o:Obj}{es:Array (Int × Value)}{ep':Nat}{t:SetTable}{Q:Option Value->Shared->Prop}(hh:A.handled=none)(hit:s.heap.get? it=some (FZ (rawInt sl) i a n ep))
  (ho:s.heap.get? a=some o) (hd:o.data=.set es ep' t) (hf:t.fits es.size=true) (hn:es.size=n)
  (hs:∀ (A':Around) (E':Value->Shared->Prop) (Q':Option (Value × Nat)->Shared->Prop),Q' none s->wpAny (model P w) A' (setNext a sl i ep) Q' E' s)
  (q:∀ h',Heap.ExtBut it s.heap h'->Q none { s with heap:=h' }):wpAny (model P w) A (pyNext (.ref it)) Q E s:=by
 have T:s.TypeIs (.ref it) "set_iterator":=⟨_,hit,rfl⟩
 unfold pyNext
 refine wpAny_bind (wpAny_attempt (wpAny_callSpecial?_slot (name:=Str.ofString "__next__") T F1 (wpAny_call_entry F1 T QD ?_ (QE _))))
 unfold Builtin.«set_iterator.__next__»
 refine wpAny_bind (wpAny_pure ?_)
 refine wpAny_bind (wpAny_fieldsOf hit rfl ?_)
 show wpAny _ _ (setEntries a >>= _) _ _ s
 refine wpAny_bind (wpAny_setEntries_of ho hd hf ?_)
 rw[if_neg (by rw[hn];simp)]
 show wpAny _ _ (setNext a (sl:Int).toNat (i:Int).toNat (ep:Int).toNat >>= _) _ _ s
 rw[Int.toNat_natCast,Int.toNat_natCast,Int.toNat_natCast]
 refine wpAny_bind (hs _ _ _ ?_)
 dsimp only
 refine wpAny_bind (wpAny_setField_rec hit (by simp) λh1 g1 b1=> ?_)
 refine wpAny_mono (ZS (s:=s) (it:=it) (A:=A.in1) (Q:=λr s'=>match r with
  | .error e=>wpAny (model P w) A (isInstance e (.type "StopIteration") >>= λb=>if b=true then pure none else throw e) Q E s'
  | _=>False) (by simpa using hh) b1.extBut λh' e hx te=> ?_) (λ_ _ z=>z.elim) (λe s' z=>z)
 refine wpAny_bind (wpAny_isInstance (T:="StopIteration") (b:=true) te isSubtype_stop ?_)
 exact wpAny_pure (q _ hx)
theorem uS{it a tp:Addr}{i n ep pl:Nat}{ot:Obj}{ps:Array Value}{k:Nat}{x:Int × Value}{o:Obj}{es:Array (Int × Value)}{t:SetTable}{Q:Option Value->Shared->Prop}(hit:s.heap.get? it=some (FZ (.ref tp) i a n ep))
  (ho:s.heap.get? a=some o) (hd:o.data=.set es ep t) (hf:t.fits es.size=true) (hn:es.size=n) (ht:s.heap.get? tp=some ot) (hdt:ot.data=.seq ps k) (hp:ps[i]? =some (rawInt pl)) (hx:es[pl]? =some x)
  (q:∀ h',h'.get? it=some (FZ (.ref tp) (i+1) a n ep)->Heap.SameBut it s.heap h'->Q (some x.2) { s with heap:=h' }):wpAny (model P w) A (pyNext (.ref it)) Q E s:=by
 have T:s.TypeIs (.ref it) "set_iterator":=⟨_,hit,rfl⟩
 unfold pyNext
 refine wpAny_bind (wpAny_attempt (wpAny_callSpecial?_slot (name:=Str.ofString "__next__") T F1 (wpAny_call_entry F1 T QD ?_ (QE _))))
 unfold Builtin.«set_iterator.__next__»
 refine wpAny_bind (wpAny_pure ?_)
 refine wpAny_bind (wpAny_fieldsOf hit rfl ?_)
 show wpAny _ _ (setEntries a >>= _) _ _ s
 refine wpAny_bind (wpAny_setEntries_of ho hd hf ?_)
 rw[if_neg (by rw[hn];simp)]
 show wpAny _ _ (seqItems? (.ref tp) >>= _) _ _ s
 refine wpAny_bind (wpAny_seqItems ht hdt ?_)
 dsimp only
 rw[Int.toNat_natCast,hp]
 show wpAny _ _ (setNextDrawn a (pl:Int).toNat (ep:Int).toNat >>= _) _ _ s
 rw[Int.toNat_natCast,Int.toNat_natCast]
 unfold setNextDrawn
 refine wpAny_bind (wpAny_bind (wpAny_setState_of ho hd hf ?_))
 dsimp only
 rw[if_neg (by simp)]
 obtain⟨x1,x2⟩:=x
 rw[hx]
 refine wpAny_pure ?_
 refine wpAny_bind (wpAny_setField_rec hit (by simp) λh2 g2 b2=> ?_)
 exact wpAny_pure ⟨_,rfl,wpAny_pure (q h2 g2 b2)⟩
theorem uT{it a tp:Addr}{i n ep:Nat}{ot:Obj}{ps:Array Value}{k:Nat}{o:Obj}{es:Array (Int × Value)}{t:SetTable}{Q:Option Value->Shared->Prop}(hh:A.handled=none)(hit:s.heap.get? it=some (FZ (.ref tp) i a n ep))
  (ho:s.heap.get? a=some o) (hd:o.data=.set es ep t) (hf:t.fits es.size=true) (hn:es.size=n) (ht:s.heap.get? tp=some ot) (hdt:ot.data=.seq ps k) (hp:ps[i]? =none)
  (q:∀ h',Heap.ExtBut it s.heap h'->Q none { s with heap:=h' }):wpAny (model P w) A (pyNext (.ref it)) Q E s:=by
 have T:s.TypeIs (.ref it) "set_iterator":=⟨_,hit,rfl⟩
 unfold pyNext
 refine wpAny_bind (wpAny_attempt (wpAny_callSpecial?_slot (name:=Str.ofString "__next__") T F1 (wpAny_call_entry F1 T QD ?_ (QE _))))
 unfold Builtin.«set_iterator.__next__»
 refine wpAny_bind (wpAny_pure ?_)
 refine wpAny_bind (wpAny_fieldsOf hit rfl ?_)
 show wpAny _ _ (setEntries a >>= _) _ _ s
 refine wpAny_bind (wpAny_setEntries_of ho hd hf ?_)
 rw[if_neg (by rw[hn];simp)]
 show wpAny _ _ (seqItems? (.ref tp) >>= _) _ _ s
 refine wpAny_bind (wpAny_seqItems ht hdt ?_)
 dsimp only
 rw[Int.toNat_natCast,hp]
 dsimp only
 refine wpAny_bind (wpAny_setField_rec hit (by simp) λh1 g1 b1=> ?_)
 refine wpAny_bind (wpAny_setField_rec g1 (by simp) λh2 g2 b2=> ?_)
 refine wpAny_mono (ZS (s:=s) (it:=it) (A:=A.in1) (Q:=λr s'=>match r with
  | .error e=>wpAny (model P w) A (isInstance e (.type "StopIteration") >>= λb=>if b=true then pure none else throw e) Q E s'
  | _=>False) (by simpa using hh) (b1.trans b2).extBut λh' e hx te=> ?_) (λ_ _ z=>z.elim) (λe s' z=>z)
 refine wpAny_bind (wpAny_isInstance (T:="StopIteration") (b:=true) te isSubtype_stop ?_)
 exact wpAny_pure (q _ hx)
theorem uU{a:Addr}{o:Obj}{es:Array (Int × Value)}{ep:Nat}{t:SetTable}{i:Nat}{Q:Option (Value × Nat)->Shared->Prop}(ft:w.params.followText "set-order"=true)(ho:s.heap.get? a=some o)(hd:o.data=.set es ep t)(hf:t.fits es.size=true)
  (q:Q (((pickOrder (w.params.setOrder a ep) es)[i]?).map λe=>(e.2,0)) s):wpAny (model P w) A (setNext a 0 i ep) Q E s:=by
 unfold setNext
 refine wpAny_bind (wpAny_setState_of ho hd hf ?_)
 dsimp only
 refine wpAny_bind ?_
 unfold setsByText
 refine wpAny_bind (wpAny_askSetting (wpAny_pure ?_))
 show wpAny _ _ (if w.params.followText "set-order"=true then _ else _) _ _ s
 rw[if_pos ft,if_neg (by simp)]
 refine wpAny_bind ?_
 unfold setWalk
 refine wpAny_bind (wpAny_setState_of ho hd hf ?_)
 dsimp only
 refine wpAny_bind ?_
 unfold setsByText
 refine wpAny_bind (wpAny_askSetting (wpAny_pure ?_))
 show wpAny _ _ (if w.params.followText "set-order"=true then _ else _) _ _ s
 rw[if_pos ft]
 refine wpAny_bind (wpAny_askSetting (wpAny_pure ?_))
 exact wpAny_pure q
theorem uV{a:Addr}{o:Obj}{es:Array (Int × Value)}{ep:Nat}{t:SetTable}{i:Nat}{Q:Option (Value × Nat)->Shared->Prop}(ft:w.params.followText "set-order"=false)(ho:s.heap.get? a=some o)(hd:o.data=.set es ep t)(hf:t.fits es.size=true)
  (L:Led (IK w) t) (pl:(!t.plain && decide (es.size > 1))=false) (hi:i<=es.size) (q:Q ((es[i]?).map λe=>(e.2,KJ t.place (i+1))) s):wpAny (model P w) A (setNext a (KJ t.place i) i ep) Q E s:=by
 have hz:t.place.size=es.size:=by
  unfold SetTable.fits at hf
  simp only[Bool.and_eq_true,beq_iff_eq]at hf
  exact hf.1
 unfold setNext
 refine wpAny_bind (wpAny_setState_of ho hd hf ?_)
 dsimp only
 refine wpAny_bind ?_
 unfold setsByText
 refine wpAny_bind (wpAny_askSetting (wpAny_pure ?_))
 show wpAny _ _ (if w.params.followText "set-order"=true then _ else _) _ _ s
 rw[if_neg (show ¬ w.params.followText "set-order"=true by rw[ft];exact Bool.false_ne_true)]
 have ld:t.led=true:=by rw[L.led];unfold IK;rw[ft];rfl
 show wpAny _ _ (if(!t.plain && decide (es.size > 1))=true then _ else _) _ _ s
 rw[if_neg (by rw[pl];exact Bool.false_ne_true)]
 refine wpAny_bind (m:=if(!t.led && !es.isEmpty)=true then _ else _) ?_
 rw[if_neg (by rw[ld];simp)]
 refine wpAny_pure (wpAny_pure ?_)
 rw[uL L.rise (by omega)]
 by_cases hlt:i<es.size
 ·have h2:i<t.place.size:=by omega
  rw[Array.getElem?_eq_getElem hlt,Array.getElem?_eq_getElem h2]
  rw[Array.getElem?_eq_getElem hlt]at q
  have:KJ t.place (i+1)=t.place[i]+1:=by simp[KJ,h2]
  rw[Option.map_some,this]at q
  exact q
 ·rw[Array.getElem?_eq_none (by omega)]
  rw[Array.getElem?_eq_none (by omega),Option.map_none]at q
  exact q
end
end L2
namespace L2
open PySem PyProof.Rows
theorem uW:entryFor table "set.__iter__"=some Builtin.«frozenset.__iter__» :=entryFor_alias (id':="frozenset.__iter__") (by kernel_rfl) rfl (by decide +kernel) (by kernel_rfl)
theorem uX:entryFor table "set_iterator.__iter__"=some Builtin.«dict_keyiterator.__iter__» :=entryFor_alias (id':="dict_keyiterator.__iter__") (by kernel_rfl) rfl (by decide +kernel) (by kernel_rfl)
theorem uY(a:Value):argsOk "set_iterator.__iter__" ⟨[a],[]⟩:=by
 unfold argsOk
 kernel_rfl
structure S4(P:Program)(w:World)(A:Around)(h h1:Heap)(a I:Addr)(ms:List Int):Prop where
 ex:∃ (fp:List Addr) (ord:List Value) (ks:List Int) (St:Nat->Heap->Prop),(∀ b∈fp,b=a\/h.objs.size<=b)/\Walks P w A I fp [I] ord.length (λi v=>ord[i]? =some v) St/\St 0 h1/\IntsAre ord ks/\ks.Perm ms
 new:h.objs.size<=I
section
variable{P:Program}{w:World}{A:Around}{E:Value->Shared->Prop}{s:Shared}
theorem S5:∀ {es:List (Int × Value)},ElemsOf (intKind P w) es->IntsAre (es.map (·.2)) (es.map λe=>iv e.2)
 | [],_=>.nil
 | e::r,h=>by
  obtain⟨t,z⟩:=S0 h (List.mem_cons_self ..)
  have:=S5 h.tail
  rw[List.map_cons,List.map_cons,z]
  exact .cons _ _ this
theorem ZT{it:Addr}{f:Value}{i:Nat}{a:Addr}{n ep:Nat}{Q:Value->Shared->Prop}(hit:s.heap.get? it=some (FZ f i a n ep))(q:Q (.ref it) s):wpAny (model P w) A (pyIter (.ref it)) Q E s:=by
 have T:s.TypeIs (.ref it) "set_iterator":=⟨_,hit,rfl⟩
 refine wpAny_pyIter_slot T ZR (wpAny_call_entry ZR T uX ?_ (uY _))
 show wpAny _ _ (ret (.ref it)) _ _ s
 exact wpAny_pure ⟨_,rfl,"set_iterator",_,T,F1.lookup,q⟩
theorem uZ{a I:Addr}{es:Array (Int × Value)}{ep:Nat}{t:SetTable}{o:Obj}{f:Nat->Nat}{ord:List Value}(hh:A.handled=none)(hne:a≠I)(hd:o.data=.set es ep t)(hf:t.fits es.size=true)(hl:ord.length=es.size)
  (nx:∀ (s:Shared),s.heap.get? a=some o->∀ (i:Nat),i<=es.size->∀ (A':Around) (E':Value->Shared->Prop) (Q':Option (Value × Nat)->Shared->Prop),Q' ((ord[i]?).map λv=>(v,f (i+1))) s->wpAny (model P w) A' (setNext a (f i) i ep) Q' E' s) :
  Walks P w A I [I,a] [I] ord.length (λi v=>ord[i]? =some v) (λi h=>h.get? I=some (FZ (rawInt (f i)) i a es.size ep)/\h.get? a=some o) where
 sub:=λb hb=>by simp at hb;simp[hb]
 frame:=λ_ _ _ st k=>⟨k I (by simp) _ st.1,k a (by simp) _ st.2⟩
 item:=λi s Q E hi st q=>by
  have e:ord[i]? =some ord[i]:=List.getElem?_eq_getElem hi
  refine uQ st.1 st.2 hd hf rfl (λA' E' Q' q'=>nx s st.2 i (by omega) A' E' Q' (by rw[e];exact q')) λh' g b=> ?_
  exact q _ h' s.toks e ⟨g,b.extBut a _ hne st.2⟩ λc u hc z=>b.extBut c u (λy=>hc (by simp[y])) z
 done:=λs Q E st q=>by
  refine uR hh st.1 st.2 hd hf rfl (λA' E' Q' q'=>nx s st.2 ord.length (by omega) A' E' Q' (by rw[List.getElem?_eq_none (Nat.le_refl _)];exact q')) λh' x=> ?_
  exact q h' s.toks λc u hc z=>x c u (λy=>hc (by simp[y])) z
 self:=λ_ _ _ _ st q=>ZT st.1 q
theorem u1{a I tp:Addr}{es:Array (Int × Value)}{ep k:Nat}{t:SetTable}{o ot:Obj}{pl:List Nat}{ord:List Value}(hh:A.handled=none)(hne:a≠I)(hnt:tp≠I)(hd:o.data=.set es ep t)(hf:t.fits es.size=true)
  (hdt:ot.data=.seq (pl.map λ(i:Nat)=>rawInt i).toArray k) (hl:ord.length=pl.length) (hx:∀ (i p:Nat),pl[i]? =some p->∃ e:Int × Value,es[p]? =some e/\ord[i]? =some e.2) :
  Walks P w A I [I,a,tp] [I] ord.length (λi v=>ord[i]? =some v) (λi h=>h.get? I=some (FZ (.ref tp) i a es.size ep)/\h.get? a=some o/\h.get? tp=some ot) where
 sub:=λb hb=>by simp at hb;simp[hb]
 frame:=λ_ _ _ st k=>⟨k I (by simp) _ st.1,k a (by simp) _ st.2.1,k tp (by simp) _ st.2.2⟩
 item:=λi s Q E hi st q=>by
  have hi':i<pl.length:=by omega
  have e:=List.getElem?_eq_getElem hi'
  obtain⟨x,e1,e2⟩:=hx i _ e
  refine uS st.1 st.2.1 hd hf rfl st.2.2 hdt (by rw[List.getElem?_toArray,List.getElem?_map,e];rfl) e1 λh' g b=> ?_
  exact q _ h' s.toks e2 ⟨g,b.extBut a _ hne st.2.1,b.extBut tp _ hnt st.2.2⟩ λc u hc z=>b.extBut c u (λy=>hc (by simp[y])) z
 done:=λs Q E st q=>by
  refine uT hh st.1 st.2.1 hd hf rfl st.2.2 hdt (by rw[List.getElem?_toArray,List.getElem?_map,List.getElem?_eq_none (by omega)];rfl) λh' x=> ?_
  exact q h' s.toks λc u hc z=>x c u (λy=>hc (by simp[y])) z
 self:=λ_ _ _ _ st q=>ZT st.1 q
theorem u3{n:Nat}{Q:Nat->Shared->Prop}(hn:n≠0)(q:∀ i d,i<n->Q i { s with drawn:=d }):wpAny (model P w) A (choose .order n) Q E s:=fun Γ p hΓ =>by
 show Sem.wp _ _ (.choose .order n .pure) _ _ _ _
 rw[Sem.wp_choose]
 refine⟨hn,?_⟩
 show Sem.wp _ _ (.pure _) _ _ _ _
 rw[Sem.wp]
 exact q _ _ (Nat.mod_lt _ (Nat.pos_of_ne_zero hn))
theorem ZU{α :Type}:∀ (n:Nat) (xs:List α) (s:Shared) (Q:List α ->Shared->Prop),xs.length=n->(∀ ys d,List.Perm ys xs->Q ys { s with drawn:=d })->wpAny (model P w) A (drawOrder n xs) Q E s
 | 0,xs,s,Q,hn,q=>by
  have:xs=[]:=List.length_eq_zero_iff.mp hn
  subst this
  unfold drawOrder
  exact wpAny_pure (q [] s.drawn .nil)
 | n+1,[],s,Q,hn,q=>by cases hn
 | n+1,x::r,s,Q,hn,q=>by
  unfold drawOrder
  refine wpAny_bind (u3 (by simp) λi d hi=> ?_)
  rw[List.getElem?_eq_getElem hi]
  dsimp only
  refine wpAny_bind (ZU n _ _ _ (by rw[List.length_eraseIdx_of_lt hi,hn];rfl) λys d' p=> ?_)
  refine wpAny_pure (q _ d' ?_)
  refine(List.Perm.cons _ p).trans ?_
  rw[List.eraseIdx_eq_take_drop_succ]
  refine List.perm_middle.symm.trans ?_
  rw[<-List.drop_eq_getElem_cons hi,List.take_append_drop]
theorem u4 {a:Addr} {ms:List Int} {Q:Value->Shared->Prop} (hh:A.handled=none) (S:IntSet P w s.heap a ms)
    (q:∀ I h1 d1,(∀ b o,s.heap.get? b=some o->h1.get? b=some o)->S4 P w A s.heap h1 a I ms->Q (.ref I) { s with heap:=h1,drawn:=d1 }):wpAny (model P w) A (pyIter (.ref a)) Q E s:=by
  obtain⟨o,es,ep,t,ho,hex,hd,hel,hp,hb,hf,L⟩:=S
  have T:s.TypeIs (.ref a) "set":=⟨o,ho,hex.1⟩
  have hlt:a<s.heap.objs.size:=Heap.lt_size ho
  refine wpAny_pyIter_slot T PySem.F.slot_set_iter (wpAny_call_entry PySem.F.slot_set_iter T uW ?_ (PySem.F.args_set_iter_1 _))
  unfold Builtin.«frozenset.__iter__»
  show wpAny _ _ ((pure a:Sem Addr) >>= _) _ _ s
  refine wpAny_bind (wpAny_pure ?_)
  refine wpAny_bind ?_
  unfold Builtin.Frozenset.sizeOf
  refine wpAny_bind (wpAny_setEntries_of ho hd hf (wpAny_pure ?_))
  refine wpAny_bind ?_
  unfold setDrawn
  refine wpAny_bind (wpAny_setState_of ho hd hf ?_)
  dsimp only
  refine wpAny_bind ?_
  unfold setsByText
  refine wpAny_bind (wpAny_askSetting (wpAny_pure (wpAny_pure ?_)))
  show wpAny _ _ (if(!w.params.followText "set-order" && (!t.plain && decide (es.size > 1)))=true then _ else _) _ _ s
  have plain:∀ (f:Nat->Nat) (ord:List Value),f 0=0->ord.length=es.size->(∃ ks,IntsAre ord ks/\ks.Perm ms) →
      (∀ (s:Shared),s.heap.get? a=some o->∀ (i:Nat),i<=es.size->∀ (A':Around) (E':Value->Shared->Prop) (Q':Option (Value × Nat)->Shared->Prop),Q' ((ord[i]?).map λv=>(v,f (i+1))) s->wpAny (model P w) A' (setNext a (f i) i ep) Q' E' s) →
      S4 P w A s.heap (s.heap.push (FZ (rawInt 0) 0 a es.size ep)) a s.heap.objs.size ms:=λf ord f0 hl ⟨ks,hi,pk⟩ nx =>
    ⟨⟨_,ord,ks,_,λb hb=>by
        simp only[List.mem_cons,List.not_mem_nil,or_false]at hb
        rcases hb with rfl | rfl
        ·exact .inr (Nat.le_refl _)
        ·exact .inl rfl,uZ hh (Nat.ne_of_lt hlt) hd hf hl nx,⟨by rw[f0];exact Heap.get?_push_size _ rfl,Heap.get?_push_of_some _ ho⟩,hi,pk⟩,Nat.le_refl _⟩
  have fin:∀ (W:S4 P w A s.heap (s.heap.push (FZ (rawInt 0) 0 a es.size ep)) a s.heap.objs.size ms),
      wpAny (model P w) A.in1 (do
        let first ← (pure (rawInt 0):Sem Value)
        ret (← newFields "set_iterator" [first,rawInt 0,.ref a,rawInt es.size,rawInt (← setEpoch a)])) (λfin s'=>∃ v,fin=.done (.ret v)/\∃ T' r,s'.TypeIs v T'/\typeLookup (.type T') "__next__"=pure (some r)/\Q v s') E s:=λW=>by
    refine wpAny_bind (wpAny_pure ?_)
    refine wpAny_bind (wpAny_setEpoch_of ho hd hf ?_)
    refine wpAny_bind (wpAny_newObj_type (wpAny_pure ⟨_,rfl,"set_iterator",_,⟨_,Heap.get?_push_size _ rfl,rfl⟩,F1.lookup,?_⟩))
    exact q _ _ s.drawn (λb u e=>Heap.get?_push_of_some _ e) W
  cases ft:w.params.followText "set-order" with
  | true =>
    rw[if_neg (by simp)]
    have pk:=uM (w.params.setOrder a ep) es
    have hl:(pickOrder (w.params.setOrder a ep) es).size=es.size:=by rw[<-Array.length_toList,pk.length_eq,Array.length_toList]
    refine fin (plain (λ_=>0) ((pickOrder (w.params.setOrder a ep) es).toList.map (·.2)) rfl (by rw[List.length_map,Array.length_toList,hl]) ⟨_,S5 (hel.perm pk),(pk.map _).trans hp⟩ λs1 h1 i hi A' E' Q' q'=> ?_)
    refine uU ft h1 hd hf ?_
    rw[List.getElem?_map,Array.getElem?_toList,Option.map_map]at q'
    exact q'
  | false =>
    cases pl:(!t.plain && decide (es.size > 1))with
    | false =>
      rw[if_neg (by simp)]
      refine fin (plain (KJ t.place) (es.toList.map (·.2)) rfl (by rw[List.length_map,Array.length_toList]) ⟨_,S5 hel,hp⟩ λs1 h1 i hi A' E' Q' q'=> ?_)
      refine uV ft h1 hd hf L pl hi ?_
      rw[List.getElem?_map,Array.getElem?_toList,Option.map_map]at q'
      exact q'
    | true =>
      rw[if_pos (by simp)]
      refine wpAny_bind (ZU es.size (List.range es.size) s _ (List.length_range) λys d p=> ?_)
      have hy:ys.length=es.size:=by rw[p.length_eq,List.length_range]
      have hys:∀ x∈ys,x<es.size:=λx hx=>List.mem_range.mp (p.mem_iff.mp hx)
      refine wpAny_bind (wpAny_newTuple ?_ (by rw[List.length_map,hy];exact fits_of_scanBound hb))
      refine wpAny_bind (wpAny_setEpoch_of (o:=o) (Heap.get?_push_of_some _ ho) hd hf ?_)
      refine wpAny_bind (wpAny_newObj_type (wpAny_pure ⟨_,rfl,"set_iterator",_,⟨_,Heap.get?_push_size _ rfl,rfl⟩,F1.lookup,?_⟩))
      refine q _ _ d (λb u e=>Heap.get?_push_of_some _ (Heap.get?_push_of_some _ e)) ⟨⟨_,ys.map λp=>(es[p]?.map (·.2)).getD .none,ys.map λp=>(es[p]?.map λe=>iv e.2).getD 0,_,λb hb=> ?_,
        u1 hh ?_ ?_ hd hf rfl (by rw[List.length_map]) λi p e=> ?_,⟨Heap.get?_push_size _ rfl,Heap.get?_push_of_some _ (Heap.get?_push_of_some _ ho),Heap.get?_push_of_some _ (Heap.get?_push_size _ rfl)⟩,?_,?_⟩,?_⟩
      · simp only[List.mem_cons,List.not_mem_nil,or_false]at hb
        rcases hb with rfl | rfl | rfl
        ·right;rw[size_push'];exact Nat.le_succ _
        ·exact .inl rfl
        ·exact .inr (Nat.le_refl _)
      ·rw[size_push'];exact Nat.ne_of_lt (Nat.lt_succ_of_lt hlt)
      ·rw[size_push'];exact Nat.ne_of_lt (Nat.lt_succ_self _)
      · have hp':p<es.size:=hys p (List.mem_of_getElem? e)
        exact⟨es[p],Array.getElem?_eq_getElem hp',by rw[List.getElem?_map,e];simp[hp']⟩
      · have all:∀ (l:List Nat),(∀ x∈l,x<es.size)->IntsAre (l.map λp=>(es[p]?.map (·.2)).getD .none) (l.map λp=>(es[p]?.map λe=>iv e.2).getD 0):=by
          intro l
          induction l with
          | nil=>exact λ_=>.nil
          | cons x r ih =>
            intro hl
            have hx:=hl x (List.mem_cons_self ..)
            obtain⟨tk,z⟩:=S0 hel (e:=es[x]) (by simp)
            have e1:(es[x]?.map (·.2)).getD Value.none=Value.int (iv es[x].2) tk:=by rw[Array.getElem?_eq_getElem hx];exact z
            have e2:(es[x]?.map λe=>iv e.2).getD 0=iv es[x].2:=by rw[Array.getElem?_eq_getElem hx];rfl
            rw[List.map_cons,List.map_cons,e1,e2]
            exact .cons _ _ (ih λy hy=>hl y (List.mem_cons_of_mem _ hy))
        exact all ys hys
      · refine(p.map _).trans (List.Perm.trans (List.Perm.of_eq ?_) hp)
        refine List.ext_getElem (by simp) λi h1 h2=> ?_
        have hi:i<es.size:=by simpa using h1
        simp[hi]
      ·rw[size_push'];exact Nat.le_succ _
theorem u5{a:Addr}{Q:Bool->Shared->Prop}(T:s.TypeIs (.ref a) "set")(q:Q false s):wpAny (model P w) A (Builtin.List.listLengthHint (.ref a)) Q E s:=by
 unfold Builtin.List.listLengthHint
 refine wpAny_bind (wpAny_specialOf T PySem.F.slot_set_len.lookup ?_)
 generalize hid:("set.__len__":String)=id0
 wp_delta
 rw[show splitId id0=some ("set","__len__")from by subst hid;decide +kernel]
 subst hid
 refine wpAny_bind (wpAny_isInstance (T:="set") (b:=true) T (by rw[isSubtype_type];kernel_rfl) ?_)
 refine wpAny_ite_split (λz=>absurd z (by decide)) (λ_=> ?_)
 refine wpAny_ite_split (λ_=> ?_) (λz=>absurd (by decide +kernel) z)
 exact wpAny_bind (wpAny_typeOf T (wpAny_pure q))
theorem u6{a:Addr}{ms:List Int}{R:List Value->Shared->Prop}(hh:A.handled=none)(S:IntSet P w s.heap a ms)(hn:ms.length<=sizeLine)
  (q:∀ h' tk d vs ks,(∀ b o,s.heap.get? b=some o->h'.get? b=some o)->s.heap.objs.size<=h'.objs.size->IntsAre vs ks->ks.Perm ms->R vs { s with heap:=h',toks:=tk,drawn:=d }):wpAny (model P w) A (collect (.ref a)) R E s:=by
 have hlt:a<s.heap.objs.size:=let ⟨_,_,_,_,ho,_⟩:=S;Heap.lt_size ho
 unfold collect
 refine wpAny_bind (wpAny_runValue (codeAny_builtin entry_proto_collect' ?_))
 rw[Around.under_plainId PySem.F.plain_proto_collect _]
 show wpAny _ A.in1 (newList [] >>= λl=>again (.builtin "list.__iadd__" ⟨[l,.ref a],[]⟩)) _ _ s
 refine wpAny_bind (wpAny_newObj_type ?_)
 refine wpAny_pure ⟨plainId_quiet PySem.F.plain_list_iadd _,codeAny_builtin entry_list_iadd' ?_⟩
 rw[Around.under_plainId PySem.F.plain_list_iadd _]
 show wpAny _ A.in1 (Builtin.List.listExtendWith (.ref s.heap.objs.size) (.ref a) (.ref s.heap.objs.size)) _ _ _
 generalize eN:s.heap.objs.size=N at hlt ⊢
 have gN:(s.heap.push { cls:=.type "list",data:=.seq ([]:List Value).toArray }).get? N=some { cls:=.type "list",data:=.seq #[] }:=eN ▸ Heap.get?_push_size _ rfl
 have keep1:∀ b o,s.heap.get? b=some o->(s.heap.push { cls:=.type "list",data:=.seq ([]:List Value).toArray }).get? b=some o:=λb o e=>Heap.get?_push_of_some _ e
 have S1:=S.at λo e=>keep1 a o e
 have big:(s.heap.push { cls:=.type "list",data:=.seq ([]:List Value).toArray }).objs.size=N+1:=by rw[size_push',eN]
 revert gN keep1 S1 big
 generalize s.heap.push { cls:=.type "list",data:=.seq ([]:List Value).toArray }=h0
 intro gN keep1 S1 big
 have T1:∀ h':Heap,(∀ b o,h0.get? b=some o->h'.get? b=some o)->∀ tk d,({ s with heap:=h',toks:=tk,drawn:=d }:Shared).TypeIs (.ref a) "set":=λh' k tk d=>by
  obtain⟨o,_,_,_,ho,hex,_⟩:=S1
  exact⟨o,k _ _ ho,hex.1⟩
 unfold Builtin.List.listExtendWith
 refine wpAny_bind (wpAny_typeOf (T:="set") (T1 h0 (λ_ _ e=>e) s.toks s.drawn) ?_)
 have ne:Builtin.List.listSameRef (.ref N) (.ref a)=false:=by
  simp only[Builtin.List.listSameRef,beq_eq_false_iff_ne]
  exact Nat.ne_of_gt hlt
 have n1:(Value.type "set" == Value.type "list")=false:=by decide
 have n2:(Value.type "set" == Value.type "tuple")=false:=by decide
 simp only[ne,n1,n2,Bool.or_false,Bool.false_eq_true,if_false]
 refine wpAny_bind (u4 (A:=A.in1) (s:={ s with heap:=h0 }) (by simpa using hh) S1 λI h1 d1 k1 W=> ?_)
 obtain⟨⟨fp,ord,ks,St,hfp,W,st,hi,pk⟩,hI⟩:=W
 have hI:N+1<=I:=big ▸ hI
 have hlen:ord.length=ms.length:=by rw[IntsAre.length hi,pk.length_eq]
 refine wpAny_bind (wpAny_holding (u5 (T1 h1 k1 s.toks d1) ?_))
 rw[if_pos (by decide)]
 refine wpAny_bind (wpAny_rule ?_)
 refine wpAny_bind ?_
 show wpAny _ _ (updateSeq N (·.push .none) >>= λ_=>updateSeq N (·.pop)) _ _ _
 have g1:=k1 _ _ gN
 refine wpAny_bind (wpAny_updateSeq (s:={ s with heap:=h1,drawn:=d1 }) g1 rfl ?_)
 have g2:=Heap.get?_update_self (Obj.mapSeq (·.push Value.none)) g1 rfl
 refine wpAny_updateSeq (hz:=by seq_fits) g2 rfl ?_
 have g3:=Heap.get?_update_self (Obj.mapSeq (·.pop)) g2 rfl
 have oth:∀ b o,b≠N->h1.get? b=some o->((h1.update N (Obj.mapSeq (·.push Value.none))).update N (Obj.mapSeq (·.pop))).get? b=some o:=λb o hb e =>
  (Heap.get?_update_other _ _ (Ne.symm hb)).trans ((Heap.get?_update_other _ _ (Ne.symm hb)).trans e)
 have Nfp:N∉fp:=λz=>by
  rcases hfp N z with y | y
  ·exact Nat.ne_of_gt hlt y
  ·have y':h0.objs.size<=N:=y
   rw[big]at y'
   exact absurd y' (Nat.not_succ_le_self _)
 refine wpAny_pure ⟨plainId_quiet PySem.F.plain_extend_loop _,?_⟩
 refine codeAny_extend_loopS W.toS (by rw[hlen];exact hn) N Nfp (.ref N) ord.length 0 _ #[] _ rfl (Nat.zero_le _) (W.frame 0 _ _ st λb hb o e=>oth b o (λz=>Nfp (z ▸ hb)) e) g3 (ItemsOf.nil _) λs' acc c m g4 hacc=> ?_
 show wpAny _ A (load N >>= _) _ _ _
 refine wpAny_bind (wpAny_load g4 ?_)
 refine wpAny_pure ?_
 have eacc:acc.toList=ord:=by
  refine List.ext_getElem? λi=> ?_
  by_cases hlt':i<ord.length
  ·have h3:i<acc.size:=by rw[hacc.1];exact hlt'
   have:=hacc.2 i acc[i] (Array.getElem?_eq_getElem h3)
   rw[Array.getElem?_toList,Array.getElem?_eq_getElem h3,this]
  ·have e1:acc.toList[i]? =none:=List.getElem?_eq_none (by rw[Array.length_toList,hacc.1];omega)
   have e2:ord[i]? =none:=List.getElem?_eq_none (by omega)
   rw[e1,e2]
 show R acc.toList s'
 rw[eacc]
 obtain⟨h3,gn3,dr3,tk3,os3⟩:=s'
 have a1:gn3=s.gens:=m.gens
 have a2:dr3=d1:=m.drawn
 have a3:os3=s.os:=m.os
 subst a1;subst a2;subst a3
 refine q _ _ dr3 ord ks (λb o e=> ?_) (by rw[eN];exact Nat.le_of_lt (Heap.lt_size g4)) hi pk
 have hb:b<N:=eN ▸ Heap.lt_size e
 refine m.heap b o (λz=> ?_) (oth b o (Nat.ne_of_lt hb) (k1 _ _ (keep1 _ _ e)))
 simp only[List.mem_cons,List.not_mem_nil,or_false]at z
 rcases z with z | z
 ·exact Nat.ne_of_lt hb z
 ·exact Nat.ne_of_lt (Nat.lt_of_lt_of_le (Nat.lt_succ_of_lt hb) hI) z
theorem u7{a:Addr}{ms:List Int}{Q:Value->Shared->Prop}(hh:A.handled=none)(S:IntSet P w s.heap a ms)(hn:ms.length<64)
  (q:∀ D h' tk d c out ks,(∀ b o,s.heap.get? b=some o->h'.get? b=some o)->s.heap.objs.size<=D->h'.get? D=some (seqObj "list" out c)->IntsAre out.toList ks->ks.Perm ms->ks.Pairwise (· <=·)->Q (.ref D) { s with heap:=h',toks:=tk,drawn:=d }) :
  wpAny (model P w) A (call (.builtin "sorted") [.ref a]) Q E s:=by
 refine Calls.call_function_entry kind_sorted plain_sorted entry_sorted (args_sorted1 _) ?_
 unfold Builtin.«sorted»
 refine wpAny_bind (m:=checkCount "sorted" 1 1 _) (wpAny_pure ?_)
 refine wpAny_bind (u6 (A:=A.in1) (by simpa using hh) S (by rw[sizeLine_eq];omega) λh1 tk d vs ks k1 size_le hi pk=> ?_)
 have hl:vs.length<64:=by rw[IntsAre.length hi,pk.length_eq];exact hn
 refine wpAny_bind (wpAny_newList ?_ (by rw[sizeLine_eq];omega))
 have g:(h1.push (seqObj "list" vs.toArray 0)).get? h1.objs.size=some (seqObj "list" vs.toArray 0):=Heap.get?_push_size _ rfl
 show wpAny _ _ _ _ _ { s with heap:=h1.push (seqObj "list" vs.toArray 0),toks:=tk,drawn:=d }
 refine wpAny_bind (wpAny_holding (wpAny_call_entry slot_list_sort ⟨_,g,rfl⟩ entry_list_sort (list_sort_tree g hi hl λout ks' i1 p1 r1=>⟨_,rfl,?_⟩) (args_list_sort _)))
 obtain⟨c,gc⟩:=sortedHeap_at (n:=0) (out:=out) g
 refine wpAny_pure ⟨_,rfl,q _ _ tk d c out ks' (λb o e=> ?_) size_le gc i1 (p1.trans pk) r1⟩
 have hb:=Heap.lt_size (k1 _ _ e)
 rw[sortedHeap_old (Nat.ne_of_lt hb) (by rw[size_push'];exact Nat.lt_succ_of_lt hb)]
 exact Heap.get?_push_of_some _ (k1 _ _ e)
end
end L2
namespace L2
open PySem PyProof.Rows
section
variable{P:Program}{w:World}{A:Around}{E:Value->Shared->Prop}{s:Shared}
theorem u8 {l:Addr} {its:Array Value} {ns:List Int} {Q:Value->Shared->Prop} (hh:A.handled=none) (hl:s.heap.IsList l its) (hi:IntsAre its.toList ns) (hb:its.size+1<scanBound)
    (q:∀ h' tk,IntSet P w h' s.heap.objs.size (firstMet (λi=>ns.getD i 0) its.size)->(∀ b o,s.heap.get? b=some o->h'.get? b=some o)->Q (.ref s.heap.objs.size) { s with heap:=h',toks:=tk }) :
    wpAny (model P w) A (call (.type "set") [.ref l]) Q E s:=by
  obtain⟨c,tl,mro⟩:=PySem.F.called_set.mro
  have made:=PySem.F.called_set.made
  have sub:=PySem.F.called_set.sub
  refine wpAny_call (codeAny_of_tree ?_)
  show wpAny _ _ (callAny (.type "set") _) _ _ _
  refine wpAny_pure ⟨Code.quiet_builtin _ (by decide +kernel),codeAny_builtin PySem.F.entry_type_call ?_⟩
  rw[Around.under_plain (weight_type_call_type "set" [.ref l] []) rfl]
  have n1:=PySem.F.called_set.notType
  have n2:=PySem.F.called_set.canCreate
  have n3:=PySem.F.typeCall_set_1 (.ref l)
  repeat (any_goals (first | assumption | wp_step))
  generalize eS:({ cls:=.type "set",dict:=none,data:=.set #[] 0 (.fresh 0 0 (IK w)) }:Obj)=oS
  refine codeAny_mono (uP (E:=E) (Q:=λx s1=>x=.ref s.heap.objs.size/\s1={ s with heap:=s.heap.push oS }) ⟨rfl,by rw[<-eS]⟩) λr s1 hr=> ?_
  cases r with
  | error e=>exact hr
  | ok fl =>
    cases fl with
    | ret x =>
      obtain⟨rfl,rfl⟩:=hr
      have g0:(s.heap.push oS).get? s.heap.objs.size=some oS:=Heap.get?_push_size _ (by rw[<-eS];rfl)
      have T0:Shared.TypeIs { s with heap:=s.heap.push oS } (.ref s.heap.objs.size) "set":=⟨_,g0,by rw[<-eS]⟩
      have i1:=PySem.F.called_set.init.lookup
      have i2:=PySem.F.called_set.init.bind (.ref s.heap.objs.size)
      repeat (any_goals (first | assumption | wp_step))
      refine codeAny_mono (codeAny_call_builtin (R:=wants (λr s2=>r=.none/\∃ h' tk,s2={ s with heap:=h',toks:=tk }/\IntSet P w h' s.heap.objs.size (firstMet (λi=>ns.getD i 0) its.size) ∧
        (∀ b o,s.heap.get? b=some o->h'.get? b=some o)) E) PySem.F.called_set.init.plain PySem.F.entry_set_init (check_set_init_1 T0 ?_)) λr2 s2 hr2=> ?_
      · obtain⟨ol,gl,cl,nl,dl⟩:=hl
        obtain⟨c1,d1,dt1,sl1⟩:=ol
        simp only at cl dl
        subst cl;subst dl
        have gl':=Heap.get?_push_of_some oS gl
        have e1:=PySem.F.sub_list_set
        have e2:=PySem.F.sub_list_frozenset
        have e3:(Value.type "list" == Value.type "dict")=false:=by decide
        have hl1:(s.heap.push oS).IsList l its:=⟨_,gl',rfl,nl,rfl⟩
        have hlt:l<s.heap.objs.size:=Heap.lt_size gl
        have big:=size_push' s.heap oS
        revert gl' hl1 g0 T0 big
        have keep0:∀ b o,s.heap.get? b=some o->(s.heap.push oS).get? b=some o:=λb o e=>Heap.get?_push_of_some _ e
        revert keep0
        generalize s.heap.push oS=h0
        intro keep0 g0 T0 gl' hl1 big
        subst eS
        unfold Builtin.«set.__init__» noKeywords Builtin.Frozenset.updateFrom
        generalize hPI:pyIter=PI
        wp_walk
        subst hPI
        refine wpAny_pyIter_list hl1 ?_
        refine wpAny_bind (wpAny_runValue ?_)
        have hh3:A.in1.in1.in1.handled=none:=by simp[hh]
        have ne1:l≠h0.objs.size:=Nat.ne_of_lt (by rw[big];exact Nat.lt_succ_of_lt hlt)
        have nin:s.heap.objs.size∉[h0.objs.size,l]:=by
          simp only[List.mem_cons,List.not_mem_nil,or_false,not_or]
          exact⟨Nat.ne_of_lt (by rw[big];exact Nat.lt_succ_self _),Nat.ne_of_gt hlt⟩
        refine uO ((Walks.list hh3 _ l ne1 its).toS) s.heap.objs.size nin (λi=>ns.getD i 0) (λi v e=>IntsAre.int_at hi i v (by rw[Array.getElem?_toList];exact e)) hb (its.size - 0) 0 _ (by omega) (Nat.zero_le _)
          ⟨⟨_,Heap.get?_push_size _ rfl,rfl,rfl⟩,hl1.push _⟩ ⟨_,#[],0,_,Heap.get?_push_of_some _ g0,⟨rfl,rfl,rfl⟩,rfl,λe he=>by simp at he,by exact .nil,by decide,by rfl,Led.fresh _⟩ λs3 m S3=> ?_
        obtain⟨h3,g3,d3,tk3,os3⟩:=s3
        have a1:g3=s.gens:=m.gens
        have a2:d3=s.drawn:=m.drawn
        have a3:os3=s.os:=m.os
        subst a1;subst a2;subst a3
        show wpAny _ _ _ _ _ _
        refine wpAny_pure ?_
        show wpAny _ _ (ret Value.none) _ _ _
        refine wpAny_pure ⟨rfl,h3,tk3,rfl,S3,λb o e=> ?_⟩
        have hb:=Heap.lt_size e
        refine m.heap b o ?_ (Heap.get?_push_of_some _ (keep0 _ _ e))
        simp only[List.mem_cons,List.not_mem_nil,or_false,not_or]
        exact⟨Nat.ne_of_lt hb,Nat.ne_of_lt (by rw[big];exact Nat.lt_succ_of_lt hb)⟩
      · cases r2 with
        | error e=>exact hr2
        | ok fl2 =>
          cases fl2 with
          | ret r =>
            obtain⟨rfl,h',tk,rfl,S',k'⟩:=hr2
            repeat (any_goals (first | assumption | wp_step))
            exact q _ _ S' k'
          | _=>exact hr2.elim
    | _=>exact hr.elim
end
end L2
namespace L2
section
variable{X:Cx}
theorem Inv.drawn{pins:List (Addr × Obj)}{σ:St}{H:Hp}{s:Shared}(I:Inv X pins σ H s)(d):Inv X pins σ H { s with drawn:=d } :=
 { ok:=I.ok,os:=I.os,bare:=I.bare,base:=I.base,loc:=I.loc,cell:=I.cell,free:=I.free,freeC:=I.freeC,pin:=I.pin,hok:=I.hok,len:=I.len }
theorem S6:∀ {ns:List Int} {us:List Value},Vals (ns.map V.int) us->IntsAre us ns
 | [],_,.nil=>.nil
 | n::r,_,.cons h t=>by
  obtain⟨tk,rfl⟩:=h
  exact .cons _ _ (S6 t)
abbrev ZV(X:Cx)(a:Addr)(ms:List Int):HO:=.ext λh=>IntSet X.prog X.w h a ms
theorem u9(hc:X.calm=true):DJ X (.type "set") (λxs H Q=>∃ (p:Addr) (ns:List Int),xs=[.ref p]/\SqL X.K H p (ns.map V.int)/\ns.length<=1000 ∧
  ∀ (a:Addr),H a=none->Q (.ref a) (upd H a (ZV X a (firstMet (λi=>ns.getD i 0) ns.length)))):=by
 intro pins s σ H xs us Q I r h
 obtain⟨p,ns,rfl,hq,hn,q⟩:=h
 obtain⟨u,rfl,rx⟩:=FA r
 cases rx
 obtain⟨its,r',pl,hz⟩:=I.list hq
 have hi:=S6 r'
 have hlen:its.length=ns.length:=IntsAre.length hi
 refine u8 (I.ok.hd hc) pl.isList hi (by rw[List.size_toArray,hlen];exact Nat.lt_of_le_of_lt (Nat.succ_le_succ hn) (by decide)) λh' tk S k=> ?_
 have hz2:its.toArray.size=ns.length:=by rw[List.size_toArray,hlen]
 rw[hz2]at S
 refine⟨.ref s.heap.objs.size,_,I.laid k (Nat.le_refl _) ?_,rfl,q _ (I.hok.fresh (Nat.le_refl _))⟩
 exact⟨S,⟨_,S.choose_spec.choose_spec.choose_spec.choose_spec.1⟩,λh1 h2 z e=>z.at e⟩
theorem vA(hc:X.calm=true):DJ X (.builtin "sorted") (λxs H Q=>∃ (a:Addr) (ms:List Int),xs=[.ref a]/\H a=some (ZV X a ms)/\ms.length<64 ∧
  ∀ (D:Addr) (ks:List Int),H D=none->List.Perm ks ms->ks.Pairwise (· <=·)->Q (.ref D) (upd H D (.lst (ks.map V.int)))):=by
 intro pins s σ H xs us Q I r h
 obtain⟨a,ms,rfl,ha,hn,q⟩:=h
 obtain⟨u,rfl,rx⟩:=FA r
 cases rx
 obtain⟨S,_,_⟩:=I.hok a _ ha
 refine u7 (I.ok.hd hc) S hn λD h' tk d c out ks k hD g hi pk hr=> ?_
 have hl:ks.length<64:=by rw[pk.length_eq];exact hn
 refine⟨.ref D,_,(I.laid (t':=tk) k hD ?_).drawn d,rfl,q D ks (I.hok.fresh hD) pk hr⟩
 exact⟨by rw[List.length_map,sizeLine_eq];omega,out.toList,c,SE hi,g⟩
theorem vB(val:Nat->Int)(n:Nat)(x:Int):x∈firstMet val n↔∃ i,i<n/\val i=x:=by
 have h:=firstMet_any val n x
 rw[Bool.eq_iff_iff,List.any_eq_true,List.any_eq_true]at h
 constructor
 ·intro hx
  obtain⟨y,hy,e⟩:=h.mp ⟨x,hx,beq_self_eq_true x⟩
  obtain⟨i,hi,rfl⟩:=List.mem_map.mp hy
  exact⟨i,List.mem_range.mp hi,eq_of_beq e⟩
 ·rintro ⟨i,hi,rfl⟩
  obtain⟨y,hy,e⟩:=h.mpr ⟨val i,List.mem_map.mpr ⟨i,List.mem_range.mpr hi,rfl⟩,beq_self_eq_true _⟩
  exact eq_of_beq e ▸ hy
theorem S7(val:Nat->Int):∀ n,(firstMet val n).Nodup
 | 0=>by rw[firstMet_zero];exact List.nodup_nil
 | n+1=>by
  rw[firstMet_succ]
  by_cases h:val n∈firstMet val n
  ·rw[ZP h];exact S7 val n
  ·rw[ZQ h]
   exact List.nodup_append.mpr ⟨S7 val n,by simp,λa ha b hb e=>by rw[List.mem_singleton]at hb;subst hb;subst e;exact h ha⟩
theorem ZW:∀ {l:List Int},l.Pairwise (· <=·)->l.Nodup->l.Pairwise (· <·)
 | [],_,_=>.nil
 | x::r,h,n=>by
  obtain⟨h1,h2⟩:=List.pairwise_cons.mp h
  obtain⟨n1,n2⟩:=List.nodup_cons.mp n
  refine List.pairwise_cons.mpr ⟨λy hy=> ?_,ZW h2 n2⟩
  have:=h1 y hy
  have:x≠y:=λz=>n1 (z ▸ hy)
  omega
def QF(K:W.Frag)(te:TE):TE:=λσ H Q=>te σ H λx H1=>∃ (p:Addr) (ns:List Int),x=.ref p/\SqL K H1 p (ns.map V.int)/\ns.length<64 ∧
 ∀ (a:Addr) (o:HO) (D:Addr) (ks:List Int),H1 a=none->upd H1 a o D=none->ks.Pairwise (· <·)->(∀ x,x∈ks↔x∈ns)->ks.length<=ns.length->Q (.ref D) (upd (upd H1 a o) D (.lst (ks.map V.int)))
def clo(te:TE):TE:=λσ H Q=>∃ C:VK,te σ H C/\∀ x H1,C x H1->Q x H1
theorem PE.clo{e:Expr}{te:TE}(h:PE X e te):PE X e (clo te):=λpins s σ H Q I ⟨C,q,m⟩=>AT (h pins s σ H C I q) λv s' ⟨x,H1,I1,r1,q1⟩=>⟨x,H1,I1,r1,m _ _ q1⟩
theorem ZX{e:Expr}{te:TE}{p1 p2 p3 p4:Pos}(hc:X.calm=true)(g1:Gl X "sorted")(m1:X.mg "sorted"=none)(g2:Gl X "set")(m2:X.mg "set"=none)(h:PE X e te)
  (he:starEach [e] X.env=[(false,eval e X.env)]:=by rfl) :
  PE X (.Call (.Name "sorted" p1) [.Call (.Name "set" p2) [e] [] p3] [] p4) (QF X.K te):=λpins s σ H Q I q=>by
 refine(C0 (vA hc) g1 m1 (by rfl) (AD (MP (u9 hc) g2 m2 (by rfl) (AD h.clo AG he) (he:=he)) AG)) pins s σ H Q I ?_
 refine⟨_,q,λx H1 ⟨p,ns,e1,hq,hn,q1⟩=> ?_⟩
 subst e1
 refine⟨p,ns,rfl,hq,by omega,λa ha=>⟨a,_,rfl,AJ,?_,λD ks hD pk hr=> ?_⟩⟩
 ·exact Nat.lt_of_le_of_lt (firstMet_length_le ..) hn
 ·have nd:=S7 (λi=>ns.getD i 0) ns.length
  refine q1 a _ D ks ha hD (ZW hr (pk.nodup_iff.mpr nd)) (λx=> ?_) (by rw[pk.length_eq];exact firstMet_length_le ..)
  rw[pk.mem_iff,vB]
  refine⟨λ⟨i,hi,e⟩=> ?_,λhx=> ?_⟩
  ·rw[<-e]
   simp[List.getD,hi]
  ·obtain⟨i,hi,e⟩:=List.getElem_of_mem hx
   exact⟨i,hi,by simp[List.getD,hi,e]⟩
end
end L2
namespace L2
section
variable{X:Cx}{tg:Expr}
end
section
variable{K:W.Frag}{tt:TT}{cap:List Nat}{σ:St}{H:Hp}{Q:VK}
theorem vC{b:Addr}{xs:List V}(p:V->Bool)(hn:xs.length<=sizeLine)(hq:SqL K H b xs)(ht:∀ x∈xs,∀ QB:Bool->Hp->Prop,QB (p x) H->tt (some x::C1 cap σ) H QB)
  (hd:∀ q,H q=none->Q (.ref q) (upd H q (.lst (xs.filter p)))):EG (FS K b) (AR 0) tt (AA 0) 1 cap σ H Q:=by
 refine⟨λi m σ' ys H'=>m=xs.length - i/\i<=xs.length/\H'=H/\(∃ x0,σ'=x0::C1 cap σ)/\ys=(xs.take i).filter p,⟨xs.length,by simp,Nat.zero_le _,rfl,⟨none,rfl⟩,by simp⟩,?_⟩
 rintro i m σ' ys H' ⟨rfl,hi,rfl,⟨x0,rfl⟩,rfl⟩
 by_cases hlt:i<xs.length
 ·refine .inr ⟨⟨xs,xs[i],hq,by simp[hlt]⟩,?_,λx H2 y=> ?_⟩
  ·have:=List.length_filter_le p (xs.take i)
   rw[List.length_take]at this
   omega
  ·obtain⟨e,y⟩:=y
   subst e
   have hx:=y xs hq
   have et:xs.take (i+1)=xs.take i++[x]:=by
    obtain⟨h1,h2⟩:=List.getElem?_eq_some_iff.mp hx
    rw[<-h2,List.take_append_getElem]
   simp only[AR,List.set_cons_zero]
   refine ht x (List.mem_of_getElem? hx) _ ?_
   cases hp:p x with
   | true =>
    rw[if_pos rfl]
    refine⟨λv H4=>v=x/\H4=H2,λy H4 ⟨e1,e2⟩=>⟨xs.length - (i+1),by omega,rfl,hlt,e2,⟨_,rfl⟩,?_⟩,?_⟩
    ·rw[et,List.filter_append,e1]
     simp[hp]
    ·simp[AA]
   | false =>
    rw[if_neg Bool.false_ne_true]
    refine⟨xs.length - (i+1),by omega,rfl,hlt,rfl,⟨_,rfl⟩,?_⟩
    rw[et,List.filter_append]
    simp[hp]
 ·have e:i=xs.length:=by omega
  subst e
  refine .inl ⟨⟨xs,hq,Nat.le_refl _⟩,λq hq'=> ?_⟩
  rw[List.take_length]
  exact hd q hq'
end
section
variable{K:W.Frag}{td ty tv te:TE}{D:Ends}{σ:St}{H:Hp}{Q:VK}{QB:Bool->Hp->Prop}
theorem vE:IG td ty σ H Q=(td σ H λx H1=>ty σ H1 λy H2=>∃ a v,x=.ref a/\DGet H2 a y (some v)/\Q v H2):=rfl
theorem vF:MY ty td σ H Q=(ty σ H λy H1=>td σ H1 λx H2=>∃ a o,x=.ref a/\DGet H2 a y o/\Q (.bl o.isSome) H2):=rfl
theorem vG:KA ty td σ H Q=(ty σ H λy H1=>td σ H1 λx H2=>∃ a o,x=.ref a/\DGet H2 a y o/\Q (.bl (!o.isSome)) H2):=rfl
theorem vH:KB td ty tv D σ H=(tv σ H λv H1=>td σ H1 λx H2=>ty σ H2 λy H3=>∃ a H4,x=.ref a/\DPut H3 a y v H4/\D.nx σ H4):=rfl
theorem vI:SD td ty σ H Q=(td σ H λx H1=>∃ a,x=.ref a/\PR H1 a/\ty σ H1 λy H2=>∃ o,DGet H2 a y o/\Q (o.getD .non) H2):=rfl
theorem vJ:M0 σ H Q=(∀ p,H p=none->Q (.ref p) (upd H p (.dK []))):=rfl
theorem vK:R9 σ H Q=(∀ p,H p=none->Q (.ref p) (upd H p (.dT []))):=rfl
theorem vL:tB te σ H QB=(te σ H λx H1=>∃ c,x=.bl c/\QB c H1):=rfl
theorem vM:QF K te σ H Q=(te σ H λx H1=>∃ (p:Addr) (ns:List Int),x=.ref p/\SqL K H1 p (ns.map V.int)/\ns.length<64 ∧
 ∀ (a:Addr) (o:HO) (D:Addr) (ks:List Int),H1 a=none->upd H1 a o D=none->ks.Pairwise (· <·)->(∀ x,x∈ks↔x∈ns)->ks.length<=ns.length->Q (.ref D) (upd (upd H1 a o) D (.lst (ks.map V.int)))):=rfl
variable{a b:Addr}{i j:Int}{z:Str}{kvs:List (AS × V)}{kvt:List (List AS × V)}{v:V}
theorem dS(e:H a=some (.dK kvs)):DGet H a (.str z) (B7 kvs (.inr z)):=DGet.k (k:=.inr z) e
theorem vN(e:H a=some (.dT kvt))(eb:H b=some (.tup [.int i,.int j])):DGet H a (.ref b) (B7 kvt [.inl i,.inl j]):=DGet.t (k:=[.inl i,.inl j]) e eb
theorem QH(e:H a=some (.dK kvs))(h:B7 kvs (.inr z)=some v):DGet H a (.str z) (some v):=h ▸ dS e
theorem pS(e:H a=some (.dK kvs))(hl:kvs.length<100000):DPut H a (.str z) v (upd H a (.dK (CS kvs (.inr z) v))):=DPut.k (k:=.inr z) e (Nat.lt_of_lt_of_le hl (by decide))
theorem vO(e:H a=some (.dT kvt))(eb:H b=some (.tup [.int i,.int j]))(hl:kvt.length<100000):DPut H a (.ref b) v (upd H a (.dT (CS kvt [.inl i,.inl j] v))):=DPut.t (k:=[.inl i,.inl j]) e eb (Nat.lt_of_lt_of_le hl (by decide))
end
end L2
namespace L2
section
variable{X:Cx}
abbrev QI(K:W.Frag):R2:=PJ K false
abbrev S8(K:W.Frag):R2:=PJ K true
theorem ZY(hu:X.A.units+64<cLine):BS X (compareOp .In) (QI X.K):=pA
theorem vP(hu:X.A.units+64<cLine):BS X (compareOp .NotIn) (S8 X.K):=pB
end
theorem SqT.same{K:W.Frag}{H H':Hp}{a:Addr}{xs:List V}(e:Same H H')(h:SqT K H a xs):SqT K H' a xs:=by
 rcases h with(h | ⟨o,h⟩) | h
 ·exact .inl (.inl (e _ _ h))
 ·exact .inl (.inr ⟨o,e _ _ h⟩)
 ·exact .inr h
mutual
theorem Rep.same{K:W.Frag}{H H':Hp}(s:Same H H'):∀ {v:V} {d:PyData},Rep K H v d->Rep K H' v d
 | _,_,.non=>.non
 | _,_,.bl b=>.bl b
 | _,_,.int i=>.int i
 | _,_,.str x=>.str x
 | _,_,.lst h r=>.lst (s.seq h) (RepAll.same s r)
 | _,_,.tup h r=>.tup (SqT.same s h) (RepAll.same s r)
theorem RepAll.same{K:W.Frag}{H H':Hp}(s:Same H H'):∀ {vs:List V} {ds:List PyData},RepAll K H vs ds->RepAll K H' vs ds
 | _,_,.nil=>.nil
 | _,_,.cons h r=>.cons (Rep.same s h) (RepAll.same s r)
end
section
variable{K:W.Frag}{H:Hp}{n:Nat}{Q:VK}
end
end L2
namespace L2
end L2
namespace L2
section
variable{prog:Program}{w:World}{A:Around}{E:Value->Shared->Prop}{s:Shared}{d it:Addr}{od:Obj}{es:Array DictEntry}{ep i:Nat}
theorem vQ{Q:Value->Shared->Prop}(hd:(d == sysModules)=false)(ho:s.heap.get? d=some od)(hx:od.ExactDict)(hdat:od.data=.dict es ep)
  (hQ:Q (.ref s.heap.objs.size) { s with heap:=s.heap.push { cls:=.type "dict_keyiterator",data:=.fields #[.ref d,.int 0 0,.int es.size 0,.int ep 0] } }) :
  wpAny (model prog w) A (pyIter (.ref d)) Q E s:=by
 have hT:s.TypeIs (.ref d) "dict":=⟨od,ho,hx.1⟩
 refine wpAny_pyIter_slot hT F.slot_dict_iter (wpAny_call_entry F.slot_dict_iter hT F.entry_dict_iter ?_ (F.args_dict_iter_1 _))
 unfold Builtin.«dict.__iter__» Builtin.Dict.dictSlotNone
 refine wpAny_bind (wpAny_bind (wpAny_notOrdered_dict hT (wpAny_pure ?_)))
 show wpAny _ _ (Builtin.Dict.showsAll d >>= _) _ _ s
 unfold Builtin.Dict.showsAll
 rw[if_neg (by rw[hd];exact Bool.false_ne_true)]
 refine wpAny_bind (wpAny_pure (wpAny_bind (wpAny_dictEntries ho hdat (wpAny_bind (wpAny_dictEpoch ho hdat ?_)))))
 refine wpAny_bind (wpAny_newObj_type (wpAny_pure ⟨_,rfl,"dict_keyiterator",_,⟨_,Heap.get?_push_size _ rfl,rfl⟩,F.slot_dict_keyiterator_next.lookup,?_⟩))
 simpa [rawInt]using hQ
theorem vR{Q:Option Value->Shared->Prop}(hit:s.heap.IsKeyIter it d i es.size ep)(hod:s.heap.get? d=some od)(hdd:od.data=.dict es ep){e:DictEntry}(he:es[i]? =some e)
  (hQ:∀ h',h'.IsKeyIter it d (i+1) es.size ep->Heap.SameBut it s.heap h'->Q (some e.key) { s with heap:=h' }) :
  wpAny (model prog w) A (pyNext (.ref it)) Q E s:=by
 obtain⟨o,ho,hc,hd⟩:=id hit
 unfold pyNext
 refine wpAny_bind (wpAny_attempt (wpAny_callSpecial?_slot (name:=Str.ofString "__next__") hit.typeIs F.slot_dict_keyiterator_next
  (wpAny_call_entry F.slot_dict_keyiterator_next hit.typeIs F.entry_dict_keyiterator_next ?_ (F.args_dict_keyiterator_next_1 _))))
 refine wpAny_bind (wpAny_pure (wpAny_bind (wpAny_bind ?_)))
 first | refine wpAny_bind (wpAny_typeNameOfWhole_keyiter hit.typeIs (wpAny_pure ?_)) | refine wpAny_bind (wpAny_typeNameOf_keyiter hit.typeIs (wpAny_pure ?_))
 refine wpAny_bind (wpAny_fieldsOf ho hd ?_)
 have hown:Builtin.Dict_items.ownsTuple "dict_keyiterator"=false:=by decide
 simp only[hown,Bool.false_eq_true,if_false]
 show wpAny _ _ (if(Value.ref d == Value.none)=true then _ else _) _ _ s
 rw[if_neg (show ¬ ((Value.ref d == Value.none)=true)from Bool.false_ne_true)]
 refine wpAny_bind (wpAny_pure (wpAny_bind (wpAny_dictEntries hod hdd ?_)))
 rw[if_neg (by simp)]
 refine wpAny_bind (wpAny_pure (wpAny_bind (wpAny_dictEpoch hod hdd ?_)))
 rw[if_neg (by simp)]
 refine wpAny_pure ?_
 simp only[show ¬ ((i:Int)<0)from by omega,if_false,Int.toNat_natCast,he]
 refine wpAny_bind ?_
 first | refine wpAny_bind (wpAny_typeNameOfWhole_keyiter hit.typeIs (wpAny_pure ?_)) | refine wpAny_bind (wpAny_typeNameOf_keyiter hit.typeIs (wpAny_pure ?_))
 refine wpAny_bind (wpAny_isOneOf_keyiter hit.typeIs ?_)
 show wpAny _ _ (setField (.ref it) 1 (rawInt ((i:Int)+1)) >>= _) _ _ s
 refine wpAny_bind (wpAny_setField ho hd (by simp) ?_)
 have hit':(s.heap.update it (Obj.mapFields (·.setIfInBounds 1 (rawInt ((i:Int)+1))))).IsKeyIter it d (i+1) es.size ep :=
  ⟨_,Heap.get?_update_self _ ho (Obj.isFreed_of_fields (Obj.data_mapFields hd _)),(Obj.cls_mapFields ..).trans hc,by rw[Obj.data_mapFields hd];simp[rawInt]⟩
 refine wpAny_bind (wpAny_holding (wpAny_bind (wpAny_isOneOf_keyiter (s:={ s with heap:=s.heap.update it (Obj.mapFields (·.setIfInBounds 1 (rawInt ((i:Int)+1)))) }) hit'.typeIs ?_)))
 show wpAny _ _ (pure e.key) _ _ _
 exact wpAny_pure (wpAny_pure ⟨_,rfl,wpAny_pure (hQ _ hit' (Heap.SameBut.update ..))⟩)
theorem vS{Q:Option Value->Shared->Prop}(hh:A.handled=none)(hit:s.heap.IsKeyIter it d i es.size ep)(hod:s.heap.get? d=some od)(hdd:od.data=.dict es ep)(hge:es.size<=i)
  (hQ:∀ h',Heap.ExtBut it s.heap h'->Q none { s with heap:=h' }):wpAny (model prog w) A (pyNext (.ref it)) Q E s:=by
 obtain⟨o,ho,hc,hd⟩:=id hit
 unfold pyNext
 refine wpAny_bind (wpAny_attempt (wpAny_callSpecial?_slot (name:=Str.ofString "__next__") hit.typeIs F.slot_dict_keyiterator_next
  (wpAny_call_entry F.slot_dict_keyiterator_next hit.typeIs F.entry_dict_keyiterator_next ?_ (F.args_dict_keyiterator_next_1 _))))
 refine wpAny_bind (wpAny_pure (wpAny_bind (wpAny_bind ?_)))
 first | refine wpAny_bind (wpAny_typeNameOfWhole_keyiter hit.typeIs (wpAny_pure ?_)) | refine wpAny_bind (wpAny_typeNameOf_keyiter hit.typeIs (wpAny_pure ?_))
 refine wpAny_bind (wpAny_fieldsOf ho hd ?_)
 have hown:Builtin.Dict_items.ownsTuple "dict_keyiterator"=false:=by decide
 simp only[hown,Bool.false_eq_true,if_false]
 show wpAny _ _ (if(Value.ref d == Value.none)=true then _ else _) _ _ s
 rw[if_neg (show ¬ ((Value.ref d == Value.none)=true)from Bool.false_ne_true)]
 refine wpAny_bind (wpAny_pure (wpAny_bind (wpAny_dictEntries hod hdd ?_)))
 rw[if_neg (by simp)]
 refine wpAny_bind (wpAny_pure (wpAny_bind (wpAny_dictEpoch hod hdd ?_)))
 rw[if_neg (by simp)]
 refine wpAny_pure ?_
 simp only[show ¬ ((i:Int)<0)from by omega,if_false,Int.toNat_natCast,Array.getElem?_eq_none hge]
 refine wpAny_bind ?_
 first | refine wpAny_bind (wpAny_typeNameOfWhole_keyiter hit.typeIs (wpAny_pure ?_)) | refine wpAny_bind (wpAny_typeNameOf_keyiter hit.typeIs (wpAny_pure ?_))
 show wpAny _ _ (setField (.ref it) 0 .none >>= _) _ _ s
 refine wpAny_bind (wpAny_setField ho hd (by simp) ?_)
 show wpAny _ _ (newExc (.type "StopIteration") [] >>= _) _ _ _
 refine wpAny_bind ?_
 simp only[newExc,newTuple]
 refine wpAny_bind (wpAny_newObj_type ?_ (by size_fits))
 refine wpAny_bind (m:=firstArgMember _ _) (wpAny_of_eq (a:=Value.none) (by first | rfl | (simp only[firstArgMember];rfl)) ?_)
 refine wpAny_newObj_type ?_ (by size_fits)
 simp only[raiseNew]
 refine wpAny_bind (wpAny_handled ?_)
 rw[show A.in1.handled=none from hh]
 refine wpAny_bind (wpAny_pure (wpAny_throw ?_))
 refine wpAny_bind (wpAny_isInstance (T:="StopIteration") (b:=true) ⟨_,Heap.get?_push_size _ rfl,rfl⟩ isSubtype_stop ?_)
 exact wpAny_pure (hQ _ (((Heap.SameBut.update ..).extBut.push _).push _))
end
end L2
namespace L2
theorem QJ:∀ {ys:List Str} {us:List Value},Vals (ys.map V.str) us->StrsAre us ys
 | [],_,.nil=>.nil
 | y::r,_,.cons h t=>by
  obtain⟨tk,rfl⟩:=h
  exact .cons _ _ (QJ t)
section
variable{X:Cx}
def ZZ(K:W.Frag):V->List V->Hp->VK->Prop:=λx vs H Q=>∃ (z:Str) (p:Addr) (ys:List Str),x=.str z/\vs=[.ref p]/\SqL K H p (ys.map V.str)/\z.length<=16/\(ys.map (·.length)).sum+ys.length<=1048576/\Q (.str (Txt.join z ys)) H
theorem vT:MT X "str.join" (ZZ X.K):=by
 intro pins s σ H x vs v us Q I rx rv h
 obtain⟨z,p,ys,rfl,rfl,hp,hz,hw,q⟩:=h
 obtain⟨t,rfl⟩:=rx
 obtain⟨u,rfl,ru⟩:=rv.one
 cases ru
 obtain⟨its,r,pl,hz'⟩:=I.list hp
 exact join_listW pl.isList (QJ r) hz hw λt' k=>⟨.str _,H,I.tok k,⟨t',rfl⟩,q⟩
def Z0(K:W.Frag):List V->Hp->VK->Prop:=λxs H Q=>∃ (p:Addr) (ns:List Int),xs=[.ref p]/\SqL K H p (ns.map V.int)/\Q (.int ns.sum) H
theorem vU(hc:X.calm=true):DJ X (.builtin "sum") (Z0 X.K):=by
 intro pins s σ H xs us Q I r h
 obtain⟨p,ns,rfl,hp,q⟩:=h
 obtain⟨u,rfl,ru⟩:=FA r
 cases ru
 obtain⟨its,rv,pl,hz⟩:=I.list hp
 have hi:=S6 rv
 obtain⟨zs,e⟩:=hi.allInts.items
 have hns:ns=zs.toList.map (·.1):=by rw[<-hi.numsOf,<-nums_intItems,<-e]
 have hl:=pl.isList
 rw[e]at hl
 refine sum_intListG (I.ok.hd hc) hl λh' tk t' hk=>⟨.int _,H,I.kept (t':=tk) hk,⟨t',rfl⟩,?_⟩
 have e2:preSum (numAt zs) zs.size=ns.sum:=by
  rw[preSum_eq,List.take_of_length_le (by simp),hns]
 rw[e2]
 exact q
end
section
variable{K:W.Frag}{tt:TT}{te:TE}{cap:List Nat}{σ:St}{H:Hp}{Q:VK}
end
end L2
namespace L2
section
variable{X:Cx}{tg:Expr}
end
section
variable{K:W.Frag}{tt:TT}{cap:List Nat}{σ:St}{H:Hp}{Q:VK}
end
def Z1(n i:Nat)(P:Prop):Prop:=∃ m',m'<n - i/\m'=n - (i+1)/\i+1<=n/\P
theorem vV{K:W.Frag}{g:TG}{tt:TT}{te:TE}{k:Nat}{cap:List Nat}{σ:St}{H:Hp}{Q:VK}{b:Addr}{xs:List V}(hn:xs.length<=sizeLine)(Pv:Nat->St->List V->Hp->Prop)(h0:Pv 0 (GZ k cap σ) [] H)(hq:∀ i σ' ys H,Pv i σ' ys H->SqL K H b xs/\ys.length<=i)
  (hs:∀ i x σ' ys H,i<xs.length->xs[i]? =some x->Pv i σ' ys H->g x σ' H λσ2 H2=>tt σ2 H2 λc H3=>if c=true then ∃ N:VK,(∀ y H4,N y H4->Z1 xs.length i (Pv (i+1) σ2 (ys++[y]) H4))/\te σ2 H3 N else Z1 xs.length i (Pv (i+1) σ2 ys H3))
  (hd:∀ σ' ys H,Pv xs.length σ' ys H->∀ p,H p=none->Q (.ref p) (upd H p (.lst ys))):EG (FS K b) g tt te k cap σ H Q:=by
 refine⟨λi m σ' ys H=>m=xs.length - i/\i<=xs.length/\Pv i σ' ys H,⟨xs.length,by simp,Nat.zero_le _,h0⟩,?_⟩
 rintro i m σ' ys H ⟨rfl,hi,p⟩
 obtain⟨q,hl⟩:=hq i σ' ys H p
 by_cases hlt:i<xs.length
 ·refine .inr ⟨⟨xs,xs[i],q,by simp[hlt]⟩,by omega,λx H' y=> ?_⟩
  obtain⟨e,y⟩:=y
  subst e
  exact hs i x σ' ys _ hlt (y xs q) p
 ·have e:i=xs.length:=by omega
  subst e
  exact .inl ⟨⟨xs,q,Nat.le_refl _⟩,hd σ' ys H p⟩
section
variable{P:Program}{w:World}{A:Around}{E:Value->Shared->Prop}{s:Shared}
end
section
variable{X:Cx}
theorem Z2:∀ {kvs:List (AS × V)} {vs:List (AS × Value)},KV kvs vs->vs.map (·.1)=kvs.map (·.1)
 | _,_,.nil=>rfl
 | _,_,.cons h t=>by rw[List.map_cons,List.map_cons,Z2 t,h.1]
end
end L2
namespace L2
section
variable{P:Program}{w:World}{A:Around}{E:Value->Shared->Prop}{s:Shared}
theorem vW{e it l:Addr}{i:Nat}{items:Array Value}{x old:Value}{Q:Option Value->Shared->Prop}(he:IsEnum s.heap e it i old)(hi:s.heap.IsListIter it l i)(hl:s.heap.IsList l items)(ex:items[i]? =some x)(ne:e≠it)
  (q:∀ h',IsEnumOut h' e it (i+1) x s.heap.objs.size->h'.IsListIter it l (i+1)->h'.get? s.heap.objs.size=some { cls:=Value.type "tuple",data:=Data.seq #[Value.int i s.toks,x] }->(∀ b o,b≠e->b≠it->s.heap.get? b=some o->h'.get? b=some o) →
   Q (some (.ref s.heap.objs.size)) { s with heap:=h',toks:=s.toks+1 }):wpAny (model P w) A (pyNext (.ref e)) Q E s:=by
 have ty:s.TypeIs (.ref e) "enumerate":=⟨_,he,rfl⟩
 unfold pyNext
 exact wpAny_bind (wpAny_attempt (wpAny_callSpecial?_slot (name:=Str.ofString "__next__") ty F.slot_enumerate_next (wpAny_call_entry F.slot_enumerate_next ty F.entry_enumerate_next
  (enumerate_next_item he hi hl ex ne λh' a1 a2 a3 _ a4=>wpAny_pure (q h' a1 a2 a3 a4)) (F.args_enumerate_next_1 _))))
theorem vX{e it l:Addr}{i:Nat}{items:Array Value}{old:Value}{Q:Fin->Shared->Prop}(hh:A.handled=none)(he:IsEnum s.heap e it i old)(hi:s.heap.IsListIter it l i)(hl:s.heap.IsList l items)(ex:items[i]? =none)
  (q:∀ h' x,Heap.ExtBut it s.heap h'->(∃ o,h'.get? x=some o/\o.cls=.type "StopIteration")->E (.ref x) { s with heap:=h' }):wpAny (model P w) A (Builtin.«enumerate.__next__» ⟨[.ref e],[]⟩) Q E s:=by
 show wpAny (model P w) A (field (.ref e) 2 >>= _) _ _ s
 refine wpAny_bind (wpAny_field he rfl (x:=.ref it) rfl ?_)
 exact wpAny_bind (t8 (k:=true) hh hi hl ex q)
theorem vY{e it l:Addr}{i:Nat}{items:Array Value}{old:Value}{Q:Option Value->Shared->Prop}(hh:A.handled=none)(he:IsEnum s.heap e it i old)(hi:s.heap.IsListIter it l i)(hl:s.heap.IsList l items)(ex:items[i]? =none)
  (q:∀ h',Heap.ExtBut it s.heap h'->Q none { s with heap:=h' }):wpAny (model P w) A (pyNext (.ref e)) Q E s:=by
 have ty:s.TypeIs (.ref e) "enumerate":=⟨_,he,rfl⟩
 unfold pyNext
 refine wpAny_bind (wpAny_attempt (wpAny_callSpecial?_slot (name:=Str.ofString "__next__") ty F.slot_enumerate_next (wpAny_call_entry F.slot_enumerate_next ty F.entry_enumerate_next (vX hh he hi hl ex λh' x kk ⟨o,e1,e2⟩=> ?_) (F.args_enumerate_next_1 _))))
 exact wpAny_bind (wpAny_isInstance (T:="StopIteration") (b:=true) ⟨o,e1,e2⟩ isSubtype_stop (wpAny_pure (q _ kk)))
end
def QK(K:W.Frag)(a:Addr):It :=
  ⟨λi H=>∃ xs x,SqL K H a xs/\xs[i]? =some x,
   λi H v H'=>∃ t,H t=none/\v=.ref t/\∃ x,H'=upd H t (.tup [.int (i:Int),x])/\∀ xs,SqL K H a xs->xs[i]? =some x,
   λi H=>∃ xs,SqL K H a xs/\xs.length<=i⟩
def EnSt(e it l:Addr)(i:Nat)(h:Heap):Prop:=(∃ old,IsEnum h e it i old)/\h.IsListIter it l i
theorem EnSt.lt{e it l:Addr}{i:Nat}{h:Heap}(q:EnSt e it l i h):∀ b∈[e,it],b<h.objs.size:=by
 obtain⟨⟨old,h1⟩,o,h2,_⟩:=q
 intro b hb
 simp only[List.mem_cons,List.not_mem_nil,or_false]at hb
 rcases hb with rfl | rfl
 ·exact Heap.lt_size h1
 ·exact Heap.lt_size h2
theorem vZ{P:Program}{w:World}{K:W.Frag}{elts:List Expr}{kn:Nat}{pos:Pos}{e it l:Addr}(ne:e≠it) :
  HG P w K (.Tuple elts kn pos) (QK K l) [e,it] e (λi h=>EnSt e it l i h) where
 mem:=by simp
 obj:=λi h st b hb=>by
  obtain⟨⟨old,h1⟩,h2⟩:=st
  obtain⟨o4,e4,d4⟩:=ItK.ob (k:=true) h2
  simp only[List.mem_cons,List.not_mem_nil,or_false]at hb
  rcases hb with rfl | rfl
  ·exact⟨_,h1,λv q=>by cases q⟩
  ·exact⟨_,e4,λv q=>by rw[d4]at q;cases q⟩
 keep:=λi h h' ⟨⟨old,h1⟩,h2⟩ q=>⟨⟨old,q e (by simp) _ h1⟩,ItK.up (k:=true) h2 λo x=>q it (by simp) o x⟩
 item:=by
  intro X hP hw hK hc i pins s σ H E I hf st hg
  subst hP hw hK
  obtain⟨xs,x,hx,ex⟩:=hg
  obtain⟨its,rv,d1⟩:=I.seqK (k:=true) hx
  obtain⟨u,hu,ru⟩:=rv.get ex
  have lt:=EnSt.lt st
  obtain⟨⟨old,h1⟩,h2⟩:=st
  refine vW h1 h2 d1 (x:=u) (by simpa using hu) ne λh' g1 g2 g3 kk=>⟨_,rfl,?_⟩
  refine wpAny_letOwnedTupleGo_enum g1 λh2' z2 sb=> ?_
  have I1:=I.tnew (ys:=[.int (i:Int),x]) (its:=[Value.int (i:Int) s.toks,u]) (.cons (show RelV (.int (i:Int)) (Value.int (i:Int) s.toks)from⟨s.toks,rfl⟩) (.cons ru .nil)) (by show 2<=sizeLine;decide)
  have f':∀ b∈[e,it],b≠s.heap.objs.size:=λb hb=>Nat.ne_of_lt (lt b hb)
  have nz:s.heap.objs.size≠e:=(f' e (by simp)).symm
  have I2:Inv X pins σ (upd H s.heap.objs.size (.tup [.int (i:Int),x])) { s with heap:=h2',toks:=s.toks+1 }:=by
   refine Inv.turnedS (s:={ s with heap:=s.heap.push { cls:=Value.type "tuple",data:=Data.seq #[Value.int i s.toks,u] } }) (t':=s.toks+1) (fp:=[e,it]) I1 (λb o hb eo=> ?_) λb hb=>(hf b hb).upd (f' b hb)
   simp only[List.mem_cons,List.not_mem_nil,or_false,not_or]at hb
   rcases Heap.get?_push_cases eo with⟨e1,e2⟩ | e1
   ·subst e1 e2
    exact sb.extBut _ _ nz g3
   ·exact sb.extBut _ _ hb.1 (kk _ _ hb.1 hb.2 e1)
  exact⟨.ref s.heap.objs.size,_,I2,rfl,⟨s.heap.objs.size,I.fresh,rfl,x,rfl,λys' q=>by rw[I.seqK_inj (k:=true) q hx];exact ex⟩,
   ⟨⟨_,z2⟩,ItK.up (k:=true) g2 λo x=>sb.extBut _ _ ne.symm x⟩,λb hb=>((hf b hb).upd (f' b hb)).1⟩
 done:=by
  intro X hP hw hK hc i pins s σ H E I hf st hg
  subst hP hw hK
  obtain⟨xs,hx,en⟩:=hg
  obtain⟨its,rv,d1⟩:=I.seqK (k:=true) hx
  obtain⟨⟨old,h1⟩,h2⟩:=st
  have e1:=rv.length
  refine vY (I.ok.hd hc) h1 h2 d1 (by simp;omega) λh' kk=>⟨rfl,I.turnedS (t':=s.toks) (fp:=[e,it]) (λb o hb eo=> ?_) hf⟩
  simp only[List.mem_cons,List.not_mem_nil,or_false,not_or]at hb
  exact kk _ _ hb.2 eo
 self:=λ_ _ _ _ _ st h=>by
  obtain⟨⟨old,h1⟩,_⟩:=st
  exact wpAny_pyIter_enum h1 h
section
variable{X:Cx}
def QL(K:W.Frag)(ta:TA):TI:=λσ H R=>ta σ H λvs H1=>∃ a:Addr,vs=[.ref a]/\(∃ xs,SqL K H1 a xs)/\R (QK K a) H1
theorem Z3{a:Expr}{ta:TA}{p pos p2:Pos}{elts:List Expr}{kn:Nat}(hg:Gl X "enumerate")(hm:X.mg "enumerate"=none)(ha:PA X [a] ta)(hs:starEach [a] X.env=[(false,eval a X.env)]:=by rfl) :
  PI X (.Tuple elts kn p2) (.Call (.Name "enumerate" p) [a] [] pos) (QL X.K ta):=by
 intro pins s σ H R I h
 refine Call_ (MH I hg hm boot_enumerate (PyProof.Rows.callWith_type1 (AT (ha pos pins s σ H _ I h) λus s1 ⟨vs,H1,I1,r1,q1⟩=> ?_) (by rw[hs];rfl) (by rfl)))
 obtain⟨l,e,⟨xs,hx⟩,q⟩:=q1
 subst e
 obtain⟨u,rfl,rx⟩:=FA r1
 cases rx
 obtain⟨its,rv,d1⟩:=I1.seqK (k:=true) hx
 refine call_enumerate_list d1 λh' z1 z2 sz kk=>wpAny_pyIter_enum z1 ?_
 have I2:Inv X pins σ H1 { s1 with heap:=h' }:=I1.kept (t':=s1.toks) kk
 refine⟨_,[s1.heap.objs.size+1,s1.heap.objs.size],_,_,H1,rfl,I2,vZ (Nat.ne_of_gt (by omega)),⟨⟨_,z1⟩,z2⟩,λb hb=>I1.fpOk ?_ (I1.hok.fresh ?_),q⟩
 all_goals
  simp only[List.mem_cons,List.not_mem_nil,or_false]at hb
  rcases hb with rfl | rfl<;>omega
end
theorem v0{K:W.Frag}{as:TA}{g:TG}{s1:TS}{D:Ends}{σ:St}{H:Hp}:GE (QL K as) g s1 D σ H=(as σ H λvs H1=>∃ a:Addr,vs=[.ref a]/\(∃ xs,SqL K H1 a xs)/\II (QK K a) g s1 D σ H1):=rfl
theorem Z4{K:W.Frag}{σ:St}{H:Hp}{a:Addr}{xs:List V}{g:TG}{tb:TS}{D:Ends}(Pv:Nat->St->Hp->Prop)(h0:Pv 0 σ H)(ha:∀ i σ H,i<=xs.length->Pv i σ H->SqL K H a xs)
  (hs:∀ i x σ H t,xs[i]? =some x->Pv i σ H->H t=none->g (.ref t) σ (upd H t (.tup [.int (i:Int),x])) λσ2 H2=>tb { D with nx:=Pv (i+1),ct:=Pv (i+1),bk:=D.nx } σ2 H2) (hd:∀ σ H,Pv xs.length σ H->D.nx σ H):II (QK K a) g tb D σ H:=by
 refine⟨λi m σ H=>i+m=xs.length/\Pv i σ H,⟨xs.length,by omega,h0⟩,λi m σ H ⟨e,p⟩=> ?_⟩
 have h1:=ha i σ H (by omega) p
 by_cases hi:i<xs.length
 ·refine .inr ⟨⟨xs,xs[i],h1,List.getElem?_eq_getElem hi⟩,Pv (i+1),λσ' H' q=>⟨m - 1,by omega,by omega,q⟩,λv H' ⟨t,ht,e,x,e',q1⟩=> ?_⟩
  subst e e'
  exact hs i x σ H t (q1 _ h1) p ht
 ·have e:i=xs.length:=by omega
  subst e
  exact .inl ⟨⟨xs,h1,Nat.le_refl _⟩,hd _ _ p⟩
def QM(K:W.Frag):R2:=λx y H Q=>QI K x y H Q\/∃ t ts p xs,x=.ref t/\SqT K H t ts/\y=.ref p/\SqT K H p xs/\(∀ z∈xs,z=.non\/∃ i,z=.int i)/\Q (.bl false) H
theorem Z5:∀ {xs:List V} {us:List Value} {u:Value},Vals xs us->u∈us->∃ x∈xs,RelV x u
 | _,_,_,.nil,h=>by cases h
 | _,_,_,.cons r t,h=>by
  rcases List.mem_cons.mp h with rfl | h
  ·exact⟨_,List.mem_cons_self ..,r⟩
  ·obtain⟨x,hx,e⟩:=Z5 t h
   exact⟨x,List.mem_cons_of_mem _ hx,e⟩
theorem v1{X:Cx}(hu:X.A.units+64<cLine):BS X (compareOp .In) (QM X.K):=by
 intro pins s σ H x y v u Q I rx ry h
 rcases h with h | ⟨t,ts,p,xs,rfl,ht,rfl,hp,hx,q⟩
 ·exact ZY hu pins s σ H x y v u Q I rx ry h
 ·cases rx
  cases ry
  obtain⟨its,r,pl,hz⟩:=I.tuple hp
  obtain⟨tts,tr,tl,_⟩:=I.tuple ht
  have hin:X.A.in1.units<cLine:=by
   have:X.A.in1.units=X.A.units+1:=rfl
   omega
  refine SeqAt.in_tupleAt (λ_=>false) pl (λz hz'=> ?_) ⟨.bl _,H,I,rfl,?_⟩
  ·obtain⟨z0,h0,r0⟩:=Z5 r (by simpa using hz')
   rcases hx z0 h0 with rfl | ⟨i,rfl⟩
   ·cases r0
    exact SeqAt.EqAt.none_tuple tl hin
   ·obtain⟨tk,rfl⟩:=r0
    exact SeqAt.EqAt.int_tuple _ _ tl hin
  ·have:its.toArray.any (λ_=>false)=false:=by
    rw[Array.any_eq_false]
    simp
   rw[this]
   exact q
end L2
namespace L2
section
variable{X:Cx}
theorem TC:∀ {us:List Value} {ys:List Str},StrsAre us ys->Vals (ys.map V.str) us
 | _,_,.nil=>.nil
 | _,_,.cons z t h=>.cons ⟨_,rfl⟩ (TC h)
def Z6(K:W.Frag):List V->Hp->VK->Prop:=λxs H Q=>∃ (p:Addr) (ys:List Str),xs=[.ref p]/\SqL K H p (ys.map V.str)/\ys.length<64 ∧
  ∀ (D:Addr) (ks:List Str),H D=none->ks.Perm ys->sortedS ks=true->Q (.ref D) (upd H D (.lst (ks.map V.str)))
theorem v2(hc:X.calm=true):DJ X (.builtin "sorted") (Z6 X.K):=by
 intro pins s σ H xs us Q I r h
 obtain⟨p,ys,rfl,hp,hn,q⟩:=h
 obtain⟨u,rfl,rx⟩:=FA r
 cases rx
 obtain⟨its,rv,pl,hz⟩:=I.list hp
 have hi:=QJ rv
 have hlen:its.length=ys.length:=by have:=rv.length;simpa using this.symm
 refine sorted_strs pl.isList hi (by omega) λout ks ho pk hr=> ?_
 obtain⟨c,g⟩:=sortedAll_at s.heap its out
 have hD:s.heap.objs.size<=s.heap.objs.size+1:=Nat.le_succ _
 refine⟨.ref _,_,I.laid (t':=s.toks) (λb o e=>sortedAll_old e) hD ?_,rfl,q _ ks (I.hok.fresh hD) pk hr⟩
 have hl:ks.length<64:=by rw[pk.length_eq];exact hn
 exact⟨by rw[List.length_map,sizeLine_eq];omega,out.toList,c,TC ho,g⟩
theorem TF:∀ {l:List Str},sortedS l=true->l.Pairwise λa b=>¬ b.cps.toList<a.cps.toList
 | [],_=>.nil
 | [x],_=>List.pairwise_singleton _ _
 | x::y::r,h=>by
  have h':(!Spec.ltCps y.cps.toList x.cps.toList && risingS y r)=true:=h
  rw[Bool.and_eq_true,Bool.not_eq_true',ltCps_eq,decide_eq_false_iff_not]at h'
  have ih:(y::r).Pairwise λa b=>¬ b.cps.toList<a.cps.toList:=TF (l:=y::r) h'.2
  refine List.pairwise_cons.mpr ⟨λz hz=> ?_,ih⟩
  rcases List.mem_cons.mp hz with e | hz
  ·rw[e];exact h'.1
  ·have h2:=(List.pairwise_cons.mp ih).1 z hz
   exact λhlt=>by
    have a1:x.cps.toList<=y.cps.toList:=List.not_lt.mp h'.1
    have a2:y.cps.toList<=z.cps.toList:=List.not_lt.mp h2
    exact absurd hlt (List.not_lt.mpr (List.le_trans a1 a2))
theorem v3{l m:List Str}(h1:sortedS l=true)(h2:sortedS m=true)(p:l.Perm m):l=m :=
 List.Perm.eq_of_pairwise (λa b _ _ h h'=>by
  have e:=List.le_antisymm (List.not_lt.mp h) (List.not_lt.mp h')
  cases a;cases b
  exact congrArg Str.mk (Array.toList_inj.mp e)) (TF h1) (TF h2) p
def Z7:V->List V->Hp->VK->Prop:=λx vs H Q=>∃ z y:Str,x=.str z/\vs=[.str y]/\Q (.int (Txt.find z y)) H
theorem v4:MT X "str.find" Z7:=by
 intro pins s σ H x vs v us Q I rx rv h
 obtain⟨z,y,rfl,rfl,q⟩:=h
 obtain⟨t,rfl⟩:=rx
 obtain⟨u,rfl,ru⟩:=rv.one
 obtain⟨t2,rfl⟩:=ru
 exact PySem.SC.find ⟨.int _,H,I.tok _,⟨_,rfl⟩,q⟩
end
end L2
namespace L2
section
variable{P:Program}{w:World}{A:Around}{E:Value->Shared->Prop}{s:Shared}
theorem v5{v a:Addr}{kvs:List (AS × Value)}{ks:List Str}{R:List Value->Shared->Prop}(hh:A.handled=none)(KV:PySem.W.KdlKeysView s.heap v a)(D:s.heap.DictOf (CY P w) a kvs)(hn:kvs.length<=sizeLine)(hk:kvs.map (·.1)=ks.map λi=>(Sum.inr i:AS))
  (q:∀ h' tk vs,(∀ b o,s.heap.get? b=some o->h'.get? b=some o)->s.heap.objs.size<=h'.objs.size->StrsAre vs ks->R vs { s with heap:=h',toks:=tk }):wpAny (model P w) A (collect (.ref v)) R E s:=by
 obtain⟨od,es,ep,ho,hex,hdat,h1,h2,h3⟩:=D
 have hlt:a<s.heap.objs.size:=Heap.lt_size ho
 obtain⟨ov,hv1,hv2,hv3⟩:=KV
 have hlv:v<s.heap.objs.size:=Heap.lt_size hv1
 have DA:∀ h':Heap,(∀ b o,s.heap.get? b=some o->h'.get? b=some o)->h'.DictAt (CY P w) a kvs ep:=λh' k=>⟨od,es,k _ _ ho,hex,hdat,h1,h2,h3⟩
 unfold collect
 refine wpAny_bind (wpAny_runValue (codeAny_builtin entry_proto_collect' ?_))
 rw[Around.under_plainId PySem.F.plain_proto_collect _]
 show wpAny _ A.in1 (newList [] >>= λl=>again (.builtin "list.__iadd__" ⟨[l,.ref v],[]⟩)) _ _ s
 refine wpAny_bind (wpAny_newObj_type ?_)
 refine wpAny_pure ⟨plainId_quiet PySem.F.plain_list_iadd _,codeAny_builtin entry_list_iadd' ?_⟩
 rw[Around.under_plainId PySem.F.plain_list_iadd _]
 show wpAny _ A.in1 (Builtin.List.listExtendWith (.ref s.heap.objs.size) (.ref v) (.ref s.heap.objs.size)) _ _ _
 generalize eN:s.heap.objs.size=N at hlt hlv ⊢
 have gN:(s.heap.push { cls:=.type "list",data:=.seq ([]:List Value).toArray }).get? N=some { cls:=.type "list",data:=.seq #[] }:=eN ▸ Heap.get?_push_size _ rfl
 have keep1:∀ b o,s.heap.get? b=some o->(s.heap.push { cls:=.type "list",data:=.seq ([]:List Value).toArray }).get? b=some o:=λb o e=>Heap.get?_push_of_some _ e
 have big:(s.heap.push { cls:=.type "list",data:=.seq ([]:List Value).toArray }).objs.size=N+1:=by rw[size_push',eN]
 revert gN keep1 big
 generalize s.heap.push { cls:=.type "list",data:=.seq ([]:List Value).toArray }=h0
 intro gN keep1 big
 have T1:∀ h':Heap,(∀ b o,h0.get? b=some o->h'.get? b=some o)->∀ tk,({ s with heap:=h',toks:=tk }:Shared).TypeIs (.ref v) "dict_keys":=λh' k tk=>⟨ov,k _ _ (keep1 _ _ hv1),hv2⟩
 unfold Builtin.List.listExtendWith
 refine wpAny_bind (wpAny_typeOf (T:="dict_keys") (T1 h0 (λ_ _ e=>e) s.toks) ?_)
 have ne:Builtin.List.listSameRef (.ref N) (.ref v)=false:=by
  simp only[Builtin.List.listSameRef,beq_eq_false_iff_ne]
  exact Nat.ne_of_gt hlv
 have n1:(Value.type "dict_keys" == Value.type "list")=false:=by decide
 have n2:(Value.type "dict_keys" == Value.type "tuple")=false:=by decide
 simp only[ne,n1,n2,Bool.or_false,Bool.false_eq_true,if_false]
 refine wpAny_bind (PySem.W.kdl_pyIter_keys (knd:=CY P w) (s:={ s with heap:=h0 }) ⟨ov,keep1 _ _ hv1,hv2,hv3⟩ (DA h0 keep1) ?_)
 have hI:h0.objs.size≠a:=Nat.ne_of_gt (by rw[big];exact Nat.lt_succ_of_lt hlt)
 have k1:∀ b o,h0.get? b=some o->(h0.push { cls:=.type "dict_keyiterator",data:=.fields #[.ref a,.int 0 0,.int kvs.length 0,.int ep 0] }).get? b=some o:=λb o e=>Heap.get?_push_of_some _ e
 have gI:(h0.push { cls:=.type "dict_keyiterator",data:=.fields #[.ref a,.int 0 0,.int kvs.length 0,.int ep 0] }).IsKeyIter h0.objs.size a 0 kvs.length ep:=⟨_,Heap.get?_push_size _ rfl,rfl,rfl⟩
 revert k1 gI
 show _->_->wpAny _ _ _ _ _ { s with heap:=h0.push { cls:=.type "dict_keyiterator",data:=.fields #[.ref a,.int 0 0,.int kvs.length 0,.int ep 0] } }
 generalize h0.push { cls:=.type "dict_keyiterator",data:=.fields #[.ref a,.int 0 0,.int kvs.length 0,.int ep 0] }=h1
 intro k1 gI
 have W:=Walks.dictKeys (prog:=P) (w:=w) (A:=A.in1) (knd:=CY P w) (by simpa using hh) h0.objs.size a (Ne.symm hI) kvs ep
 refine wpAny_bind (wpAny_holding (PySem.W.kdl_hint_keys (T1 h1 k1 s.toks) ?_))
 rw[if_pos (by decide)]
 refine wpAny_bind (wpAny_rule ?_)
 refine wpAny_bind ?_
 show wpAny _ _ (updateSeq N (·.push .none) >>= λ_=>updateSeq N (·.pop)) _ _ _
 have g1:=k1 _ _ gN
 refine wpAny_bind (wpAny_updateSeq (s:={ s with heap:=h1 }) g1 rfl ?_)
 have g2:=Heap.get?_update_self (Obj.mapSeq (·.push Value.none)) g1 rfl
 refine wpAny_updateSeq (hz:=by seq_fits) g2 rfl ?_
 have g3:=Heap.get?_update_self (Obj.mapSeq (·.pop)) g2 rfl
 have oth:∀ b o,b≠N->h1.get? b=some o->((h1.update N (Obj.mapSeq (·.push Value.none))).update N (Obj.mapSeq (·.pop))).get? b=some o:=λb o hb e =>
  (Heap.get?_update_other _ _ (Ne.symm hb)).trans ((Heap.get?_update_other _ _ (Ne.symm hb)).trans e)
 have Nfp:N∉[h0.objs.size,a]:=λz=>by
  simp only[List.mem_cons,List.not_mem_nil,or_false]at z
  rcases z with z | z
  ·rw[big]at z;exact absurd z (Nat.ne_of_lt (Nat.lt_succ_self _))
  ·exact Nat.ne_of_gt hlt z
 refine wpAny_pure ⟨plainId_quiet PySem.F.plain_extend_loop _,?_⟩
 have st0:=W.frame 0 h1 ((h1.update N (Obj.mapSeq (·.push Value.none))).update N (Obj.mapSeq (·.pop))) ⟨gI,DA _ λb o e=>k1 _ _ (keep1 _ _ e)⟩ λb hb o e=>oth b o (λz=>Nfp (z ▸ hb)) e
 refine codeAny_extend_loopS W.toS hn N Nfp (.ref N) kvs.length 0 { s with heap:=(h1.update N (Obj.mapSeq (·.push Value.none))).update N (Obj.mapSeq (·.pop)) } #[] _ rfl (Nat.zero_le _) st0 g3 (ItemsOf.nil _) λs' acc c m g4 hacc=> ?_
 show wpAny _ A (load N >>= _) _ _ _
 refine wpAny_bind (wpAny_load g4 ?_)
 refine wpAny_pure ?_
 show R acc.toList s'
 obtain⟨h3',gn3,dr3,tk3,os3⟩:=s'
 have a1:gn3=s.gens:=m.gens
 have a2:dr3=s.drawn:=m.drawn
 have a3:os3=s.os:=m.os
 subst a1;subst a2;subst a3
 refine q _ _ _ (λb o e=> ?_) (by rw[eN];exact Nat.le_of_lt (Heap.lt_size g4)) ?_
 ·have hb:b<N:=eN ▸ Heap.lt_size e
  refine m.heap b o (λz=> ?_) (oth b o (Nat.ne_of_lt hb) (k1 _ _ (keep1 _ _ e)))
  simp only[List.mem_cons,List.not_mem_nil,or_false]at z
  rcases z with z | z
  ·exact Nat.ne_of_lt hb z
  ·rw[big]at z;exact Nat.ne_of_lt (Nat.lt_succ_of_lt hb) z
 ·refine QJ (uC (by have h5:=congrArg List.length hk;have h6:=hacc.1;simp at h5;simp;omega) λi y u ey eu=> ?_)
  rw[Array.getElem?_toList]at eu
  obtain⟨k,x,e1,e2⟩:=hacc.2 i u eu
  have e3:(kvs.map (·.1))[i]? =some k:=by rw[List.getElem?_map,e1];rfl
  rw[hk,List.getElem?_map]at e3
  rw[List.getElem?_map]at ey
  cases ez:ks[i]? with
  | none=>rw[ez]at e3;cases e3
  | some z =>
   rw[ez]at e3 ey
   cases e3;cases ey
   rcases FQ (show HE (Sum.inr z) u=true from e2)with⟨_,_,e5,_⟩ | ⟨x',t,e5,e6⟩
   ·cases e5
   ·cases e5;exact⟨t,e6⟩
theorem v6{v a:Addr}{kvs:List (AS × Value)}{ms:List Str}{Q:Value->Shared->Prop}(hh:A.handled=none)(KV:W.KdlKeysView s.heap v a)(D:s.heap.DictOf (CY P w) a kvs)(hk:kvs.map (·.1)=ms.map λi=>(Sum.inr i:AS))(hn:ms.length<64)
  (q:∀ D h' tk c out ks,(∀ b o,s.heap.get? b=some o->h'.get? b=some o)->s.heap.objs.size<=D->h'.get? D=some (seqObj "list" out c)->StrsAre out.toList ks->ks.Perm ms->sortedS ks=true->Q (.ref D) { s with heap:=h',toks:=tk }) :
  wpAny (model P w) A (call (.builtin "sorted") [.ref v]) Q E s:=by
 refine Calls.call_function_entry kind_sorted plain_sorted entry_sorted (args_sorted1 _) ?_
 unfold Builtin.«sorted»
 refine wpAny_bind (m:=checkCount "sorted" 1 1 _) (wpAny_pure ?_)
 have hlen:kvs.length=ms.length:=by have:=congrArg List.length hk;simpa using this
 refine wpAny_bind (v5 (A:=A.in1) (by simpa using hh) KV D (by rw[sizeLine_eq];omega) hk λh1 tk vs k1 size_le hi=> ?_)
 have hl:vs.length<64:=by rw[StrsAre.length hi];exact hn
 refine wpAny_bind (wpAny_newList ?_ (by rw[sizeLine_eq];omega))
 have g:(h1.push (seqObj "list" vs.toArray 0)).get? h1.objs.size=some (seqObj "list" vs.toArray 0):=Heap.get?_push_size _ rfl
 show wpAny _ _ _ _ _ { s with heap:=h1.push (seqObj "list" vs.toArray 0),toks:=tk }
 refine wpAny_bind (wpAny_holding (wpAny_call_entry slot_list_sort ⟨_,g,rfl⟩ entry_list_sort (list_sort_treeK strKind_oneLt g (StrsAre.keysOf hi) (λv₁ v₂ rest e=>keyKind_strs (by rw[<-e];exact hi)) hl λst' hp hs=>⟨_,rfl,?_⟩) (args_list_sort _)))
 obtain⟨ks',i1,p1,r1⟩:=sorted_out_str hi hp hs
 obtain⟨c,gc⟩:=sortedHeap_at (n:=0) (out:=Array.map (λx=>x.snd) (arrOf st')) g
 refine wpAny_pure ⟨_,rfl,q _ _ tk c _ ks' (λb o e=> ?_) size_le gc i1 p1 r1⟩
 have hb:=Heap.lt_size (k1 _ _ e)
 rw[sortedHeap_old (Nat.ne_of_lt hb) (by rw[size_push'];exact Nat.lt_succ_of_lt hb)]
 exact Heap.get?_push_of_some _ (k1 _ _ e)
end
section
variable{X:Cx}
def HN(v a:Addr):Heap->Prop:=λh=>W.KdlKeysView h v a
def Z8:V->List V->Hp->VK->Prop:=λx vs H Q=>∃ (a:Addr) (kvs:List (AS × V)),x=.ref a/\vs=[]/\H a=some (.dK kvs)/\∀ v,H v=none->Q (.ref v) (upd H v (.ext (HN v a)))
theorem v7:MT X "dict.keys" Z8:=by
 intro pins s σ H x vs v us Q I rx rv h
 obtain⟨a,kvs,rfl,rfl,ha,q⟩:=h
 obtain rfl:v=Value.ref a:=rx
 cases rv
 obtain⟨_,hs,ws,rel,D⟩:=PM I.hok ha
 obtain⟨od,es,ep,ho,hex,hdat,h1,h2,h3⟩:=D
 refine call_meetsIn PySem.F.slot_dict_keys ⟨od,ho,hex.1⟩ PySem.F.entry_dict_keys (PySem.F.args_dict_keys_1 _) (W.kdl_meets_keys (CY X.prog X.w) a hs) ⟨⟨ws,od,es,ep,ho,hex,hdat,h1,h2,h3⟩,?_⟩
 have g:(s.heap.push { cls:=.type "dict_keys",data:=.fields #[.ref a] }).get? s.heap.objs.size=some { cls:=.type "dict_keys",data:=.fields #[.ref a] }:=Heap.get?_push_size _ rfl
 refine⟨.ref s.heap.objs.size,_,I.laid (t':=s.toks) (o:=.ext (HN s.heap.objs.size a)) (λb o e=>Heap.get?_push_of_some _ e) (Nat.le_refl _) ?_,rfl,q _ (I.hok.fresh (Nat.le_refl _))⟩
 exact⟨⟨_,g,rfl,rfl⟩,⟨_,g⟩,λh h' ⟨o,e1,e2,e3⟩ k=>⟨o,k _ e1,e2,e3⟩⟩
def Z9(K:W.Frag):List V->Hp->VK->Prop:=λxs H Q=>∃ (v a:Addr) (kvs:List (AS × V)) (ms:List Str),xs=[.ref v]/\H v=some (.ext (HN v a))/\H a=some (.dK kvs)/\kvs.map (·.1)=ms.map (λi=>(Sum.inr i:AS))/\ms.length<64 ∧
  ∀ (D:Addr) (ks:List Str),H D=none->ks.Perm ms->sortedS ks=true->Q (.ref D) (upd H D (.lst (ks.map V.str)))
theorem v8(hc:X.calm=true):DJ X (.builtin "sorted") (Z9 X.K):=by
 intro pins s σ H xs us Q I r h
 obtain⟨v,a,kvs,ms,rfl,hv,ha,hk,hn,q⟩:=h
 obtain⟨u,rfl,rx⟩:=FA r
 cases rx
 obtain⟨_,hs,vs,rel,D⟩:=PM I.hok ha
 have KV:HN v a s.heap:=(show ObjOk X.prog X.w H s.heap v (.ext (HN v a))from I.hok v _ hv).1
 refine v6 (I.ok.hd hc) KV D (by rw[Z2 rel];exact hk) hn λD h' tk c out ks k hD g hi pk hr=> ?_
 have hl:ks.length<64:=by rw[pk.length_eq];exact hn
 refine⟨.ref D,_,I.laid (t':=tk) k hD ?_,rfl,q D ks (I.hok.fresh hD) pk hr⟩
 exact⟨by rw[List.length_map,sizeLine_eq];omega,out.toList,c,TC hi,g⟩
end
abbrev v9:=YH
end L2
namespace L2
section
variable{X:Cx}{pins:List (Addr × Obj)}{σ:St}{H:Hp}{s:Shared}
theorem Inv.thaw{d:Addr}{o:Obj}{kvs:List (AS × V)}(I:Inv X pins σ H s)(e:H d=some (.frz o (.dK kvs)))(nb:∀ o u,X.H₀ d≠some (.frz o u)):Inv X pins σ (upd H d (.dK kvs)) s:=by
 have nd:∀ {b:Addr},H b=none->b≠d:=λhb z=>by rw[z,e]at hb;cases hb
 have up:∀ {b:Addr},H b=none->upd H d (.dK kvs) b=none:=λhb=>by rw[AM (nd hb)];exact hb
 refine⟨I.ok,I.os,I.bare,⟨I.base.keep,I.base.slot,λb o' e1 e2 e3=>up (I.base.free b o' e1 e2 e3),I.base.there,λb xs eb=> ?_,λb o' u eb=> ?_,λb ps eb=> ?_⟩,I.loc,I.cell,up I.free,λx c ec=>up (I.freeC x c ec),λp hp=> ?_,λb u eb=> ?_,I.len⟩
 ·have:=I.base.tups b xs eb
  rw[AM λz=>by rw[z,e]at this;cases this]
  exact this
 ·have:=I.base.frzs b o' u eb
  rw[AM (show b≠d from λz=>nb o' u (by rw[<-z];exact eb))]
  exact this
 ·obtain⟨more,this⟩:=I.base.tbls b ps eb
  exact⟨more,by rw[AM λz=>by rw[z,e]at this;cases this];exact this⟩
 ·obtain⟨h1,h2,h3⟩:=I.pin p hp
  exact⟨h1,up h2,h3⟩
 ·have st:∀ {b:Addr} {u:HO},ObjOk X.prog X.w H s.heap b u->ObjOk X.prog X.w (upd H d (.dK kvs)) s.heap b u:=λh=>h.stay (λ_ _ _ e=>e) (λb' e'=>by rw[AM (CG e' e (by intro z;cases z))];exact e') λb' xs e'=>by rw[AM (CG e' e (by intro z;cases z))];exact e'
  by_cases hb:b=d
  ·subst hb
   rw[AJ]at eb
   cases eb
   exact st (show ObjOk X.prog X.w H s.heap b (.frz o (.dK kvs))from I.hok b _ e).2
  ·rw[AM hb]at eb
   exact st (I.hok b u eb)
def QN(d:Addr)(o:Obj)(kvs:List (AS × V)):It :=
 ⟨λi H=>H d=some (.frz o (.dK kvs))/\i<kvs.length,λi H x H'=>H'=H/\∃ k v,x=kV k/\kvs[i]? =some (k,v),λi H=>H d=some (.frz o (.dK kvs))/\kvs.length<=i⟩
theorem aA{P:Program}{w:World}:∀ {es:List DictEntry} {vs:List (AS × Value)} {i:Nat} {x:AS × Value},Pairs (CY P w) es vs->vs[i]? =some x->∃ e,es[i]? =some e/\HE x.1 e.key=true
 | _,_,0,_,.cons h _ _,e=>by cases e;exact⟨_,rfl,h⟩
 | _,_,i+1,_,.cons _ _ t,e=>aA (i:=i) t e
theorem aB{P:Program}{w:World}:∀ {es:List DictEntry} {vs:List (AS × Value)},Pairs (CY P w) es vs->es.length=vs.length
 | _,_,.nil=>rfl
 | _,_,.cons _ _ t=>by rw[List.length_cons,List.length_cons,aB t]
theorem wA{P:Program}{w:World}{K:W.Frag}{tg:Expr}(d it:Addr){o:Obj}{kvs:List (AS × V)}{es:Array DictEntry}{ep:Nat}(hdat:o.data=.dict es ep):HG P w K tg (QN d o kvs) [it] it (λi h=>h.IsKeyIter it d i es.size ep) where
 mem:=by simp
 obj:=λi h st b hb=>by
  have e:b=it:=by simpa using hb
  subst e
  obtain⟨o,e,c,d⟩:=st
  exact⟨o,e,λv z=>by rw[d]at z;cases z⟩
 keep:=λi h h' st k=>st.at λo e=>k it (by simp) o e
 item:=by
  intro X hP hw hK hc i pins s σ H E I hf st hg
  subst hP hw hK
  obtain⟨hq,hi⟩:=hg
  obtain⟨h1,z,y,vs,r,o',es',ep',g1,g2,g3,g4,g5,g6⟩:=(show ObjOk X.prog X.w H s.heap d (.frz o (.dK kvs))from I.hok d _ hq)
  rw[h1]at g1;cases g1
  rw[hdat]at g3;cases g3
  obtain⟨f0,f1,f2,f3,f4,f5⟩:=hf it (by simp)
  have hl:vs.length=kvs.length:=r.length.symm
  have hix:i<vs.length:=by omega
  obtain⟨x,ex,hx1,hx2⟩:=IJ r (List.getElem?_eq_getElem hix)
  obtain⟨en,ee,hk⟩:=aA g5 (List.getElem?_eq_getElem hix)
  have he:es[i]? =some en:=by rw[<-Array.getElem?_toList];exact ee
  refine vR st h1 hdat he λh' st' sb=> ?_
  have I1:Inv X pins σ H { s with heap:=h' }:=I.turned (t':=s.toks) (λb o hb e=>(sb.2 b hb).trans e) f0 f1 f3 f4 f5
  obtain⟨o2,e2,c2,d2⟩:=id st'
  have rk:RelV (kV x.1) en.key:=by
   rw[hx1]
   rcases FQ hk with⟨j,t,e5,e6⟩ | ⟨j,t,e5,e6⟩
   ·rw[e5,e6];exact⟨t,rfl⟩
   ·rw[e5,e6];exact⟨t,rfl⟩
  exact⟨_,rfl,MK (s:={ s with heap:=h' }) e2 c2 d2 (by decide) ⟨kV x.1,H,I1,rk,⟨rfl,x.1,x.2,rfl,ex⟩,st',λb hb=>(hf b hb).1⟩⟩
 done:=by
  intro X hP hw hK hc i pins s σ H E I hf st hg
  subst hP hw hK
  obtain⟨hq,hi⟩:=hg
  obtain⟨h1,z,y,vs,r,o',es',ep',g1,g2,g3,g4,g5,g6⟩:=(show ObjOk X.prog X.w H s.heap d (.frz o (.dK kvs))from I.hok d _ hq)
  rw[h1]at g1;cases g1
  rw[hdat]at g3;cases g3
  obtain⟨f0,f1,f2,f3,f4,f5⟩:=hf it (by simp)
  have hes:es.size=kvs.length:=by rw[<-Array.length_toList,aB g5];exact r.length.symm
  exact vS (I.ok.hd hc) st h1 hdat (by omega) λh' eb=>⟨rfl,I.turned (t':=s.toks) (λb o hb e=>eb b o hb e) f0 f1 f3 f4 f5⟩
 self:=λ_ _ _ _ _ st h=>wpAny_pyIter_keyiter st h
variable{tg iter elt:Expr}{ifs:List Expr}{scope:Scope}{pos:Pos}{td:TE}{g:TG}{tt:TT}{te:TE}{tn cn:List Str}{cap:List Nat}
def TJ(td:TE)(g:TG)(tt:TT)(te:TE)(k:Nat)(cap:List Nat):TE:=λσ H Q=>td σ H λx H1=>∃ d kvs,x=.ref d/\H1 d=some (.dK kvs)/\∀ o,
 EG (QN d o kvs) g tt te k cap σ (upd H1 d (.frz o (.dK kvs))) λv H2=>H2 d=some (.frz o (.dK kvs))/\Q v (upd H2 d (.dK kvs))
theorem wB(S:KC X scope tn cn cap)(hc:X.calm=true)(hi:PE X iter td)
  (hg:∀ pins s H cl C fp,PG (X.block pins s H (tn++cn) scope cl C fp) tg g) (ht:∀ pins s H cl C fp,KD (X.block pins s H (tn++cn) scope cl C fp) ifs tt) (he:∀ pins s H cl C fp,PE (X.block pins s H (tn++cn) scope cl C fp) elt te)
  (hs:∀ x,foldedSetIterable iter X.env x=pure x:=by intro _;rfl):PE X (.ListComp elt [⟨tg,iter,ifs,0⟩] scope pos) (TJ td g tt te tn.length cap):=by
 intro pins s σ H Q I h
 obtain⟨cl,ecl,hcl,hcl2⟩:=SH (env:=X.env) (scope:=scope) λx hx hxf=>I.ok.has x.1 (S.free x hx hxf)
 rw[eval_ListComp]
 refine wpAny_comprehension_free (use:=none) rfl hs ecl S.kind S.names (AT (hi pins s σ H _ I h) λv s1 ⟨x,H1,I1,r1,d,kvs,e,hd,q⟩=> ?_)
 subst e
 cases r1
 obtain⟨z,y,xs,r,o,es,ep,g1,g2,g3,g4⟩:=(show ObjOk X.prog X.w H1 s1.heap d (.dK kvs)from I1.hok d _ hd)
 have nb:∀ o u,X.H₀ d≠some (.frz o u):=λo u e=>by
  have:=I1.base.frzs d o u e
  rw[hd]at this
  cases this
 refine vQ y g1 g2 g3 ?_
 have new:ObjOk X.prog X.w (upd H1 d (.frz o (.dK kvs))) s1.heap d (.frz o (.dK kvs)):=⟨g1,(I1.hok d _ hd).stay (λ_ _ _ e=>e) (λb e=>by rw[AM (CG e hd (by intro z;cases z))];exact e) λb xs e=>by rw[AM (CG e hd (by intro z;cases z))];exact e⟩
 have I2':Inv X pins σ (upd H1 d (.frz o (.dK kvs))) { s1 with heap:=s1.heap,toks:=s1.toks }:=I1.write (by rw[hd];trivial) (.inl rfl) (λ_ _ _ e=>e) ⟨o,g1⟩ new
 have I2:Inv X pins σ (upd H1 d (.frz o (.dK kvs))) { s1 with heap:=s1.heap.push { cls:=.type "dict_keyiterator",data:=.fields #[.ref d,.int 0 0,.int es.size 0,.int ep 0] } }:=I2'.kept (t':=s1.toks) λb o e=>Heap.get?_push_of_some _ e
 have st2:(s1.heap.push { cls:=.type "dict_keyiterator",data:=.fields #[.ref d,.int 0 0,.int es.size 0,.int ep 0] }).IsKeyIter s1.heap.objs.size d 0 es.size ep:=⟨_,Heap.get?_push_size _ rfl,rfl,by simp⟩
 have f2:∀ b∈[s1.heap.objs.size],FpOk X pins (upd H1 d (.frz o (.dK kvs))) b:=λb hb=>by
  have e:b=s1.heap.objs.size:=by simpa using hb
  subst e
  exact I2'.fpOk (Nat.le_refl _) (I2'.hok.fresh (Nat.le_refl _))
 obtain⟨W,⟨m0,w0⟩,turn⟩:=q o
 refine AT (SI (Q:=λv H2=>H2 d=some (.frz o (.dK kvs))/\Q v (upd H2 d (.dK kvs))) I2 S hc hcl hcl2 (wA (o:=o) (kvs:=kvs) d s1.heap.objs.size g3) st2 f2 (λC=>hg _ _ _ _ C _) (λC=>ht _ _ _ _ C _) (λC=>he _ _ _ _ C _) W w0 turn) λacc s3 h3=>AT h3 λcenv s4 h4=>codeAny_mono h4 λr s5 h5=> ?_
 have hr:=h5.ok
 subst hr
 obtain⟨D,H',rfl,I5,⟨e5,q5⟩,hCn,m,hm⟩:=h5.inv I2 f2
 exact⟨m,hm,λh' hs'=>⟨.ref D,_,(I2.letgo h5.ge I5 hCn hs').thaw e5 nb,rfl,q5⟩⟩
theorem wC{k:Nat}{Q:VK}:TJ td g tt te k cap σ H Q=(td σ H λx H1=>∃ d kvs,x=.ref d/\H1 d=some (.dK kvs)/\∀ o,EG (QN d o kvs) g tt te k cap σ (upd H1 d (.frz o (.dK kvs))) λv H2=>H2 d=some (.frz o (.dK kvs))/\Q v (upd H2 d (.dK kvs))):=rfl
theorem wD{d:Addr}{ob:Obj}{kvs:List (AS × V)}{Q:VK}(hn:kvs.length<=sizeLine)(Pv:Nat->List V->Hp->Prop)(h0:Pv 0 [] H)(hq:∀ i ys H,i<=kvs.length->Pv i ys H->H d=some (.frz ob (.dK kvs)))
  (hs:∀ i k v ys H,kvs[i]? =some (k,v)->ys.length=i->Pv i ys H->te (some (kV k)::C1 cap σ) H λy H2=>Pv (i+1) (ys++[y]) H2)
  (hd:∀ ys H,ys.length=kvs.length->Pv kvs.length ys H->∀ p,H p=none->Q (.ref p) (upd H p (.lst ys))) :
  EG (QN d ob kvs) (AR 0) CM te 1 cap σ H Q:=by
 refine⟨λi m σ' ys H=>m=kvs.length - i/\i<=kvs.length/\ys.length=i/\(∃ x0,σ'=x0::C1 cap σ)/\Pv i ys H,⟨kvs.length,by simp,Nat.zero_le _,rfl,⟨none,rfl⟩,h0⟩,?_⟩
 rintro i m σ' ys H ⟨rfl,hi,hl,⟨x0,rfl⟩,p⟩
 have q:=hq i ys H hi p
 by_cases hlt:i<kvs.length
 ·refine .inr ⟨⟨q,hlt⟩,by omega,λx H' y=> ?_⟩
  obtain⟨e,k,v,ex,ek⟩:=y
  subst e ex
  simp only[AR,CM,if_true]
  refine⟨_,λy H4 q=>⟨kvs.length - (i+1),by omega,rfl,hlt,?_,⟨_,rfl⟩,q⟩,hs i k v ys _ ek hl p⟩
  rw[List.length_append,List.length_singleton,hl]
 ·have e:i=kvs.length:=by omega
  subst e
  exact .inl ⟨⟨q,Nat.le_refl _⟩,hd ys H hl p⟩
def QP(K:W.Frag):List V->Hp->VK->Prop:=λxs H Q=>∃ a kvs,xs=[V.ref a]/\H a=some (.dK kvs)/\Q (.int kvs.length) H
theorem aC:DJ X (.builtin "len") (QP X.K):=p8
theorem aD{K:W.Frag}{d:Addr}{kvs:List (AS × V)}{Q:VK}(e:H d=some (.dK kvs))(q:Q (.int kvs.length) H):QP K [.ref d] H Q:=⟨d,kvs,rfl,e,q⟩
end
end L2
namespace L2
theorem FnScope.go{N P:List Str}{sc:Scope}(h1:sc.kind=.function:=by exact rfl)(h2:sc.isCoroutine=false:=by exact rfl)(h3:sc.isGenerator=false:=by exact rfl)(h4:N.Nodup:=by decide +kernel)(h5:N.take P.length=P:=by exact rfl)(h6:∀ x∈P,sc.names.lookup x=some .local\/sc.names.lookup x=some .cell:=by decide +kernel)(h7:∀ y∈sc.names,y.2≠.free:=by decide +kernel):FnScope N P sc:=⟨h1,h2,h3,h4,h5,h6,h7⟩
theorem Room.m{j k:Nat}{A:Around}(r:Room k A)(h:j<=k:=by decide):Room j A:=r.mono h
abbrev FP(P:Program)(w:World)(K:W.Frag)(mg:Str->Option Value)(base:Heap)(k:Nat)(f:Addr)(fd:FuncData)(ps:List Str)(sp:Sp):Prop:=FnOk P w K mg base (DK P w) k f fd ps sp
theorem Fun.okF{P:Program}{w:World}{K:W.Frag}{mg:Str->Option Value}{base:Heap}{x qual:Str}{st:Stmt}{f:Addr}{fd:FuncData}{N ps:List Str}{k:Nat}{sp:Sp}(F:Fun K x qual st f fd)(rd:(St->XK)->TS)(S:FnScope N ps (AK st))(len:∀ {vs H Q E},sp vs H Q E->vs.length=ps.length)
  (ok:∀ {vs H Q E},sp vs H Q E->rd (λ_=>E) { nx:=λ_ H'=>Q .non H',rt:=Q } (A7 N vs) H)
  (hb:∀ (cdv:Value) (A:Around) (outer:List Env) (s:Shared) (H:Hp) (E:XK),Room k (A.deeper (envOfC qual (AK st) s.heap.objs.size f cdv))->XOk (GW (DK P w) P w K mg base N qual (AK st) f cdv A outer s H E) (λ_=>E) →
   E9 (GW (DK P w) P w K mg base N qual (AK st) f cdv A outer s H E) (A8 st) (rd λ_=>E)):FP P w K mg base (k+1) f fd ps sp :=
 F.okE S (λ_ _ _ _=>len) λcdv A outer s H _ _ E hr h=>⟨_,hb cdv A outer s H E hr qA,ok h⟩
section
variable{X:Cx}{pos:Pos}
theorem BD(i:Nat){x:Str}{e:Expr}{te:TE}{pos':Pos}(hN:X.N.Nodup)(he:PE X e te)(hi:X.N[i]? =some x:=by exact rfl)(hx:JZ X.env.scope x:=by exact Or.inl rfl)(hs:swapsWith e (some (.Name x pos')) pos.line X.env=pure false:=by rfl)(hf:X.fn x=true\/X.env.scope.names.lookup x=some .local:=by first | exact .inl rfl | exact .inr rfl | assumption) :
  PS X (.Assign [.Name x pos'] e pos) (AZ te (AR i)):=MJ hN hi hx he hs hf
theorem HP(i:Nat){x:Str}(hN:X.N.Nodup)(hi:X.N[i]? =some x:=by exact rfl)(hx:JZ X.env.scope x:=by exact Or.inl rfl)(hf:X.fn x=true\/X.env.scope.names.lookup x=some .local:=by first | exact .inl rfl | exact .inr rfl | assumption):PG X (.Name x pos) (AR i):=DY hN hi hx hf
end
end L2
namespace L2
abbrev Ad:=String->Addr
def SameBut(F:Addr->Prop)(H H':Hp):Prop:=∀ b o,H b=some o->¬ F b->H' b=some o
structure D1(K:W.Frag)(a:Ad):Prop where
 cl:Cls K (a "Plank")
 nC:NoAttr K (a "Plank") "contents"
 nW:NoAttr K (a "Plank") "width"
 nN:NoAttr K (a "Plank") "written"
def pf(cl:Addr)(w n:Int):List (Str × V):=[("contents",.ref cl),("width",.int w),("written",.int n)]
theorem aE:¬ ("contents":Str)="width":=by decide +kernel
theorem wE:¬ ("contents":Str)="written":=by decide +kernel
theorem wF:¬ ("width":Str)="written":=by decide +kernel
theorem TK(cl:Addr)(w n:Int):(pf cl w n).lookup ("contents":Str)=some (V.ref cl):=by simp[pf]
theorem wG(cl:Addr)(w n:Int):(pf cl w n).lookup ("width":Str)=some (V.int w):=by
 have h:(("width":Str) == "contents")=false:=beq_eq_false_iff_ne.mpr (Ne.symm aE)
 simp[pf,List.lookup_cons,h]
theorem wH(cl:Addr)(w n:Int):A6 "written" (.int n) (A6 "width" (.int w) (A6 "contents" (.ref cl) []))=pf cl w n:=by
 simp only[A6,pf]
 rw[if_neg aE]
 simp only[A6]
 rw[if_neg wE,if_neg wF]
theorem QQ(cl:Addr)(w n:Int){m:Str}(h1:¬ m="contents")(h2:¬ m="width")(h3:¬ m="written"):(pf cl w n).lookup m=none:=by
 have e1:=beq_eq_false_iff_ne.mpr h1
 have e2:=beq_eq_false_iff_ne.mpr h2
 have e3:=beq_eq_false_iff_ne.mpr h3
 simp[pf,List.lookup_cons,e1,e2,e3]
structure PlankAt(a:Ad)(H:Hp)(p cl:Addr)(w:Nat)(rows:List (List V))(n:Nat):Prop where
 ob:∃ dx,H p=some (.ins (a "Plank") dx (pf cl w n))
 ls:∃ ts:List Addr,H cl=some (.lst (ts.map V.ref))/\Paired (λt r=>H t=some (.tup r)) ts rows
 wd:∀ r∈rows,r.length=w
 sz:rows.length<=1000
 sw:w<=1000
theorem PlankAt.same{a:Ad}{H H':Hp}{p cl:Addr}{w:Nat}{rows:List (List V)}{n:Nat}(P:PlankAt a H p cl w rows n)(s:Same H H'):PlankAt a H' p cl w rows n:=by
 obtain⟨⟨dx,e1⟩,⟨ts,e2,e3⟩,r1,r2,r3⟩:=P
 exact⟨⟨dx,s _ _ e1⟩,⟨ts,s _ _ e2,Paired.mapP e3 λt r q=>s _ _ q⟩,r1,r2,r3⟩
def NF(K:W.Frag)(a:Ad):Sp:=λvs H Q _=>∃ (p dx:Addr) (m w:Nat),vs=[.ref p,.int m,.int w]/\D1 K a/\H p=some (.ins (a "Plank") dx [])/\m<=1000/\1<=w/\w<=1000 ∧
 ∀ cl H',H cl=none->PlankAt a H' p cl w (List.replicate m (List.replicate w .non)) 0->SameBut (· =p) H H'->Q .non H'
def IL(K:W.Frag)(a:Ad):Sp:=λvs H Q _=>∃ p cl w rows n,vs=[.ref p]/\D1 K a/\PlankAt a H p cl w rows n/\Q (.int rows.length) H
def NG(K:W.Frag)(a:Ad):Sp:=λvs H Q _=>∃ (p cl:Addr) (w:Nat) (rows:List (List V)) (n:Nat),vs=[.ref p]/\D1 K a/\PlankAt a H p cl w rows n/\Q (.int w) H
def KK(K:W.Frag)(a:Ad):Sp:=λvs H Q E=>∃ (p cl:Addr) (w:Nat) (rows:List (List V)) (n:Nat) (b:Int),vs=[.ref p,.int b]/\D1 K a/\PlankAt a H p cl w rows n ∧
 (0<=b->b<rows.length->Q .non H)/\(b<0\/rows.length<=b->E (.ref (a "NoBlock")) none H)
def NH(K:W.Frag)(a:Ad):Sp:=λvs H Q E=>∃ (p cl:Addr) (w:Nat) (rows:List (List V)) (n:Nat) (b:Int),vs=[.ref p,.int b]/\D1 K a/\PlankAt a H p cl w rows n ∧
 (∀ (i:Nat) row,b=i->rows[i]? =some row->∀ l,H l=none->Q (.ref l) (upd H l (.lst row)))/\(b<0\/rows.length<=b->E (.ref (a "NoBlock")) none H)
end L2
namespace L2
theorem DD{K:W.Frag}{H:Hp}{p:Addr}{xs:List V}{i:Int}{n:Nat}{v:V}{Q:VK}(h:H p=some (.tup xs))(hi:i=n)(hx:xs[n]? =some v)(q:Q v H):BE K (.ref p) (.int i) H Q :=
 .inr (.inl ⟨p,xs,i,v,rfl,rfl,SqT.of h,by rw[hi];exact PF hx,q⟩)
theorem QR{C C' dx dx':Addr}{fs fs':List (Str × V)}(h:fs≠fs'):HO.ins C dx fs≠HO.ins C' dx' fs':=by
 intro z
 injection z with _ _ z
 exact h z
theorem wI(xs:List V){k:Int}(h:0<=k):DZ xs none (some k)=xs.take k.toNat:=by
 unfold DZ
 have e:HT.sIx xs.length xs.length (some k)=min k.toNat xs.length:=by
  show(if k<0 then(k+(xs.length:Int)).toNat else min k.toNat xs.length)=_
  rw[if_neg (by omega)]
 rw[e,HT.sIx_none,List.drop_zero,Nat.sub_zero,List.take_eq_take_iff]
 omega
theorem wJ(xs:List V){k:Int}(h:0<=k):DZ xs (some k) none=xs.drop k.toNat:=by
 unfold DZ
 have e:HT.sIx xs.length 0 (some k)=min k.toNat xs.length:=by
  show(if k<0 then(k+(xs.length:Int)).toNat else min k.toNat xs.length)=_
  rw[if_neg (by omega)]
 rw[e,HT.sIx_none]
 rcases Nat.lt_or_ge k.toNat xs.length with z | z
 ·rw[Nat.min_eq_left (Nat.le_of_lt z),List.take_of_length_le (by rw[List.length_drop];exact Nat.le_refl _)]
 ·rw[Nat.min_eq_right z,List.drop_of_length_le (Nat.le_refl _),List.drop_of_length_le z];simp
theorem wK{K:W.Frag}{H:Hp}{p:Addr}{xs:List V}{lo hi:Option Int}{Q:VK}(h:SqL K H p xs)(q:∀ r,H r=none->Q (.ref r) (upd H r (.lst (DZ xs lo hi)))):HL K (.ref p) lo hi H Q:=.inl ⟨p,xs,rfl,h,q⟩
theorem SameBut.trans{F:Addr->Prop}{H H' H2:Hp}(s:SameBut F H H')(t:SameBut F H' H2):SameBut F H H2:=λb o e n=>t _ _ (s _ _ e n) n
theorem SameBut.wide{F G:Addr->Prop}{H H':Hp}(s:SameBut F H H')(i:∀ x,F x->G x):SameBut G H H':=λb o e n=>s _ _ e λz=>n (i _ z)
theorem Same.sb{F:Addr->Prop}{H H':Hp}(s:Same H H'):SameBut F H H':=λb o e _=>s b o e
theorem SameBut.upd{F:Addr->Prop}{H H':Hp}{p:Addr}{o:HO}(s:SameBut F H H')(h:F p\/H p=none):SameBut F H (upd H' p o):=λb u e n=>by
 have:b≠p:=by
  rcases h with h | h
  ·exact λz=>n (z ▸ h)
  ·exact BM e h
 rw[AM this];exact s _ _ e n
structure Ch where
 blk:Nat
 cell:Nat
 val:V
 nd:List Int
def NI:List Ch->Int->Int->Option Nat
 | [],_,_=>none
 | c::r,i,j=>if(c.blk:Int)=i/\(c.cell:Int)=j then some r.length else NI r i j
def EB(cs:List Ch)(i j:Int):Option Nat:=NI cs.reverse i j
def KL:List Ch->Nat->List Nat
 | [],_=>[]
 | c::r,b=>if c.blk=b then KL r b++[r.length]else KL r b
def IM(cs:List Ch)(b:Nat):List Nat:=KL cs.reverse b
theorem aF(cs:List Ch)(c:Ch)(i j:Int):EB (cs++[c]) i j=if(c.blk:Int)=i/\(c.cell:Int)=j then some cs.length else EB cs i j:=by
 simp[EB,NI]
theorem wL(cs:List Ch)(c:Ch)(b:Nat):IM (cs++[c]) b=if c.blk=b then IM cs b++[cs.length]else IM cs b:=by
 simp[IM,KL]
theorem aG:∀ {l:List Ch} {i j:Int} {k:Nat},NI l i j=some k->k<l.length
 | [],_,_,_,h=>by cases h
 | c::r,i,j,k,h=>by
  unfold NI at h
  split at h
  ·cases h;simp
  ·have:=aG h
   simp only[List.length_cons];omega
theorem QS{cs:List Ch}{i j:Int}{k:Nat}(h:EB cs i j=some k):k<cs.length:=by
 have:=aG h
 rwa [List.length_reverse]at this
theorem aH:∀ (l:List Ch) (b:Nat),(KL l b).length<=l.length
 | [],_=>Nat.le_refl _
 | c::r,b=>by
  have:=aH r b
  unfold KL
  split<;>simp<;>omega
theorem wM(cs:List Ch)(b:Nat):(IM cs b).length<=cs.length:=by
 have:=aH cs.reverse b
 rwa [List.length_reverse]at this
def GK(pl:Addr)(v:V)(nt:Addr):List (Str × V):=[("place",.ref pl),("value",v),("needs",.ref nt)]
def bf(gp m mi lt ou:Addr):List (Str × V):=[("ground",.ref gp),("made",.ref m),("made_in",.ref mi),("latest",.ref lt),("outs",.ref ou)]
def EH(a b:Str):Bool:=a == b
section
variable{pl nt gp m mi lt ou:Addr}{v:V}
theorem CN{a b:Str}(h:EH a b=false):(a == b)=false:=h
theorem wN:(GK pl v nt).lookup ("value":Str)=some v:=by
 simp[GK,List.lookup_cons,CN (a:="value") (b:="place") (by decide +kernel)]
theorem KM{f g:Str}{x y:V}{r:List (Str × V)}(h:EH g f=false):A6 f y ((g,x)::r)=(g,x)::A6 f y r:=by
 have:¬ g=f:=λe=>by rw[e]at h;simp[EH]at h
 simp[A6,this]
theorem KN{f:Str}{y:V}:A6 f y []=[(f,y)]:=rfl
theorem wO:A6 "needs" (.ref nt) (A6 "value" v (A6 "place" (.ref pl) []))=GK pl v nt:=by
 rw[KN,KM (by decide +kernel),KN,KM (by decide +kernel),KM (by decide +kernel),KN]
 rfl
theorem TM:(bf gp m mi lt ou).lookup ("ground":Str)=some (V.ref gp):=by simp[bf]
theorem QT:(bf gp m mi lt ou).lookup ("made":Str)=some (V.ref m):=by
 simp[bf,List.lookup_cons,CN (a:="made") (b:="ground") (by decide +kernel)]
theorem wP:(bf gp m mi lt ou).lookup ("made_in":Str)=some (V.ref mi):=by
 simp[bf,List.lookup_cons,CN (a:="made_in") (b:="ground") (by decide +kernel),CN (a:="made_in") (b:="made") (by decide +kernel)]
theorem aI:(bf gp m mi lt ou).lookup ("latest":Str)=some (V.ref lt):=by
 simp[bf,List.lookup_cons,CN (a:="latest") (b:="ground") (by decide +kernel),CN (a:="latest") (b:="made") (by decide +kernel),CN (a:="latest") (b:="made_in") (by decide +kernel)]
theorem DM{x:Str}(h:(EH x "ground" || EH x "made" || EH x "made_in" || EH x "latest" || EH x "outs")=false):(bf gp m mi lt ou).lookup x=none:=by
 simp only[Bool.or_eq_false_iff]at h
 obtain⟨⟨⟨⟨h1,h2⟩,h3⟩,h4⟩,h5⟩:=h
 simp[bf,List.lookup_cons,CN h1,CN h2,CN h3,CN h4,CN h5]
theorem wQ:A6 "outs" (.ref ou) (A6 "latest" (.ref lt) (A6 "made_in" (.ref mi) (A6 "made" (.ref m) (A6 "ground" (.ref gp) []))))=bf gp m mi lt ou:=by
 repeat (first | rw[KN] | rw[KM (by decide +kernel)])
 rfl
end
structure aJ(K:W.Frag)(C D:Addr):Prop where
 cl:Cls K C
 nG:NoAttr K C "ground"
 nM:NoAttr K C "made"
 nI:NoAttr K C "made_in"
 nL:NoAttr K C "latest"
 nO:NoAttr K C "outs"
 cc:Cls K D
 nP:NoAttr K D "place"
 nV:NoAttr K D "value"
 nN:NoAttr K D "needs"
def ChAt(D:Addr)(H:Hp)(x:Addr)(c:Ch):Prop:=∃ dx pl nt,H x=some (.ins D dx (GK pl c.val nt))/\H pl=some (.tup [.int c.blk,.int c.cell])/\H nt=some (.tup (c.nd.map V.int))
structure BA where
 b:Addr
 gp:Addr
 m:Addr
 mi:Addr
 lt:Addr
 ou:Addr
 ls:List Addr
 cl:Addr
def BA.F(A:BA)(x:Addr):Prop:=x=A.m\/x=A.mi\/x∈A.ls\/x=A.lt\/x=A.ou\/x=A.cl
def KeysOk(kvo:List (AS × V))(n:Nat):Prop:=(kvo.map (·.1)).Nodup/\∀ p∈kvo,∃ x:Nat,p.1=Sum.inl (x:Int)/\x<n
theorem KeysOk.mono{kvo:List (AS × V)}{n m:Nat}(h:KeysOk kvo n)(hm:n<=m):KeysOk kvo m:=⟨h.1,λp hp=>by obtain⟨x,e,hx⟩:=h.2 p hp;exact⟨x,e,by omega⟩⟩
structure BookIn(C D:Addr)(H:Hp)(A:BA)(w:Nat)(cs:List Ch)(outs:Int->Bool):Prop where
 ob:∃ dx,H A.b=some (.ins C dx (bf A.gp A.m A.mi A.lt A.ou))
 made:∃ chs:List Addr,H A.m=some (.lst (chs.map V.ref))/\Paired (ChAt D H) chs cs
 mil:H A.mi=some (.lst (A.ls.map V.ref))
 mic:∀ (i:Nat) l,A.ls[i]? =some l->H l=some (.lst ((IM cs i).map λ(k:Nat)=>V.int k))
 nd:A.ls.Nodup
 lat:∃ kvs,H A.lt=some (.dT kvs)/\(∀ i j:Int,B7 kvs [.inl i,.inl j]=(EB cs i j).map λ(k:Nat)=>V.int k)/\kvs.length<=cs.length
 out:∃ kvo,H A.ou=some (.dK kvo)/\(∀ k:Int,(B7 kvo (.inl k)).isSome=outs k)/\KeysOk kvo cs.length
 sz:cs.length<=990
 inn:∀ c∈cs,c.blk<A.ls.length/\c.cell<w
 need:∀ (k:Nat) c,cs[k]? =some c->(∀ x∈c.nd,0<=x/\x<k)/\c.nd.Pairwise (· <·)/\c.nd.length<=100
 ap:A.m≠A.mi/\A.m∉A.ls/\A.mi∉A.ls/\A.cl≠A.m/\A.cl≠A.mi/\A.cl∉A.ls
 chn:∀ (k:Nat) c,cs[k]? =some c->∀ j,EB (cs.take k) c.blk c.cell=some j->(j:Int)∈c.nd
structure BookAt(a:Ad)(C:Addr)(H:Hp)(A:BA)(w:Nat)(rows:List (List V))(n:Nat)(cs:List Ch)(outs:Int->Bool):Prop where
 bk:BookIn C (a "Change") H A w cs outs
 pk:PlankAt a H A.gp A.cl w rows n
 nb:A.ls.length=rows.length
def EI(o:Option HO):Prop:=(∀ xs,o≠some (.tup xs))/\∀ C dx fs,o≠some (.ins C dx fs)
theorem ChAt.sb{D:Addr}{G:Addr->Prop}{H H':Hp}(s:SameBut G H H')(g:∀ x,G x->EI (H x)){x:Addr}{c:Ch}(h:ChAt D H x c):ChAt D H' x c:=by
 obtain⟨dx,pl,nt,e1,e2,e3⟩:=h
 exact⟨dx,pl,nt,s _ _ e1 λz=>(g _ z).2 _ _ _ e1,s _ _ e2 λz=>(g _ z).1 _ e2,s _ _ e3 λz=>(g _ z).1 _ e3⟩
theorem BookIn.sb{C D:Addr}{G:Addr->Prop}{H H':Hp}{A:BA}{w:Nat}{cs:List Ch}{outs:Int->Bool}(B:BookIn C D H A w cs outs)(s:SameBut G H H')(g:∀ x,G x->EI (H x))(f:∀ x,G x->¬ A.F x):BookIn C D H' A w cs outs:=by
 obtain⟨⟨dx,e1⟩,⟨chs,e2,e3⟩,e4,e5,e6,⟨kvs,e7,e8⟩,⟨kvo,e9,e10⟩,r1,r2,r3,r4,r5⟩:=B
 refine⟨⟨dx,s _ _ e1 λz=>(g _ z).2 _ _ _ e1⟩,⟨chs,s _ _ e2 λz=>f _ z (.inl rfl),Paired.mapP e3 λx c h=>h.sb s g⟩,s _ _ e4 λz=>f _ z (.inr (.inl rfl)),λi l h=>s _ _ (e5 i l h) λz=>f _ z (.inr (.inr (.inl (List.mem_of_getElem? h)))),e6,
  ⟨kvs,s _ _ e7 λz=>f _ z (.inr (.inr (.inr (.inl rfl)))),e8⟩,⟨kvo,s _ _ e9 λz=>f _ z (.inr (.inr (.inr (.inr (.inl rfl))))),e10⟩,r1,r2,r3,r4,r5⟩
theorem PlankAt.sbL{a:Ad}{G:Addr->Prop}{H H':Hp}{p cl:Addr}{w:Nat}{rows:List (List V)}{n:Nat}(P:PlankAt a H p cl w rows n)(s:SameBut G H H')(g:∀ x,G x->EI (H x))(h:¬ G cl):PlankAt a H' p cl w rows n:=by
 obtain⟨⟨dx,e1⟩,⟨ts,e2,e3⟩,r1,r2,r3⟩:=P
 exact⟨⟨dx,s _ _ e1 λz=>(g _ z).2 _ _ _ e1⟩,⟨ts,s _ _ e2 h,Paired.mapP e3 λt r q=>s _ _ q λz=>(g _ z).1 _ q⟩,r1,r2,r3⟩
theorem BookAt.sb{a:Ad}{C:Addr}{G:Addr->Prop}{H H':Hp}{A:BA}{w:Nat}{rows:List (List V)}{n:Nat}{cs:List Ch}{outs:Int->Bool}(B:BookAt a C H A w rows n cs outs)(s:SameBut G H H')(g:∀ x,G x->EI (H x))(f:∀ x,G x->¬ A.F x):BookAt a C H' A w rows n cs outs :=
 ⟨B.bk.sb s g f,B.pk.sbL s g λz=>f _ z (.inr (.inr (.inr (.inr (.inr rfl))))),B.nb⟩
theorem BookAt.same{a:Ad}{C:Addr}{H H':Hp}{A:BA}{w:Nat}{rows:List (List V)}{n:Nat}{cs:List Ch}{outs:Int->Bool}(B:BookAt a C H A w rows n cs outs)(s:Same H H'):BookAt a C H' A w rows n cs outs :=
 B.sb (G:=λ_=>False) (Same.sb s) (λ_ z=>z.elim) λ_ z=>z.elim
theorem BookAt.off{a:Ad}{C:Addr}{H:Hp}{A:BA}{w:Nat}{rows:List (List V)}{n:Nat}{cs:List Ch}{outs:Int->Bool}(B:BookAt a C H A w rows n cs outs){x:Addr}(h:H x=none):¬ A.F x:=by
 obtain⟨⟨_,⟨chs,e2,_⟩,e4,e5,_,⟨kvs,e7,_⟩,⟨kvo,e9,_⟩,_⟩,⟨_,⟨ts,e11,_⟩,_⟩,_⟩:=B
 rintro (z | z | z | z | z | z)
 ·rw[z,e2]at h;cases h
 ·rw[z,e4]at h;cases h
 ·obtain⟨i,hi,e⟩:=List.getElem_of_mem z
  have:=e5 i x (by rw[<-e];exact List.getElem?_eq_getElem hi)
  rw[this]at h;cases h
 ·rw[z,e7]at h;cases h
 ·rw[z,e9]at h;cases h
 ·rw[z,e11]at h;cases h
theorem HQ{α :Type}{l:List α}{x: α}(h:x∈l):∃ i:Nat,l[i]? =some x:=by
 obtain⟨i,hi,e⟩:=List.getElem_of_mem h
 exact⟨i,by rw[<-e];exact List.getElem?_eq_getElem hi⟩
theorem IN{H:Hp}{x:Addr}{xs:List V}(h:H x=some (.lst xs)):EI (H x):=by
 rw[h];exact⟨λ_ z=>(by cases z),λ_ _ _ z=>(by cases z)⟩
theorem TN{H:Hp}{x:Addr}{xs:List (AS × V)}(h:H x=some (.dK xs)):EI (H x):=by
 rw[h];exact⟨λ_ z=>(by cases z),λ_ _ _ z=>(by cases z)⟩
theorem wR{H:Hp}{x:Addr}{xs:List (List AS × V)}(h:H x=some (.dT xs)):EI (H x):=by
 rw[h];exact⟨λ_ z=>(by cases z),λ_ _ _ z=>(by cases z)⟩
theorem BookAt.loose{a:Ad}{C:Addr}{H:Hp}{A:BA}{w:Nat}{rows:List (List V)}{n:Nat}{cs:List Ch}{outs:Int->Bool}(B:BookAt a C H A w rows n cs outs){x:Addr}(h:A.F x):EI (H x):=by
 obtain⟨⟨_,⟨chs,e2,_⟩,e4,e5,_,⟨kvs,e7,_⟩,⟨kvo,e9,_⟩,_⟩,⟨_,⟨ts,e11,_⟩,_⟩,_⟩:=B
 rcases h with z | z | z | z | z | z
 ·exact IN (z ▸ e2)
 ·exact IN (z ▸ e4)
 ·obtain⟨i,e⟩:=HQ z
  exact IN (e5 i x e)
 ·exact wR (z ▸ e7)
 ·exact TN (z ▸ e9)
 ·exact IN (z ▸ e11)
structure zcl(cs:List Ch)(outs:Int->Bool)(ns:List Int)(R:Int->Bool):Prop where
 all:∀ x∈ns,R x=true
 up:∀ (k:Nat) (c:Ch),cs[k]? =some c->outs k=false->R k=true->∀ y∈c.nd,R y=true
 only:∀ x,R x=true->x∈ns\/∃ (k:Nat) (c:Ch),cs[k]? =some c/\outs k=false/\R k=true/\x∈c.nd
end L2
namespace L2
structure Pass where
 out:List Nat
 held:List (Nat × Int)
 gone:Int->Bool
end L2
namespace L2
end L2
namespace L2
structure DN(K:W.Frag)(a:Ad):Prop where
 cl:Cls K (a "Layout")
 n1:NoAttr K (a "Layout") "name_blocks"
 n2:NoAttr K (a "Layout") "record_blocks"
 n3:NoAttr K (a "Layout") "piece_blocks"
 n4:NoAttr K (a "Layout") "width"
section
variable{n r c w:Int}
def lf(n r c w:Int):List (Str × V):=[("name_blocks",.int n),("record_blocks",.int r),("piece_blocks",.int c),("width",.int w)]
theorem QU:(lf n r c w).lookup ("name_blocks":Str)=some (V.int n):=by simp[lf]
theorem NJ:(lf n r c w).lookup ("record_blocks":Str)=some (V.int r):=by
 simp[lf,List.lookup_cons,CN (a:="record_blocks") (b:="name_blocks") (by decide +kernel)]
theorem TQ:(lf n r c w).lookup ("piece_blocks":Str)=some (V.int c):=by
 simp[lf,List.lookup_cons,CN (a:="piece_blocks") (b:="name_blocks") (by decide +kernel),CN (a:="piece_blocks") (b:="record_blocks") (by decide +kernel)]
theorem KO:(lf n r c w).lookup ("width":Str)=some (V.int w):=by
 simp[lf,List.lookup_cons,CN (a:="width") (b:="name_blocks") (by decide +kernel),CN (a:="width") (b:="record_blocks") (by decide +kernel),CN (a:="width") (b:="piece_blocks") (by decide +kernel)]
theorem CA{x:Str}(h:(EH x "name_blocks" || EH x "record_blocks" || EH x "piece_blocks" || EH x "width")=false):(lf n r c w).lookup x=none:=by
 simp only[Bool.or_eq_false_iff]at h
 obtain⟨⟨⟨h1,h2⟩,h3⟩,h4⟩:=h
 simp[lf,List.lookup_cons,CN h1,CN h2,CN h3,CN h4]
theorem wS:A6 "width" (.int w) (A6 "piece_blocks" (.int c) (A6 "record_blocks" (.int r) (A6 "name_blocks" (.int n) [])))=lf n r c w:=by
 repeat (first | rw[KN] | rw[KM (by decide +kernel)])
 rfl
end
structure LayAt(a:Ad)(H:Hp)(p:Addr)(n r c w:Nat):Prop where
 ob:∃ dx,H p=some (.ins (a "Layout") dx (lf n r c w))
 hn:n<=100
 hr:r<=100
 hc:c<=100
 h1:1<=w
 hw:w<=100
theorem LayAt.same{a:Ad}{H H':Hp}{p:Addr}{n r c w:Nat}(L:LayAt a H p n r c w)(s:Same H H'):LayAt a H' p n r c w:=by
 obtain⟨⟨dx,e⟩,z1,z2,z3,z4,z5⟩:=L
 exact⟨⟨dx,s _ _ e⟩,z1,z2,z3,z4,z5⟩
theorem LayAt.sb{a:Ad}{F:Addr->Prop}{H H':Hp}{p:Addr}{n r c w:Nat}(L:LayAt a H p n r c w)(s:SameBut F H H')(f:¬ F p):LayAt a H' p n r c w:=by
 obtain⟨⟨dx,e⟩,z1,z2,z3,z4,z5⟩:=L
 exact⟨⟨dx,s _ _ e f⟩,z1,z2,z3,z4,z5⟩
def NK(K:W.Frag)(a:Ad):Sp:=λvs H Q _=>∃ (p dx:Addr) (n r c w:Nat),vs=[.ref p,.int n,.int r,.int c,.int w]/\DN K a/\H p=some (.ins (a "Layout") dx [])/\n<=100/\r<=100/\c<=100/\1<=w/\w<=100 ∧
 ∀ H',LayAt a H' p n r c w->SameBut (· =p) H H'->Q .non H'
def FJ(x y:Int)(Q:VK)(H:Hp):Prop:=∀ t,H t=none->Q (.ref t) (upd H t (.tup [.int x,.int y]))
def E4(K:W.Frag)(a:Ad):Sp:=λvs H Q _=>∃ (p:Addr) (n r c w k:Nat) (b:Int),vs=[.ref p,.int b,.int k]/\DN K a/\LayAt a H p n r c w/\FJ (b+k / w) (k % w) Q H
def FL(K:W.Frag)(a:Ad):Sp:=λvs H Q _=>∃ (p:Addr) (n r c w k:Nat),vs=[.ref p,.int k]/\DN K a/\LayAt a H p n r c w/\FJ (0+k / w) (k % w) Q H
def ES(K:W.Frag)(a:Ad):Sp:=λvs H Q _=>∃ (p:Addr) (n r c w k:Nat),vs=[.ref p,.int k]/\DN K a/\LayAt a H p n r c w/\FJ (n+k / w) (k % w) Q H
def HR(K:W.Frag)(a:Ad):Sp:=λvs H Q _=>∃ (p:Addr) (n r c w k:Nat),vs=[.ref p,.int k]/\DN K a/\LayAt a H p n r c w/\FJ (n+r+k / w) (k % w) Q H
def GL(K:W.Frag)(a:Ad):Sp:=λvs H Q _=>∃ (p:Addr) (n r c w k:Nat),vs=[.ref p,.int k]/\DN K a/\LayAt a H p n r c w/\FJ (n+r+c+k / w) (k % w) Q H
def FM(K:W.Frag)(a:Ad):Sp:=λvs H Q _=>∃ (p:Addr) (n r c w k:Nat),vs=[.ref p,.int k]/\DN K a/\LayAt a H p n r c w/\FJ (n+r+c+r+k / w) (k % w) Q H
def G3(K:W.Frag)(a:Ad):Sp:=λvs H Q _=>∃ (p:Addr) (n r c w:Nat),vs=[.ref p]/\DN K a/\LayAt a H p n r c w/\Q (.int (n+r+c)) H
def NL(K:W.Frag)(a:Ad):Sp:=λvs H Q _=>∃ (p:Addr) (n r c w:Nat),vs=[.ref p]/\DN K a/\LayAt a H p n r c w/\Q (.int (n+r+c+r+c)) H
def F2(K:W.Frag)(a:Ad):Sp:=λvs H Q _=>∃ (p:Addr) (n r c w:Nat),vs=[.ref p]/\DN K a/\LayAt a H p n r c w/\∀ t,H t=none->Q (.ref t) (upd H t (.tup [.int (n * w),.int (r * w),.int (c * w)]))
def NM(K:W.Frag)(a:Ad):Sp:=λvs H Q _=>∃ (p:Addr) (n r c w:Nat),vs=[.ref p]/\DN K a/\D1 K a/\LayAt a H p n r c w ∧
 ∀ x cl H',H x=none->H cl=none->PlankAt a H' x cl w (List.replicate (n+r+c+r+c) (List.replicate w .non)) 0->Same H H'->Q (.ref x) H'
end L2
namespace L2
abbrev EC(a:Ad):Addr:=a "Hold"
def IP(ns:List Int)(k:Nat):Int:=ns.getD k 0
def IQ(K:W.Frag)(a:Ad):Sp:=λvs H Q _=>∃ (s:Addr) (ns:List Int) (k:Nat),vs=[.ref s,.int k]/\SqL K H s (ns.map V.int)/\ns.length<=1000/\Q (.int (IP ns k)) H
theorem wT{K:W.Frag}{a:Ad}{s:Addr}{k:Int}{H:Hp}{Q:VK}{E:XK}:IQ K a [.ref s,.int k] H Q E=∃ (ns:List Int) (n:Nat),k=n/\SqL K H s (ns.map V.int)/\ns.length<=1000/\Q (.int (IP ns n)) H:=by simp[IQ,and_assoc]
abbrev TB(K:W.Frag)(a:Ad):Prop:=aJ K (EC a) (a "Change")
abbrev E5(a:Ad)(H:Hp)(A:BA)(w:Nat)(rows:List (List V))(n:Nat)(cs:List Ch)(outs:Int->Bool):Prop:=BookAt a (EC a) H A w rows n cs outs
def F3:Option Nat->V
 | none=>.non
 | some k=>.int k
def BC(l:List Nat):List V:=l.map λ(k:Nat)=>V.int k
abbrev onPl(rows:List (List V))(w:Nat)(i j:Int):Prop:=0<=i/\i<rows.length/\0<=j/\j<w
def NN(K:W.Frag)(a:Ad):Sp:=λvs H Q _=>∃ x dx pl v nt,vs=[.ref x,.ref pl,v,.ref nt]/\TB K a/\H x=some (.ins (a "Change") dx [])/\Q .non (upd H x (.ins (a "Change") dx (GK pl v nt)))
def KP(K:W.Frag)(a:Ad):Sp:=λvs H Q _=>∃ (b gp cl dx:Addr) (w:Nat) (rows:List (List V)) (n:Nat),vs=[.ref b,.ref gp]/\TB K a/\D1 K a/\PlankAt a H gp cl w rows n/\H b=some (.ins (EC a) dx []) ∧
 ∀ (m mi lt ou:Addr) (ls:List Addr) (H':Hp),H m=none->H mi=none->H lt=none->H ou=none->(∀ l∈ls,H l=none)->E5 a H' ⟨b,gp,m,mi,lt,ou,ls,cl⟩ w rows n [] (λ_=>false)->SameBut (· =b) H H'->Q .non H'
def NO(K:W.Frag)(a:Ad):Sp:=λvs H Q _=>∃ (nl:Addr) (ns:List Int) (o:Option Nat),vs=[.ref nl,F3 o]/\SqL K H nl (ns.map V.int)/\ns.length<=60 ∧
 ∀ (t:Addr) (ks:List Int) (H':Hp),Same H H'->H' t=some (.tup (ks.map V.int))->ks.Pairwise (· <·)->(∀ x,x∈ks↔x∈ns\/∃ k:Nat,o=some k/\x=k)->ks.length<=ns.length+1->Q (.ref t) H'
def NP(K:W.Frag)(a:Ad):Sp:=λvs H Q E=>∃ (A:BA) (w:Nat) (rows:List (List V)) (n:Nat) (cs:List Ch) (outs:Int->Bool) (pl:Addr) (i j:Int),vs=[.ref A.b,.ref pl]/\TB K a/\D1 K a/\E5 a H A w rows n cs outs/\H pl=some (.tup [.int i,.int j]) ∧
 (onPl rows w i j->Q .non H)/\(¬ onPl rows w i j->E (.ref (a "NoBlock")) none H)
def IR(K:W.Frag)(a:Ad):Sp:=λvs H Q E=>∃ (A:BA) (w:Nat) (rows:List (List V)) (n:Nat) (cs:List Ch) (outs:Int->Bool) (pl:Addr) (i j:Int),vs=[.ref A.b,.ref pl]/\TB K a/\D1 K a/\E5 a H A w rows n cs outs/\H pl=some (.tup [.int i,.int j]) ∧
 (onPl rows w i j->Q (F3 (EB cs i j)) H)/\(¬ onPl rows w i j->E (.ref (a "NoBlock")) none H)
abbrev known(cs:List Ch)(x:Int):Prop:=0<=x/\x<cs.length
def NQ(K:W.Frag)(a:Ad):Sp:=λvs H Q E=>∃ (A:BA) (w:Nat) (rows:List (List V)) (n:Nat) (cs:List Ch) (outs:Int->Bool) (nl:Addr) (ns:List Int),vs=[.ref A.b,.ref nl]/\TB K a/\E5 a H A w rows n cs outs/\SqL K H nl (ns.map V.int) ∧
 ((∀ x∈ns,known cs x)->Q .non H)/\((∃ x∈ns,¬ known cs x)->E (.ref (a "NoChange")) none H)
def C8(K:W.Frag)(a:Ad):Sp:=λvs H Q E=>∃ (A:BA) (w:Nat) (rows:List (List V)) (n:Nat) (cs:List Ch) (outs:Int->Bool) (pl nl:Addr) (v:V) (ns:List Int) (i j:Int),vs=[.ref A.b,.ref pl,v,.ref nl]/\TB K a/\D1 K a/\E5 a H A w rows n cs outs/\H pl=some (.tup [.int i,.int j])/\SqL K H nl (ns.map V.int)/\ns.length<=60/\cs.length<990 ∧
 (onPl rows w i j->(∀ x∈ns,known cs x)->∀ (nd:List Int) (H':Hp),nd.Pairwise (· <·)->(∀ x,x∈nd↔x∈ns\/∃ k:Nat,EB cs i j=some k/\x=k)->E5 a H' A w rows n (cs++[⟨i.toNat,j.toNat,v,nd⟩]) outs->SameBut A.F H H'->Q (.int cs.length) H') ∧
 (¬ onPl rows w i j->E (.ref (a "NoBlock")) none H)/\(onPl rows w i j->(∃ x∈ns,¬ known cs x)->E (.ref (a "NoChange")) none H)
def DV(cs:List Ch)(rows:List (List V))(i j:Int):Option V:=match EB cs i j with
 | some k=>(cs[k]?).map (·.val)
 | none=>(rows[i.toNat]?).bind λr=>r[j.toNat]?
def F4(K:W.Frag)(a:Ad):Sp:=λvs H Q E=>∃ (A:BA) (w:Nat) (rows:List (List V)) (n:Nat) (cs:List Ch) (outs:Int->Bool) (pl:Addr) (i j:Int),vs=[.ref A.b,.ref pl]/\TB K a/\D1 K a/\E5 a H A w rows n cs outs/\H pl=some (.tup [.int i,.int j]) ∧
 (onPl rows w i j->∀ (v:V) (H':Hp),DV cs rows i j=some v->Same H H'->Q v H')/\(¬ onPl rows w i j->E (.ref (a "NoBlock")) none H)
def GoodV:Nat->Hp->V->Prop
 | 0,_,_=>False
 | _+1,_,.int _=>True
 | _+1,_,.non=>True
 | _+1,_,.str z=>PyData.strOk z=true
 | n+1,H,.ref p=>∃ xs,H p=some (.tup xs)/\xs.length<=100/\∀ v∈xs,GoodV n H v
 | _,_,_=>False
def QV(v:V):Prop:=v=.non\/∃ i,v=.int i
def BH(n r c w kind k:Nat):Nat:=(if kind=0 then 0 else if kind=1 then n+r+c else if kind=2 then n+r+c+r else if kind=3 then n else n+r)+k / w
def A5(n r c w kind:Nat):Nat:=(if kind=0 then n else if kind=1 then r else if kind=2 then c else if kind=3 then r else c) * w
def G4(kind:Nat)(v:V):Bool:=decide (v=.non) || (decide (0<kind) && decide (v=.int 0))
def DE(f:Nat->Bool)(m:Nat):Int:=match (List.range m).find? f with
 | some k=>k
 | none=> -1
def aK(H:Hp)(rows:List (List V)):Prop:=∀ r∈rows,∀ v∈r,GoodV 4 H v
def goodH(H:Hp)(cs:List Ch)(rows:List (List V)):Prop:=aK H rows/\∀ c∈cs,GoodV 4 H c.val
def HS(cs:List Ch)(rows:List (List V))(n r c w kind:Nat)(k:Nat):Bool:=match DV cs rows (BH n r c w kind k:Nat) (k % w:Nat)with
 | some v=>G4 kind v
 | none=>false
def GM(K:W.Frag)(a:Ad):Sp:=λvs H Q E=>∃ (A:BA) (w:Nat) (rows:List (List V)) (n:Nat) (cs:List Ch) (outs:Int->Bool) (pl vl:Addr) (ts:List Addr) (xs:List V) (f:Nat->Bool) (m:Nat),vs=[.ref A.b,.ref pl,.ref vl]/\TB K a/\D1 K a/\E5 a H A w rows n cs outs/\H pl=some (.lst (ts.map V.ref))/\ts.length=m/\m<=1000/\H vl=some (.tup xs)/\(∀ z∈xs,QV z) ∧
 (∀ k t,ts[k]? =some t->∃ i j v,H t=some (.tup [.int i,.int j])/\onPl rows w i j/\DV cs rows i j=some v/\GoodV 4 H v/\f k=decide (v∈xs)) ∧
 (∀ k:Nat,DE f m=k->∀ H',Same H H'->Q (.int k) H')/\(DE f m= -1->∀ H',Same H H'->E (.ref (a "NoRoom")) none H')
def QW(kind:Nat)(K:W.Frag)(a:Ad)(p b:Addr)(H:Hp)(Q:VK)(E:XK):Prop:=∃ (A:BA) (n r c w:Nat) (rows:List (List V)) (nn:Nat) (cs:List Ch) (outs:Int->Bool),b=A.b/\TB K a/\D1 K a/\DN K a/\LayAt a H p n r c w/\n<=6/\r<=6/\c<=6/\w<=6/\E5 a H A w rows nn cs outs/\rows.length=n+r+c+r+c/\(∀ i j v,DV cs rows i j=some v->GoodV 4 H v) ∧
 (∀ k:Nat,DE (HS cs rows n r c w kind) (A5 n r c w kind)=k->∀ H',Same H H'->Q (.int k) H')/\(DE (HS cs rows n r c w kind) (A5 n r c w kind)= -1->∀ H',Same H H'->E (.ref (a "NoRoom")) none H')
def IS(K:W.Frag)(a:Ad):Sp:=λvs H Q E=>∃ p b,vs=[.ref p,.ref b]/\QW 0 K a p b H Q E
def NR(K:W.Frag)(a:Ad):Sp:=λvs H Q E=>∃ p b,vs=[.ref p,.ref b]/\QW 1 K a p b H Q E
def NS(K:W.Frag)(a:Ad):Sp:=λvs H Q E=>∃ p b,vs=[.ref p,.ref b]/\QW 2 K a p b H Q E
def IT(c:Nat):Bool:=decide (32<=c) && decide (c<=126) && decide (c≠37)
def NT(c:Nat):Bool:=decide (97<=c) && decide (c<=122)
def BI(z:Str):Bool:=decide (1<=z.length) && decide (z.length<=8) && z.cps.toList.all NT
def G5(z:Str):Bool:=decide (1<=z.length) && decide (z.length<=40) && z.cps.toList.all IT
def NU(K:W.Frag)(a:Ad):Sp:=λvs H Q _=>∃ c:Nat,vs=[.str ⟨#[c]⟩]/\Q (.bl (IT c)) H
def NV(K:W.Frag)(a:Ad):Sp:=λvs H Q _=>∃ z:Str,vs=[.str z]/\z.length<=1000/\∀ H',Same H H'->Q (.bl (BI z)) H'
def NW(K:W.Frag)(a:Ad):Sp:=λvs H Q _=>∃ z:Str,vs=[.str z]/\z.length<=1000/\∀ H',Same H H'->Q (.bl (G5 z)) H'
structure QX(K:W.Frag)(a:Ad):Prop where
 cl:Cls K (a "Store")
 n1:NoAttr K (a "Store") "plan"
 n2:NoAttr K (a "Store") "book"
 n3:NoAttr K (a "Store") "taken_out"
def sf(lp b tk:Addr):List (Str × V):=[("plan",.ref lp),("book",.ref b),("taken_out",.ref tk)]
structure SA where
 A:BA
 st:Addr
 lp:Addr
 tk:Addr
inductive CV where
 | no
 | nm (z:Str) (k:Nat)
 | mk (i:Nat)
 | rc (m:Nat) (ps:List Nat)
 | tx (z:Str)
abbrev Md:=Nat->Nat->CV
def RepC(H:Hp):CV->V->Prop
 | .no,v=>v=.non
 | .nm z k,v=>∃ t,v=.ref t/\H t=some (.tup [.str z,.int k])
 | .mk i,v=>v=.int i
 | .rc m ps,v=>∃ t u,v=.ref t/\H t=some (.tup [.int m,.ref u])/\H u=some (.tup (BC ps))
 | .tx z,v=>v=.str z
def Md.put(M:Md)(kind k:Nat)(x:CV):Md:=λi j=>if i=kind/\j=k then x else M i j
def EJ:Nat->CV->Prop
 | _,.no=>True
 | 0,.nm _ _=>True
 | 1,.mk i=>i<=1
 | 2,.mk i=>i<=1
 | 3,.rc _ _=>True
 | 4,.tx _=>True
 | _,_=>False
structure SM(a:Ad)(H:Hp)(S:SA)(n r c w:Nat)(rows:List (List V))(nn:Nat)(cs:List Ch)(outs:Int->Bool)(tks:List (AS × V))(M:Md):Prop where
 ob:∃ dx,H S.st=some (.ins (a "Store") dx (sf S.lp S.A.b S.tk))
 ly:LayAt a H S.lp n r c w
 bk:E5 a H S.A w rows nn cs outs
 tk:H S.tk=some (.dK tks)
 tl:tks.length<=cs.length
 tv:∀ z v,B7 tks (.inr z)=some v->∃ k:Nat,v=.int k/\k<cs.length
 ap:¬ S.A.F S.tk
 sz:n<=6/\r<=6/\c<=6/\w<=6/\rows.length=n+r+c+r+c
 gd:goodH H cs rows
 rp:∀ kind k v,kind<5->k<A5 n r c w kind->DV cs rows (BH n r c w kind k:Nat) (k % w:Nat)=some v->RepC H (M kind k) v
 ok:∀ kind k,kind<5->k<A5 n r c w kind->EJ kind (M kind k)
def C2(M:Md)(k:Nat):Option (Str × Nat):=match M 0 k with
 | .nm z r=>some (z,r)
 | _=>none
def D2(M:Md)(m:Nat):List Str:=(List.range m).filterMap λk=>(C2 M k).map (·.1)
def cellOf(M:Md)(m:Nat)(z:Str):Option Nat:=(List.range m).find? λk=>(C2 M k).any λp=>decide (p.1=z)
def B0(kind:Nat):CV->Bool
 | .no=>true
 | .mk i=>decide (0<kind) && decide (i=0)
 | _=>false
def CI(M:Md)(kind m:Nat):Int:=DE (λk=>B0 kind (M kind k)) m
abbrev CU(K:W.Frag)(a:Ad):Prop:=TB K a/\D1 K a/\DN K a/\QX K a
structure SX where
 S:SA
 n:Nat
 r:Nat
 c:Nat
 w:Nat
 rows:List (List V)
 nn:Nat
 outs:Int->Bool
abbrev SX.at(X:SX)(a:Ad)(H:Hp)(cs:List Ch)(tks:List (AS × V))(M:Md):Prop:=SM a H X.S X.n X.r X.c X.w X.rows X.nn cs X.outs tks M
abbrev SX.m0(X:SX):Nat:=X.n * X.w
def NX(K:W.Frag)(a:Ad):Sp:=λvs H Q _=>∃ (x dx lp gp cl:Addr) (n r c w:Nat) (rows:List (List V)) (nn:Nat) (M:Md),vs=[.ref x,.ref lp,.ref gp]/\CU K a/\H x=some (.ins (a "Store") dx [])/\LayAt a H lp n r c w/\PlankAt a H gp cl w rows nn/\(n<=6/\r<=6/\c<=6/\w<=6/\rows.length=n+r+c+r+c)/\aK H rows/\(∀ kind k v,kind<5->k<A5 n r c w kind->DV [] rows (BH n r c w kind k:Nat) (k % w:Nat)=some v->RepC H (M kind k) v)/\(∀ kind k,kind<5->k<A5 n r c w kind->EJ kind (M kind k)) ∧
 ∀ (S:SA) (H':Hp),S.st=x->S.lp=lp->S.A.gp=gp->S.A.cl=cl->(∀ y o,H y=some o->y=cl\/¬ S.A.F y)->H S.tk=none->SM a H' S n r c w rows nn [] (λ_=>false) [] M->SameBut (· =x) H H'->Q .non H'
def G6(K:W.Frag)(a:Ad):Sp:=λvs H Q _=>∃ (X:SX) (cs:List Ch) (tks:List (AS × V)) (M:Md),vs=[.ref X.S.st]/\CU K a/\X.at a H cs tks M ∧
 ∀ (l:Addr) (xs:List V) (H':Hp),Same H H'->H' l=some (.lst xs)->xs.length=X.m0->(∀ k v,xs[k]? =some v->RepC H' (M 0 k) v)->Q (.ref l) H'
def NY(K:W.Frag)(a:Ad):Sp:=λvs H Q _=>∃ (X:SX) (cs:List Ch) (tks:List (AS × V)) (M:Md),vs=[.ref X.S.st]/\CU K a/\X.at a H cs tks M ∧
 ∀ (l:Addr) (ks:List Str) (H':Hp),H l=none->Same H H'->H' l=some (.lst (ks.map V.str))->ks.Perm (D2 M X.m0)->sortedS ks=true->Q (.ref l) H'
def G7(K:W.Frag)(a:Ad):Sp:=λvs H Q _=>∃ (X:SX) (cs:List Ch) (tks:List (AS × V)) (M:Md) (z:Str),vs=[.ref X.S.st,.str z]/\CU K a/\X.at a H cs tks M/\∀ (H':Hp),Same H H'->Q (F3 (cellOf M X.m0 z)) H'
def EK(K:W.Frag)(a:Ad):Sp:=λvs H Q E=>∃ (X:SX) (cs:List Ch) (tks:List (AS × V)) (M:Md) (z:Str),vs=[.ref X.S.st,.str z]/\CU K a/\X.at a H cs tks M ∧
 (∀ cell k,cellOf M X.m0 z=some cell->cell<X.m0->M 0 cell=.nm z k->∀ H',Same H H'->Q (.int k) H')/\(cellOf M X.m0 z=none->∀ H',Same H H'->E (.ref (a "NoName")) none H')
def D3(K:W.Frag)(a:Ad):Sp:=λvs H Q _=>∃ (X:SX) (cs:List Ch) (tks:List (AS × V)) (M:Md) (rec:Nat),vs=[.ref X.S.st,.int rec]/\CU K a/\X.at a H cs tks M/\rec<X.r * X.w/\∀ v H',RepC H' (M 3 rec) v->Same H H'->Q v H'
def IU(K:W.Frag)(a:Ad):Sp:=λvs H Q E=>∃ (X:SX) (cs:List Ch) (tks:List (AS × V)) (M:Md) (z:Str) (gl:Addr) (zs:List Str),vs=[.ref X.S.st,.str z,.ref gl]/\CU K a/\X.at a H cs tks M/\H gl=some (.lst (zs.map V.str))/\zs.length<=60/\(∀ y∈zs,y.length<=1000) ∧
 (zs.all BI=true->cellOf M X.m0 z=none->∀ H',Same H H'->Q .non H')/\(zs.all BI=false->∀ H',Same H H'->E (.ref (a "NoName")) none H')/\(zs.all BI=true->(∃ k,cellOf M X.m0 z=some k)->∀ H',Same H H'->E (.ref (a "Twice")) none H')
def QY(X:SX)(a:Ad)(H:Hp)(cs:List Ch)(tks:List (AS × V))(M':Md)(Q:VK):Prop:=∀ (ch:Ch) (H':Hp),X.at a H' (cs++[ch]) tks M'->SameBut X.S.A.F H H'->Q (.int cs.length) H'
def IV(K:W.Frag)(a:Ad):Sp:=λvs H Q _=>∃ (X:SX) (cs:List Ch) (tks:List (AS × V)) (M:Md) (cell rec need:Nat) (z:Str),vs=[.ref X.S.st,.int cell,.str z,.int rec,.int need]/\CU K a/\X.at a H cs tks M/\cell<X.m0/\need<cs.length/\cs.length<980/\PyData.strOk z=true/\QY X a H cs tks (M.put 0 cell (.nm z rec)) Q
def G8(K:W.Frag)(a:Ad):Sp:=λvs H Q _=>∃ (X:SX) (cs:List Ch) (tks:List (AS × V)) (M:Md) (rec m m':Nat) (more:Int) (ps:List Nat) (nl:Addr) (ns:List Int),vs=[.ref X.S.st,.int rec,.int more,.ref nl]/\CU K a/\X.at a H cs tks M/\rec<X.r * X.w/\M 3 rec=.rc m ps/\(m:Int)+more=m'/\ps.length<=100/\H nl=some (.lst (ns.map V.int))/\ns.length<=60/\(∀ x∈ns,known cs x)/\cs.length<980/\QY X a H cs tks (M.put 3 rec (.rc m' ps)) Q
def IW(K:W.Frag)(a:Ad):Sp:=λvs H Q _=>∃ (X:SX) (cs:List Ch) (tks:List (AS × V)) (M:Md) (rec m:Nat) (ps ps':List Nat) (pl nl:Addr) (ns:List Int),vs=[.ref X.S.st,.int rec,.ref pl,.ref nl]/\CU K a/\X.at a H cs tks M/\rec<X.r * X.w/\M 3 rec=.rc m ps/\H pl=some (.tup (BC ps'))/\ps'.length<=100/\H nl=some (.lst (ns.map V.int))/\ns.length<=60/\(∀ x∈ns,known cs x)/\cs.length<980/\QY X a H cs tks (M.put 3 rec (.rc m ps')) Q
def IX(K:W.Frag)(a:Ad):Sp:=λvs H Q _=>∃ (X:SX) (cs:List Ch) (tks:List (AS × V)) (M:Md) (cell:Nat) (z:Str) (nl:Addr) (ns:List Int),vs=[.ref X.S.st,.str z,.ref nl]/\CU K a/\X.at a H cs tks M/\cellOf M X.m0 z=some cell/\cell<X.m0/\H nl=some (.lst (ns.map V.int))/\ns.length<=60/\(∀ x∈ns,known cs x)/\cs.length<980 ∧
 ∀ (ch:Ch) (H':Hp),X.at a H' (cs++[ch]) (CS tks (.inr z) (.int cs.length)) (M.put 0 cell .no)->SameBut (λx=>X.S.A.F x\/x=X.S.tk) H H'->Q (.int cs.length) H'
def Md.unmark(M:Md)(ps:List Nat):Md:=ps.foldl (λM p=>M.put 2 p (.mk 0)) M
def NZ(K:W.Frag)(a:Ad):Sp:=λvs H Q _=>∃ (X:SX) (cs:List Ch) (tks:List (AS × V)) (M:Md) (rec m gone:Nat) (ps:List Nat),vs=[.ref X.S.st,.int rec,.int gone]/\CU K a/\X.at a H cs tks M/\rec<X.r * X.w/\M 3 rec=.rc m ps/\gone<cs.length/\(∀ p∈ps,p<X.c * X.w)/\ps.length<=36/\cs.length<940 ∧
 ∀ (ex:List Ch) (l:Addr) (H':Hp),H l=none->H' l=some (.lst (BC ((List.range (ps.length+2)).map (cs.length+·))))->ex.length=ps.length+2->X.at a H' (cs++ex) tks (((M.put 3 rec .no).unmark ps).put 1 rec (.mk 0))->SameBut X.S.A.F H H'->Q (.ref l) H'
def IY(X:SX)(a:Ad)(H:Hp)(cs:List Ch)(d:Nat)(M':Md)(Q:VK):Prop:=∀ (ex:List Ch) (tks':List (AS × V)) (l:Addr) (H':Hp),ex.length=d->H l=none->H' l=some (.lst (BC ((List.range d).map (cs.length+·))))->X.at a H' (cs++ex) tks' M'->SameBut (λx=>X.S.A.F x\/x=X.S.tk) H H'->Q (.ref l) H'
def DO(a:Ad)(H:Hp)(c:String)(E:XK):Prop:=∀ H',Same H H'->E (.ref (a c)) none H'
def N0(K:W.Frag)(a:Ad):Sp:=λvs H Q E=>∃ (X:SX) (cs:List Ch) (tks:List (AS × V)) (M:Md) (z:Str),vs=[.ref X.S.st,.str z]/\CU K a/\X.at a H cs tks M/\z.length<=1000/\cs.length<930 ∧
 (BI z=true->cellOf M X.m0 z=none->∀ rec cell:Nat,CI M 1 (X.r * X.w)=rec->CI M 0 X.m0=cell->rec<X.r * X.w->cell<X.m0->IY X a H cs 3 (((M.put 1 rec (.mk 1)).put 3 rec (.rc 1 [])).put 0 cell (.nm z rec)) Q) ∧
 (BI z=false->DO a H "NoName" E)/\(BI z=true->(∃ k,cellOf M X.m0 z=some k)->DO a H "Twice" E) ∧
 (BI z=true->cellOf M X.m0 z=none->(CI M 1 (X.r * X.w)= -1\/CI M 0 X.m0= -1)->DO a H "NoRoom" E)
def IZ(K:W.Frag)(a:Ad):Sp:=λvs H Q E=>∃ (X:SX) (cs:List Ch) (tks:List (AS × V)) (M:Md) (y z:Str),vs=[.ref X.S.st,.str y,.str z]/\CU K a/\X.at a H cs tks M/\y.length<=1000/\z.length<=1000/\cs.length<930 ∧
 (BI y=true->BI z=true->cellOf M X.m0 z=none->∀ old rec cell:Nat,cellOf M X.m0 y=some old->old<X.m0->M 0 old=.nm y rec->rec<X.r * X.w/\∃ m ps,M 3 rec=.rc m ps/\ps.length<=100/\(CI M 0 X.m0=cell->cell<X.m0->IY X a H cs 2 ((M.put 3 rec (.rc (m+1) ps)).put 0 cell (.nm z rec)) Q)) ∧
 ((BI y && BI z)=false->DO a H "NoName" E)/\(BI y=true->BI z=true->(∃ k,cellOf M X.m0 z=some k)->DO a H "Twice" E)/\(BI y=true->BI z=true->cellOf M X.m0 z=none->cellOf M X.m0 y=none->DO a H "NoName" E) ∧
 (BI y=true->BI z=true->cellOf M X.m0 z=none->(∃ k,cellOf M X.m0 y=some k)->CI M 0 X.m0= -1->DO a H "NoRoom" E)
def N1(K:W.Frag)(a:Ad):Sp:=λvs H Q E=>∃ (X:SX) (cs:List Ch) (tks:List (AS × V)) (M:Md) (z:Str),vs=[.ref X.S.st,.str z]/\CU K a/\X.at a H cs tks M/\cs.length<930 ∧
 (∀ cell rec:Nat,cellOf M X.m0 z=some cell->cell<X.m0->M 0 cell=.nm z rec->rec<X.r * X.w/\∃ m ps,M 3 rec=.rc m ps/\(∀ p∈ps,p<X.c * X.w)/\ps.length<=36 ∧
  (1<m->IY X a H cs 2 ((M.put 0 cell .no).put 3 rec (.rc (m - 1) ps)) Q)/\(m<=1->IY X a H cs (ps.length+3) ((((M.put 0 cell .no).put 3 rec .no).unmark ps).put 1 rec (.mk 0)) Q)) ∧
 (cellOf M X.m0 z=none->DO a H "NoName" E)
def N2(K:W.Frag)(a:Ad):Sp:=λvs H Q E=>∃ (X:SX) (cs:List Ch) (tks:List (AS × V)) (M:Md) (z t:Str),vs=[.ref X.S.st,.str z,.str t]/\CU K a/\X.at a H cs tks M/\t.length<=1000/\PyData.strOk t=true/\cs.length<930 ∧
 (∀ cell rec:Nat,cellOf M X.m0 z=some cell->cell<X.m0->M 0 cell=.nm z rec->G5 t=true->∀ p:Nat,CI M 2 (X.c * X.w)=p->p<X.c * X.w->rec<X.r * X.w/\∃ m ps,M 3 rec=.rc m ps/\ps.length<=90/\IY X a H cs 3 (((M.put 2 p (.mk 1)).put 4 p (.tx t)).put 3 rec (.rc m (ps++[p]))) Q) ∧
 (cellOf M X.m0 z=none->DO a H "NoName" E)/\((∃ k,cellOf M X.m0 z=some k)->G5 t=false->DO a H "NoPiece" E)/\((∃ k,cellOf M X.m0 z=some k)->G5 t=true->CI M 2 (X.c * X.w)= -1->DO a H "NoRoom" E)
def N3(K:W.Frag)(a:Ad):Sp:=λvs H Q E=>∃ (X:SX) (cs:List Ch) (tks:List (AS × V)) (M:Md) (z:Str),vs=[.ref X.S.st,.str z]/\CU K a/\X.at a H cs tks M ∧
 (∀ cell rec:Nat,cellOf M X.m0 z=some cell->cell<X.m0->M 0 cell=.nm z rec->rec<X.r * X.w/\∃ m ps,M 3 rec=.rc m ps/\ps.length<=100/\∃ ts:List Str,Paired (λp t=>p<X.c * X.w/\M 4 p=.tx t) ps ts/\∀ l H',H l=none->Same H H'->H' l=some (.lst (ts.map V.str))->Q (.ref l) H') ∧
 (cellOf M X.m0 z=none->DO a H "NoName" E)
def N4(K:W.Frag)(a:Ad):Sp:=λvs H Q E=>∃ (X:SX) (cs:List Ch) (tks:List (AS × V)) (M:Md) (z:Str) (x:Int),vs=[.ref X.S.st,.str z,.int x]/\CU K a/\X.at a H cs tks M/\cs.length<930 ∧
 (∀ cell rec:Nat,cellOf M X.m0 z=some cell->cell<X.m0->M 0 cell=.nm z rec->rec<X.r * X.w/\∃ m ps,M 3 rec=.rc m ps/\ps.length<=100/\((x<0\/ps.length<=x)->DO a H "NoPiece" E)/\(∀ (k p:Nat),x=k->ps[k]? =some p->p<X.c * X.w/\IY X a H cs 2 ((M.put 3 rec (.rc m (ps.eraseIdx k))).put 2 p (.mk 0)) Q)) ∧
 (cellOf M X.m0 z=none->DO a H "NoName" E)
def N5(K:W.Frag)(a:Ad):Sp:=λvs H Q E=>∃ (X:SX) (cs:List Ch) (tks:List (AS × V)) (M:Md) (y z:Str),vs=[.ref X.S.st,.str y,.str z]/\CU K a/\X.at a H cs tks M/\y.length<=1000/\z.length<=1000/\cs.length<920 ∧
 (BI y=true->BI z=true->cellOf M X.m0 z=none->∀ old rec cell:Nat,cellOf M X.m0 y=some old->old<X.m0->M 0 old=.nm y rec->rec<X.r * X.w/\∃ m ps,M 3 rec=.rc m ps/\ps.length<=100/\(CI M 0 X.m0=cell->cell<X.m0->IY X a H cs 4 ((((M.put 3 rec (.rc (m+1) ps)).put 0 cell (.nm z rec)).put 0 old .no).put 3 rec (.rc m ps)) Q)) ∧
 ((BI y && BI z)=false->DO a H "NoName" E)/\(BI y=true->BI z=true->(∃ k,cellOf M X.m0 z=some k)->DO a H "Twice" E)/\(BI y=true->BI z=true->cellOf M X.m0 z=none->cellOf M X.m0 y=none->DO a H "NoName" E) ∧
 (BI y=true->BI z=true->cellOf M X.m0 z=none->(∃ k,cellOf M X.m0 y=some k)->CI M 0 X.m0= -1->DO a H "NoRoom" E)
structure TD(K:W.Frag)(a:Ad):Prop where
 n1:W.exmOne K (.ref (a "NoName")) (.ref (a "NoName"))=some true
 t1:W.exmOne K (.ref (a "Twice")) (.ref (a "NoName"))=some false
 t2:W.exmOne K (.ref (a "Twice")) (.ref (a "Twice"))=some true
 p1:W.exmOne K (.ref (a "NoPiece")) (.ref (a "NoName"))=some false
 p2:W.exmOne K (.ref (a "NoPiece")) (.ref (a "Twice"))=some false
 p3:W.exmOne K (.ref (a "NoPiece")) (.ref (a "NoPiece"))=some true
 r1:W.exmOne K (.ref (a "NoRoom")) (.ref (a "NoName"))=some false
 r2:W.exmOne K (.ref (a "NoRoom")) (.ref (a "Twice"))=some false
 r3:W.exmOne K (.ref (a "NoRoom")) (.ref (a "NoPiece"))=some false
 r4:W.exmOne K (.ref (a "NoRoom")) (.ref (a "NoRoom"))=some true
def N6(M:Md)(rec k:Nat):Bool:=match M 0 k with
 | .nm _ r=>decide (r=rec)
 | _=>false
def CO(M:Md)(m rec:Nat):Nat:=(List.range m).countP (N6 M rec)
structure Snd(X:SX)(M:Md):Prop where
 m1:∀ k z rec,k<X.m0->M 0 k=.nm z rec->BI z=true/\rec<X.r * X.w/\∃ m ps,M 3 rec=.rc m ps
 m3:∀ rec m ps,rec<X.r * X.w->M 3 rec=.rc m ps->m=CO M X.m0 rec
 m4:∀ rec m ps,rec<X.r * X.w->M 3 rec=.rc m ps->ps.Nodup/\(∀ p∈ps,p<X.c * X.w/\M 2 p=.mk 1/\∃ t,M 4 p=.tx t/\PyData.strOk t=true)/\M 1 rec=.mk 1
 m5:∀ rec rec' m m' ps ps' p,rec<X.r * X.w->rec'<X.r * X.w->rec≠rec'->M 3 rec=.rc m ps->M 3 rec'=.rc m' ps'->p∈ps->¬ p∈ps'
def Uni(X:SX)(M:Md):Prop:=∀ k k' z r r',k<X.m0->k'<X.m0->M 0 k=.nm z r->M 0 k'=.nm z r'->k=k'
structure Tight(X:SX)(M:Md):Prop where
 rcs:∀ r',r'<X.r * X.w->M 1 r'=.mk 1->∃ m ps,M 3 r'=.rc m ps
 pc:∀ p,p<X.c * X.w->M 2 p=.mk 1->∃ r' m ps,r'<X.r * X.w/\M 3 r'=.rc m ps/\p∈ps
structure K2(a:Ad)(H:Hp)(X:SX)(cs:List Ch)(tks:List (AS × V))(M:Md):Prop where
 st:X.at a H cs tks M
 sd:Snd X M
 un:Uni X M
 ti:Tight X M
 few:X.c * X.w<=12
def HU:Str:=Str.ofString " !\"#$&'()*+,-./0123456789:;<=>?@ABCDEFGHIJKLMNOPQRSTUVWXYZ[\\]^_`"++Str.ofString "abcdefghijklmnopqrstuvwxyz{|}~"
def F5(x:Int):Nat:=(if x / 5 % 8=3 then 40 - x / 40 % 2 else 1+x % 5).toNat
def GN(x:Int)(i:Nat):Nat:=(HU.cps.toList[((x / 3+(1+x / 19 % 93) * ((0+(i:Int)) / (1+x / 7 % 3))) % 94).toNat]?).getD 0
def ET(x:Int):Str:=Txt.join (Str.ofString "") ((List.range (F5 x)).map λi=>⟨#[GN x i]⟩)
def DW(x:Int):Int:=if x / 28 % 2=0 then x % 4 - 1 else x % 14 - 1
inductive DF(X:SX)(M:Md)(y z:Str)(x:Int):Nat->String->Md->Prop
 | makeT {kind k:Nat} (h:kind<2) (h1:cellOf M X.m0 y=some k):DF X M y z x kind "Twice" M
 | makeR {kind:Nat} (h:kind<2) (h1:cellOf M X.m0 y=none) (h2:CI M 1 (X.r * X.w)= -1\/CI M 0 X.m0= -1):DF X M y z x kind "NoRoom" M
 | make {kind rec cell:Nat} (h:kind<2) (h1:cellOf M X.m0 y=none) (h2:CI M 1 (X.r * X.w)=rec) (h3:CI M 0 X.m0=cell) (h4:rec<X.r * X.w) (h5:cell<X.m0):DF X M y z x kind "" (((M.put 1 rec (.mk 1)).put 3 rec (.rc 1 [])).put 0 cell (.nm y rec))
 | linkT {kind k:Nat} (h:kind=2\/kind=7) (h1:cellOf M X.m0 z=some k):DF X M y z x kind "Twice" M
 | linkN {kind:Nat} (h:kind=2\/kind=7) (h1:cellOf M X.m0 z=none) (h2:cellOf M X.m0 y=none):DF X M y z x kind "NoName" M
 | linkR {kind k:Nat} (h:kind=2\/kind=7) (h1:cellOf M X.m0 z=none) (h2:cellOf M X.m0 y=some k) (h3:CI M 0 X.m0= -1):DF X M y z x kind "NoRoom" M
 | link {old rec cell m:Nat} {ps:List Nat} (h1:cellOf M X.m0 z=none) (h2:cellOf M X.m0 y=some old) (h3:old<X.m0) (h4:M 0 old=.nm y rec) (h5:M 3 rec=.rc m ps) (h6:CI M 0 X.m0=cell) (h7:cell<X.m0) (h8:rec<X.r * X.w):DF X M y z x 2 "" ((M.put 3 rec (.rc (m+1) ps)).put 0 cell (.nm z rec))
 | move {old rec cell m:Nat} {ps:List Nat} (h1:cellOf M X.m0 z=none) (h2:cellOf M X.m0 y=some old) (h3:old<X.m0) (h4:M 0 old=.nm y rec) (h5:M 3 rec=.rc m ps) (h6:CI M 0 X.m0=cell) (h7:cell<X.m0) (h8:rec<X.r * X.w):DF X M y z x 7 "" ((((M.put 3 rec (.rc (m+1) ps)).put 0 cell (.nm z rec)).put 0 old .no).put 3 rec (.rc m ps))
 | cutN (h1:cellOf M X.m0 y=none):DF X M y z x 3 "NoName" M
 | cutOne {cell rec m:Nat} {ps:List Nat} (h1:cellOf M X.m0 y=some cell) (h2:cell<X.m0) (h3:M 0 cell=.nm y rec) (h4:M 3 rec=.rc m ps) (h5:1<m) (h6:rec<X.r * X.w):DF X M y z x 3 "" ((M.put 0 cell .no).put 3 rec (.rc (m - 1) ps))
 | cutAll {cell rec m:Nat} {ps:List Nat} (h1:cellOf M X.m0 y=some cell) (h2:cell<X.m0) (h3:M 0 cell=.nm y rec) (h4:M 3 rec=.rc m ps) (h5:m<=1) (h6:rec<X.r * X.w):DF X M y z x 3 "" ((((M.put 0 cell .no).put 3 rec .no).unmark ps).put 1 rec (.mk 0))
 | putN {kind:Nat} (h:kind=4\/kind=5\/kind=6) (h1:cellOf M X.m0 y=none):DF X M y z x kind "NoName" M
 | putR {kind k:Nat} (h:kind=4\/kind=5) (h1:cellOf M X.m0 y=some k) (h2:CI M 2 (X.c * X.w)= -1):DF X M y z x kind "NoRoom" M
 | put {kind cell rec m p:Nat} {ps:List Nat} (h:kind=4\/kind=5) (h1:cellOf M X.m0 y=some cell) (h2:cell<X.m0) (h3:M 0 cell=.nm y rec) (h4:M 3 rec=.rc m ps) (h5:CI M 2 (X.c * X.w)=p) (h6:p<X.c * X.w) (h7:rec<X.r * X.w):DF X M y z x kind "" (((M.put 2 p (.mk 1)).put 4 p (.tx (ET x))).put 3 rec (.rc m (ps++[p])))
 | takeP {cell rec m:Nat} {ps:List Nat} (h1:cellOf M X.m0 y=some cell) (h2:cell<X.m0) (h3:M 0 cell=.nm y rec) (h4:M 3 rec=.rc m ps) (h5:DW x<0\/ps.length<=DW x) (h6:rec<X.r * X.w):DF X M y z x 6 "NoPiece" M
 | take {cell rec m k p:Nat} {ps:List Nat} (h1:cellOf M X.m0 y=some cell) (h2:cell<X.m0) (h3:M 0 cell=.nm y rec) (h4:M 3 rec=.rc m ps) (h5:DW x=k) (h6:ps[k]? =some p) (h7:rec<X.r * X.w):DF X M y z x 6 "" ((M.put 3 rec (.rc m (ps.eraseIdx k))).put 2 p (.mk 0))
def N7(K:W.Frag)(a:Ad):Sp:=λvs H Q _=>∃ x:Int,vs=[.int x]/\∀ (l:Addr) (zs:List Str) (H':Hp),H l=none->Same H H'->H' l=some (.lst (zs.map V.str))->zs.length=5->(∀ z∈zs,BI z=true)->Q (.ref l) H'
def JA(K:W.Frag)(a:Ad):Sp:=λvs H Q _=>∃ x:Int,vs=[.int x]/\∀ H',Same H H'->Q (.str (ET x)) H'
def HV(K:W.Frag)(a:Ad):Sp:=λvs H Q _=>∃ x:Int,vs=[.int x]/\Q (.int (DW x)) H
def N8(K:W.Frag)(a:Ad):Sp:=λvs H Q _=>∃ (X:SX) (cs:List Ch) (tks:List (AS × V)) (M:Md) (kind:Nat) (y z:Str) (x:Int),vs=[.ref X.S.st,.int kind,.str y,.str z,.int x]/\CU K a/\TD K a/\K2 a H X cs tks M/\cs.length<920/\kind<8/\BI y=true/\BI z=true ∧
 ∀ res cs' tks' M' H',DF X M y z x kind res M'->K2 a H' X cs' tks' M'->cs'.length<=cs.length+15->SameBut (λx=>X.S.A.F x\/x=X.S.tk) H H'->Q (.str (Str.ofString res)) H'
def aL(X:SX)(M:Md)(z:Str):Option (List Str)->Prop
 | none=>cellOf M X.m0 z=none
 | some ts=>∃ cell rec m ps,cellOf M X.m0 z=some cell/\cell<X.m0/\M 0 cell=.nm z rec/\M 3 rec=.rc m ps/\rec<X.r * X.w/\Paired (λp t=>M 4 p=.tx t/\PyData.strOk t=true) ps ts
def N9(K:W.Frag)(a:Ad):Sp:=λvs H Q _=>∃ (X:SX) (cs:List Ch) (tks:List (AS × V)) (M:Md) (z:Str),vs=[.ref X.S.st,.str z]/\CU K a/\TD K a/\K2 a H X cs tks M/\(∀ H',aL X M z none->Same H H'->Q .non H')/\∀ ts l H',aL X M z (some ts)->H l=none->H' l=some (.lst (ts.map V.str))->Same H H'->Q (.ref l) H'
abbrev LD:=List (Str × Nat)
abbrev RC:=List (Option (List Str))
def CJ(L:LD):List (AS × V):=L.map λp=>(.inr p.1,.int p.2)
def CW(L:LD)(z:Str):Option Nat:=(L.find? λp=>decide (p.1=z)).map (·.2)
def CK(L:LD)(z:Str):LD:=L.filter λp=>decide (p.1≠z)
def HW:Option Addr->V
 | none=>.non
 | some l=>.ref l
def G9(H:Hp):Option Addr->Option (List Str)->Prop
 | none,none=>True
 | some l,some ts=>H l=some (.lst (ts.map V.str))
 | _,_=>False
def OA(H:Hp)(d:Addr)(L:LD):Prop:=H d=some (.dK (CJ L))/\(L.map (·.1)).Nodup
structure RcsAt(H:Hp)(r:Addr)(ra:List (Option Addr))(R:RC):Prop where
 ls:H r=some (.lst (ra.map HW))
 el:Paired (G9 H) ra R
 ap:∀ (i j:Nat) (l:Addr),ra[i]? =some (some l)->ra[j]? =some (some l)->i=j
 no:∀ i:Nat,ra[i]? ≠some (some r)
 sm:∀ (i:Nat) (ts:List Str),R[i]? =some (some ts)->ts.length<=100
def DP(R:RC):List (List Str):=R.filterMap id
def JB(R:RC):Nat:=((DP R).map (·.length)).sum
def DQ(m0:Nat)(L:LD)(R:RC)(kind:Nat)(y z:Str):String × LD × RC :=
 if kind=3 then match CW L y with
  | none=>("NoName",L,R)
  | some i=>("",CK L y,if i∈(CK L y).map (·.2)then R else R.set i none)
 else if(CW L z).isSome then("Twice",L,R)else match CW L y with
  | none=>("NoName",L,R)
  | some i=>if L.length=m0 then("NoRoom",L,R)else("",if kind=7 then CK (L++[(z,i)]) y else L++[(z,i)],R)
def CD (m0 m1 m2:Nat) (L:LD) (R:RC) (kind:Nat) (y z:Str) (x:Int):String × LD × RC :=
  if kind<2 then if(CW L y).isSome then("Twice",L,R)else if(DP R).length=m1\/L.length=m0 then("NoRoom",L,R)else("",L++[(y,R.length)],R++[some []])
  else if kind=2\/kind=3\/kind=7 then DQ m0 L R kind y z
  else match CW L y with
    | none=>("NoName",L,R)
    | some i=>match R[i]? with
      | some (some ts)=>if kind=6 then if 0<=DW x/\DW x<ts.length then("",L,R.set i (some (ts.eraseIdx (DW x).toNat)))else("NoPiece",L,R)
        else if JB R=m2 then("NoRoom",L,R)else("",L,R.set i (some (ts++[ET x])))
      | _=>("",L,R)
def GO(d r:Addr)(ra:List (Option Addr)):Addr->Prop:=λx=>x=d\/x=r\/∃ i:Nat,ra[i]? =some (some x)
structure Own(H:Hp)(d r ml:Addr)(m0 m1 m2:Nat)(L:LD)(R:RC)(ra:List (Option Addr)):Prop where
 ms:H ml=some (.lst [.int m0,.int m1,.int m2])
 ld:OA H d L
 rc:RcsAt H r ra R
 ok:∀ z i,(z,i)∈L->∃ ts,R[i]? =some (some ts)
 sz:m0<=12/\m1<=12/\m2<=12/\L.length<=100/\R.length<=100
 ne:r≠ml/\∀ i:Nat,ra[i]? ≠some (some ml)
def ownQ(H:Hp)(d r ml:Addr)(m0 m1 m2:Nat)(ra:List (Option Addr))(o:String × LD × RC)(Q:VK):Prop:=∀ ra' H',H' ml=some (.lst [.int m0,.int m1,.int m2])->OA H' d o.2.1->RcsAt H' r ra' o.2.2->(∀ (i:Nat) (l:Addr),ra'[i]? =some (some l)->H l=none\/∃ i:Nat,ra[i]? =some (some l))->SameBut (GO d r ra) H H'->Q (.str (Str.ofString o.1)) H'
def OB(K:W.Frag)(a:Ad):Sp:=λvs H Q _=>∃ (d r ml:Addr) (m0 m1 m2:Nat) (L:LD) (R:RC) (ra:List (Option Addr)) (kind:Nat) (y z:Str),vs=[.ref ml,.ref d,.ref r,.int kind,.str y,.str z]/\Own H d r ml m0 m1 m2 L R ra/\L.length<90/\(kind=2\/kind=3\/kind=7)/\ownQ H d r ml m0 m1 m2 ra (DQ m0 L R kind y z) Q
def OC(K:W.Frag)(a:Ad):Sp:=λvs H Q _=>∃ (d r ml:Addr) (m0 m1 m2:Nat) (L:LD) (R:RC) (ra:List (Option Addr)) (kind:Nat) (y z:Str) (x:Int),vs=[.ref ml,.ref d,.ref r,.int kind,.str y,.str z,.int x]/\Own H d r ml m0 m1 m2 L R ra/\L.length<90/\R.length<90/\(∀ (i:Nat) (ts:List Str),R[i]? =some (some ts)->ts.length<=90)/\kind<8/\ownQ H d r ml m0 m1 m2 ra (CD m0 m1 m2 L R kind y z x) Q
structure Match(X:SX)(M:Md)(L:LD)(R:RC)(pl:Nat->Nat):Prop where
 n1:∀ k z rec,k<X.m0->M 0 k=.nm z rec->∃ i,(z,i)∈L/\pl i=rec
 n2:∀ z i,(z,i)∈L->∃ k,k<X.m0/\M 0 k=.nm z (pl i)
 r1:∀ (i:Nat) (ts:List Str),R[i]? =some (some ts)->pl i<X.r * X.w/\(∃ m ps,M 3 (pl i)=.rc m ps/\Paired (λp t=>M 4 p=.tx t/\PyData.strOk t=true) ps ts)/\∃ z,(z,i)∈L
 r2:∀ z i,(z,i)∈L->∃ ts,R[i]? =some (some ts)
 r3:∀ rec m ps,rec<X.r * X.w->M 3 rec=.rc m ps->∃ (i:Nat) (ts:List Str),R[i]? =some (some ts)/\pl i=rec
 ij:∀ (i j:Nat) (ts us:List Str),R[i]? =some (some ts)->R[j]? =some (some us)->pl i=pl j->i=j
def OD(K:W.Frag)(a:Ad):Sp:=λvs H Q _=>∃ (X:SX) (cs:List Ch) (tks:List (AS × V)) (M:Md) (d r ml:Addr) (m0 m1 m2:Nat) (L:LD) (R:RC) (ra:List (Option Addr)) (pl:Nat->Nat) (z:Str),vs=[.ref X.S.st,.ref d,.ref r,.str z]/\CU K a/\TD K a/\K2 a H X cs tks M/\Own H d r ml m0 m1 m2 L R ra/\Match X M L R pl/\∀ H',Same H H'->Q (.bl true) H'
def TR(K:W.Frag)(a:Ad):Sp:=λvs H Q _=>∃ (s:Addr) (ns:List Int),vs=[.ref s]/\CU K a/\TD K a/\SqL K H s (ns.map V.int)/\ns.length<=63/\∀ H',Q (.bl true) H'
end L2
namespace L2
abbrev FK:=W.Frag
abbrev XE:=St->XK
theorem AE{f g:TS}(h:f=g)(D:Ends)(σ:St)(H:Hp):f D σ H=g D σ H:=by rw[h]
section
variable{K:FK}{a:Ad}{n:Nat}{E E1:XE}{D:Ends}{σ:St}{H:Hp}
def aM(K:FK)(a:Ad)(E E1:XE):TS:=(DG K (AA 0) (AA 1) "place")
theorem wU:type_of% (AE (aM.eq_1 K a E E1) D σ H):=rfl
def aN(K:FK)(a:Ad)(E E1:XE):TS:=(DG K (AA 0) (AA 2) "value")
theorem wV:type_of% (AE (aN.eq_1 K a E E1) D σ H):=rfl
def aO(K:FK)(a:Ad)(E E1:XE):TS:=(DG K (AA 0) (AA 3) "needs")
theorem wW:type_of% (AE (aO.eq_1 K a E E1) D σ H):=rfl
def TU(K:FK)(a:Ad)(E:XE):TS:=(AL (aM K a E E) (AL (aN K a E E) (aO K a E E)))
def aP(K:FK)(a:Ad)(E E1:XE):TS:=(FX (a "NoChange") E (AC (tC (.str "there is no change of such a number")) AF))
theorem aQ:type_of% (AE (aP.eq_1 K a E E1) D σ H):=rfl
def aR(K:FK)(a:Ad)(E E1:XE):TS:=(BP (EU (BU (EV DU EQ (tC (.int 0)) (AA 2) (CC (D9 K) (AC (A1 K (AA 0) "made") AF))))) (aP K a E E) BY)
theorem aS:type_of% (AE (aR.eq_1 K a E E1) D σ H):=rfl
def aT(K:FK)(a:Ad)(E E1:XE):TS:=(GE (FI K (AA 1)) (AR 2) (aR K a E E))
theorem aU:type_of% (AE (aT.eq_1 K a E E1) D σ H):=rfl
def TV(K:FK)(a:Ad)(E:XE):TS:=(aT K a E E)
def aV(K:FK)(a:Ad)(E E1:XE):TS:=(A0 (CC (NA K) (AC (QF K (AA 0)) AF)))
theorem aW:type_of% (AE (aV.eq_1 K a E E1) D σ H):=rfl
def aX(K:FK)(a:Ad)(E E1:XE):TS:=(BP (BU (AH KF (AA 1) (tC .non))) (aV K a E E) BY)
theorem aY:type_of% (AE (aX.eq_1 K a E E1) D σ H):=rfl
def aZ(K:FK)(a:Ad)(E E1:XE):TS:=(A0 (CC (NA K) (AC (QF K (AH (BN K) (CC (M9 K) (AC (AA 0) AF)) (B2 (AC (AA 1) AF)))) AF)))
theorem a0:type_of% (AE (aZ.eq_1 K a E E1) D σ H):=rfl
def QZ(K:FK)(a:Ad)(E:XE):TS:=(AL (aX K a E E) (aZ K a E E))
def bA(K:FK)(a:Ad)(E E1:XE):TS:=(A0 (MI (EV DU DU (tC (.str " ")) (AA 0) (tC (.str "~"))) (AH (FH K) (CC (QC K) (AC (AA 0) AF)) (tC (.int 37)))))
theorem wX:type_of% (AE (bA.eq_1 K a E E1) D σ H):=rfl
def TW(K:FK)(a:Ad)(E:XE):TS:=(bA K a E E)
def bB(K:FK)(a:Ad)(E E1:XE):TS:=(A0 (MI (EV DU DU (tC (.int 1)) (CC (D9 K) (AC (AA 0) AF)) (tC (.int 8))) (CC (ND K) (AC (DH (P9 (AA 0)) (AR 0) CM (EV DU DU (tC (.str "a")) (AA 0) (tC (.str "z"))) 1 []) AF))))
theorem wY:type_of% (AE (bB.eq_1 K a E E1) D σ H):=rfl
def TY(K:FK)(a:Ad)(E:XE):TS:=(bB K a E E)
def bC(K:FK)(a:Ad)(E E1:XE):TS:=(DG K (AA 0) (DH (FU (AC (AA 1) AF)) (AR 0) CM (AH (D8 K) (EE (AC (tC .non) AF)) (AA 1)) 1 [2]) "contents")
theorem wZ:type_of% (AE (bC.eq_1 K a E E1) D σ H):=rfl
def bD(K:FK)(a:Ad)(E E1:XE):TS:=(DG K (AA 0) (AA 2) "width")
theorem w5:type_of% (AE (bD.eq_1 K a E E1) D σ H):=rfl
def bE(K:FK)(a:Ad)(E E1:XE):TS:=(DG K (AA 0) (tC (.int 0)) "written")
theorem w6:type_of% (AE (bE.eq_1 K a E E1) D σ H):=rfl
def TZ(K:FK)(a:Ad)(E:XE):TS:=(AL (bC K a E E) (AL (bD K a E E) (bE K a E E)))
def bF(K:FK)(a:Ad)(E E1:XE):TS:=(A0 (CC (D9 K) (AC (A1 K (AA 0) "contents") AF)))
theorem w8:type_of% (AE (bF.eq_1 K a E E1) D σ H):=rfl
def T2(K:FK)(a:Ad)(E:XE):TS:=(bF K a E E)
def bG(K:FK)(a:Ad)(E E1:XE):TS:=(A0 (A1 K (AA 0) "width"))
theorem xA:type_of% (AE (bG.eq_1 K a E E1) D σ H):=rfl
def T3(K:FK)(a:Ad)(E:XE):TS:=(bG K a E E)
def bH(K:FK)(a:Ad)(E E1:XE):TS:=(FX (a "NoBlock") E (AC (tC (.str "there is no such block")) AF))
theorem xB:type_of% (AE (bH.eq_1 K a E E1) D σ H):=rfl
def bI(K:FK)(a:Ad)(E E1:XE):TS:=(BP (EU (BU (EV DU EQ (tC (.int 0)) (AA 1) (CC (D9 K) (AC (A1 K (AA 0) "contents") AF))))) (bH K a E E) BY)
theorem xC:type_of% (AE (bI.eq_1 K a E E1) D σ H):=rfl
def T5(K:FK)(a:Ad)(E:XE):TS:=(bI K a E E)
def bJ(K:FK)(a:Ad)(E E1:XE):TS:=(DG K (AA 0) (AA 1) "name_blocks")
theorem xD:type_of% (AE (bJ.eq_1 K a E E1) D σ H):=rfl
def bK(K:FK)(a:Ad)(E E1:XE):TS:=(DG K (AA 0) (AA 2) "record_blocks")
theorem xE:type_of% (AE (bK.eq_1 K a E E1) D σ H):=rfl
def bL(K:FK)(a:Ad)(E E1:XE):TS:=(DG K (AA 0) (AA 3) "piece_blocks")
theorem xF:type_of% (AE (bL.eq_1 K a E E1) D σ H):=rfl
def bM(K:FK)(a:Ad)(E E1:XE):TS:=(DG K (AA 0) (AA 4) "width")
theorem xG:type_of% (AE (bM.eq_1 K a E E1) D σ H):=rfl
def T6(K:FK)(a:Ad)(E:XE):TS:=(AL (bJ K a E E) (AL (bK K a E E) (AL (bL K a E E) (bM K a E E))))
def bN(K:FK)(a:Ad)(E E1:XE):TS:=(A0 (EE (AC (AH (D8 K) (A1 K (AA 0) "name_blocks") (A1 K (AA 0) "width")) (AC (AH (D8 K) (A1 K (AA 0) "record_blocks") (A1 K (AA 0) "width")) (AC (AH (D8 K) (A1 K (AA 0) "piece_blocks") (A1 K (AA 0) "width")) AF)))))
theorem xH:type_of% (AE (bN.eq_1 K a E E1) D σ H):=rfl
def T7(K:FK)(a:Ad)(E:XE):TS:=(bN K a E E)
def bO(K:FK)(a:Ad)(E E1:XE):TS:=(A0 (AH (BN K) (AH (BN K) (A1 K (AA 0) "name_blocks") (A1 K (AA 0) "record_blocks")) (A1 K (AA 0) "piece_blocks")))
theorem xI:type_of% (AE (bO.eq_1 K a E E1) D σ H):=rfl
def T8(K:FK)(a:Ad)(E:XE):TS:=(bO K a E E)
def bP(K:FK)(a:Ad)(E E1:XE):TS:=(A0 (EE (AC (AH (BN K) (AA 1) (AH CT (AA 2) (A1 K (AA 0) "width"))) (AC (AH CH (AA 2) (A1 K (AA 0) "width")) AF))))
theorem xJ:type_of% (AE (bP.eq_1 K a E E1) D σ H):=rfl
def T9(K:FK)(a:Ad)(E:XE):TS:=(bP K a E E)
def bQ(K:FK)(a:Ad)(E E1:XE):TS:=(A0 (AH (BE K) (AA 0) (AA 1)))
theorem xK:type_of% (AE (bQ.eq_1 K a E E1) D σ H):=rfl
def bR(K:FK)(a:Ad)(E E1:XE):TS:=(BP (BU (AH EQ (AA 1) (CC (D9 K) (AC (AA 0) AF)))) (bQ K a E E) BY)
theorem xL:type_of% (AE (bR.eq_1 K a E E1) D σ H):=rfl
def bS(K:FK)(a:Ad)(E E1:XE):TS:=(A0 (tC (.int 0)))
theorem xM:type_of% (AE (bS.eq_1 K a E E1) D σ H):=rfl
def UA(K:FK)(a:Ad)(E:XE):TS:=(AL (bR K a E E) (bS K a E E))
def bT(K:FK)(a:Ad)(E E1:XE):TS:=(AZ (tC (.str "abcdefghijklmnopqrstuvwxyz")) (AR 1))
theorem xN:type_of% (AE (bT.eq_1 K a E E1) D σ H):=rfl
def bU(K:FK)(a:Ad)(E E1:XE):TS:=(AZ (tC (.str "")) (AR 2))
theorem xO:type_of% (AE (bU.eq_1 K a E E1) D σ H):=rfl
def bV(K:FK)(a:Ad)(E E1:XE):TS:=(AZ (AH CT (AA 0) (tC (.int 6))) (AR 3))
theorem xP:type_of% (AE (bV.eq_1 K a E E1) D σ H):=rfl
def bW(K:FK)(a:Ad)(E E1:XE):TS:=(AZ (AH (BN K) (AA 2) (AH (BE K) (AA 1) (AH CH (AH (BN K) (AA 3) (AH (D8 K) (AH (D8 K) (tC (.int 7)) (AA 4)) (AH CH (AH CT (AA 3) (tC (.int 26))) (tC (.int 5))))) (tC (.int 26))))) (AR 2))
theorem xQ:type_of% (AE (bW.eq_1 K a E E1) D σ H):=rfl
def bX(K:FK)(a:Ad)(E E1:XE):TS:=(AZ (AH (BN K) (AH CT (AA 3) (tC (.int 29))) (AH (D8 K) (tC (.int 3)) (AA 4))) (AR 3))
theorem xR:type_of% (AE (bX.eq_1 K a E E1) D σ H):=rfl
def bY(K:FK)(a:Ad)(E E1:XE):TS:=(GE (FU (AC (AH (BN K) (tC (.int 1)) (AH CH (AA 0) (tC (.int 6)))) AF)) (AR 4) (AL (bW K a E E) (bX K a E E)))
theorem xS:type_of% (AE (bY.eq_1 K a E E1) D σ H):=rfl
def bZ(K:FK)(a:Ad)(E E1:XE):TS:=(AZ (AH CH (AH CT (AA 0) (tC (.int 7))) (CC (D9 K) (AC (AA 2) AF))) (AR 5))
theorem xT:type_of% (AE (bZ.eq_1 K a E E1) D σ H):=rfl
def b0(K:FK)(a:Ad)(E E1:XE):TS:=(AZ (AH (BE K) (AA 1) (AH CH (AH CT (AA 0) (tC (.int 11))) (tC (.int 26)))) (AR 6))
theorem xU:type_of% (AE (b0.eq_1 K a E E1) D σ H):=rfl
def b6(K:FK)(a:Ad)(E E1:XE):TS:=(AZ (AH (BE K) (AA 1) (AH CH (AH (BN K) (AH (BN K) (AH CT (AA 0) (tC (.int 11))) (tC (.int 1))) (AH CH (AH CT (AA 0) (tC (.int 13))) (tC (.int 25)))) (tC (.int 26)))) (AR 7))
theorem xV:type_of% (AE (b6.eq_1 K a E E1) D σ H):=rfl
def b7(K:FK)(a:Ad)(E E1:XE):TS:=(AZ (AH (BE K) (AA 1) (AH CH (AH (BN K) (AH (BN K) (EY K "str" Z7 (AA 1) (AC (AH (BE K) (AA 2) (AA 5)) AF)) (tC (.int 1))) (AH CH (AH CT (AA 0) (tC (.int 17))) (tC (.int 25)))) (tC (.int 26)))) (AR 8))
theorem xW:type_of% (AE (b7.eq_1 K a E E1) D σ H):=rfl
def b8(K:FK)(a:Ad)(E E1:XE):TS:=(A0 (B2 (AC (AA 2) (AC (AH (BN K) (AA 2) (AA 7)) (AC (AH (BN K) (AA 6) (AA 2)) (AC (AH (BN K) (AH (BN K) (IB (HL K) (AA 2) H0 (IA (AA 5))) (AA 8)) (IB (HL K) (AA 2) (IA (AH (BN K) (AA 5) (tC (.int 1)))) H0)) (AC (AH (BN K) (AH (BN K) (AA 2) (AA 7)) (AA 6)) AF)))))))
theorem xX:type_of% (AE (b8.eq_1 K a E E1) D σ H):=rfl
def UB(K:FK)(a:Ad)(E:XE):TS:=(AL (bT K a E E) (AL (bU K a E E) (AL (bV K a E E) (AL (bY K a E E) (AL (bZ K a E E) (AL (b0 K a E E) (AL (b6 K a E E) (AL (b7 K a E E) (b8 K a E E)))))))))
def b9(K:FK)(a:Ad)(E E1:XE):TS:=(AZ (tC (.str " !\"#$&'()*+,-./0123456789:;<=>?@ABCDEFGHIJKLMNOPQRSTUVWXYZ[\\]^_`")) (AR 1))
theorem xY:type_of% (AE (b9.eq_1 K a E E1) D σ H):=rfl
def cA(K:FK)(a:Ad)(E E1:XE):TS:=(AZ (AH (BN K) (AA 1) (tC (.str "abcdefghijklmnopqrstuvwxyz{|}~"))) (AR 1))
theorem xZ:type_of% (AE (cA.eq_1 K a E E1) D σ H):=rfl
def cB(K:FK)(a:Ad)(E E1:XE):TS:=(AZ (AH (BN K) (tC (.int 1)) (AH CH (AA 0) (tC (.int 5)))) (AR 2))
theorem x8:type_of% (AE (cB.eq_1 K a E E1) D σ H):=rfl
def cC(K:FK)(a:Ad)(E E1:XE):TS:=(AZ (AH P4 (tC (.int 40)) (AH CH (AH CT (AA 0) (tC (.int 40))) (tC (.int 2)))) (AR 2))
theorem x9:type_of% (AE (cC.eq_1 K a E E1) D σ H):=rfl
def cD(K:FK)(a:Ad)(E E1:XE):TS:=(BP (BU (AH (DL K) (AH CH (AH CT (AA 0) (tC (.int 5))) (tC (.int 8))) (tC (.int 3)))) (cC K a E E) BY)
theorem yA:type_of% (AE (cD.eq_1 K a E E1) D σ H):=rfl
def UC(K:FK)(a:Ad)(E E1:XE):TS:=(AZ (AH (BN K) (tC (.int 1)) (AH CH (AH CT (AA 0) (tC (.int 19))) (tC (.int 93)))) (AR 3))
theorem yB:type_of% (AE (UC.eq_1 K a E E1) D σ H):=rfl
def UD(K:FK)(a:Ad)(E E1:XE):TS:=(AZ (AH (BN K) (tC (.int 1)) (AH CH (AH CT (AA 0) (tC (.int 7))) (tC (.int 3)))) (AR 4))
theorem yC:type_of% (AE (UD.eq_1 K a E E1) D σ H):=rfl
def UE(K:FK)(a:Ad)(E E1:XE):TS:=(A0 (EY K "str" (ZZ K) (tC (.str "")) (AC (DH (FU (AC (AA 2) AF)) (AR 0) CM (AH (BE K) (AA 1) (AH CH (AH (BN K) (AH CT (AA 2) (tC (.int 3))) (AH (D8 K) (AA 3) (AH CT (AA 0) (AA 4)))) (tC (.int 94)))) 1 [1,0,3,4]) AF)))
theorem yD:type_of% (AE (UE.eq_1 K a E E1) D σ H):=rfl
def UF(K:FK)(a:Ad)(E:XE):TS:=(AL (b9 K a E E) (AL (cA K a E E) (AL (cB K a E E) (AL (cD K a E E) (AL (UC K a E E) (AL (UD K a E E) (UE K a E E)))))))
def cE(K:FK)(a:Ad)(E E1:XE):TS:=(A0 (AH P4 (AH CH (AA 0) (tC (.int 4))) (tC (.int 1))))
theorem yE:type_of% (AE (cE.eq_1 K a E E1) D σ H):=rfl
def cF(K:FK)(a:Ad)(E E1:XE):TS:=(BP (BU (AH (DL K) (AH CH (AH CT (AA 0) (tC (.int 28))) (tC (.int 2))) (tC (.int 0)))) (cE K a E E) BY)
theorem yF:type_of% (AE (cF.eq_1 K a E E1) D σ H):=rfl
def cG(K:FK)(a:Ad)(E E1:XE):TS:=(A0 (AH P4 (AH CH (AA 0) (tC (.int 14))) (tC (.int 1))))
theorem yG:type_of% (AE (cG.eq_1 K a E E1) D σ H):=rfl
def UG(K:FK)(a:Ad)(E:XE):TS:=(AL (cF K a E E) (cG K a E E))
def cH(K:FK)(a:Ad)(E E1:XE):TS:=(A0 (tC (.str "NoName")))
theorem yH:type_of% (AE (cH.eq_1 K a E E1) D σ H):=rfl
def cI(K:FK)(a:Ad)(E E1:XE):TS:=(BP (tB (KA (AA 4) (AA 1))) (cH K a E E) BY)
theorem yI:type_of% (AE (cI.eq_1 K a E E1) D σ H):=rfl
def cJ(K:FK)(a:Ad)(E E1:XE):TS:=(AZ (M3 (AA 1) (AA 4)) (AR 6))
theorem yJ:type_of% (AE (cJ.eq_1 K a E E1) D σ H):=rfl
def cK(K:FK)(a:Ad)(E E1:XE):TS:=(AZ (tC .non) (RR (AA 2) (AA 6) Y3))
theorem yK:type_of% (AE (cK.eq_1 K a E E1) D σ H):=rfl
def cL(K:FK)(a:Ad)(E E1:XE):TS:=(BP (BU (AH (S8 K) (AA 6) (TJ (AA 1) (AR 0) CM (IG (AA 1) (AA 0)) 1 [1]))) (cK K a E E) BY)
theorem yL:type_of% (AE (cL.eq_1 K a E E1) D σ H):=rfl
def cM(K:FK)(a:Ad)(E E1:XE):TS:=(A0 (tC (.str "")))
theorem cN:type_of% (AE (cM.eq_1 K a E E1) D σ H):=rfl
def cO(K:FK)(a:Ad)(E E1:XE):TS:=(BP (BU (AH (DL K) (AA 3) (tC (.int 3)))) (AL (cI K a E E) (AL (cJ K a E E) (AL (cL K a E E) (cM K a E E)))) BY)
theorem yM:type_of% (AE (cO.eq_1 K a E E1) D σ H):=rfl
def cP(K:FK)(a:Ad)(E E1:XE):TS:=(A0 (tC (.str "Twice")))
theorem yN:type_of% (AE (cP.eq_1 K a E E1) D σ H):=rfl
def cQ(K:FK)(a:Ad)(E E1:XE):TS:=(BP (tB (MY (AA 5) (AA 1))) (cP K a E E) BY)
theorem yO:type_of% (AE (cQ.eq_1 K a E E1) D σ H):=rfl
def cR(K:FK)(a:Ad)(E E1:XE):TS:=(A0 (tC (.str "NoName")))
theorem yP:type_of% (AE (cR.eq_1 K a E E1) D σ H):=rfl
def cS(K:FK)(a:Ad)(E E1:XE):TS:=(BP (tB (KA (AA 4) (AA 1))) (cR K a E E) BY)
theorem yQ:type_of% (AE (cS.eq_1 K a E E1) D σ H):=rfl
def cT(K:FK)(a:Ad)(E E1:XE):TS:=(A0 (tC (.str "NoRoom")))
theorem yR:type_of% (AE (cT.eq_1 K a E E1) D σ H):=rfl
def cU(K:FK)(a:Ad)(E E1:XE):TS:=(BP (BU (AH (DL K) (CC (QP K) (AC (AA 1) AF)) (AH (BE K) (AA 0) (tC (.int 0))))) (cT K a E E) BY)
theorem yS:type_of% (AE (cU.eq_1 K a E E1) D σ H):=rfl
def cV(K:FK)(a:Ad)(E E1:XE):TS:=(KB (AA 1) (AA 5) (IG (AA 1) (AA 4)))
theorem yT:type_of% (AE (cV.eq_1 K a E E1) D σ H):=rfl
def cW(K:FK)(a:Ad)(E E1:XE):TS:=(C5 (M3 (AA 1) (AA 4)))
theorem yU:type_of% (AE (cW.eq_1 K a E E1) D σ H):=rfl
def cX(K:FK)(a:Ad)(E E1:XE):TS:=(BP (BU (AH (DL K) (AA 3) (tC (.int 7)))) (cW K a E E) BY)
theorem yV:type_of% (AE (cX.eq_1 K a E E1) D σ H):=rfl
def cY(K:FK)(a:Ad)(E E1:XE):TS:=(A0 (tC (.str "")))
theorem cZ:type_of% (AE (cY.eq_1 K a E E1) D σ H):=rfl
def UH(K:FK)(a:Ad)(E:XE):TS:=(AL (cO K a E E) (AL (cQ K a E E) (AL (cS K a E E) (AL (cU K a E E) (AL (cV K a E E) (AL (cX K a E E) (cY K a E E)))))))
def c0(K:FK)(a:Ad)(E E1:XE):TS:=(DG K (AA 0) (AA 1) "ground")
theorem yW:type_of% (AE (c0.eq_1 K a E E1) D σ H):=rfl
def c6(K:FK)(a:Ad)(E E1:XE):TS:=(DG K (AA 0) (B2 AF) "made")
theorem yX:type_of% (AE (c6.eq_1 K a E E1) D σ H):=rfl
def c7(K:FK)(a:Ad)(E E1:XE):TS:=(DG K (AA 0) (DH (FU (AC (AW (a "Plank") "blocks" (IL K a) [] E (AA 1) AF) AF)) (AR 0) CM (B2 AF) 1 []) "made_in")
theorem yY:type_of% (AE (c7.eq_1 K a E E1) D σ H):=rfl
def c8(K:FK)(a:Ad)(E E1:XE):TS:=(DG K (AA 0) R9 "latest")
theorem yZ:type_of% (AE (c8.eq_1 K a E E1) D σ H):=rfl
def c9(K:FK)(a:Ad)(E E1:XE):TS:=(DG K (AA 0) M0 "outs")
theorem y3:type_of% (AE (c9.eq_1 K a E E1) D σ H):=rfl
def UI(K:FK)(a:Ad)(E:XE):TS:=(AL (c0 K a E E) (AL (c6 K a E E) (AL (c7 K a E E) (AL (c8 K a E E) (c9 K a E E)))))
def dA(K:FK)(a:Ad)(E E1:XE):TS:=(FX (a "NoBlock") E (AC (tC (.str "there is no such place on the plank")) AF))
theorem y4:type_of% (AE (dA.eq_1 K a E E1) D σ H):=rfl
def dB(K:FK)(a:Ad)(E E1:XE):TS:=(BP (J3 (EU (BU (EV DU EQ (tC (.int 0)) (AH (BE K) (AA 1) (tC (.int 0))) (AW (a "Plank") "blocks" (IL K a) [] E (A1 K (AA 0) "ground") AF)))) (EU (BU (EV DU EQ (tC (.int 0)) (AH (BE K) (AA 1) (tC (.int 1))) (AW (a "Plank") "cells" (NG K a) [] E (A1 K (AA 0) "ground") AF))))) (dA K a E E) BY)
theorem y7:type_of% (AE (dB.eq_1 K a E E1) D σ H):=rfl
def UJ(K:FK)(a:Ad)(E:XE):TS:=(dB K a E E)
def dC(K:FK)(a:Ad)(E E1:XE):TS:=(A0 (MI (EV DU DU (tC (.int 1)) (CC (D9 K) (AC (AA 0) AF)) (tC (.int 40))) (CC (ND K) (AC (DH (P9 (AA 0)) (AR 0) CM (CQ (NU K a) [] (λ_=>E0) (AC (AA 0) AF)) 1 []) AF))))
theorem y8:type_of% (AE (dC.eq_1 K a E E1) D σ H):=rfl
def UK(K:FK)(a:Ad)(E:XE):TS:=(dC K a E E)
def dD(K:FK)(a:Ad)(E E1:XE):TS:=(C5 (AW (a "Plank") "ask_for_block" (KK K a) [] E (AA 0) (AC (AA 1) AF)))
theorem zA:type_of% (AE (dD.eq_1 K a E E1) D σ H):=rfl
def dE(K:FK)(a:Ad)(E E1:XE):TS:=(A0 (CC (M9 K) (AC (AH (BE K) (A1 K (AA 0) "contents") (AA 1)) AF)))
theorem zB:type_of% (AE (dE.eq_1 K a E E1) D σ H):=rfl
def UL(K:FK)(a:Ad)(E:XE):TS:=(AL (dD K a E E) (dE K a E E))
def dF(K:FK)(a:Ad)(E E1:XE):TS:=(A0 (AW (a "Layout") "place_from" (E4 K a) [] E (AA 0) (AC (tC (.int 0)) (AC (AA 1) AF))))
theorem zC:type_of% (AE (dF.eq_1 K a E E1) D σ H):=rfl
def UM(K:FK)(a:Ad)(E:XE):TS:=(dF K a E E)
def dG(K:FK)(a:Ad)(E E1:XE):TS:=(A0 (AW (a "Layout") "place_from" (E4 K a) [] E (AA 0) (AC (A1 K (AA 0) "name_blocks") (AC (AA 1) AF))))
theorem zD:type_of% (AE (dG.eq_1 K a E E1) D σ H):=rfl
def UN(K:FK)(a:Ad)(E:XE):TS:=(dG K a E E)
def dH(K:FK)(a:Ad)(E E1:XE):TS:=(A0 (AW (a "Layout") "place_from" (E4 K a) [] E (AA 0) (AC (AH (BN K) (A1 K (AA 0) "name_blocks") (A1 K (AA 0) "record_blocks")) (AC (AA 1) AF))))
theorem zE:type_of% (AE (dH.eq_1 K a E E1) D σ H):=rfl
def UO(K:FK)(a:Ad)(E:XE):TS:=(dH K a E E)
def dI(K:FK)(a:Ad)(E E1:XE):TS:=(A0 (AW (a "Layout") "place_from" (E4 K a) [] E (AA 0) (AC (AW (a "Layout") "blocks_ahead_of_marks" (G3 K a) [] E (AA 0) AF) (AC (AA 1) AF))))
theorem zF:type_of% (AE (dI.eq_1 K a E E1) D σ H):=rfl
def UP(K:FK)(a:Ad)(E:XE):TS:=(dI K a E E)
def dJ(K:FK)(a:Ad)(E E1:XE):TS:=(A0 (AW (a "Layout") "place_from" (E4 K a) [] E (AA 0) (AC (AH (BN K) (AW (a "Layout") "blocks_ahead_of_marks" (G3 K a) [] E (AA 0) AF) (A1 K (AA 0) "record_blocks")) (AC (AA 1) AF))))
theorem zG:type_of% (AE (dJ.eq_1 K a E E1) D σ H):=rfl
def UQ(K:FK)(a:Ad)(E:XE):TS:=(dJ K a E E)
def dM(K:FK)(a:Ad)(E E1:XE):TS:=(A0 (AH (BN K) (AH (BN K) (AW (a "Layout") "blocks_ahead_of_marks" (G3 K a) [] E (AA 0) AF) (A1 K (AA 0) "record_blocks")) (A1 K (AA 0) "piece_blocks")))
theorem zH:type_of% (AE (dM.eq_1 K a E E1) D σ H):=rfl
def UR(K:FK)(a:Ad)(E:XE):TS:=(dM K a E E)
def dN(K:FK)(a:Ad)(E E1:XE):TS:=(AZ (DH (FI K (AA 2)) (AR 0) (BU (AH KG (AA 0) (tC .non))) (AA 0) 1 []) (AR 7))
theorem zI:type_of% (AE (dN.eq_1 K a E E1) D σ H):=rfl
def dO(K:FK)(a:Ad)(E E1:XE):TS:=(A0 (tC (.str "Twice")))
theorem zJ:type_of% (AE (dO.eq_1 K a E E1) D σ H):=rfl
def dP(K:FK)(a:Ad)(E E1:XE):TS:=(BP (tB (MY (AA 4) (AA 1))) (dO K a E E) BY)
theorem zK:type_of% (AE (dP.eq_1 K a E E1) D σ H):=rfl
def US(K:FK)(a:Ad)(E E1:XE):TS:=(A0 (tC (.str "NoRoom")))
theorem zL:type_of% (AE (US.eq_1 K a E E1) D σ H):=rfl
def dQ(K:FK)(a:Ad)(E E1:XE):TS:=(BP (J3 (BU (AH (DL K) (CC (D9 K) (AC (AA 7) AF)) (AH (BE K) (AA 0) (tC (.int 1))))) (BU (AH (DL K) (CC (QP K) (AC (AA 1) AF)) (AH (BE K) (AA 0) (tC (.int 0)))))) (US K a E E) BY)
theorem zM:type_of% (AE (dQ.eq_1 K a E E1) D σ H):=rfl
def UT(K:FK)(a:Ad)(E E1:XE):TS:=(KB (AA 1) (AA 4) (CC (D9 K) (AC (AA 2) AF)))
theorem zN:type_of% (AE (UT.eq_1 K a E E1) D σ H):=rfl
def UU(K:FK)(a:Ad)(E E1:XE):TS:=(C5 (EY K "list" HM (AA 2) (AC (B2 AF) AF)))
theorem zO:type_of% (AE (UU.eq_1 K a E E1) D σ H):=rfl
def UV(K:FK)(a:Ad)(E E1:XE):TS:=(A0 (tC (.str "")))
theorem zP:type_of% (AE (UV.eq_1 K a E E1) D σ H):=rfl
def dR(K:FK)(a:Ad)(E E1:XE):TS:=(BP (BU (AH EQ (AA 3) (tC (.int 2)))) (AL (dP K a E E) (AL (dQ K a E E) (AL (UT K a E E) (AL (UU K a E E) (UV K a E E))))) BY)
theorem zQ:type_of% (AE (dR.eq_1 K a E E1) D σ H):=rfl
def dU(K:FK)(a:Ad)(E E1:XE):TS:=(A0 (CQ (OB K a) [] E (AC (AA 0) (AC (AA 1) (AC (AA 2) (AC (AA 3) (AC (AA 4) (AC (AA 5) AF))))))))
theorem zR:type_of% (AE (dU.eq_1 K a E E1) D σ H):=rfl
def UW(K:FK)(a:Ad)(E E1:XE):TS:=(BP (BU (AH (QI K) (AA 3) (EE (AC (tC (.int 2)) (AC (tC (.int 3)) (AC (tC (.int 7)) AF)))))) (dU K a E E) BY)
theorem zS:type_of% (AE (UW.eq_1 K a E E1) D σ H):=rfl
def dW(K:FK)(a:Ad)(E E1:XE):TS:=(A0 (tC (.str "NoName")))
theorem zT:type_of% (AE (dW.eq_1 K a E E1) D σ H):=rfl
def UX(K:FK)(a:Ad)(E E1:XE):TS:=(BP (tB (KA (AA 4) (AA 1))) (dW K a E E) BY)
theorem zU:type_of% (AE (UX.eq_1 K a E E1) D σ H):=rfl
def UY(K:FK)(a:Ad)(E E1:XE):TS:=(AZ (AH (BE K) (AA 2) (IG (AA 1) (AA 4))) (AR 8))
theorem zV:type_of% (AE (UY.eq_1 K a E E1) D σ H):=rfl
def UZ(K:FK)(a:Ad)(E E1:XE):TS:=(A0 (tC (.str "NoPiece")))
theorem zW:type_of% (AE (UZ.eq_1 K a E E1) D σ H):=rfl
def dX(K:FK)(a:Ad)(E E1:XE):TS:=(BP (EU (BU (EV DU EQ (tC (.int 0)) (CQ (HV K a) [] E (AC (AA 6) AF)) (CC (D9 K) (AC (AA 8) AF))))) (UZ K a E E) BY)
theorem zX:type_of% (AE (dX.eq_1 K a E E1) D σ H):=rfl
def U0(K:FK)(a:Ad)(E E1:XE):TS:=(C5 (EY K "list" v9 (AA 8) (AC (CQ (HV K a) [] E (AC (AA 6) AF)) AF)))
theorem zY:type_of% (AE (U0.eq_1 K a E E1) D σ H):=rfl
def U1(K:FK)(a:Ad)(E E1:XE):TS:=(A0 (tC (.str "")))
theorem zZ:type_of% (AE (U1.eq_1 K a E E1) D σ H):=rfl
def U2(K:FK)(a:Ad)(E E1:XE):TS:=(BP (BU (AH (DL K) (AA 3) (tC (.int 6)))) (AL (dX K a E E) (AL (U0 K a E E) (U1 K a E E))) BY)
theorem z6:type_of% (AE (U2.eq_1 K a E E1) D σ H):=rfl
def dY(K:FK)(a:Ad)(E E1:XE):TS:=(A0 (tC (.str "NoRoom")))
theorem z7:type_of% (AE (dY.eq_1 K a E E1) D σ H):=rfl
def Q0(K:FK)(a:Ad)(E E1:XE):TS:=(BP (BU (AH (DL K) (CC (Z0 K) (AC (DH (FI K (AA 7)) (AR 0) CM (CC (D9 K) (AC (AA 0) AF)) 1 []) AF)) (AH (BE K) (AA 0) (tC (.int 2))))) (dY K a E E) BY)
theorem z8:type_of% (AE (Q0.eq_1 K a E E1) D σ H):=rfl
def Q1(K:FK)(a:Ad)(E E1:XE):TS:=(C5 (EY K "list" HM (AA 8) (AC (CQ (JA K a) [] E (AC (AA 6) AF)) AF)))
theorem z9:type_of% (AE (Q1.eq_1 K a E E1) D σ H):=rfl
def Q2(K:FK)(a:Ad)(E E1:XE):TS:=(A0 (tC (.str "")))
theorem Ab:type_of% (AE (Q2.eq_1 K a E E1) D σ H):=rfl
def U3(K:FK)(a:Ad)(E:XE):TS:=(AL (dN K a E E) (AL (dR K a E E) (AL (UW K a E E) (AL (UX K a E E) (AL (UY K a E E) (AL (U2 K a E E) (AL (Q0 K a E E) (AL (Q1 K a E E) (Q2 K a E E)))))))))
def dZ(K:FK)(a:Ad)(E E1:XE):TS:=(C5 (AW (a "Hold") "ask_for_place" (NP K a) [] E (AA 0) (AC (AA 1) AF)))
theorem Ac:type_of% (AE (dZ.eq_1 K a E E1) D σ H):=rfl
def d0(K:FK)(a:Ad)(E E1:XE):TS:=(A0 (SD (A1 K (AA 0) "latest") (AA 1)))
theorem Ag:type_of% (AE (d0.eq_1 K a E E1) D σ H):=rfl
def U4(K:FK)(a:Ad)(E:XE):TS:=(AL (dZ K a E E) (d0 K a E E))
def d6(K:FK)(a:Ad)(E E1:XE):TS:=(A0 (HI (a "Plank") (NF K a) [] E (AC (AW (a "Layout") "blocks" (NL K a) [] E (AA 0) AF) (AC (A1 K (AA 0) "width") AF))))
theorem Ah:type_of% (AE (d6.eq_1 K a E E1) D σ H):=rfl
def U5(K:FK)(a:Ad)(E:XE):TS:=(d6 K a E E)
def d7(K:FK)(a:Ad)(E E1:XE):TS:=(AZ (AW (a "Hold") "newest" (IR K a) [] E (AA 0) (AC (AA 1) AF)) (AR 4))
theorem Aj:type_of% (AE (d7.eq_1 K a E E1) D σ H):=rfl
def d8(K:FK)(a:Ad)(E E1:XE):TS:=(C5 (AW (a "Hold") "ask_for_changes" (NQ K a) [] E (AA 0) (AC (AA 3) AF)))
theorem Ak:type_of% (AE (d8.eq_1 K a E E1) D σ H):=rfl
def eA(K:FK)(a:Ad)(E E1:XE):TS:=(AZ (CC (D9 K) (AC (A1 K (AA 0) "made") AF)) (AR 5))
theorem Al:type_of% (AE (eA.eq_1 K a E E1) D σ H):=rfl
def eB(K:FK)(a:Ad)(E E1:XE):TS:=(C5 (EY K "list" HM (A1 K (AA 0) "made") (AC (HI (a "Change") (NN K a) [] E (AC (AA 1) (AC (AA 2) (AC (CQ (NO K a) [] E (AC (AA 3) (AC (AA 4) AF))) AF)))) AF)))
theorem Am:type_of% (AE (eB.eq_1 K a E E1) D σ H):=rfl
def eC(K:FK)(a:Ad)(E E1:XE):TS:=(C5 (EY K "list" HM (AH (BE K) (A1 K (AA 0) "made_in") (AH (BE K) (AA 1) (tC (.int 0)))) (AC (AA 5) AF)))
theorem Ap:type_of% (AE (eC.eq_1 K a E E1) D σ H):=rfl
def eD(K:FK)(a:Ad)(E E1:XE):TS:=(KB (A1 K (AA 0) "latest") (AA 1) (AA 5))
theorem Aq:type_of% (AE (eD.eq_1 K a E E1) D σ H):=rfl
def eE(K:FK)(a:Ad)(E E1:XE):TS:=(A0 (AA 5))
theorem Av:type_of% (AE (eE.eq_1 K a E E1) D σ H):=rfl
def U6(K:FK)(a:Ad)(E:XE):TS:=(AL (d7 K a E E) (AL (d8 K a E E) (AL (eA K a E E) (AL (eB K a E E) (AL (eC K a E E) (AL (eD K a E E) (eE K a E E)))))))
def eF(K:FK)(a:Ad)(E E1:XE):TS:=(AZ (AW (a "Hold") "newest" (IR K a) [] E (AA 0) (AC (AA 1) AF)) (AR 2))
theorem Aw:type_of% (AE (eF.eq_1 K a E E1) D σ H):=rfl
def eG(K:FK)(a:Ad)(E E1:XE):TS:=(A0 (AH (BE K) (AW (a "Plank") "read" (NH K a) [] E (A1 K (AA 0) "ground") (AC (AH (BE K) (AA 1) (tC (.int 0))) AF)) (AH (BE K) (AA 1) (tC (.int 1)))))
theorem Ax:type_of% (AE (eG.eq_1 K a E E1) D σ H):=rfl
def eI(K:FK)(a:Ad)(E E1:XE):TS:=(BP (BU (AH KF (AA 2) (tC .non))) (eG K a E E) BY)
theorem Ay:type_of% (AE (eI.eq_1 K a E E1) D σ H):=rfl
def eK(K:FK)(a:Ad)(E E1:XE):TS:=(A0 (A1 K (AH (BE K) (A1 K (AA 0) "made") (AA 2)) "value"))
theorem Az:type_of% (AE (eK.eq_1 K a E E1) D σ H):=rfl
def U7(K:FK)(a:Ad)(E:XE):TS:=(AL (eF K a E E) (AL (eI K a E E) (eK K a E E)))
def eL(K:FK)(a:Ad)(E E1:XE):TS:=(DG K (AA 0) (AA 1) "plan")
theorem Bb:type_of% (AE (eL.eq_1 K a E E1) D σ H):=rfl
def eO(K:FK)(a:Ad)(E E1:XE):TS:=(DG K (AA 0) (HI (a "Hold") (KP K a) [] E (AC (AA 2) AF)) "book")
theorem Bc:type_of% (AE (eO.eq_1 K a E E1) D σ H):=rfl
def eQ(K:FK)(a:Ad)(E E1:XE):TS:=(DG K (AA 0) M0 "taken_out")
theorem Bd:type_of% (AE (eQ.eq_1 K a E E1) D σ H):=rfl
def U8(K:FK)(a:Ad)(E:XE):TS:=(AL (eL K a E E) (AL (eO K a E E) (eQ K a E E)))
def eU(K:FK)(a:Ad)(E E1:XE):TS:=(A0 (AA 3))
theorem Bg:type_of% (AE (eU.eq_1 K a E E1) D σ H):=rfl
def eV(K:FK)(a:Ad)(E E1:XE):TS:=(BP (BU (AH (QM K) (AW (a "Hold") "in_hand" (F4 K a) [] E (AA 0) (AC (AA 4) AF)) (AA 2))) (eU K a E E) BY)
theorem Bh:type_of% (AE (eV.eq_1 K a E E1) D σ H):=rfl
def eW(K:FK)(a:Ad)(E E1:XE):TS:=(GE (QL K (AC (AA 1) AF)) (O3 K 2 (J4 (AR 3) (J4 (AR 4) OZ))) (eV K a E E))
theorem Bj:type_of% (AE (eW.eq_1 K a E E1) D σ H):=rfl
def eY(K:FK)(a:Ad)(E E1:XE):TS:=(FX (a "NoRoom") E (AC (tC (.str "nothing of what is to be taken is free")) AF))
theorem Bk:type_of% (AE (eY.eq_1 K a E E1) D σ H):=rfl
def U9(K:FK)(a:Ad)(E:XE):TS:=(AL (eW K a E E) (eY K a E E))
def eZ(K:FK)(a:Ad)(E E1:XE):TS:=(A0 (DH (FU (AC (AH (BE K) (AW (a "Layout") "counts" (F2 K a) [] E (A1 K (AA 0) "plan") AF) (tC (.int 0))) AF)) (AR 0) CM (AW (a "Hold") "in_hand" (F4 K a) [] (λ_=>E0) (A1 K (AA 1) "book") (AC (AW (a "Layout") "name_at" (FL K a) [] (λ_=>E0) (A1 K (AA 1) "plan") (AC (AA 0) AF)) AF)) 1 [0]))
theorem Bl:type_of% (AE (eZ.eq_1 K a E E1) D σ H):=rfl
def VA(K:FK)(a:Ad)(E:XE):TS:=(eZ K a E E)
def fA(K:FK)(a:Ad)(E E1:XE):TS:=(A0 (AW (a "Hold") "in_hand" (F4 K a) [] E (A1 K (AA 0) "book") (AC (AW (a "Layout") "record_at" (ES K a) [] E (A1 K (AA 0) "plan") (AC (AA 1) AF)) AF)))
theorem Bm:type_of% (AE (fA.eq_1 K a E E1) D σ H):=rfl
def VB(K:FK)(a:Ad)(E:XE):TS:=(fA K a E E)
def fB(K:FK)(a:Ad)(E E1:XE):TS:=(AZ (B2 (AC (AA 4) AF)) (AR 5))
theorem Bp:type_of% (AE (fB.eq_1 K a E E1) D σ H):=rfl
def fC(K:FK)(a:Ad)(E E1:XE):TS:=(C5 (EY K "list" HM (AA 5) (AC (IG (A1 K (AA 0) "taken_out") (AA 2)) AF)))
theorem Bq:type_of% (AE (fC.eq_1 K a E E1) D σ H):=rfl
def fD(K:FK)(a:Ad)(E E1:XE):TS:=(BP (tB (MY (AA 2) (A1 K (AA 0) "taken_out"))) (fC K a E E) BY)
theorem Bv:type_of% (AE (fD.eq_1 K a E E1) D σ H):=rfl
def VC(K:FK)(a:Ad)(E E1:XE):TS:=(A0 (AW (a "Hold") "change" (C8 K a) [] E (A1 K (AA 0) "book") (AC (AW (a "Layout") "name_at" (FL K a) [] E (A1 K (AA 0) "plan") (AC (AA 1) AF)) (AC (EE (AC (AA 2) (AC (AA 3) AF))) (AC (AA 5) AF)))))
theorem Bw:type_of% (AE (VC.eq_1 K a E E1) D σ H):=rfl
def VD(K:FK)(a:Ad)(E:XE):TS:=(AL (fB K a E E) (AL (fD K a E E) (VC K a E E)))
def fE(K:FK)(a:Ad)(E E1:XE):TS:=(AZ (DH (FU (AC (AH (BE K) (AW (a "Layout") "counts" (F2 K a) [] E (AA 0) AF) (tC (.int 0))) AF)) (AR 0) CM (AW (a "Layout") "name_at" (FL K a) [] (λ_=>E0) (AA 1) (AC (AA 0) AF)) 1 [0]) (AR 2))
theorem Bx:type_of% (AE (fE.eq_1 K a E E1) D σ H):=rfl
def fF(K:FK)(a:Ad)(E E1:XE):TS:=(A0 (CQ (GM K a) [] E (AC (AA 1) (AC (AA 2) (AC (EE (AC (tC .non) AF)) AF)))))
theorem By:type_of% (AE (fF.eq_1 K a E E1) D σ H):=rfl
def VE(K:FK)(a:Ad)(E:XE):TS:=(AL (fE K a E E) (fF K a E E))
def fG(K:FK)(a:Ad)(E E1:XE):TS:=(AZ (DH (FU (AC (AH (BE K) (AW (a "Layout") "counts" (F2 K a) [] E (AA 0) AF) (tC (.int 1))) AF)) (AR 0) CM (AW (a "Layout") "record_mark" (GL K a) [] (λ_=>E0) (AA 1) (AC (AA 0) AF)) 1 [0]) (AR 2))
theorem Bz:type_of% (AE (fG.eq_1 K a E E1) D σ H):=rfl
def fH(K:FK)(a:Ad)(E E1:XE):TS:=(A0 (CQ (GM K a) [] E (AC (AA 1) (AC (AA 2) (AC (EE (AC (tC .non) (AC (tC (.int 0)) AF))) AF)))))
theorem Cb:type_of% (AE (fH.eq_1 K a E E1) D σ H):=rfl
def VF(K:FK)(a:Ad)(E:XE):TS:=(AL (fG K a E E) (fH K a E E))
def fI(K:FK)(a:Ad)(E E1:XE):TS:=(AZ (DH (FU (AC (AH (BE K) (AW (a "Layout") "counts" (F2 K a) [] E (AA 0) AF) (tC (.int 2))) AF)) (AR 0) CM (AW (a "Layout") "piece_mark" (FM K a) [] (λ_=>E0) (AA 1) (AC (AA 0) AF)) 1 [0]) (AR 2))
theorem Cc:type_of% (AE (fI.eq_1 K a E E1) D σ H):=rfl
def fJ(K:FK)(a:Ad)(E E1:XE):TS:=(A0 (CQ (GM K a) [] E (AC (AA 1) (AC (AA 2) (AC (EE (AC (tC .non) (AC (tC (.int 0)) AF))) AF)))))
theorem Cd:type_of% (AE (fJ.eq_1 K a E E1) D σ H):=rfl
def VG(K:FK)(a:Ad)(E:XE):TS:=(AL (fI K a E E) (fJ K a E E))
def fK(K:FK)(a:Ad)(E E1:XE):TS:=(A0 (CC (Z6 K) (AC (DH (FI K (AW (a "Store") "name_cells" (G6 K a) [] E (AA 0) AF)) (AR 0) (BU (AH KG (AA 0) (tC .non))) (AH (BE K) (AA 0) (tC (.int 0))) 1 []) AF)))
theorem Cg:type_of% (AE (fK.eq_1 K a E E1) D σ H):=rfl
def VH(K:FK)(a:Ad)(E:XE):TS:=(fK K a E E)
def fL(K:FK)(a:Ad)(E E1:XE):TS:=(A0 (AA 2))
theorem Cj:type_of% (AE (fL.eq_1 K a E E1) D σ H):=rfl
def fM(K:FK)(a:Ad)(E E1:XE):TS:=(BP (RN (BU (AH KG (AA 3) (tC .non))) (BU (AH (DL K) (AH (BE K) (AA 3) (tC (.int 0))) (AA 1)))) (fL K a E E) BY)
theorem Ck:type_of% (AE (fM.eq_1 K a E E1) D σ H):=rfl
def fN(K:FK)(a:Ad)(E E1:XE):TS:=(GE (QL K (AC (AW (a "Store") "name_cells" (G6 K a) [] E (AA 0) AF) AF)) (O3 K 2 (J4 (AR 2) (J4 (AR 3) OZ))) (fM K a E E))
theorem Cl:type_of% (AE (fN.eq_1 K a E E1) D σ H):=rfl
def fO(K:FK)(a:Ad)(E E1:XE):TS:=(A0 (tC .non))
theorem Cm:type_of% (AE (fO.eq_1 K a E E1) D σ H):=rfl
def VI(K:FK)(a:Ad)(E:XE):TS:=(AL (fN K a E E) (fO K a E E))
def fP(K:FK)(a:Ad)(E E1:XE):TS:=(AZ (AW (a "Store") "standing" (D3 K a) [] E (AA 0) (AC (AA 1) AF)) (AR 4))
theorem Cp:type_of% (AE (fP.eq_1 K a E E1) D σ H):=rfl
def fQ(K:FK)(a:Ad)(E E1:XE):TS:=(A0 (AW (a "Hold") "change" (C8 K a) [] E (A1 K (AA 0) "book") (AC (AW (a "Layout") "record_at" (ES K a) [] E (A1 K (AA 0) "plan") (AC (AA 1) AF)) (AC (EE (AC (AH (BN K) (AH (BE K) (AA 4) (tC (.int 0))) (AA 2)) (AC (AH (BE K) (AA 4) (tC (.int 1))) AF))) (AC (AA 3) AF)))))
theorem Cq:type_of% (AE (fQ.eq_1 K a E E1) D σ H):=rfl
def VJ(K:FK)(a:Ad)(E:XE):TS:=(AL (fP K a E E) (fQ K a E E))
def fR(K:FK)(a:Ad)(E E1:XE):TS:=(A0 (AW (a "Hold") "change" (C8 K a) [] E (A1 K (AA 0) "book") (AC (AW (a "Layout") "record_at" (ES K a) [] E (A1 K (AA 0) "plan") (AC (AA 1) AF)) (AC (EE (AC (AH (BE K) (AW (a "Store") "standing" (D3 K a) [] E (AA 0) (AC (AA 1) AF)) (tC (.int 0))) (AC (AA 2) AF))) (AC (AA 3) AF)))))
theorem Cv:type_of% (AE (fR.eq_1 K a E E1) D σ H):=rfl
def VL(K:FK)(a:Ad)(E:XE):TS:=(fR K a E E)
def fS(K:FK)(a:Ad)(E E1:XE):TS:=(AZ (AH (BE K) (AW (a "Store") "standing" (D3 K a) [] E (AA 0) (AC (AA 1) AF)) (tC (.int 1))) (AR 3))
theorem Cw:type_of% (AE (fS.eq_1 K a E E1) D σ H):=rfl
def fT(K:FK)(a:Ad)(E E1:XE):TS:=(AZ (AW (a "Hold") "change" (C8 K a) [] E (A1 K (AA 0) "book") (AC (AW (a "Layout") "record_at" (ES K a) [] E (A1 K (AA 0) "plan") (AC (AA 1) AF)) (AC (tC .non) (AC (B2 (AC (AA 2) AF)) AF)))) (AR 4))
theorem Cy:type_of% (AE (fT.eq_1 K a E E1) D σ H):=rfl
def fU(K:FK)(a:Ad)(E E1:XE):TS:=(AZ (B2 (AC (AA 4) AF)) (AR 5))
theorem Cz:type_of% (AE (fU.eq_1 K a E E1) D σ H):=rfl
def fV(K:FK)(a:Ad)(E E1:XE):TS:=(C5 (EY K "list" HM (AA 5) (AC (AW (a "Hold") "change" (C8 K a) [] E (A1 K (AA 0) "book") (AC (AA 6) (AC (tC (.int 0)) (AC (B2 (AC (AA 4) AF)) AF)))) AF)))
theorem Db:type_of% (AE (fV.eq_1 K a E E1) D σ H):=rfl
def fW(K:FK)(a:Ad)(E E1:XE):TS:=(GE (FI K (AH (BN K) (DH (FI K (AA 3)) (AR 0) CM (AW (a "Layout") "piece_mark" (FM K a) [] (λ_=>E0) (A1 K (AA 1) "plan") (AC (AA 0) AF)) 1 [0]) (B2 (AC (AW (a "Layout") "record_mark" (GL K a) [] E (A1 K (AA 0) "plan") (AC (AA 1) AF)) AF)))) (AR 6) (fV K a E E))
theorem Dc:type_of% (AE (fW.eq_1 K a E E1) D σ H):=rfl
def fX(K:FK)(a:Ad)(E E1:XE):TS:=(A0 (AA 5))
theorem Dd:type_of% (AE (fX.eq_1 K a E E1) D σ H):=rfl
def VM(K:FK)(a:Ad)(E:XE):TS:=(AL (fS K a E E) (AL (fT K a E E) (AL (fU K a E E) (AL (fW K a E E) (fX K a E E)))))
def fY(K:FK)(a:Ad)(E E1:XE):TS:=(FX (a "NoName") E (AC (tC (.str "the text is no name")) AF))
theorem Dg:type_of% (AE (fY.eq_1 K a E E1) D σ H):=rfl
def fZ(K:FK)(a:Ad)(E E1:XE):TS:=(BP (EU (KH K (CC (ND K) (AC (DH (FI K (AA 2)) (AR 0) CM (CQ (NV K a) [] (λ_=>E0) (AC (AA 0) AF)) 1 []) AF)))) (fY K a E E) BY)
theorem Dh:type_of% (AE (fZ.eq_1 K a E E1) D σ H):=rfl
def f7(K:FK)(a:Ad)(E E1:XE):TS:=(FX (a "Twice") E (AC (tC (.str "the new name stands already")) AF))
theorem Dj:type_of% (AE (f7.eq_1 K a E E1) D σ H):=rfl
def f8(K:FK)(a:Ad)(E E1:XE):TS:=(BP (BU (AH KG (AW (a "Store") "cell_of" (G7 K a) [] E (AA 0) (AC (AA 1) AF)) (tC .non))) (f7 K a E E) BY)
theorem Dk:type_of% (AE (f8.eq_1 K a E E1) D σ H):=rfl
def VN(K:FK)(a:Ad)(E:XE):TS:=(AL (fZ K a E E) (f8 K a E E))
def f9(K:FK)(a:Ad)(E E1:XE):TS:=(AZ (AW (a "Store") "cell_of" (G7 K a) [] E (AA 0) (AC (AA 1) AF)) (AR 2))
theorem Dl:type_of% (AE (f9.eq_1 K a E E1) D σ H):=rfl
def gA(K:FK)(a:Ad)(E E1:XE):TS:=(FX (a "NoName") E (AC (tC (.str "no such name stands")) AF))
theorem Dm:type_of% (AE (gA.eq_1 K a E E1) D σ H):=rfl
def gB(K:FK)(a:Ad)(E E1:XE):TS:=(BP (BU (AH KF (AA 2) (tC .non))) (gA K a E E) BY)
theorem Dp:type_of% (AE (gB.eq_1 K a E E1) D σ H):=rfl
def gC(K:FK)(a:Ad)(E E1:XE):TS:=(A0 (AH (BE K) (AH (BE K) (AW (a "Store") "name_cells" (G6 K a) [] E (AA 0) AF) (AA 2)) (tC (.int 1))))
theorem Dq:type_of% (AE (gC.eq_1 K a E E1) D σ H):=rfl
def VO(K:FK)(a:Ad)(E:XE):TS:=(AL (f9 K a E E) (AL (gB K a E E) (gC K a E E)))
def gD(K:FK)(a:Ad)(E E1:XE):TS:=(AZ (AW (a "Hold") "change" (C8 K a) [] E (A1 K (AA 0) "book") (AC (AW (a "Layout") "name_at" (FL K a) [] E (A1 K (AA 0) "plan") (AC (AW (a "Store") "cell_of" (G7 K a) [] E (AA 0) (AC (AA 1) AF)) AF)) (AC (tC .non) (AC (AA 2) AF)))) (AR 3))
theorem Dv:type_of% (AE (gD.eq_1 K a E E1) D σ H):=rfl
def gE(K:FK)(a:Ad)(E E1:XE):TS:=(KB (A1 K (AA 0) "taken_out") (AA 1) (AA 3))
theorem Dw:type_of% (AE (gE.eq_1 K a E E1) D σ H):=rfl
def gF(K:FK)(a:Ad)(E E1:XE):TS:=(A0 (AA 3))
theorem Dx:type_of% (AE (gF.eq_1 K a E E1) D σ H):=rfl
def VP(K:FK)(a:Ad)(E:XE):TS:=(AL (gD K a E E) (AL (gE K a E E) (gF K a E E)))
def gG(K:FK)(a:Ad)(E E1:XE):TS:=(C5 (AW (a "Store") "ask_for_new_name" (IU K a) [] E (AA 0) (AC (AA 1) (AC (B2 (AC (AA 1) AF)) AF))))
theorem Dy:type_of% (AE (gG.eq_1 K a E E1) D σ H):=rfl
def gH(K:FK)(a:Ad)(E E1:XE):TS:=(AZ (CQ (NR K a) [] E (AC (A1 K (AA 0) "plan") (AC (A1 K (AA 0) "book") AF))) (AR 2))
theorem Dz:type_of% (AE (gH.eq_1 K a E E1) D σ H):=rfl
def gJ(K:FK)(a:Ad)(E E1:XE):TS:=(AZ (CQ (IS K a) [] E (AC (A1 K (AA 0) "plan") (AC (A1 K (AA 0) "book") AF))) (AR 3))
theorem Eb:type_of% (AE (gJ.eq_1 K a E E1) D σ H):=rfl
def gK(K:FK)(a:Ad)(E E1:XE):TS:=(AZ (AW (a "Hold") "change" (C8 K a) [] E (A1 K (AA 0) "book") (AC (AW (a "Layout") "record_mark" (GL K a) [] E (A1 K (AA 0) "plan") (AC (AA 2) AF)) (AC (tC (.int 1)) (AC (B2 AF) AF)))) (AR 4))
theorem Ec:type_of% (AE (gK.eq_1 K a E E1) D σ H):=rfl
def gL(K:FK)(a:Ad)(E E1:XE):TS:=(AZ (AW (a "Hold") "change" (C8 K a) [] E (A1 K (AA 0) "book") (AC (AW (a "Layout") "record_at" (ES K a) [] E (A1 K (AA 0) "plan") (AC (AA 2) AF)) (AC (EE (AC (tC (.int 1)) (AC (EE AF) AF))) (AC (B2 (AC (AA 4) AF)) AF)))) (AR 5))
theorem Ed:type_of% (AE (gL.eq_1 K a E E1) D σ H):=rfl
def gM(K:FK)(a:Ad)(E E1:XE):TS:=(A0 (B2 (AC (AA 4) (AC (AA 5) (AC (AW (a "Store") "fill_cell" (IV K a) [] E (AA 0) (AC (AA 3) (AC (AA 1) (AC (AA 2) (AC (AA 5) AF))))) AF)))))
theorem Eg:type_of% (AE (gM.eq_1 K a E E1) D σ H):=rfl
def VQ(K:FK)(a:Ad)(E:XE):TS:=(AL (gG K a E E) (AL (gH K a E E) (AL (gJ K a E E) (AL (gK K a E E) (AL (gL K a E E) (gM K a E E))))))
def gO(K:FK)(a:Ad)(E E1:XE):TS:=(C5 (AW (a "Store") "ask_for_new_name" (IU K a) [] E (AA 0) (AC (AA 2) (AC (B2 (AC (AA 1) (AC (AA 2) AF))) AF))))
theorem Eh:type_of% (AE (gO.eq_1 K a E E1) D σ H):=rfl
def gP(K:FK)(a:Ad)(E E1:XE):TS:=(AZ (AW (a "Store") "record_of" (EK K a) [] E (AA 0) (AC (AA 1) AF)) (AR 3))
theorem Ej:type_of% (AE (gP.eq_1 K a E E1) D σ H):=rfl
def gQ(K:FK)(a:Ad)(E E1:XE):TS:=(AZ (CQ (IS K a) [] E (AC (A1 K (AA 0) "plan") (AC (A1 K (AA 0) "book") AF))) (AR 4))
theorem Ek:type_of% (AE (gQ.eq_1 K a E E1) D σ H):=rfl
def gR(K:FK)(a:Ad)(E E1:XE):TS:=(AZ (AW (a "Store") "recount" (G8 K a) [] E (AA 0) (AC (AA 3) (AC (tC (.int 1)) (AC (B2 AF) AF)))) (AR 5))
theorem El:type_of% (AE (gR.eq_1 K a E E1) D σ H):=rfl
def gS(K:FK)(a:Ad)(E E1:XE):TS:=(A0 (B2 (AC (AA 5) (AC (AW (a "Store") "fill_cell" (IV K a) [] E (AA 0) (AC (AA 4) (AC (AA 2) (AC (AA 3) (AC (AA 5) AF))))) AF))))
theorem Em:type_of% (AE (gS.eq_1 K a E E1) D σ H):=rfl
def VR(K:FK)(a:Ad)(E:XE):TS:=(AL (gO K a E E) (AL (gP K a E E) (AL (gQ K a E E) (AL (gR K a E E) (gS K a E E)))))
def gT(K:FK)(a:Ad)(E E1:XE):TS:=(AZ (AW (a "Store") "record_of" (EK K a) [] E (AA 0) (AC (AA 1) AF)) (AR 2))
theorem Ep:type_of% (AE (gT.eq_1 K a E E1) D σ H):=rfl
def gU(K:FK)(a:Ad)(E E1:XE):TS:=(AZ (AW (a "Store") "empty_cell" (IX K a) [] E (AA 0) (AC (AA 1) (AC (B2 AF) AF))) (AR 3))
theorem Ev:type_of% (AE (gU.eq_1 K a E E1) D σ H):=rfl
def gW(K:FK)(a:Ad)(E E1:XE):TS:=(A0 (B2 (AC (AA 3) (AC (AW (a "Store") "recount" (G8 K a) [] E (AA 0) (AC (AA 2) (AC (O5 SO (tC (.int 1))) (AC (B2 (AC (AA 3) AF)) AF)))) AF))))
theorem Ew:type_of% (AE (gW.eq_1 K a E E1) D σ H):=rfl
def gX(K:FK)(a:Ad)(E E1:XE):TS:=(BP (BU (AH P6 (AH (BE K) (AW (a "Store") "standing" (D3 K a) [] E (AA 0) (AC (AA 2) AF)) (tC (.int 0))) (tC (.int 1)))) (gW K a E E) BY)
theorem Ex:type_of% (AE (gX.eq_1 K a E E1) D σ H):=rfl
def gY(K:FK)(a:Ad)(E E1:XE):TS:=(A0 (AH (BN K) (B2 (AC (AA 3) AF)) (AW (a "Store") "drop_record" (NZ K a) [] E (AA 0) (AC (AA 2) (AC (AA 3) AF)))))
theorem Ey:type_of% (AE (gY.eq_1 K a E E1) D σ H):=rfl
def VS(K:FK)(a:Ad)(E:XE):TS:=(AL (gT K a E E) (AL (gU K a E E) (AL (gX K a E E) (gY K a E E))))
def gZ(K:FK)(a:Ad)(E E1:XE):TS:=(AZ (AW (a "Store") "record_of" (EK K a) [] E (AA 0) (AC (AA 1) AF)) (AR 3))
theorem Ez:type_of% (AE (gZ.eq_1 K a E E1) D σ H):=rfl
def g7(K:FK)(a:Ad)(E E1:XE):TS:=(FX (a "NoPiece") E (AC (tC (.str "the text is none of a piece")) AF))
theorem Fb:type_of% (AE (g7.eq_1 K a E E1) D σ H):=rfl
def g8(K:FK)(a:Ad)(E E1:XE):TS:=(BP (EU (KH K (CQ (NW K a) [] E (AC (AA 2) AF)))) (g7 K a E E) BY)
theorem Fc:type_of% (AE (g8.eq_1 K a E E1) D σ H):=rfl
def g9(K:FK)(a:Ad)(E E1:XE):TS:=(AZ (CQ (NS K a) [] E (AC (A1 K (AA 0) "plan") (AC (A1 K (AA 0) "book") AF))) (AR 4))
theorem Fd:type_of% (AE (g9.eq_1 K a E E1) D σ H):=rfl
def hE(K:FK)(a:Ad)(E E1:XE):TS:=(AZ (AW (a "Hold") "change" (C8 K a) [] E (A1 K (AA 0) "book") (AC (AW (a "Layout") "piece_mark" (FM K a) [] E (A1 K (AA 0) "plan") (AC (AA 4) AF)) (AC (tC (.int 1)) (AC (B2 AF) AF)))) (AR 5))
theorem Fg:type_of% (AE (hE.eq_1 K a E E1) D σ H):=rfl
def hG(K:FK)(a:Ad)(E E1:XE):TS:=(AZ (AW (a "Hold") "change" (C8 K a) [] E (A1 K (AA 0) "book") (AC (AW (a "Layout") "piece_at" (HR K a) [] E (A1 K (AA 0) "plan") (AC (AA 4) AF)) (AC (AA 2) (AC (B2 (AC (AA 5) AF)) AF)))) (AR 6))
theorem Fh:type_of% (AE (hG.eq_1 K a E E1) D σ H):=rfl
def hU(K:FK)(a:Ad)(E E1:XE):TS:=(A0 (B2 (AC (AA 5) (AC (AA 6) (AC (AW (a "Store") "regroup" (IW K a) [] E (AA 0) (AC (AA 3) (AC (AH (BN K) (AH (BE K) (AW (a "Store") "standing" (D3 K a) [] E (AA 0) (AC (AA 3) AF)) (tC (.int 1))) (EE (AC (AA 4) AF))) (AC (B2 (AC (AA 6) AF)) AF)))) AF)))))
theorem Fj:type_of% (AE (hU.eq_1 K a E E1) D σ H):=rfl
def VT(K:FK)(a:Ad)(E:XE):TS:=(AL (gZ K a E E) (AL (g8 K a E E) (AL (g9 K a E E) (AL (hE K a E E) (AL (hG K a E E) (hU K a E E))))))
def hV(K:FK)(a:Ad)(E E1:XE):TS:=(AZ (AW (a "Store") "record_of" (EK K a) [] E (AA 0) (AC (AA 1) AF)) (AR 3))
theorem Fk:type_of% (AE (hV.eq_1 K a E E1) D σ H):=rfl
def hW(K:FK)(a:Ad)(E E1:XE):TS:=(AZ (AH (BE K) (AW (a "Store") "standing" (D3 K a) [] E (AA 0) (AC (AA 3) AF)) (tC (.int 1))) (AR 4))
theorem Fl:type_of% (AE (hW.eq_1 K a E E1) D σ H):=rfl
def hX(K:FK)(a:Ad)(E E1:XE):TS:=(FX (a "NoPiece") E (AC (tC (.str "the record has no piece at that place")) AF))
theorem Fm:type_of% (AE (hX.eq_1 K a E E1) D σ H):=rfl
def hZ(K:FK)(a:Ad)(E E1:XE):TS:=(BP (EU (BU (EV DU EQ (tC (.int 0)) (AA 2) (CC (D9 K) (AC (AA 4) AF))))) (hX K a E E) BY)
theorem Fp:type_of% (AE (hZ.eq_1 K a E E1) D σ H):=rfl
def h9(K:FK)(a:Ad)(E E1:XE):TS:=(AZ (AW (a "Store") "regroup" (IW K a) [] E (AA 0) (AC (AA 3) (AC (AH (BN K) (IB (HL K) (AA 4) H0 (IA (AA 2))) (IB (HL K) (AA 4) (IA (AH (BN K) (AA 2) (tC (.int 1)))) H0)) (AC (B2 AF) AF)))) (AR 5))
theorem Fq:type_of% (AE (h9.eq_1 K a E E1) D σ H):=rfl
def iA(K:FK)(a:Ad)(E E1:XE):TS:=(A0 (B2 (AC (AA 5) (AC (AW (a "Hold") "change" (C8 K a) [] E (A1 K (AA 0) "book") (AC (AW (a "Layout") "piece_mark" (FM K a) [] E (A1 K (AA 0) "plan") (AC (AH (BE K) (AA 4) (AA 2)) AF)) (AC (tC (.int 0)) (AC (B2 (AC (AA 5) AF)) AF)))) AF))))
theorem Fv:type_of% (AE (iA.eq_1 K a E E1) D σ H):=rfl
def VU(K:FK)(a:Ad)(E:XE):TS:=(AL (hV K a E E) (AL (hW K a E E) (AL (hZ K a E E) (AL (h9 K a E E) (iA K a E E)))))
def iB(K:FK)(a:Ad)(E E1:XE):TS:=(AZ (AH (BE K) (AW (a "Store") "standing" (D3 K a) [] E (AA 0) (AC (AW (a "Store") "record_of" (EK K a) [] E (AA 0) (AC (AA 1) AF)) AF)) (tC (.int 1))) (AR 2))
theorem Fw:type_of% (AE (iB.eq_1 K a E E1) D σ H):=rfl
def iC(K:FK)(a:Ad)(E E1:XE):TS:=(A0 (DH (FI K (AA 2)) (AR 0) CM (AW (a "Hold") "in_hand" (F4 K a) [] (λ_=>E0) (A1 K (AA 1) "book") (AC (AW (a "Layout") "piece_at" (HR K a) [] (λ_=>E0) (A1 K (AA 1) "plan") (AC (AA 0) AF)) AF)) 1 [0]))
theorem Fx:type_of% (AE (iC.eq_1 K a E E1) D σ H):=rfl
def VV(K:FK)(a:Ad)(E:XE):TS:=(AL (iB K a E E) (iC K a E E))
def iD(K:FK)(a:Ad)(E E1:XE):TS:=(AZ (AW (a "Store") "link" (IZ K a) [] E (AA 0) (AC (AA 1) (AC (AA 2) AF))) (AR 3))
theorem Fy:type_of% (AE (iD.eq_1 K a E E1) D σ H):=rfl
def iE(K:FK)(a:Ad)(E E1:XE):TS:=(AZ (AW (a "Store") "record_of" (EK K a) [] E (AA 0) (AC (AA 1) AF)) (AR 4))
theorem Fz:type_of% (AE (iE.eq_1 K a E E1) D σ H):=rfl
def iF(K:FK)(a:Ad)(E E1:XE):TS:=(AZ (AW (a "Store") "empty_cell" (IX K a) [] E (AA 0) (AC (AA 1) (AC (B2 (AC (AH (BE K) (AA 3) (tC (.int 1))) AF)) AF))) (AR 5))
theorem Gb:type_of% (AE (iF.eq_1 K a E E1) D σ H):=rfl
def iG(K:FK)(a:Ad)(E E1:XE):TS:=(A0 (AH (BN K) (AA 3) (B2 (AC (AA 5) (AC (AW (a "Store") "recount" (G8 K a) [] E (AA 0) (AC (AA 4) (AC (O5 SO (tC (.int 1))) (AC (B2 (AC (AA 5) AF)) AF)))) AF)))))
theorem Gc:type_of% (AE (iG.eq_1 K a E E1) D σ H):=rfl
def VW(K:FK)(a:Ad)(E:XE):TS:=(AL (iD K a E E) (AL (iE K a E E) (AL (iF K a E E) (iG K a E E))))
def iH(K:FK)(a:Ad)(E E1:XE):TS:=(AZ (tC .non) (AR 2))
theorem Gd:type_of% (AE (iH.eq_1 K a E E1) D σ H):=rfl
def iI(K:FK)(a:Ad)(E E1:XE):TS:=(AZ (AW (a "Store") "texts" (N3 K a) [] E1 (AA 0) (AC (AA 1) AF)) (AR 2))
theorem Gg:type_of% (AE (iI.eq_1 K a E E1) D σ H):=rfl
def iJ(K:FK)(a:Ad)(E E1:XE):TS:=(AZ (tC .non) (AR 2))
theorem Gh:type_of% (AE (iJ.eq_1 K a E E1) D σ H):=rfl
def iK(K:FK)(a:Ad)(E E1:XE):TS:=(PZ (λE1=>(iI K a E E1)) (GH (λcls=>W.exmOne K cls (.ref (a "NoName"))) (iJ K a E E) PY))
theorem Gj:type_of% (AE (iK.eq_1 K a E E1) D σ H):=rfl
def iL(K:FK)(a:Ad)(E E1:XE):TS:=(A0 (AA 2))
theorem iM:type_of% (AE (iL.eq_1 K a E E1) D σ H):=rfl
def VX(K:FK)(a:Ad)(E:XE):TS:=(AL (iH K a E E) (AL (iK K a E E) (iL K a E E)))
def iN(K:FK)(a:Ad)(E E1:XE):TS:=(AZ (tC (.str "")) (AR 5))
theorem Gk:type_of% (AE (iN.eq_1 K a E E1) D σ H):=rfl
def iO(K:FK)(a:Ad)(E E1:XE):TS:=(C5 (AW (a "Store") "make" (N0 K a) [] E1 (AA 0) (AC (AA 2) AF)))
theorem Gm:type_of% (AE (iO.eq_1 K a E E1) D σ H):=rfl
def iP(K:FK)(a:Ad)(E E1:XE):TS:=(C5 (AW (a "Store") "link" (IZ K a) [] E1 (AA 0) (AC (AA 2) (AC (AA 3) AF))))
theorem Gp:type_of% (AE (iP.eq_1 K a E E1) D σ H):=rfl
def iQ(K:FK)(a:Ad)(E E1:XE):TS:=(C5 (AW (a "Store") "cut" (N1 K a) [] E1 (AA 0) (AC (AA 2) AF)))
theorem Gq:type_of% (AE (iQ.eq_1 K a E E1) D σ H):=rfl
def iR(K:FK)(a:Ad)(E E1:XE):TS:=(C5 (AW (a "Store") "put" (N2 K a) [] E1 (AA 0) (AC (AA 2) (AC (CQ (JA K a) [] E1 (AC (AA 4) AF)) AF))))
theorem Gv:type_of% (AE (iR.eq_1 K a E E1) D σ H):=rfl
def iS(K:FK)(a:Ad)(E E1:XE):TS:=(C5 (AW (a "Store") "take" (N4 K a) [] E1 (AA 0) (AC (AA 2) (AC (CQ (HV K a) [] E1 (AC (AA 4) AF)) AF))))
theorem Gw:type_of% (AE (iS.eq_1 K a E E1) D σ H):=rfl
def iT(K:FK)(a:Ad)(E E1:XE):TS:=(C5 (AW (a "Store") "move" (N5 K a) [] E1 (AA 0) (AC (AA 2) (AC (AA 3) AF))))
theorem Gx:type_of% (AE (iT.eq_1 K a E E1) D σ H):=rfl
def iU(K:FK)(a:Ad)(E E1:XE):TS:=(BP (BU (AH (DL K) (AA 1) (tC (.int 6)))) (iS K a E E1) (iT K a E E1))
theorem Gy:type_of% (AE (iU.eq_1 K a E E1) D σ H):=rfl
def iV(K:FK)(a:Ad)(E E1:XE):TS:=(BP (BU (AH EQ (AA 1) (tC (.int 6)))) (iR K a E E1) (iU K a E E1))
theorem Gz:type_of% (AE (iV.eq_1 K a E E1) D σ H):=rfl
def iW(K:FK)(a:Ad)(E E1:XE):TS:=(BP (BU (AH (DL K) (AA 1) (tC (.int 3)))) (iQ K a E E1) (iV K a E E1))
theorem Hb:type_of% (AE (iW.eq_1 K a E E1) D σ H):=rfl
def iX(K:FK)(a:Ad)(E E1:XE):TS:=(BP (BU (AH (DL K) (AA 1) (tC (.int 2)))) (iP K a E E1) (iW K a E E1))
theorem Hc:type_of% (AE (iX.eq_1 K a E E1) D σ H):=rfl
def iY(K:FK)(a:Ad)(E E1:XE):TS:=(BP (BU (AH EQ (AA 1) (tC (.int 2)))) (iO K a E E1) (iX K a E E1))
theorem Hd:type_of% (AE (iY.eq_1 K a E E1) D σ H):=rfl
def VY(K:FK)(a:Ad)(E E1:XE):TS:=(AZ (tC (.str "NoRoom")) (AR 5))
theorem Hg:type_of% (AE (VY.eq_1 K a E E1) D σ H):=rfl
def VZ(K:FK)(a:Ad)(E E1:XE):TS:=(AZ (tC (.str "NoPiece")) (AR 5))
theorem Hh:type_of% (AE (VZ.eq_1 K a E E1) D σ H):=rfl
def V0(K:FK)(a:Ad)(E E1:XE):TS:=(AZ (tC (.str "Twice")) (AR 5))
theorem Hj:type_of% (AE (V0.eq_1 K a E E1) D σ H):=rfl
def V1(K:FK)(a:Ad)(E E1:XE):TS:=(AZ (tC (.str "NoName")) (AR 5))
theorem Hk:type_of% (AE (V1.eq_1 K a E E1) D σ H):=rfl
def iZ(K:FK)(a:Ad)(E E1:XE):TS:=(PZ (λE1=>(iY K a E E1)) (GH (λcls=>W.exmOne K cls (.ref (a "NoName"))) (V1 K a E E) (GH (λcls=>W.exmOne K cls (.ref (a "Twice"))) (V0 K a E E) (GH (λcls=>W.exmOne K cls (.ref (a "NoPiece"))) (VZ K a E E) (GH (λcls=>W.exmOne K cls (.ref (a "NoRoom"))) (VY K a E E) PY)))))
theorem Hl:type_of% (AE (iZ.eq_1 K a E E1) D σ H):=rfl
def OE(K:FK)(a:Ad)(E E1:XE):TS:=(A0 (AA 5))
theorem i4:type_of% (AE (OE.eq_1 K a E E1) D σ H):=rfl
def V2(K:FK)(a:Ad)(E:XE):TS:=(AL (iN K a E E) (AL (iZ K a E E) (OE K a E E)))
def i5(K:FK)(a:Ad)(E E1:XE):TS:=(AZ (AW (a "Store") "names" (NY K a) [] E (AA 0) AF) (AR 4))
theorem Hm:type_of% (AE (i5.eq_1 K a E E1) D σ H):=rfl
def Hq(K:FK)(a:Ad)(E E1:XE):TS:=(A0 (tC (.bl false)))
def i6(K:FK)(a:Ad)(E E1:XE):TS:=(BP (J3 (EU (KH K (CC (P8 K) (AC (AA 4) (AC (tC (.ty "list")) AF))))) (BU (AH (FH K) (AA 4) (CC (Z9 K) (AC (R4 K "dict" Z8 (AA 1)) AF))))) (Hq K a E E) BY)
theorem Hv:type_of% (AE (i6.eq_1 K a E E1) D σ H):=rfl
def i7(K:FK)(a:Ad)(E E1:XE):TS:=(C5 (EY K "list" HM (AA 4) (AC (tC (.str "a")) AF)))
theorem Hw:type_of% (AE (i7.eq_1 K a E E1) D σ H):=rfl
def i8(K:FK)(a:Ad)(E E1:XE):TS:=(AZ (CQ (N9 K a) [] E (AC (AA 0) (AC (AA 3) AF))) (AR 5))
theorem Hx:type_of% (AE (i8.eq_1 K a E E1) D σ H):=rfl
def i9(K:FK)(a:Ad)(E E1:XE):TS:=(A0 (AH KF (AA 5) (tC .non)))
theorem Hy:type_of% (AE (i9.eq_1 K a E E1) D σ H):=rfl
def jA(K:FK)(a:Ad)(E E1:XE):TS:=(BP (tB (KA (AA 3) (AA 1))) (i9 K a E E) BY)
theorem jB:type_of% (AE (jA.eq_1 K a E E1) D σ H):=rfl
def Hz(K:FK)(a:Ad)(E E1:XE):TS:=(A0 (tC (.bl false)))
def jC(K:FK)(a:Ad)(E E1:XE):TS:=(BP (J3 (EU (KH K (CC (P8 K) (AC (AA 5) (AC (tC (.ty "list")) AF))))) (BU (AH (FH K) (AA 5) (AH (BE K) (AA 2) (IG (AA 1) (AA 3)))))) (Hz K a E E) BY)
theorem Jb:type_of% (AE (jC.eq_1 K a E E1) D σ H):=rfl
def jD(K:FK)(a:Ad)(E E1:XE):TS:=(C5 (EY K "list" HM (AA 5) (AC (tC (.str "a")) AF)))
theorem Jc:type_of% (AE (jD.eq_1 K a E E1) D σ H):=rfl
def jE(K:FK)(a:Ad)(E E1:XE):TS:=(A0 (tC (.bl true)))
theorem Jd:type_of% (AE (jE.eq_1 K a E E1) D σ H):=rfl
def V3(K:FK)(a:Ad)(E:XE):TS:=(AL (i5 K a E E) (AL (i6 K a E E) (AL (i7 K a E E) (AL (i8 K a E E) (AL (jA K a E E) (AL (jC K a E E) (AL (jD K a E E) (jE K a E E))))))))
def jF(K:FK)(a:Ad)(E E1:XE):TS:=(AZ (CQ (IQ K a) [] E (AC (AA 0) (AC (tC (.int 0)) AF))) (AR 1))
theorem Jg:type_of% (AE (jF.eq_1 K a E E1) D σ H):=rfl
def jG(K:FK)(a:Ad)(E E1:XE):TS:=(AZ (B2 (AC (AH (BN K) (tC (.int 1)) (AH CH (AA 1) (tC (.int 3)))) (AC (AH (BN K) (tC (.int 1)) (AH CH (AH CT (AA 1) (tC (.int 3))) (tC (.int 3)))) (AC (AH (BN K) (tC (.int 1)) (AH CH (AH CT (AA 1) (tC (.int 9))) (tC (.int 3)))) (AC (AH (BN K) (tC (.int 1)) (AH CH (AH CT (AA 1) (tC (.int 27))) (tC (.int 4)))) AF))))) (AR 2))
theorem Jh:type_of% (AE (jG.eq_1 K a E E1) D σ H):=rfl
def jH(K:FK)(a:Ad)(E E1:XE):TS:=(AZ (HI (a "Layout") (NK K a) [] E (AC (AH (BE K) (AA 2) (tC (.int 0))) (AC (AH (BE K) (AA 2) (tC (.int 1))) (AC (AH (BE K) (AA 2) (tC (.int 2))) (AC (AH (BE K) (AA 2) (tC (.int 3))) AF))))) (AR 3))
theorem Jj:type_of% (AE (jH.eq_1 K a E E1) D σ H):=rfl
def jI(K:FK)(a:Ad)(E E1:XE):TS:=(AZ (B2 (AC (AH (D8 K) (AH (BE K) (AA 2) (tC (.int 0))) (AH (BE K) (AA 2) (tC (.int 3)))) (AC (AH (D8 K) (AH (BE K) (AA 2) (tC (.int 1))) (AH (BE K) (AA 2) (tC (.int 3)))) (AC (AH (D8 K) (AH (BE K) (AA 2) (tC (.int 2))) (AH (BE K) (AA 2) (tC (.int 3)))) AF)))) (AR 4))
theorem Jk:type_of% (AE (jI.eq_1 K a E E1) D σ H):=rfl
def jJ(K:FK)(a:Ad)(E E1:XE):TS:=(AZ (HI (a "Store") (NX K a) [] E (AC (AA 3) (AC (AW (a "Layout") "plank" (NM K a) [] E (AA 3) AF) AF))) (AR 5))
theorem Jl:type_of% (AE (jJ.eq_1 K a E E1) D σ H):=rfl
def jK(K:FK)(a:Ad)(E E1:XE):TS:=(AZ (CQ (N7 K a) [] E (AC (AH CT (AA 1) (tC (.int 108))) AF)) (AR 6))
theorem Jm:type_of% (AE (jK.eq_1 K a E E1) D σ H):=rfl
def jL(K:FK)(a:Ad)(E E1:XE):TS:=(AZ M0 (AR 7))
theorem Jp:type_of% (AE (jL.eq_1 K a E E1) D σ H):=rfl
def jM(K:FK)(a:Ad)(E E1:XE):TS:=(AZ (B2 AF) (AR 8))
theorem Jq:type_of% (AE (jM.eq_1 K a E E1) D σ H):=rfl
def jN(K:FK)(a:Ad)(E E1:XE):TS:=(AZ (AH (BE K) (AA 6) (AH CH (AH CT (AA 1) (tC (.int 8))) (tC (.int 5)))) (AR 9))
theorem Jv:type_of% (AE (jN.eq_1 K a E E1) D σ H):=rfl
def jO(K:FK)(a:Ad)(E E1:XE):TS:=(AZ (AH (BE K) (AA 6) (AH CH (AH CT (AA 1) (tC (.int 40))) (tC (.int 5)))) (AR 10))
theorem Jw:type_of% (AE (jO.eq_1 K a E E1) D σ H):=rfl
def jP(K:FK)(a:Ad)(E E1:XE):TS:=(AZ (CQ (N8 K a) [] E (AC (AA 5) (AC (AH CH (AA 1) (tC (.int 8))) (AC (AA 9) (AC (AA 10) (AC (AH CT (AA 1) (tC (.int 200))) AF)))))) (AR 11))
theorem Jx:type_of% (AE (jP.eq_1 K a E E1) D σ H):=rfl
def Jy(K:FK)(a:Ad)(E E1:XE):TS:=(A0 (tC (.bl false)))
def jQ(K:FK)(a:Ad)(E E1:XE):TS:=(BP (BU (AH (FH K) (AA 11) (CQ (OC K a) [] E (AC (AA 4) (AC (AA 7) (AC (AA 8) (AC (AH CH (AA 1) (tC (.int 8))) (AC (AA 9) (AC (AA 10) (AC (AH CT (AA 1) (tC (.int 200))) AF)))))))))) (Jy K a E E) BY)
theorem Jz:type_of% (AE (jQ.eq_1 K a E E1) D σ H):=rfl
def Kb(K:FK)(a:Ad)(E E1:XE):TS:=(A0 (tC (.bl false)))
def jR(K:FK)(a:Ad)(E E1:XE):TS:=(BP (EU (KH K (CQ (OD K a) [] E (AC (AA 5) (AC (AA 7) (AC (AA 8) (AC (AH (BE K) (AA 6) (AH CH (AH CT (AA 1) (tC (.int 23))) (tC (.int 5)))) AF))))))) (Kb K a E E) BY)
theorem Kc:type_of% (AE (jR.eq_1 K a E E1) D σ H):=rfl
def jS(K:FK)(a:Ad)(E E1:XE):TS:=(GE (FI K (IB (HL K) (AA 0) (IA (tC (.int 1))) H0)) (AR 1) (AL (jN K a E E) (AL (jO K a E E) (AL (jP K a E E) (AL (jQ K a E E) (jR K a E E))))))
theorem Kd:type_of% (AE (jS.eq_1 K a E E1) D σ H):=rfl
def jT(K:FK)(a:Ad)(E E1:XE):TS:=(A0 (tC (.bl true)))
theorem Kg:type_of% (AE (jT.eq_1 K a E E1) D σ H):=rfl
def V4(K:FK)(a:Ad)(E:XE):TS:=(AL (jF K a E E) (AL (jG K a E E) (AL (jH K a E E) (AL (jI K a E E) (AL (jJ K a E E) (AL (jK K a E E) (AL (jL K a E E) (AL (jM K a E E) (AL (jS K a E E) (jT K a E E))))))))))
end
end L2
namespace L2
local macro_rules
 | `(tactic| push_cast[$ls,*])=>`(tactic| simp only[↓qX,↓qY,↓qZ,↓rA,↓rB,↓rC,↓rD,↓rE,↓rF,↓rG,↓rH,↓rJ,↓rK,↓rM,↓rN,↓rO,↓rP,↓rQ,↓rR,↓rS,↓rT,↓rV,↓rW,↓rX,↓rY,↓rZ,↓r8,↓sA,↓sB,↓sC,↓sE,↓sF,↓sG,↓sI,↓sJ,↓sK,↓sL,↓sM,↓sN,↓sO,↓sP,↓sQ,↓sR,↓sT,↓sU,↓sW,↓sX,↓sY,↓sZ,↓tD,↓tE,↓SQ,↓tI,↓tK,↓tJ,↓tL,↓tM,↓tN,↓tO,↓tP,↓tG,↓tF,↓tH,↓tQ,↓tR,↓tS,↓tT,↓tU,↓tV,↓tW,↓tX,↓Y9,↓tY,
     P4,CH,CT,qK,SO,qL,Ends.drop,A7,List.map_cons,List.map_nil,List.length_cons,List.length_nil,List.reduceReplicate,Nat.reduceAdd,Nat.reduceSub,Nat.zero_add,List.cons_append,List.nil_append,List.append_nil,List.getElem?_cons_zero,List.getElem?_cons_succ,Option.some.injEq,Option.join_some,List.set_cons_zero,List.set_cons_succ,
     V.int.injEq,V.ref.injEq,V.bl.injEq,V.str.injEq,List.cons.injEq,and_true,true_and,exists_eq_left',exists_eq_left,exists_eq',exists_eq,exists_and_left,exists_and_right,reduceCtorEq,false_and,and_false,or_false,false_or,exists_false,decide_eq_true_eq,Bool.not_eq_true',Bool.not_eq_true,decide_eq_false_iff_not,eq_self_iff_true,if_true,Bool.false_eq_true,if_false,ite_true,Bool.true_eq_false,forall_const,and_assoc,Int.reduceToNat,Int.reduceLT,Int.reduceLE,Int.reduceEq,Nat.reduceLeDiff,Int.toNat_natCast,not_true_eq_false,not_false_eq_true,Bool.not_false,Bool.not_true,↓vE,↓vF,↓vG,↓vH,↓vI,↓vJ,↓vK,↓vL,↓vM,↓v0,↓uD,↓uB,$ls,*])
section
variable{K:W.Frag}{a:Ad}{vs:List V}{H:Hp}{Q:VK}{E:XK}
theorem Kh(h:IQ K a vs H Q E):UA K a (λ_=>E) (A9 Q) (A7 ["script","k"] vs) H:=by
 obtain⟨s,ns,k,rfl,hs,hl,q⟩:=h
 push_cast[UA,↓xK,↓xL,↓xM]
 refine⟨ns.length,?_,?_⟩
 ·exact .inl ⟨_,hs,(List.length_map _).symm⟩
 split
 ·rename_i hk
  have hk:k<ns.length:=by omega
  refine C3 hs rfl (v:=.int (IP ns k)) ?_ q
  unfold IP
  rw[List.getElem?_map,List.getElem?_eq_getElem hk]
  simp[List.getD,hk]
 ·rename_i hk
  have:IP ns k=0:=by
   unfold IP
   rw[List.getD_eq_getElem?_getD,List.getElem?_eq_none (by omega)];rfl
  rw[this]at q
  exact q
theorem Kj(h:IQ K a vs H Q E):vs.length=2:=by
 obtain⟨_,_,_,rfl,_⟩:=h
 rfl
theorem Kk(h:NF K a vs H Q E):TZ K a (λ_=>E) (A9 Q) (A7 ["self","blocks","cells"] vs) H:=by
 obtain⟨p,dx,m,w,rfl,T,hp,hm,h1,h2,q⟩:=h
 push_cast[TZ,↓wZ,↓w5,↓w6]
 refine⟨by omega,by omega,?_⟩
 refine NB (BV m (by omega)) (λi ys H'=>Same H H'/\∃ ts:List Addr,ys=ts.map V.ref/\Paired (λt r=>H' t=some (.tup r)) ts (List.replicate i (List.replicate w .non))) ⟨Same.refl _,[],rfl,.nil⟩ (λi ys H' hi hl ⟨s,ts,e,P⟩=> ?_) (λys H' hl ⟨s,ts,e,P⟩ cl hcl=> ?_)
 ·push_cast[C1,Option.join_some,Int.zero_add]
  refine⟨by decide,λt ht=>.inr ?_⟩
  have fin:∀ (t':Addr) (H2:Hp),Same H' H2->H2 t'=some (.tup (List.replicate w .non))->Same H H2/\∃ ts':List Addr,ys++[V.ref t']=ts'.map V.ref/\Paired (λt r=>H2 t=some (.tup r)) ts' (List.replicate (i+1) (List.replicate w .non)):=λt' H2 s2 e2=>by
   refine⟨s.trans s2,ts++[t'],by rw[e,List.map_append];rfl,?_⟩
   rw[List.replicate_succ']
   exact Paired.snoc (Paired.mapP P λt r z=>s2 _ _ z) e2
  have s1:Same H' (upd H' t (.tup [V.non])):=λb o z=>by rw[AM (BM z ht)];exact z
  refine⟨t,w,[.non],rfl,rfl,SqT.of AJ,by simp,by omega,by omega,BV _ (by simp;omega),λe1=> ?_,λe1 u hu=> ?_⟩
  ·have e1:w=1:=by omega
   refine fin t _ s1 ?_
   rw[AJ,e1];rfl
  ·rw[Int.toNat_natCast,ZC]
   exact fin u _ (s1.trans λb o z=>by rw[AM (BM z hu)];exact z) AJ
 ·have npc:p≠cl:=BM (s _ _ hp) hcl
  have e1:upd H' cl (HO.lst ys) p=some (HO.ins (a "Plank") dx []):=by rw[AM npc];exact s _ _ hp
  refine⟨_,_,_,e1,T.cl,T.nC,by decide,_,_,_,AJ,T.cl,T.nW,G2 (by decide),_,_,_,AJ,T.cl,T.nN,G2 (n:=1000) (Nat.succ_lt_succ (G2 (n:=999) (by decide))),?_⟩
  rw[wH,GS,GS]
  refine q cl _ (s.free hcl) ⟨⟨dx,AJ⟩,⟨ts,by rw[AM npc.symm,AJ,e],?_⟩,λr hr=> ?_,by simpa using hm,h2⟩ λb o eb hb=> ?_
  ·refine Paired.mapP P λt r z=> ?_
   rw[AM (CG z (s _ _ hp) (by intro z';cases z')),AM (BM z hcl)]
   exact z
  ·rw[List.eq_of_mem_replicate hr,List.length_replicate]
  ·rw[AM hb,AM (BM (s _ _ eb) hcl)]
   exact s _ _ eb
theorem Kl(h:IL K a vs H Q E):T2 K a (λ_=>E) (A9 Q) (A7 ["self"] vs) H:=by
 obtain⟨p,cl,w,rows,n,rfl,T,P,q⟩:=h
 obtain⟨dx,h1⟩:=P.ob
 obtain⟨ts,h2,h3⟩:=P.ls
 push_cast[T2,↓w8]
 refine⟨_,_,_,h1,T.cl,T.nC,_,TK _ _ _,rows.length,.inl ⟨_,SqL.of h2,?_⟩,q⟩
 rw[List.length_map,h3.length]
theorem Km(h:NG K a vs H Q E):T3 K a (λ_=>E) (A9 Q) (A7 ["self"] vs) H:=by
 obtain⟨p,cl,w,rows,n,rfl,T,P,q⟩:=h
 obtain⟨dx,h1⟩:=P.ob
 push_cast[T3,↓xA]
 exact⟨_,_,_,h1,T.cl,T.nW,_,wG _ _ _,q⟩
theorem Kp(h:KK K a vs H Q E):T5 K a (λ_=>E) (A9 Q) (A7 ["self","block"] vs) H:=by
 obtain⟨p,cl,w,rows,n,b,rfl,T,P,q,qe⟩:=h
 obtain⟨dx,h1⟩:=P.ob
 obtain⟨ts,h2,h3⟩:=P.ls
 push_cast[T5,↓xB,↓xC]
 have hl:rows.length=(ts.map V.ref).length:=by rw[List.length_map,h3.length]
 split
 ·rename_i h0
  refine⟨_,_,_,h1,T.cl,T.nC,_,TK _ _ _,rows.length,.inl ⟨_,SqL.of h2,hl⟩,?_⟩
  split
  ·exact⟨by decide,qe (by omega)⟩
  ·exact q h0 (by omega)
 ·exact⟨by decide,qe (by omega)⟩
theorem Kq(cl:Addr)(w n:Int):(pf cl w n).lookup ("ask_for_block":Str)=none:=QQ _ _ _ (by decide +kernel) (by decide +kernel) (by decide +kernel)
theorem Kv(h:NH K a vs H Q E):UL K a (λ_=>E) (A9 Q) (A7 ["self","block"] vs) H:=by
 obtain⟨p,cl,w,rows,n,b,rfl,T,P,q,qe⟩:=h
 obtain⟨dx,h1⟩:=P.ob
 obtain⟨ts,h2,h3⟩:=P.ls
 push_cast[UL,↓zA,↓zB,KK]
 refine⟨_,_,h1,Kq _ _ _,T,cl,w,rows,⟨n,P⟩,λh0 hb=>⟨_,_,_,h1,T.cl,T.nC,_,TK _ _ _,?_⟩,qe⟩
 obtain⟨i,rfl⟩:∃ i:Nat,b=i:=⟨b.toNat,by omega⟩
 have hi:i<rows.length:=by omega
 obtain⟨t,et,ht⟩:=IJ h3 (List.getElem?_eq_getElem hi)
 refine C3 (SqL.of h2) rfl (v:=.ref t) (by rw[List.getElem?_map,et];rfl) ?_
 rw[Y9]
 exact⟨_,.inr (SqT.of ht),q i _ rfl (List.getElem?_eq_getElem hi)⟩
theorem Kw(cl:Addr)(w n:Int):(pf cl w n).lookup ("read":Str)=none:=QQ _ _ _ (by decide +kernel) (by decide +kernel) (by decide +kernel)
theorem Kx(h:NF K a vs H Q E):vs.length=3:=by
 obtain⟨_,_,_,_,rfl,_⟩:=h
 rfl
theorem Ky(h:IL K a vs H Q E):vs.length=1:=by
 obtain⟨_,_,_,_,_,rfl,_⟩:=h
 rfl
theorem Kz(h:NG K a vs H Q E):vs.length=1:=by
 obtain⟨_,_,_,_,_,rfl,_⟩:=h
 rfl
theorem Lb(h:KK K a vs H Q E):vs.length=2:=by
 obtain⟨_,_,_,_,_,_,rfl,_⟩:=h
 rfl
theorem Lc(h:NH K a vs H Q E):vs.length=2:=by
 obtain⟨_,_,_,_,_,_,rfl,_⟩:=h
 rfl
theorem ED{f:Str}{v:V}{fs:List (Str × V)}{n:Nat}(h:fs.length<n):(A6 f v fs).length<n+1:=Nat.lt_of_le_of_lt (MO f v fs) (Nat.succ_lt_succ h)
theorem SameBut.none{b:Addr}{H H1:Hp}{x:Addr}(s:SameBut (· =b) H H1)(hb:H1 b≠Option.none)(h:H1 x=Option.none):H x=Option.none:=by
 cases e:H x with
 | none=>rfl
 | some o =>
  have:x≠b:=λz=>hb (z ▸ h)
  rw[s _ _ e this]at h
  cases h
theorem Ld(h:NN K a vs H Q E):TU K a (λ_=>E) (A9 Q) (A7 ["self","place","value","needs"] vs) H:=by
 obtain⟨x,dx,pl,v,nt,rfl,T,hx,q⟩:=h
 push_cast[TU,↓wU,↓wV,↓wW]
 refine⟨_,_,_,hx,T.cc,T.nP,by decide,_,_,_,AJ,T.cc,T.nV,ED (n:=999) (by decide),_,_,_,AJ,T.cc,T.nN,ED (n:=999) (ED (n:=998) (by decide)),?_⟩
 rw[wO,GS,GS]
 exact q
theorem Lg(h:NN K a vs H Q E):vs.length=4:=by
 obtain⟨_,_,_,_,_,rfl,_⟩:=h
 rfl
theorem Lh(h:KP K a vs H Q E):UI K a (λ_=>E) (A9 Q) (A7 ["self","plank"] vs) H:=by
 obtain⟨b,gp,cl,dx,w,rows,n,rfl,T,TP,P,hb,q⟩:=h
 push_cast[UI,↓yW,↓yX,↓yY,↓yZ,↓y3]
 refine⟨_,_,_,hb,T.cl,T.nG,by decide,by decide,?_⟩
 have e1:upd H b (.ins (EC a) dx (A6 "ground" (.ref gp) [])) b=some (.ins (EC a) dx (A6 "ground" (.ref gp) [])):=AJ
 have s1:SameBut (· =b) H (upd H b (.ins (EC a) dx (A6 "ground" (.ref gp) []))):=λx o e n=>by rw[AM n];exact e
 revert e1 s1
 generalize upd H b (.ins (EC a) dx (A6 "ground" (.ref gp) []))=H1
 intro e1 s1 m hm
 have nbm:b≠m:=BM e1 hm
 have hmH:=s1.none (by rw[e1];intro z;cases z) hm
 refine⟨_,_,_,by rw[AM nbm];exact e1,T.cl,T.nM,ED (n:=999) (by decide),?_⟩
 have s2:SameBut (· =b) H (upd (upd H1 m (.lst [])) b (.ins (EC a) dx (A6 "made" (.ref m) (A6 "ground" (.ref gp) [])))):=(s1.upd (.inr hmH)).upd (.inl rfl)
 have e2:upd (upd H1 m (.lst [])) b (.ins (EC a) dx (A6 "made" (.ref m) (A6 "ground" (.ref gp) []))) b=some (.ins (EC a) dx (A6 "made" (.ref m) (A6 "ground" (.ref gp) []))):=AJ
 have m2:upd (upd H1 m (.lst [])) b (.ins (EC a) dx (A6 "made" (.ref m) (A6 "ground" (.ref gp) []))) m=some (.lst []):=by rw[AM nbm.symm,AJ]
 revert s2 e2 m2
 generalize upd (upd H1 m (.lst [])) b (.ins (EC a) dx (A6 "made" (.ref m) (A6 "ground" (.ref gp) [])))=H2
 intro s2 e2 m2
 have gb:∀ x xs,(· =b) x->H x≠some (.tup xs):=λx xs e=>by rw[show x=b from e,hb];intro z;cases z
 have ncl:¬ cl=b:=by obtain⟨ts,z,_⟩:=P.ls;exact CG z hb (by intro z;cases z)
 have P2:PlankAt a H2 gp cl w rows n:=by
  obtain⟨⟨dx',f1⟩,⟨ts,f2,f3⟩,r1,r2,r3⟩:=P
  exact⟨⟨dx',s2 _ _ f1 (CG f1 hb (QR (by simp[pf])))⟩,⟨ts,s2 _ _ f2 (CG f2 hb (by intro z;cases z)),Paired.mapP f3 λt r z=>s2 _ _ z (CG z hb (by intro z;cases z))⟩,r1,r2,r3⟩
 obtain⟨dp,hp⟩:=P2.ob
 refine⟨_,_,hp,QQ _ _ _ (by decide +kernel) (by decide +kernel) (by decide +kernel),gp,cl,w,rows,n,rfl,TP,P2,rows.length,rfl,by omega,by have:=P.sz;omega,?_⟩
 rw[Int.toNat_natCast]
 refine NB (BV _ (by have:=P.sz;omega)) (λi ys H'=>Same H2 H'/\∃ ls:List Addr,ys=ls.map V.ref/\ls.Nodup/\∀ l∈ls,H' l=some (.lst [])/\H2 l=none) ⟨Same.refl _,[],rfl,List.nodup_nil,by simp⟩ (λi ys H' hi hl ⟨s,ls,ey,nd,al⟩=> ?_) (λys H' hl ⟨s,ls,ey,nd,al⟩ mi hmi=> ?_)
 ·push_cast[]
  refine⟨by decide,λl hl'=>⟨s.trans (AV hl'),ls++[l],by rw[ey,List.map_append];rfl,?_,λx hx=> ?_⟩⟩
  ·exact List.nodup_append.mpr ⟨nd,by simp,λx hx y hy e=>by rw[List.mem_singleton]at hy;subst hy;subst e;rw[(al _ hx).1]at hl';cases hl'⟩
  ·rcases List.mem_append.mp hx with hx | hx
   ·exact⟨AV hl' _ _ (al x hx).1,(al x hx).2⟩
   ·rw[List.mem_singleton.mp hx];exact⟨AJ,s.free hl'⟩
 ·have s3:SameBut (· =b) H (upd H' mi (.lst ys)):=by
   intro x o e nx
   have e':=s _ _ (s2 _ _ e nx)
   rw[AM (BM e' hmi)];exact e'
  have e3:upd H' mi (.lst ys) b=some (.ins (EC a) dx (A6 "made" (.ref m) (A6 "ground" (.ref gp) []))):=by rw[AM (BM (s _ _ e2) hmi)];exact s _ _ e2
  have m3:upd H' mi (.lst ys) m=some (.lst []):=by rw[AM (BM (s _ _ m2) hmi)];exact s _ _ m2
  have i3:upd H' mi (.lst ys) mi=some (.lst (ls.map V.ref)):=by rw[AJ,ey]
  have l3:∀ l∈ls,upd H' mi (.lst ys) l=some (.lst [])/\H l=none/\l≠mi/\l≠m:=λl hl'=>by
   have z:=al l hl'
   have n1:=BM z.1 hmi
   exact⟨by rw[AM n1];exact z.1,s2.none (by rw[e2];intro z;cases z) z.2,n1,λy=>by rw[y,m2]at z;cases z.2⟩
  have hmiH:H mi=none:=s2.none (by rw[e2];intro z;cases z) (s.free hmi)
  have nmm:m≠mi:=BM (s _ _ m2) hmi
  have hlen:ls.length=rows.length:=by rw[<-hl,ey,List.length_map]
  revert s3 e3 m3 i3 l3
  generalize upd H' mi (.lst ys)=H3
  intro s3 e3 m3 i3 l3
  refine⟨_,_,_,e3,T.cl,T.nI,ED (n:=999) (ED (n:=998) (by decide)),λlt hlt=> ?_⟩
  have nb4:b≠lt:=BM AJ hlt
  rw[AM nb4.symm]at hlt
  have ltH:H lt=none:=s3.none (by rw[e3];intro z;cases z) hlt
  refine⟨_,_,_,by rw[AM nb4,AJ],T.cl,T.nL,ED (n:=999) (ED (n:=998) (ED (n:=997) (by decide))),λou hou=> ?_⟩
  have nb5:b≠ou:=BM AJ hou
  rw[AM nb5.symm]at hou
  have nl5:lt≠ou:=BM AJ hou
  rw[AM nl5.symm,AM nb5.symm]at hou
  have ouH:H ou=none:=s3.none (by rw[e3];intro z;cases z) hou
  refine⟨_,_,_,by rw[AM nb5,AJ],T.cl,T.nO,ED (n:=999) (ED (n:=998) (ED (n:=997) (ED (n:=996) (by decide)))),?_⟩
  rw[wQ]
  generalize eH:upd (upd (upd (upd (upd H3 b _) lt (.dT [])) b _) ou (.dK [])) b (.ins (EC a) dx (bf gp m mi lt ou))=H5
  have kp:∀ x,x≠b->x≠lt->x≠ou->H5 x=H3 x:=λx n1 n2 n3=>by rw[<-eH,AM n1,AM n3,AM n1,AM n2,AM n1]
  have kk:∀ x o,H3 x=some o->x≠b->H5 x=some o:=λx o e n1=>by rw[kp x n1 (BM e hlt) (BM e hou)];exact e
  have s5:SameBut (· =b) H H5:=λx o e n1=>kk x o (s3 _ _ e n1) n1
  have nbx:∀ x xs,H3 x=some (.lst xs)->x≠b:=λx xs e=>CG e e3 (by intro z;cases z)
  refine q m mi lt ou ls H5 hmH hmiH ltH ouH (λl hl'=>(l3 l hl').2.1) ⟨⟨⟨dx,by rw[<-eH,AJ]⟩,⟨[],kk _ _ m3 (nbx _ _ m3),.nil⟩,kk _ _ i3 (nbx _ _ i3),λi l e=> ?_,nd,⟨[],?_,λi j=>rfl,Nat.le_refl _⟩,⟨[],?_,λk=>rfl,List.nodup_nil,by simp⟩,by simp,by simp,by simp,⟨nmm,?_,?_,?_,?_,?_⟩,by simp⟩,?_,hlen⟩ s5
  ·have z:=l3 l (List.mem_of_getElem? e)
   exact kk _ _ z.1 (nbx _ _ z.1)
  ·rw[<-eH,AM nb4.symm,AM nl5,AM nb4.symm,AJ]
  ·rw[<-eH,AM nb5.symm,AJ]
  ·exact λz=>(l3 _ z).2.2.2 rfl
  ·exact λz=>(l3 _ z).2.2.1 rfl
  ·obtain⟨ts,z,_⟩:=P.ls;exact BM z hmH
  ·obtain⟨ts,z,_⟩:=P.ls;exact BM z hmiH
  ·obtain⟨ts,z,_⟩:=P.ls;exact λy=>by rw[(l3 _ y).2.1]at z;cases z
  ·obtain⟨⟨dx',f1⟩,⟨ts,f2,f3⟩,r1,r2,r3⟩:=P
   exact⟨⟨dx',s5 _ _ f1 (CG f1 hb (QR (by simp[pf])))⟩,⟨ts,s5 _ _ f2 (CG f2 hb (by intro z;cases z)),Paired.mapP f3 λt r z=>s5 _ _ z (CG z hb (by intro z;cases z))⟩,r1,r2,r3⟩
theorem Lj(h:KP K a vs H Q E):vs.length=2:=by
 obtain⟨_,_,_,_,_,_,_,rfl,_⟩:=h
 rfl
theorem Lk(h:NO K a vs H Q E):QZ K a (λ_=>E) (A9 Q) (A7 ["needs","ahead"] vs) H:=by
 obtain⟨nl,ns,o,rfl,hs,hl,q⟩:=h
 cases o with
 | none =>
  push_cast[QZ,↓aW,↓aY,↓a0,F3]
  refine⟨ns,hs,by omega,λx o D ks hx hD r m l=>⟨_,.inl ⟨SqL.of AJ,λt ht=>q t ks _ (((AV hx).trans (AV hD)).trans (AV ht)) AJ r (λy=> ?_) (by omega)⟩⟩⟩
  rw[m y];simp
 | some k =>
  push_cast[QZ,↓aW,↓aY,↓a0,F3]
  refine⟨_,.inl hs,λl hl'=>⟨by decide,λp hp=>.inl ?_⟩⟩
  have np:l≠p:=BM AJ hp
  have s0:Same H (upd (upd H l (.lst (ns.map V.int))) p (.lst [.int k])):=(AV hl').trans (AV hp)
  have e1:upd (upd H l (.lst (ns.map V.int))) p (.lst [.int k]) l=some (.lst (ns.map V.int)):=by rw[AM np,AJ]
  have e2:upd (upd H l (.lst (ns.map V.int))) p (.lst [.int k]) p=some (.lst [.int k]):=AJ
  revert s0 e1 e2
  generalize upd (upd H l (.lst (ns.map V.int))) p (.lst [.int k])=H1
  intro s0 e1 e2
  refine⟨l,p,_,_,rfl,rfl,e1,e2,BV _ (by simp;omega),λr hr=>⟨r,rfl,ns++[(k:Int)],?_,by simp;omega,λx o D ks hx hD rs m ll=>⟨_,.inl ⟨SqL.of AJ,λt ht=>q t ks _ ((((s0.trans (AV hr)).trans (AV hx)).trans (AV hD)).trans (AV ht)) AJ rs (λy=> ?_) (by simpa using ll)⟩⟩⟩⟩
  ·rw[List.map_append];exact SqL.of AJ
  ·rw[m y,List.mem_append,List.mem_singleton];simp
theorem Ll(h:NO K a vs H Q E):vs.length=2:=by
 obtain⟨_,_,_,rfl,_⟩:=h
 rfl
theorem Lm(h:NP K a vs H Q E):UJ K a (λ_=>E) (A9 Q) (A7 ["self","place"] vs) H:=by
 obtain⟨A,w,rows,n,cs,outs,pl,i,j,rfl,T,TP,B,hp,q,qe⟩:=h
 obtain⟨dx,hb⟩:=B.bk.ob
 obtain⟨dp,hg⟩:=B.pk.ob
 have ng:∀ {m:Str},¬ m="contents"->¬ m="width"->¬ m="written"->(pf A.cl w n).lookup m=none:=λh1 h2 h3=>QQ _ _ _ h1 h2 h3
 push_cast[UJ,↓y4,↓y7]
 refine DD hp (n:=0) rfl rfl ?_
 push_cast[]
 split
 ·rename_i h0
  refine⟨_,_,_,hb,T.cl,T.nG,_,TM,A.gp,rfl,_,_,hg,ng (by decide +kernel) (by decide +kernel) (by decide +kernel),A.gp,A.cl,w,rows,n,rfl,TP,B.pk,?_⟩
  push_cast[]
  split
  ·exact⟨by decide,qe λz=>by omega⟩
  ·rename_i h1
   refine DD hp (n:=1) rfl rfl ?_
   push_cast[]
   split
   ·rename_i h2
    refine⟨_,_,_,hb,T.cl,T.nG,_,TM,A.gp,rfl,_,_,hg,ng (by decide +kernel) (by decide +kernel) (by decide +kernel),A.gp,A.cl,w,rows,n,rfl,TP,B.pk,?_⟩
    push_cast[]
    split
    ·exact⟨by decide,qe λz=>by omega⟩
    ·exact q ⟨h0,by omega,h2,by omega⟩
   ·exact⟨by decide,qe λz=>by omega⟩
 ·exact⟨by decide,qe λz=>by omega⟩
theorem Lp(h:NP K a vs H Q E):vs.length=2:=by
 obtain⟨_,_,_,_,_,_,_,_,_,rfl,_⟩:=h
 rfl
theorem Lq(h:IR K a vs H Q E):U4 K a (λ_=>E) (A9 Q) (A7 ["self","place"] vs) H:=by
 obtain⟨A,w,rows,n,cs,outs,pl,i,j,rfl,T,TP,B,hp,q,qe⟩:=h
 obtain⟨dx,hb⟩:=B.bk.ob
 obtain⟨kvs,hl,hv,_⟩:=B.bk.lat
 push_cast[U4,↓Ac,↓Ag]
 refine⟨_,_,hb,DM (by decide +kernel),A,w,rows,n,cs,outs,pl,i,j,rfl,T,TP,B,hp,λh=> ?_,qe⟩
 push_cast[]
 refine⟨_,_,_,hb,T.cl,T.nL,_,aI,A.lt,rfl,.inr ⟨_,.inl hl⟩,_,vN hl hp,?_⟩
 rw[hv]
 have:=q h
 cases e:EB cs i j with
 | none=>rw[e]at this;exact this
 | some k=>rw[e]at this;exact this
theorem Lv(h:IR K a vs H Q E):vs.length=2:=by
 obtain⟨_,_,_,_,_,_,_,_,_,rfl,_⟩:=h
 rfl
theorem BookIn.len{C D:Addr}{A:BA}{w:Nat}{cs:List Ch}{outs:Int->Bool}(B:BookIn C D H A w cs outs):∃ xs,H A.m=some (.lst xs)/\xs.length=cs.length:=by
 obtain⟨chs,e,p⟩:=B.made
 exact⟨_,e,by rw[List.length_map,p.length]⟩
theorem Lw(h:NQ K a vs H Q E):TV K a (λ_=>E) (A9 Q) (A7 ["self","numbers","number"] vs) H:=by
 obtain⟨A,w,rows,n,cs,outs,nl,ns,rfl,T,B,hs,q,qe⟩:=h
 obtain⟨dx,hb⟩:=B.bk.ob
 obtain⟨xs,hm,hml⟩:=B.bk.len
 push_cast[TV,↓aQ,↓aS,↓aU]
 refine .inl ⟨⟨_,hs⟩,?_⟩
 refine SR (xs:=ns.map V.int) (λi σ H'=>H'=H/\(∃ z,σ=[some (.ref A.b),some (.ref nl),z])/\∀ x∈ns.take i,known cs x) ⟨rfl,⟨_,rfl⟩,by simp⟩ (λi σ H' _ ⟨e,_⟩=>e ▸ hs) (λi x σ H' hx ⟨e,⟨z,ez⟩,kn⟩=> ?_) (λσ H' ⟨e,⟨z,ez⟩,kn⟩=> ?_)
 ·subst e;subst ez
  rw[List.getElem?_map,Option.map_eq_some_iff]at hx
  obtain⟨x',hx',rfl⟩:=hx
  push_cast[↓aQ,↓aS,↓aU]
  have bad:¬ known cs x'->1<=sizeLine/\E (.ref (a "NoChange")) none H':=λh=>⟨by decide,qe ⟨x',List.mem_of_getElem? hx',h⟩⟩
  split
  ·rename_i h0
   refine⟨_,_,_,hb,T.cl,T.nM,_,QT,cs.length,.inl ⟨_,SqL.of hm,hml.symm⟩,?_⟩
   split
   ·exact bad λz=>by omega
   ·intro y hy
    rw[List.take_add_one,hx']at hy
    rcases List.mem_append.mp hy with hy | hy
    ·exact kn y hy
    ·simp only[Option.toList_some,List.mem_singleton]at hy
     subst hy
     exact⟨h0,by omega⟩
  ·exact bad λz=>by omega
 ·subst e
  refine q λx hx=>kn x ?_
  rw[List.length_map,List.take_length];exact hx
theorem Lx(h:NQ K a vs H Q E):vs.length=2:=by
 obtain⟨_,_,_,_,_,_,_,_,rfl,_⟩:=h
 rfl
theorem Ly(h:C8 K a vs H Q E):U6 K a (λ_=>E) (A9 Q) (A7 ["self","place","value","needs","ahead","number"] vs) H:=by
 obtain⟨A,w,rows,n,cs,outs,pl,nl,v,ns,i,j,rfl,T,TP,B,hp,hs,hl,hc,q,q1,q2⟩:=h
 obtain⟨dx,hb⟩:=B.bk.ob
 obtain⟨xs,hm,hml⟩:=B.bk.len
 push_cast[U6,↓Aj]
 refine⟨_,_,hb,DM (by decide +kernel),A,w,rows,n,cs,outs,pl,i,j,rfl,T,TP,B,hp,λhon=> ?_,q1⟩
 push_cast[↓Ak]
 refine⟨_,_,hb,DM (by decide +kernel),A,w,rows,n,cs,outs,nl,ns,rfl,T,B,hs,λhkn=> ?_,q2 hon⟩
 push_cast[↓Al]
 refine⟨_,_,_,hb,T.cl,T.nM,_,QT,cs.length,.inl ⟨_,SqL.of hm,hml.symm⟩,?_⟩
 push_cast[↓Am]
 refine⟨_,_,_,hb,T.cl,T.nM,_,QT,.inl ⟨rfl,_,SqL.of hm⟩,nl,ns,EB cs i j,rfl,hs,hl,λt ks H1 s1 et kr km kl=> ?_⟩
 push_cast[]
 intro x dy hx hdy ndy
 refine⟨x,dy,pl,v,t,rfl,T,AJ,rfl,?_⟩
 rw[GS]
 have s2:Same H1 (upd (upd H1 dy (.own x)) x (.ins (a "Change") dy (GK pl v t))):=(AV hdy).trans (AV (by rw[AM ndy.symm];exact hx))
 have ex:upd (upd H1 dy (.own x)) x (.ins (a "Change") dy (GK pl v t)) x=some (.ins (a "Change") dy (GK pl v t)):=AJ
 revert s2 ex
 generalize upd (upd H1 dy (.own x)) x (.ins (a "Change") dy (GK pl v t))=H2
 intro s2 ex
 have s:=s1.trans s2
 have hxH:H x=none:=s1.free hx
 replace et:=s2 _ _ et
 obtain⟨chs,hm',pch⟩:=B.bk.made
 have hmi:=B.bk.mil
 obtain⟨kvs,hlt,hv,hkl⟩:=B.bk.lat
 obtain⟨kvo,hou,hvo,hko⟩:=B.bk.out
 obtain⟨i0,i1,j0,j1⟩:=hon
 obtain⟨i',rfl⟩:∃ i':Nat,i=i':=⟨i.toNat,by omega⟩
 obtain⟨j',rfl⟩:∃ j':Nat,j=j':=⟨j.toNat,by omega⟩
 have hil:i'<A.ls.length:=by rw[B.nb];omega
 have el:=List.getElem?_eq_getElem hil
 have hll:=B.bk.mic i' _ el
 have hmem:A.ls[i']∈A.ls:=List.getElem_mem hil
 revert el hll hmem
 generalize A.ls[i']=l
 intro el hll hmem
 have ap:=B.bk.ap
 have nml:A.m≠l:=λz=>ap.2.1 (z ▸ hmem)
 have nil':A.mi≠l:=λz=>ap.2.2.1 (z ▸ hmem)
 have ncl:A.cl≠l:=λz=>ap.2.2.2.2.2 (z ▸ hmem)
 have klt:∀ {y:Addr} {o:HO},H2 y=some o->(∀ k,o≠.dT k)->y≠A.lt:=λe h=>CG e (s _ _ hlt) (h _)
 have km':∀ {y:Addr} {o:HO},H2 y=some o->(∀ k,o≠.lst k)->y≠A.m:=λe h=>CG e (s _ _ hm') (h _)
 have kll:∀ {y:Addr} {o:HO},H2 y=some o->(∀ k,o≠.lst k)->y≠l:=λe h=>CG e (s _ _ hll) (h _)
 have hb2:=s _ _ hb
 have hp2:=s _ _ hp
 have sz:=B.bk.sz
 have lenc:chs.length=cs.length:=pch.length
 refine⟨A.m,_,_,rfl,rfl,s _ _ hm',Nat.lt_of_lt_of_le (show(chs.map V.ref).length<1000 by rw[List.length_map];omega) (by decide),?_⟩
 push_cast[↓Ap]
 have bb:A.b≠A.m:=km' hb2 (by intro k z;cases z)
 have bl:A.b≠l:=kll hb2 (by intro k z;cases z)
 have bt:A.b≠A.lt:=klt hb2 (by intro k z;cases z)
 have pm:pl≠A.m:=km' hp2 (by intro k z;cases z)
 have pl':pl≠l:=kll hp2 (by intro k z;cases z)
 have pt:pl≠A.lt:=klt hp2 (by intro k z;cases z)
 have lt':l≠A.lt:=klt (s _ _ hll) (by intro k z;cases z)
 have mt:A.m≠A.lt:=klt (s _ _ hm') (by intro k z;cases z)
 have it:A.mi≠A.lt:=klt (s _ _ hmi) (by intro k z;cases z)
 refine⟨_,_,_,by rw[AM bb];exact hb2,T.cl,T.nI,_,wP,DD (by rw[AM pm];exact hp2) (n:=0) rfl rfl (C3 (SqL.of (by rw[AM ap.1.symm];exact s _ _ hmi)) (n:=i') (v:=.ref l) rfl (by rw[List.getElem?_map,el];rfl) ⟨.inl ⟨rfl,_,SqL.of (by rw[AM nml.symm];exact s _ _ hll)⟩,?_⟩)⟩
 have bln:=wM cs i'
 refine⟨l,_,_,rfl,rfl,by rw[AM nml.symm];exact s _ _ hll,Nat.lt_of_lt_of_le (show((IM cs i').map λ(k:Nat)=>V.int k).length<1000 by rw[List.length_map];omega) (by decide),?_⟩
 push_cast[↓Aq,↓Av]
 refine⟨_,_,_,by rw[AM bl,AM bb];exact hb2,T.cl,T.nL,_,aI,A.lt,rfl,_,vO (by rw[AM lt'.symm,AM mt.symm];exact s _ _ hlt) (by rw[AM pl',AM pm];exact hp2) (by omega),?_⟩
 generalize eH:upd (upd (upd H2 A.m _) l _) A.lt (.dT (CS kvs [.inl ↑i',.inl ↑j'] (.int ↑cs.length)))=H5
 have kp:∀ y,y≠A.m->y≠l->y≠A.lt->H5 y=H2 y:=λy n1 n2 n3=>by rw[<-eH,AM n3,AM n2,AM n1]
 have s5:SameBut (λy=>y=A.m\/y=l\/y=A.lt) H H5:=λy o e ny=>by
  rw[kp y (λz=>ny (.inl z)) (λz=>ny (.inr (.inl z))) (λz=>ny (.inr (.inr z)))]
  exact s _ _ e
 have lo:∀ y,(y=A.m\/y=l\/y=A.lt)->EI (H y):=by
  rintro y (z | z | z)
  ·exact B.loose (.inl z)
  ·exact B.loose (.inr (.inr (.inl (z ▸ hmem))))
  ·exact B.loose (.inr (.inr (.inr (.inl z))))
 have hnd:∀ y∈ks,0<=y/\y<cs.length:=λy hy=>by
  rcases(km y).mp hy with h | ⟨k,e,rfl⟩
  ·exact hkn y h
  ·exact⟨by omega,by have:=QS e;omega⟩
 refine q ⟨i0,i1,j0,j1⟩ hkn ks H5 kr km ⟨⟨⟨dx,by rw[kp _ bb bl bt];exact hb2⟩,⟨chs++[x],?_,Paired.snoc (Paired.mapP pch λy c h=>h.sb s5 lo) ⟨dy,pl,t,?_,?_,?_⟩⟩,?_,λk l' e=> ?_,B.bk.nd,⟨CS kvs [.inl ↑i',.inl ↑j'] (.int ↑cs.length),?_,λp q=> ?_,?_⟩,⟨kvo,?_,hvo,?_⟩,?_,λc hc'=> ?_,λk c e=> ?_,ap,λk c e j ej=> ?_⟩,B.pk.sbL s5 lo ?_,B.nb⟩ (s5.wide λy z=> ?_)
 ·rw[<-eH,AM mt,AM nml,AJ,List.map_append];rfl
 ·rw[kp x (km' ex (by intro k z;cases z)) (kll ex (by intro k z;cases z)) (klt ex (by intro k z;cases z))];exact ex
 ·rw[kp pl pm pl' pt];exact hp2
 ·rw[kp t (km' et (by intro k z;cases z)) (kll et (by intro k z;cases z)) (klt et (by intro k z;cases z))];exact et
 ·rw[kp _ ap.1.symm nil' it];exact s _ _ hmi
 ·rw[wL]
  by_cases z:l'=l
  ·subst z
   have ek:k=i':=by
    obtain⟨h1,h2⟩:=List.getElem?_eq_some_iff.mp e
    obtain⟨h3,h4⟩:=List.getElem?_eq_some_iff.mp el
    exact(List.getElem_inj B.bk.nd).mp (h2.trans h4.symm)
   subst ek
   rw[<-eH,AM lt',AJ]
   simp
  ·have nk:¬ i'=k:=λy=>by subst y;rw[el]at e;cases e;exact z rfl
   have hl':=B.bk.mic k l' e
   rw[kp l' (λy=>ap.2.1 (y ▸ List.mem_of_getElem? e)) z (klt (s _ _ hl') (by intro k z;cases z))]
   simp only[Int.toNat_natCast,if_neg nk]
   exact s _ _ hl'
 ·rw[<-eH,AJ]
 ·rw[YL,aF]
  by_cases z:p=i'/\q=j'
  ·obtain⟨rfl,rfl⟩:=z
   simp
  ·have z1:¬ ([Sum.inl p,Sum.inl q]:List AS)=[.inl ↑i',.inl ↑j']:=λy=>z (by simpa using y)
   have z2:¬ ((((i':Int).toNat:Nat):Int)=p/\(((j':Int).toNat:Nat):Int)=q):=λy=>z ⟨by omega,by omega⟩
   rw[if_neg z1,if_neg z2]
   exact hv p q
 ·have:=PL kvs [.inl ↑i',.inl ↑j'] (.int ↑cs.length)
  simp;omega
 ·rw[kp _ (km' (s _ _ hou) (by intro k z;cases z)) (kll (s _ _ hou) (by intro k z;cases z)) (klt (s _ _ hou) (by intro k z;cases z))];exact s _ _ hou
 ·exact hko.mono (by simp)
 ·simp;omega
 ·rcases List.mem_append.mp hc' with h | h
  ·exact B.bk.inn c h
  ·rw[List.mem_singleton.mp h]
   exact⟨by rw[Int.toNat_natCast];exact hil,(show(j':Int).toNat<w by omega)⟩
 ·rcases Nat.lt_or_ge k cs.length with h | h
  ·rw[List.getElem?_append_left h]at e
   exact B.bk.need k c e
  ·rw[List.getElem?_append_right h]at e
   have:k - cs.length=0:=by
    rcases Nat.eq_zero_or_pos (k - cs.length)with z | z
    ·exact z
    ·rw[List.getElem?_eq_none (by simp;omega)]at e;cases e
   rw[this]at e
   cases e
   exact⟨λy hy=>⟨(hnd y hy).1,by have:=(hnd y hy).2;omega⟩,kr,(show ks.length<=100 by omega)⟩
 ·rcases Nat.lt_or_ge k cs.length with h | h
  ·rw[List.getElem?_append_left h]at e
   rw[List.take_append_of_le_length (by omega)]at ej
   exact B.bk.chn k c e j ej
  ·rw[List.getElem?_append_right h]at e
   have:k - cs.length=0:=by
    rcases Nat.eq_zero_or_pos (k - cs.length)with z | z
    ·exact z
    ·rw[List.getElem?_eq_none (by simp;omega)]at e;cases e
   have hk:k=cs.length:=by omega
   subst hk
   rw[this]at e
   cases e
   rw[List.take_left' rfl]at ej
   exact(km _).mpr (.inr ⟨j,by simpa using ej,rfl⟩)
 ·rintro (z | z | z)
  ·exact ap.2.2.2.1 z
  ·exact ncl z
  ·obtain⟨ts,e,_⟩:=B.pk.ls
   exact klt (s _ _ e) (by intro k z;cases z) z
 ·rcases z with z | z | z
  ·exact .inl z
  ·exact .inr (.inr (.inl (z ▸ hmem)))
  ·exact .inr (.inr (.inr (.inl z)))
theorem Lz(h:C8 K a vs H Q E):vs.length=4:=by
 obtain⟨_,_,_,_,_,_,_,_,_,_,_,_,rfl,_⟩:=h
 rfl
theorem Mb{w n:Nat}{rows:List (List V)}{gp cl:Addr}{H1:Hp}{Q:Addr->Hp->Prop}{E:XK}(T:TB K a)(TP:D1 K a)(P:PlankAt a H1 gp cl w rows n)
  (q:∀ (A:BA) (H2:Hp),A.gp=gp->A.cl=cl->(∀ x o,H1 x=some o->x=cl\/¬ A.F x)->E5 a H2 A w rows n [] (λ_=>false)->Same H1 H2->Q A.b H2) :
  ∀ x dx,H1 x=none->H1 dx=none->dx≠x->KP K a [.ref x,.ref gp] (upd (upd H1 dx (.own x)) x (.ins (EC a) dx [])) (λv H2=>v=.non/\Q x H2) E:=λb db hb hdb ndb=>by
 have s0:Same H1 (upd (upd H1 db (.own b)) b (.ins (EC a) db [])):=(AV hdb).trans (AV (by rw[AM ndb.symm];exact hb))
 refine⟨b,gp,cl,db,w,rows,n,rfl,T,TP,P.same s0,AJ,λm mi lt ou ls H4 hm hmi hlt hou hls B4 sb4=>⟨rfl,?_⟩⟩
 refine q ⟨b,gp,m,mi,lt,ou,ls,cl⟩ H4 rfl rfl (λx o e=> ?_) B4 λy o e=>sb4 _ _ (s0 _ _ e) (BM e hb)
 by_cases z:x=cl
 ·exact .inl z
 ·refine .inr ?_
  have e':=s0 _ _ e
  rintro (y | y | y | y | y | y)
  ·rw[y]at e';rw[show(BA.mk b gp m mi lt ou ls cl).m=m from rfl,hm]at e';cases e'
  ·rw[y]at e';rw[show(BA.mk b gp m mi lt ou ls cl).mi=mi from rfl,hmi]at e';cases e'
  ·rw[hls x y]at e';cases e'
  ·rw[y]at e';rw[show(BA.mk b gp m mi lt ou ls cl).lt=lt from rfl,hlt]at e';cases e'
  ·rw[y]at e';rw[show(BA.mk b gp m mi lt ou ls cl).ou=ou from rfl,hou]at e';cases e'
  ·exact z y
theorem Mc(h:F4 K a vs H Q E):U7 K a (λ_=>E) (A9 Q) (A7 ["self","place","number"] vs) H:=by
 obtain⟨A,w,rows,n,cs,outs,pl,i,j,rfl,T,TP,B,hp,q,qe⟩:=h
 obtain⟨dx,hb⟩:=B.bk.ob
 obtain⟨dp,hg⟩:=B.pk.ob
 push_cast[U7,↓Aw,↓Ax,↓Ay,↓Az]
 refine⟨_,_,hb,DM (by decide +kernel),A,w,rows,n,cs,outs,pl,i,j,rfl,T,TP,B,hp,λh=> ?_,qe⟩
 have q:=q h
 unfold DV at q
 cases e:EB cs i j with
 | none =>
  rw[e]at q
  push_cast[F3]
  refine⟨_,_,_,hb,T.cl,T.nG,_,TM,A.gp,rfl,_,_,hg,Kw _ _ _,DD hp (n:=0) rfl rfl ?_⟩
  refine⟨A.gp,A.cl,w,rows,n,i,rfl,TP,B.pk,λb' row eb er vl hvl=> ?_,λz=>absurd h λy=>by omega⟩
  subst eb
  have s1:=AV (o:=.lst row) hvl
  refine DD (s1 _ _ hp) (n:=1) rfl rfl ?_
  have rl:=B.pk.wd row (List.mem_of_getElem? er)
  have hj:j.toNat<row.length:=by omega
  have ej:=List.getElem?_eq_getElem hj
  refine C3 (SqL.of AJ) (n:=j.toNat) (v:=row[j.toNat]) (by omega) ej ?_
  refine q _ _ ?_ s1
  rw[show((b':Int)).toNat=b' from by omega,er]
  exact ej
 | some k =>
  rw[e]at q
  push_cast[F3]
  have hk:=QS e
  have ec:=List.getElem?_eq_getElem hk
  obtain⟨chs,hm,pc⟩:=B.bk.made
  obtain⟨x,ex,dx',p1,n1,h1,h2,h3⟩:=IJ pc ec
  refine⟨_,_,_,hb,T.cl,T.nM,_,QT,C3 (SqL.of hm) (n:=k) (v:=.ref x) rfl (by rw[List.getElem?_map,ex];rfl) ⟨x,rfl,_,_,_,h1,T.cc,T.nV,_,wN,q _ _ ?_ (Same.refl _)⟩⟩
  show(cs[k]?).map (·.val)=_
  rw[ec]
  rfl
theorem Mg(h:F4 K a vs H Q E):vs.length=2:=by
 obtain⟨_,_,_,_,_,_,_,_,_,rfl,_⟩:=h
 rfl
theorem Mh(h:NK K a vs H Q E):T6 K a (λ_=>E) (A9 Q) (A7 ["self","names","records","pieces","cells"] vs) H:=by
 obtain⟨p,dx,n,r,c,w,rfl,T,hp,b1,b2,b3,b4,b5,q⟩:=h
 push_cast[T6,↓xD,↓xE,↓xF,↓xG]
 refine⟨_,_,_,hp,T.cl,T.n1,by decide,_,_,_,AJ,T.cl,T.n2,G2 (by decide),_,_,_,AJ,T.cl,T.n3,G2 (n:=1000) (Nat.succ_lt_succ (G2 (n:=999) (by decide))),_,_,_,AJ,T.cl,T.n4,?_,?_⟩
 ·exact G2 (n:=1000) (Nat.succ_lt_succ (G2 (n:=999) (Nat.succ_lt_succ (G2 (n:=998) (by decide)))))
 ·rw[wS,GS,GS,GS]
  exact q _ ⟨⟨dx,AJ⟩,b1,b2,b3,b4,b5⟩ λb o e hb=>by rw[AM hb];exact e
theorem Mj(h:E4 K a vs H Q E):T9 K a (λ_=>E) (A9 Q) (A7 ["self","block","k"] vs) H:=by
 obtain⟨p,n,r,c,w,k,b,rfl,T,L,q⟩:=h
 obtain⟨dx,e⟩:=L.ob
 have:=L.h1
 have:=L.hw
 push_cast[T9,↓xJ]
 refine⟨_,_,_,e,T.cl,T.n4,_,KO,?_⟩
 push_cast[]
 refine⟨⟨by omega,by omega⟩,_,_,_,e,T.cl,T.n4,_,KO,?_⟩
 push_cast[]
 exact⟨by omega,by decide,q⟩
theorem Ml(h:FL K a vs H Q E):UM K a (λ_=>E) (A9 Q) (A7 ["self","k"] vs) H:=by
 obtain⟨p,n,r,c,w,k,rfl,T,L,q⟩:=h
 obtain⟨dx,e⟩:=L.ob
 push_cast[UM,↓zC]
 exact⟨_,_,e,CA (by decide +kernel),p,n,r,c,w,k,0,rfl,T,L,q⟩
theorem Mm(h:ES K a vs H Q E):UN K a (λ_=>E) (A9 Q) (A7 ["self","k"] vs) H:=by
 obtain⟨p,n,r,c,w,k,rfl,T,L,q⟩:=h
 obtain⟨dx,e⟩:=L.ob
 push_cast[UN,↓zD]
 exact⟨_,_,e,CA (by decide +kernel),_,_,_,e,T.cl,T.n1,_,QU,p,n,r,c,w,k,_,rfl,T,L,q⟩
theorem Mp(h:HR K a vs H Q E):UO K a (λ_=>E) (A9 Q) (A7 ["self","k"] vs) H:=by
 obtain⟨p,n,r,c,w,k,rfl,T,L,q⟩:=h
 obtain⟨dx,e⟩:=L.ob
 push_cast[UO,↓zE]
 refine⟨_,_,e,CA (by decide +kernel),_,_,_,e,T.cl,T.n1,_,QU,_,_,_,e,T.cl,T.n2,_,NJ,?_⟩
 push_cast[]
 exact⟨p,n,r,c,w,k,_,rfl,T,L,q⟩
theorem Mq(h:GL K a vs H Q E):UP K a (λ_=>E) (A9 Q) (A7 ["self","k"] vs) H:=by
 obtain⟨p,n,r,c,w,k,rfl,T,L,q⟩:=h
 obtain⟨dx,e⟩:=L.ob
 push_cast[UP,↓zF]
 exact⟨_,_,e,CA (by decide +kernel),_,_,e,CA (by decide +kernel),p,n,r,c,w,rfl,T,L,p,n,r,c,w,k,_,rfl,T,L,q⟩
theorem Mv(h:FM K a vs H Q E):UQ K a (λ_=>E) (A9 Q) (A7 ["self","k"] vs) H:=by
 obtain⟨p,n,r,c,w,k,rfl,T,L,q⟩:=h
 obtain⟨dx,e⟩:=L.ob
 push_cast[UQ,↓zG]
 refine⟨_,_,e,CA (by decide +kernel),_,_,e,CA (by decide +kernel),p,n,r,c,w,rfl,T,L,_,_,_,e,T.cl,T.n2,_,NJ,?_⟩
 push_cast[]
 exact⟨p,n,r,c,w,k,_,rfl,T,L,q⟩
theorem Mw(h:G3 K a vs H Q E):T8 K a (λ_=>E) (A9 Q) (A7 ["self"] vs) H:=by
 obtain⟨p,n,r,c,w,rfl,T,L,q⟩:=h
 obtain⟨dx,e⟩:=L.ob
 push_cast[T8,↓xI]
 refine⟨_,_,_,e,T.cl,T.n1,_,QU,_,_,_,e,T.cl,T.n2,_,NJ,?_⟩
 push_cast[]
 refine⟨_,_,_,e,T.cl,T.n3,_,TQ,?_⟩
 push_cast[]
 exact q
theorem Mx(h:NL K a vs H Q E):UR K a (λ_=>E) (A9 Q) (A7 ["self"] vs) H:=by
 obtain⟨p,n,r,c,w,rfl,T,L,q⟩:=h
 obtain⟨dx,e⟩:=L.ob
 push_cast[UR,↓zH]
 refine⟨_,_,e,CA (by decide +kernel),p,n,r,c,w,rfl,T,L,_,_,_,e,T.cl,T.n2,_,NJ,?_⟩
 push_cast[]
 refine⟨_,_,_,e,T.cl,T.n3,_,TQ,?_⟩
 push_cast[]
 exact q
theorem My(h:F2 K a vs H Q E):T7 K a (λ_=>E) (A9 Q) (A7 ["self"] vs) H:=by
 obtain⟨p,n,r,c,w,rfl,T,L,q⟩:=h
 obtain⟨dx,e⟩:=L.ob
 obtain⟨_,b1,b2,b3,b4,b5⟩:=L
 push_cast[T7,↓xH]
 refine⟨_,_,_,e,T.cl,T.n1,_,QU,_,_,_,e,T.cl,T.n4,_,KO,?_⟩
 push_cast[]
 refine⟨.inl ⟨by omega,by omega⟩,_,_,_,e,T.cl,T.n2,_,NJ,_,_,_,e,T.cl,T.n4,_,KO,?_⟩
 push_cast[]
 refine⟨.inl ⟨by omega,by omega⟩,_,_,_,e,T.cl,T.n3,_,TQ,_,_,_,e,T.cl,T.n4,_,KO,?_⟩
 push_cast[]
 exact⟨.inl ⟨by omega,by omega⟩,by decide,q⟩
theorem Mz(h:NM K a vs H Q E):U5 K a (λ_=>E) (A9 Q) (A7 ["self"] vs) H:=by
 obtain⟨p,n,r,c,w,rfl,T,TP,L,q⟩:=h
 obtain⟨dx,e⟩:=L.ob
 have LL:=L
 obtain⟨_,b1,b2,b3,b4,b5⟩:=L
 push_cast[U5,↓Ah]
 refine⟨_,_,e,CA (by decide +kernel),p,n,r,c,w,rfl,T,LL,_,_,_,e,T.cl,T.n4,_,KO,λx dx' hx hdx hne=> ?_⟩
 have s3:Same H (upd (upd H dx' (.own x)) x (.ins (a "Plank") dx' [])):=(AV hdx).trans (AV (by rw[AM hne.symm];exact hx))
 refine⟨x,dx',n+r+c+r+c,w,by simp,TP,AJ,by omega,b4,by omega,λcl H2 hcl P2 s4=>⟨rfl,q x cl H2 hx (s3.free hcl) P2 λb o eb=>s4 _ _ (s3 _ _ eb) (BM eb hx)⟩⟩
theorem Nb(h:NK K a vs H Q E):vs.length=5:=by
 obtain⟨_,_,_,_,_,_,rfl,_⟩:=h
 rfl
theorem Nd(h:E4 K a vs H Q E):vs.length=3:=by
 obtain⟨_,_,_,_,_,_,_,rfl,_⟩:=h
 rfl
theorem Ng(h:FL K a vs H Q E):vs.length=2:=by
 obtain⟨_,_,_,_,_,_,rfl,_⟩:=h
 rfl
theorem Nh(h:ES K a vs H Q E):vs.length=2:=by
 obtain⟨_,_,_,_,_,_,rfl,_⟩:=h
 rfl
theorem Nj(h:HR K a vs H Q E):vs.length=2:=by
 obtain⟨_,_,_,_,_,_,rfl,_⟩:=h
 rfl
theorem Nk(h:GL K a vs H Q E):vs.length=2:=by
 obtain⟨_,_,_,_,_,_,rfl,_⟩:=h
 rfl
theorem Nl(h:FM K a vs H Q E):vs.length=2:=by
 obtain⟨_,_,_,_,_,_,rfl,_⟩:=h
 rfl
theorem Nm(h:G3 K a vs H Q E):vs.length=1:=by
 obtain⟨_,_,_,_,_,rfl,_⟩:=h
 rfl
theorem Np(h:NL K a vs H Q E):vs.length=1:=by
 obtain⟨_,_,_,_,_,rfl,_⟩:=h
 rfl
theorem Nq(h:F2 K a vs H Q E):vs.length=1:=by
 obtain⟨_,_,_,_,_,rfl,_⟩:=h
 rfl
theorem Nv(h:NM K a vs H Q E):vs.length=1:=by
 obtain⟨_,_,_,_,_,rfl,_⟩:=h
 rfl
theorem Nx{f:Nat->Bool}{m i:Nat}(hi:i<m)(h:f i=true)(hl:∀ j<i,f j=false):DE f m=i:=by
 unfold DE
 have:(List.range m).find? f=some i:=by
  rw[List.find?_eq_some_iff_append]
  refine⟨h,List.range i,(List.range (m - i - 1)).map (i+1+·),?_,λj hj=>by rw[hl j (List.mem_range.mp hj)];rfl⟩
  have e1:m=i+(1+(m - i - 1)):=by omega
  conv=>lhs;rw[e1]
  rw[List.range_add,List.range_add]
  simp[Nat.add_assoc,Function.comp_def]
 rw[this]
theorem jU{f:Nat->Bool}{m:Nat}(hl:∀ j<m,f j=false):DE f m= -1:=by
 unfold DE
 have:(List.range m).find? f=none:=List.find?_eq_none.mpr λj hj=>by rw[hl j (List.mem_range.mp hj)];exact Bool.false_ne_true
 rw[this]
theorem Ny{n:Nat}{H:Hp}{v:V}{xs:List V}(hx:∀ z∈xs,QV z)(hv:GoodV n H v)(hf:FE v=true):GY v xs=decide (v∈xs):=by
 rw[Bool.eq_iff_iff,decide_eq_true_iff]
 unfold GY
 rw[List.any_eq_true]
 have key:∀ z,QV z->(EX z v=true↔z=v):=λz hz=>by
  rcases hz with rfl | ⟨i,rfl⟩<;>(cases v<;>first | (simp[EX];done) | (cases n<;>exact hv.elim) | (simp[FE]at hf))
 constructor
 ·rintro ⟨z,hz,e⟩
  rw[<-(key z (hx z hz)).mp e];exact hz
 ·intro h
  exact⟨v,h,(key v (hx v h)).mpr rfl⟩
def E6(H H':Hp):Prop:=∀ b xs,H b=some (.tup xs)->H' b=some (.tup xs)
theorem GoodV.keep{H H':Hp}(k:E6 H H'):∀ {n:Nat} {v:V},GoodV n H v->GoodV n H' v
 | 0,_,h=>h
 | _+1,.int _,_=>trivial
 | _+1,.non,_=>trivial
 | _+1,.str _,h=>h
 | n+1,.ref p,⟨xs,h1,h2,h3⟩=>⟨xs,k _ _ h1,h2,λv hv=>(h3 v hv).keep k⟩
theorem Same.tk{H H':Hp}(s:Same H H'):E6 H H':=λb xs e=>s _ _ e
theorem Nz{v:V}{vl:Addr}{xs:List V}(hg:GoodV 4 H v)(hv:H vl=some (.tup xs))(hx:∀ z∈xs,QV z)(q:Q (.bl (decide (v∈xs))) H):QM K v (.ref vl) H Q:=by
 have fx:xs.all FE=true:=List.all_eq_true.mpr λz hz=>by rcases hx z hz with rfl | ⟨i,rfl⟩<;>rfl
 have flat:FE v=true->QM K v (.ref vl) H Q:=λhf=>.inl ⟨vl,xs,rfl,.inr (SqT.of hv),hf,fx,by
  show Q (.bl (GY v xs)) H
  rw[Ny hx hg hf];exact q⟩
 cases v with
 | ref t =>
  obtain⟨ys,e,_⟩:=hg
  have:decide ((V.ref t)∈xs)=false:=decide_eq_false λhm=>by rcases hx _ hm with z | ⟨i,z⟩<;>cases z
  rw[this]at q
  exact .inr ⟨t,ys,vl,xs,rfl,SqT.of e,rfl,SqT.of hv,hx,q⟩
 | int i=>exact flat rfl
 | non=>exact flat rfl
 | str z=>exact flat rfl
 | _=>exact hg.elim
theorem Pb(h:GM K a vs H Q E):U9 K a (λ_=>E) (A9 Q) (A7 ["hold","places","values","k","place"] vs) H:=by
 obtain⟨A,w,rows,n,cs,outs,pl,vl,ts,xs,f,m,rfl,T,TP,B,hp,hm,hm2,hv,hx,hf,q,qe⟩:=h
 obtain⟨dx,ho⟩:=B.bk.ob
 push_cast[U9,↓Bj]
 refine⟨⟨_,SqL.of hp⟩,Z4 (xs:=ts.map V.ref) (λi σ H'=>(Same H H'/\∀ j<i,f j=false)/\∃ x y,σ=[some (.ref A.b),some (.ref pl),some (.ref vl),x,y]) ⟨⟨Same.refl _,λj hj=>absurd hj (Nat.not_lt_zero _)⟩,_,_,rfl⟩ (λi σ H' _ ⟨⟨s,_⟩,_⟩=>SqL.of (s _ _ hp)) (λi x σ H' t hx' ⟨⟨s,lo⟩,x0,y0,ez⟩ ht=> ?_) (λσ H' ⟨⟨s,lo⟩,x0,y0,ez⟩=> ?_)⟩
 ·subst ez
  rw[List.getElem?_map]at hx'
  cases et:ts[i]? with
  | none=>rw[et]at hx';cases hx'
  | some tt =>
   rw[et]at hx'
   cases hx'
   obtain⟨bi,bj,v,e1,on,ev,gv,ef⟩:=hf i tt et
   have s2:=s.trans (AV (o:=.tup [.int (i:Int),.ref tt]) ht)
   push_cast[]
   refine⟨_,SqT.of AJ,rfl,_,_,rfl,_,_,rfl,rfl,?_⟩
   revert s2
   generalize upd H' t (.tup [.int (i:Int),.ref tt])=H2
   intro s2
   push_cast[↓Bh,↓Bg]
   refine⟨_,_,s2 _ _ ho,DM (by decide +kernel),A,w,rows,n,cs,outs,tt,bi,bj,rfl,T,TP,B.same s2,s2 _ _ e1,λ_ v' H3 ev' s3=> ?_,λz=>absurd on z⟩
   rw[ev]at ev'
   cases ev'
   have s4:=s2.trans s3
   refine Nz (gv.keep s4.tk) (s4 _ _ hv) hx ?_
   rw[<-ef]
   push_cast[]
   cases hfi:f i with
   | true=>exact q i (Nx (by have:=(List.getElem?_eq_some_iff.mp et).1;omega) hfi lo) _ s4
   | false=>exact⟨s4,λj hj=>by
     rcases Nat.lt_or_ge j i with z | z
     ·exact lo j z
     ·rw[show j=i by omega];exact hfi⟩
 ·subst ez
  push_cast[↓Bk]
  rw[List.length_map,hm]at lo
  exact⟨by decide,qe (jU lo) _ s⟩
theorem Pc(h:GM K a vs H Q E):vs.length=3:=by
 obtain⟨_,_,_,_,_,_,_,_,_,_,_,_,rfl,_⟩:=h
 rfl
theorem V5{m w:Nat}{B:Nat->Int}{te:TE}{cap:List Nat}{σ:St}{H:Hp}{Q:VK}(hm:m<=1000)(ht:∀ i H' Q',i<m->Same H H'->FJ (B i) (i % w:Nat) Q' H'->te (some (.int (0+(i:Int)))::C1 cap σ) H' Q')
  (q:∀ (ts:List Addr) (H':Hp) (l:Addr),ts.length=m->Same H H'->(∀ k t,ts[k]? =some t->H' t=some (.tup [.int (B k),.int (k % w:Nat)]))->H' l=some (.lst (ts.map V.ref))->Q (.ref l) H'):EG (FT 0 m) (AR 0) CM te 1 cap σ H Q:=by
 refine NB (BV m (by omega)) (λi ys H'=>Same H H'/\∃ ts:List Addr,ys=ts.map V.ref/\ts.length=i/\∀ k t,ts[k]? =some t->H' t=some (.tup [.int (B k),.int (k % w:Nat)])) ⟨Same.refl _,[],rfl,rfl,λk t h=>by simp at h⟩ (λi ys H' hi hl ⟨s,ts,e,el,h⟩=> ?_) λys H' hl ⟨s,ts,e,el,h⟩ l hl'=> ?_
 ·refine ht i H' _ hi s λt htn=> ?_
  have st:=AV (o:=.tup [.int (B i),.int (i % w:Nat)]) htn
  refine⟨s.trans st,ts++[t],by rw[e,List.map_append];rfl,by simp[el],λk t' hk=> ?_⟩
  rcases Nat.lt_or_ge k ts.length with z | z
  ·rw[List.getElem?_append_left z]at hk
   exact st _ _ (h k t' hk)
  ·rw[List.getElem?_append_right z]at hk
   have hk0:k - ts.length=0:=by
    rcases Nat.eq_zero_or_pos (k - ts.length)with z | z
    ·exact z
    ·rw[List.getElem?_eq_none (by simp;omega)]at hk;cases hk
   rw[hk0]at hk
   cases hk
   have:k=i:=by omega
   subst this
   exact AJ
 ·subst e
  have st:=AV (o:=.lst (ts.map V.ref)) hl'
  exact q ts _ l (by simpa using hl) (s.trans st) (λk t hk=>st _ _ (h k t hk)) AJ
theorem jV{rows:List (List V)}{w i j:Nat}(hw:∀ r∈rows,r.length=w)(hi:i<rows.length)(hj:j<w)(cs:List Ch):∃ v,DV cs rows i j=some v:=by
 unfold DV
 cases e:EB cs i j with
 | some k =>
  have:=QS e
  exact⟨_,by show(cs[k]?).map _=_;rw[List.getElem?_eq_getElem this];rfl⟩
 | none =>
  have er:=List.getElem?_eq_getElem hi
  have hl:=hw _ (List.mem_of_getElem? er)
  exact⟨rows[i][j],by show(rows[(i:Int).toNat]?).bind (λr=>r[(j:Int).toNat]?)=_;rw[Int.toNat_natCast,Int.toNat_natCast,er];exact List.getElem?_eq_getElem (by omega)⟩
theorem Pd{n r c w kind k:Nat}(hk:kind<3)(h:k<A5 n r c w kind):BH n r c w kind k<n+r+c+r+c:=by
 unfold A5 at h
 unfold BH
 have hd:k / w<(if kind=0 then n else if kind=1 then r else if kind=2 then c else if kind=3 then r else c):=Nat.div_lt_of_lt_mul (by rw[Nat.mul_comm];exact h)
 rcases(by omega:kind=0\/kind=1\/kind=2)with z | z | z<;>subst z<;>simp at hd ⊢ <;>omega
theorem jW{n r c w kind k:Nat}(h:k<A5 n r c w kind):1<=w:=by
 unfold A5 at h
 rcases Nat.eq_zero_or_pos w with z | z
 ·rw[z,Nat.mul_zero]at h;omega
 ·exact z
theorem Q3{n r c w kind:Nat}(h1:n<=6)(h2:r<=6)(h3:c<=6)(h4:w<=6):A5 n r c w kind<=36:=by
 unfold A5
 have h:(if kind=0 then n else if kind=1 then r else if kind=2 then c else if kind=3 then r else c)<=6:=by
  split<;>(try split)<;>(try split)<;>(try split)<;>omega
 exact Nat.mul_le_mul h h4
def KQ(kind:Nat):List V:=if kind=0 then [.non]else [.non,.int 0]
theorem Pg(kind:Nat)(v:V):decide (v∈KQ kind)=G4 kind v:=by
 unfold KQ G4
 by_cases h:kind=0
 ·subst h;simp
 ·rw[if_neg h];simp[Nat.pos_of_ne_zero h]
theorem V6{kind:Nat}{A:BA}{n r c w:Nat}{rows:List (List V)}{nn:Nat}{cs:List Ch}{outs:Int->Bool}{ts:List Addr}{l:Addr}{H':Hp}(hk:kind<3)(T:TB K a)(TP:D1 K a)(s:Same H H')(B:E5 a H A w rows nn cs outs)(hM:rows.length=n+r+c+r+c)(h1:n<=6)(h2:r<=6)(h3:c<=6)(h4:w<=6)
  (gh:∀ i j v,DV cs rows i j=some v->GoodV 4 H v) (hts:ts.length=A5 n r c w kind) (ht:∀ k t,ts[k]? =some t->H' t=some (.tup [.int (BH n r c w kind k:Nat),.int (k % w:Nat)])) (el:H' l=some (.lst (ts.map V.ref)))
  (q:∀ k:Nat,DE (HS cs rows n r c w kind) (A5 n r c w kind)=k->∀ H',Same H H'->Q (.int k) H') (qe:DE (HS cs rows n r c w kind) (A5 n r c w kind)= -1->∀ H',Same H H'->E (.ref (a "NoRoom")) none H') :
  ∀ u,H' u=none->GM K a [.ref A.b,.ref l,.ref u] (upd H' u (.tup (KQ kind))) Q E:=λu hu=>by
 have su:=AV (o:=.tup (KQ kind)) hu
 have s2:=s.trans su
 refine⟨A,w,rows,nn,cs,outs,l,u,ts,KQ kind,HS cs rows n r c w kind,A5 n r c w kind,rfl,T,TP,B.same s2,su _ _ el,hts,by have:=Q3 (kind:=kind) h1 h2 h3 h4;omega,AJ,λz hz=> ?_,λk t hkt=> ?_,λk hk' H3 s3=>q k hk' H3 (s2.trans s3),λhk' H3 s3=>qe hk' H3 (s2.trans s3)⟩
 ·unfold KQ at hz
  split at hz<;>simp at hz
  ·exact .inl hz
  ·rcases hz with z | z
   ·exact .inl z
   ·exact .inr ⟨0,z⟩
 ·have hlt:k<A5 n r c w kind:=by have:=(List.getElem?_eq_some_iff.mp hkt).1;omega
  have hb:=Pd hk hlt
  have hw:=jW hlt
  have hj:k % w<w:=Nat.mod_lt _ (by omega)
  obtain⟨v,ev⟩:=jV (λr' hr'=>B.pk.wd r' hr') (show BH n r c w kind k<rows.length by omega) hj cs
  refine⟨_,_,v,su _ _ (ht k t hkt),⟨by omega,by omega,by omega,by omega⟩,ev,(gh _ _ _ ev).keep s2.tk,?_⟩
  unfold HS
  rw[ev,Pg]
theorem Ph(h:IS K a vs H Q E):VE K a (λ_=>E) (A9 Q) (A7 ["layout","hold","places"] vs) H:=by
 obtain⟨p,b,rfl,A,n,r,c,w,rows,nn,cs,outs,rfl,T,TP,TL,L,h1,h2,h3,h4,B,hM,gh,q,qe⟩:=h
 obtain⟨dx,e⟩:=L.ob
 push_cast[VE,↓Bx,↓By]
 refine⟨_,_,e,CA (by decide +kernel),p,n,r,c,w,rfl,TL,L,λt ht=> ?_⟩
 have s1:=AV (o:=.tup [V.int ((n:Int) * w),V.int ((r:Int) * w),V.int ((c:Int) * w)]) ht
 refine DD AJ (n:=0) rfl rfl ?_
 revert s1
 generalize upd H t (.tup [V.int ((n:Int) * w),V.int ((r:Int) * w),V.int ((c:Int) * w)])=H1
 intro s1
 have hk:=Q3 (kind:=0) h1 h2 h3 h4
 have em:(n:Int) * w=(A5 n r c w 0:Nat):=by unfold A5;simp
 rw[em]
 push_cast[]
 refine⟨by omega,by omega,V5 (B:=λk=>(BH n r c w 0 k:Nat)) (w:=w) (by omega) (λi H' Q' hi s' q'=> ?_) λts H' l hts s' htt el=> ?_⟩
 ·push_cast[C1]
  refine⟨_,_,s' _ _ (s1 _ _ e),CA (by decide +kernel),p,n,r,c,w,i,(by simp),TL,(L.same s1).same s',?_⟩
  unfold BH at q'
  simpa using q'
 ·push_cast[]
  exact⟨by decide,V6 (kind:=0) (by decide) T TP (s1.trans s') B hM h1 h2 h3 h4 gh hts htt el q qe⟩
theorem Pj(h:IS K a vs H Q E):vs.length=2:=by
 obtain⟨_,_,rfl,_⟩:=h
 rfl
theorem Pk(h:NR K a vs H Q E):VF K a (λ_=>E) (A9 Q) (A7 ["layout","hold","marks"] vs) H:=by
 obtain⟨p,b,rfl,A,n,r,c,w,rows,nn,cs,outs,rfl,T,TP,TL,L,h1,h2,h3,h4,B,hM,gh,q,qe⟩:=h
 obtain⟨dx,e⟩:=L.ob
 push_cast[VF,↓Bz,↓Cb]
 refine⟨_,_,e,CA (by decide +kernel),p,n,r,c,w,rfl,TL,L,λt ht=> ?_⟩
 have s1:=AV (o:=.tup [V.int ((n:Int) * w),V.int ((r:Int) * w),V.int ((c:Int) * w)]) ht
 refine DD AJ (n:=1) rfl rfl ?_
 revert s1
 generalize upd H t (.tup [V.int ((n:Int) * w),V.int ((r:Int) * w),V.int ((c:Int) * w)])=H1
 intro s1
 have hk:=Q3 (kind:=1) h1 h2 h3 h4
 have em:(r:Int) * w=(A5 n r c w 1:Nat):=by unfold A5;simp
 rw[em]
 push_cast[]
 refine⟨by omega,by omega,V5 (B:=λk=>(BH n r c w 1 k:Nat)) (w:=w) (by omega) (λi H' Q' hi s' q'=> ?_) λts H' l hts s' htt el=> ?_⟩
 ·push_cast[C1]
  refine⟨_,_,s' _ _ (s1 _ _ e),CA (by decide +kernel),p,n,r,c,w,i,(by simp),TL,(L.same s1).same s',?_⟩
  unfold BH at q'
  simpa using q'
 ·push_cast[]
  exact⟨by decide,V6 (kind:=1) (by decide) T TP (s1.trans s') B hM h1 h2 h3 h4 gh hts htt el q qe⟩
theorem Pl(h:NR K a vs H Q E):vs.length=2:=by
 obtain⟨_,_,rfl,_⟩:=h
 rfl
theorem Pm(h:NS K a vs H Q E):VG K a (λ_=>E) (A9 Q) (A7 ["layout","hold","marks"] vs) H:=by
 obtain⟨p,b,rfl,A,n,r,c,w,rows,nn,cs,outs,rfl,T,TP,TL,L,h1,h2,h3,h4,B,hM,gh,q,qe⟩:=h
 obtain⟨dx,e⟩:=L.ob
 push_cast[VG,↓Cc,↓Cd]
 refine⟨_,_,e,CA (by decide +kernel),p,n,r,c,w,rfl,TL,L,λt ht=> ?_⟩
 have s1:=AV (o:=.tup [V.int ((n:Int) * w),V.int ((r:Int) * w),V.int ((c:Int) * w)]) ht
 refine DD AJ (n:=2) rfl rfl ?_
 revert s1
 generalize upd H t (.tup [V.int ((n:Int) * w),V.int ((r:Int) * w),V.int ((c:Int) * w)])=H1
 intro s1
 have hk:=Q3 (kind:=2) h1 h2 h3 h4
 have em:(c:Int) * w=(A5 n r c w 2:Nat):=by unfold A5;simp
 rw[em]
 push_cast[]
 refine⟨by omega,by omega,V5 (B:=λk=>(BH n r c w 2 k:Nat)) (w:=w) (by omega) (λi H' Q' hi s' q'=> ?_) λts H' l hts s' htt el=> ?_⟩
 ·push_cast[C1]
  refine⟨_,_,s' _ _ (s1 _ _ e),CA (by decide +kernel),p,n,r,c,w,i,(by simp),TL,(L.same s1).same s',?_⟩
  unfold BH at q'
  simpa using q'
 ·push_cast[]
  exact⟨by decide,V6 (kind:=2) (by decide) T TP (s1.trans s') B hM h1 h2 h3 h4 gh hts htt el q qe⟩
theorem Pp(h:NS K a vs H Q E):vs.length=2:=by
 obtain⟨_,_,rfl,_⟩:=h
 rfl
theorem Pq{cs:List Ch}{rows:List (List V)}(g:goodH H cs rows){i j:Int}{v:V}(h:DV cs rows i j=some v):GoodV 4 H v:=by
 unfold DV at h
 cases e:EB cs i j with
 | some k =>
  rw[e]at h
  have h:(cs[k]?).map (·.val)=some v:=h
  cases ec:cs[k]? with
  | none=>rw[ec]at h;cases h
  | some c =>
   rw[ec]at h
   cases h
   exact g.2 c (List.mem_of_getElem? ec)
 | none =>
  rw[e]at h
  have h:(rows[i.toNat]?).bind (λr=>r[j.toNat]?)=some v:=h
  cases er:rows[i.toNat]? with
  | none=>rw[er]at h;cases h
  | some r =>
   rw[er]at h
   exact g.1 r (List.mem_of_getElem? er) v (List.mem_of_getElem? h)
theorem goodH.keep{H H':Hp}{cs:List Ch}{rows:List (List V)}(g:goodH H cs rows)(k:E6 H H'):goodH H' cs rows:=⟨λr hr v hv=>(g.1 r hr v hv).keep k,λc hc=>(g.2 c hc).keep k⟩
theorem Pw{cs:List Ch}{rows:List (List V)}{i j:Int}{bi bj:Nat}{v:V}{nd:List Int}:DV (cs++[⟨bi,bj,v,nd⟩]) rows i j=if(bi:Int)=i/\(bj:Int)=j then some v else DV cs rows i j:=by
 unfold DV
 rw[aF]
 by_cases h:(bi:Int)=i/\(bj:Int)=j
 ·rw[if_pos h,if_pos h]
  simp
 ·rw[if_neg h,if_neg h]
  cases e:EB cs i j with
  | none=>rfl
  | some k =>
   show((cs++[_])[k]?).map _=(cs[k]?).map _
   rw[List.getElem?_append_left (QS e)]
theorem JC{G:Addr->Prop}{H H':Hp}(s:SameBut G H H')(g:∀ x,G x->EI (H x)):E6 H H':=λb xs e=>s _ _ e λz=>(g _ z).1 _ e
theorem jX{z:Str}{i:Int}{n:Nat}{c:Nat}{Q:VK}(hi:i=n)(hL:z.cps.toList.length<=1000)(hc:z.cps.toList[n]? =some c)(q:Q (.str ⟨#[c]⟩) H):BE K (.str z) (.int i) H Q:=by
 subst hi
 exact .inr (.inr ⟨z,n,c,rfl,rfl,Nat.le_trans (by simpa [Str.length]using hL) (BV _ (by omega)),PF hc,q⟩)
theorem Px{c:Nat}:[c]<(Str.ofString " ").cps.toList↔c<32:=by
 rw[show(Str.ofString " ").cps.toList=[32] by decide +kernel,List.cons_lt_cons_iff]
 simp
theorem Py{c:Nat}:(Str.ofString "~").cps.toList<[c]↔126<c:=by
 rw[show(Str.ofString "~").cps.toList=[126] by decide +kernel,List.cons_lt_cons_iff]
 simp
theorem Pz{c:Nat}:[c]<(Str.ofString "a").cps.toList↔c<97:=by
 rw[show(Str.ofString "a").cps.toList=[97] by decide +kernel,List.cons_lt_cons_iff]
 simp
theorem Qb{c:Nat}:(Str.ofString "z").cps.toList<[c]↔122<c:=by
 rw[show(Str.ofString "z").cps.toList=[122] by decide +kernel,List.cons_lt_cons_iff]
 simp
theorem Qc(h:NU K a vs H Q E):TW K a (λ_=>E) (A9 Q) (A7 ["sign"] vs) H:=by
 obtain⟨c,rfl,q⟩:=h
 push_cast[TW,↓wX,Px,Py]
 unfold IT at q
 split
 ·rename_i h1
  split
  ·rename_i h2
   rw[show decide (32<=c)=true from decide_eq_true (by omega),show decide (c<=126)=true from decide_eq_true (by omega)]at q
   refine⟨rfl,?_⟩
   have e:(!decide (((#[c].getD 0 0:Nat):Int)=37))=decide (c≠37):=by
    rw[show(#[c]:Array Nat).getD 0 0=c from rfl,<-decide_not]
    exact decide_eq_decide.mpr (by omega)
   rw[e]
   simpa using q
  ·rename_i h2
   rw[show decide (c<=126)=false from decide_eq_false (by omega)]at q
   simpa using q
 ·rename_i h1
  rw[show decide (32<=c)=false from decide_eq_false (by omega)]at q
  simpa using q
theorem jY{z:Str}{f:Nat->Bool}{te:TE}{Q:VK}(hz:z.length<=1000)(ht:∀ c (Q':VK),Q' (.bl (f c)) H->te [some (.str ⟨#[c]⟩)] H Q')(q:∀ H',Same H H'->Q (.bl (z.cps.toList.all f)) H') :
  EG (NC z) (AR 0) CM te 1 [] [some (.str z)] H λx H1=>ND K [x] H1 Q:=by
 have hs:z.cps.size=z.length:=rfl
 refine uE (BV _ (by omega)) (λi ys H'=>H'=H/\ys=(z.cps.toList.take i).map λc=>V.bl (f c)) ⟨rfl,by simp⟩ (λi c ys H' hc hl ⟨e1,e2⟩=> ?_) (λys H' hl ⟨e1,e2⟩ p hp=> ?_)
 ·subst e1
  refine ht c _ ⟨rfl,?_⟩
  have hc':z.cps.toList[i]? =some c:=by simpa using hc
  rw[List.take_add_one,hc',e2]
  simp
 ·subst e1
  have e3:ys=(z.cps.toList.map f).map V.bl:=by
   rw[e2,List.map_map,List.take_of_length_le (by simp)];rfl
  refine⟨p,z.cps.toList.map f,rfl,by rw[<-e3];exact SqL.of AJ,?_⟩
  have:=q _ (AV (o:=.lst ys) hp)
  rw[List.all_map]
  exact this
theorem Qd(h:NV K a vs H Q E):TY K a (λ_=>E) (A9 Q) (A7 ["thing"] vs) H:=by
 obtain⟨z,rfl,hz,q⟩:=h
 push_cast[TY,↓wY]
 unfold BI at q
 refine⟨z.length,⟨BV _ (by omega),rfl⟩,?_⟩
 split
 ·rename_i h1
  rw[show decide (1<=z.length)=true from decide_eq_true (by omega),Bool.true_and]at q
  by_cases h2:z.length<=8
  ·rw[show decide (z.length<=8)=true from decide_eq_true h2,Bool.true_and]at q
   rw[if_pos (by omega)]
   refine jY hz (λc Q' q'=> ?_) q
   push_cast[Pz,Qb]
   unfold NT at q'
   split
   ·rename_i h3
    rw[show decide (97<=c)=true from decide_eq_true (by omega),Bool.true_and]at q'
    rw[show(!decide (122<c))=decide (c<=122) by rw[<-decide_not];exact decide_eq_decide.mpr (by omega)]
    exact q'
   ·rename_i h3
    rw[show decide (97<=c)=false from decide_eq_false (by omega),Bool.false_and]at q'
    exact q'
  ·rw[show decide (z.length<=8)=false from decide_eq_false h2,Bool.false_and]at q
   rw[if_neg (by omega)]
   exact q _ (Same.refl _)
 ·rename_i h1
  rw[show decide (1<=z.length)=false from decide_eq_false (by omega),Bool.false_and,Bool.false_and]at q
  exact q _ (Same.refl _)
theorem Qg(h:NW K a vs H Q E):UK K a (λ_=>E) (A9 Q) (A7 ["thing"] vs) H:=by
 obtain⟨z,rfl,hz,q⟩:=h
 push_cast[UK,↓y8]
 unfold G5 at q
 refine⟨z.length,⟨BV _ (by omega),rfl⟩,?_⟩
 split
 ·rename_i h1
  rw[show decide (1<=z.length)=true from decide_eq_true (by omega),Bool.true_and]at q
  by_cases h2:z.length<=40
  ·rw[show decide (z.length<=40)=true from decide_eq_true h2,Bool.true_and]at q
   rw[if_pos (by omega)]
   refine jY hz (λc Q' q'=> ?_) q
   push_cast[]
   exact⟨c,rfl,q'⟩
  ·rw[show decide (z.length<=40)=false from decide_eq_false h2,Bool.false_and]at q
   rw[if_neg (by omega)]
   exact q _ (Same.refl _)
 ·rename_i h1
  rw[show decide (1<=z.length)=false from decide_eq_false (by omega),Bool.false_and,Bool.false_and]at q
  exact q _ (Same.refl _)
theorem Qh(h:NV K a vs H Q E):vs.length=1:=by
 obtain⟨_,rfl,_⟩:=h
 rfl
theorem Qj(h:NU K a vs H Q E):vs.length=1:=by
 obtain⟨_,rfl,_⟩:=h
 rfl
theorem Qk(h:NW K a vs H Q E):vs.length=1:=by
 obtain⟨_,rfl,_⟩:=h
 rfl
theorem jZ(x y:Str):(x++y).length=x.length+y.length:=PySem.strLen_append x y
theorem OF(x:Int){n:Nat}(h:1<=n):∃ b:Nat,x % (n:Int)=b/\b<n :=
  ⟨(x % (n:Int)).toNat,by have:=Int.emod_nonneg x (show(n:Int)≠0 by omega);omega,by
    have:=Int.emod_lt_of_pos x (show(0:Int)<n by omega)
    have:=Int.emod_nonneg x (show(n:Int)≠0 by omega);omega⟩
theorem Ql{z:Str}{i:Int}{n:Nat}{Q:VK}(hi:i=n)(hn:n<z.length)(hz:z.length<=1000)(q:∀ c,Q (.str ⟨#[c]⟩) H):BE K (.str z) (.int i) H Q:=by
 subst hi
 have hn':n<z.cps.toList.length:=by simpa [Str.length]using hn
 exact .inr (.inr ⟨z,n,z.cps.toList[n],rfl,rfl,BV _ (by omega),PF (List.getElem?_eq_getElem hn'),q _⟩)
section
variable{lp b tk:Addr}
theorem F6:(sf lp b tk).lookup ("plan":Str)=some (V.ref lp):=by simp[sf]
theorem GP:(sf lp b tk).lookup ("book":Str)=some (V.ref b):=by
 simp[sf,List.lookup_cons,CN (a:="book") (b:="plan") (by decide +kernel)]
theorem V7:(sf lp b tk).lookup ("taken_out":Str)=some (V.ref tk):=by
 simp[sf,List.lookup_cons,CN (a:="taken_out") (b:="plan") (by decide +kernel),CN (a:="taken_out") (b:="book") (by decide +kernel)]
theorem BW{x:Str}(h:(EH x "plan" || EH x "book" || EH x "taken_out")=false):(sf lp b tk).lookup x=none:=by
 simp only[Bool.or_eq_false_iff]at h
 obtain⟨⟨h1,h2⟩,h3⟩:=h
 simp[sf,List.lookup_cons,CN h1,CN h2,CN h3]
theorem Qm:A6 "taken_out" (.ref tk) (A6 "book" (.ref b) (A6 "plan" (.ref lp) []))=sf lp b tk:=by
 repeat (first | rw[KN] | rw[KM (by decide +kernel)])
 rfl
end
theorem Qp{w k k':Nat}(h1:k / w=k' / w)(h2:k % w=k' % w):k=k':=by
 rw[<-Nat.div_add_mod k w,<-Nat.div_add_mod k' w,h1,h2]
theorem Qq{f:Nat->Bool}{m k:Nat}(h:DE f m=k):k<m:=by
 unfold DE at h
 cases e:(List.range m).find? f with
 | none=>rw[e]at h;simp at h
 | some k' =>
  rw[e]at h
  have:=List.mem_range.mp (List.mem_of_find?_eq_some e)
  simp at h
  omega
theorem V8{z:Str}(h:BI z=true):PyData.strOk z=true:=by
 unfold BI at h
 rw[Bool.and_eq_true]at h
 have h:=h.2
 unfold PyData.strOk
 rw[<-Array.all_toList]
 rw[List.all_eq_true]at h ⊢
 intro c hc
 have:=h c hc
 simp only[NT,Bool.and_eq_true,decide_eq_true_eq]at this ⊢
 omega
theorem RepC.keep{H H':Hp}(k:E6 H H'):∀ {x:CV} {v:V},RepC H x v->RepC H' x v
 | .no,_,h=>h
 | .nm _ _,_,⟨t,e,et⟩=>⟨t,e,k _ _ et⟩
 | .mk _,_,h=>h
 | .rc _ _,_,⟨t,u,e,et,eu⟩=>⟨t,u,e,k _ _ et,k _ _ eu⟩
 | .tx _,_,h=>h
theorem SM.same{H H':Hp}{S:SA}{n r c w:Nat}{rows:List (List V)}{nn:Nat}{cs:List Ch}{outs:Int->Bool}{tks:List (AS × V)}{M:Md}(I:SM a H S n r c w rows nn cs outs tks M)(s:Same H H'):SM a H' S n r c w rows nn cs outs tks M:=by
 obtain⟨⟨dx,e1⟩,e2,e3,e4,e5,e6,e7,e8,e9,e10,e11⟩:=I
 exact⟨⟨dx,s _ _ e1⟩,e2.same s,e3.same s,s _ _ e4,e5,e6,e7,e8,e9.keep s.tk,λkind k v h1 h2 hv=>(e10 kind k v h1 h2 hv).keep s.tk,e11⟩
theorem BookAt.ins1{C:Addr}{H H':Hp}{A:BA}{w:Nat}{rows:List (List V)}{n:Nat}{cs:List Ch}{outs:Int->Bool}{x C' dx:Addr}{fs:List (Str × V)}(B:BookAt a C H A w rows n cs outs)(s:SameBut (· =x) H H')(hx:H x=some (.ins C' dx fs))(hf:fs.length<=2):BookAt a C H' A w rows n cs outs:=by
 obtain⟨⟨⟨d1,e1⟩,⟨chs,e2,e3⟩,e4,e5,e6,⟨kvs,e7,e8⟩,⟨kvo,e9,e10⟩,r1,r2,r3,r4,r5⟩,⟨⟨d2,f1⟩,⟨ts,f2,f3⟩,f4,f5,f6⟩,nb⟩:=B
 have o:∀ {y:Addr} {o:HO},H y=some o->(∀ C'' d'' ,o≠.ins C'' d'' fs)->H' y=some o:=λe h=>s _ _ e (CG e hx (h _ _))
 have oi:∀ {y:Addr} {C'' d'':Addr} {gs:List (Str × V)},H y=some (.ins C'' d'' gs)->2<gs.length->H' y=some (.ins C'' d'' gs):=λe h=>o e λ_ _ z=>by injection z with _ _ z;rw[z]at h;omega
 have ol:∀ {y:Addr} {o':HO},H y=some o'->(∀ C'' d'' gs,o'≠.ins C'' d'' gs)->H' y=some o':=λe h=>o e λ_ _=>h _ _ _
 exact⟨⟨⟨d1,oi e1 (by simp[bf])⟩,⟨chs,ol e2 (by intros;simp),Paired.mapP e3 λy c ⟨d,pl,nt,g1,g2,g3⟩=>⟨d,pl,nt,oi g1 (by simp[GK]),ol g2 (by intros;simp),ol g3 (by intros;simp)⟩⟩,ol e4 (by intros;simp),λi l h=>ol (e5 i l h) (by intros;simp),e6,⟨kvs,ol e7 (by intros;simp),e8⟩,⟨kvo,ol e9 (by intros;simp),e10⟩,r1,r2,r3,r4,r5⟩,⟨⟨d2,oi f1 (by simp[pf])⟩,⟨ts,ol f2 (by intros;simp),Paired.mapP f3 λt r z=>ol z (by intros;simp)⟩,f4,f5,f6⟩,nb⟩
theorem Qv(h:NX K a vs H Q E):U8 K a (λ_=>E) (A9 Q) (A7 ["self","layout","plank"] vs) H:=by
 obtain⟨x,dx,lp,gp,cl,n,r,c,w,rows,nn,M,rfl,⟨T,TP,TL,TS⟩,hx,L,P,sz,g,hrp,hok,q⟩:=h
 push_cast[U8,↓Bb,↓Bc,↓Bd]
 refine⟨_,_,_,hx,TS.cl,TS.n1,by decide,?_⟩
 have e1:upd H x (.ins (a "Store") dx (A6 "plan" (.ref lp) [])) x=some (.ins (a "Store") dx (A6 "plan" (.ref lp) [])):=AJ
 have s1:SameBut (· =x) H (upd H x (.ins (a "Store") dx (A6 "plan" (.ref lp) []))):=λy o e n=>by rw[AM n];exact e
 revert e1 s1
 generalize upd H x (.ins (a "Store") dx (A6 "plan" (.ref lp) []))=H1
 intro e1 s1
 have P1:PlankAt a H1 gp cl w rows nn:=by
  obtain⟨⟨dx',f1⟩,⟨ts,f2,f3⟩,r1,r2,r3⟩:=P
  exact⟨⟨dx',s1 _ _ f1 (CG f1 hx (QR (by simp[pf])))⟩,⟨ts,s1 _ _ f2 (CG f2 hx (by intro z;cases z)),Paired.mapP f3 λt r z=>s1 _ _ z (CG z hx (by intro z;cases z))⟩,r1,r2,r3⟩
 have ncl:cl≠x:=by obtain⟨ts,z,_⟩:=P.ls;exact CG z hx (by intro z;cases z)
 refine Mb T TP P1 λA H2 eg ec off B s2=> ?_
 have hx2:=s2 _ _ e1
 refine⟨_,_,_,hx2,TS.cl,TS.n2,ED (n:=999) (by decide),λp hp=> ?_⟩
 have np:x≠p:=BM AJ hp
 rw[AM np.symm]at hp
 refine⟨_,_,_,by rw[AM np,AJ],TS.cl,TS.n3,ED (n:=999) (ED (n:=998) (by decide)),?_⟩
 rw[Qm]
 have s3:SameBut (· =x) H2 (upd (upd (upd H2 x (.ins (a "Store") dx (A6 "book" (.ref A.b) (A6 "plan" (.ref lp) [])))) p (.dK [])) x (.ins (a "Store") dx (sf lp A.b p))):=λy o e n=>by
  rw[AM n,AM (BM e hp),AM n];exact e
 have e3:upd (upd (upd H2 x (.ins (a "Store") dx (A6 "book" (.ref A.b) (A6 "plan" (.ref lp) [])))) p (.dK [])) x (.ins (a "Store") dx (sf lp A.b p)) x=some (.ins (a "Store") dx (sf lp A.b p)):=AJ
 have p3:upd (upd (upd H2 x (.ins (a "Store") dx (A6 "book" (.ref A.b) (A6 "plan" (.ref lp) [])))) p (.dK [])) x (.ins (a "Store") dx (sf lp A.b p)) p=some (.dK []):=by rw[AM np.symm,AJ]
 revert s3 e3 p3
 generalize upd (upd (upd H2 x (.ins (a "Store") dx (A6 "book" (.ref A.b) (A6 "plan" (.ref lp) [])))) p (.dK [])) x (.ins (a "Store") dx (sf lp A.b p))=H3
 intro s3 e3 p3
 have B3:=B.ins1 s3 hx2 (Nat.le_trans (MO _ _ _) (by simp))
 have sb:SameBut (· =x) H H3:=(s1.trans (Same.sb s2)).trans s3
 have tk:E6 H H3:=λb xs e=>sb _ _ e (CG e hx (by intro z;cases z))
 have hpH:H p=none:=s1.none (by rw[e1];intro z;cases z) (s2.free hp)
 obtain⟨dl,el⟩:=L.ob
 refine q ⟨A,x,lp,p⟩ H3 rfl rfl eg ec (λy o e=> ?_) hpH ⟨⟨dx,e3⟩,L.sb sb (CG el hx (QR (by simp[lf]))),B3,p3,Nat.le_refl _,λz v h=>by simp[B7]at h,B.off hp,sz,⟨λr hr v hv=>(g r hr v hv).keep tk,λc hc=>by cases hc⟩,λkind k v h1 h2 hv=>(hrp kind k v h1 h2 hv).keep tk,hok⟩ sb
 by_cases hy:y=x
 ·subst hy
  exact(off _ _ e1).imp id id
 ·exact off y o (s1 _ _ e hy)
theorem Qw(h:NX K a vs H Q E):vs.length=3:=by
 obtain⟨_,_,_,_,_,_,_,_,_,_,_,_,rfl,_⟩:=h
 rfl
section
variable{X:SX}{cs:List Ch}{tks:List (AS × V)}{M:Md}
theorem Qx{n r c w kind kind' k k':Nat}(h1:kind<5)(h2:kind'<5)(hk:k<A5 n r c w kind)(hk':k'<A5 n r c w kind')(e1:BH n r c w kind k=BH n r c w kind' k')(e2:k % w=k' % w):kind=kind'/\k=k':=by
 unfold A5 at hk hk'
 unfold BH at e1
 have d1:k / w<(if kind=0 then n else if kind=1 then r else if kind=2 then c else if kind=3 then r else c):=Nat.div_lt_of_lt_mul (by rw[Nat.mul_comm];exact hk)
 have d2:k' / w<(if kind'=0 then n else if kind'=1 then r else if kind'=2 then c else if kind'=3 then r else c):=Nat.div_lt_of_lt_mul (by rw[Nat.mul_comm];exact hk')
 have key:kind=kind'/\k / w=k' / w:=by
  generalize k / w=x at *
  generalize k' / w=y at *
  clear hk hk' e2
  rcases(by omega:kind=0\/kind=1\/kind=2\/kind=3\/kind=4)with z | z | z | z | z<;>rcases(by omega:kind'=0\/kind'=1\/kind'=2\/kind'=3\/kind'=4)with y | y | y | y | y<;>subst z<;>subst y<;>simp at d1 d2 e1 ⊢ <;>omega
 exact⟨key.1,Qp key.2 e2⟩
theorem SM.on(I:X.at a H cs tks M){kind k:Nat}(h1:kind<5)(hk:k<A5 X.n X.r X.c X.w kind):BH X.n X.r X.c X.w kind k<X.rows.length/\k % X.w<X.w:=by
 refine⟨?_,Nat.mod_lt _ (by have:=jW hk;omega)⟩
 rw[I.sz.2.2.2.2]
 unfold A5 at hk
 unfold BH
 have hd:k / X.w<(if kind=0 then X.n else if kind=1 then X.r else if kind=2 then X.c else if kind=3 then X.r else X.c):=Nat.div_lt_of_lt_mul (by rw[Nat.mul_comm];exact hk)
 generalize k / X.w=x at *
 clear hk
 rcases(by omega:kind=0\/kind=1\/kind=2\/kind=3\/kind=4)with z | z | z | z | z<;>subst z<;>simp at hd ⊢ <;>omega
theorem SM.onPl(I:X.at a H cs tks M){kind k:Nat}(h1:kind<5)(hk:k<A5 X.n X.r X.c X.w kind):onPl X.rows X.w (BH X.n X.r X.c X.w kind k:Nat) (k % X.w:Nat):=by
 have:=I.on h1 hk
 exact⟨Int.natCast_nonneg _,by omega,Int.natCast_nonneg _,by omega⟩
theorem SM.val(I:X.at a H cs tks M){kind k:Nat}(h1:kind<5)(hk:k<A5 X.n X.r X.c X.w kind):∃ v,DV cs X.rows (BH X.n X.r X.c X.w kind k:Nat) (k % X.w:Nat)=some v/\RepC H (M kind k) v:=by
 obtain⟨b1,b2⟩:=I.on h1 hk
 obtain⟨v,ev⟩:=jV (λr' hr'=>I.bk.pk.wd r' hr') b1 b2 cs
 exact⟨v,ev,I.rp kind k v h1 hk ev⟩
theorem SM.snoc{H':Hp}{kind k:Nat}{v:V}{x:CV}{nd:List Int}(I:X.at a H cs tks M)(h1:kind<5)(hk:k<A5 X.n X.r X.c X.w kind)(B:E5 a H' X.S.A X.w X.rows X.nn (cs++[⟨BH X.n X.r X.c X.w kind k,k % X.w,v,nd⟩]) X.outs)(s:SameBut X.S.A.F H H')(g:GoodV 4 H' v)(rx:RepC H' x v)(ox:EJ kind x):X.at a H' (cs++[⟨BH X.n X.r X.c X.w kind k,k % X.w,v,nd⟩]) tks (M.put kind k x):=by
 have lo:∀ x,X.S.A.F x->EI (H x):=λx hx=>I.bk.loose hx
 have tk:E6 H H':=JC s lo
 obtain⟨⟨dx,e1⟩,e2,e3,e4,e5,e6,e7,e8,e9,e10,e11⟩:=I
 obtain⟨dl,el⟩:=e2.ob
 refine⟨⟨dx,s _ _ e1 λz=>(lo _ z).2 _ _ _ e1⟩,e2.sb s λz=>(lo _ z).2 _ _ _ el,B,s _ _ e4 e7,by rw[List.length_append];omega,λz v h=> ?_,e7,e8,⟨(e9.keep tk).1,λc hc=> ?_⟩,λkind' k' v' h1' hk' hv=> ?_,λkind' k' h1' hk'=> ?_⟩
 ·obtain⟨k,ek,hk⟩:=e6 z v h
  exact⟨k,ek,by rw[List.length_append];omega⟩
 ·rcases List.mem_append.mp hc with y | y
  ·exact(e9.keep tk).2 c y
  ·rw[List.mem_singleton.mp y];exact g
 ·rw[Pw]at hv
  unfold Md.put
  by_cases hp:kind'=kind/\k'=k
  ·obtain⟨rfl,rfl⟩:=hp
   rw[if_pos ⟨rfl,rfl⟩]at hv ⊢
   cases hv
   exact rx
  ·rw[if_neg λy=>hp (by
    have:=Qx h1 h1' hk hk' (by omega) (by omega)
    exact⟨this.1.symm,this.2.symm⟩)]at hv
   rw[if_neg hp]
   exact(e10 kind' k' v' h1' hk' hv).keep tk
 ·unfold Md.put
  split
  ·rename_i y
   rw[y.1];exact ox
  ·exact e11 kind' k' h1' hk'
theorem F7{kind k:Nat}{v:V}{x:CV}{u nl:Addr}{ns:List Int}(T4:CU K a)(I:X.at a H cs tks M)(h1:kind<5)(hk:k<A5 X.n X.r X.c X.w kind)(hu:H u=some (.tup [.int (BH X.n X.r X.c X.w kind k:Nat),.int (k % X.w:Nat)]))(hn:H nl=some (.lst (ns.map V.int)))(hl:ns.length<=60)(hcs:cs.length<990)(kn:∀ x∈ns,known cs x)(g:GoodV 4 H v)(rx:RepC H x v)(ox:EJ kind x)
  (q:∀ ch H',X.at a H' (cs++[ch]) tks (M.put kind k x)->SameBut X.S.A.F H H'->Q (.int cs.length) H'):C8 K a [.ref X.S.A.b,.ref u,v,.ref nl] H Q E:=by
 obtain⟨T,TP,TL,TS⟩:=T4
 refine⟨X.S.A,X.w,X.rows,X.nn,cs,X.outs,u,nl,v,ns,_,_,rfl,T,TP,I.bk,hu,SqL.of hn,hl,hcs,λ_ _ nd H5 pw mem B5 sb5=> ?_,λy=>absurd (I.onPl h1 hk) y,λ_ ⟨x,hx,hk⟩=>absurd (kn x hx) hk⟩
 rw[Int.toNat_natCast,Int.toNat_natCast]at B5
 have tk:=JC sb5 λx hx=>I.bk.loose hx
 exact q _ H5 (I.snoc h1 hk B5 sb5 (g.keep tk) (rx.keep tk) ox) sb5
end
def NmV(H:Hp)(v:V):Option (Str × Nat)->Prop
 | none=>v=.non
 | some (z,k)=>∃ t,v=.ref t/\H t=some (.tup [.str z,.int k])
theorem NmV.keep{H H':Hp}{v:V}{x:Option (Str × Nat)}(h:NmV H v x)(k:E6 H H'):NmV H' v x:=by
 cases x with
 | none=>exact h
 | some p=>obtain⟨t,e,et⟩:=h;exact⟨t,e,k _ _ et⟩
theorem RepC.nmv{M:Md}{k:Nat}{v:V}(h:RepC H (M 0 k) v)(ok:EJ 0 (M 0 k)):NmV H v (C2 M k):=by
 unfold C2
 cases e:M 0 k with
 | no=>rw[e]at h;exact h
 | nm z r=>rw[e]at h;exact h
 | mk i=>rw[e]at ok;exact ok.elim
 | rc m ps=>rw[e]at ok;exact ok.elim
 | tx z=>rw[e]at ok;exact ok.elim
theorem Qy(h:G6 K a vs H Q E):VA K a (λ_=>E) (A9 Q) (A7 ["self"] vs) H:=by
 obtain⟨X,cs,tks,M,rfl,⟨T,TP,TL,TS⟩,I,q⟩:=h
 obtain⟨S,n,r,c,w,rows,nn,outs⟩:=X
 dsimp only at *
 have I0:(SX.mk S n r c w rows nn outs).at a H cs tks M:=I
 obtain⟨dx,ho⟩:=I.ob
 obtain⟨dl,el⟩:=I.ly.ob
 obtain⟨db,eb⟩:=I.bk.bk.ob
 have hz:=I.sz
 have hkm:n * w<=36:=Nat.mul_le_mul hz.1 hz.2.2.2.1
 push_cast[VA,↓Bl]
 refine⟨_,_,_,ho,TS.cl,TS.n1,_,F6,S.lp,rfl,_,_,el,CA (by decide +kernel),S.lp,n,r,c,w,rfl,TL,I.ly,λt ht=> ?_⟩
 have s1:=AV (o:=.tup [V.int ((n:Int) * w),V.int ((r:Int) * w),V.int ((c:Int) * w)]) ht
 refine DD AJ (n:=0) rfl rfl ?_
 revert s1
 generalize upd H t (.tup [V.int ((n:Int) * w),V.int ((r:Int) * w),V.int ((c:Int) * w)])=H1
 intro s1
 have em:(n:Int) * w=(n * w:Nat):=by simp
 rw[em]
 push_cast[]
 refine⟨by omega,by omega,NB (BV _ (by omega)) (λi ys H'=>Same H H'/\ys.length=i/\∀ k v,ys[k]? =some v->DV cs rows (BH n r c w 0 k:Nat) (k % w:Nat)=some v) ⟨s1,rfl,λk v h=>by simp at h⟩ (λi ys H' hi hl ⟨s,_,al⟩=> ?_) (λys H' hl ⟨s,_,al⟩ p hp=> ?_)⟩
 ·push_cast[C1]
  refine⟨_,_,_,s _ _ ho,TS.cl,TS.n2,_,GP,S.A.b,rfl,_,_,s _ _ eb,DM (by decide +kernel),_,_,_,s _ _ ho,TS.cl,TS.n1,_,F6,S.lp,rfl,_,_,s _ _ el,CA (by decide +kernel),S.lp,n,r,c,w,i,by simp,TL,I.ly.same s,λu hu=> ?_⟩
  have s2:=s.trans (AV (o:=.tup [.int (0+(i:Int) / w),.int ((i:Int) % w)]) hu)
  have hm0:i<A5 n r c w 0:=by simpa [A5]using hi
  refine⟨S.A,w,rows,nn,cs,outs,u,(BH n r c w 0 i:Nat),(i % w:Nat),rfl,T,TP,I.bk.same s2,by rw[AJ];simp[BH],λ_ v H3 ev s3=>⟨s2.trans s3,by simp[hl],λk v' hk=> ?_⟩,λz=>absurd (SM.onPl I0 (kind:=0) (by decide) hm0) z⟩
  rcases Nat.lt_or_ge k ys.length with z | z
  ·rw[List.getElem?_append_left z]at hk;exact al k v' hk
  ·rw[List.getElem?_append_right z]at hk
   have:k=i:=by
    rcases Nat.eq_or_lt_of_le z with y | y
    ·omega
    ·rw[List.getElem?_eq_none (by simp;omega)]at hk;cases hk
   subst this
   rw[hl,Nat.sub_self]at hk
   cases hk
   exact ev
 ·have sp:=AV (o:=.lst ys) hp
  have s3:=s.trans sp
  refine q p ys _ s3 AJ hl λk v hk=> ?_
  have hkl:=(List.getElem?_eq_some_iff.mp hk).1
  exact(I.rp 0 k v (by decide) (by simp[A5];omega) (al k v hk)).keep s3.tk
theorem Qz(h:G6 K a vs H Q E):vs.length=1:=by
 obtain⟨_,_,_,_,rfl,_⟩:=h
 rfl
theorem Rb{M:Md}{m i:Nat}{z:Str}(hi:i<m)(h:(C2 M i).any (λp=>decide (p.1=z))=true)(hl:∀ j<i,(C2 M j).any (λp=>decide (p.1=z))=false):cellOf M m z=some i:=by
 unfold cellOf
 rw[List.find?_eq_some_iff_append]
 refine⟨h,List.range i,(List.range (m - i - 1)).map (i+1+·),?_,λj hj=>by rw[hl j (List.mem_range.mp hj)];rfl⟩
 have e1:m=i+(1+(m - i - 1)):=by omega
 conv=>lhs;rw[e1]
 rw[List.range_add,List.range_add]
 simp[Nat.add_assoc,Function.comp_def]
theorem Rc{M:Md}{m:Nat}{z:Str}(hl:∀ j<m,(C2 M j).any (λp=>decide (p.1=z))=false):cellOf M m z=none:=by
 unfold cellOf
 exact List.find?_eq_none.mpr λj hj=>by rw[hl j (List.mem_range.mp hj)];exact Bool.false_ne_true
theorem Rg(h:G7 K a vs H Q E):VI K a (λ_=>E) (A9 Q) (A7 ["self","name","cell","value"] vs) H:=by
 obtain⟨X,cs,tks,M,z,rfl,T4,I,q⟩:=h
 obtain⟨dx,ho⟩:=I.ob
 push_cast[VI,↓Cl]
 refine⟨_,_,ho,BW (by decide +kernel),X,cs,tks,M,rfl,T4,I,λl xs H1 s1 el hl hx=> ?_⟩
 refine⟨l,rfl,⟨_,SqL.of el⟩,Z4 (xs:=xs) (λi σ H'=>(Same H H'/\Same H1 H'/\∀ j<i,(C2 M j).any (λp=>decide (p.1=z))=false)/\∃ x y,σ=[some (.ref X.S.st),some (.str z),x,y]) ⟨⟨s1,Same.refl _,λj hj=>absurd hj (Nat.not_lt_zero _)⟩,_,_,rfl⟩ (λi σ H' _ ⟨⟨_,s,_⟩,_⟩=>SqL.of (s _ _ el)) (λi x σ H' t hxi ⟨⟨sH,s,lo⟩,y1,y2,ez⟩ ht=> ?_) (λσ H' ⟨⟨sH,s,lo⟩,y1,y2,ez⟩=> ?_)⟩
 ·subst ez
  have hi:=(List.getElem?_eq_some_iff.mp hxi).1
  have s2:=s.trans (AV (o:=.tup [.int (i:Int),x]) ht)
  have sH2:=sH.trans (AV (o:=.tup [.int (i:Int),x]) ht)
  have nx:=((hx i x hxi).nmv (I.ok 0 i (by decide) (by rw[hl]at hi;simpa [A5]using hi))).keep s2.tk
  push_cast[]
  refine⟨_,SqT.of AJ,rfl,_,_,rfl,_,_,rfl,rfl,?_⟩
  revert s2 sH2 nx
  generalize upd H' t (.tup [.int (i:Int),x])=H2
  intro s2 sH2 nx
  have next:(C2 M i).any (λp=>decide (p.1=z))=false->Same H H2/\Same H1 H2/\∀ j<i+1,(C2 M j).any (λp=>decide (p.1=z))=false:=λh=>⟨sH2,s2,λj hj=>by
   rcases Nat.lt_or_ge j i with y | y
   ·exact lo j y
   ·rw[show j=i by omega];exact h⟩
  push_cast[↓Ck,↓Cj]
  cases en:C2 M i with
  | none =>
   rw[en]at nx next
   rw[show x=.non from nx]
   push_cast[]
   exact next rfl
  | some p =>
   rw[en]at nx next
   obtain⟨u,rfl,eu⟩:=nx
   rw[if_pos (by simp)]
   refine DD eu (n:=0) rfl rfl ?_
   push_cast[]
   by_cases hz:p.1=z
   ·rw[if_pos hz]
    have:=q _ sH2
    rw[Rb (i:=i) (by omega) (by rw[en];simpa using hz) lo]at this
    exact this
   ·rw[if_neg hz]
    exact next (by simpa using hz)
 ·subst ez
  push_cast[↓Cm]
  have:=q _ sH
  rw[Rc (by rw[<-hl];exact lo)]at this
  exact this
theorem Rh(h:G7 K a vs H Q E):vs.length=2:=by
 obtain⟨_,_,_,_,_,rfl,_⟩:=h
 rfl
theorem Rj(h:NY K a vs H Q E):VH K a (λ_=>E) (A9 Q) (A7 ["self"] vs) H:=by
 obtain⟨X,cs,tks,M,rfl,T4,I,q⟩:=h
 obtain⟨dx,ho⟩:=I.ob
 have hz:=I.sz
 have hkm:X.m0<=36:=Nat.mul_le_mul hz.1 hz.2.2.2.1
 push_cast[VH,↓Cg]
 refine⟨_,_,ho,BW (by decide +kernel),X,cs,tks,M,rfl,T4,I,λl xs H1 s1 el hl hx=> ?_⟩
 push_cast[]
 refine .inl ⟨⟨_,SqL.of el⟩,vV (xs:=xs) (BV _ (by omega)) (λi σ' ys H'=>H'=H1/\(∃ y0,σ'=[y0])/\ys=(D2 M i).map V.str) ⟨rfl,⟨_,rfl⟩,rfl⟩ (λi σ' ys H' ⟨e,_,ey⟩=>⟨e ▸ SqL.of el,by rw[ey,List.length_map];exact Nat.le_trans (List.length_filterMap_le _ _) (by simp)⟩) (λi x σ' ys H' hi hxi ⟨e,⟨y0,es⟩,ey⟩=> ?_) (λσ' ys H' ⟨e,_,ey⟩ p hp=> ?_)⟩
 ·subst e es
  have nx:=(hx i x hxi).nmv (I.ok 0 i (by decide) (by rw[hl]at hi;simpa [A5]using hi))
  have nxt:D2 M (i+1)=D2 M i++((C2 M i).map (·.1)).toList:=by
   unfold D2
   rw[List.range_succ,List.filterMap_append]
   cases e:C2 M i<;>simp[e]
  push_cast[]
  cases en:C2 M i with
  | none =>
   rw[en]at nx nxt
   rw[show x=.non from nx,if_neg (by simp)]
   exact⟨_,by omega,rfl,by omega,by rw[nxt,ey];simp⟩
  | some p =>
   rw[en]at nx nxt
   obtain⟨u,rfl,eu⟩:=nx
   rw[if_pos (by simp)]
   exact⟨λy H4=>y=.str p.1/\H4=H',λy H4 ⟨e1,e2⟩=>⟨_,by omega,rfl,by omega,e2,by rw[nxt,ey,e1];simp⟩,DD eu (n:=0) rfl rfl ⟨rfl,rfl⟩⟩
 ·subst e
  have sp:=AV (o:=.lst ys) hp
  refine⟨p,D2 M X.m0,rfl,by rw[<-hl,<-ey];exact SqL.of AJ,Nat.lt_of_le_of_lt (List.length_filterMap_le _ _) (by simp;omega),λD ks hD pk hs=> ?_⟩
  exact q D ks _ (s1.free (sp.free hD)) ((s1.trans sp).trans (AV hD)) AJ pk hs
theorem Rk(h:NY K a vs H Q E):vs.length=1:=by
 obtain⟨_,_,_,_,rfl,_⟩:=h
 rfl
theorem Rl(h:IU K a vs H Q E):VN K a (λ_=>E) (A9 Q) (A7 ["self","new","given"] vs) H:=by
 obtain⟨X,cs,tks,M,z,gl,zs,rfl,T4,I,eg,hl,hy,q,q1,q2⟩:=h
 obtain⟨dx,ho⟩:=I.ob
 push_cast[VN,↓Dh]
 refine .inl ⟨⟨_,SqL.of eg⟩,ZA (xs:=zs.map V.str) (BV _ (by rw[List.length_map];omega)) (λi ys H'=>Same H H'/\ys=((zs.take i).map BI).map V.bl) ⟨Same.refl _,rfl⟩ (λi ys H' _ ⟨s,_⟩=>SqL.of (s _ _ eg)) (λi x ys H' hxi hyl ⟨s,ey⟩=> ?_) (λys H' hyl ⟨s,ey⟩ p hp=> ?_)⟩
 ·rw[List.getElem?_map,Option.map_eq_some_iff]at hxi
  obtain⟨x',hx',rfl⟩:=hxi
  push_cast[C1]
  refine⟨x',rfl,hy x' (List.mem_of_getElem? hx'),λH2 s2=>⟨s.trans s2,?_⟩⟩
  rw[List.take_add_one,hx',ey]
  simp
 ·rw[List.length_map,List.take_length]at ey
  have sp:=AV (o:=.lst ys) hp
  have s2:=s.trans sp
  refine⟨p,zs.map BI,rfl,by rw[<-ey];exact SqL.of AJ,?_⟩
  rw[List.all_map,Function.id_comp]
  revert s2
  generalize upd H' p (.lst ys)=H2
  intro s2
  cases hb:zs.all BI with
  | false =>
   push_cast[↓Dg]
   exact⟨by decide,q1 hb _ s2⟩
  | true =>
   push_cast[↓Dk]
   refine⟨_,_,s2 _ _ ho,BW (by decide +kernel),X,cs,tks,M,z,rfl,T4,I.same s2,λH3 s3=> ?_⟩
   have s4:=s2.trans s3
   cases hc:cellOf M X.m0 z with
   | none =>
    push_cast[F3]
    exact q hb hc _ s4
   | some k =>
    push_cast[F3,↓Dj]
    exact⟨by decide,q2 hb ⟨k,hc⟩ _ s4⟩
theorem Rm(h:IU K a vs H Q E):vs.length=3:=by
 obtain⟨_,_,_,_,_,_,_,rfl,_⟩:=h
 rfl
theorem HA{S:SA}{dx db gp mm mi lt ou:Addr}{mth:Str}{P:V->Prop}(TS:QX K a)(ho:H S.st=some (.ins (a "Store") dx (sf S.lp S.A.b S.tk)))(eb:H S.A.b=some (.ins (a "Hold") db (bf gp mm mi lt ou)))(hm:(bf gp mm mi lt ou).lookup mth=none)(p:P (.ref S.A.b)) :
  ∃ x x1 x2,H S.st=some (.ins x x1 x2)/\Cls K x/\NoAttr K x "book"/\∃ v,x2.lookup ("book":Str)=some v/\∃ b,v=.ref b/\∃ y y1,H b=some (.ins (a "Hold") y y1)/\y1.lookup mth=none/\P v:=⟨_,_,_,ho,TS.cl,TS.n2,_,GP,_,rfl,_,_,eb,hm,p⟩
theorem GQ{S:SA}{dx dl:Addr}{n r c w:Int}{mth:Str}{P:V->Prop}(TS:QX K a)(ho:H S.st=some (.ins (a "Store") dx (sf S.lp S.A.b S.tk)))(el:H S.lp=some (.ins (a "Layout") dl (lf n r c w)))(hm:(lf n r c w).lookup mth=none)(p:P (.ref S.lp)) :
  ∃ x x1 x2,H S.st=some (.ins x x1 x2)/\Cls K x/\NoAttr K x "plan"/\∃ v,x2.lookup ("plan":Str)=some v/\∃ b,v=.ref b/\∃ y y1,H b=some (.ins (a "Layout") y y1)/\y1.lookup mth=none/\P v:=⟨_,_,_,ho,TS.cl,TS.n1,_,F6,_,rfl,_,_,el,hm,p⟩
section
variable{p:Addr}{n r c w k:Nat}
theorem Rp(TL:DN K a)(L:LayAt a H p n r c w)(q:FJ (0+k / w) (k % w) Q H):FL K a [.ref p,.int k] H Q E:=⟨p,n,r,c,w,k,rfl,TL,L,q⟩
theorem OG(TL:DN K a)(L:LayAt a H p n r c w)(q:FJ (n+k / w) (k % w) Q H):ES K a [.ref p,.int k] H Q E:=⟨p,n,r,c,w,k,rfl,TL,L,q⟩
theorem Rq(TL:DN K a)(L:LayAt a H p n r c w)(q:FJ (n+r+k / w) (k % w) Q H):HR K a [.ref p,.int k] H Q E:=⟨p,n,r,c,w,k,rfl,TL,L,q⟩
theorem j2(TL:DN K a)(L:LayAt a H p n r c w)(q:FJ (n+r+c+k / w) (k % w) Q H):GL K a [.ref p,.int k] H Q E:=⟨p,n,r,c,w,k,rfl,TL,L,q⟩
theorem Rv(TL:DN K a)(L:LayAt a H p n r c w)(q:FJ (n+r+c+r+k / w) (k % w) Q H):FM K a [.ref p,.int k] H Q E:=⟨p,n,r,c,w,k,rfl,TL,L,q⟩
end
theorem V9{f g:Nat->Bool}:∀ {l:List Nat},(∀ k∈l,f k=g k)->l.find? f=l.find? g
 | [],_=>rfl
 | k::l,h=>by
  rw[List.find?_cons,List.find?_cons,h k List.mem_cons_self,V9 λk' hk'=>h k' (List.mem_cons_of_mem _ hk')]
theorem Rw{f g:Nat->Bool}{m:Nat}(h:∀ k<m,f k=g k):DE f m=DE g m:=by
 unfold DE
 rw[V9 λk hk=>h k (List.mem_range.mp hk)]
section
variable{X:SX}{cs:List Ch}{tks:List (AS × V)}{M:Md}
theorem SM.free(I:X.at a H cs tks M){kind:Nat}(hk:kind<3):DE (HS cs X.rows X.n X.r X.c X.w kind) (A5 X.n X.r X.c X.w kind)=CI M kind (A5 X.n X.r X.c X.w kind):=Rw λk hkm=>by
 obtain⟨v,ev,rv⟩:=I.val (by omega:kind<5) hkm
 have ok:=I.ok kind k (by omega) hkm
 unfold HS
 rw[ev]
 show G4 kind v=B0 kind (M kind k)
 cases e:M kind k with
 | no=>rw[e]at rv;rw[show v=.non from rv];simp[G4,B0]
 | nm z r=>rw[e]at rv;obtain⟨t,rfl,_⟩:=rv;simp[G4,B0]
 | mk i =>
  rw[e]at rv;rw[show v=.int i from rv]
  simp[G4,B0]
 | rc m ps=>rw[e]at rv;obtain⟨t,u,rfl,_⟩:=rv;simp[G4,B0]
 | tx z=>rw[e]at rv;rw[show v=.str z from rv];simp[G4,B0]
theorem j3{m cell:Nat}{z:Str}(h:cellOf M m z=some cell):cell<m/\∃ k,M 0 cell=.nm z k:=by
 unfold cellOf at h
 have h1:=List.mem_range.mp (List.mem_of_find?_eq_some h)
 have h2:=List.find?_some h
 unfold C2 at h2
 refine⟨h1,?_⟩
 cases e:M 0 cell with
 | nm z' k =>
  rw[e]at h2
  simp at h2
  exact⟨k,by rw[h2]⟩
 | _=>rw[e]at h2;simp at h2
theorem Q4{kind:Nat}(T4:CU K a)(I:X.at a H cs tks M)(hk:kind<3)(q:∀ k:Nat,CI M kind (A5 X.n X.r X.c X.w kind)=k->k<A5 X.n X.r X.c X.w kind->∀ H',Same H H'->Q (.int k) H')(qe:CI M kind (A5 X.n X.r X.c X.w kind)= -1->DO a H "NoRoom" E):QW kind K a X.S.lp X.S.A.b H Q E:=by
 obtain⟨T,TP,TL,TS⟩:=T4
 obtain⟨z1,z2,z3,z4,z5⟩:=I.sz
 refine⟨X.S.A,X.n,X.r,X.c,X.w,X.rows,X.nn,cs,X.outs,rfl,T,TP,TL,I.ly,z1,z2,z3,z4,I.bk,z5,λi j v hv=>Pq I.gd hv,λk e H' s=> ?_,λe H' s=> ?_⟩
 ·rw[I.free hk]at e
  exact q k e (Qq e) H' s
 ·rw[I.free hk]at e
  exact qe e H' s
end
theorem Rx(h:D3 K a vs H Q E):VB K a (λ_=>E) (A9 Q) (A7 ["self","record"] vs) H:=by
 obtain⟨X,cs,tks,M,rec,rfl,⟨T,TP,TL,TS⟩,I,hr,q⟩:=h
 obtain⟨dx,ho⟩:=I.ob
 obtain⟨dl,el⟩:=I.ly.ob
 obtain⟨db,eb⟩:=I.bk.bk.ob
 have hm:rec<A5 X.n X.r X.c X.w 3:=by simpa [A5]using hr
 push_cast[VB,↓Bm]
 refine HA TS (ho) (eb) (DM (by decide +kernel)) (GQ TS (ho) (el) (CA (by decide +kernel)) (OG TL (I.ly) λu hu=> ?_))
 have s2:=AV (o:=.tup [.int (X.n+(rec:Int) / X.w),.int ((rec:Int) % X.w)]) hu
 refine⟨X.S.A,X.w,X.rows,X.nn,cs,X.outs,u,(BH X.n X.r X.c X.w 3 rec:Nat),(rec % X.w:Nat),rfl,T,TP,I.bk.same s2,by rw[AJ];simp[BH],λ_ v H3 ev s3=> ?_,λz=>absurd (I.onPl (kind:=3) (by decide) hm) z⟩
 have s4:=s2.trans s3
 exact q v H3 ((I.rp 3 rec v (by decide) hm ev).keep s4.tk) s4
theorem Ry(h:D3 K a vs H Q E):vs.length=2:=by
 obtain⟨_,_,_,_,_,rfl,_⟩:=h
 rfl
theorem Rz(h:EK K a vs H Q E):VO K a (λ_=>E) (A9 Q) (A7 ["self","name","cell"] vs) H:=by
 obtain⟨X,cs,tks,M,z,rfl,T4,I,q,qe⟩:=h
 obtain⟨dx,ho⟩:=I.ob
 push_cast[VO,↓Dl]
 refine⟨_,_,ho,BW (by decide +kernel),X,cs,tks,M,z,rfl,T4,I,λH1 s1=> ?_⟩
 push_cast[↓Dp]
 cases e:cellOf M X.m0 z with
 | none =>
  push_cast[F3,↓Dm]
  exact⟨by decide,qe e _ s1⟩
 | some cell =>
  push_cast[F3,↓Dq]
  obtain⟨hc,k,ek⟩:=j3 e
  refine⟨_,_,s1 _ _ ho,BW (by decide +kernel),X,cs,tks,M,rfl,T4,I.same s1,λl xs H2 s2 el hl hx=> ?_⟩
  have hcl:cell<xs.length:=by rw[hl];exact hc
  have ex:=List.getElem?_eq_getElem hcl
  have rx:=hx cell _ ex
  rw[ek]at rx
  obtain⟨t,et,et2⟩:=rx
  exact C3 (SqL.of el) rfl ex (by rw[et];exact DD et2 (n:=1) rfl rfl (q cell k e hc ek _ (s1.trans s2)))
theorem Sb(h:EK K a vs H Q E):vs.length=2:=by
 obtain⟨_,_,_,_,_,rfl,_⟩:=h
 rfl
theorem j4{X:SX}{cs:List Ch}{tks:List (AS × V)}{M:Md}{cell rec need:Nat}{z:Str}{nl:Addr}{ns:List Int}{H2:Hp}(T4:CU K a)(I:X.at a H cs tks M)(hc:cell<X.m0)(hcs:cs.length<980)(hz:PyData.strOk z=true)(s:Same H H2)(en:H2 nl=some (.lst (ns.map V.int)))(hl:ns.length<=60)(kn:∀ x∈ns,known cs x)
  (q:QY X a H cs tks (M.put 0 cell (.nm z rec)) Q) :
  VC K a (λ_=>E) (λ_=>E) (A9 Q) [some (.ref X.S.st),some (.int cell),some (.str z),some (.int rec),some (.int need),some (.ref nl)] H2:=by
 have T4':=T4
 obtain⟨T,TP,TL,TS⟩:=T4
 obtain⟨dx,ho⟩:=I.ob
 obtain⟨dl,el⟩:=I.ly.ob
 obtain⟨db,eb⟩:=I.bk.bk.ob
 have hm:cell<A5 X.n X.r X.c X.w 0:=by simpa [A5]using hc
 push_cast[↓Bw]
 refine HA TS (s _ _ ho) (s _ _ eb) (DM (by decide +kernel)) (GQ TS (s _ _ ho) (s _ _ el) (CA (by decide +kernel)) (Rp TL (I.ly.same s) λu hu=> ?_))
 have s2:=s.trans (AV (o:=.tup [.int (0+(cell:Int) / X.w),.int ((cell:Int) % X.w)]) hu)
 have eu:upd H2 u (.tup [.int (0+(cell:Int) / X.w),.int ((cell:Int) % X.w)]) u=some (.tup [.int (BH X.n X.r X.c X.w 0 cell:Nat),.int (cell % X.w:Nat)]):=by rw[AJ];simp[BH]
 have en2:=AV (o:=.tup [.int (0+(cell:Int) / X.w),.int ((cell:Int) % X.w)]) hu _ _ en
 revert s2 eu en2
 generalize upd H2 u (.tup [.int (0+(cell:Int) / X.w),.int ((cell:Int) % X.w)])=H3
 intro s2 eu en2
 push_cast[]
 refine⟨by decide,λt ht=> ?_⟩
 have st:=AV (o:=.tup [V.str z,V.int rec]) ht
 have s4:=s2.trans st
 have et:upd H3 t (.tup [V.str z,V.int rec]) t=some (.tup [V.str z,V.int rec]):=AJ
 refine F7 T4' (I.same s4) (kind:=0) (x:=.nm z rec) (by decide) hm (st _ _ eu) (st _ _ en2) hl (by omega) kn ⟨_,et,by simp,λv hv=> ?_⟩ ⟨t,rfl,et⟩ trivial λch H' I' sb=>q ch H' I' λb o e n=>sb _ _ (s4 _ _ e) n
 simp only[List.mem_cons,List.not_mem_nil,or_false]at hv
 rcases hv with rfl | rfl
 ·exact hz
 ·trivial
theorem Sc(h:IV K a vs H Q E):VD K a (λ_=>E) (A9 Q) (A7 ["self","cell","name","record","need","needs"] vs) H:=by
 obtain⟨X,cs,tks,M,cell,rec,need,z,rfl,T4,I,hc,hn,hcs,hz,q⟩:=h
 obtain⟨T,TP,TL,TS⟩:=T4
 obtain⟨dx,ho⟩:=I.ob
 push_cast[VD,↓Bp,↓Bv]
 refine⟨by decide,λnl hnl=> ?_⟩
 have s1:=AV (o:=.lst [V.int need]) hnl
 refine⟨_,_,_,s1 _ _ ho,TS.cl,TS.n3,_,V7,X.S.tk,rfl,_,dS (s1 _ _ I.tk),?_⟩
 have e1:upd H nl (.lst [V.int need]) nl=some (.lst [V.int need]):=AJ
 have kn:known cs (need:Int):=⟨by omega,by omega⟩
 cases hv:B7 tks (.inr z)with
 | none =>
  rw[if_neg (by simp)]
  exact j4 (ns:=[(need:Int)]) ⟨T,TP,TL,TS⟩ I hc hcs hz s1 e1 (by simp) (λx hx=>by rw[List.mem_singleton.mp hx];exact kn) q
 | some v =>
  obtain⟨k,rfl,hk⟩:=I.tv z v hv
  rw[if_pos (by simp)]
  push_cast[↓Bq]
  refine⟨.inl ⟨rfl,_,SqL.of e1⟩,_,_,_,s1 _ _ ho,TS.cl,TS.n3,_,V7,X.S.tk,rfl,_,QH (s1 _ _ I.tk) hv,nl,_,_,rfl,rfl,e1,(by show 1<sizeLine;decide),?_⟩
  rw[GS]
  refine j4 (ns:=[(need:Int),(k:Int)]) ⟨T,TP,TL,TS⟩ I hc hcs hz (AV hnl) AJ (by simp) (λx hx=> ?_) q
  simp only[List.mem_cons,List.not_mem_nil,or_false]at hx
  rcases hx with rfl | rfl
  ·exact kn
  ·exact⟨by omega,by omega⟩
theorem Sd(h:IV K a vs H Q E):vs.length=5:=by
 obtain⟨_,_,_,_,_,_,_,_,rfl,_⟩:=h
 rfl
theorem Sg{n:Nat}{H:Hp}(ps:List Nat):∀ v∈BC ps,GoodV (n+1) H v:=λv hv=>by
 obtain⟨p,_,rfl⟩:=List.mem_map.mp hv
 trivial
theorem WA{H:Hp}{t u:Addr}{m:Nat}{ps:List Nat}(h1:H t=some (.tup [.int m,.ref u]))(h2:H u=some (.tup (BC ps)))(hl:ps.length<=100):GoodV 4 H (.ref t):=⟨_,h1,by simp,λv hv=>by
 simp only[List.mem_cons,List.not_mem_nil,or_false]at hv
 rcases hv with rfl | rfl
 ·trivial
 ·exact⟨_,h2,by simp[BC];exact hl,Sg ps⟩⟩
theorem Sh(h:G8 K a vs H Q E):VJ K a (λ_=>E) (A9 Q) (A7 ["self","record","more","needs","value"] vs) H:=by
 obtain⟨X,cs,tks,M,rec,m,m',more,ps,nl,ns,rfl,T4,I,hr,eM,hm',hps,en,hl,kn,hcs,q⟩:=h
 have T4':=T4
 obtain⟨T,TP,TL,TS⟩:=T4
 obtain⟨dx,ho⟩:=I.ob
 obtain⟨dl,el⟩:=I.ly.ob
 obtain⟨db,eb⟩:=I.bk.bk.ob
 have hm:rec<A5 X.n X.r X.c X.w 3:=by simpa [A5]using hr
 push_cast[VJ,↓Cp]
 refine⟨_,_,ho,BW (by decide +kernel),X,cs,tks,M,rec,rfl,T4',I,hr,λv H1 rv s=> ?_⟩
 rw[eM]at rv
 obtain⟨t0,u0,rfl,et0,eu0⟩:=rv
 push_cast[↓Cq]
 refine HA TS (s _ _ ho) (s _ _ eb) (DM (by decide +kernel)) (GQ TS (s _ _ ho) (s _ _ el) (CA (by decide +kernel)) (OG TL (I.ly.same s) λu hu=> ?_))
 have sa:=AV (o:=.tup [.int (X.n+(rec:Int) / X.w),.int ((rec:Int) % X.w)]) hu
 have eu:upd H1 u (.tup [.int (X.n+(rec:Int) / X.w),.int ((rec:Int) % X.w)]) u=some (.tup [.int (BH X.n X.r X.c X.w 3 rec:Nat),.int (rec % X.w:Nat)]):=by rw[AJ];simp[BH]
 revert sa eu
 generalize upd H1 u (.tup [.int (X.n+(rec:Int) / X.w),.int ((rec:Int) % X.w)])=H2
 intro sa eu
 refine DD (sa _ _ et0) (n:=0) rfl rfl ?_
 push_cast[]
 refine DD (sa _ _ et0) (n:=1) rfl rfl ⟨by decide,λt ht=> ?_⟩
 rw[hm']
 have st:=AV (o:=.tup [V.int m',V.ref u0]) ht
 have s4:=(s.trans sa).trans st
 have e1:upd H2 t (.tup [V.int m',V.ref u0]) t=some (.tup [V.int m',V.ref u0]):=AJ
 have e2:=st _ _ (sa _ _ eu0)
 exact F7 T4' (I.same s4) (kind:=3) (x:=.rc m' ps) (by decide) hm (st _ _ eu) (s4 _ _ en) hl (by omega) kn (WA e1 e2 hps) ⟨t,u0,rfl,e1,e2⟩ trivial λch H' I' sb=>q ch H' I' λb o e n=>sb _ _ (s4 _ _ e) n
theorem Sj(h:G8 K a vs H Q E):vs.length=4:=by
 obtain⟨_,_,_,_,_,_,_,_,_,_,_,rfl,_⟩:=h
 rfl
theorem Sk(h:IW K a vs H Q E):VL K a (λ_=>E) (A9 Q) (A7 ["self","record","pieces","needs"] vs) H:=by
 obtain⟨X,cs,tks,M,rec,m,ps,ps',pl,nl,ns,rfl,T4,I,hr,eM,epl,hps,en,hl,kn,hcs,q⟩:=h
 have T4':=T4
 obtain⟨T,TP,TL,TS⟩:=T4
 obtain⟨dx,ho⟩:=I.ob
 obtain⟨dl,el⟩:=I.ly.ob
 obtain⟨db,eb⟩:=I.bk.bk.ob
 have hm:rec<A5 X.n X.r X.c X.w 3:=by simpa [A5]using hr
 push_cast[VL,↓Cv]
 refine HA TS (ho) (eb) (DM (by decide +kernel)) (GQ TS (ho) (el) (CA (by decide +kernel)) (OG TL (I.ly) λu hu=> ?_))
 have sa:=AV (o:=.tup [.int (X.n+(rec:Int) / X.w),.int ((rec:Int) % X.w)]) hu
 have eu:upd H u (.tup [.int (X.n+(rec:Int) / X.w),.int ((rec:Int) % X.w)]) u=some (.tup [.int (BH X.n X.r X.c X.w 3 rec:Nat),.int (rec % X.w:Nat)]):=by rw[AJ];simp[BH]
 revert sa eu
 generalize upd H u (.tup [.int (X.n+(rec:Int) / X.w),.int ((rec:Int) % X.w)])=H2
 intro sa eu
 push_cast[]
 refine⟨_,_,sa _ _ ho,BW (by decide +kernel),X,cs,tks,M,rec,rfl,T4',I.same sa,hr,λv H3 rv s3=> ?_⟩
 rw[eM]at rv
 obtain⟨t0,u0,rfl,et0,eu0⟩:=rv
 refine DD et0 (n:=0) rfl rfl ?_
 push_cast[]
 refine⟨by decide,λt ht=> ?_⟩
 have st:=AV (o:=.tup [V.int m,V.ref pl]) ht
 have s4:=(sa.trans s3).trans st
 have e1:upd H3 t (.tup [V.int m,V.ref pl]) t=some (.tup [V.int m,V.ref pl]):=AJ
 have e2:=s4 _ _ epl
 exact F7 T4' (I.same s4) (kind:=3) (x:=.rc m ps') (by decide) hm (st _ _ (s3 _ _ eu)) (s4 _ _ en) hl (by omega) kn (WA e1 e2 hps) ⟨t,pl,rfl,e1,e2⟩ trivial λch H' I' sb=>q ch H' I' λb o e n=>sb _ _ (s4 _ _ e) n
theorem Sl(h:IW K a vs H Q E):vs.length=4:=by
 obtain⟨_,_,_,_,_,_,_,_,_,_,_,rfl,_⟩:=h
 rfl
theorem j5{α β γ :Type}{F: α -> β ->Prop}{G: α -> γ ->Prop}{f: β -> γ}:∀ {l:List α} {m:List β},Paired F l m->(∀ x y,F x y->G x (f y))->Paired G l (m.map f)
 | _,_,.nil,_=>.nil
 | _,_,.cons h t,k=>.cons (k _ _ h) (j5 t k)
theorem j6{te:TE}{cap:List Nat}{σ:St}{b:Addr}{xs:List V}(hn:xs.length<=sizeLine)(Pv:Nat->List V->Hp->Prop)(h0:Pv 0 [] H)(hq:∀ i ys H,i<=xs.length->Pv i ys H->SqT K H b xs)
  (hs:∀ i x ys H,xs[i]? =some x->ys.length=i->Pv i ys H->te (some x::C1 cap σ) H λy H2=>Pv (i+1) (ys++[y]) H2)
  (hd:∀ ys H,ys.length=xs.length->Pv xs.length ys H->∀ p,H p=none->Q (.ref p) (upd H p (.lst ys))) :
  EG (ML K b) (AR 0) CM te 1 cap σ H Q:=by
 refine⟨λi m σ' ys H=>m=xs.length - i/\i<=xs.length/\ys.length=i/\(∃ x0,σ'=x0::C1 cap σ)/\Pv i ys H,⟨xs.length,by simp,Nat.zero_le _,rfl,⟨none,rfl⟩,h0⟩,?_⟩
 rintro i m σ' ys H ⟨rfl,hi,hl,⟨x0,rfl⟩,p⟩
 have q:=hq i ys H hi p
 by_cases hlt:i<xs.length
 ·refine .inr ⟨⟨xs,xs[i],q,by simp[hlt]⟩,by omega,λx H' y=> ?_⟩
  obtain⟨e,y⟩:=y
  subst e
  have hx:=y xs q
  simp only[AR,CM,if_true]
  refine⟨_,λy H4 q=>⟨xs.length - (i+1),by omega,rfl,hlt,?_,⟨_,rfl⟩,q⟩,hs i x ys _ hx hl p⟩
  rw[List.length_append,List.length_singleton,hl]
 ·have e:i=xs.length:=by omega
  subst e
  exact .inl ⟨⟨xs,q,Nat.le_refl _⟩,hd ys H hl p⟩
section
variable{X:SX}{cs:List Ch}{tks:List (AS × V)}{M:Md}
theorem SM.lput{l:Addr}{xs ys:List V}(I:X.at a H cs tks M)(e:H l=some (.lst xs))(f:¬ X.S.A.F l):X.at a (upd H l (.lst ys)) cs tks M:=by
 have s:SameBut (· =l) H (upd H l (.lst ys)):=λy o ey n=>by rw[AM n];exact ey
 have g:∀ x,x=l->EI (H x):=λx hx=>by rw[hx];exact IN e
 have tk:E6 H (upd H l (.lst ys)):=JC s g
 obtain⟨⟨dx,e1⟩,e2,e3,e4,e5,e6,e7,e8,e9,e10,e11⟩:=I
 obtain⟨dl,el⟩:=e2.ob
 exact⟨⟨dx,s _ _ e1 (CG e1 e (by intro z;cases z))⟩,e2.sb s (CG el e (by intro z;cases z)),e3.sb s g λx hx=>by rw[hx];exact f,s _ _ e4 (CG e4 e (by intro z;cases z)),e5,e6,e7,e8,e9.keep tk,λkind k v h1 h2 hv=>(e10 kind k v h1 h2 hv).keep tk,e11⟩
theorem SM.taken{z:Str}{k:Nat}(I:X.at a H cs tks M)(hk:k<cs.length)(hl:tks.length<cs.length):X.at a (upd H X.S.tk (.dK (CS tks (.inr z) (.int k)))) cs (CS tks (.inr z) (.int k)) M:=by
 have s:SameBut (· =X.S.tk) H (upd H X.S.tk (.dK (CS tks (.inr z) (.int k)))):=λy o ey n=>by rw[AM n];exact ey
 have g:∀ x,x=X.S.tk->EI (H x):=λx hx=>by rw[hx];exact TN I.tk
 have tk:E6 H (upd H X.S.tk (.dK (CS tks (.inr z) (.int k)))):=JC s g
 obtain⟨⟨dx,e1⟩,e2,e3,e4,e5,e6,e7,e8,e9,e10,e11⟩:=I
 obtain⟨dl,el⟩:=e2.ob
 refine⟨⟨dx,s _ _ e1 (CG e1 e4 (by intro z;cases z))⟩,e2.sb s (CG el e4 (by intro z;cases z)),e3.sb s g λx hx=>by rw[hx];exact e7,AJ,Nat.le_trans (PL ..) (by omega),λy v h=> ?_,e7,e8,e9.keep tk,λkind k v h1 h2 hv=>(e10 kind k v h1 h2 hv).keep tk,e11⟩
 rw[YL]at h
 split at h
 ·cases h
  exact⟨k,rfl,hk⟩
 ·exact e6 y v h
end
theorem Sm(h:IX K a vs H Q E):VP K a (λ_=>E) (A9 Q) (A7 ["self","name","needs","gone"] vs) H:=by
 obtain⟨X,cs,tks,M,cell,z,nl,ns,rfl,T4,I,ec,hc,en,hl,kn,hcs,q⟩:=h
 have T4':=T4
 obtain⟨T,TP,TL,TS⟩:=T4
 obtain⟨dx,ho⟩:=I.ob
 obtain⟨dl,el⟩:=I.ly.ob
 obtain⟨db,eb⟩:=I.bk.bk.ob
 have hm:cell<A5 X.n X.r X.c X.w 0:=by simpa [A5]using hc
 push_cast[VP,↓Dv]
 refine⟨_,_,_,ho,TS.cl,TS.n2,_,GP,X.S.A.b,rfl,_,_,eb,DM (by decide +kernel),_,_,_,ho,TS.cl,TS.n1,_,F6,X.S.lp,rfl,_,_,el,CA (by decide +kernel),_,_,ho,BW (by decide +kernel),X,cs,tks,M,z,rfl,T4',I,λH1 s1=> ?_⟩
 rw[ec]
 refine⟨X.S.lp,X.n,X.r,X.c,X.w,cell,rfl,TL,I.ly.same s1,λu hu=> ?_⟩
 have sa:=AV (o:=.tup [.int (0+(cell:Int) / X.w),.int ((cell:Int) % X.w)]) hu
 have eu:upd H1 u (.tup [.int (0+(cell:Int) / X.w),.int ((cell:Int) % X.w)]) u=some (.tup [.int (BH X.n X.r X.c X.w 0 cell:Nat),.int (cell % X.w:Nat)]):=by rw[AJ];simp[BH]
 have s2:=s1.trans sa
 revert eu s2
 generalize upd H1 u (.tup [.int (0+(cell:Int) / X.w),.int ((cell:Int) % X.w)])=H2
 intro eu s2
 refine F7 T4' (I.same s2) (kind:=0) (x:=.no) (by decide) hm eu (s2 _ _ en) hl (by omega) kn trivial rfl trivial λch H3 I3 sb=> ?_
 obtain⟨dx3,ho3⟩:=I3.ob
 push_cast[↓Dw,↓Dx]
 have tl:=I.tl
 refine⟨_,_,_,ho3,TS.cl,TS.n3,_,V7,X.S.tk,rfl,_,pS I3.tk (by omega),?_⟩
 refine q ch _ (I3.taken (by simp) (by simp;omega)) λy o e n=> ?_
 rw[AM λy=>n (.inr y)]
 exact sb _ _ (s2 _ _ e) λy=>n (.inl y)
theorem Sq(h:IX K a vs H Q E):vs.length=3:=by
 obtain⟨_,_,_,_,_,_,_,_,rfl,_⟩:=h
 rfl
def Sv(a:Ad)(X:SX)(cs:List Ch)(tks:List (AS × V))(M:Md)(rec gone:Nat)(u0 ml:Addr)(pls:List (Nat × Nat))(H6:Hp)(i:Nat)(σ:St)(H':Hp):Prop:=(∃ ex,ex.length=i+1/\X.at a H' (cs++ex) tks ((pls.take i).foldl (λ(M:Md) (y:Nat × Nat)=>M.put y.1 y.2 (.mk 0)) (M.put 3 rec .no))/\H' ml=some (.lst (BC ((List.range (i+1)).map (cs.length+·))))/\SameBut (λx=>X.S.A.F x\/x=ml) H6 H')/\∃ y6,σ=[some (.ref X.S.st),some (.int rec),some (.int gone),some (.ref u0),some (.int cs.length),some (.ref ml),y6]
theorem Sw(h:NZ K a vs H Q E):VM K a (λ_=>E) (A9 Q) (A7 ["self","record","gone","pieces","dropped","made","mark"] vs) H:=by
 obtain⟨X,cs,tks,M,rec,m,gone,ps,rfl,T4,I,hr,eM,hg,hps,hpl,hcs,q⟩:=h
 have T4':=T4
 obtain⟨T,TP,TL,TS⟩:=T4
 obtain⟨dx,ho⟩:=I.ob
 have hm:rec<A5 X.n X.r X.c X.w 3:=by simpa [A5]using hr
 push_cast[VM,↓Cw]
 refine⟨_,_,ho,BW (by decide +kernel),X,cs,tks,M,rec,rfl,T4',I,hr,λv H1 rv s=> ?_⟩
 rw[eM]at rv
 obtain⟨t0,u0,rfl,et0,eu0⟩:=rv
 refine DD et0 (n:=1) rfl rfl ?_
 have I1:=I.same s
 obtain⟨dx1,ho1⟩:=I1.ob
 obtain⟨dl1,el1⟩:=I1.ly.ob
 obtain⟨db1,eb1⟩:=I1.bk.bk.ob
 push_cast[↓Cy]
 refine HA TS (ho1) (eb1) (DM (by decide +kernel)) (GQ TS (ho1) (el1) (CA (by decide +kernel)) (OG TL (I1.ly) λu hu=>⟨by decide,λnl hnl=> ?_⟩))
 have sa:=AV (o:=.tup [.int (X.n+(rec:Int) / X.w),.int ((rec:Int) % X.w)]) hu
 have sb:=AV (o:=.lst [V.int gone]) hnl
 have eu:=sb _ _ (show upd H1 u (.tup [.int (X.n+(rec:Int) / X.w),.int ((rec:Int) % X.w)]) u=some (.tup [.int (BH X.n X.r X.c X.w 3 rec:Nat),.int (rec % X.w:Nat)]) by rw[AJ];simp[BH])
 have en:upd (upd H1 u (.tup [.int (X.n+(rec:Int) / X.w),.int ((rec:Int) % X.w)])) nl (.lst [V.int gone]) nl=some (.lst ([(gone:Int)].map V.int)):=AJ
 have s2:=sa.trans sb
 revert eu en s2
 generalize upd (upd H1 u (.tup [.int (X.n+(rec:Int) / X.w),.int ((rec:Int) % X.w)])) nl (.lst [V.int gone])=H2
 clear sa sb
 intro eu en s2
 refine F7 T4' (I1.same s2) (kind:=3) (x:=.no) (by decide) hm eu en (by simp) (by omega) (λx hx=>by rw[List.mem_singleton.mp hx];exact⟨by omega,by omega⟩) trivial rfl trivial λch H3 I3 sb3=> ?_
 push_cast[↓Cz]
 refine⟨by decide,λml hml=> ?_⟩
 have k3:E6 H2 H3:=JC sb3 λx hx=>(I1.same s2).bk.loose hx
 have fml:¬ X.S.A.F ml:=I3.bk.off hml
 have sm:=AV (o:=.lst [V.int cs.length]) hml
 have I4:=I3.same sm
 have eu4:=sm _ _ (k3 _ _ (s2 _ _ eu0))
 have em4:upd H3 ml (.lst [V.int cs.length]) ml=some (.lst [V.int cs.length]):=AJ
 have sb4:SameBut X.S.A.F H (upd H3 ml (.lst [V.int cs.length])):=λy o e n=>sm _ _ (sb3 _ _ (s2 _ _ (s _ _ e)) n)
 have hmlH:H ml=none:=by
  cases e:H ml with
  | none=>rfl
  | some o=>have:=sb3 _ _ (s2 _ _ (s _ _ e)) fml;rw[hml]at this;cases this
 revert I4 eu4 em4 sb4
 clear sm k3 en eu
 generalize upd H3 ml (.lst [V.int cs.length])=H4
 intro I4 eu4 em4 sb4
 obtain⟨dx4,ho4⟩:=I4.ob
 obtain⟨dl4,el4⟩:=I4.ly.ob
 have hlen:(cs++[ch]).length=cs.length+1:=by simp
 push_cast[↓Dc]
 refine .inr ⟨⟨_,SqT.of eu4⟩,j6 (xs:=BC ps) (BV _ (by simp[BC];omega)) (λi ys H'=>Same H4 H'/\∃ us:List Addr,ys=us.map V.ref/\Paired (λu p=>H' u=some (.tup [.int (BH X.n X.r X.c X.w 2 p:Nat),.int (p % X.w:Nat)])) us (ps.take i)) ⟨Same.refl _,[],rfl,.nil⟩ (λi ys H' _ ⟨s',_⟩=>SqT.of (s' _ _ eu4)) (λi x ys H' hx hyl ⟨s',us,ey,pu⟩=> ?_) (λys H' hyl ⟨s',us,ey,pu⟩ lc hlc=> ?_)⟩
 ·unfold BC at hx
  rw[List.getElem?_map,Option.map_eq_some_iff]at hx
  obtain⟨p,ep,rfl⟩:=hx
  push_cast[C1]
  refine⟨_,_,_,s' _ _ ho4,TS.cl,TS.n1,_,F6,X.S.lp,rfl,_,_,s' _ _ el4,CA (by decide +kernel),X.S.lp,X.n,X.r,X.c,X.w,p,rfl,TL,I4.ly.same s',λu' hu'=> ?_⟩
  have su:=AV (o:=.tup [.int (X.n+X.r+X.c+X.r+(p:Int) / X.w),.int ((p:Int) % X.w)]) hu'
  refine⟨s'.trans su,us++[u'],by rw[ey,List.map_append];rfl,?_⟩
  rw[List.take_add_one,ep]
  exact Paired.snoc (Paired.mapP pu λt r z=>su _ _ z) (by rw[AJ];simp[BH])
 ·rw[show(BC ps).length=ps.length by simp[BC],List.take_length]at pu
  subst ey
  have sc:=AV (o:=.lst (us.map V.ref)) hlc
  have s5:=s'.trans sc
  refine GQ TS (s5 _ _ ho4) (s5 _ _ el4) (CA (by decide +kernel)) (j2 TL (I4.ly.same s5) λur hur=>⟨by decide,λlr hlr=>.inl ?_⟩)
  have sd:=AV (o:=.tup [.int (X.n+X.r+X.c+(rec:Int) / X.w),.int ((rec:Int) % X.w)]) hur
  have se:=AV (o:=.lst [V.ref ur]) hlr
  refine⟨lc,lr,_,_,rfl,rfl,se _ _ (sd _ _ AJ),AJ,BV _ (by have:=pu.length;simp;omega),λl2 hl2=> ?_⟩
  have sf':=AV (o:=.lst (us.map V.ref++[V.ref ur])) hl2
  have sg:=(sd.trans se).trans sf'
  have er:upd (upd (upd (upd H' lc (.lst (us.map V.ref))) ur (.tup [.int (X.n+X.r+X.c+(rec:Int) / X.w),.int ((rec:Int) % X.w)])) lr (.lst [V.ref ur])) l2 (.lst (us.map V.ref++[V.ref ur])) ur=some (.tup [.int (BH X.n X.r X.c X.w 1 rec:Nat),.int (rec % X.w:Nat)]):=(se.trans sf') _ _ (by rw[AJ];simp[BH])
  have el2:upd (upd (upd (upd H' lc (.lst (us.map V.ref))) ur (.tup [.int (X.n+X.r+X.c+(rec:Int) / X.w),.int ((rec:Int) % X.w)])) lr (.lst [V.ref ur])) l2 (.lst (us.map V.ref++[V.ref ur])) l2=some (.lst ((us++[ur]).map V.ref)):=by rw[AJ];simp
  have hl2F:¬ X.S.A.F l2:=by
   have:=((I4.same s5).same (sd.trans se)).bk.off hl2
   exact this
  have nlm:l2≠ml:=(BM (se _ _ (sd _ _ (s5 _ _ em4))) hl2).symm
  have s6:=s5.trans sg
  have PP:Paired (λu (y:Nat × Nat)=>upd (upd (upd (upd H' lc (.lst (us.map V.ref))) ur (.tup [.int (X.n+X.r+X.c+(rec:Int) / X.w),.int ((rec:Int) % X.w)])) lr (.lst [V.ref ur])) l2 (.lst (us.map V.ref++[V.ref ur])) u=some (.tup [.int (BH X.n X.r X.c X.w y.1 y.2:Nat),.int (y.2 % X.w:Nat)])) (us++[ur]) (ps.map (λp=>(2,p))++[(1,rec)]) :=
   Paired.snoc (j5 pu λu p z=>sg _ _ (sc _ _ z)) er
  revert s6 el2 PP
  clear er sg sf' se sd s5
  generalize upd (upd (upd (upd H' lc (.lst (us.map V.ref))) ur (.tup [.int (X.n+X.r+X.c+(rec:Int) / X.w),.int ((rec:Int) % X.w)])) lr (.lst [V.ref ur])) l2 (.lst (us.map V.ref++[V.ref ur]))=H6
  intro el2 s6 PP
  generalize us++[ur]=vs at el2 PP
  have hall:∀ y∈ps.map (λp=>(2,p))++[(1,rec)],(y.1=1\/y.1=2)/\y.2<A5 X.n X.r X.c X.w y.1:=λy hy=>by
   rcases List.mem_append.mp hy with hy | hy
   ·obtain⟨p,hp,rfl⟩:=List.mem_map.mp hy
    exact⟨.inr rfl,by simpa [A5]using hps p hp⟩
   ·rw[List.mem_singleton.mp hy]
    exact⟨.inl rfl,by simpa [A5]using hr⟩
  have hyl:(ps.map (λp=>((2:Nat),p))++[(1,rec)]).length=ps.length+1:=by simp
  have hfin:(ps.map (λp=>(2,p))++[(1,rec)]).foldl (λ(M:Md) (y:Nat × Nat)=>M.put y.1 y.2 (.mk 0)) (M.put 3 rec .no)=((M.put 3 rec .no).unmark ps).put 1 rec (.mk 0):=by
   rw[List.foldl_append,List.foldl_map];rfl
  revert hall hyl hfin PP
  generalize ps.map (λp=>((2:Nat),p))++[(1,rec)]=pls
  intro PP hall hyl hfin
  refine⟨l2,rfl,.inl ⟨⟨_,SqL.of el2⟩,SR (xs:=vs.map V.ref) (Sv a X cs tks M rec gone u0 ml pls H6)
   ⟨⟨[ch],rfl,I4.same s6,by rw[s6 _ _ em4];simp[BC,List.range_succ],λy o e _=>e⟩,_,rfl⟩ (λi σ H' _ ⟨⟨_,_,_,_,sb'⟩,_⟩=>SqL.of (sb' _ _ el2 ?_)) (λi x σ H7 hx ⟨⟨ex,hxl,I7,em7,sb7⟩,y6,ez⟩=> ?_) (λσ H7 ⟨⟨ex,hxl,I7,em7,sb7⟩,y6,ez⟩=> ?_)⟩⟩
  ·rintro (y | y)
   ·exact hl2F y
   ·exact nlm y
  ·subst ez
   have hi:=(List.getElem?_eq_some_iff.mp hx).1
   rw[List.length_map]at hi
   have hip:i<pls.length:=by rw[<-PP.length];exact hi
   have ey:=List.getElem?_eq_getElem hip
   obtain⟨u',eu',hu'⟩:=IJ PP ey
   rw[List.getElem?_map,eu']at hx
   cases hx
   obtain⟨hk12,hky⟩:=hall _ (List.mem_of_getElem? ey)
   have etk:pls.take (i+1)=pls.take i++[pls[i]]:=by rw[List.take_add_one,ey];rfl
   revert etk hk12 hky hu'
   generalize pls[i]=y
   intro hu' hk12 hky etk
   obtain⟨dx7,ho7⟩:=I7.ob
   obtain⟨db7,eb7⟩:=I7.bk.bk.ob
   push_cast[↓Db]
   have k67:∀ b xs,H6 b=some (.tup xs)->H7 b=some (.tup xs):=λb xs e=>sb7 _ _ e λz=>z.elim (λz=>((I4.same s6).bk.loose z).1 _ e) λz=>by rw[z,s6 _ _ em4]at e;cases e
   refine⟨.inl ⟨rfl,_,SqL.of em7⟩,_,_,_,ho7,TS.cl,TS.n2,_,GP,X.S.A.b,rfl,_,_,eb7,DM (by decide +kernel),by decide,λn8 hn8=> ?_⟩
   have s8:=AV (o:=.lst [V.int cs.length]) hn8
   refine F7 (ns:=[(cs.length:Int)]) T4' (I7.same s8) (kind:=y.1) (x:=.mk 0) (by omega) hky (s8 _ _ (k67 _ _ hu')) AJ (by simp) (by simp;omega) (λx hx=>by rw[List.mem_singleton.mp hx];exact⟨by omega,by simp;omega⟩) trivial rfl (by rcases hk12 with z | z<;>rw[z]<;>exact Nat.zero_le _) λch9 H9 I9 sb9=> ?_
   have em9:=sb9 _ _ (s8 _ _ em7) fml
   refine⟨ml,_,_,rfl,rfl,em9,Nat.lt_of_lt_of_le (show(BC ((List.range (i+1)).map (cs.length+·))).length<1000 by simp[BC];omega) (by decide),?_⟩
   refine⟨⟨ex++[ch9],by simp[hxl],by have:=I9.lput (ys:=BC ((List.range (i+1)).map (cs.length+·))++[V.int ((cs++ex).length:Nat)]) em9 fml;rw[etk,List.foldl_append,<-List.append_assoc];exact this,by rw[AJ];simp[BC,List.range_succ,hxl],λb o e n=> ?_⟩,_,rfl⟩
   rw[AM λz=>n (.inr z)]
   exact sb9 _ _ (s8 _ _ (sb7 _ _ e n)) λz=>n (.inl z)
  ·subst ez
   push_cast[↓Dd]
   have hvl:=PP.length
   rw[List.length_map,hvl,hyl]at hxl em7
   rw[List.length_map,hvl,List.take_length,hfin]at I7
   refine q ex ml H7 hmlH em7 hxl I7 λy o e n=> ?_
   exact sb7 _ _ (s6 _ _ (sb4 _ _ e n)) λy'=>y'.elim n λz=>by rw[z,hmlH]at e;cases e
theorem Sx(h:NZ K a vs H Q E):vs.length=3:=by
 obtain⟨_,_,_,_,_,_,_,_,rfl,_⟩:=h
 rfl
theorem JD{X:SX}{cs:List Ch}{tks:List (AS × V)}{M:Md}{H':Hp}{l:Addr}(I:X.at a H' cs tks M)(sb:SameBut (λx=>X.S.A.F x\/x=X.S.tk) H H')(hl:H' l=none):H l=none:=by
 cases e:H l with
 | none=>rfl
 | some o =>
  have:=sb _ _ e λz=>z.elim (I.bk.off hl) λz=>by rw[z,I.tk]at hl;cases hl
  rw[hl]at this
  cases this
theorem Sy(h:N0 K a vs H Q E):VQ K a (λ_=>E) (A9 Q) (A7 ["self","name","record","cell","mark","stands"] vs) H:=by
 obtain⟨X,cs,tks,M,z,rfl,T4,I,hzl,hcs,q,q1,q2,q3⟩:=h
 have T4':=T4
 obtain⟨dx,ho⟩:=I.ob
 have hm1:A5 X.n X.r X.c X.w 1=X.r * X.w:=by simp[A5]
 have hm0:A5 X.n X.r X.c X.w 0=X.m0:=by simp[A5]
 have hm3:A5 X.n X.r X.c X.w 3=X.r * X.w:=by simp[A5]
 push_cast[VQ,↓Dy]
 refine⟨_,_,ho,BW (by decide +kernel),by decide,λgl hgl=> ?_⟩
 have s1:=AV (o:=.lst [V.str z]) hgl
 refine⟨X,cs,tks,M,z,gl,[z],rfl,T4,I.same s1,AJ,by simp,λy hy=>by rw[List.mem_singleton.mp hy];exact hzl,λhb hc H2 s2=> ?_,λhb H2 s2=>q1 (by simpa using hb) _ (s1.trans s2),λhb hc H2 s2=>q2 (by simpa using hb) hc _ (s1.trans s2)⟩
 have hb:BI z=true:=by simpa using hb
 have s12:=s1.trans s2
 clear s1 s2 hgl
 obtain⟨T,TP,TL,TS⟩:=T4
 push_cast[↓Dz]
 refine⟨_,_,_,s12 _ _ ho,TS.cl,TS.n1,_,F6,_,_,_,s12 _ _ ho,TS.cl,TS.n2,_,GP,X.S.lp,X.S.A.b,rfl,Q4 T4' (I.same s12) (by decide) (λrec er hrl H3 s3=> ?_) λer H3 s3=>q3 hb hc (.inl (by rw[<-hm1];exact er)) _ (s12.trans s3)⟩
 rw[hm1]at er hrl
 have s13:=s12.trans s3
 clear s12 s3
 push_cast[↓Eb]
 refine⟨_,_,_,s13 _ _ ho,TS.cl,TS.n1,_,F6,_,_,_,s13 _ _ ho,TS.cl,TS.n2,_,GP,X.S.lp,X.S.A.b,rfl,Q4 T4' (I.same s13) (by decide) (λcell ec hcl H4 s4=> ?_) λer H3 s3=>q3 hb hc (.inr (by rw[<-hm0];exact er)) _ (s13.trans s3)⟩
 rw[hm0]at ec hcl
 have s14:=s13.trans s4
 have I4:=I.same s14
 clear s13 s4
 obtain⟨dx4,ho4⟩:=I4.ob
 obtain⟨dl4,el4⟩:=I4.ly.ob
 obtain⟨db4,eb4⟩:=I4.bk.bk.ob
 push_cast[↓Ec]
 refine HA TS (ho4) (eb4) (DM (by decide +kernel)) (GQ TS (ho4) (el4) (CA (by decide +kernel)) (j2 TL (I4.ly) λu hu=>⟨by decide,λl0 hl0=> ?_⟩))
 have sa:=AV (o:=.tup [.int (X.n+X.r+X.c+(rec:Int) / X.w),.int ((rec:Int) % X.w)]) hu
 have sb:=AV (o:=.lst []) hl0
 have eu:=sb _ _ (show upd H4 u (.tup [.int (X.n+X.r+X.c+(rec:Int) / X.w),.int ((rec:Int) % X.w)]) u=some (.tup [.int (BH X.n X.r X.c X.w 1 rec:Nat),.int (rec % X.w:Nat)]) by rw[AJ];simp[BH])
 have el0:upd (upd H4 u (.tup [.int (X.n+X.r+X.c+(rec:Int) / X.w),.int ((rec:Int) % X.w)])) l0 (.lst []) l0=some (.lst (([]:List Int).map V.int)):=AJ
 have s5:=sa.trans sb
 revert eu el0 s5
 clear sa sb
 generalize upd (upd H4 u (.tup [.int (X.n+X.r+X.c+(rec:Int) / X.w),.int ((rec:Int) % X.w)])) l0 (.lst [])=H5
 intro eu el0 s5
 refine F7 T4' (I4.same s5) (kind:=1) (x:=.mk 1) (by decide) (by rw[hm1];exact hrl) eu el0 (by simp) (by omega) (λx hx=>by cases hx) trivial rfl (Nat.le_refl _) λc1 H6 I6 sb6=> ?_
 obtain⟨dx6,ho6⟩:=I6.ob
 obtain⟨dl6,el6⟩:=I6.ly.ob
 obtain⟨db6,eb6⟩:=I6.bk.bk.ob
 push_cast[↓Ed]
 refine HA TS (ho6) (eb6) (DM (by decide +kernel)) (GQ TS (ho6) (el6) (CA (by decide +kernel)) (OG TL (I6.ly) λu2 hu2=> ?_))
 push_cast[]
 refine⟨by decide,λe6 he6=>⟨by decide,λt6 ht6=>⟨by decide,λl6 hl6=> ?_⟩⟩⟩
 have sa:=AV (o:=.tup [.int (X.n+(rec:Int) / X.w),.int ((rec:Int) % X.w)]) hu2
 have sb:=AV (o:=.tup []) he6
 have sc:=AV (o:=.tup [.int 1,.ref e6]) ht6
 have sd:=AV (o:=.lst [.int cs.length]) hl6
 have s67:=((sa.trans sb).trans sc).trans sd
 have f1:=sd _ _ (sc _ _ (sb _ _ (show upd H6 u2 (.tup [.int (X.n+(rec:Int) / X.w),.int ((rec:Int) % X.w)]) u2=some (.tup [.int (BH X.n X.r X.c X.w 3 rec:Nat),.int (rec % X.w:Nat)]) by rw[AJ];simp[BH])))
 have f2:=sd _ _ (sc _ _ (AJ (H:=upd H6 u2 (.tup [.int (X.n+(rec:Int) / X.w),.int ((rec:Int) % X.w)])) (a:=e6) (o:=.tup [])))
 have f3:=sd _ _ (AJ (H:=upd (upd H6 u2 (.tup [.int (X.n+(rec:Int) / X.w),.int ((rec:Int) % X.w)])) e6 (.tup [])) (a:=t6) (o:=.tup [.int 1,.ref e6]))
 have f4:=AJ (H:=upd (upd (upd H6 u2 (.tup [.int (X.n+(rec:Int) / X.w),.int ((rec:Int) % X.w)])) e6 (.tup [])) t6 (.tup [.int 1,.ref e6])) (a:=l6) (o:=.lst [.int cs.length])
 revert s67 f1 f2 f3 f4
 generalize upd (upd (upd (upd H6 u2 (.tup [.int (X.n+(rec:Int) / X.w),.int ((rec:Int) % X.w)])) e6 (.tup [])) t6 (.tup [.int 1,.ref e6])) l6 (.lst [.int cs.length])=H7
 clear sa sb sc sd
 intro s67 f1 f2 f3 f4
 refine F7 (ns:=[(cs.length:Int)]) T4' (I6.same s67) (kind:=3) (x:=.rc 1 []) (by decide) (by rw[hm3];exact hrl) f1 f4 (by simp) (by simp;omega) (λx hx=>by rw[List.mem_singleton.mp hx];exact⟨by omega,by simp;omega⟩) (WA (ps:=[]) f3 f2 (by simp)) ⟨t6,e6,rfl,f3,f2⟩ trivial λc2 H8 I8 sb8=> ?_
 obtain⟨dx8,ho8⟩:=I8.ob
 push_cast[↓Eg]
 have hlen:(cs++[c1]).length=cs.length+1:=by simp
 rw[hlen]
 refine⟨_,_,ho8,BW (by decide +kernel),X,_,tks,_,cell,rec,cs.length+1,z,rfl,T4',I8,hcl,by simp,by simp;omega,V8 hb,λc3 H9 I9 sb9=>⟨by decide,λl hl=> ?_⟩⟩
 have sl:=AV (o:=.lst [V.int cs.length,V.int (cs.length+1:Nat),V.int ((cs++[c1]++[c2]).length:Nat)]) hl
 have sbH:SameBut (λx=>X.S.A.F x\/x=X.S.tk) H H9:=λy o e n=>sb9 _ _ (sb8 _ _ (s67 _ _ (sb6 _ _ (s5 _ _ (s14 _ _ e)) λz=>n (.inl z))) λz=>n (.inl z)) λz=>n (.inl z)
 exact q hb hc rec cell er ec hrl hcl [c1,c2,c3] _ l _ rfl (JD I9 sbH hl) (by rw[AJ];simp[BC,List.range_succ]) (by have:=I9.same sl;simpa using this) λy o e n=>sl _ _ (sbH _ _ e n)
theorem Sz(h:N0 K a vs H Q E):vs.length=2:=by
 obtain⟨_,_,_,_,_,rfl,_⟩:=h
 rfl
theorem Tb(h:IZ K a vs H Q E):VR K a (λ_=>E) (A9 Q) (A7 ["self","old","new","record","cell","more"] vs) H:=by
 obtain⟨X,cs,tks,M,y,z,rfl,T4,I,hyl,hzl,hcs,q,q1,q2,q3,q4⟩:=h
 have T4':=T4
 obtain⟨dx,ho⟩:=I.ob
 have hm0:A5 X.n X.r X.c X.w 0=X.m0:=by simp[A5]
 push_cast[VR,↓Eh]
 refine⟨_,_,ho,BW (by decide +kernel),by decide,λgl hgl=> ?_⟩
 have s1:=AV (o:=.lst [V.str y,V.str z]) hgl
 refine⟨X,cs,tks,M,z,gl,[y,z],rfl,T4,I.same s1,AJ,by simp,λx hx=> ?_,λhb hc H2 s2=> ?_,λhb H2 s2=>q1 (by simpa using hb) _ (s1.trans s2),λhb hc H2 s2=> ?_⟩
 ·simp only[List.mem_cons,List.not_mem_nil,or_false]at hx
  rcases hx with rfl | rfl
  ·exact hyl
  ·exact hzl
 ·have hb:BI y=true/\BI z=true:=by simpa using hb
  have s12:=s1.trans s2
  clear s1 s2 hgl
  obtain⟨T,TP,TL,TS⟩:=T4
  push_cast[↓Ej]
  refine⟨_,_,s12 _ _ ho,BW (by decide +kernel),X,cs,tks,M,y,rfl,T4',I.same s12,λold rec eo hol eM H3 s3=> ?_,λeo H3 s3=>q3 hb.1 hb.2 hc eo _ (s12.trans s3)⟩
  have s13:=s12.trans s3
  clear s12 s3
  push_cast[↓Ek]
  refine⟨_,_,_,s13 _ _ ho,TS.cl,TS.n1,_,F6,_,_,_,s13 _ _ ho,TS.cl,TS.n2,_,GP,X.S.lp,X.S.A.b,rfl,Q4 T4' (I.same s13) (by decide) (λcell ec hcl H4 s4=> ?_) λer H3 s3=>q4 hb.1 hb.2 hc ⟨old,eo⟩ (by rw[<-hm0];exact er) _ (s13.trans s3)⟩
  rw[hm0]at ec hcl
  obtain⟨hr,m,ps,eR,hps,q⟩:=q hb.1 hb.2 hc old rec cell eo hol eM
  have s14:=s13.trans s4
  have I4:=I.same s14
  push_cast[↓El]
  refine⟨_,_,s14 _ _ ho,BW (by decide +kernel),by decide,λl0 hl0=> ?_⟩
  have s5:=AV (o:=.lst []) hl0
  refine⟨X,cs,tks,M,rec,m,m+1,1,ps,l0,[],rfl,T4',I4.same s5,hr,eR,by omega,hps,AJ,by simp,(λx hx=>by cases hx),by omega,λc1 H6 I6 sb6=> ?_⟩
  obtain⟨dx6,ho6⟩:=I6.ob
  push_cast[↓Em]
  refine⟨_,_,ho6,BW (by decide +kernel),X,_,tks,_,cell,rec,cs.length,z,rfl,T4',I6,hcl,by simp,by simp;omega,V8 hb.2,λc2 H7 I7 sb7=>⟨by decide,λl hl=> ?_⟩⟩
  have sl:=AV (o:=.lst [V.int cs.length,V.int ((cs++[c1]).length:Nat)]) hl
  have sbH:SameBut (λx=>X.S.A.F x\/x=X.S.tk) H H7:=λy o e n=>sb7 _ _ (sb6 _ _ (s5 _ _ (s14 _ _ e)) λz=>n (.inl z)) λz=>n (.inl z)
  exact q ec hcl [c1,c2] _ l _ rfl (JD I7 sbH hl) (by rw[AJ];simp[BC,List.range_succ]) (by have:=I7.same sl;simpa using this) λy o e n=>sl _ _ (sbH _ _ e n)
 ·have hb:BI y=true/\BI z=true:=by simpa using hb
  exact q2 hb.1 hb.2 hc _ (s1.trans s2)
theorem Tc(h:IZ K a vs H Q E):vs.length=3:=by
 obtain⟨_,_,_,_,_,_,rfl,_⟩:=h
 rfl
theorem Td(n d:Nat):BC ((List.range (d+1)).map (n+·))=[V.int n]++BC ((List.range d).map (n+1+·)):=by
 rw[List.range_succ_eq_map]
 simp[BC,Nat.add_assoc,Nat.add_comm 1]
theorem Tg(h:N1 K a vs H Q E):VS K a (λ_=>E) (A9 Q) (A7 ["self","name","record","gone"] vs) H:=by
 obtain⟨X,cs,tks,M,z,rfl,T4,I,hcs,q,q1⟩:=h
 obtain⟨dx,ho⟩:=I.ob
 push_cast[VS,↓Ep]
 refine⟨_,_,ho,BW (by decide +kernel),X,cs,tks,M,z,rfl,T4,I,λcell rec ec hcl eM H1 s1=> ?_,λeo H3 s3=>q1 eo _ s3⟩
 obtain⟨hr,m,ps,eR,hps,hpl,q2,q3⟩:=q cell rec ec hcl eM
 have I1:=I.same s1
 push_cast[↓Ev]
 refine⟨_,_,s1 _ _ ho,BW (by decide +kernel),by decide,λl0 hl0=> ?_⟩
 have s2:=AV (o:=.lst []) hl0
 refine⟨X,cs,tks,M,cell,z,l0,[],rfl,T4,I1.same s2,ec,hcl,AJ,by simp,(λx hx=>by cases hx),by omega,λc1 H3 I3 sb3=> ?_⟩
 obtain⟨dx3,ho3⟩:=I3.ob
 have sb:SameBut (λx=>X.S.A.F x\/x=X.S.tk) H H3:=λy o e n=>sb3 _ _ (s2 _ _ (s1 _ _ e)) n
 have eR':(M.put 0 cell .no) 3 rec=.rc m ps:=by unfold Md.put;rw[if_neg (by omega)];exact eR
 push_cast[↓Ex]
 refine⟨_,_,ho3,BW (by decide +kernel),X,_,_,_,rec,rfl,T4,I3,hr,λv H4 rv s4=> ?_⟩
 rw[eR']at rv
 obtain⟨t0,u0,rfl,et0,eu0⟩:=rv
 have I4:=I3.same s4
 refine DD et0 (n:=0) rfl rfl ?_
 push_cast[]
 split
 ·rename_i hm
  push_cast[↓Ew]
  refine⟨_,_,s4 _ _ ho3,BW (by decide +kernel),by decide,λl5 hl5=> ?_⟩
  have s5:=AV (o:=.lst [V.int cs.length]) hl5
  refine⟨X,_,_,_,rec,m,m - 1,-1,ps,l5,[(cs.length:Int)],rfl,T4,I4.same s5,hr,eR',by omega,by omega,AJ,by simp,(λx hx=>by rw[List.mem_singleton.mp hx];exact⟨by omega,by simp;omega⟩),by simp;omega,λc2 H6 I6 sb6=>⟨by decide,λl hl=> ?_⟩⟩
  have sl:=AV (o:=.lst [V.int cs.length,V.int ((cs++[c1]).length:Nat)]) hl
  have sbH:SameBut (λx=>X.S.A.F x\/x=X.S.tk) H H6:=λy o e n=>sb6 _ _ (s5 _ _ (s4 _ _ (sb _ _ e n))) λz=>n (.inl z)
  exact q2 (by omega) [c1,c2] _ l _ rfl (JD I6 sbH hl) (by rw[AJ];simp[BC,List.range_succ]) (by have:=I6.same sl;simpa using this) λy o e n=>sl _ _ (sbH _ _ e n)
 ·rename_i hm
  push_cast[↓Ey]
  refine⟨by decide,λl5 hl5=> ?_⟩
  have s5:=AV (o:=.lst [V.int cs.length]) hl5
  have I5:=I4.same s5
  refine⟨_,_,s5 _ _ (s4 _ _ ho3),BW (by decide +kernel),X,_,_,_,rec,m,cs.length,ps,rfl,T4,I5,hr,eR',by simp,hps,hpl,by simp;omega,λex l H6 hl6 el6 hex I6 sb6=>.inl ?_⟩
  have f5:¬ X.S.A.F l5:=I4.bk.off hl5
  refine⟨l5,l,_,_,rfl,rfl,sb6 _ _ AJ f5,el6,BV _ (by simp[BC];omega),λl7 hl7=> ?_⟩
  have sl:=AV (o:=.lst ([V.int cs.length]++BC ((List.range (ps.length+2)).map ((cs++[c1]).length+·)))) hl7
  have sbH:SameBut (λx=>X.S.A.F x\/x=X.S.tk) H H6:=λy o e n=>sb6 _ _ (s5 _ _ (s4 _ _ (sb _ _ e n))) λz=>n (.inl z)
  exact q3 (by omega) (c1::ex) _ l7 _ (by simp[hex]) (JD I6 sbH hl7) (by rw[AJ,Td cs.length (ps.length+2)];simp) (by have:=I6.same sl;simpa using this) λy o e n=>sl _ _ (sbH _ _ e n)
theorem Th(h:N1 K a vs H Q E):vs.length=2:=by
 obtain⟨_,_,_,_,_,rfl,_⟩:=h
 rfl
theorem cat_tup{b d:Addr}{xs ys:List V}(h1:H b=some (.tup xs))(h2:H d=some (.tup ys))(hy:ys≠[])(hl:xs.length+ys.length<=1000)(q:∀ p H',Same H H'->H' p=some (.tup (xs++ys))->Q (.ref p) H'):BN K (.ref b) (.ref d) H Q:=by
 rw[SQ]
 by_cases hx:xs=[]
 ·subst hx
  exact .inr (.inr ⟨b,d,ys,rfl,rfl,SqT.of h1,SqT.of h2,q d H (Same.refl _) h2⟩)
 ·exact .inr (.inl ⟨b,d,xs,ys,rfl,rfl,SqT.of h1,SqT.of h2,hx,BV _ (by omega),λe=>absurd e hy,λ_ p hp=>q p _ (AV hp) AJ⟩)
theorem Tj(h:N2 K a vs H Q E):VT K a (λ_=>E) (A9 Q) (A7 ["self","name","text","record","piece","mark","filled"] vs) H:=by
 obtain⟨X,cs,tks,M,z,t,rfl,T4,I,htl,hts,hcs,q,q1,q2,q3⟩:=h
 have T4':=T4
 obtain⟨dx,ho⟩:=I.ob
 have hm2:A5 X.n X.r X.c X.w 2=X.c * X.w:=by simp[A5]
 have hm4:A5 X.n X.r X.c X.w 4=X.c * X.w:=by simp[A5]
 push_cast[VT,↓Ez]
 refine⟨_,_,ho,BW (by decide +kernel),X,cs,tks,M,z,rfl,T4,I,λcell rec ec hcl eM H1 s1=> ?_,λeo H3 s3=>q1 eo _ s3⟩
 obtain⟨T,TP,TL,TS⟩:=T4
 push_cast[↓Fc]
 refine⟨t,rfl,htl,λH2 s2=> ?_⟩
 have s12:=s1.trans s2
 cases hb:G5 t with
 | false =>
  push_cast[↓Fb]
  exact⟨by decide,q2 ⟨cell,ec⟩ hb _ s12⟩
 | true =>
  push_cast[↓Fd]
  refine⟨_,_,_,s12 _ _ ho,TS.cl,TS.n1,_,F6,_,_,_,s12 _ _ ho,TS.cl,TS.n2,_,GP,X.S.lp,X.S.A.b,rfl,Q4 T4' (I.same s12) (by decide) (λp ep hpl H4 s4=> ?_) λer H3 s3=>q3 ⟨cell,ec⟩ hb (by rw[<-hm2];exact er) _ (s12.trans s3)⟩
  rw[hm2]at ep hpl
  obtain⟨hr,m,ps,eR,hps,q⟩:=q cell rec ec hcl eM hb p ep hpl
  have s14:=s12.trans s4
  have I4:=I.same s14
  clear s1 s2 s12 s4
  obtain⟨dx4,ho4⟩:=I4.ob
  obtain⟨dl4,el4⟩:=I4.ly.ob
  obtain⟨db4,eb4⟩:=I4.bk.bk.ob
  push_cast[↓Fg]
  refine HA TS (ho4) (eb4) (DM (by decide +kernel)) (GQ TS (ho4) (el4) (CA (by decide +kernel)) (Rv TL (I4.ly) λu hu=>⟨by decide,λl0 hl0=> ?_⟩))
  have sa:=AV (o:=.tup [.int (X.n+X.r+X.c+X.r+(p:Int) / X.w),.int ((p:Int) % X.w)]) hu
  have sb:=AV (o:=.lst []) hl0
  have eu:=sb _ _ (show upd H4 u (.tup [.int (X.n+X.r+X.c+X.r+(p:Int) / X.w),.int ((p:Int) % X.w)]) u=some (.tup [.int (BH X.n X.r X.c X.w 2 p:Nat),.int (p % X.w:Nat)]) by rw[AJ];simp[BH])
  have el0:upd (upd H4 u (.tup [.int (X.n+X.r+X.c+X.r+(p:Int) / X.w),.int ((p:Int) % X.w)])) l0 (.lst []) l0=some (.lst (([]:List Int).map V.int)):=AJ
  have s5:=sa.trans sb
  revert eu el0 s5
  clear sa sb
  generalize upd (upd H4 u (.tup [.int (X.n+X.r+X.c+X.r+(p:Int) / X.w),.int ((p:Int) % X.w)])) l0 (.lst [])=H5
  intro eu el0 s5
  refine F7 T4' (I4.same s5) (kind:=2) (x:=.mk 1) (by decide) (by rw[hm2];exact hpl) eu el0 (by simp) (by omega) (λx hx=>by cases hx) trivial rfl (Nat.le_refl _) λc1 H6 I6 sb6=> ?_
  obtain⟨dx6,ho6⟩:=I6.ob
  obtain⟨dl6,el6⟩:=I6.ly.ob
  obtain⟨db6,eb6⟩:=I6.bk.bk.ob
  push_cast[↓Fh]
  refine HA TS (ho6) (eb6) (DM (by decide +kernel)) (GQ TS (ho6) (el6) (CA (by decide +kernel)) (Rq TL (I6.ly) λu2 hu2=>⟨by decide,λl6 hl6=> ?_⟩))
  have sa:=AV (o:=.tup [.int (X.n+X.r+(p:Int) / X.w),.int ((p:Int) % X.w)]) hu2
  have sb:=AV (o:=.lst [.int cs.length]) hl6
  have f1:=sb _ _ (show upd H6 u2 (.tup [.int (X.n+X.r+(p:Int) / X.w),.int ((p:Int) % X.w)]) u2=some (.tup [.int (BH X.n X.r X.c X.w 4 p:Nat),.int (p % X.w:Nat)]) by rw[AJ];simp[BH])
  have f4:=AJ (H:=upd H6 u2 (.tup [.int (X.n+X.r+(p:Int) / X.w),.int ((p:Int) % X.w)])) (a:=l6) (o:=.lst [.int cs.length])
  have s67:=sa.trans sb
  revert s67 f1 f4
  generalize upd (upd H6 u2 (.tup [.int (X.n+X.r+(p:Int) / X.w),.int ((p:Int) % X.w)])) l6 (.lst [.int cs.length])=H7
  clear sa sb
  intro f1 f4 s67
  refine F7 (ns:=[(cs.length:Int)]) T4' (I6.same s67) (kind:=4) (x:=.tx t) (by decide) (by rw[hm4];exact hpl) f1 f4 (by simp) (by simp;omega) (λx hx=>by rw[List.mem_singleton.mp hx];exact⟨by omega,by simp;omega⟩) hts rfl trivial λc2 H8 I8 sb8=> ?_
  obtain⟨dx8,ho8⟩:=I8.ob
  have eR':((M.put 2 p (.mk 1)).put 4 p (.tx t)) 3 rec=.rc m ps:=by unfold Md.put;rw[if_neg (by omega),if_neg (by omega)];exact eR
  push_cast[↓Fj]
  refine⟨_,_,ho8,BW (by decide +kernel),_,_,ho8,BW (by decide +kernel),X,_,tks,_,rec,rfl,T4',I8,hr,λv H9 rv s9=> ?_⟩
  rw[eR']at rv
  obtain⟨t0,u0,rfl,et0,eu0⟩:=rv
  have hlen:(cs++[c1]).length=cs.length+1:=by simp
  refine DD et0 (n:=1) rfl rfl ⟨by decide,λt9 ht9=> ?_⟩
  have sa:=AV (o:=.tup [V.int p]) ht9
  refine cat_tup (sa _ _ eu0) AJ (by simp) (by simp[BC];omega) λpp H10 s10 epp=>⟨by decide,λl10 hl10=> ?_⟩
  have s11:=(s9.trans sa).trans s10
  have sc:=AV (o:=.lst [V.int ((cs++[c1]).length:Nat)]) hl10
  have s12:=s11.trans sc
  refine⟨X,_,tks,_,rec,m,ps,ps++[p],pp,l10,[((cs++[c1]).length:Int)],rfl,T4',I8.same s12,hr,eR',sc _ _ (by rw[epp];simp[BC]),by simp;omega,AJ,by simp,(λx hx=>by rw[List.mem_singleton.mp hx];exact⟨by omega,by simp⟩),by simp;omega,λc3 H13 I13 sb13=>⟨by decide,λl hl=> ?_⟩⟩
  have sl:=AV (o:=.lst [V.int cs.length,V.int ((cs++[c1]).length:Nat),V.int ((cs++[c1]++[c2]).length:Nat)]) hl
  have sbH:SameBut (λx=>X.S.A.F x\/x=X.S.tk) H H13:=λy o e n=>sb13 _ _ (s12 _ _ (sb8 _ _ (s67 _ _ (sb6 _ _ (s5 _ _ (s14 _ _ e)) λz=>n (.inl z))) λz=>n (.inl z))) λz=>n (.inl z)
  exact q [c1,c2,c3] _ l _ rfl (JD I13 sbH hl) (by rw[AJ];simp[BC,List.range_succ]) (by have:=I13.same sl;simpa using this) λy o e n=>sl _ _ (sbH _ _ e n)
theorem Tk(h:N2 K a vs H Q E):vs.length=3:=by
 obtain⟨_,_,_,_,_,_,rfl,_⟩:=h
 rfl
theorem Tl(h:N3 K a vs H Q E):VV K a (λ_=>E) (A9 Q) (A7 ["self","name","pieces"] vs) H:=by
 obtain⟨X,cs,tks,M,z,rfl,T4,I,q,q1⟩:=h
 have T4':=T4
 obtain⟨T,TP,TL,TS⟩:=T4
 obtain⟨dx,ho⟩:=I.ob
 obtain⟨dl,el⟩:=I.ly.ob
 obtain⟨db,eb⟩:=I.bk.bk.ob
 push_cast[VV,↓Fw]
 refine⟨_,_,ho,BW (by decide +kernel),_,_,ho,BW (by decide +kernel),X,cs,tks,M,z,rfl,T4',I,λcell rec ec hcl eM H1 s1=> ?_,λeo H3 s3=>q1 eo _ s3⟩
 obtain⟨hr,m,ps,eR,hps,ts,pt,q⟩:=q cell rec ec hcl eM
 refine⟨X,cs,tks,M,rec,rfl,T4',I.same s1,hr,λv H2 rv s2=> ?_⟩
 rw[eR]at rv
 obtain⟨t0,u0,rfl,et0,eu0⟩:=rv
 refine DD et0 (n:=1) rfl rfl ?_
 have s12:=s1.trans s2
 push_cast[↓Fx]
 refine .inr ⟨⟨_,SqT.of eu0⟩,j6 (xs:=BC ps) (BV _ (by simp[BC];omega)) (λi ys H'=>Same H2 H'/\ys=(ts.take i).map V.str) ⟨Same.refl _,rfl⟩ (λi ys H' _ ⟨s',_⟩=>SqT.of (s' _ _ eu0)) (λi x ys H' hx hyl ⟨s',ey⟩=> ?_) (λys H' hyl ⟨s',ey⟩ lc hlc=> ?_)⟩
 ·unfold BC at hx
  rw[List.getElem?_map,Option.map_eq_some_iff]at hx
  obtain⟨p,ep,rfl⟩:=hx
  have hti:i<ts.length:=by have:=(List.getElem?_eq_some_iff.mp ep).1;have:=pt.length;omega
  have eti:=List.getElem?_eq_getElem hti
  obtain⟨p',ep',hpc,eP⟩:=IJ pt eti
  rw[ep]at ep'
  cases ep'
  have hm:p<A5 X.n X.r X.c X.w 4:=by simpa [A5]using hpc
  have sH:=s12.trans s'
  have I':=I.same sH
  push_cast[C1]
  refine⟨_,_,_,sH _ _ ho,TS.cl,TS.n2,_,GP,X.S.A.b,rfl,_,_,sH _ _ eb,DM (by decide +kernel),_,_,_,sH _ _ ho,TS.cl,TS.n1,_,F6,X.S.lp,rfl,_,_,sH _ _ el,CA (by decide +kernel),X.S.lp,X.n,X.r,X.c,X.w,p,rfl,TL,I'.ly,λu' hu'=> ?_⟩
  have su:=AV (o:=.tup [.int (X.n+X.r+(p:Int) / X.w),.int ((p:Int) % X.w)]) hu'
  refine⟨X.S.A,X.w,X.rows,X.nn,cs,X.outs,u',(BH X.n X.r X.c X.w 4 p:Nat),(p % X.w:Nat),rfl,T,TP,I'.bk.same su,by rw[AJ];simp[BH],λ_ v H3 ev s3=> ?_,λz=>absurd (I.onPl (kind:=4) (by decide) hm) z⟩
  have rv:=I.rp 4 p v (by decide) hm ev
  rw[eP]at rv
  rw[show v=.str ts[i]from rv]
  refine⟨(s'.trans su).trans s3,?_⟩
  rw[List.take_add_one,eti,ey,List.map_append]
  rfl
 ·have hl:(BC ps).length=ts.length:=by rw[<-pt.length];simp[BC]
  rw[hl,List.take_length]at ey
  subst ey
  have sl:=AV (o:=.lst (ts.map V.str)) hlc
  exact q lc _ (s12.free (s'.free hlc)) ((s12.trans s').trans sl) AJ
theorem Tm(h:N3 K a vs H Q E):vs.length=2:=by
 obtain⟨_,_,_,_,_,rfl,_⟩:=h
 rfl
section
variable{X:SX}{M:Md}{z t:Str}{rec cell m p:Nat}{ps:List Nat}
theorem BO{k j:Nat}{x:CV}:(M.put k j x) k j=x:=by unfold Md.put;rw[if_pos ⟨rfl,rfl⟩]
theorem AI{k j i l:Nat}{x:CV}(h:i≠k):(M.put k j x) i l=M i l:=by unfold Md.put;rw[if_neg λy=>h y.1]
theorem BL{k j i l:Nat}{x:CV}(h:l≠j):(M.put k j x) i l=M i l:=by unfold Md.put;rw[if_neg λy=>h y.2]
theorem D4:∀ {ps:List Nat} {M:Md} {i j:Nat},(M.unmark ps) i j=if i=2/\j∈ps then .mk 0 else M i j
 | [],M,i,j=>by simp[Md.unmark]
 | p::ps,M,i,j=>by
  show((M.put 2 p (.mk 0)).unmark ps) i j=_
  rw[D4]
  by_cases h:i=2/\j∈ps
  ·rw[if_pos h,if_pos ⟨h.1,List.mem_cons_of_mem _ h.2⟩]
  ·rw[if_neg h]
   by_cases h2:i=2/\j=p
   ·rw[h2.1,h2.2,BO,if_pos ⟨rfl,List.mem_cons_self⟩]
   ·rw[if_neg λy=>by
     rcases List.mem_cons.mp y.2 with z | z
     ·exact h2 ⟨y.1,z⟩
     ·exact h ⟨y.1,z⟩]
    unfold Md.put
    rw[if_neg h2]
theorem FN{f:Nat->Bool}{m k:Nat}(h:DE f m=k):f k=true:=by
 unfold DE at h
 cases e:(List.range m).find? f with
 | none=>rw[e]at h;simp at h
 | some k' =>
  rw[e]at h
  have:=List.find?_some e
  have:k'=k:=by simp at h;omega
  subst this
  assumption
def D5(rec:Nat):CV->Bool
 | .nm _ r=>decide (r=rec)
 | _=>false
theorem F8{k:Nat}:N6 M rec k=D5 rec (M 0 k):=by
 unfold N6
 cases M 0 k<;>rfl
theorem j7{f g:Nat->Bool}{i:Nat}(h:∀ k,k≠i->f k=g k):∀ {m:Nat},i<m->(List.range m).countP g+(if f i=true then 1 else 0)=(List.range m).countP f+(if g i=true then 1 else 0)
 | 0,hi=>absurd hi (Nat.not_lt_zero _)
 | m+1,hi=>by
  rw[List.range_succ,List.countP_append,List.countP_append]
  by_cases e:i=m
  ·subst e
   have:(List.range i).countP g=(List.range i).countP f:=List.countP_congr λk hk=>by rw[h k (by have:=List.mem_range.mp hk;omega)]
   rw[this]
   simp only[List.countP_singleton]
   omega
  ·have ih:=j7 h (m:=m) (by omega)
   have:f m=g m:=h m λy=>e y.symm
   simp only[List.countP_singleton,this]
   omega
theorem KR{x:CV}{rec' m:Nat}(hc:cell<m):CO (M.put 0 cell x) m rec'+(if D5 rec' (M 0 cell)=true then 1 else 0)=CO M m rec'+(if D5 rec' x=true then 1 else 0):=by
 have:=j7 (f:=N6 M rec') (g:=N6 (M.put 0 cell x) rec') (i:=cell) (λk hk=>by rw[F8,F8,BL hk]) hc
 rw[F8,F8,BO]at this
 exact this
theorem F9{kind k rec' m:Nat}{x:CV}(h:kind≠0):CO (M.put kind k x) m rec'=CO M m rec':=by
 unfold CO
 refine List.countP_congr λj _=> ?_
 rw[F8,F8,AI λy=>h y.symm]
theorem Tp{rec' m:Nat}:CO (M.unmark ps) m rec'=CO M m rec':=by
 unfold CO
 refine List.countP_congr λj _=> ?_
 rw[F8,F8,D4,if_neg (by omega)]
theorem WB{rec' m:Nat}(h:CO M m rec'=0){k:Nat}(hk:k<m){y:Str}:M 0 k≠.nm y rec':=λe=>by
 have:=List.countP_eq_zero.mp h k (List.mem_range.mpr hk)
 rw[F8,e]at this
 simp[D5]at this
theorem j8(h:B0 0 (M 0 cell)=true):D5 rec (M 0 cell)=false:=by
 cases e:M 0 cell<;>rw[e]at h<;>simp[B0,D5]at h ⊢
theorem Snd.stand(S:Snd X M)(hr:rec<X.r * X.w)(fr:B0 1 (M 1 rec)=true){m:Nat}{ps:List Nat}:M 3 rec≠.rc m ps:=λe=>by
 have:=(S.m4 rec m ps hr e).2.2
 rw[this]at fr
 simp[B0]at fr
theorem Snd.make(S:Snd X M)(hz:BI z=true)(hr:rec<X.r * X.w)(hc:cell<X.m0)(fr:B0 1 (M 1 rec)=true)(fc:B0 0 (M 0 cell)=true):Snd X (((M.put 1 rec (.mk 1)).put 3 rec (.rc 1 [])).put 0 cell (.nm z rec)):=by
 have nl:CO M X.m0 rec=0:=List.countP_eq_zero.mpr λk hk=>by
  rw[F8]
  intro h
  cases e:M 0 k with
  | nm y r' =>
   rw[e]at h
   have hr':r'=rec:=by simpa [D5]using h
   subst hr'
   obtain⟨_,_,m,ps,e3⟩:=S.m1 k y r' (List.mem_range.mp hk) e
   exact S.stand hr fr e3
  | _=>rw[e]at h;simp[D5]at h
 have at3:∀ {r':Nat},r'≠rec->(((M.put 1 rec (.mk 1)).put 3 rec (.rc 1 [])).put 0 cell (.nm z rec)) 3 r'=M 3 r':=λh=>by rw[AI (by decide),BL h,AI (by decide)]
 have at3':(((M.put 1 rec (.mk 1)).put 3 rec (.rc 1 [])).put 0 cell (.nm z rec)) 3 rec=.rc 1 []:=by rw[AI (by decide),BO]
 have ld:∀ {r':Nat},CO (((M.put 1 rec (.mk 1)).put 3 rec (.rc 1 [])).put 0 cell (.nm z rec)) X.m0 r'=CO M X.m0 r'+if rec=r' then 1 else 0:=λ{r'}=>by
  have:=KR (M:=(M.put 1 rec (.mk 1)).put 3 rec (.rc 1 [])) (x:=.nm z rec) (rec':=r') hc
  rw[F9 (kind:=3) (by decide),F9 (kind:=1) (by decide),AI (by decide),AI (by decide),j8 fc]at this
  simpa [D5]using this
 refine⟨λk y r' hk e=> ?_,λr' m ps hr' e=> ?_,λr' m ps hr' e=> ?_,λr1 r2 m m' ps ps' p h1 h2 hne e1 e2 hp=> ?_⟩
 ·by_cases hkc:k=cell
  ·subst hkc
   rw[BO]at e
   cases e
   exact⟨hz,hr,1,[],at3'⟩
  ·rw[BL hkc,AI (by decide),AI (by decide)]at e
   obtain⟨h1,h2,m,ps,h3⟩:=S.m1 k y r' hk e
   have:r'≠rec:=λy=>S.stand hr fr (y ▸ h3)
   exact⟨h1,h2,m,ps,by rw[at3 this];exact h3⟩
 ·rw[ld]
  by_cases h:r'=rec
  ·subst h
   rw[at3']at e
   cases e
   rw[nl,if_pos rfl]
  ·rw[at3 h]at e
   rw[if_neg λy=>h y.symm]
   exact S.m3 r' m ps hr' e
 ·by_cases h:r'=rec
  ·subst h
   rw[at3']at e
   cases e
   exact⟨List.nodup_nil,(λp hp=>by cases hp),by rw[AI (by decide),AI (by decide),BO]⟩
  ·rw[at3 h]at e
   obtain⟨h1,h2,h3⟩:=S.m4 r' m ps hr' e
   exact⟨h1,λp hp=>by rw[AI (by decide),AI (by decide),AI (by decide),AI (by decide),AI (by decide),AI (by decide)];exact h2 p hp,by rw[AI (by decide),AI (by decide),BL h];exact h3⟩
 ·by_cases h:r1=rec
  ·subst h
   rw[at3']at e1
   cases e1
   cases hp
  ·by_cases h':r2=rec
   ·subst h'
    rw[at3']at e2
    cases e2
    intro hp;cases hp
   ·rw[at3 h]at e1
    rw[at3 h']at e2
    exact S.m5 r1 r2 m m' ps ps' p h1 h2 hne e1 e2 hp
theorem Snd.link(S:Snd X M)(hz:BI z=true)(hr:rec<X.r * X.w)(hc:cell<X.m0)(e3:M 3 rec=.rc m ps)(fc:B0 0 (M 0 cell)=true):Snd X ((M.put 3 rec (.rc (m+1) ps)).put 0 cell (.nm z rec)):=by
 have at3:∀ {r':Nat},r'≠rec->((M.put 3 rec (.rc (m+1) ps)).put 0 cell (.nm z rec)) 3 r'=M 3 r':=λh=>by rw[AI (by decide),BL h]
 have at3':((M.put 3 rec (.rc (m+1) ps)).put 0 cell (.nm z rec)) 3 rec=.rc (m+1) ps:=by rw[AI (by decide),BO]
 have ld:∀ {r':Nat},CO ((M.put 3 rec (.rc (m+1) ps)).put 0 cell (.nm z rec)) X.m0 r'=CO M X.m0 r'+if rec=r' then 1 else 0:=λ{r'}=>by
  have:=KR (M:=M.put 3 rec (.rc (m+1) ps)) (x:=.nm z rec) (rec':=r') hc
  rw[F9 (kind:=3) (by decide),AI (by decide),j8 fc]at this
  simpa [D5]using this
 have old:∀ {r' m':Nat} {ps':List Nat},((M.put 3 rec (.rc (m+1) ps)).put 0 cell (.nm z rec)) 3 r'=.rc m' ps'->∃ m0,M 3 r'=.rc m0 ps'/\m'=m0+if rec=r' then 1 else 0:=λ{r' m' ps'} e=>by
  by_cases h:r'=rec
  ·subst h
   rw[at3']at e
   cases e
   exact⟨m,e3,by rw[if_pos rfl]⟩
  ·rw[at3 h]at e
   exact⟨m',e,by rw[if_neg λy=>h y.symm];rfl⟩
 refine⟨λk y r' hk e=> ?_,λr' m ps hr' e=> ?_,λr' m ps hr' e=> ?_,λr1 r2 m m' ps ps' p h1 h2 hne e1 e2 hp=> ?_⟩
 ·have st:∀ {r'},(∃ m ps,M 3 r'=.rc m ps)->∃ m' ps',((M.put 3 rec (.rc (m+1) ps)).put 0 cell (.nm z rec)) 3 r'=.rc m' ps':=λ{r'} ⟨m',ps',e'⟩=>by
   by_cases h:r'=rec
   ·exact⟨_,_,by rw[h];exact at3'⟩
   ·exact⟨m',ps',by rw[at3 h];exact e'⟩
  by_cases hkc:k=cell
  ·subst hkc
   rw[BO]at e
   cases e
   exact⟨hz,hr,st ⟨m,ps,e3⟩⟩
  ·rw[BL hkc,AI (by decide)]at e
   obtain⟨h1,h2,h3⟩:=S.m1 k y r' hk e
   exact⟨h1,h2,st h3⟩
 ·obtain⟨m0,e0,em⟩:=old e
  rw[ld,em,S.m3 r' m0 ps hr' e0]
 ·obtain⟨m0,e0,em⟩:=old e
  obtain⟨h1,h2,h3⟩:=S.m4 r' m0 ps hr' e0
  exact⟨h1,λp hp=>by rw[AI (by decide),AI (by decide),AI (by decide),AI (by decide)];exact h2 p hp,by rw[AI (by decide),AI (by decide)];exact h3⟩
 ·obtain⟨m1,f1,_⟩:=old e1
  obtain⟨m2,f2,_⟩:=old e2
  exact S.m5 r1 r2 m1 m2 ps ps' p h1 h2 hne f1 f2 hp
end
section
variable{X:SX}{M:Md}{z t:Str}{rec cell m p:Nat}{ps:List Nat}
theorem j9(e:M 0 cell=.nm z rec){r':Nat}:D5 r' (M 0 cell)=decide (rec=r'):=by rw[e];rfl
theorem Snd.cutOne(S:Snd X M)(hr:rec<X.r * X.w)(hc:cell<X.m0)(e0:M 0 cell=.nm z rec)(e3:M 3 rec=.rc m ps)(hm:1<m):Snd X ((M.put 0 cell .no).put 3 rec (.rc (m - 1) ps)):=by
 have at3:∀ {r':Nat},r'≠rec->((M.put 0 cell .no).put 3 rec (.rc (m - 1) ps)) 3 r'=M 3 r':=λh=>by rw[BL h,AI (by decide)]
 have at3':((M.put 0 cell .no).put 3 rec (.rc (m - 1) ps)) 3 rec=.rc (m - 1) ps:=BO
 have ld:∀ {r':Nat},CO ((M.put 0 cell .no).put 3 rec (.rc (m - 1) ps)) X.m0 r'+(if rec=r' then 1 else 0)=CO M X.m0 r':=λ{r'}=>by
  rw[F9 (kind:=3) (by decide)]
  have:=KR (M:=M) (x:=.no) (rec':=r') hc
  rw[j9 e0]at this
  simpa [D5]using this
 have old:∀ {r' m':Nat} {ps':List Nat},((M.put 0 cell .no).put 3 rec (.rc (m - 1) ps)) 3 r'=.rc m' ps'->∃ m0,M 3 r'=.rc m0 ps'/\m'+(if rec=r' then 1 else 0)=m0:=λ{r' m' ps'} e=>by
  by_cases h:r'=rec
  ·subst h
   rw[at3']at e
   cases e
   exact⟨m,e3,by rw[if_pos rfl];omega⟩
  ·rw[at3 h]at e
   exact⟨m',e,by rw[if_neg λy=>h y.symm];rfl⟩
 refine⟨λk y r' hk e=> ?_,λr' m ps hr' e=> ?_,λr' m ps hr' e=> ?_,λr1 r2 m m' ps ps' p h1 h2 hne e1 e2 hp=> ?_⟩
 ·rw[AI (by decide)]at e
  by_cases hkc:k=cell
  ·subst hkc
   rw[BO]at e
   cases e
  ·rw[BL hkc]at e
   obtain⟨h1,h2,m',ps',h3⟩:=S.m1 k y r' hk e
   refine⟨h1,h2,?_⟩
   by_cases h:r'=rec
   ·exact⟨_,_,by rw[h];exact at3'⟩
   ·exact⟨m',ps',by rw[at3 h];exact h3⟩
 ·obtain⟨m0,f0,em⟩:=old e
  have h1:=S.m3 r' m0 ps hr' f0
  have h2:=@ld r'
  omega
 ·obtain⟨m0,f0,em⟩:=old e
  obtain⟨h1,h2,h3⟩:=S.m4 r' m0 ps hr' f0
  exact⟨h1,λp hp=>by rw[AI (by decide),AI (by decide),AI (by decide),AI (by decide)];exact h2 p hp,by rw[AI (by decide),AI (by decide)];exact h3⟩
 ·obtain⟨m1,f1,_⟩:=old e1
  obtain⟨m2,f2,_⟩:=old e2
  exact S.m5 r1 r2 m1 m2 ps ps' p h1 h2 hne f1 f2 hp
theorem Snd.cutAll(S:Snd X M)(hr:rec<X.r * X.w)(hc:cell<X.m0)(e0:M 0 cell=.nm z rec)(e3:M 3 rec=.rc m ps)(hm:m<=1):Snd X ((((M.put 0 cell .no).put 3 rec .no).unmark ps).put 1 rec (.mk 0)):=by
 have at0:∀ {k},((((M.put 0 cell .no).put 3 rec .no).unmark ps).put 1 rec (.mk 0)) 0 k=(M.put 0 cell .no) 0 k:=λ{k}=>by rw[AI (by decide),D4,if_neg (by omega),AI (by decide)]
 have at3:∀ {r':Nat},r'≠rec->((((M.put 0 cell .no).put 3 rec .no).unmark ps).put 1 rec (.mk 0)) 3 r'=M 3 r':=λh=>by rw[AI (by decide),D4,if_neg (by omega),BL h,AI (by decide)]
 have at3':((((M.put 0 cell .no).put 3 rec .no).unmark ps).put 1 rec (.mk 0)) 3 rec=.no:=by rw[AI (by decide),D4,if_neg (by omega),BO]
 have at2:∀ {p},¬ p∈ps->((((M.put 0 cell .no).put 3 rec .no).unmark ps).put 1 rec (.mk 0)) 2 p=M 2 p:=λh=>by rw[AI (by decide),D4,if_neg λy=>h y.2,AI (by decide),AI (by decide)]
 have at4:∀ {p},((((M.put 0 cell .no).put 3 rec .no).unmark ps).put 1 rec (.mk 0)) 4 p=M 4 p:=λ{p}=>by rw[AI (by decide),D4,if_neg (by omega),AI (by decide),AI (by decide)]
 have at1:∀ {r':Nat},r'≠rec->((((M.put 0 cell .no).put 3 rec .no).unmark ps).put 1 rec (.mk 0)) 1 r'=M 1 r':=λh=>by rw[BL h,D4,if_neg (by omega),AI (by decide),AI (by decide)]
 have ld:∀ {r':Nat},CO ((((M.put 0 cell .no).put 3 rec .no).unmark ps).put 1 rec (.mk 0)) X.m0 r'+(if rec=r' then 1 else 0)=CO M X.m0 r':=λ{r'}=>by
  rw[F9 (kind:=1) (by decide),Tp,F9 (kind:=3) (by decide)]
  have:=KR (M:=M) (x:=.no) (rec':=r') hc
  rw[j9 e0]at this
  simpa [D5]using this
 have l0:CO ((((M.put 0 cell .no).put 3 rec .no).unmark ps).put 1 rec (.mk 0)) X.m0 rec=0:=by
  have h1:=S.m3 rec m ps hr e3
  have h2:=@ld rec
  rw[if_pos rfl]at h2
  omega
 have old:∀ {r' m':Nat} {ps':List Nat},((((M.put 0 cell .no).put 3 rec .no).unmark ps).put 1 rec (.mk 0)) 3 r'=.rc m' ps'->r'≠rec/\M 3 r'=.rc m' ps':=λ{r' m' ps'} e=>by
  have h:r'≠rec:=λh=>by rw[h,at3']at e;cases e
  exact⟨h,by rw[at3 h]at e;exact e⟩
 refine⟨λk y r' hk e=> ?_,λr' m' ps' hr' e=> ?_,λr' m' ps' hr' e=> ?_,λr1 r2 m1 m2 ps1 ps2 p h1 h2 hne e1 e2 hp=> ?_⟩
 ·have hne:r'≠rec:=λh=>by rw[h]at e;exact WB l0 hk e
  rw[at0]at e
  by_cases hkc:k=cell
  ·subst hkc
   rw[BO]at e
   cases e
  ·rw[BL hkc]at e
   obtain⟨h1,h2,m',ps',h3⟩:=S.m1 k y r' hk e
   exact⟨h1,h2,m',ps',by rw[at3 hne];exact h3⟩
 ·obtain⟨hne,f0⟩:=old e
  have h1:=S.m3 r' m' ps' hr' f0
  have h2:=@ld r'
  rw[if_neg λy=>hne y.symm]at h2
  omega
 ·obtain⟨hne,f0⟩:=old e
  obtain⟨h1,h2,h3⟩:=S.m4 r' m' ps' hr' f0
  refine⟨h1,λp hp=> ?_,by rw[at1 hne];exact h3⟩
  rw[at2 (S.m5 r' rec m' m ps' ps p hr' hr hne f0 e3 hp),at4]
  exact h2 p hp
 ·obtain⟨_,f1⟩:=old e1
  obtain⟨_,f2⟩:=old e2
  exact S.m5 r1 r2 m1 m2 ps1 ps2 p h1 h2 hne f1 f2 hp
theorem Snd.unused(S:Snd X M)(fp:B0 2 (M 2 p)=true){r' m':Nat}{ps':List Nat}(hr:r'<X.r * X.w)(e:M 3 r'=.rc m' ps'):¬ p∈ps':=λhp=>by
 have:=((S.m4 r' m' ps' hr e).2.1 p hp).2.1
 rw[this]at fp
 simp[B0]at fp
theorem Snd.putp(S:Snd X M)(hr:rec<X.r * X.w)(hp:p<X.c * X.w)(ht:PyData.strOk t=true)(e3:M 3 rec=.rc m ps)(fp:B0 2 (M 2 p)=true):Snd X (((M.put 2 p (.mk 1)).put 4 p (.tx t)).put 3 rec (.rc m (ps++[p]))):=by
 have at3:∀ {r':Nat},r'≠rec->(((M.put 2 p (.mk 1)).put 4 p (.tx t)).put 3 rec (.rc m (ps++[p]))) 3 r'=M 3 r':=λh=>by rw[BL h,AI (by decide),AI (by decide)]
 have at3':(((M.put 2 p (.mk 1)).put 4 p (.tx t)).put 3 rec (.rc m (ps++[p]))) 3 rec=.rc m (ps++[p]):=BO
 have at1:∀ {r':Nat},(((M.put 2 p (.mk 1)).put 4 p (.tx t)).put 3 rec (.rc m (ps++[p]))) 1 r'=M 1 r':=λ{r'}=>by rw[AI (by decide),AI (by decide),AI (by decide)]
 have at24:∀ {p'},p'≠p->(((M.put 2 p (.mk 1)).put 4 p (.tx t)).put 3 rec (.rc m (ps++[p]))) 2 p'=M 2 p'/\(((M.put 2 p (.mk 1)).put 4 p (.tx t)).put 3 rec (.rc m (ps++[p]))) 4 p'=M 4 p':=λh=>⟨by rw[AI (by decide),AI (by decide),BL h],by rw[AI (by decide),BL h,AI (by decide)]⟩
 have at2p:(((M.put 2 p (.mk 1)).put 4 p (.tx t)).put 3 rec (.rc m (ps++[p]))) 2 p=.mk 1:=by rw[AI (by decide),AI (by decide),BO]
 have at4p:(((M.put 2 p (.mk 1)).put 4 p (.tx t)).put 3 rec (.rc m (ps++[p]))) 4 p=.tx t:=by rw[AI (by decide),BO]
 have ld:∀ {r':Nat},CO (((M.put 2 p (.mk 1)).put 4 p (.tx t)).put 3 rec (.rc m (ps++[p]))) X.m0 r'=CO M X.m0 r':=λ{r'}=>by rw[F9 (by decide),F9 (by decide),F9 (by decide)]
 have old:∀ {r' m':Nat} {ps':List Nat},(((M.put 2 p (.mk 1)).put 4 p (.tx t)).put 3 rec (.rc m (ps++[p]))) 3 r'=.rc m' ps'->∃ ps0,M 3 r'=.rc m' ps0/\((r'=rec/\ps'=ps0++[p])\/(r'≠rec/\ps'=ps0)):=λ{r' m' ps'} e=>by
  by_cases h:r'=rec
  ·subst h
   rw[at3']at e
   cases e
   exact⟨ps,e3,.inl ⟨rfl,rfl⟩⟩
  ·rw[at3 h]at e
   exact⟨ps',e,.inr ⟨h,rfl⟩⟩
 refine⟨λk y r' hk e=> ?_,λr' m' ps' hr' e=> ?_,λr' m' ps' hr' e=> ?_,λr1 r2 m1 m2 ps1 ps2 x h1 h2 hne e1 e2 hx=> ?_⟩
 ·rw[AI (by decide),AI (by decide),AI (by decide)]at e
  obtain⟨h1,h2,m',ps',h3⟩:=S.m1 k y r' hk e
  refine⟨h1,h2,?_⟩
  by_cases h:r'=rec
  ·exact⟨_,_,by rw[h];exact at3'⟩
  ·exact⟨m',ps',by rw[at3 h];exact h3⟩
 ·obtain⟨ps0,f0,_⟩:=old e
  rw[ld]
  exact S.m3 r' m' ps0 hr' f0
 ·obtain⟨ps0,f0,hc⟩:=old e
  obtain⟨h1,h2,h3⟩:=S.m4 r' m' ps0 hr' f0
  have hno:=S.unused fp hr' f0
  have hall:∀ x∈ps0,x<X.c * X.w/\(((M.put 2 p (.mk 1)).put 4 p (.tx t)).put 3 rec (.rc m (ps++[p]))) 2 x=.mk 1/\∃ t',(((M.put 2 p (.mk 1)).put 4 p (.tx t)).put 3 rec (.rc m (ps++[p]))) 4 x=.tx t'/\PyData.strOk t'=true:=λx hx=>by
   have hxp:x≠p:=λy=>hno (y ▸ hx)
   rw[(at24 hxp).1,(at24 hxp).2]
   exact h2 x hx
  refine⟨?_,?_,by rw[at1];exact h3⟩
  ·rcases hc with⟨_,rfl⟩ | ⟨_,rfl⟩
   ·exact List.nodup_append.mpr ⟨h1,List.nodup_cons.mpr ⟨List.not_mem_nil,List.nodup_nil⟩,λx hx y hy=>by rw[List.mem_singleton.mp hy];exact λz=>hno (z ▸ hx)⟩
   ·exact h1
  ·rcases hc with⟨_,rfl⟩ | ⟨_,rfl⟩
   ·intro x hx
    rcases List.mem_append.mp hx with hx | hx
    ·exact hall x hx
    ·rw[List.mem_singleton.mp hx]
     exact⟨hp,at2p,t,at4p,ht⟩
   ·exact hall
 ·obtain⟨q1,f1,c1⟩:=old e1
  obtain⟨q2,f2,c2⟩:=old e2
  have n1:=S.unused fp h1 f1
  have n2:=S.unused fp h2 f2
  rcases c1 with⟨ha,rfl⟩ | ⟨ha,rfl⟩
  ·rcases c2 with⟨hb,rfl⟩ | ⟨hb,rfl⟩
   ·exact absurd (ha.trans hb.symm) hne
   ·rcases List.mem_append.mp hx with hx | hx
    ·exact S.m5 r1 r2 m1 m2 q1 _ x h1 h2 hne f1 f2 hx
    ·rw[List.mem_singleton.mp hx];exact n2
  ·rcases c2 with⟨hb,rfl⟩ | ⟨hb,rfl⟩
   ·intro hx2
    rcases List.mem_append.mp hx2 with hx2 | hx2
    ·exact S.m5 r1 r2 m1 m2 _ q2 x h1 h2 hne f1 f2 hx hx2
    ·rw[List.mem_singleton.mp hx2]at hx;exact n1 hx
   ·exact S.m5 r1 r2 m1 m2 _ _ x h1 h2 hne f1 f2 hx
theorem Snd.few(S:Snd X M)(hr:rec<X.r * X.w)(e3:M 3 rec=.rc m ps):ps.length<=X.c * X.w:=by
 obtain⟨h1,h2,_⟩:=S.m4 rec m ps hr e3
 have:=List.Nodup.length_le_of_subset (l₂:=List.range (X.c * X.w)) h1 λp hp=>List.mem_range.mpr (h2 p hp).1
 simpa using this
end
theorem Tq{b d:Addr}{xs ys:List V}(h1:H b=some (.tup xs))(h2:H d=some (.tup ys))(hl:xs.length+ys.length<=1000)(q:∀ p H',Same H H'->H' p=some (.tup (xs++ys))->Q (.ref p) H'):BN K (.ref b) (.ref d) H Q:=by
 by_cases hy:ys=[]
 ·subst hy
  rw[SQ]
  by_cases hx:xs=[]
  ·subst hx
   exact .inr (.inr ⟨b,d,[],rfl,rfl,SqT.of h1,SqT.of h2,q d H (Same.refl _) h2⟩)
  ·exact .inr (.inl ⟨b,d,xs,[],rfl,rfl,SqT.of h1,SqT.of h2,hx,BV _ (by omega),λ_=>q b H (Same.refl _) (by rw[h1];simp),λe=>absurd rfl e⟩)
 ·exact cat_tup h1 h2 hy hl q
theorem Tv(h:N4 K a vs H Q E):VU K a (λ_=>E) (A9 Q) (A7 ["self","name","at","record","pieces","without"] vs) H:=by
 obtain⟨X,cs,tks,M,z,x,rfl,T4,I,hcs,q,q1⟩:=h
 have T4':=T4
 obtain⟨dx,ho⟩:=I.ob
 push_cast[VU,↓Fk]
 refine⟨_,_,ho,BW (by decide +kernel),X,cs,tks,M,z,rfl,T4,I,λcell rec ec hcl eM H1 s1=> ?_,λeo H3 s3=>q1 eo _ s3⟩
 obtain⟨hr,m,ps,eR,hps,q2,q3⟩:=q cell rec ec hcl eM
 push_cast[↓Fl]
 refine⟨_,_,s1 _ _ ho,BW (by decide +kernel),X,cs,tks,M,rec,rfl,T4,I.same s1,hr,λv H2 rv s2=> ?_⟩
 rw[eR]at rv
 obtain⟨t0,u0,rfl,et0,eu0⟩:=rv
 refine DD et0 (n:=1) rfl rfl ?_
 have s12:=s1.trans s2
 push_cast[↓Fp,↓Fm]
 split
 ·rename_i h0
  refine⟨ps.length,.inr ⟨_,SqT.of eu0,by simp[BC]⟩,?_⟩
  split
  ·exact⟨by decide,q2 (by omega) _ s12⟩
  ·obtain⟨k,rfl⟩:∃ k:Nat,x=k:=⟨x.toNat,by omega⟩
   have hk:k<ps.length:=by omega
   have ek:=List.getElem?_eq_getElem hk
   obtain⟨hp,q3⟩:=q3 k _ rfl ek
   push_cast[↓Fq]
   refine⟨_,_,s12 _ _ ho,BW (by decide +kernel),?_⟩
   have e1:HT.sIx (BC ps).length (BC ps).length (some (k:Int))=k:=by
    show(if(k:Int)<0 then((k:Int)+((BC ps).length:Int)).toNat else min (k:Int).toNat (BC ps).length)=_
    rw[if_neg (by omega)]
    simp[BC]
    omega
   have e2:HT.sIx (BC ps).length 0 (some ((k:Int)+1))=k+1:=by
    show(if((k:Int)+1)<0 then((k:Int)+1+((BC ps).length:Int)).toNat else min ((k:Int)+1).toNat (BC ps).length)=_
    rw[if_neg (by omega)]
    simp[BC]
    omega
   have hnl:(BC ps).length=ps.length:=by simp[BC]
   refine .inr ⟨u0,_,rfl,SqT.of eu0,λy=>by rw[e1]at y;omega,λp1 hp1=> ?_⟩
   have sa:=AV (o:=.tup (DZ (BC ps) none (some (k:Int)))) hp1
   refine .inr ⟨u0,_,rfl,SqT.of (sa _ _ eu0),λy=>by rw[e2]at y;omega,λp2 hp2=> ?_⟩
   have sb:=AV (o:=.tup (DZ (BC ps) (some ((k:Int)+1)) none)) hp2
   have c1:DZ (BC ps) none (some (k:Int))=BC (ps.take k):=by rw[wI _ (by omega),Int.toNat_natCast];simp[BC]
   have c2:DZ (BC ps) (some ((k:Int)+1)) none=BC (ps.drop (k+1)):=by rw[wJ _ (by omega),show((k:Int)+1).toNat=k+1 by omega];simp[BC]
   rw[c1,c2]at sb
   rw[c1]at sa
   rw[c1,c2]
   have hl1:(BC (ps.take k)).length+(BC (ps.drop (k+1))).length<=1000:=by simp[BC];omega
   refine Tq (sb _ _ AJ) AJ hl1 λpp H5 s5 epp=>⟨by decide,λl5 hl5=> ?_⟩
   have sc:=AV (o:=.lst []) hl5
   have s6:=(((s12.trans sa).trans sb).trans s5).trans sc
   have epp':H5 pp=some (.tup (BC (ps.eraseIdx k))):=by rw[epp,List.eraseIdx_eq_take_drop_succ];simp[BC]
   have hel:(ps.eraseIdx k).length<=100:=by rw[List.length_eraseIdx];split<;>omega
   refine⟨X,cs,tks,M,rec,m,ps,ps.eraseIdx k,pp,l5,[],rfl,T4',I.same s6,hr,eR,sc _ _ epp',hel,AJ,by simp,(λx hx=>by cases hx),by omega,λc1' H7 I7 sb7=> ?_⟩
   obtain⟨T,TP,TL,TS⟩:=T4
   obtain⟨dx7,ho7⟩:=I7.ob
   obtain⟨dl7,el7⟩:=I7.ly.ob
   obtain⟨db7,eb7⟩:=I7.bk.bk.ob
   have k7:E6 _ H7:=JC sb7 λx hx=>(I.same s6).bk.loose hx
   have eu7:=k7 _ _ ((((sa.trans sb).trans s5).trans sc) _ _ eu0)
   push_cast[↓Fv]
   refine⟨_,_,_,ho7,TS.cl,TS.n2,_,GP,X.S.A.b,rfl,_,_,eb7,DM (by decide +kernel),_,_,_,ho7,TS.cl,TS.n1,_,F6,X.S.lp,rfl,_,_,el7,CA (by decide +kernel),DD eu7 (n:=k) rfl (by unfold BC;rw[List.getElem?_map,ek];rfl) ?_⟩
   refine⟨X.S.lp,X.n,X.r,X.c,X.w,ps[k],rfl,TL,I7.ly,λu hu=>⟨by decide,λl8 hl8=> ?_⟩⟩
   have hm2:A5 X.n X.r X.c X.w 2=X.c * X.w:=by simp[A5]
   have sd:=AV (o:=.tup [.int (X.n+X.r+X.c+X.r+(ps[k]:Int) / X.w),.int ((ps[k]:Int) % X.w)]) hu
   have se:=AV (o:=.lst [.int cs.length]) hl8
   have f1:=se _ _ (show upd H7 u (.tup [.int (X.n+X.r+X.c+X.r+(ps[k]:Int) / X.w),.int ((ps[k]:Int) % X.w)]) u=some (.tup [.int (BH X.n X.r X.c X.w 2 ps[k]:Nat),.int (ps[k] % X.w:Nat)]) by rw[AJ];simp[BH])
   refine F7 (ns:=[(cs.length:Int)]) T4' (I7.same (sd.trans se)) (kind:=2) (x:=.mk 0) (by decide) (by rw[hm2];exact hp) f1 AJ (by simp) (by simp;omega) (λx hx=>by rw[List.mem_singleton.mp hx];exact⟨by omega,by simp;omega⟩) trivial rfl (Nat.zero_le _) λc2' H9 I9 sb9=>⟨by decide,λl hl=> ?_⟩
   have sl:=AV (o:=.lst [V.int cs.length,V.int ((cs++[c1']).length:Nat)]) hl
   have sbH:SameBut (λx=>X.S.A.F x\/x=X.S.tk) H H9:=λy o e n=>sb9 _ _ ((sd.trans se) _ _ (sb7 _ _ (s6 _ _ e) λz=>n (.inl z))) λz=>n (.inl z)
   exact q3 [c1',c2'] _ l _ rfl (JD I9 sbH hl) (by rw[AJ];simp[BC,List.range_succ]) (by have:=I9.same sl;simpa using this) λy o e n=>sl _ _ (sbH _ _ e n)
 ·exact⟨by decide,q2 (by omega) _ s12⟩
theorem Tw{M:Md}{m cell rec:Nat}{x:CV}{y z:Str}(hyz:y≠z)(fc:B0 0 (M 0 cell)=true):cellOf ((M.put 3 rec x).put 0 cell (.nm z rec)) m y=cellOf M m y:=by
 unfold cellOf
 refine V9 λk _=> ?_
 unfold C2
 by_cases hk:k=cell
 ·subst hk
  rw[BO]
  cases e:M 0 k with
  | nm z' r'=>rw[e]at fc;simp[B0]at fc
  | _=>simp;exact λh=>hyz h.symm
 ·rw[BL hk,AI (by decide)]
theorem Tx(h:N5 K a vs H Q E):VW K a (λ_=>E) (A9 Q) (A7 ["self","old","new","linked","record","gone"] vs) H:=by
 obtain⟨X,cs,tks,M,y,z,rfl,T4,I,hyl,hzl,hcs,q,q1,q2,q3,q4⟩:=h
 obtain⟨dx,ho⟩:=I.ob
 push_cast[VW,↓Fy]
 refine⟨_,_,ho,BW (by decide +kernel),X,cs,tks,M,y,z,rfl,T4,I,hyl,hzl,by omega,λhy hz hc old rec cell eo hol e0=> ?_,q1,q2,q3,q4⟩
 obtain⟨hr,m,ps,e3,hps,q⟩:=q hy hz hc old rec cell eo hol e0
 refine⟨hr,m,ps,e3,hps,λec hcl ex tks1 l1 H1 hex hl1 el1 I1 sb1=> ?_⟩
 have q:=q ec hcl
 have hyz:y≠z:=λh=>by rw[h,hc]at eo;cases eo
 have fc:B0 0 (M 0 cell)=true:=FN ec
 have hco:old≠cell:=λh=>by rw[<-h,e0]at fc;simp[B0]at fc
 have ec1:cellOf ((M.put 3 rec (.rc (m+1) ps)).put 0 cell (.nm z rec)) X.m0 y=some old:=by rw[Tw hyz fc];exact eo
 have e01:((M.put 3 rec (.rc (m+1) ps)).put 0 cell (.nm z rec)) 0 old=.nm y rec:=by rw[BL hco,AI (by decide)];exact e0
 obtain⟨dx1,ho1⟩:=I1.ob
 have fl1:¬ X.S.A.F l1/\l1≠X.S.tk:=⟨λz=>by
  have:=I.bk.off hl1
  exact this z,λz=>by rw[z,I.tk]at hl1;cases hl1⟩
 push_cast[↓Fz]
 refine⟨_,_,ho1,BW (by decide +kernel),X,_,tks1,_,y,rfl,T4,I1,λcell' k' ec' hc' eM' H2 s2=> ?_,λe=>by rw[ec1]at e;cases e⟩
 rw[ec1]at ec'
 cases ec'
 rw[e01]at eM'
 cases eM'
 have I2:=I1.same s2
 push_cast[↓Gb]
 refine⟨_,_,s2 _ _ ho1,BW (by decide +kernel),C3 (SqL.of (s2 _ _ el1)) (n:=1) (v:=.int (cs.length+1:Nat)) rfl (by simp[BC,List.range_succ]) ⟨by decide,λl3 hl3=> ?_⟩⟩
 have s3:=AV (o:=.lst [V.int (cs.length+1:Nat)]) hl3
 have I3:=I2.same s3
 have e33:((M.put 3 rec (.rc (m+1) ps)).put 0 cell (.nm z rec)) 3 rec=.rc (m+1) ps:=by rw[AI (by decide),BO]
 refine⟨X,_,tks1,_,old,y,l3,[((cs.length+1:Nat):Int)],rfl,T4,I3,ec1,hol,AJ,by simp,(λx hx=>by rw[List.mem_singleton.mp hx];exact⟨by omega,by simp[hex]⟩),by simp[hex];omega,λc3 H4 I4 sb4=> ?_⟩
 obtain⟨dx4,ho4⟩:=I4.ob
 have hlen:(cs++ex).length=cs.length+2:=by simp[hex]
 rw[hlen]
 have el4:=sb4 _ _ (s3 _ _ (s2 _ _ el1)) λz=>z.elim fl1.1 fl1.2
 push_cast[↓Gc]
 refine⟨_,_,ho4,BW (by decide +kernel),by decide,λl5 hl5=> ?_⟩
 have s5:=AV (o:=.lst [V.int (cs.length+2:Nat)]) hl5
 have e34:(((M.put 3 rec (.rc (m+1) ps)).put 0 cell (.nm z rec)).put 0 old .no) 3 rec=.rc (m+1) ps:=by rw[AI (by decide)];exact e33
 refine⟨X,_,_,_,rec,m+1,m,-1,ps,l5,[((cs.length+2:Nat):Int)],rfl,T4,I4.same s5,hr,e34,by omega,hps,AJ,by simp,(λx hx=>by rw[List.mem_singleton.mp hx];exact⟨by omega,by simp[hex]⟩),by simp[hex];omega,λc4 H6 I6 sb6=>⟨by decide,λl6 hl6=>.inl ?_⟩⟩
 have el6:=sb6 _ _ (s5 _ _ el4) fl1.1
 have s6:=AV (o:=.lst [V.int (cs.length+2:Nat),V.int ((cs++ex++[c3]).length:Nat)]) hl6
 refine⟨l1,l6,_,_,rfl,rfl,s6 _ _ el6,AJ,BV _ (by simp[BC]),λl hl=> ?_⟩
 have sl:=AV (o:=.lst (BC ((List.range 2).map (cs.length+·))++[V.int (cs.length+2:Nat),V.int ((cs++ex++[c3]).length:Nat)])) hl
 have sbH:SameBut (λx=>X.S.A.F x\/x=X.S.tk) H (upd H6 l6 (.lst [V.int (cs.length+2:Nat),V.int ((cs++ex++[c3]).length:Nat)])):=λb o e n=>s6 _ _ (sb6 _ _ (s5 _ _ (sb4 _ _ (s3 _ _ (s2 _ _ (sb1 _ _ e n))) n)) λz=>n (.inl z))
 exact q (ex++[c3]++[c4]) _ l _ (by simp[hex]) (JD (I6.same s6) sbH hl) (by rw[AJ];simp[BC,List.range_succ,hex]) (by have:=(I6.same s6).same sl;simpa [List.append_assoc]using this) λb o e n=>sl _ _ (sbH _ _ e n)
theorem Ty(h:N4 K a vs H Q E):vs.length=3:=by
 obtain⟨_,_,_,_,_,_,rfl,_⟩:=h
 rfl
theorem Tz(h:N5 K a vs H Q E):vs.length=3:=by
 obtain⟨_,_,_,_,_,_,rfl,_⟩:=h
 rfl
section
variable{X:SX}{M:Md}{z t:Str}{rec cell m p k:Nat}{ps:List Nat}
theorem Ub(h:ps.Nodup)(ek:ps[k]? =some p):¬ p∈ps.eraseIdx k:=λhp=>by
 obtain⟨hk,e⟩:=List.getElem?_eq_some_iff.mp ek
 rw[List.mem_eraseIdx_iff_getElem]at hp
 obtain⟨i,hi,hne,ei⟩:=hp
 exact hne ((List.getElem_inj h).mp (ei.trans e.symm))
theorem Snd.takep(S:Snd X M)(hr:rec<X.r * X.w)(e3:M 3 rec=.rc m ps)(ek:ps[k]? =some p):Snd X ((M.put 3 rec (.rc m (ps.eraseIdx k))).put 2 p (.mk 0)):=by
 obtain⟨n0,al,mk1⟩:=S.m4 rec m ps hr e3
 have hp:p∈ps:=List.mem_of_getElem? ek
 have hno:=Ub n0 ek
 have at3:∀ {r':Nat},r'≠rec->((M.put 3 rec (.rc m (ps.eraseIdx k))).put 2 p (.mk 0)) 3 r'=M 3 r':=λh=>by rw[AI (by decide),BL h]
 have at3':((M.put 3 rec (.rc m (ps.eraseIdx k))).put 2 p (.mk 0)) 3 rec=.rc m (ps.eraseIdx k):=by rw[AI (by decide),BO]
 have at2:∀ {x},x≠p->((M.put 3 rec (.rc m (ps.eraseIdx k))).put 2 p (.mk 0)) 2 x=M 2 x:=λh=>by rw[BL h,AI (by decide)]
 have ld:∀ {r':Nat},CO ((M.put 3 rec (.rc m (ps.eraseIdx k))).put 2 p (.mk 0)) X.m0 r'=CO M X.m0 r':=λ{r'}=>by rw[F9 (by decide),F9 (by decide)]
 have old:∀ {r' m':Nat} {ps':List Nat},((M.put 3 rec (.rc m (ps.eraseIdx k))).put 2 p (.mk 0)) 3 r'=.rc m' ps'->∃ ps0,M 3 r'=.rc m' ps0/\(∀ x∈ps',x∈ps0)/\(ps0.Nodup->ps'.Nodup)/\((r'=rec/\ps'=ps.eraseIdx k)\/(r'≠rec/\ps'=ps0)):=λ{r' m' ps'} e=>by
  by_cases h:r'=rec
  ·subst h
   rw[at3']at e
   cases e
   exact⟨ps,e3,λx hx=>List.mem_of_mem_eraseIdx hx,λh=>h.sublist (List.eraseIdx_sublist _ _),.inl ⟨rfl,rfl⟩⟩
  ·rw[at3 h]at e
   exact⟨ps',e,λ_ hx=>hx,id,.inr ⟨h,rfl⟩⟩
 refine⟨λj y r' hj e=> ?_,λr' m' ps' hr' e=> ?_,λr' m' ps' hr' e=> ?_,λr1 r2 m1 m2 ps1 ps2 x h1 h2 hne e1 e2 hx=> ?_⟩
 ·rw[AI (by decide),AI (by decide)]at e
  obtain⟨h1,h2,m',ps',h3⟩:=S.m1 j y r' hj e
  refine⟨h1,h2,?_⟩
  by_cases h:r'=rec
  ·exact⟨_,_,by rw[h];exact at3'⟩
  ·exact⟨m',ps',by rw[at3 h];exact h3⟩
 ·obtain⟨ps0,f0,_⟩:=old e
  rw[ld]
  exact S.m3 r' m' ps0 hr' f0
 ·obtain⟨ps0,f0,sub,nd,hc⟩:=old e
  obtain⟨h1,h2,h3⟩:=S.m4 r' m' ps0 hr' f0
  refine⟨nd h1,λx hx=> ?_,by rw[AI (by decide),AI (by decide)];exact h3⟩
  have hxp:x≠p:=λy=>by
   rcases hc with⟨_,rfl⟩ | ⟨hne,rfl⟩
   ·exact hno (y ▸ hx)
   ·exact S.m5 rec r' m m' ps _ p hr hr' (Ne.symm hne) e3 f0 hp (y ▸ hx)
  rw[at2 hxp,AI (by decide),AI (by decide)]
  exact h2 x (sub x hx)
 ·obtain⟨q1,f1,sub1,_⟩:=old e1
  obtain⟨q2,f2,sub2,_⟩:=old e2
  exact λhx2=>S.m5 r1 r2 m1 m2 q1 q2 x h1 h2 hne f1 f2 (sub1 x hx) (sub2 x hx2)
theorem Snd.move{old:Nat}{y:Str}(S:Snd X M)(hz:BI z=true)(hr:rec<X.r * X.w)(hc:cell<X.m0)(ho:old<X.m0)(e0:M 0 old=.nm y rec)(e3:M 3 rec=.rc m ps)(fc:B0 0 (M 0 cell)=true)(hm:1<=m):Snd X ((((M.put 3 rec (.rc (m+1) ps)).put 0 cell (.nm z rec)).put 0 old .no).put 3 rec (.rc m ps)):=by
 have hco:old≠cell:=λh=>by rw[<-h,e0]at fc;simp[B0]at fc
 have:=(S.link hz hr hc e3 fc).cutOne (cell:=old) (z:=y) (m:=m+1) (ps:=ps) hr ho (by rw[BL hco,AI (by decide)];exact e0) (by rw[AI (by decide),BO]) (by omega)
 rwa [Nat.add_sub_cancel]at this
theorem Uni.new(U:Uni X M)(h:cellOf M X.m0 z=none):Uni X (M.put 0 cell (.nm z rec)):=by
 have no:∀ {k r'},k<X.m0->M 0 k≠.nm z r':=λ{k r'} hk e=>by
  have:=List.find?_eq_none.mp h k (List.mem_range.mpr hk)
  unfold C2 at this
  rw[e]at this
  simp at this
 intro k k' y r r' hk hk' e e'
 by_cases h1:k=cell
 ·by_cases h2:k'=cell
  ·rw[h1,h2]
  ·subst h1
   rw[BO]at e
   cases e
   rw[BL h2]at e'
   exact absurd e' (no hk')
 ·rw[BL h1]at e
  by_cases h2:k'=cell
  ·subst h2
   rw[BO]at e'
   cases e'
   exact absurd e (no hk)
  ·rw[BL h2]at e'
   exact U k k' y r r' hk hk' e e'
theorem Uni.less(U:Uni X M):Uni X (M.put 0 cell .no):=by
 intro k k' y r r' hk hk' e e'
 have h1:k≠cell:=λh=>by rw[h,BO]at e;cases e
 have h2:k'≠cell:=λh=>by rw[h,BO]at e';cases e'
 rw[BL h1]at e
 rw[BL h2]at e'
 exact U k k' y r r' hk hk' e e'
theorem Uni.else{kind j:Nat}{x:CV}(U:Uni X M)(h:kind≠0):Uni X (M.put kind j x):=by
 intro k k' y r r' hk hk' e e'
 rw[AI h.symm]at e e'
 exact U k k' y r r' hk hk' e e'
theorem Uni.unmark(U:Uni X M):Uni X (M.unmark ps):=by
 intro k k' y r r' hk hk' e e'
 rw[D4,if_neg (by omega)]at e e'
 exact U k k' y r r' hk hk' e e'
end
section
variable{X:SX}{M:Md}{z t:Str}{rec cell m p k:Nat}{ps:List Nat}
theorem Tight.make(T:Tight X M)(S:Snd X M)(hr:rec<X.r * X.w)(fr:B0 1 (M 1 rec)=true):Tight X (((M.put 1 rec (.mk 1)).put 3 rec (.rc 1 [])).put 0 cell (.nm z rec)):=by
 refine⟨λr' h1 e=> ?_,λp hp e=> ?_⟩
 ·by_cases h:r'=rec
  ·exact⟨1,[],by rw[h,AI (by decide),BO]⟩
  ·rw[AI (by decide),AI (by decide),BL h]at e
   obtain⟨m,ps,e3⟩:=T.rcs r' h1 e
   exact⟨m,ps,by rw[AI (by decide),BL h,AI (by decide)];exact e3⟩
 ·rw[AI (by decide),AI (by decide),AI (by decide)]at e
  obtain⟨r',m,ps,h1,e3,h2⟩:=T.pc p hp e
  have h:r'≠rec:=λy=>S.stand hr fr (y ▸ e3)
  exact⟨r',m,ps,h1,by rw[AI (by decide),BL h,AI (by decide)];exact e3,h2⟩
theorem Tight.count{m':Nat}{x:CV}(T:Tight X M)(e3:M 3 rec=.rc m ps):Tight X ((M.put 3 rec (.rc m' ps)).put 0 cell x):=by
 refine⟨λr' h1 e=> ?_,λp hp e=> ?_⟩
 ·rw[AI (by decide),AI (by decide)]at e
  obtain⟨m1,ps1,e1⟩:=T.rcs r' h1 e
  by_cases h:r'=rec
  ·exact⟨m',ps,by rw[h,AI (by decide),BO]⟩
  ·exact⟨m1,ps1,by rw[AI (by decide),BL h];exact e1⟩
 ·rw[AI (by decide),AI (by decide)]at e
  obtain⟨r',m1,ps1,h1,e1,h2⟩:=T.pc p hp e
  by_cases h:r'=rec
  ·subst h
   rw[e3]at e1
   cases e1
   exact⟨r',m',ps,h1,by rw[AI (by decide),BO],h2⟩
  ·exact⟨r',m1,ps1,h1,by rw[AI (by decide),BL h];exact e1,h2⟩
theorem Tight.count'{m':Nat}{x:CV}(T:Tight X M)(e3:M 3 rec=.rc m ps):Tight X ((M.put 0 cell x).put 3 rec (.rc m' ps)):=by
 have:=T.count (cell:=cell) (x:=x) (m':=m') e3
 have e:(M.put 0 cell x).put 3 rec (.rc m' ps)=(M.put 3 rec (.rc m' ps)).put 0 cell x:=by
  funext i j
  unfold Md.put
  by_cases h1:i=3/\j=rec
  ·rw[if_pos h1,if_neg (by omega),if_pos h1]
  ·rw[if_neg h1]
   by_cases h2:i=0/\j=cell
   ·rw[if_pos h2,if_pos h2]
   ·rw[if_neg h2,if_neg h2,if_neg h1]
 rw[e]
 exact this
theorem Tight.cutAll(T:Tight X M)(S:Snd X M)(hr:rec<X.r * X.w)(e3:M 3 rec=.rc m ps):Tight X ((((M.put 0 cell .no).put 3 rec .no).unmark ps).put 1 rec (.mk 0)):=by
 have at3:∀ {r':Nat},r'≠rec->((((M.put 0 cell .no).put 3 rec .no).unmark ps).put 1 rec (.mk 0)) 3 r'=M 3 r':=λh=>by rw[AI (by decide),D4,if_neg (by omega),BL h,AI (by decide)]
 refine⟨λr' h1 e=> ?_,λp hp e=> ?_⟩
 ·have h:r'≠rec:=λy=>by rw[y,BO]at e;cases e
  rw[BL h,D4,if_neg (by omega),AI (by decide),AI (by decide)]at e
  obtain⟨m1,ps1,e1⟩:=T.rcs r' h1 e
  exact⟨m1,ps1,by rw[at3 h];exact e1⟩
 ·rw[AI (by decide),D4]at e
  by_cases hps:p∈ps
  ·rw[if_pos ⟨rfl,hps⟩]at e;cases e
  ·rw[if_neg λy=>hps y.2,AI (by decide),AI (by decide)]at e
   obtain⟨r',m1,ps1,h1,e1,h2⟩:=T.pc p hp e
   have h:r'≠rec:=λy=>by
    subst y
    rw[e3]at e1
    cases e1
    exact hps h2
   exact⟨r',m1,ps1,h1,by rw[at3 h];exact e1,h2⟩
theorem Tight.putp(T:Tight X M)(hr:rec<X.r * X.w)(e3:M 3 rec=.rc m ps):Tight X (((M.put 2 p (.mk 1)).put 4 p (.tx t)).put 3 rec (.rc m (ps++[p]))):=by
 have at3:∀ {r':Nat},r'≠rec->(((M.put 2 p (.mk 1)).put 4 p (.tx t)).put 3 rec (.rc m (ps++[p]))) 3 r'=M 3 r':=λh=>by rw[BL h,AI (by decide),AI (by decide)]
 refine⟨λr' h1 e=> ?_,λx hx e=> ?_⟩
 ·rw[AI (by decide),AI (by decide),AI (by decide)]at e
  obtain⟨m1,ps1,e1⟩:=T.rcs r' h1 e
  by_cases h:r'=rec
  ·exact⟨m,ps++[p],by rw[h,BO]⟩
  ·exact⟨m1,ps1,by rw[at3 h];exact e1⟩
 ·by_cases hxp:x=p
  ·exact⟨rec,m,ps++[p],hr,BO,by rw[hxp];simp⟩
  ·rw[AI (by decide),AI (by decide),BL hxp]at e
   obtain⟨r',m1,ps1,h1,e1,h2⟩:=T.pc x hx e
   by_cases h:r'=rec
   ·subst h
    rw[e3]at e1
    cases e1
    exact⟨r',m,ps++[p],h1,BO,List.mem_append_left _ h2⟩
   ·exact⟨r',m1,ps1,h1,by rw[at3 h];exact e1,h2⟩
theorem Tight.takep(T:Tight X M)(e3:M 3 rec=.rc m ps)(ek:ps[k]? =some p):Tight X ((M.put 3 rec (.rc m (ps.eraseIdx k))).put 2 p (.mk 0)):=by
 have at3:∀ {r':Nat},r'≠rec->((M.put 3 rec (.rc m (ps.eraseIdx k))).put 2 p (.mk 0)) 3 r'=M 3 r':=λh=>by rw[AI (by decide),BL h]
 have at3':((M.put 3 rec (.rc m (ps.eraseIdx k))).put 2 p (.mk 0)) 3 rec=.rc m (ps.eraseIdx k):=by rw[AI (by decide),BO]
 refine⟨λr' h1 e=> ?_,λx hx e=> ?_⟩
 ·rw[AI (by decide),AI (by decide)]at e
  obtain⟨m1,ps1,e1⟩:=T.rcs r' h1 e
  by_cases h:r'=rec
  ·exact⟨m,_,by rw[h];exact at3'⟩
  ·exact⟨m1,ps1,by rw[at3 h];exact e1⟩
 ·have hxp:x≠p:=λy=>by rw[y,BO]at e;cases e
  rw[BL hxp,AI (by decide)]at e
  obtain⟨r',m1,ps1,h1,e1,h2⟩:=T.pc x hx e
  by_cases h:r'=rec
  ·subst h
   rw[e3]at e1
   cases e1
   refine⟨r',m,_,h1,at3',?_⟩
   rw[List.mem_eraseIdx_iff_getElem?]
   obtain⟨i,ei⟩:=HQ h2
   exact⟨i,λy=>hxp (by rw[y,ek]at ei;cases ei;rfl),ei⟩
  ·exact⟨r',m1,ps1,h1,by rw[at3 h];exact e1,h2⟩
theorem WC{f:Nat->Bool}{m:Nat}:DE f m= -1↔∀ k<m,f k=false:=by
 constructor
 ·intro h k hk
  unfold DE at h
  cases e:(List.range m).find? f with
  | none=>exact Bool.eq_false_iff.mpr (List.find?_eq_none.mp e k (List.mem_range.mpr hk))
  | some j=>rw[e]at h;simp at h
 ·exact jU
theorem Uc(ok:∀ k,k<X.m0->EJ 0 (M 0 k)):CI M 0 X.m0= -1↔(D2 M X.m0).length=X.m0:=by
 have hc:∀ m,(∀ k,k<m->EJ 0 (M 0 k))->(D2 M m).length+(List.range m).countP (λk=>B0 0 (M 0 k))=m:=λm=>by
  induction m with
  | zero=>intro _;rfl
  | succ m ih =>
   intro ok
   have:=ih λk hk=>ok k (by omega)
   have om:=ok m (Nat.lt_succ_self _)
   unfold D2 at this ⊢
   rw[List.range_succ,List.filterMap_append,List.countP_append,List.length_append]
   have h1:(List.filterMap (λk=>(C2 M k).map (·.1)) [m]).length+List.countP (λk=>B0 0 (M 0 k)) [m]=1:=by
    unfold C2
    cases e:M 0 m with
    | no=>simp[e,B0]
    | nm y r=>simp[e,B0]
    | mk i=>rw[e]at om;exact om.elim
    | rc _ _=>rw[e]at om;exact om.elim
    | tx _=>rw[e]at om;exact om.elim
   omega
 have:=hc X.m0 ok
 unfold CI
 rw[WC]
 constructor
 ·intro h
  have:(List.range X.m0).countP (λk=>B0 0 (M 0 k))=0:=List.countP_eq_zero.mpr λk hk=>by rw[h k (List.mem_range.mp hk)];simp
  omega
 ·intro h k hk
  have h0:(List.range X.m0).countP (λk=>B0 0 (M 0 k))=0:=by omega
  exact Bool.eq_false_iff.mpr (List.countP_eq_zero.mp h0 k (List.mem_range.mpr hk))
end
theorem Ud:∀ i:Fin 26,(Str.ofString "abcdefghijklmnopqrstuvwxyz").cps.toList[i.val]? =some (97+i.val):=by decide +kernel
theorem Ug{i:Int}{n:Nat}{Q:VK}(hi:i=n)(hn:n<26)(q:Q (.str ⟨#[97+n]⟩) H):BE K (.str (Str.ofString "abcdefghijklmnopqrstuvwxyz")) (.int i) H Q:=jX hi (by decide +kernel) (Ud ⟨n,hn⟩) q
theorem Q5{x:Int}{Q:VK}(q:∀ n:Nat,n<26->Q (.str ⟨#[97+n]⟩) H):BE K (.str (Str.ofString "abcdefghijklmnopqrstuvwxyz")) (.int (x % 26)) H Q:=by
 obtain⟨b,eb,hb⟩:=OF x (n:=26) (by omega)
 rw[show((26:Nat):Int)=26 from rfl]at eb
 rw[eb]
 exact Ug rfl hb (q b hb)
theorem Uh(x y:Str):(x++y).cps.toList=x.cps.toList++y.cps.toList:=by
 show(x.cps++y.cps).toList=_
 simp
theorem Q6(z:Str):z.cps.toList.length=z.length:=by simp[Str.length]
theorem Uj{z:Str}{k:Nat}(h:k<=z.length):(Txt.slice z none (some (k:Int))).cps.toList=z.cps.toList.take k:=by
 rw[eq_of_beq (slice_closes_to (x:=z) (j:=(k:Int)) ⟨by omega,by rw[Q6];omega⟩)]
 simp
theorem Uk{z:Str}{k:Nat}(h:k<=z.length):(Txt.slice z (some (k:Int)) none).cps.toList=z.cps.toList.drop k:=by
 rw[eq_of_beq (slice_closes_from (x:=z) (i:=(k:Int)) ⟨by omega,by rw[Q6];omega⟩)]
 have:((z.cps.toList.length:Int) - k).toNat=(z.cps.toList.drop k).length:=by rw[List.length_drop];omega
 simp only[Int.toNat_natCast,this,List.take_length]
def Lts(z:Str)(n:Nat):Prop:=z.cps.toList.length=n/\z.cps.toList.all NT=true
theorem Lts.len{z:Str}{n:Nat}(h:Lts z n):z.length=n:=by rw[<-Q6];exact h.1
theorem Lts.cat{x y:Str}{n m:Nat}(h:Lts x n)(h':Lts y m):Lts (x++y) (n+m):=by
 unfold Lts
 rw[Uh,List.length_append,List.all_append,h.1,h'.1,h.2,h'.2]
 exact⟨rfl,rfl⟩
theorem Lts.one{n:Nat}(h:n<26):Lts ⟨#[97+n]⟩ 1:=⟨rfl,by simp[NT];omega⟩
theorem Lts.to{z:Str}{n k:Nat}(h:Lts z n)(hk:k<=n):Lts (Txt.slice z none (some (k:Int))) k:=by
 unfold Lts
 rw[Uj (by rw[h.len];exact hk)]
 refine⟨by rw[List.length_take,h.1];omega,?_⟩
 rw[List.all_eq_true]
 exact λc hc=>List.all_eq_true.mp h.2 c (List.mem_of_mem_take hc)
theorem Lts.from{z:Str}{n k:Nat}(h:Lts z n)(hk:k<=n):Lts (Txt.slice z (some (k:Int)) none) (n - k):=by
 unfold Lts
 rw[Uk (by rw[h.len];exact hk)]
 refine⟨by rw[List.length_drop,h.1],?_⟩
 rw[List.all_eq_true]
 exact λc hc=>List.all_eq_true.mp h.2 c (List.mem_of_mem_drop hc)
theorem Lts.name{z:Str}{n:Nat}(h:Lts z n)(h1:1<=n)(h8:n<=8):BI z=true:=by
 unfold BI
 rw[h.len,h.2]
 simp
 omega
theorem kA{z:Str}(h:BI z=true):Lts z z.length/\1<=z.length/\z.length<=8:=by
 unfold BI at h
 simp only[Bool.and_eq_true,decide_eq_true_eq]at h
 exact⟨⟨Q6 z,h.2⟩,h.1.1,h.1.2⟩
theorem Ul(h:N7 K a vs H Q E):UB K a (λ_=>E) (A9 Q) (A7 ["cell","letters","base","rest","k","at","first","last","turned"] vs) H:=by
 obtain⟨x,rfl,q⟩:=h
 push_cast[UB,↓xN,↓xO,↓xP,↓xS]
 obtain⟨m,em,hm⟩:∃ m:Nat,1+x % 6=m/\1<=m/\m<=6:=⟨(1+x % 6).toNat,by omega,by omega⟩
 rw[em,Int.toNat_natCast]
 refine⟨⟨by decide,by decide⟩,by omega,by omega,tZ (λi σ H'=>∃ (p:Str) (rest:Int),H'=H/\Lts p i/\∃ y,σ=[some (.int x),some (.str (Str.ofString "abcdefghijklmnopqrstuvwxyz")),some (.str p),some (.int rest),y,none,none,none,none]) ⟨Str.ofString "",_,rfl,⟨by decide +kernel,by decide +kernel⟩,_,rfl⟩ (λi σ H' hi ⟨p,rest,e,hp,y,ez⟩=> ?_) (λσ H' ⟨p,rest,e,hp,y,ez⟩=> ?_)⟩
 ·subst e ez
  push_cast[↓xQ,↓xR]
  have:=hp.len
  refine⟨.inl ⟨by omega,by omega⟩,⟨by decide,by decide⟩,.inl ⟨by omega,by omega⟩,Q5 λn hn=> ?_⟩
  push_cast[]
  have h1:=(Lts.one hn).len
  exact⟨BV _ (by omega),⟨by decide,by decide⟩,.inl ⟨by omega,by omega⟩,_,hp.cat (Lts.one hn),rfl⟩
 ·subst e ez
  have hpl:=hp.len
  push_cast[↓xT]
  refine⟨⟨by decide,by decide⟩,m,⟨BV _ (by omega),hpl.symm⟩,by omega,?_⟩
  obtain⟨at',eat,hat⟩:=OF (x / 7) (n:=m) (by omega)
  rw[eat]
  push_cast[↓xU]
  refine⟨⟨by decide,by decide⟩,Q5 λn1 hn1=> ?_⟩
  push_cast[↓xV]
  refine⟨⟨by decide,by decide⟩,⟨by decide,by decide⟩,Q5 λn2 hn2=> ?_⟩
  push_cast[↓xW]
  refine⟨rfl,Ql (n:=at') rfl (by omega) (by omega) λc=>⟨_,_,rfl,rfl,?_⟩⟩
  push_cast[]
  refine⟨⟨by decide,by decide⟩,Q5 λn3 hn3=> ?_⟩
  push_cast[↓xX]
  have l1:=Lts.one hn1
  have l2:=Lts.one hn2
  have l3:=Lts.one hn3
  have lt:=hp.to (k:=at') (by omega)
  have lf:=hp.from (k:=at'+1) (by omega)
  have d1:=l1.len
  have d2:=l2.len
  have d3:=l3.len
  have d4:=lt.len
  have d5:=lf.len
  have ea:((at':Nat):Int)+1=((at'+1:Nat):Int):=by omega
  rw[ea]
  have e1:=hp.cat l2
  have e2:=l1.cat hp
  have e3:=(lt.cat l3).cat lf
  have e4:=(hp.cat l2).cat l1
  refine⟨BV _ (by omega),BV _ (by omega),BV _ (by omega),BV _ (by omega),BV _ (by omega),BV _ (by rw[jZ];omega),BV _ (by omega),BV _ (by rw[jZ];omega),by decide,λl hl=> ?_⟩
  refine q l [p,p++(⟨#[97+n2]⟩:Str),(⟨#[97+n1]⟩:Str)++p,Txt.slice p none (some (at':Int))++(⟨#[97+n3]⟩:Str)++Txt.slice p (some ((at'+1:Nat):Int)) none,p++(⟨#[97+n2]⟩:Str)++(⟨#[97+n1]⟩:Str)] _ hl (AV hl) (by rw[AJ];rfl) rfl λz hz=> ?_
  simp only[List.mem_cons,List.not_mem_nil,or_false]at hz
  rcases hz with rfl | rfl | rfl | rfl | rfl
  ·exact hp.name (by omega) (by omega)
  ·exact e1.name (by omega) (by omega)
  ·exact e2.name (by omega) (by omega)
  ·exact e3.name (by omega) (by omega)
  ·exact e4.name (by omega) (by omega)
theorem Um(h:N7 K a vs H Q E):vs.length=1:=by
 obtain⟨_,rfl,_⟩:=h
 rfl
theorem kB:∀ l:List Str,(∀ x∈l,x.length=1)->(l.map (·.length)).sum=l.length
 | [],_=>rfl
 | x::r,h=>by
  rw[List.map_cons,List.sum_cons,kB r λy hy=>h y (List.mem_cons_of_mem _ hy),h x List.mem_cons_self,List.length_cons]
  omega
theorem C9{c A B:Prop}[Decidable c](h:c)(x:A):if c then A else B:=by rw[if_pos h];exact x
theorem CP{c A B:Prop}[Decidable c](h:¬ c)(x:B):if c then A else B:=by rw[if_neg h];exact x
theorem kC{g:Str}{p:Nat->Bool}(hg:g.cps= #[]):∀ (l:List Str) (acc:Array Nat),acc.all p=true->(∀ z∈l,z.cps.all p=true)->((l.foldl (λacc p=>acc++g.cps++p.cps) acc).all p)=true
 | [],acc,h,_=>h
 | z::l,acc,h,hl=>by
  refine kC hg l _ ?_ λy hy=>hl y (List.mem_cons_of_mem _ hy)
  rw[hg,Array.all_append,Array.all_append,h,hl z List.mem_cons_self]
  simp
theorem kD{g:Str}{p:Nat->Bool}{l:List Str}(hg:g.cps= #[])(h:∀ z∈l,z.cps.all p=true):(Txt.join g l).cps.all p=true:=by
 cases l with
 | nil=>exact Array.all_empty
 | cons z l=>exact kC hg l z.cps (h z List.mem_cons_self) λy hy=>h y (List.mem_cons_of_mem _ hy)
theorem Up:∀ i:Fin 94,∃ c,HU.cps.toList[i.val]? =some c/\c<1114112/\IT c=true:=by
 have h:∀ i:Fin 94,HU.cps.toList[i.val]? =some (HU.cps.toList[i.val]!)/\HU.cps.toList[i.val]! <1114112/\IT (HU.cps.toList[i.val]!)=true:=by decide +kernel
 exact λi=>⟨_,h i⟩
theorem WD(x:Int)(i:Nat):∃ b:Nat,(x / 3+(1+x / 19 % 93) * ((0+(i:Int)) / (1+x / 7 % 3))) % 94=b/\HU.cps.toList[b]? =some (GN x i)/\GN x i<1114112/\IT (GN x i)=true:=by
 obtain⟨b,eb,hb⟩:=OF (x / 3+(1+x / 19 % 93) * ((0+(i:Int)) / (1+x / 7 % 3))) (n:=94) (by omega)
 rw[show((94:Nat):Int)=94 from rfl]at eb
 obtain⟨c,h1,h2,h3⟩:=Up ⟨b,hb⟩
 have e:GN x i=c:=by
  unfold GN
  rw[eb,Int.toNat_natCast,h1]
  rfl
 exact⟨b,eb,by rw[e];exact h1,by rw[e];exact h2,by rw[e];exact h3⟩
theorem Uq(x:Int):1<=F5 x/\F5 x<=40:=by
 unfold F5
 split<;>omega
theorem kE(x:Int):G5 (ET x)=true/\PyData.strOk (ET x)=true/\(ET x).length<=40:=by
 have hl:(ET x).length=F5 x:=by
  unfold ET
  rw[show(Str.ofString "":Str)="" from rfl,W.KT.join_ones _ λz hz=>by
   obtain⟨i,_,rfl⟩:=List.mem_map.mp hz
   rfl]
  simp
 have hn:=Uq x
 refine⟨?_,?_,by omega⟩
 ·unfold G5
  rw[hl,decide_eq_true hn.1,decide_eq_true hn.2]
  have:=kD (g:=Str.ofString "") (p:=IT) (l:=(List.range (F5 x)).map λi=>⟨#[GN x i]⟩) (by decide +kernel) λz hz=>by
   obtain⟨i,_,rfl⟩:=List.mem_map.mp hz
   simp
   exact(WD x i).choose_spec.2.2.2
  rw[Bool.true_and,Bool.true_and,Array.all_toList]
  exact this
 ·have:=kD (g:=Str.ofString "") (p:=λc=>decide (c<1114112)) (l:=(List.range (F5 x)).map λi=>⟨#[GN x i]⟩) (by decide +kernel) λz hz=>by
   obtain⟨i,_,rfl⟩:=List.mem_map.mp hz
   simp
   exact(WD x i).choose_spec.2.2.1
  unfold PyData.strOk
  exact this
theorem Uv(h:HV K a vs H Q E):UG K a (λ_=>E) (A9 Q) (A7 ["cell"] vs) H:=by
 obtain⟨x,rfl,q⟩:=h
 push_cast[UG,↓yE,↓yF,↓yG]
 refine⟨⟨by decide,by decide⟩,?_⟩
 unfold DW at q
 split
 ·next h=>rw[if_pos h]at q;exact q
 ·next h=>rw[if_neg h]at q;exact q
theorem Uw(h:HV K a vs H Q E):vs.length=1:=by
 obtain⟨_,rfl,_⟩:=h
 rfl
theorem Ux(h:JA K a vs H Q E):UF K a (λ_=>E) (A9 Q) (A7 ["cell","signs","many","step","wide"] vs) H:=by
 obtain⟨x,rfl,q⟩:=h
 have tail:∀ m:Nat,m<=40->m=F5 x->UC K a (λ_=>E) (λ_=>E) { nx:=AL (UD K a (λ_=>E) (λ_=>E)) (UE K a (λ_=>E) (λ_=>E)) (A9 Q),rt:=Q } [some (.int x),some (.str HU),some (.int m),none,none] H:=λm hm em=>by
  push_cast[↓yB,↓yC,↓yD]
  refine⟨⟨by decide,by decide⟩,⟨by decide,by decide⟩,rfl,by omega,by omega,?_⟩
  refine NB (BV _ (by omega)) (λi ys H'=>H'=H/\ys=((List.range i).map λj=>(⟨#[GN x j]⟩:Str)).map V.str) ⟨rfl,rfl⟩ (λi ys H' hi hl ⟨e1,e2⟩=> ?_) (λys H' hl ⟨e1,e2⟩ p hp=> ?_)
  ·subst e1
   push_cast[C1]
   obtain⟨b,eb,hc,_⟩:=WD x i
   have hd:(0+(i:Int)) / (1+x / 7 % 3)<=40/\0<=(0+(i:Int)) / (1+x / 7 % 3):=by
    have h1:0<1+x / 7 % 3:=by omega
    refine⟨?_,Int.ediv_nonneg (by omega) (by omega)⟩
    exact Int.le_trans (Int.ediv_le_self _ (by omega)) (by omega)
   refine⟨⟨by decide,by decide⟩,⟨by omega,by omega⟩,.inl ⟨by omega,by omega⟩,?_⟩
   rw[eb]
   exact jX rfl (by decide +kernel) hc ⟨rfl,by rw[e2,List.range_succ,List.map_append,List.map_append];rfl⟩
  ·subst e1 em
   have h1:∀ z∈(List.range (F5 x)).map λj=>(⟨#[GN x j]⟩:Str),z.length=1:=λz hz=>by
    obtain⟨i,_,rfl⟩:=List.mem_map.mp hz
    rfl
   exact⟨_,p,_,rfl,rfl,by rw[e2];exact SqL.of AJ,by decide,by rw[kB _ h1];simp;omega,q _ (AV hp)⟩
 push_cast[UF,↓xY,↓xZ,↓x8,↓yA,↓x9]
 refine⟨by decide +kernel,⟨by decide,by decide⟩,?_⟩
 split
 ·obtain⟨m,em,hm⟩:∃ m:Nat,40 - x / 40 % 2=m/\m<=40:=⟨(40 - x / 40 % 2).toNat,by omega,by omega⟩
  rw[em]
  exact⟨⟨by decide,by decide⟩,tail m hm (by unfold F5;rw[if_pos (by assumption)];omega)⟩
 ·obtain⟨m,em,hm⟩:∃ m:Nat,1+x % 5=m/\m<=40:=⟨(1+x % 5).toNat,by omega,by omega⟩
  rw[em]
  exact tail m hm (by unfold F5;rw[if_neg (by assumption)];omega)
theorem Uy(h:JA K a vs H Q E):vs.length=1:=by
 obtain⟨_,rfl,_⟩:=h
 rfl
theorem kF{M:Md}:∀ {ps:List Nat} {P:Nat->Str->Prop},(∀ p∈ps,∃ t,P p t)->∃ ts,Paired P ps ts
 | [],_,_=>⟨[],.nil⟩
 | p::ps,P,h=>by
  obtain⟨t,ht⟩:=h p List.mem_cons_self
  obtain⟨ts,hts⟩:=kF (M:=M) λq hq=>h q (List.mem_cons_of_mem _ hq)
  exact⟨t::ts,.cons ht hts⟩
theorem Uz(h:N9 K a vs H Q E):VX K a (λ_=>E) (A9 Q) (A7 ["store","name","found"] vs) H:=by
 obtain⟨X,cs,tks,M,z,rfl,T4,TD,I,q0,q⟩:=h
 obtain⟨dx,ho⟩:=I.st.ob
 have few:=I.few
 push_cast[VX,↓Gd,↓Gj,↓Gg]
 refine⟨_,_,ho,BW (by decide +kernel),X,cs,tks,M,z,rfl,T4,I.st,λcell rec ec hcl e0=> ?_,λec H1 s1=>.inl ⟨TD.n1,?_⟩⟩
 ·obtain⟨_,hr,m,ps,e3⟩:=I.sd.m1 cell z rec hcl e0
  have hf:=I.sd.few hr e3
  obtain⟨_,h2,_⟩:=I.sd.m4 rec m ps hr e3
  obtain⟨ts,hts⟩:=kF (M:=M) (P:=λp t=>p<X.c * X.w/\M 4 p=.tx t/\PyData.strOk t=true) λp hp=>by
   obtain⟨h3,_,t,h4,h5⟩:=h2 p hp
   exact⟨t,h3,h4,h5⟩
  refine⟨hr,m,ps,e3,by omega,ts,Paired.mapP hts λp t h=>⟨h.1,h.2.1⟩,λl H1 hl s1 el=> ?_⟩
  push_cast[↓iM]
  exact q ts l H1 ⟨cell,rec,m,ps,ec,hcl,e0,e3,hr,Paired.mapP hts λp t h=>h.2⟩ hl el s1
 ·push_cast[↓Gh,↓iM]
  exact q0 H1 ec s1
theorem Vb(h:N9 K a vs H Q E):vs.length=2:=by
 obtain⟨_,_,_,_,_,rfl,_⟩:=h
 rfl
theorem OH{M:Md}{m k j:Nat}{x:CV}{y:Str}(h:k≠0):cellOf (M.put k j x) m y=cellOf M m y:=by
 unfold cellOf C2
 simp only[AI (show 0≠k from h.symm)]
theorem Q7{M:Md}{m k:Nat}{y:Str}(h:cellOf M m y=some k):k<m/\∃ r,M 0 k=.nm y r:=j3 h
theorem Vc(h:N8 K a vs H Q E):V2 K a (λ_=>E) (A9 Q) (A7 ["store","kind","one","other","cell","refused"] vs) H:=by
 obtain⟨X,cs,tks,M,kind,y,z,x,rfl,T4,TD,I,hcs,hk,hy,hz,q⟩:=h
 obtain⟨dx,ho⟩:=I.st.ob
 obtain⟨ly,_,hy8⟩:=kA hy
 obtain⟨lz,_,hz8⟩:=kA hz
 have few:=I.few
 push_cast[V2,↓Gk,↓Hl]
 have fin:∀ (v:String) (H':Hp),DF X M y z x kind v M->Same H H'->OE K a (λ_=>E) (λ_=>E) (A9 Q) [some (.ref X.S.st),some (.int kind),some (.str y),some (.str z),some (.int x),some (.str (Str.ofString v))] H':=λv H' stp s=>by
  push_cast[↓i4]
  exact q v cs tks M H' stp ⟨I.st.same s,I.sd,I.un,I.ti,few⟩ (by omega) (Same.sb s)
 have bad:∀ c:String,(c="NoName"\/c="Twice"\/c="NoPiece"\/c="NoRoom")->DF X M y z x kind c M->∀ H',Same H H'->GH (λcls=>W.exmOne K cls (.ref (a "NoName"))) (V1 K a (λ_=>E) λ_=>E) (GH (λcls=>W.exmOne K cls (.ref (a "Twice"))) (V0 K a (λ_=>E) λ_=>E) (GH (λcls=>W.exmOne K cls (.ref (a "NoPiece"))) (VZ K a (λ_=>E) λ_=>E) (GH (λcls=>W.exmOne K cls (.ref (a "NoRoom"))) (VY K a (λ_=>E) λ_=>E) PY))) (.ref (a c)) { nx:=OE K a (λ_=>E) (λ_=>E) (A9 Q),rt:=Q } [some (.ref X.S.st),some (.int kind),some (.str y),some (.str z),some (.int x),some (.str (Str.ofString ""))] H':=λc hc stp H' s=>by
  rcases hc with rfl | rfl | rfl | rfl
  ·refine .inl ⟨TD.n1,?_⟩
   push_cast[↓Hk]
   exact fin _ _ stp s
  ·refine .inr ⟨TD.t1,.inl ⟨TD.t2,?_⟩⟩
   push_cast[↓Hj]
   exact fin _ _ stp s
  ·refine .inr ⟨TD.p1,.inr ⟨TD.p2,.inl ⟨TD.p3,?_⟩⟩⟩
   push_cast[↓Hh]
   exact fin _ _ stp s
  ·refine .inr ⟨TD.r1,.inr ⟨TD.r2,.inr ⟨TD.r3,.inl ⟨TD.r4,?_⟩⟩⟩⟩
   push_cast[↓Hg]
   exact fin _ _ stp s
 have good:∀ {ex:List Ch} {tks':List (AS × V)} {M':Md} {H':Hp} {d:Nat},ex.length=d->d<=15->X.at a H' (cs++ex) tks' M'->Snd X M'->Uni X M'->Tight X M'->DF X M y z x kind "" M'->SameBut (λx=>X.S.A.F x\/x=X.S.tk) H H'->OE K a (λ_=>E) (λ_=>E) (A9 Q) [some (.ref X.S.st),some (.int kind),some (.str y),some (.str z),some (.int x),some (.str (Str.ofString ""))] H':=λ{ex tks' M' H' d} h1 h2 I' S' U' T' stp sb=>by
  push_cast[↓i4]
  exact q _ (cs++ex) tks' M' H' stp ⟨I',S',U',T',few⟩ (by simp;omega) sb
 have noY:BI y=false->False:=λh=>by rw[hy]at h;cases h
 have noZ:(BI y && BI z)=false->False:=λh=>by rw[hy,hz]at h;cases h
 push_cast[↓Hd]
 by_cases k1:kind<2
 ·refine C9 (by omega) ?_
  push_cast[↓Gm]
  refine⟨_,_,ho,BW (by decide +kernel),X,cs,tks,M,y,rfl,T4,I.st,by omega,by omega,λ_ hc rec cell er ec hr hcl ex tks' v H' hl _ _ I' sb=> ?_,λh=>(noY h).elim,λ_ ⟨k,hc⟩ H' s=>bad _ (.inr (.inl rfl)) (.makeT k1 hc) H' s,λ_ hc hr H' s=>bad _ (.inr (.inr (.inr rfl))) (.makeR k1 hc hr) H' s⟩
  refine good hl (by omega) I' (I.sd.make hy hr hcl (FN er) (FN ec)) ?_ (I.ti.make I.sd hr (FN er)) (.make k1 hc er ec hr hcl) sb
  exact((I.un.else (by decide)).else (by decide)).new (by rw[OH (by decide),OH (by decide)];exact hc)
 refine CP (by omega) ?_
 push_cast[↓Hc]
 by_cases k2:kind=2
 ·subst k2
  refine C9 (by decide) ?_
  push_cast[↓Gp]
  refine⟨_,_,ho,BW (by decide +kernel),X,cs,tks,M,y,z,rfl,T4,I.st,by omega,by omega,by omega,λ_ _ hc old rec cell eo hol e0=> ?_,λh=>(noZ h).elim,λ_ _ ⟨k,hc⟩ H' s=>bad _ (.inr (.inl rfl)) (.linkT (.inl rfl) hc) H' s,λ_ _ hc hd H' s=>bad _ (.inl rfl) (.linkN (.inl rfl) hc hd) H' s,λ_ _ hc ⟨k,hd⟩ hr H' s=>bad _ (.inr (.inr (.inr rfl))) (.linkR (.inl rfl) hc hd hr) H' s⟩
  obtain⟨_,hr,m,ps,e3⟩:=I.sd.m1 old y rec hol e0
  have:=I.sd.few hr e3
  exact⟨hr,m,ps,e3,by omega,λec hcl ex tks' v H' hl _ _ I' sb=>good hl (by omega) I' (I.sd.link hz hr hcl e3 (FN ec)) ((I.un.else (by decide)).new (by rw[OH (by decide)];exact hc)) (I.ti.count e3) (.link hc eo hol e0 e3 ec hcl hr) sb⟩
 refine CP (by omega) ?_
 push_cast[↓Hb]
 by_cases k3:kind=3
 ·subst k3
  refine C9 (by decide) ?_
  push_cast[↓Gq]
  refine⟨_,_,ho,BW (by decide +kernel),X,cs,tks,M,y,rfl,T4,I.st,by omega,λcell rec ec hcl e0=> ?_,λhc H' s=>bad _ (.inl rfl) (.cutN hc) H' s⟩
  obtain⟨_,hr,m,ps,e3⟩:=I.sd.m1 cell y rec hcl e0
  have hf:=I.sd.few hr e3
  exact⟨hr,m,ps,e3,λp hp=>((I.sd.m4 rec m ps hr e3).2.1 p hp).1,by omega,λhm ex tks' v H' hl _ _ I' sb=>good hl (by omega) I' (I.sd.cutOne hr hcl e0 e3 hm) (I.un.less.else (by decide)) (I.ti.count' e3) (.cutOne ec hcl e0 e3 hm hr) sb,λhm ex tks' v H' hl _ _ I' sb=>good hl (by omega) I' (I.sd.cutAll hr hcl e0 e3 hm) ((I.un.less.else (by decide)).unmark.else (by decide)) (I.ti.cutAll I.sd hr e3) (.cutAll ec hcl e0 e3 hm hr) sb⟩
 refine CP (by omega) ?_
 push_cast[↓Gz]
 by_cases k4:kind<6
 ·have k45:kind=4\/kind=5:=by omega
  refine C9 (by omega) ?_
  push_cast[↓Gv]
  obtain⟨tp,tst,tl⟩:=kE x
  have noT:G5 (ET x)=false->False:=λh=>by rw[tp]at h;cases h
  refine⟨_,_,ho,BW (by decide +kernel),x,rfl,λH1 s1=> ?_⟩
  refine⟨X,cs,tks,M,y,ET x,rfl,T4,I.st.same s1,by omega,tst,by omega,λcell rec ec hcl e0 _ p ep hp=> ?_,λhc H' s=>bad _ (.inl rfl) (.putN (by omega) hc) H' (s1.trans s),λ_ h=>(noT h).elim,λ⟨k,hc⟩ _ hr H' s=>bad _ (.inr (.inr (.inr rfl))) (.putR k45 hc hr) H' (s1.trans s)⟩
  obtain⟨_,hr,m,ps,e3⟩:=I.sd.m1 cell y rec hcl e0
  have hf:=I.sd.few hr e3
  exact⟨hr,m,ps,e3,by omega,λex tks' v H' hl _ _ I' sb=>good hl (by omega) I' (I.sd.putp hr hp tst e3 (FN ep)) (((I.un.else (by decide)).else (by decide)).else (by decide)) (I.ti.putp hr e3) (.put k45 ec hcl e0 e3 ep hp hr) λb o e n=>sb _ _ (s1 _ _ e) n⟩
 refine CP (by omega) ?_
 push_cast[↓Gy]
 by_cases k6:kind=6
 ·subst k6
  refine C9 (by decide) ?_
  push_cast[↓Gw]
  refine⟨_,_,ho,BW (by decide +kernel),x,rfl,X,cs,tks,M,y,DW x,rfl,T4,I.st,by omega,λcell rec ec hcl e0=> ?_,λhc H' s=>bad _ (.inl rfl) (.putN (by omega) hc) H' s⟩
  obtain⟨_,hr,m,ps,e3⟩:=I.sd.m1 cell y rec hcl e0
  have hf:=I.sd.few hr e3
  refine⟨hr,m,ps,e3,by omega,λhx H' s=>bad _ (.inr (.inr (.inl rfl))) (.takeP ec hcl e0 e3 hx hr) H' s,λk p ek ep=>⟨((I.sd.m4 rec m ps hr e3).2.1 p (List.mem_of_getElem? ep)).1,λex tks' v H' hl _ _ I' sb=>good hl (by omega) I' (I.sd.takep hr e3 ep) ((I.un.else (by decide)).else (by decide)) (I.ti.takep e3 ep) (.take ec hcl e0 e3 ek ep hr) sb⟩⟩
 refine CP (by omega) ?_
 have k7:kind=7:=by omega
 subst k7
 push_cast[↓Gx]
 refine⟨_,_,ho,BW (by decide +kernel),X,cs,tks,M,y,z,rfl,T4,I.st,by omega,by omega,by omega,λ_ _ hc old rec cell eo hol e0=> ?_,λh=>(noZ h).elim,λ_ _ ⟨k,hc⟩ H' s=>bad _ (.inr (.inl rfl)) (.linkT (.inr rfl) hc) H' s,λ_ _ hc hd H' s=>bad _ (.inl rfl) (.linkN (.inr rfl) hc hd) H' s,λ_ _ hc ⟨k,hd⟩ hr H' s=>bad _ (.inr (.inr (.inr rfl))) (.linkR (.inr rfl) hc hd hr) H' s⟩
 obtain⟨_,hr,m,ps,e3⟩:=I.sd.m1 old y rec hol e0
 have:=I.sd.few hr e3
 refine⟨hr,m,ps,e3,by omega,λec hcl ex tks' v H' hl _ _ I' sb=>good hl (by omega) I' (I.sd.move hz hr hcl hol e0 e3 (FN ec) ?_) (((I.un.else (by decide)).new (by rw[OH (by decide)];exact hc)).less.else (by decide)) ((I.ti.count e3).count' (by rw[AI (by decide),BO])) (.move hc eo hol e0 e3 ec hcl hr) sb⟩
 have h3:=I.sd.m3 rec m ps hr e3
 rcases Nat.eq_zero_or_pos m with h | h
 ·rw[h]at h3
  exact(WB h3.symm hol e0).elim
 ·exact h
theorem Vd(h:N8 K a vs H Q E):vs.length=5:=by
 obtain⟨_,_,_,_,_,_,_,_,rfl,_⟩:=h
 rfl
theorem EL{z:Str}:∀ {L:LD},B7 (CJ L) (.inr z)=(CW L z).map λk=>V.int (k:Nat)
 | []=>rfl
 | (y,k)::L=>by
  show B7 ((.inr y,.int k)::CJ L) (.inr z)=_
  unfold CW
  by_cases h:y=z
  ·rw[FF (by rw[h]),List.find?_cons_of_pos (by simpa using h)]
   rfl
  ·rw[FG (λe=>h (Sum.inr.inj e)),List.find?_cons_of_neg (by simpa using h)]
   exact EL
theorem kG{z:Str}{L:LD}:ID (CJ L) (.inr z)=CJ (CK L z):=by
 unfold ID CJ CK
 rw[List.filter_map]
 congr 1
 refine List.filter_congr λp _=> ?_
 simp
theorem kH{z:Str}{L:LD}{k:Nat}(h:CW L z=none):CS (CJ L) (.inr z) (.int k)=CJ (L++[(z,k)]):=by
 rw[pJ _ (by rw[EL,h];rfl)]
 unfold CJ
 rw[List.map_append]
 rfl
theorem KS{L:LD}:(CJ L).length=L.length:=List.length_map _
theorem WE{L:LD}{z:Str}(h:(L.map (·.1)).Nodup):((CK L z).map (·.1)).Nodup:=h.sublist ((List.filter_sublist).map _)
theorem OI{L:LD}{z:Str}{i:Nat}(h:CW L z=some i):(z,i)∈L:=by
 unfold CW at h
 obtain⟨p,hp,rfl⟩:=Option.map_eq_some_iff.mp h
 have h1:=List.find?_some hp
 have h2:=List.mem_of_find?_eq_some hp
 have h3:p.1=z:=by simpa using h1
 rw[<-h3]
 exact h2
theorem WF{L:LD}{z:Str}(h:CW L z=none):∀ i,¬ (z,i)∈L:=λi hi=>by
 unfold CW at h
 rw[Option.map_eq_none_iff]at h
 have:=List.find?_eq_none.mp h _ hi
 simp at this
theorem KU{L:LD}{z:Str}{i:Nat}(hn:(L.map (·.1)).Nodup)(h:(z,i)∈L):CW L z=some i:=by
 cases e:CW L z with
 | none=>exact(WF e i h).elim
 | some j =>
  have:=OI e
  obtain⟨a,ha⟩:=HQ h
  obtain⟨b,hb⟩:=HQ this
  have hab:a=b:=by
   have h1:(L.map (·.1))[a]? =some z:=by rw[List.getElem?_map,ha];rfl
   have h2:(L.map (·.1))[b]? =some z:=by rw[List.getElem?_map,hb];rfl
   have l1:=(List.getElem?_eq_some_iff.mp h1).1
   exact(List.getElem?_inj l1 hn).mp (h1.trans h2.symm)
  rw[hab,hb]at ha
  cases ha
  rfl
theorem Q8{H H':Hp}{d r:Addr}{L L':LD}{ra:List (Option Addr)}{R:RC}(l:OA H d L)(c:RcsAt H r ra R)(hn:(L'.map (·.1)).Nodup)(e:H'=upd H d (.dK (CJ L'))):OA H' d L'/\RcsAt H' r ra R:=by
 subst e
 refine⟨⟨AJ,hn⟩,?_⟩
 have hne:∀ {x:Addr} {xs:List V},H x=some (.lst xs)->x≠d:=λh y=>by rw[y,l.1]at h;cases h
 refine⟨by rw[AM (hne c.ls)];exact c.ls,Paired.mapP c.el λo t h=> ?_,c.ap,c.no,c.sm⟩
 match o,t,h with
 | none,none,_=>trivial
 | some l,some ts,h=>exact(AM (hne h)).trans h
theorem kI{n i:Nat}(h:i<n):GX n (i:Int)=some i:=by
 unfold GX
 rw[if_pos (by omega),if_pos (by omega),Int.toNat_natCast]
theorem Vg{H:Hp}{p:Addr}{ns:List Nat}{x:Nat}{Q:VK}(h:H p=some (.lst (ns.map λ(k:Nat)=>V.int k)))(q:Q (.bl (!decide (x∈ns))) H):S8 K (.int x) (.ref p) H Q:=by
 refine⟨p,_,rfl,.inl (SqL.of h),rfl,?_,?_⟩
 ·rw[List.all_eq_true]
  intro v hv
  obtain⟨i,_,rfl⟩:=List.mem_map.mp hv
  rfl
 ·have:GY (.int x) (ns.map λ(k:Nat)=>V.int k)=decide (x∈ns):=by
   unfold GY
   rw[Bool.eq_iff_iff,List.any_eq_true,decide_eq_true_eq]
   constructor
   ·rintro ⟨v,hv,e⟩
    obtain⟨i,hi,rfl⟩:=List.mem_map.mp hv
    have:i=x:=by simp[EX]at e;omega
    rw[<-this];exact hi
   ·intro hx
    exact⟨_,List.mem_map.mpr ⟨x,hx,rfl⟩,by simp[EX]⟩
  rw[if_pos rfl,this]
  exact q
theorem RcsAt.same{H H':Hp}{r:Addr}{ra:List (Option Addr)}{R:RC}(c:RcsAt H r ra R)(s:Same H H'):RcsAt H' r ra R:=by
 refine⟨s _ _ c.ls,Paired.mapP c.el λo t h=> ?_,c.ap,c.no,c.sm⟩
 match o,t,h with
 | none,none,_=>trivial
 | some l,some ts,h=>exact s _ _ h
theorem kJ{P:Option Addr->Option (List Str)->Prop}{o:Option Addr}{t:Option (List Str)}(h:P o t):∀ {ra:List (Option Addr)} {R:RC} {i:Nat},Paired P ra R->Paired P (ra.set i o) (R.set i t)
 | _,_,_,.nil=>.nil
 | _,_,0,.cons _ r=>.cons h r
 | _,_,i+1,.cons x r=>.cons x (kJ h r)
theorem OJ{P P':Option Addr->Option (List Str)->Prop}:∀ {ra:List (Option Addr)} {R:RC},Paired P ra R->(∀ o t,o∈ra->P o t->P' o t)->Paired P' ra R
 | _,_,.nil,_=>.nil
 | _,_,.cons x r,h=>.cons (h _ _ List.mem_cons_self x) (OJ r λo t hm=>h o t (List.mem_cons_of_mem _ hm))
theorem WG{H:Hp}{l:Addr}:∀ {ra:List (Option Addr)} {R:RC} {i:Nat},Paired (G9 H) ra R->ra[i]? =some (some l)->∃ ts,R[i]? =some (some ts)/\H l=some (.lst (ts.map V.str))
 | _,_,_,.nil,h=>by simp at h
 | o::_,t::_,0,.cons x _,h=>by
  cases h
  match t,x with
  | some ts,x=>exact⟨ts,rfl,x⟩
 | _::ra,_::R,i+1,.cons _ r,h=>by
  have:=WG (ra:=ra) (R:=R) (i:=i) r (by simpa using h)
  simpa using this
theorem RcsAt.setNone{H:Hp}{r d:Addr}{ra:List (Option Addr)}{R:RC}{i:Nat}{kvs:List (AS × V)}(c:RcsAt H r ra R)(hd:H d=some (.dK kvs))(hi:i<ra.length):RcsAt (upd H r (.lst ((ra.map HW).set i .non))) r (ra.set i none) (R.set i none):=by
 have gs:∀ {j:Nat} {l:Addr},(ra.set i none)[j]? =some (some l)->ra[j]? =some (some l):=λ{j l} h=>by
  rw[List.getElem?_set]at h
  split at h
  ·first | cases h | (split at h<;>cases h)
  ·exact h
 have el:Paired (G9 (upd H r (.lst ((ra.map HW).set i .non)))) ra R:=by
  have hn:∀ (o:Option Addr) (t:Option (List Str)),o∈ra->G9 H o t->G9 (upd H r (.lst ((ra.map HW).set i .non))) o t:=λo t hm h=>by
   match o,t,h with
   | none,none,_=>trivial
   | some l,some ts,h =>
    refine(AM λe=> ?_).trans h
    obtain⟨j,hj⟩:=HQ hm
    exact c.no j (by rw[hj,e])
  exact OJ c.el hn
 refine⟨by rw[AJ,List.map_set];rfl,kJ (by trivial) el,λj k l h1 h2=>c.ap j k l (gs h1) (gs h2),λj h=>c.no j (gs h),λj ts h=> ?_⟩
 rw[List.getElem?_set]at h
 split at h
 ·first | cases h | (split at h<;>cases h)
 ·exact c.sm j ts h
theorem WH{H:Hp}{d r ml:Addr}{m0 m1 m2:Nat}{L:LD}{R:RC}{ra:List (Option Addr)}{o:HO}(O:Own H d r ml m0 m1 m2 L R ra):upd H d o ml=some (.lst [.int m0,.int m1,.int m2]):=by
 rw[AM λy=>by have:=O.ms;rw[y,O.ld.1]at this;cases this]
 exact O.ms
theorem Vh (h:OB K a vs H Q E):UH K a (λ_=>E) (A9 Q) (A7 ["rooms","led","records","kind","one","other","record"] vs) H:=by
  obtain⟨d,r,ml,m0,m1,m2,L,R,ra,kind,y,z,rfl,O,hL,hk,q⟩:=h
  have nd:=O.ld.2
  have same:∀ o:String,DQ m0 L R kind y z=(o,L,R)->Q (.str (Str.ofString o)) H:=λo e=>by
    rw[e]at q
    exact q ra H O.ms O.ld O.rc (λi l h=>.inr ⟨i,h⟩) λb o e _=>e
  push_cast[UH,↓yM]
  by_cases k3:kind=3
  · subst k3
    refine C9 (by decide) ?_
    push_cast[↓yI]
    refine⟨_,dS O.ld.1,?_⟩
    rw[EL]
    cases eg:CW L y with
    | none =>
      refine C9 rfl ?_
      push_cast[↓yH]
      exact same "NoName" (by unfold DQ;rw[if_pos rfl,eg])
    | some i =>
      refine CP (by simp) ?_
      push_cast[↓yJ,M3]
      refine⟨.inl ⟨_,.inl O.ld.1⟩,_,O.ld.1,.inr y,rfl,.int i,by rw[EL,eg];rfl,?_⟩
      rw[kG]
      have ea:=Q8 O.ld O.rc (WE (z:=y) nd) rfl
      have em:=WH O (o:=.dK (CJ (CK L y)))
      have sb:SameBut (GO d r ra) H (upd H d (.dK (CJ (CK L y)))):=λb o e n=>by rw[AM λy=>n (.inl y)];exact e
      revert ea em sb
      generalize upd H d (.dK (CJ (CK L y)))=H1
      intro ea em sb
      have ew:DQ m0 L R 3 y z=("",CK L y,if i∈(CK L y).map (·.2)then R else R.set i none):=by unfold DQ;rw[if_pos rfl,eg]
      rw[ew]at q
      push_cast[↓yL,↓wC]
      have ndx:=WE (z:=y) nd
      refine⟨_,ea.1.1,λo=>wD (by rw[KS];exact Nat.le_of_lt (BV _ (by have:=List.length_filter_le (λp=>decide (p.1≠y)) L;unfold CK;omega))) (λn ys H'=>H'=upd H1 d (.frz o (.dK (CJ (CK L y))))/\ys=((CK L y).take n).map λp=>V.int (p.2:Nat)) ⟨rfl,rfl⟩ (λ_ _ _ _ h=>by rw[h.1,AJ]) (λn k v ys H' ek hl ⟨e1,e2⟩=> ?_) (λys H' hl ⟨e1,e2⟩ p hp=> ?_)⟩
      · subst e1
        push_cast[C1]
        obtain⟨⟨z',j⟩,ej,e3⟩:=Option.map_eq_some_iff.mp ((List.getElem?_map).symm.trans ek)
        cases e3
        refine⟨.int j,.inl ⟨_,.inr z',.inr ⟨o,AJ⟩,rfl,?_⟩,?_⟩
        ·rw[EL,KU ndx (List.mem_of_getElem? ej)];rfl
        ·rw[e2,List.take_add_one,ej,List.map_append];rfl
      · subst e1
        have hpd:p≠d:=λe=>by rw[e,AJ]at hp;cases hp
        have hp1:H1 p=none:=by rw[AM hpd]at hp;exact hp
        rw[KS,List.take_length]at e2
        refine⟨by rw[AM hpd.symm,AJ],?_⟩
        have s2:Same H1 (upd (upd (upd H1 d (.frz o (.dK (CJ (CK L y))))) p (.lst ys)) d (.dK (CJ (CK L y)))):=λb ob e=>by
          by_cases hb:b=d
          ·rw[hb,AJ,<-ea.1.1,<-hb,e]
          ·rw[AM hb,AM (BM e hp1),AM hb];exact e
        have ep:(upd (upd (upd H1 d (.frz o (.dK (CJ (CK L y))))) p (.lst ys)) d (.dK (CJ (CK L y)))) p=some (.lst (((CK L y).map (·.2)).map λ(k:Nat)=>V.int k)):=by
          rw[AM hpd,AJ,e2,List.map_map];rfl
        revert s2 ep
        generalize upd (upd (upd H1 d (.frz o (.dK (CJ (CK L y))))) p (.lst ys)) d (.dK (CJ (CK L y)))=H2
        intro s2 ep
        refine Vg ep ?_
        have sb2:SameBut (GO d r ra) H H2:=λb o e n=>s2 _ _ (sb _ _ e n)
        have l2:OA H2 d (CK L y):=⟨s2 _ _ ea.1.1,ndx⟩
        have c2:=ea.2.same s2
        refine⟨_,rfl,?_⟩
        by_cases hi:i∈(CK L y).map (·.2)
        · rw[if_pos hi]at q
          refine CP (by simpa using hi) ?_
          push_cast[↓cN]
          exact q ra H2 (s2 _ _ em) l2 c2 (λi l h=>.inr ⟨i,h⟩) sb2
        · rw[if_neg hi]at q
          refine C9 (by simpa using hi) ?_
          obtain⟨ts,hts⟩:=O.ok y i (OI eg)
          have hir:i<ra.length:=by rw[O.rc.el.length];exact(List.getElem?_eq_some_iff.mp hts).1
          push_cast[↓yK]
          refine⟨r,_,i,i,rfl,rfl,c2.ls,kI (by simpa using hir),?_⟩
          push_cast[↓cN]
          have hrd:r≠d:=λe=>by have:=c2.ls;rw[e,l2.1]at this;cases this
          refine q (ra.set i none) _ ?_ ⟨by rw[AM hrd.symm];exact l2.1,ndx⟩ (c2.setNone (l2.1) hir) (λj l h=> ?_) λb o e n=>by rw[AM λy=>n (.inr (.inl y))];exact sb2 _ _ e n
          ·rw[AM O.ne.1.symm];exact s2 _ _ em
          · rw[List.getElem?_set]at h
            split at h
            ·first | cases h | (split at h<;>cases h)
            ·exact .inr ⟨j,h⟩
  · refine CP (by omega) ?_
    have ew:DQ m0 L R kind y z=if(CW L z).isSome then("Twice",L,R)else match CW L y with
      | none=>("NoName",L,R)
      | some i=>if L.length=m0 then("NoRoom",L,R)else("",if kind=7 then CK (L++[(z,i)]) y else L++[(z,i)],R):=by
      unfold DQ
      rw[if_neg k3]
      first | done | rfl
    push_cast[↓yO]
    refine⟨_,dS O.ld.1,?_⟩
    rw[EL]
    cases ez:CW L z with
    | some j =>
      refine C9 rfl ?_
      push_cast[↓yN]
      exact same "Twice" (by rw[ew,ez];rfl)
    | none =>
      refine CP (by simp) ?_
      push_cast[↓yQ]
      refine⟨_,dS O.ld.1,?_⟩
      rw[EL]
      cases eg:CW L y with
      | none =>
        refine C9 rfl ?_
        push_cast[↓yP]
        exact same "NoName" (by rw[ew,ez,eg];rfl)
      | some i =>
        refine CP (by simp) ?_
        push_cast[↓yS]
        refine aD O.ld.1 ?_
        rw[KS]
        refine C3 (SqL.of O.ms) (n:=0) rfl rfl ?_
        push_cast[]
        by_cases hm:L.length=m0
        · refine C9 (by omega) ?_
          push_cast[↓yR]
          exact same "NoRoom" (by rw[ew,ez,eg];simp[hm])
        · refine CP (by omega) ?_
          push_cast[↓yT]
          refine⟨_,QH O.ld.1 (by rw[EL,eg];rfl),_,DPut.k (k:=.inr z) O.ld.1 (by rw[KS];exact BV _ (by omega)),?_⟩
          rw[kH ez]
          have nd1:((L++[(z,i)]).map (·.1)).Nodup:=by
            rw[List.map_append,List.nodup_append]
            refine⟨nd,by simp,λx hx y hy e=> ?_⟩
            obtain⟨⟨w,j⟩,hp,rfl⟩:=List.mem_map.mp hx
            rw[List.mem_map]at hy
            obtain⟨p,hp2,rfl⟩:=hy
            rw[List.mem_singleton.mp hp2]at e
            have ew:w=z:=e
            exact WF ez j (by rw[<-ew];exact hp)
          have ea:=Q8 O.ld O.rc nd1 rfl
          have em:=WH O (o:=.dK (CJ (L++[(z,i)])))
          have sb:SameBut (GO d r ra) H (upd H d (.dK (CJ (L++[(z,i)])))):=λb o e n=>by rw[AM λy=>n (.inl y)];exact e
          revert ea em sb
          generalize upd H d (.dK (CJ (L++[(z,i)])))=H1
          intro ea em sb
          have ew':DQ m0 L R kind y z=("",if kind=7 then CK (L++[(z,i)]) y else L++[(z,i)],R):=by rw[ew,ez,eg];simp[hm]
          rw[ew']at q
          push_cast[↓yV]
          by_cases k7:kind=7
          · refine C9 (by omega) ?_
            rw[if_pos k7]at q
            push_cast[↓yU,M3]
            refine⟨.inl ⟨_,.inl ea.1.1⟩,_,ea.1.1,.inr y,rfl,⟨.int i,?_⟩,?_⟩
            ·rw[EL,KU nd1 (List.mem_append_left _ (OI eg))];rfl
            · rw[kG]
              push_cast[↓cZ]
              have eb:=Q8 ea.1 ea.2 (WE (z:=y) nd1) rfl
              refine q ra _ ?_ eb.1 eb.2 (λi l h=>.inr ⟨i,h⟩) λb o e n=>by rw[AM λy=>n (.inl y)];exact sb _ _ e n
              rw[AM λy=>by rw[y,ea.1.1]at em;cases em]
              exact em
          · refine CP (by omega) ?_
            rw[if_neg k7]at q
            push_cast[↓cZ]
            exact q ra H1 em ea.1 ea.2 (λi l h=>.inr ⟨i,h⟩) sb
theorem Vj(h:OB K a vs H Q E):vs.length=6:=by
 obtain⟨_,_,_,_,_,_,_,_,_,_,_,_,rfl,_⟩:=h
 rfl
def kK:V->Bool
 | .non=>false
 | _=>true
theorem WI:∀ {ra:List (Option Addr)},(ra.map HW).filter kK=(ra.filterMap id).map V.ref
 | []=>rfl
 | none::ra=>WI (ra:=ra)
 | some l::ra=>congrArg (V.ref l::·) (WI (ra:=ra))
theorem Q9{H:Hp}:∀ {ra:List (Option Addr)} {R:RC},Paired (G9 H) ra R->Paired (λl (ts:List Str)=>H l=some (.lst (ts.map V.str))) (ra.filterMap id) (DP R)
 | _,_,.nil=>.nil
 | none::ra,none::R,.cons _ r=>Q9 (ra:=ra) (R:=R) r
 | some l::ra,some ts::R,.cons h r=>.cons h (Q9 (ra:=ra) (R:=R) r)
theorem kL{L:LD}{z:Str}{k:Nat}(nd:(L.map (·.1)).Nodup)(ez:CW L z=none):((L++[(z,k)]).map (·.1)).Nodup:=by
 rw[List.map_append,List.nodup_append]
 refine⟨nd,by simp,λx hx y hy e=> ?_⟩
 obtain⟨⟨w,j⟩,hp,rfl⟩:=List.mem_map.mp hx
 rw[List.mem_map]at hy
 obtain⟨p,hp2,rfl⟩:=hy
 rw[List.mem_singleton.mp hp2]at e
 have ew:w=z:=e
 exact WF ez j (by rw[<-ew];exact hp)
theorem kM{P:Option Addr->Option (List Str)->Prop}{o:Option Addr}{t:Option (List Str)}(h:P o t):∀ {ra:List (Option Addr)} {R:RC},Paired P ra R->Paired P (ra++[o]) (R++[t])
 | _,_,.nil=>.cons h .nil
 | _,_,.cons x r=>.cons x (kM h r)
theorem kN{H:Hp}{l:Addr}{us:List Str}:∀ {ra:List (Option Addr)} {R:RC} {i:Nat},Paired (G9 H) ra R->ra[i]? =some (some l)->(∀ (i j:Nat) (l:Addr),ra[i]? =some (some l)->ra[j]? =some (some l)->i=j)->Paired (G9 (upd H l (.lst (us.map V.str)))) ra (R.set i (some us))
 | _,_,_,.nil,h,_=>by simp at h
 | o::ra,t::R,0,.cons x r,h,u=>by
  cases h
  refine .cons AJ (OJ r λo t hm h=> ?_)
  match o,t,h with
  | none,none,_=>trivial
  | some y,some ts,h =>
   refine(AM λe=> ?_).trans h
   obtain⟨j,hj⟩:=HQ hm
   have:=u 0 (j+1) l rfl (by rw[List.getElem?_cons_succ,hj,e])
   omega
 | o::ra,t::R,i+1,.cons x r,h,u=>by
  refine .cons ?_ (kN (ra:=ra) (R:=R) (i:=i) r (by simpa using h) λa b y h1 h2=>by
   have:=u (a+1) (b+1) y (by simpa using h1) (by simpa using h2)
   omega)
  match o,t,x with
  | none,none,_=>trivial
  | some y,some ts,x =>
   refine(AM λe=> ?_).trans x
   have:=u 0 (i+1) l (by rw[<-e];rfl) h
   omega
theorem RcsAt.snoc{H:Hp}{r l:Addr}{ra:List (Option Addr)}{R:RC}(c:RcsAt H r ra R)(hl:H l=none):RcsAt (upd (upd H l (.lst [])) r (.lst (ra.map HW++[.ref l]))) r (ra++[some l]) (R++[some []]):=by
 have nr:l≠r:=λe=>by rw[e,c.ls]at hl;cases hl
 have gs:∀ {j:Nat} {x:Addr},(ra++[some l])[j]? =some (some x)->ra[j]? =some (some x)\/(j=ra.length/\x=l):=λ{j x} h=>by
  rw[List.getElem?_append]at h
  split at h
  ·exact .inl h
  ·rw[List.getElem?_singleton]at h
   split at h
   ·cases h
    exact .inr ⟨by omega,rfl⟩
   ·cases h
 have nl:∀ {j:Nat},ra[j]? ≠some (some l):=λ{j} h=>by
  have:=WG c.el h
  obtain⟨ts,_,e⟩:=this
  rw[hl]at e
  cases e
 refine⟨by rw[AJ,List.map_append];rfl,kM (by show _=_;rw[AM nr,AJ];rfl) (OJ c.el λo t hm h=> ?_),λi j x h1 h2=> ?_,λj h=> ?_,λj ts h=> ?_⟩
 ·match o,t,h with
  | none,none,_=>trivial
  | some x,some ts,h =>
   obtain⟨j,hj⟩:=HQ hm
   refine((AM λe=> ?_).trans (AM λe=> ?_)).trans h
   ·exact c.no j (by rw[hj,e])
   ·exact nl (j:=j) (by rw[hj,e])
 ·rcases gs h1 with h1 | ⟨h1,e1⟩<;>rcases gs h2 with h2 | ⟨h2,e2⟩
  ·exact c.ap i j x h1 h2
  ·exact(nl (e2 ▸ h1)).elim
  ·exact(nl (e1 ▸ h2)).elim
  ·omega
 ·rcases gs h with h | ⟨_,e⟩
  ·exact c.no j h
  ·exact nr e.symm
 ·rw[List.getElem?_append]at h
  split at h
  ·exact c.sm j ts h
  ·rw[List.getElem?_singleton]at h
   split at h
   ·cases h;simp
   ·cases h
theorem Vk{H:Hp}{p:Addr}{x:Nat}{Q:VK}(h:H p=some (.tup [.int 2,.int 3,.int 7]))(q:Q (.bl (decide (x=2\/x=3\/x=7))) H):QI K (.int x) (.ref p) H Q:=by
 refine⟨p,_,rfl,.inr (SqT.of h),rfl,rfl,?_⟩
 have:GY (.int (x:Nat)) [.int 2,.int 3,.int 7]=decide (x=2\/x=3\/x=7):=by
  rw[Bool.eq_iff_iff]
  simp[GY,EX]
  omega
 rw[if_neg (by simp),this]
 exact q
theorem WJ{H:Hp}{ts:List Str}:∀ {ra:List (Option Addr)} {R:RC} {i:Nat},Paired (G9 H) ra R->R[i]? =some (some ts)->∃ l,ra[i]? =some (some l)/\H l=some (.lst (ts.map V.str))
 | _,_,_,.nil,h=>by simp at h
 | o::_,t::_,0,.cons x _,h=>by
  cases h
  match o,x with
  | some l,x=>exact⟨l,rfl,x⟩
 | _::ra,_::R,i+1,.cons _ r,h=>by
  have:=WJ (ra:=ra) (R:=R) (i:=i) r (by simpa using h)
  simpa using this
theorem RcsAt.put{H:Hp}{r l:Addr}{ra:List (Option Addr)}{R:RC}{i:Nat}{us:List Str}(c:RcsAt H r ra R)(hl:ra[i]? =some (some l))(hu:us.length<=100):RcsAt (upd H l (.lst (us.map V.str))) r ra (R.set i (some us)):=by
  have nr:l≠r:=λe=>c.no i (by rw[hl,e])
  refine⟨by rw[AM nr.symm];exact c.ls,kN c.el hl c.ap,c.ap,c.no,λj ts h=> ?_⟩
  rw[List.getElem?_set]at h
  split at h
  · first
    | (cases h;exact hu)
    | (split at h
       ·cases h;exact hu
       ·cases h)
  ·exact c.sm j ts h
theorem kO{f:Str->V}:∀ {l:List Str} {k:Nat},(l.map f).eraseIdx k=(l.eraseIdx k).map f
 | [],_=>rfl
 | _::_,0=>rfl
 | _::l,k+1=>congrArg (_::·) (kO (l:=l) (k:=k))
theorem kP:∀ l:List (List Str),(l.map λt=>(t.length:Int)).sum=(((l.map (·.length)).sum:Nat):Int)
 | []=>rfl
 | t::l=>by
  rw[List.map_cons,List.sum_cons,kP l,List.map_cons,List.sum_cons]
  omega
theorem Own.same{H H':Hp}{d r ml:Addr}{m0 m1 m2:Nat}{L:LD}{R:RC}{ra:List (Option Addr)}(O:Own H d r ml m0 m1 m2 L R ra)(s:Same H H'):Own H' d r ml m0 m1 m2 L R ra:=⟨s _ _ O.ms,⟨s _ _ O.ld.1,O.ld.2⟩,O.rc.same s,O.ok,O.sz,O.ne⟩
theorem ownQ.same{H H':Hp}{d r ml:Addr}{m0 m1 m2:Nat}{ra:List (Option Addr)}{o:String × LD × RC}{Q:VK}(q:ownQ H d r ml m0 m1 m2 ra o Q)(s:Same H H'):ownQ H' d r ml m0 m1 m2 ra o Q:=λra' H2 h1 h2 h3 h4 h5=>q ra' H2 h1 h2 h3 (λi l h=>(h4 i l h).imp (λe=>by
 cases e':H l with
 | none=>rfl
 | some o=>rw[s _ _ e']at e;cases e) id) λb o e n=>h5 _ _ (s _ _ e) n
theorem Vl (h:OC K a vs H Q E):U3 K a (λ_=>E) (A9 Q) (A7 ["rooms","led","records","kind","one","other","cell","standing","texts"] vs) H:=by
  obtain⟨d,r,ml,m0,m1,m2,L,R,ra,kind,y,z,x,rfl,O,hL,hR,hts90,hk,q⟩:=h
  have nd:=O.ld.2
  have hra:ra.length=R.length:=O.rc.el.length
  push_cast[U3,↓zI]
  refine .inl ⟨⟨_,SqL.of O.rc.ls⟩,vC kK (BV _ (by simp;omega)) (SqL.of O.rc.ls) (λv hv QB qb=> ?_) λst hst=> ?_⟩
  · obtain⟨o,_,rfl⟩:=List.mem_map.mp hv
    push_cast[C1]
    cases o<;>exact qb
  rw[WI]
  have sS:=AV (o:=.lst ((ra.filterMap id).map V.ref)) hst
  have eS:upd H st (.lst ((ra.filterMap id).map V.ref)) st=some (.lst ((ra.filterMap id).map V.ref)):=AJ
  revert sS eS
  generalize upd H st (.lst ((ra.filterMap id).map V.ref))=H1
  intro sS eS
  have hst:(ra.filterMap id).length=(DP R).length:=(Q9 O.rc.el).length
  have hsl:(DP R).length<=R.length:=List.length_filterMap_le _ _
  replace q:=q.same sS
  replace O:=O.same sS
  clear sS
  have same:∀ (o:String),CD m0 m1 m2 L R kind y z x=(o,L,R)->Q (.str (Str.ofString o)) H1:=λo e=>by
    rw[e]at q
    exact q ra H1 O.ms O.ld O.rc (λi l h=>.inr ⟨i,h⟩) λb o e _=>e
  push_cast[↓zQ]
  by_cases k2:kind<2
  · refine C9 (by omega) ?_
    have ed:CD m0 m1 m2 L R kind y z x=if(CW L y).isSome then("Twice",L,R)else if(DP R).length=m1\/L.length=m0 then("NoRoom",L,R)else("",L++[(y,R.length)],R++[some []]):=by
      unfold CD
      rw[if_pos k2]
    push_cast[↓zK]
    refine⟨_,dS O.ld.1,?_⟩
    rw[EL]
    cases ey:CW L y with
    | some i =>
      refine C9 rfl ?_
      push_cast[↓zJ]
      exact same "Twice" (by rw[ed,ey];rfl)
    | none =>
      refine CP (by simp) ?_
      push_cast[↓zM]
      refine⟨(DP R).length,.inl ⟨_,SqL.of eS,by simp[hst]⟩,C3 (SqL.of O.ms) (n:=1) rfl rfl ?_⟩
      push_cast[]
      have full:((DP R).length=m1\/L.length=m0)->US K a (λ_=>E) (λ_=>E) { nx:=AL (UT K a (λ_=>E) λ_=>E) (AL (UU K a (λ_=>E) λ_=>E) (UV K a (λ_=>E) λ_=>E)) { nx:=AL (UW K a (λ_=>E) λ_=>E) (AL (UX K a (λ_=>E) λ_=>E) (AL (UY K a (λ_=>E) λ_=>E) (AL (U2 K a (λ_=>E) λ_=>E) (AL (Q0 K a (λ_=>E) λ_=>E) (AL (Q1 K a (λ_=>E) λ_=>E) (Q2 K a (λ_=>E) λ_=>E)))))) (A9 Q),rt:=Q },rt:=Q } [some (.ref ml),some (.ref d),some (.ref r),some (.int kind),some (.str y),some (.str z),some (.int x),some (.ref st),none] H1:=λh=>by
        push_cast[↓zL]
        exact same "NoRoom" (by rw[ed,ey];simp[h])
      by_cases h1:(DP R).length=m1
      · refine C9 (by omega) ?_
        exact full (.inl h1)
      · refine CP (by omega) ?_
        refine aD O.ld.1 ?_
        rw[KS]
        refine C3 (SqL.of O.ms) (n:=0) rfl rfl ?_
        push_cast[]
        by_cases h0:L.length=m0
        · refine C9 (by omega) ?_
          exact full (.inr h0)
        · refine CP (by omega) ?_
          have ed':CD m0 m1 m2 L R kind y z x=("",L++[(y,R.length)],R++[some []]):=by rw[ed,ey];simp[h0,h1]
          rw[ed']at q
          push_cast[↓zN]
          refine⟨R.length,.inl ⟨_,SqL.of O.rc.ls,by simp[hra]⟩,_,DPut.k (k:=.inr y) O.ld.1 (by rw[KS];exact BV _ (by omega)),?_⟩
          rw[kH ey]
          have nd1:=kL (k:=R.length) nd ey
          have ea:=Q8 O.ld O.rc nd1 rfl
          have em:=WH O (o:=.dK (CJ (L++[(y,R.length)])))
          have sb:SameBut (GO d r ra) H1 (upd H1 d (.dK (CJ (L++[(y,R.length)])))):=λb o e n=>by rw[AM λy=>n (.inl y)];exact e
          have kp:∀ b,H1 b≠none->upd H1 d (.dK (CJ (L++[(y,R.length)]))) b≠none:=λb e=>by
            by_cases hb:b=d
            ·rw[hb,AJ];simp
            ·rw[AM hb];exact e
          revert ea em sb kp
          generalize upd H1 d (.dK (CJ (L++[(y,R.length)])))=H2
          intro ea em sb kp
          push_cast[↓zO]
          refine⟨.inl ⟨rfl,_,SqL.of ea.2.ls⟩,by decide,λl hl=> ?_⟩
          have nr:r≠l:=BM ea.2.ls hl
          have hl1:H1 l=none:=by
            cases e:H1 l with
            | none=>rfl
            | some o=>exact(kp l (by rw[e];simp) hl).elim
          refine⟨r,_,_,rfl,rfl,by rw[AM nr];exact ea.2.ls,BV _ (by simp;omega),?_⟩
          push_cast[↓zP]
          have nd':r≠d:=λe=>by have:=ea.2.ls;rw[e,ea.1.1]at this;cases this
          refine q (ra++[some l]) _ ?_ ⟨?_,nd1⟩ (ea.2.snoc hl) (λi x h=> ?_) λb o e n=> ?_
          ·rw[AM O.ne.1.symm,AM (BM em hl)];exact em
          ·rw[AM nd'.symm,AM (BM ea.1.1 hl)];exact ea.1.1
          · rw[List.getElem?_append]at h
            split at h
            ·exact .inr ⟨i,h⟩
            · rw[List.getElem?_singleton]at h
              split at h
              ·cases h;exact .inl hl1
              ·cases h
          · have e2:=sb _ _ e n
            rw[AM λy=>n (.inr (.inl y)),AM (BM e2 hl)]
            exact e2
  · refine CP (by omega) ?_
    push_cast[↓zS]
    refine⟨by decide,λp hp=> ?_⟩
    have sp:=AV (o:=.tup [.int 2,.int 3,.int 7]) hp
    have ep:upd H1 p (.tup [.int 2,.int 3,.int 7]) p=some (.tup [.int 2,.int 3,.int 7]):=AJ
    revert sp ep
    generalize upd H1 p (.tup [.int 2,.int 3,.int 7])=H2
    intro sp ep
    refine Vk ep ?_
    replace q:=q.same sp
    replace same:∀ (o:String),CD m0 m1 m2 L R kind y z x=(o,L,R)->Q (.str (Str.ofString o)) H2:=λo e=>by
      rw[e]at q
      exact q ra H2 (sp _ _ O.ms) (O.same sp).ld (O.same sp).rc (λi l h=>.inr ⟨i,h⟩) λb o e _=>e
    replace eS:=sp _ _ eS
    replace O:=O.same sp
    clear sp ep
    refine⟨_,rfl,?_⟩
    by_cases kw:kind=2\/kind=3\/kind=7
    · refine C9 (by simpa using kw) ?_
      have ed:CD m0 m1 m2 L R kind y z x=DQ m0 L R kind y z:=by unfold CD;rw[if_neg k2,if_pos kw]
      rw[ed]at q
      push_cast[↓zR]
      exact⟨d,r,ml,m0,m1,m2,L,R,ra,kind,y,z,rfl,O,hL,kw,q⟩
    · refine CP (by simpa using kw) ?_
      push_cast[↓zU]
      refine⟨_,dS O.ld.1,?_⟩
      rw[EL]
      cases ey:CW L y with
      | none =>
        refine C9 rfl ?_
        push_cast[↓zT]
        exact same "NoName" (by unfold CD;rw[if_neg k2,if_neg kw,ey])
      | some i =>
        refine CP (by simp) ?_
        obtain⟨ts,hts⟩:=O.ok y i (OI ey)
        have hir:i<ra.length:=by rw[hra];exact(List.getElem?_eq_some_iff.mp hts).1
        obtain⟨l,hl,el⟩:=WJ O.rc.el hts
        have ed:CD m0 m1 m2 L R kind y z x=if kind=6 then if 0<=DW x/\DW x<ts.length then("",L,R.set i (some (ts.eraseIdx (DW x).toNat)))else("NoPiece",L,R)
          else if JB R=m2 then("NoRoom",L,R)else("",L,R.set i (some (ts++[ET x]))):=by unfold CD;rw[if_neg k2,if_neg kw,ey];simp only[hts]
        push_cast[↓zV]
        refine⟨_,QH O.ld.1 (by rw[EL,ey];rfl),C3 (SqL.of O.rc.ls) (n:=i) rfl (by rw[List.getElem?_map,hl];rfl) ?_⟩
        push_cast[↓z6]
        have h90:=hts90 i ts hts
        have nml:ml≠l:=λe=>O.ne.2 i (by rw[hl,e])
        have ndl:d≠l:=λe=>by have:=O.ld.1;rw[e,el]at this;cases this
        have fin:∀ (us:List Str) (H3:Hp),us.length<=100->Same H2 H3->CD m0 m1 m2 L R kind y z x=("",L,R.set i (some us))->Q (.str (Str.ofString "")) (upd H3 l (.lst (us.map V.str))):=λus H3 hu s3 e=>by
          rw[e]at q
          refine q ra _ ?_ ⟨?_,nd⟩ ((O.rc.same s3).put hl hu) (λi l h=>.inr ⟨i,h⟩) λb o e n=> ?_
          ·rw[AM nml];exact s3 _ _ O.ms
          ·rw[AM ndl];exact s3 _ _ O.ld.1
          ·rw[AM λy=>n (.inr (.inr ⟨i,by rw[y];exact hl⟩))];exact s3 _ _ e
        by_cases k6:kind=6
        · refine C9 (by omega) ?_
          rw[if_pos k6]at ed
          push_cast[↓zX,HW]
          have no:¬ (0<=DW x/\DW x<ts.length)->UZ K a (λ_=>E) (λ_=>E) { nx:=AL (U0 K a (λ_=>E) λ_=>E) (U1 K a (λ_=>E) λ_=>E) { nx:=AL (Q0 K a (λ_=>E) λ_=>E) (AL (Q1 K a (λ_=>E) λ_=>E) (Q2 K a (λ_=>E) λ_=>E)) (A9 Q),rt:=Q },rt:=Q } [some (.ref ml),some (.ref d),some (.ref r),some (.int kind),some (.str y),some (.str z),some (.int x),some (.ref st),some (.ref l)] H2:=λh=>by
            push_cast[↓zW]
            exact same "NoPiece" (by rw[ed,if_neg h])
          refine⟨x,rfl,?_⟩
          push_cast[]
          by_cases h0:0<=DW x
          · refine C9 h0 ?_
            refine⟨ts.length,.inl ⟨_,SqL.of el,by simp⟩,?_⟩
            by_cases h1:DW x<ts.length
            · refine CP (by omega) ?_
              rw[if_pos ⟨h0,h1⟩]at ed
              push_cast[↓zY]
              refine⟨.inl ⟨rfl,_,SqL.of el⟩,x,rfl,?_⟩
              obtain⟨k,ek⟩:∃ k:Nat,DW x=k:=⟨(DW x).toNat,by omega⟩
              have hk':k<ts.length:=by omega
              rw[ek]at ed ⊢
              refine⟨l,_,(k:Int),k,.str ts[k],rfl,rfl,el,by omega,by omega,(R1 (kI (by simpa using hk'))).1,by rw[List.getElem?_map,List.getElem?_eq_getElem hk'];rfl,?_⟩
              push_cast[↓zZ]
              rw[kO]
              exact fin _ H2 (by have:=List.length_eraseIdx_le ts k;omega) (Same.refl _) (by rw[ed,Int.toNat_natCast])
            · refine C9 (by omega) ?_
              exact no λh=>h1 h.2
          · refine CP h0 ?_
            exact no λh=>h0 h.1
        · refine CP (by omega) ?_
          rw[if_neg k6]at ed
          push_cast[↓z8,HW]
          have pS:=Q9 O.rc.el
          refine .inl ⟨⟨_,SqL.of eS⟩,ZA (xs:=(ra.filterMap id).map V.ref) (BV _ (by simp;omega)) (λn ys H'=>H'=H2/\ys=(((DP R).take n).map λt=>(t.length:Int)).map V.int) ⟨rfl,rfl⟩ (λn ys H' _ h=>by rw[h.1];exact SqL.of eS) (λn v ys H' hv hl' ⟨e1,e2⟩=> ?_) λys H' hl' ⟨e1,e2⟩ p hp=> ?_⟩
          · subst e1
            rw[List.getElem?_map,Option.map_eq_some_iff]at hv
            obtain⟨b,hb,rfl⟩:=hv
            have hn:n<(DP R).length:=by rw[<-pS.length];exact(List.getElem?_eq_some_iff.mp hb).1
            have ht:=List.getElem?_eq_getElem hn
            obtain⟨b',hb',et⟩:=IJ pS ht
            rw[hb]at hb'
            cases hb'
            generalize (DP R)[n]=t at ht et
            push_cast[C1]
            refine⟨t.length,.inl ⟨_,SqL.of et,by simp⟩,?_⟩
            rw[e2,List.take_add_one,ht,List.map_append,List.map_append];rfl
          · subst e1
            have s5:=AV (o:=.lst ys) hp
            refine⟨p,((DP R).map λt=>(t.length:Int)),rfl,SqL.of (by rw[AJ,e2,List.length_map,pS.length,List.take_length]),C3 (SqL.of (s5 _ _ O.ms)) (n:=2) rfl rfl ?_⟩
            have es:(((DP R).map λt=>(t.length:Int)).sum)=((JB R:Nat):Int):=kP _
            rw[es]
            push_cast[]
            by_cases hm:JB R=m2
            · refine C9 (by omega) ?_
              push_cast[↓z7]
              rw[if_pos hm]at ed
              have:=same "NoRoom" ed
              rw[ed]at q
              exact q ra _ (s5 _ _ O.ms) (O.same s5).ld (O.same s5).rc (λi l h=>.inr ⟨i,h⟩) λb o e _=>s5 _ _ e
            · refine CP (by omega) ?_
              rw[if_neg hm]at ed
              push_cast[↓z9]
              refine⟨.inl ⟨rfl,_,SqL.of (s5 _ _ el)⟩,x,rfl,λH6 s6=> ?_⟩
              refine⟨l,_,_,rfl,rfl,s6 _ _ (s5 _ _ el),BV _ (by simp;omega),?_⟩
              push_cast[↓Ab]
              have:=fin (ts++[ET x]) H6 (by simp;omega) (s5.trans s6) ed
              rw[List.map_append]at this
              exact this
theorem Vm(h:OC K a vs H Q E):vs.length=7:=by
 obtain⟨_,_,_,_,_,_,_,_,_,_,_,_,_,rfl,_⟩:=h
 rfl
theorem kQ{M:Md}{m:Nat}{z:Str}:z∈D2 M m↔∃ k rec,k<m/\M 0 k=.nm z rec:=by
 unfold D2
 rw[List.mem_filterMap]
 constructor
 ·rintro ⟨k,hk,e⟩
  obtain⟨p,ep,rfl⟩:=Option.map_eq_some_iff.mp e
  unfold C2 at ep
  cases e0:M 0 k with
  | nm y r=>rw[e0]at ep;cases ep;exact⟨k,r,List.mem_range.mp hk,e0⟩
  | no=>rw[e0]at ep;cases ep
  | mk i=>rw[e0]at ep;cases ep
  | rc m ps=>rw[e0]at ep;cases ep
  | tx t=>rw[e0]at ep;cases ep
 ·rintro ⟨k,rec,hk,e⟩
  exact⟨k,List.mem_range.mpr hk,by unfold C2;rw[e];rfl⟩
theorem Vp{X:SX}{M:Md}(U:Uni X M):(D2 M X.m0).Nodup:=by
 unfold D2
 refine List.Pairwise.filterMap (R:=λk k'=>k≠k'/\k<X.m0/\k'<X.m0) _ (λk k' ⟨hn,hk,hk'⟩ y hy y' hy' e=> ?_) ?_
 ·refine List.Pairwise.imp_of_mem (λ{x y} hx hy h=>⟨h,List.mem_range.mp hx,List.mem_range.mp hy⟩) (List.nodup_range (n:=X.m0))
 ·subst e
  obtain⟨p,ep,e1⟩:=Option.map_eq_some_iff.mp hy
  obtain⟨p',ep',e1'⟩:=Option.map_eq_some_iff.mp hy'
  have key:∀ {k:Nat} {p:Str × Nat},C2 M k=some p->M 0 k=.nm p.1 p.2:=λ{k p} h=>by
   unfold C2 at h
   cases e0:M 0 k with
   | nm y r=>rw[e0]at h;cases h;rfl
   | no=>rw[e0]at h;cases h
   | mk i=>rw[e0]at h;cases h
   | rc m ps=>rw[e0]at h;cases h
   | tx t=>rw[e0]at h;cases h
  exact hn (U k k' y p.2 p'.2 hk hk' (by rw[<-e1];exact key ep) (by rw[<-e1'];exact key ep'))
theorem WK{X:SX}{M:Md}{L:LD}{R:RC}{pl:Nat->Nat}(U:Uni X M)(S:Match X M L R pl)(nd:(L.map (·.1)).Nodup):(D2 M X.m0).Perm (L.map (·.1)):=by
 refine(List.perm_ext_iff_of_nodup (Vp U) nd).mpr λz=> ?_
 rw[kQ,List.mem_map]
 constructor
 ·rintro ⟨k,rec,hk,e⟩
  obtain⟨i,hi,_⟩:=S.n1 k z rec hk e
  exact⟨(z,i),hi,rfl⟩
 ·rintro ⟨⟨y,i⟩,hi,rfl⟩
  obtain⟨k,hk,e⟩:=S.n2 y i hi
  exact⟨k,_,hk,e⟩
theorem Match.lt{X:SX}{M:Md}{L:LD}{R:RC}{pl:Nat->Nat}(S:Match X M L R pl){z:Str}{i:Nat}(h:(z,i)∈L):i<R.length:=by
 obtain⟨ts,e⟩:=S.r2 z i h
 exact(List.getElem?_eq_some_iff.mp e).1
theorem Match.make{X:SX}{M:Md}{L:LD}{R:RC}{pl:Nat->Nat}{y:Str}{rec cell:Nat}(S:Match X M L R pl)(D:Snd X M)(hr:rec<X.r * X.w)(hc:cell<X.m0)(fr:B0 1 (M 1 rec)=true)(fc:B0 0 (M 0 cell)=true):Match X (((M.put 1 rec (.mk 1)).put 3 rec (.rc 1 [])).put 0 cell (.nm y rec)) (L++[(y,R.length)]) (R++[some []]) (λi=>if i=R.length then rec else pl i):=by
 have at0:∀ {k:Nat},k≠cell->(((M.put 1 rec (.mk 1)).put 3 rec (.rc 1 [])).put 0 cell (.nm y rec)) 0 k=M 0 k:=λh=>by rw[BL h,AI (by decide),AI (by decide)]
 have at3:∀ {k:Nat},k≠rec->(((M.put 1 rec (.mk 1)).put 3 rec (.rc 1 [])).put 0 cell (.nm y rec)) 3 k=M 3 k:=λh=>by rw[AI (by decide),BL h,AI (by decide)]
 have at3':(((M.put 1 rec (.mk 1)).put 3 rec (.rc 1 [])).put 0 cell (.nm y rec)) 3 rec=.rc 1 []:=by rw[AI (by decide),BO]
 have at4:∀ {k:Nat},(((M.put 1 rec (.mk 1)).put 3 rec (.rc 1 [])).put 0 cell (.nm y rec)) 4 k=M 4 k:=by intro k;rw[AI (by decide),AI (by decide),AI (by decide)]
 have gs:∀ {i:Nat} {ts:List Str},(R++[some []])[i]? =some (some ts)->(R[i]? =some (some ts)/\i≠R.length)\/(i=R.length/\ts=[]):=λ{i ts} h=>by
  rw[List.getElem?_append]at h
  split at h
  ·exact .inl ⟨h,by omega⟩
  ·rw[List.getElem?_singleton]at h
   split at h
   ·cases h
    exact .inr ⟨by omega,rfl⟩
   ·cases h
 have npl:∀ {i:Nat} {ts:List Str},R[i]? =some (some ts)->pl i≠rec:=λ{i ts} h e=>by
  obtain⟨_,⟨m,ps,e3,_⟩,_⟩:=S.r1 i ts h
  exact D.stand hr fr (e ▸ e3)
 refine⟨λk z rec' hk e=> ?_,λz i h=> ?_,λi ts h=> ?_,λz i h=> ?_,λrec' m ps hr' e=> ?_,λi j ts us h1 h2 e=> ?_⟩
 ·by_cases h:k=cell
  ·rw[h,BO]at e
   cases e
   exact⟨R.length,by simp,if_pos rfl⟩
  ·rw[at0 h]at e
   obtain⟨i,hi,ei⟩:=S.n1 k z rec' hk e
   have:=S.lt hi
   exact⟨i,List.mem_append_left _ hi,by rw[if_neg (by omega)];exact ei⟩
 ·rcases List.mem_append.mp h with h | h
  ·obtain⟨k,hk,e⟩:=S.n2 z i h
   have:=S.lt h
   refine⟨k,hk,?_⟩
   rw[at0 (λy=>by rw[<-y,e]at fc;cases fc),if_neg (by omega)]
   exact e
  ·cases List.mem_singleton.mp h
   exact⟨cell,hc,by rw[BO,if_pos rfl]⟩
 ·rcases gs h with⟨h,hi⟩ | ⟨rfl,rfl⟩
  ·obtain⟨h1,⟨m,ps,e3,hp⟩,z,hz⟩:=S.r1 i ts h
   rw[if_neg hi]
   exact⟨h1,⟨m,ps,by rw[at3 (npl h)];exact e3,Paired.mapP hp λp t x=>by rw[at4];exact x⟩,z,List.mem_append_left _ hz⟩
  ·rw[if_pos rfl]
   exact⟨hr,⟨1,[],at3',.nil⟩,y,by simp⟩
 ·rcases List.mem_append.mp h with h | h
  ·obtain⟨ts,e⟩:=S.r2 z i h
   exact⟨ts,by rw[List.getElem?_append_left (S.lt h)];exact e⟩
  ·cases List.mem_singleton.mp h
   exact⟨[],by simp⟩
 ·by_cases h:rec'=rec
  ·exact⟨R.length,[],by simp,by rw[if_pos rfl,h]⟩
  ·rw[at3 h]at e
   obtain⟨i,ts,h1,h2⟩:=S.r3 rec' m ps hr' e
   have:=(List.getElem?_eq_some_iff.mp h1).1
   exact⟨i,ts,by rw[List.getElem?_append_left this];exact h1,by rw[if_neg (by omega)];exact h2⟩
 ·rcases gs h1 with⟨h1,n1⟩ | ⟨e1,_⟩<;>rcases gs h2 with⟨h2,n2⟩ | ⟨e2,_⟩
  ·rw[if_neg n1,if_neg n2]at e
   exact S.ij i j ts us h1 h2 e
  ·rw[if_neg n1,if_pos e2]at e
   exact(npl h1 e).elim
  ·rw[if_pos e1,if_neg n2]at e
   exact(npl h2 e.symm).elim
  ·omega
theorem Match.count{X:SX}{M:Md}{L:LD}{R:RC}{pl:Nat->Nat}{rec m m':Nat}{ps:List Nat}(S:Match X M L R pl)(e3:M 3 rec=.rc m ps):Match X (M.put 3 rec (.rc m' ps)) L R pl:=by
 have at3:∀ {k m1:Nat} {ps1:List Nat},M 3 k=.rc m1 ps1->∃ m2,(M.put 3 rec (.rc m' ps)) 3 k=.rc m2 ps1:=λ{k m1 ps1} h=>by
  by_cases hk:k=rec
  ·subst hk
   rw[e3]at h
   cases h
   exact⟨m',BO⟩
  ·exact⟨m1,by rw[BL hk];exact h⟩
 refine⟨λk z rec' hk e=>S.n1 k z rec' hk (by rw[AI (by decide)]at e;exact e),λz i h=> ?_,λi ts h=> ?_,S.r2,λrec' m1 ps1 hr' e=> ?_,S.ij⟩
 ·obtain⟨k,hk,e⟩:=S.n2 z i h
  exact⟨k,hk,by rw[AI (by decide)];exact e⟩
 ·obtain⟨h1,⟨m1,ps1,e1,hp⟩,hz⟩:=S.r1 i ts h
  obtain⟨m2,e2⟩:=at3 e1
  exact⟨h1,⟨m2,ps1,e2,Paired.mapP hp λp t x=>by rw[AI (by decide)];exact x⟩,hz⟩
 ·by_cases hk:rec'=rec
  ·exact S.r3 rec' m ps hr' (by rw[hk];exact e3)
  ·rw[BL hk]at e
   exact S.r3 rec' m1 ps1 hr' e
theorem Match.name{X:SX}{M:Md}{L:LD}{R:RC}{pl:Nat->Nat}{y z:Str}{rec cell i:Nat}(S:Match X M L R pl)(hc:cell<X.m0)(fc:B0 0 (M 0 cell)=true)(hy:(y,i)∈L)(hi:pl i=rec):Match X (M.put 0 cell (.nm z rec)) (L++[(z,i)]) R pl:=by
 refine⟨λk z' rec' hk e=> ?_,λz' j h=> ?_,λj ts h=> ?_,λz' j h=> ?_,λrec' m1 ps1 hr' e=>S.r3 rec' m1 ps1 hr' (by rw[AI (by decide)]at e;exact e),S.ij⟩
 ·by_cases h:k=cell
  ·rw[h,BO]at e
   cases e
   exact⟨i,by simp,hi⟩
  ·rw[BL h]at e
   obtain⟨j,hj,ej⟩:=S.n1 k z' rec' hk e
   exact⟨j,List.mem_append_left _ hj,ej⟩
 ·rcases List.mem_append.mp h with h | h
  ·obtain⟨k,hk,e⟩:=S.n2 z' j h
   refine⟨k,hk,?_⟩
   rw[BL λy=>by rw[<-y,e]at fc;cases fc]
   exact e
  ·cases List.mem_singleton.mp h
   exact⟨cell,hc,by rw[BO,hi]⟩
 ·obtain⟨h1,⟨m1,ps1,e1,hp⟩,w,hz⟩:=S.r1 j ts h
  exact⟨h1,⟨m1,ps1,by rw[AI (by decide)];exact e1,Paired.mapP hp λp t x=>by rw[AI (by decide)];exact x⟩,w,List.mem_append_left _ hz⟩
 ·rcases List.mem_append.mp h with h | h
  ·exact S.r2 z' j h
  ·cases List.mem_singleton.mp h
   exact S.r2 y i hy
theorem GA{L:LD}{y z:Str}{i:Nat}:(z,i)∈CK L y↔(z,i)∈L/\z≠y:=by
 unfold CK
 rw[List.mem_filter]
 simp
theorem Match.less{X:SX}{M:Md}{L:LD}{R:RC}{pl:Nat->Nat}{y z:Str}{rec cell i:Nat}(S:Match X M L R pl)(U:Uni X M)(nd:(L.map (·.1)).Nodup)(hc:cell<X.m0)(e0:M 0 cell=.nm y rec)(hy:(y,i)∈L)(hz:(z,i)∈L)(hn:z≠y):Match X (M.put 0 cell .no) (CK L y) R pl:=by
 refine⟨λk z' rec' hk e=> ?_,λz' j h=> ?_,λj ts h=> ?_,λz' j h=>S.r2 z' j (GA.mp h).1,λrec' m1 ps1 hr' e=>S.r3 rec' m1 ps1 hr' (by rw[AI (by decide)]at e;exact e),S.ij⟩
 ·have h:k≠cell:=λh=>by rw[h,BO]at e;cases e
  rw[BL h]at e
  obtain⟨j,hj,ej⟩:=S.n1 k z' rec' hk e
  exact⟨j,GA.mpr ⟨hj,λy'=>h (U k cell y rec' rec hk hc (y' ▸ e) e0)⟩,ej⟩
 ·obtain⟨h,hne⟩:=GA.mp h
  obtain⟨k,hk,e⟩:=S.n2 z' j h
  refine⟨k,hk,?_⟩
  rw[BL λy'=>by rw[y',e0]at e;cases e;exact hne rfl]
  exact e
 ·obtain⟨h1,⟨m1,ps1,e1,hp⟩,w,hw⟩:=S.r1 j ts h
  refine⟨h1,⟨m1,ps1,by rw[AI (by decide)];exact e1,Paired.mapP hp λp t x=>by rw[AI (by decide)];exact x⟩,?_⟩
  by_cases hwy:w=y
  ·subst hwy
   have a1:=KU nd hw
   rw[KU nd hy]at a1
   cases a1
   exact⟨z,GA.mpr ⟨hz,hn⟩⟩
  ·exact⟨w,GA.mpr ⟨hw,hwy⟩⟩
theorem WL{α β :Type}{P P': α -> β ->Prop}:∀ {l:List α} {m:List β},Paired P l m->(∀ x y,x∈l->P x y->P' x y)->Paired P' l m
 | _,_,.nil,_=>.nil
 | _,_,.cons x r,h=>.cons (h _ _ List.mem_cons_self x) (WL r λo t hm=>h o t (List.mem_cons_of_mem _ hm))
theorem Match.texts{X:SX}{M M':Md}{L:LD}{R:RC}{pl:Nat->Nat}{rec m' i:Nat}{ps':List Nat}{ts us:List Str}(S:Match X M L R pl)(h0:∀ k,M' 0 k=M 0 k)(h3:∀ k,k≠rec->M' 3 k=M 3 k)(e3':M' 3 rec=.rc m' ps')(hp':Paired (λp t=>M' 4 p=.tx t/\PyData.strOk t=true) ps' us)
  (ho:∀ k m1 ps1 p,k<X.r * X.w->k≠rec->M 3 k=.rc m1 ps1->p∈ps1->M' 4 p=M 4 p) (hi:R[i]? =some (some ts)) (hpl:pl i=rec):Match X M' L (R.set i (some us)) pl:=by
 have hil:=(List.getElem?_eq_some_iff.mp hi).1
 have gs:∀ {j:Nat} {vs:List Str},(R.set i (some us))[j]? =some (some vs)->(j=i/\vs=us)\/(j≠i/\R[j]? =some (some vs)):=λ{j vs} h=>by
  by_cases e:i=j
  ·subst e
   rw[List.getElem?_set_self hil]at h
   cases h
   exact .inl ⟨rfl,rfl⟩
  ·rw[List.getElem?_set_ne e]at h
   exact .inr ⟨λy=>e y.symm,h⟩
 have gb:∀ {j:Nat} {vs:List Str},R[j]? =some (some vs)->∃ ws,(R.set i (some us))[j]? =some (some ws):=λ{j vs} h=>by
  by_cases e:i=j
  ·subst e
   exact⟨us,List.getElem?_set_self hil⟩
  ·exact⟨vs,by rw[List.getElem?_set_ne e];exact h⟩
 have gr:∀ {j:Nat} {vs:List Str},(R.set i (some us))[j]? =some (some vs)->∃ ws,R[j]? =some (some ws):=λ{j vs} h=>by
  rcases gs h with⟨rfl,_⟩ | ⟨_,h⟩
  ·exact⟨ts,hi⟩
  ·exact⟨vs,h⟩
 refine⟨λk z rec' hk e=>S.n1 k z rec' hk (by rw[<-h0];exact e),λz j h=> ?_,λj vs h=> ?_,λz j h=> ?_,λrec' m1 ps1 hr' e=> ?_,λj k vs ws h1 h2 e=> ?_⟩
 ·obtain⟨k,hk,e⟩:=S.n2 z j h
  exact⟨k,hk,by rw[h0];exact e⟩
 ·rcases gs h with⟨rfl,rfl⟩ | ⟨hn,h⟩
  ·obtain⟨h1,_,hz⟩:=S.r1 j ts hi
   exact⟨h1,⟨m',ps',by rw[hpl];exact e3',hp'⟩,hz⟩
  ·obtain⟨h1,⟨m1,ps1,e1,hp⟩,hz⟩:=S.r1 j vs h
   have hne:pl j≠rec:=λy=>hn (S.ij j i vs ts h hi (y.trans hpl.symm))
   exact⟨h1,⟨m1,ps1,by rw[h3 _ hne];exact e1,WL hp λp t hm x=>by rw[ho _ _ _ p h1 hne e1 hm];exact x⟩,hz⟩
 ·obtain⟨vs,e⟩:=S.r2 z j h
  exact gb e
 ·by_cases h:rec'=rec
  ·obtain⟨ws,e'⟩:=gb hi
   exact⟨i,ws,e',hpl.trans h.symm⟩
  ·rw[h3 _ h]at e
   obtain⟨j,vs,h1,h2⟩:=S.r3 rec' m1 ps1 hr' e
   obtain⟨ws,e'⟩:=gb h1
   exact⟨j,ws,e',h2⟩
 ·obtain⟨vs',h1⟩:=gr h1
  obtain⟨ws',h2⟩:=gr h2
  exact S.ij j k vs' ws' h1 h2 e
theorem Match.drop{X:SX}{M M':Md}{L:LD}{R:RC}{pl:Nat->Nat}{y:Str}{rec cell i:Nat}{ts:List Str}(S:Match X M L R pl)(U:Uni X M)(hc:cell<X.m0)(e0:M 0 cell=.nm y rec)(h0:∀ k,k≠cell->M' 0 k=M 0 k)(h0':M' 0 cell=.no)(h3:∀ k,k≠rec->M' 3 k=M 3 k)(h3':M' 3 rec=.no)(h4:∀ k,M' 4 k=M 4 k)
  (hi:R[i]? =some (some ts)) (hpl:pl i=rec) (hl:∀ z,(z,i)∈L->z=y) (hu:∀ j,(y,j)∈L->j=i):Match X M' (CK L y) (R.set i none) pl:=by
 have hil:=(List.getElem?_eq_some_iff.mp hi).1
 have gs:∀ {j:Nat} {vs:List Str},(R.set i none)[j]? =some (some vs)->j≠i/\R[j]? =some (some vs):=λ{j vs} h=>by
  by_cases e:i=j
  ·subst e
   rw[List.getElem?_set_self hil]at h
   cases h
  ·rw[List.getElem?_set_ne e]at h
   exact⟨λy=>e y.symm,h⟩
 have ne:∀ {z:Str} {j:Nat},(z,j)∈L->z≠y->j≠i:=λ{z j} h hz e=>hz (hl z (e ▸ h))
 refine⟨λk z rec' hk e=> ?_,λz j h=> ?_,λj vs h=> ?_,λz j h=> ?_,λrec' m1 ps1 hr' e=> ?_,λj k vs ws h1 h2 e=>S.ij j k vs ws (gs h1).2 (gs h2).2 e⟩
 ·have h:k≠cell:=λh=>by rw[h,h0']at e;cases e
  rw[h0 k h]at e
  obtain⟨j,hj,ej⟩:=S.n1 k z rec' hk e
  exact⟨j,GA.mpr ⟨hj,λy'=>h (U k cell y rec' rec hk hc (y' ▸ e) e0)⟩,ej⟩
 ·obtain⟨h,hne⟩:=GA.mp h
  obtain⟨k,hk,e⟩:=S.n2 z j h
  exact⟨k,hk,by rw[h0 k λy'=>by rw[y',e0]at e;cases e;exact hne rfl];exact e⟩
 ·obtain⟨hn,h⟩:=gs h
  obtain⟨h1,⟨m1,ps1,e1,hp⟩,w,hw⟩:=S.r1 j vs h
  have hne:pl j≠rec:=λy=>hn (S.ij j i vs ts h hi (y.trans hpl.symm))
  exact⟨h1,⟨m1,ps1,by rw[h3 _ hne];exact e1,Paired.mapP hp λp t x=>by rw[h4];exact x⟩,w,GA.mpr ⟨hw,λy'=>hn (hu j (y' ▸ hw))⟩⟩
 ·obtain⟨h,hne⟩:=GA.mp h
  obtain⟨vs,e⟩:=S.r2 z j h
  exact⟨vs,by rw[List.getElem?_set_ne λe=>ne h hne e.symm];exact e⟩
 ·have h:rec'≠rec:=λh=>by rw[h,h3']at e;cases e
  rw[h3 _ h]at e
  obtain⟨j,vs,h1,h2⟩:=S.r3 rec' m1 ps1 hr' e
  exact⟨j,vs,by rw[List.getElem?_set_ne λe=>h (by rw[<-h2,<-e,hpl])];exact h1,h2⟩
theorem Vq{M:Md}{m cell rec:Nat}(h:1<CO M m rec)(hc:cell<m):∃ k z,k<m/\k≠cell/\M 0 k=.nm z rec:=by
 have e:=KR (M:=M) (x:=.no) (rec':=rec) hc
 have h1:0<CO (M.put 0 cell .no) m rec:=by
  have:(if D5 rec .no=true then 1 else 0)=0:=rfl
  split at e<;>omega
 unfold CO at h1
 obtain⟨k,hk,hb⟩:=List.countP_pos_iff.mp h1
 rw[F8]at hb
 have hn:k≠cell:=λy=>by rw[y,BO]at hb;cases hb
 rw[BL hn]at hb
 cases e0:M 0 k with
 | nm z r =>
  rw[e0]at hb
  have:r=rec:=by simpa [D5]using hb
  exact⟨k,z,List.mem_range.mp hk,hn,by rw[e0,this]⟩
 | no=>rw[e0]at hb;cases hb
 | mk i=>rw[e0]at hb;cases hb
 | rc m ps=>rw[e0]at hb;cases hb
 | tx t=>rw[e0]at hb;cases hb
theorem kR{l:List Nat}{m:Nat}(nd:l.Nodup)(hl:∀ x∈l,x<m):l.length=m↔∀ k<m,k∈l:=by
 constructor
 ·intro e k hk
  have hsub:l ⊆ List.range m:=λx hx=>List.mem_range.mpr (hl x hx)
  by_cases hm:k∈l
  ·exact hm
  ·have h1:(k::l).Nodup:=List.nodup_cons.mpr ⟨hm,nd⟩
   have:=List.Nodup.length_le_of_subset (l₂:=List.range m) h1 λx hx=>by
    rcases List.mem_cons.mp hx with rfl | hx
    ·exact List.mem_range.mpr hk
    ·exact hsub hx
   simp at this
   omega
 ·intro h
  have h1:=List.Nodup.length_le_of_subset (l₂:=List.range m) nd λx hx=>List.mem_range.mpr (hl x hx)
  have h2:=List.Nodup.length_le_of_subset (l₂:=l) (List.nodup_range (n:=m)) λx hx=>h x (List.mem_range.mp hx)
  simp at h1 h2
  omega
def DR(pl:Nat->Nat):Nat->RC->List Nat
 | _,[]=>[]
 | n,none::R=>DR pl (n+1) R
 | n,some _::R=>pl n::DR pl (n+1) R
theorem WM{pl:Nat->Nat}:∀ {R:RC} {n:Nat},(DR pl n R).length=(DP R).length
 | [],_=>rfl
 | none::R,n=>by
  have:=WM (pl:=pl) (R:=R) (n:=n+1)
  simpa [DR,DP]using this
 | some ts::R,n=>by
  have:=WM (pl:=pl) (R:=R) (n:=n+1)
  simpa [DR,DP]using this
theorem JE{pl:Nat->Nat}{k:Nat}:∀ {R:RC} {n:Nat},k∈DR pl n R↔∃ (i:Nat) (ts:List Str),R[i]? =some (some ts)/\pl (n+i)=k
 | [],_=>by simp[DR]
 | none::R,n=>by
  rw[show DR pl n (none::R)=DR pl (n+1) R from rfl,JE]
  constructor
  ·rintro ⟨i,ts,h,e⟩
   exact⟨i+1,ts,by simpa using h,by rw[<-e];congr 1;omega⟩
  ·rintro ⟨i,ts,h,e⟩
   cases i with
   | zero=>simp at h
   | succ i=>exact⟨i,ts,by simpa using h,by rw[<-e];congr 1;omega⟩
 | some us::R,n=>by
  rw[show DR pl n (some us::R)=pl n::DR pl (n+1) R from rfl,List.mem_cons,JE]
  constructor
  ·rintro (rfl | ⟨i,ts,h,e⟩)
   ·exact⟨0,us,by simp,rfl⟩
   ·exact⟨i+1,ts,by simpa using h,by rw[<-e];congr 1;omega⟩
  ·rintro ⟨i,ts,h,e⟩
   cases i with
   | zero=>exact .inl e.symm
   | succ i=>exact .inr ⟨i,ts,by simpa using h,by rw[<-e];congr 1;omega⟩
theorem RA{pl:Nat->Nat}:∀ {R:RC} {n:Nat},(∀ (i j:Nat) (ts us:List Str),R[i]? =some (some ts)->R[j]? =some (some us)->pl (n+i)=pl (n+j)->i=j)->(DR pl n R).Nodup
 | [],_,_=>List.nodup_nil
 | none::R,n,h=>RA (R:=R) (n:=n+1) λi j ts us h1 h2 e=>by
  have:=h (i+1) (j+1) ts us (by simpa using h1) (by simpa using h2) (by rw[show n+(i+1)=n+1+i by omega,show n+(j+1)=n+1+j by omega];exact e)
  omega
 | some us::R,n,h=>by
  rw[show DR pl n (some us::R)=pl n::DR pl (n+1) R from rfl,List.nodup_cons]
  refine⟨λhm=> ?_,RA (R:=R) (n:=n+1) λi j ts us h1 h2 e=> ?_⟩
  ·obtain⟨i,ts,h1,e⟩:=JE.mp hm
   have:=h (i+1) 0 ts us (by simpa using h1) (by simp) (by rw[show n+(i+1)=n+1+i by omega];exact e)
   omega
  ·have:=h (i+1) (j+1) ts us (by simpa using h1) (by simpa using h2) (by rw[show n+(i+1)=n+1+i by omega,show n+(j+1)=n+1+j by omega];exact e)
   omega
def RB(M:Md)(rec:Nat):List Nat:=match M 3 rec with
 | .rc _ ps=>ps
 | _=>[]
theorem WN{pl:Nat->Nat}{M:Md}:∀ {R:RC} {n:Nat},(∀ (i:Nat) (ts:List Str),R[i]? =some (some ts)->(RB M (pl (n+i))).length=ts.length)->((DR pl n R).flatMap (RB M)).length=JB R
 | [],_,_=>rfl
 | none::R,n,h=>by
  have:=WN (pl:=pl) (M:=M) (R:=R) (n:=n+1) λi ts h1=>by rw[show n+1+i=n+(i+1) by omega];exact h (i+1) ts (by simpa using h1)
  simpa [DR,JB,DP]using this
 | some us::R,n,h=>by
  have:=WN (pl:=pl) (M:=M) (R:=R) (n:=n+1) λi ts h1=>by rw[show n+1+i=n+(i+1) by omega];exact h (i+1) ts (by simpa using h1)
  have h0:=h 0 us (by simp)
  rw[show DR pl n (some us::R)=pl n::DR pl (n+1) R from rfl,List.flatMap_cons,List.length_append,this,Nat.add_zero]at *
  rw[h0]
  rfl
theorem KW{α β :Type}{P: α -> β ->Prop}:∀ {l:List α} {m:List β},Paired P l m->l.length=m.length
 | _,_,.nil=>rfl
 | _,_,.cons _ r=>by simp[KW r]
theorem kS{M:Md}{kind k:Nat}(hk:kind=1\/kind=2)(ok:EJ kind (M kind k)):B0 kind (M kind k)=false↔M kind k=.mk 1:=by
 rcases hk with rfl | rfl
 all_goals
  cases e:M _ k with
  | no=>simp[B0]
  | mk i =>
   rw[e]at ok
   have:i<=1:=ok
   simp[B0]
   omega
  | nm y r=>rw[e]at ok;exact ok.elim
  | rc m ps=>rw[e]at ok;exact ok.elim
  | tx t=>rw[e]at ok;exact ok.elim
theorem Vv{X:SX}{M:Md}{L:LD}{R:RC}{pl:Nat->Nat}(S:Match X M L R pl)(D:Snd X M)(T:Tight X M)(ok:∀ k,k<X.r * X.w->EJ 1 (M 1 k)):CI M 1 (X.r * X.w)= -1↔(DP R).length=X.r * X.w:=by
 rw[<-WM (pl:=pl) (n:=0),kR (RA λi j ts us h1 h2 e=>S.ij i j ts us h1 h2 (by simpa using e)) λx hx=>by
  obtain⟨i,ts,h,e⟩:=JE.mp hx
  rw[<-e,Nat.zero_add]
  exact(S.r1 i ts h).1]
 unfold CI
 rw[WC]
 refine forall_congr' λk=>forall_congr' λhk=> ?_
 rw[kS (.inl rfl) (ok k hk),JE]
 constructor
 ·intro e
  obtain⟨m,ps,e3⟩:=T.rcs k hk e
  obtain⟨i,ts,h1,h2⟩:=S.r3 k m ps hk e3
  exact⟨i,ts,h1,by rw[Nat.zero_add];exact h2⟩
 ·rintro ⟨i,ts,h,e⟩
  rw[Nat.zero_add]at e
  obtain⟨h1,⟨m,ps,e3,_⟩,_⟩:=S.r1 i ts h
  rw[e]at e3 h1
  exact(D.m4 k m ps h1 e3).2.2
theorem JF{M:Md}{rec m:Nat}{ps:List Nat}(e:M 3 rec=.rc m ps):RB M rec=ps:=by unfold RB;rw[e]
theorem Vw{X:SX}{M:Md}{L:LD}{R:RC}{pl:Nat->Nat}(S:Match X M L R pl)(D:Snd X M)(T:Tight X M)(ok:∀ k,k<X.c * X.w->EJ 2 (M 2 k)):CI M 2 (X.c * X.w)= -1↔JB R=X.c * X.w:=by
 have st:∀ {k:Nat},k∈DR pl 0 R->k<X.r * X.w/\∃ m ps,M 3 k=.rc m ps:=λ{k} hk=>by
  obtain⟨i,ts,h,e⟩:=JE.mp hk
  rw[Nat.zero_add]at e
  obtain⟨h1,⟨m,ps,e3,_⟩,_⟩:=S.r1 i ts h
  rw[e]at e3 h1
  exact⟨h1,m,ps,e3⟩
 rw[<-WN (pl:=pl) (M:=M) (n:=0) λi ts h=>by
  obtain⟨h1,⟨m,ps,e3,hp⟩,_⟩:=S.r1 i ts h
  rw[Nat.zero_add,JF e3]
  exact KW hp]
 rw[kR ?_ λx hx=> ?_]
 ·unfold CI
  rw[WC]
  refine forall_congr' λk=>forall_congr' λhk=> ?_
  rw[kS (.inr rfl) (ok k hk),List.mem_flatMap]
  constructor
  ·intro e
   obtain⟨r',m,ps,hr,e3,hp⟩:=T.pc k hk e
   obtain⟨i,ts,h1,h2⟩:=S.r3 r' m ps hr e3
   exact⟨r',JE.mpr ⟨i,ts,h1,by rw[Nat.zero_add];exact h2⟩,by rw[JF e3];exact hp⟩
  ·rintro ⟨r',hr',hp⟩
   obtain⟨h1,m,ps,e3⟩:=st hr'
   rw[JF e3]at hp
   exact((D.m4 r' m ps h1 e3).2.1 k hp).2.1
 ·refine List.pairwise_flatMap.mpr ⟨λk hk=> ?_,?_⟩
  ·obtain⟨h1,m,ps,e3⟩:=st hk
   rw[JF e3]
   exact(D.m4 k m ps h1 e3).1
  ·refine List.Pairwise.imp_of_mem (λ{x y} hx hy hne p hp q hq e=> ?_) (RA (pl:=pl) (R:=R) (n:=0) λi j ts us h1 h2 e=>S.ij i j ts us h1 h2 (by simpa using e))
   subst e
   obtain⟨h1,m,ps,e3⟩:=st hx
   obtain⟨h2,m',ps',e3'⟩:=st hy
   rw[JF e3]at hp
   rw[JF e3']at hq
   exact D.m5 x y m m' ps ps' p h1 h2 hne e3 e3' hp hq
 ·obtain⟨r',hr',hp⟩:=List.mem_flatMap.mp hx
  obtain⟨h1,m,ps,e3⟩:=st hr'
  rw[JF e3]at hp
  exact((D.m4 r' m ps h1 e3).2.1 x hp).1
theorem kT{α β :Type}{P: α -> β ->Prop}{x: α}{t: β}:∀ {l:List α} {m:List β},Paired P l m->P x t->Paired P (l++[x]) (m++[t])
 | _,_,.nil,h=>.cons h .nil
 | _,_,.cons y r,h=>.cons y (kT r h)
theorem kU{α β :Type}{P: α -> β ->Prop}:∀ {l:List α} {m:List β} {k:Nat},Paired P l m->Paired P (l.eraseIdx k) (m.eraseIdx k)
 | _,_,_,.nil=>.nil
 | _,_,0,.cons y r=>r
 | _,_,k+1,.cons y r=>.cons y (kU r)
theorem GR{X:SX}{M:Md}{L:LD}{R:RC}{pl:Nat->Nat}{y:Str}(S:Match X M L R pl)(h:cellOf M X.m0 y=none):CW L y=none:=by
 cases e:CW L y with
 | none=>rfl
 | some i =>
  obtain⟨k,hk,e0⟩:=S.n2 y i (OI e)
  unfold cellOf at h
  have:=List.find?_eq_none.mp h k (List.mem_range.mpr hk)
  unfold C2 at this
  rw[e0]at this
  simp at this
theorem FO{X:SX}{M:Md}{L:LD}{R:RC}{pl:Nat->Nat}{y:Str}{cell rec:Nat}(S:Match X M L R pl)(nd:(L.map (·.1)).Nodup)(hc:cell<X.m0)(e0:M 0 cell=.nm y rec):∃ (i:Nat) (ts:List Str),CW L y=some i/\(y,i)∈L/\pl i=rec/\R[i]? =some (some ts):=by
 obtain⟨i,hi,e⟩:=S.n1 cell y rec hc e0
 obtain⟨ts,h⟩:=S.r2 y i hi
 exact⟨i,ts,KU nd hi,hi,e,h⟩
theorem Vx{X:SX}{M:Md}{L:LD}{R:RC}{pl:Nat->Nat}(S:Match X M L R pl)(U:Uni X M)(nd:(L.map (·.1)).Nodup)(ok:∀ k,k<X.m0->EJ 0 (M 0 k)):CI M 0 X.m0= -1↔L.length=X.m0:=by
 rw[Uc ok,(WK U S nd).length_eq,List.length_map]
theorem Vy{X:SX}{M M':Md}{L:LD}{R:RC}{pl:Nat->Nat}{y z:Str}{x:Int}{kind:Nat}{res:String}(P:DF X M y z x kind res M')(S:Match X M L R pl)(D:Snd X M)(U:Uni X M)(T:Tight X M)(ok:∀ kind k,kind<5->k<A5 X.n X.r X.c X.w kind->EJ kind (M kind k))(nd:(L.map (·.1)).Nodup) :
  ∃ L' R' pl',CD X.m0 (X.r * X.w) (X.c * X.w) L R kind y z x=(res,L',R')/\Match X M' L' R' pl':=by
 have ok0:∀ k,k<X.m0->EJ 0 (M 0 k):=λk hk=>ok 0 k (by decide) hk
 have ok1:∀ k,k<X.r * X.w->EJ 1 (M 1 k):=λk hk=>ok 1 k (by decide) hk
 have ok2:∀ k,k<X.c * X.w->EJ 2 (M 2 k):=λk hk=>ok 2 k (by decide) hk
 have nr:=Vx S U nd ok0
 have rr:=Vv S D T ok1
 have pr:=Vw S D T ok2
 cases P with
 | makeT h h1 =>
  obtain⟨hc,rec,e0⟩:=Q7 h1
  obtain⟨i,ts,g,_⟩:=FO S nd hc e0
  exact⟨L,R,pl,by unfold CD;rw[if_pos h,g];rfl,S⟩
 | makeR h h1 h2 =>
  refine⟨L,R,pl,?_,S⟩
  unfold CD
  rw[if_pos h,GR S h1,if_neg (by simp),if_pos (h2.imp rr.mp nr.mp)]
 | make h h1 h2 h3 h4 h5 =>
  refine⟨_,_,_,?_,S.make D h4 h5 (FN h2) (FN h3)⟩
  unfold CD
  rw[if_pos h,GR S h1,if_neg (by simp),if_neg ?_]
  rintro (e | e)
  ·have:=rr.mpr e;omega
  ·have:=nr.mpr e;omega
 | linkT h h1 =>
  obtain⟨hc,rec,e0⟩:=Q7 h1
  obtain⟨i,ts,g,_⟩:=FO S nd hc e0
  refine⟨L,R,pl,?_,S⟩
  unfold CD DQ
  rw[if_neg (by omega),if_pos (by omega),if_neg (by omega),g]
  rfl
 | linkN h h1 h2 =>
  refine⟨L,R,pl,?_,S⟩
  unfold CD DQ
  rw[if_neg (by omega),if_pos (by omega),if_neg (by omega),GR S h1,GR S h2]
  rfl
 | linkR h h1 h2 h3 =>
  obtain⟨hc,rec,e0⟩:=Q7 h2
  obtain⟨i,ts,g,_⟩:=FO S nd hc e0
  refine⟨L,R,pl,?_,S⟩
  unfold CD DQ
  rw[if_neg (by omega),if_pos (by omega),if_neg (by omega),GR S h1,g,if_neg (by simp)]
  show(if L.length=X.m0 then _ else _)=_
  rw[if_pos (nr.mp h3)]
 | link h1 h2 h3 h4 h5 h6 h7 h8 =>
  obtain⟨i,ts,g,hi,hp,hR⟩:=FO S nd h3 h4
  refine⟨_,_,_,?_,(S.count h5).name (i:=i) h7 (by rw[AI (by decide)];exact FN h6) hi hp⟩
  unfold CD DQ
  rw[if_neg (by decide),if_pos (by decide),if_neg (by decide),GR S h1,g,if_neg (by simp)]
  show(if L.length=X.m0 then _ else _)=_
  rw[if_neg λe=>by have:=nr.mpr e;omega,if_neg (by decide)]
 | move h1 h2 h3 h4 h5 h6 h7 h8 =>
  rename_i old rec cell m ps
  obtain⟨i,ts,g,hi,hp,hR⟩:=FO S nd h3 h4
  have fc:B0 0 (M 0 cell)=true:=FN h6
  have hoc:old≠cell:=λe=>by rw[<-e,h4]at fc;cases fc
  have hyz:z≠y:=λe=>by rw[e,h2]at h1;cases h1
  have gz:=GR S h1
  have S1:=(S.count (m':=m+1) h5).name (z:=z) (i:=i) h7 (by rw[AI (by decide)];exact fc) hi hp
  have S2:=S1.less (y:=y) (z:=z) (rec:=rec) (cell:=old) (i:=i) ((U.else (by decide)).new (by rw[OH (by decide)];exact h1)) (kL nd gz) h3 (by rw[BL hoc,AI (by decide)];exact h4) (List.mem_append_left _ hi) (by simp) hyz
  refine⟨_,_,_,?_,S2.count (m':=m) (m:=m+1) (by rw[AI (by decide),AI (by decide),BO])⟩
  unfold CD DQ
  rw[if_neg (by decide),if_pos (by decide),if_neg (by decide),gz,g,if_neg (by simp)]
  show(if L.length=X.m0 then _ else _)=_
  rw[if_neg λe=>by have:=nr.mpr e;omega,if_pos rfl]
 | cutN h1 =>
  refine⟨L,R,pl,?_,S⟩
  unfold CD DQ
  rw[if_neg (by decide),if_pos (by decide),if_pos rfl,GR S h1]
 | cutOne h1 h2 h3 h4 h5 h6 =>
  rename_i cell rec m ps
  obtain⟨i,ts,g,hi,hp,hR⟩:=FO S nd h2 h3
  obtain⟨k,z',hk,hkc,e0⟩:=Vq (M:=M) (m:=X.m0) (rec:=rec) (by rw[<-D.m3 rec m ps h6 h4];exact h5) h2
  have hzy:z'≠y:=λe=>hkc (U k cell y rec rec hk h2 (e ▸ e0) h3)
  obtain⟨j,hj,ej⟩:=S.n1 k z' rec hk e0
  obtain⟨us,hj'⟩:=S.r2 z' j hj
  have hij:j=i:=S.ij j i us ts hj' hR (ej.trans hp.symm)
  subst hij
  refine⟨_,_,_,?_,(S.less U nd h2 h3 hi hj hzy).count (m:=m) (by rw[AI (by decide)];exact h4)⟩
  unfold CD DQ
  rw[if_neg (by decide),if_pos (by decide),if_pos rfl,g]
  show(_,_,if _ then _ else _)=_
  rw[if_pos (List.mem_map.mpr ⟨(z',j),GA.mpr ⟨hj,hzy⟩,rfl⟩)]
 | cutAll h1 h2 h3 h4 h5 h6 =>
  rename_i cell rec m ps
  obtain⟨i,ts,g,hi,hp,hR⟩:=FO S nd h2 h3
  have h0:CO (M.put 0 cell .no) X.m0 rec=0:=by
   have e:=KR (M:=M) (x:=.no) (rec':=rec) h2
   have e3:=D.m3 rec m ps h6 h4
   rw[h3,if_pos (by simp[D5]),if_neg (by simp[D5])]at e
   omega
  have hl:∀ z',(z',i)∈L->z'=y:=λz' hz=>by
   by_cases hzy:z'=y
   ·exact hzy
   ·obtain⟨k,hk,e0⟩:=S.n2 z' i hz
    have hkc:k≠cell:=λe=>by rw[e,h3]at e0;cases e0;exact hzy rfl
    exact(WB h0 hk (y:=z') (by rw[BL hkc,e0,hp])).elim
  have hu:∀ j,(y,j)∈L->j=i:=λj hj=>by
   have:=KU nd hj
   rw[g]at this
   cases this
   rfl
  refine⟨_,_,_,?_,S.drop (rec:=rec) (cell:=cell) (M':=(((M.put 0 cell .no).put 3 rec .no).unmark ps).put 1 rec (.mk 0)) U h2 h3 (λk hk=> ?_) ?_ (λk hk=> ?_) ?_ (λk=> ?_) hR hp hl hu⟩
  ·unfold CD DQ
   rw[if_neg (by decide),if_pos (by decide),if_pos rfl,g]
   show(_,_,if _ then _ else _)=_
   rw[if_neg λhm=> ?_]
   obtain⟨⟨z',j⟩,hz',e⟩:=List.mem_map.mp hm
   cases e
   obtain⟨a1,a2⟩:=GA.mp hz'
   exact a2 (hl z' a1)
  ·rw[AI (by decide),D4,if_neg (by simp),AI (by decide),BL hk]
  ·rw[AI (by decide),D4,if_neg (by simp),AI (by decide),BO]
  ·rw[AI (by decide),D4,if_neg (by simp),BL hk,AI (by decide)]
  ·rw[AI (by decide),D4,if_neg (by simp),BO]
  ·rw[AI (by decide),D4,if_neg (by simp),AI (by decide),AI (by decide)]
 | putN h h1 =>
  refine⟨L,R,pl,?_,S⟩
  unfold CD
  rw[if_neg (by omega),if_neg (by omega),GR S h1]
 | putR h h1 h2 =>
  obtain⟨hc,rec,e0⟩:=Q7 h1
  obtain⟨i,ts,g,hi,hp,hR⟩:=FO S nd hc e0
  refine⟨L,R,pl,?_,S⟩
  unfold CD
  rw[if_neg (by omega),if_neg (by omega),g]
  show(match R[i]? with | some (some ts)=>_ | _=>_)=_
  rw[hR]
  show(if kind=6 then _ else _)=_
  rw[if_neg (by omega),if_pos (pr.mp h2)]
 | put h h1 h2 h3 h4 h5 h6 h7 =>
  rename_i cell rec m p ps
  obtain⟨i,ts,g,hi,hp,hR⟩:=FO S nd h2 h3
  have fp:B0 2 (M 2 p)=true:=FN h5
  obtain⟨_,⟨m1,ps1,e1,hpp⟩,_⟩:=S.r1 i ts hR
  rw[hp,h4]at e1
  cases e1
  refine⟨_,_,_,?_,S.texts (rec:=rec) (m':=m) (ps':=ps++[p]) (us:=ts++[ET x]) (M':=((M.put 2 p (.mk 1)).put 4 p (.tx (ET x))).put 3 rec (.rc m (ps++[p]))) (λk=> ?_) (λk hk=> ?_) BO ?_ (λk m1 ps1 q hk hkr e1 hq=> ?_) hR hp⟩
  ·unfold CD
   rw[if_neg (by omega),if_neg (by omega),g]
   show(match R[i]? with | some (some ts)=>_ | _=>_)=_
   rw[hR]
   show(if kind=6 then _ else _)=_
   rw[if_neg (by omega),if_neg λe=>by have:=pr.mpr e;omega]
  ·rw[AI (by decide),AI (by decide),AI (by decide)]
  ·rw[BL hk,AI (by decide),AI (by decide)]
  ·refine kT (WL hpp λq t hq h=> ?_) ?_
   ·rw[AI (by decide),BL (l:=q) (j:=p) λe=>D.unused fp h7 h4 (e ▸ hq),AI (by decide)]
    exact h
   ·rw[AI (by decide),BO]
    exact⟨rfl,(kE x).2.1⟩
  ·rw[AI (by decide),BL (l:=q) (j:=p) λe=>D.unused fp hk e1 (e ▸ hq),AI (by decide)]
 | takeP h1 h2 h3 h4 h5 h6 =>
  rename_i cell rec m ps
  obtain⟨i,ts,g,hi,hp,hR⟩:=FO S nd h2 h3
  obtain⟨_,⟨m1,ps1,e1,hpp⟩,_⟩:=S.r1 i ts hR
  rw[hp,h4]at e1
  cases e1
  have hl:=KW hpp
  refine⟨L,R,pl,?_,S⟩
  unfold CD
  rw[if_neg (by decide),if_neg (by decide),g]
  show(match R[i]? with | some (some ts)=>_ | _=>_)=_
  rw[hR]
  show(if 6=6 then _ else _)=_
  rw[if_pos rfl,if_neg (by omega)]
 | take h1 h2 h3 h4 h5 h6 h7 =>
  rename_i cell rec m k p ps
  obtain⟨i,ts,g,hi,hp,hR⟩:=FO S nd h2 h3
  obtain⟨_,⟨m1,ps1,e1,hpp⟩,_⟩:=S.r1 i ts hR
  rw[hp,h4]at e1
  cases e1
  have hl:=KW hpp
  have hk:=(List.getElem?_eq_some_iff.mp h6).1
  refine⟨_,_,_,?_,S.texts (rec:=rec) (m':=m) (ps':=ps.eraseIdx k) (us:=ts.eraseIdx k) (M':=(M.put 3 rec (.rc m (ps.eraseIdx k))).put 2 p (.mk 0)) (λk=> ?_) (λk hk=> ?_) ?_ ?_ (λk m1 ps1 q hk hkr e1 hq=> ?_) hR hp⟩
  ·unfold CD
   rw[if_neg (by decide),if_neg (by decide),g]
   show(match R[i]? with | some (some ts)=>_ | _=>_)=_
   rw[hR]
   show(if 6=6 then _ else _)=_
   rw[if_pos rfl,if_pos (by omega),h5,Int.toNat_natCast]
  ·rw[AI (by decide),AI (by decide)]
  ·rw[AI (by decide),BL hk]
  ·rw[AI (by decide),BO]
  ·exact kU (Paired.mapP hpp λq t h=>by rw[AI (by decide),AI (by decide)];exact h)
  ·rw[AI (by decide),AI (by decide)]
theorem SM.own{X:SX}{cs:List Ch}{tks:List (AS × V)}{M:Md}{G:Addr->Prop}{H':Hp}(I:X.at a H cs tks M)(s:SameBut G H H')(g:∀ x,G x->EI (H x))(f:∀ x,G x->¬ X.S.A.F x)(ft:¬ G X.S.tk):X.at a H' cs tks M:=by
 have tk:E6 H H':=JC s g
 obtain⟨⟨dx,e1⟩,e2,e3,e4,e5,e6,e7,e8,e9,e10,e11⟩:=I
 obtain⟨dl,el⟩:=e2.ob
 exact⟨⟨dx,s _ _ e1 λz=>(g _ z).2 _ _ _ e1⟩,e2.sb s λz=>(g _ z).2 _ _ _ el,e3.sb s g f,s _ _ e4 ft,e5,e6,e7,e8,e9.keep tk,λkind k v h1 h2 hv=>(e10 kind k v h1 h2 hv).keep tk,e11⟩
theorem Own.sb{G:Addr->Prop}{H':Hp}{d r ml:Addr}{m0 m1 m2:Nat}{L:LD}{R:RC}{ra:List (Option Addr)}(O:Own H d r ml m0 m1 m2 L R ra)(s:SameBut G H H')(g:∀ x,GO d r ra x->¬ G x)(gm:¬ G ml):Own H' d r ml m0 m1 m2 L R ra:=by
 obtain⟨h1,⟨h2,h2'⟩,⟨c1,c2,c3,c4,c5⟩,h4,h5,h6⟩:=O
 refine⟨s _ _ h1 gm,⟨s _ _ h2 (g _ (.inl rfl)),h2'⟩,⟨s _ _ c1 (g _ (.inr (.inl rfl))),?_,c3,c4,c5⟩,h4,h5,h6⟩
 refine OJ c2 λo t ho h=> ?_
 cases o with
 | none=>cases t with
  | none=>trivial
  | some _=>exact h.elim
 | some l=>cases t with
  | none=>exact h.elim
  | some ts =>
   obtain⟨i,hi⟩:=HQ ho
   exact s _ _ h (g _ (.inr (.inr ⟨i,hi⟩)))
theorem Own.loose{d r ml:Addr}{m0 m1 m2:Nat}{L:LD}{R:RC}{ra:List (Option Addr)}(O:Own H d r ml m0 m1 m2 L R ra){x:Addr}(h:GO d r ra x):EI (H x):=by
 rcases h with rfl | rfl | ⟨i,hi⟩
 ·exact TN O.ld.1
 ·exact IN O.rc.ls
 ·obtain⟨ts,_,e⟩:=WG O.rc.el hi
  exact IN e
theorem Vz{m0 m1 m2:Nat}{L:LD}{R:RC}{kind:Nat}{y z:Str}{x:Int}:(CD m0 m1 m2 L R kind y z x).2.2.length<=R.length+1:=by
 unfold CD DQ
 repeat' split
 all_goals simp
theorem WO{X:SX}{M:Md}{L:LD}{R:RC}{pl:Nat->Nat}(S:Match X M L R pl)(U:Uni X M)(nd:(L.map (·.1)).Nodup):L.length<=X.m0:=by
 have h:=(WK U S nd).length_eq
 rw[List.length_map]at h
 rw[<-h]
 unfold D2
 exact Nat.le_trans (List.length_filterMap_le _ _) (by simp)
theorem kW{M:Md}:∀ {ps:List Nat} {ts us:List Str},Paired (λp t=>M 4 p=.tx t/\PyData.strOk t=true) ps ts->Paired (λp t=>M 4 p=.tx t/\PyData.strOk t=true) ps us->ts=us
 | _,_,_,.nil,.nil=>rfl
 | _,_,_,.cons h r,.cons h' r'=>by
  have:=h.1.symm.trans h'.1
  cases this
  rw[kW r r']
theorem kX{M:Md}:∀ {ps:List Nat} {ts:List Str},Paired (λp t=>M 4 p=.tx t/\PyData.strOk t=true) ps ts->∀ t∈ts,PyData.strOk t=true
 | _,_,.nil,_,h=>by cases h
 | _,_,.cons h r,t,ht=>by
  rcases List.mem_cons.mp ht with rfl | ht
  ·exact h.2
  ·exact kX r t ht
theorem Wb(h:OD K a vs H Q E):V3 K a (λ_=>E) (A9 Q) (A7 ["store","led","records","name","told","texts"] vs) H:=by
 obtain⟨X,cs,tks,M,d,r,ml,m0,m1,m2,L,R,ra,pl,z,rfl,T4,TX,I,O,S,q⟩:=h
 obtain⟨dx,ho⟩:=I.st.ob
 have hL:L.length<=X.m0:=WO S I.un O.ld.2
 have hm:X.m0<=36:=Nat.mul_le_mul I.st.sz.1 I.st.sz.2.2.2.1
 have nok:∀ y∈D2 M X.m0,PyData.strOk y=true:=λy hy=>by
  obtain⟨k,rec,hk,e⟩:=kQ.mp hy
  exact V8 (I.sd.m1 k y rec hk e).1
 push_cast[V3,↓Hm]
 refine⟨_,_,ho,BW (by decide +kernel),X,cs,tks,M,rfl,T4,I.st,λl1 ks H1 hl1 s1 e1 pk hk=> ?_⟩
 push_cast[↓Hv]
 refine ZB (.inl (.lst e1)) (.ty _) (b:=true) rfl ?_
 refine⟨true,rfl,CP (by decide) ⟨.inr (.inr (.inl ⟨rfl,.inl ⟨_,s1 _ _ O.ld.1⟩⟩)),d,_,rfl,rfl,s1 _ _ O.ld.1,λv hv=> ?_⟩⟩
 have sv:=AV (o:=.ext (HN v d)) hv
 refine⟨v,d,_,L.map (·.1),rfl,AJ,sv _ _ (s1 _ _ O.ld.1),by simp[CJ],by rw[List.length_map];omega,λD ks' hD pk' hk'=> ?_⟩
 have sD:=AV (o:=.lst (ks'.map V.str)) hD
 have eks:ks=ks':=v3 hk hk' (pk.trans ((WK I.un S O.ld.2).trans pk'.symm))
 subst eks
 refine ZE (SqL.of (sD _ _ (sv _ _ e1))) (SqL.of AJ) (λv hv=> ?_) ⟨false,rfl,CP (by decide) ?_⟩
 ·obtain⟨y,hy,rfl⟩:=List.mem_map.mp hv
  exact nok y (pk.mem_iff.mp hy)
 have s2:Same H1 (upd (upd H1 v (.ext (HN v d))) D (.lst (ks.map V.str))):=sv.trans sD
 revert s2
 generalize upd (upd H1 v (.ext (HN v d))) D (.lst (ks.map V.str))=H2
 intro s2
 clear sv sD
 push_cast[↓Hw]
 have hkl:ks.length<=36:=by rw[pk.length_eq];unfold D2;exact Nat.le_trans (List.length_filterMap_le _ _) (by simpa using hm)
 refine⟨.inl ⟨rfl,_,SqL.of (s2 _ _ e1)⟩,l1,_,_,rfl,rfl,s2 _ _ e1,BV _ (by simp;omega),?_⟩
 have s3:Same H (upd H2 l1 (.lst (ks.map V.str++[.str "a"]))):=λb o e=>by
  rw[AM (BM e hl1)]
  exact s2 _ _ (s1 _ _ e)
 revert s3
 generalize upd H2 l1 (.lst (ks.map V.str++[.str "a"]))=H3
 intro s3
 clear s1 s2 hl1 e1 hD hv
 push_cast[↓Hx]
 refine⟨X,cs,tks,M,z,rfl,T4,TX,⟨I.st.same s3,I.sd,I.un,I.ti,I.few⟩,λH4 ht s4=> ?_,λts l H4 ht hl el s4=> ?_⟩
 ·have s5:=s3.trans s4
  push_cast[↓jB]
  refine⟨_,dS (s5 _ _ O.ld.1),?_⟩
  rw[EL,GR S ht]
  refine C9 rfl ?_
  push_cast[↓Hy]
  exact q _ s5
 ·have s5:=s3.trans s4
  obtain⟨cell,rec,m,ps,ec,hc,e0,e3,hr,hp⟩:=ht
  obtain⟨i,us,g,hi,hpl,hR⟩:=FO S O.ld.2 hc e0
  obtain⟨_,⟨m1,ps1,e3',hp'⟩,_⟩:=S.r1 i us hR
  rw[hpl,e3]at e3'
  cases e3'
  have eu:=kW hp hp'
  subst eu
  have hf:=I.sd.few hr e3
  have few:=I.few
  have hlen:=KW hp
  obtain⟨l2,hl2,el2⟩:=WJ O.rc.el hR
  push_cast[↓jB]
  refine⟨_,dS (s5 _ _ O.ld.1),?_⟩
  rw[EL,g]
  refine CP (by simp) ?_
  push_cast[↓Jb]
  refine ZB (.inl (.lst el)) (.ty _) (b:=true) rfl ⟨true,rfl,CP (by decide) ?_⟩
  refine⟨_,QH (s5 _ _ O.ld.1) (by rw[EL,g];rfl),C3 (SqL.of (s5 _ _ O.rc.ls)) (n:=i) rfl (by rw[List.getElem?_map,hl2];rfl) ?_⟩
  refine ZE (SqL.of el) (SqL.of (s5 _ _ el2)) (λv hv=> ?_) ⟨false,rfl,CP (by decide) ?_⟩
  ·obtain⟨y,hy,rfl⟩:=List.mem_map.mp hv
   exact kX hp y hy
  push_cast[↓Jc]
  refine⟨.inl ⟨rfl,_,SqL.of el⟩,l,_,_,rfl,rfl,el,BV _ (by simp;omega),?_⟩
  push_cast[↓Jd]
  refine q _ λb o e=> ?_
  rw[AM (BM (s3 _ _ e) hl)]
  exact s5 _ _ e
theorem Wc(h:OD K a vs H Q E):vs.length=4:=by
 obtain⟨_,_,_,_,_,_,_,_,_,_,_,_,_,_,_,rfl,_⟩:=h
 rfl
theorem Wd(ns:List Int):∃ ms:List Int,DZ (ns.map V.int) (some 1) none=ms.map V.int/\ms.length<=ns.length - 1:=by
 unfold DZ
 rw[<-List.map_drop,<-List.map_take]
 refine⟨_,rfl,?_⟩
 simp[HT.sIx]
 omega
def Wg(a:Ad)(X:SX)(s sz ml nl d r r0:Addr)(zs:List Str)(ms:List Int)(i:Nat)(σ:St)(H':Hp):Prop:=(∃ cs tks M L R ra pl,K2 a H' X cs tks M/\Own H' d r ml X.m0 (X.r * X.w) (X.c * X.w) L R ra/\Match X M L R pl/\(∀ x,GO d r ra x->¬ X.S.A.F x/\x≠X.S.tk/\x≠nl/\x≠r0)/\cs.length<=15 * i/\R.length<=i/\H' nl=some (.lst (zs.map V.str))/\H' r0=some (.lst (ms.map V.int)))/\∃ y1 y9 y10 y11,σ=[some (.ref s),y1,some (.ref sz),some (.ref X.S.lp),some (.ref ml),some (.ref X.S.st),some (.ref nl),some (.ref d),some (.ref r),y9,y10,y11]
theorem Wh(h:TR K a vs H Q E):V4 K a (λ_=>E) (A9 Q) (A7 ["script","cell","sizes","layout","rooms","store","names","led","records","one","other","found"] vs) H:=by
 obtain⟨s,ns,rfl,T4,TX,hs,hl,q⟩:=h
 have T4':=T4
 obtain⟨T,TP,TL,TS⟩:=T4
 push_cast[V4,↓Jg,↓wT]
 refine⟨ns,0,rfl,hs,by omega,?_⟩
 generalize IP ns 0=x
 obtain⟨n,en,hn⟩:∃ n:Nat,1+x % 3=n/\1<=n/\n<=3:=⟨(1+x % 3).toNat,by omega,by omega⟩
 obtain⟨r,er,hr⟩:∃ n:Nat,1+x / 3 % 3=n/\1<=n/\n<=3:=⟨(1+x / 3 % 3).toNat,by omega,by omega⟩
 obtain⟨c,ec,hc⟩:∃ n:Nat,1+x / 9 % 3=n/\1<=n/\n<=3:=⟨(1+x / 9 % 3).toNat,by omega,by omega⟩
 obtain⟨w,ew,hw⟩:∃ n:Nat,1+x / 27 % 4=n/\1<=n/\n<=4:=⟨(1+x / 27 % 4).toNat,by omega,by omega⟩
 push_cast[↓Jh,en,er,ec,ew]
 refine⟨⟨by decide,by decide⟩,⟨by decide,by decide⟩,⟨by decide,by decide⟩,by decide,λsz hsz=> ?_⟩
 have s0:=AV (o:=.lst [V.int n,V.int r,V.int c,V.int w]) hsz
 have es:upd H sz (.lst [V.int n,V.int r,V.int c,V.int w]) sz=some (.lst [V.int n,V.int r,V.int c,V.int w]):=AJ
 revert s0 es
 generalize upd H sz (.lst [V.int n,V.int r,V.int c,V.int w])=H1
 intro s0 es
 replace hs:=s0.seq hs
 clear s0 hsz
 push_cast[↓Jj]
 refine C3 (SqL.of es) (n:=0) rfl rfl (C3 (SqL.of es) (n:=1) rfl rfl (C3 (SqL.of es) (n:=2) rfl rfl (C3 (SqL.of es) (n:=3) rfl rfl λlp dl hlp hdl ndl=> ?_)))
 have s0:Same H1 (upd (upd H1 dl (.own lp)) lp (.ins (a "Layout") dl [])):=(AV hdl).trans (AV (by rw[AM ndl.symm];exact hlp))
 refine⟨lp,dl,n,r,c,w,rfl,TL,AJ,by omega,by omega,by omega,hw.1,by omega,λH2 L2 sb2=>⟨rfl,?_⟩⟩
 have s2:Same H1 H2:=λy o e=>sb2 _ _ (s0 _ _ e) (BM e hlp)
 clear s0 sb2 hlp hdl ndl
 replace es:=s2 _ _ es
 replace hs:=s2.seq hs
 clear s2
 push_cast[↓Jk]
 refine C3 (SqL.of es) (n:=0) rfl rfl (C3 (SqL.of es) (n:=3) rfl rfl ?_)
 push_cast[]
 refine⟨(show CMul _ _ from .inl ⟨by omega,by omega⟩),C3 (SqL.of es) (n:=1) rfl rfl (C3 (SqL.of es) (n:=3) rfl rfl ?_)⟩
 push_cast[]
 refine⟨(show CMul _ _ from .inl ⟨by omega,by omega⟩),C3 (SqL.of es) (n:=2) rfl rfl (C3 (SqL.of es) (n:=3) rfl rfl ?_)⟩
 push_cast[]
 refine⟨(show CMul _ _ from .inl ⟨by omega,by omega⟩),by decide,λml hml=> ?_⟩
 rw[show((n:Int) * (w:Int))=((n * w:Nat):Int)from(Int.natCast_mul _ _).symm,show((r:Int) * (w:Int))=((r * w:Nat):Int)from(Int.natCast_mul _ _).symm,show((c:Int) * (w:Int))=((c * w:Nat):Int)from(Int.natCast_mul _ _).symm]
 have sm:=AV (o:=.lst [V.int (n * w:Nat),V.int (r * w:Nat),V.int (c * w:Nat)]) hml
 have em:upd H2 ml (.lst [V.int (n * w:Nat),V.int (r * w:Nat),V.int (c * w:Nat)]) ml=some (.lst [V.int (n * w:Nat),V.int (r * w:Nat),V.int (c * w:Nat)]):=AJ
 replace L2:=L2.same sm
 replace hs:=sm.seq hs
 clear es
 revert em L2 hs
 generalize upd H2 ml (.lst [V.int (n * w:Nat),V.int (r * w:Nat),V.int (c * w:Nat)])=H2'
 intro em L2 hs
 clear hml
 obtain⟨dl2,el⟩:=L2.ob
 push_cast[↓Jl]
 refine⟨_,_,el,CA (by decide +kernel),lp,n,r,c,w,rfl,TL,TP,L2,λgp cl H3 hgp hcl P3 s3 st dst hst hdst ndst=> ?_⟩
 have s4:Same H3 (upd (upd H3 dst (.own st)) st (.ins (a "Store") dst [])):=(AV hdst).trans (AV (by rw[AM ndst.symm];exact hst))
 have hN:∀ r'∈List.replicate (n+r+c+r+c) (List.replicate w V.non),∀ v∈r',v=.non:=λr' hr' v hv=>by
  rw[List.eq_of_mem_replicate hr']at hv
  exact List.eq_of_mem_replicate hv
 refine⟨st,dst,lp,gp,cl,n,r,c,w,_,0,λ_ _=>.no,rfl,T4',AJ,(L2.same s3).same s4,P3.same s4,⟨by omega,by omega,by omega,by omega,by simp⟩,(λr' hr' v hv=>by rw[hN r' hr' v hv];trivial),λkind k v h1 hk hv=> ?_,λ_ _ _ _=>trivial,λS H5 e1 e2 e3 e4 off htk I sb5=>⟨rfl,?_⟩⟩
 ·unfold DV at hv
  have:EB [] (BH n r c w kind k:Nat) (k % w:Nat)=none:=rfl
  rw[this]at hv
  obtain⟨r',er',ev⟩:=Option.bind_eq_some_iff.mp hv
  exact hN r' (List.mem_of_getElem? er') v (List.mem_of_getElem? ev)
 subst e1 e2
 have s35:Same H3 H5:=λy o e=>sb5 _ _ (s4 _ _ e) (BM e hst)
 have s25:Same H2' H5:=s3.trans s35
 have nmt:ml≠S.tk:=λe=>by rw[<-e,s4 _ _ (s3 _ _ em)]at htk;cases htk
 have nmf:¬ S.A.F ml:=λhf=>by
  rcases off ml _ (s4 _ _ (s3 _ _ em))with h | h
  ·rw[h,hcl]at em;cases em
  ·exact h hf
 have fw:c * w<=12:=Nat.le_trans (Nat.mul_le_mul hc.2 hw.2) (by decide)
 have fn:n * w<=12:=Nat.le_trans (Nat.mul_le_mul hn.2 hw.2) (by decide)
 have fr:r * w<=12:=Nat.le_trans (Nat.mul_le_mul hr.2 hw.2) (by decide)
 obtain⟨X,eX⟩:∃ X:SX,X=⟨S,n,r,c,w,List.replicate (n+r+c+r+c) (List.replicate w V.non),0,λ_=>false⟩:=⟨_,rfl⟩
 have I5:K2 a H5 X [] [] (λ_ _=>.no):=by
  subst eX
  exact⟨I,⟨λk z rec _ e=>(by cases e),λrec m ps _ e=>(by cases e),λrec m ps _ e=>(by cases e),λrec rec' m m' ps ps' p _ _ _ e=>(by cases e)⟩,λk k' z r r' _ _ e=>(by cases e),⟨λr' _ e=>(by cases e),λp _ e=>(by cases e)⟩,fw⟩
 have hst5:S.st=X.S.st/\S.lp=X.S.lp/\n * w=X.m0/\r * w=X.r * X.w/\c * w=X.c * X.w/\S.tk=X.S.tk/\S.A=X.S.A:=by subst eX;exact⟨rfl,rfl,rfl,rfl,rfl,rfl,rfl⟩
 have hs5:=s25.seq hs
 replace em:=s25 _ _ em
 obtain⟨x1,x2,x3,x4,x5,x6,x7⟩:=hst5
 rw[x3,x4,x5]at em
 rw[x1,x2]
 rw[x3]at fn
 rw[x4]at fr
 rw[x5]at fw
 rw[x6]at nmt
 rw[x7]at nmf
 clear hN eX I off sb5 htk s35 s4 x1 x2 x3 x4 x5 x6 x7 s25 s3 P3 hst hdst ndst hgp hcl el L2
 push_cast[↓Jm]
 refine⟨⟨by decide,by decide⟩,x / 108,rfl,λnl zs H6 hnl s6 enl hz5 hzs=> ?_⟩
 push_cast[↓Jp]
 intro d hd
 have sd:=AV (o:=.dK []) hd
 have ed:upd H6 d (.dK []) d=some (.dK []):=AJ
 have fd:¬ X.S.A.F d/\d≠X.S.tk:=⟨(I5.st.same s6).bk.off hd,λy=>by rw[y,(I5.st.same s6).tk]at hd;cases hd⟩
 have fl:¬ X.S.A.F nl/\nl≠X.S.tk:=⟨I5.st.bk.off hnl,λy=>by rw[y,I5.st.tk]at hnl;cases hnl⟩
 have s7:=s6.trans sd
 have en7:=sd _ _ enl
 revert sd ed s7 en7
 generalize upd H6 d (.dK [])=H7
 intro sd ed s7 en7
 have I7:=I5.st.same s7
 have hs7:=s7.seq hs5
 have em7:=s7 _ _ em
 clear sd s6 enl hnl hd s7 em hs5
 push_cast[↓Jq]
 refine⟨by decide,λr1 hr1=> ?_⟩
 have sr:=AV (o:=.lst []) hr1
 have er1:upd H7 r1 (.lst []) r1=some (.lst []):=AJ
 have f1:¬ X.S.A.F r1/\r1≠X.S.tk/\r1≠nl/\r1≠ml:=⟨I7.bk.off hr1,λy=>(by rw[y,I7.tk]at hr1;cases hr1),(BM en7 hr1).symm,(BM em7 hr1).symm⟩
 have fdl:d≠nl:=λy=>by rw[y,en7]at ed;cases ed
 replace ed:=sr _ _ ed
 revert sr er1 ed
 generalize upd H7 r1 (.lst [])=H8
 intro sr er1 ed
 push_cast[↓Kd]
 refine wK (sr.seq hs7) λr0 hr0=> ?_
 obtain⟨ms,ems,hms⟩:=Wd ns
 rw[ems]
 have s9:=AV (o:=.lst (ms.map V.int)) hr0
 have e9:upd H8 r0 (.lst (ms.map V.int)) r0=some (.lst (ms.map V.int)):=AJ
 have f0:¬ X.S.A.F r0/\r0≠X.S.tk:=⟨(I7.same sr).bk.off hr0,λy=>by rw[y,(I7.same sr).tk]at hr0;cases hr0⟩
 have fdr:d≠r0/\r1≠r0:=⟨BM ed hr0,BM er1 hr0⟩
 have I9:K2 a (upd H8 r0 (.lst (ms.map V.int))) X [] [] (λ_ _=>.no):=⟨(I7.same sr).same s9,I5.sd,I5.un,I5.ti,I5.few⟩
 have n9:=s9 _ _ (sr _ _ en7)
 have m9:=s9 _ _ (sr _ _ em7)
 have d9:=s9 _ _ ed
 have r9:=s9 _ _ er1
 revert e9 I9 n9 m9 d9 r9
 generalize upd H8 r0 (.lst (ms.map V.int))=H9
 intro e9 I9 n9 m9 d9 r9
 have O9:Own H9 d r1 ml X.m0 (X.r * X.w) (X.c * X.w) [] [] []:=⟨m9,⟨d9,List.nodup_nil⟩,⟨r9,.nil,λi j l h=>(by simp at h),λi=>(by simp),λi ts h=>(by simp at h)⟩,λz i h=>(by cases h),⟨fn,fr,fw,by simp,by simp⟩,f1.2.2.2,λi=>(by simp)⟩
 have S9:Match X (λ_ _=>.no) [] [] (λi=>i):=⟨λk z rec _ e=>(by cases e),λz i h=>(by cases h),λi ts h=>(by simp at h),λz i h=>(by cases h),λrec m ps _ e=>(by cases e),λi j ts us h=>(by simp at h)⟩
 have w9:∀ x,GO d r1 [] x->¬ X.S.A.F x/\x≠X.S.tk/\x≠nl/\x≠r0:=λx h=>by
  rcases h with rfl | rfl | ⟨i,h⟩
  ·exact⟨fd.1,fd.2,fdl,fdr.1⟩
  ·exact⟨f1.1,f1.2.1,f1.2.2.1,fdr.2⟩
  ·simp at h
 clear sr s9 hs7 I7 en7 em7 d9 r9 m9 ed er1 hr0 hr1 I5
 have fm:¬ X.S.A.F ml/\ml≠X.S.tk:=⟨nmf,nmt⟩
 refine⟨r0,rfl,.inl ⟨⟨_,SqL.of e9⟩,SR (xs:=ms.map V.int) (Wg a X s sz ml nl d r1 r0 zs ms) ⟨⟨_,_,_,_,_,_,_,I9,O9,S9,w9,Nat.zero_le _,Nat.zero_le _,n9,e9⟩,_,_,_,_,rfl⟩ (λi σ H' _ ⟨⟨_,_,_,_,_,_,_,_,_,_,_,_,_,_,e⟩,_⟩=>SqL.of e) (λi v σ H' hx ⟨⟨cs,tks,M,L,R,ra,pl,J,O,S,W,hcs,hR,nJ,eJ⟩,y1,y9,y10,y11,ez⟩=> ?_) (λσ H' ⟨_,y1,y9,y10,y11,ez⟩=> ?_)⟩⟩
 ·subst ez
  have hi:=(List.getElem?_eq_some_iff.mp hx).1
  rw[List.length_map]at hi
  obtain⟨cell,_,rfl⟩:=List.mem_map.mp (List.mem_of_getElem? hx)
  have nm:∀ {H':Hp} {u:Int} {Q:VK},H' nl=some (.lst (zs.map V.str))->(∀ z,BI z=true->Q (.str z) H')->BE K (.ref nl) (.int (u % 5)) H' Q:=λ{H' u Q} e q=>by
   obtain⟨b,eb,hb⟩:=OF u (n:=5) (by omega)
   rw[show((5:Nat):Int)=5 from rfl]at eb
   have hbl:b<zs.length:=by omega
   have ez:=List.getElem?_eq_getElem hbl
   rw[eb]
   exact C3 (SqL.of e) rfl (by rw[List.getElem?_map,ez];rfl) (q _ (hzs _ (List.mem_of_getElem? ez)))
  obtain⟨kind,ekd,hkd⟩:=OF cell (n:=8) (by omega)
  rw[show((8:Nat):Int)=8 from rfl]at ekd
  push_cast[↓Jv]
  refine⟨⟨by decide,by decide⟩,nm nJ λy hy=> ?_⟩
  push_cast[↓Jw]
  refine⟨⟨by decide,by decide⟩,nm nJ λz hz=> ?_⟩
  push_cast[↓Jx]
  rw[ekd]
  have hLm:=WO S J.un O.ld.2
  refine⟨⟨by decide,by decide⟩,X,cs,tks,M,kind,y,z,cell / 200,rfl,T4',TX,J,by omega,hkd,hy,hz,λres cs' tks' M' H1 P J1 hl1 sb1=> ?_⟩
  obtain⟨L',R',pl',edu,S1⟩:=Vy P S J.sd J.un J.ti J.st.ok O.ld.2
  have O1:Own H1 d r1 ml X.m0 (X.r * X.w) (X.c * X.w) L R ra:=O.sb sb1 (λx hx hg=>hg.elim (W x hx).1 (W x hx).2.1) λhg=>hg.elim fm.1 fm.2
  have n1:=sb1 _ _ nJ λhg=>hg.elim fl.1 fl.2
  have e1:=sb1 _ _ eJ λhg=>hg.elim f0.1 f0.2
  push_cast[↓Jz]
  rw[ekd]
  refine⟨⟨by decide,by decide⟩,d,r1,ml,_,_,_,L,R,ra,kind,y,z,cell / 200,rfl,O1,by omega,by omega,λi ts hts=> ?_,hkd,?_⟩
  ·obtain⟨hr',⟨m,ps,e3,hp⟩,_⟩:=S.r1 i ts hts
   have:=J.sd.few hr' e3
   have:=KW hp
   omega
  rw[edu]
  intro ra' H2 m2 l2 c2 fr2 sb2
  have J2:K2 a H2 X cs' tks' M':=⟨J1.st.own sb2 (λx hx=>O1.loose hx) (λx hx=>(W x hx).1) λhx=>(W _ hx).2.1 rfl,J1.sd,J1.un,J1.ti,J1.few⟩
  have hL':=WO S1 J1.un l2.2
  have hR':R'.length<=R.length+1:=by
   have:=Vz (m0:=X.m0) (m1:=X.r * X.w) (m2:=X.c * X.w) (L:=L) (R:=R) (kind:=kind) (y:=y) (z:=z) (x:=cell / 200)
   rw[edu]at this
   exact this
  have O2:Own H2 d r1 ml X.m0 (X.r * X.w) (X.c * X.w) L' R' ra':=⟨m2,l2,c2,S1.r2,⟨fn,fr,fw,by omega,by omega⟩,f1.2.2.2,λj h=>by
   rcases fr2 j ml h with h | ⟨k,h⟩
   ·rw[O1.ms]at h;cases h
   ·exact O.ne.2 k h⟩
  have W2:∀ x,GO d r1 ra' x->¬ X.S.A.F x/\x≠X.S.tk/\x≠nl/\x≠r0:=λx h=>by
   rcases h with h | h | ⟨j,h⟩
   ·exact W x (.inl h)
   ·exact W x (.inr (.inl h))
   ·rcases fr2 j x h with h | h
    ·exact⟨J1.st.bk.off h,λe=>(by rw[e,J1.st.tk]at h;cases h),λe=>(by rw[e,n1]at h;cases h),λe=>(by rw[e,e1]at h;cases h)⟩
    ·exact W x (.inr (.inr h))
  have n2:=sb2 _ _ n1 λh=>(W nl h).2.2.1 rfl
  have e2:=sb2 _ _ e1 λh=>(W r0 h).2.2.2 rfl
  push_cast[]
  push_cast[↓Kc]
  refine⟨⟨by decide,by decide⟩,nm n2 λz2 hz2=> ?_⟩
  refine⟨X,cs',tks',M',d,r1,ml,_,_,_,L',R',ra',pl',z2,rfl,T4',TX,J2,O2,S1,λH3 s3=>⟨true,rfl,CP (by decide) ?_⟩⟩
  exact⟨⟨cs',tks',M',L',R',ra',pl',⟨J2.st.same s3,J2.sd,J2.un,J2.ti,J2.few⟩,O2.same s3,S1,W2,by omega,by omega,s3 _ _ n2,s3 _ _ e2⟩,_,_,_,_,rfl⟩
 ·subst ez
  push_cast[↓Kg]
  exact q _
theorem Wj(h:TR K a vs H Q E):vs.length=1:=by
 obtain⟨_,_,rfl,_⟩:=h
 rfl
end
end L2
namespace L2
def BG(i:Nat):Stmt:=PySem.Challenge.pw_holdback_k42_names_and_texts.main.body.getD i (.Pass ⟨0,0,0,0⟩)
structure Txt(K:W.Frag)(mg:Str->Option Value)(a:Ad):Prop where
 zca:Cls K (a "Change")
 DI:Cls K (a "Hold")
 B8:Cls K (a "Layout")
 ME:Cls K (a "Plank")
 BT:Cls K (a "Store")
 zcb:GV mg "MOST_LETTERS" (.int 8)
 zcc:GV mg "MOST_PIECE_SIGNS" (.int 40)
 lL:mg "NoBlock"=some (.ref (a "NoBlock"))
 zcm:GV mg "NoBlock" (.ref (a "NoBlock"))
 lO:Exc K (a "NoBlock")
 zce:mg "NoChange"=some (.ref (a "NoChange"))
 zcn:GV mg "NoChange" (.ref (a "NoChange"))
 zcf:Exc K (a "NoChange")
 RK:mg "NoName"=some (.ref (a "NoName"))
 zco:GV mg "NoName" (.ref (a "NoName"))
 lP:Exc K (a "NoName")
 W9:mg "NoPiece"=some (.ref (a "NoPiece"))
 zcp:GV mg "NoPiece" (.ref (a "NoPiece"))
 lQ:Exc K (a "NoPiece")
 lM:mg "NoRoom"=some (.ref (a "NoRoom"))
 zcq:GV mg "NoRoom" (.ref (a "NoRoom"))
 zcg:Exc K (a "NoRoom")
 zcd:GV mg "PERCENT" (.int 37)
 lN:mg "Twice"=some (.ref (a "Twice"))
 zcr:GV mg "Twice" (.ref (a "Twice"))
 zch:Exc K (a "Twice")
 W8:mg "all"=none
 lH:mg "enumerate"=none
 lI:mg "isinstance"=none
 EN:mg "len"=none
 RI:mg "list"=none
 zb8:mg "ord"=none
 HY:mg "range"=none
 lJ:mg "set"=none
 RJ:mg "sorted"=none
 zb9:mg "sum"=none
 lK:mg "tuple"=none
section
variable(P:Program)(w:World){K:W.Frag}{mg:Str->Option Value}(base:Heap){a:Ad}{f:Addr}{fd:FuncData}
abbrev KY:Stmt:=BR (BG 10) 0
theorem Wk:FnScope ["self","place","value","needs"] ["self","place","value","needs"] (AK KY):=.go
theorem Wl(T:Txt K mg a)(F:Fun K "__init__" "Change.__init__" KY f fd)  :
  FP P w K mg base 1 f fd ["self","place","value","needs"] (NN K a) :=
 F.okF (TU K a) Wk Lg Ld λ_ _ _ _ _ E hr hx=>(AO (DT (AB 0) (AB 1) rfl)
   (AO (DT (AB 0) (AB 2) rfl)
   (AQ (DT (AB 0) (AB 3) rfl))))
abbrev KZ:Stmt:=BR (BG 11) 10
theorem kY:FnScope ["self","numbers","number"] ["self","numbers"] (AK KZ):=.go
theorem Wm(T:Txt K mg a)(F:Fun K "ask_for_changes" "Book.ask_for_changes" KZ f fd)  :
  FP P w K mg base 1 f fd ["self","numbers"] (NQ K a) :=
 F.okF (TV K a) kY Lx Lw λ_ _ _ _ _ E hr hx=>(AQ (J5 hx.po rfl (G1 (AB 1)) (HP 2 kY.nd) (AQ (BQ (FR (J6 ER GI AN (AB 2) (C0 E3 rfl T.EN (by rfl) (AD (A4 (AB 0) rfl) AG)))) (AQ (G0 hx T.zcf rfl T.zce (AD BX AG))) B1))))
abbrev K0:Stmt:=BG 12
theorem Wp:FnScope ["needs","ahead"] ["needs","ahead"] (AK K0):=.go
theorem Wq(T:Txt K mg a)(F:Fun K "needs_with" "needs_with" K0 f fd)  :
  FP P w K mg base 1 f fd ["needs","ahead"] (NO K a) :=
 F.okF (QZ K a) Wp Ll Lk λ_ _ _ _ _ E hr hx=>(AO (BQ (CB O6 (AB 1) DS (CF _)) (AQ (A3 (MP Y5 rfl T.lK (by rfl) (AD (ZX rfl rfl T.RJ rfl T.lJ (AB 0)) AG)))) B1)
   (AQ (A3 (MP Y5 rfl T.lK (by rfl) (AD (ZX rfl rfl T.RJ rfl T.lJ (AU BZ (MP Y4 rfl T.RI (by rfl) (AD (AB 0) AG)) (B6 (AD (AB 1) AG)))) AG)))))
abbrev K1:Stmt:=BG 17
theorem Wv:FnScope ["sign"] ["sign"] (AK K1):=.go
theorem Ww(T:Txt K mg a)(F:Fun K "is_sign" "is_sign" K1 f fd)  :
  FP P w K mg base 1 f fd ["sign"] (NU K a) :=
 F.okF (TW K a) Wv Qj Qc λ_ _ _ _ _ E hr hx=>(AQ (A3 (RP (O8 ER ER BX (AB 0) BX) (RO (XT (P0 hr.units) (C0 uA rfl T.zb8 (by rfl) (AD (AB 0) AG)) (SK T.zcd rfl) (CF _))))))
abbrev JG:Stmt:=BG 21
theorem Wx:FnScope ["thing"] ["thing"] (AK JG):=.go
theorem Wy(T:Txt K mg a)(F:Fun K "is_name" "is_name" JG f fd)  :
  FP P w K mg base 1 f fd ["thing"] (NV K a) :=
 F.okF (TY K a) Wx Qh Qd λ_ _ _ _ _ E hr hx=>(AQ (A3 (RP (O8 ER ER AN (C0 E3 rfl T.EN (by rfl) (AD (AB 0) AG)) (SK T.zcb rfl)) (RO (C0 (SV rfl) rfl T.W8 (by rfl) (AD (FW (tn:=["sign"]) (cn:=[]) (cap:=[]) (EA (outer:=AK JG) (N:=["thing"]) rfl rfl (by decide +kernel)) rfl (ZI (AB 0)) (λ_ _ _ _ _ _=>(DY (i:=0) (show(["sign"]:List Str).Nodup from by decide +kernel) rfl (Or.inl rfl))) (λ_ _ _ _ _ _=>EO) (λ_ _ _ _ _ _=>(O8 ER ER BX (AB 0) BX))) AG))))))
abbrev JH:Stmt:=BR (BG 30) 0
theorem Wz:FnScope ["self","blocks","cells"] ["self","blocks","cells"] (AK JH):=.go
theorem Xb(T:Txt K mg a)(F:Fun K "__init__" "Plank.__init__" JH f fd)  :
  FP P w K mg base 1 f fd ["self","blocks","cells"] (NF K a) :=
 F.okF (TZ K a) Wz Kx Kk λ_ _ _ _ _ E hr hx=>(AO (DT (AB 0) (FW (tn:=["block"]) (cn:=["cells"]) (cap:=[2]) (EA (outer:=AK JH) (N:=["self","blocks","cells"]) rfl rfl (by decide +kernel)) rfl (HH rfl T.HY (AD (AB 1) AG)) (λ_ _ _ _ _ _=>(DY (i:=0) (show(["block","cells"]:List Str).Nodup from by decide +kernel) rfl (Or.inl rfl))) (λ_ _ _ _ _ _=>EO) (λ_ _ _ _ _ _=>(AU FY (EW (AD DS AG)) (AB 1)))) rfl)
   (AO (DT (AB 0) (AB 2) rfl)
   (AQ (DT (AB 0) AN rfl))))
abbrev K3:Stmt:=BR (BG 30) 1
theorem Xc:FnScope ["self"] ["self"] (AK K3):=.go
theorem Xd(T:Txt K mg a)(F:Fun K "blocks" "Plank.blocks" K3 f fd)  :
  FP P w K mg base 1 f fd ["self"] (IL K a) :=
 F.okF (T2 K a) Xc Ky Kl λ_ _ _ _ _ E hr hx=>(AQ (A3 (C0 E3 rfl T.EN (by rfl) (AD (A4 (AB 0) rfl) AG))))
abbrev K4:Stmt:=BR (BG 30) 2
theorem Xg:FnScope ["self"] ["self"] (AK K4):=.go
theorem Xh(T:Txt K mg a)(F:Fun K "cells" "Plank.cells" K4 f fd)  :
  FP P w K mg base 1 f fd ["self"] (NG K a) :=
 F.okF (T3 K a) Xg Kz Km λ_ _ _ _ _ E hr hx=>(AQ (A3 (A4 (AB 0) rfl)))
abbrev K5:Stmt:=BR (BG 30) 6
theorem Xj:FnScope ["self","block"] ["self","block"] (AK K5):=.go
theorem Xk(T:Txt K mg a)(F:Fun K "ask_for_block" "Plank.ask_for_block" K5 f fd)  :
  FP P w K mg base 1 f fd ["self","block"] (KK K a) :=
 F.okF (T5 K a) Xj Lb Kp λ_ _ _ _ _ E hr hx=>(AQ (BQ (FR (J6 ER GI AN (AB 1) (C0 E3 rfl T.EN (by rfl) (AD (A4 (AB 0) rfl) AG)))) (AQ (G0 hx T.lO rfl T.lL (AD BX AG))) B1))
abbrev K6:Stmt:=BR (BG 32) 0
theorem Xl:FnScope ["self","names","records","pieces","cells"] ["self","names","records","pieces","cells"] (AK K6):=.go
theorem Xm(T:Txt K mg a)(F:Fun K "__init__" "Layout.__init__" K6 f fd)  :
  FP P w K mg base 1 f fd ["self","names","records","pieces","cells"] (NK K a) :=
 F.okF (T6 K a) Xl Nb Mh λ_ _ _ _ _ E hr hx=>(AO (DT (AB 0) (AB 1) rfl)
   (AO (DT (AB 0) (AB 2) rfl)
   (AO (DT (AB 0) (AB 3) rfl)
   (AQ (DT (AB 0) (AB 4) rfl)))))
abbrev K7:Stmt:=BR (BG 32) 6
theorem Xp:FnScope ["self"] ["self"] (AK K7):=.go
theorem Xq(T:Txt K mg a)(F:Fun K "counts" "Layout.counts" K7 f fd)  :
  FP P w K mg base 1 f fd ["self"] (F2 K a) :=
 F.okF (T7 K a) Xp Nq My λ_ _ _ _ _ E hr hx=>(AQ (A3 (EW (AD (AU FY (A4 (AB 0) rfl) (A4 (AB 0) rfl)) (AD (AU FY (A4 (AB 0) rfl) (A4 (AB 0) rfl)) (AD (AU FY (A4 (AB 0) rfl) (A4 (AB 0) rfl)) AG))))))
abbrev K8:Stmt:=BR (BG 32) 9
theorem Xv:FnScope ["self"] ["self"] (AK K8):=.go
theorem Xw(T:Txt K mg a)(F:Fun K "blocks_ahead_of_marks" "Layout.blocks_ahead_of_marks" K8 f fd)  :
  FP P w K mg base 1 f fd ["self"] (G3 K a) :=
 F.okF (T8 K a) Xv Nm Mw λ_ _ _ _ _ E hr hx=>(AQ (A3 (AU BZ (AU BZ (A4 (AB 0) rfl) (A4 (AB 0) rfl)) (A4 (AB 0) rfl))))
abbrev K9:Stmt:=BR (BG 32) 10
theorem Xx:FnScope ["self","block","k"] ["self","block","k"] (AK K9):=.go
theorem Xy(T:Txt K mg a)(F:Fun K "place_from" "Layout.place_from" K9 f fd)  :
  FP P w K mg base 1 f fd ["self","block","k"] (E4 K a) :=
 F.okF (T9 K a) Xx Nd Mj λ_ _ _ _ _ E hr hx=>(AQ (A3 (EW (AD (AU BZ (AB 1) (AU CZ (AB 2) (A4 (AB 0) rfl))) (AD (AU CL (AB 2) (A4 (AB 0) rfl)) AG)))))
abbrev LA:Stmt:=BG 34
theorem Xz:FnScope ["script","k"] ["script","k"] (AK LA):=.go
theorem Yb(T:Txt K mg a)(F:Fun K "_law_cell_at" "_law_cell_at" LA f fd)  :
  FP P w K mg base 1 f fd ["script","k"] (IQ K a) :=
 F.okF (UA K a) Xz Kj Kh λ_ _ _ _ _ E hr hx=>(AO (BQ (CB GI (AB 1) (C0 E3 rfl T.EN (by rfl) (AD (AB 0) AG)) (CF _)) (AQ (A3 (BJ BK (AB 0) (AB 1) (λ_ _=>rfl)))) B1)
   (AQ (A3 AN)))
abbrev LB:Stmt:=BG 35
theorem GB:FnScope ["cell","letters","base","rest","k","at","first","last","turned"] ["cell"] (AK LB):=.go
theorem Yc(T:Txt K mg a)(F:Fun K "_law_names" "_law_names" LB f fd)  :
  FP P w K mg base 1 f fd ["cell"] (N7 K a) :=
 F.okF (UB K a) GB Um Ul λ_ _ _ _ _ E hr hx=>(AO (BD 1 GB.nd BX)
   (AO (BD 2 GB.nd BX)
   (AO (BD 3 GB.nd (AU CZ (AB 0) AN))
   (AO (J5 hx.po rfl (HH rfl T.HY (AD (AU BZ AN (AU CL (AB 0) AN)) AG)) (HP 4 GB.nd) (AO (BD 2 GB.nd (AU BZ (AB 2) (BJ BK (AB 1) (AU CL (AU BZ (AB 3) (AU FY (AU FY AN (AB 4)) (AU CL (AU CZ (AB 3) AN) AN))) AN) (λ_ _=>rfl))))
   (AQ (BD 3 GB.nd (AU BZ (AU CZ (AB 3) AN) (AU FY AN (AB 4)))))))
   (AO (BD 5 GB.nd (AU CL (AU CZ (AB 0) AN) (C0 E3 rfl T.EN (by rfl) (AD (AB 2) AG))))
   (AO (BD 6 GB.nd (BJ BK (AB 1) (AU CL (AU CZ (AB 0) AN) AN) (λ_ _=>rfl)))
   (AO (BD 7 GB.nd (BJ BK (AB 1) (AU CL (AU BZ (AU BZ (AU CZ (AB 0) AN) AN) (AU CL (AU CZ (AB 0) AN) AN)) AN) (λ_ _=>rfl)))
   (AO (BD 8 GB.nd (BJ BK (AB 1) (AU CL (AU BZ (AU BZ (FV PySem.F.plainAttrs_str PySem.F.slot_str_find PySem.F.type_str_find v4 (AB 1) (AD (BJ BK (AB 2) (AB 5) (λ_ _=>rfl)) AG)) AN) (AU CL (AU CZ (AB 0) AN) AN)) AN) (λ_ _=>rfl)))
   (AQ (A3 (B6 (AD (AB 2) (AD (AU BZ (AB 2) (AB 7)) (AD (AU BZ (AB 6) (AB 2)) (AD (AU BZ (AU BZ (MS M8 (AB 2) MQ (MR (AB 5))) (AB 8)) (MS M8 (AB 2) (MR (AU BZ (AB 5) AN)) MQ)) (AD (AU BZ (AU BZ (AB 2) (AB 7)) (AB 6)) AG))))))))))))))))
abbrev JI:Stmt:=BG 36
theorem JJ:FnScope ["cell","signs","many","step","wide"] ["cell"] (AK JI):=.go
theorem Yd(T:Txt K mg a)(F:Fun K "_law_text" "_law_text" JI f fd)  :
  FP P w K mg base 1 f fd ["cell"] (JA K a) :=
 F.okF (UF K a) JJ Uy Ux λ_ _ _ _ _ E hr hx=>(AO (MJ (i:=1) JJ.nd rfl (Or.inr rfl) BX)
   (AO (MJ (i:=1) JJ.nd rfl (Or.inr rfl) (AU BZ (AB 1) BX))
   (AO (BD 2 JJ.nd (AU BZ AN (AU CL (AB 0) AN)))
   (AO (BQ (CB (EZ hr.units) (AU CL (AU CZ (AB 0) AN) AN) AN (CF _)) (AQ (BD 2 JJ.nd (AU RW AN (AU CL (AU CZ (AB 0) AN) AN)))) B1)
   (AO (MJ (i:=3) JJ.nd rfl (Or.inr rfl) (AU BZ AN (AU CL (AU CZ (AB 0) AN) AN)))
   (AO (MJ (i:=4) JJ.nd rfl (Or.inr rfl) (AU BZ AN (AU CL (AU CZ (AB 0) AN) AN)))
   (AQ (A3 (FV PySem.F.plainAttrs_str PySem.F.slot_str_join PySem.F.type_str_join vT BX (AD (FW (tn:=["j"]) (cn:=["signs","cell","step","wide"]) (cap:=[1,0,3,4]) (EA (outer:=AK JI) (N:=["cell","signs","many","step","wide"]) rfl rfl (by decide +kernel)) rfl (HH rfl T.HY (AD (AB 2) AG)) (λ_ _ _ _ _ _=>(DY (i:=0) (show(["j","signs","cell","step","wide"]:List Str).Nodup from by decide +kernel) rfl (Or.inl rfl))) (λ_ _ _ _ _ _=>EO) (λ_ _ _ _ _ _=>(BJ BK (AB 1) (AU CL (AU BZ (AU CZ (AB 2) AN) (AU FY (AB 3) (AU CZ (AB 0) (AB 4)))) AN) (λ_ _=>rfl)))) AG))))))))))
abbrev LC:Stmt:=BG 37
theorem Yg:FnScope ["cell"] ["cell"] (AK LC):=.go
theorem Yh(T:Txt K mg a)(F:Fun K "_law_at" "_law_at" LC f fd)  :
  FP P w K mg base 1 f fd ["cell"] (HV K a) :=
 F.okF (UG K a) Yg Uw Uv λ_ _ _ _ _ E hr hx=>(AO (BQ (CB (EZ hr.units) (AU CL (AU CZ (AB 0) AN) AN) AN (CF _)) (AQ (A3 (AU RW (AU CL (AB 0) AN) AN))) B1)
   (AQ (A3 (AU RW (AU CL (AB 0) AN) AN))))
abbrev JK:Stmt:=BG 40
theorem kZ:FnScope ["rooms","led","records","kind","one","other","record"] ["rooms","led","records","kind","one","other"] (AK JK):=.go
theorem Yj(T:Txt K mg a)(F:Fun K "_law_way" "_law_way" JK f fd)  :
  FP P w K mg base 1 f fd ["rooms","led","records","kind","one","other"] (OB K a) :=
 F.okF (UH K a) kZ Vj Vh λ_ _ _ _ _ E hr hx=>(AO (BQ (CB (EZ hr.units) (AB 3) AN (CF _)) (AO (BQ (HZ (PN (D0 hr) (AB 4) (AB 1)) (by with_unfolding_all rfl)) (AQ (A3 BX)) B1)
   (AO (BD 6 kZ.nd (YS (AB 1) (AB 4) ⟨rfl,rfl,rfl,rfl⟩))
   (AO (BQ (CB (vP hr.units) (AB 6) (wB (tn:=["name"]) (cn:=["led"]) (cap:=[1]) (EA (outer:=AK JK) (N:=["rooms","led","records","kind","one","other","record"]) rfl rfl (by decide +kernel)) rfl (AB 1) (λ_ _ _ _ _ _=>(DY (i:=0) (show(["name","led"]:List Str).Nodup from by decide +kernel) rfl (Or.inl rfl))) (λ_ _ _ _ _ _=>EO) (λ_ _ _ _ _ _=>(MZ (D0 hr) (AB 1) (AB 0) (λ_ _=>rfl)))) (by with_unfolding_all rfl)) (AQ (mO DS (mM (AB 2) (AB 6) qS))) B1)
   (AQ (A3 BX))))) B1)
   (AO (BQ (HZ (R8 (D0 hr) (AB 5) (AB 1)) (by with_unfolding_all rfl)) (AQ (A3 BX)) B1)
   (AO (BQ (HZ (PN (D0 hr) (AB 4) (AB 1)) (by with_unfolding_all rfl)) (AQ (A3 BX)) B1)
   (AO (BQ (CB (EZ hr.units) (C0 aC rfl T.EN (by rfl) (AD (AB 1) AG)) (BJ BK (AB 0) AN (λ_ _=>rfl)) (CF _)) (AQ (A3 BX)) B1)
   (AO (PQ (D0 hr) (AB 1) (AB 5) (MZ (D0 hr) (AB 1) (AB 4) (λ_ _=>rfl)) rfl)
   (AO (BQ (CB (EZ hr.units) (AB 3) AN (CF _)) (AQ (DC (YS (AB 1) (AB 4) ⟨rfl,rfl,rfl,rfl⟩))) B1)
   (AQ (A3 BX))))))))
abbrev JL:Stmt:=BR (BG 11) 0
theorem Yk:FnScope ["self","plank"] ["self","plank"] (AK JL):=.go
theorem Yl(T:Txt K mg a)(F:Fun K "__init__" "Book.__init__" JL f fd)(W1:AX P w K mg base (a "Plank") 1 "blocks" ["self"] (IL K a)) :
  FP P w K mg base 2 f fd ["self","plank"] (KP K a) :=
 F.okF (UI K a) Yk Lj Lh λ_ _ _ _ _ E hr hx=>(AO (DT (AB 0) (AB 1) rfl)
   (AO (DT (AB 0) (B6 AG) rfl)
   (AO (DT (AB 0) (FW (tn:=["block"]) (cn:=[]) (cap:=[]) (EA (outer:=AK JL) (N:=["self","plank"]) rfl rfl (by decide +kernel)) rfl (HH rfl T.HY (AD (D7 (AB 1) T.ME W1 hr.m hx.passes) AG)) (λ_ _ _ _ _ _=>(DY (i:=0) (show(["block"]:List Str).Nodup from by decide +kernel) rfl (Or.inl rfl))) (λ_ _ _ _ _ _=>EO) (λ_ _ _ _ _ _=>(B6 AG))) rfl)
   (AO (DT (AB 0) pX rfl)
   (AQ (DT (AB 0) SB rfl))))))
abbrev LE:Stmt:=BR (BG 11) 9
theorem Ym:FnScope ["self","place"] ["self","place"] (AK LE):=.go
theorem Yp(T:Txt K mg a)(F:Fun K "ask_for_place" "Book.ask_for_place" LE f fd)(zbt:AX P w K mg base (a "Plank") 1 "cells" ["self"] (NG K a))(W1:AX P w K mg base (a "Plank") 1 "blocks" ["self"] (IL K a)) :
  FP P w K mg base 2 f fd ["self","place"] (NP K a) :=
 F.okF (UJ K a) Ym Lp Lm λ_ _ _ _ _ E hr hx=>(AQ (BQ (PW.pt (OW (FR (J6 ER GI AN (BJ BK (AB 1) AN (λ_ _=>rfl)) (D7 (A4 (AB 0) rfl) T.ME W1 hr.m hx.passes))) (OV (FR (J6 ER GI AN (BJ BK (AB 1) AN (λ_ _=>rfl)) (D7 (A4 (AB 0) rfl) T.ME zbt hr.m hx.passes)))))) (AQ (G0 hx T.lO rfl T.lL (AD BX AG))) B1))
abbrev JM:Stmt:=BG 22
theorem Yq:FnScope ["thing"] ["thing"] (AK JM):=.go
theorem Yv(T:Txt K mg a)(F:Fun K "is_piece" "is_piece" JM f fd)(zbf:C6 P w K mg base (1) "is_sign" ["sign"] (NU K a)) :
  FP P w K mg base 2 f fd ["thing"] (NW K a) :=
 F.okF (UK K a) Yq Qk Qg λ_ _ _ _ _ E hr hx=>(AQ (A3 (RP (O8 ER ER AN (C0 E3 rfl T.EN (by rfl) (AD (AB 0) AG)) (SK T.zcc rfl)) (RO (C0 (SV rfl) rfl T.W8 (by rfl) (AD (FW (tn:=["sign"]) (cn:=[]) (cap:=[]) (EA (outer:=AK JM) (N:=["thing"]) rfl rfl (by decide +kernel)) rfl (ZI (AB 0)) (λ_ _ _ _ _ _=>(DY (i:=0) (show(["sign"]:List Str).Nodup from by decide +kernel) rfl (Or.inl rfl))) (λ_ _ _ _ _ _=>EO) (λ_ _ _ _ _ _=>(C7 zbf hr.m GG rfl (AD (AB 0) AG)))) AG))))))
abbrev LF:Stmt:=BR (BG 30) 4
theorem Yw:FnScope ["self","block"] ["self","block"] (AK LF):=.go
theorem Yx(T:Txt K mg a)(F:Fun K "read" "Plank.read" LF f fd)(zbs:AX P w K mg base (a "Plank") 1 "ask_for_block" ["self","block"] (KK K a)) :
  FP P w K mg base 2 f fd ["self","block"] (NH K a) :=
 F.okF (UL K a) Yw Lc Kv λ_ _ _ _ _ E hr hx=>(AO (DC (AY (AB 0) T.ME zbs hr.m hx.passes (AD (AB 1) AG)))
   (AQ (A3 (MP Y4 rfl T.RI (by rfl) (AD (BJ BK (A4 (AB 0) rfl) (AB 1) (λ_ _=>rfl)) AG)))))
abbrev LG:Stmt:=BR (BG 32) 1
theorem Yy:FnScope ["self","k"] ["self","k"] (AK LG):=.go
theorem Yz(T:Txt K mg a)(F:Fun K "name_at" "Layout.name_at" LG f fd)(HC:AX P w K mg base (a "Layout") 1 "place_from" ["self","block","k"] (E4 K a)) :
  FP P w K mg base 2 f fd ["self","k"] (FL K a) :=
 F.okF (UM K a) Yy Ng Ml λ_ _ _ _ _ E hr hx=>(AQ (A3 (AY (AB 0) T.B8 HC hr.m hx.passes (AD AN (AD (AB 1) AG)))))
abbrev LH:Stmt:=BR (BG 32) 2
theorem Zb:FnScope ["self","k"] ["self","k"] (AK LH):=.go
theorem Zc(T:Txt K mg a)(F:Fun K "record_at" "Layout.record_at" LH f fd)(HC:AX P w K mg base (a "Layout") 1 "place_from" ["self","block","k"] (E4 K a)) :
  FP P w K mg base 2 f fd ["self","k"] (ES K a) :=
 F.okF (UN K a) Zb Nh Mm λ_ _ _ _ _ E hr hx=>(AQ (A3 (AY (AB 0) T.B8 HC hr.m hx.passes (AD (A4 (AB 0) rfl) (AD (AB 1) AG)))))
abbrev LI:Stmt:=BR (BG 32) 3
theorem Zd:FnScope ["self","k"] ["self","k"] (AK LI):=.go
theorem Zg(T:Txt K mg a)(F:Fun K "piece_at" "Layout.piece_at" LI f fd)(HC:AX P w K mg base (a "Layout") 1 "place_from" ["self","block","k"] (E4 K a)) :
  FP P w K mg base 2 f fd ["self","k"] (HR K a) :=
 F.okF (UO K a) Zd Nj Mp λ_ _ _ _ _ E hr hx=>(AQ (A3 (AY (AB 0) T.B8 HC hr.m hx.passes (AD (AU BZ (A4 (AB 0) rfl) (A4 (AB 0) rfl)) (AD (AB 1) AG)))))
abbrev LJ:Stmt:=BR (BG 32) 4
theorem Zh:FnScope ["self","k"] ["self","k"] (AK LJ):=.go
theorem Zj(T:Txt K mg a)(F:Fun K "record_mark" "Layout.record_mark" LJ f fd)(HC:AX P w K mg base (a "Layout") 1 "place_from" ["self","block","k"] (E4 K a))(OP:AX P w K mg base (a "Layout") 1 "blocks_ahead_of_marks" ["self"] (G3 K a)) :
  FP P w K mg base 2 f fd ["self","k"] (GL K a) :=
 F.okF (UP K a) Zh Nk Mq λ_ _ _ _ _ E hr hx=>(AQ (A3 (AY (AB 0) T.B8 HC hr.m hx.passes (AD (D7 (AB 0) T.B8 OP hr.m hx.passes) (AD (AB 1) AG)))))
abbrev LK:Stmt:=BR (BG 32) 5
theorem Zk:FnScope ["self","k"] ["self","k"] (AK LK):=.go
theorem Zl(T:Txt K mg a)(F:Fun K "piece_mark" "Layout.piece_mark" LK f fd)(HC:AX P w K mg base (a "Layout") 1 "place_from" ["self","block","k"] (E4 K a))(OP:AX P w K mg base (a "Layout") 1 "blocks_ahead_of_marks" ["self"] (G3 K a)) :
  FP P w K mg base 2 f fd ["self","k"] (FM K a) :=
 F.okF (UQ K a) Zk Nl Mv λ_ _ _ _ _ E hr hx=>(AQ (A3 (AY (AB 0) T.B8 HC hr.m hx.passes (AD (AU BZ (D7 (AB 0) T.B8 OP hr.m hx.passes) (A4 (AB 0) rfl)) (AD (AB 1) AG)))))
abbrev LM:Stmt:=BR (BG 32) 7
theorem Zm:FnScope ["self"] ["self"] (AK LM):=.go
theorem Zp(T:Txt K mg a)(F:Fun K "blocks" "Layout.blocks" LM f fd)(OP:AX P w K mg base (a "Layout") 1 "blocks_ahead_of_marks" ["self"] (G3 K a)) :
  FP P w K mg base 2 f fd ["self"] (NL K a) :=
 F.okF (UR K a) Zm Np Mx λ_ _ _ _ _ E hr hx=>(AQ (A3 (AU BZ (AU BZ (D7 (AB 0) T.B8 OP hr.m hx.passes) (A4 (AB 0) rfl)) (A4 (AB 0) rfl))))
abbrev HX:Stmt:=BG 41
theorem WP:FnScope ["rooms","led","records","kind","one","other","cell","standing","texts"] ["rooms","led","records","kind","one","other","cell"] (AK HX):=.go
theorem Zq(T:Txt K mg a)(F:Fun K "_law_due" "_law_due" HX f fd)(zbm:C6 P w K mg base (1) "_law_way" ["rooms","led","records","kind","one","other"] (OB K a))(RH:C6 P w K mg base (1) "_law_at" ["cell"] (HV K a))(WY:C6 P w K mg base (1) "_law_text" ["cell"] (JA K a)) :
  FP P w K mg base 2 f fd ["rooms","led","records","kind","one","other","cell"] (OC K a) :=
 F.okF (U3 K a) WP Vm Vl λ_ _ _ _ _ E hr hx=>(AO (PU (i:=7) (tn:=["record"]) (cn:=[]) (cap:=[]) (EA (outer:=AK HX) (N:=["rooms","led","records","kind","one","other","cell","standing","texts"]) rfl rfl (by decide +kernel)) rfl WP.nd rfl rfl (G1 (AB 2)) (λ_ _ _ _ _ _=>(DY (i:=0) (show(["record"]:List Str).Nodup from by decide +kernel) rfl (Or.inl rfl))) (λ_ _ _ _ _ _=>(YV (CB O7 (AB 0) DS (CF _)))) (λ_ _ _ _ _ _=>(AB 0)))
   (AO (BQ (CB GI (AB 3) AN (CF _)) (AO (BQ (HZ (R8 (D0 hr) (AB 4) (AB 1)) (by with_unfolding_all rfl)) (AQ (A3 BX)) B1)
   (AO (BQ (PW.pt (OW (CB (EZ hr.units) (C0 E3 rfl T.EN (by rfl) (AD (AB 7) AG)) (BJ BK (AB 0) AN (λ_ _=>rfl)) (CF _)) (OV (CB (EZ hr.units) (C0 aC rfl T.EN (by rfl) (AD (AB 1) AG)) (BJ BK (AB 0) AN (λ_ _=>rfl)) (CF _))))) (AQ (A3 BX)) B1)
   (AO (PQ (D0 hr) (AB 1) (AB 4) (C0 E3 rfl T.EN (by rfl) (AD (AB 2) AG)) rfl)
   (AO (DC (FV PySem.F.plainAttrs_list PySem.F.slot_list_append PySem.F.type_list_append HJ (AB 2) (AD (B6 AG) AG)))
   (AQ (A3 BX)))))) B1)
   (AO (BQ (CB (ZY hr.units) (AB 3) (EW (AD AN (AD AN (AD AN AG)))) (by with_unfolding_all rfl)) (AQ (A3 (C7 zbm hr.m hx.passes rfl (AD (AB 0) (AD (AB 1) (AD (AB 2) (AD (AB 3) (AD (AB 4) (AD (AB 5) AG))))))))) B1)
   (AO (BQ (HZ (PN (D0 hr) (AB 4) (AB 1)) (by with_unfolding_all rfl)) (AQ (A3 BX)) B1)
   (AO (BD 8 WP.nd (BJ BK (AB 2) (MZ (D0 hr) (AB 1) (AB 4) (λ_ _=>rfl)) (λ_ _=>rfl)))
   (AO (BQ (CB (EZ hr.units) (AB 3) AN (CF _)) (AO (BQ (FR (J6 ER GI AN (C7 RH hr.m hx.passes rfl (AD (AB 6) AG)) (C0 E3 rfl T.EN (by rfl) (AD (AB 8) AG)))) (AQ (A3 BX)) B1)
   (AO (DC (FV PySem.F.plainAttrs_list PySem.F.slot_list_pop PySem.F.type_list_pop pG (AB 8) (AD (C7 RH hr.m hx.passes rfl (AD (AB 6) AG)) AG)))
   (AQ (A3 BX)))) B1)
   (AO (BQ (CB (EZ hr.units) (C0 (vU rfl) rfl T.zb9 (by rfl) (AD (FW (tn:=["record"]) (cn:=[]) (cap:=[]) (EA (outer:=AK HX) (N:=["rooms","led","records","kind","one","other","cell","standing","texts"]) rfl rfl (by decide +kernel)) rfl (G1 (AB 7)) (λ_ _ _ _ _ _=>(DY (i:=0) (show(["record"]:List Str).Nodup from by decide +kernel) rfl (Or.inl rfl))) (λ_ _ _ _ _ _=>EO) (λ_ _ _ _ _ _=>(C0 E3 rfl T.EN (by rfl) (AD (AB 0) AG)))) AG)) (BJ BK (AB 0) AN (λ_ _=>rfl)) (CF _)) (AQ (A3 BX)) B1)
   (AO (DC (FV PySem.F.plainAttrs_list PySem.F.slot_list_append PySem.F.type_list_append HJ (AB 8) (AD (C7 WY hr.m hx.passes rfl (AD (AB 6) AG)) AG)))
   (AQ (A3 BX))))))))))
abbrev LN:Stmt:=BR (BG 11) 3
theorem Zv:FnScope ["self","place"] ["self","place"] (AK LN):=.go
theorem Zw(T:Txt K mg a)(F:Fun K "newest" "Book.newest" LN f fd)(zbp:AX P w K mg base (a "Hold") 2 "ask_for_place" ["self","place"] (NP K a)) :
  FP P w K mg base 3 f fd ["self","place"] (IR K a) :=
 F.okF (U4 K a) Zv Lv Lq λ_ _ _ _ _ E hr hx=>(AO (DC (AY (AB 0) T.DI zbp hr.m hx.passes (AD (AB 1) AG)))
   (AQ (A3 (pZ (D0 hr) (A4 (AB 0) rfl) (AB 1) ⟨rfl,rfl,rfl,rfl⟩))))
abbrev LO:Stmt:=BR (BG 32) 8
theorem Zx:FnScope ["self"] ["self"] (AK LO):=.go
theorem Zy(T:Txt K mg a)(F:Fun K "plank" "Layout.plank" LO f fd)(zbq:AX P w K mg base (a "Layout") 2 "blocks" ["self"] (NL K a))(zb6:KE P w K mg base (a "Plank") 1 "Plank" ["self","blocks","cells"] (NF K a)) :
  FP P w K mg base 3 f fd ["self"] (NM K a) :=
 F.okF (U5 K a) Zx Nv Mz λ_ _ _ _ _ E hr hx=>(AQ (A3 (M4 zb6 hr.m hx.passes rfl (AD (D7 (AB 0) T.B8 zbq hr.m hx.passes) (AD (A4 (AB 0) rfl) AG)))))
abbrev LP:Stmt:=BR (BG 11) 1
theorem WQ:FnScope ["self","place","value","needs","ahead","number"] ["self","place","value","needs"] (AK LP):=.go
theorem Zz(T:Txt K mg a)(F:Fun K "change" "Book.change" LP f fd)(WZ:AX P w K mg base (a "Hold") 3 "newest" ["self","place"] (IR K a))(zbo:AX P w K mg base (a "Hold") 1 "ask_for_changes" ["self","numbers"] (NQ K a))(zbn:C6 P w K mg base (1) "needs_with" ["needs","ahead"] (NO K a))(zb3:KE P w K mg base (a "Change") 1 "Change" ["self","place","value","needs"] (NN K a)) :
  FP P w K mg base 4 f fd ["self","place","value","needs"] (C8 K a) :=
 F.okF (U6 K a) WQ Lz Ly λ_ _ _ _ _ E hr hx=>(AO (BD 4 WQ.nd (AY (AB 0) T.DI WZ hr.m hx.passes (AD (AB 1) AG)))
   (AO (DC (AY (AB 0) T.DI zbo hr.m hx.passes (AD (AB 3) AG)))
   (AO (BD 5 WQ.nd (C0 E3 rfl T.EN (by rfl) (AD (A4 (AB 0) rfl) AG)))
   (AO (DC (FV PySem.F.plainAttrs_list PySem.F.slot_list_append PySem.F.type_list_append HJ (A4 (AB 0) rfl) (AD (M4 zb3 hr.m hx.passes rfl (AD (AB 1) (AD (AB 2) (AD (C7 zbn hr.m hx.passes rfl (AD (AB 3) (AD (AB 4) AG))) AG)))) AG)))
   (AO (DC (FV PySem.F.plainAttrs_list PySem.F.slot_list_append PySem.F.type_list_append HJ (BJ BK (A4 (AB 0) rfl) (BJ BK (AB 1) AN (λ_ _=>rfl)) (λ_ _=>rfl)) (AD (AB 5) AG)))
   (AO (PQ (D0 hr) (A4 (AB 0) rfl) (AB 1) (AB 5) rfl)
   (AQ (A3 (AB 5)))))))))
abbrev LQ:Stmt:=BR (BG 11) 2
theorem k8:FnScope ["self","place","number"] ["self","place"] (AK LQ):=.go
theorem zaa(T:Txt K mg a)(F:Fun K "in_hand" "Book.in_hand" LQ f fd)(WZ:AX P w K mg base (a "Hold") 3 "newest" ["self","place"] (IR K a))(zbu:AX P w K mg base (a "Plank") 2 "read" ["self","block"] (NH K a)) :
  FP P w K mg base 4 f fd ["self","place"] (F4 K a) :=
 F.okF (U7 K a) k8 Mg Mc λ_ _ _ _ _ E hr hx=>(AO (BD 2 k8.nd (AY (AB 0) T.DI WZ hr.m hx.passes (AD (AB 1) AG)))
   (AO (BQ (CB O6 (AB 2) DS (CF _)) (AQ (A3 (BJ BK (AY (A4 (AB 0) rfl) T.ME zbu hr.m hx.passes (AD (BJ BK (AB 1) AN (λ_ _=>rfl)) AG)) (BJ BK (AB 1) AN (λ_ _=>rfl)) (λ_ _=>rfl)))) B1)
   (AQ (A3 (A4 (BJ BK (A4 (AB 0) rfl) (AB 2) (λ_ _=>rfl)) rfl)))))
abbrev LR:Stmt:=BR (BG 28) 0
theorem zab:FnScope ["self","layout","plank"] ["self","layout","plank"] (AK LR):=.go
theorem zac(T:Txt K mg a)(F:Fun K "__init__" "Store.__init__" LR f fd)(zb4:KE P w K mg base (a "Hold") 2 "Hold" ["self","plank"] (KP K a)) :
  FP P w K mg base 4 f fd ["self","layout","plank"] (NX K a) :=
 F.okF (U8 K a) zab Qw Qv λ_ _ _ _ _ E hr hx=>(AO (DT (AB 0) (AB 1) rfl)
   (AO (DT (AB 0) (M4 zb4 hr.m hx.passes rfl (AD (AB 2) AG)) rfl)
   (AQ (DT (AB 0) SB rfl))))
abbrev LS:Stmt:=BG 26
theorem WR:FnScope ["hold","places","values","k","place"] ["hold","places","values"] (AK LS):=.go
theorem zad(T:Txt K mg a)(F:Fun K "lowest_with" "lowest_with" LS f fd)(JV:AX P w K mg base (a "Hold") 4 "in_hand" ["self","place"] (F4 K a)) :
  FP P w K mg base 5 f fd ["hold","places","values"] (GM K a) :=
 F.okF (U9 K a) WR Pc Pb λ_ _ _ _ _ E hr hx=>(AO (J5 hx.po rfl (Z3 rfl T.lH (AD (AB 1) AG)) (XH rfl (O0 (HP 3 WR.nd) (O0 (HP 4 WR.nd) XG))) (AQ (BQ (CB (v1 hr.units) (AY (AB 0) T.DI JV hr.m hx.passes (AD (AB 4) AG)) (AB 2) (by with_unfolding_all rfl)) (AQ (A3 (AB 3))) B1)))
   (AQ (G0 hx T.zcg rfl T.lM (AD BX AG))))
abbrev JN:Stmt:=BR (BG 28) 16
theorem zae:FnScope ["self"] ["self"] (AK JN):=.go
theorem zaf(T:Txt K mg a)(F:Fun K "name_cells" "Store.name_cells" JN f fd)(JW:AX P w K mg base (a "Layout") 1 "counts" ["self"] (F2 K a))(JV:AX P w K mg base (a "Hold") 4 "in_hand" ["self","place"] (F4 K a))(JX:AX P w K mg base (a "Layout") 2 "name_at" ["self","k"] (FL K a)) :
  FP P w K mg base 5 f fd ["self"] (G6 K a) :=
 F.okF (VA K a) zae Qz Qy λ_ _ _ _ _ E hr hx=>(AQ (A3 (FW (tn:=["k"]) (cn:=["self"]) (cap:=[0]) (EA (outer:=AK JN) (N:=["self"]) rfl rfl (by decide +kernel)) rfl (HH rfl T.HY (AD (BJ BK (D7 (A4 (AB 0) rfl) T.B8 JW hr.m hx.passes) AN (λ_ _=>rfl)) AG)) (λ_ _ _ _ _ _=>(DY (i:=0) (show(["k","self"]:List Str).Nodup from by decide +kernel) rfl (Or.inl rfl))) (λ_ _ _ _ _ _=>EO) (λ_ _ _ _ _ _=>(AY (A4 (AB 1) rfl) T.DI JV hr.m GG (AD (AY (A4 (AB 1) rfl) T.B8 JX hr.m GG (AD (AB 0) AG)) AG))))))
abbrev LT:Stmt:=BR (BG 28) 17
theorem zag:FnScope ["self","record"] ["self","record"] (AK LT):=.go
theorem zah(T:Txt K mg a)(F:Fun K "standing" "Store.standing" LT f fd)(JV:AX P w K mg base (a "Hold") 4 "in_hand" ["self","place"] (F4 K a))(HD:AX P w K mg base (a "Layout") 2 "record_at" ["self","k"] (ES K a)) :
  FP P w K mg base 5 f fd ["self","record"] (D3 K a) :=
 F.okF (VB K a) zag Ry Rx λ_ _ _ _ _ E hr hx=>(AQ (A3 (AY (A4 (AB 0) rfl) T.DI JV hr.m hx.passes (AD (AY (A4 (AB 0) rfl) T.B8 HD hr.m hx.passes (AD (AB 1) AG)) AG))))
abbrev LU:Stmt:=BR (BG 28) 18
theorem k9:FnScope ["self","cell","name","record","need","needs"] ["self","cell","name","record","need"] (AK LU):=.go
theorem zai(T:Txt K mg a)(F:Fun K "fill_cell" "Store.fill_cell" LU f fd)(DX:AX P w K mg base (a "Hold") 4 "change" ["self","place","value","needs"] (C8 K a))(JX:AX P w K mg base (a "Layout") 2 "name_at" ["self","k"] (FL K a)) :
  FP P w K mg base 5 f fd ["self","cell","name","record","need"] (IV K a) :=
 F.okF (VD K a) k9 Sd Sc λ_ _ _ _ _ E hr hx=>(AO (BD 5 k9.nd (B6 (AD (AB 4) AG)))
   (AO (BQ (HZ (R8 (D0 hr) (AB 2) (A4 (AB 0) rfl)) (by with_unfolding_all rfl)) (AQ (DC (FV PySem.F.plainAttrs_list PySem.F.slot_list_append PySem.F.type_list_append HJ (AB 5) (AD (MZ (D0 hr) (A4 (AB 0) rfl) (AB 2) (λ_ _=>rfl)) AG)))) B1)
   (AQ (A3 (AY (A4 (AB 0) rfl) T.DI DX hr.m hx.passes (AD (AY (A4 (AB 0) rfl) T.B8 JX hr.m hx.passes (AD (AB 1) AG)) (AD (EW (AD (AB 2) (AD (AB 3) AG))) (AD (AB 5) AG))))))))
abbrev JO:Stmt:=BG 23
theorem lA:FnScope ["layout","hold","places"] ["layout","hold"] (AK JO):=.go
theorem zaj(T:Txt K mg a)(F:Fun K "free_name" "free_name" JO f fd)(JW:AX P w K mg base (a "Layout") 1 "counts" ["self"] (F2 K a))(JX:AX P w K mg base (a "Layout") 2 "name_at" ["self","k"] (FL K a))(OO:C6 P w K mg base (5) "lowest_with" ["hold","places","values"] (GM K a)) :
  FP P w K mg base 6 f fd ["layout","hold"] (IS K a) :=
 F.okF (VE K a) lA Pj Ph λ_ _ _ _ _ E hr hx=>(AO (PU (i:=2) (tn:=["k"]) (cn:=["layout"]) (cap:=[0]) (EA (outer:=AK JO) (N:=["layout","hold","places"]) rfl rfl (by decide +kernel)) rfl lA.nd rfl rfl (HH rfl T.HY (AD (BJ BK (D7 (AB 0) T.B8 JW hr.m hx.passes) AN (λ_ _=>rfl)) AG)) (λ_ _ _ _ _ _=>(DY (i:=0) (show(["k","layout"]:List Str).Nodup from by decide +kernel) rfl (Or.inl rfl))) (λ_ _ _ _ _ _=>EO) (λ_ _ _ _ _ _=>(AY (AB 1) T.B8 JX hr.m GG (AD (AB 0) AG))))
   (AQ (A3 (C7 OO hr.m hx.passes rfl (AD (AB 1) (AD (AB 2) (AD (EW (AD DS AG)) AG)))))))
abbrev JP:Stmt:=BG 24
theorem lB:FnScope ["layout","hold","marks"] ["layout","hold"] (AK JP):=.go
theorem zak(T:Txt K mg a)(F:Fun K "free_record" "free_record" JP f fd)(JW:AX P w K mg base (a "Layout") 1 "counts" ["self"] (F2 K a))(OQ:AX P w K mg base (a "Layout") 2 "record_mark" ["self","k"] (GL K a))(OO:C6 P w K mg base (5) "lowest_with" ["hold","places","values"] (GM K a)) :
  FP P w K mg base 6 f fd ["layout","hold"] (NR K a) :=
 F.okF (VF K a) lB Pl Pk λ_ _ _ _ _ E hr hx=>(AO (PU (i:=2) (tn:=["k"]) (cn:=["layout"]) (cap:=[0]) (EA (outer:=AK JP) (N:=["layout","hold","marks"]) rfl rfl (by decide +kernel)) rfl lB.nd rfl rfl (HH rfl T.HY (AD (BJ BK (D7 (AB 0) T.B8 JW hr.m hx.passes) AN (λ_ _=>rfl)) AG)) (λ_ _ _ _ _ _=>(DY (i:=0) (show(["k","layout"]:List Str).Nodup from by decide +kernel) rfl (Or.inl rfl))) (λ_ _ _ _ _ _=>EO) (λ_ _ _ _ _ _=>(AY (AB 1) T.B8 OQ hr.m GG (AD (AB 0) AG))))
   (AQ (A3 (C7 OO hr.m hx.passes rfl (AD (AB 1) (AD (AB 2) (AD (EW (AD DS (AD AN AG))) AG)))))))
abbrev JQ:Stmt:=BG 25
theorem lC:FnScope ["layout","hold","marks"] ["layout","hold"] (AK JQ):=.go
theorem zal(T:Txt K mg a)(F:Fun K "free_piece" "free_piece" JQ f fd)(JW:AX P w K mg base (a "Layout") 1 "counts" ["self"] (F2 K a))(JY:AX P w K mg base (a "Layout") 2 "piece_mark" ["self","k"] (FM K a))(OO:C6 P w K mg base (5) "lowest_with" ["hold","places","values"] (GM K a)) :
  FP P w K mg base 6 f fd ["layout","hold"] (NS K a) :=
 F.okF (VG K a) lC Pp Pm λ_ _ _ _ _ E hr hx=>(AO (PU (i:=2) (tn:=["k"]) (cn:=["layout"]) (cap:=[0]) (EA (outer:=AK JQ) (N:=["layout","hold","marks"]) rfl rfl (by decide +kernel)) rfl lC.nd rfl rfl (HH rfl T.HY (AD (BJ BK (D7 (AB 0) T.B8 JW hr.m hx.passes) AN (λ_ _=>rfl)) AG)) (λ_ _ _ _ _ _=>(DY (i:=0) (show(["k","layout"]:List Str).Nodup from by decide +kernel) rfl (Or.inl rfl))) (λ_ _ _ _ _ _=>EO) (λ_ _ _ _ _ _=>(AY (AB 1) T.B8 JY hr.m GG (AD (AB 0) AG))))
   (AQ (A3 (C7 OO hr.m hx.passes rfl (AD (AB 1) (AD (AB 2) (AD (EW (AD DS (AD AN AG))) AG)))))))
abbrev JR:Stmt:=BR (BG 28) 7
theorem zam:FnScope ["self"] ["self"] (AK JR):=.go
theorem zan(T:Txt K mg a)(F:Fun K "names" "Store.names" JR f fd)(OS:AX P w K mg base (a "Store") 5 "name_cells" ["self"] (G6 K a)) :
  FP P w K mg base 6 f fd ["self"] (NY K a) :=
 F.okF (VH K a) zam Rk Rj λ_ _ _ _ _ E hr hx=>(AQ (A3 (C0 (v2 rfl) rfl T.RJ (by rfl) (AD (FW (tn:=["value"]) (cn:=[]) (cap:=[]) (EA (outer:=AK JR) (N:=["self"]) rfl rfl (by decide +kernel)) rfl (G1 (D7 (AB 0) T.BT OS hr.m hx.passes)) (λ_ _ _ _ _ _=>(DY (i:=0) (show(["value"]:List Str).Nodup from by decide +kernel) rfl (Or.inl rfl))) (λ_ _ _ _ _ _=>(YV (CB O7 (AB 0) DS (CF _)))) (λ_ _ _ _ _ _=>(BJ BK (AB 0) AN (λ_ _=>rfl)))) AG))))
abbrev LV:Stmt:=BR (BG 28) 15
theorem WS:FnScope ["self","name","cell","value"] ["self","name"] (AK LV):=.go
theorem zao(T:Txt K mg a)(F:Fun K "cell_of" "Store.cell_of" LV f fd)(OS:AX P w K mg base (a "Store") 5 "name_cells" ["self"] (G6 K a)) :
  FP P w K mg base 6 f fd ["self","name"] (G7 K a) :=
 F.okF (VI K a) WS Rh Rg λ_ _ _ _ _ E hr hx=>(AO (J5 hx.po rfl (Z3 rfl T.lH (AD (D7 (AB 0) T.BT OS hr.m hx.passes) AG)) (XH rfl (O0 (HP 2 WS.nd) (O0 (HP 3 WS.nd) XG))) (AQ (BQ (PW.pt (mJ (CB O7 (AB 3) DS (CF _)) (mI (CB (EZ hr.units) (BJ BK (AB 3) AN (λ_ _=>rfl)) (AB 1) (CF _))))) (AQ (A3 (AB 2))) B1)))
   (AQ (A3 DS)))
abbrev LW:Stmt:=BR (BG 28) 20
theorem lD:FnScope ["self","record","more","needs","value"] ["self","record","more","needs"] (AK LW):=.go
theorem zap(T:Txt K mg a)(F:Fun K "recount" "Store.recount" LW f fd)(E8:AX P w K mg base (a "Store") 5 "standing" ["self","record"] (D3 K a))(DX:AX P w K mg base (a "Hold") 4 "change" ["self","place","value","needs"] (C8 K a))(HD:AX P w K mg base (a "Layout") 2 "record_at" ["self","k"] (ES K a)) :
  FP P w K mg base 6 f fd ["self","record","more","needs"] (G8 K a) :=
 F.okF (VJ K a) lD Sj Sh λ_ _ _ _ _ E hr hx=>(AO (BD 4 lD.nd (AY (AB 0) T.BT E8 hr.m hx.passes (AD (AB 1) AG)))
   (AQ (A3 (AY (A4 (AB 0) rfl) T.DI DX hr.m hx.passes (AD (AY (A4 (AB 0) rfl) T.B8 HD hr.m hx.passes (AD (AB 1) AG)) (AD (EW (AD (AU BZ (BJ BK (AB 4) AN (λ_ _=>rfl)) (AB 2)) (AD (BJ BK (AB 4) AN (λ_ _=>rfl)) AG))) (AD (AB 3) AG)))))))
abbrev LX:Stmt:=BR (BG 28) 21
theorem zaq:FnScope ["self","record","pieces","needs"] ["self","record","pieces","needs"] (AK LX):=.go
theorem zar(T:Txt K mg a)(F:Fun K "regroup" "Store.regroup" LX f fd)(DX:AX P w K mg base (a "Hold") 4 "change" ["self","place","value","needs"] (C8 K a))(E8:AX P w K mg base (a "Store") 5 "standing" ["self","record"] (D3 K a))(HD:AX P w K mg base (a "Layout") 2 "record_at" ["self","k"] (ES K a)) :
  FP P w K mg base 6 f fd ["self","record","pieces","needs"] (IW K a) :=
 F.okF (VL K a) zaq Sl Sk λ_ _ _ _ _ E hr hx=>(AQ (A3 (AY (A4 (AB 0) rfl) T.DI DX hr.m hx.passes (AD (AY (A4 (AB 0) rfl) T.B8 HD hr.m hx.passes (AD (AB 1) AG)) (AD (EW (AD (BJ BK (AY (AB 0) T.BT E8 hr.m hx.passes (AD (AB 1) AG)) AN (λ_ _=>rfl)) (AD (AB 2) AG))) (AD (AB 3) AG))))))
abbrev JS:Stmt:=BR (BG 28) 22
theorem OK:FnScope ["self","record","gone","pieces","dropped","made","mark"] ["self","record","gone"] (AK JS):=.go
theorem zas(T:Txt K mg a)(F:Fun K "drop_record" "Store.drop_record" JS f fd)(E8:AX P w K mg base (a "Store") 5 "standing" ["self","record"] (D3 K a))(DX:AX P w K mg base (a "Hold") 4 "change" ["self","place","value","needs"] (C8 K a))(HD:AX P w K mg base (a "Layout") 2 "record_at" ["self","k"] (ES K a))(JY:AX P w K mg base (a "Layout") 2 "piece_mark" ["self","k"] (FM K a))(OQ:AX P w K mg base (a "Layout") 2 "record_mark" ["self","k"] (GL K a)) :
  FP P w K mg base 6 f fd ["self","record","gone"] (NZ K a) :=
 F.okF (VM K a) OK Sx Sw λ_ _ _ _ _ E hr hx=>(AO (BD 3 OK.nd (BJ BK (AY (AB 0) T.BT E8 hr.m hx.passes (AD (AB 1) AG)) AN (λ_ _=>rfl)))
   (AO (BD 4 OK.nd (AY (A4 (AB 0) rfl) T.DI DX hr.m hx.passes (AD (AY (A4 (AB 0) rfl) T.B8 HD hr.m hx.passes (AD (AB 1) AG)) (AD DS (AD (B6 (AD (AB 2) AG)) AG)))))
   (AO (BD 5 OK.nd (B6 (AD (AB 4) AG)))
   (AO (J5 hx.po rfl (G1 (AU BZ (FW (tn:=["piece"]) (cn:=["self"]) (cap:=[0]) (EA (outer:=AK JS) (N:=["self","record","gone","pieces","dropped","made","mark"]) rfl rfl (by decide +kernel)) rfl (G1 (AB 3)) (λ_ _ _ _ _ _=>(DY (i:=0) (show(["piece","self"]:List Str).Nodup from by decide +kernel) rfl (Or.inl rfl))) (λ_ _ _ _ _ _=>EO) (λ_ _ _ _ _ _=>(AY (A4 (AB 1) rfl) T.B8 JY hr.m GG (AD (AB 0) AG)))) (B6 (AD (AY (A4 (AB 0) rfl) T.B8 OQ hr.m hx.passes (AD (AB 1) AG)) AG)))) (HP 6 OK.nd) (AQ (DC (FV PySem.F.plainAttrs_list PySem.F.slot_list_append PySem.F.type_list_append HJ (AB 5) (AD (AY (A4 (AB 0) rfl) T.DI DX hr.m hx.passes (AD (AB 6) (AD AN (AD (B6 (AD (AB 4) AG)) AG)))) AG)))))
   (AQ (A3 (AB 5)))))))
abbrev JT:Stmt:=BR (BG 28) 13
theorem zat:FnScope ["self","new","given"] ["self","new","given"] (AK JT):=.go
theorem zau(T:Txt K mg a)(F:Fun K "ask_for_new_name" "Store.ask_for_new_name" JT f fd)(zbd:C6 P w K mg base (1) "is_name" ["thing"] (NV K a))(OR:AX P w K mg base (a "Store") 6 "cell_of" ["self","name"] (G7 K a)) :
  FP P w K mg base 7 f fd ["self","new","given"] (IU K a) :=
 F.okF (VN K a) zat Rm Rl λ_ _ _ _ _ E hr hx=>(AO (BQ (FR (MN (C0 (SV rfl) rfl T.W8 (by rfl) (AD (FW (tn:=["text"]) (cn:=[]) (cap:=[]) (EA (outer:=AK JT) (N:=["self","new","given"]) rfl rfl (by decide +kernel)) rfl (G1 (AB 2)) (λ_ _ _ _ _ _=>(DY (i:=0) (show(["text"]:List Str).Nodup from by decide +kernel) rfl (Or.inl rfl))) (λ_ _ _ _ _ _=>EO) (λ_ _ _ _ _ _=>(C7 zbd hr.m GG rfl (AD (AB 0) AG)))) AG)) (λ_=>rfl))) (AQ (G0 hx T.lP rfl T.RK (AD BX AG))) B1)
   (AQ (BQ (CB O7 (AY (AB 0) T.BT OR hr.m hx.passes (AD (AB 1) AG)) DS (CF _)) (AQ (G0 hx T.zch rfl T.lN (AD BX AG))) B1)))
abbrev LY:Stmt:=BR (BG 28) 14
theorem lE:FnScope ["self","name","cell"] ["self","name"] (AK LY):=.go
theorem zav(T:Txt K mg a)(F:Fun K "record_of" "Store.record_of" LY f fd)(OR:AX P w K mg base (a "Store") 6 "cell_of" ["self","name"] (G7 K a))(OS:AX P w K mg base (a "Store") 5 "name_cells" ["self"] (G6 K a)) :
  FP P w K mg base 7 f fd ["self","name"] (EK K a) :=
 F.okF (VO K a) lE Sb Rz λ_ _ _ _ _ E hr hx=>(AO (BD 2 lE.nd (AY (AB 0) T.BT OR hr.m hx.passes (AD (AB 1) AG)))
   (AO (BQ (CB O6 (AB 2) DS (CF _)) (AQ (G0 hx T.lP rfl T.RK (AD BX AG))) B1)
   (AQ (A3 (BJ BK (BJ BK (D7 (AB 0) T.BT OS hr.m hx.passes) (AB 2) (λ_ _=>rfl)) AN (λ_ _=>rfl))))))
abbrev LZ:Stmt:=BR (BG 28) 19
theorem lF:FnScope ["self","name","needs","gone"] ["self","name","needs"] (AK LZ):=.go
theorem zaw(T:Txt K mg a)(F:Fun K "empty_cell" "Store.empty_cell" LZ f fd)(DX:AX P w K mg base (a "Hold") 4 "change" ["self","place","value","needs"] (C8 K a))(JX:AX P w K mg base (a "Layout") 2 "name_at" ["self","k"] (FL K a))(OR:AX P w K mg base (a "Store") 6 "cell_of" ["self","name"] (G7 K a)) :
  FP P w K mg base 7 f fd ["self","name","needs"] (IX K a) :=
 F.okF (VP K a) lF Sq Sm λ_ _ _ _ _ E hr hx=>(AO (BD 3 lF.nd (AY (A4 (AB 0) rfl) T.DI DX hr.m hx.passes (AD (AY (A4 (AB 0) rfl) T.B8 JX hr.m hx.passes (AD (AY (AB 0) T.BT OR hr.m hx.passes (AD (AB 1) AG)) AG)) (AD DS (AD (AB 2) AG)))))
   (AO (PQ (D0 hr) (A4 (AB 0) rfl) (AB 1) (AB 3) rfl)
   (AQ (A3 (AB 3)))))
abbrev L4:Stmt:=BR (BG 28) 1
theorem OL:FnScope ["self","name","record","cell","mark","stands"] ["self","name"] (AK L4):=.go
theorem zax(T:Txt K mg a)(F:Fun K "make" "Store.make" L4 f fd)(W3:AX P w K mg base (a "Store") 7 "ask_for_new_name" ["self","new","given"] (IU K a))(zbc:C6 P w K mg base (6) "free_record" ["layout","hold"] (NR K a))(WX:C6 P w K mg base (6) "free_name" ["layout","hold"] (IS K a))(DX:AX P w K mg base (a "Hold") 4 "change" ["self","place","value","needs"] (C8 K a))(OQ:AX P w K mg base (a "Layout") 2 "record_mark" ["self","k"] (GL K a))(HD:AX P w K mg base (a "Layout") 2 "record_at" ["self","k"] (ES K a))(W5:AX P w K mg base (a "Store") 5 "fill_cell" ["self","cell","name","record","need"] (IV K a)) :
  FP P w K mg base 8 f fd ["self","name"] (N0 K a) :=
 F.okF (VQ K a) OL Sz Sy λ_ _ _ _ _ E hr hx=>(AO (DC (AY (AB 0) T.BT W3 hr.m hx.passes (AD (AB 1) (AD (B6 (AD (AB 1) AG)) AG))))
   (AO (BD 2 OL.nd (C7 zbc hr.m hx.passes rfl (AD (A4 (AB 0) rfl) (AD (A4 (AB 0) rfl) AG))))
   (AO (BD 3 OL.nd (C7 WX hr.m hx.passes rfl (AD (A4 (AB 0) rfl) (AD (A4 (AB 0) rfl) AG))))
   (AO (BD 4 OL.nd (AY (A4 (AB 0) rfl) T.DI DX hr.m hx.passes (AD (AY (A4 (AB 0) rfl) T.B8 OQ hr.m hx.passes (AD (AB 2) AG)) (AD AN (AD (B6 AG) AG)))))
   (AO (BD 5 OL.nd (AY (A4 (AB 0) rfl) T.DI DX hr.m hx.passes (AD (AY (A4 (AB 0) rfl) T.B8 HD hr.m hx.passes (AD (AB 2) AG)) (AD (EW (AD AN (AD (EW AG) AG))) (AD (B6 (AD (AB 4) AG)) AG)))))
   (AQ (A3 (B6 (AD (AB 4) (AD (AB 5) (AD (AY (AB 0) T.BT W5 hr.m hx.passes (AD (AB 3) (AD (AB 1) (AD (AB 2) (AD (AB 5) AG))))) AG)))))))))))
abbrev L5:Stmt:=BR (BG 28) 2
theorem RD:FnScope ["self","old","new","record","cell","more"] ["self","old","new"] (AK L5):=.go
theorem zay(T:Txt K mg a)(F:Fun K "link" "Store.link" L5 f fd)(W3:AX P w K mg base (a "Store") 7 "ask_for_new_name" ["self","new","given"] (IU K a))(GD:AX P w K mg base (a "Store") 7 "record_of" ["self","name"] (EK K a))(WX:C6 P w K mg base (6) "free_name" ["layout","hold"] (IS K a))(OT:AX P w K mg base (a "Store") 6 "recount" ["self","record","more","needs"] (G8 K a))(W5:AX P w K mg base (a "Store") 5 "fill_cell" ["self","cell","name","record","need"] (IV K a)) :
  FP P w K mg base 8 f fd ["self","old","new"] (IZ K a) :=
 F.okF (VR K a) RD Tc Tb λ_ _ _ _ _ E hr hx=>(AO (DC (AY (AB 0) T.BT W3 hr.m hx.passes (AD (AB 2) (AD (B6 (AD (AB 1) (AD (AB 2) AG))) AG))))
   (AO (BD 3 RD.nd (AY (AB 0) T.BT GD hr.m hx.passes (AD (AB 1) AG)))
   (AO (BD 4 RD.nd (C7 WX hr.m hx.passes rfl (AD (A4 (AB 0) rfl) (AD (A4 (AB 0) rfl) AG))))
   (AO (BD 5 RD.nd (AY (AB 0) T.BT OT hr.m hx.passes (AD (AB 3) (AD AN (AD (B6 AG) AG)))))
   (AQ (A3 (B6 (AD (AB 5) (AD (AY (AB 0) T.BT W5 hr.m hx.passes (AD (AB 4) (AD (AB 2) (AD (AB 3) (AD (AB 5) AG))))) AG)))))))))
abbrev L6:Stmt:=BR (BG 28) 3
theorem WT:FnScope ["self","name","record","gone"] ["self","name"] (AK L6):=.go
theorem zaz(T:Txt K mg a)(F:Fun K "cut" "Store.cut" L6 f fd)(GD:AX P w K mg base (a "Store") 7 "record_of" ["self","name"] (EK K a))(W4:AX P w K mg base (a "Store") 7 "empty_cell" ["self","name","needs"] (IX K a))(E8:AX P w K mg base (a "Store") 5 "standing" ["self","record"] (D3 K a))(OT:AX P w K mg base (a "Store") 6 "recount" ["self","record","more","needs"] (G8 K a))(zbw:AX P w K mg base (a "Store") 6 "drop_record" ["self","record","gone"] (NZ K a)) :
  FP P w K mg base 8 f fd ["self","name"] (N1 K a) :=
 F.okF (VS K a) WT Th Tg λ_ _ _ _ _ E hr hx=>(AO (BD 2 WT.nd (AY (AB 0) T.BT GD hr.m hx.passes (AD (AB 1) AG)))
   (AO (BD 3 WT.nd (AY (AB 0) T.BT W4 hr.m hx.passes (AD (AB 1) (AD (B6 AG) AG))))
   (AO (BQ (CB qP (BJ BK (AY (AB 0) T.BT E8 hr.m hx.passes (AD (AB 2) AG)) AN (λ_ _=>rfl)) AN (CF _)) (AQ (A3 (B6 (AD (AB 3) (AD (AY (AB 0) T.BT OT hr.m hx.passes (AD (AB 2) (AD (XJ XN AN) (AD (B6 (AD (AB 3) AG)) AG)))) AG))))) B1)
   (AQ (A3 (AU BZ (B6 (AD (AB 3) AG)) (AY (AB 0) T.BT zbw hr.m hx.passes (AD (AB 2) (AD (AB 3) AG)))))))))
abbrev L7:Stmt:=BR (BG 28) 4
theorem OM:FnScope ["self","name","text","record","piece","mark","filled"] ["self","name","text"] (AK L7):=.go
theorem za0(T:Txt K mg a)(F:Fun K "put" "Store.put" L7 f fd)(GD:AX P w K mg base (a "Store") 7 "record_of" ["self","name"] (EK K a))(zbe:C6 P w K mg base (2) "is_piece" ["thing"] (NW K a))(zbb:C6 P w K mg base (6) "free_piece" ["layout","hold"] (NS K a))(DX:AX P w K mg base (a "Hold") 4 "change" ["self","place","value","needs"] (C8 K a))(JY:AX P w K mg base (a "Layout") 2 "piece_mark" ["self","k"] (FM K a))(W0:AX P w K mg base (a "Layout") 2 "piece_at" ["self","k"] (HR K a))(W7:AX P w K mg base (a "Store") 6 "regroup" ["self","record","pieces","needs"] (IW K a))(E8:AX P w K mg base (a "Store") 5 "standing" ["self","record"] (D3 K a)) :
  FP P w K mg base 8 f fd ["self","name","text"] (N2 K a) :=
 F.okF (VT K a) OM Tk Tj λ_ _ _ _ _ E hr hx=>(AO (BD 3 OM.nd (AY (AB 0) T.BT GD hr.m hx.passes (AD (AB 1) AG)))
   (AO (BQ (FR (MN (C7 zbe hr.m hx.passes rfl (AD (AB 2) AG)) (λ_=>rfl))) (AQ (G0 hx T.lQ rfl T.W9 (AD BX AG))) B1)
   (AO (BD 4 OM.nd (C7 zbb hr.m hx.passes rfl (AD (A4 (AB 0) rfl) (AD (A4 (AB 0) rfl) AG))))
   (AO (BD 5 OM.nd (AY (A4 (AB 0) rfl) T.DI DX hr.m hx.passes (AD (AY (A4 (AB 0) rfl) T.B8 JY hr.m hx.passes (AD (AB 4) AG)) (AD AN (AD (B6 AG) AG)))))
   (AO (BD 6 OM.nd (AY (A4 (AB 0) rfl) T.DI DX hr.m hx.passes (AD (AY (A4 (AB 0) rfl) T.B8 W0 hr.m hx.passes (AD (AB 4) AG)) (AD (AB 2) (AD (B6 (AD (AB 5) AG)) AG)))))
   (AQ (A3 (B6 (AD (AB 5) (AD (AB 6) (AD (AY (AB 0) T.BT W7 hr.m hx.passes (AD (AB 3) (AD (AU BZ (BJ BK (AY (AB 0) T.BT E8 hr.m hx.passes (AD (AB 3) AG)) AN (λ_ _=>rfl)) (EW (AD (AB 4) AG))) (AD (B6 (AD (AB 6) AG)) AG)))) AG)))))))))))
abbrev L8:Stmt:=BR (BG 28) 5
theorem RE:FnScope ["self","name","at","record","pieces","without"] ["self","name","at"] (AK L8):=.go
theorem za1(T:Txt K mg a)(F:Fun K "take" "Store.take" L8 f fd)(GD:AX P w K mg base (a "Store") 7 "record_of" ["self","name"] (EK K a))(E8:AX P w K mg base (a "Store") 5 "standing" ["self","record"] (D3 K a))(W7:AX P w K mg base (a "Store") 6 "regroup" ["self","record","pieces","needs"] (IW K a))(DX:AX P w K mg base (a "Hold") 4 "change" ["self","place","value","needs"] (C8 K a))(JY:AX P w K mg base (a "Layout") 2 "piece_mark" ["self","k"] (FM K a)) :
  FP P w K mg base 8 f fd ["self","name","at"] (N4 K a) :=
 F.okF (VU K a) RE Ty Tv λ_ _ _ _ _ E hr hx=>(AO (BD 3 RE.nd (AY (AB 0) T.BT GD hr.m hx.passes (AD (AB 1) AG)))
   (AO (BD 4 RE.nd (BJ BK (AY (AB 0) T.BT E8 hr.m hx.passes (AD (AB 3) AG)) AN (λ_ _=>rfl)))
   (AO (BQ (FR (J6 ER GI AN (AB 2) (C0 E3 rfl T.EN (by rfl) (AD (AB 4) AG)))) (AQ (G0 hx T.lQ rfl T.W9 (AD BX AG))) B1)
   (AO (BD 5 RE.nd (AY (AB 0) T.BT W7 hr.m hx.passes (AD (AB 3) (AD (AU BZ (MS M8 (AB 4) MQ (MR (AB 2))) (MS M8 (AB 4) (MR (AU BZ (AB 2) AN)) MQ)) (AD (B6 AG) AG)))))
   (AQ (A3 (B6 (AD (AB 5) (AD (AY (A4 (AB 0) rfl) T.DI DX hr.m hx.passes (AD (AY (A4 (AB 0) rfl) T.B8 JY hr.m hx.passes (AD (BJ BK (AB 4) (AB 2) (λ_ _=>rfl)) AG)) (AD AN (AD (B6 (AD (AB 5) AG)) AG)))) AG)))))))))
abbrev JU:Stmt:=BR (BG 28) 8
theorem lG:FnScope ["self","name","pieces"] ["self","name"] (AK JU):=.go
theorem za2(T:Txt K mg a)(F:Fun K "texts" "Store.texts" JU f fd)(E8:AX P w K mg base (a "Store") 5 "standing" ["self","record"] (D3 K a))(GD:AX P w K mg base (a "Store") 7 "record_of" ["self","name"] (EK K a))(JV:AX P w K mg base (a "Hold") 4 "in_hand" ["self","place"] (F4 K a))(W0:AX P w K mg base (a "Layout") 2 "piece_at" ["self","k"] (HR K a)) :
  FP P w K mg base 8 f fd ["self","name"] (N3 K a) :=
 F.okF (VV K a) lG Tm Tl λ_ _ _ _ _ E hr hx=>(AO (BD 2 lG.nd (BJ BK (AY (AB 0) T.BT E8 hr.m hx.passes (AD (AY (AB 0) T.BT GD hr.m hx.passes (AD (AB 1) AG)) AG)) AN (λ_ _=>rfl)))
   (AQ (A3 (FW (tn:=["piece"]) (cn:=["self"]) (cap:=[0]) (EA (outer:=AK JU) (N:=["self","name","pieces"]) rfl rfl (by decide +kernel)) rfl (G1 (AB 2)) (λ_ _ _ _ _ _=>(DY (i:=0) (show(["piece","self"]:List Str).Nodup from by decide +kernel) rfl (Or.inl rfl))) (λ_ _ _ _ _ _=>EO) (λ_ _ _ _ _ _=>(AY (A4 (AB 1) rfl) T.DI JV hr.m GG (AD (AY (A4 (AB 1) rfl) T.B8 W0 hr.m GG (AD (AB 0) AG)) AG)))))))
abbrev L9:Stmt:=BR (BG 28) 6
theorem RF:FnScope ["self","old","new","linked","record","gone"] ["self","old","new"] (AK L9):=.go
theorem za3(T:Txt K mg a)(F:Fun K "move" "Store.move" L9 f fd)(W6:AX P w K mg base (a "Store") 8 "link" ["self","old","new"] (IZ K a))(GD:AX P w K mg base (a "Store") 7 "record_of" ["self","name"] (EK K a))(W4:AX P w K mg base (a "Store") 7 "empty_cell" ["self","name","needs"] (IX K a))(OT:AX P w K mg base (a "Store") 6 "recount" ["self","record","more","needs"] (G8 K a)) :
  FP P w K mg base 9 f fd ["self","old","new"] (N5 K a) :=
 F.okF (VW K a) RF Tz Tx λ_ _ _ _ _ E hr hx=>(AO (BD 3 RF.nd (AY (AB 0) T.BT W6 hr.m hx.passes (AD (AB 1) (AD (AB 2) AG))))
   (AO (BD 4 RF.nd (AY (AB 0) T.BT GD hr.m hx.passes (AD (AB 1) AG)))
   (AO (BD 5 RF.nd (AY (AB 0) T.BT W4 hr.m hx.passes (AD (AB 1) (AD (B6 (AD (BJ BK (AB 3) AN (λ_ _=>rfl)) AG)) AG))))
   (AQ (A3 (AU BZ (AB 3) (B6 (AD (AB 5) (AD (AY (AB 0) T.BT OT hr.m hx.passes (AD (AB 4) (AD (XJ XN AN) (AD (B6 (AD (AB 5) AG)) AG)))) AG)))))))))
abbrev MA:Stmt:=BG 39
theorem RG:FnScope ["store","name","found"] ["store","name"] (AK MA):=.go
theorem za4(T:Txt K mg a)(F:Fun K "_law_text_of" "_law_text_of" MA f fd)(zb2:AX P w K mg base (a "Store") 8 "texts" ["self","name"] (N3 K a)) :
  FP P w K mg base 9 f fd ["store","name"] (N9 K a) :=
 F.okF (VX K a) RG Vb Uz λ_ _ _ _ _ E hr hx=>(AO (BD 2 RG.nd DS)
   (AO (Y1 rfl rfl rfl rfl (λE1 _ _ hx1=>(AQ (BD 2 RG.nd (AY (AB 0) T.BT zb2 hr.m hx1.passes (AD (AB 1) AG))))) (M7 (M6 rfl T.RK) (λ_=>(AQ (BD 2 RG.nd DS))) Y0))
   (AQ (A3 (AB 2)))))
abbrev MB:Stmt:=BG 38
theorem MC:FnScope ["store","kind","one","other","cell","refused"] ["store","kind","one","other","cell"] (AK MB):=.go
theorem za5(T:Txt K mg a)(F:Fun K "_law_done" "_law_done" MB f fd)(zbx:AX P w K mg base (a "Store") 8 "make" ["self","name"] (N0 K a))(W6:AX P w K mg base (a "Store") 8 "link" ["self","old","new"] (IZ K a))(zbv:AX P w K mg base (a "Store") 8 "cut" ["self","name"] (N1 K a))(zb0:AX P w K mg base (a "Store") 8 "put" ["self","name","text"] (N2 K a))(WY:C6 P w K mg base (1) "_law_text" ["cell"] (JA K a))(zb1:AX P w K mg base (a "Store") 8 "take" ["self","name","at"] (N4 K a))(RH:C6 P w K mg base (1) "_law_at" ["cell"] (HV K a))(zby:AX P w K mg base (a "Store") 9 "move" ["self","old","new"] (N5 K a)) :
  FP P w K mg base 10 f fd ["store","kind","one","other","cell"] (N8 K a) :=
 F.okF (V2 K a) MC Vd Vc λ_ _ _ _ _ E hr hx=>(AO (BD 5 MC.nd BX)
   (AO (Y1 rfl rfl rfl rfl (λE1 _ _ hx1=>(AQ (BQ (CB GI (AB 1) AN (CF _)) (AQ (DC (AY (AB 0) T.BT zbx hr.m hx1.passes (AD (AB 2) AG)))) (AQ (BQ (CB (EZ hr.units) (AB 1) AN (CF _)) (AQ (DC (AY (AB 0) T.BT W6 hr.m hx1.passes (AD (AB 2) (AD (AB 3) AG))))) (AQ (BQ (CB (EZ hr.units) (AB 1) AN (CF _)) (AQ (DC (AY (AB 0) T.BT zbv hr.m hx1.passes (AD (AB 2) AG)))) (AQ (BQ (CB GI (AB 1) AN (CF _)) (AQ (DC (AY (AB 0) T.BT zb0 hr.m hx1.passes (AD (AB 2) (AD (C7 WY hr.m hx1.passes rfl (AD (AB 4) AG)) AG))))) (AQ (BQ (CB (EZ hr.units) (AB 1) AN (CF _)) (AQ (DC (AY (AB 0) T.BT zb1 hr.m hx1.passes (AD (AB 2) (AD (C7 RH hr.m hx1.passes rfl (AD (AB 4) AG)) AG))))) (AQ (DC (AY (AB 0) T.BT zby hr.m hx1.passes (AD (AB 2) (AD (AB 3) AG)))))))))))))))) (M7 (M6 rfl T.RK) (λ_=>(AQ (BD 5 MC.nd BX))) (M7 (M6 rfl T.lN) (λ_=>(AQ (BD 5 MC.nd BX))) (M7 (M6 rfl T.W9) (λ_=>(AQ (BD 5 MC.nd BX))) (M7 (M6 rfl T.lM) (λ_=>(AQ (BD 5 MC.nd BX))) Y0)))))
   (AQ (A3 (AB 5)))))
abbrev MD:Stmt:=BG 42
theorem WU:FnScope ["store","led","records","name","told","texts"] ["store","led","records","name"] (AK MD):=.go
theorem za6(T:Txt K mg a)(F:Fun K "_law_looks" "_law_looks" MD f fd)(zbz:AX P w K mg base (a "Store") 6 "names" ["self"] (NY K a))(zbl:C6 P w K mg base (9) "_law_text_of" ["store","name"] (N9 K a)) :
  FP P w K mg base 10 f fd ["store","led","records","name"] (OD K a) :=
 F.okF (V3 K a) WU Wc Wb λ_ _ _ _ _ E hr hx=>(AO (BD 4 WU.nd (D7 (AB 0) T.BT zbz hr.m hx.passes))
   (AO (BQ (PW.pt (OW (FR (MN (C0 Y8 rfl T.lI (by rfl) (AD (AB 4) (AD (XD rfl T.RI (by rfl) rfl) AG))) (λ_=>rfl))) (OV (CB (P0 hr.units) (AB 4) (C0 (v8 rfl) rfl T.RJ (by rfl) (AD (pE PySem.F.plainAttrs_dict PySem.F.slot_dict_keys PySem.F.type_dict_keys v7 (AB 1)) AG)) (CF _))))) (AQ (A3 J0)) B1)
   (AO (DC (FV PySem.F.plainAttrs_list PySem.F.slot_list_append PySem.F.type_list_append HJ (AB 4) (AD BX AG)))
   (AO (BD 5 WU.nd (C7 zbl hr.m hx.passes rfl (AD (AB 0) (AD (AB 3) AG))))
   (AO (BQ (HZ (PN (D0 hr) (AB 3) (AB 1)) (by with_unfolding_all rfl)) (AQ (A3 (XT O6 (AB 5) DS (CF _)))) B1)
   (AO (BQ (PW.pt (OW (FR (MN (C0 Y8 rfl T.lI (by rfl) (AD (AB 5) (AD (XD rfl T.RI (by rfl) rfl) AG))) (λ_=>rfl))) (OV (CB (P0 hr.units) (AB 5) (BJ BK (AB 2) (MZ (D0 hr) (AB 1) (AB 3) (λ_ _=>rfl)) (λ_ _=>rfl)) (CF _))))) (AQ (A3 J0)) B1)
   (AO (DC (FV PySem.F.plainAttrs_list PySem.F.slot_list_append PySem.F.type_list_append HJ (AB 5) (AD BX AG)))
   (AQ (A3 J0)))))))))
abbrev HB:Stmt:=BG 43
theorem E7:FnScope ["script","cell","sizes","layout","rooms","store","names","led","records","one","other","found"] ["script"] (AK HB):=.go
theorem za7(T:Txt K mg a)(F:Fun K "law" "law" HB f fd)(zbg:C6 P w K mg base (1) "_law_cell_at" ["script","k"] (IQ K a))(zb5:KE P w K mg base (a "Layout") 1 "Layout" ["self","names","records","pieces","cells"] (NK K a))(zbr:AX P w K mg base (a "Layout") 3 "plank" ["self"] (NM K a))(zb7:KE P w K mg base (a "Store") 4 "Store" ["self","layout","plank"] (NX K a))(zbk:C6 P w K mg base (1) "_law_names" ["cell"] (N7 K a))(zbh:C6 P w K mg base (10) "_law_done" ["store","kind","one","other","cell"] (N8 K a))(zbi:C6 P w K mg base (2) "_law_due" ["rooms","led","records","kind","one","other","cell"] (OC K a))(zbj:C6 P w K mg base (10) "_law_looks" ["store","led","records","name"] (OD K a)) :
  FP P w K mg base 11 f fd ["script"] (TR K a) :=
 F.okF (V4 K a) E7 Wj Wh λ_ _ _ _ _ E hr hx=>(AO (BD 1 E7.nd (C7 zbg hr.m hx.passes rfl (AD (AB 0) (AD AN AG))))
   (AO (BD 2 E7.nd (B6 (AD (AU BZ AN (AU CL (AB 1) AN)) (AD (AU BZ AN (AU CL (AU CZ (AB 1) AN) AN)) (AD (AU BZ AN (AU CL (AU CZ (AB 1) AN) AN)) (AD (AU BZ AN (AU CL (AU CZ (AB 1) AN) AN)) AG))))))
   (AO (BD 3 E7.nd (M4 zb5 hr.m hx.passes rfl (AD (BJ BK (AB 2) AN (λ_ _=>rfl)) (AD (BJ BK (AB 2) AN (λ_ _=>rfl)) (AD (BJ BK (AB 2) AN (λ_ _=>rfl)) (AD (BJ BK (AB 2) AN (λ_ _=>rfl)) AG))))))
   (AO (BD 4 E7.nd (B6 (AD (AU FY (BJ BK (AB 2) AN (λ_ _=>rfl)) (BJ BK (AB 2) AN (λ_ _=>rfl))) (AD (AU FY (BJ BK (AB 2) AN (λ_ _=>rfl)) (BJ BK (AB 2) AN (λ_ _=>rfl))) (AD (AU FY (BJ BK (AB 2) AN (λ_ _=>rfl)) (BJ BK (AB 2) AN (λ_ _=>rfl))) AG)))))
   (AO (BD 5 E7.nd (M4 zb7 hr.m hx.passes rfl (AD (AB 3) (AD (D7 (AB 3) T.B8 zbr hr.m hx.passes) AG))))
   (AO (BD 6 E7.nd (C7 zbk hr.m hx.passes rfl (AD (AU CZ (AB 1) AN) AG)))
   (AO (BD 7 E7.nd SB)
   (AO (BD 8 E7.nd (B6 AG))
   (AO (J5 hx.po rfl (G1 (MS M8 (AB 0) (MR AN) MQ)) (HP 1 E7.nd) (AO (BD 9 E7.nd (BJ BK (AB 6) (AU CL (AU CZ (AB 1) AN) AN) (λ_ _=>rfl)))
   (AO (BD 10 E7.nd (BJ BK (AB 6) (AU CL (AU CZ (AB 1) AN) AN) (λ_ _=>rfl)))
   (AO (BD 11 E7.nd (C7 zbh hr.m hx.passes rfl (AD (AB 5) (AD (AU CL (AB 1) AN) (AD (AB 9) (AD (AB 10) (AD (AU CZ (AB 1) AN) AG)))))))
   (AO (BQ (CB (P0 hr.units) (AB 11) (C7 zbi hr.m hx.passes rfl (AD (AB 4) (AD (AB 7) (AD (AB 8) (AD (AU CL (AB 1) AN) (AD (AB 9) (AD (AB 10) (AD (AU CZ (AB 1) AN) AG)))))))) (CF _)) (AQ (A3 J0)) B1)
   (AQ (BQ (FR (MN (C7 zbj hr.m hx.passes rfl (AD (AB 5) (AD (AB 7) (AD (AB 8) (AD (BJ BK (AB 6) (AU CL (AU CZ (AB 1) AN) AN) (λ_ _=>rfl)) AG))))) (λ_=>rfl))) (AQ (A3 J0)) B1)))))))
   (AQ (A3 J0)))))))))))
end
end L2
namespace L2
theorem za8(qah qai qaj qak qal qam qan qao qap qaq qar:Addr):∃ a:Ad,a "NoBlock"=qah/\a "NoChange"=qai/\a "NoRoom"=qaj/\a "NoName"=qak/\a "Twice"=qal/\a "NoPiece"=qam/\a "Change"=qan/\a "Hold"=qao/\a "Store"=qap/\a "Plank"=qaq/\a "Layout"=qar :=
 ⟨λs=>if s="NoBlock" then qah else if s="NoChange" then qai else if s="NoRoom" then qaj else if s="NoName" then qak else if s="Twice" then qal else if s="NoPiece" then qam else if s="Change" then qan else if s="Hold" then qao else if s="Store" then qap else if s="Plank" then qaq else if s="Layout" then qar else 0,by simp,by simp,by simp,by simp,by simp,by simp,by simp,by simp,by simp,by simp,by simp⟩
theorem EM{α :Type}{P:List α ->Prop}(h:∀ x0,P [x0]):∀ us:List α,us.length=1->P us
 | [],e=>by simp at e
 | [x0],_=>h x0
 | _::_::_,e=>by simp at e
theorem C4{α :Type}{P:List α ->Prop}(h:∀ x0 x1,P [x0,x1]):∀ us:List α,us.length=2->P us
 | [],e=>by simp at e
 | [_],e=>by simp at e
 | [x0,x1],_=>h x0 x1
 | _::_::_::_,e=>by simp at e
theorem GC{α :Type}{P:List α ->Prop}(h:∀ x0 x1 x2,P [x0,x1,x2]):∀ us:List α,us.length=3->P us
 | [],e=>by simp at e
 | [_],e=>by simp at e
 | [_,_],e=>by simp at e
 | [x0,x1,x2],_=>h x0 x1 x2
 | _::_::_::_::_,e=>by simp at e
theorem ON{α :Type}{P:List α ->Prop}(h:∀ x0 x1 x2 x3,P [x0,x1,x2,x3]):∀ us:List α,us.length=4->P us
 | [],e=>by simp at e
 | [_],e=>by simp at e
 | [_,_],e=>by simp at e
 | [_,_,_],e=>by simp at e
 | [x0,x1,x2,x3],_=>h x0 x1 x2 x3
 | _::_::_::_::_::_,e=>by simp at e
theorem WV{α :Type}{P:List α ->Prop}(h:∀ x0 x1 x2 x3 x4,P [x0,x1,x2,x3,x4]):∀ us:List α,us.length=5->P us
 | [],e=>by simp at e
 | [_],e=>by simp at e
 | [_,_],e=>by simp at e
 | [_,_,_],e=>by simp at e
 | [_,_,_,_],e=>by simp at e
 | [x0,x1,x2,x3,x4],_=>h x0 x1 x2 x3 x4
 | _::_::_::_::_::_::_,e=>by simp at e
theorem us6{α :Type}{P:List α ->Prop}(h:∀ x0 x1 x2 x3 x4 x5,P [x0,x1,x2,x3,x4,x5]):∀ us:List α,us.length=6->P us
 | [],e=>by simp at e
 | [_],e=>by simp at e
 | [_,_],e=>by simp at e
 | [_,_,_],e=>by simp at e
 | [_,_,_,_],e=>by simp at e
 | [_,_,_,_,_],e=>by simp at e
 | [x0,x1,x2,x3,x4,x5],_=>h x0 x1 x2 x3 x4 x5
 | _::_::_::_::_::_::_::_,e=>by simp at e
theorem us7{α :Type}{P:List α ->Prop}(h:∀ x0 x1 x2 x3 x4 x5 x6,P [x0,x1,x2,x3,x4,x5,x6]):∀ us:List α,us.length=7->P us
 | [],e=>by simp at e
 | [_],e=>by simp at e
 | [_,_],e=>by simp at e
 | [_,_,_],e=>by simp at e
 | [_,_,_,_],e=>by simp at e
 | [_,_,_,_,_],e=>by simp at e
 | [_,_,_,_,_,_],e=>by simp at e
 | [x0,x1,x2,x3,x4,x5,x6],_=>h x0 x1 x2 x3 x4 x5 x6
 | _::_::_::_::_::_::_::_::_,e=>by simp at e
def WW(K:W.Frag):Sp:=λvs H Q _=>∃ (s:Addr) (ns:List Int),vs=[.ref s]/\SqL K H s (ns.map V.int)/\ns.length<=63/\∀ H',Q (.bl true) H'
theorem all_mk{l:W.OpenLaw}{w:World}{K:W.Frag}{h:Heap}{mg:Str->Option Value}{fa:Addr}{qah qai qaj qak qal qam qan qao qap qaq qar:Addr}{qas qat qau qav qaw qax qay qaz qb0 qb1 qb2 qb3 qb4 qb5 qb6 qb7 qb8 qb9 qba qbb qbc qbd qbe qbf qbg qbh qbi qbj qbk qbl qbm qbn qbo qbp qbq qbr qbs qbt qbu qbv qbw qbx qby qbz qc0 qc1 qc2 qc3 qc4 qc5 qc6 qc7 qc8 qc9 qca qcb qcc qcd qce qcf:Addr}{qcg qe4 qfs qhg qj4 qks qch qe5 qft qhh qj5 qkt qci qe6 qfu qhi qj6 qku qcj qe7 qfv qhj qj7 qkv qck qe8 qfw qhk qj8 qkw qcl qe9 qfx qhl qj9 qkx qcm qea qfy qhm qja qky qcn qeb qfz qhn qjb qkz qco qec qg0 qho qjc ql0 qcp qed qg1 qhp qjd ql1 qcq qee qg2 qhq qje ql2 qcr qef qg3 qhr qjf ql3 qcs qeg qg4 qhs qjg ql4 qct qeh qg5 qht qjh ql5 qcu qei qg6 qhu qji ql6 qcv qej qg7 qhv qjj ql7 qcw qek qg8 qhw qjk ql8 qcx qel qg9 qhx qjl ql9 qcy qem qga qhy qjm qla qcz qen qgb qhz qjn qlb qd0 qeo qgc qi0 qjo qlc qd1 qep qgd qi1 qjp qld qd2 qeq qge qi2 qjq qle qd3 qer qgf qi3 qjr qlf qd4 qes qgg qi4 qjs qlg qd5 qet qgh qi5 qjt qlh qd6 qeu qgi qi6 qju qli qd7 qev qgj qi7 qjv qlj qd8 qew qgk qi8 qjw qlk qd9 qex qgl qi9 qjx qll qda qey qgm qia qjy qlm qdb qez qgn qib qjz qln qdc qf0 qgo qic qk0 qlo qdd qf1 qgp qid qk1 qlp qde qf2 qgq qie qk2 qlq qdf qf3 qgr qif qk3 qlr qdg qf4 qgs qig qk4 qls qdh qf5 qgt qih qk5 qlt qdi qf6 qgu qii qk6 qlu qdj qf7 qgv qij qk7 qlv qdk qf8 qgw qik qk8 qlw qdl qf9 qgx qil qk9 qlx qdm qfa qgy qim qka qly qdn qfb qgz qin qkb qlz qdo qfc qh0 qio qkc qm0 qdp qfd qh1 qip qkd qm1 qdq qfe qh2 qiq qke qm2 qdr qff qh3 qir qkf qm3 qds qfg qh4 qis qkg qm4 qdt qfh qh5 qit qkh qm5 qdu qfi qh6 qiu qki qm6 qdv qfj qh7 qiv qkj qm7 qdw qfk qh8 qiw qkk qm8 qdx qfl qh9 qix qkl qm9 qdy qfm qha qiy qkm qma qdz qfn qhb qiz qkn qmb qe0 qfo qhc qj0 qko qmc qe1 qfp qhd qj1 qkp qmd qe2 qfq qhe qj2 qkq qme qe3 qfr qhf qj3 qkr qmf:Value}{qmg qo4 qmh qo5 qmi qo6 qmj qo7 qmk qo8 qml qo9 qmm qoa qmn qob qmo qoc qmp qod qmq qoe qmr qof qms qog qmt qoh qmu qoi qmv qoj qmw qok qmx qol qmy qom qmz qon qn0 qoo qn1 qop qn2 qoq qn3 qor qn4 qos qn5 qot qn6 qou qn7 qov qn8 qow qn9 qox qna qoy qnb qoz qnc qp0 qnd qp1 qne qp2 qnf qp3 qng qp4 qnh qp5 qni qp6 qnj qp7 qnk qp8 qnl qp9 qnm qpa qnn qpb qno qpc qnp qpd qnq qpe qnr qpf qns qpg qnt qph qnu qpi qnv qpj qnw qpk qnx qpl qny qpm qnz qpn qo0 qpo qo1 qpp qo2 qpq qo3 qpr:Option Addr}{qps qpt qpu qpv qpw qpx qpy qpz qq0 qq1 qq2 qq3 qq4 qq5 qq6 qq7 qq8 qq9 qqa qqb qqc qqd qqe qqf qqg qqh qqi qqj qqk qql qqm qqn qqo qqp qqq qqr qqs qqt qqu qqv qqw qqx qqy qqz qr0 qr1 qr2 qr3 qr4 qr5 qr6 qr7 qr8 qr9 qra qrb qrc qrd qre qrf:Array (Option Value)}{tk_MOST_LETTERS:Tok}{tk_MOST_PIECE_SIGNS:Tok}{tk_PERCENT:Tok}(X:K.In h)(G:h.Ns mainGlobals mg)(hfa:mg "law"=some (.ref fa))
  (q0:W.nsIn K mainGlobals "NoBlock"=some (some (.ref qah)))
  (q1:W.nsIn K mainGlobals "NoChange"=some (some (.ref qai)))
  (q2:W.nsIn K mainGlobals "NoRoom"=some (some (.ref qaj)))
  (q3:W.nsIn K mainGlobals "NoName"=some (some (.ref qak)))
  (q4:W.nsIn K mainGlobals "Twice"=some (some (.ref qal)))
  (q5:W.nsIn K mainGlobals "NoPiece"=some (some (.ref qam)))
  (q6:W.nsIn K mainGlobals "Change"=some (some (.ref qan)))
  (q7:W.nsIn K mainGlobals "Hold"=some (some (.ref qao)))
  (q8:W.nsIn K mainGlobals "Store"=some (some (.ref qap)))
  (q9:W.nsIn K mainGlobals "Plank"=some (some (.ref qaq)))
  (qa:W.nsIn K mainGlobals "Layout"=some (some (.ref qar)))
  (qb:W.plainGet K qan Str.empty=true)
  (qc:W.hasDictIn K qan=true)
  (qd:W.plainOver K qan=true)
  (qe:W.findIn K (.ref qan) "__setattr__"=some (some (.builtin "object.__setattr__")))
  (qf:W.plainGet K qao Str.empty=true)
  (qg:W.hasDictIn K qao=true)
  (qh:W.plainOver K qao=true)
  (qi:W.findIn K (.ref qao) "__setattr__"=some (some (.builtin "object.__setattr__")))
  (qj:W.plainGet K qar Str.empty=true)
  (qk:W.hasDictIn K qar=true)
  (ql:W.plainOver K qar=true)
  (qm:W.findIn K (.ref qar) "__setattr__"=some (some (.builtin "object.__setattr__")))
  (qn:W.plainGet K qaq Str.empty=true)
  (qo:W.hasDictIn K qaq=true)
  (qp:W.plainOver K qaq=true)
  (qq:W.findIn K (.ref qaq) "__setattr__"=some (some (.builtin "object.__setattr__")))
  (qr:W.plainGet K qap Str.empty=true)
  (qs:W.hasDictIn K qap=true)
  (qt:W.plainOver K qap=true)
  (qu:W.findIn K (.ref qap) "__setattr__"=some (some (.builtin "object.__setattr__")))
  (qv:W.makesIn K qan=true)
  (qw:W.keepIn K (.ref qan)=true)
  (qx:W.makesIn K qao=true)
  (qy:W.keepIn K (.ref qao)=true)
  (qz:W.makesIn K qar=true)
  (q10:W.keepIn K (.ref qar)=true)
  (q11:W.makesIn K qaq=true)
  (q12:W.keepIn K (.ref qaq)=true)
  (q13:W.makesIn K qap=true)
  (q14:W.keepIn K (.ref qap)=true)
  (q15:W.nsIn K mainGlobals "MOST_LETTERS"=some (some (.int 8 tk_MOST_LETTERS)))
  (q16:W.nsIn K mainGlobals "MOST_PIECE_SIGNS"=some (some (.int 40 tk_MOST_PIECE_SIGNS)))
  (q17:W.excIn K qah [.type "ValueError",.type "Exception",.type "BaseException",.type "object"] "ValueError.__new__"=true)
  (q18:W.excIn K qai [.type "ValueError",.type "Exception",.type "BaseException",.type "object"] "ValueError.__new__"=true)
  (q19:W.excIn K qak [.type "ValueError",.type "Exception",.type "BaseException",.type "object"] "ValueError.__new__"=true)
  (q1a:W.excIn K qam [.type "ValueError",.type "Exception",.type "BaseException",.type "object"] "ValueError.__new__"=true)
  (q1b:W.excIn K qaj [.type "ValueError",.type "Exception",.type "BaseException",.type "object"] "ValueError.__new__"=true)
  (q1c:W.nsIn K mainGlobals "PERCENT"=some (some (.int 37 tk_PERCENT)))
  (q1d:W.excIn K qal [.type "ValueError",.type "Exception",.type "BaseException",.type "object"] "ValueError.__new__"=true)
  (q1e:W.nsIn K mainGlobals "all"=some none)
  (q1f:W.nsIn K mainGlobals "enumerate"=some none)
  (q1g:W.nsIn K mainGlobals "isinstance"=some none)
  (q1h:W.nsIn K mainGlobals "len"=some none)
  (q1i:W.nsIn K mainGlobals "list"=some none)
  (q1j:W.nsIn K mainGlobals "ord"=some none)
  (q1k:W.nsIn K mainGlobals "range"=some none)
  (q1l:W.nsIn K mainGlobals "set"=some none)
  (q1m:W.nsIn K mainGlobals "sorted"=some none)
  (q1n:W.nsIn K mainGlobals "sum"=some none)
  (q1o:W.nsIn K mainGlobals "tuple"=some none)
  (q1p:W.findIn K (.ref qan) "__init__"=some (some (.ref qas)))
  (q1q:W.isFn K (.ref qas)=true)
  (q1r:K.lookup qas=some ⟨qcg,qmg,.func (W.fnOf "__init__" "Change.__init__" (BB KY) (A8 KY) (AK KY) .none qe4 qfs qhg qo4 qj4 qks),qps⟩)
  (q1s:W.codeIn K qj4 "Change.__init__"=true)
  (q1t:W.keepIn K (.ref qas)=true)
  (q1u:W.findIn K (.ref qao) "ask_for_changes"=some (some (.ref qat)))
  (q1v:W.isFn K (.ref qat)=true)
  (q1w:K.lookup qat=some ⟨qch,qmh,.func (W.fnOf "ask_for_changes" "Book.ask_for_changes" (BB KZ) (A8 KZ) (AK KZ) .none qe5 qft qhh qo5 qj5 qkt),qpt⟩)
  (q1x:W.codeIn K qj5 "Book.ask_for_changes"=true)
  (q1y:W.keepIn K (.ref qat)=true)
  (q1z:W.nsIn K mainGlobals "needs_with"=some (some (.ref qau)))
  (q20:K.lookup qau=some ⟨qci,qmi,.func (W.fnOf "needs_with" "needs_with" (BB K0) (A8 K0) (AK K0) .none qe6 qfu qhi qo6 qj6 qku),qpu⟩)
  (q21:W.codeIn K qj6 "needs_with"=true)
  (q22:W.keepIn K (.ref qau)=true)
  (q23:W.nsIn K mainGlobals "is_sign"=some (some (.ref qav)))
  (q24:K.lookup qav=some ⟨qcj,qmj,.func (W.fnOf "is_sign" "is_sign" (BB K1) (A8 K1) (AK K1) .none qe7 qfv qhj qo7 qj7 qkv),qpv⟩)
  (q25:W.codeIn K qj7 "is_sign"=true)
  (q26:W.keepIn K (.ref qav)=true)
  (q27:W.nsIn K mainGlobals "is_name"=some (some (.ref qaw)))
  (q28:K.lookup qaw=some ⟨qck,qmk,.func (W.fnOf "is_name" "is_name" (BB JG) (A8 JG) (AK JG) .none qe8 qfw qhk qo8 qj8 qkw),qpw⟩)
  (q29:W.codeIn K qj8 "is_name"=true)
  (q2a:W.keepIn K (.ref qaw)=true)
  (q2b:W.findIn K (.ref qaq) "__init__"=some (some (.ref qax)))
  (q2c:W.isFn K (.ref qax)=true)
  (q2d:K.lookup qax=some ⟨qcl,qml,.func (W.fnOf "__init__" "Plank.__init__" (BB JH) (A8 JH) (AK JH) .none qe9 qfx qhl qo9 qj9 qkx),qpx⟩)
  (q2e:W.codeIn K qj9 "Plank.__init__"=true)
  (q2f:W.keepIn K (.ref qax)=true)
  (q2g:W.findIn K (.ref qaq) "blocks"=some (some (.ref qay)))
  (q2h:W.isFn K (.ref qay)=true)
  (q2i:K.lookup qay=some ⟨qcm,qmm,.func (W.fnOf "blocks" "Plank.blocks" (BB K3) (A8 K3) (AK K3) .none qea qfy qhm qoa qja qky),qpy⟩)
  (q2j:W.codeIn K qja "Plank.blocks"=true)
  (q2k:W.keepIn K (.ref qay)=true)
  (q2l:W.findIn K (.ref qaq) "cells"=some (some (.ref qaz)))
  (q2m:W.isFn K (.ref qaz)=true)
  (q2n:K.lookup qaz=some ⟨qcn,qmn,.func (W.fnOf "cells" "Plank.cells" (BB K4) (A8 K4) (AK K4) .none qeb qfz qhn qob qjb qkz),qpz⟩)
  (q2o:W.codeIn K qjb "Plank.cells"=true)
  (q2p:W.keepIn K (.ref qaz)=true)
  (q2q:W.findIn K (.ref qaq) "ask_for_block"=some (some (.ref qb0)))
  (q2r:W.isFn K (.ref qb0)=true)
  (q2s:K.lookup qb0=some ⟨qco,qmo,.func (W.fnOf "ask_for_block" "Plank.ask_for_block" (BB K5) (A8 K5) (AK K5) .none qec qg0 qho qoc qjc ql0),qq0⟩)
  (q2t:W.codeIn K qjc "Plank.ask_for_block"=true)
  (q2u:W.keepIn K (.ref qb0)=true)
  (q2v:W.findIn K (.ref qar) "__init__"=some (some (.ref qb1)))
  (q2w:W.isFn K (.ref qb1)=true)
  (q2x:K.lookup qb1=some ⟨qcp,qmp,.func (W.fnOf "__init__" "Layout.__init__" (BB K6) (A8 K6) (AK K6) .none qed qg1 qhp qod qjd ql1),qq1⟩)
  (q2y:W.codeIn K qjd "Layout.__init__"=true)
  (q2z:W.keepIn K (.ref qb1)=true)
  (q30:W.findIn K (.ref qar) "counts"=some (some (.ref qb2)))
  (q31:W.isFn K (.ref qb2)=true)
  (q32:K.lookup qb2=some ⟨qcq,qmq,.func (W.fnOf "counts" "Layout.counts" (BB K7) (A8 K7) (AK K7) .none qee qg2 qhq qoe qje ql2),qq2⟩)
  (q33:W.codeIn K qje "Layout.counts"=true)
  (q34:W.keepIn K (.ref qb2)=true)
  (q35:W.findIn K (.ref qar) "blocks_ahead_of_marks"=some (some (.ref qb3)))
  (q36:W.isFn K (.ref qb3)=true)
  (q37:K.lookup qb3=some ⟨qcr,qmr,.func (W.fnOf "blocks_ahead_of_marks" "Layout.blocks_ahead_of_marks" (BB K8) (A8 K8) (AK K8) .none qef qg3 qhr qof qjf ql3),qq3⟩)
  (q38:W.codeIn K qjf "Layout.blocks_ahead_of_marks"=true)
  (q39:W.keepIn K (.ref qb3)=true)
  (q3a:W.findIn K (.ref qar) "place_from"=some (some (.ref qb4)))
  (q3b:W.isFn K (.ref qb4)=true)
  (q3c:K.lookup qb4=some ⟨qcs,qms,.func (W.fnOf "place_from" "Layout.place_from" (BB K9) (A8 K9) (AK K9) .none qeg qg4 qhs qog qjg ql4),qq4⟩)
  (q3d:W.codeIn K qjg "Layout.place_from"=true)
  (q3e:W.keepIn K (.ref qb4)=true)
  (q3f:W.nsIn K mainGlobals "_law_cell_at"=some (some (.ref qb5)))
  (q3g:K.lookup qb5=some ⟨qct,qmt,.func (W.fnOf "_law_cell_at" "_law_cell_at" (BB LA) (A8 LA) (AK LA) .none qeh qg5 qht qoh qjh ql5),qq5⟩)
  (q3h:W.codeIn K qjh "_law_cell_at"=true)
  (q3i:W.keepIn K (.ref qb5)=true)
  (q3j:W.nsIn K mainGlobals "_law_names"=some (some (.ref qb6)))
  (q3k:K.lookup qb6=some ⟨qcu,qmu,.func (W.fnOf "_law_names" "_law_names" (BB LB) (A8 LB) (AK LB) .none qei qg6 qhu qoi qji ql6),qq6⟩)
  (q3l:W.codeIn K qji "_law_names"=true)
  (q3m:W.keepIn K (.ref qb6)=true)
  (q3n:W.nsIn K mainGlobals "_law_text"=some (some (.ref qb7)))
  (q3o:K.lookup qb7=some ⟨qcv,qmv,.func (W.fnOf "_law_text" "_law_text" (BB JI) (A8 JI) (AK JI) .none qej qg7 qhv qoj qjj ql7),qq7⟩)
  (q3p:W.codeIn K qjj "_law_text"=true)
  (q3q:W.keepIn K (.ref qb7)=true)
  (q3r:W.nsIn K mainGlobals "_law_at"=some (some (.ref qb8)))
  (q3s:K.lookup qb8=some ⟨qcw,qmw,.func (W.fnOf "_law_at" "_law_at" (BB LC) (A8 LC) (AK LC) .none qek qg8 qhw qok qjk ql8),qq8⟩)
  (q3t:W.codeIn K qjk "_law_at"=true)
  (q3u:W.keepIn K (.ref qb8)=true)
  (q3v:W.nsIn K mainGlobals "_law_way"=some (some (.ref qb9)))
  (q3w:K.lookup qb9=some ⟨qcx,qmx,.func (W.fnOf "_law_way" "_law_way" (BB JK) (A8 JK) (AK JK) .none qel qg9 qhx qol qjl ql9),qq9⟩)
  (q3x:W.codeIn K qjl "_law_way"=true)
  (q3y:W.keepIn K (.ref qb9)=true)
  (q3z:W.findIn K (.ref qao) "__init__"=some (some (.ref qba)))
  (q40:W.isFn K (.ref qba)=true)
  (q41:K.lookup qba=some ⟨qcy,qmy,.func (W.fnOf "__init__" "Book.__init__" (BB JL) (A8 JL) (AK JL) .none qem qga qhy qom qjm qla),qqa⟩)
  (q42:W.codeIn K qjm "Book.__init__"=true)
  (q43:W.keepIn K (.ref qba)=true)
  (q44:W.findIn K (.ref qao) "ask_for_place"=some (some (.ref qbb)))
  (q45:W.isFn K (.ref qbb)=true)
  (q46:K.lookup qbb=some ⟨qcz,qmz,.func (W.fnOf "ask_for_place" "Book.ask_for_place" (BB LE) (A8 LE) (AK LE) .none qen qgb qhz qon qjn qlb),qqb⟩)
  (q47:W.codeIn K qjn "Book.ask_for_place"=true)
  (q48:W.keepIn K (.ref qbb)=true)
  (q49:W.nsIn K mainGlobals "is_piece"=some (some (.ref qbc)))
  (q4a:K.lookup qbc=some ⟨qd0,qn0,.func (W.fnOf "is_piece" "is_piece" (BB JM) (A8 JM) (AK JM) .none qeo qgc qi0 qoo qjo qlc),qqc⟩)
  (q4b:W.codeIn K qjo "is_piece"=true)
  (q4c:W.keepIn K (.ref qbc)=true)
  (q4d:W.findIn K (.ref qaq) "read"=some (some (.ref qbd)))
  (q4e:W.isFn K (.ref qbd)=true)
  (q4f:K.lookup qbd=some ⟨qd1,qn1,.func (W.fnOf "read" "Plank.read" (BB LF) (A8 LF) (AK LF) .none qep qgd qi1 qop qjp qld),qqd⟩)
  (q4g:W.codeIn K qjp "Plank.read"=true)
  (q4h:W.keepIn K (.ref qbd)=true)
  (q4i:W.findIn K (.ref qar) "name_at"=some (some (.ref qbe)))
  (q4j:W.isFn K (.ref qbe)=true)
  (q4k:K.lookup qbe=some ⟨qd2,qn2,.func (W.fnOf "name_at" "Layout.name_at" (BB LG) (A8 LG) (AK LG) .none qeq qge qi2 qoq qjq qle),qqe⟩)
  (q4l:W.codeIn K qjq "Layout.name_at"=true)
  (q4m:W.keepIn K (.ref qbe)=true)
  (q4n:W.findIn K (.ref qar) "record_at"=some (some (.ref qbf)))
  (q4o:W.isFn K (.ref qbf)=true)
  (q4p:K.lookup qbf=some ⟨qd3,qn3,.func (W.fnOf "record_at" "Layout.record_at" (BB LH) (A8 LH) (AK LH) .none qer qgf qi3 qor qjr qlf),qqf⟩)
  (q4q:W.codeIn K qjr "Layout.record_at"=true)
  (q4r:W.keepIn K (.ref qbf)=true)
  (q4s:W.findIn K (.ref qar) "piece_at"=some (some (.ref qbg)))
  (q4t:W.isFn K (.ref qbg)=true)
  (q4u:K.lookup qbg=some ⟨qd4,qn4,.func (W.fnOf "piece_at" "Layout.piece_at" (BB LI) (A8 LI) (AK LI) .none qes qgg qi4 qos qjs qlg),qqg⟩)
  (q4v:W.codeIn K qjs "Layout.piece_at"=true)
  (q4w:W.keepIn K (.ref qbg)=true)
  (q4x:W.findIn K (.ref qar) "record_mark"=some (some (.ref qbh)))
  (q4y:W.isFn K (.ref qbh)=true)
  (q4z:K.lookup qbh=some ⟨qd5,qn5,.func (W.fnOf "record_mark" "Layout.record_mark" (BB LJ) (A8 LJ) (AK LJ) .none qet qgh qi5 qot qjt qlh),qqh⟩)
  (q50:W.codeIn K qjt "Layout.record_mark"=true)
  (q51:W.keepIn K (.ref qbh)=true)
  (q52:W.findIn K (.ref qar) "piece_mark"=some (some (.ref qbi)))
  (q53:W.isFn K (.ref qbi)=true)
  (q54:K.lookup qbi=some ⟨qd6,qn6,.func (W.fnOf "piece_mark" "Layout.piece_mark" (BB LK) (A8 LK) (AK LK) .none qeu qgi qi6 qou qju qli),qqi⟩)
  (q55:W.codeIn K qju "Layout.piece_mark"=true)
  (q56:W.keepIn K (.ref qbi)=true)
  (q57:W.findIn K (.ref qar) "blocks"=some (some (.ref qbj)))
  (q58:W.isFn K (.ref qbj)=true)
  (q59:K.lookup qbj=some ⟨qd7,qn7,.func (W.fnOf "blocks" "Layout.blocks" (BB LM) (A8 LM) (AK LM) .none qev qgj qi7 qov qjv qlj),qqj⟩)
  (q5a:W.codeIn K qjv "Layout.blocks"=true)
  (q5b:W.keepIn K (.ref qbj)=true)
  (q5c:W.nsIn K mainGlobals "_law_due"=some (some (.ref qbk)))
  (q5d:K.lookup qbk=some ⟨qd8,qn8,.func (W.fnOf "_law_due" "_law_due" (BB HX) (A8 HX) (AK HX) .none qew qgk qi8 qow qjw qlk),qqk⟩)
  (q5e:W.codeIn K qjw "_law_due"=true)
  (q5f:W.keepIn K (.ref qbk)=true)
  (q5g:W.findIn K (.ref qao) "newest"=some (some (.ref qbl)))
  (q5h:W.isFn K (.ref qbl)=true)
  (q5i:K.lookup qbl=some ⟨qd9,qn9,.func (W.fnOf "newest" "Book.newest" (BB LN) (A8 LN) (AK LN) .none qex qgl qi9 qox qjx qll),qql⟩)
  (q5j:W.codeIn K qjx "Book.newest"=true)
  (q5k:W.keepIn K (.ref qbl)=true)
  (q5l:W.findIn K (.ref qar) "plank"=some (some (.ref qbm)))
  (q5m:W.isFn K (.ref qbm)=true)
  (q5n:K.lookup qbm=some ⟨qda,qna,.func (W.fnOf "plank" "Layout.plank" (BB LO) (A8 LO) (AK LO) .none qey qgm qia qoy qjy qlm),qqm⟩)
  (q5o:W.codeIn K qjy "Layout.plank"=true)
  (q5p:W.keepIn K (.ref qbm)=true)
  (q5q:W.findIn K (.ref qao) "change"=some (some (.ref qbn)))
  (q5r:W.isFn K (.ref qbn)=true)
  (q5s:K.lookup qbn=some ⟨qdb,qnb,.func (W.fnOf "change" "Book.change" (BB LP) (A8 LP) (AK LP) .none qez qgn qib qoz qjz qln),qqn⟩)
  (q5t:W.codeIn K qjz "Book.change"=true)
  (q5u:W.keepIn K (.ref qbn)=true)
  (q5v:W.findIn K (.ref qao) "in_hand"=some (some (.ref qbo)))
  (q5w:W.isFn K (.ref qbo)=true)
  (q5x:K.lookup qbo=some ⟨qdc,qnc,.func (W.fnOf "in_hand" "Book.in_hand" (BB LQ) (A8 LQ) (AK LQ) .none qf0 qgo qic qp0 qk0 qlo),qqo⟩)
  (q5y:W.codeIn K qk0 "Book.in_hand"=true)
  (q5z:W.keepIn K (.ref qbo)=true)
  (q60:W.findIn K (.ref qap) "__init__"=some (some (.ref qbp)))
  (q61:W.isFn K (.ref qbp)=true)
  (q62:K.lookup qbp=some ⟨qdd,qnd,.func (W.fnOf "__init__" "Store.__init__" (BB LR) (A8 LR) (AK LR) .none qf1 qgp qid qp1 qk1 qlp),qqp⟩)
  (q63:W.codeIn K qk1 "Store.__init__"=true)
  (q64:W.keepIn K (.ref qbp)=true)
  (q65:W.nsIn K mainGlobals "lowest_with"=some (some (.ref qbq)))
  (q66:K.lookup qbq=some ⟨qde,qne,.func (W.fnOf "lowest_with" "lowest_with" (BB LS) (A8 LS) (AK LS) .none qf2 qgq qie qp2 qk2 qlq),qqq⟩)
  (q67:W.codeIn K qk2 "lowest_with"=true)
  (q68:W.keepIn K (.ref qbq)=true)
  (q69:W.findIn K (.ref qap) "name_cells"=some (some (.ref qbr)))
  (q6a:W.isFn K (.ref qbr)=true)
  (q6b:K.lookup qbr=some ⟨qdf,qnf,.func (W.fnOf "name_cells" "Store.name_cells" (BB JN) (A8 JN) (AK JN) .none qf3 qgr qif qp3 qk3 qlr),qqr⟩)
  (q6c:W.codeIn K qk3 "Store.name_cells"=true)
  (q6d:W.keepIn K (.ref qbr)=true)
  (q6e:W.findIn K (.ref qap) "standing"=some (some (.ref qbs)))
  (q6f:W.isFn K (.ref qbs)=true)
  (q6g:K.lookup qbs=some ⟨qdg,qng,.func (W.fnOf "standing" "Store.standing" (BB LT) (A8 LT) (AK LT) .none qf4 qgs qig qp4 qk4 qls),qqs⟩)
  (q6h:W.codeIn K qk4 "Store.standing"=true)
  (q6i:W.keepIn K (.ref qbs)=true)
  (q6j:W.findIn K (.ref qap) "fill_cell"=some (some (.ref qbt)))
  (q6k:W.isFn K (.ref qbt)=true)
  (q6l:K.lookup qbt=some ⟨qdh,qnh,.func (W.fnOf "fill_cell" "Store.fill_cell" (BB LU) (A8 LU) (AK LU) .none qf5 qgt qih qp5 qk5 qlt),qqt⟩)
  (q6m:W.codeIn K qk5 "Store.fill_cell"=true)
  (q6n:W.keepIn K (.ref qbt)=true)
  (q6o:W.nsIn K mainGlobals "free_name"=some (some (.ref qbu)))
  (q6p:K.lookup qbu=some ⟨qdi,qni,.func (W.fnOf "free_name" "free_name" (BB JO) (A8 JO) (AK JO) .none qf6 qgu qii qp6 qk6 qlu),qqu⟩)
  (q6q:W.codeIn K qk6 "free_name"=true)
  (q6r:W.keepIn K (.ref qbu)=true)
  (q6s:W.nsIn K mainGlobals "free_record"=some (some (.ref qbv)))
  (q6t:K.lookup qbv=some ⟨qdj,qnj,.func (W.fnOf "free_record" "free_record" (BB JP) (A8 JP) (AK JP) .none qf7 qgv qij qp7 qk7 qlv),qqv⟩)
  (q6u:W.codeIn K qk7 "free_record"=true)
  (q6v:W.keepIn K (.ref qbv)=true)
  (q6w:W.nsIn K mainGlobals "free_piece"=some (some (.ref qbw)))
  (q6x:K.lookup qbw=some ⟨qdk,qnk,.func (W.fnOf "free_piece" "free_piece" (BB JQ) (A8 JQ) (AK JQ) .none qf8 qgw qik qp8 qk8 qlw),qqw⟩)
  (q6y:W.codeIn K qk8 "free_piece"=true)
  (q6z:W.keepIn K (.ref qbw)=true)
  (q70:W.findIn K (.ref qap) "names"=some (some (.ref qbx)))
  (q71:W.isFn K (.ref qbx)=true)
  (q72:K.lookup qbx=some ⟨qdl,qnl,.func (W.fnOf "names" "Store.names" (BB JR) (A8 JR) (AK JR) .none qf9 qgx qil qp9 qk9 qlx),qqx⟩)
  (q73:W.codeIn K qk9 "Store.names"=true)
  (q74:W.keepIn K (.ref qbx)=true)
  (q75:W.findIn K (.ref qap) "cell_of"=some (some (.ref qby)))
  (q76:W.isFn K (.ref qby)=true)
  (q77:K.lookup qby=some ⟨qdm,qnm,.func (W.fnOf "cell_of" "Store.cell_of" (BB LV) (A8 LV) (AK LV) .none qfa qgy qim qpa qka qly),qqy⟩)
  (q78:W.codeIn K qka "Store.cell_of"=true)
  (q79:W.keepIn K (.ref qby)=true)
  (q7a:W.findIn K (.ref qap) "recount"=some (some (.ref qbz)))
  (q7b:W.isFn K (.ref qbz)=true)
  (q7c:K.lookup qbz=some ⟨qdn,qnn,.func (W.fnOf "recount" "Store.recount" (BB LW) (A8 LW) (AK LW) .none qfb qgz qin qpb qkb qlz),qqz⟩)
  (q7d:W.codeIn K qkb "Store.recount"=true)
  (q7e:W.keepIn K (.ref qbz)=true)
  (q7f:W.findIn K (.ref qap) "regroup"=some (some (.ref qc0)))
  (q7g:W.isFn K (.ref qc0)=true)
  (q7h:K.lookup qc0=some ⟨qdo,qno,.func (W.fnOf "regroup" "Store.regroup" (BB LX) (A8 LX) (AK LX) .none qfc qh0 qio qpc qkc qm0),qr0⟩)
  (q7i:W.codeIn K qkc "Store.regroup"=true)
  (q7j:W.keepIn K (.ref qc0)=true)
  (q7k:W.findIn K (.ref qap) "drop_record"=some (some (.ref qc1)))
  (q7l:W.isFn K (.ref qc1)=true)
  (q7m:K.lookup qc1=some ⟨qdp,qnp,.func (W.fnOf "drop_record" "Store.drop_record" (BB JS) (A8 JS) (AK JS) .none qfd qh1 qip qpd qkd qm1),qr1⟩)
  (q7n:W.codeIn K qkd "Store.drop_record"=true)
  (q7o:W.keepIn K (.ref qc1)=true)
  (q7p:W.findIn K (.ref qap) "ask_for_new_name"=some (some (.ref qc2)))
  (q7q:W.isFn K (.ref qc2)=true)
  (q7r:K.lookup qc2=some ⟨qdq,qnq,.func (W.fnOf "ask_for_new_name" "Store.ask_for_new_name" (BB JT) (A8 JT) (AK JT) .none qfe qh2 qiq qpe qke qm2),qr2⟩)
  (q7s:W.codeIn K qke "Store.ask_for_new_name"=true)
  (q7t:W.keepIn K (.ref qc2)=true)
  (q7u:W.findIn K (.ref qap) "record_of"=some (some (.ref qc3)))
  (q7v:W.isFn K (.ref qc3)=true)
  (q7w:K.lookup qc3=some ⟨qdr,qnr,.func (W.fnOf "record_of" "Store.record_of" (BB LY) (A8 LY) (AK LY) .none qff qh3 qir qpf qkf qm3),qr3⟩)
  (q7x:W.codeIn K qkf "Store.record_of"=true)
  (q7y:W.keepIn K (.ref qc3)=true)
  (q7z:W.findIn K (.ref qap) "empty_cell"=some (some (.ref qc4)))
  (q80:W.isFn K (.ref qc4)=true)
  (q81:K.lookup qc4=some ⟨qds,qns,.func (W.fnOf "empty_cell" "Store.empty_cell" (BB LZ) (A8 LZ) (AK LZ) .none qfg qh4 qis qpg qkg qm4),qr4⟩)
  (q82:W.codeIn K qkg "Store.empty_cell"=true)
  (q83:W.keepIn K (.ref qc4)=true)
  (q84:W.findIn K (.ref qap) "make"=some (some (.ref qc5)))
  (q85:W.isFn K (.ref qc5)=true)
  (q86:K.lookup qc5=some ⟨qdt,qnt,.func (W.fnOf "make" "Store.make" (BB L4) (A8 L4) (AK L4) .none qfh qh5 qit qph qkh qm5),qr5⟩)
  (q87:W.codeIn K qkh "Store.make"=true)
  (q88:W.keepIn K (.ref qc5)=true)
  (q89:W.findIn K (.ref qap) "link"=some (some (.ref qc6)))
  (q8a:W.isFn K (.ref qc6)=true)
  (q8b:K.lookup qc6=some ⟨qdu,qnu,.func (W.fnOf "link" "Store.link" (BB L5) (A8 L5) (AK L5) .none qfi qh6 qiu qpi qki qm6),qr6⟩)
  (q8c:W.codeIn K qki "Store.link"=true)
  (q8d:W.keepIn K (.ref qc6)=true)
  (q8e:W.findIn K (.ref qap) "cut"=some (some (.ref qc7)))
  (q8f:W.isFn K (.ref qc7)=true)
  (q8g:K.lookup qc7=some ⟨qdv,qnv,.func (W.fnOf "cut" "Store.cut" (BB L6) (A8 L6) (AK L6) .none qfj qh7 qiv qpj qkj qm7),qr7⟩)
  (q8h:W.codeIn K qkj "Store.cut"=true)
  (q8i:W.keepIn K (.ref qc7)=true)
  (q8j:W.findIn K (.ref qap) "put"=some (some (.ref qc8)))
  (q8k:W.isFn K (.ref qc8)=true)
  (q8l:K.lookup qc8=some ⟨qdw,qnw,.func (W.fnOf "put" "Store.put" (BB L7) (A8 L7) (AK L7) .none qfk qh8 qiw qpk qkk qm8),qr8⟩)
  (q8m:W.codeIn K qkk "Store.put"=true)
  (q8n:W.keepIn K (.ref qc8)=true)
  (q8o:W.findIn K (.ref qap) "take"=some (some (.ref qc9)))
  (q8p:W.isFn K (.ref qc9)=true)
  (q8q:K.lookup qc9=some ⟨qdx,qnx,.func (W.fnOf "take" "Store.take" (BB L8) (A8 L8) (AK L8) .none qfl qh9 qix qpl qkl qm9),qr9⟩)
  (q8r:W.codeIn K qkl "Store.take"=true)
  (q8s:W.keepIn K (.ref qc9)=true)
  (q8t:W.findIn K (.ref qap) "texts"=some (some (.ref qca)))
  (q8u:W.isFn K (.ref qca)=true)
  (q8v:K.lookup qca=some ⟨qdy,qny,.func (W.fnOf "texts" "Store.texts" (BB JU) (A8 JU) (AK JU) .none qfm qha qiy qpm qkm qma),qra⟩)
  (q8w:W.codeIn K qkm "Store.texts"=true)
  (q8x:W.keepIn K (.ref qca)=true)
  (q8y:W.findIn K (.ref qap) "move"=some (some (.ref qcb)))
  (q8z:W.isFn K (.ref qcb)=true)
  (q90:K.lookup qcb=some ⟨qdz,qnz,.func (W.fnOf "move" "Store.move" (BB L9) (A8 L9) (AK L9) .none qfn qhb qiz qpn qkn qmb),qrb⟩)
  (q91:W.codeIn K qkn "Store.move"=true)
  (q92:W.keepIn K (.ref qcb)=true)
  (q93:W.nsIn K mainGlobals "_law_text_of"=some (some (.ref qcc)))
  (q94:K.lookup qcc=some ⟨qe0,qo0,.func (W.fnOf "_law_text_of" "_law_text_of" (BB MA) (A8 MA) (AK MA) .none qfo qhc qj0 qpo qko qmc),qrc⟩)
  (q95:W.codeIn K qko "_law_text_of"=true)
  (q96:W.keepIn K (.ref qcc)=true)
  (q97:W.nsIn K mainGlobals "_law_done"=some (some (.ref qcd)))
  (q98:K.lookup qcd=some ⟨qe1,qo1,.func (W.fnOf "_law_done" "_law_done" (BB MB) (A8 MB) (AK MB) .none qfp qhd qj1 qpp qkp qmd),qrd⟩)
  (q99:W.codeIn K qkp "_law_done"=true)
  (q9a:W.keepIn K (.ref qcd)=true)
  (q9b:W.nsIn K mainGlobals "_law_looks"=some (some (.ref qce)))
  (q9c:K.lookup qce=some ⟨qe2,qo2,.func (W.fnOf "_law_looks" "_law_looks" (BB MD) (A8 MD) (AK MD) .none qfq qhe qj2 qpq qkq qme),qre⟩)
  (q9d:W.codeIn K qkq "_law_looks"=true)
  (q9e:W.keepIn K (.ref qce)=true)
  (q9f:W.nsIn K mainGlobals "law"=some (some (.ref qcf)))
  (q9g:K.lookup qcf=some ⟨qe3,qo3,.func (W.fnOf "law" "law" (BB HB) (A8 HB) (AK HB) .none qfr qhf qj3 qpr qkr qmf),qrf⟩)
  (q9h:W.codeIn K qkr "law"=true)
  (q9i:W.keepIn K (.ref qcf)=true)
  (q9j:W.findIn K (.ref qao) "newest"=some (some (.ref qbl)))
  (q9k:W.findIn K (.ref qao) "ask_for_changes"=some (some (.ref qat)))
  (q9l:W.findIn K (.ref qao) "ask_for_place"=some (some (.ref qbb)))
  (q9m:W.findIn K (.ref qao) "in_hand"=some (some (.ref qbo)))
  (q9n:W.findIn K (.ref qao) "__init__"=some (some (.ref qba)))
  (q9o:W.findIn K (.ref qao) "change"=some (some (.ref qbn)))
  (q9p:W.findIn K (.ref qaq) "contents"=some none)
  (q9q:W.findIn K (.ref qaq) "width"=some none)
  (q9r:W.findIn K (.ref qaq) "written"=some none)
  (q9s:W.findIn K (.ref qao) "ground"=some none)
  (q9t:W.findIn K (.ref qao) "made"=some none)
  (q9u:W.findIn K (.ref qao) "made_in"=some none)
  (q9v:W.findIn K (.ref qao) "latest"=some none)
  (q9w:W.findIn K (.ref qao) "outs"=some none)
  (q9x:W.findIn K (.ref qan) "place"=some none)
  (q9y:W.findIn K (.ref qan) "value"=some none)
  (q9z:W.findIn K (.ref qan) "needs"=some none)
  (qa0:W.findIn K (.ref qar) "name_blocks"=some none)
  (qa1:W.findIn K (.ref qar) "record_blocks"=some none)
  (qa2:W.findIn K (.ref qar) "piece_blocks"=some none)
  (qa3:W.findIn K (.ref qar) "width"=some none)
  (qa4:W.findIn K (.ref qap) "plan"=some none)
  (qa5:W.findIn K (.ref qap) "book"=some none)
  (qa6:W.findIn K (.ref qap) "taken_out"=some none)
  (qa7:W.exmOne K (.ref qak) (.ref qak)=some true)
  (qa8:W.exmOne K (.ref qal) (.ref qak)=some false)
  (qa9:W.exmOne K (.ref qal) (.ref qal)=some true)
  (qaa:W.exmOne K (.ref qam) (.ref qak)=some false)
  (qab:W.exmOne K (.ref qam) (.ref qal)=some false)
  (qac:W.exmOne K (.ref qam) (.ref qam)=some true)
  (qad:W.exmOne K (.ref qaj) (.ref qak)=some false)
  (qae:W.exmOne K (.ref qaj) (.ref qal)=some false)
  (qaf:W.exmOne K (.ref qaj) (.ref qam)=some false)
  (qag:W.exmOne K (.ref qaj) (.ref qaj)=some true) :
  ∃ fd:FuncData,(∀ (s:Shared) (v:Value),BindsTo s fd ⟨[v],[]⟩ [("script",v)])/\∀ base:Heap,K.In base->base.Ns mainGlobals mg->FnOk l.prog w K mg base (DK l.prog w) 11 fa fd ["script"] (WW K):=by
 obtain⟨a,rfl,rfl,rfl,rfl,rfl,rfl,rfl,rfl,rfl,rfl,rfl⟩:=za8 qah qai qaj qak qal qam qan qao qap qaq qar
 have e:=hfa.symm.trans (W.mg_of X G q9f)
 cases e
 have T:Txt K mg a:=⟨⟨qb,qc,qd,qe⟩,⟨qf,qg,qh,qi⟩,⟨qj,qk,ql,qm⟩,⟨qn,qo,qp,qq⟩,⟨qr,qs,qt,qu⟩,⟨_,W.mg_of X G q15,_,rfl⟩,⟨_,W.mg_of X G q16,_,rfl⟩,W.mg_of X G q0,⟨_,W.mg_of X G q0,rfl⟩,⟨q17⟩,W.mg_of X G q1,⟨_,W.mg_of X G q1,rfl⟩,⟨q18⟩,W.mg_of X G q3,⟨_,W.mg_of X G q3,rfl⟩,⟨q19⟩,W.mg_of X G q5,⟨_,W.mg_of X G q5,rfl⟩,⟨q1a⟩,W.mg_of X G q2,⟨_,W.mg_of X G q2,rfl⟩,⟨q1b⟩,⟨_,W.mg_of X G q1c,_,rfl⟩,W.mg_of X G q4,⟨_,W.mg_of X G q4,rfl⟩,⟨q1d⟩,W.mg_none_of X G q1e,W.mg_none_of X G q1f,W.mg_none_of X G q1g,W.mg_none_of X G q1h,W.mg_none_of X G q1i,W.mg_none_of X G q1j,W.mg_none_of X G q1k,W.mg_none_of X G q1l,W.mg_none_of X G q1m,W.mg_none_of X G q1n,W.mg_none_of X G q1o⟩
 have TPk:D1 K a:=⟨T.ME,q9p,q9q,q9r⟩
 have TBk:aJ K (a "Hold") (a "Change"):=⟨T.DI,q9s,q9t,q9u,q9v,q9w,T.zca,q9x,q9y,q9z⟩
 have TLy:DN K a:=⟨T.B8,qa0,qa1,qa2,qa3⟩
 have TSt:QX K a:=⟨T.BT,qa4,qa5,qa6⟩
 have TRm:TD K a:=⟨qa7,qa8,qa9,qaa,qab,qac,qad,qae,qaf,qag⟩
 have qrg:=BF (st:=KY) q1r q1s q1t
 have qt4:=qrg.binds (ps:=["self","place","value","needs"]) λ_ _ _ _ _ _=>ON λ_ _ _ _=>rfl
 have qrh:=BF (st:=KZ) q1w q1x q1y
 have qt5:=qrh.binds (ps:=["self","numbers"]) λ_ _ _ _ _ _=>C4 λ_ _=>rfl
 have qri:=BF (st:=K0) q20 q21 q22
 have qt6:=qri.binds (ps:=["needs","ahead"]) λ_ _ _ _ _ _=>C4 λ_ _=>rfl
 have qrj:=BF (st:=K1) q24 q25 q26
 have qt7:=qrj.binds (ps:=["sign"]) λ_ _ _ _ _ _=>EM λ_=>rfl
 have qrk:=BF (st:=JG) q28 q29 q2a
 have qt8:=qrk.binds (ps:=["thing"]) λ_ _ _ _ _ _=>EM λ_=>rfl
 have qrl:=BF (st:=JH) q2d q2e q2f
 have qt9:=qrl.binds (ps:=["self","blocks","cells"]) λ_ _ _ _ _ _=>GC λ_ _ _=>rfl
 have qrm:=BF (st:=K3) q2i q2j q2k
 have qta:=qrm.binds (ps:=["self"]) λ_ _ _ _ _ _=>EM λ_=>rfl
 have qrn:=BF (st:=K4) q2n q2o q2p
 have qtb:=qrn.binds (ps:=["self"]) λ_ _ _ _ _ _=>EM λ_=>rfl
 have qro:=BF (st:=K5) q2s q2t q2u
 have qtc:=qro.binds (ps:=["self","block"]) λ_ _ _ _ _ _=>C4 λ_ _=>rfl
 have qrp:=BF (st:=K6) q2x q2y q2z
 have qtd:=qrp.binds (ps:=["self","names","records","pieces","cells"]) λ_ _ _ _ _ _=>WV λ_ _ _ _ _=>rfl
 have qrq:=BF (st:=K7) q32 q33 q34
 have qte:=qrq.binds (ps:=["self"]) λ_ _ _ _ _ _=>EM λ_=>rfl
 have qrr:=BF (st:=K8) q37 q38 q39
 have qtf:=qrr.binds (ps:=["self"]) λ_ _ _ _ _ _=>EM λ_=>rfl
 have qrs:=BF (st:=K9) q3c q3d q3e
 have qtg:=qrs.binds (ps:=["self","block","k"]) λ_ _ _ _ _ _=>GC λ_ _ _=>rfl
 have qrt:=BF (st:=LA) q3g q3h q3i
 have qth:=qrt.binds (ps:=["script","k"]) λ_ _ _ _ _ _=>C4 λ_ _=>rfl
 have qru:=BF (st:=LB) q3k q3l q3m
 have qti:=qru.binds (ps:=["cell"]) λ_ _ _ _ _ _=>EM λ_=>rfl
 have qrv:=BF (st:=JI) q3o q3p q3q
 have qtj:=qrv.binds (ps:=["cell"]) λ_ _ _ _ _ _=>EM λ_=>rfl
 have qrw:=BF (st:=LC) q3s q3t q3u
 have qtk:=qrw.binds (ps:=["cell"]) λ_ _ _ _ _ _=>EM λ_=>rfl
 have qrx:=BF (st:=JK) q3w q3x q3y
 have qtl:=qrx.binds (ps:=["rooms","led","records","kind","one","other"]) λ_ _ _ _ _ _=>us6 λ_ _ _ _ _ _=>rfl
 have qry:=BF (st:=JL) q41 q42 q43
 have qtm:=qry.binds (ps:=["self","plank"]) λ_ _ _ _ _ _=>C4 λ_ _=>rfl
 have qrz:=BF (st:=LE) q46 q47 q48
 have qtn:=qrz.binds (ps:=["self","place"]) λ_ _ _ _ _ _=>C4 λ_ _=>rfl
 have qs0:=BF (st:=JM) q4a q4b q4c
 have qto:=qs0.binds (ps:=["thing"]) λ_ _ _ _ _ _=>EM λ_=>rfl
 have qs1:=BF (st:=LF) q4f q4g q4h
 have qtp:=qs1.binds (ps:=["self","block"]) λ_ _ _ _ _ _=>C4 λ_ _=>rfl
 have qs2:=BF (st:=LG) q4k q4l q4m
 have qtq:=qs2.binds (ps:=["self","k"]) λ_ _ _ _ _ _=>C4 λ_ _=>rfl
 have qs3:=BF (st:=LH) q4p q4q q4r
 have qtr:=qs3.binds (ps:=["self","k"]) λ_ _ _ _ _ _=>C4 λ_ _=>rfl
 have qs4:=BF (st:=LI) q4u q4v q4w
 have qts:=qs4.binds (ps:=["self","k"]) λ_ _ _ _ _ _=>C4 λ_ _=>rfl
 have qs5:=BF (st:=LJ) q4z q50 q51
 have qtt:=qs5.binds (ps:=["self","k"]) λ_ _ _ _ _ _=>C4 λ_ _=>rfl
 have qs6:=BF (st:=LK) q54 q55 q56
 have qtu:=qs6.binds (ps:=["self","k"]) λ_ _ _ _ _ _=>C4 λ_ _=>rfl
 have qs7:=BF (st:=LM) q59 q5a q5b
 have qtv:=qs7.binds (ps:=["self"]) λ_ _ _ _ _ _=>EM λ_=>rfl
 have qs8:=BF (st:=HX) q5d q5e q5f
 have qtw:=qs8.binds (ps:=["rooms","led","records","kind","one","other","cell"]) λ_ _ _ _ _ _=>us7 λ_ _ _ _ _ _ _=>rfl
 have qs9:=BF (st:=LN) q5i q5j q5k
 have qtx:=qs9.binds (ps:=["self","place"]) λ_ _ _ _ _ _=>C4 λ_ _=>rfl
 have qsa:=BF (st:=LO) q5n q5o q5p
 have qty:=qsa.binds (ps:=["self"]) λ_ _ _ _ _ _=>EM λ_=>rfl
 have qsb:=BF (st:=LP) q5s q5t q5u
 have qtz:=qsb.binds (ps:=["self","place","value","needs"]) λ_ _ _ _ _ _=>ON λ_ _ _ _=>rfl
 have qsc:=BF (st:=LQ) q5x q5y q5z
 have qu0:=qsc.binds (ps:=["self","place"]) λ_ _ _ _ _ _=>C4 λ_ _=>rfl
 have qsd:=BF (st:=LR) q62 q63 q64
 have qu1:=qsd.binds (ps:=["self","layout","plank"]) λ_ _ _ _ _ _=>GC λ_ _ _=>rfl
 have qse:=BF (st:=LS) q66 q67 q68
 have qu2:=qse.binds (ps:=["hold","places","values"]) λ_ _ _ _ _ _=>GC λ_ _ _=>rfl
 have qsf:=BF (st:=JN) q6b q6c q6d
 have qu3:=qsf.binds (ps:=["self"]) λ_ _ _ _ _ _=>EM λ_=>rfl
 have qsg:=BF (st:=LT) q6g q6h q6i
 have qu4:=qsg.binds (ps:=["self","record"]) λ_ _ _ _ _ _=>C4 λ_ _=>rfl
 have qsh:=BF (st:=LU) q6l q6m q6n
 have qu5:=qsh.binds (ps:=["self","cell","name","record","need"]) λ_ _ _ _ _ _=>WV λ_ _ _ _ _=>rfl
 have qsi:=BF (st:=JO) q6p q6q q6r
 have qu6:=qsi.binds (ps:=["layout","hold"]) λ_ _ _ _ _ _=>C4 λ_ _=>rfl
 have qsj:=BF (st:=JP) q6t q6u q6v
 have qu7:=qsj.binds (ps:=["layout","hold"]) λ_ _ _ _ _ _=>C4 λ_ _=>rfl
 have qsk:=BF (st:=JQ) q6x q6y q6z
 have qu8:=qsk.binds (ps:=["layout","hold"]) λ_ _ _ _ _ _=>C4 λ_ _=>rfl
 have qsl:=BF (st:=JR) q72 q73 q74
 have qu9:=qsl.binds (ps:=["self"]) λ_ _ _ _ _ _=>EM λ_=>rfl
 have qsm:=BF (st:=LV) q77 q78 q79
 have qua:=qsm.binds (ps:=["self","name"]) λ_ _ _ _ _ _=>C4 λ_ _=>rfl
 have qsn:=BF (st:=LW) q7c q7d q7e
 have qub:=qsn.binds (ps:=["self","record","more","needs"]) λ_ _ _ _ _ _=>ON λ_ _ _ _=>rfl
 have qso:=BF (st:=LX) q7h q7i q7j
 have quc:=qso.binds (ps:=["self","record","pieces","needs"]) λ_ _ _ _ _ _=>ON λ_ _ _ _=>rfl
 have qsp:=BF (st:=JS) q7m q7n q7o
 have qud:=qsp.binds (ps:=["self","record","gone"]) λ_ _ _ _ _ _=>GC λ_ _ _=>rfl
 have qsq:=BF (st:=JT) q7r q7s q7t
 have que:=qsq.binds (ps:=["self","new","given"]) λ_ _ _ _ _ _=>GC λ_ _ _=>rfl
 have qsr:=BF (st:=LY) q7w q7x q7y
 have quf:=qsr.binds (ps:=["self","name"]) λ_ _ _ _ _ _=>C4 λ_ _=>rfl
 have qss:=BF (st:=LZ) q81 q82 q83
 have qug:=qss.binds (ps:=["self","name","needs"]) λ_ _ _ _ _ _=>GC λ_ _ _=>rfl
 have qst:=BF (st:=L4) q86 q87 q88
 have quh:=qst.binds (ps:=["self","name"]) λ_ _ _ _ _ _=>C4 λ_ _=>rfl
 have qsu:=BF (st:=L5) q8b q8c q8d
 have qui:=qsu.binds (ps:=["self","old","new"]) λ_ _ _ _ _ _=>GC λ_ _ _=>rfl
 have qsv:=BF (st:=L6) q8g q8h q8i
 have quj:=qsv.binds (ps:=["self","name"]) λ_ _ _ _ _ _=>C4 λ_ _=>rfl
 have qsw:=BF (st:=L7) q8l q8m q8n
 have quk:=qsw.binds (ps:=["self","name","text"]) λ_ _ _ _ _ _=>GC λ_ _ _=>rfl
 have qsx:=BF (st:=L8) q8q q8r q8s
 have qul:=qsx.binds (ps:=["self","name","at"]) λ_ _ _ _ _ _=>GC λ_ _ _=>rfl
 have qsy:=BF (st:=JU) q8v q8w q8x
 have qum:=qsy.binds (ps:=["self","name"]) λ_ _ _ _ _ _=>C4 λ_ _=>rfl
 have qsz:=BF (st:=L9) q90 q91 q92
 have qun:=qsz.binds (ps:=["self","old","new"]) λ_ _ _ _ _ _=>GC λ_ _ _=>rfl
 have qt0:=BF (st:=MA) q94 q95 q96
 have quo:=qt0.binds (ps:=["store","name"]) λ_ _ _ _ _ _=>C4 λ_ _=>rfl
 have qt1:=BF (st:=MB) q98 q99 q9a
 have qup:=qt1.binds (ps:=["store","kind","one","other","cell"]) λ_ _ _ _ _ _=>WV λ_ _ _ _ _=>rfl
 have qt2:=BF (st:=MD) q9c q9d q9e
 have quq:=qt2.binds (ps:=["store","led","records","name"]) λ_ _ _ _ _ _=>ON λ_ _ _ _=>rfl
 have qt3:=BF (st:=HB) q9g q9h q9i
 have qur:=qt3.binds (ps:=["script"]) λ_ _ _ _ _ _=>EM λ_=>rfl
 refine⟨W.fnOf "law" "law" (BB HB) (A8 HB) (AK HB) .none qfr qhf qj3 qpr qkr qmf,λs v=>.of_eq rfl,λbase _ _=> ?_⟩
 have qus:=Wl l.prog w base T qrg
 have qut:=Wm l.prog w base T qrh
 have quu:=Wq l.prog w base T qri
 have quv:=Ww l.prog w base T qrj
 have quw:=Wy l.prog w base T qrk
 have qux:=Xb l.prog w base T qrl
 have quy:=Xd l.prog w base T qrm
 have quz:=Xh l.prog w base T qrn
 have qv0:=Xk l.prog w base T qro
 have qv1:=Xm l.prog w base T qrp
 have qv2:=Xq l.prog w base T qrq
 have qv3:=Xw l.prog w base T qrr
 have qv4:=Xy l.prog w base T qrs
 have qv5:=Yb l.prog w base T qrt
 have qv6:=Yc l.prog w base T qru
 have qv7:=Yd l.prog w base T qrv
 have qv8:=Yh l.prog w base T qrw
 have qv9:=Yj l.prog w base T qrx
 have qva:=Yl l.prog w base T qry ⟨_,_,quy,⟨q2g,q2h,q2k⟩,qta⟩
 have qvb:=Yp l.prog w base T qrz ⟨_,_,quz,⟨q2l,q2m,q2p⟩,qtb⟩ ⟨_,_,quy,⟨q2g,q2h,q2k⟩,qta⟩
 have qvc:=Yv l.prog w base T qs0 ⟨_,_,quv,W.mg_of X G q23,q26,qt7⟩
 have qvd:=Yx l.prog w base T qs1 ⟨_,_,qv0,⟨q2q,q2r,q2u⟩,qtc⟩
 have qve:=Yz l.prog w base T qs2 ⟨_,_,qv4,⟨q3a,q3b,q3e⟩,qtg⟩
 have qvf:=Zc l.prog w base T qs3 ⟨_,_,qv4,⟨q3a,q3b,q3e⟩,qtg⟩
 have qvg:=Zg l.prog w base T qs4 ⟨_,_,qv4,⟨q3a,q3b,q3e⟩,qtg⟩
 have qvh:=Zj l.prog w base T qs5 ⟨_,_,qv4,⟨q3a,q3b,q3e⟩,qtg⟩ ⟨_,_,qv3,⟨q35,q36,q39⟩,qtf⟩
 have qvi:=Zl l.prog w base T qs6 ⟨_,_,qv4,⟨q3a,q3b,q3e⟩,qtg⟩ ⟨_,_,qv3,⟨q35,q36,q39⟩,qtf⟩
 have qvj:=Zp l.prog w base T qs7 ⟨_,_,qv3,⟨q35,q36,q39⟩,qtf⟩
 have qvk:=Zq l.prog w base T qs8 ⟨_,_,qv9,W.mg_of X G q3v,q3y,qtl⟩ ⟨_,_,qv8,W.mg_of X G q3r,q3u,qtk⟩ ⟨_,_,qv7,W.mg_of X G q3n,q3q,qtj⟩
 have qvl:=Zw l.prog w base T qs9 ⟨_,_,qvb,⟨q9l,q45,q48⟩,qtn⟩
 have qvm:=Zy l.prog w base T qsa ⟨_,_,qvj,⟨q57,q58,q5b⟩,qtv⟩ ⟨_,_,qux,⟨q11,q2b,q2c,q12⟩,W.mg_of X G q9,qt9⟩
 have qvn:=Zz l.prog w base T qsb ⟨_,_,qvl,⟨q9j,q5h,q5k⟩,qtx⟩ ⟨_,_,qut,⟨q9k,q1v,q1y⟩,qt5⟩ ⟨_,_,quu,W.mg_of X G q1z,q22,qt6⟩ ⟨_,_,qus,⟨qv,q1p,q1q,qw⟩,W.mg_of X G q6,qt4⟩
 have qvo:=zaa l.prog w base T qsc ⟨_,_,qvl,⟨q9j,q5h,q5k⟩,qtx⟩ ⟨_,_,qvd,⟨q4d,q4e,q4h⟩,qtp⟩
 have qvp:=zac l.prog w base T qsd ⟨_,_,qva,⟨qx,q9n,q40,qy⟩,W.mg_of X G q7,qtm⟩
 have qvq:=zad l.prog w base T qse ⟨_,_,qvo,⟨q9m,q5w,q5z⟩,qu0⟩
 have qvr:=zaf l.prog w base T qsf ⟨_,_,qv2,⟨q30,q31,q34⟩,qte⟩ ⟨_,_,qvo,⟨q9m,q5w,q5z⟩,qu0⟩ ⟨_,_,qve,⟨q4i,q4j,q4m⟩,qtq⟩
 have qvs:=zah l.prog w base T qsg ⟨_,_,qvo,⟨q9m,q5w,q5z⟩,qu0⟩ ⟨_,_,qvf,⟨q4n,q4o,q4r⟩,qtr⟩
 have qvt:=zai l.prog w base T qsh ⟨_,_,qvn,⟨q9o,q5r,q5u⟩,qtz⟩ ⟨_,_,qve,⟨q4i,q4j,q4m⟩,qtq⟩
 have qvu:=zaj l.prog w base T qsi ⟨_,_,qv2,⟨q30,q31,q34⟩,qte⟩ ⟨_,_,qve,⟨q4i,q4j,q4m⟩,qtq⟩ ⟨_,_,qvq,W.mg_of X G q65,q68,qu2⟩
 have qvv:=zak l.prog w base T qsj ⟨_,_,qv2,⟨q30,q31,q34⟩,qte⟩ ⟨_,_,qvh,⟨q4x,q4y,q51⟩,qtt⟩ ⟨_,_,qvq,W.mg_of X G q65,q68,qu2⟩
 have qvw:=zal l.prog w base T qsk ⟨_,_,qv2,⟨q30,q31,q34⟩,qte⟩ ⟨_,_,qvi,⟨q52,q53,q56⟩,qtu⟩ ⟨_,_,qvq,W.mg_of X G q65,q68,qu2⟩
 have qvx:=zan l.prog w base T qsl ⟨_,_,qvr,⟨q69,q6a,q6d⟩,qu3⟩
 have qvy:=zao l.prog w base T qsm ⟨_,_,qvr,⟨q69,q6a,q6d⟩,qu3⟩
 have qvz:=zap l.prog w base T qsn ⟨_,_,qvs,⟨q6e,q6f,q6i⟩,qu4⟩ ⟨_,_,qvn,⟨q9o,q5r,q5u⟩,qtz⟩ ⟨_,_,qvf,⟨q4n,q4o,q4r⟩,qtr⟩
 have qw0:=zar l.prog w base T qso ⟨_,_,qvn,⟨q9o,q5r,q5u⟩,qtz⟩ ⟨_,_,qvs,⟨q6e,q6f,q6i⟩,qu4⟩ ⟨_,_,qvf,⟨q4n,q4o,q4r⟩,qtr⟩
 have qw1:=zas l.prog w base T qsp ⟨_,_,qvs,⟨q6e,q6f,q6i⟩,qu4⟩ ⟨_,_,qvn,⟨q9o,q5r,q5u⟩,qtz⟩ ⟨_,_,qvf,⟨q4n,q4o,q4r⟩,qtr⟩ ⟨_,_,qvi,⟨q52,q53,q56⟩,qtu⟩ ⟨_,_,qvh,⟨q4x,q4y,q51⟩,qtt⟩
 have qw2:=zau l.prog w base T qsq ⟨_,_,quw,W.mg_of X G q27,q2a,qt8⟩ ⟨_,_,qvy,⟨q75,q76,q79⟩,qua⟩
 have qw3:=zav l.prog w base T qsr ⟨_,_,qvy,⟨q75,q76,q79⟩,qua⟩ ⟨_,_,qvr,⟨q69,q6a,q6d⟩,qu3⟩
 have qw4:=zaw l.prog w base T qss ⟨_,_,qvn,⟨q9o,q5r,q5u⟩,qtz⟩ ⟨_,_,qve,⟨q4i,q4j,q4m⟩,qtq⟩ ⟨_,_,qvy,⟨q75,q76,q79⟩,qua⟩
 have qw5:=zax l.prog w base T qst ⟨_,_,qw2,⟨q7p,q7q,q7t⟩,que⟩ ⟨_,_,qvv,W.mg_of X G q6s,q6v,qu7⟩ ⟨_,_,qvu,W.mg_of X G q6o,q6r,qu6⟩ ⟨_,_,qvn,⟨q9o,q5r,q5u⟩,qtz⟩ ⟨_,_,qvh,⟨q4x,q4y,q51⟩,qtt⟩ ⟨_,_,qvf,⟨q4n,q4o,q4r⟩,qtr⟩ ⟨_,_,qvt,⟨q6j,q6k,q6n⟩,qu5⟩
 have qw6:=zay l.prog w base T qsu ⟨_,_,qw2,⟨q7p,q7q,q7t⟩,que⟩ ⟨_,_,qw3,⟨q7u,q7v,q7y⟩,quf⟩ ⟨_,_,qvu,W.mg_of X G q6o,q6r,qu6⟩ ⟨_,_,qvz,⟨q7a,q7b,q7e⟩,qub⟩ ⟨_,_,qvt,⟨q6j,q6k,q6n⟩,qu5⟩
 have qw7:=zaz l.prog w base T qsv ⟨_,_,qw3,⟨q7u,q7v,q7y⟩,quf⟩ ⟨_,_,qw4,⟨q7z,q80,q83⟩,qug⟩ ⟨_,_,qvs,⟨q6e,q6f,q6i⟩,qu4⟩ ⟨_,_,qvz,⟨q7a,q7b,q7e⟩,qub⟩ ⟨_,_,qw1,⟨q7k,q7l,q7o⟩,qud⟩
 have qw8:=za0 l.prog w base T qsw ⟨_,_,qw3,⟨q7u,q7v,q7y⟩,quf⟩ ⟨_,_,qvc,W.mg_of X G q49,q4c,qto⟩ ⟨_,_,qvw,W.mg_of X G q6w,q6z,qu8⟩ ⟨_,_,qvn,⟨q9o,q5r,q5u⟩,qtz⟩ ⟨_,_,qvi,⟨q52,q53,q56⟩,qtu⟩ ⟨_,_,qvg,⟨q4s,q4t,q4w⟩,qts⟩ ⟨_,_,qw0,⟨q7f,q7g,q7j⟩,quc⟩ ⟨_,_,qvs,⟨q6e,q6f,q6i⟩,qu4⟩
 have qw9:=za1 l.prog w base T qsx ⟨_,_,qw3,⟨q7u,q7v,q7y⟩,quf⟩ ⟨_,_,qvs,⟨q6e,q6f,q6i⟩,qu4⟩ ⟨_,_,qw0,⟨q7f,q7g,q7j⟩,quc⟩ ⟨_,_,qvn,⟨q9o,q5r,q5u⟩,qtz⟩ ⟨_,_,qvi,⟨q52,q53,q56⟩,qtu⟩
 have qwa:=za2 l.prog w base T qsy ⟨_,_,qvs,⟨q6e,q6f,q6i⟩,qu4⟩ ⟨_,_,qw3,⟨q7u,q7v,q7y⟩,quf⟩ ⟨_,_,qvo,⟨q9m,q5w,q5z⟩,qu0⟩ ⟨_,_,qvg,⟨q4s,q4t,q4w⟩,qts⟩
 have qwb:=za3 l.prog w base T qsz ⟨_,_,qw6,⟨q89,q8a,q8d⟩,qui⟩ ⟨_,_,qw3,⟨q7u,q7v,q7y⟩,quf⟩ ⟨_,_,qw4,⟨q7z,q80,q83⟩,qug⟩ ⟨_,_,qvz,⟨q7a,q7b,q7e⟩,qub⟩
 have qwc:=za4 l.prog w base T qt0 ⟨_,_,qwa,⟨q8t,q8u,q8x⟩,qum⟩
 have qwd:=za5 l.prog w base T qt1 ⟨_,_,qw5,⟨q84,q85,q88⟩,quh⟩ ⟨_,_,qw6,⟨q89,q8a,q8d⟩,qui⟩ ⟨_,_,qw7,⟨q8e,q8f,q8i⟩,quj⟩ ⟨_,_,qw8,⟨q8j,q8k,q8n⟩,quk⟩ ⟨_,_,qv7,W.mg_of X G q3n,q3q,qtj⟩ ⟨_,_,qw9,⟨q8o,q8p,q8s⟩,qul⟩ ⟨_,_,qv8,W.mg_of X G q3r,q3u,qtk⟩ ⟨_,_,qwb,⟨q8y,q8z,q92⟩,qun⟩
 have qwe:=za6 l.prog w base T qt2 ⟨_,_,qvx,⟨q70,q71,q74⟩,qu9⟩ ⟨_,_,qwc,W.mg_of X G q93,q96,quo⟩
 have qwf:=za7 l.prog w base T qt3 ⟨_,_,qv5,W.mg_of X G q3f,q3i,qth⟩ ⟨_,_,qv1,⟨qz,q2v,q2w,q10⟩,W.mg_of X G qa,qtd⟩ ⟨_,_,qvm,⟨q5l,q5m,q5p⟩,qty⟩ ⟨_,_,qvp,⟨q13,q60,q61,q14⟩,W.mg_of X G q8,qu1⟩ ⟨_,_,qv6,W.mg_of X G q3j,q3m,qti⟩ ⟨_,_,qwd,W.mg_of X G q97,q9a,qup⟩ ⟨_,_,qvk,W.mg_of X G q5c,q5f,qtw⟩ ⟨_,_,qwe,W.mg_of X G q9b,q9e,quq⟩
 exact qwf.imp (λvs H Q E ⟨s,ns,e,hs,hn,q⟩=>⟨s,ns,e,⟨TBk,TPk,TLy,TSt⟩,TRm,hs,hn,q⟩)
theorem walk{l:W.OpenLaw}{q:Program}{loose:List Str}{XP:(Str->Option Value)->Heap->Prop}{YP:World->Heap->Prop}{d:DefRec}{K:Params->W.Frag}(hn:l.most=some 63)(hdf:d.params.defaults=[])
  (hY:∀ (w:World) (h:Heap),YP w h->(K w.params).In h)
  (F:∀ (w:World) (mg:Str->Option Value) (fa:Addr) (h:Heap),(K w.params).In h->h.Ns mainGlobals mg->mg d.name=some (.ref fa) →
   ∃ fd:FuncData,(∀ (s:Shared) (u:Value),BindsTo s fd ⟨[u],[]⟩ [("script",u)])/\∀ base:Heap,(K w.params).In base->base.Ns mainGlobals mg->FnOk l.prog w (K w.params) mg base (DK l.prog w) 11 fa fd ["script"] (WW (K w.params))) :
  W.WalkO q loose XP YP l.row.toRowW d [] (λf vs=>PySem.call f vs) :=
 L2.walk_of (n:=63) (k:=11) (x:="script") (CX:=λw=>DK l.prog w) (sp:=λw=>WW (K w.params)) hn (by decide) hdf ⟨rfl,by decide,by decide⟩ hY F (λ_ _ a ns hl _ hS=>⟨a,ns,rfl,hS,hl,λ_=>rfl⟩) λ_ _ _ _ _ z=>YZ z
end L2
namespace PySem.W.Fast
def tw6899419288277074310:=()
def tw11593701286850264448:=()
def tw592851684335667418:=()
def tw2691739476269188870:=()
def tw306393285573533887:=()
def tw10677615965046709446:=()
def tw10085424869088270491:=()
def tw2956011555753075228:=()
def tw3246663261920433831:=()
def tw397993755119366413:=()
def tw18239592604413522843:=()
def tw14893293041583435151:=()
def tw7845425036533165567:=()
def tw620676632892303416:=()
def tw3347992354154692723:=()
def tw4759999250917033410:=()
def tw8462231896336440592:=()
def tw8215990812973159189:=()
def tw2663332842596353353:=()
def tw15044751820408458084:=()
def tw10917802288017786581:=()
def tw16110800063428443014:=()
def tw16096481709926090999:=()
def tw2405555405604053774:=()
def tw970139712315634852:=()
def tw573786987867772926:=()
def tw8209609193747056819:=()
def tw6804652559828269422:=()
def tw5333919527479546778:=()
def tw1303559396647431035:=()
def tw1369460635469264311:=()
def tw7068351996809065650:=()
def tw665393192726715708:=()
def tw14366029123212628107:=()
def tw8782197444013168211:=()
def tw1715407452836673783:=()
def tw11229185743338332734:=()
def tw6200053073246544778:=()
def tw15268918658085466765:=()
def tw9022160518925872548:=()
def tw5838901569325810385:=()
def tw6332709873571307753:=()
def tw4801960288512899029:=()
def tw4919828827852370050:=()
def tw8618598389448211089:=()
def tw5657902233787519014:=()
def tw6511265646365113902:=()
def tw558986771358116405:=()
def tw5053320318522748632:=()
def tw5515580453851558626:=()
def tw3118515140211862103:=()
def tw1536314286060119068:=()
def tw3844482326437731345:=()
def tw13703323777310410938:=()
def tw5344825608558517184:=()
def tw11130819347989061766:=()
def tw2098102613046564483:=()
def tw16259212167580503598:=()
def tw4998251349213329632:=()
def tw7046939331076467725:=()
def tw7437226109760283963:=()
def tw793664408387609084:=()
def tw4420772430380344475:=()
def tw16646375021634537761:=()
def tw9000114214568613251:=()
def tw3118372006968638785:=()
def tw17811864894346042944:=()
def tw10594034552579930579:=()
def tw4328115891151731957:=()
def tw15814558023878028673:=()
def tw15540877813288815900:=()
def tw15311637896468290808:=()
def tw7216931849590127430:=()
def tw16415049447473341686:=()
def tw7346252603834871380:=()
def tw6518460332431211479:=()
def tw1859665375494935159:=()
def tw3782095998483104084:=()
def tw14129015960534939180:=()
def tw3742542128477600247:=()
def tw8340355362490214522:=()
def tw13351489143399887455:=()
def tw7513596635632567146:=()
def tw15379889966702163958:=()
def tw2055126822235960179:=()
def tw15791092599159628724:=()
def tw8355115740526848170:=()
def tw16744293454294398085:=()
def tw11975403725261215588:=()
def tw10947496896976474171:=()
def tw14319739137170200421:=()
def tw13571868623896571859:=()
def tw13284614072701146584:=()
def tw6265505134974144944:=()
def tw18275927198141144281:=()
def tw1731199286413676371:=()
def tw10401063977497002638:=()
def tw170480223621692016:=()
def tw13198664724744829311:=()
def tw4041400981986873111:=()
def tw10165004948720375063:=()
def tw6324989977057318888:=()
def tw1314419203384743198:=()
def tw3719210250050049050:=()
def tw9341275357591231725:=()
def tw5358827600287227404:=()
def tw13163810359453008950:=()
def tw12339950445072444856:=()
def tw8480011690241958067:=()
def tw3794029372174074532:=()
def tw3679313543756210866:=()
def tw13462495216771664636:=()
def tw4158510583178327920:=()
def tw7155355838479406463:=()
def tw2013443000196479753:=()
def tw2491799520176892245:=()
def tw15067341471709655114:=()
def tw4448645692911866827:=()
def tw4170018738276409590:=()
def tw7114978778105451731:=()
def tw17444246351436046373:=()
def tw7367206079850087190:=()
def tw8134020258575089921:=()
def tw2693482688141315432:=()
def tw5602078750550489643:=()
def tw3487197954371473484:=()
def tw5531457771714526296:=()
def tw12550315540135238501:=()
def tw7461757362128311621:=()
def tw7817059260371251924:=()
def tw2103132833120968046:=()
def tw12141153541817182434:=()
def tw3318818538597095928:=()
def tw13216028109147645449:=()
def tw11036465385621022300:=()
def tw18035274196916708315:=()
def tw15187419937282722291:=()
def tw3068518593509015449:=()
def tw4893793484125343211:=()
def tw1587089662579857562:=()
def tw6170458063592282277:=()
def tw15216069612657077607:=()
def tw16439973335499176093:=()
def tw12385922555934733980:=()
def tw1864358746654391942:=()
def tw7860150478448129508:=()
def tw7024240526390368530:=()
def tw16093581282623732033:=()
def tw3245147026958783856:=()
def tw16336420554620235935:=()
def tw1989699170204288666:=()
def tw17751832463811935027:=()
def tw8841417550906240534:=()
def tw15959050630887570391:=()
def tw16051021312899912685:=()
def tw6290975330279778599:=()
def tw9094696630789505961:=()
def tw12095475333963748427:=()
def tw4563478035510239276:=()
def tw6581989610093993802:=()
def tw16342300540803565693:=()
def tw10277668030399880771:=()
def tw17416501593834577599:=()
def tw11646889009168687507:=()
def tw15904316453080961117:=()
def tw17266529798149803052:=()
def tw10322618501413792374:=()
def tw4634425187206333395:=()
def tw1348046307886920362:=()
def tw4955842127986024755:=()
def tw11269875003970124479:=()
def tw5863323089542486903:=()
def tw2071549549828857198:=()
def tw9065021375291855492:=()
def tw16382158482717199595:=()
def tw14608835680250676071:=()
def tw9635291029417870853:=()
def tw1726757453290762268:=()
def tw3600679010260516248:=()
def tw12200670095854006092:=()
def tw9202164448658930318:=()
def tw1236280876343504900:=()
def tw9677386410098059676:=()
def tw2342751757367412029:=()
def tw5756996453124281317:=()
def tw12580695606585864419:=()
def tw1799845359386286722:=()
def tw4129054532991081358:=()
def tw7060157138385720191:=()
def tw17738112045847056544:=()
def tw12250950549846440401:=()
def tw18399563735960730886:=()
def tw8220874853864901848:=()
def tw10491207577412845873:=()
def tw12784022588104469550:=()
def tw12464721715312323524:=()
def tw17285060709483953450:=()
def tw7495442127650457181:=()
def tw8566141061551784255:=()
def tw4634097668286361633:=()
def tw5552341650075865646:=()
def tw17247903762340844860:=()
def tw3174903653018705079:=()
def tw12788058135819522706:=()
def tw5080250682299245400:=()
def tw15030112473235489960:=()
def tw11679784673647071020:=()
def tw8727583531799548156:=()
def tw3456575076966564798:=()
def tw13375054199019746979:=()
def tw10537241749036327467:=()
def tw4324766063785670549:=()
def tw4205293059784007468:=()
def tw2633771321004809333:=()
def tw11585592561673957174:=()
def tw14296394057053056459:=()
def tw8300987824671260296:=()
def tw17233644034268362361:=()
def tw18014709599446708035:=()
def tw7435549575906699330:=()
def tw2485951800655200735:=()
def tw16274826891956854339:=()
def tw17255012204055187792:=()
def tw15753516901824249945:=()
def tw17127000355281831126:=()
def tw4647895512007723081:=()
def tw7264385203202773934:=()
def tw12924745215635147746:=()
def tw13129982735106291530:=()
def tw6859925860472748652:=()
def tw14520682922993488726:=()
def tw6233862824487985838:=()
def tw6161359351112887120:=()
def tw8025465896437001135:=()
def tw11957605817000884887:=()
def tw15168071462845160998:=()
def tw15698081056410866477:=()
def tw1170689798068482597:=()
def tw5859187861386131309:=()
def tw7572136865070913281:=()
def tw1575007195887852496:=()
def tw8755553884249184645:=()
def tw12322741187534655480:=()
def tw3909670919393490914:=()
def tw8475269157615041473:=()
def tw5151678453486104648:=()
def tw8292077999751061151:=()
def tw385466041325743972:=()
def tw11776496914652315273:=()
def tw256547471949482206:=()
def tw12307261850492838846:=()
def tw5078773013488763850:=()
def tw8377643128914028705:=()
def tw6743375336556835424:=()
def tw14088783054329969102:=()
def tw14937784361070442197:=()
def tw8809181735872499683:=()
def tw6888925688184351587:=()
def tw2325524695780220721:=()
def tw17659085201110022629:=()
def tw6009344988606357925:=()
def tw11779615792325050778:=()
def tw10865447360467906090:=()
def tw16067661544242623208:=()
def tw5859527290405612233:=()
def tw3927520730135085255:=()
def tw16506791200048170700:=()
def tw5689137989177807735:=()
def tw5149169229783490052:=()
def tw9671480432235956970:=()
def tw1756427686911799216:=()
def tw2557987221082619882:=()
def tw7705792199630065057:=()
def tw18242160955401865241:=()
def tw2146681699899627492:=()
def tw15210484244075806539:=()
def tw3408688076391519439:=()
def tw2772110287587066936:=()
def tw13732253667463395065:=()
def tw9453759231922362204:=()
def tw11424442142944342380:=()
def tw17378156864065873570:=()
def tw15095429046705858950:=()
def tw4015942153658220548:=()
def tw15239696668764172844:=()
def tw4101213990890591908:=()
def tw15729171527900077801:=()
def tw2861588377145655875:=()
def tw6305016243091241566:=()
def tw15487043397475041975:=()
def tw14805709062343570600:=()
def tw5796288553629979205:=()
def tw418683305340581818:=()
def tw3908350112997969669:=()
def tw11819379941626861306:=()
def tw4641968586974783195:=()
def tw14519629785037608975:=()
def tw9515912705074651894:=()
def tw12286566663401342336:=()
def tw1589868942906654649:=()
def tw12728754401150364802:=()
def tw6322142173997025229:=()
def tw9273422425105126471:=()
def tw11805068724222905054:=()
def tw5175849813962097589:=()
def tw16823121353894699677:=()
def tw9154873726549516189:=()
def tw17426868105494332424:=()
def tw7337757171340772827:=()
def tw14812174193124399957:=()
def tw1783075866663705716:=()
def tw10737492910382506656:=()
def tw1804403041634689522:=()
def tw415279837483416317:=()
def tw15383799529865170955:=()
def tw2195032516295401597:=()
def tw9297174825892836019:=()
def tw8522883744919152993:=()
def tw34975965316197419:=()
def tw7238763670766158525:=()
def tw15574931846710110710:=()
def tw5088902067493245423:=()
def tw5181569652690428266:=()
def tw9033949313192077273:=()
def tw10443341086632103266:=()
def tw7019553522196663552:=()
def tw15150326318697155052:=()
def tw17049326923649107768:=()
def tw12230756888827095294:=()
def tw11747149379918083116:=()
def tw17187300886030229984:=()
def tw4823111389825502611:=()
def tw10985726738270911184:=()
def tw2133606355801326085:=()
def tw14291265732900105043:=()
def tw12110085467828105224:=()
def tw6463611437688827225:=()
def tw430056161040998577:=()
def tw16509159180499795878:=()
def tw10752921813020870528:=()
def tw1986972025616291104:=()
def tw1094348836086717440:=()
def tw8682565039290745924:=()
def tw10852783890710956987:=()
def tw2542229086867802780:=()
def tw11017964478419509164:=()
def tw678377966994852642:=()
def tw16762574559009676606:=()
def tw13685885815779262291:=()
def tw17336129297428364750:=()
def tw9452428699008820735:=()
def tw15881151062539114122:=()
def tw10275896849358030407:=()
def tw7380893717380915585:=()
def tw7699270514504375489:=()
def tw17428386662601443585:=()
def tw16226290884123488185:=()
def tw2411952152209564091:=()
def tw6573728610369402088:=()
def tw631902398069364978:=()
def tw8491284481345885984:=()
def tw453115622766277709:=()
def tw4073137445159642067:=()
def tw17782878809018582480:=()
def tw547594930220307797:=()
def tw14305445684322500635:=()
def tw9643263130832094285:=()
def tw5643266536058520981:=()
def tw3599007107312972192:=()
def tw7510968007726189267:=()
def tw4552782688512220934:=()
def tw4148405445838730663:=()
def tw7363356020866612075:=()
def tw5022029898746559442:=()
def tw2961167132223198669:=()
def tw10678909485553156102:=()
def tw10167851036708294430:=()
def tw5493040344398426392:=()
def tw2917168488078061680:=()
def tw10922457318343196260:=()
def tw16607156225049622675:=()
def tw12393070506717962953:=()
def tw13307598693194081284:=()
def tw973355985006411888:=()
def tw9291626535528816100:=()
def tw15875049067240093107:=()
def tw14057437530715580812:=()
def tw14831113244498803283:=()
def tw14874575619581173138:=()
def tw431800872440729036:=()
def tw12237111217180020338:=()
def tw6302653404161459923:=()
def tw10429551737653409945:=()
def tw8922604161332705363:=()
def tw11723688051571763211:=()
def tw3063656248194635693:=()
def tw4857024430415408211:=()
def tw9472475290979090448:=()
def tw2048589405820863900:=()
def tw9077679714410077954:=()
def tw1808875947915135068:=()
def tw11738565612679936330:=()
def tw12491605731170455631:=()
def tw11702300655610894872:=()
def tw6070038277793940606:=()
def tw11056942085685961350:=()
def tw10357904727701581022:=()
def tw17958143690026052756:=()
def tw4542622465574120090:=()
def tw390273403972777988:=()
def tw2260837085606853755:=()
def tw12579377078351710981:=()
def tw1389979916292263187:=()
def tw10083952212739184327:=()
def tw243939183825093594:=()
def tw6110531823798145154:=()
def tw9466541105689458990:=()
def tw11343472187633364045:=()
def tw6227482031766809012:=()
def tw11379000442037923063:=()
def tw14506812377692696809:=()
def tw13541636519014507146:=()
def tw4372370415343143172:=()
def tw14116456749769571951:=()
def tw6024096912646743987:=()
def tw12655307106262756772:=()
def tw17157505488692102888:=()
def tw5117248076702266795:=()
def tw16844147777685219463:=()
def tw14180395823836747185:=()
def tw10286945872467593931:=()
def tw937783131583317719:=()
def tw1348411846517636535:=()
def tw16495178665986154307:=()
def tw18077191156731952384:=()
def tw17579057881245956032:=()
def tw1348695009195643521:=()
def tw641063509850917512:=()
def tw4849059133146644000:=()
def tw14791214478811000411:=()
def tw7454277588388642480:=()
def tw12524127825309647396:=()
def tw8907939755758270867:=()
def tw821332267456539789:=()
def tw9804614439721520266:=()
def tw5457283412221172049:=()
def tw9102830591395668146:=()
def tw1349188461471945156:=()
def tw15066519993325215569:=()
def tw549013508486822014:=()
def tw17480937509255535859:=()
def tw16060677447558954303:=()
def tw671995383234111654:=()
def tw2201396569466957257:=()
def tw17207174615642878208:=()
def tw7858690201988175069:=()
def tw11166808380613339320:=()
def tw12702309746222643724:=()
def tw2921381005008592458:=()
def tw11013127420640054497:=()
def tw16746274337595045983:=()
def tw14433886205418340003:=()
def tw16722619196877729589:=()
def tw4000885135907232570:=()
def tw11475378403791895065:=()
def tw17577583779223975242:=()
def tw7483604886255630439:=()
def tw16776353872815967487:=()
def tw11654853035977789870:=()
def tw1758824629327749458:=()
def tw460622047682993873:=()
def tw13788877091039618029:=()
def tw648447725708344794:=()
def tw12791175285233551273:=()
def tw17180608042688831562:=()
def tw517213759321660016:=()
def tw2915539671421497435:=()
def tw18321912422015120211:=()
def tw4085585037020142038:=()
def tw12757382673164693924:=()
def tw3761683388679703013:=()
def tw9006121228469509585:=()
def tw7706164306137083859:=()
def tw7419442345377079508:=()
def tw14248582106687623638:=()
def tw12744147718558767382:=()
def tw8508144332782951686:=()
def tw16756937896539343043:=()
def tw8140764176207846270:=()
def tw10515811886904759290:=()
def tw14510972277650604212:=()
def tw16588401734193757464:=()
def tw6658922828578796745:=()
def tw11241292007328122430:=()
def tw6725768725286411312:=()
def tw10041130377912968027:=()
def tw3539887283111668064:=()
def tw890811326636724656:=()
def tw10833646487712740572:=()
def tw18248648642812081041:=()
def tw6808904893425274981:=()
def tw1660417326541714575:=()
def tw460379446484848269:=()
def tw16341210774198462968:=()
def tw17928785829035412796:=()
def tw159165279593122928:=()
def tw8255835254135143471:=()
def tw10062177810141293271:=()
def tw14333915537548456440:=()
def tw10432446940739057631:=()
def tw10367804698399288785:=()
def tw7355484579562346274:=()
def tw16999107443168375669:=()
def tw17281248503229201211:=()
def tw7510188942618563634:=()
def tw11600596564181121621:=()
def tw9948265297341406561:=()
def tw12707695716265246069:=()
def tw5181257228544844331:=()
def tw2001241588123679738:=()
def tw11549059887346040375:=()
def tw5140210836663332243:=()
def tw6641544565509363615:=()
def tw15743381385263432812:=()
def tw6181678103549468780:=()
def tw4735691022407087371:=()
def tw17715454899411229988:=()
def tw13549544532237089616:=()
def tw1199105882964670015:=()
def tw9021241418979470716:=()
def tw8995409723898642040:=()
def tw12358575949609937203:=()
def tw9281832815581466425:=()
def tw10849030567351063882:=()
def tw16374239533687628353:=()
def tw2120630914712704148:=()
def tw343055739502566888:=()
def tw15766312509104648819:=()
def tw4839910187775700191:=()
def tw8921707696029301188:=()
def tw14960373453518987757:=()
def tw18331373583923933819:=()
def tw1183048890651408265:=()
def tw10164850527223102361:=()
def tw297003002991046010:=()
def tw16563543444792785566:=()
def tw1809155710040358631:=()
def tw4618906954207086745:=()
def tw13142007991763734869:=()
def tw12422307414385316779:=()
def tw13359344325736966893:=()
def tw16818610239052632250:=()
def tw9290947547017647639:=()
def tw3931178150127005754:=()
def tw15166965656785480386:=()
def tw8788151647326713551:=()
def tw4566046030945489836:=()
def tw11650101041769860321:=()
def tw7482717917864950878:=()
def tw17218225225407414860:=()
def tw328628178767597110:=()
def tw16313595269201418396:=()
def tw5555341465555340984:=()
def tw7645303743545195584:=()
def tw6584978726592620690:=()
def tw6069747093388983252:=()
def tw8055124135118124576:=()
def tw7605998623487917795:=()
def tw17473196270403427898:=()
def tw12054569363568728399:=()
def tw4370023174176836683:=()
def tw10332454684460188095:=()
def tw7299585365059046521:=()
def tw13576943727904878493:=()
def tw15031581201720083371:=()
def tw9153761038120073756:=()
def tw15954374189961327946:=()
def tw3928457946839047694:=()
def tw10627034212342807633:=()
def tw10085719433547717319:=()
def tw14535179897163106545:=()
def tw9971977541357996968:=()
def tw9009145011064480414:=()
def tw9051081690027575297:=()
def tw641598888894487631:=()
def tw18146226722985062185:=()
def tw12847301702269060750:=()
def tw4229967816410967631:=()
def tw11625923513954605575:=()
def tw2411729429092071741:=()
def tw17237284381878594909:=()
def tw3471741270629703530:=()
def tw3449175051570555683:=()
def tw3904074205422711639:=()
def tw16609827015924856213:=()
def tw10526245389158421337:=()
def tw13311732233270136899:=()
def tw6093087513605235325:=()
def tw10719342980098559498:=()
def tw10373341431068284475:=()
def tw17272088023189259873:=()
def tw856115009262940879:=()
def tw9923273773638365715:=()
def tw182135077628201101:=()
def tw14724281010566537447:=()
def tw8651821354505469221:=()
def tw8032361063784224485:=()
def tw11730264681020451032:=()
def tw1128538185888458086:=()
def tw13386975075388909345:=()
def tw10667514525482545492:=()
def tw7519676775132061525:=()
def tw16539496518464800335:=()
def tw9293248402806434657:=()
def tw2160340145658492261:=()
def tw6789354389279382096:=()
def tw3813734340528447655:=()
def tw8739684361976853771:=()
def tw4327325611885135179:=()
def tw15792861779070022519:=()
def tw3561490998181801740:=()
def tw488170973769422418:=()
def tw1604124342525499118:=()
def tw876613876070645441:=()
def tw4698048176356443698:=()
def tw1880760129086792632:=()
def tw7674753408232324306:=()
def tw4059827834012828366:=()
def tw4724174697031981989:=()
def tw7975017890281386957:=()
def tw11209794436389018934:=()
def tw14456189025327768558:=()
def tw3546828411202949439:=()
def tw8386614947044155546:=()
def tw1859716344329519888:=()
def tw5664145976449799032:=()
def tw7124329002611583310:=()
def tw2772089500030588017:=()
def tw8940726561692997197:=()
def tw3557010724691640185:=()
def tw10768486640839899157:=()
def tw13313156698816915937:=()
def tw11105676539350038705:=()
def tw15841226730623219134:=()
def tw12410171678744187810:=()
def tw9379254800683253594:=()
def tw6422102747719800375:=()
def tw13126602993972329663:=()
def tw9315661739642647686:=()
def tw5256880558602944365:=()
def tw6993183882131001217:=()
def tw3956170791913808978:=()
def tw11119060164914783806:=()
def tw1416154000540683566:=()
def tw2046177294093241778:=()
def tw5378526119080273488:=()
def tw7825443668085339573:=()
def tw6714936842436321507:=()
def tw7557102382595119343:=()
def tw17648273559234104578:=()
def tw10070288179955708541:=()
def tw11563583793427808822:=()
def tw796799389918789929:=()
def tw14753725146887842089:=()
def tw13071762651572862253:=()
def tw2633693079274446715:=()
def tw8213723451853199918:=()
def tw3959169166406690253:=()
def tw672582938529365068:=()
def tw127914919161563315:=()
def tw10347373953109182698:=()
def tw14226033145127983873:=()
def tw243265266323746044:=()
def tw6743233087260263250:=()
def tw17159426897882713066:=()
def tw11670580093780276555:=()
def tw4337842063751764952:=()
def tw9924556400446066889:=()
def tw325651194523400604:=()
def tw9085672851583490274:=()
def tw8309301431251542092:=()
def tw15929284287491437193:=()
def tw4516456863946679459:=()
def tw1407849172725188348:=()
def tw6943216523414989822:=()
def tw14548741244987219712:=()
def tw15132707025582501136:=()
def tw1518860833070123694:=()
def tw17073787340504909125:=()
def tw12088171646116219326:=()
def tw10944308944342582892:=()
def tw4583647556586605259:=()
def tw2478652495781424829:=()
def tw16362046884472394431:=()
def tw1049982795270571251:=()
def tw14158056120693792781:=()
def tw9454668894692325927:=()
end PySem.W.Fast
open PySem PySem.W PyProof.Rows
set_option Elab.async false
set_option maxRecDepth 100000 in
set_option maxHeartbeats 0 in
theorem PySem.Challenge.cw_holdback_k42_names_and_texts_holds : PySem.Challenge.rw_holdback_k42_names_and_texts.Holds := by
 w_on;o_law;k_head;(case hw=>w_witness2)
 k_fill
 refine L2.walk (l:=PySem.Challenge.rw_holdback_k42_names_and_texts) rfl rfl (λw h Y=>PySem.W.kIn_of Y) ?F
 case F =>
  intro w mg fa h KX G hmg
  refine' L2.all_mk KX G hmg ?q0 ?q1 ?q2 ?q3 ?q4 ?q5 ?q6 ?q7 ?q8 ?q9 ?qa ?qb ?qc ?qd ?qe ?qf ?qg ?qh ?qi ?qj ?qk ?ql ?qm ?qn ?qo ?qp ?qq ?qr ?qs ?qt ?qu ?qv ?qw ?qx ?qy ?qz ?q10 ?q11 ?q12 ?q13 ?q14 ?q15 ?q16 ?q17 ?q18 ?q19 ?q1a ?q1b ?q1c ?q1d ?q1e ?q1f ?q1g ?q1h ?q1i ?q1j ?q1k ?q1l ?q1m ?q1n ?q1o ?q1p ?q1q ?q1r ?q1s ?q1t ?q1u ?q1v ?q1w ?q1x ?q1y ?q1z ?q20 ?q21 ?q22 ?q23 ?q24 ?q25 ?q26 ?q27 ?q28 ?q29 ?q2a ?q2b ?q2c ?q2d ?q2e ?q2f ?q2g ?q2h ?q2i ?q2j ?q2k ?q2l ?q2m ?q2n ?q2o ?q2p ?q2q ?q2r ?q2s ?q2t ?q2u ?q2v ?q2w ?q2x ?q2y ?q2z ?q30 ?q31 ?q32 ?q33 ?q34 ?q35 ?q36 ?q37 ?q38 ?q39 ?q3a ?q3b ?q3c ?q3d ?q3e ?q3f ?q3g ?q3h ?q3i ?q3j ?q3k ?q3l ?q3m ?q3n ?q3o ?q3p ?q3q ?q3r ?q3s ?q3t ?q3u ?q3v ?q3w ?q3x ?q3y ?q3z ?q40 ?q41 ?q42 ?q43 ?q44 ?q45 ?q46 ?q47 ?q48 ?q49 ?q4a ?q4b ?q4c ?q4d ?q4e ?q4f ?q4g ?q4h ?q4i ?q4j ?q4k ?q4l ?q4m ?q4n ?q4o ?q4p ?q4q ?q4r ?q4s ?q4t ?q4u ?q4v ?q4w ?q4x ?q4y ?q4z ?q50 ?q51 ?q52 ?q53 ?q54 ?q55 ?q56 ?q57 ?q58 ?q59 ?q5a ?q5b ?q5c ?q5d ?q5e ?q5f ?q5g ?q5h ?q5i ?q5j ?q5k ?q5l ?q5m ?q5n ?q5o ?q5p ?q5q ?q5r ?q5s ?q5t ?q5u ?q5v ?q5w ?q5x ?q5y ?q5z ?q60 ?q61 ?q62 ?q63 ?q64 ?q65 ?q66 ?q67 ?q68 ?q69 ?q6a ?q6b ?q6c ?q6d ?q6e ?q6f ?q6g ?q6h ?q6i ?q6j ?q6k ?q6l ?q6m ?q6n ?q6o ?q6p ?q6q ?q6r ?q6s ?q6t ?q6u ?q6v ?q6w ?q6x ?q6y ?q6z ?q70 ?q71 ?q72 ?q73 ?q74 ?q75 ?q76 ?q77 ?q78 ?q79 ?q7a ?q7b ?q7c ?q7d ?q7e ?q7f ?q7g ?q7h ?q7i ?q7j ?q7k ?q7l ?q7m ?q7n ?q7o ?q7p ?q7q ?q7r ?q7s ?q7t ?q7u ?q7v ?q7w ?q7x ?q7y ?q7z ?q80 ?q81 ?q82 ?q83 ?q84 ?q85 ?q86 ?q87 ?q88 ?q89 ?q8a ?q8b ?q8c ?q8d ?q8e ?q8f ?q8g ?q8h ?q8i ?q8j ?q8k ?q8l ?q8m ?q8n ?q8o ?q8p ?q8q ?q8r ?q8s ?q8t ?q8u ?q8v ?q8w ?q8x ?q8y ?q8z ?q90 ?q91 ?q92 ?q93 ?q94 ?q95 ?q96 ?q97 ?q98 ?q99 ?q9a ?q9b ?q9c ?q9d ?q9e ?q9f ?q9g ?q9h ?q9i ?q9j ?q9k ?q9l ?q9m ?q9n ?q9o ?q9p ?q9q ?q9r ?q9s ?q9t ?q9u ?q9v ?q9w ?q9x ?q9y ?q9z ?qa0 ?qa1 ?qa2 ?qa3 ?qa4 ?qa5 ?qa6 ?qa7 ?qa8 ?qa9 ?qaa ?qab ?qac ?qad ?qae ?qaf ?qag
  (case q0=>k_is)
  (case q1=>k_is)
  (case q2=>k_is)
  (case q3=>k_is)
  (case q4=>k_is)
  (case q5=>k_is)
  (case q6=>k_is)
  (case q7=>k_is)
  (case q8=>k_is)
  (case q9=>k_is)
  (case qa=>k_is)
  (case qb=>k_is)
  (case qc=>k_is)
  (case qd=>k_is)
  (case qe=>k_is)
  (case qf=>k_is)
  (case qg=>k_is)
  (case qh=>k_is)
  (case qi=>k_is)
  (case qj=>k_is)
  (case qk=>k_is)
  (case ql=>k_is)
  (case qm=>k_is)
  (case qn=>k_is)
  (case qo=>k_is)
  (case qp=>k_is)
  (case qq=>k_is)
  (case qr=>k_is)
  (case qs=>k_is)
  (case qt=>k_is)
  (case qu=>k_is)
  (case qv=>k_is)
  (case qw=>k_is)
  (case qx=>k_is)
  (case qy=>k_is)
  (case qz=>k_is)
  (case q10=>k_is)
  (case q11=>k_is)
  (case q12=>k_is)
  (case q13=>k_is)
  (case q14=>k_is)
  (case q15=>k_is)
  (case q16=>k_is)
  (case q17=>k_exc)
  (case q18=>k_exc)
  (case q19=>k_exc)
  (case q1a=>k_exc)
  (case q1b=>k_exc)
  (case q1c=>k_is)
  (case q1d=>k_exc)
  (case q1e=>k_is)
  (case q1f=>k_is)
  (case q1g=>k_is)
  (case q1h=>k_is)
  (case q1i=>k_is)
  (case q1j=>k_is)
  (case q1k=>k_is)
  (case q1l=>k_is)
  (case q1m=>k_is)
  (case q1n=>k_is)
  (case q1o=>k_is)
  (case q1p=>k_is)
  (case q1q=>k_is)
  (case q1r=>k_is)
  (case q1s=>k_is)
  (case q1t=>k_is)
  (case q1u=>k_is)
  (case q1v=>k_is)
  (case q1w=>k_is)
  (case q1x=>k_is)
  (case q1y=>k_is)
  (case q1z=>k_is)
  (case q20=>k_is)
  (case q21=>k_is)
  (case q22=>k_is)
  (case q23=>k_is)
  (case q24=>k_is)
  (case q25=>k_is)
  (case q26=>k_is)
  (case q27=>k_is)
  (case q28=>k_is)
  (case q29=>k_is)
  (case q2a=>k_is)
  (case q2b=>k_is)
  (case q2c=>k_is)
  (case q2d=>k_is)
  (case q2e=>k_is)
  (case q2f=>k_is)
  (case q2g=>k_is)
  (case q2h=>k_is)
  (case q2i=>k_is)
  (case q2j=>k_is)
  (case q2k=>k_is)
  (case q2l=>k_is)
  (case q2m=>k_is)
  (case q2n=>k_is)
  (case q2o=>k_is)
  (case q2p=>k_is)
  (case q2q=>k_is)
  (case q2r=>k_is)
  (case q2s=>k_is)
  (case q2t=>k_is)
  (case q2u=>k_is)
  (case q2v=>k_is)
  (case q2w=>k_is)
  (case q2x=>k_is)
  (case q2y=>k_is)
  (case q2z=>k_is)
  (case q30=>k_is)
  (case q31=>k_is)
  (case q32=>k_is)
  (case q33=>k_is)
  (case q34=>k_is)
  (case q35=>k_is)
  (case q36=>k_is)
  (case q37=>k_is)
  (case q38=>k_is)
  (case q39=>k_is)
  (case q3a=>k_is)
  (case q3b=>k_is)
  (case q3c=>k_is)
  (case q3d=>k_is)
  (case q3e=>k_is)
  (case q3f=>k_is)
  (case q3g=>k_is)
  (case q3h=>k_is)
  (case q3i=>k_is)
  (case q3j=>k_is)
  (case q3k=>k_is)
  (case q3l=>k_is)
  (case q3m=>k_is)
  (case q3n=>k_is)
  (case q3o=>k_is)
  (case q3p=>k_is)
  (case q3q=>k_is)
  (case q3r=>k_is)
  (case q3s=>k_is)
  (case q3t=>k_is)
  (case q3u=>k_is)
  (case q3v=>k_is)
  (case q3w=>k_is)
  (case q3x=>k_is)
  (case q3y=>k_is)
  (case q3z=>k_is)
  (case q40=>k_is)
  (case q41=>k_is)
  (case q42=>k_is)
  (case q43=>k_is)
  (case q44=>k_is)
  (case q45=>k_is)
  (case q46=>k_is)
  (case q47=>k_is)
  (case q48=>k_is)
  (case q49=>k_is)
  (case q4a=>k_is)
  (case q4b=>k_is)
  (case q4c=>k_is)
  (case q4d=>k_is)
  (case q4e=>k_is)
  (case q4f=>k_is)
  (case q4g=>k_is)
  (case q4h=>k_is)
  (case q4i=>k_is)
  (case q4j=>k_is)
  (case q4k=>k_is)
  (case q4l=>k_is)
  (case q4m=>k_is)
  (case q4n=>k_is)
  (case q4o=>k_is)
  (case q4p=>k_is)
  (case q4q=>k_is)
  (case q4r=>k_is)
  (case q4s=>k_is)
  (case q4t=>k_is)
  (case q4u=>k_is)
  (case q4v=>k_is)
  (case q4w=>k_is)
  (case q4x=>k_is)
  (case q4y=>k_is)
  (case q4z=>k_is)
  (case q50=>k_is)
  (case q51=>k_is)
  (case q52=>k_is)
  (case q53=>k_is)
  (case q54=>k_is)
  (case q55=>k_is)
  (case q56=>k_is)
  (case q57=>k_is)
  (case q58=>k_is)
  (case q59=>k_is)
  (case q5a=>k_is)
  (case q5b=>k_is)
  (case q5c=>k_is)
  (case q5d=>k_is)
  (case q5e=>k_is)
  (case q5f=>k_is)
  (case q5g=>k_is)
  (case q5h=>k_is)
  (case q5i=>k_is)
  (case q5j=>k_is)
  (case q5k=>k_is)
  (case q5l=>k_is)
  (case q5m=>k_is)
  (case q5n=>k_is)
  (case q5o=>k_is)
  (case q5p=>k_is)
  (case q5q=>k_is)
  (case q5r=>k_is)
  (case q5s=>k_is)
  (case q5t=>k_is)
  (case q5u=>k_is)
  (case q5v=>k_is)
  (case q5w=>k_is)
  (case q5x=>k_is)
  (case q5y=>k_is)
  (case q5z=>k_is)
  (case q60=>k_is)
  (case q61=>k_is)
  (case q62=>k_is)
  (case q63=>k_is)
  (case q64=>k_is)
  (case q65=>k_is)
  (case q66=>k_is)
  (case q67=>k_is)
  (case q68=>k_is)
  (case q69=>k_is)
  (case q6a=>k_is)
  (case q6b=>k_is)
  (case q6c=>k_is)
  (case q6d=>k_is)
  (case q6e=>k_is)
  (case q6f=>k_is)
  (case q6g=>k_is)
  (case q6h=>k_is)
  (case q6i=>k_is)
  (case q6j=>k_is)
  (case q6k=>k_is)
  (case q6l=>k_is)
  (case q6m=>k_is)
  (case q6n=>k_is)
  (case q6o=>k_is)
  (case q6p=>k_is)
  (case q6q=>k_is)
  (case q6r=>k_is)
  (case q6s=>k_is)
  (case q6t=>k_is)
  (case q6u=>k_is)
  (case q6v=>k_is)
  (case q6w=>k_is)
  (case q6x=>k_is)
  (case q6y=>k_is)
  (case q6z=>k_is)
  (case q70=>k_is)
  (case q71=>k_is)
  (case q72=>k_is)
  (case q73=>k_is)
  (case q74=>k_is)
  (case q75=>k_is)
  (case q76=>k_is)
  (case q77=>k_is)
  (case q78=>k_is)
  (case q79=>k_is)
  (case q7a=>k_is)
  (case q7b=>k_is)
  (case q7c=>k_is)
  (case q7d=>k_is)
  (case q7e=>k_is)
  (case q7f=>k_is)
  (case q7g=>k_is)
  (case q7h=>k_is)
  (case q7i=>k_is)
  (case q7j=>k_is)
  (case q7k=>k_is)
  (case q7l=>k_is)
  (case q7m=>k_is)
  (case q7n=>k_is)
  (case q7o=>k_is)
  (case q7p=>k_is)
  (case q7q=>k_is)
  (case q7r=>k_is)
  (case q7s=>k_is)
  (case q7t=>k_is)
  (case q7u=>k_is)
  (case q7v=>k_is)
  (case q7w=>k_is)
  (case q7x=>k_is)
  (case q7y=>k_is)
  (case q7z=>k_is)
  (case q80=>k_is)
  (case q81=>k_is)
  (case q82=>k_is)
  (case q83=>k_is)
  (case q84=>k_is)
  (case q85=>k_is)
  (case q86=>k_is)
  (case q87=>k_is)
  (case q88=>k_is)
  (case q89=>k_is)
  (case q8a=>k_is)
  (case q8b=>k_is)
  (case q8c=>k_is)
  (case q8d=>k_is)
  (case q8e=>k_is)
  (case q8f=>k_is)
  (case q8g=>k_is)
  (case q8h=>k_is)
  (case q8i=>k_is)
  (case q8j=>k_is)
  (case q8k=>k_is)
  (case q8l=>k_is)
  (case q8m=>k_is)
  (case q8n=>k_is)
  (case q8o=>k_is)
  (case q8p=>k_is)
  (case q8q=>k_is)
  (case q8r=>k_is)
  (case q8s=>k_is)
  (case q8t=>k_is)
  (case q8u=>k_is)
  (case q8v=>k_is)
  (case q8w=>k_is)
  (case q8x=>k_is)
  (case q8y=>k_is)
  (case q8z=>k_is)
  (case q90=>k_is)
  (case q91=>k_is)
  (case q92=>k_is)
  (case q93=>k_is)
  (case q94=>k_is)
  (case q95=>k_is)
  (case q96=>k_is)
  (case q97=>k_is)
  (case q98=>k_is)
  (case q99=>k_is)
  (case q9a=>k_is)
  (case q9b=>k_is)
  (case q9c=>k_is)
  (case q9d=>k_is)
  (case q9e=>k_is)
  (case q9f=>k_is)
  (case q9g=>k_is)
  (case q9h=>k_is)
  (case q9i=>k_is)
  (case q9j=>k_is)
  (case q9k=>k_is)
  (case q9l=>k_is)
  (case q9m=>k_is)
  (case q9n=>k_is)
  (case q9o=>k_is)
  (case q9p=>k_is)
  (case q9q=>k_is)
  (case q9r=>k_is)
  (case q9s=>k_is)
  (case q9t=>k_is)
  (case q9u=>k_is)
  (case q9v=>k_is)
  (case q9w=>k_is)
  (case q9x=>k_is)
  (case q9y=>k_is)
  (case q9z=>k_is)
  (case qa0=>k_is)
  (case qa1=>k_is)
  (case qa2=>k_is)
  (case qa3=>k_is)
  (case qa4=>k_is)
  (case qa5=>k_is)
  (case qa6=>k_is)
  (case qa7=>kts_exm)
  (case qa8=>kts_exm)
  (case qa9=>kts_exm)
  (case qaa=>kts_exm)
  (case qab=>kts_exm)
  (case qac=>kts_exm)
  (case qad=>kts_exm)
  (case qae=>kts_exm)
  (case qaf=>kts_exm)
  (case qag=>kts_exm)
