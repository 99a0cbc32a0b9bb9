import PyProof.Rows.All
import Wide.All
import OpenK.AllK
import Wide.FinOn
import Lean
import PyProof.EqAt
import PyProof.EqKinds
import PyProof.TupleCall
import PyProof.SetScanFacts
import PyProof.Rows.SetFrom
import PyProof.Rows.SortWalk
import PyProof.CollectWalk
import PyProof.DictWalks
import PySem.Challenge.RW_holdback_k53_mended
set_option linter.all false
set_option maxRecDepth 100000
set_option maxHeartbeats 8000000
open PySem PySem.Spec PyProof.Rows
set_option Elab.async false
namespace L2
abbrev AZ:=Sum Int Str
def K3:AZ->Value->Bool
 | .inl k,v=>Value.isInt k v
 | .inr x,v=>Value.isStrOf x v
def lV(w:World):AZ->Int
 | .inl k=>hashInt k
 | .inr x=>hashStr w x
theorem HC:∀ {k:AZ} {v:Value},K3 k v=true->(∃ i t,k=Sum.inl i/\v=Value.int i t)\/(∃ x t,k=Sum.inr x/\v=Value.str x t)
 | .inl i,v,h=>by
  obtain⟨t,e⟩:=Value.isInt_shape (k:=i) (v:=v) h
  exact .inl ⟨i,t,rfl,e⟩
 | .inr x,v,h=>by
  obtain⟨t,e⟩:=Value.isStrOf_shape (x:=x) (v:=v) h
  exact .inr ⟨x,t,rfl,e⟩
theorem lW(i:Int)(t:Tok):K3 (.inl i) (.int i t)=true:=by simp[K3,Value.isInt]
theorem lX(x:Str)(t:Tok):K3 (.inr x) (.str x t)=true:=by simp[K3,Value.isStrOf]
theorem lY(a b:Int):decide ((Sum.inl a:AZ)=Sum.inl b)=(a == b):=by
 by_cases e:a=b
 ·subst e;simp
 ·have h:¬ (Sum.inl a:AZ)=Sum.inl b:=λq=>e (Sum.inl.inj q)
  rw[decide_eq_false h]
  exact(beq_eq_false_iff_ne.mpr e).symm
theorem lZ(a b:Str):decide ((Sum.inr a:AZ)=Sum.inr b)=decide (a=b):=by
 by_cases e:a=b
 ·subst e;simp
 ·have h:¬ (Sum.inr a:AZ)=Sum.inr b:=λq=>e (Sum.inr.inj q)
  rw[decide_eq_false h,decide_eq_false e]
theorem l8(a:Int)(b:Str):decide ((Sum.inl a:AZ)=Sum.inr b)=false:=decide_eq_false (λq=>nomatch q)
theorem l9(a:Str)(b:Int):decide ((Sum.inr a:AZ)=Sum.inl b)=false:=decide_eq_false (λq=>nomatch q)
def DP(prog:Program)(w:World):PySem.KeyKind prog w AZ where
 is:=K3
 hash:=lV w
 inj:=λv a b ha hb=>by
  rcases HC ha with⟨i,t,rfl,rfl⟩ | ⟨x,t,rfl,rfl⟩
  ·rcases HC hb with⟨j,u,rfl,e⟩ | ⟨y,u,rfl,e⟩
   ·injection e with e1 _;rw[e1]
   ·exact nomatch e
  ·rcases HC hb with⟨j,u,rfl,e⟩ | ⟨y,u,rfl,e⟩
   ·exact nomatch e
   ·injection e with e1 _;rw[e1]
 byValue:=λk v h=>by
  rcases HC h with⟨i,t,rfl,rfl⟩ | ⟨x,t,rfl,rfl⟩<;>rfl
 pyHash:=λhv h=>by
  rcases HC hv with⟨i,t,rfl,rfl⟩ | ⟨x,t,rfl,rfl⟩
  ·exact wpAny_pyHash_int h
  ·exact wpAny_pyHash_str h
 eqBool:=λhu hv h=>by
  rcases HC hu with⟨i,t,rfl,rfl⟩ | ⟨x,t,rfl,rfl⟩
  ·rcases HC hv with⟨j,u,rfl,rfl⟩ | ⟨y,u,rfl,rfl⟩
   ·rw[lY]at h;exact wpAny_eqBool_int h
   ·rw[l8]at h;exact SeqAt.EqAt.int_str i t y u _ _ _ _ h
  ·rcases HC hv with⟨j,u,rfl,rfl⟩ | ⟨y,u,rfl,rfl⟩
   ·rw[l9]at h;exact SeqAt.EqAt.str_int x t j u _ _ _ _ h
   ·rw[lZ]at h;exact wpAny_eqBool_str h
 «strs» :=λk x t v h=>by
  rcases HC h with⟨i,u,rfl,e⟩ | ⟨y,u,rfl,e⟩
  ·exact nomatch e
  ·injection e with e1 _
   subst e1
   cases v<;>rfl
theorem mB(prog:Program)(w:World)(i:Int)(t:Tok):(DP prog w).is (.inl i) (.int i t)=true:=lW i t
theorem mC(prog:Program)(w:World)(x:Str)(t:Tok):(DP prog w).is (.inr x) (.str x t)=true:=lX x t
end L2
namespace L2
inductive V where
 | non | bl (b:Bool) | int (i:Int) | str (x:Str) | byt (b:Array UInt8) | flt (b:UInt64) | ref (a:Addr) | ty (n:String)
 deriving DecidableEq
def RelV:V->Value->Prop
 | .non,u=>u=Value.none
 | .bl b,u=>u=Value.bool b
 | .int i,u=>∃ t,u=Value.int i t
 | .str x,u=>∃ t,u=Value.str x t
 | .byt b,u=>∃ t,u=Value.bytes b t
 | .flt b,u=>∃ t,u=Value.float b t
 | .ref a,u=>u=Value.ref a
 | .ty n,u=>u=Value.type n
abbrev Vals:List V->List Value->Prop:=Paired RelV
theorem Vals.length{xs:List V}{us:List Value}(r:Vals xs us):xs.length=us.length:=Paired.length r
theorem Vals.get:∀ {xs:List V} {us:List Value} {i:Nat} {x:V},Vals xs us->xs[i]? =some x->∃ u,us[i]? =some u/\RelV x u
 | _,_,_,_,.nil,e=>by simp at e
 | _,_,0,_,.cons r _,e=>by simp at e;subst e;exact⟨_,rfl,r⟩
 | _,_,i+1,x,.cons _ t,e=>by
  obtain⟨u,h1,h2⟩:=Vals.get (i:=i) (x:=x) t (by simpa using e)
  exact⟨u,by simpa using h1,h2⟩
theorem Vals.set{x:V}{u:Value}(r:RelV x u):∀ {xs:List V} {us:List Value} (i:Nat),Vals xs us->Vals (xs.set i x) (us.set i u)
 | _,_,_,.nil=>.nil
 | _,_,0,.cons _ t=>.cons r t
 | _,_,i+1,.cons q t=>.cons q (Vals.set r i t)
theorem Vals.append:∀ {xs ys:List V} {us ws:List Value},Vals xs us->Vals ys ws->Vals (xs++ys) (us++ws)
 | _,_,_,_,.nil,s=>s
 | _,_,_,_,.cons r t,s=>.cons r (Vals.append t s)
theorem Vals.take:∀ {xs:List V} {us:List Value} (n:Nat),Vals xs us->Vals (xs.take n) (us.take n)
 | _,_,0,_=>.nil
 | _,_,_+1,.nil=>.nil
 | _,_,n+1,.cons r t=>.cons r (Vals.take n t)
theorem Vals.drop:∀ {xs:List V} {us:List Value} (n:Nat),Vals xs us->Vals (xs.drop n) (us.drop n)
 | _,_,0,r=>r
 | _,_,_+1,.nil=>.nil
 | _,_,n+1,.cons _ t=>Vals.drop n t
theorem Vals.none_of:∀ {xs:List V} {us:List Value} {i:Nat},Vals xs us->xs[i]? =none->us[i]? =none:=λ{xs us i} r e=>by
 have h1:=r.length
 have h2:xs.length<=i:=List.getElem?_eq_none_iff.mp e
 exact List.getElem?_eq_none_iff.mpr (by omega)
def RelO:Option V->Option Value->Prop
 | some v,some u=>RelV v u
 | none,none=>True
 | _,_=>False
def KV{κ :Type}:List (κ × V)->List (κ × Value)->Prop:=Paired λ(p: κ × V) (q: κ × Value)=>p.1=q.1/\RelV p.2 q.2
def kV:AZ->V
 | .inl i=>.int i
 | .inr x=>.str x
inductive HO where
 /-- a list -/
 | lst (xs:List V)
 /-- a tuple (never changes) -/
 | tup (xs:List V)
 /-- a dict whose keys are ints and texts;one whose keys are tuples of ints and texts (the empty one is both) -/
 | dK (kvs:List (AZ × V)) | dT (kvs:List (List AZ × V))
 /-- a set of ints: its members,its size -/
 | set (S:Int->Bool) (n:Nat)
 /-- an instance of the class at C,its dict at dx,its attributes -/
 | ins (C dx:Addr) (fs:List (Str × V))
 /-- the dict of the instance at x -/
 | own (x:Addr)
 /-- the dict of an exception -/
 | xd (fs:List (Str × V))
 /-- a bound method,f of x -/
 | met (f x:Addr)
 /-- a range object lo,lo+1,.. below hi -/
 | rng (lo hi:Int)
 /-- a thing that is known to the object (the script;a dict while a loop walks it): read,never written while it is so -/
 | frz (o:Obj) (u:HO)
 /-- a code object's table -/
 | tbl (ps:Array Value)
 /-- any other thing,by what is true of its one object (a def of one's own: SetO a S n:=HO.ext λh=>..) -/
 | ext (φ :Heap->Prop)
abbrev Hp:=Addr->Option HO
def upd(H:Hp)(a:Addr)(o:HO):Hp:=λb=>if b=a then some o else H b
theorem AS{H:Hp}{a:Addr}{o:HO}:upd H a o a=some o:=by unfold upd;rw[if_pos rfl]
theorem AT{H:Hp}{a b:Addr}{o:HO}(h:b≠a):upd H a o b=H b:=by unfold upd;rw[if_neg h]
theorem NC{H:Hp}{a:Addr}{o u:HO}:upd (upd H a o) a u=upd H a u:=by
 funext b;unfold upd;split<;>rfl
theorem C5{H:Hp}{a b:Addr}{o u:HO}(h:H a=some o)(h':H b=some u)(d:o≠u):a≠b:=by
 intro e;subst e;rw[h]at h';exact d (Option.some.inj h')
theorem BE{H:Hp}{a b:Addr}{o:HO}(h:H a=some o)(h':H b=none):a≠b:=by
 intro e;subst e;rw[h]at h';cases h'
section
variable(P:Program)(w:World)
def ObjOk(H:Hp)(h:Heap)(a:Addr):HO->Prop
 | .lst xs=>xs.length<=sizeLine/\∃ (its:List Value) (n:Nat),Vals xs its/\h.get? a=some { cls:=.type "list",data:=.seq its.toArray n }
 | .tup xs=>xs.length<=sizeLine/\∃ its:List Value,Vals xs its/\IsTup h a its.toArray
 | .dK kvs=>kvs.length<=sizeLine/\(a == sysModules)=false/\∃ vs,KV kvs vs/\h.DictOf (DP P w) a vs
 | .dT kvs=>kvs.length<=sizeLine/\(a == sysModules)=false/\∃ xs:List (List AZ × Addr × Value),
   Paired (λ(p:List AZ × V) (q:List AZ × Addr × Value)=>p.1=q.1/\H q.2.1=some (.tup (p.1.map kV))/\RelV p.2 q.2.2) kvs xs ∧
   ∃ o es ep,h.get? a=some o/\o.ExactDict/\o.data=.dict es ep/\es.toList=xs.map (entryOfKey (tupleKind (DP P w)))/\(xs.map (·.1)).Nodup
 | .set S n=>h.SetOf (intKind P w) a S n
 | .ins C dx fs=>H dx=some (.own a)/\fs.length<=1000/\dx≠a/\h.get? a=some (W.instObj C dx) ∧
   ∃ mA,h.Ns1 dx mA/\(∀ f,RelO (fs.lookup f) (mA f))/\PySem.Within mA (fs.map (·.1))
 | .own _=>∃ o,h.get? a=some o
 | .xd fs=>∃ mA,h.Ns1 a mA/\∀ f,RelO (fs.lookup f) (mA f)
 | .rng lo hi=>∃ t u v,h.get? a=some { cls:=.type "range",data:=.fields #[.int lo t,.int hi u,.int 1 v] }
 | .frz o u=>h.get? a=some o/\ObjOk H h a u
 | .tbl ps=>h.get? a=some { cls:=.none,data:=.fields ps }
 | .met f x=>h.get? a=some (W.methodObj (.ref f) (.ref x))
 | .ext φ => φ h/\(∃ o,h.get? a=some o)/\∀ h1 h2:Heap,φ h1->(∀ o,h1.get? a=some o->h2.get? a=some o)-> φ h2
def HOk(H:Hp)(h:Heap):Prop:=∀ a o,H a=some o->ObjOk P w H h a o
end
section
variable{P:Program}{w:World}{H H':Hp}{h h':Heap}{a:Addr}{o:HO}
theorem ObjOk.lt(x:ObjOk P w H h a o):a<h.objs.size:=by
 cases o with
 | lst xs=>obtain⟨_,_,_,_,e⟩:=x;exact Heap.lt_size e
 | tup xs=>obtain⟨_,_,_,p⟩:=x;exact p.lt
 | dK kvs=>obtain⟨_,_,_,_,o,_,_,e,_⟩:=x;exact Heap.lt_size e
 | dT kvs=>obtain⟨_,_,_,_,o,_,_,e,_⟩:=x;exact Heap.lt_size e
 | set S n=>obtain⟨o,_,_,_,e,_⟩:=x;exact Heap.lt_size e
 | ins C dx fs=>obtain⟨_,_,_,e,_⟩:=x;exact Heap.lt_size e
 | own y=>obtain⟨_,e⟩:=x;exact Heap.lt_size e
 | xd fs=>obtain⟨_,⟨_,_,_,e,_⟩,_⟩:=x;exact Heap.lt_size e
 | rng lo hi=>obtain⟨_,_,_,e⟩:=x;exact Heap.lt_size e
 | frz ob u=>obtain⟨e,_⟩:=x;exact Heap.lt_size e
 | tbl ps=>exact Heap.lt_size (show h.get? a=some _ from x)
 | met f y=>exact Heap.lt_size (show h.get? a=some _ from x)
 | ext φ =>obtain⟨_,⟨_,e⟩,_⟩:=x;exact Heap.lt_size e
theorem Paired.mapP{α β :Type}{F G: α -> β ->Prop}:∀ {l₁:List α} {l₂:List β},Paired F l₁ l₂->(∀ a b,F a b->G a b)->Paired G l₁ l₂
 | _,_,.nil,_=>.nil
 | _,_,.cons r t,f=>.cons (f _ _ r) (Paired.mapP t f)
theorem ObjOk.stay(x:ObjOk P w H h a o)(k:∀ b u,(b=a\/H b=some (.own a))->h.get? b=some u->h'.get? b=some u)
  (ho:∀ b,H b=some (.own a)->H' b=some (.own a)) (ht:∀ b xs,H b=some (.tup xs)->H' b=some (.tup xs)):ObjOk P w H' h' a o:=by
 induction o with
 | lst xs=>obtain⟨z,its,n,r,e⟩:=x;exact⟨z,its,n,r,k _ _ (.inl rfl) e⟩
 | tup xs=>obtain⟨z,its,r,ob,e,c⟩:=x;exact⟨z,its,r,ob,k _ _ (.inl rfl) e,c⟩
 | dK kvs=>obtain⟨z,y,vs,r,ob,es,ep,e,c⟩:=x;exact⟨z,y,vs,r,ob,es,ep,k _ _ (.inl rfl) e,c⟩
 | dT kvs =>
  obtain⟨z,y,xs,r,ob,es,ep,e,c⟩:=x
  exact⟨z,y,xs,Paired.mapP r λp q z=>⟨z.1,ht _ _ z.2.1,z.2.2⟩,ob,es,ep,k _ _ (.inl rfl) e,c⟩
 | set S n=>obtain⟨ob,es,ep,t,e,c⟩:=x;exact⟨ob,es,ep,t,k _ _ (.inl rfl) e,c⟩
 | ins C dx fs =>
  obtain⟨d,z,ne,e,mA,⟨od,es,ep,e2,c⟩,r⟩:=x
  exact⟨ho _ d,z,ne,k _ _ (.inl rfl) e,mA,⟨od,es,ep,k _ _ (.inr d) e2,c⟩,r⟩
 | own y=>obtain⟨ob,e⟩:=x;exact⟨ob,k _ _ (.inl rfl) e⟩
 | xd fs=>obtain⟨mA,⟨od,es,ep,e,c⟩,r⟩:=x;exact⟨mA,⟨od,es,ep,k _ _ (.inl rfl) e,c⟩,r⟩
 | rng lo hi=>obtain⟨t,u,v,e⟩:=x;exact⟨t,u,v,k _ _ (.inl rfl) e⟩
 | frz ob u ih=>obtain⟨e,q⟩:=x;exact⟨k _ _ (.inl rfl) e,ih q⟩
 | tbl ps =>
  have e:h.get? a=some { cls:=.none,data:=.fields ps }:=x
  show h'.get? a=some { cls:=.none,data:=.fields ps }
  exact k a _ (.inl rfl) e
 | met f y =>
  have e:h.get? a=some (W.methodObj (.ref f) (.ref y)):=x
  show h'.get? a=some (W.methodObj (.ref f) (.ref y))
  exact k a _ (.inl rfl) e
 | ext φ =>obtain⟨p,⟨o,e⟩,st⟩:=x;exact⟨st _ _ p λo q=>k _ _ (.inl rfl) q,⟨o,k _ _ (.inl rfl) e⟩,st⟩
theorem HOk.lt(x:HOk P w H h)(e:H a=some o):a<h.objs.size:=(x a o e).lt
theorem HOk.fresh(x:HOk P w H h)(e:h.objs.size<=a):H a=none:=by
 cases q:H a with
 | none=>rfl
 | some u=>exact absurd (Nat.lt_of_lt_of_le (x.lt q) e) (Nat.lt_irrefl _)
theorem HOk.kept(x:HOk P w H h)(k:∀ b u,h.get? b=some u->h'.get? b=some u):HOk P w H h':=λa o e =>
 (x a o e).stay (λb u _ q=>k b u q) (λ_ q=>q) λ_ _ q=>q
theorem HOk.laid(x:HOk P w H h)(k:∀ b u,h.get? b=some u->h'.get? b=some u)(hp:h.objs.size<=a)(new:ObjOk P w (upd H a o) h' a o):HOk P w (upd H a o) h':=λb u e=>by
 have hn:=x.fresh hp
 by_cases hb:b=a
 ·subst hb;rw[AS]at e;cases e;exact new
 ·rw[AT hb]at e
  exact(x b u e).stay (λc v _ q=>k c v q) (λc q=>by rw[AT (BE q hn)];exact q) λc xs q=>by rw[AT (BE q hn)];exact q
end
def Rd(H:Hp)(a:Addr)(u:HO):Prop:=H a=some u\/∃ o,H a=some (.frz o u)
theorem Rd.of{H:Hp}{a:Addr}{u:HO}(h:H a=some u):Rd H a u:=.inl h
theorem Rd.ok{P:Program}{w:World}{H:Hp}{h:Heap}{a:Addr}{u:HO}(r:Rd H a u)(x:HOk P w H h):ObjOk P w H h a u:=by
 rcases r with r | ⟨o,r⟩
 ·exact x a u r
 ·obtain⟨_,q⟩:=x a _ r
  exact q
def ND:Option HO->Prop
 | some (.lst _)=>True
 | some (.dK _)=>True
 | some (.dT _)=>True
 | some (.set _ _)=>True
 | some (.ins _ _ _)=>True
 | some (.ext _)=>True
 | _=>False
section
variable{P:Program}{w:World}{H:Hp}{h h':Heap}{x e:Addr}{o':HO}
theorem HOk.write(ok:HOk P w H h)(mu:ND (H x))(he:e=x\/H e=some (.own x))(k:∀ b u,b≠e->h.get? b=some u->h'.get? b=some u)(heo:∃ u,h'.get? e=some u)
  (new:ObjOk P w (upd H x o') h' x o'):HOk P w (upd H x o') h':=λb u q=>by
 have nown:∀ c y,H c=some (.own y)->c≠x:=λc y r z=>by subst z;rw[r]at mu;exact mu
 have ntup:∀ c xs,H c=some (.tup xs)->c≠x:=λc xs r z=>by subst z;rw[r]at mu;exact mu
 by_cases hb:b=x
 ·subst hb;rw[AS]at q;cases q;exact new
 ·rw[AT hb]at q
  by_cases hbe:b=e
  ·have q':H b=some (.own x):=by
    rcases he with z | z
    ·exact absurd (hbe.trans z) hb
    ·rw[hbe];exact z
   rw[q]at q';cases q'
   obtain⟨v,hv⟩:=heo
   exact⟨v,by rw[hbe];exact hv⟩
  ·refine(ok b u q).stay (λc v hc r=>k c v ?_ r) (λc r=>by rw[AT (nown c b r)];exact r) λc xs r=>by rw[AT (ntup c xs r)];exact r
   rcases hc with rfl | hc
   ·exact hbe
   ·rintro rfl
    rcases he with z | z
    ·exact nown c b hc z
    ·rw[hc]at z;cases z;exact hb rfl
end
structure Un(fs ex:List Addr)(H H':Hp)(h h':Heap):Prop where
 keep:∀ b o,h.get? b=some o->H b=none->b∉fs->b∉ex->h'.get? b=some o
 slot:∀ b o,h.get? b=some o->H b=none->b∈fs->b∉ex->∃ sl,h'.get? b=some { o with slots:=sl }
 free:∀ b o,h.get? b=some o->H b=none->b∉ex->H' b=none
 there:∀ b o,h.get? b=some o->b∉ex->∃ o',h'.get? b=some o'
 tups:∀ b xs,H b=some (.tup xs)->H' b=some (.tup xs)
 frzs:∀ b o u,H b=some (.frz o u)->H' b=some (.frz o u)
 tbls:∀ b ps,H b=some (.tbl ps)->∃ more,H' b=some (.tbl (ps++more))
section
variable{fs fs' ex ex':List Addr}{H H1 H2:Hp}{h h1 h2 h':Heap}{a x e:Addr}{o:HO}
theorem Un.any(u:Un fs ex H H1 h h1){b:Addr}{ob:Obj}(q:h.get? b=some ob)(n:H b=none)(hx:b∉ex):∃ sl,h1.get? b=some { ob with slots:=sl }:=by
 by_cases hb:b∈fs
 ·exact u.slot b ob q n hb hx
 ·exact⟨ob.slots,u.keep b ob q n hb hx⟩
theorem Un.trans(a:Un fs ex H H1 h h1)(b:Un fs ex H1 H2 h1 h2):Un fs ex H H2 h h2 where
 keep:=λc ob q n hc hx=>b.keep c ob (a.keep c ob q n hc hx) (a.free c ob q n hx) hc hx
 slot:=λc ob q n hc hx=>by
  obtain⟨sl,e1⟩:=a.slot c ob q n hc hx
  obtain⟨sl',e2⟩:=b.slot c _ e1 (a.free c ob q n hx) hc hx
  exact⟨sl',e2⟩
 free:=λc ob q n hx=>by
  obtain⟨o',e1⟩:=a.there c ob q hx
  exact b.free c o' e1 (a.free c ob q n hx) hx
 there:=λc ob q hx=>by
  obtain⟨o',e1⟩:=a.there c ob q hx
  exact b.there c o' e1 hx
 tups:=λc xs q=>b.tups c xs (a.tups c xs q)
 frzs:=λc ob xs q=>b.frzs c ob xs (a.frzs c ob xs q)
 tbls:=λc ps q=>by
  obtain⟨m1,e1⟩:=a.tbls c ps q
  obtain⟨m2,e2⟩:=b.tbls c _ e1
  exact⟨m1++m2,by rw[e2,Array.append_assoc]⟩
theorem Un.kept(k:∀ b u,h.get? b=some u->h'.get? b=some u):Un fs ex H H h h' :=
 ⟨λb ob q _ _ _=>k b ob q,λb ob q _ _ _=>⟨ob.slots,k b ob q⟩,λ_ _ _ n _=>n,λb ob q _=>⟨ob,k b ob q⟩,λ_ _ q=>q,λ_ _ _ q=>q,λ_ ps q=>⟨#[],by rw[q];simp⟩⟩
theorem Un.refl:Un fs ex H H h h:=Un.kept λ_ _ q=>q
theorem Un.laid(k:∀ b u,h.get? b=some u->h'.get? b=some u)(hp:h.objs.size<=a)(hn:H a=none):Un fs ex H (upd H a o) h h' where
 keep:=λb u q _ _ _=>k b u q
 slot:=λb u q _ _ _=>⟨u.slots,k b u q⟩
 free:=λb u q n _=>by rw[AT (Nat.ne_of_lt (Nat.lt_of_lt_of_le (Heap.lt_size q) hp))];exact n
 there:=λb u q _=>⟨u,k b u q⟩
 tups:=λb xs q=>by rw[AT (BE q hn)];exact q
 frzs:=λb u xs q=>by rw[AT (BE q hn)];exact q
 tbls:=λb ps q=>⟨#[],by rw[AT (BE q hn),q];simp⟩
theorem Un.write(mu:ND (H x))(he:e=x\/H e=some (.own x))(k:∀ b u,b≠e->h.get? b=some u->h'.get? b=some u)(heo:∃ u,h'.get? e=some u):Un fs ex H (upd H x o) h h':=by
 have hx:∀ b,H b=none->b≠x:=λb n z=>by subst z;rw[n]at mu;exact mu
 have hb:∀ b,H b=none->b≠e:=λb n z=>by
  subst z
  rcases he with r | r
  ·exact hx b n r
  ·rw[n]at r;cases r
 have hm:∀ b u,H b=some u->¬ ND (some u)->b≠x:=λb u q nm z=>by subst z;rw[q]at mu;exact nm mu
 refine⟨λb u q n _ _=>k b u (hb b n) q,λb u q n _ _=>⟨u.slots,k b u (hb b n) q⟩,λb u q n _=>by rw[AT (hx b n)];exact n,λb u q _=> ?_,
  λb xs q=>by rw[AT (hm b _ q λz=>z)];exact q,λb u xs q=>by rw[AT (hm b _ q λz=>z)];exact q,λb ps q=>⟨#[],by rw[AT (hm b _ q λz=>z),q];simp⟩⟩
 by_cases hbe:b=e
 ·subst hbe;exact heo
 ·exact⟨u,k b u hbe q⟩
theorem Un.mono(u:Un fs ex H H1 h h1)(hs:∀ b∈fs,b∈fs')(hx:∀ b∈ex,b∈ex'):Un fs' ex' H H1 h h1 :=
 ⟨λb ob q n hb he=>u.keep b ob q n (λz=>hb (hs b z)) λz=>he (hx b z),λ_ _ q n _ he=>u.any q n λz=>he (hx _ z),λb ob q n he=>u.free b ob q n λz=>he (hx b z),λb ob q he=>u.there b ob q λz=>he (hx b z),u.tups,u.frzs,u.tbls⟩
end
def PN(h:Heap)(H:Hp):List Addr:=(List.range h.objs.size).filter λa=>(H a).isSome
def HD(h:Heap)(H:Hp):Heap:=W.hideAll h (PN h H)
theorem mD(h:Heap)(H:Hp):(HD h H).objs.size=h.objs.size:=W.hideAll_size _ _
theorem mE{h:Heap}{H:Hp}{b:Addr}{o:Obj}(e:h.get? b=some o)(n:H b=none):(HD h H).get? b=some o :=
 W.hideAll_get _ e λhm=>by
  have q:(H b).isSome=true:=(List.mem_filter.mp hm).2
  rw[n]at q;simp at q
theorem mF{h:Heap}{H:Hp}{b:Addr}{o:Obj}(e:(HD h H).get? b=some o):h.get? b=some o/\H b=none:=by
 have e':h.get? b=some o:=W.of_hideAll (PN h H) e
 refine⟨e',?_⟩
 cases q:H b with
 | none=>rfl
 | some x =>
  have hm:b∈PN h H:=List.mem_filter.mpr ⟨List.mem_range.mpr (Heap.lt_size e'),by simp[q]⟩
  have z:(HD h H).get? b=none:=W.hideAll_none (PN h H) hm
  rw[z]at e;cases e
def mG(g h:Heap)(L:Addr):List (Addr × Obj):=(List.range h.objs.size).filterMap λa=>if a=L\/(g.get? a).isSome=true then none else(h.get? a).map λo=>(a,o)
def DQ(g h:Heap)(L d:Addr):List (Addr × Obj):=(mG g h L).filter λp=>decide (p.1≠d)
end L2
namespace L2
structure Mod(K:W.Frag)(mg:Str->Option Value)(base:Heap):Prop where
 kin:K.In base
 glob:base.Ns mainGlobals mg
 blt:∃ mb,base.Ns builtinsNs mb/\∀ x:Str,x≠"__name__"->mb x=bootBuiltins x
 nolimit:base.NoLimit
structure Cx where
 prog:Program
 w:World
 K:W.Frag
 mg:Str->Option Value
 base:Heap
 A:Around
 N:List Str
 s₀:Shared
 H₀:Hp
 env:Env
 outer:List Env
 stack:List Env
 ex:List Addr
 fn:Str->Bool
 calm:Bool
 pn:List (Addr × Obj)
 xe:Value->Shared->Prop
def DW(l:List Env):List Addr:=l.filterMap (·.frame)
abbrev Cx.fs(X:Cx):List Addr:=DW X.outer
def PP(sc:Scope)(x:Str):Prop:=sc.names.lookup x=some .local\/sc.names.lookup x=some .cell\/sc.names.lookup x=some .free
def K4(sc:Scope)(x:Str):Prop:=sc.names.lookup x=some .local\/sc.names.lookup x=some .cell
def mH(env:Env)(h:Heap)(m:Str->Option Value)(x:Str)(u:Value):Prop :=
 (env.kindOf x=some .local/\m x=some u)\/((env.kindOf x=some .cell\/env.kindOf x=some .free)/\∃ c,env.cells.lookup x=some c/\h.IsCell c (some u))
structure Cx.Ok(X:Cx):Prop where
 mod:Mod X.K X.mg X.base
 kind:X.env.scope.kind=.function
 glob:X.env.globals=mainGlobals
 blt:X.env.builtins=builtinsNs
 above:X.s₀.heap.objs.size<=X.env.locals
 inj:∀ x y c,X.env.cells.lookup x=some c->X.env.cells.lookup y=some c->x=y
 has:∀ x,(X.env.kindOf x=some .cell\/X.env.kindOf x=some .free)->∃ c,X.env.cells.lookup x=some c
 cab:∀ x c,X.fn x=true->X.env.cells.lookup x=some c->X.s₀.heap.objs.size<=c
 hd:X.calm=true->X.A.handled=none
 frames:X.A.frames=some X.stack
 stk:X.stack=X.outer\/(X.stack=X.env::X.outer/\X.env.frame=some X.env.locals)
 exf:∀ b∈X.ex,b≠X.env.locals/\∀ x c,X.env.cells.lookup x=some c->c≠b
 bs:∀ b o,X.base.get? b=some o->X.s₀.heap.get? b=some o/\X.H₀ b=none
 bsz:X.base.objs.size<=X.s₀.heap.objs.size
 noex:∀ b o,X.base.get? b=some o->b∉X.ex
 exfs:∀ b∈X.ex,b∉X.fs
 funs:X.s₀.heap.FunFrames X.base X.outer
 frf:∀ b∈X.fs,X.H₀ b=none
structure Inv(X:Cx)(pins:List (Addr × Obj))(σ:List (Option V))(H:Hp)(s:Shared):Prop where
 ok:X.Ok
 os:s.os=X.s₀.os
 bare:AllBare s.gens
 base:Un X.fs X.ex X.H₀ H X.s₀.heap s.heap
 loc:∃ m,s.heap.Ns X.env.locals m/\∀ (i:Nat) (x:Str) (v:V),X.N[i]? =some x->σ[i]? =some (some v)->PP X.env.scope x->∃ u,RelV v u/\mH X.env s.heap m x u
 cell:∀ x c,X.env.cells.lookup x=some c->∃ v,s.heap.IsCell c v
 free:H X.env.locals=none
 freeC:∀ x c,X.env.cells.lookup x=some c->H c=none
 pin:∀ p∈X.pn++pins,s.heap.get? p.1=some p.2/\H p.1=none/\p.1≠X.env.locals/\p.1∉X.fs/\∀ v,p.2.data≠.cell v
 hok:HOk X.prog X.w H s.heap
 len:σ.length=X.N.length
section
variable{X:Cx}{pins:List (Addr × Obj)}{σ:List (Option V)}{H H':Hp}{s:Shared}{h':Heap}
theorem Cx.Ok.nofr(ok:X.Ok){b:Addr}{o:Obj}(e:X.base.get? b=some o):b∉X.fs:=λhb=>by
 have:=(ok.funs.mem hb).1
 rw[e]at this;cases this
theorem Inv.bs(I:Inv X pins σ H s):∀ b o,X.base.get? b=some o->s.heap.get? b=some o/\H b=none:=λb o e =>
 ⟨I.base.keep b o (I.ok.bs b o e).1 (I.ok.bs b o e).2 (I.ok.nofr e) (I.ok.noex b o e),I.base.free b o (I.ok.bs b o e).1 (I.ok.bs b o e).2 (I.ok.noex b o e)⟩
theorem Inv.bk(I:Inv X pins σ H s):∀ b o,X.base.get? b=some o->s.heap.get? b=some o:=λb o e=>(I.bs b o e).1
theorem Inv.mod(I:Inv X pins σ H s):Mod X.K X.mg X.base:=I.ok.mod
theorem Inv.kIn(I:Inv X pins σ H s):X.K.In s.heap:=I.ok.mod.kin.keeps I.bk
theorem Inv.nolimit(I:Inv X pins σ H s):s.heap.NoLimit:=I.ok.mod.nolimit.keeps I.bk
theorem Inv.fr(I:Inv X pins σ H s):∃ m,Fr X.base X.env.locals s.heap m :=
 let ⟨m,hn,_⟩:=I.loc
 ⟨m,hn,I.bk,Nat.le_trans I.ok.bsz I.ok.above⟩
theorem Inv.lt(I:Inv X pins σ H s):X.env.locals<s.heap.objs.size:=let ⟨_,hn,_⟩:=I.loc;hn.lt
theorem Inv.sz(I:Inv X pins σ H s):X.s₀.heap.objs.size<=s.heap.objs.size:=Nat.le_trans I.ok.above (Nat.le_of_lt I.lt)
theorem Inv.nofs(I:Inv X pins σ H s){a:Addr}(h:s.heap.objs.size<=a):a∉X.fs:=λhb=>by
 obtain⟨_,o,ho,_⟩:=I.ok.funs.mem hb
 exact absurd (Nat.lt_of_lt_of_le (Heap.lt_size ho) (Nat.le_trans I.sz h)) (Nat.lt_irrefl _)
theorem Inv.cne(I:Inv X pins σ H s):∀ x c,X.env.cells.lookup x=some c->c≠X.env.locals:=λx c e z=>by
 obtain⟨v,o,ho,hd⟩:=I.cell x c e
 obtain⟨m,⟨o',es,ep,ho',hd',_⟩,_⟩:=I.loc
 rw[z,ho']at ho;cases ho;rw[hd']at hd;cases hd
theorem Inv.funs(I:Inv X pins σ H s):s.heap.FunFrames X.base X.outer:=by
 have all:∀ (l:List Env),(∀ b∈DW l,b∈X.fs)->X.s₀.heap.FunFrames X.base l->s.heap.FunFrames X.base l:=by
  intro l
  induction l with
  | nil=>intro _ _;trivial
  | cons env r ih =>
   intro hs hl
   obtain⟨hk,⟨L,o,hf,hn,ho,hd⟩,hr⟩:=hl
   have hL:L∈X.fs:=hs L (by unfold DW;rw[List.filterMap_cons,hf];exact List.mem_cons_self)
   obtain⟨sl,e⟩:=I.base.slot L o ho (I.ok.frf L hL) hL λz=>I.ok.exfs L z hL
   exact⟨hk,⟨L,_,hf,hn,e,hd⟩,ih (λb hb=>hs b (by unfold DW;rw[List.filterMap_cons,hf];exact List.mem_cons_of_mem _ hb)) hr⟩
 exact all X.outer (λ_ hb=>hb) I.ok.funs
theorem Inv.stack(I:Inv X pins σ H s):s.heap.FunFrames X.base X.stack:=by
 rcases I.ok.stk with e | ⟨e,hf⟩
 ·rw[e];exact I.funs
 ·rw[e]
  obtain⟨m,hn,_⟩:=I.loc
  refine .cons (by rw[I.ok.kind];decide) hf hn ?_ I.funs
  exact Heap.get?_none_of_le (Nat.le_trans I.ok.bsz I.ok.above)
theorem Inv.stkSub(I:Inv X pins σ H s):∀ b∈DW X.stack,b∈X.env.locals::X.fs:=λb hb=>by
 rcases I.ok.stk with e | ⟨e,hf⟩
 ·rw[e]at hb;exact List.mem_cons_of_mem _ hb
 ·rw[e]at hb
  unfold DW at hb
  rw[List.filterMap_cons,hf]at hb
  exact hb
theorem Inv.stkFree(I:Inv X pins σ H s):∀ b∈DW X.stack,H b=none:=λb hb=>by
 rcases List.mem_cons.mp (I.stkSub b hb)with e | hb
 ·rw[e];exact I.free
 ·obtain⟨_,o,ho,_⟩:=I.ok.funs.mem hb
  exact I.base.free b o ho (I.ok.frf b hb) λz=>I.ok.exfs b z hb
theorem Inv.step{g':Array GenState}{t':Nat}{d':Drawn}{ch:List Addr}(I:Inv X pins σ H s)
  (hch:∀ b∈ch,(b∈X.ex\/X.s₀.heap.objs.size<=b)/\b≠X.env.locals/\(∀ x c,X.env.cells.lookup x=some c->c≠b)/\∀ p∈X.pn++pins,p.1≠b)
  (keep:∀ b o,b≠X.env.locals->b∉X.fs->b∉ch->s.heap.get? b=some o->H b=none->h'.get? b=some o)
  (slot:∀ b o,b≠X.env.locals->b∈X.fs->b∉ch->s.heap.get? b=some o->H b=none->∃ sl,h'.get? b=some { o with slots:=sl }) (free:∀ b o,b∉ch->s.heap.get? b=some o->H b=none->H' b=none)
  (there:∀ b o,b∉ch->s.heap.get? b=some o->∃ o',h'.get? b=some o')
  (tups:∀ b xs,H b=some (.tup xs)->H' b=some (.tup xs)) (frzs:∀ b o u,H b=some (.frz o u)->H' b=some (.frz o u)) (tbls:∀ b ps,H b=some (.tbl ps)->∃ more,H' b=some (.tbl (ps++more)))
  (ns:∀ m,s.heap.Ns X.env.locals m->h'.Ns X.env.locals m) (hok:HOk X.prog X.w H' h') (hg:AllBare g') :
  Inv X pins σ H' { s with heap:=h',gens:=g',drawn:=d',toks:=t' }:=by
 have neL:∀ b o,X.s₀.heap.get? b=some o->b≠X.env.locals:=λb o e=>Nat.ne_of_lt (Nat.lt_of_lt_of_le (Heap.lt_size e) I.ok.above)
 have neC:∀ b o,X.s₀.heap.get? b=some o->b∉X.ex->b∉ch:=λb o e hx hb=>by
  rcases(hch b hb).1 with z | z
  ·exact hx z
  ·exact absurd (Nat.lt_of_lt_of_le (Heap.lt_size e) z) (Nat.lt_irrefl _)
 have cellK:∀ x c,X.env.cells.lookup x=some c->∀ v,s.heap.IsCell c v->h'.IsCell c v:=λx c e v ⟨o,ho,hd⟩=>by
  have nch:c∉ch:=λz=>(hch c z).2.2.1 x c e rfl
  by_cases hc:c∈X.fs
  ·obtain⟨sl,q⟩:=slot c o (I.cne x c e) hc nch ho (I.freeC x c e)
   exact⟨_,q,hd⟩
  ·exact⟨o,keep c o (I.cne x c e) hc nch ho (I.freeC x c e),hd⟩
 refine⟨I.ok,I.os,hg,⟨λb o e n hb hx=> ?_,λb o e n hb hx=> ?_,λb o e n hx=> ?_,λb o e hx=> ?_,λb xs e=>tups b xs (I.base.tups b xs e),λb o xs e=>frzs b o xs (I.base.frzs b o xs e),λb ps e=> ?_⟩,?_,λx c e=> ?_,?_,λx c e=> ?_,λp hp=> ?_,hok,I.len⟩
 ·exact keep b o (neL b o e) hb (neC b o e hx) (I.base.keep b o e n hb hx) (I.base.free b o e n hx)
 ·obtain⟨sl,e1⟩:=I.base.slot b o e n hb hx
  obtain⟨sl',e2⟩:=slot b _ (neL b o e) hb (neC b o e hx) e1 (I.base.free b o e n hx)
  exact⟨sl',e2⟩
 ·obtain⟨o',e1⟩:=I.base.there b o e hx
  exact free b o' (neC b o e hx) e1 (I.base.free b o e n hx)
 ·obtain⟨o',e1⟩:=I.base.there b o e hx
  exact there b o' (neC b o e hx) e1
 ·obtain⟨m1,e1⟩:=I.base.tbls b ps e
  obtain⟨m2,e2⟩:=tbls b _ e1
  exact⟨m1++m2,by rw[e2,Array.append_assoc]⟩
 ·obtain⟨m,hn,hl⟩:=I.loc
  refine⟨m,ns m hn,λi x v e1 e2 e3=> ?_⟩
  obtain⟨u,r,l⟩:=hl i x v e1 e2 e3
  refine⟨u,r,?_⟩
  rcases l with l | ⟨k,c,e,z⟩
  ·exact .inl l
  ·exact .inr ⟨k,c,e,cellK x c e _ z⟩
 ·obtain⟨v,z⟩:=I.cell x c e
  exact⟨v,cellK x c e v z⟩
 ·obtain⟨m,⟨o,_,_,ho,_⟩,_⟩:=I.loc
  exact free _ o (λz=>(hch _ z).2.1 rfl) ho I.free
 ·obtain⟨v,o,ho,hd⟩:=I.cell x c e
  exact free c o (λz=>(hch c z).2.2.1 x c e rfl) ho (I.freeC x c e)
 ·obtain⟨e,n,ne,nf,d⟩:=I.pin p hp
  have nch:p.1∉ch:=λz=>(hch p.1 z).2.2.2 p hp rfl
  exact⟨keep p.1 p.2 ne nf nch e n,free p.1 p.2 nch e n,ne,nf,d⟩
theorem Inv.un{t':Nat}(I:Inv X pins σ H s)(u:Un X.fs [] H H' s.heap h')(hok:HOk X.prog X.w H' h'):Inv X pins σ H' { s with heap:=h',toks:=t' }:=by
 obtain⟨m,⟨o,es,ep,ho,r⟩,_⟩:=id I.loc
 obtain⟨sl,hL⟩:=u.any ho I.free (by simp)
 exact I.step (g':=s.gens) (d':=s.drawn) (ch:=[]) (λ_ z=>nomatch z) (λb o _ hb _ e n=>u.keep b o e n hb (by simp)) (λb o _ hb _ e n=>u.slot b o e n hb (by simp)) (λb o _ e n=>u.free b o e n (by simp)) (λb o _ e=>u.there b o e (by simp)) u.tups u.frzs u.tbls (λm' hm=>by
  obtain⟨o',es',ep',ho',r'⟩:=hm
  rw[ho]at ho';cases ho'
  exact⟨_,es',ep',hL,r'⟩) hok I.bare
theorem Inv.call{g':Array GenState}{t':Nat}{d':Drawn}{ch:List Addr}(I:Inv X pins σ H s)(u:Un (DW X.stack) ch H H' s.heap h')(hok:HOk X.prog X.w H' h')(hg:AllBare g')
  (hch:∀ b∈ch,(b∈X.ex\/X.s₀.heap.objs.size<=b)/\b≠X.env.locals/\(∀ x c,X.env.cells.lookup x=some c->c≠b)/\∀ p∈X.pn++pins,p.1≠b) :
  Inv X pins σ H' { s with heap:=h',gens:=g',drawn:=d',toks:=t' }:=by
 obtain⟨m,⟨o,es,ep,ho,r⟩,_⟩:=id I.loc
 obtain⟨sl,hL⟩:=u.any ho I.free λz=>(hch _ z).2.1 rfl
 exact I.step (ch:=ch) hch (λb o hL hb hc e n=>u.keep b o e n (λz=>(List.mem_cons.mp (I.stkSub b z)).elim hL hb) hc) (λb o _ _ hc e n=>u.any e n hc) (λb o hc e n=>u.free b o e n hc) (λb o hc e=>u.there b o e hc) u.tups u.frzs u.tbls (λm' hm=>by
  obtain⟨o',es',ep',ho',r'⟩:=hm
  rw[ho]at ho';cases ho'
  exact⟨_,es',ep',hL,r'⟩) hok hg
theorem Inv.turned{t':Nat}{it:Addr}(I:Inv X pins σ H s)(k:∀ b o,b≠it->s.heap.get? b=some o->h'.get? b=some o)(hn:H it=none)(hL:it≠X.env.locals)
  (h1:it∈X.ex\/X.s₀.heap.objs.size<=it) (h2:∀ x c,X.env.cells.lookup x=some c->c≠it) (h3:∀ p∈X.pn++pins,p.1≠it):Inv X pins σ H { s with heap:=h',toks:=t' }:=by
 have nit:∀ b u,H b=some u->b≠it:=λb u e z=>by rw[z,hn]at e;cases e
 refine I.step (g':=s.gens) (d':=s.drawn) (ch:=[it]) (λb hb=> ?_) (λb o _ _ hc e _=>k b o (λz=>hc (by simp[z])) e) (λb o _ _ hc e _=>⟨o.slots,k b o (λz=>hc (by simp[z])) e⟩) (λ_ _ _ _ n=>n)
  (λb o hc e=>⟨o,k b o (λz=>hc (by simp[z])) e⟩) (λ_ _ e=>e) (λ_ _ _ e=>e) (λb ps e=>⟨#[],by rw[e];simp⟩) (λm hm=> ?_) (λb u e=> ?_) I.bare
 ·have e:b=it:=by simpa using hb
  subst e
  exact⟨h1,hL,h2,h3⟩
 ·obtain⟨o,es,ep,ho,r⟩:=hm
  exact⟨o,es,ep,k _ o (Ne.symm hL) ho,r⟩
 ·refine(I.hok b u e).stay (λc v hc q=>k c v ?_ q) (λ_ q=>q) λ_ _ q=>q
  rcases hc with z | z
  ·rw[z];exact nit b u e
  ·exact nit c _ z
theorem Inv.tok(I:Inv X pins σ H s)(t:Nat):Inv X pins σ H { s with toks:=t }:=I.un (h':=s.heap) (t':=t) Un.refl I.hok
theorem Inv.kept{t':Nat}(I:Inv X pins σ H s)(k:∀ b u,s.heap.get? b=some u->h'.get? b=some u):Inv X pins σ H { s with heap:=h',toks:=t' }:=I.un (Un.kept k) (I.hok.kept k)
theorem Inv.laid{a:Addr}{o:HO}{t':Nat}(I:Inv X pins σ H s)(k:∀ b u,s.heap.get? b=some u->h'.get? b=some u)(hp:s.heap.objs.size<=a)(new:ObjOk X.prog X.w (upd H a o) h' a o) :
  Inv X pins σ (upd H a o) { s with heap:=h',toks:=t' }:=I.un (Un.laid k hp (I.hok.fresh hp)) (I.hok.laid k hp new)
theorem Inv.write{x e:Addr}{o:HO}{t':Nat}(I:Inv X pins σ H s)(mu:ND (H x))(he:e=x\/H e=some (.own x))(k:∀ b u,b≠e->s.heap.get? b=some u->h'.get? b=some u)(heo:∃ u,h'.get? e=some u)
  (new:ObjOk X.prog X.w (upd H x o) h' x o):Inv X pins σ (upd H x o) { s with heap:=h',toks:=t' }:=I.un (Un.write mu he k heo) (I.hok.write mu he k heo new)
theorem Inv.pins_of{pins':List (Addr × Obj)}(I:Inv X pins σ H s)(h:∀ p∈pins',s.heap.get? p.1=some p.2/\H p.1=none/\p.1≠X.env.locals/\p.1∉X.fs/\∀ v,p.2.data≠.cell v):Inv X pins' σ H s :=
 ⟨I.ok,I.os,I.bare,I.base,I.loc,I.cell,I.free,I.freeC,λp hp=>(List.mem_append.mp hp).elim (λz=>I.pin p (List.mem_append_left _ z)) (h p),I.hok,I.len⟩
theorem XJ{N:List Str}(hN:N.Nodup){i j:Nat}{x:Str}(a:N[i]? =some x)(b:N[j]? =some x):i=j:=by
 obtain⟨h1,e1⟩:=List.getElem?_eq_some_iff.mp a
 obtain⟨h2,e2⟩:=List.getElem?_eq_some_iff.mp b
 exact(List.getElem_inj hN).mp (e1.trans e2.symm)
theorem XL{M:Model}{A:Around}{E:Value->Shared->Prop}{i:Nat}{x:Str}{v:V}{u:Value}{Q:Unit->Shared->Prop}(I:Inv X pins σ H s)(hN:X.N.Nodup)(hi:X.N[i]? =some x)(hx:K4 X.env.scope x)(r:RelV v u)
  (h:∀ s',Inv X pins (σ.set i (some v)) H s'->(∃ a,Heap.SameBut a s.heap s'.heap/\(a=X.env.locals\/X.env.cells.lookup x=some a))->Q () s') (hf:X.fn x=true\/X.env.scope.names.lookup x=some .local:=by first | exact .inl rfl | exact .inr rfl | assumption):wpAny M A (storeName X.env x u) Q E s:=by
 obtain⟨m,hn,hl⟩:=id I.loc
 have hcls:(X.env.scope.kind == .class || (X.env.scope.kind == .module && X.env.locals != X.env.globals))=false:=by rw[I.ok.kind];rfl
 have hiσ:i<σ.length:=by rw[I.len];exact(List.getElem?_eq_some_iff.mp hi).1
 have cne:=I.cne
 have tracked:∀ {a:Addr} {h':Heap},(∃ o,s.heap.get? a=some o/\H a=none)->Heap.SameBut a s.heap h'->HOk X.prog X.w H h':=λ{a h'} ha hs b ob e=>by
  obtain⟨_,_,hfree⟩:=ha
  refine(I.hok b ob e).stay (λc w' hc q=>(hs.2 c ?_).trans q) (λ_ q=>q) λ_ _ q=>q
  rintro rfl
  rcases hc with rfl | hc
  ·rw[hfree]at e;cases e
  ·rw[hfree]at hc;cases hc
 rcases hx with hk | hk
 ·refine wpAny_storeName_local hk hn (λh' hn' hs=> ?_) hcls
  obtain⟨oL,_,_,hoL,_⟩:=id hn
  refine h _ ⟨I.ok,I.os,I.bare,⟨λb o e n hb hx=> ?_,λb o e n hb hx=> ?_,I.base.free,λb o e hx=> ?_,I.base.tups,I.base.frzs,I.base.tbls⟩,⟨_,hn',λj y v' e1 e2 e3=> ?_⟩,λy c e=> ?_,I.free,I.freeC,λp hp=> ?_,tracked ⟨oL,hoL,I.free⟩ hs,by simpa using I.len⟩ ⟨_,hs,.inl rfl⟩
  ·exact(hs.2 b (Nat.ne_of_lt (Nat.lt_of_lt_of_le (Heap.lt_size e) I.ok.above))).trans (I.base.keep b o e n hb hx)
  ·obtain⟨sl,e1⟩:=I.base.slot b o e n hb hx
   exact⟨sl,(hs.2 b (Nat.ne_of_lt (Nat.lt_of_lt_of_le (Heap.lt_size e) I.ok.above))).trans e1⟩
  ·obtain⟨o',e1⟩:=I.base.there b o e hx
   exact⟨o',(hs.2 b (Nat.ne_of_lt (Nat.lt_of_lt_of_le (Heap.lt_size e) I.ok.above))).trans e1⟩
  ·by_cases hj:j=i
   ·subst hj
    rw[hi]at e1;cases e1
    rw[List.getElem?_set_self hiσ]at e2
    cases e2
    exact⟨u,r,.inl ⟨hk,by simp⟩⟩
   ·rw[List.getElem?_set_ne (Ne.symm hj)]at e2
    obtain⟨u',r',q⟩:=hl j y v' e1 e2 e3
    refine⟨u',r',?_⟩
    rcases q with⟨k,e⟩ | ⟨k,c,e,z⟩
    ·refine .inl ⟨k,?_⟩
     have:y≠x:=λe=>hj (XJ hN e1 (e ▸ hi))
     simp[this,e]
    ·exact .inr ⟨k,c,e,z.sameBut hs (cne y c e)⟩
  ·obtain⟨w',z⟩:=I.cell y c e
   exact⟨w',z.sameBut hs (cne y c e)⟩
  ·obtain⟨e,n,ne,nf,d⟩:=I.pin p hp
   exact⟨(hs.2 p.1 ne).trans e,n,ne,nf,d⟩
 ·have hfn:X.fn x=true:=by
   rcases hf with z | z
   ·exact z
   ·rw[z]at hk;cases hk
  obtain⟨c,hc⟩:=I.ok.has x (.inl hk)
  obtain⟨w',z⟩:=I.cell x c hc
  refine wpAny_storeName_cell I.ok.kind hk hc z (λh' hc' hs=> ?_)
  obtain⟨oc,hoc,hocd⟩:=id z
  refine h { s with heap:=h' } ⟨I.ok,I.os,I.bare,⟨λb o e n hb hx=> ?_,λb o e n hb hx=> ?_,I.base.free,λb o e hx=> ?_,I.base.tups,I.base.frzs,I.base.tbls⟩,⟨m,hn.sameBut hs (Ne.symm (cne x c hc)),λj y v' e1 e2 e3=> ?_⟩,λy c' e=> ?_,I.free,I.freeC,λp hp=> ?_,tracked ⟨oc,hoc,I.freeC x c hc⟩ hs,by simpa using I.len⟩ ⟨c,hs,.inr hc⟩
  ·exact(hs.2 b (Nat.ne_of_lt (Nat.lt_of_lt_of_le (Heap.lt_size e) (I.ok.cab x c hfn hc)))).trans (I.base.keep b o e n hb hx)
  ·obtain⟨sl,e1⟩:=I.base.slot b o e n hb hx
   exact⟨sl,(hs.2 b (Nat.ne_of_lt (Nat.lt_of_lt_of_le (Heap.lt_size e) (I.ok.cab x c hfn hc)))).trans e1⟩
  ·obtain⟨o',e1⟩:=I.base.there b o e hx
   exact⟨o',(hs.2 b (Nat.ne_of_lt (Nat.lt_of_lt_of_le (Heap.lt_size e) (I.ok.cab x c hfn hc)))).trans e1⟩
  ·by_cases hj:j=i
   ·subst hj
    rw[hi]at e1;cases e1
    rw[List.getElem?_set_self hiσ]at e2
    cases e2
    exact⟨u,r,.inr ⟨.inl hk,c,hc,hc'⟩⟩
   ·rw[List.getElem?_set_ne (Ne.symm hj)]at e2
    obtain⟨u',r',q⟩:=hl j y v' e1 e2 e3
    refine⟨u',r',?_⟩
    rcases q with q | ⟨k,c',e,z'⟩
    ·exact .inl q
    ·refine .inr ⟨k,c',e,z'.sameBut hs ?_⟩
     rintro rfl
     exact hj (XJ hN e1 (I.ok.inj _ _ _ e hc ▸ hi))
  ·by_cases hcc:c'=c
   ·subst hcc;exact⟨_,hc'⟩
   ·obtain⟨w2,z2⟩:=I.cell y c' e
    exact⟨w2,z2.sameBut hs hcc⟩
  ·obtain⟨e,n,ne,nf,d⟩:=I.pin p hp
   refine⟨(hs.2 p.1 ?_).trans e,n,ne,nf,d⟩
   intro q
   rw[q,hoc]at e
   have q':oc=p.2:=Option.some.inj e
   exact d w' (by rw[<-q'];exact hocd)
theorem XM{M:Model}{A:Around}{E:Value->Shared->Prop}{i:Nat}{x:Str}{v:V}{u:Value}{Q:Unit->Shared->Prop}(I:Inv X pins σ H s)(hN:X.N.Nodup)(hi:X.N[i]? =some x)(hx:K4 X.env.scope x)(r:RelV v u)
  (h:∀ s',Inv X pins (σ.set i (some v)) H s'->Q () s') (hf:X.fn x=true\/X.env.scope.names.lookup x=some .local:=by first | exact .inl rfl | exact .inr rfl | assumption):wpAny M A (storeName X.env x u) Q E s :=
 XL I hN hi hx r (λs' I' _=>h s' I') hf
theorem Inv.call'{s':Shared}{ch:List Addr}(I:Inv X pins σ H s)(ho:s'.os=s.os)(u:Un (DW X.stack) ch H H' s.heap s'.heap)(hok:HOk X.prog X.w H' s'.heap)(hg:AllBare s'.gens)
  (hch:∀ b∈ch,(b∈X.ex\/X.s₀.heap.objs.size<=b)/\b≠X.env.locals/\(∀ x c,X.env.cells.lookup x=some c->c≠b)/\∀ p∈X.pn++pins,p.1≠b):Inv X pins σ H' s':=by
 obtain⟨h',g',d',t',o'⟩:=s'
 have e:o'=s.os:=ho
 subst e
 exact I.call (g':=g') (t':=t') (d':=d') u hok hg hch
end
abbrev XK:=Value->Option Addr->Hp->Prop
abbrev St:=List (Option V)
abbrev VK:=V->Hp->Prop
abbrev TE:=St->Hp->VK->Prop
abbrev TT:=St->Hp->(Bool->Hp->Prop)->Prop
abbrev TA:=St->Hp->(List V->Hp->Prop)->Prop
structure Ends where
 nx:St->Hp->Prop
 rt:VK
 bk:St->Hp->Prop:=λ_ _=>False
 ct:St->Hp->Prop:=λ_ _=>False
abbrev TS:=Ends->St->Hp->Prop
def EP(X:Cx)(pins:List (Addr × Obj))(σ:St)(Q:VK)(u:Value)(s':Shared):Prop:=∃ v H',Inv X pins σ H' s'/\RelV v u/\Q v H'
def TP(X:Cx)(pins:List (Addr × Obj))(σ:St)(Q:Bool->Hp->Prop)(b:Bool)(s':Shared):Prop:=∃ H',Inv X pins σ H' s'/\Q b H'
def AP(X:Cx)(pins:List (Addr × Obj))(σ:St)(Q:List V->Hp->Prop)(us:List Value)(s':Shared):Prop:=∃ vs H',Inv X pins σ H' s'/\Vals vs us/\Q vs H'
def SP(X:Cx)(pins:List (Addr × Obj))(D:Ends)(f:Flow)(s':Shared):Prop :=
 match f with
 | .next=>∃ σ' H',Inv X pins σ' H' s'/\D.nx σ' H'
 | .brk=>∃ σ' H',Inv X pins σ' H' s'/\D.bk σ' H'
 | .cont=>∃ σ' H',Inv X pins σ' H' s'/\D.ct σ' H'
 | .ret u=>∃ v σ' H',Inv X pins σ' H' s'/\RelV v u/\D.rt v H'
def PE(X:Cx)(e:Expr)(t:TE):Prop :=
 ∀ (pins:List (Addr × Obj)) (s:Shared) (σ:St) (H:Hp) (Q:VK),Inv X pins σ H s->t σ H Q->wpAny (model X.prog X.w) X.A (eval e X.env) (EP X pins σ Q) X.xe s
def PT(X:Cx)(e:Expr)(t:TT):Prop :=
 ∀ (pins:List (Addr × Obj)) (s:Shared) (σ:St) (H:Hp) (Q:Bool->Hp->Prop),Inv X pins σ H s->t σ H Q->wpAny (model X.prog X.w) X.A (isTrue e X.env (eval e X.env)) (TP X pins σ Q) X.xe s
def PW(X:Cx)(e:Expr)(t:TT):Prop :=
 ∀ (whole:Sem Value) (pins:List (Addr × Obj)) (s:Shared) (σ:St) (H:Hp) (Q:Bool->Hp->Prop),Inv X pins σ H s->t σ H Q->wpAny (model X.prog X.w) X.A (isTrue e X.env whole) (TP X pins σ Q) X.xe s
theorem PW.pt{X:Cx}{e:Expr}{t:TT}(h:PW X e t):PT X e t:=h _
def PA(X:Cx)(es:List Expr)(t:TA):Prop :=
 ∀ (pos:Pos) (pins:List (Addr × Obj)) (s:Shared) (σ:St) (H:Hp) (Q:List V->Hp->Prop),Inv X pins σ H s->t σ H Q->wpAny (model X.prog X.w) X.A (spliced (backTo pos (starEach es X.env))) (AP X pins σ Q) X.xe s
def PS(X:Cx)(st:Stmt)(t:TS):Prop :=
 ∀ (pins:List (Addr × Obj)) (s:Shared) (σ:St) (H:Hp) (D:Ends),Inv X pins σ H s->t D σ H->wpAny (model X.prog X.w) X.A (exec st X.env) (SP X pins D) X.xe s
def PSs(X:Cx)(st:List Stmt)(t:TS):Prop :=
 ∀ (pins:List (Addr × Obj)) (s:Shared) (σ:St) (H:Hp) (D:Ends),Inv X pins σ H s->t D σ H->wpAny (model X.prog X.w) X.A (execs st X.env) (SP X pins D) X.xe s
theorem AY{α :Type}{t:Sem α}{Q Q': α ->Shared->Prop}{M:Model}{A:Around}{E:Value->Shared->Prop}{s:Shared}(h:wpAny M A t Q E s)(hQ:∀ a s,Q a s->Q' a s):wpAny M A t Q' E s:=wpAny_mono h hQ λ_ _ x=>x
end L2
namespace L2
section
variable{X:Cx}
def PQ(i:Nat):TE:=λσ H Q=>∃ v,σ[i]? =some (some v)/\Q v H
def tC(v:V):TE:=λ_ H Q=>Q v H
theorem XN{i:Nat}{x:Str}{pos:Pos}(hN:X.N[i]? =some x)(hv:PP X.env.scope x)(hd:(x ==("__debug__":Str))=false:=by decide)(hcd:(x ==("__classdict__":Str))=false:=by decide):PE X (.Name x pos) (PQ i):=by
 intro pins s σ H Q I h
 obtain⟨v,e,h⟩:=h
 obtain⟨m,hn,hl⟩:=I.loc
 obtain⟨u,r,l⟩:=hl i x v hN e hv
 have fin:EP X pins σ Q u s:=⟨v,H,I,r,h⟩
 rcases l with⟨hk,hm⟩ | ⟨hk,c,hc,hcell⟩
 ·exact wpAny_Name (wpAny_loadName_local I.ok.kind hk hn hm fin) hd
 ·rcases hk with hk | hk
  ·exact wpAny_Name (wpAny_loadName_cell I.ok.kind hk hc hcell fin) hd
  ·exact wpAny_Name (wpAny_loadName_free I.ok.kind hk hc hcell fin hcd) hd
theorem AI{i j pos}:PE X (.Constant (.int i) j pos) (tC (.int i)):=λ_ _ _ H _ I h=>wpAny_Constant_int ⟨.int i,H,I.tok _,⟨_,rfl⟩,h⟩
theorem GP{b j pos}:PE X (.Constant (.bool b) j pos) (tC (.bl b)):=λ_ _ _ H _ I h=>Constant_bool ⟨.bl b,H,I,rfl,h⟩
theorem DR{j pos}:PE X (.Constant .none j pos) (tC .non):=λ_ _ _ H _ I h=>Constant_none ⟨.non,H,I,rfl,h⟩
theorem CG{x j pos}:PE X (.Constant (.str x) j pos) (tC (.str x)):=λ_ _ _ H _ I h=>Calls.Constant_str ⟨.str x,H,I.tok _,⟨_,rfl⟩,h⟩
def Gl(X:Cx)(x:Str):Prop:=X.env.kindOf x=some .globalImplicit
theorem R6{E:Value->Shared->Prop}{pins:List (Addr × Obj)}{s:Shared}{σ:St}{H:Hp}{x:Str}{u:Value}{pos:Pos}{Q:Value->Shared->Prop}(I:Inv X pins σ H s)(hg:Gl X x)(hm:X.mg x=some u)(h:Q u s)
  (hd:(x ==("__debug__":Str))=false:=by decide):wpAny (model X.prog X.w) X.A (eval (.Name x pos) X.env) Q E s :=
 Calls.Name_function_global I.ok.kind hg (Calls.loadGlobal_global (by rw[I.ok.glob];exact I.mod.glob.keeps I.bk) hm h) hd
theorem K5{E:Value->Shared->Prop}{pins:List (Addr × Obj)}{s:Shared}{σ:St}{H:Hp}{x:Str}{u:Value}{pos:Pos}{Q:Value->Shared->Prop}(I:Inv X pins σ H s)(hg:Gl X x)(hm:X.mg x=none)(hv:bootBuiltins x=some u)(h:Q u s)
  (hn:x≠"__name__":=by decide) (hd:(x ==("__debug__":Str))=false:=by decide):wpAny (model X.prog X.w) X.A (eval (.Name x pos) X.env) Q E s:=by
 obtain⟨mb,h1,h2⟩:=I.mod.blt
 exact Calls.Name_function_global I.ok.kind hg (Calls.loadGlobal_builtin (by rw[I.ok.glob];exact I.mod.glob.keeps I.bk) hm (by rw[I.ok.blt];exact h1.keeps I.bk) ((h2 x hn).trans hv) h) hd
theorem PU{x:Str}{v:V}{u:Value}{pos:Pos}(hg:Gl X x)(hm:X.mg x=none)(hv:bootBuiltins x=some u)(r:RelV v u)(hn:x≠"__name__":=by decide)(hd:(x ==("__debug__":Str))=false:=by decide):PE X (.Name x pos) (tC v) :=
 λ_ _ _ H _ I h=>K5 I hg hm hv ⟨v,H,I,r,h⟩ hn hd
variable{a b:Expr}{ta tb:TE}{pos:Pos}
def PC(X:Cx)(op:CmpOp)(a b:Expr)(t:TE):Prop :=
 ∀ (pins:List (Addr × Obj)) (s:Shared) (σ:St) (H:Hp) (Q:VK),Inv X pins σ H s->t σ H Q →
  wpAny (model X.prog X.w) X.A (eval a X.env) (λv s₁=>wpAny (model X.prog X.w) X.A (eval b X.env) (λu s₂=>wpAny (model X.prog X.w) X.A (compareOp op v u) (EP X pins σ Q) X.xe s₂) X.xe s₁) X.xe s
theorem mI(b:Expr){op:CmpOp}(h:op≠.In)(h2:op≠.NotIn):behindInMarks op b=false:=by
 have e1:(op == CmpOp.In)=false:=by cases op<;>first | rfl | exact absurd rfl h
 have e2:(op == CmpOp.NotIn)=false:=by cases op<;>first | rfl | exact absurd rfl h2
 cases b<;>simp[behindInMarks,e1,e2]
def tB(t:TE):TT:=λσ H Q=>t σ H λx H1=>∃ c,x=.bl c/\Q c H1
theorem mJ{op:CmpOp}{t:TE}(h:PC X op a b t)(h1:behindInMarks op b=false:=by first | exact mI _ (by decide) (by decide) | rfl):PT X (.Compare a [op] [b] pos) (tB t):=by
 intro pins s σ H Q I hw
 refine wpAny_isTrue_Compare1 (AY (h pins s σ H _ I hw) λv s1 h1=>AY h1 λu s2 h2=>AY h2 λc s3 ⟨x,H1,I1,r1,q1⟩=> ?_) h1
 obtain⟨d,rfl,q⟩:=q1
 cases r1
 exact wpAny_truthy_bool ⟨H1,I1,q⟩
variable{tA tB':TT}{DQ:List Expr}
def FG(t u:TT):TT:=λσ H Q=>t σ H λc H1=>if c=true then u σ H1 Q else Q false H1
def HE(t u:TT):TT:=λσ H Q=>t σ H λc H1=>if c=true then Q true H1 else u σ H1 Q
def K6(t:TT):TT:=λσ H Q=>t σ H λc H1=>Q (!c) H1
theorem GQ(ha:PT X a tA):PW X (.BoolOp .And [a] pos) tA:=by
 intro wh pins s σ H Q I h
 refine isTrue_and (AY (ha pins s σ H Q I h) λc s1 e=> ?_)
 cases c with
 | true=>exact isTrue_and_nil e
 | false=>exact e
theorem NE(ha:PT X a tA):PW X (.BoolOp .Or [a] pos) tA:=by
 intro wh pins s σ H Q I h
 refine isTrue_or (AY (ha pins s σ H Q I h) λc s1 e=> ?_)
 cases c with
 | false=>exact isTrue_or_nil e
 | true=>exact e
theorem GR(ha:PT X a tA)(hb:PW X (.BoolOp .And (b::DQ) pos) tB'):PW X (.BoolOp .And (a::b::DQ) pos) (FG tA tB'):=by
 intro wh pins s σ H Q I h
 refine isTrue_and (AY (ha pins s σ H _ I h) λc s1 ⟨H1,I1,q1⟩=> ?_)
 cases c with
 | true=>exact hb wh pins s1 σ H1 Q I1 q1
 | false=>exact⟨H1,I1,q1⟩
theorem JE(ha:PT X a tA)(hb:PW X (.BoolOp .Or (b::DQ) pos) tB'):PW X (.BoolOp .Or (a::b::DQ) pos) (HE tA tB'):=by
 intro wh pins s σ H Q I h
 refine isTrue_or (AY (ha pins s σ H _ I h) λc s1 ⟨H1,I1,q1⟩=> ?_)
 cases c with
 | true=>exact⟨H1,I1,q1⟩
 | false=>exact hb wh pins s1 σ H1 Q I1 q1
theorem PX(ha:PT X a tA):PT X (.UnaryOp .Not a pos) (K6 tA):=by
 intro pins s σ H Q I h
 exact isTrue_not (ha pins s σ H (λc H1=>Q (!c) H1) I h)
def mK(ta tb:TE):TE:=λσ H Q=>ta σ H λx H1=>∃ c,x=.bl c/\if c=true then tb σ H1 Q else Q (.bl false) H1
def mM(ta tb:TE):TE:=λσ H Q=>ta σ H λx H1=>∃ c,x=.bl c/\if c=true then Q (.bl true) H1 else tb σ H1 Q
def R7(t:TT)(ta tb:TE):TE:=λσ H Q=>t σ H λc H1=>if c=true then ta σ H1 Q else tb σ H1 Q
theorem mO{c:Expr}(hc:PT X c tA)(ha:PE X a ta)(hb:PE X b tb):PE X (.IfExp c a b pos) (R7 tA ta tb):=by
 intro pins s σ H Q I h
 refine wpAny_IfExp (AY (hc pins s σ H _ I h) λd s1 ⟨H1,I1,q1⟩=> ?_)
 cases d with
 | true=>exact ha pins s1 σ H1 Q I1 q1
 | false=>exact hb pins s1 σ H1 Q I1 q1
end
end L2
namespace L2
def SqL(K:W.Frag)(H:Hp)(a:Addr)(xs:List V):Prop :=
 Rd H a (.lst xs) ∨
  ∃ (o:Obj) (its:Array Value) (n:Nat),K.lookup a=some o/\o.cls=.type "list"/\o.dict=none/\o.data=.seq its n/\its.size<=sizeLine/\Vals xs its.toList
def SqT(K:W.Frag)(H:Hp)(a:Addr)(xs:List V):Prop :=
 Rd H a (.tup xs) ∨
  ∃ (o:Obj) (its:Array Value) (n:Nat),K.lookup a=some o/\o.cls=.type "tuple"/\o.data=.seq its n/\its.size<=sizeLine/\Vals xs its.toList
def mP:Value->Option V
 | .none=>some .non
 | .bool b=>some (.bl b)
 | .int i _=>some (.int i)
 | .str x _=>some (.str x)
 | .bytes b _=>some (.byt b)
 | .float b _=>some (.flt b)
 | .ref a=>some (.ref a)
 | .type n=>some (.ty n)
 | _=>none
theorem RelV.abs{x:V}{u:Value}(r:RelV x u):mP u=some x:=by
 cases x with
 | non=>cases r;rfl
 | bl _=>cases r;rfl
 | int _=>obtain⟨t,rfl⟩:=r;rfl
 | str _=>obtain⟨t,rfl⟩:=r;rfl
 | byt _=>obtain⟨t,rfl⟩:=r;rfl
 | flt _=>obtain⟨t,rfl⟩:=r;rfl
 | ref _=>cases r;rfl
 | ty _=>cases r;rfl
theorem RelV.inj{x y:V}{u:Value}(r:RelV x u)(q:RelV y u):x=y:=Option.some.inj (r.abs.symm.trans q.abs)
theorem Vals.inj:∀ {xs ys:List V} {us:List Value},Vals xs us->Vals ys us->xs=ys
 | _,_,_,.nil,.nil=>rfl
 | _,_,_,.cons r t,.cons r' t'=>by rw[r.inj r',Vals.inj t t']
section
variable{X:Cx}{pins:List (Addr × Obj)}{σ:St}{H:Hp}{s:Shared}{a:Addr}{xs ys:List V}
theorem SqL.of{K:W.Frag}(h:H a=some (.lst xs)):SqL K H a xs:=.inl (.inl h)
theorem SqT.of{K:W.Frag}(h:H a=some (.tup xs)):SqT K H a xs:=.inl (.inl h)
theorem Inv.list(I:Inv X pins σ H s)(h:SqL X.K H a xs):∃ its:List Value,Vals xs its/\PlainL s.heap a its.toArray/\xs.length<=sizeLine:=by
 rcases h with h | ⟨o,its,n,hk,hc,hd,hs,hz,r⟩
 ·obtain⟨z,its,n,r,e⟩:=h.ok I.hok
  exact⟨its,r,⟨_,n,e,rfl,rfl,rfl⟩,z⟩
 ·refine⟨its.toList,r,⟨o,n,I.kIn a o hk,hc,hd,by simpa using hs⟩,?_⟩
  have e:=r.length
  simp only[Array.length_toList]at e
  omega
theorem Inv.tuple(I:Inv X pins σ H s)(h:SqT X.K H a xs):∃ its:List Value,Vals xs its/\IsTup s.heap a its.toArray/\xs.length<=sizeLine:=by
 rcases h with h | ⟨o,its,n,hk,hc,hs,hz,r⟩
 ·obtain⟨z,its,r,p⟩:=h.ok I.hok
  exact⟨its,r,p,z⟩
 ·refine⟨its.toList,r,⟨o,I.kIn a o hk,hc,n,by simpa using hs⟩,?_⟩
  have e:=r.length
  simp only[Array.length_toList]at e
  omega
theorem Inv.list_inj(I:Inv X pins σ H s)(h:SqL X.K H a xs)(h':SqL X.K H a ys):xs=ys:=by
 obtain⟨its,r,⟨o,n,e,_,_,d⟩,_⟩:=I.list h
 obtain⟨its',r',⟨o',n',e',_,_,d'⟩,_⟩:=I.list h'
 rw[e]at e';cases e'
 rw[d]at d'
 injection d' with d1 _
 have:its=its':=by simpa using congrArg Array.toList d1
 subst this
 exact r.inj r'
theorem Inv.tuple_inj(I:Inv X pins σ H s)(h:SqT X.K H a xs)(h':SqT X.K H a ys):xs=ys:=by
 obtain⟨its,r,⟨o,e,_,n,d⟩,_⟩:=I.tuple h
 obtain⟨its',r',⟨o',e',_,n',d'⟩,_⟩:=I.tuple h'
 rw[e]at e';cases e'
 rw[d]at d'
 injection d' with d1 _
 have:its=its':=by simpa using congrArg Array.toList d1
 subst this
 exact r.inj r'
end
abbrev Cx.wish(X:Cx)(E:Value->Shared->Prop):Cx:={ X with xe:=E }
abbrev Cx.nox(X:Cx):Cx:=X.wish λ_ _=>False
theorem Cx.Ok.wish{X:Cx}(ok:X.Ok)(E:Value->Shared->Prop):(X.wish E).Ok :=
 ⟨ok.mod,ok.kind,ok.glob,ok.blt,ok.above,ok.inj,ok.has,ok.cab,ok.hd,ok.frames,ok.stk,ok.exf,ok.bs,ok.bsz,ok.noex,ok.exfs,ok.funs,ok.frf⟩
theorem Cx.Ok.unwish{X:Cx}{E:Value->Shared->Prop}(ok:(X.wish E).Ok):X.Ok :=
 ⟨ok.mod,ok.kind,ok.glob,ok.blt,ok.above,ok.inj,ok.has,ok.cab,ok.hd,ok.frames,ok.stk,ok.exf,ok.bs,ok.bsz,ok.noex,ok.exfs,ok.funs,ok.frf⟩
section
variable{X:Cx}{pins:List (Addr × Obj)}{σ:St}{H:Hp}{s:Shared}{E:Value->Shared->Prop}
theorem Inv.wish(I:Inv X pins σ H s)(E:Value->Shared->Prop):Inv (X.wish E) pins σ H s:=⟨I.ok.wish E,I.os,I.bare,I.base,I.loc,I.cell,I.free,I.freeC,I.pin,I.hok,I.len⟩
theorem Inv.unwish(I:Inv (X.wish E) pins σ H s):Inv X pins σ H s:=⟨I.ok.unwish,I.os,I.bare,I.base,I.loc,I.cell,I.free,I.freeC,I.pin,I.hok,I.len⟩
theorem SP.unwish{D:Ends}{f:Flow}{s':Shared}(h:SP (X.wish E) pins D f s'):SP X pins D f s':=by
 cases f with
 | next=>obtain⟨σ',H',I,q⟩:=h;exact⟨σ',H',I.unwish,q⟩
 | brk=>obtain⟨σ',H',I,q⟩:=h;exact⟨σ',H',I.unwish,q⟩
 | cont=>obtain⟨σ',H',I,q⟩:=h;exact⟨σ',H',I.unwish,q⟩
 | ret u=>obtain⟨v,σ',H',I,r,q⟩:=h;exact⟨v,σ',H',I.unwish,r,q⟩
theorem PE.nox{e:Expr}{t:TE}(h:PE X.nox e t):PE X e t:=λpins s σ H Q I hw =>
 wpAny_mono (h pins s σ H Q (I.wish _) hw) (λ_ _ ⟨v,H',I',r,q⟩=>⟨v,H',I'.unwish,r,q⟩) λ_ _ z=>False.elim z
theorem PT.nox{e:Expr}{t:TT}(h:PT X.nox e t):PT X e t:=λpins s σ H Q I hw =>
 wpAny_mono (h pins s σ H Q (I.wish _) hw) (λ_ _ ⟨H',I',q⟩=>⟨H',I'.unwish,q⟩) λ_ _ z=>False.elim z
theorem PSs.nox{st:List Stmt}{t:TS}(h:PSs X.nox st t):PSs X st t:=λpins s σ H D I hw =>
 wpAny_mono (h pins s σ H D (I.wish _) hw) (λ_ _ q=>q.unwish) λ_ _ z=>False.elim z
end
section
variable{X:Cx}{st:Stmt}{DQ:List Stmt}{t u:TS}{e:Expr}{te:TE}{pos:Pos}
def CJ:TS:=λD σ H=>D.nx σ H
def AQ(t u:TS):TS:=λD σ H=>t { D with nx:=u D } σ H
theorem CO:PSs X [] CJ:=λ_ _ σ H _ I h=>wpAny_execs_nil ⟨σ,H,I,h⟩
theorem AR(h1:PS X st t)(h2:PSs X DQ u):PSs X (st::DQ) (AQ t u):=by
 intro pins s σ H D I h
 refine wpAny_execs_cons (AY (h1 pins s σ H { D with nx:=u D } I h) λf s1 q=> ?_)
 cases f with
 | next =>
  obtain⟨σ',H',I',q⟩:=q
  exact h2 pins s1 σ' H' D I' q
 | ret v=>exact q
 | brk=>exact q
 | cont=>exact q
theorem AV(h1:PS X st t):PSs X [st] t:=by
 intro pins s σ H D I h
 refine wpAny_execs_cons (AY (h1 pins s σ H D I h) λf s1 q=> ?_)
 cases f with
 | next=>exact wpAny_execs_nil q
 | ret v=>exact q
 | brk=>exact q
 | cont=>exact q
def mQ:TS:=λD σ H=>D.bk σ H
def mR:TS:=λD σ H=>D.ct σ H
theorem Inv.quiet{pins:List (Addr × Obj)}{σ:St}{H:Hp}{s:Shared}(I:Inv X pins σ H s):interactive X.env=false:=by simp[interactive,I.ok.kind]
def CW(te:TE):TS:=λD σ H=>te σ H λ_ H1=>D.nx σ H1
theorem DE(he:PE X e te)(hs:swapsWith e none pos.line X.env=pure false:=by rfl):PS X (.Expr e pos) (CW te):=by
 intro pins s σ H D I h
 exact wpAny_Expr_any (AY (he pins s σ H _ I h) λv s1 ⟨x,H1,I1,r1,q1⟩=>⟨σ,H1,I1,q1⟩) I.quiet hs
def BF(te:TE):TS:=λD σ H=>te σ H D.rt
theorem BJ(he:PE X e te):PS X (.Return (some e) pos) (BF te):=by
 intro pins s σ H D I h
 exact wpAny_Return_some (AY (he pins s σ H _ I h) λv s1 ⟨x,H1,I1,r1,q1⟩=>⟨x,σ,H1,I1,r1,q1⟩)
def R8:TS:=λD _ H=>D.rt .non H
theorem mS:PS X (.Return none pos) R8:=λ_ _ σ H _ I h=>wpAny_Return_none ⟨.non,σ,H,I,rfl,h⟩
def B5(c:TT)(t u:TS):TS:=λD σ H=>c σ H λb H1=>if b=true then t D σ H1 else u D σ H1
theorem CB{c:Expr}{a b:List Stmt}{tc:TT}(hc:PT X c tc)(ha:PSs X a t)(hb:PSs X b u):PS X (.If c a b pos) (B5 tc t u):=by
 intro pins s σ H D I h
 refine wpAny_If (AY (hc pins s σ H _ I h) λd s1 ⟨H1,I1,q1⟩=> ?_)
 cases d with
 | true=>exact ha pins s1 σ H1 D I1 q1
 | false=>exact hb pins s1 σ H1 D I1 q1
end
abbrev TG:=V->St->Hp->(St->Hp->Prop)->Prop
abbrev HX:=List V->St->Hp->(St->Hp->Prop)->Prop
def PG(X:Cx)(target:Expr)(t:TG):Prop :=
 ∀ (pins:List (Addr × Obj)) (s:Shared) (σ:St) (H:Hp) (v:V) (u:Value) (Q:St->Hp->Prop),Inv X pins σ H s->RelV v u->t v σ H Q →
  wpAny (model X.prog X.w) X.A (assign target X.env u) (λ_ s'=>∃ σ' H',Inv X pins σ' H' s'/\Q σ' H') X.xe s
def PY(X:Cx)(ts:List Expr)(t:HX):Prop :=
 ∀ (pins:List (Addr × Obj)) (s:Shared) (σ:St) (H:Hp) (vs:List V) (us:List Value) (Q:St->Hp->Prop),Inv X pins σ H s->Vals vs us->t vs σ H Q →
  wpAny (model X.prog X.w) X.A (assignInOrder ((assignEach ts X.env).map (·.2)) us) (λ_ s'=>∃ σ' H',Inv X pins σ' H' s'/\Q σ' H') X.xe s
abbrev PZ:=V->V->V->Hp->(Hp->Prop)->Prop
def R9(X:Cx)(t:PZ):Prop :=
 ∀ (pins:List (Addr × Obj)) (s:Shared) (σ:St) (H:Hp) (o i v:V) (ov iv u:Value) (Q:Hp->Prop),Inv X pins σ H s->RelV o ov->RelV i iv->RelV v u->t o i v H Q →
  wpAny (model X.prog X.w) X.A (setItem ov iv u) (λ_ s'=>∃ H',Inv X pins σ H' s'/\Q H') X.xe s
abbrev P0:=V->V->Hp->VK->Prop
section
variable{X:Cx}{pos:Pos}
def AL(i:Nat):TG:=λv σ H Q=>Q (σ.set i (some v)) H
theorem BO{i:Nat}{x:Str}(hN:X.N.Nodup)(hi:X.N[i]? =some x)(hx:K4 X.env.scope x)(hf:X.fn x=true\/X.env.scope.names.lookup x=some .local:=by first | exact .inl rfl | exact .inr rfl | assumption):PG X (.Name x pos) (AL i):=by
 intro pins s σ H v u Q I r h
 exact wpAny_assign_Name (XM I hN hi hx r (λs' I'=>⟨_,H,I',h⟩) hf)
def E7:HX:=λvs σ H Q=>vs=[]/\Q σ H
def DF(t:TG)(u:HX):HX:=λvs σ H Q=>∃ v r,vs=v::r/\t v σ H λσ' H'=>u r σ' H' Q
theorem HF:PY X [] E7:=by
 intro pins s σ H vs us Q I r h
 obtain⟨e,h⟩:=h
 subst e
 cases r
 exact assignInOrder_nil ⟨σ,H,I,h⟩
theorem ED{e:Expr}{es:List Expr}{t:TG}{u:HX}(h1:PG X e t)(h2:PY X es u)
  (hs:(assignEach (e::es) X.env).map (·.2)=assign e X.env::(assignEach es X.env).map (·.2):=by rfl):PY X (e::es) (DF t u):=by
 intro pins s σ H vs us Q I r h
 obtain⟨v,vr,e1,h⟩:=h
 subst e1
 cases r with
 | cons r rr =>
  rw[hs]
  refine assignInOrder_cons (AY (h1 pins s σ H _ _ _ I r h) λ_ s1 ⟨σ1,H1,I1,q1⟩=> ?_)
  exact h2 pins s1 σ1 H1 _ _ Q I1 rr q1
def E8(K:W.Frag)(n:Nat)(t:HX):TG:=λv σ H Q=>∃ a xs,v=.ref a/\SqT K H a xs/\xs.length=n/\t xs σ H Q
theorem HG{es:List Expr}{k:Nat}{t:HX}{n:Nat}(hc:X.calm=true)(h:PY X es t)
  (hn:(assignEach es X.env).length=n:=by rfl) (hst:(assignEach es X.env).findIdx? (·.1)=none:=by rfl):PG X (.Tuple es k pos) (E8 X.K n t):=by
 intro pins s σ H v u Q I r hw
 obtain⟨a,xs,e1,hq,hl,hw⟩:=hw
 subst e1
 cases r
 obtain⟨its,rv,ht,hz⟩:=I.tuple hq
 refine assign_Tuple_tuple (I.ok.hd hc) ht (by simp[hn,<-hl,rv.length]) hst λh' hx=> ?_
 have I1:Inv X pins σ H { s with heap:=h' }:=I.kept (t':=s.toks) λb o e=>hx b o (Nat.ne_of_lt (Heap.lt_size e)) e
 exact h pins _ σ H xs _ Q I1 (by simpa using rv) hw
def DX(to ti:TE)(t:PZ):TG:=λv σ H Q=>to σ H λo H1=>ti σ H1 λi H2=>t o i v H2 λH3=>Q σ H3
theorem D9{o i:Expr}{to ti:TE}{t:PZ}(ho:PE X o to)(hi:PE X i ti)(hs:R9 X t)
  (ha:∀ v,assign (.Subscript o i pos) X.env v=(do
   let ov ← holding [v] (eval o X.env)
   let iv ← holding [v,ov] (eval i X.env)
   standAt pos
   holding [v,ov,iv] (setItem ov iv v)
   release [v,ov,iv] []):=by intro _;rfl):PG X (.Subscript o i pos) (DX to ti t):=by
 intro pins s σ H v u Q I r h
 rw[ha]
 refine wpAny_bind (wpAny_holding (AY (ho pins s σ H _ I h) λov s1 ⟨x,H1,I1,r1,q1⟩=> ?_))
 refine wpAny_bind (wpAny_holding (AY (hi pins s1 σ H1 _ I1 q1) λiv s2 ⟨y,H2,I2,r2,q2⟩=> ?_))
 refine wpAny_bind (wpAny_standAt (wpAny_bind (wpAny_holding (AY (hs pins s2 σ H2 x y v ov iv u _ I2 r1 r2 r q2) λ_ s3 ⟨H3,I3,q3⟩=> ?_))))
 exact wpAny_release ⟨σ,H3,I3,q3⟩
def AX(te:TE)(g:TG):TS:=λD σ H=>te σ H λx H1=>g x σ H1 D.nx
theorem EA{tg e:Expr}{te:TE}{g:TG}(he:PE X e te)(hg:PG X tg g)(hs:swapsWithSole [tg] e pos.line X.env=pure false:=by rfl)(hw:swappedStores [tg] e X.env=pure none:=by rfl)
  (h1:(assignEach [tg] X.env).map (·.2)=[assign tg X.env]:=by rfl):PS X (.Assign [tg] e pos) (AX te g):=by
 intro pins s σ H D I h
 refine wpAny_Assign_stores (AY (he pins s σ H _ I h) λv s1 ⟨x,H1,I1,r1,q1⟩=> ?_) hs hw
 rw[h1]
 exact AY (hg pins s1 σ H1 x v _ I1 r1 q1) λ_ s2 q=>q
theorem GS{i:Nat}{x:Str}{e:Expr}{te:TE}{pos':Pos}(hN:X.N.Nodup)(hi:X.N[i]? =some x)(hx:K4 X.env.scope x)(he:PE X e te)(hs:swapsWith e (some (.Name x pos')) pos.line X.env=pure false:=by rfl)(hf:X.fn x=true\/X.env.scope.names.lookup x=some .local:=by first | exact .inl rfl | exact .inr rfl | assumption) :
  PS X (.Assign [.Name x pos'] e pos) (AX te (AL i)):=by
 intro pins s σ H D I h
 refine wpAny_Assign_Name (AY (he pins s σ H _ I h) λv s1 ⟨y,H1,I1,r1,q1⟩=> ?_) hs
 exact XM I1 hN hi hx r1 (λs2 I2=>⟨_,H1,I2,q1⟩) hf
def mT(i:Nat)(te:TE)(ti:P0):TS:=λD σ H=>∃ x,σ[i]? =some (some x)/\te σ H λy H1=>ti x y H1 λz H2=>D.nx (σ.set i (some z)) H2
def SA(f:Int->Int->Int):P0:=λx y H Q=>∃ i j,x=.int i/\y=.int j/\Q (.int (f i j)) H
end
section
variable{X:Cx}{pos:Pos}
end
structure It where
 go:Nat->Hp->Prop
 yld:Nat->Hp->V->Hp->Prop
 stop:Nat->Hp->Prop
def FpOk(X:Cx)(pins:List (Addr × Obj))(H:Hp)(b:Addr):Prop :=
 H b=none/\b≠X.env.locals/\b∉X.fs/\(b∈X.ex\/X.s₀.heap.objs.size<=b)/\(∀ x c,X.env.cells.lookup x=some c->c≠b)/\∀ p∈X.pn++pins,p.1≠b
theorem Inv.fpOk{X:Cx}{pins:List (Addr × Obj)}{σ:St}{H H':Hp}{s:Shared}{b:Addr}(I:Inv X pins σ H s)(hb:s.heap.objs.size<=b)(hn:H' b=none):FpOk X pins H' b:=by
 refine⟨hn,Nat.ne_of_gt (Nat.lt_of_lt_of_le I.lt hb),I.nofs hb,.inr (Nat.le_trans I.sz hb),λx c e z=> ?_,λp hp z=> ?_⟩
 ·obtain⟨v,q⟩:=I.cell x c e
  exact absurd (Nat.lt_of_lt_of_le q.lt (by rw[z];exact hb)) (Nat.lt_irrefl _)
 ·exact absurd (Nat.lt_of_lt_of_le (Heap.lt_size (I.pin p hp).1) (by rw[z];exact hb)) (Nat.lt_irrefl _)
structure JF(P:Program)(w:World)(K:W.Frag)(tg:Expr)(J:It)(fp:List Addr)(it:Addr)(tn:Nat->Heap->Prop):Prop where
 mem:it∈fp
 obj:∀ i h,tn i h->∀ b∈fp,∃ o,h.get? b=some o/\∀ v,o.data≠.cell v
 keep:∀ i h h',tn i h->(∀ b∈fp,∀ o,h.get? b=some o->h'.get? b=some o)->tn i h'
 item:∀ (X:Cx),X.prog=P->X.w=w->X.K=K->X.calm=true->∀ (i:Nat) (pins:List (Addr × Obj)) (s:Shared) (σ:St) (H:Hp) (E:Value->Shared->Prop),Inv X pins σ H s->(∀ b∈fp,FpOk X pins H b)->tn i s.heap->J.go i H →
  wpAny (model P w) X.A (pyNext (.ref it)) (λr s1=>∃ u,r=some u ∧
   wpAny (model P w) X.A (letOwnedTupleGo tg (.ref it) u) (λ_ s2=>∃ x H',Inv X pins σ H' s2/\RelV x u/\J.yld i H x H'/\tn (i+1) s2.heap/\∀ b∈fp,H' b=none) E s1) E s
 done:∀ (X:Cx),X.prog=P->X.w=w->X.K=K->X.calm=true->∀ (i:Nat) (pins:List (Addr × Obj)) (s:Shared) (σ:St) (H:Hp) (E:Value->Shared->Prop),Inv X pins σ H s->(∀ b∈fp,FpOk X pins H b)->tn i s.heap->J.stop i H →
  wpAny (model P w) X.A (pyNext (.ref it)) (λr s1=>r=none/\Inv X pins σ H s1) E s
 self:∀ (A:Around) (i:Nat) (s:Shared) (Q:Value->Shared->Prop) (E:Value->Shared->Prop),tn i s.heap->Q (.ref it) s->wpAny (model P w) A (pyIter (.ref it)) Q E s
abbrev TI:=St->Hp->(It->Hp->Prop)->Prop
def SB(X:Cx)(pins:List (Addr × Obj))(σ:St)(tg:Expr)(R:It->Hp->Prop)(itv:Value)(s2:Shared):Prop :=
 ∃ (it:Addr) (fp:List Addr) (tn:Nat->Heap->Prop) (J:It) (H':Hp),itv=.ref it/\Inv X pins σ H' s2/\JF X.prog X.w X.K tg J fp it tn/\tn 0 s2.heap/\(∀ b∈fp,FpOk X pins H' b)/\R J H'
def PI(X:Cx)(tg iter:Expr)(wi:TI):Prop :=
 ∀ (pins:List (Addr × Obj)) (s:Shared) (σ:St) (H:Hp) (R:It->Hp->Prop),Inv X pins σ H s->wi σ H R →
  wpAny (model X.prog X.w) X.A (eval iter X.env) (λv s1=>wpAny (model X.prog X.w) X.A (pyIter v) (SB X pins σ tg R) X.xe s1) X.xe s
theorem P8{M:Model}{A:Around}{E:Value->Shared->Prop}{s:Shared}{tg:Expr}{it:Addr}{u:Value}{o:Obj}{n:String}{vs:Array Value}{Q:Unit->Shared->Prop}(ho:s.heap.get? it=some o)(hc:o.cls=.type n)(hd:o.data=.fields vs)
    (hn:["enumerate","zip","dict_itemiterator","dict_reverseitemiterator","odict_iterator","itertools.zip_longest","itertools.pairwise"].contains n=false) (hQ:Q () s):wpAny M A (letOwnedTupleGo tg (.ref it) u) Q E s:=by
  unfold letOwnedTupleGo
  cases tg<;>first
    | exact wpAny_pure hQ
    | (cases u<;>first
        | exact wpAny_pure hQ
        | (refine wpAny_bind (wpAny_load ho ?_)
           rw[hc,hd]
           show wpAny M A (if(["enumerate","zip","dict_itemiterator","dict_reverseitemiterator","odict_iterator","itertools.zip_longest","itertools.pairwise"].contains n && vs[0]? == some (rawInt _))=true then _ else _) Q E s
           rw[if_neg (by intro h;rw[hn,Bool.false_and]at h;cases h)]
           exact wpAny_pure hQ))
def E9(K:W.Frag)(a:Addr):It :=
 ⟨λi H=>∃ xs x,SqL K H a xs/\xs[i]? =some x,λi H x H'=>H'=H/\∀ xs,SqL K H a xs->xs[i]? =some x,λi H=>∃ xs,SqL K H a xs/\xs.length<=i⟩
def NF(K:W.Frag)(a:Addr):It :=
 ⟨λi H=>∃ xs x,SqT K H a xs/\xs[i]? =some x,λi H x H'=>H'=H/\∀ xs,SqT K H a xs->xs[i]? =some x,λi H=>∃ xs,SqT K H a xs/\xs.length<=i⟩
def EB(lo:Int)(n:Nat):It:=⟨λi _=>i<n,λi H x H'=>H'=H/\x=.int (lo+i),λi _=>n<=i⟩
theorem mU{P:Program}{w:World}{K:W.Frag}{tg:Expr}(a it:Addr):JF P w K tg (E9 K a) [it] it (λi h=>h.IsListIter it a i) where
 mem:=by simp
 obj:=λi h st b hb=>by
  have e:b=it:=by simpa using hb
  subst e
  obtain⟨o,e,c,d⟩:=st
  exact⟨o,e,λv z=>by rw[d]at z;cases z⟩
 keep:=λi h h' st k=>st.at λo e=>k it (by simp) o e
 item:=by
  intro X hP hw hK hc i pins s σ H E I hf st hg
  subst hP hw hK
  obtain⟨xs,x,hq,hx⟩:=hg
  obtain⟨its,rv,p,hz⟩:=I.list hq
  obtain⟨u,hu,ru⟩:=rv.get hx
  obtain⟨f0,f1,f2,f3,f4,f5⟩:=hf it (by simp)
  refine wpAny_pyNext_list_item st p.isList (x:=u) (by simpa using hu) λh' st' sb=> ?_
  have I1:Inv X pins σ H { s with heap:=h' }:=I.turned (t':=s.toks) (λb o hb e=>(sb.2 b hb).trans e) f0 f1 f3 f4 f5
  obtain⟨o,e,c,d⟩:=id st'
  exact⟨u,rfl,P8 (s:={ s with heap:=h' }) e c d (by decide) ⟨x,H,I1,ru,⟨rfl,λys hy=>by rw[I.list_inj hy hq];exact hx⟩,st',λb hb=>(hf b hb).1⟩⟩
 done:=by
  intro X hP hw hK hc i pins s σ H E I hf st hg
  subst hP hw hK
  obtain⟨xs,hq,hx⟩:=hg
  obtain⟨its,rv,p,hz⟩:=I.list hq
  obtain⟨f0,f1,f2,f3,f4,f5⟩:=hf it (by simp)
  have hl:=rv.length
  exact wpAny_pyNext_list_end (I.ok.hd hc) st p.isList (by simp;omega) λh' eb=>⟨rfl,I.turned (t':=s.toks) (λb o hb e=>eb b o hb e) f0 f1 f3 f4 f5⟩
 self:=λ_ _ _ _ _ st h=>wpAny_pyIter_listiter st h
theorem mV{P:Program}{w:World}{K:W.Frag}{tg:Expr}(a it:Addr):JF P w K tg (NF K a) [it] it (λi h=>h.IsTupleIter it a i) where
 mem:=by simp
 obj:=λi h st b hb=>by
  have e:b=it:=by simpa using hb
  subst e
  obtain⟨o,e,c,d⟩:=st
  exact⟨o,e,λv z=>by rw[d]at z;cases z⟩
 keep:=λi h h' st k=>st.at λo e=>k it (by simp) o e
 item:=by
  intro X hP hw hK hc i pins s σ H E I hf st hg
  subst hP hw hK
  obtain⟨xs,x,hq,hx⟩:=hg
  obtain⟨its,rv,p,hz⟩:=I.tuple hq
  obtain⟨u,hu,ru⟩:=rv.get hx
  obtain⟨f0,f1,f2,f3,f4,f5⟩:=hf it (by simp)
  refine wpAny_pyNext_tuple_item st (show s.heap.IsTuple a its.toArray from p) (x:=u) (by simpa using hu) λh' st' sb=> ?_
  have I1:Inv X pins σ H { s with heap:=h' }:=I.turned (t':=s.toks) (λb o hb e=>(sb.2 b hb).trans e) f0 f1 f3 f4 f5
  obtain⟨o,e,c,d⟩:=id st'
  exact⟨u,rfl,P8 (s:={ s with heap:=h' }) e c d (by decide) ⟨x,H,I1,ru,⟨rfl,λys hy=>by rw[I.tuple_inj hy hq];exact hx⟩,st',λb hb=>(hf b hb).1⟩⟩
 done:=by
  intro X hP hw hK hc i pins s σ H E I hf st hg
  subst hP hw hK
  obtain⟨xs,hq,hx⟩:=hg
  obtain⟨its,rv,p,hz⟩:=I.tuple hq
  obtain⟨f0,f1,f2,f3,f4,f5⟩:=hf it (by simp)
  have hl:=rv.length
  exact wpAny_pyNext_tuple_end (I.ok.hd hc) st (show s.heap.IsTuple a its.toArray from p) (by simp;omega) λh' eb=>⟨rfl,I.turned (t':=s.toks) (λb o hb e=>eb b o hb e) f0 f1 f3 f4 f5⟩
 self:=λ_ _ _ _ _ st h=>wpAny_pyIter_tupleiter st h
theorem mW{P:Program}{w:World}{K:PySem.W.Frag}{tg:Expr}(it:Addr)(lo:Int)(n:Nat):JF P w K tg (EB lo n) [it] it (λi h=>IsRangeIter h it (lo+(i:Nat) * 1) ((n:Int) - (i:Nat)) 1) where
 mem:=by simp
 obj:=λi h st b hb=>by
  have e:b=it:=by simpa using hb
  subst e
  exact⟨_,st,λv z=>by
   have z':Data.fields _=Data.cell v:=z
   cases z'⟩
 keep:=λi h h' st k=>k it (by simp) _ st
 item:=by
  intro X hP hw hK hc i pins s σ H E I hf st hg
  subst hP hw hK
  obtain⟨f0,f1,f2,f3,f4,f5⟩:=hf it (by simp)
  have W:=Walks.range (prog:=X.prog) (w:=X.w) (I.ok.hd hc) it lo 1 n
  refine W.item i s _ _ hg st λv h' tk hv st' kk=> ?_
  obtain⟨t,rfl⟩:=hv
  have I1:Inv X pins σ H { s with heap:=h',toks:=tk }:=I.turned (λb o hb e=>kk b o (by simpa using hb) e) f0 f1 f3 f4 f5
  refine⟨_,rfl,P8 (s:={ s with heap:=h',toks:=tk }) (n:="range_iterator") st' rfl rfl (by decide) ⟨.int (lo+i),H,I1,⟨t,?_⟩,⟨rfl,rfl⟩,st',λb hb=>(hf b hb).1⟩⟩
  rw[Int.mul_one]
 done:=by
  intro X hP hw hK hc i pins s σ H E I hf st hg
  subst hP hw hK
  obtain⟨f0,f1,f2,f3,f4,f5⟩:=hf it (by simp)
  exact wpAny_pyNext_range_end (I.ok.hd hc) st (by have:n<=i:=hg;omega) λh' eb=>⟨rfl,I.turned (t':=s.toks) (λb o hb e=>eb b o hb e) f0 f1 f3 f4 f5⟩
 self:=λ_ _ _ _ _ st h=>wpAny_pyIter_rangeiter st h
end L2
namespace L2
section
variable{X:Cx}{tg:Expr}
theorem mX{pins:List (Addr × Obj)}{σ:St}{H:Hp}{s:Shared}{R:It->Hp->Prop}{E:Value->Shared->Prop}{lo hi:Int}{t u v:Tok}{tk:Nat}(I:Inv X pins σ H s)(h1: -(2 ^ 62)<=lo)(h2:lo<2 ^ 62)(h3: -(2 ^ 62)<=hi)(h4:hi<2 ^ 62)
  (q:R (EB lo (hi - lo).toNat) H):wpAny (model X.prog X.w) X.A (pyIter (.ref s.heap.objs.size)) (SB X pins σ tg R) E { s with heap:=s.heap.push { cls:=.type "range",data:=.fields #[.int lo t,.int hi u,.int 1 v] },toks:=tk }:=by
 refine wpAny_pyIter_range (IsRange.new ..) (small_one h1 h2 h3 h4) ?_
 have I1:Inv X pins σ H { s with heap:=s.heap.push { cls:=.type "range",data:=.fields #[.int lo t,.int hi u,.int 1 v] },toks:=tk }:=I.kept λb o e=>Heap.get?_push_of_some _ e
 refine⟨(s.heap.push { cls:=.type "range",data:=.fields #[.int lo t,.int hi u,.int 1 v] }).objs.size,[(s.heap.push { cls:=.type "range",data:=.fields #[.int lo t,.int hi u,.int 1 v] }).objs.size],_,_,H,rfl,
  I1.kept (t':=tk) λb o e=>Heap.get?_push_of_some _ e,mW _ lo (hi - lo).toNat,?_,λb hb=> ?_,q⟩
 ·have e1:lo+((0:Nat):Int) * 1=lo:=by simp
  have e2:(((hi - lo).toNat:Nat):Int) - ((0:Nat):Int)=Builtin.Range.rangeSize lo hi 1:=by rw[rangeSize_one];split<;>omega
  show IsRangeIter _ _ (lo+((0:Nat):Int) * 1) ((((hi - lo).toNat:Nat):Int) - ((0:Nat):Int)) 1
  rw[e1,e2]
  exact Heap.get?_push_size _ rfl
 ·have e:b=(s.heap.push { cls:=.type "range",data:=.fields #[.int lo t,.int hi u,.int 1 v] }).objs.size:=by simpa using hb
  subst e
  exact I1.fpOk (Nat.le_refl _) (I1.hok.fresh (Nat.le_refl _))
def CY(ta:TA):TI:=λσ H R=>ta σ H λvs H1=>∃ j:Int,vs=[.int j]/\ -(2 ^ 62)<=j/\j<2 ^ 62/\R (EB 0 j.toNat) H1
def XO(ta:TA):TI:=λσ H R=>ta σ H λvs H1=>∃ i j:Int,vs=[.int i,.int j]/\(-(2 ^ 62)<=i/\i<2 ^ 62/\ -(2 ^ 62)<=j/\j<2 ^ 62)/\R (EB i (j - i).toNat) H1
theorem DL{a:Expr}{ta:TA}{p pos:Pos}(hg:Gl X "range")(hm:X.mg "range"=none)(ha:PA X [a] ta)(hs:starEach [a] X.env=[(false,eval a X.env)]:=by rfl):PI X tg (.Call (.Name "range" p) [a] [] pos) (CY ta):=by
 intro pins s σ H R I h
 refine Call_ (K5 I hg hm boot_range (PyProof.Rows.callWith_type1 (AY (ha pos pins s σ H _ I h) λus s1 ⟨vs,H1,I1,r1,q1⟩=> ?_) hs rfl))
 obtain⟨j,e,q1,q2,q⟩:=q1
 subst e
 cases r1 with
 | cons r rr =>
  cases rr
  obtain⟨t,rfl⟩:=r
  exact call_range_1 (mX I1 (by omega) (by omega) q1 q2 (by simpa using q))
def C6(wi:TI)(g:TG)(tb:TS):TS:=λD σ H=>wi σ H λJ H1=>∃ W:Nat->Nat->St->Hp->Prop,(∃ m,W 0 m σ H1)/\∀ i m σ H,W i m σ H →
 (J.stop i H/\D.nx σ H)\/(J.go i H/\∃ N:St->Hp->Prop,(∀ σ' H',N σ' H'->∃ m',m'<m/\W (i+1) m' σ' H')/\∀ x H',J.yld i H x H'->g x σ H' λσ2 H2=>tb { D with nx:=N,ct:=N,bk:=D.nx } σ2 H2)
def NG(fp:List Addr)(h:Heap):List (Addr × Obj):=fp.filterMap λb=>(h.get? b).map λo=>(b,o)
theorem P9{fp:List Addr}{h:Heap}{b:Addr}{o:Obj}(hb:b∈fp)(e:h.get? b=some o):(b,o)∈NG fp h:=List.mem_filterMap.mpr ⟨b,hb,by rw[e];rfl⟩
theorem mY{fp:List Addr}{h:Heap}{p:Addr × Obj}(hp:p∈NG fp h):p.1∈fp/\h.get? p.1=some p.2:=by
 obtain⟨b,hb,e⟩:=List.mem_filterMap.mp hp
 cases q:h.get? b with
 | none=>rw[q]at e;cases e
 | some o =>
  rw[q]at e
  have e':(b,o)=p:=Option.some.inj e
  subst e'
  exact⟨hb,q⟩
theorem Inv.pinned{pins:List (Addr × Obj)}{σ:St}{H:Hp}{s:Shared}{fp:List Addr}(I:Inv X pins σ H s)(hf:∀ b∈fp,FpOk X pins H b)(ho:∀ b∈fp,∃ o,s.heap.get? b=some o/\∀ v,o.data≠.cell v):Inv X (pins++NG fp s.heap) σ H s :=
 I.pins_of λp hp=>(List.mem_append.mp hp).elim (λz=>I.pin p (List.mem_append_right _ z)) λz=>by
  obtain⟨hb,e⟩:=mY z
  obtain⟨f0,f1,f2,_⟩:=hf p.1 hb
  obtain⟨o,e',d⟩:=ho p.1 hb
  rw[e]at e';cases e'
  exact⟨e,f0,f1,f2,d⟩
theorem Inv.unpinned{pins pl:List (Addr × Obj)}{σ:St}{H:Hp}{s:Shared}(I:Inv X (pins++pl) σ H s):Inv X pins σ H s:=I.pins_of λp hp=>I.pin p (List.mem_append_right _ (List.mem_append_left _ hp))
theorem EE{iter:Expr}{body:List Stmt}{wi:TI}{g:TG}{tb:TS}{pos:Pos}(hp:PassesOwn (model X.prog X.w) X.A X.env X.xe)(hc:X.calm=true)(hi:PI X tg iter wi)(hg:PG X tg g)(hb:PSs X body tb)
  (hs:∀ x,foldedSetIterable iter X.env x=pure x:=by intro _;rfl):PS X (.For tg iter body [] pos) (C6 wi g tb):=by
 intro pins s σ H D I h
 refine wpAny_For (AY (hi pins s σ H _ I h) λv s1 h1=>AY h1 λitv s2 h2=> ?_) hs
 obtain⟨it,fp,tn,J,H2,e,I2,T,st2,f2,W,⟨m0,w0⟩,turn⟩:=h2
 subst e
 have stat:∀ {H':Hp},(∀ b∈fp,H' b=none)->∀ b∈fp,FpOk X pins H' b:=λhn b hb=>⟨hn b hb,(f2 b hb).2⟩
 refine codeAny_forLoop_any (λn s'=>∃ i σ' H',Inv X pins σ' H' s'/\tn i s'.heap/\(∀ b∈fp,H' b=none)/\W i n σ' H') ?_ m0 ⟨0,σ,H2,I2,st2,λb hb=>(f2 b hb).1,w0⟩
 rintro n s3 ⟨i,σ3,H3,I3,st3,fr3,w3⟩
 rcases turn i n σ3 H3 w3 with⟨stop,qn⟩ | ⟨go,N,hN,step⟩
 ·refine wpAny_passesOwn hp (AY (T.done X rfl rfl rfl hc i pins s3 σ3 H3 X.xe I3 (stat fr3) st3 stop) λr s4 ⟨hr,I4⟩=> ?_)
  subst hr
  exact wpAny_execs_nil ⟨σ3,H3,I4,qn⟩
 ·refine wpAny_passesOwn hp (AY (T.item X rfl rfl rfl hc i pins s3 σ3 H3 X.xe I3 (stat fr3) st3 go) λr s4 ⟨u,hr,h4⟩=> ?_)
  subst hr
  refine wpAny_passesOwn hp (AY h4 λ_ s5 ⟨x,H5,I5,r5,y5,st5,fr5⟩=> ?_)
  have I5':=I5.pinned (stat fr5) (T.obj _ _ st5)
  refine wpAny_passesOwn hp (AY (hg _ s5 σ3 H5 x u _ I5' r5 (step x H5 y5)) λ_ s6 ⟨σ6,H6,I6,q6⟩=> ?_)
  refine wpAny_passesOwn hp (AY (hb _ s6 σ6 H6 _ I6 q6) λf s7 q7=> ?_)
  have again:∀ {σ7:St} {H7:Hp},Inv X (pins++NG fp s5.heap) σ7 H7 s7->N σ7 H7->∃ m,m<n/\∃ i σ' H',Inv X pins σ' H' s7/\tn i s7.heap/\(∀ b∈fp,H' b=none)/\W i m σ' H':=λ{σ7 H7} I7 n7=>by
   obtain⟨m',hm,w7⟩:=hN σ7 H7 n7
   refine⟨m',hm,i+1,σ7,H7,I7.unpinned,T.keep _ _ _ st5 λb hb o e=>(I7.pin (b,o) (List.mem_append_right _ (List.mem_append_right _ (P9 hb e)))).1,λb hb=> ?_,w7⟩
   obtain⟨o,e,d⟩:=T.obj _ _ st5 b hb
   exact(I7.pin (b,o) (List.mem_append_right _ (List.mem_append_right _ (P9 hb e)))).2.1
  cases f with
  | next=>obtain⟨σ7,H7,I7,n7⟩:=q7;exact again I7 n7
  | cont=>obtain⟨σ7,H7,I7,n7⟩:=q7;exact again I7 n7
  | brk=>obtain⟨σ7,H7,I7,q7⟩:=q7;exact⟨σ7,H7,I7.unpinned,q7⟩
  | ret v=>obtain⟨x7,σ7,H7,I7,r7,q7⟩:=q7;exact⟨x7,σ7,H7,I7.unpinned,r7,q7⟩
end
theorem mZ{K:PySem.W.Frag}{a:Addr}{xs:List V}{g:TG}{tb:TS}{D:Ends}{σ:St}{H:Hp}(Pv:Nat->St->Hp->Prop)(h0:Pv 0 σ H)(hl:∀ i σ H,i<=xs.length->Pv i σ H->SqL K H a xs)
  (hs:∀ i x σ H,xs[i]? =some x->Pv i σ H->g x σ H λσ2 H2=>tb { D with nx:=Pv (i+1),ct:=Pv (i+1),bk:=D.nx } σ2 H2) (hd:∀ σ H,Pv xs.length σ H->D.nx σ H) :
  ∃ W:Nat->Nat->St->Hp->Prop,(∃ m,W 0 m σ H)/\∀ i m σ H,W i m σ H →
   ((E9 K a).stop i H/\D.nx σ H)\/((E9 K a).go i H/\∃ N:St->Hp->Prop,(∀ σ' H',N σ' H'->∃ m',m'<m/\W (i+1) m' σ' H')/\∀ x H',(E9 K a).yld i H x H'->g x σ H' λσ2 H2=>tb { D with nx:=N,ct:=N,bk:=D.nx } σ2 H2):=by
 refine⟨λi m σ H=>m=xs.length - i/\i<=xs.length/\Pv i σ H,⟨xs.length,by simp,Nat.zero_le _,h0⟩,?_⟩
 rintro i m σ H ⟨rfl,hi,p⟩
 have q:=hl i σ H hi p
 by_cases hlt:i<xs.length
 ·refine .inr ⟨⟨xs,xs[i],q,by simp[hlt]⟩,Pv (i+1),λσ' H' p'=>⟨xs.length - (i+1),by omega,rfl,hlt,p'⟩,λx H' y=> ?_⟩
  obtain⟨e,y⟩:=y
  subst e
  exact hs i x σ _ (y xs q) p
 ·have e:i=xs.length:=by omega
  subst e
  exact .inl ⟨⟨xs,q,Nat.le_refl _⟩,hd σ H p⟩
theorem m3{lo:Int}{n:Nat}{g:TG}{tb:TS}{D:Ends}{σ:St}{H:Hp}(Pv:Nat->St->Hp->Prop)(h0:Pv 0 σ H)
  (hs:∀ i σ H,i<n->Pv i σ H->g (.int (lo+i)) σ H λσ2 H2=>tb { D with nx:=Pv (i+1),ct:=Pv (i+1),bk:=D.nx } σ2 H2) (hd:∀ σ H,Pv n σ H->D.nx σ H) :
  ∃ W:Nat->Nat->St->Hp->Prop,(∃ m,W 0 m σ H)/\∀ i m σ H,W i m σ H →
   ((EB lo n).stop i H/\D.nx σ H)\/((EB lo n).go i H/\∃ N:St->Hp->Prop,(∀ σ' H',N σ' H'->∃ m',m'<m/\W (i+1) m' σ' H')/\∀ x H',(EB lo n).yld i H x H'->g x σ H' λσ2 H2=>tb { D with nx:=N,ct:=N,bk:=D.nx } σ2 H2):=by
 refine⟨λi m σ H=>m=n - i/\i<=n/\Pv i σ H,⟨n,by simp,Nat.zero_le _,h0⟩,?_⟩
 rintro i m σ H ⟨rfl,hi,p⟩
 by_cases hlt:i<n
 ·refine .inr ⟨hlt,Pv (i+1),λσ' H' p'=>⟨n - (i+1),by omega,rfl,hlt,p'⟩,λx H' y=> ?_⟩
  obtain⟨e,y⟩:=y
  subst e y
  exact hs i σ _ hlt p
 ·have e:i=n:=by omega
  subst e
  exact .inl ⟨Nat.le_refl _,hd σ H p⟩
end L2
namespace L2
abbrev R2:=V->V->Hp->VK->Prop
def OpR(X:Cx)(f:Value->Value->Sem Value)(r:R2):Prop :=
 ∀ (pins:List (Addr × Obj)) (s:Shared) (σ:St) (H:Hp) (x y:V) (v u:Value) (Q:VK),Inv X pins σ H s->RelV x v->RelV y u->r x y H Q →
  wpAny (model X.prog X.w) X.A (f v u) (EP X pins σ Q) X.xe s
def CallR(X:Cx)(f:Value)(r:List V->Hp->VK->Prop):Prop :=
 ∀ (pins:List (Addr × Obj)) (s:Shared) (σ:St) (H:Hp) (xs:List V) (us:List Value) (Q:VK),Inv X pins σ H s->Vals xs us->r xs H Q →
  wpAny (model X.prog X.w) X.A (call f us) (EP X pins σ Q) X.xe s
def m7(X:Cx)(r:V->Hp->(Bool->Hp->Prop)->Prop):Prop :=
 ∀ (pins:List (Addr × Obj)) (s:Shared) (σ:St) (H:Hp) (x:V) (v:Value) (Q:Bool->Hp->Prop),Inv X pins σ H s->RelV x v->r x H Q →
  wpAny (model X.prog X.w) X.A (truthy v) (TP X pins σ Q) X.xe s
def AC(r:R2)(ta tb:TE):TE:=λσ H Q=>ta σ H λx H1=>tb σ H1 λy H2=>r x y H2 Q
def m8(r:V->Hp->VK->Prop)(ta:TE):TE:=λσ H Q=>ta σ H λx H1=>r x H1 Q
def rI(C:Int->Int->Prop)(g:Int->Int->V):R2:=λx y H Q=>∃ i j,x=.int i/\y=.int j/\C i j/\Q (g i j) H
def GT(g:Int->Int->V):R2:=λx y H Q=>∃ i j,x=.int i/\y=.int j/\Q (g i j) H
def rU(g:Int->V):V->Hp->VK->Prop:=λx H Q=>∃ i,x=.int i/\Q (g i) H
section
variable{X:Cx}{a b c:Expr}{ta tb tc:TE}{pos:Pos}
theorem SC(ha:PE X a ta)(hb:PE X b tb){pins:List (Addr × Obj)}{s:Shared}{σ:St}{H:Hp}{R:V->V->Hp->Prop}(I:Inv X pins σ H s)
  (h:ta σ H λx H1=>tb σ H1 λy H2=>R x y H2) {Q:Value->Shared->Prop} {f:Value->Value->Sem Value}
  (hf:∀ v u s2 x y H2,Inv X pins σ H2 s2->RelV x v->RelV y u->R x y H2->wpAny (model X.prog X.w) X.A (f v u) Q X.xe s2) :
  wpAny (model X.prog X.w) X.A (eval a X.env) (λv s₁=>wpAny (model X.prog X.w) X.A (eval b X.env) (λu s₂=>wpAny (model X.prog X.w) X.A (f v u) Q X.xe s₂) X.xe s₁) X.xe s:=by
 refine AY (ha pins s σ H _ I h) λv s1 ⟨x,H1,I1,r1,q1⟩=> ?_
 refine AY (hb pins s1 σ H1 _ I1 q1) λu s2 ⟨y,H2,I2,r2,q2⟩=> ?_
 exact hf v u s2 x y H2 I2 r1 r2 q2
theorem AU{op:Operator}{r:R2}(ho:OpR X (binaryOp op) r)(ha:PE X a ta)(hb:PE X b tb):PE X (.BinOp a op b pos) (AC r ta tb):=by
 intro pins s σ H Q I h
 exact wpAny_BinOp (SC ha hb I h λv u s2 x y H2 I2 rx ry q=>ho pins s2 σ H2 x y v u Q I2 rx ry q)
theorem QC{f:Value->Value->Sem Value}{C:Int->Int->Prop}{g:Int->Int->Int}
  (rule:∀ (i j:Int) (t u:Tok) (s:Shared) (Q:Value->Shared->Prop) (E:Value->Shared->Prop),C i j->Q (.int (g i j) s.toks) { s with toks:=s.toks+1 }->wpAny (model X.prog X.w) X.A (f (.int i t) (.int j u)) Q E s) :
  OpR X f (rI C λi j=>.int (g i j)):=by
 intro pins s σ H x y v u Q I rx ry h
 obtain⟨i,j,rfl,rfl,hc,q⟩:=h
 obtain⟨t,rfl⟩:=rx
 obtain⟨t',rfl⟩:=ry
 exact rule i j t t' s _ _ hc ⟨.int (g i j),H,I.tok _,⟨_,rfl⟩,q⟩
theorem XQ{f:Value->Value->Sem Value}{g:Int->Int->Int}
  (rule:∀ (i j:Int) (t u:Tok) (s:Shared) (Q:Value->Shared->Prop) (E:Value->Shared->Prop),Q (.int (g i j) s.toks) { s with toks:=s.toks+1 }->wpAny (model X.prog X.w) X.A (f (.int i t) (.int j u)) Q E s) :
  OpR X f (GT λi j=>.int (g i j)):=by
 intro pins s σ H x y v u Q I rx ry h
 obtain⟨i,j,rfl,rfl,q⟩:=h
 obtain⟨t,rfl⟩:=rx
 obtain⟨t',rfl⟩:=ry
 exact rule i j t t' s _ _ ⟨.int (g i j),H,I.tok _,⟨_,rfl⟩,q⟩
theorem SD{f:Value->Value->Sem Value}{g:Int->Int->Bool}
  (rule:∀ (i j:Int) (t u:Tok) (s:Shared) (Q:Value->Shared->Prop) (E:Value->Shared->Prop),Q (.bool (g i j)) s->wpAny (model X.prog X.w) X.A (f (.int i t) (.int j u)) Q E s) :
  OpR X f (GT λi j=>.bl (g i j)):=by
 intro pins s σ H x y v u Q I rx ry h
 obtain⟨i,j,rfl,rfl,q⟩:=h
 obtain⟨t,rfl⟩:=rx
 obtain⟨t',rfl⟩:=ry
 exact rule i j t t' s _ _ ⟨.bl (g i j),H,I,rfl,q⟩
def XR(i j:Int):Prop:=0<j/\j<1073741824
def XS(i j:Int):Prop:=0<=j/\j<=1000000/\i.natAbs<2 ^ 64
def CMul(i j:Int):Prop:=(-(2 ^ 64)<i/\i<2 ^ 64)\/(-(2 ^ 64)<j/\j<2 ^ 64)
theorem CMul.ok{i j:Int}(h:CMul i j):IntMulOk i j:=by
 rcases h with⟨h1,h2⟩ | ⟨h1,h2⟩
 ·exact .of_left (intBits_le_64 h1 h2)
 ·exact .of_right (intBits_le_64 h1 h2)
theorem m9:OpR X (binaryOp .Add) (GT λi j=>.int (i+j)):=XQ λ_ _ _ _ _ _ _ q=>add_int q
theorem SE:OpR X (binaryOp .Sub) (GT λi j=>.int (i - j)):=XQ λ_ _ _ _ _ _ _ q=>sub_int q
theorem nB:OpR X (binaryOp .Mult) (rI CMul λi j=>.int (i * j)):=QC λ_ _ _ _ _ _ _ hc q=>mul_int q hc.ok
theorem FH:OpR X (binaryOp .FloorDiv) (rI XR λi j=>.int (i / j)):=QC λi j _ _ _ _ _ hc q=>by
 have h1:(0:Int)<j:=hc.1
 have h2:j<1073741824:=hc.2
 exact floordiv_int (by omega) (by rw[Int.fdiv_eq_ediv_of_nonneg i (by omega)];exact q) (.inl (PyProof.noPylong_small (by omega)))
theorem B6:OpR X (binaryOp .Mod) (rI (λ_ j=>0<j) λi j=>.int (i % j)):=QC λi j _ _ _ _ _ hc q=>by
 have h1:(0:Int)<j:=hc
 exact mod_int' (by omega) (by rw[Int.fmod_eq_emod_of_nonneg i (by omega)];exact q)
theorem nD:OpR X (binaryOp .Pow) (rI XS λi j=>.int (i ^ j.toNat)):=QC λ_ _ _ _ _ _ _ hc q=>pow_int_small hc.1 hc.2.1 hc.2.2 q
end
def D4:V->V->Bool
 | .non,.non=>true | .non,.int _=>true | .int _,.non=>true | .non,.bl _=>true | .bl _,.non=>true | .non,.str _=>true | .str _,.non=>true
 | .int _,.int _=>true | .bl _,.bl _=>true | .str _,.str _=>true | .byt _,.byt _=>true
 | .int _,.str _=>true | .str _,.int _=>true | .bl _,.str _=>true | .str _,.bl _=>true
 | _,_=>false
def nE:R2:=λx y H Q=>D4 x y=true/\Q (.bl (decide (x=y))) H
def nF:R2:=λx y H Q=>D4 x y=true/\Q (.bl (!decide (x=y))) H
theorem XT{i j:Int}:decide (V.int i=V.int j)=(i == j):=by
 rw[Bool.eq_iff_iff]
 simp
theorem XU{i j:Bool}:decide (V.bl i=V.bl j)=(i == j):=by
 rw[Bool.eq_iff_iff]
 simp
theorem XV{i j:Str}:decide (V.str i=V.str j)=(i == j):=by
 rw[Bool.eq_iff_iff]
 simp
theorem XW{i j:Array UInt8}:decide (V.byt i=V.byt j)=(i.toList == j.toList):=by
 rw[Bool.eq_iff_iff]
 cases i
 cases j
 simp
section
variable{X:Cx}{a b c:Expr}{ta tb tc:TE}{pos:Pos}
theorem CH{pins:List (Addr × Obj)}{σ:St}{H:Hp}{s:Shared}{Q:VK}{k k':Bool}(I:Inv X pins σ H s)(q:Q (.bl k) H)(e:k=k'):EP X pins σ Q (.bool k') s:=by
 subst e
 exact⟨.bl k,H,I,rfl,q⟩
theorem nH:OpR X (compareOp .Eq) nE:=by
 intro pins s σ H x y v u Q I rx ry h
 obtain⟨hs,q⟩:=h
 cases x with
 | non =>
  cases rx
  cases y with
  | non=>cases ry;exact PySem.EqNone.eq_none_none (CH I q (by simp))
  | bl j=>cases ry;exact PySem.EqNone.eq_none_bool (CH I q (by simp))
  | int j=>obtain⟨t',rfl⟩:=ry;exact PySem.EqNone.eq_none_int (CH I q (by simp))
  | str j=>obtain⟨t',rfl⟩:=ry;exact PySem.EqNone.eq_none_str (CH I q (by simp))
  | _=>exact absurd (show false=true from hs) Bool.false_ne_true
 | bl i =>
  cases rx
  cases y with
  | non=>cases ry;exact PySem.EqNone.eq_bool_none (CH I q (by simp))
  | bl j=>cases ry;exact eq_bool (CH I q XU)
  | str j=>obtain⟨t',rfl⟩:=ry;exact PySem.EqMixed.eq_bool_str (CH I q (by simp))
  | _=>exact absurd (show false=true from hs) Bool.false_ne_true
 | int i =>
  obtain⟨t,rfl⟩:=rx
  cases y with
  | non=>cases ry;exact PySem.EqNone.eq_int_none (CH I q (by simp))
  | int j=>obtain⟨t',rfl⟩:=ry;exact eq_int (CH I q XT)
  | str j=>obtain⟨t',rfl⟩:=ry;exact PySem.EqMixed.eq_int_str (CH I q (by simp))
  | _=>exact absurd (show false=true from hs) Bool.false_ne_true
 | str i =>
  obtain⟨t,rfl⟩:=rx
  cases y with
  | non=>cases ry;exact PySem.EqNone.eq_str_none (CH I q (by simp))
  | bl j=>cases ry;exact PySem.EqMixed.eq_str_bool (CH I q (by simp))
  | int j=>obtain⟨t',rfl⟩:=ry;exact PySem.EqMixed.eq_str_int (CH I q (by simp))
  | str j=>obtain⟨t',rfl⟩:=ry;exact eq_str (CH I q XV)
  | _=>exact absurd (show false=true from hs) Bool.false_ne_true
 | byt i =>
  obtain⟨t,rfl⟩:=rx
  cases y with
  | byt j=>obtain⟨t',rfl⟩:=ry;exact W.eq_bytes (CH I q XW)
  | _=>exact absurd (show false=true from hs) Bool.false_ne_true
 | _=>cases y<;>exact absurd (show false=true from hs) Bool.false_ne_true
theorem nJ:OpR X (compareOp .NotEq) nF:=by
 intro pins s σ H x y v u Q I rx ry h
 obtain⟨hs,q⟩:=h
 cases x with
 | non =>
  cases rx
  cases y with
  | non=>cases ry;exact PySem.EqNone.ne_none_none (CH I q (by simp))
  | bl j=>cases ry;exact PySem.EqNone.ne_none_bool (CH I q (by simp))
  | int j=>obtain⟨t',rfl⟩:=ry;exact PySem.EqNone.ne_none_int (CH I q (by simp))
  | str j=>obtain⟨t',rfl⟩:=ry;exact PySem.EqNone.ne_none_str (CH I q (by simp))
  | _=>exact absurd (show false=true from hs) Bool.false_ne_true
 | bl i =>
  cases rx
  cases y with
  | non=>cases ry;exact PySem.EqNone.ne_bool_none (CH I q (by simp))
  | bl j=>cases ry;exact ne_bool (CH I q (congrArg not XU))
  | str j=>obtain⟨t',rfl⟩:=ry;exact PySem.EqMixed.ne_bool_str (CH I q (by simp))
  | _=>exact absurd (show false=true from hs) Bool.false_ne_true
 | int i =>
  obtain⟨t,rfl⟩:=rx
  cases y with
  | non=>cases ry;exact PySem.EqNone.ne_int_none (CH I q (by simp))
  | int j=>obtain⟨t',rfl⟩:=ry;exact ne_int (CH I q (congrArg not XT))
  | str j=>obtain⟨t',rfl⟩:=ry;exact PySem.EqMixed.ne_int_str (CH I q (by simp))
  | _=>exact absurd (show false=true from hs) Bool.false_ne_true
 | str i =>
  obtain⟨t,rfl⟩:=rx
  cases y with
  | non=>cases ry;exact PySem.EqNone.ne_str_none (CH I q (by simp))
  | bl j=>cases ry;exact PySem.EqMixed.ne_str_bool (CH I q (by simp))
  | int j=>obtain⟨t',rfl⟩:=ry;exact PySem.EqMixed.ne_str_int (CH I q (by simp))
  | str j=>obtain⟨t',rfl⟩:=ry;exact ne_str (CH I q (congrArg not XV))
  | _=>exact absurd (show false=true from hs) Bool.false_ne_true
 | byt i =>
  obtain⟨t,rfl⟩:=rx
  cases y with
  | byt j=>obtain⟨t',rfl⟩:=ry;exact W.ne_bytes (CH I q (congrArg not XW))
  | _=>exact absurd (show false=true from hs) Bool.false_ne_true
 | _=>cases y<;>exact absurd (show false=true from hs) Bool.false_ne_true
theorem nK:OpR X (compareOp .Lt) (GT λi j=>.bl (decide (i<j))):=SD λ_ _ _ _ _ _ _ q=>lt_int q
theorem nQ:OpR X (compareOp .LtE) (GT λi j=>.bl (decide (i<=j))):=SD λ_ _ _ _ _ _ _ q=>le_int q
theorem nS:OpR X (compareOp .Gt) (GT λi j=>.bl (decide (j<i))):=SD λ_ _ _ _ _ _ _ q=>gt_int q
theorem GU:OpR X (compareOp .Is) (λx y H Q=>y=.non/\Q (.bl (decide (x=.non))) H):=by
 intro pins s σ H x y v u Q I rx ry h
 obtain⟨rfl,q⟩:=h
 cases ry
 refine is_none_gen (CH I q ?_)
 cases x<;>first
  | (cases rx;rfl)
  | (obtain⟨t,rfl⟩:=rx;rfl)
theorem K7:OpR X (compareOp .IsNot) (λx y H Q=>y=.non/\Q (.bl (!decide (x=.non))) H):=by
 intro pins s σ H x y v u Q I rx ry h
 obtain⟨rfl,q⟩:=h
 cases ry
 refine isnot_none_gen (CH I q ?_)
 cases x<;>first
  | (cases rx;rfl)
  | (obtain⟨t,rfl⟩:=rx;rfl)
theorem OpR.or{f:Value->Value->Sem Value}{r r':R2}(h:OpR X f r)(h':OpR X f r'):OpR X f (λx y H Q=>r x y H Q\/r' x y H Q):=by
 intro pins s σ H x y v u Q I rx ry q
 rcases q with q | q
 ·exact h pins s σ H x y v u Q I rx ry q
 ·exact h' pins s σ H x y v u Q I rx ry q
theorem A3(b:Expr){op:CmpOp}(h:op≠.In:=by decide)(h2:op≠.NotIn:=by decide):behindInMarks op b=false:=by
 have e1:(op == CmpOp.In)=false:=by cases op<;>first | rfl | exact absurd rfl h
 have e2:(op == CmpOp.NotIn)=false:=by cases op<;>first | rfl | exact absurd rfl h2
 cases b<;>simp[behindInMarks,e1,e2]
theorem QD{op:CmpOp}{r:R2}(ho:OpR X (compareOp op) r)(ha:PE X a ta)(hb:PE X b tb)(hm:behindInMarks op b=false):PE X (.Compare a [op] [b] pos) (AC r ta tb):=by
 intro pins s σ H Q I h
 exact wpAny_Compare1 (SC ha hb I h λv u s2 x y H2 I2 rx ry q=>ho pins s2 σ H2 x y v u Q I2 rx ry q) hm
def A4(t:TE):TT:=λσ H Q=>t σ H λx H'=>∃ k,x=.bl k/\Q k H'
theorem A8{op:CmpOp}{r:R2}(ho:OpR X (compareOp op) r)(ha:PE X a ta)(hb:PE X b tb)(hm:behindInMarks op b=false):PT X (.Compare a [op] [b] pos) (A4 (AC r ta tb)):=by
 intro pins s σ H Q I h
 refine wpAny_isTrue_Compare1 (AY (ha pins s σ H _ I h) λv s1 ⟨x,H1,I1,r1,q1⟩=>AY (hb pins s1 σ H1 _ I1 q1) λu s2 ⟨y,H2,I2,r2,q2⟩ =>
  AY (ho pins s2 σ H2 x y v u _ I2 r1 r2 q2) λc s3 ⟨z,H3,I3,r3,k,e,q3⟩=> ?_) hm
 subst e
 cases r3
 exact wpAny_truthy_bool ⟨H3,I3,q3⟩
def SF(r r':R2)(ta tb tc:TE):TE:=λσ H Q=>ta σ H λx H1=>tb σ H1 λy H2=>r x y H2 λz H3=>∃ k,z=.bl k ∧
 (if k=true then tc σ H3 λw' H4=>r' y w' H4 Q else Q (.bl false) H3)
theorem nT{op op':CmpOp}{r r':R2}(ho:OpR X (compareOp op) r)(ho':OpR X (compareOp op') r')(ha:PE X a ta)(hb:PE X b tb)(hc:PE X c tc)
  (hm:lastMarks [op,op'] [b,c]=false:=by with_unfolding_all rfl):PT X (.Compare a [op,op'] [b,c] pos) (A4 (SF r r' ta tb tc)):=by
 intro pins s σ H Q I h
 refine isTrue_chain (AY (ha pins s σ H _ I h) λv s1 ⟨x,H1,I1,r1,q1⟩=>test_link (AY (hb pins s1 σ H1 _ I1 q1) λu s2 ⟨y,H2,I2,r2,q2⟩ =>
  AY (ho pins s2 σ H2 x y v u _ I2 r1 r2 q2) λd s3 ⟨z,H3,I3,r3,k,e,q3⟩=> ?_)) hm
 subst e
 cases r3
 refine wpAny_truthy_bool ?_
 cases k with
 | false =>
  obtain⟨k',e',q'⟩:=q3
  cases e'
  exact ite_ff ⟨H3,I3,q'⟩
 | true =>
  refine ite_tt (test_last (AY (hc pins s3 σ H3 _ I3 q3) λw' s4 ⟨z',H4,I4,r4,q4⟩=>AY (ho' pins s4 σ H4 y z' u w' _ I4 r2 r4 q4) λd' s5 ⟨z2,H5,I5,r5,k2,e2,q5⟩=> ?_))
  subst e2
  cases r5
  exact wpAny_truthy_bool ⟨H5,I5,q5⟩
def DY(K:W.Frag)(x:V)(H:Hp)(k:Bool):Prop :=
 match x with
 | .non=>k=false
 | .bl b=>k=b
 | .int i=>k=(i != 0)
 | .str y=>y.length<=sizeLine/\k=((y.length:Int) != 0)
 | .byt y=>y.size<=sizeLine/\k=((y.size:Int) != 0)
 | .ref p=>(∃ xs,SqL K H p xs/\k= !xs.isEmpty)\/(∃ xs,SqT K H p xs/\k= !xs.isEmpty)\/∃ kvs,H p=some (.dK kvs)/\k= !kvs.isEmpty
 | _=>False
theorem nU{κ :Type}{kvs:List (κ × V)}{vs:List (κ × Value)}(r:KV kvs vs):(!vs.isEmpty)= !kvs.isEmpty:=by
 cases r<;>rfl
theorem XX{xs:List V}{its:List Value}(r:Vals xs its):(!its.toArray.isEmpty)= !xs.isEmpty:=by
 cases r<;>simp
theorem JG:(sizeLine:Nat)<2 ^ 63:=by rw[sizeLine_eq];decide
theorem nX:m7 X (λx H Q=>∃ k,DY X.K x H k/\Q k H):=by
 intro pins s σ H x v Q I rx h
 obtain⟨k,e,q⟩:=h
 have hl:=JG
 have hs:sizeLine=16777216:=sizeLine_eq
 cases x with
 | non =>
  cases rx
  have e':k=false:=e
  subst e'
  exact truthy_none ⟨H,I,q⟩
 | bl b =>
  cases rx
  have e':k=b:=e
  subst e'
  exact wpAny_truthy_bool ⟨H,I,q⟩
 | int i =>
  obtain⟨t,rfl⟩:=rx
  have e':k=(i != 0):=e
  subst e'
  exact PySem.P.truthy_int ⟨H,I,q⟩
 | str y =>
  obtain⟨t,rfl⟩:=rx
  obtain⟨hy,e'⟩:y.length<=sizeLine/\k=((y.length:Int) != 0):=e
  subst e'
  exact PySem.P.truthy_str (by omega) ⟨H,I.tok _,q⟩
 | byt y =>
  obtain⟨t,rfl⟩:=rx
  obtain⟨hy,e'⟩:y.size<=sizeLine/\k=((y.size:Int) != 0):=e
  subst e'
  exact W.truthy_bytes (by omega) ⟨H,I.tok _,q⟩
 | ref p =>
  cases rx
  have e':(∃ xs,SqL X.K H p xs/\k= !xs.isEmpty)\/(∃ xs,SqT X.K H p xs/\k= !xs.isEmpty)\/∃ kvs,H p=some (.dK kvs)/\k= !kvs.isEmpty:=e
  rcases e' with⟨xs,hx,e'⟩ | ⟨xs,hx,e'⟩ | ⟨kvs,hx,e'⟩
  ·subst e'
   obtain⟨its,r,pl,hz⟩:=I.list hx
   have hlen:=r.length
   exact wpAny_truthy_list pl.isList (by simp only[List.size_toArray];omega) ⟨H,I.tok _,by rw[XX r];exact q⟩
  ·subst e'
   obtain⟨its,r,pl,hz⟩:=I.tuple hx
   have hlen:=r.length
   exact truthy_tuple pl (by simp only[List.size_toArray];omega) ⟨H,I.tok _,by rw[XX r];exact q⟩
  ·subst e'
   obtain⟨hz,hS,vs,r,m⟩:kvs.length<=sizeLine/\(p == sysModules)=false/\∃ vs,KV kvs vs/\s.heap.DictOf (DP X.prog X.w) p vs:=I.hok p _ hx
   have hlen:kvs.length=vs.length:=Paired.length r
   exact wpAny_truthy_dict hS m (by omega) ⟨H,I.tok _,by rw[nU r];exact q⟩
 | _=>exact(show False from e).elim
theorem HY(ha:PE X a ta)(he:∀ whole,isTrue a X.env whole=(do let v ← whole;standAt a.pos;holding [v] (truthy v))) :
  PT X a (λσ H Q=>ta σ H λx H'=>∃ k,DY X.K x H' k/\Q k H'):=by
 intro pins s σ H Q I h
 exact isTrue_plain (AY (ha pins s σ H _ I h) λv s1 ⟨x,H1,I1,r1,q1⟩=>nX pins s1 σ H1 x v Q I1 r1 q1) (he _)
theorem nY:OpR X (binaryOp .Add) (λx y H Q=>∃ i j,x=.str i/\y=.str j/\i.length+j.length<=sizeLine/\Q (.str (i++j)) H):=by
 intro pins s σ H x y v u Q I rx ry h
 obtain⟨i,j,rfl,rfl,hz,q⟩:=h
 obtain⟨t,rfl⟩:=rx
 obtain⟨t',rfl⟩:=ry
 exact add_str (λt' tk=>⟨.str (i++j),H,I.tok _,⟨_,rfl⟩,q⟩) hz
theorem JH{x:V}{us:List Value}(r:Vals [x] us):∃ u,us=[u]/\RelV x u:=by
 cases r with
 | cons r1 r2=>cases r2;exact⟨_,rfl,r1⟩
theorem SG:CallR X (.type "int") (λxs H Q=>(∃ i,xs=[.int i]/\Q (.int i) H)\/∃ k,xs=[.bl k]/\Q (.int (if k then 1 else 0)) H):=by
 intro pins s σ H xs us Q I r h
 rcases h with⟨i,rfl,q⟩ | ⟨k,rfl,q⟩
 ·obtain⟨u,rfl,t,rfl⟩:=JH r
  exact call_int_int ⟨.int i,H,I,⟨_,rfl⟩,q⟩
 ·obtain⟨u,rfl,r1⟩:=JH r
  cases r1
  exact call_int_bool ⟨.int (if k then 1 else 0),H,I.tok _,⟨_,rfl⟩,q⟩
def JI(K:W.Frag)(x:V)(H:Hp)(n:Nat):Prop :=
 match x with
 | .str y=>y.length<=sizeLine/\n=y.length
 | .byt y=>y.size<=sizeLine/\n=y.size
 | .ref p=>(∃ xs,SqL K H p xs/\n=xs.length)\/∃ xs,SqT K H p xs/\n=xs.length
 | _=>False
theorem nZ:CallR X (.builtin "len") (λxs H Q=>∃ x n,xs=[x]/\JI X.K x H n/\Q (.int n) H):=by
 intro pins s σ H xs us Q I r h
 obtain⟨x,n,rfl,e,q⟩:=h
 obtain⟨u,rfl,rx⟩:=JH r
 have hl:=JG
 have hs:sizeLine=16777216:=sizeLine_eq
 cases x with
 | str y =>
  obtain⟨t,rfl⟩:=rx
  obtain⟨hy,e'⟩:y.length<=sizeLine/\n=y.length:=e
  subst e'
  exact len_str (by omega) ⟨.int _,H,I.tok _,⟨_,rfl⟩,q⟩
 | byt y =>
  obtain⟨t,rfl⟩:=rx
  obtain⟨hy,e'⟩:y.size<=sizeLine/\n=y.size:=e
  subst e'
  exact W.len_bytes (by omega) ⟨.int _,H,I.tok _,⟨_,rfl⟩,q⟩
 | ref p =>
  cases rx
  have e':(∃ xs,SqL X.K H p xs/\n=xs.length)\/∃ xs,SqT X.K H p xs/\n=xs.length:=e
  rcases e' with⟨xs,hx,e'⟩ | ⟨xs,hx,e'⟩
  ·subst e'
   obtain⟨its,r',pl,hz⟩:=I.list hx
   have hlen:=r'.length
   exact Calls.call_len_list pl.isList (by simp only[List.size_toArray];omega) ⟨.int xs.length,H,I.tok _,⟨_,by simp only[List.size_toArray];rw[hlen]⟩,q⟩
  ·subst e'
   obtain⟨its,r',pl,hz⟩:=I.tuple hx
   have hlen:=r'.length
   exact len_tuple pl (by simp only[List.size_toArray];omega) ⟨.int xs.length,H,I.tok _,⟨_,by simp only[List.size_toArray];rw[hlen]⟩,q⟩
 | _=>exact(show False from e).elim
end
end L2
namespace L2
structure ObjM(h:Heap)(x dx C:Addr)(mA:Str->Option Value):Prop where
 obj:h.get? x=some (W.instObj C dx)
 ns:h.Ns1 dx mA
 ne:dx≠x
theorem n0{h:Heap}{dx:Addr}{mA:Str->Option Value}(n:h.Ns1 dx mA):∃ od,h.get? dx=some od/\∀ name,W.lookIn name od=some (mA name):=by
 obtain⟨o,es,ep,ho,hd,hk,_,hm⟩:=n
 refine⟨o,ho,λname=> ?_⟩
 have e:=hm name
 unfold nsFind findBy at e
 rw[<-Array.find?_toList]at e
 unfold W.lookIn
 rw[hd]
 dsimp only
 split
 ·rename_i y q
  rw[q]at e
  exact congrArg some e
 ·rename_i q
  rw[q]at e
  have a:es.toList.any (·.refKey)=false:=by
   rw[List.any_eq_false]
   intro y hy
   obtain⟨z,t,hkey⟩:=hk y (Array.mem_toList_iff.mp hy)
   simp[DictEntry.refKey,hkey]
  have a':¬ es.toList.any (·.refKey)=true:=by rw[a];exact Bool.false_ne_true
  rw[if_neg a']
  exact congrArg some e
theorem ObjM.look{h:Heap}{x dx C:Addr}{mA:Str->Option Value}(I:ObjM h x dx C mA):∃ od,W.InstAt h x (W.instObj C dx) C (some od)/\∀ name,W.lookIn name od=some (mA name) :=
 let ⟨od,ho,hl⟩:=n0 I.ns
 ⟨od,⟨I.obj,rfl,rfl,ho⟩,hl⟩
section
variable{prog:Program}{w:World}{A:Around}{E:Value->Shared->Prop}{s:Shared}{K:W.Frag}{x dx C f:Addr}{mA:Str->Option Value}{name:Str}{v:Value}
theorem oA{expr:Bool}{Q:Value->Shared->Prop}(X:K.In s.heap)(I:ObjM s.heap x dx C mA)(hg:W.plainGet K C name=true)(hh:W.hasDictIn K C=true)
  (ha:W.findIn K (.ref C) name=some none) (hv:mA name=some v) (hv':W.handedIn v=true) (h:Q v { s with toks:=s.toks+1 }) :
  wpAny (model prog w) A (getAttr (.ref x) name expr) Q E s:=by
 obtain⟨od,J,hl⟩:=I.look
 exact W.get_value X J (W.plainGet_of hg).1 (W.findObj_own hh ha rfl (by rw[hl,hv])) hv' h
theorem oB{pl:Sem Bool}{Q:Value × List Value->Shared->Prop}(X:K.In s.heap)(I:ObjM s.heap x dx C mA)(hg:W.plainGet K C name=true)
  (hf:W.findIn K (.ref C) name=some (some (.ref f))) (ht:W.isFn K (.ref f)=true) (hv:mA name=none) (h:Q (.ref f,[.ref x]) s) :
  wpAny (model prog w) A (getMethod (.ref x) name pl) Q E s:=by
 obtain⟨od,J,hl⟩:=I.look
 exact W.method_fn X J (W.plainGet_of hg).1 (W.plainGet_of hg).2 hf (beq_iff_eq.mp ht) (by show(W.lookIn name od).map (·.isSome)=some false;rw[hl,hv];rfl) h
theorem oC{ns:List Str}{Q:Unit->Shared->Prop}(X:K.In s.heap)(I:ObjM s.heap x dx C mA)
  (hs:W.findIn K (.ref C) "__setattr__"=some (some (.builtin "object.__setattr__"))) (hp:W.plainOver K C=true) (ht:W.takerIn K C name=some none) (hh:W.hasDictIn K C=true)
  (hw:PySem.Within mA ns) (hsz:ns.length<=sizeLine)
  (h:∀ h',ObjM h' x dx C (λy=>if y=name then some v else mA y)->Heap.SameBut dx s.heap h'->Q () { s with heap:=h',toks:=s.toks+2 }) :
  wpAny (model prog w) A (setAttr (.ref x) name v) Q E s:=by
 obtain⟨od,J,hl⟩:=I.look
 refine W.set_plain X J hs (W.osa_open (s:={ s with toks:=s.toks+1 }) (r:=none) X J hp ht λb=> ?_)
 obtain⟨cd,hc,hd'⟩:=W.any_some hh
 have hx:s.heap.get? x=some ⟨.ref C,some dx,.plain,#[]⟩:=I.obj
 refine wpAny_bind (wpAny_pure (wpAny_bind (wpAny_bind (wpAny_loadPart hx (wpAny_bind (W.Looks.here (s:={ s with toks:=s.toks+1 }) (W.looks_clsIn X hc) ?_))))))
 rw[hd']
 refine wpAny_pure (a:=some dx) (wpAny_bind (wpAny_pure (wpAny_bind ?_)))
 refine wpAny_nsSet1 (s:={ s with toks:=s.toks+1 }) I.ns λh' hn2 hs2=> ?_
 obtain⟨oD,esD,epD,hoD,hdD,hcD⟩:=hn2.count (PySem.Within.cons name v hw)
 refine wpAny_bind (wpAny_lookBehind hoD (by rw[hdD];exact pastItsLine_dict (Nat.le_trans hcD (by rw[List.length_cons];omega))) ?_)
 exact wpAny_pure (h _ ⟨(hs2.2 _ (Ne.symm I.ne)).trans I.obj,hn2,I.ne⟩ hs2)
theorem oE{R:Result->Shared->Prop}{vs:List Value}{kw:List (Str × Value)}(X:K.In s.heap)(hm:W.makesIn K C=true)
  (hi:W.findIn K (.ref C) "__init__"=some (some (.ref f))) (hf:W.typeIn K (.ref f)=some (.type "function"))
  (h:codeAny (model prog w) (A.under (.builtin "type.__call__" ⟨.ref C::vs,kw⟩)) (.call (.ref f) ⟨.ref (s.heap.objs.size+1)::vs,kw⟩) (W.InitBack (s.heap.objs.size+1) R)
   { s with heap:=(s.heap.push W.emptyDict).push (W.instObj C s.heap.objs.size) }) :
  codeAny (model prog w) A (.call (.ref C) ⟨vs,kw⟩) R s:=by
 obtain⟨hh,g,d,t,os⟩:=s
 exact W.make_core (W.makes_of X hm) (W.looks_findIn X hi) (λself=>W.bind_fn X self hf) (.inl rfl) h
end
def BQ(f:Str)(v:V):List (Str × V)->List (Str × V)
 | []=>[(f,v)]
 | (g,x)::r=>if g=f then(g,v)::r else(g,x)::BQ f v r
theorem XY(f g:Str)(v:V):∀ fs:List (Str × V),(BQ f v fs).lookup g=if g=f then some v else fs.lookup g
 | []=>by
  show List.lookup g [(f,v)]=_
  by_cases h:g=f
  ·have hb:(g == f)=true:=beq_iff_eq.mpr h
   simp only[List.lookup,hb,if_pos h]
  ·have hb:(g == f)=false:=beq_eq_false_iff_ne.mpr h
   simp only[List.lookup,hb,if_neg h]
 | (k,x)::r=>by
  have ih:=XY f g v r
  rw[show BQ f v ((k,x)::r)=(if k=f then(k,v)::r else(k,x)::BQ f v r)from rfl]
  by_cases hk:k=f
  ·rw[if_pos hk]
   by_cases h:g=k
   ·have hb:(g == k)=true:=beq_iff_eq.mpr h
    simp only[List.lookup,hb,if_pos (h.trans hk)]
   ·have hb:(g == k)=false:=beq_eq_false_iff_ne.mpr h
    simp only[List.lookup,hb,if_neg (λe:g=f=>h (e.trans hk.symm))]
  ·rw[if_neg hk]
   by_cases h:g=k
   ·have hb:(g == k)=true:=beq_iff_eq.mpr h
    simp only[List.lookup,hb,if_neg (λe:g=f=>hk (h.symm.trans e))]
   ·have hb:(g == k)=false:=beq_eq_false_iff_ne.mpr h
    simp only[List.lookup,hb]
    exact ih
theorem SH(f:Str)(v:V):∀ fs:List (Str × V),f∈(BQ f v fs).map (·.1)/\∀ g,g∈fs.map (·.1)->g∈(BQ f v fs).map (·.1)
 | []=>⟨by simp[BQ],λg h=>by simp at h⟩
 | (k,x)::r=>by
  obtain⟨i1,i2⟩:=SH f v r
  rw[show BQ f v ((k,x)::r)=(if k=f then(k,v)::r else(k,x)::BQ f v r)from rfl]
  by_cases hk:k=f
  ·rw[if_pos hk]
   subst hk
   exact⟨by simp,λg h=>by simpa using h⟩
  ·rw[if_neg hk]
   refine⟨?_,λg h=> ?_⟩
   ·rw[List.map_cons]
    exact List.mem_cons_of_mem _ i1
   ·rw[List.map_cons]at h ⊢
    rcases List.mem_cons.mp h with e | e
    ·exact List.mem_cons.mpr (.inl e)
    ·exact List.mem_cons_of_mem _ (i2 g e)
theorem SI(f:Str)(v:V):∀ fs:List (Str × V),(BQ f v fs).length<=fs.length+1
 | []=>by simp[BQ]
 | (k,x)::r=>by
  have ih:=SI f v r
  rw[show BQ f v ((k,x)::r)=(if k=f then(k,v)::r else(k,x)::BQ f v r)from rfl]
  by_cases hk:k=f
  ·rw[if_pos hk,List.length_cons,List.length_cons];omega
  ·rw[if_neg hk,List.length_cons,List.length_cons];omega
theorem RelO.some_of{v:V}{o:Option Value}(r:RelO (some v) o):∃ u,o=some u/\RelV v u:=by
 cases o with
 | none=>exact(show False from r).elim
 | some u=>exact⟨u,rfl,r⟩
theorem RelO.none_of{o:Option Value}(r:RelO none o):o=none:=by
 cases o with
 | none=>rfl
 | some u=>exact(show False from r).elim
theorem oF{v:V}{u:Value}(r:RelV v u):W.handedIn u=true:=by
 cases v with
 | non=>cases (show u=Value.none from r);rfl
 | bl b=>cases (show u=Value.bool b from r);rfl
 | int i=>obtain⟨t,e⟩:=(show ∃ t,u=Value.int i t from r);cases e;rfl
 | str x=>obtain⟨t,e⟩:=(show ∃ t,u=Value.str x t from r);cases e;rfl
 | byt b=>obtain⟨t,e⟩:=(show ∃ t,u=Value.bytes b t from r);cases e;rfl
 | flt b=>obtain⟨t,e⟩:=(show ∃ t,u=Value.float b t from r);cases e;rfl
 | ref a=>cases (show u=Value.ref a from r);rfl
 | ty n=>cases (show u=Value.type n from r);rfl
section
variable{P:Program}{w:World}{H H':Hp}{h h':Heap}{a C dx:Addr}{fs fs':List (Str × V)}
theorem QE(hok:HOk P w H h)(e:H a=some (.ins C dx fs)):∃ mA,ObjM h a dx C mA/\(∀ f,RelO (fs.lookup f) (mA f))/\PySem.Within mA (fs.map (·.1))/\fs.length<=1000/\H dx=some (.own a):=by
 obtain⟨d,z,ne,ob,mA,n,r,q⟩:=(show ObjOk P w H h a (.ins C dx fs)from hok a _ e)
 exact⟨mA,⟨ob,n,ne⟩,r,q,z,d⟩
end
structure Cls(K:W.Frag)(C:Addr):Prop where
 pg:W.plainGet K C Str.empty=true
 hd:W.hasDictIn K C=true
 po:W.plainOver K C=true
 sa:W.findIn K (.ref C) "__setattr__"=some (some (.builtin "object.__setattr__"))
theorem Cls.get{K:W.Frag}{C:Addr}(c:Cls K C)(f:Str):W.plainGet K C f=true:=c.pg
def NoAttr(K:W.Frag)(C:Addr)(f:Str):Prop:=W.findIn K (.ref C) f=some none
theorem NoAttr.taker{K:W.Frag}{C:Addr}{f:Str}(n:NoAttr K C f):W.takerIn K C f=some none:=by
 unfold W.takerIn
 rw[show W.findIn K (.ref C) f=some none from n]
 rfl
structure Con(K:W.Frag)(C:Addr)(f:Str)(v:V)(u:Value):Prop where
 at_:W.findIn K (.ref C) f=some (some u)
 rel:RelV v u
 get:W.specialIn K u "__get__"=some none
 cp:W.copiedNames.contains f=false
structure QH(K:W.Frag)(C:Addr)(m:Str)(f:Addr):Prop where
 at_:W.findIn K (.ref C) m=some (some (.ref f))
 fn:W.isFn K (.ref f)=true
 kp:W.keepIn K (.ref f)=true
section
variable{X:Cx}{pins:List (Addr × Obj)}{σ:St}{H:Hp}{s:Shared}{a C dx:Addr}{fs:List (Str × V)}{f:Str}{v:V}{A:Around}{E:Value->Shared->Prop}
theorem XZ{b:Bool}{Q:Value->Shared->Prop}(I:Inv X pins σ H s)(e:H a=some (.ins C dx fs))(c:Cls X.K C)(n:NoAttr X.K C f)(l:fs.lookup f=some v)
  (h:∀ u s',Inv X pins σ H s'->RelV v u->Q u s'):wpAny (model X.prog X.w) A (getAttr (.ref a) f b) Q E s:=by
 obtain⟨mA,O,r,_,_,_⟩:=QE I.hok e
 obtain⟨u,hu,ru⟩:=RelO.some_of (v:=v) (o:=mA f) (by rw[<-l];exact r f)
 exact oA I.kIn O (c.get f) c.hd n hu (oF ru) (h u _ (I.tok _) ru)
theorem X0{m:Str}{g:Addr}{pl:Sem Bool}{Q:Value × List Value->Shared->Prop}(I:Inv X pins σ H s)(e:H a=some (.ins C dx fs))(c:Cls X.K C)(k:QH X.K C m g)(l:fs.lookup m=none)
  (h:Q (.ref g,[.ref a]) s):wpAny (model X.prog X.w) A (getMethod (.ref a) m pl) Q E s:=by
 obtain⟨mA,O,r,_,_,_⟩:=QE I.hok e
 have hn:mA m=none:=RelO.none_of (by rw[<-l];exact r m)
 exact oB I.kIn O (c.get m) k.at_ k.fn hn h
theorem X1{y:V}{u:Value}{Q:Unit->Shared->Prop}(I:Inv X pins σ H s)(e:H a=some (.ins C dx fs))(c:Cls X.K C)(n:NoAttr X.K C f)(hl:fs.length<1000)(ry:RelV y u)
  (h:∀ s',Inv X pins σ (upd H a (.ins C dx (BQ f y fs))) s'->Q () s'):wpAny (model X.prog X.w) A (setAttr (.ref a) f u) Q E s:=by
 obtain⟨mA,O,r,wi,_,ho⟩:=QE I.hok e
 have hz:(fs.map (·.1)).length<=sizeLine:=by rw[List.length_map,sizeLine_eq];omega
 refine oC I.kIn O c.sa c.po n.taker c.hd wi hz λh' O' sb=>h _ ?_
 have hd:∃ o,h'.get? dx=some o:=let ⟨o,_,_,e',_⟩:=O'.ns;⟨o,e'⟩
 refine I.write (x:=a) (e:=dx) (by rw[e];exact True.intro) (.inr ho) (λb q hb z=>(sb.2 b hb).trans z) hd ?_
 refine⟨by rw[AT O.ne];exact ho,?_,O.ne,O'.obj,_,O'.ns,λg=> ?_,λg hg=> ?_⟩
 ·have:=SI f y fs;omega
 ·show RelO ((BQ f y fs).lookup g) (if g=f then some u else mA g)
  rw[XY]
  by_cases q:g=f
  ·rw[if_pos q,if_pos q];exact ry
  ·rw[if_neg q,if_neg q];exact r g
 ·by_cases q:g=f
  ·rw[q];exact(SH f y fs).1
  ·refine(SH f y fs).2 g (wi g λz=>hg ?_)
   show(if g=f then some u else mA g)=none
   rw[if_neg q];exact z
theorem Inv.made(I:Inv X pins σ H s):Inv X pins σ (upd (upd H s.heap.objs.size (.own (s.heap.objs.size+1))) (s.heap.objs.size+1) (.ins C s.heap.objs.size []))
  { s with heap:=(s.heap.push W.emptyDict).push (W.instObj C s.heap.objs.size) }:=by
 have e1:(s.heap.push W.emptyDict).get? s.heap.objs.size=some W.emptyDict:=Heap.get?_push_size s.heap rfl
 have e2:((s.heap.push W.emptyDict).push (W.instObj C s.heap.objs.size)).get? (s.heap.objs.size+1)=some (W.instObj C s.heap.objs.size):=by
  have:=Heap.get?_push_size (s.heap.push W.emptyDict) (o:=W.instObj C s.heap.objs.size) rfl
  rwa [Heap.size_push]at this
 have e3:(s.heap.push W.emptyDict).Ns s.heap.objs.size (λ_=>none):=⟨W.emptyDict,#[],_,e1,rfl,(λe he=>absurd he (by simp)),λ_=>rfl⟩
 have I1:=I.laid (a:=s.heap.objs.size) (o:=.own (s.heap.objs.size+1)) (h':=s.heap.push W.emptyDict) (t':=s.toks) (λb u q=>Heap.get?_push_of_some _ q) (Nat.le_refl _) ⟨_,e1⟩
 refine I1.laid (a:=s.heap.objs.size+1) (o:=.ins C s.heap.objs.size []) (t':=s.toks) (λb u q=>Heap.get?_push_of_some _ q) (Nat.le_of_eq (Heap.size_push _ _)) ?_
 have ne:s.heap.objs.size≠s.heap.objs.size+1:=Nat.ne_of_lt (Nat.lt_succ_self _)
 refine⟨by rw[AT ne,AS],Nat.zero_le _,ne,e2,λ_=>none,(Heap.Ns1.of_empty e3).at λo q=>Heap.get?_push_of_some _ q,λ_=>True.intro,λy hy=>absurd rfl hy⟩
theorem oG{prog:Program}{w:World}{env:Env}{e:Expr}{f:Str}{pos:Pos}{s:Shared}{Q:Value->Shared->Prop}(hb:attributeBase e f env (eval e env)=eval e env)
  (h:wpAny (model prog w) A (eval e env) (λo s₁=>wpAny (model prog w) A (getAttr o f true) Q E s₁) E s):wpAny (model prog w) A (eval (.Attribute e f pos) env) Q E s :=
 Attribute_any_ h (by rw[arm_eval_Attribute,hb])
end
def BR(K:W.Frag)(ta:TE)(f:Str):TE:=λσ H Q=>ta σ H λx H1=>∃ a C dx fs v,x=.ref a/\H1 a=some (.ins C dx fs)/\Cls K C/\NoAttr K C f/\fs.lookup f=some v/\Q v H1
def EJ(K:W.Frag)(ta tv:TE)(f:Str):TS:=λD σ H=>tv σ H λy H1=>ta σ H1 λx H2=>∃ a C dx fs,x=.ref a/\H2 a=some (.ins C dx fs)/\Cls K C/\NoAttr K C f/\fs.length<1000 ∧
 D.nx σ (upd H2 a (.ins C dx (BQ f y fs)))
def SJ(X:Cx)(op:Operator)(rd:V->V->Hp->VK->Prop):Prop :=
 ∀ (pins:List (Addr × Obj)) (s:Shared) (σ:St) (H:Hp) (x y:V) (u v:Value) (Q:VK),Inv X pins σ H s->RelV x u->RelV y v->rd x y H Q->wpAny (model X.prog X.w) X.A (inplaceOp op u v) (EP X pins σ Q) X.xe s
def SK(K:W.Frag)(ta tv:TE)(rd:V->V->Hp->VK->Prop)(f:Str):TS:=λD σ H=>ta σ H λx H1=>∃ a C dx fs v,x=.ref a/\H1 a=some (.ins C dx fs)/\Cls K C/\NoAttr K C f/\fs.lookup f=some v ∧
 tv σ H1 λy H2=>rd v y H2 λz H3=>∃ dx' fs',H3 a=some (.ins C dx' fs')/\fs'.length<1000/\D.nx σ (upd H3 a (.ins C dx' (BQ f z fs')))
section
variable{X:Cx}{o e value:Expr}{f:Str}{pos pos' tpos:Pos}{ta tv:TE}
theorem BV(he:PE X e ta)(hb:attributeBase e f X.env (eval e X.env)=eval e X.env):PE X (.Attribute e f pos) (BR X.K ta f):=by
 intro pins s σ H Q I h
 refine oG hb (AY (he pins s σ H _ I h) λu s1 ⟨x,H1,I1,rx,a,C,dx,fs,v,ex,ea,c,n,l,q⟩=> ?_)
 subst ex
 obtain rfl:u=Value.ref a:=rx
 exact XZ I1 ea c n l λu' s2 I2 ru=>⟨v,H1,I2,ru,q⟩
theorem ER(ha:PE X o ta)(hv:PE X value tv)(hs:swapsWith value (some (.Attribute o f pos')) pos.line X.env=pure false):PS X (.Assign [.Attribute o f pos'] value pos) (EJ X.K ta tv f):=by
 intro pins s σ H D I h
 refine plainObj_wpAny_Assign_Attribute (AY (hv pins s σ H _ I h) λu s1 ⟨y,H1,I1,ry,q⟩=>AY (ha pins s1 σ H1 _ I1 q) λov s2 ⟨x,H2,I2,rx,a,C,dx,fs,ex,ea,c,n,l,q2⟩=> ?_) hs
 subst ex
 obtain rfl:ov=Value.ref a:=rx
 exact X1 I2 ea c n l ry λs3 I3=>⟨σ,_,I3,q2⟩
theorem oH{op:Operator}{rd:V->V->Hp->VK->Prop}(ha:PE X o ta)(hv:PE X value tv)(hop:SJ X op rd):PS X (.AugAssign (.Attribute o f tpos) op value pos) (SK X.K ta tv rd f):=by
 intro pins s σ H D I h
 refine wpAny_AugAssign_AttributeAny (AY (ha pins s σ H _ I h) λov s1 ⟨x,H1,I1,rx,a,C,dx,fs,v,ex,ea,c,n,l,q⟩=> ?_)
 subst ex
 obtain rfl:ov=Value.ref a:=rx
 refine XZ I1 ea c n l λu s2 I2 ru=>AY (hv pins s2 σ H1 _ I2 q) λw3 s3 ⟨y,H2,I3,ry,q3⟩=>AY (hop pins s3 σ H2 v y u w3 _ I3 ru ry q3) λw4 s4 ⟨z,H3,I4,rz,dx',fs',ea',l',q4⟩=> ?_
 exact X1 I4 ea' c n l' rz λs5 I5=>⟨σ,_,I5,q4⟩
def NH:V->V->Hp->VK->Prop:=λx y H Q=>∃ i j,x=.int i/\y=.int j/\Q (.int (i+j)) H
theorem X3:SJ X .Add NH:=by
 rintro pins s σ H x y u v Q I rx ry ⟨i,j,rfl,rfl,q⟩
 obtain⟨t,rfl⟩:=(show ∃ t,u=Value.int i t from rx)
 obtain⟨t',rfl⟩:=(show ∃ t',v=Value.int j t' from ry)
 exact PyProof.Rows.iadd_int ⟨.int (i+j),H,I.tok _,⟨_,rfl⟩,q⟩
end
section
variable{X:Cx}{pins:List (Addr × Obj)}{σ:St}{H:Hp}{s:Shared}{A:Around}{E:Value->Shared->Prop}{Q:Value->Shared->Prop}{c:Value}{b:Bool}
inductive FI(K:W.Frag)(H:Hp):V->Value->Prop where
 | non:FI K H .non (.type "NoneType")
 | bl (x:Bool):FI K H (.bl x) (.type "bool")
 | int (i:Int):FI K H (.int i) (.type "int")
 | str (x:Str):FI K H (.str x) (.type "str")
 | flt (x:UInt64):FI K H (.flt x) (.type "float")
 | lst {a:Addr} {xs:List V} (e:H a=some (.lst xs)):FI K H (.ref a) (.type "list")
 | frz {a:Addr} {o:Obj} {xs:List V} (e:H a=some (.frz o (.lst xs))):FI K H (.ref a) (.type "list")
 | tup {a:Addr} {xs:List V} (e:H a=some (.tup xs)):FI K H (.ref a) (.type "tuple")
 | dK {a:Addr} {kvs:List (AZ × V)} (e:H a=some (.dK kvs)):FI K H (.ref a) (.type "dict")
 | dT {a:Addr} {kvs:List (List AZ × V)} (e:H a=some (.dT kvs)):FI K H (.ref a) (.type "dict")
 | ins {a C dx:Addr} {fs:List (Str × V)} (e:H a=some (.ins C dx fs)) (cl:Cls K C) (ha:W.findIn K (.ref C) "__class__"=some (some (.builtin "object.__class__")))
   (hn:W.specialIn K (.builtin "object.__class__") "__get__"=some (some (.builtin "getset_descriptor.__get__"))) (htk:W.takesIn K (.builtin "object.__class__")=some true)
   (hm:W.mroIn K C (.type "object")=some true):FI K H (.ref a) (.ref C)
end
end L2
namespace L2
structure Room(k:Nat)(A:Around):Prop where
 hd:A.handled=none
 dp:A.depth+3 * k+5<recursionLimit
 un:A.units+16 * k+200<cLine
theorem Room.mono{j k:Nat}{A:Around}(r:Room k A)(h:j<=k):Room j A:=⟨r.hd,by have:=r.dp;omega,by have:=r.un;omega⟩
theorem Room.deeper{k:Nat}{A:Around}(r:Room (k+1) A)(env:Env):Room k (A.deeper env) :=
 ⟨r.hd,by have:=r.dp;show A.depth+1+3 * k+5<_;omega,by have:=r.un;show A.units+3+16 * k+200<_;omega⟩
theorem Room.in1{k:Nat}{A:Around}(r:Room (k+1) A):Room k A.in1 :=
 ⟨r.hd,by have:=r.dp;show A.depth+3 * k+5<_;omega,by have:=r.un;show A.units+1+16 * k+200<_;omega⟩
theorem oI{A:Around}{C:Addr}{us:List Value}{kw:List (Str × Value)}:(A.under (.builtin "type.__call__" ⟨.ref C::us,kw⟩)).depth=A.depth+1:=by
 first | rfl | simp[Around.under,Code.weight,Code.isCreation,Code.isGuard,Code.isCaller,Code.frames,Code.isFrame,guardIds]
theorem oJ{A:Around}{C:Addr}{us:List Value}{kw:List (Str × Value)}:(A.under (.builtin "type.__call__" ⟨.ref C::us,kw⟩)).units=A.units+1:=by
 first | rfl | simp[Around.under,Code.cUnits,Code.frames,Code.isFrame]
theorem Room.make{k:Nat}{A:Around}(r:Room (k+1) A)(C:Addr)(us:List Value)(kw:List (Str × Value)):Room k (A.under (.builtin "type.__call__" ⟨.ref C::us,kw⟩)) :=
 ⟨r.hd,by have:=r.dp;rw[oI];omega,by have:=r.un;rw[oJ];omega⟩
theorem Room.depth{k:Nat}{A:Around}(r:Room k A):A.depth<recursionLimit:=by have:=r.dp;omega
theorem Room.units{k:Nat}{A:Around}(r:Room k A):A.units+64<cLine:=by have:=r.un;omega
def AH:TA:=λ_ H Q=>Q [] H
def AD(ta:TE)(tr:TA):TA:=λσ H Q=>ta σ H λx H1=>tr σ H1 λxs H2=>Q (x::xs) H2
section
variable{X:Cx}{e:Expr}{es:List Expr}{te:TE}{t:TA}{pos:Pos}
theorem AJ:PA X [] AH:=λ_ _ _ _ H Q I h=>Calls.spliced_nil ⟨[],H,I,.nil,h⟩
theorem AE(ha:PE X e te)(hr:PA X es t)(hs:starEach (e::es) X.env=(false,eval e X.env)::starEach es X.env:=by rfl):PA X (e::es) (AD te t):=by
 intro pos pins s σ H Q I h
 rw[hs]
 show wpAny _ _ (spliced ((false,eval e X.env)::backTo pos (starEach es X.env))) _ _ s
 refine Calls.spliced_cons (AY (ha pins s σ H _ I h) λu s1 ⟨x,H1,I1,r1,q1⟩=> ?_)
 exact AY (hr pos pins s1 σ H1 _ I1 q1) λus s2 ⟨xs,H2,I2,r2,q2⟩=>⟨x::xs,H2,I2,.cons r1 r2,q2⟩
def CP(t:TA):TE:=λσ H Q=>t σ H λxs H1=>xs.length<=sizeLine/\∀ p,H1 p=none->Q (.ref p) (upd H1 p (.tup xs))
def CQ(t:TA):TE:=λσ H Q=>t σ H λxs H1=>xs.length<=sizeLine/\∀ p,H1 p=none->Q (.ref p) (upd H1 p (.lst xs))
theorem CZ{x1}(h:PA X es t):PE X (.Tuple es x1 pos) (CP t):=by
 intro pins s σ H Q I hq
 refine wpAny_Tuple_spliced (AY (h pos pins s σ H _ I hq) λus s1 ⟨xs,H1,I1,r,z,q⟩=>⟨by rw[<-r.length];exact z,?_⟩)
 have hf:H1 s1.heap.objs.size=none:=I1.hok.fresh (Nat.le_refl _)
 refine⟨.ref s1.heap.objs.size,upd H1 s1.heap.objs.size (.tup xs),I1.laid (t':=s1.toks) (λb u e=>Heap.get?_push_of_some _ e) (Nat.le_refl _) ?_,rfl,q _ hf⟩
 exact⟨z,us,r,⟨_,Heap.get?_push_size _ rfl,rfl,_,rfl⟩⟩
theorem C0(h:PA X es t):PE X (.List es pos) (CQ t):=by
 intro pins s σ H Q I hq
 refine wpAny_List_spliced (AY (h pos pins s σ H _ I hq) λus s1 ⟨xs,H1,I1,r,z,q⟩=>⟨by rw[<-r.length];exact z,?_⟩)
 have hf:H1 s1.heap.objs.size=none:=I1.hok.fresh (Nat.le_refl _)
 refine⟨.ref s1.heap.objs.size,upd H1 s1.heap.objs.size (.lst xs),I1.laid (t':=s1.toks) (λb u e=>Heap.get?_push_of_some _ e) (Nat.le_refl _) ?_,rfl,q _ hf⟩
 exact⟨z,us,0,r,Heap.get?_push_size _ rfl⟩
end
abbrev Sp:=List V->Hp->VK->XK->Prop
abbrev EX:=List Env->Hp->Shared->XK->Value->Shared->Prop
structure Env0(P:Program)(w:World)(K:W.Frag)(mg:Str->Option Value)(base:Heap)(A:Around)(outer:List Env)(s:Shared)(H:Hp):Prop where
 frames:A.frames=some outer
 mod:Mod K mg base
 bs:∀ b o,base.get? b=some o->s.heap.get? b=some o/\H b=none
 bsz:base.objs.size<=s.heap.objs.size
 funs:s.heap.FunFrames base outer
 frf:∀ b∈DW outer,H b=none
 hok:HOk P w H s.heap
 bare:AllBare s.gens
def CE(outer:List Env)(P:Program)(w:World)(H:Hp)(s:Shared)(Q:VK)(u:Value)(s':Shared):Prop :=
 ∃ v H',s'.os=s.os/\AllBare s'.gens/\Un (DW outer) [] H H' s.heap s'.heap/\HOk P w H' s'.heap/\RelV v u/\Q v H'
def CR(CX:EX)(outer:List Env)(P:Program)(w:World)(H:Hp)(s:Shared)(Q:VK)(E:XK)(r:Result)(s':Shared):Prop :=
 match r with
 | .ok (.ret u)=>CE outer P w H s Q u s'
 | .ok _=>False
 | .error e=>CX outer H s E e s'
structure FnOk(P:Program)(w:World)(K:W.Frag)(mg:Str->Option Value)(base:Heap)(CX:EX)(k:Nat)(f:Addr)(fd:FuncData)(ps:List Str)(sp:Sp):Prop where
 len:∀ vs H Q E,sp vs H Q E->vs.length=ps.length
 run:∀ (A:Around) (outer:List Env) (s:Shared) (H:Hp) (args:Args) (us:List Value) (vs:List V) (Q:VK) (E:XK),Room k A->Env0 P w K mg base A outer s H->BindsTo s fd args (ps.zip us)->Vals vs us->sp vs H Q E →
  codeAny (model P w) A (.call (.ref f) args) (CR CX outer P w H s Q E) s
theorem FnOk.mono{P:Program}{w:World}{K:W.Frag}{mg:Str->Option Value}{base:Heap}{CX:EX}{j k:Nat}{f:Addr}{fd:FuncData}{ps:List Str}{sp:Sp}(F:FnOk P w K mg base CX j f fd ps sp)(h:j<=k) :
  FnOk P w K mg base CX k f fd ps sp:=⟨F.len,λA outer s H args us vs Q E hr=>F.run A outer s H args us vs Q E (hr.mono h)⟩
theorem FnOk.imp{P:Program}{w:World}{K:W.Frag}{mg:Str->Option Value}{base:Heap}{CX:EX}{k:Nat}{f:Addr}{fd:FuncData}{ps:List Str}{sp sp':Sp}(F:FnOk P w K mg base CX k f fd ps sp)
  (h:∀ vs H Q E,sp' vs H Q E->sp vs H Q E):FnOk P w K mg base CX k f fd ps sp' :=
 ⟨λvs H Q E q=>F.len vs H Q E (h _ _ _ _ q),λA outer s H args us vs Q E hr he hb hv hs=>F.run A outer s H args us vs Q E hr he hb hv (h _ _ _ _ hs)⟩
theorem Env0.make{P:Program}{w:World}{K:W.Frag}{mg:Str->Option Value}{base:Heap}{A:Around}{outer:List Env}{s:Shared}{H:Hp}(e:Env0 P w K mg base A outer s H)(C:Addr)(us:List Value)(kw:List (Str × Value)) :
  Env0 P w K mg base (A.under (.builtin "type.__call__" ⟨.ref C::us,kw⟩)) outer s H:=⟨by first | exact e.frames | (simpa [Around.under,Code.envs,Code.isFrame,pushEnvs]using e.frames),e.mod,e.bs,e.bsz,e.funs,e.frf,e.hok,e.bare⟩
theorem Env0.in1{P:Program}{w:World}{K:W.Frag}{mg:Str->Option Value}{base:Heap}{A:Around}{outer:List Env}{s:Shared}{H:Hp}(e:Env0 P w K mg base A outer s H) :
  Env0 P w K mg base A.in1 outer s H:=⟨e.frames,e.mod,e.bs,e.bsz,e.funs,e.frf,e.hok,e.bare⟩
section
variable{X:Cx}{pins:List (Addr × Obj)}{σ:St}{H:Hp}{s s':Shared}
theorem Inv.env0(I:Inv X pins σ H s):Env0 X.prog X.w X.K X.mg X.base X.A X.stack s H :=
 ⟨I.ok.frames,I.ok.mod,I.bs,Nat.le_trans I.ok.bsz I.sz,I.stack,I.stkFree,I.hok,I.bare⟩
theorem Inv.after{Q:VK}{u:Value}(I:Inv X pins σ H s)(h:CE X.stack X.prog X.w H s Q u s'):EP X pins σ Q u s':=by
 obtain⟨v,H',os,bare,un,hok,r,q⟩:=h
 obtain⟨hh,g,d,t,os'⟩:=s'
 obtain rfl:os'=s.os:=os
 exact⟨v,H',I.call (h':=hh) (g':=g) (d':=d) (t':=t) (ch:=[]) un hok bare (λb z=>absurd z (by simp)),r,q⟩
end
def A9(sp:Sp)(dvs:List V)(E:St->XK)(t:TA):TE:=λσ H Q=>t σ H λvs H1=>sp (vs++dvs) H1 Q (E σ)
def BT(C:Addr)(m:Str)(sp:Sp)(dvs:List V)(E:St->XK)(ta:TE)(t:TA):TE:=λσ H Q=>ta σ H λx H1=>∃ a dx fs,x=.ref a/\H1 a=some (.ins C dx fs)/\fs.lookup m=none ∧
 t σ H1 λvs H2=>sp (x::(vs++dvs)) H2 Q (E σ)
def JJ(C:Addr)(sp:Sp)(dvs:List V)(E:St->XK)(t:TA):TE:=λσ H Q=>t σ H λvs H1=>∀ x dx,H1 x=none->H1 dx=none->dx≠x →
 sp (.ref x::(vs++dvs)) (upd (upd H1 dx (.own x)) x (.ins C dx [])) (λv H2=>v=.non/\Q (.ref x) H2) (E σ)
def Binds(K:W.Frag)(fd:FuncData)(ps:List Str)(ds:List Value):Prop :=
 ∀ (s:Shared) (us:List Value),K.In s.heap->(us++ds).length=ps.length->BindsTo s fd ⟨us,[]⟩ (ps.zip (us++ds))
theorem Binds.all{K:W.Frag}{fd:FuncData}{ps:List Str}(h:∀ us:List Value,us.length=ps.length->bindArgs fd ⟨us,[]⟩=pure (ps.zip us)):Binds K fd ps []:=λs us _ hl=>by
 rw[List.append_nil]at hl ⊢
 exact .of_eq (h us hl)
def FJ(CX:EX)(X:Cx)(E:St->XK):Prop:=∀ (pins:List (Addr × Obj)) (σ:St) (H:Hp) (s:Shared) (e:Value) (s':Shared),Inv X pins σ H s->CX X.stack H s (E σ) e s'->X.xe e s'
section
variable{X:Cx}{CX:EX}{k:Nat}{f C:Addr}{fd:FuncData}{ps:List Str}{sp:Sp}{dvs:List V}{ds:List Value}{E:St->XK}{x m:Str}{p pos apos:Pos}{e o:Expr}{es:List Expr}{ta:TE}{t:TA}
theorem SL{pins:List (Addr × Obj)}{σ:St}{H:Hp}{s:Shared}{Q:VK}{us:List Value}{vs:List V}(F:FnOk X.prog X.w X.K X.mg X.base CX k f fd ps sp)(hr:Room k X.A)(hb:Binds X.K fd ps ds)(hd:Vals dvs ds)(hx:FJ CX X E)
  (I:Inv X pins σ H s) (r:Vals vs us) (h:sp (vs++dvs) H Q (E σ)):wpAny (model X.prog X.w) X.A (call (.ref f) us) (EP X pins σ Q) X.xe s:=by
 have r2:Vals (vs++dvs) (us++ds):=r.append hd
 have hl:(us++ds).length=ps.length:=by rw[<-r2.length];exact F.len _ _ _ _ h
 refine wpAny_call (codeAny_mono (F.run X.A X.stack s H ⟨us,[]⟩ (us++ds) (vs++dvs) Q (E σ) hr I.env0 (hb s us I.kIn hl) r2 h) λr s' hq=> ?_)
 cases r with
 | error e=>exact hx pins σ H s e s' I hq
 | ok fl =>
  cases fl with
  | ret u=>exact I.after hq
  | next=>exact False.elim hq
  | brk=>exact False.elim hq
  | cont=>exact False.elim hq
theorem oK(F:FnOk X.prog X.w X.K X.mg X.base CX k f fd ps sp)(hr:Room k X.A)(hg:Gl X x)(hm:X.mg x=some (.ref f))(hk:W.keepIn X.K (.ref f)=true)(hb:Binds X.K fd ps ds)(hd:Vals dvs ds)(hx:FJ CX X E)
  (ha:PA X (e::es) t) (hdb:(x ==("__debug__":Str))=false:=by decide) (he:starEach (e::es) X.env=(false,eval e X.env)::starEach es X.env:=by rfl) (hpl:(backTo pos (starEach es X.env)).any (·.1)=false:=by rfl) :
  PE X (.Call (.Name x p) (e::es) [] pos) (A9 sp dvs E t):=by
 intro pins s σ H Q I h
 refine wpAny_Call_Name_kw (R6 I hg hm ?_ hdb)
 refine W.callWith_K (h₀:=X.base) I.ok.mod.kin hk (AY (ha pos pins s σ H _ I h) λus s1 ⟨vs,H1,I1,r,q⟩=>⟨I1.kIn,?_⟩) he hpl
 exact SL F hr hb hd hx I1 r q
theorem oM{pl:Sem Bool}(he:PE X o ta)(c:Cls X.K C)(hm:QH X.K C m f)(F:FnOk X.prog X.w X.K X.mg X.base CX k f fd ps sp)(hr:Room k X.A)(hb:Binds X.K fd ps ds)(hd:Vals dvs ds)(hx:FJ CX X E)(ha:PA X (e::es) t)
  (hst:starEach (e::es) X.env=(false,eval e X.env)::starEach es X.env:=by rfl) (hpl:(backTo pos (starEach es X.env)).any (·.1)=false:=by rfl)
  (ht:eval (.Call (.Attribute o m apos) (e::es) [] pos) X.env=(do
   let ov ← eval o X.env
   standAt apos.atName
   let (f,first) ← holding [ov] (getMethod ov m pl)
   callWith pos f first (backTo pos (starEach (e::es) X.env)) (backToKw pos (keywordEach [] X.env))):=by rfl) :
  PE X (.Call (.Attribute o m apos) (e::es) [] pos) (BT C m sp dvs E ta t):=by
 intro pins s σ H Q I h
 refine W.methodCall_KW (pl:=pl) (AY (he pins s σ H _ I h) λu s1 ⟨x,H1,I1,rx,a,dx,fs,ex,ea,l,q⟩=> ?_) ht
 subst ex
 obtain rfl:u=Value.ref a:=rx
 refine X0 I1 ea c hm l ?_
 refine W.callWith_K (first:=[.ref a]) (h₀:=X.base) I.ok.mod.kin hm.kp (AY (ha pos pins s1 σ H1 _ I1 q) λus s2 ⟨vs,H2,I2,r,q2⟩=>⟨I2.kIn,?_⟩) hst hpl
 exact SL (us:=.ref a::us) (vs:=.ref a::vs) F hr hb hd hx I2 (.cons rfl r) q2
theorem oN{pl:Sem Bool}(he:PE X o ta)(c:Cls X.K C)(hm:QH X.K C m f)(F:FnOk X.prog X.w X.K X.mg X.base CX k f fd ps sp)(hr:Room k X.A)(hb:Binds X.K fd ps ds)(hd:Vals dvs ds)(hx:FJ CX X E)
  (ht:eval (.Call (.Attribute o m apos) [] [] pos) X.env=(do
   let ov ← eval o X.env
   standAt apos.atName
   let (f,first) ← holding [ov] (getMethod ov m pl)
   callWith pos f first (backTo pos (starEach [] X.env)) (backToKw pos (keywordEach [] X.env))):=by rfl) :
  PE X (.Call (.Attribute o m apos) [] [] pos) (BT C m sp dvs E ta AH):=by
 intro pins s σ H Q I h
 refine W.methodCall_KW (pl:=pl) (AY (he pins s σ H _ I h) λu s1 ⟨x,H1,I1,rx,a,dx,fs,ex,ea,l,q⟩=> ?_) ht
 subst ex
 obtain rfl:u=Value.ref a:=rx
 refine X0 I1 ea c hm l ?_
 exact W.callWith_K0 (first:=[.ref a]) I1.kIn hm.kp (SL (us:=[.ref a]) (vs:=[.ref a]) F hr hb hd hx I1 (.cons rfl .nil) q)
structure Mk(K:W.Frag)(C f:Addr):Prop where
 makes:W.makesIn K C=true
 init:W.findIn K (.ref C) "__init__"=some (some (.ref f))
 fn:W.isFn K (.ref f)=true
 kp:W.keepIn K (.ref C)=true
theorem oO{pins:List (Addr × Obj)}{σ:St}{H:Hp}{s:Shared}{Q:VK}{us:List Value}{vs:List V}(M:Mk X.K C f)(F:FnOk X.prog X.w X.K X.mg X.base CX k f fd ps sp)(hr:Room (k+1) X.A)(hb:Binds X.K fd ps ds)(hd:Vals dvs ds)
  (hx:FJ CX X E) (I:Inv X pins σ H s) (r:Vals vs us)
  (h:∀ x dx,H x=none->H dx=none->dx≠x->sp (.ref x::(vs++dvs)) (upd (upd H dx (.own x)) x (.ins C dx [])) (λv H2=>v=.non/\Q (.ref x) H2) (E σ)) :
  wpAny (model X.prog X.w) X.A (call (.ref C) us) (EP X pins σ Q) X.xe s:=by
 have hq:=h (s.heap.objs.size+1) s.heap.objs.size (I.hok.fresh (Nat.le_succ _)) (I.hok.fresh (Nat.le_refl _)) (Nat.ne_of_lt (Nat.lt_succ_self _))
 have I2:=Inv.made (C:=C) I
 have r2:Vals (V.ref (s.heap.objs.size+1)::(vs++dvs)) (Value.ref (s.heap.objs.size+1)::(us++ds)):=.cons rfl (r.append hd)
 have hl:(Value.ref (s.heap.objs.size+1)::us++ds).length=ps.length:=by
  have e:=r2.length
  rw[F.len _ _ _ _ hq]at e
  exact e.symm
 refine wpAny_call (oE (f:=f) I.kIn M.makes M.init (beq_iff_eq.mp M.fn) (codeAny_mono (F.run _ X.stack _ _ ⟨Value.ref (s.heap.objs.size+1)::us,[]⟩ (Value.ref (s.heap.objs.size+1)::(us++ds)) _ _ (E σ) (hr.make C us [])
  (I2.env0.make C us []) (hb _ (Value.ref (s.heap.objs.size+1)::us) I2.kIn hl) r2 hq) λr s' hq'=> ?_))
 cases r with
 | error e=>exact hx pins σ _ _ e s' I2 hq'
 | ok fl =>
  cases fl with
  | ret u =>
   obtain⟨v,H',I3,rv,ev,q3⟩:=I2.after hq'
   subst ev
   exact⟨rv,⟨V.ref (s.heap.objs.size+1),H',I3,rfl,q3⟩⟩
  | next=>exact False.elim hq'
  | brk=>exact False.elim hq'
  | cont=>exact False.elim hq'
theorem oP(M:Mk X.K C f)(F:FnOk X.prog X.w X.K X.mg X.base CX k f fd ps sp)(hr:Room (k+1) X.A)(hg:Gl X x)(hm:X.mg x=some (.ref C))(hb:Binds X.K fd ps ds)(hd:Vals dvs ds)(hx:FJ CX X E)
  (ha:PA X (e::es) t) (hdb:(x ==("__debug__":Str))=false:=by decide) (he:starEach (e::es) X.env=(false,eval e X.env)::starEach es X.env:=by rfl) (hpl:(backTo pos (starEach es X.env)).any (·.1)=false:=by rfl) :
  PE X (.Call (.Name x p) (e::es) [] pos) (JJ C sp dvs E t):=by
 intro pins s σ H Q I h
 refine wpAny_Call_Name_kw (R6 I hg hm ?_ hdb)
 refine W.callWith_K (h₀:=X.base) I.ok.mod.kin M.kp (AY (ha pos pins s σ H _ I h) λus s1 ⟨vs,H1,I1,r,q⟩=>⟨I1.kIn,?_⟩) he hpl
 exact oO M F hr hb hd hx I1 r q
end
section
variable{X:Cx}{CX:EX}{k:Nat}{f C:Addr}{fd:FuncData}{ps ks:List Str}{sp:Sp}{E:St->XK}{x m:Str}{p pos apos kpos:Pos}{e o:Expr}{es:List Expr}{kws:List Keyword}{te ta:TE}{t tk:TA}{nm:Option Str}
structure zdl(K:W.Frag)(fd:FuncData)(ps ks:List Str)(g:List Value->List Value->List Value)(gV:List V->List V->List V):Prop where
 to:∀ (s:Shared) (us ws:List Value),K.In s.heap->(g us ws).length=ps.length->BindsTo s fd ⟨us,ks.zip ws⟩ (ps.zip (g us ws))
 rel:∀ {vs:List V} {us:List Value} {zs:List V} {ws:List Value},Vals vs us->Vals zs ws->Vals (gV vs zs) (g us ws)
variable{g:List Value->List Value->List Value}{gV:List V->List V->List V}
end
structure FnScope(N P:List Str)(sc:Scope):Prop where
 kind:sc.kind=.function
 co:sc.isCoroutine=false
 gen:sc.isGenerator=false
 nd:N.Nodup
 pre:N.take P.length=P
 par:∀ x∈P,sc.names.lookup x=some .local\/sc.names.lookup x=some .cell
 nofree:∀ y∈sc.names,y.2≠.free
theorem X6{kindOf:Str->Option NameKind}{x:Str}:∀ {binds:List (Str × Value)} {m:Str->Option Value},(∀ v,(x,v)∉binds)->bindL kindOf binds m x=m x
 | [],_,_=>rfl
 | (n,v)::r,m,h=>by
  unfold bindL
  rw[X6 λw hw=>h w (List.mem_cons_of_mem _ hw)]
  split
  ·have:x≠n:=by rintro rfl;exact h v List.mem_cons_self
   simp[this]
  ·rfl
theorem X7{kindOf:Str->Option NameKind}{x:Str}:∀ {binds:List (Str × Value)} {m:Str->Option Value},(∀ v,(x,v)∉binds)->bindC kindOf binds m x=m x
 | [],_,_=>rfl
 | (n,v)::r,m,h=>by
  unfold bindC
  rw[X7 λw hw=>h w (List.mem_cons_of_mem _ hw)]
  split
  ·rfl
  ·have:x≠n:=by rintro rfl;exact h v List.mem_cons_self
   simp[this]
theorem X8{kindOf:Str->Option NameKind}{x:Str}{v:Value}:∀ {P:List Str} {vs:List Value} {i:Nat} {m:Str->Option Value},P.Nodup->P[i]? =some x->vs[i]? =some v->kindOf x=some .local →
  bindL kindOf (P.zip vs) m x=some v
 | [],_,_,_,_,h,_,_=>by simp at h
 | _::_,[],_,_,_,_,h,_=>by simp at h
 | p::P,w::vs,0,m,nd,h1,h2,hk=>by
  simp at h1 h2;subst h1;subst h2
  show bindL kindOf ((p,w)::P.zip vs) m p=_
  unfold bindL
  rw[X6 λv hv=>(List.nodup_cons.mp nd).1 (List.of_mem_zip hv).1,if_pos hk]
  simp
 | p::P,w::vs,i+1,m,nd,h1,h2,hk=>by
  show bindL kindOf ((p,w)::P.zip vs) m x=_
  unfold bindL
  exact X8 (i:=i) (List.nodup_cons.mp nd).2 (by simpa using h1) (by simpa using h2) hk
theorem X9{kindOf:Str->Option NameKind}{x:Str}{v:Value}:∀ {P:List Str} {vs:List Value} {i:Nat} {m:Str->Option Value},P.Nodup->P[i]? =some x->vs[i]? =some v->kindOf x≠some .local →
  bindC kindOf (P.zip vs) m x=some v
 | [],_,_,_,_,h,_,_=>by simp at h
 | _::_,[],_,_,_,_,h,_=>by simp at h
 | p::P,w::vs,0,m,nd,h1,h2,hk=>by
  simp at h1 h2;subst h1;subst h2
  show bindC kindOf ((p,w)::P.zip vs) m p=_
  unfold bindC
  rw[X7 λv hv=>(List.nodup_cons.mp nd).1 (List.of_mem_zip hv).1,if_neg hk]
  simp
 | p::P,w::vs,i+1,m,nd,h1,h2,hk=>by
  show bindC kindOf ((p,w)::P.zip vs) m x=_
  unfold bindC
  exact X9 (i:=i) (List.nodup_cons.mp nd).2 (by simpa using h1) (by simpa using h2) hk
def A1(N:List Str)(vs:List V):St:=vs.map some++List.replicate (N.length - vs.length) none
def GW(CX:EX)(P:Program)(w:World)(K:W.Frag)(mg:Str->Option Value)(base:Heap)(N:List Str)(qual:Str)(scope:Scope)(f:Addr)(cd:Value)(A:Around)(outer:List Env)(s:Shared)(H:Hp)(E:XK):Cx where
 prog:=P
 w:=w
 K:=K
 mg:=mg
 base:=base
 A:=A.deeper (envOfC qual scope s.heap.objs.size f cd)
 N:=N
 s₀:=s
 H₀:=H
 env:=envOfC qual scope s.heap.objs.size f cd
 outer:=outer
 stack:=envOfC qual scope s.heap.objs.size f cd::outer
 ex:=[]
 calm:=true
 fn:=λ_=>true
 pn:=[]
 xe:=λe s'=>wpAny (model P w) (A.deeper (envOfC qual scope s.heap.objs.size f cd)) (leaving (envOfC qual scope s.heap.objs.size f cd) e) (λ_ s''=>CX outer H s E e s'') (λe' s''=>CX outer H s E e' s'') s'
theorem YA{sc:Scope}{n:Nat}{x:Str}(h:sc.names.lookup x=some .cell):∃ c,(cellsFrom n sc.names []).lookup x=some c:=by
 have q:=W.cellsFrom_some sc.names n [] (.inl h)
 exact Option.isSome_iff_exists.mp q
theorem oQ{CX:EX}{P:Program}{w:World}{K:W.Frag}{mg:Str->Option Value}{base:Heap}{N ps:List Str}{qual:Str}{scope:Scope}{f:Addr}{cd:Value}{A:Around}{outer:List Env}{s s1:Shared}{H:Hp}{E:XK}{us:List Value}{vs:List V}
  (S:FnScope N ps scope) (hd:A.handled=none) (e0:Env0 P w K mg base A outer s H) (hl:vs.length=ps.length) (r:Vals vs us)
  (x:InCallC s s.heap.objs.size (bindL (envOfC qual scope s.heap.objs.size f cd).kindOf (ps.zip us) λ_=>none) (cellsFrom (s.heap.objs.size+1) scope.names []) (bindC (envOfC qual scope s.heap.objs.size f cd).kindOf (ps.zip us) λ_=>none) s1) :
  Inv (GW CX P w K mg base N qual scope f cd A outer s H E) [] (A1 N vs) H s1:=by
 have hpl:ps.length<=N.length:=by have:=congrArg List.length S.pre;rw[List.length_take]at this;omega
 obtain⟨h1,tk,rfl,hk⟩:=x.done
 have noA:∀ b:Addr,b∉(GW CX P w K mg base N qual scope f cd A outer s H E).ex:=λb z=>absurd (show b∈([]:List Addr)from z) (by simp)
 refine⟨⟨e0.mod,S.kind,rfl,rfl,Nat.le_refl _,λy z c h1 h2=> ?_,λy hy=> ?_,λy c _ h=> ?_,λ_=>hd,Around.frames_deeper e0.frames,.inr ⟨rfl,rfl⟩,λb z=>absurd z (noA b),e0.bs,e0.bsz,λb _ _=>noA b,λb z=>absurd z (noA b),e0.funs,e0.frf⟩,
  rfl,e0.bare,Un.kept hk,⟨_,x.toInCall.ns,λi y v h1 h2 h3=> ?_⟩,λy c h=>⟨_,x.cell y c h⟩,e0.hok.fresh (Nat.le_refl _),λy c h=> ?_,λp hp=>absurd (show p∈([]:List (Addr × Obj))from hp) (by simp),e0.hok.kept hk,?_⟩
 ·exact name_of_addr x.apart (PySem.mem_of_lookup h1) (PySem.mem_of_lookup h2)
 ·have hy:scope.names.lookup y=some .cell\/scope.names.lookup y=some .free:=hy
  rcases hy with hy | hy
  ·exact YA hy
  ·exact absurd rfl (S.nofree _ (PySem.mem_of_lookup hy))
 ·exact Nat.le_of_lt (x.above y c (PySem.mem_of_lookup h))
 ·have hi:i<vs.length:=by
   unfold A1 at h2
   by_cases hi:i<vs.length
   ·exact hi
   ·rw[List.getElem?_append_right (by simpa using hi)]at h2
    rw[List.getElem?_replicate]at h2
    split at h2<;>cases h2
  have ha:vs[i]? =some v:=by
   unfold A1 at h2
   rw[List.getElem?_append_left (by simpa using hi),List.getElem?_map]at h2
   cases e:vs[i]? with
   | none=>rw[e]at h2;cases h2
   | some a=>rw[e]at h2;cases h2;rfl
  obtain⟨u,hu,rv⟩:=r.get ha
  have hp:ps[i]? =some y:=by
   rw[<-S.pre,List.getElem?_take_of_lt (by omega)];exact h1
  have ndP:ps.Nodup:=by rw[<-S.pre];exact S.nd.sublist (List.take_sublist _ _)
  refine⟨u,rv,?_⟩
  rcases S.par y (List.mem_of_getElem? hp)with k | k
  ·exact .inl ⟨k,X8 ndP hp hu k⟩
  ·obtain⟨c,e⟩:=YA (n:=s.heap.objs.size+1) k
   refine .inr ⟨.inl k,c,e,?_⟩
   have q:=x.cell y c e
   rw[X9 ndP hp hu (by show scope.names.lookup y≠_;rw[k];decide)]at q
   exact q
 ·exact e0.hok.fresh (Nat.le_of_lt (x.above y c (PySem.mem_of_lookup h)))
 ·unfold A1
  show _=N.length
  rw[List.length_append,List.length_map,List.length_replicate]
  omega
theorem YB{CX:EX}{P:Program}{w:World}{K:W.Frag}{mg:Str->Option Value}{base:Heap}{k:Nat}{f:Addr}{name qual:Str}{params:Arguments}{body:List Stmt}{scope:Scope}{dV kV doc pm cdv ct oc:Value}{an od:Option Addr}
  {osl:Array (Option Value)} {N ps:List Str} {sp:Sp} (lk:K.lookup f=some ⟨oc,od,.func (W.fnOf name qual params body scope dV kV doc pm an cdv ct),osl⟩) (hcd:W.codeIn K cdv qual=true) (S:FnScope N ps scope)
  (len:∀ vs H Q E,sp vs H Q E->vs.length=ps.length)
  (hbody:∀ (A:Around) (outer:List Env) (s:Shared) (H:Hp) (vs:List V) (Q:VK) (E:XK),Room k (A.deeper (envOfC qual scope s.heap.objs.size f cdv))->sp vs H Q E →
   ∃ t,PSs (GW CX P w K mg base N qual scope f cdv A outer s H E) body t/\t { nx:=λ_ H'=>Q .non H',rt:=Q } (A1 N vs) H) :
  FnOk P w K mg base CX (k+1) f (W.fnOf name qual params body scope dV kV doc pm an cdv ct) ps sp:=by
 refine⟨len,λA outer s H args us vs Q E hr e0 hb r hsp=> ?_⟩
 have hl:=len _ _ _ _ hsp
 have KX:K.In s.heap:=e0.mod.kin.keeps λb o e=>(e0.bs b o e).1
 have lim:s.heap.NoLimit:=e0.mod.nolimit.keeps λb o e=>(e0.bs b o e).1
 have hkind:∀ y∈ps.zip us,scope.names.lookup y.1=some .local\/(scope.names.lookup y.1=some .cell/\((cellsFrom (s.heap.objs.size+1) scope.names []).lookup y.1).isSome=true):=λ⟨n,v⟩ hy=>by
  rcases S.par n (List.of_mem_zip hy).1 with q | q
  ·exact .inl q
  ·exact .inr ⟨q,W.cellsFrom_some _ _ _ (.inl q)⟩
 refine codeAny_call_function hr.depth (KX _ _ lk) rfl S.co S.gen rfl (W.codeRec_of KX hcd) (hb _ _ _ _ ?_)
 refine wpAny_newFunctionEnv_cells S.kind hkind λenv he s1 x=> ?_
 subst he
 refine⟨lim.keeps x.toInCall.keep,codeAny_func ?_⟩
 obtain⟨t,ht,hq⟩:=hbody A outer s H vs Q E (hr.deeper _) hsp
 have I:Inv (GW CX P w K mg base N qual scope f cdv A outer s H E) [] (A1 N vs) H s1:=oQ S hr.hd e0 hl r x
 refine wpAny_mono (ht [] s1 (A1 N vs) H _ I hq) (λfl s' hs=> ?_) λe s' hs=>hs
 have fin:∀ {σ':St} {H':Hp} {v:V} {u:Value},Inv (GW CX P w K mg base N qual scope f cdv A outer s H E) [] σ' H' s'->RelV v u->Q v H'->CE outer P w H s Q u s' :=
  λ{σ' H' v u} J rv q=>⟨v,H',J.os,J.bare,J.base,J.hok,rv,q⟩
 cases fl with
 | ret u =>
  obtain⟨v,σ',H',J,rv,q⟩:=hs
  exact fin J rv q
 | next =>
  obtain⟨σ',H',J,q⟩:=hs
  exact fin (v:=V.non) (u:=Value.none) J rfl q
 | brk =>
  obtain⟨_,_,_,q⟩:=hs
  exact False.elim q
 | cont =>
  obtain⟨_,_,_,q⟩:=hs
  exact False.elim q
end L2
namespace L2
section
variable{X:Cx}{x:Str}{p pos:Pos}{e:Expr}{es:List Expr}{t:TA}{id T:String}{r:List V->Hp->VK->Prop}
def BW(r:List V->Hp->VK->Prop)(t:TA):TE:=λσ H Q=>t σ H λvs H1=>r vs H1 Q
theorem CI(hc:CallR X (.builtin id) r)(hg:Gl X x)(hm:X.mg x=none)(hv:bootBuiltins x=some (.builtin id))(ha:PA X (e::es) t)(hn:x≠"__name__":=by decide)(hdb:(x ==("__debug__":Str))=false:=by decide)
  (he:starEach (e::es) X.env=(false,eval e X.env)::starEach es X.env:=by rfl) (hpl:(backTo pos (starEach es X.env)).any (·.1)=false:=by rfl):PE X (.Call (.Name x p) (e::es) [] pos) (BW r t):=by
 intro pins s σ H Q I h
 refine wpAny_Call_Name_kw (K5 I hg hm hv ?_ hn hdb)
 exact PyProof.Rows.callWith_builtin1 (AY (ha pos pins s σ H _ I h) λus s1 ⟨vs,H1,I1,r1,q1⟩=>hc pins s1 σ H1 vs us Q I1 r1 q1) he hpl
theorem HZ(hc:CallR X (.type T) r)(hg:Gl X x)(hm:X.mg x=none)(hv:bootBuiltins x=some (.type T))(ha:PA X (e::es) t)(hn:x≠"__name__":=by decide)(hdb:(x ==("__debug__":Str))=false:=by decide)
  (he:starEach (e::es) X.env=(false,eval e X.env)::starEach es X.env:=by rfl) (hpl:(backTo pos (starEach es X.env)).any (·.1)=false:=by rfl):PE X (.Call (.Name x p) (e::es) [] pos) (BW r t):=by
 intro pins s σ H Q I h
 refine wpAny_Call_Name_kw (K5 I hg hm hv ?_ hn hdb)
 exact PyProof.Rows.callWith_type1 (AY (ha pos pins s σ H _ I h) λus s1 ⟨vs,H1,I1,r1,q1⟩=>hc pins s1 σ H1 vs us Q I1 r1 q1) he hpl
end
end L2
namespace HT
open PySem PyProof.Rows
section
open PySem.SeqAt
open PySem.AutoSeq1 (wpAny_loadPart')
open PySem.MeetsSeq PySem.MeetsSeq2 PySem.MeetsSeq3
end
section
variable{prog:Program}{w:World}{A:Around}{E:Value->Shared->Prop}{s:Shared}
theorem cat_tup{t b:Addr}{vs ws:List Value}{Q:Value->Shared->Prop}(ht:IsTup s.heap t vs.toArray)(hb:IsTup s.heap b ws.toArray)(hv:vs≠[])
  (h1:ws=[]->Q (.ref t) s) (h2:ws≠[]->Q (.ref s.heap.objs.size) { s with heap:=s.heap.push { cls:=.type "tuple",data:=.seq (vs++ws).toArray } })
  (hsz:vs.length+ws.length<=sizeLine):wpAny (model prog w) A (binaryOp .Add (.ref t) (.ref b)) Q E s:=by
 obtain⟨⟨cls,dd,data,sl⟩,ho,hc,n,hd⟩:=id ht
 obtain⟨⟨cls2,dd2,data2,sl2⟩,ho2,hc2,n2,hd2⟩:=id hb
 simp only at hc hd hc2 hd2
 subst hc hd hc2 hd2
 have e:vs.toArray++ws.toArray=(vs++ws).toArray:=by simp
 by_cases hw:ws=[]
 ·exact concat_meets ⟨_,ho,rfl⟩ ⟨_,ho2,rfl⟩ noFill_tuple_add seq_tuple_add PySem.F.slot_tuple_add PySem.F.entry_tuple_add (PySem.F.args_tuple_add_2 _ _)
   (tuple_addW1 t b vs.toArray ws.toArray n n2 dd dd2 sl sl2 (by simpa using hv) (by simp[hw])) ⟨ho,ho2,h1 hw⟩
 ·refine concat_meets ⟨_,ho,rfl⟩ ⟨_,ho2,rfl⟩ noFill_tuple_add seq_tuple_add PySem.F.slot_tuple_add PySem.F.entry_tuple_add (PySem.F.args_tuple_add_2 _ _)
   (tuple_addW2 t b vs.toArray ws.toArray n n2 dd dd2 sl sl2 (by simpa using hv) (by simpa using hw) (by rw[List.size_toArray,List.size_toArray];exact hsz)) ⟨ho,ho2,?_⟩
  rw[e]
  exact h2 hw
def sIx(n d:Nat):Option Int->Nat
 | none=>d
 | some v=>if v<0 then(v+(n:Int)).toNat else min v.toNat n
theorem sIx_nat(n d k:Nat):sIx n d (some (k:Int))=min k n:=by
 show(if(k:Int)<0 then((k:Int)+(n:Int)).toNat else min (k:Int).toNat n)=min k n
 rw[if_neg (by omega),Int.toNat_natCast]
theorem oR(n d:Nat)(hd:d<=n)(o:Option Int):sIx n d o<=n:=by
 cases o with
 | none=>exact hd
 | some v =>
  show(if v<0 then(v+(n:Int)).toNat else min v.toNat n)<=n
  by_cases hv:v<0
  ·rw[if_pos hv];omega
  ·rw[if_neg hv];exact Nat.min_le_right _ _
theorem YC(v:Int)(n d:Nat):(if v<0 then max (v+(n:Int)) 0 else min v (n:Int))=((sIx n d (some v):Nat):Int):=by
 show(if v<0 then max (v+(n:Int)) 0 else min v (n:Int))=(((if v<0 then(v+(n:Int)).toNat else min v.toNat n):Nat):Int)
 by_cases hv:v<0
 ·simp only[if_pos hv];omega
 ·simp only[if_neg hv];omega
theorem oS(lo hi:Option Int)(n:Nat):Builtin.Slice.sliceAdjust lo hi 1 (n:Int)=(((sIx n 0 lo:Nat):Int),((sIx n n hi:Nat):Int)):=by
 have h1:¬ ((1:Int)<0):=by omega
 unfold Builtin.Slice.sliceAdjust
 simp only[h1,if_false]
 refine Prod.ext ?_ ?_
 ·cases lo with
  | none=>rfl
  | some v=>exact YC v n 0
 ·cases hi with
  | none=>rfl
  | some v=>exact YC v n n
theorem oU(i j:Nat):Builtin.Slice.slicePlaces (i:Int) (j:Int) 1=j - i:=by
 unfold Builtin.Slice.slicePlaces
 have h1:(1:Int) > 0:=by omega
 simp only[h1,if_true,Int.ediv_one]
 split<;>omega
theorem YD{v:Value}{o:Option Int}{Q:Option Int->Shared->Prop}(p:IsPart v o)(h:Q o s):wpAny (model prog w) A (Builtin.Slice.slicePartIndex v) Q E s:=by
 cases p with
 | none=>exact slicePart_none h
 | int i t=>exact slicePart_int h
theorem oV{sl:Addr}{vl vu:Value}{lo hi:Option Int}{n:Nat}{Q:Int × Int × Nat->Shared->Prop}(hs:s.heap.IsSliceOf sl vl vu .none)(pl:IsPart vl lo)(pu:IsPart vu hi)
  (h:Q (((sIx n 0 lo:Nat):Int),1,sIx n n hi - sIx n 0 lo) s):wpAny (model prog w) A (Builtin.Slice.sliceApplied (.ref sl) (pure (n:Int))) Q E s:=by
 obtain⟨os,hos,hcs,hds⟩:=id hs
 unfold Builtin.Slice.sliceApplied Builtin.Slice.sliceFields
 refine wpAny_bind (wpAny_bind (wpAny_field hos hds (x:=vl) rfl (wpAny_bind (wpAny_field hos hds (x:=vu) rfl (wpAny_bind (wpAny_field hos hds (x:=.none) rfl (wpAny_pure ?_)))))))
 refine wpAny_bind (slicePart_none ?_)
 show wpAny _ _ (if((1:Int) == 0)=true then _ else _) _ _ s
 rw[if_neg (by decide)]
 refine wpAny_bind (YD pl (wpAny_bind (YD pu (wpAny_bind (wpAny_pure ?_)))))
 show wpAny _ _ (match Builtin.Slice.sliceAdjust lo hi 1 (n:Int)with | (lo,hi)=>pure (lo,(1:Int),Builtin.Slice.slicePlaces lo hi 1)) _ _ s
 rw[oS lo hi n]
 show wpAny _ _ (pure (((sIx n 0 lo:Nat):Int),(1:Int),Builtin.Slice.slicePlaces ((sIx n 0 lo:Nat):Int) ((sIx n n hi:Nat):Int) 1)) _ _ s
 rw[oU]
 exact wpAny_pure h
theorem oW(xs:Array Value)(i k:Nat):((List.range k).filterMap λ(m:Nat)=>xs[((i:Int)+(m:Int) * 1).toNat]?).toArray=((xs.toList.drop i).take k).toArray:=by
 have e:(λ(m:Nat)=>xs[((i:Int)+(m:Int) * 1).toNat]?)=λm=>xs[i+m]? :=by
  funext m
  have:((i:Int)+(m:Int) * 1).toNat=i+m:=by omega
  rw[this]
 rw[e]
 have:=pick_run xs i k
 rw[List.filterMap_map]at this
 have e2:((λx=>xs[x]?) ∘ λx=>i+x)=λm=>xs[i+m]? :=rfl
 rw[e2]at this
 rw[this]
theorem getItem_tuple_cut{t sl:Addr}{items:Array Value}{vl vu:Value}{lo hi:Option Int}{Q:Value->Shared->Prop}(ht:IsTup s.heap t items)(hs:s.heap.IsSliceOf sl vl vu .none)(pl:IsPart vl lo)(pu:IsPart vu hi)
  (hw:¬ (sIx items.size 0 lo=0/\sIx items.size items.size hi=items.size))
  (h:Q (.ref s.heap.objs.size) { s with heap:=s.heap.push { cls:=.type "tuple",data:=.seq ((items.toList.drop (sIx items.size 0 lo)).take (sIx items.size items.size hi - sIx items.size 0 lo)).toArray } })
  (hsz:items.size<=sizeLine):wpAny (model prog w) A (getItem (.ref t) (.ref sl)) Q E s:=by
 have htake:sizeOk (.seq ((items.toList.drop (sIx items.size 0 lo)).take (sIx items.size items.size hi - sIx items.size 0 lo)).toArray):=by
  show((items.toList.drop (sIx items.size 0 lo)).take (sIx items.size items.size hi - sIx items.size 0 lo)).toArray.size<=sizeLine
  rw[List.size_toArray,List.length_take,List.length_drop,Array.length_toList]
  omega
 have hj:sIx items.size items.size hi<=items.size:=oR _ _ (Nat.le_refl _) hi
 obtain⟨os,hos,hcs,hds⟩:=id hs
 have hTs:s.TypeIs (.ref sl) "slice":=⟨os,hos,hcs⟩
 unfold getItem
 try with_reducible refine wpAny_holding ?_
 first | refine wpAny_bind (wpAny_pure ?_) | skip
 refine wpAny_bind (wpAny_sequenceKey ht.typeIs (by decide) ?_)
 refine wpAny_bind (wpAny_callSpecial?_slot (name:=Str.ofString "__getitem__") ht.typeIs PyProof.Rows.slot_tuple_getitem
  (wpAny_call_entry PyProof.Rows.slot_tuple_getitem ht.typeIs entry_tuple_getitem ?_ (args_tuple_getitem _ _)))
 show wpAny _ _ (Builtin.Tuple.tupleItemsOf (.ref t) >>= _) _ _ s
 refine wpAny_bind (tupleItemsOf_ ht ?_)
 refine wpAny_bind (wpAny_typeOf hTs ?_)
 rw[if_pos (by decide)]
 refine wpAny_bind (oV hs pl pu ?_)
 have hno:¬ ((((sIx items.size 0 lo:Nat):Int) == 0 && (1:Int) == 1 && (sIx items.size items.size hi - sIx items.size 0 lo) == items.size)=true):=by
  intro q
  rw[Bool.and_eq_true,Bool.and_eq_true]at q
  have q1:((sIx items.size 0 lo:Nat):Int)=0:=eq_of_beq q.1.1
  have q2:sIx items.size items.size hi - sIx items.size 0 lo=items.size:=eq_of_beq q.2
  exact hw ⟨by omega,by omega⟩
 show wpAny _ _ (if(((sIx items.size 0 lo:Nat):Int) == 0 && (1:Int) == 1 && (sIx items.size items.size hi - sIx items.size 0 lo) == items.size)=true then _ else _) _ _ s
 rw[if_neg hno,oW]
 first
  | exact wpAny_bind (m:=Builtin.Tuple.tupleExact _) (wpAny_newObj_type (wpAny_pure ⟨_,rfl,wpAny_pure h⟩) htake)
  | exact wpAny_bind (m:=Builtin.Tuple.tupleExact _) (wpAny_newObj_type (wpAny_bind (wpAny_pure (wpAny_pure ⟨_,rfl,wpAny_pure h⟩))) htake)
  | exact wpAny_bind (wpAny_bind (m:=Builtin.Tuple.tupleExact _) (wpAny_newObj_type (wpAny_pure (wpAny_pure ⟨_,rfl,wpAny_pure h⟩)) htake))
  | exact wpAny_bind (wpAny_bind (m:=Builtin.Tuple.tupleExact _) (wpAny_newObj_type (wpAny_pure ⟨_,rfl,wpAny_pure h⟩) htake))
end
end HT
namespace L2
abbrev TO:=St->Hp->(Option Int->Hp->Prop)->Prop
def PO(X:Cx)(e:Option Expr)(t:TO):Prop :=
 ∀ (pins:List (Addr × Obj)) (s:Shared) (σ:St) (H:Hp) (Q:Option Int->Hp->Prop),Inv X pins σ H s->t σ H Q →
  wpAny (model X.prog X.w) X.A (evalPart e X.env) (λu s'=>∃ o H',Inv X pins σ H' s'/\IsPart u o/\Q o H') X.xe s
def QI:TO:=λ_ H Q=>Q none H
def GX(t:TE):TO:=λσ H Q=>t σ H λx H1=>∃ i,x=.int i/\Q (some i) H1
section
variable{X:Cx}{e:Expr}{te:TE}{lo hi:Option Expr}{tl th:TO}{pos p2:Pos}
theorem YE:PO X none QI:=by
 intro pins s σ H Q I h
 rw[evalPart_none]
 exact wpAny_pure ⟨none,H,I,.none,h⟩
theorem IA(h:PE X e te):PO X (some e) (GX te):=by
 intro pins s σ H Q I hw
 rw[evalPart_some]
 refine AY (h pins s σ H _ I hw) λu s1 ⟨x,H1,I1,r1,q1⟩=> ?_
 obtain⟨i,rfl,q⟩:=q1
 obtain⟨t,rfl⟩:=r1
 exact⟨some i,H1,I1,.int i t,q⟩
def SlR(X:Cx)(r:V->Option Int->Option Int->Hp->VK->Prop):Prop :=
 ∀ (pins:List (Addr × Obj)) (s:Shared) (σ:St) (H:Hp) (x:V) (v vl vu:Value) (lo hi:Option Int) (sl:Addr) (Q:VK),Inv X pins σ H s->RelV x v->s.heap.IsSliceOf sl vl vu .none->IsPart vl lo->IsPart vu hi->r x lo hi H Q →
  ∃ T id,typeLookup (.type T) "__getitem__"=pure (some (.builtin id))/\s.TypeIs v T/\wpAny (model X.prog X.w) X.A (getItem v (.ref sl)) (EP X pins σ Q) X.xe s
theorem SlR.or{r r':V->Option Int->Option Int->Hp->VK->Prop}(h:SlR X r)(h':SlR X r'):SlR X (λx lo hi H Q=>r x lo hi H Q\/r' x lo hi H Q):=by
 intro pins s σ H x v vl vu lo hi sl Q I rx hs pl pu q
 rcases q with q | q
 ·exact h pins s σ H x v vl vu lo hi sl Q I rx hs pl pu q
 ·exact h' pins s σ H x v vl vu lo hi sl Q I rx hs pl pu q
def JK(r:V->Option Int->Option Int->Hp->VK->Prop)(te:TE)(tl th:TO):TE:=λσ H Q=>te σ H λx H1=>tl σ H1 λl H2=>th σ H2 λu H3=>r x l u H3 Q
theorem NI{r:V->Option Int->Option Int->Hp->VK->Prop}(hr:SlR X r)(he:PE X e te)(hl:PO X lo tl)(hu:PO X hi th):PE X (.Subscript e (.Slice lo hi none p2) pos) (JK r te tl th):=by
 intro pins s σ H Q I h
 refine Subscript_ (AY (he pins s σ H _ I h) λv s1 ⟨x,H1,I1,r1,q1⟩=> ?_)
 refine wpAny_Slice (AY (hl pins s1 σ H1 _ I1 q1) λvl s2 ⟨l,H2,I2,pl,q2⟩=>AY (hu pins s2 σ H2 _ I2 q2) λvu s3 ⟨u,H3,I3,pu,q3⟩=> ?_)
 rw[evalPart_none]
 refine wpAny_pure ?_
 have I4:Inv X pins σ H3 { s3 with heap:=s3.heap.push { cls:=.type "slice",data:=.fields #[vl,vu,.none] } }:=I3.kept (t':=s3.toks) λb ob q=>Heap.get?_push_of_some _ q
 obtain⟨T,id,hT,ht,hg⟩:=hr pins { s3 with heap:=s3.heap.push { cls:=.type "slice",data:=.fields #[vl,vu,.none] } } σ H3 x v vl vu l u s3.heap.objs.size Q I4 r1 (Heap.IsSliceOf.new ..) pl pu q3
 show wpAny (model X.prog X.w) X.A (subscriptTail e (.Slice lo hi none p2) v (.ref s3.heap.objs.size)) (EP X pins σ Q) X.xe { s3 with heap:=s3.heap.push { cls:=.type "slice",data:=.fields #[vl,vu,.none] } }
 exact tail_any (ops:=[.ref s3.heap.objs.size,v]) ht hT hg (by with_unfolding_all rfl)
def EF(xs:List V)(lo hi:Option Int):List V:=(xs.drop (HT.sIx xs.length 0 lo)).take (HT.sIx xs.length xs.length hi - HT.sIx xs.length 0 lo)
theorem YF(xs:List V)(lo hi:Option Int):(EF xs lo hi).length<=xs.length:=by
 unfold EF
 rw[List.length_take,List.length_drop]
 omega
def YG(K:W.Frag):V->Option Int->Option Int->Hp->VK->Prop:=λx lo hi H Q=>∃ a xs,x=.ref a/\SqT K H a xs ∧
 ¬ (HT.sIx xs.length 0 lo=0/\HT.sIx xs.length xs.length hi=xs.length)/\∀ p,H p=none->Q (.ref p) (upd H p (.tup (EF xs lo hi)))
theorem oX:SlR X (YG X.K):=by
 intro pins s σ H x v vl vu lo hi sl Q I rx hs pl pu h
 obtain⟨a,xs,rfl,hx,hw,q⟩:=h
 cases rx
 obtain⟨its,r,ht,hz⟩:=I.tuple hx
 have hlen:its.toArray.size=xs.length:=by rw[List.size_toArray];exact r.length.symm
 refine⟨"tuple",_,PyProof.Rows.slot_tuple_getitem.lookup,ht.typeIs,?_⟩
 refine HT.getItem_tuple_cut ht hs pl pu (by rw[hlen];exact hw) ?_ (by rw[hlen];exact hz)
 rw[hlen]
 refine⟨.ref s.heap.objs.size,_,I.laid (t':=s.toks) (o:=.tup (EF xs lo hi)) (λb ob q=>Heap.get?_push_of_some _ q) (Nat.le_refl _) ?_,rfl,q _ (I.hok.fresh (Nat.le_refl _))⟩
 exact⟨Nat.le_trans (YF xs lo hi) hz,_,(r.drop (HT.sIx xs.length 0 lo)).take (HT.sIx xs.length xs.length hi - HT.sIx xs.length 0 lo),IsTup.new _ _⟩
def SM(K:W.Frag):R2:=λx y H Q=>∃ a b xs ys,x=.ref a/\y=.ref b/\SqT K H a xs/\SqT K H b ys/\xs≠[]/\xs.length+ys.length<=sizeLine ∧
 (ys=[]->Q (.ref a) H)/\(ys≠[]->∀ p,H p=none->Q (.ref p) (upd H p (.tup (xs++ys))))
theorem Vals.nil_iff{xs:List V}{us:List Value}(r:Vals xs us):us=[]↔xs=[]:=by
 cases r with
 | nil=>simp
 | cons _ _=>simp
theorem oY:OpR X (binaryOp .Add) (SM X.K):=by
 intro pins s σ H x y v u Q I rx ry h
 obtain⟨a,b,xs,ys,rfl,rfl,ha,hb,hx,hz,q1,q2⟩:=h
 cases rx
 cases ry
 obtain⟨its,r1,p1,_⟩:=I.tuple ha
 obtain⟨its2,r2,p2,_⟩:=I.tuple hb
 refine HT.cat_tup p1 p2 (λz=>hx (r1.nil_iff.mp z)) (λz=>⟨.ref a,H,I,rfl,q1 (r2.nil_iff.mp z)⟩) (λz=> ?_) (by rw[<-r1.length,<-r2.length];exact hz)
 refine⟨.ref s.heap.objs.size,_,I.laid (t':=s.toks) (o:=.tup (xs++ys)) (λb ob q=>Heap.get?_push_of_some _ q) (Nat.le_refl _) ?_,rfl,q2 (λw=>z (r2.nil_iff.mpr w)) _ (I.hok.fresh (Nat.le_refl _))⟩
 exact⟨by rw[List.length_append];exact hz,_,r1.append r2,IsTup.new _ _⟩
end
end L2
namespace L2
def GY(n:Nat)(i:Int):Option Nat:=if 0<=i then(if i<n then some i.toNat else none)else if -(n:Int)<=i then some (i+n).toNat else none
def JL{α :Type}(xs:List α)(i:Int):Option α :=(GY xs.length i).bind λj=>xs[j]?
theorem YH{n:Nat}{i:Int}{j:Nat}(h:GY n i=some j):seqIndex? i n=some j/\j<n/\ -(n:Int)<=i/\i<n:=by
 unfold GY at h
 by_cases h0:0<=i
 ·rw[if_pos h0]at h
  by_cases h1:i<n
  ·rw[if_pos h1]at h
   have e:i.toNat=j:=Option.some.inj h
   exact⟨by rw[seqIndex_of h0 h1,e],by omega,by omega,h1⟩
  ·rw[if_neg h1]at h;cases h
 ·rw[if_neg h0]at h
  by_cases h1: -(n:Int)<=i
  ·rw[if_pos h1]at h
   have e:(i+n).toNat=j:=Option.some.inj h
   exact⟨by rw[seqIndex_neg (by omega) h1,e],by omega,h1,by omega⟩
  ·rw[if_neg h1]at h;cases h
theorem SN{α :Type}{xs:List α}{i:Int}{v: α}(h:JL xs i=some v):∃ j,seqIndex? i xs.length=some j/\xs[j]? =some v/\j<xs.length/\ -(xs.length:Int)<=i/\i<xs.length:=by
 unfold JL at h
 cases e:GY xs.length i with
 | none=>rw[e]at h;cases h
 | some j =>
  rw[e]at h
  obtain⟨h1,h2,h3,h4⟩:=YH e
  exact⟨j,h1,h,h2,h3,h4⟩
theorem SO{α :Type}{xs:List α}{j:Nat}{v: α}(h:xs[j]? =some v):JL xs (j:Int)=some v:=by
 have hj:j<xs.length:=(List.getElem?_eq_some_iff.mp h).1
 have e:GY xs.length (j:Int)=some j:=by
  unfold GY
  rw[if_pos (by omega),if_pos (by omega)];simp
 unfold JL;rw[e];exact h
def oZ(b:Expr):Prop:=∀ o i,subscripted b false o i=operate [o,i] (getItem o i)
def IxR(X:Cx)(r:R2):Prop :=
 ∀ (value slice:Expr) (pins:List (Addr × Obj)) (s:Shared) (σ:St) (H:Hp) (x y:V) (v u:Value) (Q:VK),Inv X pins σ H s->RelV x v->RelV y u->r x y H Q →
  subscripted slice false v u=operate [v,u] (getItem v u)->wpAny (model X.prog X.w) X.A (subscriptTail value slice v u) (EP X pins σ Q) X.xe s
def MtR(X:Cx)(id:String)(r:V->List V->Hp->VK->Prop):Prop :=
 ∀ (pins:List (Addr × Obj)) (s:Shared) (σ:St) (H:Hp) (x:V) (xs:List V) (v:Value) (us:List Value) (Q:VK),Inv X pins σ H s->RelV x v->Vals xs us->r x xs H Q →
  wpAny (model X.prog X.w) X.A (call (.builtin id) (v::us)) (EP X pins σ Q) X.xe s
section
variable{X:Cx}{a b:Expr}{ta tb:TE}{pos:Pos}
theorem IxR.or{r r':R2}(h:IxR X r)(h':IxR X r'):IxR X (λx y H Q=>r x y H Q\/r' x y H Q):=by
 intro value slice pins s σ H x y v u Q I rx ry q hs
 rcases q with q | q
 ·exact h value slice pins s σ H x y v u Q I rx ry q hs
 ·exact h' value slice pins s σ H x y v u Q I rx ry q hs
theorem MtR.or{id:String}{r r':V->List V->Hp->VK->Prop}(h:MtR X id r)(h':MtR X id r'):MtR X id (λx xs H Q=>r x xs H Q\/r' x xs H Q):=by
 intro pins s σ H x xs v us Q I rx rs q
 rcases q with q | q
 ·exact h pins s σ H x xs v us Q I rx rs q
 ·exact h' pins s σ H x xs v us Q I rx rs q
theorem AN{r:R2}(hr:IxR X r)(ha:PE X a ta)(hb:PE X b tb)(hs:oZ b):PE X (.Subscript a b pos) (AC r ta tb):=by
 intro pins s σ H Q I h
 exact Subscript_ (SC ha hb I h λv u s2 x y H2 I2 rx ry q=>hr a b pins s2 σ H2 x y v u Q I2 rx ry q (hs _ _))
def YI(K:W.Frag):R2:=λx y H Q=>∃ p xs i v,x=.ref p/\y=.int i/\SqL K H p xs/\JL xs i=some v/\Q v H
def YJ(K:W.Frag):R2:=λx y H Q=>∃ p xs i v,x=.ref p/\y=.int i/\SqT K H p xs/\JL xs i=some v/\Q v H
def YK:R2:=λx y H Q=>∃ z i c,x=.str z/\y=.int i/\z.length<=sizeLine/\JL z.cps.toList i=some c/\Q (.str ⟨#[c]⟩) H
theorem o0:IxR X (YI X.K):=by
 intro value slice pins s σ H x y v u Q I rx ry h hs
 obtain⟨p,xs,i,z,rfl,rfl,hq,he,q⟩:=h
 cases rx
 obtain⟨t,rfl⟩:=ry
 obtain⟨its,r,pl,hz⟩:=I.list hq
 obtain⟨j,h1,h2,h3,h4,h5⟩:=SN he
 obtain⟨w,ew,rw'⟩:=r.get h2
 have hl:=r.length
 have hn:=JG
 have fin:EP X pins σ Q w s:=⟨z,H,I,rw',q⟩
 by_cases h0:0<=i
 ·have hj:i.toNat=j:=by
   rw[seqIndex_of h0 h5]at h1
   exact Option.some.inj h1
  exact item_listR pl.isList h0 (by omega) (by rw[hj];simpa using ew) fin hs
 ·have hj:(i+(its.toArray.size:Int)).toNat=j:=by
   rw[seqIndex_neg (by omega) h4]at h1
   rw[List.size_toArray,<-hl]
   exact Option.some.inj h1
  exact subscriptTail_builtinR (x:=w) pl.isList.typeIs slot_list_getitem.lookup
   (wpAny_getItem_list_neg (Q:=λr s'=>r=w/\EP X pins σ Q r s') pl.isList (by omega) (by rw[List.size_toArray]<;>omega) (by omega) (by rw[hj];simpa using ew) ⟨rfl,fin⟩) hs
theorem o3:IxR X (YJ X.K):=by
 intro value slice pins s σ H x y v u Q I rx ry h hs
 obtain⟨p,xs,i,z,rfl,rfl,hq,he,q⟩:=h
 cases rx
 obtain⟨t,rfl⟩:=ry
 obtain⟨its,r,pl,hz⟩:=I.tuple hq
 obtain⟨j,h1,h2,h3,h4,h5⟩:=SN he
 obtain⟨w,ew,rw'⟩:=r.get h2
 have hl:=r.length
 have hn:=JG
 have fin:EP X pins σ Q w s:=⟨z,H,I,rw',q⟩
 exact subscriptTail_builtinR (x:=w) pl.typeIs slot_tuple_getitem.lookup
  (getItem_tuple (j:=j) (Q:=λr s'=>r=w/\EP X pins σ Q r s') pl (by omega) (by omega) (by rw[List.size_toArray,<-hl];exact h1) (by simpa using ew) ⟨rfl,fin⟩) hs
theorem o6:IxR X YK:=by
 intro value slice pins s σ H x y v u Q I rx ry h hs
 obtain⟨z,i,c,rfl,rfl,hz,he,q⟩:=h
 obtain⟨t,rfl⟩:=rx
 obtain⟨t',rfl⟩:=ry
 obtain⟨j,h1,h2,h3,h4,h5⟩:=SN he
 have hl:z.cps.toList.length=z.length:=by simp[Str.length]
 rw[hl]at h1 h4 h5
 have hn:=JG
 exact tail_any (typeIs_str s z t) slot_str_getitem.lookup (getItem_str (c:=c) (by
  have e1:decide (i< -(2 ^ 63:Int))=false:=decide_eq_false (by omega)
  have e2:decide (i ≥ 2 ^ 63)=false:=decide_eq_false (by omega)
  rw[e1,e2,Bool.or_false]) (by rw[h1];simpa using h2) ⟨.str ⟨#[c]⟩,H,I.tok _,⟨_,rfl⟩,q⟩) hs
def YL(K:W.Frag):R2:=λx y H Q=>YI K x y H Q\/YJ K x y H Q\/YK x y H Q
theorem o7:IxR X (YL X.K):=o0.or (o3.or o6)
theorem o8(its:List Value)(n j:Nat)(u:Value):Obj.mapSeq (·.setIfInBounds j u) { cls:=.type "list",data:=.seq its.toArray n }={ cls:=.type "list",data:=.seq (its.set j u).toArray n }:=by
 simp[Obj.mapSeq]
theorem Inv.lst{pins:List (Addr × Obj)}{σ:St}{H:Hp}{s:Shared}{p:Addr}{xs:List V}(I:Inv X pins σ H s)(h:H p=some (.lst xs)) :
  ∃ (its:List Value) (n:Nat),Vals xs its/\s.heap.get? p=some { cls:=.type "list",data:=.seq its.toArray n }/\xs.length<=sizeLine:=by
 obtain⟨z,its,n,r,e⟩:=I.hok p _ h
 exact⟨its,n,r,e,z⟩
theorem Inv.lstUpd{pins:List (Addr × Obj)}{σ:St}{H:Hp}{s:Shared}{p:Addr}{xs ys:List V}{its its':List Value}{n n':Nat}{f:Obj->Obj}(I:Inv X pins σ H s)(h:H p=some (.lst xs))
  (ho:s.heap.get? p=some { cls:=.type "list",data:=.seq its.toArray n }) (hf:f { cls:=.type "list",data:=.seq its.toArray n }={ cls:=.type "list",data:=.seq its'.toArray n' }) (r:Vals ys its') (hz:ys.length<=sizeLine) (t:Nat) :
  Inv X pins σ (upd H p (.lst ys)) { s with heap:=s.heap.update p f,toks:=t }:=by
 have e:(s.heap.update p f).get? p=some { cls:=.type "list",data:=.seq its'.toArray n' }:=by
  rw[Heap.get?_update_self f ho (by rw[hf]<;>rfl),hf]
 refine I.write (x:=p) (e:=p) (by rw[h];trivial) (.inl rfl) (λb u hb q=>(Heap.get?_update_other _ _ (Ne.symm hb)).trans q) ⟨_,e⟩ ?_
 exact⟨hz,its',n',r,e⟩
def YM:V->V->V->Hp->(Hp->Prop)->Prop:=λo i v H Q=>∃ p xs k j,o=.ref p/\i=.int k/\H p=some (.lst xs)/\GY xs.length k=some j/\Q (upd H p (.lst (xs.set j v)))
theorem o9:R9 X YM:=by
 intro pins s σ H o i v ov iv u Q I ro ri rv h
 obtain⟨p,xs,k,j,rfl,rfl,hp,hj,q⟩:=h
 cases ro
 obtain⟨t,rfl⟩:=ri
 obtain⟨its,n,r,ho,hz⟩:=I.lst hp
 obtain⟨h1,h2,h3,h4⟩:=YH hj
 have hl:=r.length
 have hn:=JG
 have I':Inv X pins σ (upd H p (.lst (xs.set j v))) { s with heap:=s.heap.update p (Obj.mapSeq (·.setIfInBounds j u)) } :=
  I.lstUpd hp ho (o8 its n j u) (r.set rv j) (by rw[List.length_set];exact hz) s.toks
 by_cases h0:0<=k
 ·have hk:k.toNat=j:=by
   rw[seqIndex_of h0 h4]at h1
   exact Option.some.inj h1
  exact W.ki_setAt ho h0 (by omega) (by rw[List.size_toArray,<-hl];exact h4) (by rw[hk];exact⟨_,I',q⟩)
 ·have hk:(k+(its.toArray.size:Int)).toNat=j:=by
   rw[seqIndex_neg (by omega) h3]at h1
   rw[List.size_toArray,<-hl]
   exact Option.some.inj h1
  exact W.ki_setBack ho (by omega) (by rw[List.size_toArray,<-hl];exact h3) (by omega) (by rw[hk];exact⟨_,I',q⟩)
theorem pA(lo hi:Option Int)(n:Nat):(sliceBounds lo hi none n).1=((HT.sIx n 0 lo:Nat):Int)/\(sliceBounds lo hi none n).2.1=((HT.sIx n n hi:Nat):Int)/\(sliceBounds lo hi none n).2.2=1:=by
 refine⟨?_,?_,rfl⟩
 ·cases lo with
  | none=>simp[sliceBounds,HT.sIx]
  | some i =>
   simp only[sliceBounds,HT.sIx,Option.getD_none,show(1:Int) > 0 by decide,if_true]
   by_cases h:i<0
   ·simp only[h,if_true]<;>omega
   ·simp only[h,if_false]<;>omega
 ·cases hi with
  | none=>simp[sliceBounds,HT.sIx]
  | some i =>
   simp only[sliceBounds,HT.sIx,Option.getD_none,show(1:Int) > 0 by decide,if_true]
   by_cases h:i<0
   ·simp only[h,if_true]<;>omega
   ·simp only[h,if_false]<;>omega
theorem pB(its:List Value)(lo hi:Option Int):slicePick its.toArray lo hi none=((its.drop (HT.sIx its.length 0 lo)).take (HT.sIx its.length its.length hi - HT.sIx its.length 0 lo)).toArray:=by
 obtain⟨h1,h2,h3⟩:=pA lo hi its.toArray.size
 unfold slicePick
 rw[h1,h2,h3]
 simp only[sliceRange_one,pick_run,List.size_toArray]<;>rfl
def YN(K:W.Frag):V->Option Int->Option Int->Hp->VK->Prop:=λx lo hi H Q=>∃ a xs,x=.ref a/\SqL K H a xs/\∀ p,H p=none->Q (.ref p) (upd H p (.lst (EF xs lo hi)))
theorem pC:SlR X (YN X.K):=by
 intro pins s σ H x v vl vu lo hi sl Q I rx hs pl pu h
 obtain⟨a,xs,rfl,hx,q⟩:=h
 cases rx
 obtain⟨its,r,ht,hz⟩:=I.list hx
 have hlen:=r.length
 refine⟨"list",_,slot_list_getitem.lookup,ht.isList.typeIs,?_⟩
 refine wpAny_getItem_list_slice ht.isList hs pl pu .none (by simp) ?_ (by rw[List.size_toArray]<;>omega)
 rw[pB,<-hlen]
 refine⟨.ref s.heap.objs.size,_,I.laid (t':=s.toks) (o:=.lst (EF xs lo hi)) (λb ob q=>Heap.get?_push_of_some _ q) (Nat.le_refl _) ?_,rfl,q _ (I.hok.fresh (Nat.le_refl _))⟩
 exact⟨Nat.le_trans (YF xs lo hi) hz,_,0,(r.drop (HT.sIx xs.length 0 lo)).take (HT.sIx xs.length xs.length hi - HT.sIx xs.length 0 lo),Heap.get?_push_size _ rfl⟩
theorem CallR.or{f:Value}{r r':List V->Hp->VK->Prop}(h:CallR X f r)(h':CallR X f r'):CallR X f (λxs H Q=>r xs H Q\/r' xs H Q):=by
 intro pins s σ H xs us Q I rs q
 rcases q with q | q
 ·exact h pins s σ H xs us Q I rs q
 ·exact h' pins s σ H xs us Q I rs q
theorem pD:CallR X (.type "list") (λxs H Q=>∃ p ys,xs=[.ref p]/\(SqL X.K H p ys\/SqT X.K H p ys)/\∀ l,H l=none->Q (.ref l) (upd H l (.lst ys))):=by
 intro pins s σ H xs us Q I r h
 obtain⟨p,ys,rfl,hq,q⟩:=h
 obtain⟨u,rfl,rx⟩:=JH r
 cases rx
 have fin:∀ (its:List Value),Vals ys its->ys.length<=sizeLine->∀ (h':Heap) (c':Nat),(∀ b o',s.heap.get? b=some o'->h'.get? b=some o') →
   h'.get? s.heap.objs.size=some { cls:=.type "list",dict:=none,data:=.seq its.toArray c',slots:= #[] }->EP X pins σ Q (.ref s.heap.objs.size) { s with heap:=h' }:=λits r' hz h' c' kp e =>
  ⟨.ref s.heap.objs.size,_,I.laid (t':=s.toks) kp (Nat.le_refl _) (show ObjOk X.prog X.w _ h' _ (.lst ys)from⟨hz,its,c',r',e⟩),rfl,q _ (I.hok.fresh (Nat.le_refl _))⟩
 rcases hq with hq | hq
 ·obtain⟨its,r',pl,hz⟩:=I.list hq
  have hlen:=r'.length
  obtain⟨o,ho,hc,n,hd⟩:=pl.isList
  exact call_list_seq p (.inl rfl) ho hc hd (λh' c' kp e=>fin its r' hz h' c' kp e) (by simp only[List.size_toArray]<;>omega)
 ·obtain⟨its,r',pl,hz⟩:=I.tuple hq
  have hlen:=r'.length
  obtain⟨o,ho,hc,n,hd⟩:=pl
  exact call_list_seq p (.inr rfl) ho hc hd (λh' c' kp e=>fin its r' hz h' c' kp e) (by simp only[List.size_toArray]<;>omega)
theorem pE:CallR X (.type "tuple") (λxs H Q=>∃ p ys,xs=[.ref p]/\((SqL X.K H p ys/\∀ l,H l=none->Q (.ref l) (upd H l (.tup ys)))\/(SqT X.K H p ys/\Q (.ref p) H))):=by
 intro pins s σ H xs us Q I r h
 obtain⟨p,ys,rfl,h⟩:=h
 obtain⟨u,rfl,rx⟩:=JH r
 cases rx
 rcases h with⟨hq,q⟩ | ⟨hq,q⟩
 ·obtain⟨its,r',pl,hz⟩:=I.list hq
  have hlen:=r'.length
  refine call_tuple_list pl.isList (λh' kp=> ?_) (by simp only[List.size_toArray]<;>omega)
  have I1:Inv X pins σ H { s with heap:=h' }:=I.kept (t':=s.toks) kp
  have I2:Inv X pins σ (upd H h'.objs.size (.tup ys)) { s with heap:=h'.push { cls:=.type "tuple",data:=.seq its.toArray } } :=
   I1.laid (t':=s.toks) (λb o e=>Heap.get?_push_of_some _ e) (Nat.le_refl _) (show ObjOk X.prog X.w _ _ _ (.tup ys)from⟨hz,its,r',IsTup.new _ _⟩)
  exact⟨.ref h'.objs.size,_,I2,rfl,q _ (I1.hok.fresh (Nat.le_refl _))⟩
 ·obtain⟨its,r',pl,hz⟩:=I.tuple hq
  exact call_tuple_same pl ⟨.ref p,H,I,rfl,q⟩
def NJ(K:W.Frag)(T:String)(x:V)(H:Hp):Prop:=match x with
 | .str _=>T="str"
 | .int _=>T="int"
 | .ref p=>(T="list"/\∃ xs,SqL K H p xs)\/(T="tuple"/\∃ o,K.lookup p=some o/\o.cls=.type "tuple"/\o.dict=none) ∨
   (T="dict"/\((∃ kvs,H p=some (.dK kvs))\/∃ kvs,H p=some (.dT kvs)))\/(T="set"/\∃ S n,H p=some (.set S n))
 | _=>False
theorem YO{pins:List (Addr × Obj)}{σ:St}{H:Hp}{s:Shared}{T:String}{x:V}{v:Value}(I:Inv X pins σ H s)(r:RelV x v)(ty:NJ X.K T x H) :
  s.TypeIs v T/\∀ a,v=.ref a->∃ ob,s.heap.get? a=some ob/\ob.dict=none:=by
 cases x with
 | str z =>
  obtain⟨t,rfl⟩:=r
  cases (show T="str" from ty)
  exact⟨typeIs_str s z t,λ_ e=>nomatch e⟩
 | int i =>
  obtain⟨t,rfl⟩:=r
  cases (show T="int" from ty)
  exact⟨typeIs_int s i t,λ_ e=>nomatch e⟩
 | ref p =>
  cases r
  rcases ty with⟨rfl,xs,hq⟩ | ⟨rfl,o,hk,hc,hd⟩ | ⟨rfl,hk⟩ | ⟨rfl,S,n,hk⟩
  ·obtain⟨its,_,pl,_⟩:=I.list hq
   refine⟨pl.isList.typeIs,λa e=> ?_⟩
   cases e
   obtain⟨o,n,e,c,hd,_⟩:=pl
   exact⟨o,e,hd⟩
  ·refine⟨⟨o,I.kIn p o hk,hc⟩,λa e=> ?_⟩
   cases e
   exact⟨o,I.kIn _ o hk,hd⟩
  ·have z:∃ o,s.heap.get? p=some o/\o.ExactDict:=by
    rcases hk with⟨kvs,hk⟩ | ⟨kvs,hk⟩
    ·obtain⟨_,_,_,_,o,_,_,e,ex,_⟩:=I.hok p _ hk
     exact⟨o,e,ex⟩
    ·obtain⟨_,_,_,_,o,_,_,e,ex,_⟩:=I.hok p _ hk
     exact⟨o,e,ex⟩
   obtain⟨o,e,ex⟩:=z
   refine⟨⟨o,e,ex.1⟩,λa e2=> ?_⟩
   cases e2
   exact⟨o,e,ex.2.1⟩
  ·obtain⟨o,_,_,_,e,ex,_⟩:=I.hok p _ hk
   refine⟨⟨o,e,ex.1⟩,λa e2=> ?_⟩
   cases e2
   exact⟨o,e,ex.2.1⟩
 | _=>exact False.elim ty
def SQ(K:W.Frag)(T:String)(r:V->List V->Hp->VK->Prop)(to:TE):TE:=λσ H Q=>to σ H λx H1=>NJ K T x H1/\r x [] H1 Q
def EY(K:W.Frag)(T:String)(r:V->List V->Hp->VK->Prop)(to:TE)(t:TA):TE:=λσ H Q=>to σ H λx H1=>NJ K T x H1/\t σ H1 λxs H2=>r x xs H2 Q
variable{o e:Expr}{es:List Expr}{to:TE}{t:TA}{name:Str}{apos cpos:Pos}{T id:String}{r:V->List V->Hp->VK->Prop}
theorem pF(pa:PlainAttrs T)(slot:Slot T name id)(hty:typeOf (.builtin id)=pure (.type "method_descriptor"))(hm:MtR X id r)(ho:PE X o to)
  (hbase:attributeBase o name X.env (eval o X.env)=eval o X.env:=by rfl) (hline:(apos.endLine == cpos.line)=true:=by rfl):PE X (.Call (.Attribute o name apos) [] [] cpos) (SQ X.K T r to):=by
 intro pins s σ H Q I h
 refine wpAny_Call_method0_late hbase hline (AY (ho pins s σ H _ I h) λv s1 ⟨x,H1,I1,r1,ty,q1⟩=> ?_)
 obtain⟨h1,h2⟩:=YO I1 r1 ty
 exact⟨T,id,pa,slot,hty,h1,h2,Calls.callWith_builtin rfl (PySem.evalArgs_none (hm pins s1 σ H1 x [] v [] Q I1 r1 .nil q1))⟩
theorem FL(pa:PlainAttrs T)(slot:Slot T name id)(hty:typeOf (.builtin id)=pure (.type "method_descriptor"))(hm:MtR X id r)(ho:PE X o to)(ha:PA X (e::es) t)
  (hbase:attributeBase o name X.env (eval o X.env)=eval o X.env:=by rfl)
  (hfew:((backTo cpos (starEach (e::es) X.env)).all (λx=> !x.1) && (backToKw cpos (keywordEach [] X.env)).all (λx=>x.1.isSome)
   && decide ((e::es).length+([]:List Keyword).length+(if([]:List Keyword).isEmpty then 0 else 1)<30))=true:=by rfl)
  (hline:(apos.endLine == cpos.line)=true:=by rfl) (hs:starEach (e::es) X.env=(false,eval e X.env)::starEach es X.env:=by rfl) (hplain:(backTo cpos (starEach es X.env)).any (·.1)=false:=by rfl) :
  PE X (.Call (.Attribute o name apos) (e::es) [] cpos) (EY X.K T r to t):=by
 intro pins s σ H Q I h
 refine wpAny_Call_method_late hbase hfew hline rfl (AY (ho pins s σ H _ I h) λv s1 ⟨x,H1,I1,r1,ty,q1⟩=> ?_)
 obtain⟨h1,h2⟩:=YO I1 r1 ty
 refine⟨T,id,pa,slot,hty,h1,h2,?_⟩
 have hA:=ha cpos pins s1 σ H1 _ I1 q1
 rw[hs]at hA ⊢
 refine Calls.callWith_builtin (by show(false || (backTo cpos (starEach es X.env)).any (·.1))=false;rw[hplain]<;>rfl) (Calls.evalArgs_plain ?_)
 exact AY hA λus s2 ⟨vs,H2,I2,r2,q2⟩=>hm pins s2 σ H2 x vs v us Q I2 r1 r2 q2
end
end L2
namespace L2
def NK(X:Cx)(id:String)(r:V->List V->Hp->VK->Prop):Prop :=
 ∀ (pins:List (Addr × Obj)) (s:Shared) (σ:St) (H:Hp) (x:V) (xs:List V) (v:Value) (us:List Value) (Q:VK),Inv X pins σ H s->RelV x v->Vals xs us->r x xs H Q →
  wpAny (model X.prog X.w) X.A (call (.builtin id) (v::us)) (EP X pins σ Q) X.xe s
theorem Vals.one:∀ {x:V} {us:List Value},Vals [x] us->∃ u,us=[u]/\RelV x u
 | _,_,.cons r .nil=>⟨_,rfl,r⟩
theorem Vals.two:∀ {x y:V} {us:List Value},Vals [x,y] us->∃ u v,us=[u,v]/\RelV x u/\RelV y v
 | _,_,_,.cons r (.cons q .nil)=>⟨_,_,rfl,r,q⟩
theorem Vals.zero:∀ {us:List Value},Vals [] us->us=[]
 | _,.nil=>rfl
theorem Vals.reverse{xs:List V}{us:List Value}(h:Vals xs us):Vals xs.reverse us.reverse:=by
 induction h with
 | nil=>exact .nil
 | cons r t ih=>rw[List.reverse_cons,List.reverse_cons];exact Vals.append ih (.cons r .nil)
theorem Vals.rep{xs:List V}{us:List Value}(h:Vals xs us):∀ k:Nat,Vals (List.replicate k xs).flatten (List.replicate k us).flatten
 | 0=>.nil
 | k+1=>by
  rw[List.replicate_succ,List.replicate_succ,List.flatten_cons,List.flatten_cons]
  exact Vals.append h (Vals.rep h k)
theorem QJ(its:List Value):∀ (k:Nat) (acc:List Value),
  List.foldl (λx1 x2=>x1++x2) acc.toArray (List.replicate k its.toArray)=(acc++(List.replicate k its).flatten).toArray
 | 0,acc=>by simp
 | k+1,acc=>by
  have e:acc.toArray++its.toArray=(acc++its).toArray:=by simp
  have e2:(acc++its)++(List.replicate k its).flatten=acc++(List.replicate (k+1) its).flatten:=by
   rw[List.replicate_succ,List.flatten_cons,List.append_assoc]
  rw[<-e2,<-QJ its k (acc++its),<-e,List.replicate_succ,List.foldl_cons]
section
variable{X:Cx}{pins:List (Addr × Obj)}{σ:St}{H:Hp}{s:Shared}{l b:Addr}{xs ys zs:List V}
theorem Inv.lset{its its':List Value}{n:Nat}{f:Array Value->Array Value}{t':Nat}(I:Inv X pins σ H s)(hH:H l=some (.lst xs))
  (e:s.heap.get? l=some { cls:=.type "list",data:=.seq its.toArray n }) (hf:f its.toArray=its'.toArray) (hv:Vals ys its') (hz:ys.length<=sizeLine) :
  Inv X pins σ (upd H l (.lst ys)) { s with heap:=s.heap.update l (Obj.mapSeq f),toks:=t' }:=by
 have q:=PySem.IsL.update e f
 rw[hf]at q
 refine I.write (x:=l) (e:=l) (by rw[hH];exact trivial) (.inl rfl) (λb' u hb hu=>(Heap.get?_update_other s.heap (Obj.mapSeq f) (Ne.symm hb)).trans hu) ⟨_,q⟩ ?_
 exact⟨hz,its',_,hv,q⟩
theorem Inv.lnew{its:List Value}{t':Nat}(I:Inv X pins σ H s)(hv:Vals ys its)(hz:ys.length<=sizeLine) :
  Inv X pins σ (upd H s.heap.objs.size (.lst ys)) { s with heap:=s.heap.push { cls:=.type "list",data:=.seq its.toArray },toks:=t' } :=
 I.laid (λ_ _ q=>Heap.get?_push_of_some _ q) (Nat.le_refl _) ⟨hz,its,0,hv,Heap.get?_push_size _ rfl⟩
theorem Inv.fresh(I:Inv X pins σ H s):H s.heap.objs.size=none:=I.hok.fresh (Nat.le_refl _)
theorem Inv.lstM(I:Inv X pins σ H s)(hH:H l=some (.lst xs)):xs.length<=sizeLine/\∃ (its:List Value) (n:Nat),Vals xs its/\xs.length=its.length/\s.heap.get? l=some { cls:=.type "list",data:=.seq its.toArray n }:=by
 obtain⟨z,its,n,r,e⟩:=I.hok l _ hH
 exact⟨z,its,n,r,r.length,e⟩
theorem SR{n:Nat}(h:n<=sizeLine):Builtin.List.listTooLong n=false:=by
 unfold Builtin.List.listTooLong
 exact decide_eq_false (by omega)
end
section
variable{X:Cx}
def SS:V->List V->Hp->VK->Prop:=λx vs H Q=>∃ l xs y,x=.ref l/\vs=[y]/\H l=some (.lst xs)/\xs.length<sizeLine/\Q .non (upd H l (.lst (xs++[y])))
theorem IB:NK X "list.append" SS:=by
 intro pins s σ H x vs v us Q I rx rv h
 obtain⟨l,xs,y,rfl,rfl,hH,hz,q⟩:=h
 cases rx
 obtain⟨u,rfl,ru⟩:=rv.one
 obtain⟨z,its,n,r,hl,e⟩:=I.lstM hH
 refine call_meets F.slot_list_append ⟨_,e,rfl⟩ F.entry_list_append (F.args_list_append_2 _ _) (PySem.list_append l its.toArray n u (by rw[List.size_toArray];omega)) ⟨e,?_⟩
 refine⟨.non,_,I.lset (its':=its++[u]) hH e (by simp) (r.append (.cons ru .nil)) ?_,rfl,q⟩
 rw[List.length_append,List.length_singleton]
 omega
def YQ:V->List V->Hp->VK->Prop:=λx vs H Q=>∃ l b xs zs,x=.ref l/\vs=[.ref b]/\H l=some (.lst xs)/\H b=some (.lst zs)/\xs.length+zs.length<=sizeLine/\Q .non (upd H l (.lst (xs++zs)))
theorem pG:NK X "list.extend" YQ:=by
 intro pins s σ H x vs v us Q I rx rv h
 obtain⟨l,b,xs,zs,rfl,rfl,hH,hB,hz,q⟩:=h
 cases rx
 obtain⟨u,rfl,ru⟩:=rv.one
 cases ru
 obtain⟨z,its,n,r,hl,e⟩:=I.lstM hH
 obtain⟨z2,its2,n2,r2,hl2,e2⟩:=I.lstM hB
 have hsz:its.toArray.size+its2.toArray.size<=sizeLine:=by rw[List.size_toArray,List.size_toArray];omega
 have hlong:¬ (!its.toArray.isEmpty && Builtin.List.listTooLong (its.toArray.size+its2.toArray.size))=true:=by
  rw[SR hsz,Bool.and_false]
  exact Bool.false_ne_true
 refine call_meets F.slot_list_extend ⟨_,e,rfl⟩ F.entry_list_extend (F.args_list_extend_2 _ _)
  (AutoSeq1.list_extend_list_list_0 l its.toArray n b its2.toArray n2 hlong (by rw[List.size_toArray];omega) (by omega)) ⟨e,e2,?_⟩
 refine⟨.non,_,I.lset (its':=its++its2) hH e (by simp) (r.append r2) ?_,rfl,q⟩
 rw[List.length_append]
 omega
def YR:V->List V->Hp->VK->Prop:=λx vs H Q=>∃ l xs,x=.ref l/\vs=[]/\H l=some (.lst xs)/\Q .non (upd H l (.lst []))
theorem pH:NK X "list.clear" YR:=by
 intro pins s σ H x vs v us Q I rx rv h
 obtain⟨l,xs,rfl,rfl,hH,q⟩:=h
 cases rx
 have hus:=rv.zero
 subst hus
 obtain⟨z,its,n,r,hl,e⟩:=I.lstM hH
 refine call_meets F.slot_list_clear ⟨_,e,rfl⟩ F.entry_list_clear (F.args_list_clear_1 _) (AutoSeq1.list_clear_list_0 l its.toArray n (by rw[List.size_toArray];omega)) ⟨e,?_⟩
 exact⟨.non,_,I.lset (its':=[]) (ys:=[]) hH e rfl .nil (Nat.zero_le _),rfl,q⟩
def ST:R2:=λx y H Q=>∃ l b xs zs,x=.ref l/\y=.ref b/\H l=some (.lst xs)/\H b=some (.lst zs)/\xs.length+zs.length<=sizeLine/\∀ p,H p=none->Q (.ref p) (upd H p (.lst (xs++zs)))
theorem pI:OpR X (binaryOp .Add) ST:=by
 intro pins s σ H x y v u Q I rx ry h
 obtain⟨l,b,xs,zs,rfl,rfl,hH,hB,hz,q⟩:=h
 cases rx
 cases ry
 obtain⟨z,its,n,r,hl,e⟩:=I.lstM hH
 obtain⟨z2,its2,n2,r2,hl2,e2⟩:=I.lstM hB
 refine PySem.P.add_list e e2 ?_ (by rw[List.size_toArray,List.size_toArray];omega)
 have ea:its.toArray++its2.toArray=(its++its2).toArray:=by simp
 rw[ea]
 exact⟨.ref _,_,I.lnew (t':=s.toks) (r.append r2) (by rw[List.length_append];omega),rfl,q _ I.fresh⟩
def SU:R2:=λx y H Q=>∃ l k xs,x=.ref l/\y=.int k/\H l=some (.lst xs)/\ -(2 ^ 63)<=k/\k<2 ^ 63/\xs.length * k.toNat<=sizeLine ∧
 ∀ p,H p=none->Q (.ref p) (upd H p (.lst (List.replicate k.toNat xs).flatten))
theorem YS{α :Type}(xs:List α)(k:Nat):(List.replicate k xs).flatten.length=k * xs.length:=by
 induction k with
 | zero=>simp
 | succ k ih=>rw[List.replicate_succ,List.flatten_cons,List.length_append,ih,Nat.succ_mul,Nat.add_comm]
theorem pJ:OpR X (binaryOp .Mult) SU:=by
 intro pins s σ H x y v u Q I rx ry h
 obtain⟨l,k,xs,rfl,rfl,hH,h1,h2,hz,q⟩:=h
 cases rx
 obtain⟨t,rfl⟩:=ry
 obtain⟨z,its,n,r,hl,e⟩:=I.lstM hH
 have hlen:its.toArray.size * k.toNat<=sizeLine:=by rw[List.size_toArray,<-hl];exact hz
 have hcap:¬ its.toArray.size * k.toNat >(2 ^ 63 - 1) / 8:=by
  have:(sizeLine:Nat)<=(2 ^ 63 - 1) / 8:=by decide
  omega
 have hfit:¬ (!Builtin.List.listFitsIndex k)=true:=by
  rw[fitsIndex_both h1 h2]
  exact Bool.false_ne_true
 have hlong:¬ Builtin.List.listTooLong (its.toArray.size * k.toNat)=true:=by
  rw[SR hlen]
  exact Bool.false_ne_true
 have hnew:List.foldl (λx1 x2=>x1++x2) #[] (List.replicate (if its.toArray.isEmpty=true then 0 else k.toNat) its.toArray)=(List.replicate k.toNat its).flatten.toArray:=by
  have f0:∀ m:Nat,List.foldl (λx1 x2=>x1++x2) #[] (List.replicate m its.toArray)=(List.replicate m its).flatten.toArray:=λm=>by
   have:=QJ its m []
   rw[List.nil_append]at this
   exact this
  rw[f0]
  cases its with
  | nil=>simp
  | cons a r'=>rw[if_neg (by simp)]
 refine wpAny_binaryOp_repeat_ref (T:="list") (U:="int") (by decide) ⟨_,e,rfl⟩ (λs'=>typeIs_int s' k t) noFill_list_mul F.fills_int_mul F.slot_int_rmul repeat_list F.slot_int_index.lookup
  (call_meets F.slot_int_rmul (typeIs_int s k t) F.entry_int_rmul (F.args_int_rmul_2 _ _) (int___rmul___int_list k t l its.toArray n)
   ⟨e,rfl,⟨_,e,rfl⟩,call_meets F.slot_list_mul ⟨_,e,rfl⟩ F.entry_list_mul (F.args_list_mul_2 _ _) (AutoListH.list___mul___list_int_3 l its.toArray n k t hfit hcap hlong) ⟨e,?_⟩⟩)
 rw[hnew]
 exact⟨.ref _,_,I.lnew (t':=s.toks) (r.rep k.toNat) (by rw[YS,Nat.mul_comm];exact hz),rfl,q _ I.fresh⟩
end
section
variable{prog:Program}{w:World}{A:Around}{E:Value->Shared->Prop}{s:Shared}
set_option maxRecDepth 100000 in
end
section
variable{X:Cx}
end
end L2
namespace L2
section
variable{κ :Type}[DecidableEq κ]
def B0(kvs:List (κ × V))(k: κ):Option V:=(kvs.find? λkv=>decide (kv.1=k)).map (·.2)
def B7(kvs:List (κ × V))(k: κ)(v:V):List (κ × V) :=
 if(kvs.any λkv=>decide (kv.1=k))=true then kvs.map (λkv=>if kv.1=k then(kv.1,v)else kv)else kvs++[(k,v)]
def YT(kvs:List (κ × V))(k: κ):List (κ × V):=kvs.filter λkv=>decide (kv.1≠k)
theorem FZ{p: κ × V}{r:List (κ × V)}{k: κ}(e:p.1=k):B0 (p::r) k=some p.2:=by simp[B0,List.find?_cons,e]
theorem F5{p: κ × V}{r:List (κ × V)}{k: κ}(e:¬ p.1=k):B0 (p::r) k=B0 r k:=by simp[B0,List.find?_cons,e]
theorem K8(k: κ):∀ kvs:List (κ × V),(kvs.any λkv=>decide (kv.1=k))=(B0 kvs k).isSome
 | []=>rfl
 | p::r=>by
  rw[List.any_cons]
  by_cases e:p.1=k
  ·simp only[FZ e,decide_eq_true e,Bool.true_or,Option.isSome_some]
  ·rw[F5 e,decide_eq_false e,Bool.false_or];exact K8 k r
theorem YU(k j: κ)(y:V):∀ kvs:List (κ × V),B0 (kvs.map λkv=>if kv.1=k then(kv.1,y)else kv) j=(B0 kvs j).map λx=>if j=k then y else x
 | []=>rfl
 | p::r=>by
  have ih:=YU k j y r
  rw[List.map_cons]
  by_cases h:p.1=k
  ·rw[if_pos h]
   by_cases e:p.1=j
   ·rw[FZ (p:=(p.1,y)) e,FZ e,Option.map_some,if_pos (e.symm.trans h)]
   ·rw[F5 (p:=(p.1,y)) e,F5 e,ih]
  ·rw[if_neg h]
   by_cases e:p.1=j
   ·rw[FZ (p:=p) e,FZ e,Option.map_some,if_neg (λz=>h (e.trans z))]
   ·rw[F5 (p:=p) e,F5 e,ih]
theorem YV(k j: κ)(y:V):∀ kvs:List (κ × V),B0 kvs k=none->B0 (kvs++[(k,y)]) j=if j=k then some y else B0 kvs j
 | [],_=>by
  by_cases e:k=j
  ·rw[if_pos e.symm];exact FZ (p:=(k,y)) e
  ·rw[if_neg (λz=>e z.symm)];exact F5 (p:=(k,y)) e
 | p::r,hn=>by
  rw[List.cons_append]
  have hk:¬ p.1=k:=λz=>by rw[FZ z]at hn;cases hn
  rw[F5 hk]at hn
  have ih:=YV k j y r hn
  by_cases e:p.1=j
  ·rw[FZ e,FZ e,if_neg (λz=>hk (e.trans z))]
  ·rw[F5 e,F5 e,ih]
theorem QK(kvs:List (κ × V))(k j: κ)(y:V):B0 (B7 kvs k y) j=if j=k then some y else B0 kvs j:=by
 unfold B7
 by_cases a:(kvs.any λkv=>decide (kv.1=k))=true
 ·rw[if_pos a,YU]
  rw[K8]at a
  by_cases e:j=k
  ·obtain⟨x,hx⟩:=Option.isSome_iff_exists.mp a
   rw[if_pos e,e,hx,Option.map_some,if_pos rfl]
  ·rw[if_neg e]
   cases B0 kvs j with
   | none=>rfl
   | some x=>rw[Option.map_some,if_neg e]
 ·rw[if_neg a]
  refine YV k j y kvs ?_
  rw[K8]at a
  cases q:B0 kvs k with
  | none=>rfl
  | some x=>rw[q]at a;exact(a rfl).elim
theorem NL(kvs:List (κ × V))(k: κ)(v:V):(B7 kvs k v).length<=kvs.length+1:=by
 unfold B7
 split
 ·rw[List.length_map];omega
 ·rw[List.length_append,List.length_cons,List.length_nil];omega
theorem YW{kvs:List (κ × V)}{k: κ}(v:V)(h:B0 kvs k=none):B7 kvs k v=kvs++[(k,v)]:=by
 unfold B7
 rw[K8,h]
 exact if_neg (by decide)
theorem RelO.isSome_eq{o:Option V}{u:Option Value}(r:RelO o u):o.isSome=u.isSome:=by
 cases o with
 | none=>cases u with
  | none=>rfl
  | some _=>exact(show False from r).elim
 | some _=>cases u with
  | none=>exact(show False from r).elim
  | some _=>rfl
theorem RelO.getD{o:Option V}{u:Option Value}{d:V}{d':Value}(r:RelO o u)(rd:RelV d d'):RelV (o.getD d) (u.getD d'):=by
 cases o with
 | none=>cases u with
  | none=>exact rd
  | some _=>exact(show False from r).elim
 | some _=>cases u with
  | none=>exact(show False from r).elim
  | some _=>exact r
theorem KV.val{kvs:List (κ × V)}{vs:List (κ × Value)}(r:KV kvs vs)(k: κ):RelO (B0 kvs k) (valueAt vs k):=by
 unfold KV at r
 induction r with
 | nil=>exact True.intro
 | @cons p q ps qs h t ih =>
  obtain⟨h1,h2⟩:=h
  by_cases e:p.1=k
  ·have e':q.1=k:=h1.symm.trans e
   have b:valueAt (q::qs) k=some q.2:=by simp[valueAt,List.find?_cons,e']
   rw[FZ e,b];exact h2
  ·have e':¬ q.1=k:=λz=>e (h1.trans z)
   have b:valueAt (q::qs) k=valueAt qs k:=by simp[valueAt,List.find?_cons,e']
   rw[F5 e,b];exact ih
theorem KV.any{kvs:List (κ × V)}{vs:List (κ × Value)}(r:KV kvs vs)(k: κ):(kvs.any λkv=>decide (kv.1=k))=vs.any λkv=>decide (kv.1=k):=by
 unfold KV at r
 induction r with
 | nil=>rfl
 | cons h t ih=>rw[List.any_cons,List.any_cons,ih,h.1]
theorem KV.repl{kvs:List (κ × V)}{vs:List (κ × Value)}(r:KV kvs vs)(k: κ){y:V}{u:Value}(ry:RelV y u) :
  KV (kvs.map λkv=>if kv.1=k then(kv.1,y)else kv) (vs.map λkv=>if kv.1=k then(kv.1,u)else kv):=by
 unfold KV at r ⊢
 induction r with
 | nil=>exact .nil
 | @cons p q ps qs h t ih =>
  rw[List.map_cons,List.map_cons]
  refine .cons ?_ ih
  obtain⟨h1,h2⟩:=h
  by_cases e:p.1=k
  ·rw[if_pos e,if_pos (h1.symm.trans e)];exact⟨h1,ry⟩
  ·rw[if_neg e,if_neg (λz=>e (h1.trans z))];exact⟨h1,h2⟩
theorem KV.put{kvs:List (κ × V)}{vs:List (κ × Value)}(r:KV kvs vs)(k: κ){y:V}{u:Value}(ry:RelV y u):KV (B7 kvs k y) (stored vs k u):=by
 unfold B7 stored
 rw[r.any k]
 by_cases e:(vs.any λkv=>decide (kv.1=k))=true
 ·rw[if_pos e,if_pos e];exact r.repl k ry
 ·rw[if_neg e,if_neg e];exact Paired.snoc r ⟨rfl,ry⟩
theorem KV.drop{kvs:List (κ × V)}{vs:List (κ × Value)}(r:KV kvs vs)(k: κ):KV (YT kvs k) (without vs k):=by
 unfold KV at r ⊢
 unfold YT without
 induction r with
 | nil=>exact .nil
 | @cons p q ps qs h t ih =>
  obtain⟨h1,h2⟩:=h
  rw[List.filter_cons,List.filter_cons]
  by_cases e:p.1=k
  ·have a:¬ decide (p.1≠k)=true:=by simp[e]
   have b:¬ decide (q.1≠k)=true:=by simp[h1.symm.trans e]
   rw[if_neg a,if_neg b];exact ih
  ·have e':¬ q.1=k:=λz=>e (h1.trans z)
   have a:decide (p.1≠k)=true:=by simp[e]
   have b:decide (q.1≠k)=true:=by simp[e']
   rw[if_pos a,if_pos b];exact .cons ⟨h1,h2⟩ ih
theorem KV.keys{kvs:List (κ × V)}{vs:List (κ × Value)}(r:KV kvs vs):kvs.map (·.1)=vs.map (·.1):=by
 unfold KV at r
 induction r with
 | nil=>rfl
 | cons h t ih=>rw[List.map_cons,List.map_cons,ih,h.1]
theorem KV.length{kvs:List (κ × V)}{vs:List (κ × Value)}(r:KV kvs vs):kvs.length=vs.length:=Paired.length r
end
theorem QL{P:Program}{w:World}{k:AZ}{u:Value}(r:RelV (kV k) u):(DP P w).is k u=true:=by
 cases k with
 | inl i=>obtain⟨t,e⟩:=(show ∃ t,u=Value.int i t from r);subst e;exact mB P w i t
 | inr x=>obtain⟨t,e⟩:=(show ∃ t,u=Value.str x t from r);subst e;exact mC P w x t
theorem YX{P:Program}{w:World}:∀ {ks:List AZ} {us:List Value},Vals (ks.map kV) us->ItemsAre (DP P w) ks us
 | [],_,r=>by rw[List.map_nil]at r;cases r;exact .nil
 | k::ks,_,r=>by
  rw[List.map_cons]at r
  cases r with
  | cons h t=>exact .cons (QL h) (YX t)
abbrev KT(H:Hp):List (List AZ × V)->List (List AZ × Addr × Value)->Prop:=Paired λp q=>p.1=q.1/\H q.2.1=some (.tup (p.1.map kV))/\RelV p.2 q.2.2
theorem KT.val{H:Hp}{kvs:List (List AZ × V)}{xs:List (List AZ × Addr × Value)}(r:KT H kvs xs)(k:List AZ):RelO (B0 kvs k) ((atKey xs k).map (·.2)):=by
 induction r with
 | nil=>exact True.intro
 | @cons p q ps qs h t ih =>
  obtain⟨h1,_,h2⟩:=h
  by_cases e:p.1=k
  ·have e':q.1=k:=h1.symm.trans e
   have b:atKey (q::qs) k=some q.2:=by simp[atKey,List.find?_cons,e']
   rw[FZ e,b];exact h2
  ·have e':¬ q.1=k:=λz=>e (h1.trans z)
   have b:atKey (q::qs) k=atKey qs k:=by simp[atKey,List.find?_cons,e']
   rw[F5 e,b];exact ih
theorem KT.repl{H:Hp}{kvs:List (List AZ × V)}{xs:List (List AZ × Addr × Value)}(r:KT H kvs xs)(k:List AZ){y:V}{u:Value}(ry:RelV y u) :
  KT H (kvs.map λkv=>if kv.1=k then(kv.1,y)else kv) (xs.map (putAt k u)):=by
 induction r with
 | nil=>exact .nil
 | @cons p q ps qs h t ih =>
  rw[List.map_cons,List.map_cons]
  refine .cons ?_ ih
  obtain⟨h1,h2,h3⟩:=h
  unfold putAt
  by_cases e:p.1=k
  ·rw[if_pos e,if_pos (h1.symm.trans e)];exact⟨h1,h2,ry⟩
  ·rw[if_neg e,if_neg (λz=>e (h1.trans z))];exact⟨h1,h2,h3⟩
theorem KT.put{H:Hp}{kvs:List (List AZ × V)}{xs:List (List AZ × Addr × Value)}(r:KT H kvs xs)(k:List AZ){b:Addr}{y:V}{u:Value}(hb:H b=some (.tup (k.map kV)))(ry:RelV y u) :
  KT H (B7 kvs k y) (storedH xs k b u):=by
 have e:(kvs.any λkv=>decide (kv.1=k))=(atKey xs k).isSome:=by
  rw[K8,(r.val k).isSome_eq,Option.isSome_map]
 unfold B7 storedH
 rw[e]
 by_cases q:(atKey xs k).isSome=true
 ·rw[if_pos q,if_pos q];exact r.repl k ry
 ·rw[if_neg q,if_neg q];exact Paired.snoc r ⟨rfl,hb,ry⟩
theorem KT.keeps{H H':Hp}{kvs:List (List AZ × V)}{xs:List (List AZ × Addr × Value)}(r:KT H kvs xs)(ht:∀ b ys,H b=some (.tup ys)->H' b=some (.tup ys)):KT H' kvs xs :=
 Paired.mapP r λ_ _ z=>⟨z.1,ht _ _ z.2.1,z.2.2⟩
section
variable{P:Program}{w:World}{H:Hp}{h:Heap}{a:Addr}
theorem YY{u:HO}(ok:HOk P w H h)(e:Rd H a u):ObjOk P w H h a u:=e.ok ok
theorem QM{kvs:List (AZ × V)}(ok:HOk P w H h)(e:Rd H a (.dK kvs)):kvs.length<=sizeLine/\(a == sysModules)=false/\∃ vs,KV kvs vs/\h.DictOf (DP P w) a vs :=
 show ObjOk P w H h a (.dK kvs)from YY ok e
theorem pK{kvs:List (AZ × V)}(ok:HOk P w H h)(e:H a=some (.dK kvs)):kvs.length<=sizeLine/\(a == sysModules)=false/\∃ vs,KV kvs vs/\h.DictOf (DP P w) a vs:=QM ok (.inl e)
theorem NM{ks:List AZ}(ok:HOk P w H h)(e:H a=some (.tup (ks.map kV))):(tupleKind (DP P w)).is h ks a:=by
 obtain⟨_,its,r,o,h1,h2,n,h3⟩:=(show ObjOk P w H h a (.tup (ks.map kV))from ok a _ e)
 exact⟨o,its.toArray,n,h1,h2,h3,by simpa using YX r⟩
theorem QN{kvs:List (List AZ × V)}(ok:HOk P w H h)(e:Rd H a (.dT kvs)):kvs.length<=sizeLine/\(a == sysModules)=false ∧
  ∃ xs,KT H kvs xs/\h.DictOfH (tupleKind (DP P w)) a xs:=by
 obtain⟨z,y,xs,r,o,es,ep,h1,h2,h3,h4,h5⟩:=(show ObjOk P w H h a (.dT kvs)from YY ok e)
 refine⟨z,y,xs,r,o,es,ep,h1,h2,h3,h4,λx hx=> ?_,h5⟩
 have all:∀ {l:List (List AZ × V)} {m:List (List AZ × Addr × Value)},KT H l m->∀ x∈m,(tupleKind (DP P w)).is h x.1 x.2.1:=by
  intro l m q
  induction q with
  | nil=>intro x hx;exact nomatch hx
  | @cons p q ps qs hq t ih =>
   intro x hx
   rcases List.mem_cons.mp hx with e | hx
   ·subst e
    exact NM ok (by rw[<-hq.1];exact hq.2.1)
   ·exact ih x hx
 exact all r x hx
theorem QQ{kvs:List (List AZ × V)}(ok:HOk P w H h)(e:H a=some (.dT kvs)):kvs.length<=sizeLine/\(a == sysModules)=false ∧
  ∃ xs,KT H kvs xs/\h.DictOfH (tupleKind (DP P w)) a xs:=QN ok (.inl e)
end
def DGet(H:Hp)(a:Addr)(y:V)(r:Option V):Prop :=
 (∃ kvs k,Rd H a (.dK kvs)/\y=kV k/\r=B0 kvs k)\/∃ kvs k b,Rd H a (.dT kvs)/\y=.ref b/\H b=some (.tup (k.map kV))/\r=B0 kvs k
def DPut(H:Hp)(a:Addr)(y v:V)(H':Hp):Prop :=
 (∃ kvs k,H a=some (.dK kvs)/\y=kV k/\kvs.length<sizeLine/\H'=upd H a (.dK (B7 kvs k v))) ∨
 ∃ kvs k b,H a=some (.dT kvs)/\y=.ref b/\H b=some (.tup (k.map kV))/\kvs.length<sizeLine/\H'=upd H a (.dT (B7 kvs k v))
theorem DGet.k{H:Hp}{a:Addr}{kvs:List (AZ × V)}{k:AZ}(e:H a=some (.dK kvs)):DGet H a (kV k) (B0 kvs k):=.inl ⟨kvs,k,.inl e,rfl,rfl⟩
theorem DGet.t{H:Hp}{a b:Addr}{kvs:List (List AZ × V)}{k:List AZ}(e:H a=some (.dT kvs))(eb:H b=some (.tup (k.map kV))):DGet H a (.ref b) (B0 kvs k):=.inr ⟨kvs,k,b,.inl e,rfl,eb,rfl⟩
theorem DPut.k{H:Hp}{a:Addr}{kvs:List (AZ × V)}{k:AZ}{v:V}(e:H a=some (.dK kvs))(hl:kvs.length<sizeLine):DPut H a (kV k) v (upd H a (.dK (B7 kvs k v))):=.inl ⟨kvs,k,e,rfl,hl,rfl⟩
theorem DPut.t{H:Hp}{a b:Addr}{kvs:List (List AZ × V)}{k:List AZ}{v:V}(e:H a=some (.dT kvs))(eb:H b=some (.tup (k.map kV)))(hl:kvs.length<sizeLine) :
  DPut H a (.ref b) v (upd H a (.dT (B7 kvs k v))):=.inr ⟨kvs,k,b,e,rfl,eb,hl,rfl⟩
section
variable{X:Cx}{pins:List (Addr × Obj)}{σ:St}{H:Hp}{s:Shared}{a:Addr}{y v:V}{u r:Value}{o:Option V}{A:Around}{E:Value->Shared->Prop}
theorem Inv.big(I:Inv X pins σ H s):sysModules<s.heap.objs.size:=by
 have h:mainGlobals<s.heap.objs.size:=(I.mod.glob.keeps I.bk).lt
 exact Nat.lt_trans (by decide) h
theorem pL{Q:Value->Shared->Prop}(hu:A.units+1<cLine)(I:Inv X pins σ H s)(g:DGet H a y o)(ry:RelV y u)(h:∀ s',Inv X pins σ H s'->Q (.bool o.isSome) s') :
  wpAny (model X.prog X.w) A (compareOp .In u (.ref a)) Q E s:=by
 rcases g with⟨kvs,k,e,ey,l⟩ | ⟨kvs,k,b,e,ey,eb,l⟩
 ·subst ey
  obtain⟨z,hd,vs,rel,dd⟩:=QM I.hok e
  refine wpAny_in_of (QL ry) hd dd.mapOf ?_
  rw[<-(rel.val k).isSome_eq,<-l]
  exact h _ (I.tok _)
 ·subst ey
  cases (show u=Value.ref b from ry)
  obtain⟨z,hd,xs,rel,dd⟩:=QN I.hok e
  refine wpAny_in_heap (tupleKind_room_in1 hu) (NM I.hok eb) hd dd ?_
  have q:=(rel.val k).isSome_eq
  rw[Option.isSome_map]at q
  rw[<-q,<-l]
  exact h _ (I.tok _)
theorem QR{h':Heap}{t':Nat}{ob:HO}(I:Inv X pins σ H s)(mu:ND (H a))(hs:Heap.SameBut a s.heap h')(he:∃ q,h'.get? a=some q)(new:ObjOk X.prog X.w (upd H a ob) h' a ob) :
  Inv X pins σ (upd H a ob) { s with heap:=h',toks:=t' } :=
 I.write (x:=a) (e:=a) mu (.inl rfl) (λb q hb z=>(hs.2 b hb).trans z) he new
theorem pM{P:Program}{w:World}{H':Hp}{h':Heap}{kvs:List (AZ × V)}{vs:List (AZ × Value)}(z:kvs.length<=sizeLine)(hd:(a == sysModules)=false)(rel:KV kvs vs)(dd:h'.DictOf (DP P w) a vs) :
  ObjOk P w H' h' a (.dK kvs):=⟨z,hd,vs,rel,dd⟩
theorem pN{H':Hp}{Q:Unit->Shared->Prop}(hu:A.units+1<cLine)(I:Inv X pins σ H s)(g:DPut H a y v H')(ry:RelV y u)(rv:RelV v r)(h:∀ s',Inv X pins σ H' s'->Q () s') :
  wpAny (model X.prog X.w) A (setItem (.ref a) u r) Q E s:=by
 rcases g with⟨kvs,k,e,ey,l,eH⟩ | ⟨kvs,k,b,e,ey,eb,l,eH⟩
 ·subst ey eH
  obtain⟨z,hd,vs,rel,dd⟩:=pK I.hok e
  have hz:vs.length<=sizeLine:=by rw[<-rel.length];exact z
  have hl:(B7 kvs k v).length<=sizeLine:=by have:=NL kvs k v;omega
  refine wpAny_setItem_pairs (hsz:=hz) (QL ry) dd λh' dd' hs=>h _ ?_
  have he:∃ q,h'.get? a=some q:=let ⟨q,_,_,hq,_⟩:=dd';⟨q,hq⟩
  exact QR I (by rw[e];exact True.intro) hs he (pM hl hd (rel.put k rv) dd')
 ·subst ey eH
  cases (show u=Value.ref b from ry)
  obtain⟨z,hd,xs,rel,dd⟩:=QQ I.hok e
  have hz:xs.length<=sizeLine:=by rw[<-Paired.length rel];exact z
  have hl:(B7 kvs k v).length<=sizeLine:=by have:=NL kvs k v;omega
  refine wpAny_setItem_heap (hsz:=hz) (tupleKind_room_in1 hu) (NM I.hok eb) dd λh' dd' hs=>h _ ?_
  obtain⟨q,es,ep,hq,h2,h3,h4,_,h5⟩:=dd'
  refine QR I (by rw[e];exact True.intro) hs ⟨q,hq⟩ ⟨hl,hd,_,(rel.put k eb rv).keeps λc ys ec=> ?_,q,es,ep,hq,h2,h3,h4,h5⟩
  rw[AT (C5 ec e (λz=>nomatch z))]
  exact ec
end
section
variable{X:Cx}{pins:List (Addr × Obj)}{σ:St}{H:Hp}{s:Shared}{a:Addr}{kvs:List (AZ × V)}{k:AZ}{u:Value}{A:Around}{E:Value->Shared->Prop}
end
def pO(td ty:TE):TE:=λσ H Q=>td σ H λx H1=>ty σ H1 λy H2=>∃ a v,x=.ref a/\DGet H2 a y (some v)/\Q v H2
def SV(ty td:TE):TE:=λσ H Q=>ty σ H λy H1=>td σ H1 λx H2=>∃ a o,x=.ref a/\DGet H2 a y o/\Q (.bl o.isSome) H2
def pP(ty td:TE):TE:=λσ H Q=>ty σ H λy H1=>td σ H1 λx H2=>∃ a o,x=.ref a/\DGet H2 a y o/\Q (.bl (!o.isSome)) H2
def SW(td ty tv:TE):TS:=λD σ H=>tv σ H λv H1=>td σ H1 λx H2=>ty σ H2 λy H3=>∃ a H4,x=.ref a/\DPut H3 a y v H4/\D.nx σ H4
section
variable{X:Cx}{o i e value:Expr}{pos pos' tpos:Pos}{td ty tv:TE}
theorem pQ(hu:X.A.units+1<cLine)(hi:PE X i ty)(ho:PE X o td):PC X .In i o (SV ty td):=by
 intro pins s σ H Q I h
 refine AY (hi pins s σ H _ I h) λiv s1 ⟨y,H1,I1,ry,q1⟩=>AY (ho pins s1 σ H1 _ I1 q1) λu s2 ⟨x,H2,I2,rx,a,ov,ex,g,q2⟩=> ?_
 subst ex
 obtain rfl:u=Value.ref a:=rx
 exact pL hu I2 g ry λs3 I3=>⟨.bl ov.isSome,H2,I3,rfl,q2⟩
theorem pR(hu:X.A.units+1<cLine)(ho:PE X o td)(hi:PE X i ty)(hv:PE X value tv)(hs:swapsWith value (some (.Subscript o i pos')) pos.line X.env=pure false) :
  PS X (.Assign [.Subscript o i pos'] value pos) (SW td ty tv):=by
 intro pins s σ H D I h
 refine wpAny_Assign_Subscript (AY (hv pins s σ H _ I h) λr s1 ⟨v,H1,I1,rv,q1⟩=>AY (ho pins s1 σ H1 _ I1 q1) λu s2 ⟨x,H2,I2,rx,q2⟩=>AY (hi pins s2 σ H2 _ I2 q2) λiv s3 ⟨y,H3,I3,ry,a,H4,ex,g,q3⟩=> ?_) hs
 subst ex
 obtain rfl:u=Value.ref a:=rx
 exact pN hu I3 g ry rv λs4 I4=>⟨σ,H4,I4,q3⟩
end
theorem pT{P:Program}{w:World}{H:Hp}(h:Heap)(hb:sysModules<h.objs.size):ObjOk P w H (h.push { cls:=.type "dict",data:=.dict #[] }) h.objs.size (.dK []) :=
 ⟨Nat.zero_le _,beq_eq_false_iff_ne.mpr (Ne.symm (Nat.ne_of_lt hb)),[],.nil,Heap.DictOf.new h⟩
theorem YZ{P:Program}{w:World}{H:Hp}(h:Heap)(hb:sysModules<h.objs.size):ObjOk P w H (h.push { cls:=.type "dict",data:=.dict #[] }) h.objs.size (.dT []) :=
 ⟨Nat.zero_le _,beq_eq_false_iff_ne.mpr (Ne.symm (Nat.ne_of_lt hb)),[],.nil,_,#[],0,Heap.get?_push_size _ rfl,⟨rfl,rfl,rfl⟩,rfl,rfl,List.nodup_nil⟩
def SX:TE:=λ_ H Q=>∀ p,H p=none->Q (.ref p) (upd H p (.dK []))
def SY:TE:=λ_ H Q=>∀ p,H p=none->Q (.ref p) (upd H p (.dT []))
section
variable{X:Cx}{pos:Pos}
theorem pU:PE X (.Dict [] [] pos) SX:=λpins s σ H Q I h =>
 wpAny_Dict_empty ⟨.ref s.heap.objs.size,_,I.laid (a:=s.heap.objs.size) (o:=.dK []) (t':=s.toks) (λ_ _ q=>Heap.get?_push_of_some _ q) (Nat.le_refl _) (pT s.heap I.big),rfl,h _ (I.hok.fresh (Nat.le_refl _))⟩
theorem pV:PE X (.Dict [] [] pos) SY:=λpins s σ H Q I h =>
 wpAny_Dict_empty ⟨.ref s.heap.objs.size,_,I.laid (a:=s.heap.objs.size) (o:=.dT []) (t':=s.toks) (λ_ _ q=>Heap.get?_push_of_some _ q) (Nat.le_refl _) (YZ s.heap I.big),rfl,h _ (I.hok.fresh (Nat.le_refl _))⟩
end
def JM:List (TE × TE)->St->Hp->(List (V × V)->Hp->Prop)->Prop
 | [],_,H,Q=>Q [] H
 | (tk,tv)::r,σ,H,Q=>tk σ H λx H1=>tv σ H1 λy H2=>JM r σ H2 λps H3=>Q ((x,y)::ps) H3
abbrev VV:List (V × V)->List (Value × Value)->Prop:=Paired λp q=>RelV p.1 q.1/\RelV p.2 q.2
def QS(X:Cx)(pos:Pos)(keys:List (Option Expr))(values:List Expr)(trs:List (TE × TE)):Prop :=
 ∀ (pins:List (Addr × Obj)) (s:Shared) (σ:St) (H:Hp) (Q:List (V × V)->Hp->Prop),Inv X pins σ H s->JM trs σ H Q →
  wpAny (model X.prog X.w) X.A (evalPairs (pairTrees keys values X.env pos)) (λvs s'=>∃ ps H',Inv X pins σ H' s'/\VV ps vs/\Q ps H') X.xe s
theorem QW{X:Cx}{pos:Pos}:QS X pos [] [] []:=λpins s σ H Q I h=>pairTrees_nil_walk ⟨[],H,I,.nil,h⟩
theorem NN{X:Cx}{pos:Pos}{k v:Expr}{ks:List (Option Expr)}{vs:List Expr}{tk tv:TE}{trs:List (TE × TE)}(hk:PE X k tk)(hv:PE X v tv)(hr:QS X pos ks vs trs) :
  QS X pos (some k::ks) (v::vs) ((tk,tv)::trs):=λpins s σ H Q I h =>
 pairTrees_cons_walk (AY (hk pins s σ H _ I h) λu s1 ⟨x,H1,I1,rx,q1⟩=>AY (hv pins s1 σ H1 _ I1 q1) λw2 s2 ⟨y,H2,I2,ry,q2⟩ =>
  AY (hr pins s2 σ H2 _ I2 q2) λws s3 ⟨ps,H3,I3,rel,q3⟩=>⟨(x,y)::ps,H3,I3,.cons ⟨rx,ry⟩ rel,q3⟩)
def pW(kvs more:List (AZ × V)):List (AZ × V):=more.foldl (λacc kv=>B7 acc kv.1 kv.2) kvs
theorem KV.merge:∀ {more:List (AZ × V)} {rs:List (AZ × Value)} {kvs:List (AZ × V)} {vs:List (AZ × Value)},KV more rs->KV kvs vs->KV (pW kvs more) (merged vs rs):=by
 intro more rs kvs vs r
 unfold KV at r
 induction r generalizing kvs vs with
 | nil=>intro q;exact q
 | @cons p q ps qs h t ih =>
  intro r0
  have e:KV (B7 kvs p.1 p.2) (stored vs q.1 q.2):=by
   have:=r0.put p.1 h.2
   rw[<-h.1];exact this
  exact ih e
structure M1(X:Cx)(o:Expr)(m:Str)(apos:Pos)(e:Expr)(cpos:Pos):Prop where
 base:attributeBase o m X.env (eval o X.env)=eval o X.env
 few:((backTo cpos (starEach [e] X.env)).all (λx=> !x.1) && (backToKw cpos (keywordEach [] X.env)).all (λx=>x.1.isSome)
  && decide (([e]:List Expr).length+([]:List Keyword).length+(if([]:List Keyword).isEmpty then 0 else 1)<30))=true
 line:(apos.endLine == cpos.line)=true
 trees:backTo cpos (starEach [e] X.env)=[(false,eval e X.env)]
structure M2(X:Cx)(o:Expr)(m:Str)(apos:Pos)(e f:Expr)(cpos:Pos):Prop where
 base:attributeBase o m X.env (eval o X.env)=eval o X.env
 few:((backTo cpos (starEach [e,f] X.env)).all (λx=> !x.1) && (backToKw cpos (keywordEach [] X.env)).all (λx=>x.1.isSome)
  && decide (([e,f]:List Expr).length+([]:List Keyword).length+(if([]:List Keyword).isEmpty then 0 else 1)<30))=true
 line:(apos.endLine == cpos.line)=true
 trees:backTo cpos (starEach [e,f] X.env)=[(false,eval e X.env),(false,eval f X.env)]
def NO(H:Hp)(a:Addr):Prop:=(∃ kvs,Rd H a (.dK kvs))\/∃ kvs,Rd H a (.dT kvs)
theorem pX{X:Cx}{pins:List (Addr × Obj)}{σ:St}{H:Hp}{s:Shared}{a:Addr}(I:Inv X pins σ H s)(d:NO H a) :
  s.TypeIs (.ref a) "dict"/\(∀ b,Value.ref a=.ref b->∃ ob,s.heap.get? b=some ob/\ob.dict=none)/\(a == sysModules)=false:=by
 rcases d with⟨kvs,e⟩ | ⟨kvs,e⟩
 ·obtain⟨_,hd,vs,_,dd⟩:=QM I.hok e
  refine⟨dd.typeIs,λb q=> ?_,hd⟩
  cases q
  obtain⟨ob,_,_,h1,h2,_⟩:=dd
  exact⟨ob,h1,h2.2.1⟩
 ·obtain⟨_,hd,xs,_,dd⟩:=QN I.hok e
  refine⟨dd.typeIs,λb q=> ?_,hd⟩
  cases q
  obtain⟨ob,_,_,h1,h2,_⟩:=dd
  exact⟨ob,h1,h2.2.1⟩
section
variable{X:Cx}{pins:List (Addr × Obj)}{σ:St}{H:Hp}{s:Shared}{a:Addr}{y d:V}{u r:Value}{o:Option V}{A:Around}{E:Value->Shared->Prop}
theorem pY{Q:Value->Shared->Prop}(hu:A.units+1<cLine)(I:Inv X pins σ H s)(g:DGet H a y o)(ry:RelV y u)(rd:RelV d r)(h:∀ w' s',Inv X pins σ H s'->RelV (o.getD d) w'->Q w' s') :
  wpAny (model X.prog X.w) A (call (.builtin "dict.get") [.ref a,u,r]) Q E s:=by
 rcases g with⟨kvs,k,e,ey,l⟩ | ⟨kvs,k,b,e,ey,eb,l⟩
 ·subst ey
  obtain⟨z,hd,vs,rel,dd⟩:=QM I.hok e
  refine call_meetsIn PySem.F.slot_dict_get dd.typeIs PySem.F.entry_dict_get (PySem.F.args_dict_get_3 _ _ _) (meets_dict_get_default (DP X.prog X.w) a (QL ry) hd r) ⟨_,dd.mapOf,h _ _ (I.tok _) ?_⟩
  rw[l]
  exact(rel.val k).getD rd
 ·subst ey
  cases (show u=Value.ref b from ry)
  obtain⟨z,hd,xs,rel,dd⟩:=QN I.hok e
  refine call_meetsIn PySem.F.slot_dict_get dd.typeIs PySem.F.entry_dict_get (PySem.F.args_dict_get_3 _ _ _) (meetsH_dict_get_default (tupleKind (DP X.prog X.w)) a b hd r) ⟨tupleKind_room_in1 hu,k,xs,NM I.hok eb,dd,h _ _ (I.tok _) ?_⟩
  rw[l]
  exact(rel.val k).getD rd
end
def pZ(td ty:TE):TE:=λσ H Q=>td σ H λx H1=>∃ a,x=.ref a/\NO H1 a/\ty σ H1 λy H2=>∃ o,DGet H2 a y o/\Q (o.getD .non) H2
def SZ(td ty tx:TE):TE:=λσ H Q=>td σ H λx H1=>∃ a,x=.ref a/\NO H1 a/\ty σ H1 λy H2=>tx σ H2 λz H3=>∃ o,DGet H3 a y o/\Q (o.getD z) H3
section
variable{X:Cx}{o e f:Expr}{apos cpos:Pos}{td ty tx:TE}
theorem p0(hu:X.A.units+1<cLine)(ho:PE X o td)(he:PE X e ty)(hf:PE X f tx)(m:M2 X o "get" apos e f cpos):PE X (.Call (.Attribute o "get" apos) [e,f] [] cpos) (SZ td ty tx):=by
 intro pins s σ H Q I h
 refine wpAny_Call_method m.base m.few m.line PySem.F.plainAttrs_dict PySem.F.slot_dict_get PySem.F.type_dict_get (AY (ho pins s σ H _ I h) λu s1 ⟨x,H1,I1,rx,a,ex,d,q1⟩=> ?_)
 subst ex
 obtain rfl:u=Value.ref a:=rx
 obtain⟨t1,t2,_⟩:=pX I1 d
 refine⟨t1,t2,?_⟩
 rw[m.trees]
 refine Calls.callWith_builtin rfl (Calls.evalArgs_plain (Calls.spliced_cons (AY (he pins s1 σ H1 _ I1 q1) λiv s2 ⟨y,H2,I2,ry,q2⟩ =>
  Calls.spliced_cons (AY (hf pins s2 σ H2 _ I2 q2) λfv s3 ⟨z,H3,I3,rz,ov,g,q3⟩=>Calls.spliced_nil ?_))))
 exact pY hu I3 g ry rz λw' s4 I4 rw'=>⟨_,H3,I4,rw',q3⟩
end
section
variable{X:Cx}{pins:List (Addr × Obj)}{σ:St}{H:Hp}{s:Shared}{a:Addr}{kvs:List (AZ × V)}{A:Around}{E:Value->Shared->Prop}
end
section
variable{X:Cx}{pins:List (Addr × Obj)}{σ:St}{H:Hp}{s:Shared}{a:Addr}{y:V}{u:Value}{A:Around}{E:Value->Shared->Prop}
end
end L2
namespace Att
open PySem PySem.W PySem.Calls PyProof.Rows
theorem p4{P:Params}{h:Heap}:∀ (ns:List Int) (vs:List Value),WellAll P h vs (ns.map WData.int)->IntsAre vs ns:=by
 intro ns
 induction ns with
 | nil =>
  intro vs w
  rw[List.map_nil]at w
  cases w
  exact .nil
 | cons n ns ih =>
  intro vs w
  rw[List.map_cons]at w
  cases w with
  | cons a b =>
   cases a
   exact .cons _ _ (ih _ b)
theorem p5{l:OpenLaw}{n:Nat}(hn:l.most=some n){P:Params}{h:Heap}{args:List WData}{vals:List Value}
  (hpre:l.row.toRowW.claim.pre args=true) (hwl:WellAll P h vals args) :
  ∃ a vs ns,vals=[Value.ref a]/\args=[WData.list (ns.map WData.int)]/\h.get? a=some { cls:=.type "list",data:=.seq vs.toArray }/\IntsAre vs ns/\ns.length<=n:=by
 have hsh:WShape.hasAll [] args [.list .int]=true:=(pre_splitW hpre).1
 have hc:l.pre.holds [] { args:=args }=true:=(pre_splitW hpre).2
 obtain⟨d,r,rfl,h1,h2⟩:=hasAllW_cons hsh
 obtain rfl:=hasAllW_nil h2
 obtain⟨xs,rfl,h3⟩:=hasW_list h1
 obtain⟨ns,rfl⟩:=items_int h3
 have hlen:ns.length<=n:=by
  unfold OpenLaw.pre at hc
  have h4:(WTm.not (.lt (.lit (.int (n:Int))) (.len (.arg 0)))).holds [] { args:=[.list (ns.map .int)] }=true:=by
   have h4:=(holds_andW hc).1
   rw[hn]at h4
   exact h4
  have h5:=condW_of h4 (w_not (w_lt w_lit (w_len_list (w_arg rfl))))
  rw[List.length_map]at h5
  refine Nat.le_of_not_lt λq=> ?_
  have q':(n:Int)<((ns.length:Nat):Int):=by omega
  first
   | (rw[decide_eq_true q']at h5;exact absurd h5 (by decide))
   | (simp at h5;omega)
 cases hwl with
 | cons w1 w2 =>
  cases w2
  cases w1 with
  | list ho hall=>exact⟨_,_,ns,rfl,rfl,ho,p4 ns _ hall,hlen⟩
theorem p6(l:OpenLaw)(args:List WData):l.row.toRowW.claim.post args (.bool true) args=true :=
 postW_of (r:=l.row.toRowW) (X:=(true == true))
  (show WShape.has [] (.bool true) .bool=true by first | rfl | decide | simp[WShape.has,WShape.arms,WShape.armsAll])
  (show(WTm.eq .res (.lit (.bool true))).value [] { args:=args,res:=some (.bool true),after:=args }=some (.bool (true == true))from w_eq_bool (w_res rfl) w_lit) rfl
theorem attach_call{l:OpenLaw}{n:Nat}{q:Program}{loose:List Str}{XP:(Str->Option Value)->Heap->Prop}{YP:World->Heap->Prop}{d:DefRec}
  (hn:l.most=some n) (hdf:d.params.defaults=[])
  (call:∀ (w:World) (s₀ s₁:Shared) (mg mb:Str->Option Value) (fa:Addr) (o:Obj) (pm cd doc:Value) (a:Addr) (vs:List Value) (ns:List Int),
   Ground q loose [] XP w s₀ mg mb s₁.heap->YP w s₁.heap →
   s₁.heap.get? fa=some o->o.data=.func (docDef d.name d.params d.body d.scope pm cd doc)->s₁.heap.CodeRec cd d.name->mg d.name=some (.ref fa) →
   s₁.heap.get? a=some { cls:=.type "list",data:=.seq vs.toArray }->IntsAre vs ns->ns.length<=n->s₁.gens= #[] →
   codeAny (model l.prog w) callerA (.call (.ref fa) ⟨[.ref a],[]⟩) (λr s'=>r=.ok (.ret (.bool true))/\OldK s₁.heap s'.heap/\s'.os=s₁.os/\AllBare s'.gens) s₁) :
  WalkO q loose XP YP l.row.toRowW d [] (λf vs=>PySem.call f vs):=by
 intro w s₀ s₁ mg mb G Y fa o pm cd doc dV kV ho hd hcd hD hmg hg args vals as hpre hlay hrd hwl hlo
 obtain rfl:dV=.none:=Dflts.none hD hdf
 obtain rfl:kV=.none:=Dflts.noKw hD
 obtain⟨a,vs,ns,rfl,rfl,hobj,hints,hlen⟩:=p5 hn hpre hwl
 refine enter_call (codeAny_mono (call w s₀ s₁ mg mb fa o pm cd doc a vs ns G Y ho (fd_plain hd) hcd hmg hobj hints hlen hg) λr s' hq=> ?_)
 obtain⟨rfl,h2,h3,h4⟩:=hq
 exact⟨.inl ⟨.bool true,.bool true,[],rfl,λ_=>rfl,.bool true,p6 l _,λ_=>⟨List.Pairwise.nil,λ_ hm=>(nomatch hm)⟩⟩,h2,h3,h4⟩
section
variable{prog:Program}{w:World}{A:Around}{E:Value->Shared->Prop}{s:Shared}{K:Frag}
def zdm(h:Heap)(L d:Addr):List (Addr × Obj):=(List.range h.objs.size).filterMap λa=>if a=L\/a=d then none else(h.get? a).map λo=>(a,o)
end
end Att
namespace L2
theorem S0:∀ {vs:List Value} {ns:List Int},IntsAre vs ns->Vals (ns.map V.int) vs
 | _,_,.nil=>.nil
 | _,_,.cons n t h=>.cons ⟨t,rfl⟩ (S0 h)
def S1(H:Hp):Prop:=∀ b,H b=none\/∃ o xs,H b=some (.frz o (.lst xs))
theorem p7 {P:Program} {w:World} {K:W.Frag} {mg mb:Str->Option Value} {CX:EX} {k:Nat} {fa a:Addr} {fd:FuncData} {x:Str} {sp:Sp} {s₁:Shared} {vs:List Value} {ns:List Int}
    (KX:K.In s₁.heap) (hns:s₁.heap.Ns mainGlobals mg) (hb:s₁.heap.Ns builtinsNs mb) (hbb:∀ x:Str,x≠"__name__"->mb x=bootBuiltins x) (hlim:s₁.heap.NoLimit) (hg:s₁.gens= #[])
    (ha:s₁.heap.get? a=some { cls:=.type "list",data:=.seq vs.toArray }) (hi:IntsAre vs ns) (hl:ns.length<=sizeLine) (hr:Room k callerA)
    (F:∀ base:Heap,K.In base->base.Ns mainGlobals mg->FnOk P w K mg base CX k fa fd [x] sp) (hbind:∀ (s:Shared) (u:Value),BindsTo s fd ⟨[u],[]⟩ [(x,u)])
    (hsp:∀ H:Hp,S1 H->SqL K H a (ns.map V.int)->sp [.ref a] H (λv _=>v=.bl true) λ_ _ _=>False)
    (hCX:∀ H e s',CX [] H s₁ (λ_ _ _=>False) e s'->False) :
    codeAny (model P w) callerA (.call (.ref fa) ⟨[.ref a],[]⟩) (λr s'=>r=.ok (.ret (.bool true))/\OldK s₁.heap s'.heap/\s'.os=s₁.os/\AllBare s'.gens) s₁:=by
  have rv:=S0 hi
  have lenV:=hi.length
  have core:∀ H:Hp,S1 H->SqL K H a (ns.map V.int)->HOk P w H s₁.heap->(∀ b,H b≠none->b=a)->(H a≠none->K.lookup a=none) →
      codeAny (model P w) callerA (.call (.ref fa) ⟨[.ref a],[]⟩) (λr s'=>r=.ok (.ret (.bool true))/\OldK s₁.heap s'.heap/\s'.os=s₁.os/\AllBare s'.gens) s₁:=by
    intro H hO hS hok hA hK
    have base_of:∀ {b:Addr} {o:Obj},s₁.heap.get? b=some o->H b=none->(HD s₁.heap H).get? b=some o:=λe n=>mE e n
    have noA:∀ {b:Addr} {o:Obj} {es:Array DictEntry} {ep:Nat},s₁.heap.get? b=some o->o.data=.dict es ep->H b=none:=λ{b o es ep} e d=>by
      cases q:H b with
      | none=>rfl
      | some u =>
        have e':b=a:=hA b (by rw[q];simp)
        subst e'
        rw[ha]at e;cases e
        have d':Data.seq vs.toArray _=Data.dict es ep:=d
        cases d'
    have nsK:∀ {b:Addr} {m:Str->Option Value},s₁.heap.Ns b m->(HD s₁.heap H).Ns b m:=λ{b m} ⟨o,es,ep,e,d,r⟩=>⟨o,es,ep,base_of e (noA e d),d,r⟩
    have hKb:K.In (HD s₁.heap H):=λb o e=>base_of (KX b o e) (by
      cases q:H b with
      | none=>rfl
      | some u =>
        have e':b=a:=hA b (by rw[q];simp)
        subst e'
        rw[hK (by rw[q];simp)]at e;cases e)
    have hM:Mod K mg (HD s₁.heap H):=⟨hKb,nsK hns,⟨mb,nsK hb,hbb⟩,let ⟨mc,h1,h2⟩:=hlim;⟨mc,nsK h1,h2⟩⟩
    have e0:Env0 P w K mg (HD s₁.heap H) callerA [] s₁ H:=⟨rfl,hM,λb o e=>mF e,Nat.le_of_eq (mD _ _),trivial,λb hb=>absurd (show b∈([]:List Addr)from hb) (by simp),hok,.of_eq hg⟩
    refine codeAny_mono ((F _ hKb (nsK hns)).run callerA [] s₁ H ⟨[.ref a],[]⟩ [.ref a] [.ref a] _ _ hr e0 (hbind s₁ (.ref a)) (.cons rfl .nil) (hsp H hO hS)) λr s' h=> ?_
    cases r with
    | error e=>exact(hCX H e s' h).elim
    | ok fl =>
      cases fl with
      | next=>exact False.elim h
      | brk=>exact False.elim h
      | cont=>exact False.elim h
      | ret u =>
        obtain⟨v,H',os,bare,un,hok',r',q⟩:=h
        have q':v=.bl true:=q
        subst q'
        obtain rfl:u=Value.bool true:=r'
        refine⟨rfl,OldK.of_keep λb o e=> ?_,os,bare⟩
        cases q:H b with
        | none=>exact un.keep b o e q (by intro z;exact absurd (show b∈([]:List Addr)from z) (by simp)) (by simp)
        | some u =>
          rcases hO b with z | ⟨ob,xs,z⟩
          ·rw[q]at z;cases z
          · have z2:=un.frzs b ob _ z
            obtain⟨e1,_⟩:=hok b _ z
            obtain⟨e2,_⟩:=hok' b _ z2
            rw[e]at e1;cases e1
            exact e2
  cases hk:K.lookup a with
  | some o =>
    have e:=KX a o hk
    rw[ha]at e
    cases e
    refine core (λ_=>none) (λ_=>.inl rfl) (.inr ⟨_,vs.toArray,_,hk,rfl,rfl,rfl,by rw[List.size_toArray,lenV];exact hl,by simpa using rv⟩) (λb u z=>by have z':(none:Option HO)=some u:=z;cases z') (λb z=>absurd rfl z) λz=>absurd rfl z
  | none =>
    refine core (λb=>if b=a then some (.frz { cls:=.type "list",data:=.seq vs.toArray } (.lst (ns.map V.int)))else none) (λb=> ?_) (.inl (.inr ⟨{ cls:=.type "list",data:=.seq vs.toArray },if_pos rfl⟩)) (λb u z=> ?_) (λb z=> ?_) λ_=>hk
    · by_cases hb:b=a
      ·exact .inr ⟨_,_,if_pos hb⟩
      ·exact .inl (if_neg hb)
    · by_cases hb:b=a
      · have z':=(if_pos hb).symm.trans z
        cases z'
        subst hb
        exact⟨ha,by rw[List.length_map];exact hl,vs,_,rv,ha⟩
      · have z':=(if_neg hb).symm.trans z
        cases z'
    · by_cases hb:b=a
      ·exact hb
      ·exact absurd (if_neg hb) z
end L2
namespace L2
abbrev KOf{K:W.Frag}{h:Heap}(_:K.In h):W.Frag:=K
theorem walk_of{l:W.OpenLaw}{n k:Nat}{q:Program}{loose:List Str}{XP:(Str->Option Value)->Heap->Prop}{YP:World->Heap->Prop}{d:DefRec}{K:Params->W.Frag}{CX:World->EX}{sp:World->Sp}{x:Str}
  (hn:l.most=some n) (hn2:n<=sizeLine) (hdf:d.params.defaults=[]) (hr:Room k callerA)
  (hY:∀ (w:World) (h:Heap),YP w h->(K w.params).In h)
  (F:∀ (w:World) (mg:Str->Option Value) (fa:Addr) (h:Heap),(K w.params).In h->h.Ns mainGlobals mg->mg d.name=some (.ref fa) →
   ∃ fd:FuncData,(∀ (s:Shared) (u:Value),BindsTo s fd ⟨[u],[]⟩ [(x,u)]) ∧
    ∀ base:Heap,(K w.params).In base->base.Ns mainGlobals mg->FnOk l.prog w (K w.params) mg base (CX w) k fa fd [x] (sp w))
  (hsp:∀ (w:World) (H:Hp) (a:Addr) (ns:List Int),ns.length<=n->S1 H->SqL (K w.params) H a (ns.map V.int)->sp w [.ref a] H (λv _=>v=.bl true) λ_ _ _=>False)
  (hCX:∀ (w:World) (H:Hp) (s:Shared) (e:Value) (s':Shared),CX w [] H s (λ_ _ _=>False) e s'->False) :
  W.WalkO q loose XP YP l.row.toRowW d [] (λf vs=>PySem.call f vs):=by
 refine Att.attach_call hn hdf λw s₀ s₁ mg mb fa o pm cd doc a vs ns G Y ho hd hcd hmg hobj hints hlen hg=> ?_
 have KX:=hY w _ Y
 obtain⟨fd,hb,hF⟩:=F w mg fa _ KX G.T.g hmg
 exact p7 KX G.T.g G.T.b G.T.builtins G.T.nolimit hg hobj hints (Nat.le_trans hlen hn2) hr hF hb (λH hO hS=>hsp w H a ns hlen hO hS) λH e s'=>hCX w H s₁ e s'
end L2
namespace L2
def DS(s:Stmt)(j:Nat):Stmt:=match s with
 | .ClassDef _ _ _ body _ _ _ _ _ _ _=>body.getD j (.Pass ⟨0,0,0,0⟩)
 | _=>.Pass ⟨0,0,0,0⟩
def BB(s:Stmt):Arguments:=match s with
 | .FunctionDef _ a _ _ _ _ _ _ _ _=>a
 | _=>{ posonlyargs:=[],args:=[],vararg:=none,kwonlyargs:=[],kw_defaults:=[],kwarg:=none,defaults:=[] }
def A6(s:Stmt):List Stmt:=match s with
 | .FunctionDef _ _ b _ _ _ _ _ _ _=>b
 | _=>[]
def AM(s:Stmt):Scope:=match s with
 | .FunctionDef _ _ _ _ _ _ sc _ _ _=>sc
 | _=>{ kind:=.function,names:=[],isGenerator:=false,isCoroutine:=false }
abbrev Y0:EX:=λ_ _ _ _ _ _=>False
abbrev E0:XK:=λ_ _ _=>False
structure Fun(K:W.Frag)(x qual:Str)(st:Stmt)(f:Addr)(fd:FuncData):Prop where
 ex:∃ (oc:Value) (od:Option Addr) (kV doc pm:Value) (an:Option Addr) (cdv ct:Value) (osl:Array (Option Value)),
  fd=W.fnOf x qual (BB st) (A6 st) (AM st) .none kV doc pm an cdv ct/\K.lookup f=some ⟨oc,od,.func fd,osl⟩/\W.codeIn K cdv qual=true
 kp:W.keepIn K (.ref f)=true
section
variable{P:Program}{w:World}{K:W.Frag}{mg:Str->Option Value}{base:Heap}
theorem Fun.ok{x qual:Str}{st:Stmt}{f:Addr}{fd:FuncData}{N ps:List Str}{k:Nat}{sp:Sp}(F:Fun K x qual st f fd)(S:FnScope N ps (AM st))(len:∀ vs H Q E,sp vs H Q E->vs.length=ps.length)
  (hbody:∀ (cdv:Value) (A:Around) (outer:List Env) (s:Shared) (H:Hp) (vs:List V) (Q:VK) (E:XK),Room k (A.deeper (envOfC qual (AM st) s.heap.objs.size f cdv))->sp vs H Q E →
   ∃ t,PSs (GW Y0 P w K mg base N qual (AM st) f cdv A outer s H E).nox (A6 st) t/\t { nx:=λ_ H'=>Q .non H',rt:=Q } (A1 N vs) H):FnOk P w K mg base Y0 (k+1) f fd ps sp:=by
 obtain⟨oc,od,kV,doc,pm,an,cdv,ct,osl,rfl,lk,hcd⟩:=F.ex
 refine YB lk hcd S len λA outer s H vs Q E hr hsp=> ?_
 obtain⟨t,h,q⟩:=hbody cdv A outer s H vs Q E hr hsp
 exact⟨t,h.nox,q⟩
theorem Fun.binds{x qual:Str}{st:Stmt}{f:Addr}{fd:FuncData}{ps:List Str}(F:Fun K x qual st f fd)
  (h:∀ (kV doc pm:Value) (an:Option Addr) (cdv ct:Value) (us:List Value),us.length=ps.length->bindArgs (W.fnOf x qual (BB st) (A6 st) (AM st) .none kV doc pm an cdv ct) ⟨us,[]⟩=pure (ps.zip us)):Binds K fd ps []:=by
 obtain⟨oc,od,kV,doc,pm,an,cdv,ct,osl,rfl,lk,hcd⟩:=F.ex
 exact .all (h kV doc pm an cdv ct)
theorem BG{x qual:Str}{st:Stmt}{f:Addr}{oc:Value}{od an:Option Addr}{osl:Array (Option Value)}{kV doc pm cdv ct:Value}(l:K.lookup f=some ⟨oc,od,.func (W.fnOf x qual (BB st) (A6 st) (AM st) .none kV doc pm an cdv ct),osl⟩)
  (c:W.codeIn K cdv qual=true) (k:W.keepIn K (.ref f)=true):Fun K x qual st f (W.fnOf x qual (BB st) (A6 st) (AM st) .none kV doc pm an cdv ct):=⟨⟨oc,od,kV,doc,pm,an,cdv,ct,osl,rfl,l,c⟩,k⟩
end
theorem IC{A:Around}{k:Nat}(hr:Room k A):A.units+1<cLine:=Nat.lt_of_le_of_lt (Nat.add_le_add_left (by decide:1<=64) _) hr.units
section
variable{X:Cx}
theorem pv(i:Nat){x:Str}{pos:Pos}(hN:X.N[i]? =some x:=by rfl)(hv:PP X.env.scope x:=by first | exact Or.inl rfl | exact Or.inr (Or.inl rfl) | exact Or.inr (Or.inr rfl))(hd:(x ==("__debug__":Str))=false:=by decide)
  (hcd:(x ==("__classdict__":Str))=false:=by decide):PE X (.Name x pos) (PQ i):=XN hN hv hd hcd
end
def Same(H H':Hp):Prop:=∀ b o,H b=some o->H' b=some o
theorem Same.refl(H:Hp):Same H H:=λ_ _ h=>h
theorem Same.trans{H H1 H2:Hp}(a:Same H H1)(b:Same H1 H2):Same H H2:=λc o h=>b c o (a c o h)
theorem Same.free{H H':Hp}(e:Same H H'){l:Addr}(h:H' l=Option.none):H l=Option.none:=by
 cases q:H l with
 | none=>rfl
 | some o =>
  rw[e l o q]at h
  cases h
theorem Same.seq{K:W.Frag}{H H':Hp}{a:Addr}{xs:List V}(e:Same H H')(h:SqL K H a xs):SqL K H' a xs:=by
 rcases h with(h | ⟨o,h⟩) | h
 ·exact .inl (.inl (e _ _ h))
 ·exact .inl (.inr ⟨o,e _ _ h⟩)
 ·exact .inr h
section
variable{κ :Type}[DecidableEq κ]
theorem p8{kvs:List (κ × V)}{k: κ}(h:B0 kvs k=none):¬ k∈kvs.map (·.1):=by
 intro m
 obtain⟨p,hp,e⟩:=List.mem_map.mp m
 have q:(kvs.any λkv=>decide (kv.1=k))=true:=List.any_eq_true.mpr ⟨p,hp,decide_eq_true e⟩
 rw[K8,h]at q
 exact absurd q (by simp)
theorem Y1:∀ {l:List κ} {k: κ},l.Nodup->¬ k∈l->(l++[k]).Nodup
 | [],k,_,_=>by simp
 | a::r,k,h,hk=>by
  obtain⟨h1,h2⟩:=List.nodup_cons.mp h
  show(a::(r++[k])).Nodup
  refine List.nodup_cons.mpr ⟨λm=> ?_,Y1 h2 λm=>hk (List.mem_cons.mpr (Or.inr m))⟩
  rcases List.mem_append.mp m with q | q
  ·exact h1 q
  ·exact hk (List.mem_cons.mpr (Or.inl (List.mem_singleton.mp q).symm))
theorem p9{kvs:List (κ × V)}{k: κ}(v:V)(hn:(kvs.map (·.1)).Nodup)(h:B0 kvs k=none):((B7 kvs k v).map (·.1)).Nodup:=by
 rw[YW v h,List.map_append]
 exact Y1 hn (p8 h)
end
end L2
namespace L2
theorem S2{env:Env}:∀ (names:List (Str × NameKind)) (cs:List (Str × Addr)),
  (∀ x∈names,x.2=.free->∃ c,env.cells.lookup x.1=some c)->(∀ x c,cs.lookup x=some c->env.cells.lookup x=some c) →
  ∃ cl,(forIn names cs λx r=>(if(x.2 == NameKind.free)=true then do let a ← cellOf env x.1;pure (ForInStep.yield ((x.1,a)::r))else pure (ForInStep.yield r):Sem (ForInStep (List (Str × Addr)))))=pure cl ∧
   (∀ x c,cl.lookup x=some c->env.cells.lookup x=some c)/\(∀ x,(cs.lookup x).isSome=true->(cl.lookup x).isSome=true) ∧
   ∀ x∈names,x.2=.free->(cl.lookup x.1).isSome=true
 | [],cs,_,h=>⟨cs,rfl,h,λ_ z=>z,λ_ z=>nomatch z⟩
 | (n,k)::r,cs,hf,h=>by
  by_cases hk:k=.free
  ·subst hk
   obtain⟨c,hc⟩:=hf (n,.free) List.mem_cons_self rfl
   obtain⟨cl,e,h1,h2,h3⟩:=S2 r ((n,c)::cs) (λx hx=>hf x (List.mem_cons_of_mem _ hx)) (λx c' hx=>by
    by_cases hxn:x=n
    ·subst hxn;simp only[List.lookup_cons,beq_self_eq_true]at hx;cases hx;exact hc
    ·have:(x == n)=false:=beq_eq_false_iff_ne.mpr hxn
     simp only[List.lookup_cons,this]at hx;exact h x c' hx)
   refine⟨cl,?_,h1,λx hx=>h2 x ?_,λx hx hxf=> ?_⟩
   ·rw[List.forIn_cons]
    show((if(NameKind.free == NameKind.free)=true then _ else _) >>= _)=_
    rw[if_pos (show(NameKind.free == NameKind.free)=true from rfl)]
    unfold cellOf
    show(((match env.cells.lookup n with | some a=>pure a | none=>_) >>= _) >>= _)=_
    rw[hc]
    exact e
   ·by_cases hxn:x=n
    ·subst hxn;simp
    ·have:(x == n)=false:=beq_eq_false_iff_ne.mpr hxn
     simp only[List.lookup_cons,this];exact hx
   ·rcases List.mem_cons.mp hx with rfl | hx
    ·exact h2 n (by simp)
    ·exact h3 x hx hxf
  ·obtain⟨cl,e,h1,h2,h3⟩:=S2 r cs (λx hx=>hf x (List.mem_cons_of_mem _ hx)) h
   refine⟨cl,?_,h1,h2,λx hx hxf=> ?_⟩
   ·rw[List.forIn_cons]
    have hb:(k == NameKind.free)=false:=by simpa using hk
    show((if(k == NameKind.free)=true then _ else _) >>= _)=_
    rw[if_neg (by simp[hb])]
    exact e
   ·rcases List.mem_cons.mp hx with rfl | hx
    ·exact absurd hxf hk
    ·exact h3 x hx hxf
theorem Y2{env:Env}{scope:Scope}(hf:∀ x∈scope.names,x.2=.free->∃ c,env.cells.lookup x.1=some c) :
  ∃ cl,closureFor scope env=pure cl/\(∀ x c,cl.lookup x=some c->env.cells.lookup x=some c)/\∀ x∈scope.names,x.2=.free->(cl.lookup x.1).isSome=true:=by
 obtain⟨cl,e,h1,_,h3⟩:=S2 (env:=env) scope.names [] hf (λx c h=>by simp at h)
 refine⟨cl,?_,h1,h3⟩
 unfold closureFor
 show(forIn scope.names ([]:List (Str × Addr)) _ >>= _)=_
 have:(forIn scope.names ([]:List (Str × Addr)) λx r=>(if(x.2 == NameKind.free)=true then do let a ← cellOf env x.1;pure (ForInStep.yield ((x.1,a)::r))else pure (ForInStep.yield r):Sem (ForInStep (List (Str × Addr))))) >>=(λr=>(pure r:Sem _))=(pure cl:Sem _):=by rw[e];rfl
 exact this
theorem Y3{env:Env}:∀ {names:List (Str × NameKind)} {x:Str},names.lookup x=some .free →
  (names.map λ(n,k)=>if(k == NameKind.free && env.scope.kind == .function && env.kindOf n == some .cell)then(n,NameKind.cell)else(n,k)).lookup x=some .cell ∨
  (names.map λ(n,k)=>if(k == NameKind.free && env.scope.kind == .function && env.kindOf n == some .cell)then(n,NameKind.cell)else(n,k)).lookup x=some .free
 | [],_,h=>by simp at h
 | (n,k)::r,x,h=>by
  by_cases hx:x=n
  ·subst hx
   simp only[List.lookup_cons,beq_self_eq_true]at h
   cases h
   show List.lookup x ((if _ then(x,NameKind.cell)else(x,NameKind.free))::_)=_\/List.lookup x ((if _ then(x,NameKind.cell)else(x,NameKind.free))::_)=_
   split
   ·exact .inl (by simp)
   ·exact .inr (by simp)
  ·have hb:(x == n)=false:=beq_eq_false_iff_ne.mpr hx
   simp only[List.lookup_cons,hb]at h
   have ih:=Y3 (env:=env) h
   show List.lookup x ((if _ then(n,NameKind.cell)else(n,k))::_)=_\/List.lookup x ((if _ then(n,NameKind.cell)else(n,k))::_)=_
   split<;>(simp only[List.lookup_cons,hb];exact ih)
theorem Y4{env:Env}:∀ {names:List (Str × NameKind)} {x:Str},
  ((names.map λ(n,k)=>if(k == NameKind.free && env.scope.kind == .function && env.kindOf n == some .cell)then(n,NameKind.cell)else(n,k)).lookup x=some .cell ∨
  (names.map λ(n,k)=>if(k == NameKind.free && env.scope.kind == .function && env.kindOf n == some .cell)then(n,NameKind.cell)else(n,k)).lookup x=some .free)->(x,NameKind.free)∈names\/(x,NameKind.cell)∈names
 | [],_,h=>by simp at h
 | (n,k)::r,x,h=>by
  by_cases hx:x=n
  ·subst hx
   have h:List.lookup x ((if(k == NameKind.free && env.scope.kind == .function && env.kindOf x == some .cell)=true then(x,NameKind.cell)else(x,k))::_)=some .cell\/List.lookup x ((if(k == NameKind.free && env.scope.kind == .function && env.kindOf x == some .cell)=true then(x,NameKind.cell)else(x,k))::_)=some .free:=h
   split at h
   ·rename_i hc
    rw[Bool.and_eq_true,Bool.and_eq_true]at hc
    have:k=.free:=by simpa using hc.1.1
    subst this
    exact .inl List.mem_cons_self
   ·simp only[List.lookup_cons,beq_self_eq_true]at h
    rcases h with h | h
    ·cases h;exact .inr List.mem_cons_self
    ·cases h;exact .inl List.mem_cons_self
  ·have hb:(x == n)=false:=beq_eq_false_iff_ne.mpr hx
   have h:List.lookup x ((if(k == NameKind.free && env.scope.kind == .function && env.kindOf n == some .cell)=true then(n,NameKind.cell)else(n,k))::_)=some .cell\/List.lookup x ((if(k == NameKind.free && env.scope.kind == .function && env.kindOf n == some .cell)=true then(n,NameKind.cell)else(n,k))::_)=some .free:=h
   have h':=h
   split at h'
   all_goals
    simp only[List.lookup_cons,hb]at h'
    exact(Y4 h').imp (List.mem_cons_of_mem _) (List.mem_cons_of_mem _)
theorem EO{a b:Addr}{n:Nat}(h:a<n)(h2:n<=b):a≠b:=Nat.ne_of_lt (Nat.lt_of_lt_of_le h h2)
def Cx.block(X:Cx)(pins:List (Addr × Obj))(s:Shared)(H:Hp)(Nc:List Str)(scope:Scope)(cl:List (Str × Addr))(C:Addr)(fp:List Addr):Cx where
 prog:=X.prog
 w:=X.w
 K:=X.K
 mg:=X.mg
 base:=X.base
 A:=X.A
 N:=Nc
 s₀:=s
 H₀:=H
 env:=compEnvC scope cl C X.env
 outer:=X.stack
 stack:=X.stack
 ex:=fp
 fn:=λ_=>false
 calm:=X.calm
 pn:=X.pn++pins
 xe:=λ_ _=>False
structure NP(X:Cx)(scope:Scope)(tn cn:List Str)(cap:List Nat):Prop where
 kind:scope.kind=.function
 nocell:∀ y∈scope.names,y.2≠.cell
 names:∀ y∈scope.names,y.2=.local->scope.names.lookup y.1=some .local
 free:∀ y∈scope.names,y.2=.free->X.env.kindOf y.1=some .cell\/X.env.kindOf y.1=some .free
 drawn:∀ x∈cn,scope.names.lookup x=some .free
 caps:cap.map (λi=>X.N[i]?)=cn.map some
def HH(k:Nat)(cap:List Nat)(σ:St):St:=List.replicate k none++cap.map λi=>(σ[i]?).join
theorem HOk.track{P:Program}{w:World}{H:Hp}{h:Heap}{a:Addr}{o:HO}(x:HOk P w H h)(hn:H a=none)(new:ObjOk P w (upd H a o) h a o):HOk P w (upd H a o) h:=λb u e=>by
 by_cases hb:b=a
 ·subst hb;rw[AS]at e;cases e;exact new
 ·rw[AT hb]at e
  refine(x b u e).stay (λ_ _ _ q=>q) (λc q=> ?_) λc xs q=> ?_
  ·rw[AT (BE q hn)];exact q
  ·rw[AT (BE q hn)];exact q
section
variable{X:Cx}{pins:List (Addr × Obj)}{σ:St}{H:Hp}{s:Shared}
theorem Inv.pinlt(I:Inv X pins σ H s){p:Addr × Obj}(hp:p∈X.pn++pins):p.1<s.heap.objs.size:=Heap.lt_size (I.pin p hp).1
theorem Inv.stkne(I:Inv X pins σ H s){b:Addr}(h1:b≠X.env.locals)(h2:b∉X.fs):b∉DW X.stack:=λz=>(List.mem_cons.mp (I.stkSub b z)).elim h1 h2
theorem Inv.stklt(I:Inv X pins σ H s){b:Addr}(h:b∈DW X.stack):b<s.heap.objs.size:=by
 obtain⟨_,o,ho,_⟩:=I.stack.mem h
 exact Heap.lt_size ho
theorem Inv.block{scope:Scope}{tn cn:List Str}{cap:List Nat}{cl:List (Str × Addr)}{C:Addr}{fp:List Addr}{pins':List (Addr × Obj)}{s1:Shared}(I:Inv X pins σ H s)(S:NP X scope tn cn cap)
  (hcl:∀ x c,cl.lookup x=some c->X.env.cells.lookup x=some c) (hcl2:∀ x∈scope.names,x.2=.free->(cl.lookup x.1).isSome=true)
  (hf:∀ b∈fp,FpOk X pins H b) (hfl:∀ b∈fp,b<s.heap.objs.size) (hC:s.heap.objs.size<=C) (k:∀ b o,s.heap.get? b=some o->s1.heap.get? b=some o)
  (hos:s1.os=s.os) (hg:s1.gens=s.gens) (hns:∃ m,s1.heap.Ns C m)
  (hp:∀ p∈pins',s1.heap.get? p.1=some p.2/\H p.1=none/\p.1≠C/\p.1∉DW X.stack/\∀ v,p.2.data≠.cell v) :
  Inv (X.block pins s H (tn++cn) scope cl C fp) pins' (HH tn.length cap σ) H s1:=by
 have ok:(X.block pins s H (tn++cn) scope cl C fp).Ok:=by
  refine⟨I.ok.mod,S.kind,I.ok.glob,I.ok.blt,hC,λx y c h1 h2=>I.ok.inj x y c (hcl x c h1) (hcl y c h2),λx hx=> ?_,λx c z _=>(by cases z),I.ok.hd,I.ok.frames,.inl rfl,λb hb=>⟨?_,λx c e=>(hf b hb).2.2.2.2.1 x c (hcl x c e)⟩,I.bs,Nat.le_trans I.ok.bsz I.sz,λb o e hb=> ?_,λb hb=>I.stkne (hf b hb).2.1 (hf b hb).2.2.1,I.stack,I.stkFree⟩
  ·rcases Y4 (env:=X.env) hx with z | z
   ·exact Option.isSome_iff_exists.mp (hcl2 _ z rfl)
   ·exact absurd rfl (S.nocell _ z)
  ·exact Nat.ne_of_lt (Nat.lt_of_lt_of_le (hfl b hb) hC)
  ·rcases(hf b hb).2.2.2.1 with z | z
   ·exact I.ok.noex b o e z
   ·have h1:b<X.base.objs.size:=Heap.lt_size e
    exact absurd (Nat.lt_of_lt_of_le h1 (Nat.le_trans I.ok.bsz z)) (Nat.lt_irrefl _)
 refine⟨ok,hos,by rw[hg];exact I.bare,Un.kept k,?_,λx c e=> ?_,I.hok.fresh hC,λx c e=>I.freeC x c (hcl x c e),λp hp'=> ?_,I.hok.kept k,?_⟩
 ·obtain⟨m,hm⟩:=hns
  refine⟨m,hm,λi x v h1 h2 h3=> ?_⟩
  have hi:tn.length<=i:=by
   rcases Nat.lt_or_ge i tn.length with z | z
   ·unfold HH at h2
    rw[List.getElem?_append_left (by simpa using z),List.getElem?_replicate]at h2
    split at h2<;>cases h2
   ·exact z
  unfold HH at h2
  rw[List.getElem?_append_right (by simpa using hi),List.length_replicate,List.getElem?_map]at h2
  have h1':cn[i - tn.length]? =some x:=by
   have:(tn++cn)[i]? =some x:=h1
   rwa [List.getElem?_append_right hi]at this
  cases hq:cap[i - tn.length]? with
  | none=>rw[hq]at h2;cases h2
  | some j =>
   rw[hq]at h2
   have hj:X.N[j]? =some x:=by
    have:=congrArg (λl=>l[i - tn.length]?) S.caps
    simp only[List.getElem?_map,hq,h1',Option.map_some]at this
    exact Option.some.inj this
   have hv:σ[j]? =some (some v):=by
    cases hs:σ[j]? with
    | none=>simp[hs]at h2
    | some y=>simp only[Option.map_some,hs,Option.join_some]at h2;cases h2;rfl
   have hxf:(x,NameKind.free)∈scope.names:=PySem.mem_of_lookup (S.drawn x (List.mem_of_getElem? h1'))
   have hk:=S.free _ hxf rfl
   obtain⟨m0,_,hl0⟩:=I.loc
   obtain⟨u,r,q⟩:=hl0 j x v hj hv (hk.elim (λz=>.inr (.inl z)) λz=>.inr (.inr z))
   refine⟨u,r,.inr ⟨Y3 (S.drawn x (List.mem_of_getElem? h1')),?_⟩⟩
   rcases q with⟨kl,_⟩ | ⟨_,c,hc,z⟩
   ·have kl':X.env.kindOf x=some .local:=kl
    rcases hk with hk | hk<;>(rw[kl']at hk;cases hk)
   ·obtain⟨c',hc'⟩:=Option.isSome_iff_exists.mp (hcl2 _ hxf rfl)
    have:=hcl _ _ hc'
    rw[hc]at this
    cases this
    exact⟨c,hc',z.keeps k⟩
 ·obtain⟨v,z⟩:=I.cell x c (hcl x c e)
  exact⟨v,z.keeps k⟩
 ·rcases List.mem_append.mp hp' with z | z
  ·obtain⟨e,n,ne,nf,d⟩:=I.pin p z
   exact⟨k _ _ e,n,Nat.ne_of_lt (Nat.lt_of_lt_of_le (Heap.lt_size e) hC),I.stkne ne nf,d⟩
  ·exact hp p z
 ·unfold HH
  show _=(tn++cn).length
  have:=congrArg List.length S.caps
  simp only[List.length_map]at this
  simp[this]
end
def CS:TT:=λ_ H Q=>Q true H
def NQ(X:Cx)(ifs:List Expr)(t:TT):Prop :=
 ∀ (pins:List (Addr × Obj)) (s:Shared) (σ:St) (H:Hp) (Q:Bool->Hp->Prop),Inv X pins σ H s->t σ H Q →
  wpAny (model X.prog X.w) X.A (forIn ifs true λc r=>if r=true then do let ok ← isTrue c X.env (eval c X.env);pure (ForInStep.yield ok)else pure (ForInStep.yield r)) (TP X pins σ Q) X.xe s
theorem EQ{X:Cx}:NQ X [] CS:=λpins s σ H Q I h=>wpAny_tests_nil ⟨H,I,h⟩
theorem DT{X:Cx}{c:Expr}{t:TT}(h:PT X c t):NQ X [c] t:=λpins s σ H Q I q=>wpAny_tests_one (h pins s σ H Q I q)
theorem qA {prog:Program} {w:World} {A:Around} {R:Result->Shared->Prop} {s:Shared} {elt target iter:Expr} {ifs:List Expr} {scope:Scope} {pos:Pos} {it acc:Value} {env:Env} (Jn:Nat->Shared->Prop)
    (turn:∀ n s,Jn n s->wpAny (model prog w) A (pyNext it) (λr s₁=>match r with
      | none=>R (.ok .next) s₁
      | some v=>wpAny (model prog w) A (letOwnedTupleGo target it v) (λ_ s₂=>wpAny (model prog w) A (assign target env v) (λ_ s₃ =>
          wpAny (model prog w) A (forIn ifs true λc r=>if r=true then do let ok ← isTrue c env (eval c env);pure (ForInStep.yield ok)else pure (ForInStep.yield r)) (λok s₄ =>
            if ok=true then wpAny (model prog w) A (eval elt env) (λx s₅ =>
              wpAny (model prog w) A (call (.builtin "list.append") [acc,x]) (λ_ s₆=>∃ m,m<n/\Jn m s₆) (λ_ _=>False) s₅) (λ_ _=>False) s₄
            else ∃ m,m<n/\Jn m s₄) (λ_ _=>False) s₃) (λ_ _=>False) s₂) (λ_ _=>False) s₁) (λ_ _=>False) s)
    (n:Nat) (h:Jn n s):codeAny (model prog w) A (.compLoop (.ListComp elt [⟨target,iter,ifs,0⟩] scope pos) 0 it acc env) R s:=by
  refine codeAny_loop rfl Jn (λn' s' hJ=> ?_) n h
  show wpAny _ A ((compTurn (.ListComp elt [⟨target,iter,ifs,0⟩] scope pos) 0 it acc env).onRaise (λx'=>do noteFrame x' env;theTreesLotGoes x')) _ _ s'
  refine wpAny_noted (wpAny_noRaise ?_)
  rw[compTurn_list]
  refine wpAny_bind (wpAny_standAt (wpAny_bind (AY (turn n' s' hJ) λr s₁ h₁=> ?_)))
  cases r with
  | none=>exact wpAny_pure h₁
  | some v =>
    refine wpAny_bind (AY h₁ λ_ s₂ h₂=> ?_)
    refine wpAny_bind (AY h₂ λ_ s₃ h₃=>wpAny_bind (AY h₃ λok s₄ h₄=> ?_))
    cases ok with
    | false=>exact wpAny_pure ⟨rfl,h₄⟩
    | true=>exact wpAny_bind (wpAny_bind (AY h₄ λx' s₅ h₅=>wpAny_bind (AY h₅ λ_ s₆ h₆=>wpAny_pure (wpAny_pure ⟨rfl,h₆⟩))))
def BS(wi:TI)(g:TG)(tt:TT)(te:TE)(k:Nat)(cap:List Nat):TE:=λσ H Q=>wi σ H λJ H1 =>
 ∃ W:Nat->Nat->St->List V->Hp->Prop,(∃ m,W 0 m (HH k cap σ) [] H1)/\∀ i m σ' ys H,W i m σ' ys H →
  (J.stop i H/\∀ p,H p=none->Q (.ref p) (upd H p (.lst ys))) ∨
  (J.go i H/\ys.length<sizeLine/\∀ x H',J.yld i H x H'->g x σ' H' λσ2 H2=>tt σ2 H2 λb H3 =>
   if b=true then ∃ N:VK,(∀ y H4,N y H4->∃ m',m'<m/\W (i+1) m' σ2 (ys++[y]) H4)/\te σ2 H3 N else ∃ m',m'<m/\W (i+1) m' σ2 ys H3)
structure CompDone(X:Cx)(fp:List Addr)(H:Hp)(s:Shared)(Q:VK)(acc:Value)(C:Addr)(r:Result)(s':Shared):Prop where
 ok:r=.ok .next
 ex:∃ (D:Addr) (ys:List V) (its:List Value) (n:Nat) (H':Hp),acc=.ref D/\Vals ys its/\ys.length<=sizeLine/\s'.heap.get? D=some { cls:=.type "list",data:=.seq its.toArray n }/\s.heap.objs.size<=D/\D≠C/\H' D=none/\H' C=none ∧
  (∃ m,s'.heap.Ns C m)/\Un (DW X.stack) fp H H' s.heap s'.heap/\HOk X.prog X.w H' s'.heap/\∀ p,H' p=none->Q (.ref p) (upd H' p (.lst ys))
 ge:s.heap.objs.size<=C
 os:s'.os=s.os
 bare:AllBare s'.gens
section
variable{X:Cx}{pins:List (Addr × Obj)}{σ:St}{H:Hp}{s:Shared}
theorem Y5 {tg iter elt:Expr} {ifs:List Expr} {scope:Scope} {pos:Pos} {g:TG} {tt:TT} {te:TE} {tn cn:List Str} {cap:List Nat} {cl:List (Str × Addr)} {it:Addr} {fp:List Addr} {tn':Nat->Heap->Prop} {J:It} {Q:VK} {E:Value->Shared->Prop}
    (I:Inv X pins σ H s) (S:NP X scope tn cn cap) (hc:X.calm=true)
    (hcl:∀ x c,cl.lookup x=some c->X.env.cells.lookup x=some c) (hcl2:∀ x∈scope.names,x.2=.free->(cl.lookup x.1).isSome=true)
    (T:JF X.prog X.w X.K tg J fp it tn') (st:tn' 0 s.heap) (hf:∀ b∈fp,FpOk X pins H b)
    (hg:∀ C,PG (X.block pins s H (tn++cn) scope cl C fp) tg g) (ht:∀ C,NQ (X.block pins s H (tn++cn) scope cl C fp) ifs tt) (he:∀ C,PE (X.block pins s H (tn++cn) scope cl C fp) elt te)
    (W:Nat->Nat->St->List V->Hp->Prop) {m0:Nat} (w0:W 0 m0 (HH tn.length cap σ) [] H)
    (step:∀ i m σ' ys H,W i m σ' ys H →
      (J.stop i H/\∀ p,H p=none->Q (.ref p) (upd H p (.lst ys))) ∨
      (J.go i H/\ys.length<sizeLine/\∀ x H',J.yld i H x H'->g x σ' H' λσ2 H2=>tt σ2 H2 λb H3 =>
        if b=true then ∃ N:VK,(∀ y H4,N y H4->∃ m',m'<m/\W (i+1) m' σ2 (ys++[y]) H4)/\te σ2 H3 N else ∃ m',m'<m/\W (i+1) m' σ2 ys H3)) :
    wpAny (model X.prog X.w) X.A (newList []) (λacc s₃=>wpAny (model X.prog X.w) X.A (newFunctionEnv scope X.env.globals cl [] X.env.qual none .none (some X.env)) (λcenv s₄ =>
      codeAny (model X.prog X.w) X.A (.compStart (.ListComp elt [⟨tg,iter,ifs,0⟩] scope pos) 0 (.ref it) acc { cenv with scope:=relabel scope X.env }) (CompDone X fp H s Q acc cenv.locals) s₄) E s₃) E s:=by
  refine wpAny_newObj_type (wpAny_newFunctionEnv S.nocell (by intro y hy;simp at hy) (λh₁ hns₁ hsb₁=> ?_) S.kind)
  dsimp only at hns₁ hsb₁ ⊢
  generalize hH2:s.heap.push { cls:=.type "list",dict:=none,data:=.seq ([]:List Value).toArray }=H2 at hns₁ hsb₁ ⊢
  have hCs:H2.objs.size=s.heap.objs.size+1:=by rw[<-hH2,Heap.size_push]
  generalize hCe:H2.objs.size=C at hns₁ hsb₁ ⊢
  have hC:C=s.heap.objs.size+1:=hCe.symm.trans hCs
  generalize hD:s.heap.objs.size=D at *
  have hDC:D≠C:=by rw[hC];exact Nat.ne_of_lt (Nat.lt_succ_self _)
  have old:∀ b o,s.heap.get? b=some o->h₁.get? b=some o:=λb o e=>by
    have hb:b<D:=by rw[<-hD];exact Heap.lt_size e
    have hbC:b≠C:=EO hb (by rw[hC];exact Nat.le_succ _)
    exact hsb₁.extBut b o hbC (Heap.get?_push_of_some _ (hH2 ▸ Heap.get?_push_of_some _ e))
  have hDo:h₁.get? D=some { cls:=.type "list",data:=.seq ([]:List Value).toArray }:=by
    refine hsb₁.extBut _ _ hDC (Heap.get?_push_of_some _ ?_)
    rw[<-hH2,<-hD]
    exact Heap.get?_push_size _ rfl
  have hfl:∀ b∈fp,b<s.heap.objs.size:=λb hb=>by
    obtain⟨o,e,_⟩:=T.obj 0 _ st b hb
    exact Heap.lt_size e
  have hDn:H D=none:=by rw[<-hD];exact I.hok.fresh (Nat.le_refl _)
  have hDs:D∉DW X.stack:=λz=>EO (I.stklt z) (Nat.le_of_eq hD) rfl
  have I0:Inv (X.block pins s H (tn++cn) scope cl C fp) [(D,{ cls:=.type "list",data:=.seq ([]:List Value).toArray 0 })] (HH tn.length cap σ) H { s with heap:=h₁,toks:=s.toks+([]:List (Str × Value)).length } :=
    I.block S hcl hcl2 hf hfl (by omega) old rfl rfl ⟨_,hns₁⟩ λp hp=>by
      rw[List.mem_singleton]at hp
      subst hp
      exact⟨hDo,hDn,hDC,hDs,λv z=>nomatch z⟩
  have fpok:∀ {H':Hp} {o:Obj},(∀ b∈fp,H' b=none)->∀ b∈fp,FpOk (X.block pins s H (tn++cn) scope cl C fp) [(D,o)] H' b:=λ{H' o} hn b hb=>by
    obtain⟨_,f1,f2,f3,f4,f5⟩:=hf b hb
    have hbl:=hfl b hb
    refine⟨hn b hb,?_,I.stkne f1 f2,.inl hb,λx c e=>f4 x c (hcl x c e),λp hp=> ?_⟩
    ·exact EO hbl (by rw[hD,hC];exact Nat.le_succ _)
    · rcases List.mem_append.mp hp with z | z
      ·exact f5 p z
      ·rw[List.mem_singleton]at z;subst z;exact Ne.symm (EO hbl (Nat.le_of_eq hD))
  have st1:tn' 0 h₁:=T.keep _ _ _ st λb _ o e=>old b o e
  have loop:∀ s₃:Shared,s₃={ s with heap:=h₁,toks:=s.toks+([]:List (Str × Value)).length } →
      codeAny (model X.prog X.w) X.A (.compLoop (.ListComp elt [⟨tg,iter,ifs,0⟩] scope pos) 0 (.ref it) (.ref D) (compEnvC scope cl C X.env)) (CompDone X fp H s Q (.ref D) C) s₃:=by
    rintro s₃ rfl
    refine qA (λn s'=>∃ i σ' ys its nn H',Inv (X.block pins s H (tn++cn) scope cl C fp) [(D,{ cls:=.type "list",data:=.seq (its:List Value).toArray nn })] σ' H' s'/\tn' i s'.heap/\(∀ b∈fp,H' b=none)/\Vals ys its/\ys.length<=sizeLine/\W i n σ' ys H') ?_ m0
      ⟨0,_,[],[],0,H,I0,st1,λb hb=>(hf b hb).1,.nil,Nat.zero_le _,w0⟩
    rintro n s4 ⟨i,σ4,ys,its,nn,H4,I4,st4,fr4,r4,l4,w4⟩
    rcases step i n σ4 ys H4 w4 with⟨stop,qn⟩ | ⟨go,hlt,next⟩
    · refine AY (T.done (X.block pins s H (tn++cn) scope cl C fp) rfl rfl rfl hc i _ s4 σ4 H4 _ I4 (fpok fr4) st4 stop) λr s5 ⟨hr,I5⟩=> ?_
      subst hr
      have hp:=I5.pin (D,_) (List.mem_append_right _ List.mem_cons_self)
      obtain⟨m5,hm5,_⟩:=I5.loc
      exact⟨rfl,⟨D,ys,its,nn,H4,rfl,r4,l4,hp.1,by omega,hDC,hp.2.1,I5.free,⟨m5,hm5⟩,I5.base,I5.hok,qn⟩,by omega,I5.os,I5.bare⟩
    · refine AY (T.item (X.block pins s H (tn++cn) scope cl C fp) rfl rfl rfl hc i _ s4 σ4 H4 _ I4 (fpok fr4) st4 go) λr s5 ⟨u,hr,h5⟩=> ?_
      subst hr
      refine AY h5 λ_ s6 ⟨x,H6,I6,r6,y6,st6,fr6⟩=> ?_
      have I6':=I6.pinned (fpok fr6) (T.obj _ _ st6)
      refine AY (hg C _ s6 σ4 H6 x u _ I6' r6 (next x H6 y6)) λ_ s7 ⟨σ7,H7,I7,q7⟩=> ?_
      refine AY (ht C _ s7 σ7 H7 _ I7 q7) λok s8 ⟨H8,I8,q8⟩=> ?_
      have keepst:∀ {σ9:St} {H9:Hp} {s9:Shared},Inv (X.block pins s H (tn++cn) scope cl C fp) ([(D,{ cls:=.type "list",data:=.seq its.toArray nn })]++NG fp s6.heap) σ9 H9 s9->(∀ b∈fp,∀ o,s6.heap.get? b=some o->s9.heap.get? b=some o)/\∀ b∈fp,H9 b=none:=λ{σ9 H9 s9} I9=>by
        refine⟨λb hb o e=>(I9.pin (b,o) (List.mem_append_right _ (List.mem_append_right _ (P9 hb e)))).1,λb hb=> ?_⟩
        obtain⟨o,e,_⟩:=T.obj _ _ st6 b hb
        exact(I9.pin (b,o) (List.mem_append_right _ (List.mem_append_right _ (P9 hb e)))).2.1
      cases ok with
      | false =>
        obtain⟨m',hm',w'⟩:=q8
        obtain⟨k1,k2⟩:=keepst I8
        exact⟨m',hm',i+1,σ7,ys,its,nn,H8,I8.unpinned,T.keep _ _ _ st6 k1,k2,r4,l4,w'⟩
      | true =>
        obtain⟨Nw,hN,q8⟩:=q8
        refine AY (he C _ s8 σ7 H8 Nw I8 q8) λv s9 ⟨y,H9,I9,r9,n9⟩=> ?_
        obtain⟨m',hm',w'⟩:=hN y H9 n9
        obtain⟨k1,k2⟩:=keepst I9
        have hp:=I9.pin (D,_) (List.mem_append_right _ (List.mem_append_left _ List.mem_cons_self))
        have e:=hp.1
        have hlen:=r4.length
        refine call_meets F.slot_list_append ⟨_,e,rfl⟩ F.entry_list_append (F.args_list_append_2 _ _) (PySem.list_append D its.toArray nn v (by rw[List.size_toArray];omega)) ⟨e,?_⟩
        have q:=PySem.IsL.update e (λxs=>xs.push v)
        have Ia:Inv (X.block pins s H (tn++cn) scope cl C fp) [] σ7 H9 s9:=I9.pins_of λp hp=>nomatch hp
        have Ib:=Ia.turned (h':=s9.heap.update D (Obj.mapSeq (·.push v))) (t':=s9.toks) (it:=D) (λb o hb eb=>(Heap.get?_update_other _ _ (Ne.symm hb)).trans eb) hp.2.1 hDC (.inr (by show s.heap.objs.size<=D;omega))
          (λx c ec z=>by
            obtain⟨vv,zc⟩:=I.cell x c (hcl x c ec)
            exact EO zc.lt (Nat.le_of_eq hD) z)
          (λp hp'=>by
            rw[List.append_nil]at hp'
            exact EO (I.pinlt hp') (Nat.le_of_eq hD))
        have q':(s9.heap.update D (Obj.mapSeq (·.push v))).get? D=some { cls:=.type "list",data:=.seq (its++[v]).toArray (nn+1) }:=by
          rw[if_neg (by simp)]at q
          rw[<-List.push_toArray]
          exact q
        refine⟨m',hm',i+1,σ7,ys++[y],its++[v],nn+1,H9,Ib.pins_of (λp hp'=> ?_),T.keep _ _ _ st6 λb hb o eb=> ?_,k2,r4.append (.cons r9 .nil),?_,w'⟩
        · rw[List.mem_singleton]at hp'
          subst hp'
          exact⟨q',hp.2.1,hDC,hDs,λv' z=>nomatch z⟩
        · have hbl:=hfl b hb
          exact(Heap.get?_update_other _ _ (Ne.symm (EO hbl (Nat.le_of_eq hD)))).trans (k1 b hb o eb)
        · rw[List.length_append,List.length_singleton]
          omega
  exact codeAny_compStart_list (loop _ rfl) (T.self _ 0 _ _ _ st1 (loop _ rfl))
theorem CompDone.inv{Q:VK}{acc:Value}{C:Addr}{r:Result}{s':Shared}{fp:List Addr}(I:Inv X pins σ H s)(hf:∀ b∈fp,FpOk X pins H b)(h:CompDone X fp H s Q acc C r s') :
  ∃ D H',acc=.ref D/\Inv X pins σ H' s'/\Q (.ref D) H'/\H' C=none/\∃ m,s'.heap.Ns C m:=by
 obtain⟨_,⟨D,ys,its,n,H',rfl,r4,l4,e,hD,hDC,hDn,hCn,hm,u,ok,q⟩,hC,os,bare⟩:=h
 have lt:∀ b o,s.heap.get? b=some o->b≠D:=λb o eb=>EO (Heap.lt_size eb) hD
 have ltH:∀ b o,H b=some o->b≠D:=λb o eb=>EO (I.hok.lt eb) hD
 refine⟨D,upd H' D (.lst ys),rfl,I.call' (ch:=fp) os ⟨u.keep,u.slot,λb o eb n' hx=> ?_,u.there,λb xs eb=> ?_,λb o x eb=> ?_,λb ps eb=> ?_⟩ (ok.track hDn ⟨l4,its,n,r4,e⟩) bare (λb hb=> ?_),q D hDn,?_,hm⟩
 ·rw[AT (lt b o eb)];exact u.free b o eb n' hx
 ·rw[AT (ltH b _ eb)];exact u.tups b xs eb
 ·rw[AT (ltH b _ eb)];exact u.frzs b o x eb
 ·rw[AT (ltH b _ eb)];exact u.tbls b ps eb
 ·obtain⟨_,f1,f2,f3,f4,f5⟩:=hf b hb
  exact⟨f3,f1,f4,f5⟩
 ·rw[AT (Ne.symm hDC)];exact hCn
theorem Inv.letgo{C:Addr}{h':Heap}{s1:Shared}{σ1:St}{H1:Hp}(I:Inv X pins σ H s)(hC:s.heap.objs.size<=C)(I1:Inv X pins σ1 H1 s1)(hn:H1 C=none)(hs:Heap.SameBut C s1.heap h'):Inv X pins σ1 H1 { s1 with heap:=h' }:=by
 refine I1.turned (t':=s1.toks) (it:=C) (λb o hb e=>(hs.2 b hb).trans e) hn (λz=> ?_) (.inr ?_) (λx c e z=> ?_) λp hp z=> ?_
 ·exact EO I.lt hC z.symm
 ·exact Nat.le_trans I.sz hC
 ·obtain⟨v,zc⟩:=I.cell x c e
  exact EO zc.lt hC z
 ·exact EO (I.pinlt hp) hC z
variable{tg iter elt:Expr}{ifs:List Expr}{scope:Scope}{pos:Pos}{wi:TI}{g:TG}{tt:TT}{te:TE}{tn cn:List Str}{cap:List Nat}
theorem DG(S:NP X scope tn cn cap)(hc:X.calm=true)(hi:PI X tg iter wi)
  (hg:∀ pins s H cl C fp,PG (X.block pins s H (tn++cn) scope cl C fp) tg g) (ht:∀ pins s H cl C fp,NQ (X.block pins s H (tn++cn) scope cl C fp) ifs tt) (he:∀ pins s H cl C fp,PE (X.block pins s H (tn++cn) scope cl C fp) elt te)
  (hs:∀ x,foldedSetIterable iter X.env x=pure x:=by intro _;rfl):PE X (.ListComp elt [⟨tg,iter,ifs,0⟩] scope pos) (BS wi g tt te tn.length cap):=by
 intro pins s σ H Q I h
 obtain⟨cl,ecl,hcl,hcl2⟩:=Y2 (env:=X.env) (scope:=scope) λx hx hxf=>I.ok.has x.1 (S.free x hx hxf)
 rw[eval_ListComp]
 refine wpAny_comprehension_free (use:=none) rfl hs ecl S.kind S.names (AY (hi pins s σ H _ I h) λv s1 h1=>AY h1 λitv s2 h2=> ?_)
 obtain⟨it,fp,tn',J,H2,e,I2,T,st2,f2,W,⟨m0,w0⟩,turn⟩:=h2
 subst e
 refine AY (Y5 I2 S hc hcl hcl2 T st2 f2 (λC=>hg _ _ _ _ C _) (λC=>ht _ _ _ _ C _) (λC=>he _ _ _ _ C _) W w0 turn) λacc s3 h3=>AY h3 λcenv s4 h4=>codeAny_mono h4 λr s5 h5=> ?_
 have hr:=h5.ok
 subst hr
 obtain⟨D,H',rfl,I5,q5,hCn,m,hm⟩:=h5.inv I2 f2
 exact⟨m,hm,λh' hs'=>⟨.ref D,H',I2.letgo h5.ge I5 hCn hs',rfl,q5⟩⟩
theorem EZ{i:Nat}{x:Str}{px spos:Pos}(S:NP X scope tn cn cap)(hc:X.calm=true)(hN:X.N.Nodup)(hi':X.N[i]? =some x)(hx:X.env.scope.names.lookup x=some .local)(hi:PI X tg iter wi)
  (hg:∀ pins s H cl C fp,PG (X.block pins s H (tn++cn) scope cl C fp) tg g) (ht:∀ pins s H cl C fp,NQ (X.block pins s H (tn++cn) scope cl C fp) ifs tt) (he:∀ pins s H cl C fp,PE (X.block pins s H (tn++cn) scope cl C fp) elt te)
  (hsw:swapsWith (.ListComp elt [⟨tg,iter,ifs,0⟩] scope pos) (some (.Name x px)) spos.line X.env=pure true:=by rfl)
  (hs:∀ x,foldedSetIterable iter X.env x=pure x:=by intro _;rfl):PS X (.Assign [.Name x px] (.ListComp elt [⟨tg,iter,ifs,0⟩] scope pos) spos) (AX (BS wi g tt te tn.length cap) (AL i)):=by
 intro pins s σ H D I h
 obtain⟨cl,ecl,hcl,hcl2⟩:=Y2 (env:=X.env) (scope:=scope) λx hx hxf=>I.ok.has x.1 (S.free x hx hxf)
 rw[exec_Assign_Name_used _ _ _ _ hsw]
 refine wpAny_bind (wpAny_standAt (wpAny_bind ?_))
 unfold evalThenUse
 refine wpAny_bind ?_
 refine wpAny_comprehension_free (use:=some (assign (.Name x px) X.env)) rfl hs ecl S.kind S.names (AY (hi pins s σ H _ I h) λv s1 h1=>AY h1 λitv s2 h2=> ?_)
 obtain⟨it,fp,tn',J,H2,e,I2,T,st2,f2,W,⟨m0,w0⟩,turn⟩:=h2
 subst e
 refine AY (Y5 (Q:=λx' H1=>AL i x' σ H1 D.nx) I2 S hc hcl hcl2 T st2 f2 (λC=>hg _ _ _ _ C _) (λC=>ht _ _ _ _ C _) (λC=>he _ _ _ _ C _) W w0 turn) λacc s3 h3=>AY h3 λcenv s4 h4=>codeAny_mono h4 λr s5 h5=> ?_
 have hr:=h5.ok
 subst hr
 obtain⟨Da,H',rfl,I5,q5,hCn,m,hm⟩:=h5.inv I2 f2
 show wpAny _ _ (assign (.Name x px) X.env (.ref Da)) _ _ s5
 refine wpAny_assign_Name (XL I5 hN hi' (.inl hx) (show RelV (.ref Da) (.ref Da)from rfl) (λs6 I6 ⟨a,hsb,ha⟩=> ?_) (.inr hx))
 refine⟨m,hm.sameBut hsb ?_,λh' hs'=> ?_⟩
 ·rcases ha with z | z
  ·exact Ne.symm (z ▸ EO I2.lt h5.ge)
  ·obtain⟨vv,zc⟩:=I2.cell x a z
   exact Ne.symm (EO zc.lt h5.ge)
 ·exact wpAny_pure (wpAny_pure ⟨σ.set i (some (.ref Da)),H',I2.letgo h5.ge I6 hCn hs',q5⟩)
end
end L2
namespace L2
theorem ObjOk.there{P:Program}{w:World}{H:Hp}{h:Heap}{a:Addr}{o:HO}(x:ObjOk P w H h a o):∃ ob,h.get? a=some ob:=by
 cases o with
 | lst xs=>obtain⟨_,_,_,_,e⟩:=x;exact⟨_,e⟩
 | tup xs=>obtain⟨_,_,_,ob,e,_⟩:=x;exact⟨_,e⟩
 | dK kvs=>obtain⟨_,_,_,_,ob,_,_,e,_⟩:=x;exact⟨_,e⟩
 | dT kvs=>obtain⟨_,_,_,_,ob,_,_,e,_⟩:=x;exact⟨_,e⟩
 | set S n=>obtain⟨ob,_,_,_,e,_⟩:=x;exact⟨_,e⟩
 | ins C dx fs=>obtain⟨_,_,_,e,_⟩:=x;exact⟨_,e⟩
 | own y=>exact x
 | xd fs=>obtain⟨_,⟨ob,_,_,e,_⟩,_⟩:=x;exact⟨_,e⟩
 | rng lo hi=>obtain⟨_,_,_,e⟩:=x;exact⟨_,e⟩
 | frz ob u=>obtain⟨e,_⟩:=x;exact⟨_,e⟩
 | tbl ps=>exact⟨_,show h.get? a=some _ from x⟩
 | met f y=>exact⟨_,show h.get? a=some _ from x⟩
 | ext φ =>exact x.2.1
theorem HOk.nh{P:Program}{w:World}{H:Hp}{h:Heap}{a:Addr}(x:HOk P w H h)(e:h.get? a=none):H a=none:=by
 cases q:H a with
 | none=>rfl
 | some o =>
  obtain⟨ob,e'⟩:=(x a o q).there
  rw[e]at e';cases e'
section
variable{X:Cx}{pins:List (Addr × Obj)}{σ:St}{H H':Hp}{s:Shared}{h':Heap}
theorem Inv.stepN{g':Array GenState}{t':Nat}{d':Drawn}{ch:List Addr}(I:Inv X pins σ H s)
  (hch:∀ b∈ch,(b∈X.ex\/X.s₀.heap.get? b=none)/\b≠X.env.locals/\(∀ x c,X.env.cells.lookup x=some c->c≠b)/\∀ p∈X.pn++pins,p.1≠b)
  (keep:∀ b o,b≠X.env.locals->b∉X.fs->b∉ch->s.heap.get? b=some o->H b=none->h'.get? b=some o)
  (slot:∀ b o,b≠X.env.locals->b∈X.fs->b∉ch->s.heap.get? b=some o->H b=none->∃ sl,h'.get? b=some { o with slots:=sl }) (free:∀ b o,b∉ch->s.heap.get? b=some o->H b=none->H' b=none)
  (there:∀ b o,b∉ch->s.heap.get? b=some o->∃ o',h'.get? b=some o')
  (tups:∀ b xs,H b=some (.tup xs)->H' b=some (.tup xs)) (frzs:∀ b o u,H b=some (.frz o u)->H' b=some (.frz o u)) (tbls:∀ b ps,H b=some (.tbl ps)->∃ more,H' b=some (.tbl (ps++more)))
  (ns:∀ m,s.heap.Ns X.env.locals m->h'.Ns X.env.locals m) (hok:HOk X.prog X.w H' h') (hg:AllBare g') :
  Inv X pins σ H' { s with heap:=h',gens:=g',drawn:=d',toks:=t' }:=by
 have neL:∀ b o,X.s₀.heap.get? b=some o->b≠X.env.locals:=λb o e=>Nat.ne_of_lt (Nat.lt_of_lt_of_le (Heap.lt_size e) I.ok.above)
 have neC:∀ b o,X.s₀.heap.get? b=some o->b∉X.ex->b∉ch:=λb o e hx hb=>by
  rcases(hch b hb).1 with z | z
  ·exact hx z
  ·rw[e]at z;cases z
 have cellK:∀ x c,X.env.cells.lookup x=some c->∀ v,s.heap.IsCell c v->h'.IsCell c v:=λx c e v ⟨o,ho,hd⟩=>by
  have nch:c∉ch:=λz=>(hch c z).2.2.1 x c e rfl
  by_cases hc:c∈X.fs
  ·obtain⟨sl,q⟩:=slot c o (I.cne x c e) hc nch ho (I.freeC x c e)
   exact⟨_,q,hd⟩
  ·exact⟨o,keep c o (I.cne x c e) hc nch ho (I.freeC x c e),hd⟩
 refine⟨I.ok,I.os,hg,⟨λb o e n hb hx=> ?_,λb o e n hb hx=> ?_,λb o e n hx=> ?_,λb o e hx=> ?_,λb xs e=>tups b xs (I.base.tups b xs e),λb o xs e=>frzs b o xs (I.base.frzs b o xs e),λb ps e=> ?_⟩,?_,λx c e=> ?_,?_,λx c e=> ?_,λp hp=> ?_,hok,I.len⟩
 ·exact keep b o (neL b o e) hb (neC b o e hx) (I.base.keep b o e n hb hx) (I.base.free b o e n hx)
 ·obtain⟨sl,e1⟩:=I.base.slot b o e n hb hx
  obtain⟨sl',e2⟩:=slot b _ (neL b o e) hb (neC b o e hx) e1 (I.base.free b o e n hx)
  exact⟨sl',e2⟩
 ·obtain⟨o',e1⟩:=I.base.there b o e hx
  exact free b o' (neC b o e hx) e1 (I.base.free b o e n hx)
 ·obtain⟨o',e1⟩:=I.base.there b o e hx
  exact there b o' (neC b o e hx) e1
 ·obtain⟨m1,e1⟩:=I.base.tbls b ps e
  obtain⟨m2,e2⟩:=tbls b _ e1
  exact⟨m1++m2,by rw[e2,Array.append_assoc]⟩
 ·obtain⟨m,hn,hl⟩:=I.loc
  refine⟨m,ns m hn,λi x v e1 e2 e3=> ?_⟩
  obtain⟨u,r,l⟩:=hl i x v e1 e2 e3
  refine⟨u,r,?_⟩
  rcases l with l | ⟨k,c,e,z⟩
  ·exact .inl l
  ·exact .inr ⟨k,c,e,cellK x c e _ z⟩
 ·obtain⟨v,z⟩:=I.cell x c e
  exact⟨v,cellK x c e v z⟩
 ·obtain⟨m,⟨o,_,_,ho,_⟩,_⟩:=I.loc
  exact free _ o (λz=>(hch _ z).2.1 rfl) ho I.free
 ·obtain⟨v,o,ho,hd⟩:=I.cell x c e
  exact free c o (λz=>(hch c z).2.2.1 x c e rfl) ho (I.freeC x c e)
 ·obtain⟨e,n,ne,nf,d⟩:=I.pin p hp
  have nch:p.1∉ch:=λz=>(hch p.1 z).2.2.2 p hp rfl
  exact⟨keep p.1 p.2 ne nf nch e n,free p.1 p.2 nch e n,ne,nf,d⟩
end
structure Fly(bad:Addr->Prop)(H:Hp)(h:Heap)(e:Addr)(cls:Value):Prop where
 nb:¬ bad e
 free:H e=none
 ex:∃ (oe:Obj) (vs:Array Value),h.get? e=some oe/\oe.cls=cls/\oe.dict=none/\oe.data=.fields vs/\(vs[1]? =some .none ∨
  ∃ (T:Addr) (oT:Obj) (ts:Array Value),vs[1]? =some (.ref T)/\¬ bad T/\H T=none/\T≠e/\h.get? T=some oT/\oT.data=.fields ts/\ts[3]? =some .none)
theorem Fly.mono{bad bad':Addr->Prop}{H:Hp}{h:Heap}{e:Addr}{cls:Value}(F:Fly bad H h e cls)(k:∀ a,bad' a->bad a):Fly bad' H h e cls:=by
 obtain⟨nb,fr,oe,vs,h1,h2,h3,h4,h5⟩:=F
 refine⟨λz=>nb (k _ z),fr,oe,vs,h1,h2,h3,h4,?_⟩
 rcases h5 with z | ⟨T,oT,ts,a,b,c⟩
 ·exact .inl z
 ·exact .inr ⟨T,oT,ts,a,λz=>b (k _ z),c⟩
section
variable{M:Model}{A:Around}{E:Value->Shared->Prop}{s:Shared}
theorem Y6{base:Heap}{env:Env}{outer:List Env}{L e:Addr}{oe:Obj}{vs:Array Value}{hd:Value}{nx:Bool}{Q:Unit->Shared->Prop}
  (hfr:A.frames=some (env::outer)) (hl:s.heap.FunFrames base (env::outer)) (hf:env.frame=some L) (he:s.heap.get? e=some oe) (hdt:oe.data=.fields vs) (hsz:1<vs.size)
  (h:∀ h' T oT ts,(∀ b o,s.heap.get? b=some o->b≠e->b∉DW (env::outer)->h'.get? b=some o)->(∀ b o,s.heap.get? b=some o->b≠e->∃ sl,h'.get? b=some { o with slots:=sl }) →
   h'.get? e=some (oe.mapFields (·.setIfInBounds 1 (.ref T)))->s.heap.objs.size<=T->h'.get? T=some oT->oT.data=.fields ts->ts[3]? =some (rawInt L)->Q () { s with heap:=h' }) :
  wpAny M A (do let a ← frameOf env;let pl ← entryPlaceOf L nx;let b ← EntryCells.newEntry hd a .none (rawInt L) .none pl;setField (.ref e) 1 b) Q E s:=by
 have hne:e∉(env::outer).filterMap (·.frame):=λz=>by
  obtain⟨_,o,ho,hn⟩:=hl.mem z
  rw[he]at ho;cases ho
  exact hn vs hdt
 refine wpAny_bind (wpAny_frameOf_fun hfr hl hf λh1 hs1=> ?_)
 refine wpAny_bind (wpAny_entryPlaceOf λpl hpl=> ?_)
 unfold EntryCells.newEntry newFields
 refine wpAny_bind (wpAny_newObj_type ?_ (hpl.sizeOk5 _ _ _ _ _))
 have he1:h1.get? e=some oe:=(hs1.2.1 e hne).trans he
 refine wpAny_setField (Heap.get?_push_of_some _ he1) hdt hsz ?_
 have hTe:h1.objs.size≠e:=Nat.ne_of_gt (Heap.lt_size he1)
 have hd3:=Obj.data_mapFields hdt (·.setIfInBounds 1 (Value.ref h1.objs.size))
 have keep:∀ b o,b≠e->h1.get? b=some o->((h1.push { cls:=.type "traceback",dict:=none,data:=.fields ([hd,.ref L,.none,rawInt L,.none]++(if pl.isEmpty then List.replicate 6 Value.none else pl)).toArray }).update e (Obj.mapFields (·.setIfInBounds 1 (Value.ref h1.objs.size)))).get? b=some o:=λb o hb e1=>by
  rw[Heap.get?_update_other _ _ (Ne.symm hb)]
  exact Heap.get?_push_of_some _ e1
 refine h _ h1.objs.size _ _ (λb o e1 hb hnf=>keep b o hb ((hs1.2.1 b hnf).trans e1)) (λb o e1 hb=> ?_) (Heap.get?_update_self _ (Heap.get?_push_of_some _ he1) (Obj.isFreed_of_fields hd3)) (by rw[hs1.1];exact Nat.le_refl _)
  ((Heap.get?_update_other _ _ (Ne.symm hTe)).trans (Heap.get?_push_size _ rfl)) rfl ?_
 ·obtain⟨sl,e2⟩:=hs1.2.2 b o e1
  exact⟨sl,keep b _ hb e2⟩
 ·first | (simp;done) | (rcases hpl with rfl | ⟨_,_,_,_,_,_,_,rfl⟩<;>simp)
structure Y7(fr:List Addr)(bad:Addr->Prop)(H:Hp)(e:Addr)(cls:Value)(h h':Heap):Prop where
 ch:∃ ch:List Addr,(∀ b∈ch,¬ bad b/\H b=none/\∃ o vs,h.get? b=some o/\o.data=.fields vs)/\(∀ b o,h.get? b=some o->b∉ch->b∉fr->h'.get? b=some o) ∧
  (∀ b o,h.get? b=some o->b∉ch->∃ sl,h'.get? b=some { o with slots:=sl })
 fly:Fly bad H h' e cls
theorem qB{A2:Around}{E2:Value->Shared->Prop}{base:Heap}{env:Env}{outer:List Env}{L e:Addr}{cls:Value}{bad:Addr->Prop}{H:Hp}{Q:Unit->Shared->Prop}
  (hfr:A.frames=some (env::outer)) (hl:s.heap.FunFrames base (env::outer)) (hf:env.frame=some L) (F:Fly bad H s.heap e cls) (hb:∀ a,s.heap.objs.size<=a->¬ bad a) (hH:∀ a,s.heap.objs.size<=a->H a=none)
  (h:∀ h',Y7 (DW (env::outer)) bad H e cls s.heap h'->Q () { s with heap:=h' }) :
  wpAny M A (noteFrame (.ref e) env) (λ_ s2=>wpAny M A2 (setFlight (.ref e) none) Q E2 s2) E s:=by
 obtain⟨nb,fr,oe,vs,he,hcls,hdict,hd,htb⟩:=F
 have DQ:∀ (s1:Shared) (ch:List Addr) (h':Heap) (T:Addr) (oT:Obj) (ts:Array Value) (oe1:Obj),(∀ b o,s.heap.get? b=some o->s1.heap.get? b=some o\/b∈ch)->s1.heap.objs.size=s.heap.objs.size->e∈ch->(∀ b∈ch,¬ bad b/\H b=none/\∃ o vs,s.heap.get? b=some o/\o.data=.fields vs) →
   oe1.cls=cls->oe1.dict=none->oe1.data=.fields vs->1<vs.size →
   (∀ b o,s1.heap.get? b=some o->b≠e->b∉DW (env::outer)->h'.get? b=some o)->(∀ b o,s1.heap.get? b=some o->b≠e->∃ sl,h'.get? b=some { o with slots:=sl }) →
   h'.get? e=some (oe1.mapFields (·.setIfInBounds 1 (.ref T)))->s1.heap.objs.size<=T->h'.get? T=some oT->oT.data=.fields ts->ts[3]? =some (rawInt L)->wpAny M A2 (setFlight (.ref e) none) Q E2 { s with heap:=h' }:=by
  intro s1 ch h' T oT ts oe1 hk1 hsz hech hch hcls1 hdict1 hd1 hv k1 k2 e1 hT e2 hdT h3
  have hT':s.heap.objs.size<=T:=hsz ▸ hT
  have hTe:T≠e:=Ne.symm (EO (Heap.lt_size he) hT')
  have hde:=Obj.data_mapFields hd1 (·.setIfInBounds 1 (Value.ref T))
  unfold setFlight
  refine wpAny_bind (wpAny_field e1 hde (x:=.ref T) (by simp[hv]) ?_)
  rw[if_pos (show(Value.ref T != Value.none)=true from by simp)]
  have hs3:3<ts.size:=(Array.getElem?_eq_some_iff.mp h3).1
  refine wpAny_setField e2 hdT hs3 (h _ ?_)
  have oth:∀ b,b≠T->(h'.update T (Obj.mapFields (·.setIfInBounds 3 ((none:Option Addr).elim Value.none λf=>rawInt f)))).get? b=h'.get? b:=λb hb'=>Heap.get?_update_other _ _ (Ne.symm hb')
  have ltT:∀ b o,s.heap.get? b=some o->b≠T:=λb o eb=>EO (Heap.lt_size eb) hT'
  refine⟨⟨ch,hch,λb o eb hbc hbf=> ?_,λb o eb hbc=> ?_⟩,nb,fr,_,_,(oth e (Ne.symm hTe)).trans e1,(Obj.cls_mapFields _ _).trans hcls1,?_,hde,.inr ⟨T,_,_,by simp[hv],hb T hT',hH T hT',hTe,Heap.get?_update_self _ e2 (Obj.isFreed_of_fields (Obj.data_mapFields hdT _)),Obj.data_mapFields hdT _,by simp[hs3]⟩⟩
  ·rw[oth b (ltT b o eb)]
   rcases hk1 b o eb with z | z
   ·exact k1 b o z (λz'=>hbc (z' ▸ hech)) hbf
   ·exact absurd z hbc
  ·rw[oth b (ltT b o eb)]
   rcases hk1 b o eb with z | z
   ·exact k2 b o z (λz'=>hbc (z' ▸ hech))
   ·exact absurd z hbc
  ·obtain⟨c1,c2,c3,c4⟩:=oe1
   dsimp only at hd1
   subst hd1
   exact hdict1
 unfold noteFrame
 simp only[hf]
 rcases htb with h1 | ⟨T0,oT0,ts0,h1,nbT,frT,neT,eT,dT,h3⟩
 ·have hv:1<vs.size:=(Array.getElem?_eq_some_iff.mp h1).1
  refine wpAny_bind (wpAny_field he hd h1 ?_)
  rw[if_neg (by decide)]
  refine Y6 hfr hl hf he hd hv λh' T oT ts k1 k2 e1 hT e2 hdT h3=> ?_
  exact DQ s [e] h' T oT ts oe (λb o eb=>.inl eb) rfl (by simp) (λb hb'=>by rw[List.mem_singleton]at hb';subst hb';exact⟨nb,fr,oe,vs,he,hd⟩) hcls hdict hd hv k1 k2 e1 hT e2 hdT h3
 ·have hv:1<vs.size:=(Array.getElem?_eq_some_iff.mp h1).1
  refine wpAny_bind (wpAny_field he hd h1 ?_)
  rw[if_pos (show(Value.ref T0 != Value.none)=true from by simp)]
  refine wpAny_bind (wpAny_field eT dT h3 ?_)
  rw[if_neg (show ¬ ((Value.none == rawInt L)=true)from by simp[rawInt])]
  refine wpAny_bind (wpAny_setField eT dT (Array.getElem?_eq_some_iff.mp h3).1 ?_)
  have oth:∀ b,b≠T0->(s.heap.update T0 (Obj.mapFields (·.setIfInBounds 3 Value.none))).get? b=s.heap.get? b:=λb hb'=>Heap.get?_update_other _ _ (Ne.symm hb')
  have nf:∀ b o,s.heap.get? b=some o->(∀ vs,o.data≠.fields vs)->b≠T0:=λb o eb hn z=>by rw[z,eT]at eb;cases eb;exact hn ts0 dT
  refine Y6 hfr (hl.of_keeps λb o eb hn=>⟨o,(oth b (nf b o eb hn)).trans eb,rfl⟩) hf ((oth e (Ne.symm neT)).trans he) hd hv λh' T oT ts k1 k2 e1 hT e2 hdT h3'=> ?_
  exact DQ { s with heap:=s.heap.update T0 (Obj.mapFields (·.setIfInBounds 3 Value.none)) } [e,T0] h' T oT ts oe
   (λb o eb=>by
    by_cases z:b=T0
    ·exact .inr (by simp[z])
    ·exact .inl ((oth b z).trans eb))
   (Heap.size_after_update ..) (by simp)
   (λb hb'=>by
    rcases List.mem_cons.mp hb' with z | z
    ·subst z;exact⟨nb,fr,oe,vs,he,hd⟩
    ·rw[List.mem_singleton]at z;subst z;exact⟨nbT,frT,oT0,ts0,eT,dT⟩)
   hcls hdict hd hv k1 k2 e1 hT e2 hdT h3'
end
def Cx.bad(X:Cx)(pins:List (Addr × Obj)):Addr->Prop:=λa=>X.s₀.heap.get? a≠none\/∃ p∈X.pn++pins,p.1=a
structure XOk(X:Cx)(E:St->XK):Prop where
 po:PassesOwn (model X.prog X.w) X.A X.env X.xe
 ex:X.ex=[]
 calm:X.calm=true
 go:∀ (pins:List (Addr × Obj)) (σ:St) (H:Hp) (s:Shared) (e:Addr) (cls:Value),Inv X pins σ H s->Fly (X.bad pins) H s.heap e cls->E σ cls none H->X.xe (.ref e) s
section
variable{X:Cx}{pins:List (Addr × Obj)}{σ:St}{H:Hp}{s:Shared}
theorem Inv.notbad(I:Inv X pins σ H s)(hx:X.ex=[]){a:Addr}(h:s.heap.get? a=none):¬ X.bad pins a:=λz=>by
 rcases z with z | ⟨p,hp,rfl⟩
 ·cases q:X.s₀.heap.get? a with
  | none=>exact z q
  | some o =>
   obtain⟨o',e⟩:=I.base.there a o q (by rw[hx];simp)
   rw[h]at e;cases e
 ·have:=(I.pin p hp).1
  rw[h]at this;cases this
theorem qC{h:Heap}{a:Addr}(z:h.objs.size<=a):h.get? a=none:=by
 cases q:h.get? a with
 | none=>rfl
 | some o=>exact absurd (Nat.lt_of_lt_of_le (Heap.lt_size q) z) (Nat.lt_irrefl _)
theorem Inv.noted{e:Addr}{cls:Value}{h':Heap}(I:Inv X pins σ H s)(N:Y7 (DW X.stack) (X.bad pins) H e cls s.heap h'):Inv X pins σ H { s with heap:=h' }:=by
 obtain⟨⟨ch,hch,k1,k2⟩,_⟩:=N
 obtain⟨mL,⟨oL,esL,epL,hoL,dL,rL⟩,_⟩:=id I.loc
 have chne:∀ b∈ch,∀ o,s.heap.get? b=some o->∃ vs,o.data=.fields vs:=λb hb o eb=>by
  obtain⟨_,_,o',vs,e',d⟩:=hch b hb
  rw[eb]at e';cases e'
  exact⟨vs,d⟩
 have hL:X.env.locals∉ch:=λz=>by
  obtain⟨vs,d⟩:=chne _ z _ hoL
  rw[dL]at d;cases d
 refine I.stepN (g':=s.gens) (t':=s.toks) (d':=s.drawn) (ch:=ch) (λb hb=>⟨.inr ?_,λz=>hL (z ▸ hb),λx c ec z=> ?_,λp hp z=>(hch b hb).1 (.inr ⟨p,hp,z⟩)⟩)
  (λb o hbL hbf hbc eb _=>k1 b o eb hbc λz=>(List.mem_cons.mp (I.stkSub b z)).elim hbL hbf) (λb o _ _ hbc eb _=>k2 b o eb hbc) (λ_ _ _ _ n=>n) (λb o hbc eb=> ?_) (λ_ _ q=>q) (λ_ _ _ q=>q) (λb ps q=>⟨#[],by rw[q];simp⟩) (λm hm=> ?_) (λb o eb=> ?_) I.bare
 ·cases q:X.s₀.heap.get? b with
  | none=>rfl
  | some o=>exact absurd (.inl (by rw[q];simp)) (hch b hb).1
 ·obtain⟨v,oc,hoc,hd⟩:=I.cell x c ec
  obtain⟨vs,d⟩:=chne c (z ▸ hb) oc hoc
  rw[hd]at d;cases d
 ·obtain⟨sl,q⟩:=k2 b o eb hbc
  exact⟨_,q⟩
 ·obtain⟨o',es',ep',ho',r'⟩:=hm
  rw[hoL]at ho';cases ho'
  obtain⟨sl,q⟩:=k2 _ _ hoL hL
  exact⟨_,es',ep',q,r'⟩
 ·refine(I.hok b o eb).stay (λc u hc q=>k1 c u q ?_ ?_) (λ_ q=>q) λ_ _ q=>q
  ·intro z
   have fr:=(hch c z).2.1
   rcases hc with rfl | hc
   ·rw[eb]at fr;cases fr
   ·rw[hc]at fr;cases fr
  ·intro z
   have fr:=I.stkFree c z
   rcases hc with rfl | hc
   ·rw[eb]at fr;cases fr
   ·rw[hc]at fr;cases fr
def D5(P:Program)(w:World):EX:=λouter H s E e s'=>∃ (ea:Addr) (cls:Value) (H':Hp),e=.ref ea/\s'.os=s.os/\AllBare s'.gens/\Un (DW outer) [] H H' s.heap s'.heap/\HOk P w H' s'.heap/\Fly (λa=>s.heap.get? a≠none) H' s'.heap ea cls/\E cls none H'
theorem Y8{P:Program}{w:World}{outer:List Env}{H:Hp}{s:Shared}{e:Value}{s':Shared}(h:D5 P w outer H s (λ_ _ _=>False) e s'):False:=by
 obtain⟨_,_,_,_,_,_,_,_,_,f⟩:=h
 exact f
theorem XOk.passes{E:St->XK}(x:XOk X E):FJ (D5 X.prog X.w) X E:=λpins σ H s e s' I h=>by
 obtain⟨ea,cls,H',rfl,os,bare,un,hok,F,q⟩:=h
 refine x.go pins σ H' s' ea cls (I.call' (ch:=[]) os un hok bare λb z=>absurd z (by simp)) (F.mono λa z=> ?_) q
 rcases z with z | ⟨p,hp,rfl⟩
 ·cases q0:X.s₀.heap.get? a with
  | none=>exact absurd q0 z
  | some o =>
   obtain⟨o',e⟩:=I.base.there a o q0 (by rw[x.ex];simp)
   rw[e];simp
 ·rw[(I.pin p hp).1];simp
theorem JN{P:Program}{w:World}:FJ (D5 P w) X (λ_=>E0):=λ_ _ _ _ _ _ _ h=>(Y8 h).elim
end
theorem qD{P:Program}{w:World}{K:W.Frag}{mg:Str->Option Value}{base:Heap}{N:List Str}{qual:Str}{scope:Scope}{f:Addr}{cd:Value}{A:Around}{outer:List Env}{s:Shared}{H:Hp}{E:XK} :
  XOk (GW (D5 P w) P w K mg base N qual scope f cd A outer s H E) (λ_=>E) where
 po:=PassesOwn.leaving
 ex:=rfl
 calm:=rfl
 go:=λpins σ H' s' e cls I F q=>by
  have hfr:(A.deeper (envOfC qual scope s.heap.objs.size f cd)).frames=some (envOfC qual scope s.heap.objs.size f cd::outer):=I.ok.frames
  show wpAny _ _ (leaving _ _) _ _ _
  unfold leaving
  refine wpAny_bind (qB hfr I.stack rfl F (λa z=>I.notbad rfl (qC z)) (λa z=>I.hok.fresh z) λh' N=> ?_)
  have I':=I.noted N
  exact⟨e,cls,H',rfl,I'.os,I'.bare,I'.base,I'.hok,N.fly.mono λa z=>.inl z,q⟩
structure Exc(K:W.Frag)(C:Addr):Prop where
 ex:W.excIn K C [.type "ValueError",.type "Exception",.type "BaseException",.type "object"] "ValueError.__new__"=true
theorem Exc.obj{K:W.Frag}{C:Addr}{h:Heap}(x:Exc K C)(X:K.In h):∃ (tl:List Value) (N:Addr) (nm q:Str) (bs:List Value) (hdct:Bool) (sn:List Str) (sub:List Value) (ab:Bool) (col:Option Bool) (dd:Option Addr) (k0 k1 k2 k3 k5:Option Value) (mN:Str->Option Value),
  h.get? C=some (excClassObj nm q C N bs tl hdct sn sub ab col dd k0 k1 k2 k3 k5 "ValueError.__new__")/\h.Ns N mN/\mN "__init__"=none/\OwnTail h [.type "ValueError",.type "Exception",.type "BaseException",.type "object"] tl:=by
 have q:=x.ex
 unfold W.excIn at q
 split at q
 ·rename_i dd cd sl ho
  split at q
  ·rename_i C' bm k0 k1 k2 k3 n k5 hm hs
   simp only[Bool.and_eq_true,beq_iff_eq,Bool.not_eq_true']at q
   obtain⟨⟨⟨⟨⟨rfl,rfl⟩,hdel⟩,ht⟩,hok⟩,hni⟩:=q
   obtain⟨nm,bs,mro,ns,qn,hd,sn,sub,ab,col,del⟩:=cd
   dsimp only at hm hdel hok hni
   subst hm hdel
   obtain⟨l⟩:=sl
   simp only at hs
   subst hs
   exact⟨bm,ns,nm,qn,bs,hd,sn,sub,ab,col,dd,k0,k1,k2,k3,k5,_,X _ _ ho,.of_isNs (W.isNs_of_in X hok),W.nsMap_none_of_in X hok hni,W.tail_of_in X ht⟩
  ·cases q
 ·cases q
def NR(C:Addr)(E:St->XK)(t:TA):TS:=λ_ σ H=>t σ H λvs H1=>vs.length<=sizeLine/\E σ (.ref C) none H1
section
variable{X:Cx}{E:St->XK}{C:Addr}{x:Str}{np cpos pos:Pos}{e:Expr}{es:List Expr}{t:TA}
theorem S3(hx:XOk X E)(c:Exc X.K C)(hg:Gl X x)(hm:X.mg x=some (.ref C))(ha:PA X (e::es) t)(hdb:(x ==("__debug__":Str))=false:=by decide)
  (he:starEach (e::es) X.env=(false,eval e X.env)::starEach es X.env:=by rfl) (hpl:(backTo cpos (starEach es X.env)).any (·.1)=false:=by rfl) :
  PS X (.Raise (some (.Call (.Name x np) (e::es) [] cpos)) none pos) (NR C E t):=by
 intro pins s σ H D I h
 obtain⟨tl,N,nm,q,bs,hdct,sn,sub,ab,col,dd,k0,k1,k2,k3,k5,mN,hC,hN,hni,T⟩:=c.obj I.mod.kin
 have hpl2:(backTo cpos (starEach (e::es) X.env)).any (·.1)=false:=by
  rw[he]
  show(false || (backTo cpos (starEach es X.env)).any (·.1))=false
  rw[hpl];rfl
 refine wpAny_Raise_call_subT (C:=C) (nm:=nm) (q:=q) (N:=N) (bs:=bs) (bm:=tl) (hdct:=hdct) (sn:=sn) (sub:=sub) (ab:=ab) (col:=col) (dd:=dd) (k0:=k0) (k1:=k1) (k2:=k2) (k3:=k3) (k5:=k5)
  PySem.F.excBase_ValueError (mN:=mN) (T.hasType PySem.F.excBase_ValueError.hasBase) (I.ok.hd hx.calm) hpl2 hni (R6 I hg hm ⟨rfl,?_⟩ hdb)
 have hq:=ha cpos pins s σ H _ I h
 rw[he]at hq ⊢
 refine Calls.evalArgs_plain (AY hq λus s1 ⟨vs,H1,I1,r,hz,q1⟩=>⟨rfl,?_,I1.bk _ _ hC,hN.keeps I1.bk,T.keeps I1.bk,λh' ea hM=> ?_⟩)
 ·show us.length<=_
  rw[<-r.length];exact hz
 ·have I2:Inv X pins σ H1 { s1 with heap:=h' }:=I1.kept (t':=s1.toks) hM.keeps
  obtain⟨tt,h1,h2,h3⟩:=hM.there
  refine hx.go pins σ H1 _ ea (.ref C) I2 ⟨λz=>I1.notbad hx.ex hM.new z,I1.hok.nh hM.new,_,_,h1,rfl,rfl,rfl,.inl rfl⟩ q1
end
end L2
namespace L2
section
variable(P:Program)(w:World)(K:W.Frag)(mg:Str->Option Value)(base:Heap)
structure BM(k:Nat)(x:Str)(ps:List Str)(sp:Sp):Prop where
 ex:∃ (f:Addr) (fd:FuncData),FnOk P w K mg base (D5 P w) k f fd ps sp/\mg x=some (.ref f)/\W.keepIn K (.ref f)=true/\Binds K fd ps []
structure B2(C:Addr)(k:Nat)(m:Str)(ps:List Str)(sp:Sp):Prop where
 ex:∃ (f:Addr) (fd:FuncData),FnOk P w K mg base (D5 P w) k f fd ps sp/\QH K C m f/\Binds K fd ps []
structure NS(C:Addr)(k:Nat)(x:Str)(ps:List Str)(sp:Sp):Prop where
 ex:∃ (f:Addr) (fd:FuncData),FnOk P w K mg base (D5 P w) k f fd ps sp/\Mk K C f/\mg x=some (.ref C)/\Binds K fd ps []
end
section
variable{X:Cx}{E:St->XK}{k:Nat}{x m:Str}{ps:List Str}{sp:Sp}{C:Addr}{p pos apos:Pos}{e o:Expr}{es:List Expr}{ta:TE}{t:TA}
theorem BC(c:BM X.prog X.w X.K X.mg X.base k x ps sp)(hr:Room k X.A)(hp:FJ (D5 X.prog X.w) X E)(hg:Gl X x)(ha:PA X (e::es) t)(hdb:(x ==("__debug__":Str))=false:=by decide)
  (he:starEach (e::es) X.env=(false,eval e X.env)::starEach es X.env:=by rfl) (hpl:(backTo pos (starEach es X.env)).any (·.1)=false:=by rfl):PE X (.Call (.Name x p) (e::es) [] pos) (A9 sp [] E t):=by
 obtain⟨f,fd,F,hm,hk,hb⟩:=c.ex
 exact oK F hr hg hm hk hb .nil hp ha hdb he hpl
theorem DA{pl:Sem Bool}(he:PE X o ta)(cl:Cls X.K C)(c:B2 X.prog X.w X.K X.mg X.base C k m ps sp)(hr:Room k X.A)(hp:FJ (D5 X.prog X.w) X E)(ha:PA X (e::es) t)
  (hst:starEach (e::es) X.env=(false,eval e X.env)::starEach es X.env:=by rfl) (hpl:(backTo pos (starEach es X.env)).any (·.1)=false:=by rfl)
  (ht:eval (.Call (.Attribute o m apos) (e::es) [] pos) X.env=(do
   let ov ← eval o X.env
   standAt apos.atName
   let (f,first) ← holding [ov] (getMethod ov m pl)
   callWith pos f first (backTo pos (starEach (e::es) X.env)) (backToKw pos (keywordEach [] X.env))):=by rfl):PE X (.Call (.Attribute o m apos) (e::es) [] pos) (BT C m sp [] E ta t):=by
 obtain⟨f,fd,F,hm,hb⟩:=c.ex
 exact oM he cl hm F hr hb .nil hp ha hst hpl ht
theorem ES{pl:Sem Bool}(he:PE X o ta)(cl:Cls X.K C)(c:B2 X.prog X.w X.K X.mg X.base C k m ps sp)(hr:Room k X.A)(hp:FJ (D5 X.prog X.w) X E)
  (ht:eval (.Call (.Attribute o m apos) [] [] pos) X.env=(do
   let ov ← eval o X.env
   standAt apos.atName
   let (f,first) ← holding [ov] (getMethod ov m pl)
   callWith pos f first (backTo pos (starEach [] X.env)) (backToKw pos (keywordEach [] X.env))):=by rfl):PE X (.Call (.Attribute o m apos) [] [] pos) (BT C m sp [] E ta AH):=by
 obtain⟨f,fd,F,hm,hb⟩:=c.ex
 exact oN he cl hm F hr hb .nil hp ht
theorem QX(c:NS X.prog X.w X.K X.mg X.base C k x ps sp)(hr:Room (k+1) X.A)(hp:FJ (D5 X.prog X.w) X E)(hg:Gl X x)(ha:PA X (e::es) t)(hdb:(x ==("__debug__":Str))=false:=by decide)
  (he:starEach (e::es) X.env=(false,eval e X.env)::starEach es X.env:=by rfl) (hpl:(backTo pos (starEach es X.env)).any (·.1)=false:=by rfl):PE X (.Call (.Name x p) (e::es) [] pos) (JJ C sp [] E t):=by
 obtain⟨f,fd,F,M,hm,hb⟩:=c.ex
 exact oP M F hr hg hm hb .nil hp ha hdb he hpl
end
theorem Fun.okE{P:Program}{w:World}{K:W.Frag}{mg:Str->Option Value}{base:Heap}{x qual:Str}{st:Stmt}{f:Addr}{fd:FuncData}{N ps:List Str}{k:Nat}{sp:Sp}(F:Fun K x qual st f fd)(S:FnScope N ps (AM st))(len:∀ vs H Q E,sp vs H Q E->vs.length=ps.length)
  (hbody:∀ (cdv:Value) (A:Around) (outer:List Env) (s:Shared) (H:Hp) (vs:List V) (Q:VK) (E:XK),Room k (A.deeper (envOfC qual (AM st) s.heap.objs.size f cdv))->sp vs H Q E →
   ∃ t,PSs (GW (D5 P w) P w K mg base N qual (AM st) f cdv A outer s H E) (A6 st) t/\t { nx:=λ_ H'=>Q .non H',rt:=Q } (A1 N vs) H):FnOk P w K mg base (D5 P w) (k+1) f fd ps sp:=by
 obtain⟨oc,od,kV,doc,pm,an,cdv,ct,osl,rfl,l,c⟩:=F.ex
 exact YB l c S len λA outer s H vs Q E hr h=>hbody cdv A outer s H vs Q E hr h
def GV(mg:Str->Option Value)(x:Str)(v:V):Prop:=∃ u,mg x=some u/\RelV v u
abbrev Cx.tri(X:Cx)(pn:List (Addr × Obj))(xe:Value->Shared->Prop):Cx:={ X with pn:=pn,xe:=xe }
abbrev Cx.hand(X:Cx)(e:Addr):Cx:={ X with A:=X.A.mark (some (.ref e)),calm:=false,xe:=λ_ _=>False }
section
variable{X:Cx}{pins:List (Addr × Obj)}{σ:St}{H:Hp}{s:Shared}
theorem Cx.Ok.tri{pn:List (Addr × Obj)}{xe:Value->Shared->Prop}(ok:X.Ok):(X.tri pn xe).Ok :=
 ⟨ok.mod,ok.kind,ok.glob,ok.blt,ok.above,ok.inj,ok.has,ok.cab,ok.hd,ok.frames,ok.stk,ok.exf,ok.bs,ok.bsz,ok.noex,ok.exfs,ok.funs,ok.frf⟩
theorem Inv.tri{xe:Value->Shared->Prop}(I:Inv X pins σ H s):Inv (X.tri (X.pn++pins) xe) [] σ H s :=
 ⟨I.ok.tri,I.os,I.bare,I.base,I.loc,I.cell,I.free,I.freeC,λp hp=>I.pin p (by simpa using hp),I.hok,I.len⟩
theorem Cx.Ok.untri{pn:List (Addr × Obj)}{xe:Value->Shared->Prop}(ok:(X.tri pn xe).Ok):X.Ok :=
 ⟨ok.mod,ok.kind,ok.glob,ok.blt,ok.above,ok.inj,ok.has,ok.cab,ok.hd,ok.frames,ok.stk,ok.exf,ok.bs,ok.bsz,ok.noex,ok.exfs,ok.funs,ok.frf⟩
theorem Inv.untri{pl:List (Addr × Obj)}{xe:Value->Shared->Prop}(I:Inv (X.tri (X.pn++pins) xe) pl σ H s):Inv X pins σ H s :=
 ⟨I.ok.untri,I.os,I.bare,I.base,I.loc,I.cell,I.free,I.freeC,λp hp=>I.pin p (List.mem_append_left _ hp),I.hok,I.len⟩
theorem Cx.Ok.hand{e:Addr}(ok:X.Ok):(X.hand e).Ok :=
 ⟨ok.mod,ok.kind,ok.glob,ok.blt,ok.above,ok.inj,ok.has,ok.cab,(λz=>nomatch z),ok.frames,ok.stk,ok.exf,ok.bs,ok.bsz,ok.noex,ok.exfs,ok.funs,ok.frf⟩
theorem Inv.hand{e:Addr}(I:Inv X pins σ H s):Inv (X.hand e) pins σ H s:=⟨I.ok.hand,I.os,I.bare,I.base,I.loc,I.cell,I.free,I.freeC,I.pin,I.hok,I.len⟩
theorem Inv.unhand{e:Addr}(ok:X.Ok)(I:Inv (X.hand e) pins σ H s):Inv X pins σ H s:=⟨ok,I.os,I.bare,I.base,I.loc,I.cell,I.free,I.freeC,I.pin,I.hok,I.len⟩
end
def NT(e:Addr)(cls:Value):Heap->Prop:=λh=>∃ oe vs,h.get? e=some oe/\oe.cls=cls/\oe.dict=none/\oe.data=.fields vs
abbrev TH:=Value->Ends->St->Hp->Prop
def Ends.drop(D:Ends)(i:Nat):Ends:={ nx:=λσ H=>D.nx (σ.set i none) H,rt:=D.rt,bk:=λσ H=>D.bk (σ.set i none) H,ct:=λσ H=>D.ct (σ.set i none) H }
def qE(tb:(St->XK)->TS)(th:TH):TS:=λD σ H=>tb (λσ' cls _ H'=>th cls D σ' H') D σ H
section
variable{X:Cx}{hs:List ExceptHandler}{h₀:ExceptHandler}{th:TH}{body:List Stmt}{tb:(St->XK)->TS}{pos:Pos}
theorem SP.unhand{pins:List (Addr × Obj)}{D:Ends}{e:Addr}{f:Flow}{s:Shared}(ok:X.Ok)(h:SP (X.hand e) pins D f s):SP X pins D f s:=by
 cases f with
 | next=>obtain⟨σ1,H1,I1,q⟩:=h;exact⟨σ1,H1,I1.unhand ok,q⟩
 | brk=>obtain⟨σ1,H1,I1,q⟩:=h;exact⟨σ1,H1,I1.unhand ok,q⟩
 | cont=>obtain⟨σ1,H1,I1,q⟩:=h;exact⟨σ1,H1,I1.unhand ok,q⟩
 | ret u=>obtain⟨v,σ1,H1,I1,r,q⟩:=h;exact⟨v,σ1,H1,I1.unhand ok,r,q⟩
end
end L2
namespace L2
mutual
inductive Rep(K:W.Frag)(H:Hp):V->PyData->Prop
 | non:Rep K H .non .none
 | bl (b:Bool):Rep K H (.bl b) (.bool b)
 | int (i:Int):Rep K H (.int i) (.int i)
 | str (x:Str):Rep K H (.str x) (.str x)
 | lst {a:Addr} {xs:List V} {ds:List PyData}:SqL K H a xs->RepAll K H xs ds->Rep K H (.ref a) (.list ds)
 | tup {a:Addr} {xs:List V} {ds:List PyData}:SqT K H a xs->RepAll K H xs ds->Rep K H (.ref a) (.tuple ds)
inductive RepAll(K:W.Frag)(H:Hp):List V->List PyData->Prop
 | nil:RepAll K H [] []
 | cons {v:V} {d:PyData} {vs:List V} {ds:List PyData}:Rep K H v d->RepAll K H vs ds->RepAll K H (v::vs) (d::ds)
end
section
variable{X:Cx}{pins:List (Addr × Obj)}{σ:St}{H:Hp}{s:Shared}
mutual
theorem Rep.reads(I:Inv X pins σ H s):∀ {v:V} {d:PyData} {u:Value},Rep X.K H v d->RelV v u->∃ as,Reads s.heap u d as
 | _,_,_,.non,r=>by cases (show _=Value.none from r);exact⟨_,.none⟩
 | _,_,_,.bl b,r=>by cases (show _=Value.bool b from r);exact⟨_,.bool b⟩
 | _,_,_,.int i,r=>by obtain⟨t,e⟩:=(show ∃ t,_=Value.int i t from r);cases e;exact⟨_,.int i t⟩
 | _,_,_,.str x,r=>by obtain⟨t,e⟩:=(show ∃ t,_=Value.str x t from r);cases e;exact⟨_,.str x t⟩
 | _,_,_,.lst (a:=a) h hr,r=>by
  cases (show _=Value.ref a from r)
  obtain⟨its,rv,p,_⟩:=I.list h
  obtain⟨as,q⟩:=RepAll.reads I hr rv
  obtain⟨o,e1,e2,n,e3⟩:=p.isList
  exact⟨_,.list e1 e2 e3 q⟩
 | _,_,_,.tup (a:=a) h hr,r=>by
  cases (show _=Value.ref a from r)
  obtain⟨its,rv,p,_⟩:=I.tuple h
  obtain⟨as,q⟩:=RepAll.reads I hr rv
  obtain⟨o,e1,e2,n,e3⟩:=p
  exact⟨_,.tuple e1 e2 e3 q⟩
theorem RepAll.reads(I:Inv X pins σ H s):∀ {vs:List V} {ds:List PyData} {us:List Value},RepAll X.K H vs ds->Vals vs us->∃ as,ReadsAll s.heap us ds as
 | _,_,_,.nil,.nil=>⟨_,.nil⟩
 | _,_,_,.cons h hr,.cons r rr=>by
  obtain⟨as,q⟩:=Rep.reads I h r
  obtain⟨bs,q2⟩:=RepAll.reads I hr rr
  exact⟨_,.cons q q2⟩
end
end
abbrev shp(d:PyData):Prop:=PySem.SeqAt.shaped d=true
def BY(K:W.Frag):R2:=λx y H Q=>if D4 x y=true then Q (.bl (decide (x=y))) H else ∃ d e,Rep K H x d/\Rep K H y e/\shp d/\shp e/\Q (.bl (PyData.eqv d e)) H
def B1(K:W.Frag):R2:=λx y H Q=>if D4 x y=true then Q (.bl (!decide (x=y))) H else ∃ d e,Rep K H x d/\Rep K H y e/\shp d/\shp e/\Q (.bl (!PyData.eqv d e)) H
section
variable{X:Cx}
theorem DH(hu:X.A.units+64<cLine):OpR X (compareOp .Eq) (BY X.K):=by
 intro pins s σ H x y v u Q I rx ry h
 unfold BY at h
 split at h
 ·rename_i hs
  exact nH pins s σ H x y v u Q I rx ry ⟨hs,h⟩
 ·obtain⟨d,e,rd,re,sd,se,q⟩:=h
  obtain⟨as,ra⟩:=rd.reads I rx
  obtain⟨bs,rb⟩:=re.reads I ry
  exact eq_dataH ra rb sd se hu ⟨.bl _,H,I,rfl,q⟩
theorem EK(hu:X.A.units+64<cLine):OpR X (compareOp .NotEq) (B1 X.K):=by
 intro pins s σ H x y v u Q I rx ry h
 unfold B1 at h
 split at h
 ·rename_i hs
  exact nJ pins s σ H x y v u Q I rx ry ⟨hs,h⟩
 ·obtain⟨d,e,rd,re,sd,se,q⟩:=h
  obtain⟨as,ra⟩:=rd.reads I rx
  obtain⟨bs,rb⟩:=re.reads I ry
  exact ne_dataH ra rb sd se hu ⟨.bl _,H,I,rfl,q⟩
def S5(K:W.Frag):R2:=λx y H Q=>∃ a b ys,x=.ref a/\y=.ref b/\SqT K H a []/\SqT K H b ys/\Q (.ref b) H
theorem qF:OpR X (binaryOp .Add) (S5 X.K):=by
 intro pins s σ H x y v u Q I rx ry h
 obtain⟨a,b,ys,rfl,rfl,ha,hb,q⟩:=h
 cases rx
 cases ry
 obtain⟨its,r1,⟨⟨c1,c2,c3,c4⟩,e1,e2,n1,e3⟩,_⟩:=I.tuple ha
 obtain⟨its2,r2,⟨⟨d1,d2,d3,d4⟩,f1,f2,n2,f3⟩,_⟩:=I.tuple hb
 obtain rfl:c1=_:=e2
 obtain rfl:c3=_:=e3
 obtain rfl:d1=_:=f2
 obtain rfl:d3=_:=f3
 cases r1
 exact concat_meets ⟨_,e1,rfl⟩ ⟨_,f1,rfl⟩ noFill_tuple_add seq_tuple_add PySem.F.slot_tuple_add PySem.F.entry_tuple_add (PySem.F.args_tuple_add_2 _ _) (tuple_addW0 a b #[] its2.toArray n1 n2 c2 d2 c4 d4 rfl) ⟨e1,f1,.ref b,H,I,rfl,q⟩
def A7(K:W.Frag):R2:=λx y H Q=>match x,y with
 | .int i,.int j=>Q (.int (i+j)) H
 | .str i,.str j=>i.length+j.length<=sizeLine/\Q (.str (i++j)) H
 | .ref _,.ref _=>ST x y H Q\/SM K x y H Q\/S5 K x y H Q
 | _,_=>False
theorem BK:OpR X (binaryOp .Add) (A7 X.K):=by
 intro pins s σ H x y v u Q I rx ry h
 cases x<;>cases y<;>simp only[A7]at h
 ·exact m9 pins s σ H _ _ v u Q I rx ry ⟨_,_,rfl,rfl,h⟩
 ·exact nY pins s σ H _ _ v u Q I rx ry ⟨_,_,rfl,rfl,h⟩
 ·rcases h with h | h
  ·exact pI pins s σ H _ _ v u Q I rx ry h
  rcases h with h | h
  ·exact oY pins s σ H _ _ v u Q I rx ry h
  ·exact qF pins s σ H _ _ v u Q I rx ry h
def ID:R2:=λx y H Q=>match x,y with
 | .int i,.int j=>Q (.bl (decide (i<j))) H
 | .str i,.str j=>Q (.bl (decide (i.cps.toList<j.cps.toList))) H
 | _,_=>False
def NU:R2:=λx y H Q=>match x,y with
 | .int i,.int j=>Q (.bl (decide (i<=j))) H
 | .str i,.str j=>Q (.bl (!decide (j.cps.toList<i.cps.toList))) H
 | _,_=>False
end
end L2
namespace L2
theorem qG:fillsNumberSlot (.type "tuple") "mul"=pure false :=
 PySem.fillsNumberSlot_seq (id:="tuple.__mul__") (r:=some (.builtin "tuple.__rmul__")) F.slot_tuple_mul.lookup (by decide +kernel) F.slot_tuple_rmul.lookup (by decide +kernel)
theorem qH:seqRepeat? (.type "tuple")=pure (some (.builtin "tuple.__mul__")):=by
 unfold seqRepeat?
 rw[PySem.seqSlot_of (T:="tuple") (name:="__mul__") (id:="tuple.__mul__") F.slot_tuple_mul.lookup (by decide +kernel),PySem.seqSlot_of (T:="tuple") (name:="__rmul__") (id:="tuple.__rmul__") F.slot_tuple_rmul.lookup (by decide +kernel)]
 rfl
theorem qI(a:Int)(t:Tok)(l:Addr)(items:Array Value)(dd:Option Addr)(n:Nat)(sl:Array (Option Value)) :
  Meets (Builtin.«int.__rmul__» ⟨[.int a t,.ref l],[]⟩) (λ_ R s=>s.heap.get? l=some ⟨.type "tuple",dd,.seq items n,sl⟩/\R (.ok (.ret Value.notImplemented)) s) :=
 .of_wp λprog w A R s h=>by obtain⟨hp,g,d,tk,os⟩:=s;obtain⟨hl,h⟩:=h;wp_walk;exact⟨_,rfl,h⟩
theorem qJ(l:Addr)(items:Array Value)(dd:Option Addr)(n:Nat)(sl:Array (Option Value))(x:Int)(u:Tok)(h1:1<x)(h2:x<2 ^ 63)(hne:items.isEmpty=false)(hz:items.size * x.toNat<=sizeLine) :
  Meets (Builtin.«tuple.__mul__» ⟨[.ref l,.int x u],[]⟩) (λ_ R s=>s.heap.get? l=some ⟨.type "tuple",dd,.seq items n,sl⟩ ∧
   R (.ok (.ret (Value.ref s.heap.objs.size))) { s with heap:=s.heap.push { cls:=Value.type "tuple",data:=Data.seq (List.foldl (λx1 x2=>x1++x2) #[] (List.replicate x.toNat items)) } }) :=
 .of_wp λprog w A R s h=>by
  obtain⟨hp,g,d,tk,os⟩:=s;obtain⟨hl,h⟩:=h
  have hsl:(sizeLine:Nat)<=(2 ^ 63 - 1) / 8:=by decide
  have hlen:(List.foldl (λx1 x2=>x1++x2) #[] (List.replicate x.toNat items)).size<=sizeLine:=by
   have:=QJ items.toList x.toNat []
   simp only[List.nil_append,Array.toArray_toList]at this
   rw[this]
   simp only[List.size_toArray,List.length_flatten,List.map_replicate,List.sum_replicate_nat,Array.length_toList]
   rw[Nat.mul_comm];exact hz
  have hx:∃ N:Nat,(items.size:Int) * x=(N:Int)/\N<=sizeLine:=⟨items.size * x.toNat,by rw[Int.natCast_mul,Int.toNat_of_nonneg (by omega)],hz⟩
  obtain⟨N,hx,hN⟩:=hx
  unfold Builtin.«tuple.__mul__»
  wp_walk
  refine wpAny_ite_false (by simp;omega) ?_
  wp_walk
  refine wpAny_ite_false (by simp only[hne,Bool.false_or];simp;omega) ?_
  refine wpAny_ite_false (by simp only[hne,Bool.or_false];simp;omega) ?_
  refine wpAny_ite_false (by rw[hx];exact decide_eq_false (by omega)) ?_
  refine wpAny_ite_false (by rw[hx];unfold Builtin.Tuple.tupleTooMany;simp;omega) ?_
  wp_walk
  exact⟨_,rfl,h⟩
theorem qK(l:Addr)(items:Array Value)(dd:Option Addr)(n:Nat)(sl:Array (Option Value))(u:Tok) :
  Meets (Builtin.«tuple.__mul__» ⟨[.ref l,.int 1 u],[]⟩) (λ_ R s=>s.heap.get? l=some ⟨.type "tuple",dd,.seq items n,sl⟩/\R (.ok (.ret (Value.ref l))) s) :=
 .of_wp λprog w A R s h=>by
  obtain⟨hp,g,d,tk,os⟩:=s;obtain⟨hl,h⟩:=h
  unfold Builtin.«tuple.__mul__»
  wp_walk
  exact⟨_,rfl,h⟩
def S6(K:W.Frag):R2:=λx y H Q=>∃ a k xs,x=.ref a/\y=.int k/\SqT K H a xs/\xs≠[]/\1<=k/\k<2 ^ 63/\xs.length * k.toNat<=sizeLine ∧
 (k=1->Q (.ref a) H)/\(k≠1->∀ p,H p=none->Q (.ref p) (upd H p (.tup (List.replicate k.toNat xs).flatten)))
section
variable{X:Cx}
theorem Inv.tnew{pins:List (Addr × Obj)}{σ:St}{H:Hp}{s:Shared}{ys:List V}{its:List Value}(I:Inv X pins σ H s)(hv:Vals ys its)(hz:ys.length<=sizeLine) :
  Inv X pins σ (upd H s.heap.objs.size (.tup ys)) { s with heap:=s.heap.push { cls:=.type "tuple",data:=.seq its.toArray } } :=
 I.laid (t':=s.toks) (λ_ _ q=>Heap.get?_push_of_some _ q) (Nat.le_refl _) ⟨hz,its,hv,_,Heap.get?_push_size _ rfl,rfl,0,rfl⟩
theorem qL:OpR X (binaryOp .Mult) (S6 X.K):=by
 intro pins s σ H x y v u Q I rx ry h
 obtain⟨a,k,xs,rfl,rfl,hx,hne,h1,h2,hz,q1,q2⟩:=h
 cases rx
 obtain⟨t,rfl⟩:=ry
 obtain⟨its,r,⟨⟨c1,c2,c3,c4⟩,e1,e2,n,e3⟩,_⟩:=I.tuple hx
 obtain rfl:c1=_:=e2
 obtain rfl:c3=_:=e3
 have hl:=r.length
 have he:its.toArray.isEmpty=false:=by
  cases its with
  | nil=>exact absurd (List.length_eq_zero_iff.mp hl) hne
  | cons b t=>rfl
 refine wpAny_binaryOp_repeat_ref (T:="tuple") (U:="int") (by decide) ⟨_,e1,rfl⟩ (λs'=>typeIs_int s' k t) qG F.fills_int_mul F.slot_int_rmul qH F.slot_int_index.lookup
  (call_meets F.slot_int_rmul (typeIs_int s k t) F.entry_int_rmul (F.args_int_rmul_2 _ _) (qI k t a its.toArray c2 n c4) ⟨e1,rfl,⟨_,e1,rfl⟩,?_⟩)
 by_cases hk:k=1
 ·subst hk
  exact call_meets F.slot_tuple_mul ⟨_,e1,rfl⟩ F.entry_tuple_mul (F.args_tuple_mul_2 _ _) (qK a its.toArray c2 n c4 t) ⟨e1,.ref a,H,I,rfl,q1 rfl⟩
 ·refine call_meets F.slot_tuple_mul ⟨_,e1,rfl⟩ F.entry_tuple_mul (F.args_tuple_mul_2 _ _) (qJ a its.toArray c2 n c4 k t (by omega) h2 he (by rw[List.size_toArray,<-hl];exact hz)) ⟨e1,?_⟩
  have f0:=QJ its k.toNat []
  rw[List.nil_append]at f0
  rw[f0]
  exact⟨.ref _,_,I.tnew (r.rep k.toNat) (by rw[YS,Nat.mul_comm];exact hz),rfl,q2 hk _ I.fresh⟩
abbrev QY:R2:=GT λi j=>.int (i - j)
abbrev B3:R2:=rI (λ_ j=>0<j) λi j=>.int (i % j)
abbrev FA:R2:=rI XR λi j=>.int (i / j)
abbrev Y9:R2:=rI XS λi j=>.int (i ^ j.toNat)
abbrev qM:V->Hp->VK->Prop:=rU λi=>.int (-i)
abbrev qN:P0:=SA λi j=>i+j
def IE(z:Str)(k:Int):Str:=if k<1 then Str.empty else if(k == 1 || z.length == 0)=true then z else⟨(List.replicate k.toNat z.cps).foldl (· ++·) #[]⟩
theorem qO(z:Str)(k:Nat):(Str.mk ((List.replicate k z.cps).foldl (· ++·) #[])).length=k * z.length:=by
 have e:∀ (m:Nat) (acc:Array Nat),((List.replicate m z.cps).foldl (· ++·) acc).size=acc.size+m * z.cps.size:=λm=>by
  induction m with
  | zero=>intro acc;simp
  | succ m ih=>intro acc;rw[List.replicate_succ,List.foldl_cons,ih,Array.size_append,Nat.succ_mul];omega
 have:=e k #[]
 simpa [Str.length]using this
def qP:R2:=λx y H Q=>∃ z k,x=.str z/\y=.int k/\0<=k/\k<=1000/\z.length<=1000/\Q (.str (IE z k)) H
theorem qQ:OpR X (binaryOp .Mult) qP:=by
 intro pins s σ H x y v u Q I rx ry h
 obtain⟨z,k,rfl,rfl,h1,h2,h3,q⟩:=h
 obtain⟨t,rfl⟩:=rx
 obtain⟨t',rfl⟩:=ry
 refine PySem.P.mul_str (by simp;omega) (λa _=> ?_) (λa _=> ?_) ?_
 ·have:(1000:Int)<=(2 ^ 63 - 1) / k:=(Int.le_ediv_iff_mul_le (by omega)).mpr (by omega)
  omega
 ·have h4:z.length * k.toNat<=1000 * 1000:=Nat.mul_le_mul h3 (by omega)
  have h5:(1000 * 1000:Nat)<=sizeLine:=by decide
  unfold Builtin.Str.tooLong
  exact decide_eq_false (by omega)
 ·unfold IE at q
  split
  ·rename_i c
   rw[if_pos c]at q
   exact⟨by show(0:Nat)<=sizeLine;omega,.str _,H,I.tok _,⟨_,rfl⟩,q⟩
  ·rename_i c
   rw[if_neg c]at q
   split
   ·rename_i d
    rw[if_pos d]at q
    exact⟨.str _,H,I,⟨_,rfl⟩,q⟩
   ·rename_i d
    rw[if_neg d]at q
    exact⟨by rw[qO];have:=Nat.mul_le_mul (show k.toNat<=1000 by omega) h3;show _<=2 ^ 24;omega,.str _,H,I.tok _,⟨_,rfl⟩,q⟩
def DZ(K:W.Frag):R2:=λx y H Q=>match x,y with
 | .int i,.int j=>CMul i j/\Q (.int (i * j)) H
 | .str z,.int k=>0<=k/\k<=1000/\z.length<=1000/\Q (.str (IE z k)) H
 | .ref _,.int _=>SU x y H Q\/S6 K x y H Q
 | _,_=>False
theorem E3:OpR X (binaryOp .Mult) (DZ X.K):=by
 intro pins s σ H x y v u Q I rx ry h
 cases x<;>cases y<;>simp only[DZ]at h
 ·exact nB pins s σ H _ _ v u Q I rx ry ⟨_,_,rfl,rfl,h⟩
 ·exact qQ pins s σ H _ _ v u Q I rx ry ⟨_,_,rfl,rfl,h⟩
 ·rcases h with h | h
  ·exact pJ pins s σ H _ _ v u Q I rx ry h
  ·exact qL pins s σ H _ _ v u Q I rx ry h
def GA:R2:=λx y H Q=>match x,y with
 | .int i,.int j=>Q (.bl (decide (j<i))) H
 | _,_=>False
def qR:R2:=λx y H Q=>match x,y with
 | .int i,.int j=>Q (.bl (decide (j<=i))) H
 | _,_=>False
theorem QZ:OpR X (compareOp .Lt) ID:=by
 intro pins s σ H x y v u Q I rx ry h
 cases x<;>cases y<;>simp only[ID]at h
 ·exact nK pins s σ H _ _ v u Q I rx ry ⟨_,_,rfl,rfl,h⟩
 ·obtain⟨t,rfl⟩:=rx
  obtain⟨t',rfl⟩:=ry
  exact PySem.P.lt_str ⟨.bl _,H,I,rfl,h⟩
theorem qS:OpR X (compareOp .LtE) NU:=by
 intro pins s σ H x y v u Q I rx ry h
 cases x<;>cases y<;>simp only[NU]at h
 ·exact nQ pins s σ H _ _ v u Q I rx ry ⟨_,_,rfl,rfl,h⟩
 ·obtain⟨t,rfl⟩:=rx
  obtain⟨t',rfl⟩:=ry
  exact PySem.P.le_str ⟨.bl _,H,I,rfl,h⟩
theorem IF:OpR X (compareOp .Gt) GA:=by
 intro pins s σ H x y v u Q I rx ry h
 cases x<;>cases y<;>simp only[GA]at h
 exact nS pins s σ H _ _ v u Q I rx ry ⟨_,_,rfl,rfl,h⟩
abbrev FM:R2:=λx y H Q=>y=.non/\Q (.bl (decide (x=.non))) H
abbrev IG:R2:=λx y H Q=>y=.non/\Q (.bl (!decide (x=.non))) H
variable{a:Expr}{ta:TE}{tA:TT}{pos:Pos}
abbrev HI(K:W.Frag)(ta:TE):TT:=λσ H Q=>ta σ H λx H'=>∃ k,DY K x H' k/\Q k H'
def AK(K:W.Frag):R2:=YL K
theorem AO:IxR X (AK X.K):=o7
def qT:V->Option Int->Option Int->Hp->VK->Prop:=λx lo hi H Q=>∃ z,x=.str z/\z.length<=sizeLine/\Q (.str (Txt.slice z lo hi)) H
theorem ZA{v:Value}{lo:Option Int}(p:IsPart v lo):∃ l:Option (Int × Tok),v=partValue l/\l.map (·.1)=lo:=by
 cases p with
 | none=>exact⟨none,rfl,rfl⟩
 | int i t=>exact⟨some (i,t),rfl,rfl⟩
theorem qU:SlR X qT:=by
 intro pins s σ H x v vl vu lo hi sl Q I rx hs pl pu h
 obtain⟨z,rfl,hz,q⟩:=h
 obtain⟨t,rfl⟩:=rx
 obtain⟨l,rfl,rfl⟩:=ZA pl
 obtain⟨u,rfl,rfl⟩:=ZA pu
 refine⟨"str",_,PySem.F.slot_str_getitem.lookup,typeIs_str _ _ _,?_⟩
 exact wpAny_getItem_str_slice (l:=l) (u:=u) (st:=none) hs rfl (post_val_or_str ⟨Nat.le_trans (Txt.slice_le z _ _) hz,λt' k=>⟨.str _,H,I.tok k,⟨t',rfl⟩,q⟩⟩)
def IH(K:W.Frag):V->Option Int->Option Int->Hp->VK->Prop:=λx lo hi H Q=>match x with
 | .str z=>z.length<=sizeLine/\Q (.str (Txt.slice z lo hi)) H
 | _=>YN K x lo hi H Q\/YG K x lo hi H Q
theorem NV:SlR X (IH X.K):=by
 intro pins s σ H x v vl vu lo hi sl Q I rx hs pl pu h
 cases x<;>first
  | exact qU pins s σ H _ v vl vu lo hi sl Q I rx hs pl pu ⟨_,rfl,h⟩
  | exact(SlR.or pC oX) pins s σ H _ v vl vu lo hi sl Q I rx hs pl pu h
abbrev CK:V->V->V->Hp->(Hp->Prop)->Prop:=YM
theorem D6:R9 X CK:=o9
def C1(K:W.Frag)(tl:TE):TI:=λσ H R=>tl σ H λx H1=>∃ a,x=.ref a/\(((∃ xs,SqL K H1 a xs)/\R (E9 K a) H1)\/((∃ xs,SqT K H1 a xs)/\R (NF K a) H1))
theorem PI.or{tg it:Expr}{w1 w2:TI}(h1:PI X tg it w1)(h2:PI X tg it w2):PI X tg it (λσ H R=>w1 σ H R\/w2 σ H R):=λpins s σ H R I h=>h.elim (h1 pins s σ H R I) (h2 pins s σ H R I)
def CL(K:W.Frag):List V->Hp->VK->Prop:=λxs H Q=>∃ x n,xs=[x]/\JI K x H n/\Q (.int n) H
theorem CT:CallR X (.builtin "len") (CL X.K):=nZ
def JO(K:W.Frag):List V->Hp->VK->Prop:=λxs H Q=>∃ p ys,xs=[.ref p]/\(SqL K H p ys\/SqT K H p ys)/\∀ l,H l=none->Q (.ref l) (upd H l (.lst ys))
theorem S8:CallR X (.type "list") (JO X.K):=pD
def NW(K:W.Frag):List V->Hp->VK->Prop:=λxs H Q=>∃ p ys,xs=[.ref p]/\((SqL K H p ys/\∀ l,H l=none->Q (.ref l) (upd H l (.tup ys)))\/(SqT K H p ys/\Q (.ref p) H))
theorem ZB:CallR X (.type "tuple") (NW X.K):=pE
def JP(K:W.Frag):List V->Hp->VK->Prop:=λxs H Q=>(∃ i,xs=[.int i]/\Q (.int i) H)\/∃ k,xs=[.bl k]/\Q (.int (if k then 1 else 0)) H
abbrev II:=SS
abbrev qV:=YQ
abbrev qW:=YR
end
end L2
namespace L2
section
variable{X:Cx}{tg a:Expr}{ta:TE}{pos:Pos}
theorem DM{l:Expr}{tl:TE}(hl:PE X l tl):PI X tg l (C1 X.K tl):=by
 intro pins s σ H R I h
 refine AY (hl pins s σ H _ I h) λv s1 ⟨x,H1,I1,r1,q1⟩=> ?_
 obtain⟨a,e,q1⟩:=q1
 subst e
 cases r1
 have fp1:∀ b∈[s1.heap.objs.size],FpOk X pins H1 b:=λb hb=>by
  have e:b=s1.heap.objs.size:=by simpa using hb
  subst e
  exact I1.fpOk (Nat.le_refl _) (I1.hok.fresh (Nat.le_refl _))
 rcases q1 with⟨⟨xs,hq⟩,q⟩ | ⟨⟨xs,hq⟩,q⟩
 ·obtain⟨its,rv,p,hz⟩:=I1.list hq
  refine wpAny_pyIter_list p.isList ?_
  exact⟨s1.heap.objs.size,[s1.heap.objs.size],_,_,H1,rfl,I1.kept (t':=s1.toks) λb o e=>Heap.get?_push_of_some _ e,mU a _,⟨_,Heap.get?_push_size _ rfl,rfl,rfl⟩,fp1,q⟩
 ·obtain⟨its,rv,p,hz⟩:=I1.tuple hq
  refine wpAny_pyIter_tuple (show s1.heap.IsTuple a its.toArray from p) ?_
  exact⟨s1.heap.objs.size,[s1.heap.objs.size],_,_,H1,rfl,I1.kept (t':=s1.toks) λb o e=>Heap.get?_push_of_some _ e,mV a _,⟨_,Heap.get?_push_size _ rfl,rfl,rfl⟩,fp1,q⟩
def qX(K:W.Frag)(ta:TE):TE:=λσ H Q=>ta σ H λx H1=>∃ k,DY K x H1 k/\Q (.bl (!k)) H1
end
def ZC(scope outer:Scope)(N cn:List Str)(cap:List Nat):Bool :=
 scope.kind == .function && scope.names.all (λy=>y.2 != .cell) && scope.names.all (λy=>y.2 != .local || scope.names.lookup y.1 == some .local) &&
 scope.names.all (λy=>y.2 != .free || outer.names.lookup y.1 == some .cell || outer.names.lookup y.1 == some .free) && cn.all (λx=>scope.names.lookup x == some .free) && (cap.map (λi=>N[i]?) == cn.map some)
theorem B4{X:Cx}{scope outer:Scope}{N tn cn:List Str}{cap:List Nat}(h1:X.env.scope=outer)(h2:X.N=N)(h:ZC scope outer N cn cap=true):NP X scope tn cn cap:=by
 unfold ZC at h
 simp only[Bool.and_eq_true,List.all_eq_true,Bool.or_eq_true,bne_iff_ne,beq_iff_eq]at h
 obtain⟨⟨⟨⟨⟨k1,k2⟩,k3⟩,k4⟩,k5⟩,k6⟩:=h
 refine⟨k1,k2,λy hy hl=>(k3 y hy).resolve_left λz=>z hl,λy hy hf=> ?_,k5,by rw[h2];exact k6⟩
 have z:=k4 y hy
 show X.env.scope.names.lookup y.1=_\/X.env.scope.names.lookup y.1=_
 rw[h1]
 rcases z with(z | z) | z
 ·exact absurd hf z
 ·exact .inl z
 ·exact .inr z
structure Q0(K:W.Frag)(C:Addr):Prop where
 ga:W.findIn K (.ref C) "__getattribute__"=some (some (.builtin "BaseException.__getattribute__"))
 gt:W.findIn K (.ref C) "__getattr__"=some none
 be:W.mroIn K C (.type "BaseException")=some true
 cl:W.isClsIn K C=true
 ha:W.findIn K (.ref C) "__class__"=some (some (.builtin "object.__class__"))
 hn:W.specialIn K (.builtin "object.__class__") "__get__"=some (some (.builtin "getset_descriptor.__get__"))
 tk:W.takesIn K (.builtin "object.__class__")=some true
 mr:W.mroIn K C (.type "object")=some true
theorem qY{K:W.Frag}{C:Addr}{od:Option Obj}{name:Str}{a g:Value}(hc:(W.clsIn K C).isSome=true)(ha:W.findIn K (.ref C) name=some (some a))(hg:W.specialIn K a "__get__"=some (some g))(ht:W.takesIn K a=some true) :
  W.findObj K C od name=some (.bind g a):=by
 obtain⟨cd,hc⟩:=Option.isSome_iff_exists.mp hc
 unfold W.findObj
 rw[hc,Option.bind_some,ha,Option.bind_some]
 simp[hg,ht]
theorem qZ{K:W.Frag}{M:Model}{A:Around}{E:Value->Shared->Prop}{Q:Unit->Shared->Prop}{s:Shared}{x D:Addr}{ox:Obj}{nm:Value}(c:Q0 K D)(X:K.In s.heap)(I:W.InstAt s.heap x ox D none)(k:Q () s) :
  wpAny M A (checkBuiltinCall "BaseException.__getattribute__" ⟨[.ref x,nm],[]⟩) Q E s:=by
 have e1:builtinKind "BaseException.__getattribute__"=some .slot:=by decide +kernel
 have e2:splitId "BaseException.__getattribute__"=some ("BaseException","__getattribute__"):=by decide +kernel
 have L:W.Looks M s.heap (isInstance (.ref x) (.type "BaseException")) true:=(I.type (M:=M)).andThen (W.looks_mroIn (M:=M) X c.be)
 have ar:=PySem.F.args_bexc_ga (.ref x) nm
 obtain⟨hh,g,d,t,os⟩:=s
 simp only[checkBuiltinCall,e1,e2]
 refine wpAny_bind (L.at ?_)
 simp only[Bool.not_true,Bool.false_eq_true,if_false]
 cases hs:Manifest.signature? "BaseException.__getattribute__" with
 | none=>exact wpAny_pure k
 | some sig =>
  simp only[argsOk,hs]at ar
  have z:Bind.checkArgs "BaseException.__getattribute__" sig ⟨[.ref x,nm],[]⟩=pure ():=ar
  show wpAny M A (Bind.checkArgs "BaseException.__getattribute__" sig ⟨[.ref x,nm],[]⟩) Q E _
  rw[z];exact wpAny_pure k
theorem rA{K:W.Frag}{prog:Program}{w:World}{A:Around}{E:Value->Shared->Prop}{Q:Option Value->Shared->Prop}{s:Shared}{x D:Addr}{ox:Obj}(c:Q0 K D)(X:K.In s.heap)(I:W.InstAt s.heap x ox D none)
  (k:Q (some (.ref D)) { s with toks:=s.toks+1 }):wpAny (model prog w) A (getAttr? (.ref x) "__class__") Q E s:=by
 obtain⟨hh,g,d,t,os⟩:=s
 have L0:=I.type (M:=model prog w)
 have L1:=W.looks_findIn (M:=model prog w) X c.ga
 have L2:=W.looks_findIn (M:=model prog w) X c.gt
 have L3:=W.looks_find (M:=model prog w) X I (qY (name:="__class__") c.cl c.ha c.hn c.tk)
 unfold getAttr? getAttrBy? getAttrBy
 refine wpAny_bind (wpAny_mkText (wpAny_bind (wpAny_attempt (wpAny_holding (wpAny_bind (L0.at (wpAny_bind (L1.at ?_))))))))
 show wpAny _ _ (getAttrByItsOwn _ _ _ _ _ _) _ _ _
 unfold getAttrByItsOwn
 refine wpAny_bind (L2.at (wpAny_bind (wpAny_attempt (wpAny_holding ?_))))
 show wpAny _ _ (boundAndCalled _ _ _) _ _ _
 unfold boundAndCalled
 rw[PySem.F.attr_ValueError.ga.bind (.ref x)]
 refine wpAny_bind (wpAny_pure (wpAny_call (codeAny_call_builtin PySem.F.attr_ValueError.ga.plain PySem.F.entry_bexc_ga (qZ c X I ?_))))
 refine wpAny_bind (wpAny_pure (wpAny_bind (wpAny_pure (wpAny_bind (L0.at (wpAny_bind (L3.at ?_)))))))
 show wpAny _ _ (holding [_] (call _ _) >>= ret) _ _ _
 refine wpAny_bind (wpAny_holding (wpAny_call (W.class_get (ox:=ox) (od:=none) X I c.mr (wpAny_pure ?_))))
 exact W.handed_on rfl (wpAny_pure k)
theorem rB{K:W.Frag}{x D:Addr}(c:Q0 K D):W.KitX K (.ref x) (.ref D) (NT x (.ref D)):=by
 have inst:∀ {h:Heap},NT x (.ref D) h->∃ ox,W.InstAt h x ox D none:=λ{h} ⟨oe,vs,e1,e2,e3,e4⟩=>by
  refine⟨oe,e1,e2,?_,?_⟩
  ·unfold W.notCls;rw[e4]
  ·rw[e3];trivial
 have cls:∃ cd,W.clsIn K D=some cd:=Option.isSome_iff_exists.mp c.cl
 refine⟨λM h _ p=>(inst p).elim λ_ I=>I.type,λM h X p=> ?_,λh tp dd its n sl X htp=> ?_,λ{prog w A E Q s} X p k=> ?_⟩
 ·obtain⟨cd,hc⟩:=cls
  unfold W.clsIn at hc
  split at hc
  ·rename_i c' d' cd' sl' ho
   intro A' Q' E' s' k q
   unfold isType loadHead
   exact wpAny_bind (wpAny_loadPart (k _ _ (X _ _ ho)) (wpAny_pure q))
  ·cases hc
 ·obtain⟨cd,hc⟩:=cls
  refine Bool.eq_false_iff.mpr λq=> ?_
  have e:D=tp:=Value.ref.inj (beq_iff_eq.mp q)
  subst e
  unfold W.clsIn at hc
  split at hc
  ·rename_i c' d' cd' sl' ho
   have z:=(X _ _ ho).symm.trans htp
   cases z
  ·cases hc
 ·obtain⟨ox,I⟩:=inst p
  exact rA c X I k
def TyX(K:W.Frag)(H:Hp)(x:V)(t:Value):Prop:=FI K H x t\/∃ a C,x=.ref a/\t=.ref C/\H a=some (.ext (NT a (.ref C)))/\Q0 K C
inductive ClsV:V->Value->Prop
 | own (C:Addr):ClsV (.ref C) (.ref C)
 | ty (n:String):ClsV (.ty n) (.type n)
theorem ClsV.rel{y:V}{c u:Value}(h:ClsV y c)(r:RelV y u):u=c:=by
 cases h<;>exact r
theorem ZD:∀ {ys:List V} {cs us:List Value},Paired ClsV ys cs->Vals ys us->us=cs
 | _,_,_,.nil,.nil=>rfl
 | _,_,_,.cons h t,.cons r rr=>by rw[h.rel r,ZD t rr]
def ET(K:W.Frag):List V->Hp->VK->Prop:=λxs H Q=>∃ x y t b,xs=[x,y]/\TyX K H x t ∧
 ((∃ c,ClsV y c/\W.kitOne K t c=some b)\/∃ p ys cs,y=.ref p/\SqT K H p ys/\Paired ClsV ys cs/\W.kitAny K t cs=some b)/\Q (.bl b) H
section
variable{X:Cx}
theorem TyX.kit{pins:List (Addr × Obj)}{σ:St}{H:Hp}{s:Shared}{x:V}{t u:Value}(I:Inv X pins σ H s)(h:TyX X.K H x t)(r:RelV x u):∃ φ :Heap->Prop,W.KitX X.K u t φ /\ φ s.heap/\u≠.builtin "__main__.__loader__#opaque":=by
 rcases h with h | ⟨a,C,rfl,rfl,e,c⟩
 ·cases h with
  | non=>cases (show u=Value.none from r);exact⟨_,W.kitx_none,trivial,λz=>nomatch z⟩
  | bl y=>cases (show u=Value.bool y from r);exact⟨_,W.kitx_bool,trivial,λz=>nomatch z⟩
  | int i=>obtain⟨t,q⟩:=(show ∃ t,u=Value.int i t from r);cases q;exact⟨_,W.kitx_int,trivial,λz=>nomatch z⟩
  | str y=>obtain⟨t,q⟩:=(show ∃ t,u=Value.str y t from r);cases q;exact⟨_,W.kitx_str,trivial,λz=>nomatch z⟩
  | flt y=>obtain⟨t,q⟩:=(show ∃ t,u=Value.float y t from r);cases q;exact⟨_,W.kitx_float,trivial,λz=>nomatch z⟩
  | @lst a xs ea =>
   cases (show u=Value.ref a from r)
   obtain⟨_,_,n,_,h1⟩:=(show ObjOk X.prog X.w H s.heap a (.lst xs)from I.hok a _ ea)
   exact⟨_,W.kitx_list,⟨_,h1,rfl⟩,λz=>nomatch z⟩
  | @frz a ob xs ea =>
   cases (show u=Value.ref a from r)
   obtain⟨_,_,_,n,_,h1⟩:=(show ObjOk X.prog X.w H s.heap a (.frz ob (.lst xs))from I.hok a _ ea)
   exact⟨_,W.kitx_list,⟨_,h1,rfl⟩,λz=>nomatch z⟩
  | @tup a xs ea =>
   cases (show u=Value.ref a from r)
   obtain⟨_,_,_,p⟩:=(show ObjOk X.prog X.w H s.heap a (.tup xs)from I.hok a _ ea)
   obtain⟨o,h1,h2,_⟩:=p
   exact⟨_,W.kitx_tuple,⟨o,h1,h2⟩,λz=>nomatch z⟩
  | @dK a kvs ea =>
   cases (show u=Value.ref a from r)
   obtain⟨_,_,vs,_,p⟩:=(show ObjOk X.prog X.w H s.heap a (.dK kvs)from I.hok a _ ea)
   obtain⟨o,es,ep,h1,h2,_⟩:=p
   exact⟨_,W.kitx_dict,⟨o,h1,h2.1⟩,λz=>nomatch z⟩
  | @dT a kvs ea =>
   cases (show u=Value.ref a from r)
   obtain⟨_,_,xs,_,o,es,ep,h1,h2,_⟩:=(show ObjOk X.prog X.w H s.heap a (.dT kvs)from I.hok a _ ea)
   exact⟨_,W.kitx_dict,⟨o,h1,h2.1⟩,λz=>nomatch z⟩
  | @ins a C dx fs ea cl ha hn htk hm =>
   cases (show u=Value.ref a from r)
   obtain⟨mA,O,_⟩:=QE I.hok ea
   obtain⟨od,J,_⟩:=O.look
   exact⟨_,W.kitx_own (cl.get _) cl.hd ha hn htk hm,J,λz=>nomatch z⟩
 ·cases (show u=Value.ref a from r)
  have p:NT a (.ref C) s.heap:=(show ObjOk X.prog X.w H s.heap a (.ext (NT a (.ref C)))from I.hok a _ e).1
  exact⟨_,rB c,p,λz=>nomatch z⟩
theorem Q1:CallR X (.builtin "isinstance") (ET X.K):=by
 intro pins s σ H xs us Q I r h
 obtain⟨x,y,t,b,rfl,ty,hc,q⟩:=h
 obtain⟨u,v,rfl,rx,ry⟩:=Vals.two r
 obtain⟨φ,Z,p,ne⟩:=ty.kit I rx
 rcases hc with⟨c,hy,e⟩ | ⟨pt,ys,cs,rfl,hs,hcs,e⟩
 ·have:=hy.rel ry
  subst this
  exact W.kia_one Z I.kIn p e ne λtk=>⟨.bl b,H,I.tok tk,rfl,q⟩
 ·cases (show v=Value.ref pt from ry)
  obtain⟨its,rv,⟨⟨c1,c2,c3,c4⟩,e1,e2,n,e3⟩,_⟩:=I.tuple hs
  obtain rfl:c1=_:=e2
  obtain rfl:c3=_:=e3
  have:=ZD hcs rv
  subst this
  exact W.kia_tup Z I.kIn p e1 e ne λtk=>⟨.bl b,H,I.tok tk,rfl,q⟩
end
end L2
namespace L2
def DN(J:It)(g:TG)(tt:TT)(te:TE)(k:Nat)(cap:List Nat)(σ:St)(H1:Hp)(Q:VK):Prop :=
 ∃ W:Nat->Nat->St->List V->Hp->Prop,(∃ m,W 0 m (HH k cap σ) [] H1)/\∀ i m σ' ys H,W i m σ' ys H →
  (J.stop i H/\∀ p,H p=none->Q (.ref p) (upd H p (.lst ys))) ∨
  (J.go i H/\ys.length<sizeLine/\∀ x H',J.yld i H x H'->g x σ' H' λσ2 H2=>tt σ2 H2 λb H3 =>
   if b=true then ∃ N:VK,(∀ y H4,N y H4->∃ m',m'<m/\W (i+1) m' σ2 (ys++[y]) H4)/\te σ2 H3 N else ∃ m',m'<m/\W (i+1) m' σ2 ys H3)
def GB(J:It)(g:TG)(tb:TS)(D:Ends)(σ:St)(H1:Hp):Prop :=
 ∃ W:Nat->Nat->St->Hp->Prop,(∃ m,W 0 m σ H1)/\∀ i m σ H,W i m σ H →
  (J.stop i H/\D.nx σ H)\/(J.go i H/\∃ N:St->Hp->Prop,(∀ σ' H',N σ' H'->∃ m',m'<m/\W (i+1) m' σ' H')/\∀ x H',J.yld i H x H'->g x σ H' λσ2 H2=>tb { D with nx:=N,ct:=N,bk:=D.nx } σ2 H2)
section
variable{K:W.Frag}{ta tb tc to ti tv tl:TE}{tt tA tB' tu:TT}{s1 s2:TS}{r r':R2}{σ:St}{H:Hp}{Q:VK}{D:Ends}{QB:Bool->Hp->Prop}{as:TA}{g:TG}{gs:HX}{te:TE}{k i:Nat}{cap:List Nat}{f m:Str}{C:Addr}{sp:Sp}{dvs:List V}{E:St->XK}{v:V}{vs:List V}{QA:List V->Hp->Prop}{QG:St->Hp->Prop}{QO:Option Int->Hp->Prop}
theorem rC:AQ s1 s2 D σ H=(s1 { D with nx:=s2 D } σ H):=rfl
theorem rD:CJ D σ H=(D.nx σ H):=rfl
theorem rE:mQ D σ H=(D.bk σ H):=rfl
theorem rF:mR D σ H=(D.ct σ H):=rfl
theorem rG:AX ta g D σ H=(ta σ H λx H1=>g x σ H1 D.nx):=rfl
theorem rH:CW ta D σ H=(ta σ H λ_ H1=>D.nx σ H1):=rfl
theorem rJ:BF ta D σ H=(ta σ H D.rt):=rfl
theorem rK:R8 D σ H=(D.rt .non H):=rfl
theorem rM:B5 tt s1 s2 D σ H=(tt σ H λb H1=>if b=true then s1 D σ H1 else s2 D σ H1):=rfl
theorem rN:tC v σ H Q=(Q v H):=rfl
theorem rO:AC r ta tb σ H Q=(ta σ H λx H1=>tb σ H1 λy H2=>r x y H2 Q):=rfl
theorem rP:A4 ta σ H QB=(ta σ H λx H'=>∃ k,x=.bl k/\QB k H'):=rfl
theorem rQ:SF r r' ta tb tc σ H Q=(ta σ H λx H1=>tb σ H1 λy H2=>r x y H2 λz H3=>∃ k,z=.bl k/\(if k=true then tc σ H3 λw' H4=>r' y w' H4 Q else Q (.bl false) H3)):=rfl
theorem rR:K6 tt σ H QB=(tt σ H λc H1=>QB (!c) H1):=rfl
theorem rS:FG tt tu σ H QB=(tt σ H λc H1=>if c=true then tu σ H1 QB else QB false H1):=rfl
theorem rT:HE tt tu σ H QB=(tt σ H λc H1=>if c=true then QB true H1 else tu σ H1 QB):=rfl
theorem rV:mK ta tb σ H Q=(ta σ H λx H1=>∃ c,x=.bl c/\if c=true then tb σ H1 Q else Q (.bl false) H1):=rfl
theorem rW:mM ta tb σ H Q=(ta σ H λx H1=>∃ c,x=.bl c/\if c=true then Q (.bl true) H1 else tb σ H1 Q):=rfl
theorem rX:qX K ta σ H Q=(ta σ H λx H1=>∃ k,DY K x H1 k/\Q (.bl (!k)) H1):=rfl
theorem rY:HI K ta σ H QB=(ta σ H λx H'=>∃ k,DY K x H' k/\QB k H'):=rfl
theorem rZ:R7 tt ta tb σ H Q=(tt σ H λc H1=>if c=true then ta σ H1 Q else tb σ H1 Q):=rfl
theorem r8:AH σ H QA=(QA [] H):=rfl
theorem sA:AD ta as σ H QA=(ta σ H λx H1=>as σ H1 λxs H2=>QA (x::xs) H2):=rfl
theorem sB:CP as σ H Q=(as σ H λxs H1=>xs.length<=sizeLine/\∀ p,H1 p=none->Q (.ref p) (upd H1 p (.tup xs))):=rfl
theorem sC:CQ as σ H Q=(as σ H λxs H1=>xs.length<=sizeLine/\∀ p,H1 p=none->Q (.ref p) (upd H1 p (.lst xs))):=rfl
theorem sD:A9 sp dvs E as σ H Q=(as σ H λvs H1=>sp (vs++dvs) H1 Q (E σ)):=rfl
theorem sE:BT C m sp dvs E ta as σ H Q=(ta σ H λx H1=>∃ a dx fs,x=.ref a/\H1 a=some (.ins C dx fs)/\fs.lookup m=none/\as σ H1 λvs H2=>sp (x::(vs++dvs)) H2 Q (E σ)):=rfl
theorem sF:JJ C sp dvs E as σ H Q=(as σ H λvs H1=>∀ x dx,H1 x=none->H1 dx=none->dx≠x->sp (.ref x::(vs++dvs)) (upd (upd H1 dx (.own x)) x (.ins C dx [])) (λv H2=>v=.non/\Q (.ref x) H2) (E σ)):=rfl
theorem sG:BR K ta f σ H Q=(ta σ H λx H1=>∃ a C dx fs v,x=.ref a/\H1 a=some (.ins C dx fs)/\Cls K C/\NoAttr K C f/\fs.lookup f=some v/\Q v H1):=rfl
theorem sH:EJ K ta tv f D σ H=(tv σ H λy H1=>ta σ H1 λx H2=>∃ a C dx fs,x=.ref a/\H2 a=some (.ins C dx fs)/\Cls K C/\NoAttr K C f/\fs.length<1000/\D.nx σ (upd H2 a (.ins C dx (BQ f y fs)))):=rfl
theorem sI{ru:V->Hp->VK->Prop}:m8 ru ta σ H Q=ta σ H λx H1=>ru x H1 Q:=rfl
theorem sJ{rc:List V->Hp->VK->Prop}:BW rc as σ H Q=as σ H λvs H1=>rc vs H1 Q:=rfl
theorem sK:NR C E as D σ H=(as σ H λvs H1=>vs.length<=sizeLine/\E σ (.ref C) none H1):=rfl
theorem sL{sb:(St->XK)->TS}{th:TH}:qE sb th D σ H=sb (λσ' cls _ H'=>th cls D σ' H') D σ H:=rfl
theorem sM:AL i v σ H QG=(QG (σ.set i (some v)) H):=rfl
theorem sO{rs:PZ}:DX to ti rs v σ H QG=to σ H λo H1=>ti σ H1 λi H2=>rs o i v H2 λH3=>QG σ H3:=rfl
theorem sP:E8 K k gs v σ H QG=(∃ a xs,v=.ref a/\SqT K H a xs/\xs.length=k/\gs xs σ H QG):=rfl
theorem sQ:E7 vs σ H QG=((vs=[]/\QG σ H)):=rfl
theorem sR:DF g gs vs σ H QG=(∃ v r,vs=v::r/\g v σ H λσ' H'=>gs r σ' H' QG):=rfl
theorem sT{rs:V->Option Int->Option Int->Hp->VK->Prop}{ol oh:TO}:JK rs ta ol oh σ H Q=ta σ H λx H1=>ol σ H1 λl H2=>oh σ H2 λu H3=>rs x l u H3 Q:=rfl
theorem sU:QI σ H QO=(QO none H):=rfl
theorem sV:GX ta σ H QO=(ta σ H λx H1=>∃ i,x=.int i/\QO (some i) H1):=rfl
theorem sW{T:String}{rm:V->List V->Hp->VK->Prop}:EY K T rm ta as σ H Q=ta σ H λx H1=>NJ K T x H1/\as σ H1 λxs H2=>rm x xs H2 Q:=rfl
theorem sX{T:String}{rm:V->List V->Hp->VK->Prop}:SQ K T rm ta σ H Q=ta σ H λx H1=>NJ K T x H1/\rm x [] H1 Q:=rfl
theorem sY{tip:P0}:mT i ta tip D σ H=∃ x,σ[i]? =some (some x)/\ta σ H λy H1=>tip x y H1 λz H2=>D.nx (σ.set i (some z)) H2:=rfl
theorem sZ:CS σ H QB=(QB true H):=rfl
theorem tD:BS (CY as) g tt te k cap σ H Q=(as σ H λvs H1=>∃ j:Int,vs=[.int j]/\ -(2 ^ 62)<=j/\j<2 ^ 62/\DN (EB 0 j.toNat) g tt te k cap σ H1 Q):=rfl
theorem tE:BS (XO as) g tt te k cap σ H Q=(as σ H λvs H1=>∃ i j:Int,vs=[.int i,.int j]/\(-(2 ^ 62)<=i/\i<2 ^ 62/\ -(2 ^ 62)<=j/\j<2 ^ 62)/\DN (EB i (j - i).toNat) g tt te k cap σ H1 Q):=rfl
theorem tF:BS (C1 K tl) g tt te k cap σ H Q=(tl σ H λx H1=>∃ a,x=.ref a/\(((∃ xs,SqL K H1 a xs)/\DN (E9 K a) g tt te k cap σ H1 Q)\/((∃ xs,SqT K H1 a xs)/\DN (NF K a) g tt te k cap σ H1 Q))):=rfl
theorem tG:C6 (CY as) g s1 D σ H=(as σ H λvs H1=>∃ j:Int,vs=[.int j]/\ -(2 ^ 62)<=j/\j<2 ^ 62/\GB (EB 0 j.toNat) g s1 D σ H1):=rfl
theorem tH:C6 (XO as) g s1 D σ H=(as σ H λvs H1=>∃ i j:Int,vs=[.int i,.int j]/\(-(2 ^ 62)<=i/\i<2 ^ 62/\ -(2 ^ 62)<=j/\j<2 ^ 62)/\GB (EB i (j - i).toNat) g s1 D σ H1):=rfl
theorem tI:C6 (C1 K tl) g s1 D σ H=(tl σ H λx H1=>∃ a,x=.ref a/\(((∃ xs,SqL K H1 a xs)/\GB (E9 K a) g s1 D σ H1)\/((∃ xs,SqT K H1 a xs)/\GB (NF K a) g s1 D σ H1))):=rfl
theorem tJ{rd:V->V->Hp->VK->Prop}:SK K ta tv rd f D σ H=(ta σ H λx H1=>∃ a C dx fs v,x=.ref a/\H1 a=some (.ins C dx fs)/\Cls K C/\NoAttr K C f/\fs.lookup f=some v/\tv σ H1 λy H2=>rd v y H2 λz H3=>∃ dx' fs',H3 a=some (.ins C dx' fs')/\fs'.length<1000/\D.nx σ (upd H3 a (.ins C dx' (BQ f z fs')))):=rfl
end
end L2
namespace L2
section
variable{K:W.Frag}{σ:St}{H:Hp}{Q:VK}{P:Bool->Prop}{PI':Int->Prop}{PV:V->Prop}{QB:Bool->Hp->Prop}{v:V}{x:Option V}{i j:Int}{n:Nat}{b b':Bool}{s s':Str}{p q:Addr}{f:Int->Int->V}{C:Int->Int->Prop}
def AA(i:Nat):TE:=λσ H Q=>match σ[i]? with
 | some (some v)=>Q v H
 | _=>False
theorem ZE:AA 0 (some v::σ) H Q=Q v H:=rfl
theorem tK:AA (n+1) (x::σ) H Q=AA n σ H Q:=rfl
theorem tL(i:Nat):AA i=PQ i:=by
 funext σ H Q
 unfold AA PQ
 cases σ[i]? with
 | none=>simp
 | some o=>cases o<;>simp
theorem tM{P:Bool->Prop}:(∃ k,V.bl b=V.bl k/\P k)=P b:=by simp
theorem tN{P:Int->Prop}:(∃ k,V.int i=V.int k/\P k)=P i:=by simp
theorem tO{P:Addr->Prop}:(∃ k,V.ref p=V.ref k/\P k)=P p:=by simp
theorem tP{P:Bool->Prop}:(∃ k,DY K (.bl b) H k/\P k)=P b:=by simp[DY]
theorem tQ{P:Bool->Prop}:(∃ k,DY K (.int i) H k/\P k)=P (i != 0):=by simp[DY]
theorem tR{P:Bool->Prop}:(∃ k,DY K .non H k/\P k)=P false:=by simp[DY]
theorem tS:A7 K (.int i) (.int j) H Q=Q (.int (i+j)) H:=rfl
theorem tT:A7 K (.str s) (.str s') H Q=(s.length+s'.length<=sizeLine/\Q (.str (s++s')) H):=rfl
theorem tU:A7 K (.ref p) (.ref q) H Q=(ST (.ref p) (.ref q) H Q\/SM K (.ref p) (.ref q) H Q\/S5 K (.ref p) (.ref q) H Q):=rfl
theorem tV{x y:Str}:NU (.str x) (.str y) H Q=Q (.bl (!decide (y.cps.toList<x.cps.toList))) H:=rfl
theorem tW{x y:Str}:ID (.str x) (.str y) H Q=Q (.bl (decide (x.cps.toList<y.cps.toList))) H:=rfl
theorem tX{x:Str}{lo hi:Option Int}:IH K (.str x) lo hi H Q=(x.length<=sizeLine/\Q (.str (Txt.slice x lo hi)) H):=rfl
theorem tY:DZ K (.int i) (.int j) H Q=(CMul i j/\Q (.int (i * j)) H):=rfl
theorem tZ{z:Str}{j:Int}:DZ K (.str z) (.int j) H Q=(0<=j/\j<=1000/\z.length<=1000/\Q (.str (IE z j)) H):=rfl
theorem t0:DZ K (.ref p) (.int j) H Q=(SU (.ref p) (.int j) H Q\/S6 K (.ref p) (.int j) H Q):=rfl
theorem t3:GT f (.int i) (.int j) H Q=Q (f i j) H:=by simp[GT]
theorem t4:rI C f (.int i) (.int j) H Q=(C i j/\Q (f i j) H):=by simp[rI]
theorem t5{g:Int->V}:rU g (.int i) H Q=Q (g i) H:=by simp[rU]
theorem t6:ID (.int i) (.int j) H Q=Q (.bl (decide (i<j))) H:=rfl
theorem t7:NU (.int i) (.int j) H Q=Q (.bl (decide (i<=j))) H:=rfl
theorem t9:GA (.int i) (.int j) H Q=Q (.bl (decide (j<i))) H:=rfl
theorem uA:qR (.int i) (.int j) H Q=Q (.bl (decide (j<=i))) H:=rfl
theorem ZF:BY K (.int i) (.int j) H Q=Q (.bl (decide (i=j))) H:=by simp[BY,D4]
theorem uB:BY K (.str s) (.str s') H Q=Q (.bl (decide (s=s'))) H:=by simp[BY,D4]
theorem uC:BY K (.bl b) (.bl b') H Q=Q (.bl (decide (b=b'))) H:=by simp[BY,D4]
theorem ZG:BY K .non (.int j) H Q=Q (.bl false) H:=by simp[BY,D4]
theorem uD:BY K (.int j) .non H Q=Q (.bl false) H:=by simp[BY,D4]
theorem uE:BY K .non .non H Q=Q (.bl true) H:=by simp[BY,D4]
theorem ZH:B1 K (.int i) (.int j) H Q=Q (.bl (!decide (i=j))) H:=by simp[B1,D4]
theorem uF:B1 K (.str s) (.str s') H Q=Q (.bl (!decide (s=s'))) H:=by simp[B1,D4]
theorem uG:B1 K (.bl b) (.bl b') H Q=Q (.bl (!decide (b=b'))) H:=by simp[B1,D4]
theorem ZI:B1 K .non (.int j) H Q=Q (.bl true) H:=by simp[B1,D4]
theorem uH:B1 K (.int j) .non H Q=Q (.bl true) H:=by simp[B1,D4]
theorem uI:B1 K .non .non H Q=Q (.bl false) H:=by simp[B1,D4]
theorem uJ:FM v .non H Q=Q (.bl (decide (v=.non))) H:=by simp[FM]
theorem uK:IG v .non H Q=Q (.bl (!decide (v=.non))) H:=by simp[IG]
theorem uL{g:Int->Int->Int}:SA g (.int i) (.int j) H Q=Q (.int (g i j)) H:=by simp[SA]
theorem uM:NH (.int i) (.int j) H Q=Q (.int (i+j)) H:=by simp[NH]
theorem uN:CL K [v] H Q=∃ n:Nat,JI K v H n/\Q (.int n) H:=by simp[CL]
theorem uO:JP K [.bl b] H Q=Q (.int (if b then 1 else 0)) H:=by simp[JP]
theorem uP:JP K [.int i] H Q=Q (.int i) H:=by simp[JP]
theorem ZJ:JO K [.ref p] H Q=∃ ys,(SqL K H p ys\/SqT K H p ys)/\∀ l,H l=none->Q (.ref l) (upd H l (.lst ys)):=by simp[JO]
theorem uQ:NW K [.ref p] H Q=∃ ys,((SqL K H p ys/\∀ l,H l=none->Q (.ref l) (upd H l (.tup ys)))\/(SqT K H p ys/\Q (.ref p) H)):=by simp[NW]
end
theorem AB{X:Cx}(i:Nat){x:Str}{pos:Pos}(hN:X.N[i]? =some x:=by rfl)(hv:PP X.env.scope x:=by first | exact Or.inl rfl | exact Or.inr (Or.inl rfl) | exact Or.inr (Or.inr rfl))(hd:(x ==("__debug__":Str))=false:=by decide)
  (hcd:(x ==("__classdict__":Str))=false:=by decide):PE X (.Name x pos) (AA i):=by
 rw[tL]
 exact XN hN hv hd hcd
end L2
namespace L2
abbrev A5(Q:VK):Ends:={ nx:=λ_ H'=>Q .non H',rt:=Q }
abbrev BL(cap:List Nat)(σ:St):St:=cap.map λi=>(σ[i]?).join
section
variable{K:W.Frag}{te:TE}{cap:List Nat}{σ:St}{H:Hp}{Q:VK}
theorem NX{lo:Int}{n:Nat}(hn:n<=sizeLine)(Pv:Nat->List V->Hp->Prop)(h0:Pv 0 [] H)(hs:∀ i ys H,i<n->ys.length=i->Pv i ys H->te (some (.int (lo+i))::BL cap σ) H λy H2=>Pv (i+1) (ys++[y]) H2)
  (hd:∀ ys H,ys.length=n->Pv n ys H->∀ p,H p=none->Q (.ref p) (upd H p (.lst ys))) :
  DN (EB lo n) (AL 0) CS te 1 cap σ H Q:=by
 refine⟨λi m σ' ys H=>m=n - i/\i<=n/\ys.length=i/\(∃ x0,σ'=x0::BL cap σ)/\Pv i ys H,⟨n,by simp,Nat.zero_le _,rfl,⟨none,rfl⟩,h0⟩,?_⟩
 rintro i m σ' ys H ⟨rfl,hi,hl,⟨x0,rfl⟩,p⟩
 by_cases hlt:i<n
 ·refine .inr ⟨hlt,by omega,λx H' y=> ?_⟩
  obtain⟨e,y⟩:=y
  subst e y
  simp only[AL,CS,if_true]
  refine⟨_,λy H4 q=>⟨n - (i+1),by omega,rfl,hlt,?_,⟨_,rfl⟩,q⟩,hs i ys _ hlt hl p⟩
  rw[List.length_append,List.length_singleton,hl]
 ·have e:i=n:=by omega
  subst e
  exact .inl ⟨Nat.le_refl _,hd ys H hl p⟩
theorem ZK{b:Addr}{xs:List V}(hn:xs.length<=sizeLine)(Pv:Nat->List V->Hp->Prop)(h0:Pv 0 [] H)(hq:∀ i ys H,i<=xs.length->Pv i ys H->SqL K H b xs)
  (hs:∀ i x ys H,xs[i]? =some x->ys.length=i->Pv i ys H->te (some x::BL cap σ) H λy H2=>Pv (i+1) (ys++[y]) H2)
  (hd:∀ ys H,ys.length=xs.length->Pv xs.length ys H->∀ p,H p=none->Q (.ref p) (upd H p (.lst ys))) :
  DN (E9 K b) (AL 0) CS te 1 cap σ H Q:=by
 refine⟨λi m σ' ys H=>m=xs.length - i/\i<=xs.length/\ys.length=i/\(∃ x0,σ'=x0::BL cap σ)/\Pv i ys H,⟨xs.length,by simp,Nat.zero_le _,rfl,⟨none,rfl⟩,h0⟩,?_⟩
 rintro i m σ' ys H ⟨rfl,hi,hl,⟨x0,rfl⟩,p⟩
 have q:=hq i ys H hi p
 by_cases hlt:i<xs.length
 ·refine .inr ⟨⟨xs,xs[i],q,by simp[hlt]⟩,by omega,λx H' y=> ?_⟩
  obtain⟨e,y⟩:=y
  subst e
  have hx:=y xs q
  simp only[AL,CS,if_true]
  refine⟨_,λy H4 q=>⟨xs.length - (i+1),by omega,rfl,hlt,?_,⟨_,rfl⟩,q⟩,hs i x ys _ hx hl p⟩
  rw[List.length_append,List.length_singleton,hl]
 ·have e:i=xs.length:=by omega
  subst e
  exact .inl ⟨⟨xs,q,Nat.le_refl _⟩,hd ys H hl p⟩
theorem uR{lo:Int}{n:Nat}(hn:n<=sizeLine)(f:Nat->V)(hs:∀ i,i<n->∀ Q':VK,Q' (f i) H->te (some (.int (lo+i))::BL cap σ) H Q')
  (hd:∀ p,H p=none->Q (.ref p) (upd H p (.lst ((List.range n).map f)))) :
  DN (EB lo n) (AL 0) CS te 1 cap σ H Q:=by
 refine NX hn (λi ys H'=>H'=H/\ys=(List.range i).map f) ⟨rfl,rfl⟩ (λi ys H' hi hl ⟨e1,e2⟩=> ?_) (λys H' hl ⟨e1,e2⟩=> ?_)
 ·subst e1
  refine hs i hi _ ⟨rfl,?_⟩
  rw[e2,List.range_succ,List.map_append];rfl
 ·subst e1;subst e2;exact hd
theorem IJ{b:Addr}{xs:List V}{g:TG}{tb:TS}{D:Ends}(Pv:Nat->St->Hp->Prop)(h0:Pv 0 σ H)(hl:∀ i σ H,i<=xs.length->Pv i σ H->SqL K H b xs)
  (hs:∀ i x σ H,xs[i]? =some x->Pv i σ H->g x σ H λσ2 H2=>tb { D with nx:=Pv (i+1),ct:=Pv (i+1),bk:=D.nx } σ2 H2) (hd:∀ σ H,Pv xs.length σ H->D.nx σ H):GB (E9 K b) g tb D σ H:=mZ Pv h0 hl hs hd
theorem IK{lo:Int}{n:Nat}{g:TG}{tb:TS}{D:Ends}(Pv:Nat->St->Hp->Prop)(h0:Pv 0 σ H)
  (hs:∀ i σ H,i<n->Pv i σ H->g (.int (lo+i)) σ H λσ2 H2=>tb { D with nx:=Pv (i+1),ct:=Pv (i+1),bk:=D.nx } σ2 H2) (hd:∀ σ H,Pv n σ H->D.nx σ H):GB (EB lo n) g tb D σ H:=m3 Pv h0 hs hd
end
theorem K9{K:W.Frag}{H:Hp}{x y:V}{t c:Value}{b:Bool}{Q:VK}(ty:TyX K H x t)(cv:ClsV y c)(k:W.kitOne K t c=some b)(q:Q (.bl b) H):ET K [x,y] H Q:=⟨x,y,t,b,rfl,ty,.inl ⟨c,cv,k⟩,q⟩
theorem A0{H:Hp}{p:Addr}{o:HO}(h:H p=none):Same H (upd H p o):=λb u e=>by rw[AT (BE e h)];exact e
theorem LA{α β :Type}{F: α -> β ->Prop}:∀ {l:List α} {m:List β} {i:Nat} {y: β},Paired F l m->m[i]? =some y->∃ x,l[i]? =some x/\F x y
 | _,_,_,_,.nil,e=>by simp at e
 | _,_,0,_,.cons r _,e=>by simp at e;subst e;exact⟨_,rfl,r⟩
 | _,_,i+1,y,.cons _ t,e=>by
  obtain⟨u,h1,h2⟩:=LA (i:=i) (y:=y) t (by simpa using e)
  exact⟨u,by simpa using h1,h2⟩
theorem S9{α β :Type}{F: α -> β ->Prop}{x: α}{y: β}(r:F x y):∀ {l:List α} {m:List β} (i:Nat),Paired F l m->Paired F (l.set i x) (m.set i y)
 | _,_,_,.nil=>.nil
 | _,_,0,.cons _ t=>.cons r t
 | _,_,i+1,.cons q t=>.cons q (S9 r i t)
theorem BU{K:W.Frag}{H:Hp}{p:Addr}{xs:List V}{i:Int}{n:Nat}{v:V}{Q:VK}(h:SqL K H p xs)(hi:i=n)(hx:xs[n]? =some v)(q:Q v H):AK K (.ref p) (.int i) H Q :=
 .inl ⟨p,xs,i,v,rfl,rfl,h,hi ▸ SO hx,q⟩
theorem small(n:Nat)(h:n<=100000):n<=sizeLine:=Nat.le_trans h (by decide)
theorem ZL{α :Type}(x: α):∀ w:Nat,(List.replicate w [x]).flatten=List.replicate w x
 | 0=>rfl
 | w+1=>by rw[List.replicate_succ,List.flatten_cons,ZL x w];rfl
theorem HJ{f:Str}{v:V}{fs:List (Str × V)}{n:Nat}(h:fs.length+1<n):(BQ f v fs).length<n:=Nat.lt_of_le_of_lt (SI f v fs) h
theorem uS{d:PyData}(h:shp d):PyData.eqv d d=true:=PySem.SeqAt.eqv_refl d (PySem.SeqAt.canLay_of_shaped h)
end L2
namespace L2
def ItK(k:Bool)(h:Heap)(j a:Addr)(i:Nat):Prop:=if k then h.IsListIter j a i else h.IsTupleIter j a i
def SeqK(k:Bool)(h:Heap)(a:Addr)(xs:Array Value):Prop:=if k then h.IsList a xs else h.IsTuple a xs
theorem ItK.up{k:Bool}{h h':Heap}{j a:Addr}{i:Nat}(x:ItK k h j a i)(q:∀ o,h.get? j=some o->h'.get? j=some o):ItK k h' j a i:=by
 cases k<;>exact(let ⟨o,e,r⟩:=x;⟨o,q o e,r⟩)
theorem SeqK.up{k:Bool}{h h':Heap}{a:Addr}{xs:Array Value}(x:SeqK k h a xs)(q:∀ o,h.get? a=some o->h'.get? a=some o):SeqK k h' a xs:=by
 cases k<;>exact(let ⟨o,e,r⟩:=x;⟨o,q o e,r⟩)
theorem ItK.ob{k:Bool}{h:Heap}{j a:Addr}{i:Nat}(x:ItK k h j a i):∃ o,h.get? j=some o/\o.data=.fields #[.ref a,.int i 0]:=by
 cases k<;>exact(let ⟨o,e,_,r⟩:=x;⟨o,e,r⟩)
section
variable{P:Program}{w:World}{A:Around}{E:Value->Shared->Prop}{s:Shared}
theorem uT{j t:Addr}{i:Nat}{its:Array Value}{Q:Value->Shared->Prop}(z:A.handled=none)(c:s.heap.IsTupleIter j t i)(d:s.heap.IsTuple t its)(e:its[i]? =none)
  (q:∀ h' x,Heap.ExtBut j s.heap h'->(∃ o,h'.get? x=some o/\o.cls=.type "StopIteration")->E (.ref x) { s with heap:=h' }):wpAny (model P w) A (Builtin.SmallTypes.nextOf (.ref j)) Q E s:=by
 obtain⟨oj,e1,e2,e3⟩:=id c
 obtain⟨ot,f1,_,n,f2⟩:=d
 unfold Builtin.SmallTypes.nextOf
 refine wpAny_bind (wpAny_callSpecial?_slot (name:=Str.ofString "__next__") c.typeIs F.slot_tuple_iterator_next (wpAny_call_entry F.slot_tuple_iterator_next c.typeIs F.entry_tuple_iterator_next ?_ (F.args_tuple_iterator_next_1 _)))
 show wpAny (model P w) _ (field (.ref j) 0 >>= _) _ _ s
 refine wpAny_bind (wpAny_field e1 e3 (x:=.ref t) rfl ?_)
 show wpAny (model P w) _ (field (.ref j) 1 >>= _) _ _ s
 refine wpAny_bind (wpAny_field e1 e3 (x:=.int i 0) rfl ?_)
 show wpAny (model P w) _ (seqItems? (.ref t) >>= _) _ _ s
 refine wpAny_bind (wpAny_seqItems f1 f2 ?_)
 simp only[Int.toNat_natCast,e]
 refine wpAny_bind (wpAny_rule (wpAny_bind (wpAny_setField e1 e3 (by simp) ?_)))
 show wpAny (model P w) _ (newExc (.type "StopIteration") [] >>= _) _ _ _
 refine wpAny_bind ?_
 simp only[newExc,newTuple]
 refine wpAny_bind (wpAny_newObj_type (wpAny_bind (m:=firstArgMember _ _) (wpAny_of_eq (a:=Value.none) (by first | rfl | (simp only[firstArgMember];rfl)) (wpAny_newObj_type ?_ (by size_fits)))) (by size_fits))
 simp only[raiseNew]
 refine wpAny_bind (wpAny_handled ?_)
 rw[show A.in1.handled=none from z]
 exact wpAny_bind (wpAny_pure (wpAny_throw (q _ _ (((Heap.SameBut.update ..).extBut.push _).push _) ⟨_,Heap.get?_push_size _ rfl,rfl⟩)))
theorem uU{k:Bool}{j t:Addr}{i:Nat}{its:Array Value}{Q:Value->Shared->Prop}(z:A.handled=none)(c:ItK k s.heap j t i)(d:SeqK k s.heap t its)(e:its[i]? =none)
  (q:∀ h' x,Heap.ExtBut j s.heap h'->(∃ o,h'.get? x=some o/\o.cls=.type "StopIteration")->E (.ref x) { s with heap:=h' }):wpAny (model P w) A (Builtin.SmallTypes.nextOf (.ref j)) Q E s:=by
 cases k
 ·exact uT z c d e q
 ·exact wpAny_nextOf_list_end z c d e q
end
section
variable{P:Program}{w:World}{A:Around}{E:Value->Shared->Prop}{s:Shared}
end
theorem Inv.turnedS{X:Cx}{pins:List (Addr × Obj)}{σ:St}{H:Hp}{s:Shared}{h':Heap}{t':Nat}{fp:List Addr}(I:Inv X pins σ H s)(k:∀ b o,b∉fp->s.heap.get? b=some o->h'.get? b=some o)(hf:∀ b∈fp,FpOk X pins H b):Inv X pins σ H { s with heap:=h',toks:=t' }:=by
 have nit:∀ b u,H b=some u->b∉fp:=λb u e z=>by rw[(hf b z).1]at e;cases e
 refine I.step (g':=s.gens) (d':=s.drawn) (ch:=fp) (λb hb=> ?_) (λb o _ _ hc e _=>k b o hc e) (λb o _ _ hc e _=>⟨o.slots,k b o hc e⟩) (λ_ _ _ _ n=>n)
  (λb o hc e=>⟨o,k b o hc e⟩) (λ_ _ e=>e) (λ_ _ _ e=>e) (λb ps e=>⟨#[],by rw[e];simp⟩) (λm hm=> ?_) (λb u e=> ?_) I.bare
 ·obtain⟨_,f1,_,f3,f4,f5⟩:=hf b hb
  exact⟨f3,f1,f4,f5⟩
 ·obtain⟨o,es,ep,ho,r⟩:=hm
  exact⟨o,es,ep,k _ o (λz=>(hf _ z).2.1 rfl) ho,r⟩
 ·refine(I.hok b u e).stay (λc v hc q=>k c v ?_ q) (λ_ q=>q) λ_ _ q=>q
  rcases hc with z | z
  ·rw[z];exact nit b u e
  ·exact nit c _ z
def SqB(K:W.Frag)(k:Bool)(H:Hp)(a:Addr)(xs:List V):Prop:=if k then SqL K H a xs else SqT K H a xs
theorem Inv.seqK{X:Cx}{pins:List (Addr × Obj)}{σ:St}{H:Hp}{s:Shared}{k:Bool}{a:Addr}{xs:List V}(I:Inv X pins σ H s)(q:SqB X.K k H a xs):∃ its,Vals xs its/\SeqK k s.heap a its.toArray:=by
 cases k
 ·obtain⟨its,rv,p,_⟩:=I.tuple q
  exact⟨its,rv,p⟩
 ·obtain⟨its,rv,p,_⟩:=I.list q
  exact⟨its,rv,p.isList⟩
theorem Inv.seqK_inj{X:Cx}{pins:List (Addr × Obj)}{σ:St}{H:Hp}{s:Shared}{k:Bool}{a:Addr}{xs ys:List V}(I:Inv X pins σ H s)(p:SqB X.K k H a xs)(q:SqB X.K k H a ys):xs=ys:=by
 cases k
 ·exact I.tuple_inj p q
 ·exact I.list_inj p q
theorem SeqK.lt{k:Bool}{h:Heap}{a:Addr}{xs:Array Value}(x:SeqK k h a xs):a<h.objs.size:=by
 cases k<;>exact(let ⟨_,e,_⟩:=x;Heap.lt_size e)
theorem SeqK.nit{k:Bool}{h:Heap}{a b:Addr}{xs:Array Value}(x:SeqK k h a xs){o:Obj}(e:h.get? b=some o)(n:∀ its m,o.data≠.seq its m):a≠b:=by
 intro z
 subst z
 cases k<;>(obtain⟨o',e',_,m,d⟩:=x;rw[e]at e';cases e';exact n _ _ d)
def ZipSt(k k':Bool)(z l l':Addr)(f:Value)(i:Nat)(h:Heap)(T U j j':Addr):Prop :=
 IsZip h z T U f/\IsPair h T (.ref j) (.ref j')/\(∃ a b,IsPair h U a b)/\ItK k h j l i/\ItK k' h j' l' i
structure Five(z T U j j':Addr):Prop where
 a1:T≠z
 a2:U≠z
 a3:j≠z
 a4:j'≠z
 a5:T≠U
 a6:T≠j
 a7:T≠j'
 a8:U≠j
 a9:U≠j'
 a10:j≠j'
theorem SqB.off{X:Cx}{pins:List (Addr × Obj)}{σ:St}{H:Hp}{s:Shared}{k:Bool}{m b:Addr}{zs:List V}(I:Inv X pins σ H s)(q:SqB X.K k H m zs)(f:FpOk X pins H b):m≠b:=by
 intro e
 subst e
 obtain⟨f0,_,_,f3,_⟩:=f
 have no:∀ o,X.K.lookup m=some o->False:=λo hk=>by
  have e:=I.mod.kin m o hk
  rcases f3 with z | z
  ·exact I.ok.noex _ _ e z
  ·exact absurd (Heap.lt_size (I.ok.bs _ _ e).1) (Nat.not_lt.mpr z)
 have nr:∀ u,Rd H m u->False:=λu r=>by
  rcases r with r | ⟨o,r⟩<;>(rw[f0]at r;cases r)
 cases k
 ·rcases q with q | ⟨o,_,_,hk,_⟩
  ·exact nr _ q
  ·exact no o hk
 ·rcases q with q | ⟨o,_,_,hk,_⟩
  ·exact nr _ q
  ·exact no o hk
theorem FpOk.upd{X:Cx}{pins:List (Addr × Obj)}{H:Hp}{a b:Addr}{o:HO}(f:FpOk X pins H b)(n:b≠a):FpOk X pins (upd H a o) b:=⟨(AT n).trans f.1,f.2⟩
theorem ZipSt.lt{k k':Bool}{z l l' T U j j':Addr}{f:Value}{i:Nat}{h:Heap}(q:ZipSt k k' z l l' f i h T U j j'):∀ b∈[z,T,U,j,j'],b<h.objs.size:=by
 obtain⟨h1,h2,⟨a,b',h3⟩,h4,h5⟩:=q
 obtain⟨o4,e4,_⟩:=h4.ob
 obtain⟨o5,e5,_⟩:=h5.ob
 intro b hb
 simp only[List.mem_cons,List.not_mem_nil,or_false]at hb
 rcases hb with rfl | rfl | rfl | rfl | rfl
 ·exact Heap.lt_size h1
 ·exact Heap.lt_size h2
 ·exact Heap.lt_size h3
 ·exact Heap.lt_size e4
 ·exact Heap.lt_size e5
theorem Five.apart{z T U j j' l l':Addr}(D:Five z T U j j')(n:∀ b∈[z,T,U,j,j'],l≠b)(n':∀ b∈[z,T,U,j,j'],l'≠b):ZipApart z T U j j' l l' :=
 ⟨D.a1,D.a2,D.a3,D.a4,D.a5,D.a6,D.a7,D.a8,D.a9,D.a10,n _ (by simp),n _ (by simp),n _ (by simp),n _ (by simp),n' _ (by simp),n' _ (by simp),n' _ (by simp),n' _ (by simp)⟩
section
variable{X:Cx}{tg:Expr}
end
theorem Fun.none{P:Program}{w:World}{K:W.Frag}{mg:Str->Option Value}{base:Heap}{x qual:Str}{st:Stmt}{f:Addr}{fd:FuncData}{N ps:List Str}{k:Nat}{sp:Sp}(F:Fun K x qual st f fd)(S:FnScope N ps (AM st))(no:∀ vs H Q E,sp vs H Q E->False):FnOk P w K mg base (D5 P w) (k+1) f fd ps sp :=
 F.okE S (λvs H Q E h=>(no vs H Q E h).elim) λ_ _ _ _ H vs Q E _ h=>(no vs H Q E h).elim
end L2
namespace L2
def ZM(z:Str):It:=⟨λi _=>i<z.cps.size,λi H x H'=>H'=H/\∃ c,z.cps[i]? =some c/\x=.str ⟨#[c]⟩,λi _=>z.cps.size<=i⟩
def uV(tl:TE):TI:=λσ H R=>tl σ H λx H1=>∃ z,x=.str z/\R (ZM z) H1
section
variable{X:Cx}{tg:Expr}
def ZN(K:W.Frag):List V->Hp->VK->Prop:=λxs H Q=>∃ x,xs=[.str x]/\x.length=1/\Q (.int (x.cps.getD 0 0:Nat)) H
def uW(K:W.Frag):List V->Hp->VK->Prop:=λxs H Q=>∃ i j,xs=[.int i,.int j]/\Q (.int (if j > i then j else i)) H
def ZO:R2:=λx y H Q=>∃ b c,x=.bl b/\y=.bl c/\Q (.bl (!decide (b=c))) H
theorem uX:OpR X (compareOp .IsNot) ZO:=by
 intro pins s σ H x y v u Q I rx ry h
 obtain⟨b,c,rfl,rfl,q⟩:=h
 cases (show v=Value.bool b from rx)
 cases (show u=Value.bool c from ry)
 exact wpAny_pure ⟨.bl _,H,I,(by cases b<;>cases c<;>rfl),q⟩
end
theorem uY{K:W.Frag}{x:Str}{H:Hp}{Q:VK}:ZN K [.str x] H Q=(x.length=1/\Q (.int (x.cps.getD 0 0:Nat)) H):=by simp[ZN]
theorem uZ{K:W.Frag}{i j:Int}{H:Hp}{Q:VK}:uW K [.int i,.int j] H Q=Q (.int (if j > i then j else i)) H:=propext ⟨λ⟨_,_,e,q⟩=>by cases e;exact q,λq=>⟨_,_,rfl,q⟩⟩
section
variable{P:Program}{w:World}{A:Around}{E:Value->Shared->Prop}{s:Shared}
end
section
variable{X:Cx}
def ZP(k:Nat):List V:=(List.range k).map λ(i:Nat)=>V.int (i:Int)
end
theorem u0{tl:TE}{g:TG}{tt:TT}{te:TE}{k:Nat}{cap:List Nat}{σ:St}{H:Hp}{Q:VK}:BS (uV tl) g tt te k cap σ H Q=(tl σ H λx H1=>∃ z,x=.str z/\DN (ZM z) g tt te k cap σ H1 Q):=rfl
end L2
namespace L2
open PySem
abbrev ZQ(l:List Nat):Prop:=l.Pairwise (· <·)
structure zdo(xs:Array Nat)(j r:Nat):Prop where
 le:r<=xs.size
 lo:∀ i v,i<r->xs.toList[i]? =some v->v<j
 hi:∀ i v,r<=i->xs.toList[i]? =some v->j<=v
def NotIn(t:SetTable)(j:Nat):Prop:=t.place[SetTable.below t.place j]? ≠some j
theorem vA(n:Nat):ZQ (Array.range n).toList:=by
 rw[Array.toList_range]
 exact List.pairwise_lt_range
structure Led(led:Bool)(t:SetTable):Prop where
 rise:ZQ t.place.toList
 led:t.led=led
theorem Led.standIn{led:Bool}{t:SetTable}(h:t.led=led)(n:Nat):Led led (t.standIn n):=⟨vA n,h⟩
theorem Led.or{led:Bool}{t:SetTable}(h:Led led t)(n:Nat):Led led (t.orStandIn n):=by
 unfold SetTable.orStandIn
 split
 ·exact h
 ·exact .standIn h.led n
theorem Led.fresh(led:Bool):Led led (.fresh 0 0 led):=⟨List.Pairwise.nil,rfl⟩
end L2
namespace L2
open PySem PyProof.Rows
def leads(w:World):Bool:= !w.params.followText "set-order"
def iv:Value->Int
 | .int n _=>n
 | _=>0
def IntSet(P:Program)(w:World)(h:Heap)(a:Addr)(ms:List Int):Prop :=
 ∃ (o:Obj) (es:Array (Int × Value)) (ep:Nat) (t:SetTable),h.get? a=some o/\o.ExactSet/\o.data=.set es ep t/\ElemsOf (intKind P w) es.toList ∧
  List.Perm (es.toList.map λe=>iv e.2) ms/\es.size<scanBound/\t.fits es.size=true/\Led (leads w) t
section
variable{P:Program}{w:World}{A:Around}{E:Value->Shared->Prop}{s:Shared}
theorem IntSet.at{h h':Heap}{a:Addr}{ms:List Int}(x:IntSet P w h a ms)(k:∀ o,h.get? a=some o->h'.get? a=some o):IntSet P w h' a ms:=by
 obtain⟨o,es,ep,t,ho,r⟩:=x
 exact⟨o,es,ep,t,k _ ho,r⟩
end
section
variable{P:Program}{w:World}{A:Around}{R:Result->Shared->Prop}{I:Addr}{fp wr:List Addr}{G:Array GenState->Array GenState->Prop}{n:Nat}{T:Nat->Value->Prop}{St:Nat->Shared->Prop}
end
section
variable{P:Program}{w:World}{A:Around}{E:Value->Shared->Prop}{s:Shared}
end
end L2
namespace L2
open PySem PyProof.Rows
section
variable{P:Program}{w:World}{A:Around}{E:Value->Shared->Prop}{s:Shared}
end
end L2
namespace L2
open PySem PyProof.Rows
structure zdp(P:Program)(w:World)(A:Around)(h h1:Heap)(a I:Addr)(ms:List Int):Prop where
 ex:∃ (fp:List Addr) (ord:List Value) (ks:List Int) (St:Nat->Heap->Prop),(∀ b∈fp,b=a\/h.objs.size<=b)/\Walks P w A I fp [I] ord.length (λi v=>ord[i]? =some v) St/\St 0 h1/\IntsAre ord ks/\ks.Perm ms
 new:h.objs.size<=I
section
variable{P:Program}{w:World}{A:Around}{E:Value->Shared->Prop}{s:Shared}
end
end L2
namespace L2
open PySem PyProof.Rows
section
variable{P:Program}{w:World}{A:Around}{E:Value->Shared->Prop}{s:Shared}
end
end L2
namespace L2
section
variable{X:Cx}
theorem Inv.drawn{pins:List (Addr × Obj)}{σ:St}{H:Hp}{s:Shared}(I:Inv X pins σ H s)(d):Inv X pins σ H { s with drawn:=d } :=
 { ok:=I.ok,os:=I.os,bare:=I.bare,base:=I.base,loc:=I.loc,cell:=I.cell,free:=I.free,freeC:=I.freeC,pin:=I.pin,hok:=I.hok,len:=I.len }
theorem ZR:∀ {ns:List Int} {us:List Value},Vals (ns.map V.int) us->IntsAre us ns
 | [],_,.nil=>.nil
 | n::r,_,.cons h t=>by
  obtain⟨tk,rfl⟩:=h
  exact .cons _ _ (ZR t)
def vB(K:W.Frag)(te:TE):TE:=λσ H Q=>te σ H λx H1=>∃ (p:Addr) (ns:List Int),x=.ref p/\SqL K H1 p (ns.map V.int)/\ns.length<64 ∧
 ∀ (a:Addr) (o:HO) (D:Addr) (ks:List Int),H1 a=none->upd H1 a o D=none->ks.Pairwise (· <·)->(∀ x,x∈ks↔x∈ns)->ks.length<=ns.length->Q (.ref D) (upd (upd H1 a o) D (.lst (ks.map V.int)))
def clo(te:TE):TE:=λσ H Q=>∃ C:VK,te σ H C/\∀ x H1,C x H1->Q x H1
theorem PE.clo{e:Expr}{te:TE}(h:PE X e te):PE X e (clo te):=λpins s σ H Q I ⟨C,q,m⟩=>AY (h pins s σ H C I q) λv s' ⟨x,H1,I1,r1,q1⟩=>⟨x,H1,I1,r1,m _ _ q1⟩
end
end L2
namespace L2
def ZS(K:W.Frag)(a:Addr)(n:Nat):It :=
 ⟨λi H=>i<n/\∃ xs,SqL K H a xs/\xs.length=n,λi H x H'=>H'=H/\∀ xs,SqL K H a xs->xs[n - 1 - i]? =some x,λi _=>n<=i⟩
def vC(K:W.Frag)(ta:TA):TI:=λσ H R=>ta σ H λvs H1=>∃ a xs,vs=[.ref a]/\SqL K H1 a xs/\R (ZS K a xs.length) H1
section
variable{X:Cx}{tg:Expr}
def vD(K:W.Frag)(te:TE)(ts:TO):TE:=λσ H Q=>te σ H λx H1=>ts σ H1 λk H2=>k=some (-1)/\∃ a xs,x=.ref a/\SqL K H2 a xs/\∀ p,H2 p=none->Q (.ref p) (upd H2 p (.lst xs.reverse))
theorem vE{K:W.Frag}{te:TE}{ts:TO}{σ:St}{H:Hp}{Q:VK}:vD K te ts σ H Q=(te σ H λx H1=>ts σ H1 λk H2=>k=some (-1)/\∃ a xs,x=.ref a/\SqL K H2 a xs/\∀ p,H2 p=none->Q (.ref p) (upd H2 p (.lst xs.reverse))):=rfl
def vF(ta:TA):TE:=λσ H Q=>ta σ H λvs H1=>∃ k:Nat,vs=[.int k]/\k<=100000/\∀ p,H1 p=none->Q (.ref p) (upd H1 p (.lst (ZP k)))
theorem vG{ta:TA}{σ:St}{H:Hp}{Q:VK}:vF ta σ H Q=(ta σ H λvs H1=>∃ k:Nat,vs=[.int k]/\k<=100000/\∀ p,H1 p=none->Q (.ref p) (upd H1 p (.lst (ZP k)))):=rfl
def ZT(K:W.Frag):List V->Hp->VK->Prop:=λxs H Q=>∃ (p:Addr) (kvs:List (AZ × V)),xs=[.ref p]/\H p=some (.dK kvs)/\∀ l,H l=none->Q (.ref l) (upd H l (.dK kvs))
theorem vH{K:W.Frag}{p:Addr}{H:Hp}{Q:VK}:ZT K [.ref p] H Q=∃ kvs,H p=some (.dK kvs)/\∀ l,H l=none->Q (.ref l) (upd H l (.dK kvs)):=by simp[ZT]
end
theorem vI{K:W.Frag}{as:TA}{g:TG}{s1:TS}{D:Ends}{σ:St}{H:Hp}:C6 (vC K as) g s1 D σ H=(as σ H λvs H1=>∃ a xs,vs=[.ref a]/\SqL K H1 a xs/\GB (ZS K a xs.length) g s1 D σ H1):=rfl
section
variable{K:W.Frag}{tt:TT}{cap:List Nat}{σ:St}{H:Hp}{Q:VK}
theorem NY{n:Nat}(p:Nat->Bool)(hn:n<=sizeLine)(ht:∀ i,i<n->∀ QB:Bool->Hp->Prop,QB (p i) H->tt (some (.int (i:Int))::BL cap σ) H QB)
  (hd:∀ q,H q=none->Q (.ref q) (upd H q (.lst (((List.range n).filter p).map λ(i:Nat)=>V.int i)))):DN (EB 0 n) (AL 0) tt (AA 0) 1 cap σ H Q:=by
 refine⟨λi m σ' ys H'=>m=n - i/\i<=n/\H'=H/\(∃ x0,σ'=x0::BL cap σ)/\ys=((List.range i).filter p).map λ(i:Nat)=>V.int i,⟨n,by simp,Nat.zero_le _,rfl,⟨none,rfl⟩,rfl⟩,?_⟩
 rintro i m σ' ys H' ⟨rfl,hi,rfl,⟨x0,rfl⟩,rfl⟩
 by_cases hlt:i<n
 ·refine .inr ⟨hlt,?_,λx H2 y=> ?_⟩
  ·rw[List.length_map]
   have:=List.length_filter_le p (List.range i)
   rw[List.length_range]at this
   omega
  ·obtain⟨e,y⟩:=y
   subst e y
   rw[Int.zero_add]
   simp only[AL,List.set_cons_zero]
   refine ht i hlt _ ?_
   cases hp:p i with
   | true =>
    rw[if_pos rfl]
    refine⟨λv H4=>v=.int i/\H4=H2,λy H4 ⟨e1,e2⟩=>⟨n - (i+1),by omega,rfl,hlt,e2,⟨_,rfl⟩,?_⟩,?_⟩
    ·rw[e1,List.range_succ,List.filter_append,List.map_append]
     simp[hp]
    ·simp[AA]
   | false =>
    rw[if_neg Bool.false_ne_true]
    refine⟨n - (i+1),by omega,rfl,hlt,rfl,⟨_,rfl⟩,?_⟩
    rw[List.range_succ,List.filter_append,List.map_append]
    simp[hp]
 ·have e:i=n:=by omega
  subst e
  exact .inl ⟨Nat.le_refl _,hd⟩
end
section
variable{K:W.Frag}{td ty tv te:TE}{D:Ends}{σ:St}{H:Hp}{Q:VK}{QB:Bool->Hp->Prop}
theorem vJ:pO td ty σ H Q=(td σ H λx H1=>ty σ H1 λy H2=>∃ a v,x=.ref a/\DGet H2 a y (some v)/\Q v H2):=rfl
theorem vK:SV ty td σ H Q=(ty σ H λy H1=>td σ H1 λx H2=>∃ a o,x=.ref a/\DGet H2 a y o/\Q (.bl o.isSome) H2):=rfl
theorem vL:pP ty td σ H Q=(ty σ H λy H1=>td σ H1 λx H2=>∃ a o,x=.ref a/\DGet H2 a y o/\Q (.bl (!o.isSome)) H2):=rfl
theorem vM:SW td ty tv D σ H=(tv σ H λv H1=>td σ H1 λx H2=>ty σ H2 λy H3=>∃ a H4,x=.ref a/\DPut H3 a y v H4/\D.nx σ H4):=rfl
theorem vN:pZ td ty σ H Q=(td σ H λx H1=>∃ a,x=.ref a/\NO H1 a/\ty σ H1 λy H2=>∃ o,DGet H2 a y o/\Q (o.getD .non) H2):=rfl
theorem vO:SX σ H Q=(∀ p,H p=none->Q (.ref p) (upd H p (.dK []))):=rfl
theorem vP:SY σ H Q=(∀ p,H p=none->Q (.ref p) (upd H p (.dT []))):=rfl
theorem vQ:tB te σ H QB=(te σ H λx H1=>∃ c,x=.bl c/\QB c H1):=rfl
theorem vR:vB K te σ H Q=(te σ H λx H1=>∃ (p:Addr) (ns:List Int),x=.ref p/\SqL K H1 p (ns.map V.int)/\ns.length<64 ∧
 ∀ (a:Addr) (o:HO) (D:Addr) (ks:List Int),H1 a=none->upd H1 a o D=none->ks.Pairwise (· <·)->(∀ x,x∈ks↔x∈ns)->ks.length<=ns.length->Q (.ref D) (upd (upd H1 a o) D (.lst (ks.map V.int)))):=rfl
variable{a b:Addr}{i j:Int}{z:Str}{kvs:List (AZ × V)}{kvt:List (List AZ × V)}{v:V}
theorem dS(e:H a=some (.dK kvs)):DGet H a (.str z) (B0 kvs (.inr z)):=DGet.k (k:=.inr z) e
theorem pS(e:H a=some (.dK kvs))(hl:kvs.length<100000):DPut H a (.str z) v (upd H a (.dK (B7 kvs (.inr z) v))):=DPut.k (k:=.inr z) e (Nat.lt_of_lt_of_le hl (by decide))
end
end L2
namespace L2
section
variable{X:Cx}
end
theorem SqT.same{K:W.Frag}{H H':Hp}{a:Addr}{xs:List V}(e:Same H H')(h:SqT K H a xs):SqT K H' a xs:=by
 rcases h with(h | ⟨o,h⟩) | h
 ·exact .inl (.inl (e _ _ h))
 ·exact .inl (.inr ⟨o,e _ _ h⟩)
 ·exact .inr h
mutual
theorem Rep.same{K:W.Frag}{H H':Hp}(s:Same H H'):∀ {v:V} {d:PyData},Rep K H v d->Rep K H' v d
 | _,_,.non=>.non
 | _,_,.bl b=>.bl b
 | _,_,.int i=>.int i
 | _,_,.str x=>.str x
 | _,_,.lst h r=>.lst (s.seq h) (RepAll.same s r)
 | _,_,.tup h r=>.tup (SqT.same s h) (RepAll.same s r)
theorem RepAll.same{K:W.Frag}{H H':Hp}(s:Same H H'):∀ {vs:List V} {ds:List PyData},RepAll K H vs ds->RepAll K H' vs ds
 | _,_,.nil=>.nil
 | _,_,.cons h r=>.cons (Rep.same s h) (RepAll.same s r)
end
def Dat(K:W.Frag)(H:Hp)(n:Nat)(v:V)(d:PyData):Prop:=Rep K H v d/\d.canLay0=true/\d.depth<=n
section
variable{K:W.Frag}{H:Hp}{n:Nat}{Q:VK}
theorem Dat.int(i:Int):Dat K H n (.int i) (.int i):=⟨.int i,rfl,Nat.zero_le _⟩
theorem Dat.non:Dat K H n .non .none:=⟨.non,rfl,Nat.zero_le _⟩
theorem TB:∀ {xs:List V} {ds:List PyData},Paired (Dat K H n) xs ds->RepAll K H xs ds/\PyData.canLayAll0 ds=true/\PyData.depthAll ds<=n
 | _,_,.nil=>⟨.nil,rfl,Nat.zero_le _⟩
 | _,_,.cons h t=>by
  obtain⟨a1,a2,a3⟩:=TB t
  refine⟨.cons h.1 a1,?_,?_⟩
  ·simp[PyData.canLayAll0,h.2.1,a2]
  ·simp only[PyData.depthAll];exact Nat.max_le.mpr ⟨h.2.2,a3⟩
theorem Dat.lst{p:Addr}{xs:List V}{ds:List PyData}(h:SqL K H p xs)(hs:Paired (Dat K H n) xs ds):Dat K H (n+1) (.ref p) (.list ds):=by
 obtain⟨a1,a2,a3⟩:=TB hs
 exact⟨.lst h a1,by simpa [PyData.canLay0]using a2,by simpa [PyData.depth]using a3⟩
theorem Dat.tup{p:Addr}{xs:List V}{ds:List PyData}(h:SqT K H p xs)(hs:Paired (Dat K H n) xs ds):Dat K H (n+1) (.ref p) (.tuple ds):=by
 obtain⟨a1,a2,a3⟩:=TB hs
 exact⟨.tup h a1,by simpa [PyData.canLay0]using a2,by simpa [PyData.depth]using a3⟩
theorem Dat.shp{v:V}{d:PyData}(h:Dat K H n v d)(hn:n<=64):shp d:=by
 unfold L2.shp PySem.SeqAt.shaped
 rw[h.2.1]
 simpa using Nat.le_trans h.2.2 hn
theorem TC:∀ (l:List Int),Paired (Dat K H n) (l.map V.int) (l.map PyData.int)
 | []=>.nil
 | x::r=>.cons (.int x) (TC r)
theorem vS{p q:Addr}{d:PyData}(hn:n<=64)(h1:Dat K H n (.ref p) d)(h2:Dat K H n (.ref q) d)(hq:Q (.bl false) H):B1 K (.ref p) (.ref q) H Q:=by
 unfold B1
 rw[if_neg (by simp[D4])]
 refine⟨_,_,h1.1,h2.1,h1.shp hn,h1.shp hn,?_⟩
 rw[uS (h1.shp hn)]
 exact hq
theorem ZU{p q:Addr}{xs:List V}{ds:List PyData}(hn:n<=63)(h1:SqL K H p xs)(hd:Paired (Dat K H n) xs ds)(h2:SqL K H q [])(hq:Q (.bl (!decide (xs=[]))) H):B1 K (.ref p) (.ref q) H Q:=by
 unfold B1
 rw[if_neg (by simp[D4])]
 have e1:=Dat.lst h1 hd
 have e2:Dat K H 1 (.ref q) (.list []):=Dat.lst h2 .nil
 refine⟨_,_,e1.1,e2.1,e1.shp (by omega),e2.shp (by omega),?_⟩
 cases hd with
 | nil=>exact hq
 | cons _ _=>exact hq
theorem vT{p q:Addr}{xs:List V}{ds:List PyData}(hn:n<=63)(h1:SqL K H p xs)(hd:Paired (Dat K H n) xs ds)(h2:SqL K H q [])(hq:Q (.bl (decide (xs=[]))) H):BY K (.ref p) (.ref q) H Q:=by
 unfold BY
 rw[if_neg (by simp[D4])]
 have e1:=Dat.lst h1 hd
 have e2:Dat K H 1 (.ref q) (.list []):=Dat.lst h2 .nil
 refine⟨_,_,e1.1,e2.1,e1.shp (by omega),e2.shp (by omega),?_⟩
 cases hd with
 | nil=>exact hq
 | cons _ _=>exact hq
end
end L2
namespace L2
end L2
namespace L2
section
variable{prog:Program}{w:World}{A:Around}{E:Value->Shared->Prop}{s:Shared}{d it:Addr}{od:Obj}{es:Array DictEntry}{ep i:Nat}
end
end L2
namespace L2
theorem ZV:∀ {ys:List Str} {us:List Value},Vals (ys.map V.str) us->StrsAre us ys
 | [],_,.nil=>.nil
 | y::r,_,.cons h t=>by
  obtain⟨tk,rfl⟩:=h
  exact .cons _ _ (ZV t)
section
variable{X:Cx}
def ZW(K:W.Frag):V->List V->Hp->VK->Prop:=λx vs H Q=>∃ (z:Str) (p:Addr) (ys:List Str),x=.str z/\vs=[.ref p]/\SqL K H p (ys.map V.str)/\z.length<=16/\(ys.map (·.length)).sum+ys.length<=1048576/\Q (.str (Txt.join z ys)) H
theorem vU:MtR X "str.join" (ZW X.K):=by
 intro pins s σ H x vs v us Q I rx rv h
 obtain⟨z,p,ys,rfl,rfl,hp,hz,hw,q⟩:=h
 obtain⟨t,rfl⟩:=rx
 obtain⟨u,rfl,ru⟩:=rv.one
 cases ru
 obtain⟨its,r,pl,hz'⟩:=I.list hp
 exact join_listW pl.isList (ZV r) hz hw λt' k=>⟨.str _,H,I.tok k,⟨t',rfl⟩,q⟩
end
section
variable{K:W.Frag}{tt:TT}{te:TE}{cap:List Nat}{σ:St}{H:Hp}{Q:VK}
end
end L2
namespace L2
section
variable{X:Cx}{tg:Expr}
end
section
variable{K:W.Frag}{tt:TT}{cap:List Nat}{σ:St}{H:Hp}{Q:VK}
def zdq(lo:Int)(n:Nat):List Int:=(List.range n).map λ(i:Nat)=>lo - (i:Int)
end
def TD(n i:Nat)(P:Prop):Prop:=∃ m',m'<n - i/\m'=n - (i+1)/\i+1<=n/\P
theorem vV{n i:Nat}{P:Prop}(h:i<n)(p:P):TD n i P:=⟨_,by omega,rfl,h,p⟩
theorem vW{K:W.Frag}{g:TG}{tt:TT}{te:TE}{k:Nat}{cap:List Nat}{σ:St}{H:Hp}{Q:VK}{b:Addr}{xs:List V}(hn:xs.length<=sizeLine)(Pv:Nat->St->List V->Hp->Prop)(h0:Pv 0 (HH k cap σ) [] H)(hq:∀ i σ' ys H,Pv i σ' ys H->SqL K H b xs/\ys.length<=i)
  (hs:∀ i x σ' ys H,i<xs.length->xs[i]? =some x->Pv i σ' ys H->g x σ' H λσ2 H2=>tt σ2 H2 λc H3=>if c=true then ∃ N:VK,(∀ y H4,N y H4->TD xs.length i (Pv (i+1) σ2 (ys++[y]) H4))/\te σ2 H3 N else TD xs.length i (Pv (i+1) σ2 ys H3))
  (hd:∀ σ' ys H,Pv xs.length σ' ys H->∀ p,H p=none->Q (.ref p) (upd H p (.lst ys))):DN (E9 K b) g tt te k cap σ H Q:=by
 refine⟨λi m σ' ys H=>m=xs.length - i/\i<=xs.length/\Pv i σ' ys H,⟨xs.length,by simp,Nat.zero_le _,h0⟩,?_⟩
 rintro i m σ' ys H ⟨rfl,hi,p⟩
 obtain⟨q,hl⟩:=hq i σ' ys H p
 by_cases hlt:i<xs.length
 ·refine .inr ⟨⟨xs,xs[i],q,by simp[hlt]⟩,by omega,λx H' y=> ?_⟩
  obtain⟨e,y⟩:=y
  subst e
  exact hs i x σ' ys _ hlt (y xs q) p
 ·have e:i=xs.length:=by omega
  subst e
  exact .inl ⟨⟨xs,q,Nat.le_refl _⟩,hd σ' ys H p⟩
section
variable{P:Program}{w:World}{A:Around}{E:Value->Shared->Prop}{s:Shared}
end
section
variable{X:Cx}
end
end L2
namespace L2
section
variable{P:Program}{w:World}{A:Around}{E:Value->Shared->Prop}{s:Shared}
theorem vX{e it l:Addr}{i:Nat}{items:Array Value}{x old:Value}{Q:Option Value->Shared->Prop}(he:IsEnum s.heap e it i old)(hi:s.heap.IsListIter it l i)(hl:s.heap.IsList l items)(ex:items[i]? =some x)(ne:e≠it)
  (q:∀ h',IsEnumOut h' e it (i+1) x s.heap.objs.size->h'.IsListIter it l (i+1)->h'.get? s.heap.objs.size=some { cls:=Value.type "tuple",data:=Data.seq #[Value.int i s.toks,x] }->(∀ b o,b≠e->b≠it->s.heap.get? b=some o->h'.get? b=some o) →
   Q (some (.ref s.heap.objs.size)) { s with heap:=h',toks:=s.toks+1 }):wpAny (model P w) A (pyNext (.ref e)) Q E s:=by
 have ty:s.TypeIs (.ref e) "enumerate":=⟨_,he,rfl⟩
 unfold pyNext
 exact wpAny_bind (wpAny_attempt (wpAny_callSpecial?_slot (name:=Str.ofString "__next__") ty F.slot_enumerate_next (wpAny_call_entry F.slot_enumerate_next ty F.entry_enumerate_next
  (enumerate_next_item he hi hl ex ne λh' a1 a2 a3 _ a4=>wpAny_pure (q h' a1 a2 a3 a4)) (F.args_enumerate_next_1 _))))
theorem vY{e it l:Addr}{i:Nat}{items:Array Value}{old:Value}{Q:Fin->Shared->Prop}(hh:A.handled=none)(he:IsEnum s.heap e it i old)(hi:s.heap.IsListIter it l i)(hl:s.heap.IsList l items)(ex:items[i]? =none)
  (q:∀ h' x,Heap.ExtBut it s.heap h'->(∃ o,h'.get? x=some o/\o.cls=.type "StopIteration")->E (.ref x) { s with heap:=h' }):wpAny (model P w) A (Builtin.«enumerate.__next__» ⟨[.ref e],[]⟩) Q E s:=by
 show wpAny (model P w) A (field (.ref e) 2 >>= _) _ _ s
 refine wpAny_bind (wpAny_field he rfl (x:=.ref it) rfl ?_)
 exact wpAny_bind (uU (k:=true) hh hi hl ex q)
theorem vZ{e it l:Addr}{i:Nat}{items:Array Value}{old:Value}{Q:Option Value->Shared->Prop}(hh:A.handled=none)(he:IsEnum s.heap e it i old)(hi:s.heap.IsListIter it l i)(hl:s.heap.IsList l items)(ex:items[i]? =none)
  (q:∀ h',Heap.ExtBut it s.heap h'->Q none { s with heap:=h' }):wpAny (model P w) A (pyNext (.ref e)) Q E s:=by
 have ty:s.TypeIs (.ref e) "enumerate":=⟨_,he,rfl⟩
 unfold pyNext
 refine wpAny_bind (wpAny_attempt (wpAny_callSpecial?_slot (name:=Str.ofString "__next__") ty F.slot_enumerate_next (wpAny_call_entry F.slot_enumerate_next ty F.entry_enumerate_next (vY hh he hi hl ex λh' x kk ⟨o,e1,e2⟩=> ?_) (F.args_enumerate_next_1 _))))
 exact wpAny_bind (wpAny_isInstance (T:="StopIteration") (b:=true) ⟨o,e1,e2⟩ isSubtype_stop (wpAny_pure (q _ kk)))
end
def JQ(K:W.Frag)(a:Addr):It :=
  ⟨λi H=>∃ xs x,SqL K H a xs/\xs[i]? =some x,
   λi H v H'=>∃ t,H t=none/\v=.ref t/\∃ x,H'=upd H t (.tup [.int (i:Int),x])/\∀ xs,SqL K H a xs->xs[i]? =some x,
   λi H=>∃ xs,SqL K H a xs/\xs.length<=i⟩
def EnSt(e it l:Addr)(i:Nat)(h:Heap):Prop:=(∃ old,IsEnum h e it i old)/\h.IsListIter it l i
theorem EnSt.lt{e it l:Addr}{i:Nat}{h:Heap}(q:EnSt e it l i h):∀ b∈[e,it],b<h.objs.size:=by
 obtain⟨⟨old,h1⟩,o,h2,_⟩:=q
 intro b hb
 simp only[List.mem_cons,List.not_mem_nil,or_false]at hb
 rcases hb with rfl | rfl
 ·exact Heap.lt_size h1
 ·exact Heap.lt_size h2
theorem v6{P:Program}{w:World}{K:W.Frag}{elts:List Expr}{kn:Nat}{pos:Pos}{e it l:Addr}(ne:e≠it) :
  JF P w K (.Tuple elts kn pos) (JQ K l) [e,it] e (λi h=>EnSt e it l i h) where
 mem:=by simp
 obj:=λi h st b hb=>by
  obtain⟨⟨old,h1⟩,h2⟩:=st
  obtain⟨o4,e4,d4⟩:=ItK.ob (k:=true) h2
  simp only[List.mem_cons,List.not_mem_nil,or_false]at hb
  rcases hb with rfl | rfl
  ·exact⟨_,h1,λv q=>by cases q⟩
  ·exact⟨_,e4,λv q=>by rw[d4]at q;cases q⟩
 keep:=λi h h' ⟨⟨old,h1⟩,h2⟩ q=>⟨⟨old,q e (by simp) _ h1⟩,ItK.up (k:=true) h2 λo x=>q it (by simp) o x⟩
 item:=by
  intro X hP hw hK hc i pins s σ H E I hf st hg
  subst hP hw hK
  obtain⟨xs,x,hx,ex⟩:=hg
  obtain⟨its,rv,d1⟩:=I.seqK (k:=true) hx
  obtain⟨u,hu,ru⟩:=rv.get ex
  have lt:=EnSt.lt st
  obtain⟨⟨old,h1⟩,h2⟩:=st
  refine vX h1 h2 d1 (x:=u) (by simpa using hu) ne λh' g1 g2 g3 kk=>⟨_,rfl,?_⟩
  refine wpAny_letOwnedTupleGo_enum g1 λh2' z2 sb=> ?_
  have I1:=I.tnew (ys:=[.int (i:Int),x]) (its:=[Value.int (i:Int) s.toks,u]) (.cons (show RelV (.int (i:Int)) (Value.int (i:Int) s.toks)from⟨s.toks,rfl⟩) (.cons ru .nil)) (by show 2<=sizeLine;decide)
  have f':∀ b∈[e,it],b≠s.heap.objs.size:=λb hb=>Nat.ne_of_lt (lt b hb)
  have nz:s.heap.objs.size≠e:=(f' e (by simp)).symm
  have I2:Inv X pins σ (upd H s.heap.objs.size (.tup [.int (i:Int),x])) { s with heap:=h2',toks:=s.toks+1 }:=by
   refine Inv.turnedS (s:={ s with heap:=s.heap.push { cls:=Value.type "tuple",data:=Data.seq #[Value.int i s.toks,u] } }) (t':=s.toks+1) (fp:=[e,it]) I1 (λb o hb eo=> ?_) λb hb=>(hf b hb).upd (f' b hb)
   simp only[List.mem_cons,List.not_mem_nil,or_false,not_or]at hb
   rcases Heap.get?_push_cases eo with⟨e1,e2⟩ | e1
   ·subst e1 e2
    exact sb.extBut _ _ nz g3
   ·exact sb.extBut _ _ hb.1 (kk _ _ hb.1 hb.2 e1)
  exact⟨.ref s.heap.objs.size,_,I2,rfl,⟨s.heap.objs.size,I.fresh,rfl,x,rfl,λys' q=>by rw[I.seqK_inj (k:=true) q hx];exact ex⟩,
   ⟨⟨_,z2⟩,ItK.up (k:=true) g2 λo x=>sb.extBut _ _ ne.symm x⟩,λb hb=>((hf b hb).upd (f' b hb)).1⟩
 done:=by
  intro X hP hw hK hc i pins s σ H E I hf st hg
  subst hP hw hK
  obtain⟨xs,hx,en⟩:=hg
  obtain⟨its,rv,d1⟩:=I.seqK (k:=true) hx
  obtain⟨⟨old,h1⟩,h2⟩:=st
  have e1:=rv.length
  refine vZ (I.ok.hd hc) h1 h2 d1 (by simp;omega) λh' kk=>⟨rfl,I.turnedS (t':=s.toks) (fp:=[e,it]) (λb o hb eo=> ?_) hf⟩
  simp only[List.mem_cons,List.not_mem_nil,or_false,not_or]at hb
  exact kk _ _ hb.2 eo
 self:=λ_ _ _ _ _ st h=>by
  obtain⟨⟨old,h1⟩,_⟩:=st
  exact wpAny_pyIter_enum h1 h
section
variable{X:Cx}
def GC(K:W.Frag)(ta:TA):TI:=λσ H R=>ta σ H λvs H1=>∃ a:Addr,vs=[.ref a]/\(∃ xs,SqL K H1 a xs)/\R (JQ K a) H1
theorem IL{a:Expr}{ta:TA}{p pos p2:Pos}{elts:List Expr}{kn:Nat}(hg:Gl X "enumerate")(hm:X.mg "enumerate"=none)(ha:PA X [a] ta)(hs:starEach [a] X.env=[(false,eval a X.env)]:=by rfl) :
  PI X (.Tuple elts kn p2) (.Call (.Name "enumerate" p) [a] [] pos) (GC X.K ta):=by
 intro pins s σ H R I h
 refine Call_ (K5 I hg hm boot_enumerate (PyProof.Rows.callWith_type1 (AY (ha pos pins s σ H _ I h) λus s1 ⟨vs,H1,I1,r1,q1⟩=> ?_) (by rw[hs];rfl) (by rfl)))
 obtain⟨l,e,⟨xs,hx⟩,q⟩:=q1
 subst e
 obtain⟨u,rfl,rx⟩:=JH r1
 cases rx
 obtain⟨its,rv,d1⟩:=I1.seqK (k:=true) hx
 refine call_enumerate_list d1 λh' z1 z2 sz kk=>wpAny_pyIter_enum z1 ?_
 have I2:Inv X pins σ H1 { s1 with heap:=h' }:=I1.kept (t':=s1.toks) kk
 refine⟨_,[s1.heap.objs.size+1,s1.heap.objs.size],_,_,H1,rfl,I2,v6 (Nat.ne_of_gt (by omega)),⟨⟨_,z1⟩,z2⟩,λb hb=>I1.fpOk ?_ (I1.hok.fresh ?_),q⟩
 all_goals
  simp only[List.mem_cons,List.not_mem_nil,or_false]at hb
  rcases hb with rfl | rfl<;>omega
end
theorem v7{K:W.Frag}{as:TA}{g:TG}{s1:TS}{D:Ends}{σ:St}{H:Hp}:C6 (GC K as) g s1 D σ H=(as σ H λvs H1=>∃ a:Addr,vs=[.ref a]/\(∃ xs,SqL K H1 a xs)/\GB (JQ K a) g s1 D σ H1):=rfl
theorem v8{K:W.Frag}{σ:St}{H:Hp}{a:Addr}{xs:List V}{g:TG}{tb:TS}{D:Ends}(Pv:Nat->St->Hp->Prop)(h0:Pv 0 σ H)(ha:∀ i σ H,i<=xs.length->Pv i σ H->SqL K H a xs)
  (hs:∀ i x σ H t,xs[i]? =some x->Pv i σ H->H t=none->g (.ref t) σ (upd H t (.tup [.int (i:Int),x])) λσ2 H2=>tb { D with nx:=Pv (i+1),ct:=Pv (i+1),bk:=D.nx } σ2 H2) (hd:∀ σ H,Pv xs.length σ H->D.nx σ H):GB (JQ K a) g tb D σ H:=by
 refine⟨λi m σ H=>i+m=xs.length/\Pv i σ H,⟨xs.length,by omega,h0⟩,λi m σ H ⟨e,p⟩=> ?_⟩
 have h1:=ha i σ H (by omega) p
 by_cases hi:i<xs.length
 ·refine .inr ⟨⟨xs,xs[i],h1,List.getElem?_eq_getElem hi⟩,Pv (i+1),λσ' H' q=>⟨m - 1,by omega,by omega,q⟩,λv H' ⟨t,ht,e,x,e',q1⟩=> ?_⟩
  subst e e'
  exact hs i x σ H t (q1 _ h1) p ht
 ·have e:i=xs.length:=by omega
  subst e
  exact .inl ⟨⟨xs,h1,Nat.le_refl _⟩,hd _ _ p⟩
end L2
namespace L2
section
variable{X:Cx}
def ZX(K:W.Frag):List V->Hp->VK->Prop:=λxs H Q=>∃ (p:Addr) (ns:List Int),xs=[.ref p]/\SqL K H p (ns.map V.int)/\ns.length<64 ∧
  ∀ (D:Addr) (ks:List Int),H D=none->ks.Perm ns->ks.Pairwise (· <=·)->Q (.ref D) (upd H D (.lst (ks.map V.int)))
theorem v9(hc:X.calm=true):CallR X (.builtin "sorted") (ZX X.K):=by
 intro pins s σ H xs us Q I r h
 obtain⟨p,ns,rfl,hp,hn,q⟩:=h
 obtain⟨u,rfl,rx⟩:=JH r
 cases rx
 obtain⟨its,rv,pl,hz⟩:=I.list hp
 have hi:=ZR rv
 refine sorted_ints pl.isList hi (by rw[hi.length];exact hn) λout ks ho pk hr=> ?_
 obtain⟨c,g⟩:=sortedAll_at s.heap its out
 have hD:s.heap.objs.size<=s.heap.objs.size+1:=Nat.le_succ _
 refine⟨.ref _,_,I.laid (t':=s.toks) (λb o e=>sortedAll_old e) hD ?_,rfl,q _ ks (I.hok.fresh hD) pk hr⟩
 have hl:ks.length<64:=by rw[pk.length_eq];exact hn
 exact⟨by rw[List.length_map,sizeLine_eq];omega,out.toList,c,S0 ho,g⟩
def wA(K:W.Frag):List V->Hp->VK->Prop:=λxs H Q=>∃ i j,xs=[.int i,.int j]/\Q (.int (if j<i then j else i)) H
theorem wB{K:W.Frag}{i j:Int}{H:Hp}{Q:VK}:wA K [.int i,.int j] H Q=Q (.int (if j<i then j else i)) H:=propext ⟨λ⟨_,_,e,q⟩=>by cases e;exact q,λq=>⟨_,_,rfl,q⟩⟩
end
end L2
namespace L2
section
variable{P:Program}{w:World}{A:Around}{E:Value->Shared->Prop}{s:Shared}
end
section
variable{X:Cx}
end
end L2
namespace L2
section
variable{X:Cx}{pins:List (Addr × Obj)}{σ:St}{H:Hp}{s:Shared}
variable{tg iter elt:Expr}{ifs:List Expr}{scope:Scope}{pos:Pos}{td:TE}{g:TG}{tt:TT}{te:TE}{tn cn:List Str}{cap:List Nat}
end
end L2
namespace L2
theorem FnScope.go{N P:List Str}{sc:Scope}(h1:sc.kind=.function:=by exact rfl)(h2:sc.isCoroutine=false:=by exact rfl)(h3:sc.isGenerator=false:=by exact rfl)(h4:N.Nodup:=by decide +kernel)(h5:N.take P.length=P:=by exact rfl)(h6:∀ x∈P,sc.names.lookup x=some .local\/sc.names.lookup x=some .cell:=by decide +kernel)(h7:∀ y∈sc.names,y.2≠.free:=by decide +kernel):FnScope N P sc:=⟨h1,h2,h3,h4,h5,h6,h7⟩
theorem Room.m{j k:Nat}{A:Around}(r:Room k A)(h:j<=k:=by decide):Room j A:=r.mono h
abbrev FP(P:Program)(w:World)(K:W.Frag)(mg:Str->Option Value)(base:Heap)(k:Nat)(f:Addr)(fd:FuncData)(ps:List Str)(sp:Sp):Prop:=FnOk P w K mg base (D5 P w) k f fd ps sp
theorem Fun.okF{P:Program}{w:World}{K:W.Frag}{mg:Str->Option Value}{base:Heap}{x qual:Str}{st:Stmt}{f:Addr}{fd:FuncData}{N ps:List Str}{k:Nat}{sp:Sp}(F:Fun K x qual st f fd)(rd:(St->XK)->TS)(S:FnScope N ps (AM st))(len:∀ {vs H Q E},sp vs H Q E->vs.length=ps.length)
  (ok:∀ {vs H Q E},sp vs H Q E->rd (λ_=>E) { nx:=λ_ H'=>Q .non H',rt:=Q } (A1 N vs) H)
  (hb:∀ (cdv:Value) (A:Around) (outer:List Env) (s:Shared) (H:Hp) (E:XK),Room k (A.deeper (envOfC qual (AM st) s.heap.objs.size f cdv))->XOk (GW (D5 P w) P w K mg base N qual (AM st) f cdv A outer s H E) (λ_=>E) →
   PSs (GW (D5 P w) P w K mg base N qual (AM st) f cdv A outer s H E) (A6 st) (rd λ_=>E)):FP P w K mg base (k+1) f fd ps sp :=
 F.okE S (λ_ _ _ _=>len) λcdv A outer s H _ _ E hr h=>⟨_,hb cdv A outer s H E hr qD,ok h⟩
section
variable{X:Cx}{pos:Pos}
theorem BD(i:Nat){x:Str}{e:Expr}{te:TE}{pos':Pos}(hN:X.N.Nodup)(he:PE X e te)(hi:X.N[i]? =some x:=by exact rfl)(hx:K4 X.env.scope x:=by exact Or.inl rfl)(hs:swapsWith e (some (.Name x pos')) pos.line X.env=pure false:=by rfl)(hf:X.fn x=true\/X.env.scope.names.lookup x=some .local:=by first | exact .inl rfl | exact .inr rfl | assumption) :
  PS X (.Assign [.Name x pos'] e pos) (AX te (AL i)):=GS hN hi hx he hs hf
theorem EG(i:Nat){x:Str}(hN:X.N.Nodup)(hi:X.N[i]? =some x:=by exact rfl)(hx:K4 X.env.scope x:=by exact Or.inl rfl)(hf:X.fn x=true\/X.env.scope.names.lookup x=some .local:=by first | exact .inl rfl | exact .inr rfl | assumption):PG X (.Name x pos) (AL i):=BO hN hi hx hf
end
end L2
namespace L2
def TF(K:W.Frag)(to ti tv:TE)(rd:V->V->Hp->VK->Prop):TS:=λD σ H=>to σ H λx H1=>ti σ H1 λy H2=>∃ p xs,∃ n:Nat,∃ v,x=.ref p/\y=.int n/\SqL K H2 p xs/\xs[n]? =some v/\tv σ H2 λz H3=>rd v z H3 λu H4=>CK (.ref p) (.int n) u H4 λH5=>D.nx σ H5
theorem wC{K:W.Frag}{to ti tv:TE}{rd:V->V->Hp->VK->Prop}{D:Ends}{σ:St}{H:Hp}:TF K to ti tv rd D σ H=(to σ H λx H1=>ti σ H1 λy H2=>∃ p xs,∃ n:Nat,∃ v,x=.ref p/\y=.int n/\SqL K H2 p xs/\xs[n]? =some v/\tv σ H2 λz H3=>rd v z H3 λu H4=>CK (.ref p) (.int n) u H4 λH5=>D.nx σ H5):=rfl
section
variable{X:Cx}{o i value:Expr}{td ty tv:TE}{tpos pos:Pos}
theorem wD{op:Operator}{rd:V->V->Hp->VK->Prop}(ho:PE X o td)(hi:PE X i ty)(hv:PE X value tv)(hop:SJ X op rd)
  (ha:∀ ov iv new,augStore i ov iv new=(do holding [new,ov,iv] (setItem ov iv new);release [new,ov,iv] [];pure .next):=by intros;rfl):PS X (.AugAssign (.Subscript o i tpos) op value pos) (TF X.K td ty tv rd):=by
 intro pins s σ H D I h
 refine wpAny_AugAssign_SubscriptAny (AY (ho pins s σ H _ I h) λu s1 ⟨x,H1,I1,rx,q1⟩=>AY (hi pins s1 σ H1 _ I1 q1) λiv s2 ⟨y,H2,I2,ry,p,xs,n,v,ex,ey,hq,hx,q2⟩=> ?_) ha
 subst ex ey
 obtain rfl:u=Value.ref p:=rx
 have ry':=ry
 obtain⟨t,rfl⟩:=ry
 obtain⟨its,r,pl,hz⟩:=I2.list hq
 obtain⟨w,ew,rw'⟩:=r.get hx
 have hl:=r.length
 have hn:=JG
 have hlt:=(List.getElem?_eq_some_iff.mp hx).1
 refine wpAny_getItem_list pl.isList (by omega) (by omega) (x:=w) (by simpa using ew) ?_
 refine AY (hv pins s2 σ H2 _ I2 q2) λw2 s4 ⟨y2,H3,I4,ry2,q3⟩=>AY (hop pins s4 σ H3 v y2 w w2 _ I4 rw' ry2 q3) λw3 s5 ⟨z,H4,I5,rz,q4⟩=> ?_
 exact AY (D6 pins s5 σ H4 (.ref p) (.int n) z _ _ _ _ I5 rfl ry' rz q4) λ_ s6 ⟨H5,I6,q5⟩=>⟨σ,H5,I6,q5⟩
end
theorem wE(l:Addr)(items:Array Value)(n:Nat)(b:Addr)(items2:Array Value)(n2:Nat)(d:Option Addr)(sl:Array (Option Value))(hs0:¬(!items.isEmpty && Builtin.List.listTooLong (items.size+items2.size))=true)(hs1:items.size<=sizeLine)(hs2:items.size+items2.size<=sizeLine+1) :
  Meets (Builtin.«list.extend» ⟨[.ref l,.ref b],[]⟩) (λ_ R s=>s.heap.get? l=some { cls:=.type "list",dict:=none,data:=.seq items n,slots:= #[] }/\s.heap.get? b=some { cls:=.type "tuple",dict:=d,data:=.seq items2 n2,slots:=sl }/\R (.ok (.ret Value.none)) { s with heap:=s.heap.update l (Obj.mapSeq λx=>x++items2),toks:=s.toks }) :=
 .of_wp λprog w A R s h=>by
  obtain⟨hp,g,d,tk,os⟩:=s;obtain⟨hl,hb,h⟩:=h;have f1:=AutoSeq1.idx_int;have f2:=AutoSeq1.sub_tuple_tuple;have f3:=AutoSeq1.sub_list_list;have f4:=AutoSeq1.sub_tuple_list;have f5:=AutoSeq1.sub_list_tuple;
  have hz':(items++items2).size<=sizeLine+1:=by rw[Array.size_append];exact hs2
  wp_walk using (wpAny_updateSeq hl rfl (hz:=hs1) (_hz':=hz')),AutoSeq1.wpAny_loadPart' hl,AutoSeq1.wpAny_loadPart' hb;exact⟨_,rfl,h⟩
def ZY(K:W.Frag):V->List V->Hp->VK->Prop:=λx vs H Q=>∃ l b xs zs,x=.ref l/\vs=[.ref b]/\H l=some (.lst xs)/\SqT K H b zs/\xs.length+zs.length<=sizeLine/\Q .non (upd H l (.lst (xs++zs)))
theorem wF{X:Cx}:NK X "list.extend" (ZY X.K):=by
 intro pins s σ H x vs v us Q I rx rv h
 obtain⟨l,b,xs,zs,rfl,rfl,hH,hB,hz,q⟩:=h
 cases rx
 obtain⟨u,rfl,ru⟩:=rv.one
 cases ru
 obtain⟨z,its,n,r,hl,e⟩:=I.lstM hH
 obtain⟨its2,r2,⟨o,e2,hc,n2,hd⟩,hz2⟩:=I.tuple hB
 have hl2:=r2.length
 obtain⟨oc,od,odat,osl⟩:=o
 have hc:oc=.type "tuple":=hc
 have hd:odat=.seq its2.toArray n2:=hd
 subst hc hd
 have hsz:its.toArray.size+its2.toArray.size<=sizeLine:=by rw[List.size_toArray,List.size_toArray];omega
 have hlong:¬ (!its.toArray.isEmpty && Builtin.List.listTooLong (its.toArray.size+its2.toArray.size))=true:=by
  rw[SR hsz,Bool.and_false]
  exact Bool.false_ne_true
 refine call_meets F.slot_list_extend ⟨_,e,rfl⟩ F.entry_list_extend (F.args_list_extend_2 _ _)
  (wE l its.toArray n b its2.toArray n2 _ _ hlong (by rw[List.size_toArray];omega) (by omega)) ⟨e,e2,?_⟩
 refine⟨.non,_,I.lset (its':=its++its2) hH e (by simp) (r.append r2) ?_,rfl,q⟩
 rw[List.length_append]
 omega
def JR(c:Int)(n:Nat):It:=⟨λi _=>i<n,λi H x H'=>H'=H/\x=.int ((i:Nat) * c),λi _=>n<=i⟩
theorem wG{P:Program}{w:World}{K:PySem.W.Frag}{tg:Expr}(it:Addr)(c:Int)(n:Nat):JF P w K tg (JR c n) [it] it (λi h=>IsRangeIter h it (0+(i:Nat) * c) ((n:Int) - (i:Nat)) c) where
 mem:=by simp
 obj:=λi h st b hb=>by
  have e:b=it:=by simpa using hb
  subst e
  exact⟨_,st,λv z=>by
   have z':Data.fields _=Data.cell v:=z
   cases z'⟩
 keep:=λi h h' st k=>k it (by simp) _ st
 item:=by
  intro X hP hw hK hc i pins s σ H E I hf st hg
  subst hP hw hK
  obtain⟨f0,f1,f2,f3,f4,f5⟩:=hf it (by simp)
  have W:=Walks.range (prog:=X.prog) (w:=X.w) (I.ok.hd hc) it 0 c n
  refine W.item i s _ _ hg st λv h' tk hv st' kk=> ?_
  obtain⟨t,rfl⟩:=hv
  have I1:Inv X pins σ H { s with heap:=h',toks:=tk }:=I.turned (λb o hb e=>kk b o (by simpa using hb) e) f0 f1 f3 f4 f5
  refine⟨_,rfl,P8 (s:={ s with heap:=h',toks:=tk }) (n:="range_iterator") st' rfl rfl (by decide) ⟨.int ((i:Nat) * c),H,I1,⟨t,?_⟩,⟨rfl,rfl⟩,st',λb hb=>(hf b hb).1⟩⟩
  rw[Int.zero_add]
 done:=by
  intro X hP hw hK hc i pins s σ H E I hf st hg
  subst hP hw hK
  obtain⟨f0,f1,f2,f3,f4,f5⟩:=hf it (by simp)
  exact wpAny_pyNext_range_end (I.ok.hd hc) st (by have:n<=i:=hg;omega) λh' eb=>⟨rfl,I.turned (t':=s.toks) (λb o hb e=>eb b o hb e) f0 f1 f3 f4 f5⟩
 self:=λ_ _ _ _ _ st h=>wpAny_pyIter_rangeiter st h
theorem ZZ{m c:Nat}(hc:1<=c):Builtin.Range.rangeSize 0 ((m * c:Nat):Int) c=m:=by
 unfold Builtin.Range.rangeSize
 rw[if_pos (show(c:Int) > 0 by omega)]
 by_cases h:m=0
 ·subst h;simp
 ·have h1:0<m * c:=Nat.mul_pos (by omega) (by omega)
  rw[if_pos (by omega)]
  have:((m * c:Nat):Int) - 0 - 1=((m * c - 1:Nat):Int):=by omega
  rw[this,<-Int.natCast_ediv]
  have e:(m * c - 1) / c=m - 1:=by
   rw[Nat.div_eq_iff (by omega)]
   have:=Nat.sub_mul m 1 c
   have h2:c<=m * c:=Nat.le_mul_of_pos_left c (by omega)
   constructor<;>omega
  rw[e]
  omega
theorem wH{m c:Nat}(hc:1<=c)(hc':c<100000)(hm:m * c<100000):Builtin.Range.small 0 ((m * c:Nat):Int) c=true:=by
 have hm':m<=m * c:=Nat.le_mul_of_pos_right m (by omega)
 unfold Builtin.Range.small
 rw[ZZ hc]
 simp only[Builtin.Range.rangeFitsLong,Bool.and_eq_true,Bool.or_eq_true,decide_eq_true_eq,beq_iff_eq]
 refine⟨by omega,.inr ?_⟩
 rw[if_pos (show(c:Int) > 0 by omega)]
 simp only[Bool.and_eq_true,decide_eq_true_eq]
 omega
section
variable{X:Cx}{tg:Expr}
theorem wI{pins:List (Addr × Obj)}{σ:St}{H:Hp}{s:Shared}{R:It->Hp->Prop}{E:Value->Shared->Prop}{m c:Nat}{t u v:Tok}{tk:Nat}(I:Inv X pins σ H s)(h1:1<=c)(h2:c<100000)(h3:m * c<100000)
  (q:R (JR c m) H):wpAny (model X.prog X.w) X.A (pyIter (.ref s.heap.objs.size)) (SB X pins σ tg R) E { s with heap:=s.heap.push { cls:=.type "range",data:=.fields #[.int 0 t,.int ((m * c:Nat):Int) u,.int c v] },toks:=tk }:=by
 refine wpAny_pyIter_range (IsRange.new ..) (wH h1 h2 h3) ?_
 have I1:Inv X pins σ H { s with heap:=s.heap.push { cls:=.type "range",data:=.fields #[.int 0 t,.int ((m * c:Nat):Int) u,.int c v] },toks:=tk }:=I.kept λb o e=>Heap.get?_push_of_some _ e
 refine⟨(s.heap.push { cls:=.type "range",data:=.fields #[.int 0 t,.int ((m * c:Nat):Int) u,.int c v] }).objs.size,[(s.heap.push { cls:=.type "range",data:=.fields #[.int 0 t,.int ((m * c:Nat):Int) u,.int c v] }).objs.size],_,_,H,rfl,
  I1.kept (t':=tk) λb o e=>Heap.get?_push_of_some _ e,wG _ c m,?_,λb hb=> ?_,q⟩
 ·have e1:(0:Int)+((0:Nat):Int) * (c:Int)=0:=by simp
  have e2:(m:Int) - ((0:Nat):Int)=Builtin.Range.rangeSize 0 ((m * c:Nat):Int) c:=by rw[ZZ h1];omega
  show IsRangeIter _ _ (0+((0:Nat):Int) * (c:Int)) ((m:Int) - ((0:Nat):Int)) c
  rw[e1,e2]
  exact Heap.get?_push_size _ rfl
 ·have e:b=(s.heap.push { cls:=.type "range",data:=.fields #[.int 0 t,.int ((m * c:Nat):Int) u,.int c v] }).objs.size:=by simpa using hb
  subst e
  exact I1.fpOk (Nat.le_refl _) (I1.hok.fresh (Nat.le_refl _))
def NZ(ta:TA):TI:=λσ H R=>ta σ H λvs H1=>∃ m c:Nat,vs=[.int 0,.int ((m * c:Nat):Int),.int c]/\(1<=c/\c<100000/\m * c<100000)/\R (JR c m) H1
theorem Z0{a b c:Expr}{ta:TA}{p pos:Pos}(hg:Gl X "range")(hm:X.mg "range"=none)(ha:PA X [a,b,c] ta)(hs:starEach [a,b,c] X.env=[(false,eval a X.env),(false,eval b X.env),(false,eval c X.env)]:=by rfl)(hs2:starEach [b,c] X.env=[(false,eval b X.env),(false,eval c X.env)]:=by rfl) :
  PI X tg (.Call (.Name "range" p) [a,b,c] [] pos) (NZ ta):=by
 intro pins s σ H R I h
 refine Call_ (K5 I hg hm boot_range (PyProof.Rows.callWith_type1 (AY (ha pos pins s σ H _ I h) λus s1 ⟨vs,H1,I1,r1,q1⟩=> ?_) (by rw[hs,hs2]) (by rw[hs2];rfl)))
 obtain⟨m,c,e,⟨q1,q2,q3⟩,q⟩:=q1
 subst e
 cases r1 with
 | cons r rr =>
  cases rr with
  | cons r' rr =>
   cases rr with
   | cons r2 rr =>
    cases rr
    obtain⟨t,rfl⟩:=r
    obtain⟨t',rfl⟩:=r'
    obtain⟨t2,rfl⟩:=r2
    exact call_range_3 (by omega) (wI I1 q1 q2 q3 q) (Or.inl (PyProof.noPylong_small (by omega)))
end
section
variable{K:W.Frag}{g:TG}{tt:TT}{te:TE}{k:Nat}{cap:List Nat}{σ:St}{H:Hp}{Q:VK}
theorem wJ{as:TA}:BS (NZ as) g tt te k cap σ H Q=(as σ H λvs H1=>∃ m c:Nat,vs=[.int 0,.int ((m * c:Nat):Int),.int c]/\(1<=c/\c<100000/\m * c<100000)/\DN (JR c m) g tt te k cap σ H1 Q):=rfl
theorem wK{as:TA}:BS (GC K as) g tt te k cap σ H Q=(as σ H λvs H1=>∃ a:Addr,vs=[.ref a]/\(∃ xs,SqL K H1 a xs)/\DN (JQ K a) g tt te k cap σ H1 Q):=rfl
theorem wL{c:Int}{n:Nat}(hn:n<=sizeLine)(Pv:Nat->List V->Hp->Prop)(h0:Pv 0 [] H)(hs:∀ i ys H,i<n->ys.length=i->Pv i ys H->te (some (.int ((i:Nat) * c))::BL cap σ) H λy H2=>Pv (i+1) (ys++[y]) H2)
  (hd:∀ ys H,ys.length=n->Pv n ys H->∀ p,H p=none->Q (.ref p) (upd H p (.lst ys))) :
  DN (JR c n) (AL 0) CS te 1 cap σ H Q:=by
 refine⟨λi m σ' ys H=>m=n - i/\i<=n/\ys.length=i/\(∃ x0,σ'=x0::BL cap σ)/\Pv i ys H,⟨n,by simp,Nat.zero_le _,rfl,⟨none,rfl⟩,h0⟩,?_⟩
 rintro i m σ' ys H ⟨rfl,hi,hl,⟨x0,rfl⟩,p⟩
 by_cases hlt:i<n
 ·refine .inr ⟨hlt,by omega,λx H' y=> ?_⟩
  obtain⟨e,y⟩:=y
  subst e y
  exact⟨_,λy H4 q=>⟨n - (i+1),by omega,rfl,hlt,by simp[hl],⟨_,rfl⟩,q⟩,hs i ys _ hlt hl p⟩
 ·have e:i=n:=by omega
  subst e
  exact .inl ⟨Nat.le_refl _,hd ys H hl p⟩
theorem Z1{b:Addr}{xs:List V}(p:Nat->Bool)(hn:xs.length<=sizeLine)(Pv:Nat->List V->Hp->Prop)(h0:Pv 0 [] H)(hq:∀ i ys H,i<=xs.length->Pv i ys H->SqL K H b xs/\ys.length<=i)
  (ht:∀ i x ys H,xs[i]? =some x->Pv i ys H->∀ QB:Bool->Hp->Prop,QB (p i) H->tt (some x::BL cap σ) H QB)
  (hs:∀ i x ys H,xs[i]? =some x->p i=true->Pv i ys H->te (some x::BL cap σ) H λy H3=>Pv (i+1) (ys++[y]) H3)
  (hf:∀ i x ys H,xs[i]? =some x->p i=false->Pv i ys H->Pv (i+1) ys H)
  (hd:∀ ys H,Pv xs.length ys H->∀ q,H q=none->Q (.ref q) (upd H q (.lst ys))):DN (E9 K b) (AL 0) tt te 1 cap σ H Q:=by
 refine⟨λi m σ' ys H=>m=xs.length - i/\i<=xs.length/\(∃ x0,σ'=x0::BL cap σ)/\Pv i ys H,⟨xs.length,by simp,Nat.zero_le _,⟨none,rfl⟩,h0⟩,?_⟩
 rintro i m σ' ys H ⟨rfl,hi,⟨x0,rfl⟩,P⟩
 obtain⟨q,hl⟩:=hq i ys H hi P
 by_cases hlt:i<xs.length
 ·refine .inr ⟨⟨xs,xs[i],q,by simp[hlt]⟩,by omega,λx H' y=> ?_⟩
  obtain⟨e,y⟩:=y
  subst e
  have ex:=y xs q
  refine ht i x ys _ ex P _ ?_
  cases hp:p i with
  | true =>
   rw[if_pos rfl]
   exact⟨_,λy H4 q=>⟨_,by omega,rfl,hlt,⟨_,rfl⟩,q⟩,hs i x ys _ ex hp P⟩
  | false =>
   rw[if_neg Bool.false_ne_true]
   exact⟨_,by omega,rfl,hlt,⟨_,rfl⟩,hf i x ys _ ex hp P⟩
 ·have e:i=xs.length:=by omega
  subst e
  exact .inl ⟨⟨xs,q,Nat.le_refl _⟩,hd ys H P⟩
theorem wM{n:Nat}(p:Nat->Bool)(hn:n<=sizeLine)(Pv:Nat->List V->Hp->Prop)(h0:Pv 0 [] H)(hq:∀ i ys H,i<=n->Pv i ys H->ys.length<=i)
  (ht:∀ i ys H,i<n->Pv i ys H->∀ QB:Bool->Hp->Prop,QB (p i) H->tt (some (.int (i:Int))::BL cap σ) H QB)
  (hs:∀ i ys H,i<n->p i=true->Pv i ys H->te (some (.int (i:Int))::BL cap σ) H λy H3=>Pv (i+1) (ys++[y]) H3)
  (hf:∀ i ys H,i<n->p i=false->Pv i ys H->Pv (i+1) ys H)
  (hd:∀ ys H,Pv n ys H->∀ q,H q=none->Q (.ref q) (upd H q (.lst ys))):DN (EB 0 n) (AL 0) tt te 1 cap σ H Q:=by
 refine⟨λi m σ' ys H=>m=n - i/\i<=n/\(∃ x0,σ'=x0::BL cap σ)/\Pv i ys H,⟨n,by simp,Nat.zero_le _,⟨none,rfl⟩,h0⟩,?_⟩
 rintro i m σ' ys H ⟨rfl,hi,⟨x0,rfl⟩,P⟩
 have hl:=hq i ys H hi P
 by_cases hlt:i<n
 ·refine .inr ⟨hlt,by omega,λx H' y=> ?_⟩
  obtain⟨e,y⟩:=y
  subst e y
  rw[Int.zero_add]
  refine ht i ys _ hlt P _ ?_
  cases hp:p i with
  | true =>
   rw[if_pos rfl]
   exact⟨_,λy H4 q=>⟨_,by omega,rfl,hlt,⟨_,rfl⟩,q⟩,hs i ys _ hlt hp P⟩
  | false =>
   rw[if_neg Bool.false_ne_true]
   exact⟨_,by omega,rfl,hlt,⟨_,rfl⟩,hf i ys _ hlt hp P⟩
 ·have e:i=n:=by omega
  subst e
  exact .inl ⟨Nat.le_refl _,hd ys H P⟩
theorem TJ{b:Addr}{xs:List V}(p:Nat->Bool)(hn:xs.length<=sizeLine)(Pv:Nat->List V->Hp->Prop)(h0:Pv 0 [] H)(hq:∀ i ys H,i<=xs.length->Pv i ys H->SqL K H b xs/\ys.length<=i)
  (hu:∀ i ys H t o,Pv i ys H->H t=none->Pv i ys (upd H t o))
  (ht:∀ i x ys H,xs[i]? =some x->Pv i ys H->∀ QB:Bool->Hp->Prop,QB (p i) H->tt (some (.int (i:Int))::some x::BL cap σ) H QB)
  (hs:∀ i x ys H,xs[i]? =some x->p i=true->Pv i ys H->te (some (.int (i:Int))::some x::BL cap σ) H λy H3=>Pv (i+1) (ys++[y]) H3)
  (hf:∀ i x ys H,xs[i]? =some x->p i=false->Pv i ys H->Pv (i+1) ys H)
  (hd:∀ ys H,Pv xs.length ys H->∀ q,H q=none->Q (.ref q) (upd H q (.lst ys))):DN (JQ K b) (E8 K 2 (DF (AL 0) (DF (AL 1) E7))) tt te 2 cap σ H Q:=by
 refine⟨λi m σ' ys H=>m=xs.length - i/\i<=xs.length/\(∃ x0 x1,σ'=x0::x1::BL cap σ)/\Pv i ys H,⟨xs.length,by simp,Nat.zero_le _,⟨none,none,rfl⟩,h0⟩,?_⟩
 rintro i m σ' ys H ⟨rfl,hi,⟨x0,x1,rfl⟩,P⟩
 obtain⟨q,hl⟩:=hq i ys H hi P
 by_cases hlt:i<xs.length
 ·refine .inr ⟨⟨xs,xs[i],q,by simp[hlt]⟩,by omega,λv H' ⟨t,ht0,e,x,e',q1⟩=> ?_⟩
  subst e e'
  have ex:=q1 xs q
  refine⟨t,[.int (i:Int),x],rfl,SqT.of AS,rfl,?_⟩
  have P':=hu i ys H t (.tup [.int (i:Int),x]) P ht0
  refine⟨_,_,rfl,⟨_,_,rfl,⟨rfl,?_⟩⟩⟩
  refine ht i x ys _ ex P' _ ?_
  cases hp:p i with
  | true =>
   rw[if_pos rfl]
   exact⟨_,λy H4 q=>⟨_,by omega,rfl,hlt,⟨_,_,rfl⟩,q⟩,hs i x ys _ ex hp P'⟩
  | false =>
   rw[if_neg Bool.false_ne_true]
   exact⟨_,by omega,rfl,hlt,⟨_,_,rfl⟩,hf i x ys _ ex hp P'⟩
 ·have e:i=xs.length:=by omega
  subst e
  exact .inl ⟨⟨xs,q,Nat.le_refl _⟩,hd ys H P⟩
end
end L2
namespace L2
section
variable{prog:Program}{w:World}{K:Type}[DecidableEq K]{knd:HeapKind prog w K}{A:Around}{E:Value->Shared->Prop}{s:Shared}
theorem wN{d a:Addr}{xs:List (K × Addr × Value)}{k:K}{v:Value}{Q:Unit->Shared->Prop}(hu:knd.room A)(hkey:knd.is s.heap k a)(hm:s.heap.DictOfH knd d xs)
  (hQ:∀ h',h'.DictOfH knd d (storedH xs k a v)->Heap.SameBut d s.heap h'->Q () { s with heap:=h' }) (hsz:xs.length<=sizeLine) :
  wpAny (model prog w) A (dictSetHashed d (.ref a) (knd.hash k) v) Q E s:=by
 obtain⟨o,es,ep,ho,hc,hd,he,his,hn⟩:=hm
 have keep:∀ {f:Obj->Obj} {x:K × Addr × Value},x∈xs->knd.is (s.heap.update d f) x.1 x.2.1:=λhx=>knd.keeps (his _ hx) ho hd (Heap.SameBut.update ..)
 unfold dictSetHashed
 try with_reducible refine wpAny_holding ?_
 refine wpAny_bind (wpAny_dictFind_heap hu hkey ho hd he his hn (λhno=> ?_) λj p hj=> ?_)
 ·have e1:=storedH_new (atKey_none_of_get hno) a v
  refine wpAny_bind (wpAny_rule (wpAny_updateDictKeys (hz:=by have e:=size_of_entries he;omega) ho hd (hQ _ ?_ (Heap.SameBut.update ..))))
  rw[e1]
  refine⟨_,_,ep+1,Heap.get?_update_self _ ho (Obj.isFreed_of_dict (Obj.data_mapDictKeys hd _)),hc.mapDictKeys _,Obj.data_mapDictKeys hd _,by simp[he,entryOfKey],λx hx=> ?_,?_⟩
  ·rcases List.mem_append.mp hx with hx | hx
   ·exact keep hx
   ·cases List.mem_singleton.mp hx
    exact knd.keeps hkey ho hd (Heap.SameBut.update ..)
  ·rw[List.map_append,List.nodup_append]
   refine⟨hn,by simp,λx hx y hy e=>not_mem_keys_of_get hno ?_⟩
   rw[show k=y from(List.mem_singleton.mp hy).symm,<-e]
   exact hx
 ·have e1:=storedH_old (atKey_of_get hn hj) a v
  refine wpAny_bind (wpAny_rule (wpAny_bind (wpAny_updateDict ho hd (wpAny_point (hQ _ ?_ (Heap.SameBut.update ..))))))
  rw[e1]
  refine⟨_,_,ep,Heap.get?_update_self _ ho (Obj.isFreed_of_dict (Obj.data_mapDict hd _)),hc.mapDict _,Obj.data_mapDict hd _,?_,λx hx=> ?_,by rw[keys_map_putAt];exact hn⟩
  ·have:=modify_map_putAt (entryOfKey knd) (λe:DictEntry=>{ e with val:=v }) k v (λ_ _=>rfl) hn hj
   rw[<-he]at this
   obtain⟨l⟩:=es
   simpa using this
  ·obtain⟨y,hy,rfl⟩:=List.mem_map.mp hx
   unfold putAt
   have kk:=λf=>keep (f:=f) hy
   split
   ·exact kk _
   ·exact kk _
def GZ(xs ys:List (K × Addr × Value)):List (K × Addr × Value):=ys.foldl (λacc y=>storedH acc y.1 y.2.1 y.2.2) xs
theorem wO(xs:List (K × Addr × Value))(k:K)(a:Addr)(v:Value):(storedH xs k a v).length<=xs.length+1:=by
 unfold storedH
 split
 ·rw[List.length_map];omega
 ·rw[List.length_append];exact Nat.le_refl _
theorem Z2:∀ (ys xs:List (K × Addr × Value)),(GZ xs ys).length<=xs.length+ys.length
 | [],xs=>Nat.le_refl _
 | y::ys,xs=>by
  have h1:=Z2 ys (storedH xs y.1 y.2.1 y.2.2)
  have h2:=wO xs y.1 y.2.1 y.2.2
  show(GZ (storedH xs y.1 y.2.1 y.2.2) ys).length<=_
  rw[List.length_cons];omega
theorem wP{xs ys:List (K × Addr × Value)}{i:Nat}{y:K × Addr × Value}(h:ys[i]? =some y):GZ xs (ys.take (i+1))=storedH (GZ xs (ys.take i)) y.1 y.2.1 y.2.2:=by
 have:ys.take (i+1)=ys.take i++[y]:=by rw[List.take_add_one,h];rfl
 unfold GZ
 rw[this,List.foldl_append]
 rfl
theorem wQ{a:Addr}{o:Obj}{Q:Bool->Shared->Prop}(ho:s.heap.get? a=some o)(hc:o.cls=.type "tuple")(h:Q false s):wpAny (model prog w) A (Builtin.Dict.quietEq (.ref a)) Q E s:=by
 unfold Builtin.Dict.quietEq
 refine wpAny_bind (wpAny_specialOf ⟨o,ho,hc⟩ F.slot_tuple_eq.lookup (wpAny_pure ?_))
 exact h
def Q2(knd:HeapKind prog w K)(ys:List (K × Addr × Value)):Prop:=(ys.map λy=>knd.hash y.1).Nodup
theorem wR{id:String}{d:Addr}{o:Obj}{es ep}{ys:List (K × Addr × Value)}{Q:Array DictEntry->Shared->Prop}(ho:s.heap.get? d=some o)(hd:o.data=.dict es ep)(he:es.toList=ys.map (entryOfKey knd))(ht:∀ y∈ys,∃ ob,s.heap.get? y.2.1=some ob/\ob.cls=.type "tuple")(ap:Q2 knd ys)(h:Q es s) :
  wpAny (model prog w) A (Builtin.Dict.entriesForEmpty id d) Q E s:=by
 unfold Builtin.Dict.entriesForEmpty
 refine wpAny_bind (wpAny_dictEntries ho hd ?_)
 have one:∀ e∈es.toList,(es.filter (·.hash == e.hash)).size<=1:=λe hm=>by
  rw[<-Array.length_toList,Array.toList_filter,he,List.filter_map,List.length_map]
  rw[he]at hm
  obtain⟨y,hy,rfl⟩:=List.mem_map.mp hm
  have:(ys.filter ((λx:DictEntry=>x.hash ==(entryOfKey knd y).hash) ∘ entryOfKey knd)).length=(ys.map λy=>knd.hash y.1).count (knd.hash y.1):=by
   rw[List.count_eq_countP,List.countP_map,List.countP_eq_length_filter]
   rfl
  rw[this]
  exact List.nodup_iff_count.mp ap _
 refine wpAny_bind ?_
 rw[<-Array.forIn_toList]
 refine wpAny_forIn_list _ (λDQ _ s'=>s'=s/\∀ e∈DQ,e∈es.toList) _ ?_ ?_ _ _ ⟨rfl,λe h=>h⟩
 ·rintro e DQ b s' ⟨rfl,hall⟩
  have hm:=hall e List.mem_cons_self
  have hm':=hm
  rw[he]at hm'
  obtain⟨y,hy,ey⟩:=List.mem_map.mp hm'
  obtain⟨ob,h1,h2⟩:=ht y hy
  have ek:e.key=.ref y.2.1:=by rw[<-ey];rfl
  rw[ek]
  refine wpAny_bind (wQ h1 h2 ?_)
  simp only[Bool.not_false,if_true]
  rw[if_neg (by have:=one e hm;omega)]
  exact wpAny_pure ⟨rfl,λe' h'=>hall e' (List.mem_cons_of_mem _ h')⟩
 ·rintro b s' ⟨rfl,_⟩
  exact wpAny_pure h
theorem wS{nm:String}{d o:Addr}{xs ys:List (K × Addr × Value)}{Q:Unit->Shared->Prop}(hu:knd.room A)(hdo:d≠o)(hoS:(o == sysModules)=false)
  (hd:s.heap.DictOfH knd d xs) (ho:s.heap.DictOfH knd o ys) (ht:∀ y∈ys,∃ ob,s.heap.get? y.2.1=some ob/\ob.cls=.type "tuple") (ap:xs=[]->Q2 knd ys)
  (hQ:∀ h',(h'.DictOfH knd d (GZ xs ys)\/(xs=[]/\h'.DictOfH knd d ys))->Heap.SameBut d s.heap h'->Q () { s with heap:=h' })
  (hsz:xs.length+ys.length<=sizeLine) :
  wpAny (model prog w) A (Builtin.Dict.mergeDict nm d o) Q E s:=by
 obtain⟨od,esd,epd,hod,hcd,hdd,hed,hisd,hnd⟩:=id hd
 obtain⟨oo,eso,epo,hoo,hco,hdo',heo,hiso,hno⟩:=id ho
 have szo:=size_of_entries heo
 unfold Builtin.Dict.mergeDict
 rw[if_neg (by simpa using hdo)]
 unfold Builtin.Dict.showsAll
 rw[if_neg (by rw[hoS];exact Bool.false_ne_true)]
 refine wpAny_bind (wpAny_pure ?_)
 refine wpAny_bind (wpAny_dictEntries hoo hdo' ?_)
 dsimp only
 split
 any_goals (refine wpAny_bind (wpAny_dictEntries hod hdd ?_);split)
 ·rename_i hemp
  have hxs:xs=[]:=by
   have h0:esd= #[]:=Array.isEmpty_iff.mp hemp
   rw[h0]at hed
   exact List.map_eq_nil_iff.mp hed.symm
  refine wpAny_bind (wR (knd:=knd) hoo hdo' heo ht (ap hxs) ?_)
  split
  ·have hto:eso.size<=sizeLine+1:=by omega
   refine wpAny_bind (wpAny_updateDictKeysTo hod hdd (wpAny_pure (hQ _ (.inr ⟨hxs,_,_,epd+1,Heap.get?_update_self _ hod (Obj.isFreed_of_dict (Obj.data_mapDictKeys hdd _)),hcd.mapDictKeys _,
    Obj.data_mapDictKeys hdd _,heo,λx hx=>knd.keeps (hiso x hx) hod hdd (Heap.SameBut.update ..),hno⟩) (Heap.SameBut.update ..))) hto)
  ·rename_i hne
   have h0:eso= #[]:=Array.isEmpty_iff.mp (by simpa using hne)
   have hm0:ys=[]:=List.length_eq_zero_iff.mp (by rw[<-szo,h0];rfl)
   subst hm0
   exact wpAny_pure (hQ _ (.inl hd) (Heap.SameBut.refl _ _))
 all_goals
  refine wpAny_bind (wpAny_dictEpoch hoo hdo' (wpAny_bind (wpAny_dictEntries hoo hdo' (wpAny_bind ?_))))
  rw[Std.Legacy.Range.forIn_eq_forIn_range']
  simp only[Std.Legacy.Range.size,Nat.sub_zero,Nat.add_sub_cancel,Nat.div_one]
  refine wpAny_forIn_list _
   (λDQ _ s'=>∃ h' i,s'={ s with heap:=h' }/\DQ=List.range' i (eso.size - i)/\i<=eso.size/\h'.DictOfH knd d (GZ xs (ys.take i))/\Heap.SameBut d s.heap h')
   _ ?_ ?_ _ _ ⟨s.heap,0,rfl,by simp,Nat.zero_le _,hd,Heap.SameBut.refl _ _⟩
  ·rintro x DQ b s' ⟨h',i,rfl,hr,hi,hd',hs'⟩
   have hlt:i<eso.size:=by
    rcases Nat.lt_or_ge i eso.size with h | h
    ·exact h
    ·rw[Nat.sub_eq_zero_of_le h]at hr;simp at hr
   obtain⟨rfl,hrest⟩:x=i/\DQ=List.range' (i+1) (eso.size - (i+1)):=by
    rw[show eso.size - i=(eso.size - (i+1))+1 by omega,List.range'_succ]at hr
    injection hr with h1 h2
    exact⟨h1,h2⟩
   have hoo':h'.get? o=some oo:=(hs'.2 o (Ne.symm hdo)).trans hoo
   obtain⟨y,hy⟩:∃ y,ys[x]? =some y:=⟨ys[x]'(by omega),List.getElem?_eq_getElem _⟩
   have hk:knd.is h' y.1 y.2.1:=knd.keeps (hiso y (List.mem_of_getElem? hy)) hod hdd hs'
   refine wpAny_bind (wpAny_dictEntries hoo' hdo' ?_)
   rw[entry_at heo x,hy]
   have hmx:(GZ xs (ys.take x)).length<=sizeLine:=by
    have e1:=Z2 (ys.take x) xs
    have e2:(ys.take x).length<=ys.length:=by rw[List.length_take];omega
    omega
   refine wpAny_bind (wpAny_holding (wN (s:={ s with heap:=h' }) hu hk hd' (λh2 hd2 hs2=> ?_) hmx))
   have hoo2:h2.get? o=some oo:=(hs2.2 o (Ne.symm hdo)).trans hoo'
   refine wpAny_bind (wpAny_dictEpoch hoo2 hdo' ?_)
   rw[if_neg (by simp)]
   exact wpAny_pure ⟨h2,x+1,rfl,hrest,hlt,by rw[wP hy];exact hd2,hs'.trans hs2⟩
  ·rintro b s' ⟨h',i,rfl,hr,hi,hd',hs'⟩
   have hin:i=eso.size:=by
    rcases Nat.lt_or_ge i eso.size with h | h
    ·rw[show eso.size - i=(eso.size - (i+1))+1 by omega,List.range'_succ]at hr;exact nomatch hr
    ·exact Nat.le_antisymm hi h
   refine wpAny_pure (hQ h' (.inl ?_) hs')
   rw[hin,szo,List.take_length]at hd';exact hd'
theorem wT(knd:HeapKind prog w K)(d o:Addr)(hdo:d≠o)(hoS:(o == sysModules)=false) :
  MeetsIn prog w (Builtin.«dict.update» ⟨[.ref d,.ref o],[]⟩) (λA R s=>knd.room A.in1/\∃ xs ys,s.heap.DictOfH knd d xs/\s.heap.DictOfH knd o ys/\(∀ y∈ys,∃ ob,s.heap.get? y.2.1=some ob/\ob.cls=.type "tuple")/\(xs=[]->Q2 knd ys)/\xs.length+ys.length<=sizeLine ∧
   ∀ h',(h'.DictOfH knd d (GZ xs ys)\/(xs=[]/\h'.DictOfH knd d ys))->Heap.SameBut d s.heap h'->R (.ok (.ret .none)) { s with heap:=h' }) :=
 .of_wp λA R s ⟨hu,xs,ys,hd,ho,ht,ap,hsz,h⟩=>by
  unfold Builtin.«dict.update» Builtin.Dict.selfAndRest
  refine wpAny_bind (wpAny_bind (wpAny_notOrdered_dict hd.typeIs ?_))
  show wpAny _ _ (pure (d,[Value.ref o])) _ _ s
  refine wpAny_pure ?_
  show wpAny _ _ (Builtin.Dict.updateFrom "dict.update" d (.ref o) [] .none) _ _ s
  unfold Builtin.Dict.updateFrom
  refine wpAny_bind (wpAny_typeOf ho.typeIs ?_)
  rw[if_neg (by decide)]
  unfold Builtin.Dict.merge Builtin.Dict.readDirectly
  refine wpAny_bind (wpAny_bind (wpAny_bind (wpAny_isInstance ho.typeIs isSubtype_dict_dict ?_)))
  simp only[Bool.not_true,Bool.false_eq_true,if_false]
  refine wpAny_bind (wpAny_specialOf ho.typeIs F.slot_dict_iter.lookup (wpAny_pure ?_))
  simp only[beq_self_eq_true,if_true]
  refine wpAny_bind (wpAny_pure (wS hu hdo hoS hd ho ht ap (λh' hd' hs'=> ?_) hsz))
  show wpAny _ _ (Builtin.Dict.addKeywords d [] >>= _) _ _ _
  exact wpAny_bind (wpAny_pure (wpAny_pure ⟨.none,rfl,h h' hd' hs'⟩))
end
def DU(kvs more:List (List AZ × V)):List (List AZ × V):=more.foldl (λacc kv=>B7 acc kv.1 kv.2) kvs
theorem KT.merge{H:Hp}:∀ {more:List (List AZ × V)} {ys:List (List AZ × Addr × Value)} {kvs:List (List AZ × V)} {xs:List (List AZ × Addr × Value)},KT H more ys->KT H kvs xs->KT H (DU kvs more) (GZ xs ys):=by
 intro more ys kvs xs r
 unfold KT at r
 induction r generalizing kvs xs with
 | nil=>intro q;exact q
 | @cons p q ps qs h t ih =>
  intro r0
  have e:KT H (B7 kvs p.1 p.2) (storedH xs q.1 q.2.1 q.2.2):=by
   have:=r0.put p.1 h.2.1 h.2.2
   rw[<-h.1];exact this
  exact ih e
theorem TK:∀ (more kvs:List (List AZ × V)),(DU kvs more).length<=kvs.length+more.length
 | [],kvs=>Nat.le_refl _
 | p::r,kvs=>by
  have h1:=TK r (B7 kvs p.1 p.2)
  have h2:=NL kvs p.1 p.2
  show(DU (B7 kvs p.1 p.2) r).length<=_
  rw[List.length_cons];omega
theorem TM:∀ (more acc:List (List AZ × V)),((acc++more).map (·.1)).Nodup->DU acc more=acc++more
 | [],acc,_=>by simp[DU]
 | p::r,acc,h=>by
  have e:B7 acc p.1 p.2=acc++[p]:=by
   unfold B7
   rw[if_neg]
   rw[List.any_eq_true]
   rintro ⟨x,hx,he⟩
   rw[List.map_append,List.nodup_append]at h
   exact h.2.2 x.1 (List.mem_map.mpr ⟨x,hx,rfl⟩) p.1 (by simp) (of_decide_eq_true he)
  show DU (B7 acc p.1 p.2) r=_
  rw[e,TM r (acc++[p]) (by rw[List.append_assoc];exact h),List.append_assoc]
  rfl
theorem KT.keys{H:Hp}{kvs:List (List AZ × V)}{xs:List (List AZ × Addr × Value)}(r:KT H kvs xs):kvs.map (·.1)=xs.map (·.1):=by
 unfold KT at r
 induction r with
 | nil=>rfl
 | cons h t ih=>rw[List.map_cons,List.map_cons,ih,h.1]
def N0(more:List (List AZ × V)):Prop:=∀ (P:Program) (w:World),((more.map (·.1)).map (tupleKind (DP P w)).hash).Nodup
def Z3:V->List V->Hp->VK->Prop:=λx vs H Q=>∃ d o kvs more,x=.ref d/\vs=[.ref o]/\d≠o/\H d=some (.dT kvs)/\H o=some (.dT more)/\(kvs=[]->N0 more)/\kvs.length+more.length<=sizeLine/\Q .non (upd H d (.dT (DU kvs more)))
theorem wU{X:Cx}(hu:X.A.units+1<cLine):NK X "dict.update" Z3:=by
 intro pins s σ H x vs v us Q I rx rv h
 obtain⟨d,o,kvs,more,rfl,rfl,hdo,hH,hO,ap,hz,q⟩:=h
 cases rx
 obtain⟨u,rfl,ru⟩:=rv.one
 cases ru
 obtain⟨z1,hd1,xs,rel1,dd1⟩:=QQ I.hok hH
 obtain⟨z2,hd2,ys,rel2,dd2⟩:=QQ I.hok hO
 have l1:kvs.length=xs.length:=Paired.length rel1
 have l2:more.length=ys.length:=Paired.length rel2
 have nd:(more.map (·.1)).Nodup:=by
  obtain⟨_,_,_,_,_,_,_,_,hn⟩:=dd2
  rw[rel2.keys];exact hn
 refine call_meetsIn PySem.F.slot_dict_update dd1.typeIs PySem.F.entry_dict_update (PySem.F.args_dict_update_2 _ _) (wT (tupleKind (DP X.prog X.w)) d o hdo hd2) ⟨tupleKind_room_in1 hu,xs,ys,dd1,dd2,λy hy=> ?_,λe=> ?_,by omega,λh' dd hs=> ?_⟩
 ·obtain⟨_,_,_,_,_,_,_,his,_⟩:=dd2
  obtain⟨ob,_,_,h1,h2,_⟩:=his y hy
  exact⟨ob,h1,h2⟩
 ·have:=ap (List.length_eq_zero_iff.mp (by rw[l1,e];rfl)) X.prog X.w
  unfold Q2
  rw[rel2.keys,List.map_map]at this
  exact this
 ·have hl:(DU kvs more).length<=sizeLine:=by have:=TK more kvs;omega
  have tk:∀ {kvs':List (List AZ × V)} {xs':List (List AZ × Addr × Value)},KT H kvs' xs'->KT (upd H d (.dT (DU kvs more))) kvs' xs':=λr=>r.keeps λc ys ec=>by
   rw[AT (C5 ec hH (λz=>nomatch z))]
   exact ec
  have fin:∀ {xs'},KT H (DU kvs more) xs'->h'.DictOfH (tupleKind (DP X.prog X.w)) d xs'->EP X pins σ Q .none { s with heap:=h' }:=λ{xs'} r dd'=>by
   obtain⟨ob,es,ep,hq,h2,h3,h4,_,h5⟩:=dd'
   exact⟨.non,_,QR (ob:=.dT (DU kvs more)) I (by rw[hH];exact True.intro) hs ⟨ob,hq⟩ ⟨hl,hd1,_,tk r,ob,es,ep,hq,h2,h3,h4,h5⟩,rfl,q⟩
  rcases dd with dd | ⟨e,dd⟩
  ·exact fin (rel2.merge rel1) dd
  ·have e0:kvs=[]:=List.length_eq_zero_iff.mp (by rw[l1,e];rfl)
   refine fin ?_ dd
   rw[e0,TM more [] nd]
   exact rel2
def Q3(H:Hp)(ps:List (V × V))(kvs:List (List AZ × V)):Prop:=Paired (λ(q:V × V) (kv:List AZ × V)=>(∃ b,q.1=.ref b/\H b=some (.tup (kv.1.map kV)))/\q.2=kv.2) ps kvs
theorem wV{H:Hp}{p:Addr}{o o':HO}:upd (upd H p o) p o'=upd H p o':=by
 funext x
 by_cases e:x=p
 ·rw[e,AS,AS]
 ·rw[AT e,AT e,AT e]
theorem wW{H:Hp}{p:Addr}{o:HO}(h:H p=some o):upd H p o=H:=by
 funext x
 by_cases e:x=p
 ·rw[e,AS,h]
 ·rw[AT e]
theorem wX{X:Cx}{pins:List (Addr × Obj)}{σ:St}{d:Addr}{E:Value->Shared->Prop}(hu:X.A.units+1<cLine):∀ (ws:List (Value × Value)) (ps:List (V × V)) (kvs acc:List (List AZ × V)) (s:Shared) (H:Hp) (Q:PUnit->Shared->Prop),Inv X pins σ H s->H d=some (.dT acc)->VV ps ws->Q3 H ps kvs->acc.length+kvs.length<=sizeLine →
  (∀ s',Inv X pins σ (upd H d (.dT (DU acc kvs))) s'->Q PUnit.unit s')->wpAny (model X.prog X.w) X.A (storeAll d ws) Q E s:=by
 intro ws
 induction ws with
 | nil =>
  intro ps kvs acc s H Q I e rel kr hz h
  cases rel
  cases kr
  unfold storeAll
  rw[List.forIn_nil]
  refine wpAny_pure (h s ?_)
  show Inv X pins σ (upd H d (.dT acc)) s
  rw[wW e]
  exact I
 | cons x ws ih =>
  intro ps kvs acc s H Q I e rel kr hz h
  cases rel with
  | @cons p _ ps _ rp rel =>
   cases kr with
   | @cons _ kv _ kvs hk kr =>
    obtain⟨⟨b,eb,hb⟩,ev⟩:=hk
    obtain⟨u,v⟩:=x
    have r1:RelV p.1 u:=rp.1
    have r2:RelV p.2 v:=rp.2
    rw[eb]at r1
    cases (show u=Value.ref b from r1)
    rw[ev]at r2
    rw[List.length_cons]at hz
    obtain⟨z,hd,xs,rl,dd⟩:=QQ I.hok e
    have hx:xs.length<=sizeLine:=by rw[<-Paired.length rl];exact z
    have hl:(B7 acc kv.1 kv.2).length<=acc.length+1:=NL acc kv.1 kv.2
    unfold storeAll
    rw[List.forIn_cons]
    refine wpAny_bind (wpAny_bind (wpAny_dictSet_heap (hsz:=hx) (knd:=tupleKind (DP X.prog X.w)) (show X.A.units<cLine by omega) (NM I.hok hb) dd λh' dd' hs=>wpAny_pure ?_))
    have tk:∀ {o':HO} {c:Addr} {ys:List V},H c=some (.tup ys)->upd H d o' c=some (.tup ys):=λec=>by
     rw[AT (C5 ec e (λz=>nomatch z))]
     exact ec
    obtain⟨q,es,ep,hq,h2,h3,h4,_,h5⟩:=dd'
    have I':Inv X pins σ (upd H d (.dT (B7 acc kv.1 kv.2))) { s with heap:=h',toks:=s.toks+(tupleKind (DP X.prog X.w)).draws kv.1 } :=
     QR (ob:=.dT (B7 acc kv.1 kv.2)) I (by rw[e];exact True.intro) hs ⟨q,hq⟩ ⟨by omega,hd,_,(rl.put kv.1 hb r2).keeps λc ys ec=>tk ec,q,es,ep,hq,h2,h3,h4,h5⟩
    refine ih ps kvs (B7 acc kv.1 kv.2) _ _ Q I' AS rel (Paired.mapP kr λq kv' ⟨⟨b',e1,e2⟩,e3⟩=>⟨⟨b',e1,tk e2⟩,e3⟩) (by omega) λs' i=>h s' ?_
    rw[wV]at i
    exact i
def LB(trs:List (TE × TE)):TE:=λσ H Q=>∀ p,H p=none->JM trs σ (upd H p (.dT [])) λps H2=>H2 p=some (.dT [])/\∃ kvs:List (List AZ × V),Q3 H2 ps kvs/\kvs.length<=15/\Q (.ref p) (upd H2 p (.dT (DU [] kvs)))
theorem Q4{X:Cx}{pos:Pos}{keys:List (Option Expr)}{values:List Expr}{trs:List (TE × TE)}(hu:X.A.units+1<cLine)(h:QS X pos keys values trs)(hall:keys.all (·.isSome)=true)(hl:keys.length=values.length)(h0:keys≠[])
  (h15:keys.length<=15):PE X (.Dict keys values pos) (LB trs):=by
 intro pins s σ H Q I q
 have hn:=I.hok.fresh (Nat.le_refl s.heap.objs.size)
 have I1:=I.laid (a:=s.heap.objs.size) (o:=.dT []) (h':=s.heap.push { cls:=.type "dict",data:=.dict #[] }) (t':=s.toks) (λ_ _ q=>Heap.get?_push_of_some _ q) (Nat.le_refl _) (YZ s.heap I.big)
 refine wpAny_Dict_any hall hl h0 h15 (AY (h pins _ σ _ _ I1 (q _ hn)) λws s2 ⟨ps,H2,I2,rel,e,kvs,kr,lk,q2⟩=> ?_)
 refine wX hu ws ps kvs [] s2 H2 _ I2 e rel kr ?_ λs' i=>⟨.ref s.heap.objs.size,_,i,rfl,q2⟩
 rw[sizeLine_eq,List.length_nil];omega
theorem wY{trs:List (TE × TE)}{σ:St}{H:Hp}{Q:VK}:LB trs σ H Q=∀ p,H p=none->JM trs σ (upd H p (.dT [])) λps H2=>H2 p=some (.dT [])/\∃ kvs:List (List AZ × V),Q3 H2 ps kvs/\kvs.length<=15/\Q (.ref p) (upd H2 p (.dT (DU [] kvs))):=rfl
theorem wZ{td ty tx:TE}{σ:St}{H:Hp}{Q:VK}:SZ td ty tx σ H Q=(td σ H λx H1=>∃ a,x=.ref a/\NO H1 a/\ty σ H1 λy H2=>tx σ H2 λz H3=>∃ o,DGet H3 a y o/\Q (o.getD z) H3):=rfl
theorem xA{σ:St}{H:Hp}{QP:List (V × V)->Hp->Prop}:JM [] σ H QP=QP [] H:=rfl
theorem xB{tk tv:TE}{r:List (TE × TE)}{σ:St}{H:Hp}{QP:List (V × V)->Hp->Prop}:JM ((tk,tv)::r) σ H QP=(tk σ H λx H1=>tv σ H1 λy H2=>JM r σ H2 λps H3=>QP ((x,y)::ps) H3):=rfl
end L2
namespace L2
abbrev Ad:=String->Addr
def SameBut(F:Addr->Prop)(H H':Hp):Prop:=∀ b o,H b=some o->¬ F b->H' b=some o
structure EL(K:W.Frag)(a:Ad):Prop where
 cl:Cls K (a "Plank")
 nC:NoAttr K (a "Plank") "contents"
 nW:NoAttr K (a "Plank") "width"
 nN:NoAttr K (a "Plank") "written"
def pf(cl:Addr)(w n:Int):List (Str × V):=[("contents",.ref cl),("width",.int w),("written",.int n)]
theorem Z4:¬ ("contents":Str)="width":=by decide +kernel
theorem TN:¬ ("contents":Str)="written":=by decide +kernel
theorem TQ:¬ ("width":Str)="written":=by decide +kernel
theorem Q5(cl:Addr)(w n:Int):(pf cl w n).lookup ("contents":Str)=some (V.ref cl):=by simp[pf]
theorem xC(cl:Addr)(w n:Int):(pf cl w n).lookup ("width":Str)=some (V.int w):=by
 have h:(("width":Str) == "contents")=false:=beq_eq_false_iff_ne.mpr (Ne.symm Z4)
 simp[pf,List.lookup_cons,h]
theorem Z5(cl:Addr)(w n:Int):(pf cl w n).lookup ("written":Str)=some (V.int n):=by
 have h:(("written":Str) == "contents")=false:=beq_eq_false_iff_ne.mpr (Ne.symm TN)
 have h2:(("written":Str) == "width")=false:=beq_eq_false_iff_ne.mpr (Ne.symm TQ)
 simp[pf,List.lookup_cons,h,h2]
theorem xD(cl:Addr)(w n:Int):BQ "written" (.int n) (BQ "width" (.int w) (BQ "contents" (.ref cl) []))=pf cl w n:=by
 simp only[BQ,pf]
 rw[if_neg Z4]
 simp only[BQ]
 rw[if_neg TN,if_neg TQ]
theorem xE(cl:Addr)(w n m:Int):BQ "written" (.int m) (pf cl w n)=pf cl w m:=by
 simp only[BQ,pf]
 rw[if_neg TN,if_neg TQ]
 simp
theorem N1(cl:Addr)(w n:Int){m:Str}(h1:¬ m="contents")(h2:¬ m="width")(h3:¬ m="written"):(pf cl w n).lookup m=none:=by
 have e1:=beq_eq_false_iff_ne.mpr h1
 have e2:=beq_eq_false_iff_ne.mpr h2
 have e3:=beq_eq_false_iff_ne.mpr h3
 simp[pf,List.lookup_cons,e1,e2,e3]
structure PlankAt(a:Ad)(H:Hp)(p cl:Addr)(w:Nat)(rows:List (List V))(n:Nat):Prop where
 ob:∃ dx,H p=some (.ins (a "Plank") dx (pf cl w n))
 ls:∃ ts:List Addr,H cl=some (.lst (ts.map V.ref))/\Paired (λt r=>H t=some (.tup r)) ts rows
 wd:∀ r∈rows,r.length=w
 sz:rows.length<=1000
 sw:w<=1000
theorem PlankAt.ne{a:Ad}{H:Hp}{p cl:Addr}{w:Nat}{rows:List (List V)}{n:Nat}(P:PlankAt a H p cl w rows n):p≠cl:=by
 obtain⟨⟨dx,h1⟩,⟨ts,h2,_⟩,_⟩:=P
 exact C5 h1 h2 (by intro z;cases z)
theorem PlankAt.keep{a:Ad}{H H':Hp}{p cl:Addr}{w:Nat}{rows:List (List V)}{n:Nat}(P:PlankAt a H p cl w rows n)(h1:H' p=H p)(h2:H' cl=H cl)(h3:∀ b xs,H b=some (.tup xs)->H' b=some (.tup xs)):PlankAt a H' p cl w rows n:=by
 obtain⟨⟨dx,e1⟩,⟨ts,e2,e3⟩,r1,r2,r3⟩:=P
 exact⟨⟨dx,h1.trans e1⟩,⟨ts,h2.trans e2,Paired.mapP e3 λt r q=>h3 t r q⟩,r1,r2,r3⟩
theorem PlankAt.same{a:Ad}{H H':Hp}{p cl:Addr}{w:Nat}{rows:List (List V)}{n:Nat}(P:PlankAt a H p cl w rows n)(s:Same H H'):PlankAt a H' p cl w rows n:=by
 obtain⟨⟨dx,e1⟩,⟨ts,e2,e3⟩,r1,r2,r3⟩:=P
 exact⟨⟨dx,s _ _ e1⟩,⟨ts,s _ _ e2,Paired.mapP e3 λt r q=>s _ _ q⟩,r1,r2,r3⟩
def N3(K:W.Frag)(a:Ad):Sp:=λvs H Q _=>∃ (p dx:Addr) (m w:Nat),vs=[.ref p,.int m,.int w]/\EL K a/\H p=some (.ins (a "Plank") dx [])/\m<=1000/\1<=w/\w<=1000 ∧
 ∀ cl H',H cl=none->PlankAt a H' p cl w (List.replicate m (List.replicate w .non)) 0->SameBut (· =p) H H'->Q .non H'
def N5(K:W.Frag)(a:Ad):Sp:=λvs H Q _=>∃ p cl w rows n,vs=[.ref p]/\EL K a/\PlankAt a H p cl w rows n/\Q (.int rows.length) H
def LC(K:W.Frag)(a:Ad):Sp:=λvs H Q _=>∃ (p cl:Addr) (w:Nat) (rows:List (List V)) (n:Nat),vs=[.ref p]/\EL K a/\PlankAt a H p cl w rows n/\Q (.int n) H
def HK(K:W.Frag)(a:Ad):Sp:=λvs H Q E=>∃ (p cl:Addr) (w:Nat) (rows:List (List V)) (n:Nat) (b:Int),vs=[.ref p,.int b]/\EL K a/\PlankAt a H p cl w rows n ∧
 (0<=b->b<rows.length->Q .non H)/\(b<0\/rows.length<=b->E (.ref (a "NoBlock")) none H)
def GD(K:W.Frag)(a:Ad):Sp:=λvs H Q E=>∃ (p cl:Addr) (w:Nat) (rows:List (List V)) (n:Nat) (b:Int),vs=[.ref p,.int b]/\EL K a/\PlankAt a H p cl w rows n ∧
 (∀ (i:Nat) row,b=i->rows[i]? =some row->∀ l,H l=none->Q (.ref l) (upd H l (.lst row)))/\(b<0\/rows.length<=b->E (.ref (a "NoBlock")) none H)
def JS(K:W.Frag)(a:Ad):Sp:=λvs H Q E=>∃ (p cl:Addr) (w:Nat) (rows:List (List V)) (n:Nat) (b:Int) (v:Addr) (xs:List V),vs=[.ref p,.int b,.ref v]/\EL K a/\PlankAt a H p cl w rows n/\SqL K H v xs/\xs.length<=2000 ∧
 (∀ (i:Nat),b=i->i<rows.length->xs.length=w->∀ H',PlankAt a H' p cl w (rows.set i xs) (n+1)->SameBut (λx=>x=p\/x=cl) H H'->Q .non H') ∧
 (b<0\/rows.length<=b\/xs.length≠w->E (.ref (a "NoBlock")) none H)
end L2
namespace L2
theorem BZ{K:W.Frag}{H:Hp}{p:Addr}{xs:List V}{i:Int}{n:Nat}{v:V}{Q:VK}(h:H p=some (.tup xs))(hi:i=n)(hx:xs[n]? =some v)(q:Q v H):AK K (.ref p) (.int i) H Q :=
 .inr (.inl ⟨p,xs,i,v,rfl,rfl,SqT.of h,by rw[hi];exact SO hx,q⟩)
theorem Q6{K:W.Frag}{H:Hp}{p:Addr}{xs:List V}{lo hi:Option Int}{Q:VK}(h:SqL K H p xs)(q:∀ r,H r=none->Q (.ref r) (upd H r (.lst (EF xs lo hi)))):IH K (.ref p) lo hi H Q:=.inl ⟨p,xs,rfl,h,q⟩
theorem SameBut.refl{F:Addr->Prop}(H:Hp):SameBut F H H:=λ_ _ e _=>e
theorem SameBut.trans{F:Addr->Prop}{H H' H2:Hp}(s:SameBut F H H')(t:SameBut F H' H2):SameBut F H H2:=λb o e n=>t _ _ (s _ _ e n) n
theorem SameBut.wide{F G:Addr->Prop}{H H':Hp}(s:SameBut F H H')(i:∀ x,F x->G x):SameBut G H H':=λb o e n=>s _ _ e λz=>n (i _ z)
theorem Same.sb{F:Addr->Prop}{H H':Hp}(s:Same H H'):SameBut F H H':=λb o e _=>s b o e
theorem SqL.on{K:W.Frag}{H H':Hp}{x:Addr}{xs:List V}(h:SqL K H x xs)(k:∀ o,H x=some o->H' x=some o):SqL K H' x xs:=by
 rcases h with(h | ⟨o,h⟩) | h
 ·exact .inl (.inl (k _ h))
 ·exact .inl (.inr ⟨o,k _ h⟩)
 ·exact .inr h
theorem SqL.sb{K:W.Frag}{F:Addr->Prop}{H H':Hp}{x:Addr}{xs:List V}(h:SqL K H x xs)(s:SameBut F H H')(f:∀ o,H x=some o->¬ F x):SqL K H' x xs:=by
 rcases h with(h | ⟨o,h⟩) | h
 ·exact .inl (.inl (s _ _ h (f _ h)))
 ·exact .inl (.inr ⟨o,s _ _ h (f _ h)⟩)
 ·exact .inr h
theorem SameBut.upd{F:Addr->Prop}{H H':Hp}{p:Addr}{o:HO}(s:SameBut F H H')(h:F p\/H p=none):SameBut F H (upd H' p o):=λb u e n=>by
 have:b≠p:=by
  rcases h with h | h
  ·exact λz=>n (z ▸ h)
  ·exact BE e h
 rw[AT this];exact s _ _ e n
structure Ch where
 blk:Nat
 cell:Nat
 val:V
 nd:List Int
def Z6:List Ch->Int->Int->Option Nat
 | [],_,_=>none
 | c::r,i,j=>if(c.blk:Int)=i/\(c.cell:Int)=j then some r.length else Z6 r i j
def Z7(cs:List Ch)(i j:Int):Option Nat:=Z6 cs.reverse i j
def TR:List Ch->Nat->List Nat
 | [],_=>[]
 | c::r,b=>if c.blk=b then TR r b++[r.length]else TR r b
def xF(cs:List Ch)(b:Nat):List Nat:=TR cs.reverse b
def xG(pl:Addr)(v:V)(nt:Addr):List (Str × V):=[("place",.ref pl),("value",v),("needs",.ref nt)]
def bf(gp m mi lt ou:Addr):List (Str × V):=[("ground",.ref gp),("made",.ref m),("made_in",.ref mi),("latest",.ref lt),("outs",.ref ou)]
def EU(a b:Str):Bool:=a == b
section
variable{pl nt gp m mi lt ou:Addr}{v:V}
theorem BH{a b:Str}(h:EU a b=false):(a == b)=false:=h
theorem CM{f g:Str}{x y:V}{r:List (Str × V)}(h:EU g f=false):BQ f y ((g,x)::r)=(g,x)::BQ f y r:=by
 have:¬ g=f:=λe=>by rw[e]at h;simp[EU]at h
 simp[BQ,this]
theorem Z8{f:Str}{y:V}:BQ f y []=[(f,y)]:=rfl
end
structure zdr(K:W.Frag)(C D:Addr):Prop where
 cl:Cls K C
 nG:NoAttr K C "ground"
 nM:NoAttr K C "made"
 nI:NoAttr K C "made_in"
 nL:NoAttr K C "latest"
 nO:NoAttr K C "outs"
 cc:Cls K D
 nP:NoAttr K D "place"
 nV:NoAttr K D "value"
 nN:NoAttr K D "needs"
def ChAt(D:Addr)(H:Hp)(x:Addr)(c:Ch):Prop:=∃ dx pl nt,H x=some (.ins D dx (xG pl c.val nt))/\H pl=some (.tup [.int c.blk,.int c.cell])/\H nt=some (.tup (c.nd.map V.int))
structure BA where
 b:Addr
 gp:Addr
 m:Addr
 mi:Addr
 lt:Addr
 ou:Addr
 ls:List Addr
 cl:Addr
def BA.F(A:BA)(x:Addr):Prop:=x=A.m\/x=A.mi\/x∈A.ls\/x=A.lt\/x=A.ou\/x=A.cl
def KeysOk(kvo:List (AZ × V))(n:Nat):Prop:=(kvo.map (·.1)).Nodup/\∀ p∈kvo,∃ x:Nat,p.1=Sum.inl (x:Int)/\x<n
theorem KeysOk.mono{kvo:List (AZ × V)}{n m:Nat}(h:KeysOk kvo n)(hm:n<=m):KeysOk kvo m:=⟨h.1,λp hp=>by obtain⟨x,e,hx⟩:=h.2 p hp;exact⟨x,e,by omega⟩⟩
theorem KeysOk.len{kvo:List (AZ × V)}{n:Nat}(h:KeysOk kvo n):kvo.length<=n:=by
 have:=List.Nodup.length_le_of_subset (l₂:=(List.range n).map λ(k:Nat)=>(Sum.inl (k:Int):AZ)) h.1 λk hk=>by
  obtain⟨p,hp,rfl⟩:=List.mem_map.mp hk
  obtain⟨x,e,hx⟩:=h.2 p hp
  rw[e]
  exact List.mem_map.mpr ⟨x,List.mem_range.mpr hx,rfl⟩
 simpa using this
theorem KeysOk.put{kvo:List (AZ × V)}{n:Nat}(h:KeysOk kvo n){k:Nat}(hk:k<n)(hn:B0 kvo (.inl (k:Int))=none)(v:V):KeysOk (B7 kvo (.inl (k:Int)) v) n:=by
 refine⟨p9 v h.1 hn,λp hp=> ?_⟩
 rw[YW v hn]at hp
 rcases List.mem_append.mp hp with hp | hp
 ·exact h.2 p hp
 ·rw[List.mem_singleton.mp hp];exact⟨k,rfl,hk⟩
structure BookIn(C D:Addr)(H:Hp)(A:BA)(w:Nat)(cs:List Ch)(outs:Int->Bool):Prop where
 ob:∃ dx,H A.b=some (.ins C dx (bf A.gp A.m A.mi A.lt A.ou))
 made:∃ chs:List Addr,H A.m=some (.lst (chs.map V.ref))/\Paired (ChAt D H) chs cs
 mil:H A.mi=some (.lst (A.ls.map V.ref))
 mic:∀ (i:Nat) l,A.ls[i]? =some l->H l=some (.lst ((xF cs i).map λ(k:Nat)=>V.int k))
 nd:A.ls.Nodup
 lat:∃ kvs,H A.lt=some (.dT kvs)/\(∀ i j:Int,B0 kvs [.inl i,.inl j]=(Z7 cs i j).map λ(k:Nat)=>V.int k)/\kvs.length<=cs.length
 out:∃ kvo,H A.ou=some (.dK kvo)/\(∀ k:Int,(B0 kvo (.inl k)).isSome=outs k)/\KeysOk kvo cs.length
 sz:cs.length<=990
 inn:∀ c∈cs,c.blk<A.ls.length/\c.cell<w
 need:∀ (k:Nat) c,cs[k]? =some c->(∀ x∈c.nd,0<=x/\x<k)/\c.nd.Pairwise (· <·)/\c.nd.length<=100
 ap:A.m≠A.mi/\A.m∉A.ls/\A.mi∉A.ls/\A.cl≠A.m/\A.cl≠A.mi/\A.cl∉A.ls
 chn:∀ (k:Nat) c,cs[k]? =some c->∀ j,Z7 (cs.take k) c.blk c.cell=some j->(j:Int)∈c.nd
structure BookAt(a:Ad)(C:Addr)(H:Hp)(A:BA)(w:Nat)(rows:List (List V))(n:Nat)(cs:List Ch)(outs:Int->Bool):Prop where
 bk:BookIn C (a "Change") H A w cs outs
 pk:PlankAt a H A.gp A.cl w rows n
 nb:A.ls.length=rows.length
def IM(o:Option HO):Prop:=(∀ xs,o≠some (.tup xs))/\∀ C dx fs,o≠some (.ins C dx fs)
theorem ChAt.sb{D:Addr}{G:Addr->Prop}{H H':Hp}(s:SameBut G H H')(g:∀ x,G x->IM (H x)){x:Addr}{c:Ch}(h:ChAt D H x c):ChAt D H' x c:=by
 obtain⟨dx,pl,nt,e1,e2,e3⟩:=h
 exact⟨dx,pl,nt,s _ _ e1 λz=>(g _ z).2 _ _ _ e1,s _ _ e2 λz=>(g _ z).1 _ e2,s _ _ e3 λz=>(g _ z).1 _ e3⟩
theorem BookIn.sb{C D:Addr}{G:Addr->Prop}{H H':Hp}{A:BA}{w:Nat}{cs:List Ch}{outs:Int->Bool}(B:BookIn C D H A w cs outs)(s:SameBut G H H')(g:∀ x,G x->IM (H x))(f:∀ x,G x->¬ A.F x):BookIn C D H' A w cs outs:=by
 obtain⟨⟨dx,e1⟩,⟨chs,e2,e3⟩,e4,e5,e6,⟨kvs,e7,e8⟩,⟨kvo,e9,e10⟩,r1,r2,r3,r4,r5⟩:=B
 refine⟨⟨dx,s _ _ e1 λz=>(g _ z).2 _ _ _ e1⟩,⟨chs,s _ _ e2 λz=>f _ z (.inl rfl),Paired.mapP e3 λx c h=>h.sb s g⟩,s _ _ e4 λz=>f _ z (.inr (.inl rfl)),λi l h=>s _ _ (e5 i l h) λz=>f _ z (.inr (.inr (.inl (List.mem_of_getElem? h)))),e6,
  ⟨kvs,s _ _ e7 λz=>f _ z (.inr (.inr (.inr (.inl rfl)))),e8⟩,⟨kvo,s _ _ e9 λz=>f _ z (.inr (.inr (.inr (.inr (.inl rfl))))),e10⟩,r1,r2,r3,r4,r5⟩
theorem PlankAt.sbL{a:Ad}{G:Addr->Prop}{H H':Hp}{p cl:Addr}{w:Nat}{rows:List (List V)}{n:Nat}(P:PlankAt a H p cl w rows n)(s:SameBut G H H')(g:∀ x,G x->IM (H x))(h:¬ G cl):PlankAt a H' p cl w rows n:=by
 obtain⟨⟨dx,e1⟩,⟨ts,e2,e3⟩,r1,r2,r3⟩:=P
 exact⟨⟨dx,s _ _ e1 λz=>(g _ z).2 _ _ _ e1⟩,⟨ts,s _ _ e2 h,Paired.mapP e3 λt r q=>s _ _ q λz=>(g _ z).1 _ q⟩,r1,r2,r3⟩
theorem BookAt.sb{a:Ad}{C:Addr}{G:Addr->Prop}{H H':Hp}{A:BA}{w:Nat}{rows:List (List V)}{n:Nat}{cs:List Ch}{outs:Int->Bool}(B:BookAt a C H A w rows n cs outs)(s:SameBut G H H')(g:∀ x,G x->IM (H x))(f:∀ x,G x->¬ A.F x):BookAt a C H' A w rows n cs outs :=
 ⟨B.bk.sb s g f,B.pk.sbL s g λz=>f _ z (.inr (.inr (.inr (.inr (.inr rfl))))),B.nb⟩
theorem BookAt.same{a:Ad}{C:Addr}{H H':Hp}{A:BA}{w:Nat}{rows:List (List V)}{n:Nat}{cs:List Ch}{outs:Int->Bool}(B:BookAt a C H A w rows n cs outs)(s:Same H H'):BookAt a C H' A w rows n cs outs :=
 B.sb (G:=λ_=>False) (Same.sb s) (λ_ z=>z.elim) λ_ z=>z.elim
theorem BookAt.off{a:Ad}{C:Addr}{H:Hp}{A:BA}{w:Nat}{rows:List (List V)}{n:Nat}{cs:List Ch}{outs:Int->Bool}(B:BookAt a C H A w rows n cs outs){x:Addr}(h:H x=none):¬ A.F x:=by
 obtain⟨⟨_,⟨chs,e2,_⟩,e4,e5,_,⟨kvs,e7,_⟩,⟨kvo,e9,_⟩,_⟩,⟨_,⟨ts,e11,_⟩,_⟩,_⟩:=B
 rintro (z | z | z | z | z | z)
 ·rw[z,e2]at h;cases h
 ·rw[z,e4]at h;cases h
 ·obtain⟨i,hi,e⟩:=List.getElem_of_mem z
  have:=e5 i x (by rw[<-e];exact List.getElem?_eq_getElem hi)
  rw[this]at h;cases h
 ·rw[z,e7]at h;cases h
 ·rw[z,e9]at h;cases h
 ·rw[z,e11]at h;cases h
theorem JT{α :Type}{l:List α}{x: α}(h:x∈l):∃ i:Nat,l[i]? =some x:=by
 obtain⟨i,hi,e⟩:=List.getElem_of_mem h
 exact⟨i,by rw[<-e];exact List.getElem?_eq_getElem hi⟩
theorem Q7{H:Hp}{x:Addr}{xs:List V}(h:H x=some (.lst xs)):IM (H x):=by
 rw[h];exact⟨λ_ z=>(by cases z),λ_ _ _ z=>(by cases z)⟩
theorem xH{H:Hp}{x:Addr}{xs:List (AZ × V)}(h:H x=some (.dK xs)):IM (H x):=by
 rw[h];exact⟨λ_ z=>(by cases z),λ_ _ _ z=>(by cases z)⟩
theorem xI{H:Hp}{x:Addr}{xs:List (List AZ × V)}(h:H x=some (.dT xs)):IM (H x):=by
 rw[h];exact⟨λ_ z=>(by cases z),λ_ _ _ z=>(by cases z)⟩
theorem BookAt.loose{a:Ad}{C:Addr}{H:Hp}{A:BA}{w:Nat}{rows:List (List V)}{n:Nat}{cs:List Ch}{outs:Int->Bool}(B:BookAt a C H A w rows n cs outs){x:Addr}(h:A.F x):IM (H x):=by
 obtain⟨⟨_,⟨chs,e2,_⟩,e4,e5,_,⟨kvs,e7,_⟩,⟨kvo,e9,_⟩,_⟩,⟨_,⟨ts,e11,_⟩,_⟩,_⟩:=B
 rcases h with z | z | z | z | z | z
 ·exact Q7 (z ▸ e2)
 ·exact Q7 (z ▸ e4)
 ·obtain⟨i,e⟩:=JT z
  exact Q7 (e5 i x e)
 ·exact xI (z ▸ e7)
 ·exact xH (z ▸ e9)
 ·exact Q7 (z ▸ e11)
structure zds(cs:List Ch)(outs:Int->Bool)(ns:List Int)(R:Int->Bool):Prop where
 all:∀ x∈ns,R x=true
 up:∀ (k:Nat) (c:Ch),cs[k]? =some c->outs k=false->R k=true->∀ y∈c.nd,R y=true
 only:∀ x,R x=true->x∈ns\/∃ (k:Nat) (c:Ch),cs[k]? =some c/\outs k=false/\R k=true/\x∈c.nd
end L2
namespace L2
structure EM(K:W.Frag)(a:Ad):Prop where
 cl:Cls K (a "Layout")
 n1:NoAttr K (a "Layout") "name_blocks"
 n2:NoAttr K (a "Layout") "record_blocks"
 n3:NoAttr K (a "Layout") "piece_blocks"
 n4:NoAttr K (a "Layout") "width"
section
variable{n r c w:Int}
def lf(n r c w:Int):List (Str × V):=[("name_blocks",.int n),("record_blocks",.int r),("piece_blocks",.int c),("width",.int w)]
theorem Q8:(lf n r c w).lookup ("name_blocks":Str)=some (V.int n):=by simp[lf]
theorem N6:(lf n r c w).lookup ("record_blocks":Str)=some (V.int r):=by
 simp[lf,List.lookup_cons,BH (a:="record_blocks") (b:="name_blocks") (by decide +kernel)]
theorem TU:(lf n r c w).lookup ("piece_blocks":Str)=some (V.int c):=by
 simp[lf,List.lookup_cons,BH (a:="piece_blocks") (b:="name_blocks") (by decide +kernel),BH (a:="piece_blocks") (b:="record_blocks") (by decide +kernel)]
theorem LD:(lf n r c w).lookup ("width":Str)=some (V.int w):=by
 simp[lf,List.lookup_cons,BH (a:="width") (b:="name_blocks") (by decide +kernel),BH (a:="width") (b:="record_blocks") (by decide +kernel),BH (a:="width") (b:="piece_blocks") (by decide +kernel)]
theorem D0{x:Str}(h:(EU x "name_blocks" || EU x "record_blocks" || EU x "piece_blocks" || EU x "width")=false):(lf n r c w).lookup x=none:=by
 simp only[Bool.or_eq_false_iff]at h
 obtain⟨⟨⟨h1,h2⟩,h3⟩,h4⟩:=h
 simp[lf,List.lookup_cons,BH h1,BH h2,BH h3,BH h4]
theorem xJ:BQ "width" (.int w) (BQ "piece_blocks" (.int c) (BQ "record_blocks" (.int r) (BQ "name_blocks" (.int n) [])))=lf n r c w:=by
 repeat (first | rw[Z8] | rw[CM (by decide +kernel)])
 rfl
end
structure LayAt(a:Ad)(H:Hp)(p:Addr)(n r c w:Nat):Prop where
 ob:∃ dx,H p=some (.ins (a "Layout") dx (lf n r c w))
 hn:n<=100
 hr:r<=100
 hc:c<=100
 h1:1<=w
 hw:w<=100
theorem LayAt.same{a:Ad}{H H':Hp}{p:Addr}{n r c w:Nat}(L:LayAt a H p n r c w)(s:Same H H'):LayAt a H' p n r c w:=by
 obtain⟨⟨dx,e⟩,z1,z2,z3,z4,z5⟩:=L
 exact⟨⟨dx,s _ _ e⟩,z1,z2,z3,z4,z5⟩
theorem LayAt.sb{a:Ad}{F:Addr->Prop}{H H':Hp}{p:Addr}{n r c w:Nat}(L:LayAt a H p n r c w)(s:SameBut F H H')(f:¬ F p):LayAt a H' p n r c w:=by
 obtain⟨⟨dx,e⟩,z1,z2,z3,z4,z5⟩:=L
 exact⟨⟨dx,s _ _ e f⟩,z1,z2,z3,z4,z5⟩
def LE(K:W.Frag)(a:Ad):Sp:=λvs H Q _=>∃ (p dx:Addr) (n r c w:Nat),vs=[.ref p,.int n,.int r,.int c,.int w]/\EM K a/\H p=some (.ins (a "Layout") dx [])/\n<=100/\r<=100/\c<=100/\1<=w/\w<=100 ∧
 ∀ H',LayAt a H' p n r c w->SameBut (· =p) H H'->Q .non H'
def IN(x y:Int)(Q:VK)(H:Hp):Prop:=∀ t,H t=none->Q (.ref t) (upd H t (.tup [.int x,.int y]))
def FB(K:W.Frag)(a:Ad):Sp:=λvs H Q _=>∃ (p:Addr) (n r c w k:Nat) (b:Int),vs=[.ref p,.int b,.int k]/\EM K a/\LayAt a H p n r c w/\IN (b+k / w) (k % w) Q H
def N7(K:W.Frag)(a:Ad):Sp:=λvs H Q _=>∃ (p:Addr) (n r c w k:Nat),vs=[.ref p,.int k]/\EM K a/\LayAt a H p n r c w/\IN (0+k / w) (k % w) Q H
def IP(K:W.Frag)(a:Ad):Sp:=λvs H Q _=>∃ (p:Addr) (n r c w k:Nat),vs=[.ref p,.int k]/\EM K a/\LayAt a H p n r c w/\IN (n+k / w) (k % w) Q H
def N9(K:W.Frag)(a:Ad):Sp:=λvs H Q _=>∃ (p:Addr) (n r c w k:Nat),vs=[.ref p,.int k]/\EM K a/\LayAt a H p n r c w/\IN (n+r+k / w) (k % w) Q H
def IQ(K:W.Frag)(a:Ad):Sp:=λvs H Q _=>∃ (p:Addr) (n r c w k:Nat),vs=[.ref p,.int k]/\EM K a/\LayAt a H p n r c w/\IN (n+r+c+k / w) (k % w) Q H
def JU(K:W.Frag)(a:Ad):Sp:=λvs H Q _=>∃ (p:Addr) (n r c w k:Nat),vs=[.ref p,.int k]/\EM K a/\LayAt a H p n r c w/\IN (n+r+c+r+k / w) (k % w) Q H
def HL(K:W.Frag)(a:Ad):Sp:=λvs H Q _=>∃ (p:Addr) (n r c w:Nat),vs=[.ref p]/\EM K a/\LayAt a H p n r c w/\Q (.int (n+r+c)) H
def OA(K:W.Frag)(a:Ad):Sp:=λvs H Q _=>∃ (p:Addr) (n r c w:Nat),vs=[.ref p]/\EM K a/\LayAt a H p n r c w/\Q (.int (n+r+c+r+c)) H
def OB(K:W.Frag)(a:Ad):Sp:=λvs H Q _=>∃ (p:Addr) (n r c w:Nat),vs=[.ref p]/\EM K a/\LayAt a H p n r c w/\∀ t,H t=none->Q (.ref t) (upd H t (.tup [.int (n * w),.int (r * w),.int (c * w)]))
def OC(K:W.Frag)(a:Ad):Sp:=λvs H Q _=>∃ (p:Addr) (n r c w:Nat),vs=[.ref p]/\EM K a/\EL K a/\LayAt a H p n r c w ∧
 ∀ x cl H',H x=none->H cl=none->PlankAt a H' x cl w (List.replicate (n+r+c+r+c) (List.replicate w .non)) 0->Same H H'->Q (.ref x) H'
end L2
namespace L2
def LF(ns:List Int)(k:Nat):Int:=ns.getD k 0
def IR(K:W.Frag)(a:Ad):Sp:=λvs H Q _=>∃ (s:Addr) (ns:List Int) (k:Nat),vs=[.ref s,.int k]/\SqL K H s (ns.map V.int)/\ns.length<=1000/\Q (.int (LF ns k)) H
theorem Z9{K:W.Frag}{a:Ad}{s:Addr}{k:Int}{H:Hp}{Q:VK}{E:XK}:IR K a [.ref s,.int k] H Q E=∃ (ns:List Int) (n:Nat),k=n/\SqL K H s (ns.map V.int)/\ns.length<=1000/\Q (.int (LF ns n)) H:=by simp[IR,and_assoc]
def GoodV:Nat->Hp->V->Prop
 | 0,_,_=>False
 | _+1,_,.int _=>True
 | _+1,_,.non=>True
 | _+1,_,.str z=>PyData.strOk z=true
 | n+1,H,.ref p=>∃ xs,H p=some (.tup xs)/\xs.length<=100/\∀ v∈xs,GoodV n H v
 | _,_,_=>False
def good7(H:Hp)(rows:List (List V)):Prop:=∀ r∈rows,∀ v∈r,GoodV 7 H v
def AW(l:List Nat):List V:=l.map λ(k:Nat)=>V.int k
abbrev G0:=Option (Str × Nat)
abbrev EV:=Option (Int × List Nat)
structure Vw where
 nm:List G0
 rc:List EV
 pc:List (Option Str)
 rm:List (Option Int)
 pm:List (Option Int)
def AF{α :Type}(l:List (Option α))(k:Nat):Option α :=(l[k]?).join
def FN:EV->List Nat
 | none=>[]
 | some (_,ps)=>ps
def B8(nm:List G0):List Nat:=nm.filterMap λc=>c.map (·.2)
def C3(rc:List EV):List Nat:=rc.flatMap FN
def led(vw:Vw)(r:Nat):Nat:=(B8 vw.nm).count r
def EC(vw:Vw)(p:Nat):Nat:=(C3 vw.rc).count p
def G1(vw:Vw):List EV:=((List.range vw.rc.length).filter λr=>decide (0<led vw r)).map (AF vw.rc)
def DI(vw:Vw)(p:Nat):Nat:=(C3 (G1 vw)).count p
def CC(n:Nat)(p:Nat->Bool)(f:Nat->List V):List (List V):=((List.range n).filter p).map f
def FO(vw:Vw)(k:Nat):Bool:=match AF vw.nm k with
 | none=>false
 | some c=>(AF vw.rc c.2).isNone
def GE(vw:Vw)(k:Nat):Bool:=match AF vw.nm k with
 | none=>false
 | some c=>(List.range k).any λj=>match AF vw.nm j with
  | none=>false
  | some d=>decide (d.1=c.1)
def G2(vw:Vw)(r:Nat):Bool:=match AF vw.rc r with
 | none=>false
 | some c=>decide (c.1<(led vw r:Int))
def D7(vw:Vw)(r:Nat):Bool:=match AF vw.rc r with
 | none=>false
 | some c=>decide (0<led vw r) && decide ((led vw r:Int)<c.1)
def OD(vw:Vw):List (List V):=CC vw.nm.length (FO vw) (λk=>[.str "lost",.int k])++CC vw.nm.length (GE vw) (λk=>[.str "twice",.int k])
def LG(vw:Vw):List (List V):=CC vw.pc.length (λp=>decide (1<EC vw p)) (λp=>[.str "shared",.int p])++CC vw.pc.length (λp=>decide (0<EC vw p) && (AF vw.pc p).isNone) (λp=>[.str "empty",.int p])++CC vw.rc.length (G2 vw) (λr=>[.str "few",.int r])
def OE(vw:Vw):List (List V):=CC vw.rc.length (λr=>decide (0<led vw r) && !decide (AF vw.rm r=some 1)) (λr=>[.str "free",.str "record",.int r])++CC vw.pc.length (λp=>decide (0<EC vw p) && !decide (AF vw.pm p=some 1)) (λp=>[.str "free",.str "piece",.int p])
def faults(vw:Vw):List (List V):=OD vw++LG vw++OE vw
def IS(vw:Vw):List (List V):=CC vw.rc.length (D7 vw) (λr=>[.str "many",.int r,.int (led vw r)])++CC vw.rc.length (λr=>(AF vw.rc r).isSome && decide (led vw r=0)) (λr=>[.str "left",.str "record",.int r])
def IT(vw:Vw):List (List V):=CC vw.pc.length (λp=>decide (AF vw.pm p=some 1) && decide (DI vw p=0)) (λp=>[.str "left",.str "piece",.int p])
def IU(vw:Vw):List (List V):=CC vw.rc.length (λr=>decide (AF vw.rm r=some 1) && (AF vw.rc r).isNone) (λr=>[.str "marked",.int r])
def E4(vw:Vw):List (List V):=IS vw++IT vw++IU vw
structure D3(vw:Vw):Prop where
 n1:∀ c,some c∈vw.nm->c.2<vw.rc.length/\PyData.strOk c.1=true
 n2:∀ c,some c∈vw.rc->(∀ p∈c.2,p<vw.pc.length)/\c.2.length<=10
 n3:∀ s,some s∈vw.pc->PyData.strOk s=true
 l1:vw.rm.length=vw.rc.length
 l2:vw.pm.length=vw.pc.length
 bn:vw.nm.length<=100
 br:vw.rc.length<=100
 bp:vw.pc.length<=100
def NmV(H:Hp)(v:V):G0->Prop
 | none=>v=.non
 | some c=>∃ p,v=.ref p/\H p=some (.tup [.str c.1,.int c.2])
def RcV(H:Hp)(v:V):EV->Prop
 | none=>v=.non
 | some c=>∃ p q,v=.ref p/\H p=some (.tup [.int c.1,.ref q])/\H q=some (.tup (AW c.2))
def PcV(_:Hp)(v:V):Option Str->Prop
 | none=>v=.non
 | some s=>v=.str s
def MkV(_:Hp)(v:V):Option Int->Prop
 | none=>v=.non
 | some i=>v=.int i
def LstAt{α :Type}(R:Hp->V-> α ->Prop)(H:Hp)(p:Addr)(cs:List α):Prop:=∃ vs,H p=some (.lst vs)/\Paired (R H) vs cs
def FindsL(H:Hp)(l:Addr)(fs:List (List V)):Prop:=∃ ps:List Addr,H l=some (.lst (ps.map V.ref))/\Paired (λp f=>H p=some (.tup f)) ps fs
structure TV(K:W.Frag)(a:Ad):Prop where
 cl:Cls K (a "View")
 n1:NoAttr K (a "View") "name_values"
 n2:NoAttr K (a "View") "record_values"
 n3:NoAttr K (a "View") "piece_values"
 n4:NoAttr K (a "View") "record_marks"
 n5:NoAttr K (a "View") "piece_marks"
 n6:NoAttr K (a "View") "leads"
 n7:NoAttr K (a "View") "namings"
 n8:NoAttr K (a "View") "reached"
def aA(a:Ad)(H:Hp)(x:Addr)(f:Str)(v:V):Prop:=∃ dx fs,H x=some (.ins (a "View") dx fs)/\fs.lookup f=some v
structure VA where
 n:Addr
 r:Addr
 p:Addr
 rm:Addr
 pm:Addr
 ld:Addr
 ng:Addr
 rh:Addr
def vf(A:VA):List (Str × V):=[("name_values",.ref A.n),("record_values",.ref A.r),("piece_values",.ref A.p),("record_marks",.ref A.rm),("piece_marks",.ref A.pm),("leads",.ref A.ld),("namings",.ref A.ng),("reached",.ref A.rh)]
structure ViewAt(a:Ad)(H:Hp)(x:Addr)(A:VA)(vw:Vw):Prop where
 ob:∃ dx,H x=some (.ins (a "View") dx (vf A))
 n:LstAt NmV H A.n vw.nm
 r:LstAt RcV H A.r vw.rc
 p:LstAt PcV H A.p vw.pc
 rm:LstAt MkV H A.rm vw.rm
 pm:LstAt MkV H A.pm vw.pm
 ld:H A.ld=some (.lst (AW ((List.range vw.rc.length).map (led vw))))
 ng:H A.ng=some (.lst (AW ((List.range vw.pc.length).map (EC vw))))
 rh:H A.rh=some (.lst (AW ((List.range vw.pc.length).map (DI vw))))
 ok:D3 vw
structure PlV(H:Hp)(rows:List (List V))(n r c w:Nat)(vw:Vw):Prop where
 vs:∃ v1 v2 v3 v4 v5:List V,rows.flatten=v1++v2++v3++v4++v5/\Paired (NmV H) v1 vw.nm/\Paired (RcV H) v2 vw.rc/\Paired (PcV H) v3 vw.pc/\Paired (MkV H) v4 vw.rm/\Paired (MkV H) v5 vw.pm
 ln:vw.nm.length=n * w
 lr:vw.rc.length=r * w
 lp:vw.pc.length=c * w
 ok:D3 vw
def newL(vs:List V)(H:Hp)(Q:VK):Prop:=∀ l H',H l=none->Same H H'->H' l=some (.lst vs)->Q (.ref l) H'
def newF(fs:List (List V))(H:Hp)(Q:VK):Prop:=∀ l H',H l=none->Same H H'->FindsL H' l fs->Q (.ref l) H'
def IV(rows:List (List V))(b j:Nat):V:=(((rows[b]?).bind (·[j]?)).getD .non)
def G3(K:W.Frag)(a:Ad):Sp:=λvs H Q _=>∃ (gp cl pl:Addr) (w:Nat) (rows:List (List V)) (m:Nat) (ts:List Addr) (ps:List (Nat × Nat)),vs=[.ref gp,.ref pl]/\EL K a/\PlankAt a H gp cl w rows m/\H pl=some (.lst (ts.map V.ref))/\Paired (λt (ij:Nat × Nat)=>H t=some (.tup [.int ij.1,.int ij.2])) ts ps/\(∀ ij∈ps,ij.1<rows.length/\ij.2<w)/\ps.length<=1000 ∧
 newL (ps.map λij=>IV rows ij.1 ij.2) H Q
def JV(K:W.Frag)(a:Ad):Sp:=λvs H Q _=>∃ (many:Nat) (nl:Addr) (ks:List Nat),vs=[.int many,.ref nl]/\H nl=some (.lst (AW ks))/\(∀ k∈ks,k<many)/\many<=1000/\ks.length<=10000/\newL (AW ((List.range many).map λk=>ks.count k)) H Q
def LH(K:W.Frag)(a:Ad):Sp:=λvs H Q _=>∃ (rl:Addr) (cs:List EV),vs=[.ref rl]/\LstAt RcV H rl cs/\cs.length<=100/\(∀ c,some c∈cs->c.2.length<=10)/\newL (AW (C3 cs)) H Q
def OF(K:W.Frag)(a:Ad):Sp:=λvs H Q _=>∃ (x ar al:Addr) (vw:Vw),vs=[.ref x]/\TV K a/\aA a H x "record_values" (.ref ar)/\aA a H x "leads" (.ref al)/\LstAt RcV H ar vw.rc/\H al=some (.lst (AW ((List.range vw.rc.length).map (led vw))))/\vw.rc.length<=100/\∀ l H',H l=none->Same H H'->LstAt RcV H' l (G1 vw)->Q (.ref l) H'
def JW(K:W.Frag)(a:Ad):Sp:=λvs H Q _=>∃ (x:Addr) (A:VA) (vw:Vw),vs=[.ref x]/\TV K a/\ViewAt a H x A vw/\newL (AW ((List.range vw.rc.length).filter λr=>(AF vw.rc r).isSome)) H Q
def IW(K:W.Frag)(a:Ad):Sp:=λvs H Q _=>∃ (x:Addr) (A:VA) (vw:Vw),vs=[.ref x]/\TV K a/\ViewAt a H x A vw/\newL (AW ((List.range vw.pc.length).filter λp=>decide (0<EC vw p))) H Q
def JX(K:W.Frag)(a:Ad):Sp:=λvs H Q _=>∃ (x:Addr) (A:VA) (vw:Vw) (r:Nat) (c:Int × List Nat),vs=[.ref x,.int r]/\TV K a/\ViewAt a H x A vw/\AF vw.rc r=some c/\Q (.int c.1) H
def IX(f:Vw->List (List V))(K:W.Frag)(a:Ad):Sp:=λvs H Q _=>∃ (x:Addr) (A:VA) (vw:Vw),vs=[.ref x]/\TV K a/\ViewAt a H x A vw/\newF (f vw) H Q
def OG(K:W.Frag)(a:Ad):Sp:=IX OD K a
def OH(K:W.Frag)(a:Ad):Sp:=IX LG K a
def OI(K:W.Frag)(a:Ad):Sp:=IX OE K a
def JY(K:W.Frag)(a:Ad):Sp:=IX faults K a
def OJ(K:W.Frag)(a:Ad):Sp:=IX IS K a
def OK(K:W.Frag)(a:Ad):Sp:=IX IT K a
def OL(K:W.Frag)(a:Ad):Sp:=IX IU K a
def OM(K:W.Frag)(a:Ad):Sp:=IX E4 K a
def IY(K:W.Frag)(a:Ad):Sp:=λvs H Q _=>∃ (x dx ly gp cl:Addr) (n r c w:Nat) (rows:List (List V)) (m:Nat) (vw:Vw),vs=[.ref x,.ref ly,.ref gp]/\TV K a/\EM K a/\EL K a/\H x=some (.ins (a "View") dx [])/\LayAt a H ly n r c w/\PlankAt a H gp cl w rows m/\rows.length=n+r+c+r+c/\PlV H rows n r c w vw ∧
 ∀ (A:VA) (H':Hp),ViewAt a H' x A vw->SameBut (· =x) H H'->Q .non H'
def Ground(K:W.Frag)(a:Ad)(H:Hp)(ly gp:Addr)(vw:Vw):Prop:=∃ (cl:Addr) (n r c w:Nat) (rows:List (List V)) (m:Nat),TV K a/\EM K a/\EL K a/\LayAt a H ly n r c w/\PlankAt a H gp cl w rows m/\rows.length=n+r+c+r+c/\PlV H rows n r c w vw
def JZ(K:W.Frag)(a:Ad):Sp:=λvs H Q _=>∃ (ly gp:Addr) (vw:Vw),vs=[.ref ly,.ref gp]/\Ground K a H ly gp vw/\newF (faults vw++E4 vw) H Q
def J0(K:W.Frag)(a:Ad):Sp:=λvs H Q _=>∃ (ly gp:Addr) (vw:Vw),vs=[.ref ly,.ref gp]/\Ground K a H ly gp vw/\∀ H',Same H H'->Q (.bl (decide (faults vw=[]))) H'
def GF(K:W.Frag)(a:Ad):Sp:=λvs H Q _=>∃ (c:Int) (m:Nat),vs=[.int c,.int m]/\m<=100/\∀ l (xs:List Int) H',H l=none->Same H H'->H' l=some (.lst (xs.map V.int))->xs.length=m->(∀ x∈xs,0<=x/\x<2000000000)->Q (.ref l) H'
def J1(K:W.Frag)(a:Ad):Sp:=λvs H Q _=>∃ x:Int,vs=[.int x]/\∀ (z:Str) H',PyData.strOk z=true->Same H H'->Q (.str z) H'
def ON(K:W.Frag)(a:Ad):Sp:=λvs H Q _=>∃ x:Int,vs=[.int x]/\∀ (t:Addr) (n r c w:Nat) H',Same H H'->H' t=some (.tup [.int n,.int r,.int c,.int w])->1<=n->n<=6->1<=r->r<=6->1<=c->c<=6->1<=w->w<=6->Q (.ref t) H'
def OO(vw:Vw)(p:Nat):Prop:=∀ r c,0<led vw r->AF vw.rc r=some c->p∉c.2
structure Clean(vw:Vw)(lf:List Nat)(zs:List Str):Prop where
 nm:∀ k c,AF vw.nm k=some c->∃ j,j<(B8 vw.nm).length/\zs[j]? =some c.1
 ds:∀ j k c d,j<k->AF vw.nm j=some c->AF vw.nm k=some d->c.1≠d.1
 ls:∀ k c,AF vw.nm k=some c->(AF vw.rc c.2).isSome=true
 fw:∀ r c,AF vw.rc r=some c->(led vw r:Int)<=c.1
 s1:∀ r c,AF vw.rc r=some c->c.2.Nodup
 s2:∀ r r' c c',r≠r'->AF vw.rc r=some c->AF vw.rc r'=some c'->∀ p∈c.2,p∉c'.2
 em:∀ r c,AF vw.rc r=some c->∀ p∈c.2,(AF vw.pc p).isSome=true/\AF vw.pm p=some 1
 fr:∀ r,0<led vw r->AF vw.rm r=some 1
 nd:lf.Nodup
 lm:∀ p,p∈lf↔(AF vw.pm p=some 1/\OO vw p)
 p3:∀ r c,AF vw.rc r=some c->c.2.length<=3
def FOk(fs:List (List V)):Prop:=∀ f∈fs,f.length<=10/\1<=f.length/\∀ v∈f,(∃ i,v=.int i)\/∃ s,v=.str s/\PyData.strOk s=true
structure LW where
 v:Addr
 a0:Addr
 a1:Addr
 a2:Addr
 a3:Addr
 a4:Addr
 a5:Addr
def LW.L(A:LW):List Addr:=[A.a0,A.a1,A.a2,A.a3,A.a4,A.a5]
structure LWAt(H:Hp)(A:LW)(vw:Vw)(lf:List Nat):Prop where
 ob:H A.v=some (.lst [.ref A.a0,.ref A.a1,.ref A.a2,.ref A.a3,.ref A.a4,.ref A.a5])
 n:LstAt NmV H A.a0 vw.nm
 r:LstAt RcV H A.a1 vw.rc
 p:LstAt PcV H A.a2 vw.pc
 rm:LstAt MkV H A.a3 vw.rm
 pm:LstAt MkV H A.a4 vw.pm
 l:H A.a5=some (.lst (AW lf))
 ok:D3 vw
 nd:A.L.Nodup
 nv:A.v∉A.L
def FQ(vw:Vw)(n r c:Nat):Prop:=vw.nm.length=n/\vw.rc.length=r/\vw.pc.length=c
def OP(K:W.Frag)(a:Ad):Sp:=λvs H Q _=>∃ (c:Int) (m:Nat),vs=[.int c,.int m]/\m<=36/\∀ l (zs:List Str) H',H l=none->Same H H'->H' l=some (.lst (zs.map V.str))->zs.length=m->zs.Nodup->(∀ z∈zs,PyData.strOk z=true)->Q (.ref l) H'
structure NamesAt(H:Hp)(A:LW)(nl:Addr)(zs:List Str):Prop where
 e:H nl=some (.lst (zs.map V.str))
 l:zs.length=36
 d:zs.Nodup
 s:∀ z∈zs,PyData.strOk z=true
 n:nl∉A.L
structure IntsAt(H:Hp)(A:LW)(xl:Addr)(xs:List Int)(m:Nat):Prop where
 e:H xl=some (.lst (xs.map V.int))
 l:xs.length=m
 b:∀ x∈xs,0<=x/\x<2000000000
 n:xl∉A.L
def Q9(f:Vw->List Nat)(K:W.Frag)(a:Ad):Sp:=λvs H Q _=>∃ (A:LW) (vw:Vw) (lf:List Nat),vs=[.ref A.v]/\LWAt H A vw lf/\newL (AW (f vw)) H Q
def xK(vw:Vw):List Nat:=(List.range vw.rc.length).map (led vw)
def FC(vw:Vw):List Nat:=(List.range vw.nm.length).filter λk=>(AF vw.nm k).isNone
def GG(vw:Vw):List Nat:=(List.range vw.rc.length).filter λr=>(AF vw.rc r).isNone && (AF vw.rm r).isNone
def E5(vw:Vw):List Nat:=(List.range vw.pc.length).filter λp=>(AF vw.pc p).isNone && (AF vw.pm p).isNone
def HM(K:W.Frag)(a:Ad):Sp:=Q9 xK K a
def HN(K:W.Frag)(a:Ad):Sp:=Q9 FC K a
def J6(K:W.Frag)(a:Ad):Sp:=Q9 GG K a
def J7(K:W.Frag)(a:Ad):Sp:=Q9 E5 K a
def OQ(K:W.Frag)(a:Ad):Sp:=λvs H Q _=>∃ (A:LW) (vw:Vw) (lf l0:List Nat) (zs:List Str) (xl:Addr) (xs:List Int) (many n r c:Nat),vs=[.ref A.v,.ref xl,.int many]/\LWAt H A vw lf/\Clean vw l0 zs/\IntsAt H A xl xs 3/\many<=3/\FQ vw n r c ∧
 ∀ (t:Addr) (tk:List Nat) (vw':Vw) (H':Hp),LWAt H' A vw' lf->Clean vw' (l0++tk) zs->vw'.nm=vw.nm->vw'.rc=vw.rc->vw'.rm=vw.rm->FQ vw' n r c->(∀ p∈tk,(AF vw'.pc p).isSome=true/\p<c)->(∀ p∈tk,∀ r c,AF vw'.rc r=some c->p∉c.2)->tk.length<=3->H' t=some (.tup (AW tk))->SameBut (· ∈A.L) H H'->Q (.ref t) H'
def J8(K:W.Frag)(a:Ad):Sp:=λvs H Q _=>∃ (A:LW) (vw:Vw) (lf l0:List Nat) (zs:List Str) (nl:Addr) (r:Nat) (c:Int × List Nat) (num:Int) (n' r' c':Nat),vs=[.ref A.v,.ref nl,.int r,.int num]/\LWAt H A vw lf/\Clean vw l0 zs/\NamesAt H A nl zs/\FQ vw n' r' c'/\n'<=36/\FC vw≠[]/\AF vw.rc r=some c/\(led vw r:Int)+1<=c.1/\AF vw.rm r=some 1 ∧
 ∀ (vw':Vw) (H':Hp),LWAt H' A vw' lf->Clean vw' (l0.filter λp=>decide (p∉c.2)) zs->FQ vw' n' r' c'->SameBut (· ∈A.L) H H'->Q .non H'
def TX(A:LW)(zs:List Str)(n r c:Nat)(H:Hp)(Q:VK):Prop:=∀ (vw':Vw) (lf':List Nat) (H':Hp),LWAt H' A vw' lf'->Clean vw' lf' zs->FQ vw' n r c->SameBut (· ∈A.L) H H'->Q .non H'
def LI(K:W.Frag)(a:Ad):Sp:=λvs H Q _=>∃ (A:LW) (vw:Vw) (lf:List Nat) (zs:List Str) (nl xl:Addr) (xs:List Int) (wn:Bool) (n r c:Nat),vs=[.ref A.v,.ref nl,.ref xl,.bl wn]/\LWAt H A vw lf/\Clean vw lf zs/\NamesAt H A nl zs/\IntsAt H A xl xs 7/\FQ vw n r c/\n<=36/\c<=36/\TX A zs n r c H Q
def OR(K:W.Frag)(a:Ad):Sp:=λvs H Q _=>∃ (A:LW) (vw:Vw) (lf:List Nat) (zs:List Str) (nl xl:Addr) (xs:List Int) (n r c:Nat),vs=[.ref A.v,.ref nl,.ref xl]/\LWAt H A vw lf/\Clean vw lf zs/\NamesAt H A nl zs/\IntsAt H A xl xs 7/\FQ vw n r c/\n<=36/\TX A zs n r c H Q
def OS(K:W.Frag)(a:Ad):Sp:=λvs H Q _=>∃ (A:LW) (vw:Vw) (lf:List Nat) (zs:List Str) (k:Int) (xl:Addr) (xs:List Int) (n r c:Nat),vs=[.ref A.v,.int k,.ref xl]/\LWAt H A vw lf/\Clean vw lf zs/\IntsAt H A xl xs 7/\FQ vw n r c/\c<=36/\TX A zs n r c H Q
def OT(K:W.Frag)(a:Ad):Sp:=λvs H Q _=>∃ (s z nl:Addr) (ns:List Int) (zs:List Str) (n r c w:Nat),vs=[.ref s,.ref z,.ref nl]/\H s=some (.lst (ns.map V.int))/\ns.length<=63/\H z=some (.tup [.int n,.int r,.int c,.int w])/\1<=n/\n<=6/\1<=r/\r<=6/\1<=c/\c<=6/\1<=w/\w<=6/\H nl=some (.lst (zs.map V.str))/\zs.length=36/\zs.Nodup/\(∀ z∈zs,PyData.strOk z=true) ∧
 ∀ (A:LW) (vw:Vw) (lf:List Nat) (H':Hp),Same H H'->LWAt H' A vw lf->Clean vw lf zs->FQ vw (n * w) (r * w) (c * w)->H A.v=none->(∀ x∈A.L,H x=none)->Q (.ref A.v) H'
def OU(K:W.Frag)(a:Ad):Sp:=λvs H Q _=>∃ (A:LW) (vw:Vw) (lf:List Nat) (zs:List Str),vs=[.ref A.v]/\LWAt H A vw lf/\Clean vw lf zs/\vw.pc.length<=36/\newF (E4 vw) H Q
def OV(K:W.Frag)(a:Ad):Sp:=λvs H Q _=>∃ (gp cl:Addr) (A:LW) (vw:Vw) (lf:List Nat) (n r c w:Nat) (rows:List (List V)) (m:Nat),vs=[.ref gp,.ref A.v,.int w]/\EL K a/\PlankAt a H gp cl w rows m/\rows.length=n+r+c+r+c/\LWAt H A vw lf/\FQ vw (n * w) (r * w) (c * w)/\1<=w/\w<=6/\n<=6/\r<=6/\c<=6/\cl∉A.L/\cl≠A.v ∧
 ∀ (rows':List (List V)) (H':Hp),PlankAt a H' gp cl w rows' (m+(n+r+c+r+c))->rows'.length=n+r+c+r+c->PlV H' rows' n r c w vw->SameBut (λx=>x=gp\/x=cl) H H'->Q .non H'
def BP(vw:Vw)(r:Nat):EV:=match AF vw.rc r with
 | none=>none
 | some c=>if led vw r=0 then none else some ((led vw r:Int),c.2)
def BX(vw:Vw)(r:Nat):Option Int:=match AF vw.rc r with
 | none=>if AF vw.rm r=some 1 then some 0 else AF vw.rm r
 | some _=>if led vw r=0 then some 0 else AF vw.rm r
def DO(vw:Vw)(p:Nat):Option Int:=if AF vw.pm p=some 1/\DI vw p=0 then some 0 else AF vw.pm p
def mended(vw:Vw):Vw:=⟨vw.nm,(List.range vw.rc.length).map (BP vw),vw.pc,(List.range vw.rc.length).map (BX vw),(List.range vw.pc.length).map (DO vw)⟩
inductive Cel where
 | nm (c:G0)
 | rc (c:EV)
 | pc (c:Option Str)
 | mk (c:Option Int)
deriving DecidableEq
def CelV(H:Hp)(v:V):Cel->Prop
 | .nm c=>NmV H v c
 | .rc c=>RcV H v c
 | .pc c=>PcV H v c
 | .mk c=>MkV H v c
def Cel.kind:Cel->Nat
 | .nm _=>0
 | .rc _=>1
 | .pc _=>2
 | .mk _=>3
def Cel.ok:Cel->Prop
 | .nm (some c)=>PyData.strOk c.1=true
 | .pc (some s)=>PyData.strOk s=true
 | _=>True
def B9(vw:Vw):List Cel:=vw.nm.map .nm++vw.rc.map .rc++vw.pc.map .pc++vw.rm.map .mk++vw.pm.map .mk
def CA(w:Nat)(cs:List Cel)(b:Nat):List Cel:=(cs.drop (b * w)).take w
def G4(w n:Nat)(cs cs':List Cel):Nat:=((List.range n).filter λb=> !decide (CA w cs b=CA w cs' b)).length
inductive Lv where
 | many (r:Nat)
 | leftR (r:Nat)
 | leftP (p:Nat)
 | marked (r:Nat)
def EH(vw:Vw):List Lv:=((List.range vw.rc.length).filter (D7 vw)).map .many++((List.range vw.rc.length).filter λr=>(AF vw.rc r).isSome && decide (led vw r=0)).map .leftR++((List.range vw.pc.length).filter λp=>decide (AF vw.pm p=some 1) && decide (DI vw p=0)).map .leftP++((List.range vw.rc.length).filter λr=>decide (AF vw.rm r=some 1) && (AF vw.rc r).isNone).map .marked
def aB(vw:Vw):Lv->List V
 | .many r=>[.str "many",.int r,.int (led vw r)]
 | .leftR r=>[.str "left",.str "record",.int r]
 | .leftP p=>[.str "left",.str "piece",.int p]
 | .marked r=>[.str "marked",.int r]
def EI(vw:Vw)(n r c w:Nat):Lv->List (Nat × Cel)
 | .many k=>[(n * w+k,.rc (BP vw k))]
 | .leftR k=>[(n * w+k,.rc none),((n+r+c) * w+k,.mk (some 0))]
 | .leftP k=>[((n+r+c+r) * w+k,.mk (some 0))]
 | .marked k=>[((n+r+c) * w+k,.mk (some 0))]
def pk(w f:Nat):List AZ:=[.inl ((f / w:Nat):Int),.inl ((f % w:Nat):Int)]
structure Site(K:W.Frag)(a:Ad)(H:Hp)(ly gp cl:Addr)(n r c w:Nat)(rows:List (List V))(m:Nat)(vw:Vw):Prop where
 tv:TV K a
 tl:EM K a
 tp:EL K a
 la:LayAt a H ly n r c w
 pl:PlankAt a H gp cl w rows m
 rl:rows.length=n+r+c+r+c
 pv:PlV H rows n r c w vw
 w1:1<=w
 w6:w<=6
 n6:n<=6
 r6:r<=6
 c6:c<=6
def OW(K:W.Frag)(a:Ad):Sp:=λvs H Q _=>∃ (ly gp cl fd:Addr) (n r c w:Nat) (rows:List (List V)) (m:Nat) (vw:Vw) (lv:Lv),vs=[.ref ly,.ref gp,.ref fd]/\Site K a H ly gp cl n r c w rows m vw/\lv∈EH vw/\H fd=some (.tup (aB vw lv)) ∧
 ∀ (dl:Addr) (more:List (List AZ × V)) (H':Hp),H dl=none->Same H H'->H' dl=some (.dT more)->Paired (λ(kv:List AZ × V) (fx:Nat × Cel)=>kv.1=pk w fx.1/\CelV H' kv.2 fx.2) more (EI vw n r c w lv)->N0 more->Q (.ref dl) H'
def OX(K:W.Frag)(a:Ad):Sp:=λvs H Q _=>∃ (gp cl dl:Addr) (w:Nat) (rows:List (List V)) (m:Nat) (kvs:List (List AZ × V)) (cs cs':List Cel),vs=[.ref gp,.ref dl]/\EL K a/\PlankAt a H gp cl w rows m/\rows.length<=30/\1<=w/\w<=6/\H dl=some (.dT kvs)/\Paired (CelV H) rows.flatten cs/\cs'.map Cel.kind=cs.map Cel.kind/\(∀ c∈cs,c.ok)/\(∀ c∈cs',c.ok) ∧
 (∀ (f:Nat) (c c':Cel),cs[f]? =some c->cs'[f]? =some c'->(B0 kvs (pk w f)=none/\c'=c)\/∃ v,B0 kvs (pk w f)=some v/\CelV H v c') ∧
 ∀ (rows':List (List V)) (H':Hp),PlankAt a H' gp cl w rows' (m+G4 w rows.length cs cs')->rows'.length=rows.length->Paired (CelV H') rows'.flatten cs'->SameBut (λx=>x=gp\/x=cl) H H'->Q .non H'
def LJ(K:W.Frag)(a:Ad):Sp:=λvs H Q _=>∃ (ly gp cl:Addr) (n r c w:Nat) (rows:List (List V)) (m:Nat) (vw:Vw),vs=[.ref ly,.ref gp]/\Site K a H ly gp cl n r c w rows m vw/\faults vw=[] ∧
 ∀ (fo:Addr) (rows':List (List V)) (H':Hp),H fo=none->FindsL H' fo (E4 vw)->PlankAt a H' gp cl w rows' (m+G4 w rows.length (B9 vw) (B9 (mended vw)))->rows'.length=n+r+c+r+c->PlV H' rows' n r c w (mended vw)->SameBut (λx=>x=gp\/x=cl) H H'->Q (.ref fo) H'
structure RowsAt(H:Hp)(R:Addr)(ra:List Addr)(w:Nat)(cs:List Cel)(M:Nat):Prop where
 e:H R=some (.lst (ra.map V.ref))
 p:Paired (λl b=>∃ xs,H l=some (.lst xs)/\Paired (CelV H) xs (CA w cs b)) ra (List.range M)
def OY(K:W.Frag)(a:Ad):Sp:=λvs H Q _=>∃ (A:LW) (vw:Vw) (lf:List Nat) (zs:List Str),vs=[.ref A.v]/\LWAt H A vw lf/\Clean vw lf zs/\∀ (A':LW) (H':Hp),Same H H'->LWAt H' A' (mended vw) lf->Q (.ref A'.v) H'
def LK(K:W.Frag)(a:Ad):Sp:=λvs H Q _=>∃ (A:LW) (vw:Vw) (lf:List Nat) (w M:Nat),vs=[.ref A.v,.int w]/\LWAt H A vw lf/\1<=w/\w<=6/\(B9 vw).length=M * w/\∀ (R:Addr) (ra:List Addr) (H':Hp),Same H H'->RowsAt H' R ra w (B9 vw) M->H R=none->(∀ l∈ra,H l=none)->Q (.ref R) H'
def J9(K:W.Frag)(a:Ad):Sp:=λvs H Q _=>∃ (gp cl R:Addr) (w:Nat) (rows:List (List V)) (m:Nat) (ra:List Addr) (cs:List Cel),vs=[.ref gp,.ref R]/\EL K a/\PlankAt a H gp cl w rows m/\RowsAt H R ra w cs rows.length/\Paired (CelV H) rows.flatten cs/\rows.length<=30/\1<=w/\w<=6/\(∀ c∈cs,c.ok)/\∀ H',Same H H'->Q (.bl true) H'
def TY(K:W.Frag)(a:Ad):Sp:=λvs H Q _=>∃ (s:Addr) (ns:List Int),vs=[.ref s]/\TV K a/\EM K a/\EL K a/\SqL K H s (ns.map V.int)/\ns.length<=63/\∀ H',Q (.bl true) H'
end L2
namespace L2
abbrev FK:=W.Frag
abbrev XE:=St->XK
theorem AG{f g:TS}(h:f=g)(D:Ends)(σ:St)(H:Hp):f D σ H=g D σ H:=by rw[h]
section
variable{K:FK}{a:Ad}{n:Nat}{E E1:XE}{D:Ends}{σ:St}{H:Hp}
def aC(K:FK)(a:Ad)(E E1:XE):TS:=(BF (BS (GC K (AD (BR K (AA 0) "record_values") AH)) (E8 K 2 (DF (AL 0) (DF (AL 1) E7))) (A4 (AC GA (AC (AK K) (BR K (AA 2) "leads") (AA 0)) (tC (.int 0)))) (AA 1) 2 [0]))
theorem xL:type_of% (AG (aC.eq_1 K a E E1) D σ H):=rfl
def TZ(K:FK)(a:Ad)(E:XE):TS:=(aC K a E E)
def aD(K:FK)(a:Ad)(E E1:XE):TS:=(BF (BS (GC K (AD (BR K (AA 0) "record_values") AH)) (E8 K 2 (DF (AL 0) (DF (AL 1) E7))) (A4 (AC IG (AA 1) (tC .non))) (AA 0) 2 []))
theorem xM:type_of% (AG (aD.eq_1 K a E E1) D σ H):=rfl
def T1(K:FK)(a:Ad)(E:XE):TS:=(aD K a E E)
def aE(K:FK)(a:Ad)(E E1:XE):TS:=(BF (BS (GC K (AD (BR K (AA 0) "namings") AH)) (E8 K 2 (DF (AL 0) (DF (AL 1) E7))) (A4 (AC GA (AA 1) (tC (.int 0)))) (AA 0) 2 []))
theorem xN:type_of% (AG (aE.eq_1 K a E E1) D σ H):=rfl
def T2(K:FK)(a:Ad)(E:XE):TS:=(aE K a E E)
def aF(K:FK)(a:Ad)(E E1:XE):TS:=(BF (AC (AK K) (AC (AK K) (BR K (AA 0) "record_values") (AA 1)) (tC (.int 0))))
theorem xO:type_of% (AG (aF.eq_1 K a E E1) D σ H):=rfl
def T3(K:FK)(a:Ad)(E:XE):TS:=(aF K a E E)
def aG(K:FK)(a:Ad)(E E1:XE):TS:=(AX (CQ AH) (AL 1))
theorem xP:type_of% (AG (aG.eq_1 K a E E1) D σ H):=rfl
def aH(K:FK)(a:Ad)(E E1:XE):TS:=(AX (CQ AH) (AL 2))
theorem xQ:type_of% (AG (aH.eq_1 K a E E1) D σ H):=rfl
def aI(K:FK)(a:Ad)(E E1:XE):TS:=(AX SX (AL 3))
theorem xR:type_of% (AG (aI.eq_1 K a E E1) D σ H):=rfl
def aJ(K:FK)(a:Ad)(E E1:XE):TS:=(CW (EY K "list" II (AA 1) (AD (CP (AD (tC (.str "lost")) (AD (AA 4) AH))) AH)))
theorem xS:type_of% (AG (aJ.eq_1 K a E E1) D σ H):=rfl
def aK(K:FK)(a:Ad)(E E1:XE):TS:=(B5 (A4 (AC FM (AC (AK K) (BR K (AA 0) "record_values") (AC (AK K) (AA 5) (tC (.int 1)))) (tC .non))) (aJ K a E E) CJ)
theorem xT:type_of% (AG (aK.eq_1 K a E E1) D σ H):=rfl
def aL(K:FK)(a:Ad)(E E1:XE):TS:=(CW (EY K "list" II (AA 2) (AD (CP (AD (tC (.str "twice")) (AD (AA 4) AH))) AH)))
theorem xU:type_of% (AG (aL.eq_1 K a E E1) D σ H):=rfl
def T4(K:FK)(a:Ad)(E E1:XE):TS:=(B5 (tB (SV (AC (AK K) (AA 5) (tC (.int 0))) (AA 3))) (aL K a E E) CJ)
theorem xV:type_of% (AG (T4.eq_1 K a E E1) D σ H):=rfl
def RB(K:FK)(a:Ad)(E E1:XE):TS:=(SW (AA 3) (AC (AK K) (AA 5) (tC (.int 0))) (tC (.bl true)))
theorem xW:type_of% (AG (RB.eq_1 K a E E1) D σ H):=rfl
def aM(K:FK)(a:Ad)(E E1:XE):TS:=(B5 (A4 (AC IG (AA 5) (tC .non))) (AQ (aK K a E E) (AQ (T4 K a E E) (RB K a E E))) CJ)
theorem xX:type_of% (AG (aM.eq_1 K a E E1) D σ H):=rfl
def aN(K:FK)(a:Ad)(E E1:XE):TS:=(C6 (GC K (AD (BR K (AA 0) "name_values") AH)) (E8 K 2 (DF (AL 4) (DF (AL 5) E7))) (aM K a E E))
theorem xY:type_of% (AG (aN.eq_1 K a E E1) D σ H):=rfl
def RC(K:FK)(a:Ad)(E E1:XE):TS:=(BF (AC (A7 K) (AA 1) (AA 2)))
theorem xZ:type_of% (AG (RC.eq_1 K a E E1) D σ H):=rfl
def T5(K:FK)(a:Ad)(E:XE):TS:=(AQ (aG K a E E) (AQ (aH K a E E) (AQ (aI K a E E) (AQ (aN K a E E) (RC K a E E)))))
def aO(K:FK)(a:Ad)(E E1:XE):TS:=(AX (BS (GC K (AD (BR K (AA 0) "piece_marks") AH)) (E8 K 2 (DF (AL 0) (DF (AL 1) E7))) (A4 (AC (BY K) (AA 1) (tC (.int 1)))) (AA 0) 2 []) (AL 1))
theorem x6:type_of% (AG (aO.eq_1 K a E E1) D σ H):=rfl
def aP(K:FK)(a:Ad)(E E1:XE):TS:=(BF (BS (C1 K (AA 1)) (AL 0) (A4 (AC (BY K) (AC (AK K) (BR K (AA 1) "reached") (AA 0)) (tC (.int 0)))) (CP (AD (tC (.str "left")) (AD (tC (.str "piece")) (AD (AA 0) AH)))) 1 [0]))
theorem x8:type_of% (AG (aP.eq_1 K a E E1) D σ H):=rfl
def T6(K:FK)(a:Ad)(E:XE):TS:=(AQ (aO K a E E) (aP K a E E))
def aQ(K:FK)(a:Ad)(E E1:XE):TS:=(AX (BS (GC K (AD (BR K (AA 0) "record_marks") AH)) (E8 K 2 (DF (AL 0) (DF (AL 1) E7))) (A4 (AC (BY K) (AA 1) (tC (.int 1)))) (AA 0) 2 []) (AL 1))
theorem x9:type_of% (AG (aQ.eq_1 K a E E1) D σ H):=rfl
def aR(K:FK)(a:Ad)(E E1:XE):TS:=(BF (BS (C1 K (AA 1)) (AL 0) (A4 (AC FM (AC (AK K) (BR K (AA 1) "record_values") (AA 0)) (tC .non))) (CP (AD (tC (.str "marked")) (AD (AA 0) AH))) 1 [0]))
theorem yA:type_of% (AG (aR.eq_1 K a E E1) D σ H):=rfl
def T7(K:FK)(a:Ad)(E:XE):TS:=(AQ (aQ K a E E) (aR K a E E))
def aS(K:FK)(a:Ad)(E E1:XE):TS:=(AX (BS (CY (AD (AA 0) AH)) (AL 0) CS (tC (.int 0)) 1 []) (AL 2))
theorem yB:type_of% (AG (aS.eq_1 K a E E1) D σ H):=rfl
def aT(K:FK)(a:Ad)(E E1:XE):TS:=(TF K (AA 2) (AA 3) (tC (.int 1)) NH)
theorem yC:type_of% (AG (aT.eq_1 K a E E1) D σ H):=rfl
def aU(K:FK)(a:Ad)(E E1:XE):TS:=(C6 (C1 K (AA 1)) (AL 3) (aT K a E E))
theorem yD:type_of% (AG (aU.eq_1 K a E E1) D σ H):=rfl
def aV(K:FK)(a:Ad)(E E1:XE):TS:=(BF (AA 2))
theorem yE:type_of% (AG (aV.eq_1 K a E E1) D σ H):=rfl
def T8(K:FK)(a:Ad)(E:XE):TS:=(AQ (aS K a E E) (AQ (aU K a E E) (aV K a E E)))
def aW(K:FK)(a:Ad)(E E1:XE):TS:=(AX (CQ AH) (AL 1))
theorem yF:type_of% (AG (aW.eq_1 K a E E1) D σ H):=rfl
def aX(K:FK)(a:Ad)(E E1:XE):TS:=(CW (EY K "list" (ZY K) (AA 1) (AD (AC (AK K) (AA 2) (tC (.int 1))) AH)))
theorem yG:type_of% (AG (aX.eq_1 K a E E1) D σ H):=rfl
def aY(K:FK)(a:Ad)(E E1:XE):TS:=(B5 (A4 (AC IG (AA 2) (tC .non))) (aX K a E E) CJ)
theorem yH:type_of% (AG (aY.eq_1 K a E E1) D σ H):=rfl
def aZ(K:FK)(a:Ad)(E E1:XE):TS:=(C6 (C1 K (AA 0)) (AL 2) (aY K a E E))
theorem yI:type_of% (AG (aZ.eq_1 K a E E1) D σ H):=rfl
def bA(K:FK)(a:Ad)(E E1:XE):TS:=(BF (AA 1))
theorem yJ:type_of% (AG (bA.eq_1 K a E E1) D σ H):=rfl
def T9(K:FK)(a:Ad)(E:XE):TS:=(AQ (aW K a E E) (AQ (aZ K a E E) (bA K a E E)))
def bB(K:FK)(a:Ad)(E E1:XE):TS:=(EJ K (AA 0) (BS (CY (AD (AA 1) AH)) (AL 0) CS (AC (DZ K) (CP (AD (tC .non) AH)) (AA 1)) 1 [2]) "contents")
theorem yK:type_of% (AG (bB.eq_1 K a E E1) D σ H):=rfl
def bC(K:FK)(a:Ad)(E E1:XE):TS:=(EJ K (AA 0) (AA 2) "width")
theorem yL:type_of% (AG (bC.eq_1 K a E E1) D σ H):=rfl
def bD(K:FK)(a:Ad)(E E1:XE):TS:=(EJ K (AA 0) (tC (.int 0)) "written")
theorem yM:type_of% (AG (bD.eq_1 K a E E1) D σ H):=rfl
def UA(K:FK)(a:Ad)(E:XE):TS:=(AQ (bB K a E E) (AQ (bC K a E E) (bD K a E E)))
def bE(K:FK)(a:Ad)(E E1:XE):TS:=(BF (BW (CL K) (AD (BR K (AA 0) "contents") AH)))
theorem yN:type_of% (AG (bE.eq_1 K a E E1) D σ H):=rfl
def UB(K:FK)(a:Ad)(E:XE):TS:=(bE K a E E)
def bF(K:FK)(a:Ad)(E E1:XE):TS:=(BF (BR K (AA 0) "written"))
theorem yO:type_of% (AG (bF.eq_1 K a E E1) D σ H):=rfl
def UC(K:FK)(a:Ad)(E:XE):TS:=(bF K a E E)
def bG(K:FK)(a:Ad)(E E1:XE):TS:=(NR (a "NoBlock") E (AD (tC (.str "there is no such block")) AH))
theorem yP:type_of% (AG (bG.eq_1 K a E E1) D σ H):=rfl
def bH(K:FK)(a:Ad)(E E1:XE):TS:=(B5 (K6 (A4 (SF NU ID (tC (.int 0)) (AA 1) (BW (CL K) (AD (BR K (AA 0) "contents") AH))))) (bG K a E E) CJ)
theorem yQ:type_of% (AG (bH.eq_1 K a E E1) D σ H):=rfl
def UD(K:FK)(a:Ad)(E:XE):TS:=(bH K a E E)
def bI(K:FK)(a:Ad)(E E1:XE):TS:=(EJ K (AA 0) (AA 1) "name_blocks")
theorem yR:type_of% (AG (bI.eq_1 K a E E1) D σ H):=rfl
def bJ(K:FK)(a:Ad)(E E1:XE):TS:=(EJ K (AA 0) (AA 2) "record_blocks")
theorem yS:type_of% (AG (bJ.eq_1 K a E E1) D σ H):=rfl
def bK(K:FK)(a:Ad)(E E1:XE):TS:=(EJ K (AA 0) (AA 3) "piece_blocks")
theorem yT:type_of% (AG (bK.eq_1 K a E E1) D σ H):=rfl
def bL(K:FK)(a:Ad)(E E1:XE):TS:=(EJ K (AA 0) (AA 4) "width")
theorem yU:type_of% (AG (bL.eq_1 K a E E1) D σ H):=rfl
def UE(K:FK)(a:Ad)(E:XE):TS:=(AQ (bI K a E E) (AQ (bJ K a E E) (AQ (bK K a E E) (bL K a E E))))
def bN(K:FK)(a:Ad)(E E1:XE):TS:=(BF (CP (AD (AC (DZ K) (BR K (AA 0) "name_blocks") (BR K (AA 0) "width")) (AD (AC (DZ K) (BR K (AA 0) "record_blocks") (BR K (AA 0) "width")) (AD (AC (DZ K) (BR K (AA 0) "piece_blocks") (BR K (AA 0) "width")) AH)))))
theorem yV:type_of% (AG (bN.eq_1 K a E E1) D σ H):=rfl
def UF(K:FK)(a:Ad)(E:XE):TS:=(bN K a E E)
def bO(K:FK)(a:Ad)(E E1:XE):TS:=(BF (AC (A7 K) (AC (A7 K) (BR K (AA 0) "name_blocks") (BR K (AA 0) "record_blocks")) (BR K (AA 0) "piece_blocks")))
theorem yW:type_of% (AG (bO.eq_1 K a E E1) D σ H):=rfl
def UG(K:FK)(a:Ad)(E:XE):TS:=(bO K a E E)
def bP(K:FK)(a:Ad)(E E1:XE):TS:=(BF (CP (AD (AC (A7 K) (AA 1) (AC FA (AA 2) (BR K (AA 0) "width"))) (AD (AC B3 (AA 2) (BR K (AA 0) "width")) AH))))
theorem yX:type_of% (AG (bP.eq_1 K a E E1) D σ H):=rfl
def UH(K:FK)(a:Ad)(E:XE):TS:=(bP K a E E)
def bQ(K:FK)(a:Ad)(E E1:XE):TS:=(BF (AC (AK K) (AA 0) (AA 1)))
theorem yY:type_of% (AG (bQ.eq_1 K a E E1) D σ H):=rfl
def bR(K:FK)(a:Ad)(E E1:XE):TS:=(B5 (A4 (AC ID (AA 1) (BW (CL K) (AD (AA 0) AH)))) (bQ K a E E) CJ)
theorem yZ:type_of% (AG (bR.eq_1 K a E E1) D σ H):=rfl
def bS(K:FK)(a:Ad)(E E1:XE):TS:=(BF (tC (.int 0)))
theorem y7:type_of% (AG (bS.eq_1 K a E E1) D σ H):=rfl
def UI(K:FK)(a:Ad)(E:XE):TS:=(AQ (bR K a E E) (bS K a E E))
def bT(K:FK)(a:Ad)(E E1:XE):TS:=(AX (AC (A7 K) (AC B3 (AA 0) (tC (.int 920419823))) (tC (.int 5))) (AL 2))
theorem zA:type_of% (AG (bT.eq_1 K a E E1) D σ H):=rfl
def bU(K:FK)(a:Ad)(E E1:XE):TS:=(AX (AC (A7 K) (AC B3 (AC FA (AA 0) (tC (.int 920419823))) (tC (.int 899809363))) (tC (.int 3))) (AL 3))
theorem zB:type_of% (AG (bU.eq_1 K a E E1) D σ H):=rfl
def bV(K:FK)(a:Ad)(E E1:XE):TS:=(AX (CQ AH) (AL 4))
theorem zC:type_of% (AG (bV.eq_1 K a E E1) D σ H):=rfl
def bW(K:FK)(a:Ad)(E E1:XE):TS:=(AX (AC B3 (AC (A7 K) (AC (DZ K) (AA 2) (tC (.int 70001))) (AA 3)) (tC (.int 920419823))) (AL 2))
theorem zD:type_of% (AG (bW.eq_1 K a E E1) D σ H):=rfl
def bX(K:FK)(a:Ad)(E E1:XE):TS:=(AX (AC B3 (AC (A7 K) (AC (A7 K) (AC (DZ K) (AA 3) (tC (.int 60013))) (AC (DZ K) (AA 2) (AA 2))) (AA 5)) (tC (.int 899809363))) (AL 3))
theorem zE:type_of% (AG (bX.eq_1 K a E E1) D σ H):=rfl
def bY(K:FK)(a:Ad)(E E1:XE):TS:=(CW (EY K "list" II (AA 4) (AD (AC (A7 K) (AA 2) (AA 3)) AH)))
theorem zF:type_of% (AG (bY.eq_1 K a E E1) D σ H):=rfl
def bZ(K:FK)(a:Ad)(E E1:XE):TS:=(C6 (CY (AD (AA 1) AH)) (AL 5) (AQ (bW K a E E) (AQ (bX K a E E) (bY K a E E))))
theorem zG:type_of% (AG (bZ.eq_1 K a E E1) D σ H):=rfl
def b0(K:FK)(a:Ad)(E E1:XE):TS:=(BF (AA 4))
theorem zH:type_of% (AG (b0.eq_1 K a E E1) D σ H):=rfl
def UJ(K:FK)(a:Ad)(E:XE):TS:=(AQ (bT K a E E) (AQ (bU K a E E) (AQ (bV K a E E) (AQ (bZ K a E E) (b0 K a E E)))))
def b6(K:FK)(a:Ad)(E E1:XE):TS:=(AX (AC (DZ K) (CQ (AD (tC (.int 0)) AH)) (BW (CL K) (AD (AC (AK K) (AA 0) (tC (.int 1))) AH))) (AL 1))
theorem zI:type_of% (AG (b6.eq_1 K a E E1) D σ H):=rfl
def b7(K:FK)(a:Ad)(E E1:XE):TS:=(AX (AC (A7 K) (AC (AK K) (AA 1) (AC (AK K) (AA 2) (tC (.int 1)))) (tC (.int 1))) (DX (AA 1) (AC (AK K) (AA 2) (tC (.int 1))) CK))
theorem zJ:type_of% (AG (b7.eq_1 K a E E1) D σ H):=rfl
def b8(K:FK)(a:Ad)(E E1:XE):TS:=(B5 (A4 (AC IG (AA 2) (tC .non))) (b7 K a E E) CJ)
theorem zK:type_of% (AG (b8.eq_1 K a E E1) D σ H):=rfl
def b9(K:FK)(a:Ad)(E E1:XE):TS:=(C6 (C1 K (AC (AK K) (AA 0) (tC (.int 0)))) (AL 2) (b8 K a E E))
theorem zL:type_of% (AG (b9.eq_1 K a E E1) D σ H):=rfl
def cA(K:FK)(a:Ad)(E E1:XE):TS:=(BF (AA 1))
theorem zM:type_of% (AG (cA.eq_1 K a E E1) D σ H):=rfl
def UK(K:FK)(a:Ad)(E:XE):TS:=(AQ (b6 K a E E) (AQ (b9 K a E E) (cA K a E E)))
def cB(K:FK)(a:Ad)(E E1:XE):TS:=(BF (BS (CY (AD (BW (CL K) (AD (AC (AK K) (AA 0) (tC (.int 0))) AH)) AH)) (AL 0) (A4 (AC FM (AC (AK K) (AC (AK K) (AA 1) (tC (.int 0))) (AA 0)) (tC .non))) (AA 0) 1 [0]))
theorem zN:type_of% (AG (cB.eq_1 K a E E1) D σ H):=rfl
def UL(K:FK)(a:Ad)(E:XE):TS:=(cB K a E E)
def cC(K:FK)(a:Ad)(E E1:XE):TS:=(BF (BS (CY (AD (BW (CL K) (AD (AC (AK K) (AA 0) (tC (.int 1))) AH)) AH)) (AL 0) (FG (A4 (AC FM (AC (AK K) (AC (AK K) (AA 1) (tC (.int 1))) (AA 0)) (tC .non))) (A4 (AC FM (AC (AK K) (AC (AK K) (AA 1) (tC (.int 3))) (AA 0)) (tC .non)))) (AA 0) 1 [0]))
theorem zO:type_of% (AG (cC.eq_1 K a E E1) D σ H):=rfl
def UM(K:FK)(a:Ad)(E:XE):TS:=(cC K a E E)
def cD(K:FK)(a:Ad)(E E1:XE):TS:=(BF (BS (CY (AD (BW (CL K) (AD (AC (AK K) (AA 0) (tC (.int 2))) AH)) AH)) (AL 0) (FG (A4 (AC FM (AC (AK K) (AC (AK K) (AA 1) (tC (.int 2))) (AA 0)) (tC .non))) (A4 (AC FM (AC (AK K) (AC (AK K) (AA 1) (tC (.int 4))) (AA 0)) (tC .non)))) (AA 0) 1 [0]))
theorem zP:type_of% (AG (cD.eq_1 K a E E1) D σ H):=rfl
def UN(K:FK)(a:Ad)(E:XE):TS:=(cD K a E E)
def cE(K:FK)(a:Ad)(E E1:XE):TS:=(AX (AC (A7 K) (AC (A7 K) (AC (A7 K) (AC (A7 K) (AC (AK K) (AA 0) (tC (.int 0))) (AC (AK K) (AA 0) (tC (.int 1)))) (AC (AK K) (AA 0) (tC (.int 2)))) (AC (AK K) (AA 0) (tC (.int 3)))) (AC (AK K) (AA 0) (tC (.int 4)))) (AL 2))
theorem zQ:type_of% (AG (cE.eq_1 K a E E1) D σ H):=rfl
def cF(K:FK)(a:Ad)(E E1:XE):TS:=(BF (BS (NZ (AD (tC (.int 0)) (AD (BW (CL K) (AD (AA 2) AH)) (AD (AA 1) AH)))) (AL 0) CS (JK (IH K) (AA 1) (GX (AA 0)) (GX (AC (A7 K) (AA 0) (AA 2)))) 1 [2,1]))
theorem zR:type_of% (AG (cF.eq_1 K a E E1) D σ H):=rfl
def UO(K:FK)(a:Ad)(E:XE):TS:=(AQ (cE K a E E) (cF K a E E))
def cG(K:FK)(a:Ad)(E E1:XE):TS:=(AX (BS (C1 K (BT (a "View") "pieces_named" (IW K a) [] E (AA 0) AH)) (AL 0) (A4 (AC GA (AC (AK K) (BR K (AA 1) "namings") (AA 0)) (tC (.int 1)))) (CP (AD (tC (.str "shared")) (AD (AA 0) AH))) 1 [0]) (AL 1))
theorem zS:type_of% (AG (cG.eq_1 K a E E1) D σ H):=rfl
def cH(K:FK)(a:Ad)(E E1:XE):TS:=(AX (BS (C1 K (BT (a "View") "pieces_named" (IW K a) [] E (AA 0) AH)) (AL 0) (A4 (AC FM (AC (AK K) (BR K (AA 1) "piece_values") (AA 0)) (tC .non))) (CP (AD (tC (.str "empty")) (AD (AA 0) AH))) 1 [0]) (AL 2))
theorem zT:type_of% (AG (cH.eq_1 K a E E1) D σ H):=rfl
def cI(K:FK)(a:Ad)(E E1:XE):TS:=(AX (BS (C1 K (BT (a "View") "records_standing" (JW K a) [] E (AA 0) AH)) (AL 0) (A4 (AC ID (BT (a "View") "count_of" (JX K a) [] (λ_=>E0) (AA 1) (AD (AA 0) AH)) (AC (AK K) (BR K (AA 1) "leads") (AA 0)))) (CP (AD (tC (.str "few")) (AD (AA 0) AH))) 1 [0]) (AL 3))
theorem zU:type_of% (AG (cI.eq_1 K a E E1) D σ H):=rfl
def cJ(K:FK)(a:Ad)(E E1:XE):TS:=(BF (AC (A7 K) (AC (A7 K) (AA 1) (AA 2)) (AA 3)))
theorem zV:type_of% (AG (cJ.eq_1 K a E E1) D σ H):=rfl
def UP(K:FK)(a:Ad)(E:XE):TS:=(AQ (cG K a E E) (AQ (cH K a E E) (AQ (cI K a E E) (cJ K a E E))))
def cK(K:FK)(a:Ad)(E E1:XE):TS:=(AX (BS (GC K (AD (BR K (AA 0) "leads") AH)) (E8 K 2 (DF (AL 0) (DF (AL 1) E7))) (A4 (AC GA (AA 1) (tC (.int 0)))) (AA 0) 2 []) (AL 1))
theorem zW:type_of% (AG (cK.eq_1 K a E E1) D σ H):=rfl
def cL(K:FK)(a:Ad)(E E1:XE):TS:=(AX (BS (C1 K (AA 1)) (AL 0) (A4 (AC (B1 K) (AC (AK K) (BR K (AA 1) "record_marks") (AA 0)) (tC (.int 1)))) (CP (AD (tC (.str "free")) (AD (tC (.str "record")) (AD (AA 0) AH)))) 1 [0]) (AL 2))
theorem zX:type_of% (AG (cL.eq_1 K a E E1) D σ H):=rfl
def cM(K:FK)(a:Ad)(E E1:XE):TS:=(AX (BS (C1 K (BT (a "View") "pieces_named" (IW K a) [] E (AA 0) AH)) (AL 0) (A4 (AC (B1 K) (AC (AK K) (BR K (AA 1) "piece_marks") (AA 0)) (tC (.int 1)))) (CP (AD (tC (.str "free")) (AD (tC (.str "piece")) (AD (AA 0) AH)))) 1 [0]) (AL 3))
theorem zY:type_of% (AG (cM.eq_1 K a E E1) D σ H):=rfl
def cN(K:FK)(a:Ad)(E E1:XE):TS:=(BF (AC (A7 K) (AA 2) (AA 3)))
theorem zZ:type_of% (AG (cN.eq_1 K a E E1) D σ H):=rfl
def UQ(K:FK)(a:Ad)(E:XE):TS:=(AQ (cK K a E E) (AQ (cL K a E E) (AQ (cM K a E E) (cN K a E E))))
def cO(K:FK)(a:Ad)(E E1:XE):TS:=(AX (CQ AH) (AL 1))
theorem z0:type_of% (AG (cO.eq_1 K a E E1) D σ H):=rfl
def cP(K:FK)(a:Ad)(E E1:XE):TS:=(AX (CQ AH) (AL 2))
theorem z6:type_of% (AG (cP.eq_1 K a E E1) D σ H):=rfl
def cQ(K:FK)(a:Ad)(E E1:XE):TS:=(AX (AC (AK K) (BR K (AA 0) "leads") (AA 3)) (AL 4))
theorem z7:type_of% (AG (cQ.eq_1 K a E E1) D σ H):=rfl
def cR(K:FK)(a:Ad)(E E1:XE):TS:=(CW (EY K "list" II (AA 2) (AD (CP (AD (tC (.str "left")) (AD (tC (.str "record")) (AD (AA 3) AH)))) AH)))
theorem z8:type_of% (AG (cR.eq_1 K a E E1) D σ H):=rfl
def cS(K:FK)(a:Ad)(E E1:XE):TS:=(CW (EY K "list" II (AA 1) (AD (CP (AD (tC (.str "many")) (AD (AA 3) (AD (AA 4) AH)))) AH)))
theorem z9:type_of% (AG (cS.eq_1 K a E E1) D σ H):=rfl
def cT(K:FK)(a:Ad)(E E1:XE):TS:=(B5 (A4 (AC GA (BT (a "View") "count_of" (JX K a) [] E (AA 0) (AD (AA 3) AH)) (AA 4))) (cS K a E E) CJ)
theorem Ab:type_of% (AG (cT.eq_1 K a E E1) D σ H):=rfl
def cU(K:FK)(a:Ad)(E E1:XE):TS:=(B5 (A4 (AC (BY K) (AA 4) (tC (.int 0)))) (cR K a E E) (cT K a E E))
theorem Ac:type_of% (AG (cU.eq_1 K a E E1) D σ H):=rfl
def cV(K:FK)(a:Ad)(E E1:XE):TS:=(C6 (C1 K (BT (a "View") "records_standing" (JW K a) [] E (AA 0) AH)) (AL 3) (AQ (cQ K a E E) (cU K a E E)))
theorem Ag:type_of% (AG (cV.eq_1 K a E E1) D σ H):=rfl
def cW(K:FK)(a:Ad)(E E1:XE):TS:=(BF (AC (A7 K) (AA 1) (AA 2)))
theorem Ah:type_of% (AG (cW.eq_1 K a E E1) D σ H):=rfl
def UR(K:FK)(a:Ad)(E:XE):TS:=(AQ (cO K a E E) (AQ (cP K a E E) (AQ (cV K a E E) (cW K a E E))))
def cX(K:FK)(a:Ad)(E E1:XE):TS:=(CW (BT (a "Plank") "ask_for_block" (HK K a) [] E (AA 0) (AD (AA 1) AH)))
theorem Aj:type_of% (AG (cX.eq_1 K a E E1) D σ H):=rfl
def cY(K:FK)(a:Ad)(E E1:XE):TS:=(BF (BW (JO K) (AD (AC (AK K) (BR K (AA 0) "contents") (AA 1)) AH)))
theorem Ak:type_of% (AG (cY.eq_1 K a E E1) D σ H):=rfl
def US(K:FK)(a:Ad)(E:XE):TS:=(AQ (cX K a E E) (cY K a E E))
def cZ(K:FK)(a:Ad)(E E1:XE):TS:=(CW (BT (a "Plank") "ask_for_block" (HK K a) [] E (AA 0) (AD (AA 1) AH)))
theorem Al:type_of% (AG (cZ.eq_1 K a E E1) D σ H):=rfl
def c5(K:FK)(a:Ad)(E E1:XE):TS:=(NR (a "NoBlock") E (AD (tC (.str "the list is not as long as a block")) AH))
theorem Am:type_of% (AG (c5.eq_1 K a E E1) D σ H):=rfl
def c7(K:FK)(a:Ad)(E E1:XE):TS:=(B5 (A4 (AC (B1 K) (BW (CL K) (AD (AA 2) AH)) (BR K (AA 0) "width"))) (c5 K a E E) CJ)
theorem Ap:type_of% (AG (c7.eq_1 K a E E1) D σ H):=rfl
def c8(K:FK)(a:Ad)(E E1:XE):TS:=(AX (BW (NW K) (AD (AA 2) AH)) (DX (BR K (AA 0) "contents") (AA 1) CK))
theorem Aq:type_of% (AG (c8.eq_1 K a E E1) D σ H):=rfl
def c9(K:FK)(a:Ad)(E E1:XE):TS:=(SK K (AA 0) (tC (.int 1)) NH "written")
theorem Av:type_of% (AG (c9.eq_1 K a E E1) D σ H):=rfl
def UT(K:FK)(a:Ad)(E:XE):TS:=(AQ (cZ K a E E) (AQ (c7 K a E E) (AQ (c8 K a E E) (c9 K a E E))))
def dA(K:FK)(a:Ad)(E E1:XE):TS:=(BF (BT (a "Layout") "place_from" (FB K a) [] E (AA 0) (AD (tC (.int 0)) (AD (AA 1) AH))))
theorem Aw:type_of% (AG (dA.eq_1 K a E E1) D σ H):=rfl
def UU(K:FK)(a:Ad)(E:XE):TS:=(dA K a E E)
def dB(K:FK)(a:Ad)(E E1:XE):TS:=(BF (BT (a "Layout") "place_from" (FB K a) [] E (AA 0) (AD (BR K (AA 0) "name_blocks") (AD (AA 1) AH))))
theorem Ax:type_of% (AG (dB.eq_1 K a E E1) D σ H):=rfl
def UV(K:FK)(a:Ad)(E:XE):TS:=(dB K a E E)
def dC(K:FK)(a:Ad)(E E1:XE):TS:=(BF (BT (a "Layout") "place_from" (FB K a) [] E (AA 0) (AD (AC (A7 K) (BR K (AA 0) "name_blocks") (BR K (AA 0) "record_blocks")) (AD (AA 1) AH))))
theorem Ay:type_of% (AG (dC.eq_1 K a E E1) D σ H):=rfl
def UW(K:FK)(a:Ad)(E:XE):TS:=(dC K a E E)
def dD(K:FK)(a:Ad)(E E1:XE):TS:=(BF (BT (a "Layout") "place_from" (FB K a) [] E (AA 0) (AD (BT (a "Layout") "blocks_ahead_of_marks" (HL K a) [] E (AA 0) AH) (AD (AA 1) AH))))
theorem Az:type_of% (AG (dD.eq_1 K a E E1) D σ H):=rfl
def UX(K:FK)(a:Ad)(E:XE):TS:=(dD K a E E)
def dE(K:FK)(a:Ad)(E E1:XE):TS:=(BF (BT (a "Layout") "place_from" (FB K a) [] E (AA 0) (AD (AC (A7 K) (BT (a "Layout") "blocks_ahead_of_marks" (HL K a) [] E (AA 0) AH) (BR K (AA 0) "record_blocks")) (AD (AA 1) AH))))
theorem Bb:type_of% (AG (dE.eq_1 K a E E1) D σ H):=rfl
def UY(K:FK)(a:Ad)(E:XE):TS:=(dE K a E E)
def dF(K:FK)(a:Ad)(E E1:XE):TS:=(BF (AC (A7 K) (AC (A7 K) (BT (a "Layout") "blocks_ahead_of_marks" (HL K a) [] E (AA 0) AH) (BR K (AA 0) "record_blocks")) (BR K (AA 0) "piece_blocks")))
theorem Bc:type_of% (AG (dF.eq_1 K a E E1) D σ H):=rfl
def UZ(K:FK)(a:Ad)(E:XE):TS:=(dF K a E E)
def dG(K:FK)(a:Ad)(E E1:XE):TS:=(AX (tC (.str "abcdefghijklmnopqrstuvwxyz")) (AL 2))
theorem Bd:type_of% (AG (dG.eq_1 K a E E1) D σ H):=rfl
def dH(K:FK)(a:Ad)(E E1:XE):TS:=(AX (A9 (GF K a) [] E (AD (AC FA (AA 0) (tC (.int 2))) (AD (tC (.int 12)) AH))) (AL 3))
theorem Bg:type_of% (AG (dH.eq_1 K a E E1) D σ H):=rfl
def dI(K:FK)(a:Ad)(E E1:XE):TS:=(BF (BS (CY (AD (AA 1) AH)) (AL 0) CS (AC (DZ K) (AC (AK K) (AA 1) (AC B3 (AC (A7 K) (AC (AK K) (AA 2) (tC (.int 0))) (AC FA (AA 0) (tC (.int 8)))) (tC (.int 26)))) (AC (A7 K) (tC (.int 1)) (AC B3 (AA 0) (tC (.int 8))))) 1 [2,3]))
theorem Bh:type_of% (AG (dI.eq_1 K a E E1) D σ H):=rfl
def dJ(K:FK)(a:Ad)(E E1:XE):TS:=(B5 (A4 (AC (BY K) (AC B3 (AA 0) (tC (.int 2))) (tC (.int 1)))) (dI K a E E) CJ)
theorem Bj:type_of% (AG (dJ.eq_1 K a E E1) D σ H):=rfl
def dM(K:FK)(a:Ad)(E E1:XE):TS:=(AX (AC (A7 K) (tC (.int 2)) (AC B3 (AC (AK K) (AA 3) (tC (.int 0))) (tC (.int 7)))) (AL 4))
theorem Bk:type_of% (AG (dM.eq_1 K a E E1) D σ H):=rfl
def dN(K:FK)(a:Ad)(E E1:XE):TS:=(AX (AC B3 (AC (AK K) (AA 3) (tC (.int 1))) (AA 4)) (AL 5))
theorem Bl:type_of% (AG (dN.eq_1 K a E E1) D σ H):=rfl
def dO(K:FK)(a:Ad)(E E1:XE):TS:=(AX (AC B3 (AC (A7 K) (AC (A7 K) (AA 5) (tC (.int 1))) (AC B3 (AC (AK K) (AA 3) (tC (.int 2))) (AC QY (AA 4) (tC (.int 1))))) (AA 4)) (AL 6))
theorem Bm:type_of% (AG (dO.eq_1 K a E E1) D σ H):=rfl
def dP(K:FK)(a:Ad)(E E1:XE):TS:=(AX (CQ AH) (AL 7))
theorem Bp:type_of% (AG (dP.eq_1 K a E E1) D σ H):=rfl
def dQ(K:FK)(a:Ad)(E E1:XE):TS:=(AX (tC (.str "")) (AL 9))
theorem Bq:type_of% (AG (dQ.eq_1 K a E E1) D σ H):=rfl
def dR(K:FK)(a:Ad)(E E1:XE):TS:=(AX (AC (A7 K) (AC (DZ K) (AA 8) (BW (JP K) (AD (AC (BY K) (AA 10) (AA 5)) AH))) (AC (DZ K) (AC FA (AA 8) (tC (.int 26))) (BW (JP K) (AD (AC (BY K) (AA 10) (AA 6)) AH)))) (AL 11))
theorem Bv:type_of% (AG (dR.eq_1 K a E E1) D σ H):=rfl
def dU(K:FK)(a:Ad)(E E1:XE):TS:=(AX (AC (A7 K) (AA 9) (AC (AK K) (AA 2) (AC B3 (AC (A7 K) (AC (AK K) (AA 3) (AC (A7 K) (tC (.int 3)) (AA 10))) (AA 11)) (tC (.int 26))))) (AL 9))
theorem Bw:type_of% (AG (dU.eq_1 K a E E1) D σ H):=rfl
def dW(K:FK)(a:Ad)(E E1:XE):TS:=(C6 (CY (AD (AA 4) AH)) (AL 10) (AQ (dR K a E E) (dU K a E E)))
theorem Bx:type_of% (AG (dW.eq_1 K a E E1) D σ H):=rfl
def dX(K:FK)(a:Ad)(E E1:XE):TS:=(CW (EY K "list" II (AA 7) (AD (AA 9) AH)))
theorem By:type_of% (AG (dX.eq_1 K a E E1) D σ H):=rfl
def dY(K:FK)(a:Ad)(E E1:XE):TS:=(C6 (CY (AD (AA 1) AH)) (AL 8) (AQ (dQ K a E E) (AQ (dW K a E E) (dX K a E E))))
theorem Bz:type_of% (AG (dY.eq_1 K a E E1) D σ H):=rfl
def dZ(K:FK)(a:Ad)(E E1:XE):TS:=(BF (AA 7))
theorem Cb:type_of% (AG (dZ.eq_1 K a E E1) D σ H):=rfl
def U0(K:FK)(a:Ad)(E:XE):TS:=(AQ (dG K a E E) (AQ (dH K a E E) (AQ (dJ K a E E) (AQ (dM K a E E) (AQ (dN K a E E) (AQ (dO K a E E) (AQ (dP K a E E) (AQ (dY K a E E) (dZ K a E E)))))))))
def d0(K:FK)(a:Ad)(E E1:XE):TS:=(AX (tC (.str " !\"#$&'()*+,-./0123456789:;<=>?@ABCDEFGHIJKLMNOPQRSTUVWXYZ[\\]^_`")) (AL 1))
theorem Cc:type_of% (AG (d0.eq_1 K a E E1) D σ H):=rfl
def d6(K:FK)(a:Ad)(E E1:XE):TS:=(AX (AC (A7 K) (AA 1) (tC (.str "abcdefghijklmnopqrstuvwxyz{|}~"))) (AL 1))
theorem Cd:type_of% (AG (d6.eq_1 K a E E1) D σ H):=rfl
def d7(K:FK)(a:Ad)(E E1:XE):TS:=(AX (A9 (GF K a) [] E (AD (AA 0) (AD (tC (.int 3)) AH))) (AL 2))
theorem Cg:type_of% (AG (d7.eq_1 K a E E1) D σ H):=rfl
def d8(K:FK)(a:Ad)(E E1:XE):TS:=(AX (AC (A7 K) (tC (.int 1)) (AC B3 (AC (AK K) (AA 2) (tC (.int 0))) (tC (.int 6)))) (AL 3))
theorem Cj:type_of% (AG (d8.eq_1 K a E E1) D σ H):=rfl
def d9(K:FK)(a:Ad)(E E1:XE):TS:=(AX (tC (.int 40)) (AL 3))
theorem Ck:type_of% (AG (d9.eq_1 K a E E1) D σ H):=rfl
def eA(K:FK)(a:Ad)(E E1:XE):TS:=(B5 (A4 (AC (BY K) (AC B3 (AC FA (AC (AK K) (AA 2) (tC (.int 0))) (tC (.int 6))) (tC (.int 8))) (tC (.int 0)))) (d9 K a E E) CJ)
theorem Cl:type_of% (AG (eA.eq_1 K a E E1) D σ H):=rfl
def U1(K:FK)(a:Ad)(E E1:XE):TS:=(BF (EY K "str" (ZW K) (tC (.str "")) (AD (BS (CY (AD (AA 3) AH)) (AL 0) CS (AC (AK K) (AA 1) (AC B3 (AC (A7 K) (AC (AK K) (AA 2) (tC (.int 1))) (AC (DZ K) (AA 0) (AC (AK K) (AA 2) (tC (.int 2))))) (tC (.int 94)))) 1 [1,2]) AH)))
theorem Cm:type_of% (AG (U1.eq_1 K a E E1) D σ H):=rfl
def U2(K:FK)(a:Ad)(E:XE):TS:=(AQ (d0 K a E E) (AQ (d6 K a E E) (AQ (d7 K a E E) (AQ (d8 K a E E) (AQ (eA K a E E) (U1 K a E E))))))
def eB(K:FK)(a:Ad)(E E1:XE):TS:=(AX (A9 (GF K a) [] E (AD (AC FA (AA 0) (tC (.int 48))) (AD (tC (.int 3)) AH))) (AL 1))
theorem Cp:type_of% (AG (eB.eq_1 K a E E1) D σ H):=rfl
def eC(K:FK)(a:Ad)(E E1:XE):TS:=(AX (R7 (A4 (AC (BY K) (AC B3 (AC FA (AA 0) (tC (.int 6))) (tC (.int 8))) (tC (.int 3)))) (tC (.int 6)) (tC (.int 3))) (AL 2))
theorem Cq:type_of% (AG (eC.eq_1 K a E E1) D σ H):=rfl
def U3(K:FK)(a:Ad)(E E1:XE):TS:=(BF (CP (AD (AC (A7 K) (tC (.int 1)) (AC B3 (AC (AK K) (AA 1) (tC (.int 0))) (AA 2))) (AD (AC (A7 K) (tC (.int 1)) (AC B3 (AC (AK K) (AA 1) (tC (.int 1))) (AA 2))) (AD (AC (A7 K) (tC (.int 1)) (AC B3 (AC (AK K) (AA 1) (tC (.int 2))) (AA 2))) (AD (AC (A7 K) (tC (.int 1)) (AC B3 (AA 0) (tC (.int 6)))) AH))))))
theorem Cv:type_of% (AG (U3.eq_1 K a E E1) D σ H):=rfl
def U4(K:FK)(a:Ad)(E:XE):TS:=(AQ (eB K a E E) (AQ (eC K a E E) (U3 K a E E)))
def eD(K:FK)(a:Ad)(E E1:XE):TS:=(AX (A9 (HN K a) [] E (AD (AA 0) AH)) (AL 4))
theorem Cw:type_of% (AG (eD.eq_1 K a E E1) D σ H):=rfl
def eE(K:FK)(a:Ad)(E E1:XE):TS:=(AX (AC (AK K) (AA 1) (AC QY (BW (CL K) (AD (AC (AK K) (AA 0) (tC (.int 0))) AH)) (BW (CL K) (AD (AA 4) AH)))) (AL 5))
theorem Cy:type_of% (AG (eE.eq_1 K a E E1) D σ H):=rfl
def eF(K:FK)(a:Ad)(E E1:XE):TS:=(AX (CP (AD (AA 5) (AD (AA 2) AH))) (DX (AC (AK K) (AA 0) (tC (.int 0))) (AC (AK K) (AA 4) (AC B3 (AA 3) (BW (CL K) (AD (AA 4) AH)))) CK))
theorem Cz:type_of% (AG (eF.eq_1 K a E E1) D σ H):=rfl
def U5(K:FK)(a:Ad)(E:XE):TS:=(AQ (eD K a E E) (AQ (eE K a E E) (eF K a E E)))
def eG(K:FK)(a:Ad)(E E1:XE):TS:=(AX (A9 (HM K a) [] E (AD (AA 0) AH)) (AL 1))
theorem Db:type_of% (AG (eG.eq_1 K a E E1) D σ H):=rfl
def eI(K:FK)(a:Ad)(E E1:XE):TS:=(AX (BS (CY (AD (BW (CL K) (AD (AA 1) AH)) AH)) (AL 0) (A4 (AC IG (AC (AK K) (AC (AK K) (AA 1) (tC (.int 1))) (AA 0)) (tC .non))) (AA 0) 1 [0]) (AL 2))
theorem Dc:type_of% (AG (eI.eq_1 K a E E1) D σ H):=rfl
def eJ(K:FK)(a:Ad)(E E1:XE):TS:=(AX (BS (C1 K (AA 2)) (AL 0) (FG (A4 (AC GA (AC (AK K) (AA 1) (AA 0)) (tC (.int 0)))) (A4 (AC GA (AC (AK K) (AC (AK K) (AC (AK K) (AA 2) (tC (.int 1))) (AA 0)) (tC (.int 0))) (AC (AK K) (AA 1) (AA 0))))) (CP (AD (tC (.str "many")) (AD (AA 0) (AD (AC (AK K) (AA 1) (AA 0)) AH)))) 1 [1,0]) (AL 3))
theorem Dd:type_of% (AG (eJ.eq_1 K a E E1) D σ H):=rfl
def eK(K:FK)(a:Ad)(E E1:XE):TS:=(AX (AC (A7 K) (AA 3) (BS (C1 K (AA 2)) (AL 0) (A4 (AC (BY K) (AC (AK K) (AA 1) (AA 0)) (tC (.int 0)))) (CP (AD (tC (.str "left")) (AD (tC (.str "record")) (AD (AA 0) AH)))) 1 [1])) (AL 3))
theorem Dg:type_of% (AG (eK.eq_1 K a E E1) D σ H):=rfl
def eL(K:FK)(a:Ad)(E E1:XE):TS:=(AX (AC (A7 K) (AA 3) (BS (C1 K (BW (ZX K) (AD (AC (AK K) (AA 0) (tC (.int 5))) AH))) (AL 0) CS (CP (AD (tC (.str "left")) (AD (tC (.str "piece")) (AD (AA 0) AH)))) 1 [])) (AL 3))
theorem Dh:type_of% (AG (eL.eq_1 K a E E1) D σ H):=rfl
def eN(K:FK)(a:Ad)(E E1:XE):TS:=(BF (AC (A7 K) (AA 3) (BS (CY (AD (BW (CL K) (AD (AA 1) AH)) AH)) (AL 0) (FG (A4 (AC (BY K) (AC (AK K) (AC (AK K) (AA 1) (tC (.int 3))) (AA 0)) (tC (.int 1)))) (A4 (AC FM (AC (AK K) (AC (AK K) (AA 1) (tC (.int 1))) (AA 0)) (tC .non)))) (CP (AD (tC (.str "marked")) (AD (AA 0) AH))) 1 [0])))
theorem Dj:type_of% (AG (eN.eq_1 K a E E1) D σ H):=rfl
def U6(K:FK)(a:Ad)(E:XE):TS:=(AQ (eG K a E E) (AQ (eI K a E E) (AQ (eJ K a E E) (AQ (eK K a E E) (AQ (eL K a E E) (eN K a E E))))))
def eO(K:FK)(a:Ad)(E E1:XE):TS:=(AX (A9 (HM K a) [] E (AD (AA 0) AH)) (AL 1))
theorem Dk:type_of% (AG (eO.eq_1 K a E E1) D σ H):=rfl
def eP(K:FK)(a:Ad)(E E1:XE):TS:=(AX (BS (C1 K (AA 0)) (AL 0) CS (BW (JO K) (AD (AA 0) AH)) 1 []) (AL 2))
theorem Dl:type_of% (AG (eP.eq_1 K a E E1) D σ H):=rfl
def eQ(K:FK)(a:Ad)(E E1:XE):TS:=(AX (tC (.int 0)) (DX (AC (AK K) (AA 2) (tC (.int 3))) (AA 3) CK))
theorem Dm:type_of% (AG (eQ.eq_1 K a E E1) D σ H):=rfl
def eR(K:FK)(a:Ad)(E E1:XE):TS:=(B5 (A4 (AC (BY K) (AC (AK K) (AC (AK K) (AA 0) (tC (.int 3))) (AA 3)) (tC (.int 1)))) (eQ K a E E) CJ)
theorem Dp:type_of% (AG (eR.eq_1 K a E E1) D σ H):=rfl
def eS(K:FK)(a:Ad)(E E1:XE):TS:=(AX (tC .non) (DX (AC (AK K) (AA 2) (tC (.int 1))) (AA 3) CK))
theorem Dq:type_of% (AG (eS.eq_1 K a E E1) D σ H):=rfl
def eU(K:FK)(a:Ad)(E E1:XE):TS:=(AX (tC (.int 0)) (DX (AC (AK K) (AA 2) (tC (.int 3))) (AA 3) CK))
theorem Dv:type_of% (AG (eU.eq_1 K a E E1) D σ H):=rfl
def eV(K:FK)(a:Ad)(E E1:XE):TS:=(AX (CP (AD (AC (AK K) (AA 1) (AA 3)) (AD (AC (AK K) (AC (AK K) (AC (AK K) (AA 0) (tC (.int 1))) (AA 3)) (tC (.int 1))) AH))) (DX (AC (AK K) (AA 2) (tC (.int 1))) (AA 3) CK))
theorem Dw:type_of% (AG (eV.eq_1 K a E E1) D σ H):=rfl
def eW(K:FK)(a:Ad)(E E1:XE):TS:=(B5 (A4 (AC (BY K) (AC (AK K) (AA 1) (AA 3)) (tC (.int 0)))) (AQ (eS K a E E) (eU K a E E)) (eV K a E E))
theorem Dx:type_of% (AG (eW.eq_1 K a E E1) D σ H):=rfl
def eX(K:FK)(a:Ad)(E E1:XE):TS:=(B5 (A4 (AC FM (AC (AK K) (AC (AK K) (AA 0) (tC (.int 1))) (AA 3)) (tC .non))) (eR K a E E) (eW K a E E))
theorem Dy:type_of% (AG (eX.eq_1 K a E E1) D σ H):=rfl
def eY(K:FK)(a:Ad)(E E1:XE):TS:=(C6 (CY (AD (BW (CL K) (AD (AA 1) AH)) AH)) (AL 3) (eX K a E E))
theorem Dz:type_of% (AG (eY.eq_1 K a E E1) D σ H):=rfl
def eZ(K:FK)(a:Ad)(E E1:XE):TS:=(AX (tC (.int 0)) (DX (AC (AK K) (AA 2) (tC (.int 4))) (AA 4) CK))
theorem Eb:type_of% (AG (eZ.eq_1 K a E E1) D σ H):=rfl
def fB(K:FK)(a:Ad)(E E1:XE):TS:=(C6 (C1 K (AC (AK K) (AA 0) (tC (.int 5)))) (AL 4) (eZ K a E E))
theorem Ec:type_of% (AG (fB.eq_1 K a E E1) D σ H):=rfl
def fC(K:FK)(a:Ad)(E E1:XE):TS:=(BF (AA 2))
theorem Ed:type_of% (AG (fC.eq_1 K a E E1) D σ H):=rfl
def U7(K:FK)(a:Ad)(E:XE):TS:=(AQ (eO K a E E) (AQ (eP K a E E) (AQ (eY K a E E) (AQ (fB K a E E) (fC K a E E)))))
def fD(K:FK)(a:Ad)(E E1:XE):TS:=(BF (AC (A7 K) (AC (A7 K) (A9 (OG K a) [] E (AD (AA 0) AH)) (A9 (OH K a) [] E (AD (AA 0) AH))) (A9 (OI K a) [] E (AD (AA 0) AH))))
theorem Eg:type_of% (AG (fD.eq_1 K a E E1) D σ H):=rfl
def U8(K:FK)(a:Ad)(E:XE):TS:=(fD K a E E)
def fE(K:FK)(a:Ad)(E E1:XE):TS:=(BF (AC (A7 K) (AC (A7 K) (A9 (OJ K a) [] E (AD (AA 0) AH)) (A9 (OK K a) [] E (AD (AA 0) AH))) (A9 (OL K a) [] E (AD (AA 0) AH))))
theorem Eh:type_of% (AG (fE.eq_1 K a E E1) D σ H):=rfl
def U9(K:FK)(a:Ad)(E:XE):TS:=(fE K a E E)
def fF(K:FK)(a:Ad)(E E1:XE):TS:=(BF (BS (C1 K (AA 1)) (E8 K 2 (DF (AL 0) (DF (AL 1) E7))) CS (AC (AK K) (BT (a "Plank") "read" (GD K a) [] (λ_=>E0) (AA 2) (AD (AA 0) AH)) (AA 1)) 2 [0]))
theorem Ej:type_of% (AG (fF.eq_1 K a E E1) D σ H):=rfl
def VB(K:FK)(a:Ad)(E:XE):TS:=(fF K a E E)
def fG(K:FK)(a:Ad)(E E1:XE):TS:=(AX (BT (a "Layout") "record_at" (IP K a) [] E (AA 0) (AD (AC (AK K) (AA 2) (tC (.int 1))) AH)) (AL 3))
theorem Ek:type_of% (AG (fG.eq_1 K a E E1) D σ H):=rfl
def fH(K:FK)(a:Ad)(E E1:XE):TS:=(BF (LB [((AA 3),(CP (AD (AC (AK K) (AA 2) (tC (.int 2))) (AD (AC (AK K) (AC (AK K) (BT (a "Plank") "read" (GD K a) [] E (AA 1) (AD (AC (AK K) (AA 3) (tC (.int 0))) AH)) (AC (AK K) (AA 3) (tC (.int 1)))) (tC (.int 1))) AH))))]))
theorem El:type_of% (AG (fH.eq_1 K a E E1) D σ H):=rfl
def fI(K:FK)(a:Ad)(E E1:XE):TS:=(B5 (A4 (AC (BY K) (AC (AK K) (AA 2) (tC (.int 0))) (tC (.str "many")))) (AQ (fG K a E E) (fH K a E E)) CJ)
theorem RD:type_of% (AG (fI.eq_1 K a E E1) D σ H):=rfl
def fJ(K:FK)(a:Ad)(E E1:XE):TS:=(BF (LB [((BT (a "Layout") "record_mark" (IQ K a) [] E (AA 0) (AD (AC (AK K) (AA 2) (tC (.int 1))) AH)),(tC (.int 0)))]))
theorem Em:type_of% (AG (fJ.eq_1 K a E E1) D σ H):=rfl
def fK(K:FK)(a:Ad)(E E1:XE):TS:=(B5 (A4 (AC (BY K) (AC (AK K) (AA 2) (tC (.int 0))) (tC (.str "marked")))) (fJ K a E E) CJ)
theorem VC:type_of% (AG (fK.eq_1 K a E E1) D σ H):=rfl
def fL(K:FK)(a:Ad)(E E1:XE):TS:=(BF (LB [((BT (a "Layout") "record_at" (IP K a) [] E (AA 0) (AD (AC (AK K) (AA 2) (tC (.int 2))) AH)),(tC .non)),((BT (a "Layout") "record_mark" (IQ K a) [] E (AA 0) (AD (AC (AK K) (AA 2) (tC (.int 2))) AH)),(tC (.int 0)))]))
theorem Ep:type_of% (AG (fL.eq_1 K a E E1) D σ H):=rfl
def fM(K:FK)(a:Ad)(E E1:XE):TS:=(B5 (A4 (AC (BY K) (AC (AK K) (AA 2) (tC (.int 1))) (tC (.str "record")))) (fL K a E E) CJ)
theorem fN:type_of% (AG (fM.eq_1 K a E E1) D σ H):=rfl
def fO(K:FK)(a:Ad)(E E1:XE):TS:=(BF (LB [((BT (a "Layout") "piece_mark" (JU K a) [] E (AA 0) (AD (AC (AK K) (AA 2) (tC (.int 2))) AH)),(tC (.int 0)))]))
theorem Ev:type_of% (AG (fO.eq_1 K a E E1) D σ H):=rfl
def LM(K:FK)(a:Ad)(E:XE):TS:=(AQ (fI K a E E) (AQ (fK K a E E) (AQ (fM K a E E) (fO K a E E))))
def fP(K:FK)(a:Ad)(E E1:XE):TS:=(AX (BT (a "Plank") "read" (GD K a) [] E (AA 0) (AD (AA 2) AH)) (AL 3))
theorem Ew:type_of% (AG (fP.eq_1 K a E E1) D σ H):=rfl
def fQ(K:FK)(a:Ad)(E E1:XE):TS:=(AX (BS (GC K (AD (AA 3) AH)) (E8 K 2 (DF (AL 0) (DF (AL 1) E7))) CS (SZ (AA 2) (CP (AD (AA 3) (AD (AA 0) AH))) (AA 1)) 2 [1,2]) (AL 4))
theorem Ex:type_of% (AG (fQ.eq_1 K a E E1) D σ H):=rfl
def fR(K:FK)(a:Ad)(E E1:XE):TS:=(CW (BT (a "Plank") "write" (JS K a) [] E (AA 0) (AD (AA 2) (AD (AA 4) AH))))
theorem Ey:type_of% (AG (fR.eq_1 K a E E1) D σ H):=rfl
def fS(K:FK)(a:Ad)(E E1:XE):TS:=(B5 (A4 (AC (B1 K) (AA 4) (AA 3))) (fR K a E E) CJ)
theorem Ez:type_of% (AG (fS.eq_1 K a E E1) D σ H):=rfl
def fT(K:FK)(a:Ad)(E E1:XE):TS:=(C6 (CY (AD (BT (a "Plank") "blocks" (N5 K a) [] E (AA 0) AH) AH)) (AL 2) (AQ (fP K a E E) (AQ (fQ K a E E) (fS K a E E))))
theorem Fb:type_of% (AG (fT.eq_1 K a E E1) D σ H):=rfl
def VD(K:FK)(a:Ad)(E:XE):TS:=(fT K a E E)
def fU(K:FK)(a:Ad)(E E1:XE):TS:=(BF (JJ (a "Plank") (N3 K a) [] E (AD (BT (a "Layout") "blocks" (OA K a) [] E (AA 0) AH) (AD (BR K (AA 0) "width") AH))))
theorem Fc:type_of% (AG (fU.eq_1 K a E E1) D σ H):=rfl
def VE(K:FK)(a:Ad)(E:XE):TS:=(fU K a E E)
def fV(K:FK)(a:Ad)(E E1:XE):TS:=(AX (CQ AH) (AL 3))
theorem Fd:type_of% (AG (fV.eq_1 K a E E1) D σ H):=rfl
def fW(K:FK)(a:Ad)(E E1:XE):TS:=(AX (A9 (J7 K a) [] E (AD (AA 0) AH)) (AL 5))
theorem Fg:type_of% (AG (fW.eq_1 K a E E1) D σ H):=rfl
def fX(K:FK)(a:Ad)(E E1:XE):TS:=(AX (AC (AK K) (AA 5) (AC B3 (AC (AK K) (AA 1) (AA 4)) (BW (CL K) (AD (AA 5) AH)))) (AL 6))
theorem Fh:type_of% (AG (fX.eq_1 K a E E1) D σ H):=rfl
def fY(K:FK)(a:Ad)(E E1:XE):TS:=(AX (A9 (J1 K a) [] E (AD (AC FA (AC (AK K) (AA 1) (AA 4)) (tC (.int 7))) AH)) (DX (AC (AK K) (AA 0) (tC (.int 2))) (AA 6) CK))
theorem Fj:type_of% (AG (fY.eq_1 K a E E1) D σ H):=rfl
def fZ(K:FK)(a:Ad)(E E1:XE):TS:=(AX (tC (.int 1)) (DX (AC (AK K) (AA 0) (tC (.int 4))) (AA 6) CK))
theorem Fk:type_of% (AG (fZ.eq_1 K a E E1) D σ H):=rfl
def f8(K:FK)(a:Ad)(E E1:XE):TS:=(CW (EY K "list" II (AA 3) (AD (AA 6) AH)))
theorem Fl:type_of% (AG (f8.eq_1 K a E E1) D σ H):=rfl
def f9(K:FK)(a:Ad)(E E1:XE):TS:=(B5 (A4 (AC (B1 K) (AA 5) (CQ AH))) (AQ (fX K a E E) (AQ (fY K a E E) (AQ (fZ K a E E) (f8 K a E E)))) CJ)
theorem Fm:type_of% (AG (f9.eq_1 K a E E1) D σ H):=rfl
def gA(K:FK)(a:Ad)(E E1:XE):TS:=(C6 (CY (AD (AA 2) AH)) (AL 4) (AQ (fW K a E E) (f9 K a E E)))
theorem Fp:type_of% (AG (gA.eq_1 K a E E1) D σ H):=rfl
def gB(K:FK)(a:Ad)(E E1:XE):TS:=(BF (BW (NW K) (AD (AA 3) AH)))
theorem Fq:type_of% (AG (gB.eq_1 K a E E1) D σ H):=rfl
def VF(K:FK)(a:Ad)(E:XE):TS:=(AQ (fV K a E E) (AQ (gA K a E E) (gB K a E E)))
def gC(K:FK)(a:Ad)(E E1:XE):TS:=(AX (A9 (HM K a) [] E (AD (AA 0) AH)) (AL 3))
theorem Fv:type_of% (AG (gC.eq_1 K a E E1) D σ H):=rfl
def gD(K:FK)(a:Ad)(E E1:XE):TS:=(AX (BS (CY (AD (BW (CL K) (AD (AA 3) AH)) AH)) (AL 0) (A4 (AC GA (AC (AK K) (AA 1) (AA 0)) (tC (.int 0)))) (AA 0) 1 [3]) (AL 4))
theorem Fw:type_of% (AG (gD.eq_1 K a E E1) D σ H):=rfl
def gE(K:FK)(a:Ad)(E E1:XE):TS:=(AX (AC (AK K) (AA 4) (AC B3 (AC (AK K) (AA 2) (tC (.int 0))) (BW (CL K) (AD (AA 4) AH)))) (AL 5))
theorem Fx:type_of% (AG (gE.eq_1 K a E E1) D σ H):=rfl
def gF(K:FK)(a:Ad)(E E1:XE):TS:=(AX (CP (AD (AC (A7 K) (AC (AK K) (AC (AK K) (AC (AK K) (AA 0) (tC (.int 1))) (AA 5)) (tC (.int 0))) (tC (.int 1))) (AD (AC (AK K) (AC (AK K) (AC (AK K) (AA 0) (tC (.int 1))) (AA 5)) (tC (.int 1))) AH))) (DX (AC (AK K) (AA 0) (tC (.int 1))) (AA 5) CK))
theorem Fy:type_of% (AG (gF.eq_1 K a E E1) D σ H):=rfl
def gG(K:FK)(a:Ad)(E E1:XE):TS:=(CW (A9 (J8 K a) [] E (AD (AA 0) (AD (AA 1) (AD (AA 5) (AD (AC (AK K) (AA 2) (tC (.int 1))) AH))))))
theorem Fz:type_of% (AG (gG.eq_1 K a E E1) D σ H):=rfl
def gH(K:FK)(a:Ad)(E E1:XE):TS:=(B5 (FG (A4 (AC (B1 K) (AA 4) (CQ AH))) (A4 (AC (B1 K) (A9 (HN K a) [] E (AD (AA 0) AH)) (CQ AH)))) (AQ (gE K a E E) (AQ (gF K a E E) (gG K a E E))) CJ)
theorem Gb:type_of% (AG (gH.eq_1 K a E E1) D σ H):=rfl
def VG(K:FK)(a:Ad)(E:XE):TS:=(AQ (gC K a E E) (AQ (gD K a E E) (gH K a E E)))
def gI(K:FK)(a:Ad)(E E1:XE):TS:=(AX (A9 (J6 K a) [] E (AD (AA 0) AH)) (AL 3))
theorem Gc:type_of% (AG (gI.eq_1 K a E E1) D σ H):=rfl
def gJ(K:FK)(a:Ad)(E E1:XE):TS:=(AX (A9 (J7 K a) [] E (AD (AA 0) AH)) (AL 4))
theorem Gd:type_of% (AG (gJ.eq_1 K a E E1) D σ H):=rfl
def gK(K:FK)(a:Ad)(E E1:XE):TS:=(AX (tC (.int 1)) (DX (AC (AK K) (AA 0) (tC (.int 3))) (AC (AK K) (AA 3) (AC B3 (AC (AK K) (AA 2) (tC (.int 0))) (BW (CL K) (AD (AA 3) AH)))) CK))
theorem Gg:type_of% (AG (gK.eq_1 K a E E1) D σ H):=rfl
def gL(K:FK)(a:Ad)(E E1:XE):TS:=(B5 (FG (A4 (AC (BY K) (AA 1) (tC (.int 6)))) (A4 (AC (B1 K) (AA 3) (CQ AH)))) (gK K a E E) CJ)
theorem Gh:type_of% (AG (gL.eq_1 K a E E1) D σ H):=rfl
def gM(K:FK)(a:Ad)(E E1:XE):TS:=(AX (AC (AK K) (AA 4) (AC B3 (AC (AK K) (AA 2) (tC (.int 0))) (BW (CL K) (AD (AA 4) AH)))) (AL 5))
theorem Gj:type_of% (AG (gM.eq_1 K a E E1) D σ H):=rfl
def gN(K:FK)(a:Ad)(E E1:XE):TS:=(AX (tC (.int 1)) (DX (AC (AK K) (AA 0) (tC (.int 4))) (AA 5) CK))
theorem Gk:type_of% (AG (gN.eq_1 K a E E1) D σ H):=rfl
def gO(K:FK)(a:Ad)(E E1:XE):TS:=(CW (EY K "list" II (AC (AK K) (AA 0) (tC (.int 5))) (AD (AA 5) AH)))
theorem Gm:type_of% (AG (gO.eq_1 K a E E1) D σ H):=rfl
def VH(K:FK)(a:Ad)(E E1:XE):TS:=(B5 (FG (A4 (AC (BY K) (AA 1) (tC (.int 5)))) (A4 (AC (B1 K) (AA 4) (CQ AH)))) (AQ (gM K a E E) (AQ (gN K a E E) (gO K a E E))) CJ)
theorem gP:type_of% (AG (VH.eq_1 K a E E1) D σ H):=rfl
def gQ(K:FK)(a:Ad)(E E1:XE):TS:=(AX (AC (AK K) (AA 4) (AC B3 (AC (AK K) (AA 2) (tC (.int 0))) (BW (CL K) (AD (AA 4) AH)))) (AL 5))
theorem Gp:type_of% (AG (gQ.eq_1 K a E E1) D σ H):=rfl
def gR(K:FK)(a:Ad)(E E1:XE):TS:=(AX (A9 (J1 K a) [] E (AD (AC (AK K) (AA 2) (tC (.int 1))) AH)) (DX (AC (AK K) (AA 0) (tC (.int 2))) (AA 5) CK))
theorem Gq:type_of% (AG (gR.eq_1 K a E E1) D σ H):=rfl
def gS(K:FK)(a:Ad)(E E1:XE):TS:=(AX (AC (AK K) (CQ (AD (tC (.int 0)) (AD (tC .non) AH))) (AC B3 (AC (AK K) (AA 2) (tC (.int 2))) (tC (.int 2)))) (DX (AC (AK K) (AA 0) (tC (.int 4))) (AA 5) CK))
theorem Gv:type_of% (AG (gS.eq_1 K a E E1) D σ H):=rfl
def OZ(K:FK)(a:Ad)(E E1:XE):TS:=(B5 (FG (A4 (AC (BY K) (AA 1) (tC (.int 7)))) (A4 (AC (B1 K) (AA 4) (CQ AH)))) (AQ (gQ K a E E) (AQ (gR K a E E) (gS K a E E))) CJ)
theorem gT:type_of% (AG (OZ.eq_1 K a E E1) D σ H):=rfl
def VJ(K:FK)(a:Ad)(E:XE):TS:=(AQ (gI K a E E) (AQ (gJ K a E E) (AQ (gL K a E E) (AQ (VH K a E E) (OZ K a E E)))))
def gU(K:FK)(a:Ad)(E E1:XE):TS:=(AX (AC (A7 K) (AC (A7 K) (AC (A7 K) (AC (A7 K) (AC (AK K) (AA 1) (tC (.int 0))) (AC (AK K) (AA 1) (tC (.int 1)))) (AC (AK K) (AA 1) (tC (.int 2)))) (AC (AK K) (AA 1) (tC (.int 3)))) (AC (AK K) (AA 1) (tC (.int 4)))) (AL 3))
theorem Gw:type_of% (AG (gU.eq_1 K a E E1) D σ H):=rfl
def gW(K:FK)(a:Ad)(E E1:XE):TS:=(CW (BT (a "Plank") "write" (JS K a) [] E (AA 0) (AD (AC FA (AA 4) (AA 2)) (AD (JK (IH K) (AA 3) (GX (AA 4)) (GX (AC (A7 K) (AA 4) (AA 2)))) AH))))
theorem Gx:type_of% (AG (gW.eq_1 K a E E1) D σ H):=rfl
def gX(K:FK)(a:Ad)(E E1:XE):TS:=(C6 (NZ (AD (tC (.int 0)) (AD (BW (CL K) (AD (AA 3) AH)) (AD (AA 2) AH)))) (AL 4) (gW K a E E))
theorem Gy:type_of% (AG (gX.eq_1 K a E E1) D σ H):=rfl
def VL(K:FK)(a:Ad)(E:XE):TS:=(AQ (gU K a E E) (gX K a E E))
def gY(K:FK)(a:Ad)(E E1:XE):TS:=(AX (BT (a "Plank") "read" (GD K a) [] E (AA 0) (AD (AA 2) AH)) (AL 3))
theorem Gz:type_of% (AG (gY.eq_1 K a E E1) D σ H):=rfl
def Hb(K:FK)(a:Ad)(E E1:XE):TS:=(BF (tC (.bl false)))
def gZ(K:FK)(a:Ad)(E E1:XE):TS:=(B5 (A4 (AC (B1 K) (AA 3) (AC (AK K) (AA 1) (AA 2)))) (Hb K a E E) CJ)
theorem Hc:type_of% (AG (gZ.eq_1 K a E E1) D σ H):=rfl
def Hd(K:FK)(a:Ad)(E E1:XE):TS:=(BF (tC (.bl false)))
def g6(K:FK)(a:Ad)(E E1:XE):TS:=(B5 (HE (HI K (BW (ET K) (AD (AA 4) (AD (tC (.ty "bool")) AH)))) (FG (HI K (BW (ET K) (AD (AA 4) (AD (tC (.ty "tuple")) AH)))) (HI K (BW (ET K) (AD (AC (AK K) (AA 4) (tC (.int 0))) (AD (tC (.ty "bool")) AH)))))) (Hd K a E E) CJ)
theorem Hg:type_of% (AG (g6.eq_1 K a E E1) D σ H):=rfl
def g7(K:FK)(a:Ad)(E E1:XE):TS:=(C6 (C1 K (AA 3)) (AL 4) (g6 K a E E))
theorem Hh:type_of% (AG (g7.eq_1 K a E E1) D σ H):=rfl
def g8(K:FK)(a:Ad)(E E1:XE):TS:=(C6 (CY (AD (BW (CL K) (AD (AA 1) AH)) AH)) (AL 2) (AQ (gY K a E E) (AQ (gZ K a E E) (g7 K a E E))))
theorem Hj:type_of% (AG (g8.eq_1 K a E E1) D σ H):=rfl
def g9(K:FK)(a:Ad)(E E1:XE):TS:=(BF (tC (.bl true)))
theorem Hk:type_of% (AG (g9.eq_1 K a E E1) D σ H):=rfl
def VM(K:FK)(a:Ad)(E:XE):TS:=(AQ (g8 K a E E) (g9 K a E E))
def hE(K:FK)(a:Ad)(E E1:XE):TS:=(AX (BT (a "Layout") "counts" (OB K a) [] E (AA 1) AH) (AL 3))
theorem Hl:type_of% (AG (hE.eq_1 K a E E1) D σ H):=rfl
def hG(K:FK)(a:Ad)(E E1:XE):TS:=(AX (AC (AK K) (AA 3) (tC (.int 1))) (AL 4))
theorem Hm:type_of% (AG (hG.eq_1 K a E E1) D σ H):=rfl
def hI(K:FK)(a:Ad)(E E1:XE):TS:=(AX (AC (AK K) (AA 3) (tC (.int 2))) (AL 5))
theorem Hq:type_of% (AG (hI.eq_1 K a E E1) D σ H):=rfl
def hU(K:FK)(a:Ad)(E E1:XE):TS:=(EJ K (AA 0) (A9 (G3 K a) [] E (AD (AA 2) (AD (BS (CY (AD (AC (AK K) (AA 3) (tC (.int 0))) AH)) (AL 0) CS (BT (a "Layout") "name_at" (N7 K a) [] (λ_=>E0) (AA 1) (AD (AA 0) AH)) 1 [1]) AH))) "name_values")
theorem Hv:type_of% (AG (hU.eq_1 K a E E1) D σ H):=rfl
def hV(K:FK)(a:Ad)(E E1:XE):TS:=(EJ K (AA 0) (A9 (G3 K a) [] E (AD (AA 2) (AD (BS (CY (AD (AA 4) AH)) (AL 0) CS (BT (a "Layout") "record_at" (IP K a) [] (λ_=>E0) (AA 1) (AD (AA 0) AH)) 1 [1]) AH))) "record_values")
theorem Hw:type_of% (AG (hV.eq_1 K a E E1) D σ H):=rfl
def hX(K:FK)(a:Ad)(E E1:XE):TS:=(EJ K (AA 0) (A9 (G3 K a) [] E (AD (AA 2) (AD (BS (CY (AD (AA 5) AH)) (AL 0) CS (BT (a "Layout") "piece_at" (N9 K a) [] (λ_=>E0) (AA 1) (AD (AA 0) AH)) 1 [1]) AH))) "piece_values")
theorem Hx:type_of% (AG (hX.eq_1 K a E E1) D σ H):=rfl
def hZ(K:FK)(a:Ad)(E E1:XE):TS:=(EJ K (AA 0) (A9 (G3 K a) [] E (AD (AA 2) (AD (BS (CY (AD (AA 4) AH)) (AL 0) CS (BT (a "Layout") "record_mark" (IQ K a) [] (λ_=>E0) (AA 1) (AD (AA 0) AH)) 1 [1]) AH))) "record_marks")
theorem Hy:type_of% (AG (hZ.eq_1 K a E E1) D σ H):=rfl
def h9(K:FK)(a:Ad)(E E1:XE):TS:=(EJ K (AA 0) (A9 (G3 K a) [] E (AD (AA 2) (AD (BS (CY (AD (AA 5) AH)) (AL 0) CS (BT (a "Layout") "piece_mark" (JU K a) [] (λ_=>E0) (AA 1) (AD (AA 0) AH)) 1 [1]) AH))) "piece_marks")
theorem Hz:type_of% (AG (h9.eq_1 K a E E1) D σ H):=rfl
def iA(K:FK)(a:Ad)(E E1:XE):TS:=(EJ K (AA 0) (A9 (JV K a) [] E (AD (AA 4) (AD (BS (C1 K (BR K (AA 0) "name_values")) (AL 0) (A4 (AC IG (AA 0) (tC .non))) (AC (AK K) (AA 0) (tC (.int 1))) 1 []) AH))) "leads")
theorem Jb:type_of% (AG (iA.eq_1 K a E E1) D σ H):=rfl
def iB(K:FK)(a:Ad)(E E1:XE):TS:=(EJ K (AA 0) (A9 (JV K a) [] E (AD (AA 5) (AD (A9 (LH K a) [] E (AD (BR K (AA 0) "record_values") AH)) AH))) "namings")
theorem Jc:type_of% (AG (iB.eq_1 K a E E1) D σ H):=rfl
def iC(K:FK)(a:Ad)(E E1:XE):TS:=(EJ K (AA 0) (A9 (JV K a) [] E (AD (AA 5) (AD (A9 (LH K a) [] E (AD (BT (a "View") "records_led_to" (OF K a) [] E (AA 0) AH) AH)) AH))) "reached")
theorem Jd:type_of% (AG (iC.eq_1 K a E E1) D σ H):=rfl
def VN(K:FK)(a:Ad)(E:XE):TS:=(AQ (hE K a E E) (AQ (hG K a E E) (AQ (hI K a E E) (AQ (hU K a E E) (AQ (hV K a E E) (AQ (hX K a E E) (AQ (hZ K a E E) (AQ (h9 K a E E) (AQ (iA K a E E) (AQ (iB K a E E) (iC K a E E)))))))))))
def iD(K:FK)(a:Ad)(E E1:XE):TS:=(AX (A9 (J6 K a) [] E (AD (AA 0) AH)) (AL 4))
theorem Jg:type_of% (AG (iD.eq_1 K a E E1) D σ H):=rfl
def iE(K:FK)(a:Ad)(E E1:XE):TS:=R8
theorem iF:type_of% (AG (iE.eq_1 K a E E1) D σ H):=rfl
def iG(K:FK)(a:Ad)(E E1:XE):TS:=(B5 (HE (A4 (AC (BY K) (AA 4) (CQ AH))) (FG (HI K (AA 3)) (A4 (AC (BY K) (A9 (HN K a) [] E (AD (AA 0) AH)) (CQ AH))))) (iE K a E E) CJ)
theorem Jh:type_of% (AG (iG.eq_1 K a E E1) D σ H):=rfl
def VO(K:FK)(a:Ad)(E E1:XE):TS:=(AX (AC (AK K) (AA 4) (AC B3 (AC (AK K) (AA 2) (tC (.int 0))) (BW (CL K) (AD (AA 4) AH)))) (AL 5))
theorem Jj:type_of% (AG (VO.eq_1 K a E E1) D σ H):=rfl
def VP(K:FK)(a:Ad)(E E1:XE):TS:=(AX (A9 (OQ K a) [] E (AD (AA 0) (AD (JK (IH K) (AA 2) (GX (tC (.int 4))) (GX (tC (.int 7)))) (AD (AC B3 (AC (AK K) (AA 2) (tC (.int 1))) (tC (.int 4))) AH)))) (AL 6))
theorem Jk:type_of% (AG (VP.eq_1 K a E E1) D σ H):=rfl
def iH(K:FK)(a:Ad)(E E1:XE):TS:=(AX (CP (AD (AC (A7 K) (tC (.int 1)) (AC (AK K) (CQ (AD (tC (.int 0)) (AD (tC (.int 0)) (AD (tC (.int 1)) (AD (tC (.int 2)) (AD (AC QY (AC Y9 (tC (.int 10)) (tC (.int 30))) (tC (.int 40))) AH)))))) (AC B3 (AC (AK K) (AA 2) (tC (.int 2))) (tC (.int 5))))) (AD (AA 6) AH))) (DX (AC (AK K) (AA 0) (tC (.int 1))) (AA 5) CK))
theorem Jl:type_of% (AG (iH.eq_1 K a E E1) D σ H):=rfl
def VQ(K:FK)(a:Ad)(E E1:XE):TS:=(AX (tC (.int 1)) (DX (AC (AK K) (AA 0) (tC (.int 3))) (AA 5) CK))
theorem Jm:type_of% (AG (VQ.eq_1 K a E E1) D σ H):=rfl
def VR(K:FK)(a:Ad)(E E1:XE):TS:=(CW (A9 (J8 K a) [] E (AD (AA 0) (AD (AA 1) (AD (AA 5) (AD (AC (AK K) (AA 2) (tC (.int 3))) AH))))))
theorem Jp:type_of% (AG (VR.eq_1 K a E E1) D σ H):=rfl
def iI(K:FK)(a:Ad)(E E1:XE):TS:=(AX (CP (AD (AC (A7 K) (tC (.int 1)) (AC B3 (AC (AK K) (AA 2) (tC (.int 2))) (tC (.int 3)))) (AD (AA 6) AH))) (DX (AC (AK K) (AA 0) (tC (.int 1))) (AA 5) CK))
theorem Jq:type_of% (AG (iI.eq_1 K a E E1) D σ H):=rfl
def iJ(K:FK)(a:Ad)(E E1:XE):TS:=(AX (AC (AK K) (CQ (AD (tC (.int 1)) (AD (tC (.int 1)) (AD (tC (.int 0)) (AD (tC .non) AH))))) (AC B3 (AC FA (AC (AK K) (AA 2) (tC (.int 2))) (tC (.int 3))) (tC (.int 4)))) (DX (AC (AK K) (AA 0) (tC (.int 3))) (AA 5) CK))
theorem Jv:type_of% (AG (iJ.eq_1 K a E E1) D σ H):=rfl
def VS(K:FK)(a:Ad)(E E1:XE):TS:=(CW (EY K "list" qV (AC (AK K) (AA 0) (tC (.int 5))) (AD (BW (JO K) (AD (AA 6) AH)) AH)))
theorem Jw:type_of% (AG (VS.eq_1 K a E E1) D σ H):=rfl
def VT(K:FK)(a:Ad)(E E1:XE):TS:=(B5 (HI K (AA 3)) (AQ (iH K a E E) (AQ (VQ K a E E) (VR K a E E))) (AQ (iI K a E E) (AQ (iJ K a E E) (VS K a E E))))
theorem Jx:type_of% (AG (VT.eq_1 K a E E1) D σ H):=rfl
def VU(K:FK)(a:Ad)(E:XE):TS:=(AQ (iD K a E E) (AQ (iG K a E E) (AQ (VO K a E E) (AQ (VP K a E E) (VT K a E E)))))
def iK(K:FK)(a:Ad)(E E1:XE):TS:=(AX (BS (C1 K (JK (IH K) (AA 1) QI (GX (tC (.int 3))))) (AL 0) CS (AC (DZ K) (AA 0) (AC (AK K) (AA 1) (tC (.int 3)))) 1 [1]) (AL 3))
theorem Jy:type_of% (AG (iK.eq_1 K a E E1) D σ H):=rfl
def iL(K:FK)(a:Ad)(E E1:XE):TS:=(AX (AC (A7 K) (BS (C1 K (CQ (AD (tC (.int 0)) (AD (tC (.int 1)) (AD (tC (.int 2)) (AD (tC (.int 1)) (AD (tC (.int 2)) AH))))))) (AL 0) CS (AC (DZ K) (CQ (AD (tC .non) AH)) (AC (AK K) (AA 1) (AA 0))) 1 [3]) (CQ (AD (CQ AH) AH))) (AL 4))
theorem Jz:type_of% (AG (iL.eq_1 K a E E1) D σ H):=rfl
def iM(K:FK)(a:Ad)(E E1:XE):TS:=(AX (A9 (GF K a) [] E (AD (AC FA (AA 5) (tC (.int 8))) (AD (tC (.int 7)) AH))) (AL 6))
theorem Kb:type_of% (AG (iM.eq_1 K a E E1) D σ H):=rfl
def iN(K:FK)(a:Ad)(E E1:XE):TS:=(CW (A9 (LI K a) [] E (AD (AA 4) (AD (AA 2) (AD (AA 6) (AD (tC (.bl true)) AH))))))
theorem Kc:type_of% (AG (iN.eq_1 K a E E1) D σ H):=rfl
def iO(K:FK)(a:Ad)(E E1:XE):TS:=(CW (A9 (OR K a) [] E (AD (AA 4) (AD (AA 2) (AD (AA 6) AH)))))
theorem Kd:type_of% (AG (iO.eq_1 K a E E1) D σ H):=rfl
def iP(K:FK)(a:Ad)(E E1:XE):TS:=(CW (A9 (LI K a) [] E (AD (AA 4) (AD (AA 2) (AD (AA 6) (AD (tC (.bl false)) AH))))))
theorem Kg:type_of% (AG (iP.eq_1 K a E E1) D σ H):=rfl
def iQ(K:FK)(a:Ad)(E E1:XE):TS:=(CW (A9 (OS K a) [] E (AD (AA 4) (AD (AC B3 (AA 5) (tC (.int 8))) (AD (AA 6) AH)))))
theorem Kh:type_of% (AG (iQ.eq_1 K a E E1) D σ H):=rfl
def iR(K:FK)(a:Ad)(E E1:XE):TS:=(B5 (A4 (AC (BY K) (AC B3 (AA 5) (tC (.int 8))) (tC (.int 4)))) (iP K a E E) (iQ K a E E))
theorem Kj:type_of% (AG (iR.eq_1 K a E E1) D σ H):=rfl
def iS(K:FK)(a:Ad)(E E1:XE):TS:=(B5 (A4 (AC (BY K) (AC B3 (AA 5) (tC (.int 8))) (tC (.int 3)))) (iO K a E E) (iR K a E E))
theorem Kk:type_of% (AG (iS.eq_1 K a E E1) D σ H):=rfl
def iT(K:FK)(a:Ad)(E E1:XE):TS:=(B5 (A4 (AC ID (AC B3 (AA 5) (tC (.int 8))) (tC (.int 3)))) (iN K a E E) (iS K a E E))
theorem Kl:type_of% (AG (iT.eq_1 K a E E1) D σ H):=rfl
def iU(K:FK)(a:Ad)(E E1:XE):TS:=(C6 (C1 K (AA 0)) (AL 5) (AQ (iM K a E E) (iT K a E E)))
theorem Km:type_of% (AG (iU.eq_1 K a E E1) D σ H):=rfl
def iV(K:FK)(a:Ad)(E E1:XE):TS:=(BF (AA 4))
theorem Kp:type_of% (AG (iV.eq_1 K a E E1) D σ H):=rfl
def VW(K:FK)(a:Ad)(E:XE):TS:=(AQ (iK K a E E) (AQ (iL K a E E) (AQ (iU K a E E) (iV K a E E))))
def iW(K:FK)(a:Ad)(E E1:XE):TS:=(AX (JJ (a "View") (IY K a) [] E (AD (AA 0) (AD (AA 1) AH))) (AL 2))
theorem Kq:type_of% (AG (iW.eq_1 K a E E1) D σ H):=rfl
def iX(K:FK)(a:Ad)(E E1:XE):TS:=(BF (AC (A7 K) (A9 (JY K a) [] E (AD (AA 2) AH)) (A9 (OM K a) [] E (AD (AA 2) AH))))
theorem Kv:type_of% (AG (iX.eq_1 K a E E1) D σ H):=rfl
def VX(K:FK)(a:Ad)(E:XE):TS:=(AQ (iW K a E E) (iX K a E E))
def iY(K:FK)(a:Ad)(E E1:XE):TS:=(BF (AC (BY K) (BW (CL K) (AD (A9 (JY K a) [] E (AD (JJ (a "View") (IY K a) [] E (AD (AA 0) (AD (AA 1) AH))) AH)) AH)) (tC (.int 0))))
theorem Kw:type_of% (AG (iY.eq_1 K a E E1) D σ H):=rfl
def VY(K:FK)(a:Ad)(E:XE):TS:=(iY K a E E)
def Kx(K:FK)(a:Ad)(E E1:XE):TS:=(NR (a "NotSound") E (AD (tC (.str "the plank has faults")) AH))
def iZ(K:FK)(a:Ad)(E E1:XE):TS:=(B5 (K6 (HI K (A9 (J0 K a) [] E (AD (AA 0) (AD (AA 1) AH))))) (Kx K a E E) CJ)
theorem Ky:type_of% (AG (iZ.eq_1 K a E E1) D σ H):=rfl
def i0(K:FK)(a:Ad)(E E1:XE):TS:=(AX (A9 (JZ K a) [] E (AD (AA 0) (AD (AA 1) AH))) (AL 2))
theorem Kz:type_of% (AG (i0.eq_1 K a E E1) D σ H):=rfl
def i3(K:FK)(a:Ad)(E E1:XE):TS:=(AX SY (AL 3))
theorem Lb:type_of% (AG (i3.eq_1 K a E E1) D σ H):=rfl
def i4(K:FK)(a:Ad)(E E1:XE):TS:=(CW (EY K "dict" Z3 (AA 3) (AD (A9 (OW K a) [] E (AD (AA 0) (AD (AA 1) (AD (AA 4) AH)))) AH)))
theorem Lc:type_of% (AG (i4.eq_1 K a E E1) D σ H):=rfl
def i5(K:FK)(a:Ad)(E E1:XE):TS:=(C6 (C1 K (AA 2)) (AL 4) (i4 K a E E))
theorem Ld:type_of% (AG (i5.eq_1 K a E E1) D σ H):=rfl
def i6(K:FK)(a:Ad)(E E1:XE):TS:=(CW (A9 (OX K a) [] E (AD (AA 1) (AD (AA 3) AH))))
theorem Lg:type_of% (AG (i6.eq_1 K a E E1) D σ H):=rfl
def i7(K:FK)(a:Ad)(E E1:XE):TS:=(BF (AA 2))
theorem Lh:type_of% (AG (i7.eq_1 K a E E1) D σ H):=rfl
def VZ(K:FK)(a:Ad)(E:XE):TS:=(AQ (iZ K a E E) (AQ (i0 K a E E) (AQ (i3 K a E E) (AQ (i5 K a E E) (AQ (i6 K a E E) (i7 K a E E))))))
def i8(K:FK)(a:Ad)(E E1:XE):TS:=(AX (A9 (ON K a) [] E (AD (A9 (IR K a) [] E (AD (AA 0) (AD (tC (.int 0)) AH))) AH)) (AL 1))
theorem Lj:type_of% (AG (i8.eq_1 K a E E1) D σ H):=rfl
def i9(K:FK)(a:Ad)(E E1:XE):TS:=(AX (A9 (OT K a) [] E (AD (JK (IH K) (AA 0) (GX (tC (.int 2))) QI) (AD (AA 1) (AD (A9 (OP K a) [] E (AD (A9 (IR K a) [] E (AD (AA 0) (AD (tC (.int 1)) AH))) (AD (tC (.int 36)) AH))) AH)))) (AL 2))
theorem Ll:type_of% (AG (i9.eq_1 K a E E1) D σ H):=rfl
def jA(K:FK)(a:Ad)(E E1:XE):TS:=(AX (JJ (a "Layout") (LE K a) [] E (AD (AC (AK K) (AA 1) (tC (.int 0))) (AD (AC (AK K) (AA 1) (tC (.int 1))) (AD (AC (AK K) (AA 1) (tC (.int 2))) (AD (AC (AK K) (AA 1) (tC (.int 3))) AH))))) (AL 3))
theorem Lm:type_of% (AG (jA.eq_1 K a E E1) D σ H):=rfl
def jB(K:FK)(a:Ad)(E E1:XE):TS:=(AX (BT (a "Layout") "plank" (OC K a) [] E (AA 3) AH) (AL 4))
theorem Lp:type_of% (AG (jB.eq_1 K a E E1) D σ H):=rfl
def jC(K:FK)(a:Ad)(E E1:XE):TS:=(CW (A9 (OV K a) [] E (AD (AA 4) (AD (AA 2) (AD (AC (AK K) (AA 1) (tC (.int 3))) AH)))))
theorem Lq:type_of% (AG (jC.eq_1 K a E E1) D σ H):=rfl
def jD(K:FK)(a:Ad)(E E1:XE):TS:=(AX (A9 (LK K a) [] E (AD (AA 2) (AD (AC (AK K) (AA 1) (tC (.int 3))) AH))) (AL 5))
theorem Lw:type_of% (AG (jD.eq_1 K a E E1) D σ H):=rfl
def jE(K:FK)(a:Ad)(E E1:XE):TS:=(AX (A9 (LK K a) [] E (AD (A9 (OY K a) [] E (AD (AA 2) AH)) (AD (AC (AK K) (AA 1) (tC (.int 3))) AH))) (AL 6))
theorem Lx:type_of% (AG (jE.eq_1 K a E E1) D σ H):=rfl
def jF(K:FK)(a:Ad)(E E1:XE):TS:=(AX (BW (CL K) (AD (AA 5) AH)) (AL 7))
theorem Ly:type_of% (AG (jF.eq_1 K a E E1) D σ H):=rfl
def jG(K:FK)(a:Ad)(E E1:XE):TS:=(AX (AC (A7 K) (AA 7) (BW (JP K) (AD (AC (B1 K) (AC (AK K) (AA 5) (AA 8)) (AC (AK K) (AA 6) (AA 8))) AH))) (AL 7))
theorem Lz:type_of% (AG (jG.eq_1 K a E E1) D σ H):=rfl
def jH(K:FK)(a:Ad)(E E1:XE):TS:=(C6 (CY (AD (BW (CL K) (AD (AA 5) AH)) AH)) (AL 8) (jG K a E E))
theorem Mc:type_of% (AG (jH.eq_1 K a E E1) D σ H):=rfl
def jI(K:FK)(a:Ad)(E E1:XE):TS:=(AX (A9 (OU K a) [] E (AD (AA 2) AH)) (AL 9))
theorem Md:type_of% (AG (jI.eq_1 K a E E1) D σ H):=rfl
def jJ(K:FK)(a:Ad)(E E1:XE):TS:=(AX (A9 (LJ K a) [] E (AD (AA 3) (AD (AA 4) AH))) (AL 10))
theorem Mg:type_of% (AG (jJ.eq_1 K a E E1) D σ H):=rfl
def Mh(K:FK)(a:Ad)(E E1:XE):TS:=(BF (tC (.bl false)))
def jK(K:FK)(a:Ad)(E E1:XE):TS:=(B5 (HE (K6 (HI K (BW (ET K) (AD (AA 10) (AD (tC (.ty "list")) AH))))) (HE (A4 (AC (B1 K) (AA 10) (AA 9))) (K6 (HI K (A9 (J9 K a) [] E (AD (AA 4) (AD (AA 6) AH))))))) (Mh K a E E) CJ)
theorem Mj:type_of% (AG (jK.eq_1 K a E E1) D σ H):=rfl
def jL(K:FK)(a:Ad)(E E1:XE):TS:=(CW (SQ K "list" qW (AA 10)))
theorem Ml:type_of% (AG (jL.eq_1 K a E E1) D σ H):=rfl
def Mm(K:FK)(a:Ad)(E E1:XE):TS:=(BF (tC (.bl false)))
def jM(K:FK)(a:Ad)(E E1:XE):TS:=(B5 (HE (A4 (AC (B1 K) (A9 (JZ K a) [] E (AD (AA 3) (AD (AA 4) AH))) (CQ AH))) (HE (A4 (AC ZO (A9 (J0 K a) [] E (AD (AA 3) (AD (AA 4) AH))) (tC (.bl true)))) (A4 (AC (B1 K) (BT (a "Plank") "writings" (LC K a) [] E (AA 4) AH) (AA 7))))) (Mm K a E E) CJ)
theorem Mp:type_of% (AG (jM.eq_1 K a E E1) D σ H):=rfl
def Mq(K:FK)(a:Ad)(E E1:XE):TS:=(BF (tC (.bl false)))
def jN(K:FK)(a:Ad)(E E1:XE):TS:=(B5 (HE (A4 (AC (B1 K) (A9 (LJ K a) [] E (AD (AA 3) (AD (AA 4) AH))) (CQ AH))) (A4 (AC (B1 K) (BT (a "Plank") "writings" (LC K a) [] E (AA 4) AH) (AA 7)))) (Mq K a E E) CJ)
theorem Mv:type_of% (AG (jN.eq_1 K a E E1) D σ H):=rfl
def jO(K:FK)(a:Ad)(E E1:XE):TS:=(BF (A9 (J9 K a) [] E (AD (AA 4) (AD (AA 6) AH))))
theorem Mw:type_of% (AG (jO.eq_1 K a E E1) D σ H):=rfl
def V0(K:FK)(a:Ad)(E:XE):TS:=(AQ (i8 K a E E) (AQ (i9 K a E E) (AQ (jA K a E E) (AQ (jB K a E E) (AQ (jC K a E E) (AQ (jD K a E E) (AQ (jE K a E E) (AQ (jF K a E E) (AQ (jH K a E E) (AQ (jI K a E E) (AQ (jJ K a E E) (AQ (jK K a E E) (AQ (jL K a E E) (AQ (jM K a E E) (AQ (jN K a E E) (jO K a E E))))))))))))))))
end
end L2
namespace L2
local macro_rules
 | `(tactic| push_cast[$ls,*])=>`(tactic| simp only[↓rC,↓rD,↓rE,↓rF,↓rG,↓rH,↓rJ,↓rK,↓rM,↓rN,↓rO,↓rP,↓rQ,↓rR,↓rS,↓rT,↓rV,↓rW,↓rX,↓rY,↓rZ,↓r8,↓sA,↓sB,↓sC,↓sD,↓sE,↓sF,↓sG,↓sH,↓sI,↓sJ,↓sK,↓sL,↓sM,↓sO,↓sP,↓sQ,↓sR,↓sT,↓sU,↓sV,↓sW,↓sX,↓sY,↓sZ,↓tD,↓tE,↓tF,↓tG,↓tH,↓tI,↓tJ,
     ↓ZE,↓tK,↓tM,↓tN,↓tO,↓tP,↓tQ,↓tR,↓tS,↓tT,↓tU,↓tY,↓t0,↓tZ,↓t3,↓t4,↓t5,↓t6,↓t7,↓tW,↓tV,↓tX,↓t9,↓uA,↓ZF,↓uB,↓uC,↓ZG,↓uD,↓uE,↓ZH,↓uF,↓uG,↓ZI,↓uH,↓uI,↓uJ,↓uK,↓uL,↓uM,↓uN,↓uO,↓uP,↓ZJ,↓uQ,
     QY,B3,FA,Y9,qM,qN,Ends.drop,A1,List.map_cons,List.map_nil,List.length_cons,List.length_nil,List.reduceReplicate,Nat.reduceAdd,Nat.reduceSub,Nat.zero_add,List.cons_append,List.nil_append,List.append_nil,List.getElem?_cons_zero,List.getElem?_cons_succ,Option.some.injEq,Option.join_some,List.set_cons_zero,List.set_cons_succ,
     V.int.injEq,V.ref.injEq,V.bl.injEq,V.str.injEq,List.cons.injEq,and_true,true_and,exists_eq_left',exists_eq_left,exists_eq',exists_eq,exists_and_left,exists_and_right,reduceCtorEq,false_and,and_false,or_false,false_or,exists_false,decide_eq_true_eq,Bool.not_eq_true',Bool.not_eq_true,decide_eq_false_iff_not,eq_self_iff_true,if_true,Bool.false_eq_true,if_false,ite_true,Bool.true_eq_false,forall_const,and_assoc,Int.reduceToNat,Int.reduceLT,Int.reduceLE,Int.reduceEq,Nat.reduceLeDiff,Int.toNat_natCast,not_true_eq_false,not_false_eq_true,Bool.not_false,Bool.not_true,↓vJ,↓vK,↓vL,↓vM,↓vN,↓vO,↓vP,↓vQ,↓vR,↓vI,↓vH,↓vE,↓vG,↓uZ,↓v7,↓wK,↓wJ,↓wC,↓wY,↓wZ,↓xA,↓xB,↓wB,↓u0,↓uY,$ls,*])
section
variable{K:W.Frag}{a:Ad}{vs:List V}{H:Hp}{Q:VK}{E:XK}
theorem Mx(h:N3 K a vs H Q E):UA K a (λ_=>E) (A5 Q) (A1 ["self","blocks","cells"] vs) H:=by
 obtain⟨p,dx,m,w,rfl,T,hp,hm,h1,h2,q⟩:=h
 push_cast[UA,↓yK,↓yL,↓yM]
 refine⟨by omega,by omega,?_⟩
 refine NX (small m (by omega)) (λi ys H'=>Same H H'/\∃ ts:List Addr,ys=ts.map V.ref/\Paired (λt r=>H' t=some (.tup r)) ts (List.replicate i (List.replicate w .non))) ⟨Same.refl _,[],rfl,.nil⟩ (λi ys H' hi hl ⟨s,ts,e,P⟩=> ?_) (λys H' hl ⟨s,ts,e,P⟩ cl hcl=> ?_)
 ·push_cast[BL,Option.join_some,Int.zero_add]
  refine⟨by decide,λt ht=>.inr ?_⟩
  have fin:∀ (t':Addr) (H2:Hp),Same H' H2->H2 t'=some (.tup (List.replicate w .non))->Same H H2/\∃ ts':List Addr,ys++[V.ref t']=ts'.map V.ref/\Paired (λt r=>H2 t=some (.tup r)) ts' (List.replicate (i+1) (List.replicate w .non)):=λt' H2 s2 e2=>by
   refine⟨s.trans s2,ts++[t'],by rw[e,List.map_append];rfl,?_⟩
   rw[List.replicate_succ']
   exact Paired.snoc (Paired.mapP P λt r z=>s2 _ _ z) e2
  have s1:Same H' (upd H' t (.tup [V.non])):=λb o z=>by rw[AT (BE z ht)];exact z
  refine⟨t,w,[.non],rfl,rfl,SqT.of AS,by simp,by omega,by omega,small _ (by simp;omega),λe1=> ?_,λe1 u hu=> ?_⟩
  ·have e1:w=1:=by omega
   refine fin t _ s1 ?_
   rw[AS,e1];rfl
  ·rw[Int.toNat_natCast,ZL]
   exact fin u _ (s1.trans λb o z=>by rw[AT (BE z hu)];exact z) AS
 ·have npc:p≠cl:=BE (s _ _ hp) hcl
  have e1:upd H' cl (HO.lst ys) p=some (HO.ins (a "Plank") dx []):=by rw[AT npc];exact s _ _ hp
  refine⟨_,_,_,e1,T.cl,T.nC,by decide,_,_,_,AS,T.cl,T.nW,HJ (by decide),_,_,_,AS,T.cl,T.nN,HJ (n:=1000) (Nat.succ_lt_succ (HJ (n:=999) (by decide))),?_⟩
  rw[xD,NC,NC]
  refine q cl _ (s.free hcl) ⟨⟨dx,AS⟩,⟨ts,by rw[AT npc.symm,AS,e],?_⟩,λr hr=> ?_,by simpa using hm,h2⟩ λb o eb hb=> ?_
  ·refine Paired.mapP P λt r z=> ?_
   rw[AT (C5 z (s _ _ hp) (by intro z';cases z')),AT (BE z hcl)]
   exact z
  ·rw[List.eq_of_mem_replicate hr,List.length_replicate]
  ·rw[AT hb,AT (BE (s _ _ eb) hcl)]
   exact s _ _ eb
theorem My(h:N5 K a vs H Q E):UB K a (λ_=>E) (A5 Q) (A1 ["self"] vs) H:=by
 obtain⟨p,cl,w,rows,n,rfl,T,P,q⟩:=h
 obtain⟨dx,h1⟩:=P.ob
 obtain⟨ts,h2,h3⟩:=P.ls
 push_cast[UB,↓yN]
 refine⟨_,_,_,h1,T.cl,T.nC,_,Q5 _ _ _,rows.length,.inl ⟨_,SqL.of h2,?_⟩,q⟩
 rw[List.length_map,h3.length]
theorem Mz(h:HK K a vs H Q E):UD K a (λ_=>E) (A5 Q) (A1 ["self","block"] vs) H:=by
 obtain⟨p,cl,w,rows,n,b,rfl,T,P,q,qe⟩:=h
 obtain⟨dx,h1⟩:=P.ob
 obtain⟨ts,h2,h3⟩:=P.ls
 push_cast[UD,↓yP,↓yQ]
 have hl:rows.length=(ts.map V.ref).length:=by rw[List.length_map,h3.length]
 split
 ·rename_i h0
  refine⟨_,_,_,h1,T.cl,T.nC,_,Q5 _ _ _,rows.length,.inl ⟨_,SqL.of h2,hl⟩,?_⟩
  split
  ·exact⟨by decide,qe (by omega)⟩
  ·exact q h0 (by omega)
 ·exact⟨by decide,qe (by omega)⟩
theorem jP(cl:Addr)(w n:Int):(pf cl w n).lookup ("ask_for_block":Str)=none:=N1 _ _ _ (by decide +kernel) (by decide +kernel) (by decide +kernel)
theorem Nb(h:GD K a vs H Q E):US K a (λ_=>E) (A5 Q) (A1 ["self","block"] vs) H:=by
 obtain⟨p,cl,w,rows,n,b,rfl,T,P,q,qe⟩:=h
 obtain⟨dx,h1⟩:=P.ob
 obtain⟨ts,h2,h3⟩:=P.ls
 push_cast[US,↓Aj,↓Ak,HK]
 refine⟨_,_,h1,jP _ _ _,T,cl,w,rows,⟨n,P⟩,λh0 hb=>⟨_,_,_,h1,T.cl,T.nC,_,Q5 _ _ _,?_⟩,qe⟩
 obtain⟨i,rfl⟩:∃ i:Nat,b=i:=⟨b.toNat,by omega⟩
 have hi:i<rows.length:=by omega
 obtain⟨t,et,ht⟩:=LA h3 (List.getElem?_eq_getElem hi)
 refine BU (SqL.of h2) rfl (v:=.ref t) (by rw[List.getElem?_map,et];rfl) ?_
 rw[ZJ]
 exact⟨_,.inr (SqT.of ht),q i _ rfl (List.getElem?_eq_getElem hi)⟩
theorem Nd(h:JS K a vs H Q E):UT K a (λ_=>E) (A5 Q) (A1 ["self","block","values"] vs) H:=by
 obtain⟨p,cl,w,rows,n,b,v,xs,rfl,T,P,hv,hx,q,qe⟩:=h
 obtain⟨dx,h1⟩:=P.ob
 obtain⟨ts,h2,h3⟩:=P.ls
 have npc:=P.ne
 push_cast[UT,↓Al,↓Am,↓Ap,↓Aq,↓Av,HK]
 refine⟨_,_,h1,jP _ _ _,T,cl,w,rows,⟨n,P⟩,λh0 hb=>⟨xs.length,.inl ⟨_,hv,rfl⟩,_,_,_,h1,T.cl,T.nW,_,xC _ _ _,?_⟩,λz=>qe (z.imp id .inl)⟩
 obtain⟨i,rfl⟩:∃ i:Nat,b=i:=⟨b.toNat,by omega⟩
 have hi:i<rows.length:=by omega
 push_cast[]
 split
 ·exact⟨by decide,qe (.inr (.inr (by omega)))⟩
 ·rename_i hw
  have hw:xs.length=w:=by omega
  refine⟨xs,.inl ⟨hv,λt ht=> ?_⟩⟩
  have ntp:p≠t:=BE h1 ht
  have ntc:cl≠t:=BE h2 ht
  refine⟨_,_,_,by rw[AT ntp];exact h1,T.cl,T.nC,_,Q5 _ _ _,?_⟩
  refine⟨cl,ts.map V.ref,(i:Int),i,rfl,rfl,by rw[AT ntc];exact h2,?_,?_⟩
  ·unfold GY
   rw[if_pos (by omega),if_pos (by rw[List.length_map,h3.length];omega),Int.toNat_natCast]
  ·refine⟨_,_,_,by rw[AT npc,AT ntp];exact h1,T.cl,T.nN,_,Z5 _ _ _,?_⟩
   push_cast[]
   refine⟨_,_,by rw[AT npc,AT ntp];exact h1,by show 3<1000;decide,?_⟩
   rw[xE]
   refine q i rfl hi hw _ ⟨⟨dx,AS⟩,⟨ts.set i t,?_,?_⟩,λr hr=> ?_,by rw[List.length_set];exact P.sz,P.sw⟩ λx o ex hxn=> ?_
   ·rw[AT npc.symm,AS,List.map_set]
   ·have keep:∀ u r,H u=some (.tup r)->upd (upd (upd H t (.tup xs)) cl (.lst ((ts.map V.ref).set i (.ref t)))) p (.ins (a "Plank") dx (pf cl w ((n:Int)+1))) u=some (.tup r):=λu r hu=>by
     rw[AT (C5 hu h1 (by intro z;cases z)),AT (C5 hu h2 (by intro z;cases z)),AT (BE hu ht)]
     exact hu
    refine S9 ?_ i (Paired.mapP h3 keep)
    rw[AT ntp.symm,AT ntc.symm,AS]
   ·rcases List.mem_or_eq_of_mem_set hr with z | z
    ·exact P.wd r z
    ·rw[z];exact hw
   ·have hxn:x≠p/\x≠cl:=⟨λz=>hxn (.inl z),λz=>hxn (.inr z)⟩
    rw[AT hxn.1,AT hxn.2,AT (BE ex ht)]
    exact ex
theorem RE(cl:Addr)(w n:Int):(pf cl w n).lookup ("read":Str)=none:=N1 _ _ _ (by decide +kernel) (by decide +kernel) (by decide +kernel)
theorem jQ(cl:Addr)(w n:Int):(pf cl w n).lookup ("write":Str)=none:=N1 _ _ _ (by decide +kernel) (by decide +kernel) (by decide +kernel)
theorem jR(cl:Addr)(w n:Int):(pf cl w n).lookup ("writings":Str)=none:=N1 _ _ _ (by decide +kernel) (by decide +kernel) (by decide +kernel)
theorem Ng(h:N3 K a vs H Q E):vs.length=3:=by
 obtain⟨_,_,_,_,rfl,_⟩:=h
 rfl
theorem Nh(h:N5 K a vs H Q E):vs.length=1:=by
 obtain⟨_,_,_,_,_,rfl,_⟩:=h
 rfl
theorem Nj(h:HK K a vs H Q E):vs.length=2:=by
 obtain⟨_,_,_,_,_,_,rfl,_⟩:=h
 rfl
theorem Nk(h:GD K a vs H Q E):vs.length=2:=by
 obtain⟨_,_,_,_,_,_,rfl,_⟩:=h
 rfl
theorem Nl(h:JS K a vs H Q E):vs.length=3:=by
 obtain⟨_,_,_,_,_,_,_,_,rfl,_⟩:=h
 rfl
theorem Nm(h:LC K a vs H Q E):UC K a (λ_=>E) (A5 Q) (A1 ["self"] vs) H:=by
 obtain⟨p,cl,w,rows,n,rfl,T,P,q⟩:=h
 obtain⟨dx,h1⟩:=P.ob
 push_cast[UC,↓yO]
 exact⟨_,_,_,h1,T.cl,T.nN,_,Z5 _ _ _,q⟩
theorem Np(h:LC K a vs H Q E):vs.length=1:=by
 obtain⟨_,_,_,_,_,rfl,_⟩:=h
 rfl
theorem Nq(h:IR K a vs H Q E):UI K a (λ_=>E) (A5 Q) (A1 ["script","k"] vs) H:=by
 obtain⟨s,ns,k,rfl,hs,hl,q⟩:=h
 push_cast[UI,↓yY,↓yZ,↓y7]
 refine⟨ns.length,?_,?_⟩
 ·exact .inl ⟨_,hs,(List.length_map _).symm⟩
 split
 ·rename_i hk
  have hk:k<ns.length:=by omega
  refine BU hs rfl (v:=.int (LF ns k)) ?_ q
  unfold LF
  rw[List.getElem?_map,List.getElem?_eq_getElem hk]
  simp[List.getD,hk]
 ·rename_i hk
  have:LF ns k=0:=by
   unfold LF
   rw[List.getD_eq_getElem?_getD,List.getElem?_eq_none (by omega)];rfl
  rw[this]at q
  exact q
theorem Nv(h:IR K a vs H Q E):vs.length=2:=by
 obtain⟨_,_,_,rfl,_⟩:=h
 rfl
theorem Nx(h:LE K a vs H Q E):UE K a (λ_=>E) (A5 Q) (A1 ["self","names","records","pieces","cells"] vs) H:=by
 obtain⟨p,dx,n,r,c,w,rfl,T,hp,b1,b2,b3,b4,b5,q⟩:=h
 push_cast[UE,↓yR,↓yS,↓yT,↓yU]
 refine⟨_,_,_,hp,T.cl,T.n1,by decide,_,_,_,AS,T.cl,T.n2,HJ (by decide),_,_,_,AS,T.cl,T.n3,HJ (n:=1000) (Nat.succ_lt_succ (HJ (n:=999) (by decide))),_,_,_,AS,T.cl,T.n4,?_,?_⟩
 ·exact HJ (n:=1000) (Nat.succ_lt_succ (HJ (n:=999) (Nat.succ_lt_succ (HJ (n:=998) (by decide)))))
 ·rw[xJ,NC,NC,NC]
  exact q _ ⟨⟨dx,AS⟩,b1,b2,b3,b4,b5⟩ λb o e hb=>by rw[AT hb];exact e
theorem Ny(h:FB K a vs H Q E):UH K a (λ_=>E) (A5 Q) (A1 ["self","block","k"] vs) H:=by
 obtain⟨p,n,r,c,w,k,b,rfl,T,L,q⟩:=h
 obtain⟨dx,e⟩:=L.ob
 have:=L.h1
 have:=L.hw
 push_cast[UH,↓yX]
 refine⟨_,_,_,e,T.cl,T.n4,_,LD,?_⟩
 push_cast[]
 refine⟨⟨by omega,by omega⟩,_,_,_,e,T.cl,T.n4,_,LD,?_⟩
 push_cast[]
 exact⟨by omega,by decide,q⟩
theorem Nz(h:N7 K a vs H Q E):UU K a (λ_=>E) (A5 Q) (A1 ["self","k"] vs) H:=by
 obtain⟨p,n,r,c,w,k,rfl,T,L,q⟩:=h
 obtain⟨dx,e⟩:=L.ob
 push_cast[UU,↓Aw]
 exact⟨_,_,e,D0 (by decide +kernel),p,n,r,c,w,k,0,rfl,T,L,q⟩
theorem Pb(h:IP K a vs H Q E):UV K a (λ_=>E) (A5 Q) (A1 ["self","k"] vs) H:=by
 obtain⟨p,n,r,c,w,k,rfl,T,L,q⟩:=h
 obtain⟨dx,e⟩:=L.ob
 push_cast[UV,↓Ax]
 exact⟨_,_,e,D0 (by decide +kernel),_,_,_,e,T.cl,T.n1,_,Q8,p,n,r,c,w,k,_,rfl,T,L,q⟩
theorem Pc(h:N9 K a vs H Q E):UW K a (λ_=>E) (A5 Q) (A1 ["self","k"] vs) H:=by
 obtain⟨p,n,r,c,w,k,rfl,T,L,q⟩:=h
 obtain⟨dx,e⟩:=L.ob
 push_cast[UW,↓Ay]
 refine⟨_,_,e,D0 (by decide +kernel),_,_,_,e,T.cl,T.n1,_,Q8,_,_,_,e,T.cl,T.n2,_,N6,?_⟩
 push_cast[]
 exact⟨p,n,r,c,w,k,_,rfl,T,L,q⟩
theorem Pd(h:IQ K a vs H Q E):UX K a (λ_=>E) (A5 Q) (A1 ["self","k"] vs) H:=by
 obtain⟨p,n,r,c,w,k,rfl,T,L,q⟩:=h
 obtain⟨dx,e⟩:=L.ob
 push_cast[UX,↓Az]
 exact⟨_,_,e,D0 (by decide +kernel),_,_,e,D0 (by decide +kernel),p,n,r,c,w,rfl,T,L,p,n,r,c,w,k,_,rfl,T,L,q⟩
theorem Pg(h:JU K a vs H Q E):UY K a (λ_=>E) (A5 Q) (A1 ["self","k"] vs) H:=by
 obtain⟨p,n,r,c,w,k,rfl,T,L,q⟩:=h
 obtain⟨dx,e⟩:=L.ob
 push_cast[UY,↓Bb]
 refine⟨_,_,e,D0 (by decide +kernel),_,_,e,D0 (by decide +kernel),p,n,r,c,w,rfl,T,L,_,_,_,e,T.cl,T.n2,_,N6,?_⟩
 push_cast[]
 exact⟨p,n,r,c,w,k,_,rfl,T,L,q⟩
theorem Ph(h:HL K a vs H Q E):UG K a (λ_=>E) (A5 Q) (A1 ["self"] vs) H:=by
 obtain⟨p,n,r,c,w,rfl,T,L,q⟩:=h
 obtain⟨dx,e⟩:=L.ob
 push_cast[UG,↓yW]
 refine⟨_,_,_,e,T.cl,T.n1,_,Q8,_,_,_,e,T.cl,T.n2,_,N6,?_⟩
 push_cast[]
 refine⟨_,_,_,e,T.cl,T.n3,_,TU,?_⟩
 push_cast[]
 exact q
theorem Pj(h:OA K a vs H Q E):UZ K a (λ_=>E) (A5 Q) (A1 ["self"] vs) H:=by
 obtain⟨p,n,r,c,w,rfl,T,L,q⟩:=h
 obtain⟨dx,e⟩:=L.ob
 push_cast[UZ,↓Bc]
 refine⟨_,_,e,D0 (by decide +kernel),p,n,r,c,w,rfl,T,L,_,_,_,e,T.cl,T.n2,_,N6,?_⟩
 push_cast[]
 refine⟨_,_,_,e,T.cl,T.n3,_,TU,?_⟩
 push_cast[]
 exact q
theorem Pk(h:OB K a vs H Q E):UF K a (λ_=>E) (A5 Q) (A1 ["self"] vs) H:=by
 obtain⟨p,n,r,c,w,rfl,T,L,q⟩:=h
 obtain⟨dx,e⟩:=L.ob
 obtain⟨_,b1,b2,b3,b4,b5⟩:=L
 push_cast[UF,↓yV]
 refine⟨_,_,_,e,T.cl,T.n1,_,Q8,_,_,_,e,T.cl,T.n4,_,LD,?_⟩
 push_cast[]
 refine⟨.inl ⟨by omega,by omega⟩,_,_,_,e,T.cl,T.n2,_,N6,_,_,_,e,T.cl,T.n4,_,LD,?_⟩
 push_cast[]
 refine⟨.inl ⟨by omega,by omega⟩,_,_,_,e,T.cl,T.n3,_,TU,_,_,_,e,T.cl,T.n4,_,LD,?_⟩
 push_cast[]
 exact⟨.inl ⟨by omega,by omega⟩,by decide,q⟩
theorem Pl(h:OC K a vs H Q E):VE K a (λ_=>E) (A5 Q) (A1 ["self"] vs) H:=by
 obtain⟨p,n,r,c,w,rfl,T,TP,L,q⟩:=h
 obtain⟨dx,e⟩:=L.ob
 have LL:=L
 obtain⟨_,b1,b2,b3,b4,b5⟩:=L
 push_cast[VE,↓Fc]
 refine⟨_,_,e,D0 (by decide +kernel),p,n,r,c,w,rfl,T,LL,_,_,_,e,T.cl,T.n4,_,LD,λx dx' hx hdx hne=> ?_⟩
 have s3:Same H (upd (upd H dx' (.own x)) x (.ins (a "Plank") dx' [])):=(A0 hdx).trans (A0 (by rw[AT hne.symm];exact hx))
 refine⟨x,dx',n+r+c+r+c,w,by simp,TP,AS,by omega,b4,by omega,λcl H2 hcl P2 s4=>⟨rfl,q x cl H2 hx (s3.free hcl) P2 λb o eb=>s4 _ _ (s3 _ _ eb) (BE eb hx)⟩⟩
theorem Pm(h:LE K a vs H Q E):vs.length=5:=by
 obtain⟨_,_,_,_,_,_,rfl,_⟩:=h
 rfl
theorem Pp(h:FB K a vs H Q E):vs.length=3:=by
 obtain⟨_,_,_,_,_,_,_,rfl,_⟩:=h
 rfl
theorem Pq(h:N7 K a vs H Q E):vs.length=2:=by
 obtain⟨_,_,_,_,_,_,rfl,_⟩:=h
 rfl
theorem Pw(h:IP K a vs H Q E):vs.length=2:=by
 obtain⟨_,_,_,_,_,_,rfl,_⟩:=h
 rfl
theorem Px(h:N9 K a vs H Q E):vs.length=2:=by
 obtain⟨_,_,_,_,_,_,rfl,_⟩:=h
 rfl
theorem Py(h:IQ K a vs H Q E):vs.length=2:=by
 obtain⟨_,_,_,_,_,_,rfl,_⟩:=h
 rfl
theorem Pz(h:JU K a vs H Q E):vs.length=2:=by
 obtain⟨_,_,_,_,_,_,rfl,_⟩:=h
 rfl
theorem Qb(h:HL K a vs H Q E):vs.length=1:=by
 obtain⟨_,_,_,_,_,rfl,_⟩:=h
 rfl
theorem Qc(h:OA K a vs H Q E):vs.length=1:=by
 obtain⟨_,_,_,_,_,rfl,_⟩:=h
 rfl
theorem Qd(h:OB K a vs H Q E):vs.length=1:=by
 obtain⟨_,_,_,_,_,rfl,_⟩:=h
 rfl
theorem Qg(h:OC K a vs H Q E):vs.length=1:=by
 obtain⟨_,_,_,_,_,rfl,_⟩:=h
 rfl
def CD(H H':Hp):Prop:=∀ b xs,H b=some (.tup xs)->H' b=some (.tup xs)
theorem GoodV.keep{H H':Hp}(k:CD H H'):∀ {n:Nat} {v:V},GoodV n H v->GoodV n H' v
 | 0,_,h=>h
 | _+1,.int _,_=>trivial
 | _+1,.non,_=>trivial
 | _+1,.str _,h=>h
 | n+1,.ref p,⟨xs,h1,h2,h3⟩=>⟨xs,k _ _ h1,h2,λv hv=>(h3 v hv).keep k⟩
theorem GoodV.up{H:Hp}:∀ {n:Nat} {v:V},GoodV n H v->GoodV (n+1) H v
 | 0,_,h=>h.elim
 | _+1,.int _,_=>trivial
 | _+1,.non,_=>trivial
 | _+1,.str _,h=>h
 | n+1,.ref p,⟨xs,h1,h2,h3⟩=>⟨xs,h1,h2,λv hv=>(h3 v hv).up⟩
theorem Same.tk{H H':Hp}(s:Same H H'):CD H H':=λb xs e=>s _ _ e
theorem good7.keep{H H':Hp}{rows:List (List V)}(g:good7 H rows)(k:CD H H'):good7 H' rows:=λr hr v hv=>(g r hr v hv).keep k
theorem CF{c A B:Prop}[Decidable c](h:c)(x:A):if c then A else B:=by rw[if_pos h];exact x
theorem BN{c A B:Prop}[Decidable c](h:¬ c)(x:B):if c then A else B:=by rw[if_neg h];exact x
theorem NmV.keep{H':Hp}{v:V}{c:G0}(k:CD H H')(h:NmV H v c):NmV H' v c:=by
 cases c with
 | none=>exact h
 | some c=>obtain⟨p,e,h1⟩:=h;exact⟨p,e,k _ _ h1⟩
theorem RcV.keep{H':Hp}{v:V}{c:EV}(k:CD H H')(h:RcV H v c):RcV H' v c:=by
 cases c with
 | none=>exact h
 | some c=>obtain⟨p,q,e,h1,h2⟩:=h;exact⟨p,q,e,k _ _ h1,k _ _ h2⟩
theorem PcV.keep{H':Hp}{v:V}{c:Option Str}(_:CD H H')(h:PcV H v c):PcV H' v c:=by
 cases c<;>exact h
theorem MkV.keep{H':Hp}{v:V}{c:Option Int}(_:CD H H')(h:MkV H v c):MkV H' v c:=by
 cases c<;>exact h
theorem LstAt.keep{α :Type}{R:Hp->V-> α ->Prop}{H':Hp}{p:Addr}{cs:List α}(h:LstAt R H p cs)(kr:∀ v c,R H v c->R H' v c)(kp:∀ o,H p=some o->H' p=some o):LstAt R H' p cs:=by
 obtain⟨vs,e,P⟩:=h
 exact⟨vs,kp _ e,Paired.mapP P λv c=>kr v c⟩
theorem FindsL.same{H':Hp}{l:Addr}{fs:List (List V)}(h:FindsL H l fs)(s:Same H H'):FindsL H' l fs:=by
 obtain⟨ps,e,P⟩:=h
 exact⟨ps,s _ _ e,Paired.mapP P λp f e=>s _ _ e⟩
theorem ViewAt.same{H':Hp}{x:Addr}{A:VA}{vw:Vw}(h:ViewAt a H x A vw)(s:Same H H'):ViewAt a H' x A vw:=by
 obtain⟨⟨dx,e⟩,h1,h2,h3,h4,h5,h6,h7,h8,ok⟩:=h
 exact⟨⟨dx,s _ _ e⟩,h1.keep (λv c=>NmV.keep s.tk) (λo=>s _ _),h2.keep (λv c=>RcV.keep s.tk) (λo=>s _ _),h3.keep (λv c=>PcV.keep s.tk) (λo=>s _ _),h4.keep (λv c=>MkV.keep s.tk) (λo=>s _ _),h5.keep (λv c=>MkV.keep s.tk) (λo=>s _ _),s _ _ h6,s _ _ h7,s _ _ h8,ok⟩
theorem LstAt.at{α :Type}{R:Hp->V->Option α ->Prop}{p:Addr}{cs:List (Option α)}{k:Nat}(h:LstAt R H p cs)(hk:k<cs.length):∃ vs v,H p=some (.lst vs)/\vs.length=cs.length/\vs[k]? =some v/\R H v (AF cs k):=by
 obtain⟨vs,e,P⟩:=h
 obtain⟨v,ev,hr⟩:=LA P (List.getElem?_eq_getElem hk)
 refine⟨vs,v,e,P.length,ev,?_⟩
 unfold AF
 rw[List.getElem?_eq_getElem hk]
 exact hr
theorem LN{l:List Nat}{k:Nat}{m:Nat}(h:l[k]? =some m):(AW l)[k]? =some (.int m):=by
 unfold AW
 rw[List.getElem?_map,h]
 rfl
theorem HP{n k:Nat}{f:Nat->Nat}(h:k<n):((List.range n).map f)[k]? =some (f k):=by
 rw[List.getElem?_map,List.getElem?_range h]
 rfl
theorem FR{p:Addr}{n k:Nat}{f:Nat->Nat}{Q:VK}(h:H p=some (.lst (AW ((List.range n).map f))))(hk:k<n)(q:Q (.int (f k)) H):AK K (.ref p) (.int k) H Q :=
 BU (SqL.of h) (n:=k) rfl (LN (HP hk)) q
theorem Qh{A:VA}:(vf A).lookup ("name_values":Str)=some (V.ref A.n):=by simp[vf]
theorem RF{A:VA}:(vf A).lookup ("record_values":Str)=some (V.ref A.r):=by
 simp[vf,List.lookup_cons,BH (a:="record_values") (b:="name_values") (by decide +kernel)]
theorem Qj{A:VA}:(vf A).lookup ("piece_values":Str)=some (V.ref A.p):=by
 simp[vf,List.lookup_cons,BH (a:="piece_values") (b:="name_values") (by decide +kernel),BH (a:="piece_values") (b:="record_values") (by decide +kernel)]
theorem jS{A:VA}:(vf A).lookup ("record_marks":Str)=some (V.ref A.rm):=by
 simp[vf,List.lookup_cons,BH (a:="record_marks") (b:="name_values") (by decide +kernel),BH (a:="record_marks") (b:="record_values") (by decide +kernel),BH (a:="record_marks") (b:="piece_values") (by decide +kernel)]
theorem jT{A:VA}:(vf A).lookup ("piece_marks":Str)=some (V.ref A.pm):=by
 simp[vf,List.lookup_cons,BH (a:="piece_marks") (b:="name_values") (by decide +kernel),BH (a:="piece_marks") (b:="record_values") (by decide +kernel),BH (a:="piece_marks") (b:="piece_values") (by decide +kernel),BH (a:="piece_marks") (b:="record_marks") (by decide +kernel)]
theorem WA{A:VA}:(vf A).lookup ("leads":Str)=some (V.ref A.ld):=by
 simp[vf,List.lookup_cons,BH (a:="leads") (b:="name_values") (by decide +kernel),BH (a:="leads") (b:="record_values") (by decide +kernel),BH (a:="leads") (b:="piece_values") (by decide +kernel),BH (a:="leads") (b:="record_marks") (by decide +kernel),BH (a:="leads") (b:="piece_marks") (by decide +kernel)]
theorem jU{A:VA}:(vf A).lookup ("namings":Str)=some (V.ref A.ng):=by
 simp[vf,List.lookup_cons,BH (a:="namings") (b:="name_values") (by decide +kernel),BH (a:="namings") (b:="record_values") (by decide +kernel),BH (a:="namings") (b:="piece_values") (by decide +kernel),BH (a:="namings") (b:="record_marks") (by decide +kernel),BH (a:="namings") (b:="piece_marks") (by decide +kernel),BH (a:="namings") (b:="leads") (by decide +kernel)]
theorem Qk{A:VA}:(vf A).lookup ("reached":Str)=some (V.ref A.rh):=by
 simp[vf,List.lookup_cons,BH (a:="reached") (b:="name_values") (by decide +kernel),BH (a:="reached") (b:="record_values") (by decide +kernel),BH (a:="reached") (b:="piece_values") (by decide +kernel),BH (a:="reached") (b:="record_marks") (by decide +kernel),BH (a:="reached") (b:="piece_marks") (by decide +kernel),BH (a:="reached") (b:="leads") (by decide +kernel),BH (a:="reached") (b:="namings") (by decide +kernel)]
theorem KA{A:VA}{x:Str}(h:(EU x "name_values" || EU x "record_values" || EU x "piece_values" || EU x "record_marks" || EU x "piece_marks" || EU x "leads" || EU x "namings" || EU x "reached")=false):(vf A).lookup x=none:=by
 simp only[Bool.or_eq_false_iff]at h
 obtain⟨⟨⟨⟨⟨⟨⟨h1,h2⟩,h3⟩,h4⟩,h5⟩,h6⟩,h7⟩,h8⟩:=h
 simp[vf,List.lookup_cons,BH h1,BH h2,BH h3,BH h4,BH h5,BH h6,BH h7,BH h8]
section
variable{tt:TT}{te:TE}{cap:List Nat}{σ:St}
theorem FS{H0 H':Hp}{l:Addr}{o:HO}(s:Same H0 H')(h:H' l=none):Same H0 (upd H' l o):=s.trans (A0 h)
def FnW(H:Hp)(is:List Nat)(p:Nat->Bool)(f:Nat->List V)(i:Nat)(ys:List V)(H':Hp):Prop:=Same H H'/\∃ ps:List Addr,ys=ps.map V.ref/\Paired (λq g=>H' q=some (.tup g)) ps (((is.take i).filter p).map f)
theorem EW{α :Type}{l:List α}{i:Nat}{x: α}(h:l[i]? =some x):l.take (i+1)=l.take i++[x]:=by
 obtain⟨g1,g2⟩:=List.getElem?_eq_some_iff.mp h
 rw[<-g2,List.take_append_getElem]
theorem FnW.yes{is:List Nat}{p:Nat->Bool}{f:Nat->List V}{i k:Nat}{ys:List V}{H':Hp}{t:Addr}(h:FnW H is p f i ys H')(hk:is[i]? =some k)(hp:p k=true)(ht:H' t=none):FnW H is p f (i+1) (ys++[.ref t]) (upd H' t (.tup (f k))):=by
 obtain⟨s,ps,e,P⟩:=h
 refine⟨FS s ht,ps++[t],by rw[e,List.map_append];rfl,?_⟩
 rw[EW hk,List.filter_append,List.map_append]
 have:([k].filter p).map f=[f k]:=by simp[hp]
 rw[this]
 exact Paired.snoc (Paired.mapP P λq g e=>A0 ht _ _ e) AS
theorem FnW.no{is:List Nat}{p:Nat->Bool}{f:Nat->List V}{i k:Nat}{ys:List V}{H':Hp}(h:FnW H is p f i ys H')(hk:is[i]? =some k)(hp:p k=false):FnW H is p f (i+1) ys H':=by
 obtain⟨s,ps,e,P⟩:=h
 refine⟨s,ps,e,?_⟩
 rw[EW hk,List.filter_append,List.map_append]
 have:([k].filter p).map f=[]:=by simp[hp]
 rw[this,List.append_nil]
 exact P
theorem FnW.len{is:List Nat}{p:Nat->Bool}{f:Nat->List V}{i:Nat}{ys:List V}{H':Hp}(h:FnW H is p f i ys H'):ys.length<=i:=by
 obtain⟨s,ps,e,P⟩:=h
 rw[e,List.length_map,P.length,List.length_map]
 exact Nat.le_trans (List.length_filter_le ..) (by rw[List.length_take];omega)
theorem FnW.fin{is:List Nat}{p:Nat->Bool}{f:Nat->List V}{ys:List V}{H':Hp}{l:Addr}(h:FnW H is p f is.length ys H')(hl:H' l=none):H l=none/\Same H (upd H' l (.lst ys))/\FindsL (upd H' l (.lst ys)) l ((is.filter p).map f):=by
 obtain⟨s,ps,e,P⟩:=h
 rw[List.take_length]at P
 subst e
 exact⟨s.free hl,FS s hl,ps,AS,Paired.mapP P λq g e=>A0 hl _ _ e⟩
theorem G5{b:Addr}{is:List Nat}(p:Nat->Bool)(f:Nat->List V)(hb:H b=some (.lst (AW is)))(hn:is.length<=1000)
  (ht:∀ k∈is,∀ H',Same H H'->∀ QB:Bool->Hp->Prop,QB (p k) H'->tt (some (.int (k:Int))::BL cap σ) H' QB)
  (he:∀ k∈is,p k=true->∀ H' (Q':VK),Same H H'->(∀ t,H' t=none->Q' (.ref t) (upd H' t (.tup (f k))))->te (some (.int (k:Int))::BL cap σ) H' Q') (hd:newF ((is.filter p).map f) H Q):DN (E9 K b) (AL 0) tt te 1 cap σ H Q:=by
 have hl:(AW is).length=is.length:=by simp[AW]
 have at':∀ {i:Nat} {x:V},(AW is)[i]? =some x->∃ k,is[i]? =some k/\x=.int k:=λe=>by
  unfold AW at e
  rw[List.getElem?_map,Option.map_eq_some_iff]at e
  obtain⟨k,h1,h2⟩:=e
  exact⟨k,h1,h2.symm⟩
 refine Z1 (xs:=AW is) (λi=>match is[i]? with
  | some k=>p k
  | none=>false) (small _ (by omega)) (FnW H is p f) ⟨Same.refl _,[],rfl,.nil⟩ (λi ys H' _ h=>⟨SqL.of (h.1 _ _ hb),h.len⟩) (λi x ys H' hx h QB qb=> ?_) (λi x ys H' hx hp h=> ?_) (λi x ys H' hx hp h=> ?_) (λys H' h q hq=> ?_)
 ·obtain⟨k,ek,rfl⟩:=at' hx
  simp only[ek]at qb
  exact ht k (List.mem_of_getElem? ek) H' h.1 QB qb
 ·obtain⟨k,ek,rfl⟩:=at' hx
  simp only[ek]at hp
  exact he k (List.mem_of_getElem? ek) hp H' _ h.1 λt ht0=>h.yes ek hp ht0
 ·obtain⟨k,ek,rfl⟩:=at' hx
  simp only[ek]at hp
  exact h.no ek hp
 ·rw[hl]at h
  obtain⟨h1,h2,h3⟩:=h.fin hq
  exact hd q _ h1 h2 h3
theorem Ql{n:Nat}(p:Nat->Bool)(f:Nat->List V)(hn:n<=1000)
  (ht:∀ k,k<n->∀ H',Same H H'->∀ QB:Bool->Hp->Prop,QB (p k) H'->tt (some (.int (k:Int))::BL cap σ) H' QB)
  (he:∀ k,k<n->p k=true->∀ H' (Q':VK),Same H H'->(∀ t,H' t=none->Q' (.ref t) (upd H' t (.tup (f k))))->te (some (.int (k:Int))::BL cap σ) H' Q') (hd:newF (CC n p f) H Q):DN (EB 0 n) (AL 0) tt te 1 cap σ H Q:=by
 refine wM (n:=n) p (small _ (by omega)) (FnW H (List.range n) p f) ⟨Same.refl _,[],rfl,.nil⟩ (λi ys H' _ h=>h.len) (λi ys H' hi h QB qb=>ht i hi H' h.1 QB qb) (λi ys H' hi hp h=>he i hi hp H' _ h.1 λt ht0=>h.yes (List.getElem?_range hi) hp ht0) (λi ys H' hi hp h=>h.no (List.getElem?_range hi) hp) (λys H' h q hq=> ?_)
 have h:FnW H (List.range n) p f (List.range n).length ys H':=by rw[List.length_range];exact h
 obtain⟨h1,h2,h3⟩:=h.fin hq
 exact hd q _ h1 h2 h3
theorem O0{b:Addr}{xs:List V}(p:Nat->Bool)(hb:H b=some (.lst xs))(hn:xs.length<=1000)
  (ht:∀ i x,xs[i]? =some x->∀ H',Same H H'->∀ QB:Bool->Hp->Prop,QB (p i) H'->tt (some (.int (i:Int))::some x::BL cap σ) H' QB) (hd:newL (AW ((List.range xs.length).filter p)) H Q):DN (JQ K b) (E8 K 2 (DF (AL 0) (DF (AL 1) E7))) tt (AA 0) 2 cap σ H Q:=by
 refine TJ (xs:=xs) p (small _ (by omega)) (λi ys H'=>Same H H'/\ys=AW ((List.range i).filter p)) ⟨Same.refl _,rfl⟩ (λi ys H' _ ⟨s,e⟩=>⟨SqL.of (s _ _ hb),?_⟩) (λi ys H' t o ⟨s,e⟩ h=>⟨FS s h,e⟩) (λi x ys H' hx ⟨s,e⟩ QB qb=>ht i x hx H' s QB qb) (λi x ys H' hx hp ⟨s,e⟩=>by rw[ZE];exact⟨s,by rw[e];unfold AW;rw[List.range_succ,List.filter_append,List.map_append];simp[hp]⟩) (λi x ys H' hx hp ⟨s,e⟩=>⟨s,?_⟩) (λys H' ⟨s,e⟩ q hq=> ?_)
 ·rw[e]
  unfold AW
  rw[List.length_map]
  exact Nat.le_trans (List.length_filter_le ..) (by rw[List.length_range];omega)
 ·rw[e]
  unfold AW
  rw[List.range_succ,List.filter_append,List.map_append]
  simp[hp]
 ·subst e
  exact hd q _ (s.free hq) (FS s hq) AS
end
theorem ViewAt.rl{x:Addr}{A:VA}{vw:Vw}(h:ViewAt a H x A vw):∃ vs,H A.r=some (.lst vs)/\vs.length=vw.rc.length:=by
 obtain⟨vs,e,P⟩:=h.r
 exact⟨vs,e,P.length⟩
theorem LP{v:V}{c:EV}(h:RcV H v c):decide (v=.non)=c.isNone:=by
 cases c with
 | none=>rw[show v=.non from h];rfl
 | some c=>obtain⟨p,q,rfl,_⟩:=h;rfl
theorem jV{v:V}{c:G0}(h:NmV H v c):decide (v=.non)=c.isNone:=by
 cases c with
 | none=>rw[show v=.non from h];rfl
 | some c=>obtain⟨p,rfl,_⟩:=h;rfl
theorem jW{v:V}{c:Option Str}(h:PcV H v c):decide (v=.non)=c.isNone:=by
 cases c with
 | none=>rw[show v=.non from h];rfl
 | some c=>rw[show v=.str c from h];rfl
theorem Qm(h:JX K a vs H Q E):T3 K a (λ_=>E) (A5 Q) (A1 ["self","record"] vs) H:=by
 obtain⟨x,A,vw,r,c,rfl,T,I,hc,q⟩:=h
 obtain⟨dx,e⟩:=I.ob
 have hr:r<vw.rc.length:=by
  unfold AF at hc
  cases e2:vw.rc[r]? with
  | none=>rw[e2]at hc;cases hc
  | some _=>exact(List.getElem?_eq_some_iff.mp e2).1
 obtain⟨us,v,e1,hl,ev,hv⟩:=I.r.at hr
 rw[hc]at hv
 obtain⟨p,q',rfl,h1,h2⟩:=hv
 push_cast[T3,↓xO]
 exact⟨_,_,_,e,T.cl,T.n2,_,RF,BU (SqL.of e1) (n:=r) rfl ev (BZ h1 (n:=0) rfl rfl q)⟩
theorem Qp(h:JX K a vs H Q E):vs.length=2:=by
 obtain⟨_,_,_,_,_,rfl,_⟩:=h
 rfl
theorem Qq(h:JW K a vs H Q E):T1 K a (λ_=>E) (A5 Q) (A1 ["self"] vs) H:=by
 obtain⟨x,A,vw,rfl,T,I,q⟩:=h
 obtain⟨dx,e⟩:=I.ob
 obtain⟨us,e1,P⟩:=I.r
 have br:=I.ok.br
 have hl:=P.length
 push_cast[T1,↓xM]
 refine⟨_,_,_,e,T.cl,T.n2,_,RF,A.r,rfl,⟨_,SqL.of e1⟩,O0 (λr=>(AF vw.rc r).isSome) e1 (by omega) (λi v hv H' s QB qb=> ?_) ?_⟩
 ·have hi:=(List.getElem?_eq_some_iff.mp hv).1
  obtain⟨us',v',e1',_,ev,hr⟩:=I.r.at (k:=i) (by omega)
  rw[e1]at e1';cases e1'
  rw[hv]at ev;cases ev
  push_cast[]
  rw[LP hr]
  simpa using qb
 ·rw[hl];exact q
theorem Qv(h:JW K a vs H Q E):vs.length=1:=by
 obtain⟨_,_,_,rfl,_⟩:=h
 rfl
theorem RG(n:Nat):decide ((0:Int)<(n:Int))=decide (0<n):=by simp
theorem Qw(n:Nat):decide ((1:Int)<(n:Int))=decide (1<n):=by
 rw[decide_eq_decide];omega
theorem jX(n:Nat):decide ((n:Int)=(0:Int))=decide (n=0):=by simp
theorem CN(l:List Nat):(AW l).length=l.length:=by simp[AW]
theorem GH(n:Nat)(f:Nat->Nat):((List.range n).map f).length=n:=by simp
theorem Qx(h:IW K a vs H Q E):T2 K a (λ_=>E) (A5 Q) (A1 ["self"] vs) H:=by
 obtain⟨x,A,vw,rfl,T,I,q⟩:=h
 obtain⟨dx,e⟩:=I.ob
 have bp:=I.ok.bp
 have e1:=I.ng
 push_cast[T2,↓xN]
 refine⟨_,_,_,e,T.cl,T.n7,_,jU,A.ng,rfl,⟨_,SqL.of e1⟩,O0 (λp=>decide (0<EC vw p)) e1 (by rw[CN,GH];omega) (λi v hv H' s QB qb=> ?_) ?_⟩
 ·have hi:=(List.getElem?_eq_some_iff.mp hv).1
  rw[CN,GH]at hi
  rw[LN (HP hi)]at hv
  cases hv
  push_cast[]
  rw[RG]
  exact qb
 ·rw[CN,GH];exact q
theorem Qy(h:IW K a vs H Q E):vs.length=1:=by
 obtain⟨_,_,_,rfl,_⟩:=h
 rfl
theorem Qz(h:OF K a vs H Q E):TZ K a (λ_=>E) (A5 Q) (A1 ["self"] vs) H:=by
 obtain⟨x,ar,al,vw,rfl,T,⟨dx,fs,e,l1⟩,⟨dx',fs',e',l2⟩,hr,hal,br,q⟩:=h
 rw[e]at e'
 cases e'
 have hr':=hr
 obtain⟨us,e1,P⟩:=hr
 have hl:=P.length
 push_cast[TZ,↓xL]
 refine⟨_,_,_,e,T.cl,T.n2,_,l1,ar,rfl,⟨_,SqL.of e1⟩,?_⟩
 refine TJ (xs:=us) (λr=>decide (0<led vw r)) (small _ (by omega)) (λi ys H'=>Same H H'/\Paired (RcV H') ys (((List.range i).filter λr=>decide (0<led vw r)).map (AF vw.rc))) ⟨Same.refl _,.nil⟩ (λi ys H' _ ⟨s,e⟩=>⟨SqL.of (s _ _ e1),?_⟩) (λi ys H' t o ⟨s,P'⟩ h=>⟨FS s h,Paired.mapP P' λv c=>RcV.keep (A0 h).tk⟩) (λi v ys H' hv ⟨s,P'⟩ QB qb=> ?_) (λi v ys H' hv hp ⟨s,P'⟩=> ?_) (λi v ys H' hv hp ⟨s,P'⟩=>⟨s,?_⟩) (λys H' ⟨s,P'⟩ p hp=> ?_)
 ·rw[e.length,List.length_map]
  exact Nat.le_trans (List.length_filter_le ..) (by rw[List.length_range];omega)
 ·have hi:=(List.getElem?_eq_some_iff.mp hv).1
  push_cast[BL]
  refine⟨_,_,_,s _ _ e,T.cl,T.n6,_,l2,FR (s _ _ hal) (by omega) ?_⟩
  push_cast[]
  rw[RG]
  exact qb
 ·have hi:=(List.getElem?_eq_some_iff.mp hv).1
  obtain⟨us',v',e1',_,ev,hrv⟩:=hr'.at (k:=i) (by omega)
  rw[e1]at e1';cases e1'
  rw[hv]at ev;cases ev
  push_cast[]
  refine⟨s,?_⟩
  rw[List.range_succ,List.filter_append,List.map_append]
  have:(([i].filter λr=>decide (0<led vw r)).map (AF vw.rc))=[AF vw.rc i]:=by simp[hp]
  rw[this]
  exact Paired.snoc P' (RcV.keep s.tk hrv)
 ·rw[List.range_succ,List.filter_append,List.map_append]
  have:(([i].filter λr=>decide (0<led vw r)).map (AF vw.rc))=[]:=by simp[hp]
  rw[this,List.append_nil]
  exact P'
 ·rw[hl]at P'
  exact q p _ (s.free hp) (FS s hp) ⟨ys,AS,Paired.mapP P' λv c=>RcV.keep (A0 hp).tk⟩
theorem Rb(h:OF K a vs H Q E):vs.length=1:=by
 obtain⟨_,_,_,_,rfl,_⟩:=h
 rfl
theorem RH{H0:Hp}{v:V}{c:Option Int}{Q:VK}(h:MkV H0 v c)(q:Q (.bl (decide (c=some 1))) H):BY K v (.int 1) H Q:=by
 cases c with
 | none =>
  rw[show v=.non from h,ZG]
  simpa using q
 | some j =>
  rw[show v=.int j from h,ZF]
  simpa using q
theorem jY{H0:Hp}{v:V}{c:Option Int}{Q:VK}(h:MkV H0 v c)(q:Q (.bl (!decide (c=some 1))) H):B1 K v (.int 1) H Q:=by
 cases c with
 | none =>
  rw[show v=.non from h,ZI]
  simpa using q
 | some j =>
  rw[show v=.int j from h,ZH]
  simpa using q
theorem FT{n:Nat}{p q r:Nat->Bool}{f:Nat->List V}(h:∀ k,k<n->(p k && q k)=r k):(((List.range n).filter p).filter q).map f=CC n r f:=by
 unfold CC
 rw[List.filter_filter]
 congr 1
 refine List.filter_congr λk hk=> ?_
 rw[Bool.and_comm]
 exact h k (List.mem_range.mp hk)
theorem GI{n:Nat}{p:Nat->Bool}(h:n<=100):((List.range n).filter p).length<=1000:=Nat.le_trans (List.length_filter_le ..) (by rw[List.length_range];omega)
theorem EN{n k:Nat}{p:Nat->Bool}(h:k∈(List.range n).filter p):k<n/\p k=true:=by
 obtain⟨h1,h2⟩:=List.mem_filter.mp h
 exact⟨List.mem_range.mp h1,h2⟩
theorem newF.of{fs:List (List V)}{H1:Hp}(q:newF fs H Q)(s:Same H H1):newF fs H1 Q:=λl H' hl s' F=>q l H' (s.free hl) (s.trans s') F
theorem newL.of{xs:List V}{H1:Hp}(q:newL xs H Q)(s:Same H H1):newL xs H1 Q:=λl H' hl s' F=>q l H' (s.free hl) (s.trans s') F
theorem Rc(h:OK K a vs H Q E):T6 K a (λ_=>E) (A5 Q) (A1 ["view","marked"] vs) H:=by
 obtain⟨x,A,vw,rfl,T,I,q⟩:=h
 obtain⟨dx,e⟩:=I.ob
 obtain⟨us,e1,P⟩:=I.pm
 have bp:=I.ok.bp
 have l2:=I.ok.l2
 have hl:=P.length
 push_cast[T6,↓x6]
 refine⟨_,_,_,e,T.cl,T.n5,_,jT,A.pm,rfl,⟨_,SqL.of e1⟩,O0 (λp=>decide (AF vw.pm p=some 1)) e1 (by omega) (λi v hv H' s QB qb=> ?_) λl H1 hl1 s1 el=> ?_⟩
 ·have hi:=(List.getElem?_eq_some_iff.mp hv).1
  obtain⟨us',v',e1',_,ev,hr⟩:=I.pm.at (k:=i) (by omega)
  rw[e1]at e1';cases e1'
  rw[hv]at ev;cases ev
  push_cast[]
  exact RH hr ⟨_,rfl,qb⟩
 ·rw[hl,l2]at el
  push_cast[↓x8]
  refine .inl ⟨⟨_,SqL.of el⟩,G5 (λp=>decide (DI vw p=0)) (λp=>[.str "left",.str "piece",.int p]) el (GI bp) (λk hk H' s QB qb=> ?_) (λk hk hp H' Q' s q'=> ?_) ?_⟩
  ·obtain⟨hk,_⟩:=EN hk
   have s':=s1.trans s
   push_cast[BL]
   refine⟨_,_,_,s' _ _ e,T.cl,T.n8,_,Qk,FR (s' _ _ I.rh) hk ?_⟩
   push_cast[]
   rw[jX]
   exact qb
  ·push_cast[]
   exact⟨by decide,q'⟩
  ·rw[FT λk _=>rfl]
   exact q.of s1
theorem Rg(h:OK K a vs H Q E):vs.length=1:=by
 obtain⟨_,_,_,rfl,_⟩:=h
 rfl
theorem Rh(h:OL K a vs H Q E):T7 K a (λ_=>E) (A5 Q) (A1 ["view","marked"] vs) H:=by
 obtain⟨x,A,vw,rfl,T,I,q⟩:=h
 obtain⟨dx,e⟩:=I.ob
 obtain⟨us,e1,P⟩:=I.rm
 have bp:=I.ok.br
 have l2:=I.ok.l1
 have hl:=P.length
 push_cast[T7,↓x9]
 refine⟨_,_,_,e,T.cl,T.n4,_,jS,A.rm,rfl,⟨_,SqL.of e1⟩,O0 (λp=>decide (AF vw.rm p=some 1)) e1 (by omega) (λi v hv H' s QB qb=> ?_) λl H1 hl1 s1 el=> ?_⟩
 ·have hi:=(List.getElem?_eq_some_iff.mp hv).1
  obtain⟨us',v',e1',_,ev,hr⟩:=I.rm.at (k:=i) (by omega)
  rw[e1]at e1';cases e1'
  rw[hv]at ev;cases ev
  push_cast[]
  exact RH hr ⟨_,rfl,qb⟩
 ·rw[hl,l2]at el
  push_cast[↓yA]
  refine .inl ⟨⟨_,SqL.of el⟩,G5 (λr=>(AF vw.rc r).isNone) (λr=>[.str "marked",.int r]) el (GI bp) (λk hk H' s QB qb=> ?_) (λk hk hp H' Q' s q'=> ?_) ?_⟩
  ·obtain⟨hk,_⟩:=EN hk
   have s':=s1.trans s
   have I':=I.same s'
   obtain⟨us',v',e1',_,ev,hr⟩:=I'.r.at hk
   push_cast[BL]
   refine⟨_,_,_,s' _ _ e,T.cl,T.n2,_,RF,BU (SqL.of e1') (n:=k) rfl ev ?_⟩
   push_cast[]
   rw[LP hr]
   exact qb
  ·push_cast[]
   exact⟨by decide,q'⟩
  ·rw[FT λk _=>rfl]
   exact q.of s1
theorem Rj(h:OL K a vs H Q E):vs.length=1:=by
 obtain⟨_,_,_,rfl,_⟩:=h
 rfl
theorem GJ{α β :Type}{F: α -> β ->Prop}:∀ {l l':List α} {m m':List β},Paired F l m->Paired F l' m'->Paired F (l++l') (m++m')
 | _,_,_,_,.nil,h=>h
 | _,_,_,_,.cons x r,h=>.cons x (GJ r h)
theorem DB{n:Nat}{p:Nat->Bool}{f:Nat->List V}(h:n<=100):(CC n p f).length<=100:=by
 unfold CC
 rw[List.length_map]
 exact Nat.le_trans (List.length_filter_le ..) (by rw[List.length_range];exact h)
theorem FD{l1 l2:Addr}{f1 f2:List (List V)}{Q:VK}(h1:FindsL H l1 f1)(h2:FindsL H l2 f2)(hn:f1.length+f2.length<=10000)(q:newF (f1++f2) H Q):A7 K (.ref l1) (.ref l2) H Q:=by
 obtain⟨p1,e1,P1⟩:=h1
 obtain⟨p2,e2,P2⟩:=h2
 refine .inl ⟨l1,l2,_,_,rfl,rfl,e1,e2,small _ (by rw[List.length_map,List.length_map,P1.length,P2.length];omega),λp hp=> ?_⟩
 exact q p _ hp (A0 hp) ⟨p1++p2,by rw[AS,List.map_append],Paired.mapP (GJ P1 P2) λx f e=>A0 hp _ _ e⟩
theorem O1{vw:Vw}(ok:D3 vw):(OD vw).length<=200/\(LG vw).length<=300/\(OE vw).length<=200/\(IS vw).length<=200/\(IT vw).length<=100/\(IU vw).length<=100:=by
 have i1:=@DB
 unfold OD LG OE IS IT IU
 simp only[List.length_append]
 have a1:=DB (p:=FO vw) (f:=λk=>[.str "lost",.int k]) ok.bn
 have a2:=DB (p:=GE vw) (f:=λk=>[.str "twice",.int k]) ok.bn
 have a3:=DB (p:=λp=>decide (1<EC vw p)) (f:=λp=>[.str "shared",.int p]) ok.bp
 have a4:=DB (p:=λp=>decide (0<EC vw p) && (AF vw.pc p).isNone) (f:=λp=>[.str "empty",.int p]) ok.bp
 have a5:=DB (p:=G2 vw) (f:=λr=>[.str "few",.int r]) ok.br
 have a6:=DB (p:=λr=>decide (0<led vw r) && !decide (AF vw.rm r=some 1)) (f:=λr=>[.str "free",.str "record",.int r]) ok.br
 have a7:=DB (p:=λp=>decide (0<EC vw p) && !decide (AF vw.pm p=some 1)) (f:=λp=>[.str "free",.str "piece",.int p]) ok.bp
 have a8:=DB (p:=D7 vw) (f:=λr=>[.str "many",.int r,.int (led vw r)]) ok.br
 have a9:=DB (p:=λr=>(AF vw.rc r).isSome && decide (led vw r=0)) (f:=λr=>[.str "left",.str "record",.int r]) ok.br
 have b1:=DB (p:=λp=>decide (AF vw.pm p=some 1) && decide (DI vw p=0)) (f:=λp=>[.str "left",.str "piece",.int p]) ok.bp
 have b2:=DB (p:=λr=>decide (AF vw.rm r=some 1) && (AF vw.rc r).isNone) (f:=λr=>[.str "marked",.int r]) ok.br
 omega
theorem Rk(h:JY K a vs H Q E):U8 K a (λ_=>E) (A5 Q) (A1 ["view"] vs) H:=by
 obtain⟨x,A,vw,rfl,T,I,q⟩:=h
 obtain⟨n1,n2,n3,_⟩:=O1 I.ok
 push_cast[U8,↓Eg]
 refine⟨x,A,vw,rfl,T,I,λl1 H1 h1 s1 F1=>⟨x,A,vw,rfl,T,I.same s1,λl2 H2 h2 s2 F2=>FD (F1.same s2) F2 (by omega) λl3 H3 h3 s3 F3=>⟨x,A,vw,rfl,T,I.same ((s1.trans s2).trans s3),λl4 H4 h4 s4 F4=>FD (F3.same s4) F4 (by simp only[List.length_append];omega) ?_⟩⟩⟩
 exact q.of (((s1.trans s2).trans s3).trans s4)
theorem Rl(h:JY K a vs H Q E):vs.length=1:=by
 obtain⟨_,_,_,rfl,_⟩:=h
 rfl
theorem Rm(h:OM K a vs H Q E):U9 K a (λ_=>E) (A5 Q) (A1 ["view"] vs) H:=by
 obtain⟨x,A,vw,rfl,T,I,q⟩:=h
 obtain⟨_,_,_,n1,n2,n3⟩:=O1 I.ok
 push_cast[U9,↓Eh]
 refine⟨x,A,vw,rfl,T,I,λl1 H1 h1 s1 F1=>⟨x,A,vw,rfl,T,I.same s1,λl2 H2 h2 s2 F2=>FD (F1.same s2) F2 (by omega) λl3 H3 h3 s3 F3=>⟨x,A,vw,rfl,T,I.same ((s1.trans s2).trans s3),λl4 H4 h4 s4 F4=>FD (F3.same s4) F4 (by simp only[List.length_append];omega) ?_⟩⟩⟩
 exact q.of (((s1.trans s2).trans s3).trans s4)
theorem Rp(h:OM K a vs H Q E):vs.length=1:=by
 obtain⟨_,_,_,rfl,_⟩:=h
 rfl
theorem Rq(h:OI K a vs H Q E):UQ K a (λ_=>E) (A5 Q) (A1 ["view","led_to","records","pieces"] vs) H:=by
 obtain⟨x,A,vw,rfl,T,I,q⟩:=h
 obtain⟨dx,e⟩:=I.ob
 have br:=I.ok.br
 have bp:=I.ok.bp
 push_cast[UQ,↓zW]
 refine⟨_,_,_,e,T.cl,T.n6,_,WA,A.ld,rfl,⟨_,SqL.of I.ld⟩,O0 (λp=>decide (0<led vw p)) I.ld (by rw[CN,GH];omega) (λi v hv H' s QB qb=> ?_) λl H1 hl1 s1 el=> ?_⟩
 ·have hi:=(List.getElem?_eq_some_iff.mp hv).1
  rw[CN,GH]at hi
  rw[LN (HP hi)]at hv
  cases hv
  push_cast[]
  rw[RG]
  exact qb
 ·rw[CN,GH]at el
  push_cast[↓zX]
  refine .inl ⟨⟨_,SqL.of el⟩,G5 (λr=> !decide (AF vw.rm r=some 1)) (λr=>[.str "free",.str "record",.int r]) el (GI br) (λk hk H' s QB qb=> ?_) (λk hk hp H' Q' s q'=> ?_) ?_⟩
  ·obtain⟨hk,_⟩:=EN hk
   have s':=s1.trans s
   have I':=I.same s'
   obtain⟨us',v',e1',_,ev,hr⟩:=I'.rm.at (k:=k) (by rw[I.ok.l1];exact hk)
   push_cast[BL]
   refine⟨_,_,_,s' _ _ e,T.cl,T.n4,_,jS,BU (SqL.of e1') (n:=k) rfl ev ?_⟩
   exact jY hr ⟨_,rfl,qb⟩
  ·push_cast[]
   exact⟨by decide,q'⟩
  rw[FT λk _=>rfl]
  intro l2 H2 hl2 s2 F2
  have I2:=I.same (s1.trans s2)
  obtain⟨dx2,e2⟩:=I2.ob
  push_cast[↓zY]
  refine⟨_,_,e2,KA (by decide +kernel),x,A,vw,rfl,T,I2,λl3 H3 hl3 s3 el3=>⟨l3,rfl,.inl ⟨⟨_,SqL.of el3⟩,G5 (λp=> !decide (AF vw.pm p=some 1)) (λp=>[.str "free",.str "piece",.int p]) el3 (GI bp) (λk hk H' s QB qb=> ?_) (λk hk hp H' Q' s q'=> ?_) ?_⟩⟩⟩
  ·obtain⟨hk,_⟩:=EN hk
   have I':=(I2.same s3).same s
   obtain⟨dx',e'⟩:=I'.ob
   obtain⟨us',v',e1',_,ev,hr⟩:=I'.pm.at (k:=k) (by rw[I.ok.l2];exact hk)
   push_cast[BL]
   refine⟨_,_,_,e',T.cl,T.n5,_,jT,BU (SqL.of e1') (n:=k) rfl ev ?_⟩
   exact jY hr ⟨_,rfl,qb⟩
  ·push_cast[]
   exact⟨by decide,q'⟩
  rw[FT λk _=>rfl]
  intro l4 H4 hl4 s4 F4
  push_cast[↓zZ]
  have n1:=DB (p:=λr=>decide (0<led vw r) && !decide (AF vw.rm r=some 1)) (f:=λr=>[.str "free",.str "record",.int r]) br
  have n2:=DB (p:=λp=>decide (0<EC vw p) && !decide (AF vw.pm p=some 1)) (f:=λp=>[.str "free",.str "piece",.int p]) bp
  exact FD (F2.same (s3.trans s4)) F4 (by omega) (q.of (((s1.trans s2).trans s3).trans s4))
theorem Rv(h:OI K a vs H Q E):vs.length=1:=by
 obtain⟨_,_,_,rfl,_⟩:=h
 rfl
theorem Rw(h:OH K a vs H Q E):UP K a (λ_=>E) (A5 Q) (A1 ["view","shared","empty","few"] vs) H:=by
 obtain⟨x,A,vw,rfl,T,I,q⟩:=h
 obtain⟨dx,e⟩:=I.ob
 have br:=I.ok.br
 have bp:=I.ok.bp
 push_cast[UP,↓zS]
 refine⟨_,_,e,KA (by decide +kernel),x,A,vw,rfl,T,I,λl1 H1 hl1 s1 el1=>⟨l1,rfl,.inl ⟨⟨_,SqL.of el1⟩,G5 (λp=>decide (1<EC vw p)) (λp=>[.str "shared",.int p]) el1 (GI bp) (λk hk H' s QB qb=> ?_) (λk hk hp H' Q' s q'=> ?_) ?_⟩⟩⟩
 ·obtain⟨hk,_⟩:=EN hk
  have I':=(I.same s1).same s
  obtain⟨dx',e'⟩:=I'.ob
  push_cast[BL]
  refine⟨_,_,_,e',T.cl,T.n7,_,jU,FR I'.ng hk ?_⟩
  push_cast[]
  rw[Qw]
  exact qb
 ·push_cast[]
  exact⟨by decide,q'⟩
 rw[FT (r:=λp=>decide (1<EC vw p)) λk _=>by
  by_cases h:1<EC vw k
  ·simp[h];omega
  ·simp[h]]
 intro l2 H2 hl2 s2 F2
 have I2:=I.same (s1.trans s2)
 obtain⟨dx2,e2⟩:=I2.ob
 push_cast[↓zT]
 refine⟨_,_,e2,KA (by decide +kernel),x,A,vw,rfl,T,I2,λl3 H3 hl3 s3 el3=>⟨l3,rfl,.inl ⟨⟨_,SqL.of el3⟩,G5 (λp=>(AF vw.pc p).isNone) (λp=>[.str "empty",.int p]) el3 (GI bp) (λk hk H' s QB qb=> ?_) (λk hk hp H' Q' s q'=> ?_) ?_⟩⟩⟩
 ·obtain⟨hk,_⟩:=EN hk
  have I':=(I2.same s3).same s
  obtain⟨dx',e'⟩:=I'.ob
  obtain⟨us',v',e1',_,ev,hr⟩:=I'.p.at hk
  push_cast[BL]
  refine⟨_,_,_,e',T.cl,T.n3,_,Qj,BU (SqL.of e1') (n:=k) rfl ev ?_⟩
  push_cast[]
  rw[jW hr]
  exact qb
 ·push_cast[]
  exact⟨by decide,q'⟩
 rw[FT λk _=>rfl]
 intro l4 H4 hl4 s4 F4
 have I4:=(I2.same s3).same s4
 obtain⟨dx4,e4⟩:=I4.ob
 push_cast[↓zU]
 refine⟨_,_,e4,KA (by decide +kernel),x,A,vw,rfl,T,I4,λl5 H5 hl5 s5 el5=>⟨l5,rfl,.inl ⟨⟨_,SqL.of el5⟩,G5 (G2 vw) (λr=>[.str "few",.int r]) el5 (GI br) (λk hk H' s QB qb=> ?_) (λk hk hp H' Q' s q'=> ?_) ?_⟩⟩⟩
 ·obtain⟨hk,hs⟩:=EN hk
  obtain⟨c,hc⟩:=Option.isSome_iff_exists.mp hs
  have I':=(I4.same s5).same s
  obtain⟨dx',e'⟩:=I'.ob
  push_cast[BL]
  refine⟨_,_,e',KA (by decide +kernel),x,A,vw,k,c,rfl,T,I',hc,_,_,_,e',T.cl,T.n6,_,WA,FR I'.ld hk ?_⟩
  push_cast[]
  unfold G2 at qb
  rw[hc]at qb
  exact qb
 ·push_cast[]
  exact⟨by decide,q'⟩
 rw[FT (r:=G2 vw) λk _=>by
  unfold G2
  cases AF vw.rc k<;>simp]
 intro l6 H6 hl6 s6 F6
 push_cast[↓zV]
 have n1:=DB (p:=λp=>decide (1<EC vw p)) (f:=λp=>[.str "shared",.int p]) bp
 have n2:=DB (p:=λp=>decide (0<EC vw p) && (AF vw.pc p).isNone) (f:=λp=>[.str "empty",.int p]) bp
 have n3:=DB (p:=G2 vw) (f:=λr=>[.str "few",.int r]) br
 have s26:=((s3.trans s4).trans s5).trans s6
 refine FD (F2.same s26) (F4.same (s5.trans s6)) (by omega) λl7 H7 hl7 s7 F7=>FD F7 (F6.same s7) (by simp only[List.length_append];omega) ?_
 exact q.of (((s1.trans s2).trans s26).trans s7)
theorem Rx(h:OH K a vs H Q E):vs.length=1:=by
 obtain⟨_,_,_,rfl,_⟩:=h
 rfl
def TwoL(H:Hp)(l1 l2:Addr)(f1 f2:List (List V))(H':Hp):Prop:=SameBut (λy=>y=l1\/y=l2) H H'/\FindsL H' l1 f1/\FindsL H' l2 f2/\l1≠l2
theorem TwoL.same{l1 l2:Addr}{f1 f2:List (List V)}{H1 H2:Hp}(h:TwoL H l1 l2 f1 f2 H1)(s:Same H1 H2):TwoL H l1 l2 f1 f2 H2:=⟨h.1.trans s.sb,h.2.1.same s,h.2.2.1.same s,h.2.2.2⟩
theorem Ry{l1 l2 t:Addr}{f1 f2:List (List V)}{f:List V}{H':Hp}(h:TwoL H l1 l2 f1 f2 H')(ht:H' t=some (.tup f)):TwoL H l1 l2 (f1++[f]) f2 (upd H' l1 (.lst (((h.2.1).choose++[t]).map V.ref))):=by
 obtain⟨s,F1,F2,n⟩:=h
 have e1:=F1.choose_spec.1
 have P1:=F1.choose_spec.2
 have k:∀ {y:Addr} {g:List V},H' y=some (.tup g)->upd H' l1 (.lst ((F1.choose++[t]).map V.ref)) y=some (.tup g):=λe=>by rw[AT (C5 e e1 (by intro z;cases z))];exact e
 refine⟨λy o e ny=>by rw[AT λz=>ny (.inl z)];exact s _ _ e ny,⟨_,AS,Paired.snoc (Paired.mapP P1 λq g e=>k e) (k ht)⟩,?_,n⟩
 obtain⟨p2,e2,P2⟩:=F2
 exact⟨p2,by rw[AT n.symm];exact e2,Paired.mapP P2 λq g e=>k e⟩
theorem TwoL.flip{l1 l2:Addr}{f1 f2:List (List V)}{H':Hp}(h:TwoL H l1 l2 f1 f2 H'):TwoL H l2 l1 f2 f1 H':=⟨h.1.wide λ_=>Or.symm,h.2.2.1,h.2.1,h.2.2.2.symm⟩
theorem RI{l1 l2 t:Addr}{f1 f2:List (List V)}{f:List V}{H':Hp}{Q:VK}(h:TwoL H l1 l2 f1 f2 H')(hn:f1.length<=1000)(ht:H' t=some (.tup f))(q:∀ H2,TwoL H l1 l2 (f1++[f]) f2 H2->Q .non H2):SS (.ref l1) [.ref t] H' Q:=by
 have e1:=h.2.1.choose_spec.1
 have P1:=h.2.1.choose_spec.2
 refine⟨l1,_,_,rfl,rfl,e1,Nat.lt_of_lt_of_le (show(h.2.1.choose.map V.ref).length<10000 by rw[List.length_map,P1.length];omega) (by decide),?_⟩
 have:=q _ (Ry h ht)
 rw[List.map_append]at this
 exact this
theorem jZ{n:Nat}{p:Nat->Bool}{f:Nat->List V}:CC (n+1) p f=if p n=true then CC n p f++[f n]else CC n p f:=by
 unfold CC
 rw[List.range_succ,List.filter_append,List.map_append]
 split
 ·rename_i h;simp[h]
 ·rename_i h;simp[h]
def FU(is:List Nat)(p:Nat->Bool)(f:Nat->List V)(i:Nat):List (List V):=((is.take i).filter p).map f
theorem j0{is:List Nat}{p:Nat->Bool}{f:Nat->List V}{i k:Nat}(h:is[i]? =some k):FU is p f (i+1)=if p k=true then FU is p f i++[f k]else FU is p f i:=by
 unfold FU
 rw[EW h,List.filter_append,List.map_append]
 split
 ·rename_i h;simp[h]
 ·rename_i h;simp[h]
theorem j3{is:List Nat}{p:Nat->Bool}{f:Nat->List V}{i:Nat}(h:is.length<=1000):(FU is p f i).length<=1000:=by
 unfold FU
 rw[List.length_map]
 exact Nat.le_trans (List.length_filter_le ..) (by rw[List.length_take];omega)
theorem ViewAt.two{x:Addr}{A:VA}{vw:Vw}{l1 l2:Addr}{f1 f2:List (List V)}{H0 H':Hp}(I:ViewAt a H0 x A vw)(s0:Same H0 H)(n1:H0 l1=none)(n2:H0 l2=none)(W:TwoL H l1 l2 f1 f2 H'):ViewAt a H' x A vw :=
 I.same λy o e=>W.1 _ _ (s0 _ _ e) λz=>by
  rcases z with z | z
  ·rw[z,n1]at e;cases e
  ·rw[z,n2]at e;cases e
theorem Rz(h:OJ K a vs H Q E):UR K a (λ_=>E) (A5 Q) (A1 ["view","many","left","record","leads"] vs) H:=by
 obtain⟨x,A,vw,rfl,T,I,q⟩:=h
 have br:=I.ok.br
 push_cast[UR,↓z0,↓z6]
 refine⟨by decide,λl1 hl1=>⟨by decide,λl2 hl2=> ?_⟩⟩
 have n12:l1≠l2:=BE AS hl2
 have s2:Same H (upd (upd H l1 (.lst [])) l2 (.lst [])):=(A0 hl1).trans (A0 hl2)
 have k1:FindsL (upd (upd H l1 (.lst [])) l2 (.lst [])) l1 []:=⟨[],by rw[AT n12,AS];rfl,.nil⟩
 have k2:FindsL (upd (upd H l1 (.lst [])) l2 (.lst [])) l2 []:=⟨[],AS,.nil⟩
 have f2:H l2=none:=(A0 hl1).free hl2
 revert s2 k1 k2
 generalize upd (upd H l1 (.lst [])) l2 (.lst [])=H2
 intro s2 k1 k2
 have I2:=I.same s2
 obtain⟨dx2,e2⟩:=I2.ob
 push_cast[↓Ag]
 refine⟨_,_,e2,KA (by decide +kernel),x,A,vw,rfl,T,I2,λl3 H3 hl3 s3 el3=>⟨l3,rfl,.inl ⟨⟨_,SqL.of el3⟩,?_⟩⟩⟩
 have m1:l1≠l3:=λz=>by
  obtain⟨ps,e,_⟩:=k1
  rw[z,hl3]at e;cases e
 have m2:l2≠l3:=λz=>by
  obtain⟨ps,e,_⟩:=k2
  rw[z,hl3]at e;cases e
 have s03:=s2.trans s3
 let is:=(List.range vw.rc.length).filter λr=>(AF vw.rc r).isSome
 have hil:is.length<=1000:=GI br
 refine IJ (xs:=AW is) (λi σ H'=>TwoL H3 l1 l2 (FU is (D7 vw) (λr=>[.str "many",.int r,.int (led vw r)]) i) (FU is (λr=>decide (led vw r=0)) (λr=>[.str "left",.str "record",.int r]) i) H'/\∃ y3 y4,σ=[some (.ref x),some (.ref l1),some (.ref l2),y3,y4]) ⟨⟨SameBut.refl _,k1.same s3,k2.same s3,n12⟩,_,_,rfl⟩ (λi σ H' _ ⟨W,_⟩=>SqL.of (W.1 _ _ el3 λz=>z.elim (λz=>m1 z.symm) λz=>m2 z.symm)) (λi v σ H' hx ⟨W,y3,y4,eσ⟩=> ?_) (λσ H' ⟨W,y3,y4,eσ⟩=> ?_)
 ·subst eσ
  unfold AW at hx
  rw[List.getElem?_map,Option.map_eq_some_iff]at hx
  obtain⟨k,hk',rfl⟩:=hx
  obtain⟨hk,hsm⟩:=EN (List.mem_of_getElem? hk')
  obtain⟨c,hc⟩:=Option.isSome_iff_exists.mp hsm
  have I':=I.two s03 hl1 f2 W
  obtain⟨dx',e'⟩:=I'.ob
  push_cast[↓z7]
  refine⟨_,_,_,e',T.cl,T.n6,_,WA,FR I'.ld hk ?_⟩
  push_cast[↓Ac]
  have im:D7 vw k=(decide (0<led vw k) && decide ((led vw k:Int)<c.1)):=by unfold D7;rw[hc]
  rw[j0 hk',j0 hk',im]
  by_cases h0:led vw k=0
  ·refine CF (by omega) ?_
   push_cast[↓z8]
   obtain⟨ps2,ep2,_⟩:=W.2.2.1
   refine⟨.inl ⟨rfl,_,SqL.of ep2⟩,by decide,λt ht=>RI (W.same (A0 ht)).flip (j3 hil) AS λH4 W4=> ?_⟩
   have h0':¬ 0<led vw k:=by omega
   rw[decide_eq_false h0',Bool.false_and,if_neg Bool.false_ne_true,if_pos h0]
   exact W4.flip
  ·refine BN (by omega) ?_
   push_cast[↓Ab]
   refine⟨_,_,e',KA (by decide +kernel),x,A,vw,k,c,rfl,T,I',hc,?_⟩
   push_cast[]
   by_cases h1:(led vw k:Int)<c.1
   ·refine CF h1 ?_
    push_cast[↓z9]
    obtain⟨ps2,ep2,_⟩:=W.2.1
    refine⟨.inl ⟨rfl,_,SqL.of ep2⟩,by decide,λt ht=>RI (W.same (A0 ht)) (j3 hil) AS λH4 W4=> ?_⟩
    rw[decide_eq_true (show 0<led vw k by omega),decide_eq_true h1,Bool.and_true,if_pos rfl,if_neg h0]
    exact W4
   ·refine BN h1 ?_
    rw[decide_eq_false h1,Bool.and_false,if_neg Bool.false_ne_true,if_neg h0]
    exact W
 ·subst eσ
  push_cast[↓Ah]
  rw[CN]at W
  have g1:FU is (D7 vw) (λr=>[.str "many",.int r,.int (led vw r)]) is.length=CC vw.rc.length (D7 vw) (λr=>[.str "many",.int r,.int (led vw r)]):=by
   unfold FU
   rw[List.take_length]
   exact FT λk _=>by
    unfold D7
    cases AF vw.rc k<;>simp
  have g2:FU is (λr=>decide (led vw r=0)) (λr=>[.str "left",.str "record",.int r]) is.length=CC vw.rc.length (λr=>(AF vw.rc r).isSome && decide (led vw r=0)) (λr=>[.str "left",.str "record",.int r]):=by
   unfold FU
   rw[List.take_length]
   exact FT λk _=>rfl
  rw[g1,g2]at W
  have n1:=DB (p:=D7 vw) (f:=λr=>[.str "many",.int r,.int (led vw r)]) br
  have n2:=DB (p:=λr=>(AF vw.rc r).isSome && decide (led vw r=0)) (f:=λr=>[.str "left",.str "record",.int r]) br
  exact FD W.2.1 W.2.2.1 (by omega) (q.of λy o e=>W.1 _ _ (s03 _ _ e) λz=>by
   rcases z with z | z
   ·rw[z,hl1]at e;cases e
   ·rw[z,f2]at e;cases e)
theorem Sb(h:OJ K a vs H Q E):vs.length=1:=by
 obtain⟨_,_,_,rfl,_⟩:=h
 rfl
def LQ(vw:Vw)(i:Nat)(s:Str):Bool:=(List.range i).any λj=>match AF vw.nm j with
  | none=>false
  | some d=>decide (d.1=s)
structure NmW(H3:Hp)(vw:Vw)(l1 l2 sn:Addr)(i:Nat)(lo tw:List (List V))(j:Nat)(H':Hp):Prop where
 s:SameBut (λy=>y=l1\/y=l2\/y=sn) H3 H'
 f1:FindsL H' l1 lo
 f2:FindsL H' l2 tw
 d:∃ kvs:List (AZ × V),H' sn=some (.dK kvs)/\(∀ s:Str,(B0 kvs (.inr s)).isSome=LQ vw j s)/\kvs.length<=j
theorem NmW.two{H3:Hp}{vw:Vw}{l1 l2 sn:Addr}{i j:Nat}{lo tw lo' tw':List (List V)}{H' H2:Hp}(h:NmW H3 vw l1 l2 sn i lo tw j H')(n1:sn≠l1)(n2:sn≠l2)(W:TwoL H' l1 l2 lo' tw' H2):NmW H3 vw l1 l2 sn i lo' tw' j H2:=by
 obtain⟨kvs,e,r⟩:=h.d
 exact⟨h.s.trans (W.1.wide λy z=>z.elim .inl λz=>.inr (.inl z)),W.2.1,W.2.2.1,⟨kvs,W.1 _ _ e λz=>z.elim n1 n2,r⟩⟩
theorem NmW.same{H3:Hp}{vw:Vw}{l1 l2 sn:Addr}{i j:Nat}{lo tw:List (List V)}{H' H2:Hp}(h:NmW H3 vw l1 l2 sn i lo tw j H')(s:Same H' H2):NmW H3 vw l1 l2 sn i lo tw j H2:=by
 obtain⟨kvs,e,r⟩:=h.d
 exact⟨h.s.trans s.sb,h.f1.same s,h.f2.same s,⟨kvs,s _ _ e,r⟩⟩
theorem Sc (h:OG K a vs H Q E):T5 K a (λ_=>E) (A5 Q) (A1 ["view","lost","twice","seen","k","value"] vs) H:=by
  obtain⟨x,A,vw,rfl,T,I,q⟩:=h
  have bn:=I.ok.bn
  push_cast[T5,↓xP,↓xQ,↓xR]
  refine⟨by decide,λl1 hl1=>⟨by decide,λl2 hl2 sn hsn=> ?_⟩⟩
  have n12:l1≠l2:=BE AS hl2
  have s2:Same H (upd (upd H l1 (.lst [])) l2 (.lst [])):=(A0 hl1).trans (A0 hl2)
  have k1:FindsL (upd (upd H l1 (.lst [])) l2 (.lst [])) l1 []:=⟨[],by rw[AT n12,AS];rfl,.nil⟩
  have k2:FindsL (upd (upd H l1 (.lst [])) l2 (.lst [])) l2 []:=⟨[],AS,.nil⟩
  have f2:H l2=none:=(A0 hl1).free hl2
  revert hsn s2 k1 k2
  generalize upd (upd H l1 (.lst [])) l2 (.lst [])=H2
  intro hsn s2 k1 k2
  have fsn:=s2.free hsn
  have s3:=A0 (o:=.dK []) hsn
  have e3:upd H2 sn (.dK []) sn=some (.dK []):=AS
  revert s3 e3
  generalize upd H2 sn (.dK [])=H3
  intro s3 e3
  have s03:=s2.trans s3
  have I3:=I.same s03
  obtain⟨dx3,ob3⟩:=I3.ob
  obtain⟨us,en,P⟩:=I3.n
  have hl:=P.length
  push_cast[↓xY]
  refine⟨_,_,_,ob3,T.cl,T.n1,_,Qh,A.n,rfl,⟨_,SqL.of en⟩,?_⟩
  have m1:sn≠l1:=λz=>by
    obtain⟨ps,e,_⟩:=k1
    rw[<-z,hsn]at e;cases e
  have m2:sn≠l2:=λz=>by
    obtain⟨ps,e,_⟩:=k2
    rw[<-z,hsn]at e;cases e
  have vi:∀ {H':Hp} {i j:Nat} {lo tw:List (List V)},NmW H3 vw l1 l2 sn i lo tw j H'->ViewAt a H' x A vw:=λh=>I.same λy o e=>h.s _ _ (s03 _ _ e) λz=>by
    rcases z with z | z | z
    ·rw[z,hl1]at e;cases e
    ·rw[z,f2]at e;cases e
    ·rw[z,fsn]at e;cases e
  have nA:A.n≠l1/\A.n≠l2/\A.n≠sn:=by
    obtain⟨us',e0,_⟩:=I.n
    exact⟨λz=>(by rw[z,hl1]at e0;cases e0),λz=>(by rw[z,f2]at e0;cases e0),λz=>(by rw[z,fsn]at e0;cases e0)⟩
  let LO:=λi=>CC i (FO vw) (λk=>[.str "lost",.int k])
  let TW:=λi=>CC i (GE vw) (λk=>[.str "twice",.int k])
  refine v8 (xs:=us) (λi σ H'=>NmW H3 vw l1 l2 sn i (LO i) (TW i) i H'/\∃ y4 y5,σ=[some (.ref x),some (.ref l1),some (.ref l2),some (.ref sn),y4,y5]) ⟨⟨SameBut.refl _,k1.same s3,k2.same s3,[],e3,λ_=>rfl,Nat.le_refl _⟩,_,_,rfl⟩ (λi σ H' _ ⟨W,_⟩=>SqL.of (W.s _ _ en λz=>z.elim nA.1 λz=>z.elim nA.2.1 nA.2.2)) (λi v σ H' t hx ⟨W0,y4,y5,eσ⟩ ht=> ?_) (λσ H' ⟨W,y4,y5,eσ⟩=> ?_)
  · subst eσ
    have hi:=(List.getElem?_eq_some_iff.mp hx).1
    push_cast[]
    refine⟨_,SqT.of AS,rfl,_,_,rfl,_,_,rfl,rfl,?_⟩
    have W:=W0.same (A0 (o:=.tup [.int (i:Int),v]) ht)
    revert W
    generalize upd H' t (.tup [.int (i:Int),v])=H4
    intro W
    clear W0
    have I4:=vi W
    obtain⟨dx4,ob4⟩:=I4.ob
    obtain⟨us',v',e1',_,ev,hr⟩:=I4.n.at (k:=i) (by omega)
    rw[W.s _ _ en (λz=>z.elim nA.1 λz=>z.elim nA.2.1 nA.2.2)]at e1';cases e1'
    rw[hx]at ev;cases ev
    have bi:i<=100:=by omega
    have hLO:LO (i+1)=if FO vw i=true then LO i++[[.str "lost",.int i]]else LO i:=jZ
    have hTW:TW (i+1)=if GE vw i=true then TW i++[[.str "twice",.int i]]else TW i:=jZ
    have n1:(LO i).length<=100:=DB bi
    have n2:(TW i).length<=100:=DB bi
    have sS:∀ s:Str,LQ vw (i+1) s=(LQ vw i s || match AF vw.nm i with
      | none=>false
      | some d=>decide (d.1=s)):=λs=>by
      unfold LQ
      rw[List.range_succ,List.any_append]
      simp
    push_cast[↓xX]
    cases hc:AF vw.nm i with
    | none =>
      rw[hc]at hr
      refine BN (λz=>z hr) ?_
      have z1:FO vw i=false:=by unfold FO;rw[hc]
      have z2:GE vw i=false:=by unfold GE;rw[hc]
      rw[hLO,hTW,z1,z2,if_neg Bool.false_ne_true,if_neg Bool.false_ne_true]
      obtain⟨kvs,ek,hv,hkl⟩:=W.d
      exact⟨W.s,W.f1,W.f2,kvs,ek,λs=>by rw[hv,sS,hc,Bool.or_false],by omega⟩
    | some c =>
      rw[hc]at hr
      obtain⟨p,rfl,hp⟩:=hr
      refine CF (by simp) ?_
      have hm:some c∈vw.nm:=by
        unfold AF at hc
        cases e2:vw.nm[i]? with
        | none=>rw[e2]at hc;cases hc
        | some y =>
          rw[e2]at hc
          have hc:y=some c:=hc
          exact hc ▸ List.mem_of_getElem? e2
      have hcr:=(I.ok.n1 c hm).1
      have z1:FO vw i=(AF vw.rc c.2).isNone:=by unfold FO;rw[hc]
      have z2:GE vw i=LQ vw i c.1:=by unfold GE LQ;simp only[hc]<;>rfl
      have tail:∀ {H5:Hp},NmW H3 vw l1 l2 sn i (LO (i+1)) (TW i) i H5->H5 p=some (.tup [.str c.1,.int c.2])->AQ (T4 K a (λ_=>E) (λ_=>E)) (RB K a (λ_=>E) (λ_=>E)) { nx:=λσ H'=>NmW H3 vw l1 l2 sn (i+1) (LO (i+1)) (TW (i+1)) (i+1) H'/\∃ y4 y5,σ=[some (V.ref x),some (V.ref l1),some (V.ref l2),some (V.ref sn),y4,y5],rt:=Q,bk:=RC K a (λx=>E) (λx=>E) (A5 Q),ct:=λσ H'=>NmW H3 vw l1 l2 sn (i+1) (LO (i+1)) (TW (i+1)) (i+1) H'/\∃ y4 y5,σ=[some (V.ref x),some (V.ref l1),some (V.ref l2),some (V.ref sn),y4,y5] } [some (V.ref x),some (V.ref l1),some (V.ref l2),some (V.ref sn),some (V.int ↑i),some (V.ref p)] H5:=λ{H5} W5 hp5=>by
        have last:∀ {H6:Hp},NmW H3 vw l1 l2 sn i (LO (i+1)) (TW (i+1)) i H6->H6 p=some (.tup [.str c.1,.int c.2])->RB K a (λ_=>E) (λ_=>E) { nx:=λσ H'=>NmW H3 vw l1 l2 sn (i+1) (LO (i+1)) (TW (i+1)) (i+1) H'/\∃ y4 y5,σ=[some (V.ref x),some (V.ref l1),some (V.ref l2),some (V.ref sn),y4,y5],rt:=Q,bk:=RC K a (λx=>E) (λx=>E) (A5 Q),ct:=λσ H'=>NmW H3 vw l1 l2 sn (i+1) (LO (i+1)) (TW (i+1)) (i+1) H'/\∃ y4 y5,σ=[some (V.ref x),some (V.ref l1),some (V.ref l2),some (V.ref sn),y4,y5] } [some (V.ref x),some (V.ref l1),some (V.ref l2),some (V.ref sn),some (V.int ↑i),some (V.ref p)] H6:=λ{H6} W6 hp6=>by
          obtain⟨kvs,ek,hv,hkl⟩:=W6.d
          push_cast[↓xW]
          refine BZ hp6 (n:=0) rfl rfl ⟨_,pS ek (by omega),?_⟩
          have s7:SameBut (· =sn) H6 (upd H6 sn (.dK (B7 kvs (.inr c.1) (.bl true)))):=λy o e ny=>by rw[AT ny];exact e
          obtain⟨q1,g1,P1⟩:=W6.f1
          obtain⟨q2,g2,P2⟩:=W6.f2
          have kt:∀ {y:Addr} {g:List V},H6 y=some (.tup g)->upd H6 sn (.dK (B7 kvs (.inr c.1) (.bl true))) y=some (.tup g):=λe=>s7 _ _ e (C5 e ek (by intro z;cases z))
          refine⟨W6.s.trans (s7.wide λy z=>.inr (.inr z)),⟨q1,s7 _ _ g1 m1.symm,Paired.mapP P1 λq g e=>kt e⟩,⟨q2,s7 _ _ g2 m2.symm,Paired.mapP P2 λq g e=>kt e⟩,_,AS,λs=> ?_,?_⟩
          · rw[QK,sS,hc,<-hv]
            by_cases z:s=c.1
            ·subst z;simp
            · rw[if_neg (by simpa using z)]
              have:decide (c.1=s)=false:=by simpa using λu=>z (Eq.symm u)
              simp only[this,Bool.or_false]
          · have:=NL kvs (.inr c.1) (.bl true)
            omega
        obtain⟨kvs,ek,hv,hkl⟩:=W5.d
        push_cast[↓xV]
        refine BZ hp5 (n:=0) rfl rfl ⟨_,dS ek,?_⟩
        rw[hv,<-z2]
        cases hz:GE vw i with
        | true =>
          refine CF rfl ?_
          push_cast[↓xU]
          obtain⟨ps2,ep2,_⟩:=W5.f2
          refine⟨.inl ⟨rfl,_,SqL.of ep2⟩,by decide,λt2 ht2=> ?_⟩
          have W5':=W5.same (A0 (o:=.tup [V.str (Str.ofString "twice"),V.int ↑i]) ht2)
          refine RI (H:=upd H5 t2 (.tup [V.str (Str.ofString "twice"),V.int ↑i])) (l2:=l1) (f2:=LO (i+1)) ⟨SameBut.refl _,W5'.f2,W5'.f1,n12.symm⟩ (by omega) AS λH6 W6=> ?_
          have W7:=W5'.two m1 m2 W6.flip
          rw[show TW i++[[V.str (Str.ofString "twice"),V.int ↑i]]=TW (i+1) by rw[hTW,hz,if_pos rfl]]at W7
          exact last W7 (W6.1 _ _ (A0 ht2 _ _ hp5) λz=>by
            rcases z with z | z
            · obtain⟨ps,e,_⟩:=W5.f2
              rw[<-z,hp5]at e;cases e
            · obtain⟨ps,e,_⟩:=W5.f1
              rw[<-z,hp5]at e;cases e)
        | false =>
          refine BN Bool.false_ne_true ?_
          rw[show TW i=TW (i+1) by rw[hTW,hz,if_neg Bool.false_ne_true]]at W5
          exact last W5 hp5
      obtain⟨us2,v2,e2,_,ev2,hr2⟩:=I4.r.at hcr
      push_cast[↓xT]
      refine⟨_,_,_,ob4,T.cl,T.n2,_,RF,BZ hp (n:=1) rfl rfl (BU (SqL.of e2) (n:=c.2) rfl ev2 ?_)⟩
      push_cast[]
      have hv2:=LP hr2
      by_cases hz:v2=.non
      · refine CF hz ?_
        have hz':FO vw i=true:=by rw[z1,<-hv2];simpa using hz
        push_cast[↓xS]
        obtain⟨ps2,ep2,_⟩:=W.f1
        refine⟨.inl ⟨rfl,_,SqL.of ep2⟩,by decide,λt2 ht2=> ?_⟩
        have W5':=W.same (A0 (o:=.tup [V.str (Str.ofString "lost"),V.int ↑i]) ht2)
        refine RI (H:=upd H4 t2 (.tup [V.str (Str.ofString "lost"),V.int ↑i])) (l2:=l2) (f2:=TW i) ⟨SameBut.refl _,W5'.f1,W5'.f2,n12⟩ (by omega) AS λH6 W6=> ?_
        have W7:=W5'.two m1 m2 W6
        rw[show LO i++[[V.str (Str.ofString "lost"),V.int ↑i]]=LO (i+1) by rw[hLO,hz',if_pos rfl]]at W7
        exact tail W7 (W6.1 _ _ (A0 ht2 _ _ hp) λz=>by
            rcases z with z | z
            · obtain⟨ps,e,_⟩:=W.f1
              rw[<-z,hp]at e;cases e
            · obtain⟨ps,e,_⟩:=W.f2
              rw[<-z,hp]at e;cases e)
      · refine BN hz ?_
        have hz':FO vw i=false:=by rw[z1,<-hv2];simpa using hz
        rw[show LO i=LO (i+1) by rw[hLO,hz',if_neg Bool.false_ne_true]]at W
        exact tail W hp
  · subst eσ
    push_cast[↓xZ]
    rw[hl]at W
    exact FD W.f1 W.f2 (by have:=DB (p:=FO vw) (f:=λk=>[.str "lost",.int k]) bn;have:=DB (p:=GE vw) (f:=λk=>[.str "twice",.int k]) bn;show(CC _ _ _).length+(CC _ _ _).length<=_;omega) (q.of λy o e=>W.s _ _ (s03 _ _ e) λz=>by
      rcases z with z | z | z
      ·rw[z,hl1]at e;cases e
      ·rw[z,f2]at e;cases e
      ·rw[z,fsn]at e;cases e)
theorem Sd(h:OG K a vs H Q E):vs.length=1:=by
 obtain⟨_,_,_,rfl,_⟩:=h
 rfl
theorem KB{n b:Nat}(h:b<n):GY n (b:Int)=some b:=by
 unfold GY
 rw[if_pos (by omega),if_pos (by omega),Int.toNat_natCast]
theorem E6{α β :Type}{F: α -> β ->Prop}:∀ {l:List α} {m:List β} {i:Nat} {x: α},Paired F l m->l[i]? =some x->∃ y,m[i]? =some y/\F x y
 | _,_,_,_,.nil,h=>by simp at h
 | _,_,0,_,.cons h _,e=>by cases e;exact⟨_,rfl,h⟩
 | _,_,i+1,_,.cons _ r,e=>by
  obtain⟨y,h1,h2⟩:=E6 (i:=i) r (by simpa using e)
  exact⟨y,by simpa using h1,h2⟩
theorem Sg(h:G3 K a vs H Q E):VB K a (λ_=>E) (A5 Q) (A1 ["plank","places"] vs) H:=by
 obtain⟨gp,cl,pl,w,rows,m,ts,ps,rfl,TP,P,hpl,Pt,hin,hn,q⟩:=h
 have hl:=Pt.length
 push_cast[VB,↓Ej]
 refine .inl ⟨⟨_,SqL.of hpl⟩,vW (xs:=ts.map V.ref) (small _ (by rw[List.length_map];omega)) (λi σ' ys H'=>Same H H'/\ys=(ps.take i).map (λij=>IV rows ij.1 ij.2)/\∃ y0 y1,σ'=[y0,y1,some (.ref gp)]) ⟨Same.refl _,rfl,none,none,rfl⟩ (λi σ' ys H' ⟨s,e,_⟩=>⟨SqL.of (s _ _ hpl),by rw[e,List.length_map,List.length_take];omega⟩) (λi x σ' ys H' hi hx ⟨s,e,y0,y1,eσ⟩=> ?_) (λσ' ys H' ⟨s,e,_⟩ p hp=> ?_)⟩
 ·subst eσ
  rw[List.length_map]at hi
  rw[List.getElem?_map,Option.map_eq_some_iff]at hx
  obtain⟨t,ht,rfl⟩:=hx
  obtain⟨ij,eij,et⟩:=E6 Pt ht
  have hb:=hin ij (List.mem_of_getElem? eij)
  have P':=P.same s
  obtain⟨dp,hob⟩:=P'.ob
  push_cast[]
  refine⟨_,SqT.of (s _ _ et),rfl,_,_,rfl,_,_,rfl,rfl,?_⟩
  refine⟨λy H4=>Same H H4/\y=IV rows ij.1 ij.2,λy H4 ⟨s4,ey⟩=>vV (by rw[List.length_map];exact hi) ⟨s4,?_⟩,_,_,hob,RE _ _ _,gp,cl,w,rows,m,ij.1,rfl,TP,P',λb' row eb er l1 hl1=> ?_,λz=>by omega⟩
  ·rw[ey,e,EW eij,List.map_append]
   rfl
  ·obtain rfl:ij.1=b':=by omega
   have hw:=P.wd row (List.mem_of_getElem? er)
   have ej:=List.getElem?_eq_getElem (l:=row) (i:=ij.2) (by omega)
   refine BU (SqL.of AS) (n:=ij.2) rfl ej ⟨FS s hl1,?_⟩
   unfold IV
   rw[er]
   show _=(row[ij.2]?).getD .non
   rw[ej];rfl
 ·rw[List.length_map,hl,List.take_length]at e
  subst e
  exact q p _ (s.free hp) (FS s hp) AS
theorem Sh(h:G3 K a vs H Q E):vs.length=2:=by
 obtain⟨_,_,_,_,_,_,_,_,rfl,_⟩:=h
 rfl
theorem Sj(h:JV K a vs H Q E):T8 K a (λ_=>E) (A5 Q) (A1 ["many","numbers","counts","number"] vs) H:=by
 obtain⟨many,nl,ks,rfl,hnl,hks,hm,hkn,q⟩:=h
 push_cast[T8,↓yB]
 refine⟨by omega,by omega,uR (small many (by omega)) (λ_=>V.int 0) (λj hj Q' q'=>q') λl hl=> ?_⟩
 have e0:(List.range many).map (λ_=>V.int 0)=AW ((List.range many).map λk=>([]:List Nat).count k):=by
  unfold AW
  rw[List.map_map]
  rfl
 rw[e0]
 have s1:=A0 (o:=.lst (AW ((List.range many).map λk=>([]:List Nat).count k))) hl
 have e1:upd H l (.lst (AW ((List.range many).map λk=>([]:List Nat).count k))) l=some (.lst (AW ((List.range many).map λk=>([]:List Nat).count k))):=AS
 have nll:nl≠l:=BE hnl hl
 revert s1 e1
 generalize upd H l (.lst (AW ((List.range many).map λk=>([]:List Nat).count k)))=H1
 intro s1 e1
 push_cast[↓yD]
 refine .inl ⟨⟨_,SqL.of (s1 _ _ hnl)⟩,IJ (xs:=AW ks) (λi σ H'=>(Same H H'/\H' l=some (.lst (AW ((List.range many).map λk=>(ks.take i).count k))))/\∃ y,σ=[some (.int many),some (.ref nl),some (.ref l),y]) ⟨⟨s1,e1⟩,_,rfl⟩ (λi σ H' _ ⟨⟨s,_⟩,_⟩=>SqL.of (s _ _ hnl)) (λi v σ H' hx ⟨⟨s,e⟩,y,eσ⟩=> ?_) (λσ H' ⟨⟨s,e⟩,y,eσ⟩=> ?_)⟩
 ·subst eσ
  unfold AW at hx
  rw[List.getElem?_map,Option.map_eq_some_iff]at hx
  obtain⟨k,hk',rfl⟩:=hx
  have hk:=hks k (List.mem_of_getElem? hk')
  push_cast[↓yC]
  refine⟨_,k,rfl,SqL.of e,_,LN (HP hk),?_⟩
  push_cast[]
  refine⟨l,_,_,k,rfl,rfl,e,KB (by rw[CN,GH];exact hk),λy o e=>by rw[AT (BE e hl)];exact s _ _ e,?_⟩
  rw[AS]
  congr 2
  unfold AW
  refine List.ext_getElem? λj=> ?_
  by_cases hj:j<many
  ·rw[List.getElem?_map,HP hj,EW hk',List.count_append]
   by_cases z:k=j
   ·subst z
    rw[List.getElem?_set_self (by simpa using hj)]
    simp
   ·rw[List.getElem?_set_ne z,List.getElem?_map,HP hj]
    have:List.count j [k]=0:=by simp[z]
    rw[this]
    rfl
  ·rw[List.getElem?_eq_none (by simp;omega),List.getElem?_eq_none (by simp;omega)]
 ·subst eσ
  rw[CN,List.take_length]at e
  push_cast[↓yE]
  exact q l _ hl s e
theorem Sk(h:JV K a vs H Q E):vs.length=2:=by
 obtain⟨_,_,_,rfl,_⟩:=h
 rfl
theorem Sl (h:LH K a vs H Q E):T9 K a (λ_=>E) (A5 Q) (A1 ["records","pieces","value"] vs) H:=by
  obtain⟨rl,cs,rfl,⟨us,hrl,P⟩,hcs,hp,q⟩:=h
  have hl:=P.length
  push_cast[T9,↓yF]
  refine⟨by decide,λl hl0=> ?_⟩
  have s1:=A0 (o:=.lst []) hl0
  have e1:upd H l (.lst []) l=some (.lst (AW (C3 []))):=AS
  revert s1 e1
  generalize upd H l (.lst [])=H1
  intro s1 e1
  have pl:∀ i,(C3 (cs.take i)).length<=i * 10:=λi=>by
    induction i with
    | zero=>exact Nat.le_refl _
    | succ i ih =>
      cases e:cs[i]? with
      | none =>
        rw[List.take_of_length_le (by have:=List.getElem?_eq_none_iff.mp e;omega)]
        rw[List.take_of_length_le (by have:=List.getElem?_eq_none_iff.mp e;omega)]at ih
        omega
      | some c =>
        rw[EW e]
        unfold C3 at ih ⊢
        rw[List.flatMap_append,List.length_append]
        have:(List.flatMap FN [c]).length<=10:=by
          cases c with
          | none=>simp[FN]
          | some c =>
            simp[FN]
            exact hp c (List.mem_of_getElem? e)
        omega
  push_cast[↓yI]
  refine .inl ⟨⟨_,SqL.of (s1 _ _ hrl)⟩,IJ (xs:=us) (λi σ H'=>(Same H H'/\H' l=some (.lst (AW (C3 (cs.take i)))))/\∃ y,σ=[some (.ref rl),some (.ref l),y]) ⟨⟨s1,e1⟩,_,rfl⟩ (λi σ H' _ ⟨⟨s,_⟩,_⟩=>SqL.of (s _ _ hrl)) (λi v σ H' hx ⟨⟨s,e⟩,y,eσ⟩=> ?_) (λσ H' ⟨⟨s,e⟩,y,eσ⟩=> ?_)⟩
  · subst eσ
    obtain⟨c,ec,hr⟩:=E6 P hx
    have hi:=(List.getElem?_eq_some_iff.mp hx).1
    have pli:=pl i
    have ep:C3 (cs.take (i+1))=C3 (cs.take i)++FN c:=by
      rw[EW ec]
      unfold C3
      rw[List.flatMap_append]
      simp
    rw[ep]
    push_cast[↓yH]
    cases c with
    | none =>
      refine BN (λz=>z hr) ?_
      rw[show FN none=[]from rfl,List.append_nil]
      exact⟨s,e⟩
    | some c =>
      obtain⟨p,t,rfl,h1,h2⟩:=hr
      refine CF (by simp) ?_
      push_cast[↓yG]
      have hc:=hp c (List.mem_of_getElem? ec)
      refine⟨.inl ⟨rfl,_,SqL.of e⟩,BZ (s _ _ h1) (n:=1) rfl rfl ⟨l,t,_,_,rfl,rfl,e,SqT.of (s _ _ h2),small _ (by rw[CN,CN];omega),?_⟩⟩
      refine⟨λy o e=>by rw[AT (BE e hl0)];exact s _ _ e,?_⟩
      rw[AS]
      unfold AW
      rw[List.map_append]
      rfl
  · subst eσ
    rw[hl,List.take_length]at e
    push_cast[↓yJ]
    exact q l _ hl0 s e
theorem Sm(h:LH K a vs H Q E):vs.length=1:=by
 obtain⟨_,_,rfl,_⟩:=h
 rfl
theorem WB{w:Nat}:∀ {rows:List (List V)} {b j:Nat},(∀ r∈rows,r.length=w)->b<rows.length->j<w->rows.flatten[b * w+j]? =(rows[b]?).bind (·[j]?)
 | [],b,j,_,hb,_=>by simp at hb
 | r::rs,0,j,h,_,hj=>by
  have hr:=h r List.mem_cons_self
  rw[Nat.zero_mul,Nat.zero_add,List.flatten_cons,List.getElem?_append_left (by omega)]
  rfl
 | r::rs,b+1,j,h,hb,hj=>by
  have hr:=h r List.mem_cons_self
  rw[List.flatten_cons,List.getElem?_append_right (by rw[hr,Nat.succ_mul];omega)]
  have e:(b+1) * w+j - r.length=b * w+j:=by rw[hr,Nat.succ_mul];omega
  rw[e,WB (λr hr=>h r (List.mem_cons_of_mem _ hr)) (by simpa using hb) hj]
  rfl
theorem j4{w:Nat}{rows:List (List V)}{b k n:Nat}(h:∀ r∈rows,r.length=w)(hw:1<=w)(hk:k<n * w)(hb:b+n<=rows.length):(rows.flatten[b * w+k]?)=some (IV rows (b+k / w) (k % w))/\b+k / w<rows.length/\k % w<w:=by
 have h1:k / w<n:=Nat.div_lt_of_lt_mul (by rw[Nat.mul_comm];exact hk)
 have h2:k % w<w:=Nat.mod_lt _ (by omega)
 refine⟨?_,by omega,h2⟩
 have e:b * w+k=(b+k / w) * w+k % w:=by
  rw[Nat.add_mul,Nat.add_assoc,Nat.div_add_mod']
 rw[e,WB h (by omega) h2]
 unfold IV
 have hb':b+k / w<rows.length:=by omega
 rw[List.getElem?_eq_getElem hb']
 have hr:=h _ (List.getElem_mem hb')
 show(rows[b+k / w])[k % w]? =some (((rows[b+k / w])[k % w]?).getD .non)
 rw[List.getElem?_eq_getElem (by omega)]
 rfl
theorem Sq{w:Nat}{rows:List (List V)}{b n:Nat}{pre vs post:List V}(h:∀ r∈rows,r.length=w)(hw:1<=w)(hb:b+n<=rows.length)(e:rows.flatten=pre++vs++post)(hp:pre.length=b * w)(hv:vs.length=n * w):(List.range (n * w)).map (λk=>IV rows (b+k / w) (k % w))=vs:=by
 refine List.ext_getElem? λk=> ?_
 by_cases hk:k<n * w
 ·rw[List.getElem?_map,List.getElem?_range hk]
  have:=(j4 h hw hk hb).1
  show some _=_
  rw[<-this,e,List.append_assoc,List.getElem?_append_right (by omega),List.getElem?_append_left (by omega)]
  congr 1
  omega
 ·rw[List.getElem?_eq_none (by simp;omega),List.getElem?_eq_none (by omega)]
theorem Sv{N b w:Nat}{te:TE}{cap:List Nat}{σ:St}(hn:N<=1000)
  (he:∀ k,k<N->∀ H' (Q':VK),Same H H'->(∀ t,H' t=none->Q' (.ref t) (upd H' t (.tup [.int ((b+k / w:Nat):Int),.int ((k % w:Nat):Int)])))->te (some (.int (k:Int))::BL cap σ) H' Q')
  (hd:∀ (pl:Addr) (ts:List Addr) (H':Hp),H pl=none->Same H H'->H' pl=some (.lst (ts.map V.ref))->Paired (λt (ij:Nat × Nat)=>H' t=some (.tup [.int ij.1,.int ij.2])) ts ((List.range N).map λk=>(b+k / w,k % w))->Q (.ref pl) H'):DN (EB 0 N) (AL 0) CS te 1 cap σ H Q:=by
 refine NX (small _ (by omega)) (λi ys H'=>Same H H'/\∃ ts:List Addr,ys=ts.map V.ref/\Paired (λt (ij:Nat × Nat)=>H' t=some (.tup [.int ij.1,.int ij.2])) ts ((List.range i).map λk=>(b+k / w,k % w))) ⟨Same.refl _,[],rfl,.nil⟩ (λi ys H' hi _ ⟨s,ts,e,P⟩=> ?_) (λys H' _ ⟨s,ts,e,P⟩ p hp=> ?_)
 ·rw[Int.zero_add]
  refine he i hi H' _ s λt ht=>⟨FS s ht,ts++[t],by rw[e,List.map_append];rfl,?_⟩
  rw[List.range_succ,List.map_append]
  exact Paired.snoc (Paired.mapP P λt ij e=>A0 ht _ _ e) AS
 ·subst e
  exact hd p ts _ (s.free hp) (FS s hp) AS (Paired.mapP P λt ij e=>A0 hp _ _ e)
theorem O2{n b w m:Nat}{gp cl:Addr}{rows:List (List V)}{te:TE}{cap:List Nat}{σ:St}{QV:VK}{pre us post:List V}(TP:EL K a)(P:PlankAt a H gp cl w rows m)(hw:1<=w)(hnw:n * w<=1000)(hb:b+n<=rows.length)(e:rows.flatten=pre++us++post)(hp:pre.length=b * w)(hv:us.length=n * w)
  (he:∀ k,k<n * w->∀ H' (Q':VK),Same H H'->(∀ t,H' t=none->Q' (.ref t) (upd H' t (.tup [.int ((b+k / w:Nat):Int),.int ((k % w:Nat):Int)])))->te (some (.int (k:Int))::BL cap σ) H' Q')
  (q:newL us H QV):DN (EB 0 (n * w)) (AL 0) CS te 1 cap σ H (λv H2=>G3 K a [.ref gp,v] H2 QV E):=by
 refine Sv hnw he λpl ts H' hpl s epl Pt=> ?_
 refine⟨gp,cl,pl,w,rows,m,ts,_,rfl,TP,P.same s,epl,Pt,λij hij=> ?_,by rw[List.length_map,List.length_range];exact hnw,?_⟩
 ·obtain⟨k,hk,rfl⟩:=List.mem_map.mp hij
  exact(j4 P.wd hw (List.mem_range.mp hk) hb).2
 ·rw[List.map_map]
  have:=Sq P.wd hw hb e hp hv
  rw[show((List.range (n * w)).map ((λij:Nat × Nat=>IV rows ij.1 ij.2) ∘ λk=>(b+k / w,k % w)))=us from this]
  exact q.of s
section
variable{u1 u2 u3 u4 u5 u6:V}{DQ:List (Str × V)}
theorem Sw:(("name_values",u1)::DQ:List (Str × V)).lookup ("name_values":Str)=some u1:=by simp
theorem j5:(("name_values",u1)::("record_values",u2)::DQ:List (Str × V)).lookup ("record_values":Str)=some u2:=by
 simp[List.lookup_cons,BH (a:="record_values") (b:="name_values") (by decide +kernel)]
theorem Sx:(("name_values",u1)::("record_values",u2)::("piece_values",u3)::("record_marks",u4)::("piece_marks",u5)::("leads",u6)::DQ:List (Str × V)).lookup ("leads":Str)=some u6:=by
 simp[List.lookup_cons,BH (a:="leads") (b:="name_values") (by decide +kernel),BH (a:="leads") (b:="record_values") (by decide +kernel),BH (a:="leads") (b:="piece_values") (by decide +kernel),BH (a:="leads") (b:="record_marks") (by decide +kernel),BH (a:="leads") (b:="piece_marks") (by decide +kernel)]
end
structure VI(a:Ad)(H H':Hp)(x dx:Addr)(fs:List (Str × V)):Prop where
 ob:H' x=some (.ins (a "View") dx fs)
 s:SameBut (· =x) H H'
theorem VI.put{H1 H2:Hp}{x dx l:Addr}{fs fs':List (Str × V)}{f:Str}(I:VI a H H1 x dx fs)(s:Same H1 H2)(e:BQ f (.ref l) fs=fs'):VI a H (upd H2 x (.ins (a "View") dx (BQ f (.ref l) fs))) x dx fs'/\SameBut (· =x) H1 (upd H2 x (.ins (a "View") dx (BQ f (.ref l) fs)))/\SameBut (· =x) H2 (upd H2 x (.ins (a "View") dx (BQ f (.ref l) fs))):=by
 have s2:SameBut (· =x) H2 (upd H2 x (.ins (a "View") dx (BQ f (.ref l) fs))):=λy o e ny=>by rw[AT ny];exact e
 exact⟨⟨by rw[AS,e],(I.s.trans s.sb).trans s2⟩,s.sb.trans s2,s2⟩
theorem O3{b k w:Nat}{z:Int}{Q:VK}(hz:z=b)(q:∀ t,H t=none->Q (.ref t) (upd H t (.tup [.int ((b+k / w:Nat):Int),.int ((k % w:Nat):Int)]))):IN (z+(k:Int) / (w:Int)) ((k:Int) % (w:Int)) Q H:=by
 unfold IN
 have e1:z+(k:Int) / (w:Int)=((b+k / w:Nat):Int):=by rw[hz];simp
 have e2:(k:Int) % (w:Int)=((k % w:Nat):Int):=by simp
 rw[e1,e2]
 exact q
theorem PlankAt.off{H1:Hp}{gp cl x dx C:Addr}{w m:Nat}{rows:List (List V)}{fs:List (Str × V)}(P:PlankAt a H gp cl w rows m)(hx:H x=some (.ins C dx fs))(n1:gp≠x)(s:SameBut (· =x) H H1):PlankAt a H1 gp cl w rows m:=by
 obtain⟨⟨dp,e1⟩,⟨ts,e2,e3⟩,r1,r2,r3⟩:=P
 exact⟨⟨dp,s _ _ e1 n1⟩,⟨ts,s _ _ e2 (C5 e2 hx (by intro z;cases z)),Paired.mapP e3 λt r e=>s _ _ e (C5 e hx (by intro z;cases z))⟩,r1,r2,r3⟩
theorem Sy(h:IY K a vs H Q E):VN K a (λ_=>E) (A5 Q) (A1 ["self","layout","plank","counts","records","pieces"] vs) H:=by
 obtain⟨x,dx,ly,gp,cl,n,r,c,w,rows,m,vw,rfl,T,TL,TP,hx,L,P,hrl,⟨⟨v1,v2,v3,v4,v5,ef,P1,P2,P3,P4,P5⟩,ln,lr,lp,ok⟩,q⟩:=h
 obtain⟨dl,hly⟩:=L.ob
 obtain⟨_,b1,b2,b3,b4,b5⟩:=id L
 have q1:=P1.length
 have q2:=P2.length
 have q3:=P3.length
 have q4:=P4.length
 have q5:=P5.length
 have ok1:=ok.l1
 have ok2:=ok.l2
 have bn:=ok.bn
 have br:=ok.br
 have bp:=ok.bp
 push_cast[VN,↓Hl,↓Hm,↓Hq]
 refine⟨_,_,hly,D0 (by decide +kernel),ly,n,r,c,w,rfl,TL,L,λt ht=> ?_⟩
 have s1:=A0 (o:=.tup [.int ((n:Int) * w),.int ((r:Int) * w),.int ((c:Int) * w)]) ht
 have et:upd H t (.tup [.int ((n:Int) * w),.int ((r:Int) * w),.int ((c:Int) * w)]) t=some (.tup [.int ((n:Int) * w),.int ((r:Int) * w),.int ((c:Int) * w)]):=AS
 revert s1 et
 generalize upd H t (.tup [.int ((n:Int) * w),.int ((r:Int) * w),.int ((c:Int) * w)])=H1
 intro s1 et
 refine BZ et (n:=1) rfl rfl (BZ et (n:=2) rfl rfl ?_)
 push_cast[↓Hv]
 refine BZ et (n:=0) rfl rfl ?_
 have cn:∀ k:Nat,((k:Int) * w)=((k * w:Nat):Int):=λk=>by simp
 have nw:n * w<=100:=by omega
 have rw':r * w<=100:=by omega
 have cw:c * w<=100:=by omega
 have ngx:gp≠x:=λz=>by
  obtain⟨dp,e⟩:=P.ob
  rw[z,hx]at e
  have e:=(HO.ins.inj (Option.some.inj e)).2.2
  simp[pf]at e
 have nlx:ly≠x:=λz=>by
  rw[z,hx]at hly
  have hly:=(HO.ins.inj (Option.some.inj hly)).2.2
  simp[lf]at hly
 have nli:∀ {y:Addr} {us:List V} {H':Hp} {fs:List (Str × V)},H' y=some (.lst us)->VI a H H' x dx fs->y≠x:=λe I z=>by
  rw[z,I.ob]at e;cases e
 have L':∀ {H':Hp},SameBut (· =x) H H'->LayAt a H' ly n r c w:=λs=>L.sb s nlx
 have P':∀ {H':Hp},SameBut (· =x) H H'->PlankAt a H' gp cl w rows m:=λs=>P.off hx ngx s
 have V1:VI a H H1 x dx []:=⟨s1 _ _ hx,s1.sb⟩
 rw[cn n,cn r,cn c]
 refine⟨_,rfl,by omega,by omega,?_⟩
 rw[Int.toNat_natCast]
 refine O2 (n:=n) (b:=0) (us:=v1) (pre:=[]) (post:=v2++v3++v4++v5) TP (P' V1.s) b4 (by omega) (by omega) (by rw[ef];simp) (by simp) (by omega) (λk hk H' Q' s q'=> ?_) λan H2 han s2 ean=> ?_
 ·have Lk:=L' (V1.s.trans s.sb)
  obtain⟨dl',hly'⟩:=Lk.ob
  push_cast[BL]
  exact⟨_,_,hly',D0 (by decide +kernel),ly,n,r,c,w,k,rfl,TL,Lk,O3 (by simp) q'⟩
 obtain⟨V2,w2,u2⟩:=V1.put (f:="name_values") (l:=an) s2 Z8
 refine⟨_,_,_,s2 _ _ V1.ob,T.cl,T.n1,by decide,?_⟩
 have ean2:=u2 _ _ ean (nli (fs:=[]) ean ⟨s2 _ _ V1.ob,V1.s.trans s2.sb⟩)
 revert V2 w2 ean2
 generalize upd H2 x (.ins (a "View") dx (BQ "name_values" (.ref an) []))=H3
 intro V2 w2 ean2
 clear u2
 push_cast[↓Hw]
 refine⟨by omega,by omega,?_⟩
 refine O2 (n:=r) (b:=n) (us:=v2) (pre:=v1) (post:=v3++v4++v5) TP (P' V2.s) b4 (by omega) (by omega) (by simp[ef]) (by first | (simp only[List.length_append,Nat.add_mul];omega) | omega) (by omega) (λk hk H' Q' s q'=> ?_) λar H4 har s4 ear=> ?_
 ·have Lk:=L' (V2.s.trans s.sb)
  obtain⟨dl',hly'⟩:=Lk.ob
  push_cast[BL]
  exact⟨_,_,hly',D0 (by decide +kernel),ly,n,r,c,w,k,rfl,TL,Lk,O3 (by simp) q'⟩
 obtain⟨V3,w3,u3⟩:=V2.put (f:="record_values") (l:=ar) (fs':=[("name_values",.ref an),("record_values",.ref ar)]) s4 (by rw[CM (by decide +kernel)];rfl)
 refine⟨_,_,_,s4 _ _ V2.ob,T.cl,T.n2,by simp,?_⟩
 have ear2:=u3 _ _ ear (nli ear ⟨s4 _ _ V2.ob,V2.s.trans s4.sb⟩)
 replace ean2:=w3 _ _ ean2 (nli ean2 V2)
 revert V3 w3 ean2 ear2
 generalize upd H4 x (.ins (a "View") dx (BQ "record_values" (.ref ar) [("name_values",.ref an)]))=H5
 intro V3 w3 ear2 ean2
 clear u3
 push_cast[↓Hx]
 refine⟨by omega,by omega,?_⟩
 refine O2 (n:=c) (b:=n+r) (us:=v3) (pre:=v1++v2) (post:=v4++v5) TP (P' V3.s) b4 (by omega) (by omega) (by simp[ef]) (by first | (simp only[List.length_append,Nat.add_mul];omega) | omega) (by omega) (λk hk H' Q' s q'=> ?_) λap H6 hap s6 eap=> ?_
 ·have Lk:=L' (V3.s.trans s.sb)
  obtain⟨dl',hly'⟩:=Lk.ob
  push_cast[BL]
  exact⟨_,_,hly',D0 (by decide +kernel),ly,n,r,c,w,k,rfl,TL,Lk,O3 (by simp) q'⟩
 obtain⟨V4,w4,u4⟩:=V3.put (f:="piece_values") (l:=ap) (fs':=[("name_values",.ref an),("record_values",.ref ar),("piece_values",.ref ap)]) s6 (by rw[CM (by decide +kernel)];rw[CM (by decide +kernel)];rfl)
 refine⟨_,_,_,s6 _ _ V3.ob,T.cl,T.n3,by simp,?_⟩
 have eap2:=u4 _ _ eap (nli eap ⟨s6 _ _ V3.ob,V3.s.trans s6.sb⟩)
 replace ean2:=w4 _ _ ean2 (nli ean2 V3)
 replace ear2:=w4 _ _ ear2 (nli ear2 V3)
 revert V4 w4 ean2 ear2 eap2
 generalize upd H6 x (.ins (a "View") dx (BQ "piece_values" (.ref ap) [("name_values",.ref an),("record_values",.ref ar)]))=H7
 intro V4 w4 eap2 ean2 ear2
 clear u4
 push_cast[↓Hy]
 refine⟨by omega,by omega,?_⟩
 refine O2 (n:=r) (b:=n+r+c) (us:=v4) (pre:=v1++v2++v3) (post:=v5) TP (P' V4.s) b4 (by omega) (by omega) (by simp[ef]) (by first | (simp only[List.length_append,Nat.add_mul];omega) | omega) (by omega) (λk hk H' Q' s q'=> ?_) λam H8 ham s8 eam=> ?_
 ·have Lk:=L' (V4.s.trans s.sb)
  obtain⟨dl',hly'⟩:=Lk.ob
  push_cast[BL]
  exact⟨_,_,hly',D0 (by decide +kernel),ly,n,r,c,w,k,rfl,TL,Lk,O3 (by simp) q'⟩
 obtain⟨V5,w5,u5⟩:=V4.put (f:="record_marks") (l:=am) (fs':=[("name_values",.ref an),("record_values",.ref ar),("piece_values",.ref ap),("record_marks",.ref am)]) s8 (by rw[CM (by decide +kernel)];rw[CM (by decide +kernel)];rw[CM (by decide +kernel)];rfl)
 refine⟨_,_,_,s8 _ _ V4.ob,T.cl,T.n4,by simp,?_⟩
 have eam2:=u5 _ _ eam (nli eam ⟨s8 _ _ V4.ob,V4.s.trans s8.sb⟩)
 replace ean2:=w5 _ _ ean2 (nli ean2 V4)
 replace ear2:=w5 _ _ ear2 (nli ear2 V4)
 replace eap2:=w5 _ _ eap2 (nli eap2 V4)
 revert V5 w5 ean2 ear2 eap2 eam2
 generalize upd H8 x (.ins (a "View") dx (BQ "record_marks" (.ref am) [("name_values",.ref an),("record_values",.ref ar),("piece_values",.ref ap)]))=H9
 intro V5 w5 eam2 ean2 ear2 eap2
 clear u5
 push_cast[↓Hz]
 refine⟨by omega,by omega,?_⟩
 refine O2 (n:=c) (b:=n+r+c+r) (us:=v5) (pre:=v1++v2++v3++v4) (post:=[]) TP (P' V5.s) b4 (by omega) (by omega) (by simp[ef]) (by first | (simp only[List.length_append,Nat.add_mul];omega) | omega) (by omega) (λk hk H' Q' s q'=> ?_) λaq H10 haq s10 eaq=> ?_
 ·have Lk:=L' (V5.s.trans s.sb)
  obtain⟨dl',hly'⟩:=Lk.ob
  push_cast[BL]
  exact⟨_,_,hly',D0 (by decide +kernel),ly,n,r,c,w,k,rfl,TL,Lk,O3 (by simp) q'⟩
 obtain⟨V6,w6,u6⟩:=V5.put (f:="piece_marks") (l:=aq) (fs':=[("name_values",.ref an),("record_values",.ref ar),("piece_values",.ref ap),("record_marks",.ref am),("piece_marks",.ref aq)]) s10 (by rw[CM (by decide +kernel)];rw[CM (by decide +kernel)];rw[CM (by decide +kernel)];rw[CM (by decide +kernel)];rfl)
 refine⟨_,_,_,s10 _ _ V5.ob,T.cl,T.n5,by simp,?_⟩
 have eaq2:=u6 _ _ eaq (nli eaq ⟨s10 _ _ V5.ob,V5.s.trans s10.sb⟩)
 replace ean2:=w6 _ _ ean2 (nli ean2 V5)
 replace ear2:=w6 _ _ ear2 (nli ear2 V5)
 replace eap2:=w6 _ _ eap2 (nli eap2 V5)
 replace eam2:=w6 _ _ eam2 (nli eam2 V5)
 revert V6 w6 ean2 ear2 eap2 eam2 eaq2
 generalize upd H10 x (.ins (a "View") dx (BQ "piece_marks" (.ref aq) [("name_values",.ref an),("record_values",.ref ar),("piece_values",.ref ap),("record_marks",.ref am)]))=H11
 intro V6 w6 eaq2 ean2 ear2 eap2 eam2
 clear u6
 push_cast[↓Jb]
 have P1':Paired (NmV H11) v1 vw.nm:=Paired.mapP P1 λv c=>NmV.keep λy xs e=>V6.s _ _ e (C5 e hx (by intro z;cases z))
 have P2':Paired (RcV H11) v2 vw.rc:=Paired.mapP P2 λv c=>RcV.keep λy xs e=>V6.s _ _ e (C5 e hx (by intro z;cases z))
 refine⟨_,_,_,V6.ob,T.cl,T.n1,_,Sw,an,rfl,.inl ⟨⟨_,SqL.of ean2⟩,?_⟩⟩
 refine Z1 (xs:=v1) (λi=>(AF vw.nm i).isSome) (small _ (by omega)) (λi ys H'=>H'=H11/\ys=AW (B8 (vw.nm.take i))) ⟨rfl,rfl⟩ (λi ys H' _ ⟨e,e'⟩=>⟨e ▸ SqL.of ean2,?_⟩) (λi v ys H' hv ⟨e,e'⟩ QB qb=> ?_) (λi v ys H' hv hp ⟨e,e'⟩=> ?_) (λi v ys H' hv hp ⟨e,e'⟩=>⟨e,?_⟩) (λys H' ⟨e,e'⟩ p hp=> ?_)
 ·rw[e',CN]
  unfold B8
  exact Nat.le_trans (List.length_filterMap_le ..) (by rw[List.length_take];omega)
 ·subst e
  obtain⟨c',ec,hr⟩:=E6 P1' hv
  push_cast[]
  rw[jV hr]
  unfold AF at qb
  rw[ec]at qb
  simpa using qb
 ·subst e
  obtain⟨c',ec,hr⟩:=E6 P1' hv
  have:c'.isSome=true:=by
   unfold AF at hp
   rw[ec]at hp
   exact hp
  obtain⟨cc,rfl⟩:=Option.isSome_iff_exists.mp this
  obtain⟨p,rfl,hp'⟩:=hr
  push_cast[]
  refine BZ hp' (n:=1) rfl rfl ⟨rfl,?_⟩
  rw[e',EW ec]
  unfold B8 AW
  rw[List.filterMap_append,List.map_append]
  rfl
 ·obtain⟨c',ec,hr⟩:=E6 P1' hv
  have:c'=none:=by
   unfold AF at hp
   rw[ec]at hp
   cases c' with
   | none=>rfl
   | some _=>cases hp
  subst this
  rw[e',EW ec]
  unfold B8 AW
  rw[List.filterMap_append,List.map_append]
  simp
 subst e
 rw[q1,List.take_length]at e'
 subst e'
 have s12:=A0 (o:=.lst (AW (B8 vw.nm))) hp
 have e12:upd H' p (.lst (AW (B8 vw.nm))) p=some (.lst (AW (B8 vw.nm))):=AS
 revert s12 e12
 generalize upd H' p (.lst (AW (B8 vw.nm)))=H12
 intro s12 e12
 have hll:(B8 vw.nm).length<=100:=Nat.le_trans (List.length_filterMap_le ..) bn
 refine⟨r * w,p,B8 vw.nm,rfl,e12,λk hk=> ?_,by omega,by omega,λal H13 hal s13 eal=> ?_⟩
 ·unfold B8 at hk
  obtain⟨cc,h1,h2⟩:=List.mem_filterMap.mp hk
  rw[Option.map_eq_some_iff]at h2
  obtain⟨c2,rfl,rfl⟩:=h2
  rw[<-lr]
  exact(ok.n1 c2 h1).1
 obtain⟨V7,w7,u7⟩:=V6.put (f:="leads") (l:=al) (fs':=[("name_values",.ref an),("record_values",.ref ar),("piece_values",.ref ap),("record_marks",.ref am),("piece_marks",.ref aq),("leads",.ref al)]) (s12.trans s13) (by rw[CM (by decide +kernel)];rw[CM (by decide +kernel)];rw[CM (by decide +kernel)];rw[CM (by decide +kernel)];rw[CM (by decide +kernel)];rfl)
 refine⟨_,_,_,(s12.trans s13) _ _ V6.ob,T.cl,T.n6,by simp,?_⟩
 have eal2:=u7 _ _ eal (nli eal ⟨(s12.trans s13) _ _ V6.ob,V6.s.trans (s12.trans s13).sb⟩)
 replace ean2:=w7 _ _ ean2 (nli ean2 V6)
 replace ear2:=w7 _ _ ear2 (nli ear2 V6)
 replace eap2:=w7 _ _ eap2 (nli eap2 V6)
 replace eam2:=w7 _ _ eam2 (nli eam2 V6)
 replace eaq2:=w7 _ _ eaq2 (nli eaq2 V6)
 revert V7 w7 eal2 ean2 ear2 eap2 eam2 eaq2
 generalize upd H13 x (.ins (a "View") dx (BQ "leads" (.ref al) [("name_values",.ref an),("record_values",.ref ar),("piece_values",.ref ap),("record_marks",.ref am),("piece_marks",.ref aq)]))=H14
 intro V7 w7 eal2 ean2 ear2 eap2 eam2 eaq2
 clear u7
 have tkx:∀ {H':Hp} {fs:List (Str × V)},VI a H H' x dx fs->CD H H':=λI y xs e=>I.s _ _ e (C5 e hx (by intro z;cases z))
 have rcs:∀ {H':Hp} {fs:List (Str × V)},VI a H H' x dx fs->H' ar=some (.lst v2)->LstAt RcV H' ar vw.rc:=λI e=>⟨v2,e,Paired.mapP P2 λv c=>RcV.keep (tkx I)⟩
 have n10:∀ cc,some cc∈vw.rc->cc.2.length<=10:=λcc h=>(ok.n2 cc h).2
 have pb:∀ (l:List EV),l.length<=100->(∀ cc,some cc∈l->cc.2.length<=10)->(C3 l).length<=1000:=λl hl h=>by
  have:(C3 l).length<=l.length * 10:=by
   clear hl
   induction l with
   | nil=>simp[C3]
   | cons y l ih =>
    have ih:=ih λcc hc=>h cc (List.mem_cons_of_mem _ hc)
    unfold C3 at ih ⊢
    rw[List.flatMap_cons,List.length_append,List.length_cons]
    have:(FN y).length<=10:=by
     cases y with
     | none=>simp[FN]
     | some c=>exact h c List.mem_cons_self
    omega
  omega
 push_cast[↓Jc]
 refine⟨_,_,_,V7.ob,T.cl,T.n2,_,j5,ar,vw.rc,rfl,rcs V7 ear2,br,n10,λpl H15 hpl s15 epl=>⟨c * w,pl,C3 vw.rc,rfl,epl,λk hk=> ?_,by omega,by have:=pb _ br n10;omega,λag H16 hag s16 eag=> ?_⟩⟩
 ·unfold C3 at hk
  obtain⟨cc,h1,h2⟩:=List.mem_flatMap.mp hk
  cases cc with
  | none=>cases h2
  | some cc =>
   rw[<-lp]
   exact(ok.n2 cc h1).1 k h2
 obtain⟨V8,w8,u8⟩:=V7.put (f:="namings") (l:=ag) (fs':=[("name_values",.ref an),("record_values",.ref ar),("piece_values",.ref ap),("record_marks",.ref am),("piece_marks",.ref aq),("leads",.ref al),("namings",.ref ag)]) (s15.trans s16) (by rw[CM (by decide +kernel)];rw[CM (by decide +kernel)];rw[CM (by decide +kernel)];rw[CM (by decide +kernel)];rw[CM (by decide +kernel)];rw[CM (by decide +kernel)];rfl)
 refine⟨_,_,_,(s15.trans s16) _ _ V7.ob,T.cl,T.n7,by simp,?_⟩
 have eag2:=u8 _ _ eag (nli eag ⟨(s15.trans s16) _ _ V7.ob,V7.s.trans (s15.trans s16).sb⟩)
 replace eal2:=w8 _ _ eal2 (nli eal2 V7)
 replace ean2:=w8 _ _ ean2 (nli ean2 V7)
 replace ear2:=w8 _ _ ear2 (nli ear2 V7)
 replace eap2:=w8 _ _ eap2 (nli eap2 V7)
 replace eam2:=w8 _ _ eam2 (nli eam2 V7)
 replace eaq2:=w8 _ _ eaq2 (nli eaq2 V7)
 revert V8 w8 eag2 eal2 ean2 ear2 eap2 eam2 eaq2
 generalize upd H16 x (.ins (a "View") dx (BQ "namings" (.ref ag) [("name_values",.ref an),("record_values",.ref ar),("piece_values",.ref ap),("record_marks",.ref am),("piece_marks",.ref aq),("leads",.ref al)]))=H17
 intro V8 w8 eag2 eal2 ean2 ear2 eap2 eam2 eaq2
 clear u8
 have hal':H17 al=some (.lst (AW ((List.range vw.rc.length).map (led vw)))):=by rw[lr];exact eal2
 have ltm:∀ cc,some cc∈G1 vw->some cc∈vw.rc:=λcc h=>by
  unfold G1 at h
  obtain⟨k,_,hk⟩:=List.mem_map.mp h
  unfold AF at hk
  cases e:vw.rc[k]? with
  | none=>rw[e]at hk;cases hk
  | some y =>
   rw[e]at hk
   have hk:y=some cc:=hk
   exact hk ▸ List.mem_of_getElem? e
 have ltl:(G1 vw).length<=100:=by
  unfold G1
  rw[List.length_map]
  exact Nat.le_trans (List.length_filter_le ..) (by rw[List.length_range];exact br)
 push_cast[↓Jd]
 refine⟨_,_,V8.ob,?_,x,ar,al,vw,rfl,T,⟨_,_,V8.ob,j5⟩,⟨_,_,V8.ob,Sx⟩,rcs V8 ear2,hal',br,λlt H18 hlt s18 elt=>⟨lt,G1 vw,rfl,elt,ltl,λcc h=>n10 cc (ltm cc h),λpl2 H19 hpl2 s19 epl2=>⟨c * w,pl2,C3 (G1 vw),rfl,epl2,λk hk=> ?_,by omega,by have:=pb _ ltl (λcc h=>n10 cc (ltm cc h));omega,λah H20 hah s20 eah=> ?_⟩⟩⟩
 ·simp[List.lookup_cons,BH (a:="records_led_to") (b:="name_values") (by decide +kernel),BH (a:="records_led_to") (b:="record_values") (by decide +kernel),BH (a:="records_led_to") (b:="piece_values") (by decide +kernel),BH (a:="records_led_to") (b:="record_marks") (by decide +kernel),BH (a:="records_led_to") (b:="piece_marks") (by decide +kernel),BH (a:="records_led_to") (b:="leads") (by decide +kernel),BH (a:="records_led_to") (b:="namings") (by decide +kernel)]
 ·unfold C3 at hk
  obtain⟨cc,h1,h2⟩:=List.mem_flatMap.mp hk
  cases cc with
  | none=>cases h2
  | some cc =>
   rw[<-lp]
   exact(ok.n2 cc (ltm cc h1)).1 k h2
 have s1720:=(s18.trans s19).trans s20
 obtain⟨V9,w9,u9⟩:=V8.put (f:="reached") (l:=ah) (fs':=vf ⟨an,ar,ap,am,aq,al,ag,ah⟩) s1720 (by rw[CM (by decide +kernel)];rw[CM (by decide +kernel)];rw[CM (by decide +kernel)];rw[CM (by decide +kernel)];rw[CM (by decide +kernel)];rw[CM (by decide +kernel)];rw[CM (by decide +kernel)];rfl)
 refine⟨_,_,_,s1720 _ _ V8.ob,T.cl,T.n8,by simp,?_⟩
 have eah2:=u9 _ _ eah (nli eah ⟨s1720 _ _ V8.ob,V8.s.trans s1720.sb⟩)
 replace eag2:=w9 _ _ eag2 (nli eag2 V8)
 replace eal2:=w9 _ _ eal2 (nli eal2 V8)
 replace ean2:=w9 _ _ ean2 (nli ean2 V8)
 replace ear2:=w9 _ _ ear2 (nli ear2 V8)
 replace eap2:=w9 _ _ eap2 (nli eap2 V8)
 replace eam2:=w9 _ _ eam2 (nli eam2 V8)
 replace eaq2:=w9 _ _ eaq2 (nli eaq2 V8)
 have tk:=tkx V9
 refine q ⟨an,ar,ap,am,aq,al,ag,ah⟩ _ ⟨⟨dx,V9.ob⟩,⟨v1,ean2,Paired.mapP P1 λv c=>NmV.keep tk⟩,⟨v2,ear2,Paired.mapP P2 λv c=>RcV.keep tk⟩,⟨v3,eap2,Paired.mapP P3 λv c=>PcV.keep tk⟩,⟨v4,eam2,Paired.mapP P4 λv c=>MkV.keep tk⟩,⟨v5,eaq2,Paired.mapP P5 λv c=>MkV.keep tk⟩,by rw[lr];exact eal2,by rw[lp];exact eag2,by rw[lp];exact eah2,ok⟩ V9.s
theorem Sz(h:IY K a vs H Q E):vs.length=3:=by
 obtain⟨_,_,_,_,_,_,_,_,_,_,_,_,rfl,_⟩:=h
 rfl
theorem PlV.same{H':Hp}{rows:List (List V)}{n r c w:Nat}{vw:Vw}(h:PlV H rows n r c w vw)(tk:CD H H'):PlV H' rows n r c w vw:=by
 obtain⟨⟨v1,v2,v3,v4,v5,ef,P1,P2,P3,P4,P5⟩,x1,x2,x3,x4⟩:=h
 exact⟨⟨v1,v2,v3,v4,v5,ef,Paired.mapP P1 λv c=>NmV.keep tk,Paired.mapP P2 λv c=>RcV.keep tk,Paired.mapP P3 λv c=>PcV.keep tk,Paired.mapP P4 λv c=>MkV.keep tk,Paired.mapP P5 λv c=>MkV.keep tk⟩,x1,x2,x3,x4⟩
theorem Ground.same{H':Hp}{ly gp:Addr}{vw:Vw}(g:Ground K a H ly gp vw)(s:Same H H'):Ground K a H' ly gp vw:=by
 obtain⟨cl,n,r,c,w,rows,m,T,TL,TP,L,P,hr,pv⟩:=g
 exact⟨cl,n,r,c,w,rows,m,T,TL,TP,L.same s,P.same s,hr,pv.same s.tk⟩
theorem Ground.ok{ly gp:Addr}{vw:Vw}(g:Ground K a H ly gp vw):D3 vw:=by
 obtain⟨cl,n,r,c,w,rows,m,T,TL,TP,L,P,hr,pv⟩:=g
 exact pv.ok
theorem j6{ly gp:Addr}{vw:Vw}{Q:Addr->Hp->Prop}(g:Ground K a H ly gp vw)(q:TV K a->∀ x A H2,ViewAt a H2 x A vw->Same H H2->Q x H2) :
  ∀ x dx,H x=none->H dx=none->dx≠x->IY K a [.ref x,.ref ly,.ref gp] (upd (upd H dx (.own x)) x (.ins (a "View") dx [])) (λv H2=>v=.non/\Q x H2) E:=λx dx hx hdx nd=>by
 have s0:Same H (upd (upd H dx (.own x)) x (.ins (a "View") dx [])):=(A0 hdx).trans (A0 (by rw[AT nd.symm];exact hx))
 obtain⟨cl,n,r,c,w,rows,m,T,TL,TP,L,P,hr,pv⟩:=g
 exact⟨x,dx,ly,gp,cl,n,r,c,w,rows,m,vw,rfl,T,TL,TP,AS,L.same s0,P.same s0,hr,pv.same s0.tk,λA H' I s=>⟨rfl,q T x A H' I λy o e=>s _ _ (s0 _ _ e) (BE e hx)⟩⟩
theorem Tb(h:JZ K a vs H Q E):VX K a (λ_=>E) (A5 Q) (A1 ["layout","plank","view"] vs) H:=by
 obtain⟨ly,gp,vw,rfl,g,q⟩:=h
 obtain⟨n1,n2,n3,n4,n5,n6⟩:=O1 g.ok
 push_cast[VX,↓Kq]
 refine j6 g λT x A H1 I s1=> ?_
 push_cast[↓Kv]
 refine⟨x,A,vw,rfl,T,I,λl1 H2 h2 s2 F2=>⟨x,A,vw,rfl,T,I.same s2,λl2 H3 h3 s3 F3=>FD (F2.same s3) F3 ?_ (q.of ((s1.trans s2).trans s3))⟩⟩
 unfold faults E4
 simp only[List.length_append]
 omega
theorem Tc(h:JZ K a vs H Q E):vs.length=2:=by
 obtain⟨_,_,_,rfl,_⟩:=h
 rfl
theorem Td(h:J0 K a vs H Q E):VY K a (λ_=>E) (A5 Q) (A1 ["layout","plank"] vs) H:=by
 obtain⟨ly,gp,vw,rfl,g,q⟩:=h
 push_cast[VY,↓Kw]
 refine j6 g λT x A H1 I s1=>⟨x,A,vw,rfl,T,I,λl1 H2 h2 s2 F2=> ?_⟩
 obtain⟨ps,e,P⟩:=F2
 refine⟨(faults vw).length,.inl ⟨_,SqL.of e,by rw[List.length_map,P.length]⟩,?_⟩
 have:=q H2 (s1.trans s2)
 have e2:decide (((faults vw).length:Int)=0)=decide (faults vw=[]):=by
  rw[decide_eq_decide]
  constructor
  ·intro h;exact List.length_eq_zero_iff.mp (by omega)
  ·intro h;rw[h];rfl
 rw[e2]
 exact this
theorem Tg(h:J0 K a vs H Q E):vs.length=2:=by
 obtain⟨_,_,_,rfl,_⟩:=h
 rfl
theorem KC(x:Int){n:Nat}(h:1<=n):∃ b:Nat,x % (n:Int)=b/\b<n :=
  ⟨(x % (n:Int)).toNat,by have:=Int.emod_nonneg x (show(n:Int)≠0 by omega);omega,by
    have:=Int.emod_lt_of_pos x (show(0:Int)<n by omega)
    have:=Int.emod_nonneg x (show(n:Int)≠0 by omega);omega⟩
theorem j7{z:Str}{i:Int}{n:Nat}{c:Nat}{Q:VK}(hi:i=n)(hL:z.cps.toList.length<=1000)(hc:z.cps.toList[n]? =some c)(q:Q (.str ⟨#[c]⟩) H):AK K (.str z) (.int i) H Q:=by
 subst hi
 exact .inr (.inr ⟨z,n,c,rfl,rfl,Nat.le_trans (by simpa [Str.length]using hL) (small _ (by omega)),SO hc,q⟩)
theorem Th:∀ i:Fin 26,(Str.ofString "abcdefghijklmnopqrstuvwxyz").cps.toList[i.val]? =some (97+i.val):=by decide +kernel
theorem Tj{i:Int}{n:Nat}{Q:VK}(hi:i=n)(hn:n<26)(q:Q (.str ⟨#[97+n]⟩) H):AK K (.str (Str.ofString "abcdefghijklmnopqrstuvwxyz")) (.int i) H Q:=j7 hi (by decide +kernel) (Th ⟨n,hn⟩) q
def O4:Str:=Str.ofString " !\"#$&'()*+,-./0123456789:;<=>?@ABCDEFGHIJKLMNOPQRSTUVWXYZ[\\]^_`"++Str.ofString "abcdefghijklmnopqrstuvwxyz{|}~"
theorem Tk:∀ i:Fin 94,∃ c,O4.cps.toList[i.val]? =some c/\c<1114112:=by
 have h:∀ i:Fin 94,O4.cps.toList[i.val]? =some (O4.cps.toList[i.val]!)/\O4.cps.toList[i.val]! <1114112:=by decide +kernel
 exact λi=>⟨_,(h i).1,(h i).2⟩
theorem j8:∀ l:List Str,(∀ x∈l,x.length=1)->(l.map (·.length)).sum=l.length
 | [],_=>rfl
 | x::r,h=>by
  rw[List.map_cons,List.sum_cons,j8 r λy hy=>h y (List.mem_cons_of_mem _ hy),h x List.mem_cons_self,List.length_cons]
  omega
theorem j9{g:Str}(hg:PyData.strOk g=true):∀ (l:List Str) (acc:Array Nat),(acc.all λx=>decide (x<1114112))=true->(∀ z∈l,PyData.strOk z=true)->((l.foldl (λacc p=>acc++g.cps++p.cps) acc).all λx=>decide (x<1114112))=true
 | [],acc,h,_=>h
 | z::l,acc,h,hz=>by
  rw[List.foldl_cons]
  refine j9 hg l _ ?_ λy hy=>hz y (List.mem_cons_of_mem _ hy)
  have h1:(g.cps.all λx=>decide (x<1114112))=true:=hg
  have h2:(z.cps.all λx=>decide (x<1114112))=true:=hz z List.mem_cons_self
  rw[Array.all_append,Array.all_append,h,h1,h2,Bool.true_and,Bool.true_and]
theorem Tl{g:Str}{l:List Str}(hg:PyData.strOk g=true)(h:∀ z∈l,PyData.strOk z=true):PyData.strOk (Txt.join g l)=true:=by
 unfold PyData.strOk Txt.join Builtin.Str.glued
 cases l with
 | nil=>show((Str.empty.cps).all λx=>decide (x<1114112))=true;decide +kernel
 | cons z l=>exact j9 hg l z.cps (h z List.mem_cons_self) λy hy=>h y (List.mem_cons_of_mem _ hy)
theorem Tm{n:Nat}{k:Int}(hn:n<26)(h0:0<=k)(h1:k<10):PyData.strOk (IE ⟨#[97+n]⟩ k)=true:=by
 have:∀ (n:Fin 26) (k:Fin 10),PyData.strOk (IE ⟨#[97+n.val]⟩ (k.val:Int))=true:=by decide +kernel
 have:=this ⟨n,hn⟩ ⟨k.toNat,by omega⟩
 rwa [show(((⟨k.toNat,by omega⟩:Fin 10).val:Nat):Int)=k from by simp;omega]at this
theorem GK{p:Addr}{xs:List Int}{k:Nat}{Q:VK}(h:H p=some (.lst (xs.map V.int)))(hk:k<xs.length)(q:∀ x∈xs,Q (.int x) H):AK K (.ref p) (.int k) H Q :=
 BU (SqL.of h) (n:=k) rfl (by rw[List.getElem?_map,List.getElem?_eq_getElem hk];rfl) (q _ (List.getElem_mem hk))
theorem Tp(h:GF K a vs H Q E):UJ K a (λ_=>E) (A5 Q) (A1 ["cell","many","here","there","found","k"] vs) H:=by
 obtain⟨c,m,rfl,hm,q⟩:=h
 push_cast[UJ,↓zA,↓zB,↓zC]
 refine⟨⟨by decide,by decide⟩,by decide,λl hl=> ?_⟩
 have a1:0<=c % 920419823+5/\c % 920419823+5<1000000000:=by omega
 have a2:0<=c / 920419823 % 899809363+3/\c / 920419823 % 899809363+3<1000000000:=by omega
 generalize c % 920419823+5=here at a1 ⊢
 generalize c / 920419823 % 899809363+3=there at a2 ⊢
 have s1:=A0 (o:=.lst []) hl
 have e1:upd H l (.lst []) l=some (.lst []):=AS
 revert s1 e1
 generalize upd H l (.lst [])=H1
 intro s1 e1
 push_cast[↓zG]
 refine⟨by omega,by omega,IK (λi σ H'=>∃ (xs:List Int) (here there:Int),Same H H'/\H' l=some (.lst (xs.map V.int))/\xs.length=i/\(∀ x∈xs,0<=x/\x<2000000000)/\(0<=here/\here<1000000000)/\(0<=there/\there<1000000000)/\∃ y,σ=[some (.int c),some (.int m),some (.int here),some (.int there),some (.ref l),y]) ⟨[],here,there,s1,e1,rfl,by simp,a1,a2,_,rfl⟩ (λi σ H' hi ⟨xs,he,th,s,e,hxl,hx,b1,b2,y,eσ⟩=> ?_) (λσ H' ⟨xs,he,th,s,e,hxl,hx,b1,b2,y,eσ⟩=> ?_)⟩
 ·subst eσ
  push_cast[↓zD,↓zE,↓zF]
  have c1:0<=(he * 70001+th) % 920419823/\(he * 70001+th) % 920419823<920419823:=by omega
  generalize (he * 70001+th) % 920419823=h2 at c1 ⊢
  generalize h2 * h2=sq
  refine⟨.inl ⟨by omega,by omega⟩,.inl ⟨by omega,by omega⟩,.inl ⟨by omega,by omega⟩,.inl ⟨rfl,_,SqL.of e⟩,l,_,_,rfl,rfl,e,Nat.lt_of_lt_of_le (show(xs.map V.int).length<1000 by rw[List.length_map];omega) (by decide),λy o e=>by rw[AT (BE e hl)];exact s _ _ e,xs++[h2+(th * 60013+sq+(0+(i:Int))) % 899809363],by rw[AS,List.map_append];rfl,by simp[hxl],λx hxm=> ?_,h2,by omega,by omega,_,?_,?_,rfl,rfl⟩
  ·rcases List.mem_append.mp hxm with h | h
   ·exact hx x h
   ·rw[List.mem_singleton.mp h];omega
  ·omega
  ·omega
 ·subst eσ
  push_cast[↓zH]
  exact q l xs H' hl s e hxl hx
theorem Tq(h:GF K a vs H Q E):vs.length=2:=by
 obtain⟨_,_,rfl,_⟩:=h
 rfl
theorem Tv(h:ON K a vs H Q E):U4 K a (λ_=>E) (A5 Q) (A1 ["cell","xs","most"] vs) H:=by
 obtain⟨x,rfl,q⟩:=h
 push_cast[U4,↓Cp]
 refine⟨⟨by decide,by decide⟩,x / 48,3,rfl,by omega,λl xs H1 hl s1 el hxl hx=> ?_⟩
 have tail:∀ m:Int,3<=m->m<=6->U3 K a (λ_=>E) (λ_=>E) (A5 Q) [some (.int x),some (.ref l),some (.int m)] H1:=λm m1 m2=>by
  have md:∀ y:Int,0<=y % m/\y % m<m:=λy=>⟨Int.emod_nonneg _ (by omega),Int.emod_lt_of_pos _ (by omega)⟩
  push_cast[↓Cv]
  refine GK (k:=0) el (by omega) λy1 _=> ?_
  push_cast[]
  refine⟨by omega,GK (k:=1) el (by omega) λy2 _=> ?_⟩
  push_cast[]
  refine⟨by omega,GK (k:=2) el (by omega) λy3 _=> ?_⟩
  push_cast[]
  refine⟨by omega,by decide,λt ht=> ?_⟩
  have d1:=md y1
  have d2:=md y2
  have d3:=md y3
  obtain⟨n,en⟩:∃ n:Nat,1+y1 % m=n:=⟨(1+y1 % m).toNat,by omega⟩
  obtain⟨r,er⟩:∃ n:Nat,1+y2 % m=n:=⟨(1+y2 % m).toNat,by omega⟩
  obtain⟨c,ec⟩:∃ n:Nat,1+y3 % m=n:=⟨(1+y3 % m).toNat,by omega⟩
  obtain⟨w,ew⟩:∃ n:Nat,1+x % 6=n:=⟨(1+x % 6).toNat,by omega⟩
  have bb:(1<=n/\n<=6)/\(1<=r/\r<=6)/\(1<=c/\c<=6)/\1<=w/\w<=6:=by omega
  rw[en,er,ec,ew]
  exact q t n r c w _ (s1.trans (A0 ht)) AS bb.1.1 bb.1.2 bb.2.1.1 bb.2.1.2 bb.2.2.1.1 bb.2.2.1.2 bb.2.2.2.1 bb.2.2.2.2
 push_cast[↓Cq]
 refine⟨⟨by decide,by decide⟩,?_⟩
 split
 ·exact tail 6 (by omega) (by omega)
 ·exact tail 3 (by omega) (by omega)
theorem Tw(h:ON K a vs H Q E):vs.length=1:=by
 obtain⟨_,rfl,_⟩:=h
 rfl
theorem Tx(h:J1 K a vs H Q E):U2 K a (λ_=>E) (A5 Q) (A1 ["cell","signs","xs","size"] vs) H:=by
 obtain⟨x,rfl,q⟩:=h
 push_cast[U2,↓Cc,↓Cd,↓Cg]
 refine⟨by decide +kernel,x,3,rfl,by omega,λl xs H1 hl s1 el hxl hx=> ?_⟩
 have tail:∀ m:Nat,m<=40->U1 K a (λ_=>E) (λ_=>E) (A5 Q) [some (.int x),some (.str O4),some (.ref l),some (.int m)] H1:=λm hm=>by
  push_cast[↓Cm]
  refine⟨rfl,by omega,by omega,?_⟩
  refine NX (small _ (by omega)) (λi ys H'=>H'=H1/\∃ zs:List Str,ys=zs.map V.str/\∀ z∈zs,z.length=1/\PyData.strOk z=true) ⟨rfl,[],rfl,by simp⟩ (λi ys H' hi hl ⟨e1,zs,e2,e3⟩=> ?_) (λys H' hl' ⟨e1,zs,e2,e3⟩ p hp=> ?_)
  ·subst e1
   push_cast[BL]
   refine GK (k:=1) el (by omega) λy1 _=>GK (k:=2) el (by omega) λy2 hy2=> ?_
   have b2:=hx y2 hy2
   push_cast[]
   obtain⟨b,eb,hb⟩:=KC (y1+(0+(i:Int)) * y2) (n:=94) (by omega)
   obtain⟨c,hc,hco⟩:=Tk ⟨b,hb⟩
   refine⟨.inl ⟨by omega,by omega⟩,?_⟩
   rw[show((94:Nat):Int)=94 from rfl]at eb
   rw[eb]
   refine j7 rfl (by decide +kernel) hc ⟨rfl,zs++[⟨#[c]⟩],by rw[e2,List.map_append];rfl,λz hz=> ?_⟩
   rcases List.mem_append.mp hz with hz | hz
   ·exact e3 z hz
   ·rw[List.mem_singleton.mp hz]
    exact⟨rfl,by simp[PyData.strOk];exact hco⟩
  ·subst e1
   have hl2:zs.length=m:=by rw[<-hl',e2,List.length_map]
   refine⟨_,p,zs,rfl,rfl,by rw[<-e2];exact SqL.of AS,by decide,by rw[j8 zs λz hz=>(e3 z hz).1];omega,q _ _ ?_ (s1.trans (A0 hp))⟩
   exact Tl (by decide +kernel) λz hz=>(e3 z hz).2
 push_cast[↓Cj]
 refine GK (k:=0) el (by omega) λy1 hy1=> ?_
 have hb:=hx y1 hy1
 push_cast[↓Cl]
 refine GK (k:=0) el (by omega) λy2 hy2=> ?_
 push_cast[]
 refine⟨⟨by decide,by decide⟩,?_⟩
 split
 ·push_cast[↓Ck]
  exact tail 40 (by omega)
 ·obtain⟨m,em⟩:∃ m:Nat,1+y1 % 6=m:=⟨(1+y1 % 6).toNat,by omega⟩
  rw[em]
  exact tail m (by omega)
theorem Ty(h:J1 K a vs H Q E):vs.length=1:=by
 obtain⟨_,rfl,_⟩:=h
 rfl
def DJ(w:Nat)(xs:List V)(i:Nat):List V:=(xs.drop (i * w)).take w
theorem kA{w:Nat}:∀ {M:Nat} {xs:List V},xs.length=M * w->((List.range M).map (DJ w xs)).flatten=xs
 | 0,xs,h=>by
  have:xs=[]:=List.length_eq_zero_iff.mp (by omega)
  rw[this];rfl
 | M+1,xs,h=>by
  rw[List.range_succ_eq_map,List.map_cons,List.flatten_cons,List.map_map]
  have e:∀ i,DJ w xs (i+1)=DJ w (xs.drop w) i:=λi=>by
   unfold DJ
   rw[List.drop_drop]
   congr 2
   rw[Nat.succ_mul];omega
  have e2:(List.range M).map (DJ w xs ∘ Nat.succ)=(List.range M).map (DJ w (xs.drop w)):=List.map_congr_left λi _=>e i
  rw[e2,kA (xs:=xs.drop w) (by rw[List.length_drop,h,Nat.succ_mul];omega)]
  unfold DJ
  rw[Nat.zero_mul,List.drop_zero,List.take_append_drop]
theorem Tz{w M i:Nat}{xs:List V}(h:xs.length=M * w)(hi:i<M):(DJ w xs i).length=w:=by
 unfold DJ
 rw[List.length_take,List.length_drop,h]
 have:(i+1) * w<=M * w:=Nat.mul_le_mul_right w hi
 rw[Nat.succ_mul]at this
 omega
theorem HQ{l1 l2:Addr}{x1 x2:List V}{Q:VK}(e1:H l1=some (.lst x1))(e2:H l2=some (.lst x2))(hn:x1.length+x2.length<=10000)(q:newL (x1++x2) H Q):A7 K (.ref l1) (.ref l2) H Q :=
 .inl ⟨l1,l2,_,_,rfl,rfl,e1,e2,small _ (by omega),λp hp=>q p _ hp (A0 hp) AS⟩
theorem Ub{te:TE}{cap:List Nat}{σ:St}{b:Addr}{xs:List V}(hn:xs.length<=sizeLine)(Pv:Nat->List V->Hp->Prop)(h0:Pv 0 [] H)(hq:∀ i ys H,i<=xs.length->Pv i ys H->SqT K H b xs)
  (hs:∀ i x ys H,xs[i]? =some x->ys.length=i->Pv i ys H->te (some x::BL cap σ) H λy H2=>Pv (i+1) (ys++[y]) H2)
  (hd:∀ ys H,ys.length=xs.length->Pv xs.length ys H->∀ p,H p=none->Q (.ref p) (upd H p (.lst ys))) :
  DN (NF K b) (AL 0) CS te 1 cap σ H Q:=by
 refine⟨λi m σ' ys H=>m=xs.length - i/\i<=xs.length/\ys.length=i/\(∃ x0,σ'=x0::BL cap σ)/\Pv i ys H,⟨xs.length,by simp,Nat.zero_le _,rfl,⟨none,rfl⟩,h0⟩,?_⟩
 rintro i m σ' ys H ⟨rfl,hi,hl,⟨x0,rfl⟩,p⟩
 have q:=hq i ys H hi p
 by_cases hlt:i<xs.length
 ·refine .inr ⟨⟨xs,xs[i],q,by simp[hlt]⟩,by omega,λx H' y=> ?_⟩
  obtain⟨e,y⟩:=y
  subst e
  exact⟨_,λy H4 q=>⟨_,by omega,rfl,hlt,by simp[hl],⟨_,rfl⟩,q⟩,hs i x ys _ (y xs q) hl p⟩
 ·have e:i=xs.length:=by omega
  subst e
  exact .inl ⟨⟨xs,q,Nat.le_refl _⟩,hd ys H hl p⟩
theorem Uc(k:Nat):(List.replicate k [V.non]).flatten=List.replicate k V.non:=by
 induction k with
 | zero=>rfl
 | succ k ih=>rw[List.replicate_succ,List.flatten_cons,ih];rfl
theorem Ud{p:Addr}{k:Nat}{Q:VK}(e:H p=some (.lst [V.non]))(hk:k<=1000)(q:newL (List.replicate k V.non) H Q):DZ K (.ref p) (.int k) H Q:=by
 refine .inl ⟨p,k,_,rfl,rfl,e,by omega,by omega,small _ (by simp;omega),λl hl=> ?_⟩
 rw[Int.toNat_natCast,Uc]
 exact q l _ hl (A0 hl) AS
theorem LR{α β :Type}{F: α -> β ->Prop}{x: α}{y: β}(h:F x y):∀ n,Paired F (List.replicate n x) (List.replicate n y)
 | 0=>.nil
 | n+1=>.cons h (LR h n)
def G6(n:Nat)(ks:List Nat):List V:=AW ((List.range n).map λk=>ks.count k)
theorem Ug{n k:Nat}{ks:List Nat}(hk:k<n):(G6 n ks).set k (.int ((ks.count k:Int)+1))=G6 n (ks++[k]):=by
 unfold G6 AW
 refine List.ext_getElem? λj=> ?_
 by_cases hj:j<n
 ·rw[List.getElem?_map,HP hj,List.count_append]
  by_cases z:k=j
  ·subst z
   rw[List.getElem?_set_self (by simpa using hj)]
   simp
  ·rw[List.getElem?_set_ne z,List.getElem?_map,HP hj]
   have:List.count j [k]=0:=by simp[z]
   rw[this]
   rfl
 ·rw[List.getElem?_eq_none (by simp;omega),List.getElem?_eq_none (by simp;omega)]
theorem Uh{n k:Nat}{ks:List Nat}(hk:k<n):(G6 n ks)[k]? =some (.int (ks.count k:Nat)):=LN (HP hk)
theorem Uj(n:Nat)(ks:List Nat):(G6 n ks).length=n:=by unfold G6;rw[CN,GH]
theorem Uk(k:Nat):(List.replicate k [V.int 0]).flatten=G6 k []:=by
 unfold G6 AW
 rw[List.map_map]
 induction k with
 | zero=>rfl
 | succ k ih =>
  rw[List.replicate_succ',List.flatten_append,ih,List.range_succ,List.map_append]
  rfl
theorem Ul{p:Addr}{k:Nat}{Q:VK}(e:H p=some (.lst [V.int 0]))(hk:k<=1000)(q:newL (G6 k []) H Q):DZ K (.ref p) (.int k) H Q:=by
 refine .inl ⟨p,k,_,rfl,rfl,e,by omega,by omega,small _ (by simp;omega),λl hl=> ?_⟩
 rw[Int.toNat_natCast,Uk]
 exact q l _ hl (A0 hl) AS
theorem RJ(l:List Nat):AW l=(l.map λ(k:Nat)=>(k:Int)).map V.int:=by
 unfold AW
 rw[List.map_map]
 rfl
theorem kB{p e0:Addr}{l:List Nat}(h1:H p=some (.lst (AW l)))(h2:H e0=some (.lst []))(q:Q (.bl (decide (l=[]))) H):BY K (.ref p) (.ref e0) H Q:=by
 refine vT (n:=1) (by decide) (SqL.of h1) (by rw[RJ];exact TC _) (SqL.of h2) ?_
 have:decide (AW l=[])=decide (l=[]):=by
  unfold AW
  rw[decide_eq_decide,List.map_eq_nil_iff]
 rw[this]
 exact q
theorem Um{f:List V}(h:∀ v∈f,(∃ i,v=.int i)\/∃ s,v=.str s/\PyData.strOk s=true):∃ ds,Paired (Dat K H 1) f ds:=by
 induction f with
 | nil=>exact⟨[],.nil⟩
 | cons x r ih =>
  obtain⟨ds,hd⟩:=ih λv hv=>h v (List.mem_cons_of_mem _ hv)
  rcases h x List.mem_cons_self with⟨i,rfl⟩ | ⟨s,rfl,hs⟩
  ·exact⟨_,.cons (Dat.int i) hd⟩
  ·exact⟨_,.cons (⟨.str s,hs,Nat.zero_le _⟩:Dat K H 1 (.str s) (.str s)) hd⟩
theorem Up{l1 l2:Addr}{fs:List (List V)}(h1:FindsL H l1 fs)(h2:FindsL H l2 fs)(ok:FOk fs):∃ d,Dat K H 3 (.ref l1) d/\Dat K H 3 (.ref l2) d:=by
 have:∃ ds:List PyData,∀ ps:List Addr,Paired (λp f=>H p=some (.tup f)) ps fs->Paired (Dat K H 2) (ps.map V.ref) ds:=by
  clear h1 h2
  induction fs with
  | nil=>exact⟨[],λps P=>by cases P;exact .nil⟩
  | cons f r ih =>
   obtain⟨ds,hd⟩:=ih λg hg=>ok g (List.mem_cons_of_mem _ hg)
   obtain⟨d,hf⟩:=Um (K:=K) (H:=H) (ok f List.mem_cons_self).2.2
   refine⟨.tuple d::ds,λps P=> ?_⟩
   cases P with
   | cons e P=>exact .cons (Dat.tup (n:=1) (SqT.of e) hf) (hd _ P)
 obtain⟨ds,hd⟩:=this
 obtain⟨p1,e1,P1⟩:=h1
 obtain⟨p2,e2,P2⟩:=h2
 exact⟨.list ds,Dat.lst (n:=2) (SqL.of e1) (hd _ P1),Dat.lst (n:=2) (SqL.of e2) (hd _ P2)⟩
theorem FOk.app{f g:List (List V)}(h1:FOk f)(h2:FOk g):FOk (f++g):=λx hx=>(List.mem_append.mp hx).elim (h1 x) (h2 x)
theorem RK{n:Nat}{p:Nat->Bool}{f:Nat->List V}(h:∀ k,(f k).length<=10/\1<=(f k).length/\∀ v∈f k,(∃ i,v=.int i)\/∃ s,v=.str s/\PyData.strOk s=true):FOk (CC n p f):=λx hx=>by
 unfold CC at hx
 obtain⟨k,_,rfl⟩:=List.mem_map.mp hx
 exact h k
theorem Uq{s:Str}{i:Int}(h:PyData.strOk s=true):([V.str s,.int i]:List V).length<=10/\1<=([V.str s,.int i]:List V).length/\∀ v∈[V.str s,.int i],(∃ i,v=.int i)\/∃ s,v=.str s/\PyData.strOk s=true:=by
 refine⟨by simp,by simp,λv hv=> ?_⟩
 simp only[List.mem_cons,List.not_mem_nil,or_false]at hv
 rcases hv with rfl | rfl
 ·exact .inr ⟨_,rfl,h⟩
 ·exact .inl ⟨_,rfl⟩
theorem WC{s:Str}{u:V}{i:Int}(h:PyData.strOk s=true)(hu:(∃ i,u=.int i)\/∃ s,u=.str s/\PyData.strOk s=true):([V.str s,u,.int i]:List V).length<=10/\1<=([V.str s,u,.int i]:List V).length/\∀ v∈[V.str s,u,.int i],(∃ i,v=.int i)\/∃ s,v=.str s/\PyData.strOk s=true:=by
 refine⟨by simp,by simp,λv hv=> ?_⟩
 simp only[List.mem_cons,List.not_mem_nil,or_false]at hv
 rcases hv with rfl | rfl | rfl
 ·exact .inr ⟨_,rfl,h⟩
 ·exact hu
 ·exact .inl ⟨_,rfl⟩
theorem Uv(vw:Vw):FOk (E4 vw):=by
 unfold E4 IS IT IU
 refine(FOk.app (.app (RK λk=>WC (by decide +kernel) (.inl ⟨_,rfl⟩)) (RK λk=>WC (by decide +kernel) (.inr ⟨_,rfl,by decide +kernel⟩))) (RK λk=>WC (by decide +kernel) (.inr ⟨_,rfl,by decide +kernel⟩))).app (RK λk=>Uq (by decide +kernel))
theorem Uw{n r c w:Nat}{Q:Addr->Hp->Prop}(TL:EM K a)(h1:n<=100)(h2:r<=100)(h3:c<=100)(h4:1<=w)(h5:w<=100)(q:∀ x H2,LayAt a H2 x n r c w->Same H H2->Q x H2) :
  ∀ x dx,H x=none->H dx=none->dx≠x->LE K a [.ref x,.int n,.int r,.int c,.int w] (upd (upd H dx (.own x)) x (.ins (a "Layout") dx [])) (λv H2=>v=.non/\Q x H2) E:=λx dx hx hdx nd=>by
 have s0:Same H (upd (upd H dx (.own x)) x (.ins (a "Layout") dx [])):=(A0 hdx).trans (A0 (by rw[AT nd.symm];exact hx))
 exact⟨x,dx,n,r,c,w,rfl,TL,AS,h1,h2,h3,h4,h5,λH' L s=>⟨rfl,q x H' L λy o e=>s _ _ (s0 _ _ e) (BE e hx)⟩⟩
theorem LstAt.set{α :Type}{R:Hp->V-> α ->Prop}{H':Hp}{p:Addr}{us:List V}{cs:List α}{b:Nat}{v:V}{c: α}(e:H' p=some (.lst (us.set b v)))(P:Paired (R H') us cs)(hr:R H' v c):LstAt R H' p (cs.set b c):=⟨_,e,S9 hr b P⟩
theorem D8{α :Type}{l:List (Option α)}{k j:Nat}{x:Option α}(hk:k<l.length):AF (l.set k x) j=if j=k then x else AF l j:=by
 unfold AF
 by_cases h:j=k
 ·subst h
  rw[List.getElem?_set_self hk,if_pos rfl]
  rfl
 ·rw[List.getElem?_set_ne (λz=>h z.symm),if_neg h]
theorem LS{α :Type}{l:List (Option α)}{k:Nat}{c: α}(h:AF l k=some c):k<l.length:=by
 unfold AF at h
 cases e:l[k]? with
 | none=>rw[e]at h;cases h
 | some y=>exact(List.getElem?_eq_some_iff.mp e).1
theorem Ux{nm:List G0}{c:Str × Nat}:∀ {k:Nat},nm[k]? =some none->(B8 (nm.set k (some c))).length=(B8 nm).length+1/\∀ r,(B8 (nm.set k (some c))).count r=(B8 nm).count r+if c.2=r then 1 else 0:=by
 induction nm with
 | nil=>intro k h;simp at h
 | cons x l ih =>
  intro k h
  cases k with
  | zero =>
   cases h
   refine⟨by simp[B8],λr=> ?_⟩
   simp only[List.set_cons_zero,B8,List.filterMap_cons,Option.map_some,Option.map_none,List.count_cons]
   by_cases z:c.2=r<;>simp[z]
  | succ k =>
   have h:l[k]? =some none:=by simpa using h
   obtain⟨h1,h2⟩:=ih h
   unfold B8 at h1 h2 ⊢
   rw[List.set_cons_succ]
   cases x with
   | none=>simpa using ⟨h1,h2⟩
   | some d =>
    simp only[List.filterMap_cons,Option.map_some,List.length_cons]
    refine⟨by omega,λr=> ?_⟩
    rw[List.count_cons,List.count_cons,h2 r]
    omega
theorem Uy{nm:List G0}:((List.range nm.length).filter λk=>(AF nm k).isNone).length+(B8 nm).length=nm.length:=by
 have gen:∀ (l:List G0),((List.range l.length).filter λk=>(AF l k).isNone).length=(l.filter (·.isNone)).length:=λl=>by
  have:((List.range l.length).filter λk=>(AF l k).isNone).map (λk=>l[k]?)=(l.filter (·.isNone)).map some:=by
   have e:l.map some=(List.range l.length).map (λk=>l[k]?):=by
    refine List.ext_getElem? λi=> ?_
    by_cases hi:i<l.length
    ·rw[List.getElem?_map,List.getElem?_map,List.getElem?_range hi,List.getElem?_eq_getElem hi]
     simp[List.getElem?_eq_getElem hi]
    ·rw[List.getElem?_eq_none (by simp;omega),List.getElem?_eq_none (by simp;omega)]
   have e2:(l.filter (·.isNone)).map some=(l.map some).filter (λo=>match o with
    | some x=>x.isNone
    | none=>false):=by
    rw[List.filter_map]
    rfl
   rw[e2,e,List.filter_map]
   congr 1
   refine List.filter_congr λk hk=> ?_
   have hk:=List.mem_range.mp hk
   simp only[Function.comp,AF,List.getElem?_eq_getElem hk]
   rfl
  have h:=congrArg List.length this
  simpa using h
 rw[gen]
 clear gen
 induction nm with
 | nil=>rfl
 | cons x l ih =>
  unfold B8 at ih ⊢
  cases x with
  | none=>simp at ih ⊢;omega
  | some c=>simp at ih ⊢;omega
section
variable{vw:Vw}{lf:List Nat}{zs:List Str}
theorem RM{r:Nat}(h:0<led vw r):∃ k c,AF vw.nm k=some c/\c.2=r:=by
 unfold led B8 at h
 have:=List.count_pos_iff.mp h
 obtain⟨x,hx,e⟩:=List.mem_filterMap.mp this
 rw[Option.map_eq_some_iff]at e
 obtain⟨c,rfl,e⟩:=e
 obtain⟨k,hk⟩:=List.mem_iff_getElem?.mp hx
 exact⟨k,c,by unfold AF;rw[hk];rfl,e⟩
theorem Clean.led0(C:Clean vw lf zs){r:Nat}(h:AF vw.rc r=none):led vw r=0:=by
 cases e:led vw r with
 | zero=>rfl
 | succ n =>
  exfalso
  obtain⟨k,c,hk,hc⟩:=RM (vw:=vw) (r:=r) (by omega)
  have:=C.ls k c hk
  rw[hc,h]at this
  cases this
theorem Clean.text{p:Nat}{z:Str}(C:Clean vw lf zs)(h1:p<vw.pc.length)(h2:p<vw.pm.length)(hp:AF vw.pm p=none):Clean { vw with pc:=vw.pc.set p (some z),pm:=vw.pm.set p (some 1) } (lf++[p]) zs:=by
 have no:∀ r c,AF vw.rc r=some c->p∉c.2:=λr c hr hm=>by
  have:=(C.em r c hr p hm).2
  rw[hp]at this;cases this
 refine⟨C.nm,C.ds,C.ls,C.fw,C.s1,C.s2,λr c hr q hq=> ?_,C.fr,?_,λq=> ?_,C.p3⟩
 ·have hr:AF vw.rc r=some c:=hr
  have ne:q≠p:=λe=>no r c hr (e ▸ hq)
  simp only[D8 h1,D8 h2,if_neg ne]
  exact C.em r c hr q hq
 ·rw[List.nodup_append]
  refine⟨C.nd,by simp,λx hx y hy=> ?_⟩
  rw[List.mem_singleton.mp hy]
  intro e
  have:=((C.lm x).mp hx).1
  rw[e,hp]at this;cases this
 ·simp only[List.mem_append,List.mem_singleton,D8 h2]
  constructor
  ·rintro (h | rfl)
   ·obtain⟨a1,a2⟩:=(C.lm q).mp h
    refine⟨?_,a2⟩
    split
    ·rfl
    ·exact a1
   ·exact⟨by simp,λr c hr hc=>no r c hc⟩
  ·rintro ⟨a1,a2⟩
   by_cases e:q=p
   ·exact .inr e
   ·rw[if_neg e]at a1
    exact .inl ((C.lm q).mpr ⟨a1,a2⟩)
theorem Clean.recd{r:Nat}{cnt:Int}{tk:List Nat}(C:Clean vw lf zs)(hr:r<vw.rc.length)(h0:AF vw.rc r=none)(hn:tk.Nodup)(h3:tk.length<=3)(ht:∀ p∈tk,((AF vw.pc p).isSome=true/\AF vw.pm p=some 1)/\∀ r' c',AF vw.rc r'=some c'->p∉c'.2)(hc:0<=cnt):Clean { vw with rc:=vw.rc.set r (some (cnt,tk)) } lf zs:=by
 have l0:=C.led0 h0
 have at':∀ {r':Nat} {c:Int × List Nat},AF (vw.rc.set r (some (cnt,tk))) r'=some c->(r'=r/\c=(cnt,tk))\/(r'≠r/\AF vw.rc r'=some c):=λ{r' c} h=>by
  rw[D8 hr]at h
  by_cases e:r'=r
  ·rw[if_pos e]at h;cases h;exact .inl ⟨e,rfl⟩
  ·rw[if_neg e]at h;exact .inr ⟨e,h⟩
 refine⟨C.nm,C.ds,λk c hk=> ?_,λr' c h=> ?_,λr' c h=> ?_,λr1 r2 c1 c2 ne h1 h2 p hp=> ?_,λr' c h p hp=> ?_,C.fr,C.nd,λp=> ?_,λr' c h=> ?_⟩
 ·show(AF (vw.rc.set r (some (cnt,tk))) c.2).isSome=true
  rw[D8 hr]
  split
  ·rfl
  ·exact C.ls k c hk
 ·rcases at' h with⟨rfl,rfl⟩ | ⟨_,h⟩
  ·show(led vw r':Int)<=cnt
   rw[l0];exact hc
  ·exact C.fw r' c h
 ·rcases at' h with⟨rfl,rfl⟩ | ⟨_,h⟩
  ·exact hn
  ·exact C.s1 r' c h
 ·rcases at' h1 with⟨e1,rfl⟩ | ⟨_,g1⟩
  ·rcases at' h2 with⟨e2,rfl⟩ | ⟨_,h2⟩
   ·exact absurd (e1.trans e2.symm) ne
   ·exact(ht p hp).2 r2 c2 h2
  ·skip
   rcases at' h2 with⟨e2,rfl⟩ | ⟨_,h2⟩
   ·intro hm
    exact(ht p hm).2 r1 c1 g1 hp
   ·exact C.s2 r1 r2 c1 c2 ne g1 h2 p hp
 ·rcases at' h with⟨rfl,rfl⟩ | ⟨_,h⟩
  ·exact(ht p hp).1
  ·exact C.em r' c h p hp
 ·rw[C.lm p]
  refine and_congr_right λ_=>⟨λL r' c hl h=> ?_,λL r' c hl h=> ?_⟩
  ·rcases at' h with⟨rfl,rfl⟩ | ⟨_,h⟩
   ·have hl:0<led vw r':=hl
    omega
   ·exact L r' c hl h
  ·refine L r' c hl ?_
   show AF (vw.rc.set r (some (cnt,tk))) r'=some c
   rw[D8 hr,if_neg (λe=>by rw[e,h0]at h;cases h)]
   exact h
 ·rcases at' h with⟨rfl,rfl⟩ | ⟨_,h⟩
  ·exact h3
  ·exact C.p3 r' c h
theorem Clean.mark{r:Nat}{x:Option Int}(C:Clean vw lf zs)(hr:r<vw.rm.length)(h:led vw r=0\/x=some 1):Clean { vw with rm:=vw.rm.set r x } lf zs:=by
 refine⟨C.nm,C.ds,C.ls,C.fw,C.s1,C.s2,C.em,λr' hl=> ?_,C.nd,C.lm,C.p3⟩
 have hl:0<led vw r':=hl
 show AF (vw.rm.set r x) r'=some 1
 rw[D8 hr]
 split
 ·rename_i e
  rcases h with h | h
  ·rw[e]at hl;omega
  ·exact h
 ·exact C.fr r' hl
theorem Clean.cnt{r:Nat}{c:Int × List Nat}{cnt:Int}(C:Clean vw lf zs)(h0:AF vw.rc r=some c)(hc:(led vw r:Int)<=cnt):Clean { vw with rc:=vw.rc.set r (some (cnt,c.2)) } lf zs:=by
 have hr:=LS h0
 have at':∀ {r':Nat} {d:Int × List Nat},AF (vw.rc.set r (some (cnt,c.2))) r'=some d->∃ d',AF vw.rc r'=some d'/\d'.2=d.2/\(led vw r':Int)<=d.1:=λ{r' d} h=>by
  rw[D8 hr]at h
  by_cases e:r'=r
  ·rw[if_pos e]at h;cases h;exact⟨c,e ▸ h0,rfl,e ▸ hc⟩
  ·rw[if_neg e]at h;exact⟨d,h,rfl,C.fw r' d h⟩
 have to':∀ {r':Nat} {d:Int × List Nat},AF vw.rc r'=some d->∃ d',AF (vw.rc.set r (some (cnt,c.2))) r'=some d'/\d'.2=d.2:=λ{r' d} h=>by
  rw[D8 hr]
  by_cases e:r'=r
  ·rw[if_pos e]
   rw[e,h0]at h;cases h
   exact⟨_,rfl,rfl⟩
  ·rw[if_neg e];exact⟨d,h,rfl⟩
 refine⟨C.nm,C.ds,λk d hk=> ?_,λr' d h=> ?_,λr' d h=> ?_,λr1 r2 c1 c2 ne h1 h2 p hp=> ?_,λr' d h p hp=> ?_,C.fr,C.nd,λp=> ?_,λr' d h=> ?_⟩
 ·have:=C.ls k d hk
  obtain⟨d',hd'⟩:=Option.isSome_iff_exists.mp this
  obtain⟨d2,h2,_⟩:=to' hd'
  show(AF (vw.rc.set r (some (cnt,c.2))) d.2).isSome=true
  rw[h2];rfl
 ·obtain⟨d',h1,h2,h3⟩:=at' h
  exact h3
 ·obtain⟨d',h1,h2,h3⟩:=at' h
  rw[<-h2];exact C.s1 r' d' h1
 ·obtain⟨d1,g1,g2,_⟩:=at' h1
  obtain⟨d2,g3,g4,_⟩:=at' h2
  rw[<-g4];rw[<-g2]at hp
  exact C.s2 r1 r2 d1 d2 ne g1 g3 p hp
 ·obtain⟨d',h1,h2,_⟩:=at' h
  rw[<-h2]at hp
  exact C.em r' d' h1 p hp
 ·rw[C.lm p]
  refine and_congr_right λ_=>⟨λL r' d hl h=> ?_,λL r' d hl h=> ?_⟩
  ·obtain⟨d',h1,h2,_⟩:=at' h
   rw[<-h2];exact L r' d' hl h1
  ·obtain⟨d',h1,h2⟩:=to' h
   rw[<-h2];exact L r' d' hl h1
 ·obtain⟨d',h1,h2,_⟩:=at' h
  rw[<-h2];exact C.p3 r' d' h1
theorem Uz{α :Type}{l:List α}{i j:Nat}{x: α}(h:l.Nodup)(hi:l[i]? =some x)(hj:l[j]? =some x):i=j:=by
 rw[List.nodup_iff_pairwise_ne,List.pairwise_iff_getElem]at h
 obtain⟨h1,e1⟩:=List.getElem?_eq_some_iff.mp hi
 obtain⟨h2,e2⟩:=List.getElem?_eq_some_iff.mp hj
 rcases Nat.lt_trichotomy i j with z | z | z
 ·exact absurd (e1.trans e2.symm) (h i j h1 h2 z)
 ·exact z
 ·exact absurd (e2.trans e1.symm) (h j i h2 h1 z)
theorem Clean.name{k r:Nat}{s:Str}{c:Int × List Nat}(C:Clean vw lf zs)(hk:vw.nm[k]? =some none)(hs:zs[(B8 vw.nm).length]? =some s)(hz:zs.Nodup)(h0:AF vw.rc r=some c)(hc:(led vw r:Int)+1<=c.1)(hm:AF vw.rm r=some 1):Clean { vw with nm:=vw.nm.set k (some (s,r)) } (lf.filter λp=>decide (p∉c.2)) zs:=by
 have hkl:=(List.getElem?_eq_some_iff.mp hk).1
 obtain⟨u1,u2⟩:=Ux (c:=(s,r)) hk
 have hled:∀ r',led { vw with nm:=vw.nm.set k (some (s,r)) } r'=led vw r'+if r=r' then 1 else 0:=u2
 have at':∀ {k':Nat} {d:Str × Nat},AF (vw.nm.set k (some (s,r))) k'=some d->(k'=k/\d=(s,r))\/(k'≠k/\AF vw.nm k'=some d):=λ{k' d} h=>by
  rw[D8 hkl]at h
  by_cases e:k'=k
  ·rw[if_pos e]at h;cases h;exact .inl ⟨e,rfl⟩
  ·rw[if_neg e]at h;exact .inr ⟨e,h⟩
 have new:∀ {k':Nat} {d:Str × Nat},AF vw.nm k'=some d->d.1≠s:=λ{k' d} h e=>by
  obtain⟨j,hj,ej⟩:=C.nm k' d h
  rw[e]at ej
  have:=Uz hz ej hs
  omega
 refine⟨λk' d h=> ?_,λj1 j2 d1 d2 hlt h1 h2=> ?_,λk' d h=> ?_,λr' d h=> ?_,C.s1,C.s2,C.em,λr' hl=> ?_,C.nd.filter _,λp=> ?_,C.p3⟩
 ·show ∃ j,j<(B8 (vw.nm.set k (some (s,r)))).length/\zs[j]? =some d.1
  rw[u1]
  rcases at' h with⟨rfl,rfl⟩ | ⟨_,h⟩
  ·exact⟨_,Nat.lt_succ_self _,hs⟩
  ·obtain⟨j,hj,ej⟩:=C.nm k' d h
   exact⟨j,by omega,ej⟩
 ·rcases at' h1 with⟨e1,rfl⟩ | ⟨_,h1⟩
  ·rcases at' h2 with⟨e2,rfl⟩ | ⟨_,h2⟩
   ·omega
   ·exact λe=>new h2 e.symm
  ·rcases at' h2 with⟨e2,rfl⟩ | ⟨_,h2⟩
   ·exact new h1
   ·exact C.ds j1 j2 d1 d2 hlt h1 h2
 ·rcases at' h with⟨rfl,rfl⟩ | ⟨_,h⟩
  ·show(AF vw.rc r).isSome=true
   rw[h0];rfl
  ·exact C.ls k' d h
 ·have h:AF vw.rc r'=some d:=h
  rw[hled]
  by_cases e:r=r'
  ·rw[if_pos e]
   subst e
   rw[h0]at h;cases h
   omega
  ·rw[if_neg e]
   exact C.fw r' d h
 ·rw[hled]at hl
  show AF vw.rm r'=some 1
  by_cases e:r=r'
  ·exact e ▸ hm
  ·rw[if_neg e]at hl
   exact C.fr r' hl
 ·rw[List.mem_filter,C.lm p,decide_eq_true_eq]
  constructor
  ·rintro ⟨⟨a1,a2⟩,a3⟩
   refine⟨a1,λr' d hl h=> ?_⟩
   have h:AF vw.rc r'=some d:=h
   rw[hled]at hl
   by_cases e:r=r'
   ·subst e;rw[h0]at h;cases h;exact a3
   ·rw[if_neg e]at hl;exact a2 r' d hl h
  ·rintro ⟨a1,a2⟩
   refine⟨⟨a1,λr' d hl h=>a2 r' d (by rw[hled];omega) h⟩,a2 r c (by rw[hled,if_pos rfl];omega) h0⟩
theorem Clean.pmk{p:Nat}(C:Clean vw lf zs)(h2:p<vw.pm.length)(hp:AF vw.pm p=none):Clean { vw with pm:=vw.pm.set p (some 1) } (lf++[p]) zs:=by
 have no:∀ r c,AF vw.rc r=some c->p∉c.2:=λr c hr hm=>by
  have:=(C.em r c hr p hm).2
  rw[hp]at this;cases this
 refine⟨C.nm,C.ds,C.ls,C.fw,C.s1,C.s2,λr c hr q hq=> ?_,C.fr,?_,λq=> ?_,C.p3⟩
 ·have hr:AF vw.rc r=some c:=hr
  have ne:q≠p:=λe=>no r c hr (e ▸ hq)
  simp only[D8 h2,if_neg ne]
  exact C.em r c hr q hq
 ·rw[List.nodup_append]
  refine⟨C.nd,by simp,λx hx y hy=> ?_⟩
  rw[List.mem_singleton.mp hy]
  intro e
  have:=((C.lm x).mp hx).1
  rw[e,hp]at this;cases this
 ·simp only[List.mem_append,List.mem_singleton,D8 h2]
  constructor
  ·rintro (h | rfl)
   ·obtain⟨a1,a2⟩:=(C.lm q).mp h
    refine⟨?_,a2⟩
    split
    ·rfl
    ·exact a1
   ·exact⟨by simp,λr c hr hc=>no r c hc⟩
  ·rintro ⟨a1,a2⟩
   by_cases e:q=p
   ·exact .inr e
   ·rw[if_neg e]at a1
    exact .inl ((C.lm q).mpr ⟨a1,a2⟩)
theorem Clean.alone{p:Nat}{z:Option Str}{x:Option Int}(C:Clean vw lf zs)(h1:p<vw.pc.length)(h2:p<vw.pm.length)(hp:AF vw.pm p=none)(hx:x≠some 1):Clean { vw with pc:=vw.pc.set p z,pm:=vw.pm.set p x } lf zs:=by
 have no:∀ r c,AF vw.rc r=some c->p∉c.2:=λr c hr hm=>by
  have:=(C.em r c hr p hm).2
  rw[hp]at this;cases this
 refine⟨C.nm,C.ds,C.ls,C.fw,C.s1,C.s2,λr c hr q hq=> ?_,C.fr,C.nd,λq=> ?_,C.p3⟩
 ·have hr:AF vw.rc r=some c:=hr
  have ne:q≠p:=λe=>no r c hr (e ▸ hq)
  simp only[D8 h1,D8 h2,if_neg ne]
  exact C.em r c hr q hq
 ·simp only[D8 h2]
  rw[C.lm q]
  refine and_congr ?_ Iff.rfl
  by_cases e:q=p
  ·rw[if_pos e,e,hp]
   exact⟨λh=>(by cases h),λh=>absurd h hx⟩
  ·rw[if_neg e]
end
theorem Vb{l m:List Int}(h1:l.Pairwise (· <·))(h2:m.Pairwise (· <·))(h:∀ x,x∈l↔x∈m):l=m:=by
 have n1:l.Nodup:=h1.imp λh=>by omega
 have n2:m.Nodup:=h2.imp λh=>by omega
 exact((List.perm_ext_iff_of_nodup n1 n2).mpr h).eq_of_pairwise (λx y _ _ a b=>by omega) h1 h2
theorem LT{α :Type}{l:List (Option α)}{k:Nat}{c: α}(h:AF l k=some c):some c∈l:=by
 unfold AF at h
 cases e:l[k]? with
 | none=>rw[e]at h;cases h
 | some y =>
  rw[e]at h
  have h:y=some c:=h
  exact h ▸ List.mem_of_getElem? e
theorem kC{p:Nat}:∀ {l:List Nat},l.Nodup->l.count p<=1
 | [],_=>by simp
 | x::l,h=>by
  obtain⟨h1,h2⟩:=List.nodup_cons.mp h
  rw[List.count_cons]
  by_cases e:x=p
  ·subst e
   have:l.count x=0:=List.count_eq_zero.mpr h1
   simp[this]
  ·have:=kC (p:=p) h2
   have e':(x == p)=false:=by simpa using e
   rw[e']
   simpa using this
theorem kD{rc:List EV}{p:Nat}:p∈C3 rc↔∃ r c,AF rc r=some c/\p∈c.2:=by
 unfold C3
 rw[List.mem_flatMap]
 constructor
 ·rintro ⟨x,hx,hp⟩
  cases x with
  | none=>cases hp
  | some c =>
   obtain⟨r,hr⟩:=List.mem_iff_getElem?.mp hx
   exact⟨r,c,by unfold AF;rw[hr];rfl,hp⟩
 ·rintro ⟨r,c,h,hp⟩
  exact⟨some c,LT h,hp⟩
theorem kE{p:Nat}:∀ {rc:List EV},(∀ r c,AF rc r=some c->c.2.Nodup)->(∀ r r' c c',r≠r'->AF rc r=some c->AF rc r'=some c'->∀ p∈c.2,p∉c'.2)->(C3 rc).count p<=1
 | [],_,_=>by simp[C3]
 | x::l,h1,h2=>by
  have ih:=kE (p:=p) (rc:=l) (λr c h=>h1 (r+1) c (by unfold AF at h ⊢;simpa using h)) (λr r' c c' ne h h'=>h2 (r+1) (r'+1) c c' (by omega) (by unfold AF at h ⊢;simpa using h) (by unfold AF at h' ⊢;simpa using h'))
  unfold C3 at ih ⊢
  rw[List.flatMap_cons,List.count_append]
  cases x with
  | none=>simpa [FN]using ih
  | some c =>
   have n1:(FN (some c)).count p<=1:=kC (h1 0 c rfl)
   by_cases hm:p∈c.2
   ·have:(List.flatMap FN l).count p=0:=by
     rw[List.count_eq_zero]
     intro hp
     obtain⟨r,d,hr,hd⟩:=kD.mp (show p∈C3 l from hp)
     exact h2 0 (r+1) c d (by omega) rfl (by unfold AF at hr ⊢;simpa using hr) p hm hd
    omega
   ·have:(FN (some c)).count p=0:=List.count_eq_zero.mpr hm
    omega
theorem GL{n:Nat}{p:Nat->Bool}{f:Nat->List V}(h:∀ k,k<n->p k=false):CC n p f=[]:=by
 unfold CC
 rw[List.map_eq_nil_iff,List.filter_eq_nil_iff]
 intro k hk
 rw[h k (List.mem_range.mp hk)]
 exact Bool.false_ne_true
section
variable{vw:Vw}{lf:List Nat}{zs:List Str}
theorem kF{p:Nat}(h:0<EC vw p):∃ r c,AF vw.rc r=some c/\p∈c.2:=kD.mp (List.count_pos_iff.mp h)
theorem Clean.faults(C:Clean vw lf zs):faults vw=[]:=by
 unfold L2.faults OD LG OE
 rw[GL,GL,GL,GL,GL,GL,GL]
 ·rfl
 ·intro p hp
  by_cases h:0<EC vw p
  ·obtain⟨r,c,hr,hm⟩:=kF h
   simp[(C.em r c hr p hm).2]
  ·simp[h]
 ·intro r hr
  by_cases h:0<led vw r
  ·simp[C.fr r h]
  ·simp[h]
 ·intro r hr
  unfold G2
  cases e:AF vw.rc r with
  | none=>rfl
  | some c =>
   have:=C.fw r c e
   simp;omega
 ·intro p hp
  by_cases h:0<EC vw p
  ·obtain⟨r,c,hr,hm⟩:=kF h
   have:=(C.em r c hr p hm).1
   obtain⟨z,hz⟩:=Option.isSome_iff_exists.mp this
   simp[hz]
  ·simp[h]
 ·intro p hp
  have:=kE (p:=p) C.s1 C.s2
  unfold EC
  simp;omega
 ·intro k hk
  unfold GE
  cases e:AF vw.nm k with
  | none=>rfl
  | some c =>
   rw[Bool.eq_false_iff]
   intro h
   obtain⟨j,hj,he⟩:=List.any_eq_true.mp h
   cases e2:AF vw.nm j with
   | none=>simp only[e2]at he;cases he
   | some d =>
    simp only[e2]at he
    exact C.ds j k d c (List.mem_range.mp hj) e2 e (by simpa using he)
 ·intro k hk
  unfold FO
  cases e:AF vw.nm k with
  | none=>rfl
  | some c =>
   have:=C.ls k c e
   obtain⟨z,hz⟩:=Option.isSome_iff_exists.mp this
   simp[hz]
theorem KD{p:Nat}:OO vw p↔DI vw p=0:=by
 unfold DI
 rw[List.count_eq_zero]
 unfold OO
 constructor
 ·intro h hm
  unfold C3 G1 at hm
  obtain⟨x,hx,hp⟩:=List.mem_flatMap.mp hm
  obtain⟨r,hr,rfl⟩:=List.mem_map.mp hx
  obtain⟨_,hl⟩:=List.mem_filter.mp hr
  cases e:AF vw.rc r with
  | none=>rw[e]at hp;cases hp
  | some c =>
   rw[e]at hp
   exact h r c (by simpa using hl) e hp
 ·intro h r c hl hr hm
  refine h ?_
  unfold C3 G1
  exact List.mem_flatMap.mpr ⟨some c,List.mem_map.mpr ⟨r,List.mem_filter.mpr ⟨List.mem_range.mpr (LS hr),by simpa using hl⟩,hr⟩,hm⟩
theorem Clean.sorted(C:Clean vw lf zs)(l2:vw.pm.length=vw.pc.length){ks:List Int}(hp:ks.Perm (lf.map λ(k:Nat)=>(k:Int)))(hs:ks.Pairwise (· <=·)):ks=((List.range vw.pc.length).filter λp=>decide (AF vw.pm p=some 1) && decide (DI vw p=0)).map λ(k:Nat)=>(k:Int):=by
 have nd:ks.Nodup:=hp.nodup_iff.mpr (by
  rw[List.nodup_iff_pairwise_ne,List.pairwise_map]
  exact(List.nodup_iff_pairwise_ne.mp C.nd).imp λh e=>h (by omega))
 refine Vb ?_ ?_ λx=> ?_
 ·rw[List.nodup_iff_pairwise_ne]at nd
  exact(hs.and nd).imp λ⟨h1,h2⟩=>by omega
 ·rw[List.pairwise_map]
  exact(List.pairwise_lt_range.filter _).imp λh=>by omega
 ·rw[hp.mem_iff,List.mem_map,List.mem_map]
  constructor
  ·rintro ⟨p,h,rfl⟩
   obtain⟨a1,a2⟩:=(C.lm p).mp h
   have hl:=LS a1
   exact⟨p,List.mem_filter.mpr ⟨List.mem_range.mpr (by omega),by simp[a1,KD.mp a2]⟩,rfl⟩
  ·rintro ⟨p,h,rfl⟩
   obtain⟨_,h⟩:=List.mem_filter.mp h
   simp at h
   exact⟨p,(C.lm p).mpr ⟨h.1,KD.mpr h.2⟩,rfl⟩
theorem Clean.short(C:Clean vw lf zs):lf.length<=vw.pm.length:=by
 have:=List.Nodup.length_le_of_subset (l₂:=List.range vw.pm.length) C.nd λp hp=>List.mem_range.mpr (LS ((C.lm p).mp hp).1)
 simpa using this
end
structure Vc(A:LW):Prop where
 d01:A.a0≠A.a1
 d02:A.a0≠A.a2
 d03:A.a0≠A.a3
 d04:A.a0≠A.a4
 d05:A.a0≠A.a5
 d10:A.a1≠A.a0
 d12:A.a1≠A.a2
 d13:A.a1≠A.a3
 d14:A.a1≠A.a4
 d15:A.a1≠A.a5
 d20:A.a2≠A.a0
 d21:A.a2≠A.a1
 d23:A.a2≠A.a3
 d24:A.a2≠A.a4
 d25:A.a2≠A.a5
 d30:A.a3≠A.a0
 d31:A.a3≠A.a1
 d32:A.a3≠A.a2
 d34:A.a3≠A.a4
 d35:A.a3≠A.a5
 d40:A.a4≠A.a0
 d41:A.a4≠A.a1
 d42:A.a4≠A.a2
 d43:A.a4≠A.a3
 d45:A.a4≠A.a5
 d50:A.a5≠A.a0
 d51:A.a5≠A.a1
 d52:A.a5≠A.a2
 d53:A.a5≠A.a3
 d54:A.a5≠A.a4
 v0:A.v≠A.a0
 v1:A.v≠A.a1
 v2:A.v≠A.a2
 v3:A.v≠A.a3
 v4:A.v≠A.a4
 v5:A.v≠A.a5
theorem LWAt.diff{A:LW}{vw:Vw}{lf:List Nat}(I:LWAt H A vw lf):Vc A:=by
 have nd:=I.nd
 have nv:=I.nv
 simp[LW.L]at nd nv
 obtain⟨⟨a1,a2,a3,a4,a5⟩,⟨b1,b2,b3,b4⟩,⟨c1,c2,c3⟩,⟨d1,d2⟩,e1⟩:=nd
 obtain⟨v0,v1,v2,v3,v4,v5⟩:=nv
 constructor<;>first | assumption | (apply Ne.symm;assumption)
theorem LWAt.same{A:LW}{vw:Vw}{lf:List Nat}{H':Hp}(I:LWAt H A vw lf)(s:Same H H'):LWAt H' A vw lf :=
 ⟨s _ _ I.ob,I.n.keep (λv c=>NmV.keep s.tk) (λo=>s _ _),I.r.keep (λv c=>RcV.keep s.tk) (λo=>s _ _),I.p.keep (λv c=>PcV.keep s.tk) (λo=>s _ _),I.rm.keep (λv c=>MkV.keep s.tk) (λo=>s _ _),I.pm.keep (λv c=>MkV.keep s.tk) (λo=>s _ _),s _ _ I.l,I.ok,I.nd,I.nv⟩
theorem LWAt.set0{A:LW}{vw:Vw}{lf:List Nat}{k:Nat}{v:V}{cc:G0}{Q:Hp->Prop}(I:LWAt H A vw lf)(hk:k<vw.nm.length)(hr:NmV H v cc)(hok:∀ c,cc=some c->c.2<vw.rc.length/\PyData.strOk c.1=true)(q:∀ H',LWAt H' A { vw with nm:=vw.nm.set k cc } lf->SameBut (· ∈A.L) H H'->CD H H'->Q H'):CK (.ref A.a0) (.int k) v H Q:=by
 obtain⟨us,e,P⟩:=I.n
 have d:=I.diff
 refine⟨A.a0,us,k,k,rfl,rfl,e,KB (by rw[P.length];exact hk),?_⟩
 have tk:CD H (upd H A.a0 (.lst (us.set k v))):=λy xs e2=>by rw[AT (C5 e2 e (by intro z;cases z))];exact e2
 refine q _ ⟨by rw[AT d.v0];exact I.ob,LstAt.set AS (Paired.mapP P λv c=>NmV.keep tk) (NmV.keep tk hr),I.r.keep (λv c=>RcV.keep tk) (λo e=>by rw[AT d.d10];exact e),I.p.keep (λv c=>PcV.keep tk) (λo e=>by rw[AT d.d20];exact e),I.rm.keep (λv c=>MkV.keep tk) (λo e=>by rw[AT d.d30];exact e),I.pm.keep (λv c=>MkV.keep tk) (λo e=>by rw[AT d.d40];exact e),by rw[AT d.d50];exact I.l,⟨λc h=>(List.mem_or_eq_of_mem_set h).elim (I.ok.n1 c) λe=>hok c e.symm,λc h=>I.ok.n2 c h,λc h=>I.ok.n3 c h,I.ok.l1,I.ok.l2,(by rw[List.length_set];exact I.ok.bn),I.ok.br,I.ok.bp⟩,I.nd,I.nv⟩ (λy o e ny=> ?_) tk
 rw[AT λz=>ny (by rw[z];simp[LW.L])];exact e
theorem LWAt.set1{A:LW}{vw:Vw}{lf:List Nat}{k:Nat}{v:V}{cc:EV}{Q:Hp->Prop}(I:LWAt H A vw lf)(hk:k<vw.rc.length)(hr:RcV H v cc)(hok:∀ c,cc=some c->(∀ p∈c.2,p<vw.pc.length)/\c.2.length<=10)(q:∀ H',LWAt H' A { vw with rc:=vw.rc.set k cc } lf->SameBut (· ∈A.L) H H'->CD H H'->Q H'):CK (.ref A.a1) (.int k) v H Q:=by
 obtain⟨us,e,P⟩:=I.r
 have d:=I.diff
 refine⟨A.a1,us,k,k,rfl,rfl,e,KB (by rw[P.length];exact hk),?_⟩
 have tk:CD H (upd H A.a1 (.lst (us.set k v))):=λy xs e2=>by rw[AT (C5 e2 e (by intro z;cases z))];exact e2
 refine q _ ⟨by rw[AT d.v1];exact I.ob,I.n.keep (λv c=>NmV.keep tk) (λo e=>by rw[AT d.d01];exact e),LstAt.set AS (Paired.mapP P λv c=>RcV.keep tk) (RcV.keep tk hr),I.p.keep (λv c=>PcV.keep tk) (λo e=>by rw[AT d.d21];exact e),I.rm.keep (λv c=>MkV.keep tk) (λo e=>by rw[AT d.d31];exact e),I.pm.keep (λv c=>MkV.keep tk) (λo e=>by rw[AT d.d41];exact e),by rw[AT d.d51];exact I.l,⟨λc h=>⟨by rw[List.length_set];exact(I.ok.n1 c h).1,(I.ok.n1 c h).2⟩,λc h=>(List.mem_or_eq_of_mem_set h).elim (I.ok.n2 c) λe=>hok c e.symm,λc h=>I.ok.n3 c h,(by rw[List.length_set];exact I.ok.l1),I.ok.l2,I.ok.bn,(by rw[List.length_set];exact I.ok.br),I.ok.bp⟩,I.nd,I.nv⟩ (λy o e ny=> ?_) tk
 rw[AT λz=>ny (by rw[z];simp[LW.L])];exact e
theorem LWAt.set2{A:LW}{vw:Vw}{lf:List Nat}{k:Nat}{v:V}{cc:Option Str}{Q:Hp->Prop}(I:LWAt H A vw lf)(hk:k<vw.pc.length)(hr:PcV H v cc)(hok:∀ c,cc=some c->PyData.strOk c=true)(q:∀ H',LWAt H' A { vw with pc:=vw.pc.set k cc } lf->SameBut (· ∈A.L) H H'->CD H H'->Q H'):CK (.ref A.a2) (.int k) v H Q:=by
 obtain⟨us,e,P⟩:=I.p
 have d:=I.diff
 refine⟨A.a2,us,k,k,rfl,rfl,e,KB (by rw[P.length];exact hk),?_⟩
 have tk:CD H (upd H A.a2 (.lst (us.set k v))):=λy xs e2=>by rw[AT (C5 e2 e (by intro z;cases z))];exact e2
 refine q _ ⟨by rw[AT d.v2];exact I.ob,I.n.keep (λv c=>NmV.keep tk) (λo e=>by rw[AT d.d02];exact e),I.r.keep (λv c=>RcV.keep tk) (λo e=>by rw[AT d.d12];exact e),LstAt.set AS (Paired.mapP P λv c=>PcV.keep tk) (PcV.keep tk hr),I.rm.keep (λv c=>MkV.keep tk) (λo e=>by rw[AT d.d32];exact e),I.pm.keep (λv c=>MkV.keep tk) (λo e=>by rw[AT d.d42];exact e),by rw[AT d.d52];exact I.l,⟨λc h=>I.ok.n1 c h,λc h=>⟨λp hp=>by rw[List.length_set];exact(I.ok.n2 c h).1 p hp,(I.ok.n2 c h).2⟩,λc h=>(List.mem_or_eq_of_mem_set h).elim (I.ok.n3 c) λe=>hok c e.symm,I.ok.l1,(by rw[List.length_set];exact I.ok.l2),I.ok.bn,I.ok.br,(by rw[List.length_set];exact I.ok.bp)⟩,I.nd,I.nv⟩ (λy o e ny=> ?_) tk
 rw[AT λz=>ny (by rw[z];simp[LW.L])];exact e
theorem LWAt.set3{A:LW}{vw:Vw}{lf:List Nat}{k:Nat}{v:V}{cc:Option Int}{Q:Hp->Prop}(I:LWAt H A vw lf)(hk:k<vw.rc.length)(hr:MkV H v cc)(hok:∀ c,cc=some c->True)(q:∀ H',LWAt H' A { vw with rm:=vw.rm.set k cc } lf->SameBut (· ∈A.L) H H'->CD H H'->Q H'):CK (.ref A.a3) (.int k) v H Q:=by
 obtain⟨us,e,P⟩:=I.rm
 have d:=I.diff
 refine⟨A.a3,us,k,k,rfl,rfl,e,KB (by rw[P.length,I.ok.l1];exact hk),?_⟩
 have tk:CD H (upd H A.a3 (.lst (us.set k v))):=λy xs e2=>by rw[AT (C5 e2 e (by intro z;cases z))];exact e2
 refine q _ ⟨by rw[AT d.v3];exact I.ob,I.n.keep (λv c=>NmV.keep tk) (λo e=>by rw[AT d.d03];exact e),I.r.keep (λv c=>RcV.keep tk) (λo e=>by rw[AT d.d13];exact e),I.p.keep (λv c=>PcV.keep tk) (λo e=>by rw[AT d.d23];exact e),LstAt.set AS (Paired.mapP P λv c=>MkV.keep tk) (MkV.keep tk hr),I.pm.keep (λv c=>MkV.keep tk) (λo e=>by rw[AT d.d43];exact e),by rw[AT d.d53];exact I.l,⟨λc h=>I.ok.n1 c h,λc h=>I.ok.n2 c h,λc h=>I.ok.n3 c h,(by rw[List.length_set];exact I.ok.l1),I.ok.l2,I.ok.bn,I.ok.br,I.ok.bp⟩,I.nd,I.nv⟩ (λy o e ny=> ?_) tk
 rw[AT λz=>ny (by rw[z];simp[LW.L])];exact e
theorem LWAt.set4{A:LW}{vw:Vw}{lf:List Nat}{k:Nat}{v:V}{cc:Option Int}{Q:Hp->Prop}(I:LWAt H A vw lf)(hk:k<vw.pc.length)(hr:MkV H v cc)(hok:∀ c,cc=some c->True)(q:∀ H',LWAt H' A { vw with pm:=vw.pm.set k cc } lf->SameBut (· ∈A.L) H H'->CD H H'->Q H'):CK (.ref A.a4) (.int k) v H Q:=by
 obtain⟨us,e,P⟩:=I.pm
 have d:=I.diff
 refine⟨A.a4,us,k,k,rfl,rfl,e,KB (by rw[P.length,I.ok.l2];exact hk),?_⟩
 have tk:CD H (upd H A.a4 (.lst (us.set k v))):=λy xs e2=>by rw[AT (C5 e2 e (by intro z;cases z))];exact e2
 refine q _ ⟨by rw[AT d.v4];exact I.ob,I.n.keep (λv c=>NmV.keep tk) (λo e=>by rw[AT d.d04];exact e),I.r.keep (λv c=>RcV.keep tk) (λo e=>by rw[AT d.d14];exact e),I.p.keep (λv c=>PcV.keep tk) (λo e=>by rw[AT d.d24];exact e),I.rm.keep (λv c=>MkV.keep tk) (λo e=>by rw[AT d.d34];exact e),LstAt.set AS (Paired.mapP P λv c=>MkV.keep tk) (MkV.keep tk hr),by rw[AT d.d54];exact I.l,⟨λc h=>I.ok.n1 c h,λc h=>I.ok.n2 c h,λc h=>I.ok.n3 c h,I.ok.l1,(by rw[List.length_set];exact I.ok.l2),I.ok.bn,I.ok.br,I.ok.bp⟩,I.nd,I.nv⟩ (λy o e ny=> ?_) tk
 rw[AT λz=>ny (by rw[z];simp[LW.L])];exact e
theorem LWAt.ix0{A:LW}{vw:Vw}{lf:List Nat}{Q:VK}{k:Nat}(I:LWAt H A vw lf)(hk:k<vw.nm.length)(q:∀ v,NmV H v (AF vw.nm k)->Q v H):AK K (.ref A.v) (.int 0) H λx H1=>AK K x (.int k) H1 Q:=by
 obtain⟨us,v,e,_,ev,hr⟩:=I.n.at (k:=k) hk
 exact BU (SqL.of I.ob) (n:=0) rfl rfl (BU (SqL.of e) (n:=k) rfl ev (q v hr))
theorem LWAt.at0{A:LW}{vw:Vw}{lf:List Nat}{Q:VK}(I:LWAt H A vw lf)(q:Q (.ref A.a0) H):AK K (.ref A.v) (.int 0) H Q:=BU (SqL.of I.ob) (n:=0) rfl rfl q
theorem LWAt.ix1{A:LW}{vw:Vw}{lf:List Nat}{Q:VK}{k:Nat}(I:LWAt H A vw lf)(hk:k<vw.rc.length)(q:∀ v,RcV H v (AF vw.rc k)->Q v H):AK K (.ref A.v) (.int 1) H λx H1=>AK K x (.int k) H1 Q:=by
 obtain⟨us,v,e,_,ev,hr⟩:=I.r.at (k:=k) hk
 exact BU (SqL.of I.ob) (n:=1) rfl rfl (BU (SqL.of e) (n:=k) rfl ev (q v hr))
theorem LWAt.at1{A:LW}{vw:Vw}{lf:List Nat}{Q:VK}(I:LWAt H A vw lf)(q:Q (.ref A.a1) H):AK K (.ref A.v) (.int 1) H Q:=BU (SqL.of I.ob) (n:=1) rfl rfl q
theorem LWAt.ix2{A:LW}{vw:Vw}{lf:List Nat}{Q:VK}{k:Nat}(I:LWAt H A vw lf)(hk:k<vw.pc.length)(q:∀ v,PcV H v (AF vw.pc k)->Q v H):AK K (.ref A.v) (.int 2) H λx H1=>AK K x (.int k) H1 Q:=by
 obtain⟨us,v,e,_,ev,hr⟩:=I.p.at (k:=k) hk
 exact BU (SqL.of I.ob) (n:=2) rfl rfl (BU (SqL.of e) (n:=k) rfl ev (q v hr))
theorem LWAt.at2{A:LW}{vw:Vw}{lf:List Nat}{Q:VK}(I:LWAt H A vw lf)(q:Q (.ref A.a2) H):AK K (.ref A.v) (.int 2) H Q:=BU (SqL.of I.ob) (n:=2) rfl rfl q
theorem LWAt.ix3{A:LW}{vw:Vw}{lf:List Nat}{Q:VK}{k:Nat}(I:LWAt H A vw lf)(hk:k<vw.rc.length)(q:∀ v,MkV H v (AF vw.rm k)->Q v H):AK K (.ref A.v) (.int 3) H λx H1=>AK K x (.int k) H1 Q:=by
 obtain⟨us,v,e,_,ev,hr⟩:=I.rm.at (k:=k) (by rw[I.ok.l1];exact hk)
 exact BU (SqL.of I.ob) (n:=3) rfl rfl (BU (SqL.of e) (n:=k) rfl ev (q v hr))
theorem LWAt.at3{A:LW}{vw:Vw}{lf:List Nat}{Q:VK}(I:LWAt H A vw lf)(q:Q (.ref A.a3) H):AK K (.ref A.v) (.int 3) H Q:=BU (SqL.of I.ob) (n:=3) rfl rfl q
theorem LWAt.ix4{A:LW}{vw:Vw}{lf:List Nat}{Q:VK}{k:Nat}(I:LWAt H A vw lf)(hk:k<vw.pc.length)(q:∀ v,MkV H v (AF vw.pm k)->Q v H):AK K (.ref A.v) (.int 4) H λx H1=>AK K x (.int k) H1 Q:=by
 obtain⟨us,v,e,_,ev,hr⟩:=I.pm.at (k:=k) (by rw[I.ok.l2];exact hk)
 exact BU (SqL.of I.ob) (n:=4) rfl rfl (BU (SqL.of e) (n:=k) rfl ev (q v hr))
theorem LWAt.at4{A:LW}{vw:Vw}{lf:List Nat}{Q:VK}(I:LWAt H A vw lf)(q:Q (.ref A.a4) H):AK K (.ref A.v) (.int 4) H Q:=BU (SqL.of I.ob) (n:=4) rfl rfl q
theorem LWAt.at5{A:LW}{vw:Vw}{lf:List Nat}{Q:VK}(I:LWAt H A vw lf)(q:Q (.ref A.a5) H):AK K (.ref A.v) (.int 5) H Q:=BU (SqL.of I.ob) (n:=5) rfl rfl q
theorem LWAt.len0{A:LW}{vw:Vw}{lf:List Nat}(I:LWAt H A vw lf):JI K (.ref A.a0) H vw.nm.length:=by
 obtain⟨us,e,P⟩:=I.n
 exact .inl ⟨_,SqL.of e,P.length.symm⟩
theorem LWAt.len1{A:LW}{vw:Vw}{lf:List Nat}(I:LWAt H A vw lf):JI K (.ref A.a1) H vw.rc.length:=by
 obtain⟨us,e,P⟩:=I.r
 exact .inl ⟨_,SqL.of e,P.length.symm⟩
theorem LWAt.len2{A:LW}{vw:Vw}{lf:List Nat}(I:LWAt H A vw lf):JI K (.ref A.a2) H vw.pc.length:=by
 obtain⟨us,e,P⟩:=I.p
 exact .inl ⟨_,SqL.of e,P.length.symm⟩
theorem NamesAt.sb{A:LW}{nl:Addr}{zs:List Str}{H':Hp}(h:NamesAt H A nl zs)(s:SameBut (· ∈A.L) H H'):NamesAt H' A nl zs:=⟨s _ _ h.e h.n,h.l,h.d,h.s,h.n⟩
theorem IntsAt.sb{A:LW}{xl:Addr}{xs:List Int}{m:Nat}{H':Hp}(h:IntsAt H A xl xs m)(s:SameBut (· ∈A.L) H H'):IntsAt H' A xl xs m:=⟨s _ _ h.e h.n,h.l,h.b,h.n⟩
theorem IntsAt.at{A:LW}{xl:Addr}{xs:List Int}{m k:Nat}{Q:VK}(h:IntsAt H A xl xs m)(hk:k<m)(q:∀ x,0<=x->x<2000000000->Q (.int x) H):AK K (.ref xl) (.int k) H Q:=GK h.e (by rw[h.l];exact hk) λx hx=>q x (h.b x hx).1 (h.b x hx).2
theorem kG{v:V}{c:Option Int}(h:MkV H v c):decide (v=.non)=c.isNone:=by
 cases c with
 | none=>rw[show v=.non from h];rfl
 | some c=>rw[show v=.int c from h];rfl
theorem Vd(h:HN K a vs H Q E):UL K a (λ_=>E) (A5 Q) (A1 ["view"] vs) H:=by
 obtain⟨A,vw,lf,rfl,I,q⟩:=h
 have bn:=I.ok.bn
 push_cast[UL,↓zN]
 refine I.at0 ⟨vw.nm.length,I.len0,by omega,by omega,NY (λk=>(AF vw.nm k).isNone) (small _ (by omega)) (λk hk QB qb=> ?_) λl hl=>q l _ hl (A0 hl) AS⟩
 push_cast[BL]
 refine I.ix0 hk λv hv=> ?_
 push_cast[]
 rw[jV hv]
 exact qb
theorem Vg(h:HN K a vs H Q E):vs.length=1:=by
 obtain⟨_,_,_,rfl,_⟩:=h
 rfl
theorem Vh(h:J6 K a vs H Q E):UM K a (λ_=>E) (A5 Q) (A1 ["view"] vs) H:=by
 obtain⟨A,vw,lf,rfl,I,q⟩:=h
 have bn:=I.ok.br
 push_cast[UM,↓zO]
 refine I.at1 ⟨vw.rc.length,I.len1,by omega,by omega,NY (λr=>(AF vw.rc r).isNone && (AF vw.rm r).isNone) (small _ (by omega)) (λk hk QB qb=> ?_) λl hl=>q l _ hl (A0 hl) AS⟩
 push_cast[BL]
 refine I.ix1 hk λv hv=> ?_
 have hn:=LP hv
 push_cast[]
 by_cases h0:v=.non
 ·refine CF h0 (I.ix3 hk λv2 hv2=> ?_)
  push_cast[]
  rw[kG hv2]
  rw[<-hn,decide_eq_true h0,Bool.true_and]at qb
  exact qb
 ·refine BN h0 ?_
  rw[<-hn,decide_eq_false h0,Bool.false_and]at qb
  exact qb
theorem Vj(h:J6 K a vs H Q E):vs.length=1:=by
 obtain⟨_,_,_,rfl,_⟩:=h
 rfl
theorem Vk(h:J7 K a vs H Q E):UN K a (λ_=>E) (A5 Q) (A1 ["view"] vs) H:=by
 obtain⟨A,vw,lf,rfl,I,q⟩:=h
 have bn:=I.ok.bp
 push_cast[UN,↓zP]
 refine I.at2 ⟨vw.pc.length,I.len2,by omega,by omega,NY (λp=>(AF vw.pc p).isNone && (AF vw.pm p).isNone) (small _ (by omega)) (λk hk QB qb=> ?_) λl hl=>q l _ hl (A0 hl) AS⟩
 push_cast[BL]
 refine I.ix2 hk λv hv=> ?_
 have hn:=jW hv
 push_cast[]
 by_cases h0:v=.non
 ·refine CF h0 (I.ix4 hk λv2 hv2=> ?_)
  push_cast[]
  rw[kG hv2]
  rw[<-hn,decide_eq_true h0,Bool.true_and]at qb
  exact qb
 ·refine BN h0 ?_
  rw[<-hn,decide_eq_false h0,Bool.false_and]at qb
  exact qb
theorem Vl(h:J7 K a vs H Q E):vs.length=1:=by
 obtain⟨_,_,_,rfl,_⟩:=h
 rfl
theorem Vm(h:HM K a vs H Q E):UK K a (λ_=>E) (A5 Q) (A1 ["view","led","cell"] vs) H:=by
 obtain⟨A,vw,lf,rfl,I,q⟩:=h
 have ok:=I.ok
 have br:=ok.br
 obtain⟨v1,e1,P1⟩:=I.n
 have q1:=P1.length
 push_cast[UK,↓zI]
 refine⟨by decide,λp1 hp1=> ?_⟩
 have s1:=A0 (o:=.lst [V.int 0]) hp1
 have I1:=I.same s1
 refine I1.at1 ⟨vw.rc.length,I1.len1,Ul AS (by omega) λl1 H2 hl1 s2 f1=> ?_⟩
 have s02:=s1.trans s2
 have hl1H:H l1=none:=s1.free hl1
 push_cast[↓zL]
 refine(I.same s02).at0 ⟨A.a0,rfl,.inl ⟨⟨_,SqL.of (s02 _ _ e1)⟩,IJ (xs:=v1) (λi σ H'=>(Same H H'/\H' l1=some (.lst (G6 vw.rc.length (B8 (vw.nm.take i)))))/\∃ y,σ=[some (.ref A.v),some (.ref l1),y]) ⟨⟨s02,f1⟩,_,rfl⟩ (λi σ H' _ ⟨⟨s,_⟩,_⟩=>SqL.of (s _ _ e1)) (λi v σ H' hx ⟨⟨s,g1⟩,y,eσ⟩=> ?_) (λσ H' ⟨⟨s,g1⟩,y,eσ⟩=> ?_)⟩⟩
 ·subst eσ
  obtain⟨c,ec,hr⟩:=E6 P1 hx
  push_cast[↓zK]
  have el:B8 (vw.nm.take (i+1))=B8 (vw.nm.take i)++B8 [c]:=by
   rw[EW ec]
   unfold B8
   rw[List.filterMap_append]
  rw[el]
  cases c with
  | none =>
   refine BN (λz=>z hr) ?_
   rw[show B8 [none]=[]from rfl,List.append_nil]
   exact⟨s,g1⟩
  | some c =>
   obtain⟨p,rfl,hp⟩:=hr
   have hc:=(ok.n1 c (List.mem_of_getElem? ec)).1
   refine CF (by simp) ?_
   push_cast[↓zJ]
   refine BZ (s _ _ hp) (n:=1) rfl rfl (BU (SqL.of g1) (n:=c.2) rfl (Uh hc) ?_)
   push_cast[]
   refine BZ (s _ _ hp) (n:=1) rfl rfl ⟨l1,_,_,c.2,rfl,rfl,g1,KB (by rw[Uj];exact hc),?_⟩
   rw[Ug hc]
   exact⟨λy o e=>by rw[AT (BE e hl1H)];exact s _ _ e,AS⟩
 ·subst eσ
  rw[q1,List.take_length]at g1
  push_cast[↓zM]
  exact q l1 H' hl1H s g1
theorem Vp(h:HM K a vs H Q E):vs.length=1:=by
 obtain⟨_,_,_,rfl,_⟩:=h
 rfl
theorem KE{p:Addr}{l:List Nat}{x:Int}{Q:VK}(e:H p=some (.lst (AW l)))(hl:l≠[])(q:∀ k∈l,Q (.int k) H):AK K (.ref p) (.int (x % (l.length:Int))) H Q:=by
 have h1:1<=l.length:=by
  cases l with
  | nil=>exact absurd rfl hl
  | cons _ _=>simp
 obtain⟨b,eb,hb⟩:=KC x (n:=l.length) h1
 rw[eb]
 exact BU (SqL.of e) (n:=b) rfl (LN (List.getElem?_eq_getElem hb)) (q _ (List.getElem_mem hb))
theorem LU{p e0:Addr}{l:List Nat}(h1:H p=some (.lst (AW l)))(h2:H e0=some (.lst []))(q:Q (.bl (!decide (l=[]))) H):B1 K (.ref p) (.ref e0) H Q:=by
 refine ZU (n:=1) (by decide) (SqL.of h1) (by rw[RJ];exact TC _) (SqL.of h2) ?_
 have:decide (AW l=[])=decide (l=[]):=by
  unfold AW
  rw[decide_eq_decide,List.map_eq_nil_iff]
 rw[this]
 exact q
theorem Vq(h:J8 K a vs H Q E):U5 K a (λ_=>E) (A5 Q) (A1 ["view","names","r","number","free","word"] vs) H:=by
 obtain⟨A,vw,lf,l0,zs,nl,r,c,num,n',r',c',rfl,I,C,N,⟨z1,z2,z3⟩,hn36,hfr,hrc,hcc,hrm,q⟩:=h
 push_cast[U5,↓Cw]
 refine⟨A,vw,lf,rfl,I,λfl H1 hfl s1 efl=> ?_⟩
 have I1:=I.same s1
 have fln:=Uy (nm:=vw.nm)
 have ffl:(FC vw).length+(B8 vw.nm).length=vw.nm.length:=fln
 have f1:1<=(FC vw).length:=by
  cases e:FC vw with
  | nil=>exact absurd e hfr
  | cons _ _=>simp
 have eu:=List.getElem?_eq_getElem (l:=zs) (i:=(B8 vw.nm).length) (by rw[N.l];omega)
 push_cast[↓Cy]
 refine I1.at0 ⟨vw.nm.length,I1.len0,(FC vw).length,.inl ⟨_,SqL.of efl,by rw[CN]⟩,?_⟩
 rw[show((vw.nm.length:Int) - ((FC vw).length:Int))=(((B8 vw.nm).length:Nat):Int) by omega]
 refine BU (SqL.of (s1 _ _ N.e)) (n:=(B8 vw.nm).length) rfl (by rw[List.getElem?_map,eu];rfl) ?_
 push_cast[↓Cz]
 refine⟨by decide,λp hp=> ?_⟩
 have eu':=(List.getElem?_eq_some_iff.mp eu).2
 revert hp
 generalize hs:zs[(B8 vw.nm).length]'(by rw[N.l];omega)=sN
 intro hp
 rw[hs]at eu
 have s2:=A0 (o:=.tup [V.str sN,V.int ↑r]) hp
 have e2:upd H1 p (.tup [V.str sN,V.int ↑r]) p=some (.tup [V.str sN,V.int ↑r]):=AS
 revert s2 e2
 generalize upd H1 p (.tup [V.str sN,V.int ↑r])=H2
 intro s2 e2
 have I2:=I1.same s2
 have s02:=s1.trans s2
 refine I2.at0 ⟨(FC vw).length,.inl ⟨_,SqL.of (s2 _ _ efl),by rw[CN]⟩,by omega,KE (s2 _ _ efl) hfr λk hk=> ?_⟩
 obtain⟨hk1,hk2⟩:=EN hk
 have hr:=LS hrc
 refine I2.set0 (cc:=some (sN,r)) hk1 ⟨p,rfl,e2⟩ (λc hc=>by cases hc;exact⟨hr,N.s _ (List.mem_of_getElem? eu)⟩) λH3 I3 sb tk=> ?_
 have hkn:vw.nm[k]? =some none:=by
  unfold AF at hk2
  rw[List.getElem?_eq_getElem hk1]at hk2 ⊢
  have:vw.nm[k].isNone=true:=hk2
  rw[Option.isNone_iff_eq_none.mp this]
 refine q _ H3 I3 (C.name hkn eu N.d hrc hcc hrm) ⟨by simp only[List.length_set];exact z1,z2,z3⟩ (s02.sb.trans sb)
theorem Vv(h:J8 K a vs H Q E):vs.length=4:=by
 obtain⟨_,_,_,_,_,_,_,_,_,_,_,_,rfl,_⟩:=h
 rfl
structure WD(A:LW)(vw:Vw)(lf l0:List Nat)(zs:List Str)(tl:Addr)(n r c:Nat)(H:Hp)(i:Nat)(tk:List Nat)(vw':Vw)(H':Hp):Prop where
 w:LWAt H' A vw' lf
 cl:Clean vw' (l0++tk) zs
 nm:vw'.nm=vw.nm
 rc:vw'.rc=vw.rc
 rm:vw'.rm=vw.rm
 z:FQ vw' n r c
 p:∀ p∈tk,(AF vw'.pc p).isSome=true/\p<c
 f:∀ p∈tk,∀ r c,AF vw'.rc r=some c->p∉c.2
 l:tk.length<=i
 e:H' tl=some (.lst (AW tk))
 s:SameBut (λx=>x∈A.L\/x=tl) H H'
theorem Vx(h:OQ K a vs H Q E):VF K a (λ_=>E) (A5 Q) (A1 ["view","xs","many","taken","k","free","p"] vs) H:=by
 obtain⟨A,vw,lf,l0,zs,xl,xs,many,n,r,c,rfl,I,C,X,hm,sz,q⟩:=h
 push_cast[VF,↓Fd]
 refine⟨by decide,λtl htl=> ?_⟩
 have s1:=A0 (o:=.lst []) htl
 have e1:upd H tl (.lst []) tl=some (.lst (AW [])):=AS
 revert s1 e1
 generalize upd H tl (.lst [])=H1
 intro s1 e1
 have I1:=I.same s1
 have ntl:tl∉A.L:=λhm=>by
  have:∀ y∈A.L,H y≠none:=λy hy z=>by
   simp[LW.L]at hy
   obtain⟨_,k0,_⟩:=I.n
   obtain⟨_,k1,_⟩:=I.r
   obtain⟨_,k2,_⟩:=I.p
   obtain⟨_,k3,_⟩:=I.rm
   obtain⟨_,k4,_⟩:=I.pm
   have k5:=I.l
   rcases hy with rfl | rfl | rfl | rfl | rfl | rfl
   ·rw[z]at k0;cases k0
   ·rw[z]at k1;cases k1
   ·rw[z]at k2;cases k2
   ·rw[z]at k3;cases k3
   ·rw[z]at k4;cases k4
   ·rw[z]at k5;cases k5
  exact this tl hm htl
 have nxl:xl≠tl:=BE X.e htl
 push_cast[↓Fp]
 refine⟨by omega,by omega,IK (λi σ H'=>(∃ tk vw',WD A vw lf l0 zs tl n r c H1 i tk vw' H')/\∃ y4 y5 y6,σ=[some (.ref A.v),some (.ref xl),some (.int many),some (.ref tl),y4,y5,y6]) ⟨⟨[],vw,I1,by rw[List.append_nil];exact C,rfl,rfl,rfl,sz,by simp,by simp,by simp,e1,SameBut.refl _⟩,_,_,_,rfl⟩ (λi σ H' hi ⟨⟨tk,vw',J⟩,y4,y5,y6,eσ⟩=> ?_) (λσ H' ⟨⟨tk,vw',J⟩,y4,y5,y6,eσ⟩=> ?_)⟩
 ·subst eσ
  push_cast[↓Fg,Int.zero_add]
  refine⟨A,vw',lf,rfl,J.w,λfl H2 hfl s2 efl=> ?_⟩
  have J2:WD A vw lf l0 zs tl n r c H1 i tk vw' H2:=⟨J.w.same s2,J.cl,J.nm,J.rc,J.rm,J.z,J.p,J.f,J.l,s2 _ _ J.e,J.s.trans s2.sb⟩
  push_cast[↓Fm]
  refine⟨by decide,λe0 he0=> ?_⟩
  have s3:=A0 (o:=.lst []) he0
  refine LU (s3 _ _ efl) AS ?_
  have efl3:=s3 _ _ efl
  have J3:WD A vw lf l0 zs tl n r c H1 i tk vw' (upd H2 e0 (.lst [])):=⟨J2.w.same s3,J.cl,J.nm,J.rc,J.rm,J.z,J.p,J.f,J.l,s3 _ _ J2.e,J2.s.trans s3.sb⟩
  revert J3 efl3
  generalize upd H2 e0 (.lst [])=H3
  intro efl3 J3
  have x3:IntsAt H3 A xl xs 3:=⟨J3.s _ _ (s1 _ _ X.e) λz=>z.elim X.n nxl,X.l,X.b,X.n⟩
  push_cast[]
  by_cases hf:E5 vw'=[]
  ·refine BN (λz=>z hf) ?_
   exact⟨tk,vw',J3.w,J.cl,J.nm,J.rc,J.rm,J.z,J.p,J.f,by have:=J.l;omega,J3.e,J3.s⟩
  ·refine CF hf ?_
   push_cast[↓Fh]
   refine x3.at (k:=i) (by omega) λy _ _=>⟨(E5 vw').length,.inl ⟨_,SqL.of efl3,by rw[CN]⟩,?_⟩
   have fl1:1<=(E5 vw').length:=by
    cases e:E5 vw' with
    | nil=>exact absurd e hf
    | cons _ _=>simp
   push_cast[]
   refine⟨by omega,KE efl3 hf λp hp=> ?_⟩
   obtain⟨hp1,hp2⟩:=EN hp
   rw[Bool.and_eq_true]at hp2
   have hpc:AF vw'.pc p=none:=Option.isNone_iff_eq_none.mp hp2.1
   have hpm:AF vw'.pm p=none:=Option.isNone_iff_eq_none.mp hp2.2
   have hpm':p<vw'.pm.length:=by rw[J.w.ok.l2];exact hp1
   push_cast[↓Fj]
   refine x3.at (k:=i) (by omega) λy2 _ _=> ?_
   push_cast[]
   refine⟨⟨by decide,by decide⟩,_,rfl,λz H4 hz s4=> ?_⟩
   have I4:=J3.w.same s4
   refine I4.at2 (I4.set2 (cc:=some z) hp1 rfl (λc hc=>by cases hc;exact hz) λH5 I5 sb5 tk5=> ?_)
   push_cast[↓Fk]
   refine I5.at4 (I5.set4 (cc:=some 1) (by simp only[List.length_set];exact hp1) rfl (λc hc=>trivial) λH6 I6 sb6 tk6=> ?_)
   have e6:H6 tl=some (.lst (AW tk)):=sb6 _ _ (sb5 _ _ (s4 _ _ J3.e) ntl) ntl
   push_cast[↓Fl]
   have jl:=J.l
   refine⟨.inl ⟨rfl,_,SqL.of e6⟩,tl,_,_,rfl,rfl,e6,Nat.lt_of_lt_of_le (show(AW tk).length<1000 by rw[CN];omega) (by decide),?_⟩
   have s7:SameBut (· =tl) H6 (upd H6 tl (.lst (AW tk++[V.int ↑p]))):=λy o e ny=>by rw[AT ny];exact e
   have tk7:CD H6 (upd H6 tl (.lst (AW tk++[V.int ↑p]))):=λy us e=>s7 _ _ e (C5 e e6 (by intro z;cases z))
   have I7:LWAt (upd H6 tl (.lst (AW tk++[V.int ↑p]))) A { vw' with pc:=vw'.pc.set p (some z),pm:=vw'.pm.set p (some 1) } lf:=by
    have ne:∀ y∈A.L,y≠tl:=λy hy z=>ntl (z ▸ hy)
    refine⟨s7 _ _ I6.ob (BE I.ob htl),I6.n.keep (λv c=>NmV.keep tk7) (λo e=>s7 _ _ e (ne _ (by simp[LW.L]))),I6.r.keep (λv c=>RcV.keep tk7) (λo e=>s7 _ _ e (ne _ (by simp[LW.L]))),I6.p.keep (λv c=>PcV.keep tk7) (λo e=>s7 _ _ e (ne _ (by simp[LW.L]))),I6.rm.keep (λv c=>MkV.keep tk7) (λo e=>s7 _ _ e (ne _ (by simp[LW.L]))),I6.pm.keep (λv c=>MkV.keep tk7) (λo e=>s7 _ _ e (ne _ (by simp[LW.L]))),s7 _ _ I6.l (ne _ (by simp[LW.L])),I6.ok,I6.nd,I6.nv⟩
   refine⟨tk++[p],_,I7,?_,J.nm,J.rc,J.rm,?_,?_,?_,by simp;omega,?_,?_⟩
   ·rw[<-List.append_assoc]
    exact J.cl.text hp1 hpm' hpm
   ·exact⟨J.z.1,J.z.2.1,by simp only[List.length_set];exact J.z.2.2⟩
   ·intro x hx
    show(AF (vw'.pc.set p (some z)) x).isSome=true/\_
    rw[D8 hp1]
    rcases List.mem_append.mp hx with h | h
    ·refine⟨?_,(J.p x h).2⟩
     split
     ·rfl
     ·exact(J.p x h).1
    ·rw[List.mem_singleton.mp h,if_pos rfl]
     exact⟨rfl,by rw[<-J.z.2.2];exact hp1⟩
   ·intro x hx r2 c2 h2
    rcases List.mem_append.mp hx with h | h
    ·exact J.f x h r2 c2 h2
    ·rw[List.mem_singleton.mp h]
     intro hm
     have:=(J.cl.em r2 c2 h2 p hm).2
     rw[hpm]at this;cases this
   ·rw[AS]
    unfold AW
    rw[List.map_append]
    rfl
   ·exact(((J3.s.trans s4.sb).trans (sb5.wide λx h=>.inl h)).trans (sb6.wide λx h=>.inl h)).trans (s7.wide λx h=>.inr h)
 ·subst eσ
  push_cast[↓Fq]
  refine⟨AW tk,.inl ⟨SqL.of J.e,λt ht=> ?_⟩⟩
  have s9:=A0 (o:=.tup (AW tk)) ht
  refine q t tk vw' _ (J.w.same s9) J.cl J.nm J.rc J.rm J.z J.p J.f (by have:=J.l;omega) AS λy o e ny=>s9 _ _ (J.s _ _ (s1 _ _ e) λz=>z.elim ny λz=> ?_)
  rw[z,htl]at e;cases e
theorem Vy(h:OQ K a vs H Q E):vs.length=3:=by
 obtain⟨_,_,_,_,_,_,_,_,_,_,_,rfl,_⟩:=h
 rfl
theorem LWAt.setl{A:LW}{vw:Vw}{lf lf':List Nat}(I:LWAt H A vw lf):LWAt (upd H A.a5 (.lst (AW lf'))) A vw lf'/\SameBut (· ∈A.L) H (upd H A.a5 (.lst (AW lf'))):=by
 have d:=I.diff
 have e:=I.l
 have tk:CD H (upd H A.a5 (.lst (AW lf'))):=λy xs e2=>by rw[AT (C5 e2 e (by intro z;cases z))];exact e2
 refine⟨⟨by rw[AT d.v5];exact I.ob,I.n.keep (λv c=>NmV.keep tk) (λo e=>by rw[AT d.d05];exact e),I.r.keep (λv c=>RcV.keep tk) (λo e=>by rw[AT d.d15];exact e),I.p.keep (λv c=>PcV.keep tk) (λo e=>by rw[AT d.d25];exact e),I.rm.keep (λv c=>MkV.keep tk) (λo e=>by rw[AT d.d35];exact e),I.pm.keep (λv c=>MkV.keep tk) (λo e=>by rw[AT d.d45];exact e),AS,I.ok,I.nd,I.nv⟩,λy o e ny=> ?_⟩
 rw[AT λz=>ny (by rw[z];simp[LW.L])];exact e
theorem Vz{lf tk:List Nat}(h:(lf++tk).Nodup):((lf++tk).filter λp=>decide (p∉tk))=lf:=by
 obtain⟨_,_,h3⟩:=List.nodup_append.mp h
 rw[List.filter_append]
 have e1:(lf.filter λp=>decide (p∉tk))=lf:=List.filter_eq_self.mpr λp hp=>by
  simp only[decide_eq_true_eq]
  exact λhm=>h3 p hp p hm rfl
 have e2:(tk.filter λp=>decide (p∉tk))=[]:=List.filter_eq_nil_iff.mpr λp hp=>by simp[hp]
 rw[e1,e2,List.append_nil]
theorem Wb(h:LI K a vs H Q E):VU K a (λ_=>E) (A5 Q) (A1 ["view","names","xs","with_name","records","r","pieces"] vs) H:=by
 obtain⟨A,vw,lf,zs,nl,xl,xs,wn,n,r0,c0,rfl,I,C,N,X,sz,hn36,hc36,q⟩:=h
 push_cast[VU,↓Jg]
 refine⟨A,vw,lf,rfl,I,λfl H1 hfl s1 efl=> ?_⟩
 have I1:=I.same s1
 have out:∀ {H':Hp},Same H H'->Q .non H':=λs=>q vw lf _ (I.same s) C sz s.sb
 have main:∀ {H2:Hp},Same H H2->H2 fl=some (.lst (AW (GG vw)))->GG vw≠[]->(wn=true->FC vw≠[])->AQ (VO K a (λ_=>E) (λ_=>E)) (AQ (VP K a (λ_=>E) (λ_=>E)) (VT K a (λ_=>E) (λ_=>E))) (A5 Q) [some (.ref A.v),some (.ref nl),some (.ref xl),some (.bl wn),some (.ref fl),none,none] H2:=λ{H2} s2 efl2 hfr hfn=>by
  have I2:=I.same s2
  have X2:=X.sb s2.sb
  have N2:=N.sb s2.sb
  have fl1:1<=(GG vw).length:=by
   cases e:GG vw with
   | nil=>exact absurd e hfr
   | cons _ _=>simp
  push_cast[↓Jj]
  refine X2.at (k:=0) (by omega) λy _ _=>⟨(GG vw).length,.inl ⟨_,SqL.of efl2,by rw[CN]⟩,?_⟩
  push_cast[]
  refine⟨by omega,KE efl2 hfr λr hr=> ?_⟩
  obtain⟨hr1,hr2⟩:=EN hr
  rw[Bool.and_eq_true]at hr2
  have hrc:AF vw.rc r=none:=Option.isNone_iff_eq_none.mp hr2.1
  have hl0:=C.led0 hrc
  push_cast[↓Jk]
  refine Q6 (SqL.of X2.e) λx2 hx2=> ?_
  have ecut:EF (xs.map V.int) (some 4) (some 7)=((xs.drop 4).take 3).map V.int:=by
   unfold EF
   rw[List.length_map,X.l,<-List.map_drop,<-List.map_take]
   rfl
  rw[ecut]
  have s3:=A0 (o:=.lst (((xs.drop 4).take 3).map V.int)) hx2
  have e3:upd H2 x2 (.lst (((xs.drop 4).take 3).map V.int)) x2=some (.lst (((xs.drop 4).take 3).map V.int)):=AS
  have nx2:x2∉A.L:=λhm=>by
   simp[LW.L]at hm
   obtain⟨_,k0,_⟩:=I2.n
   obtain⟨_,k1,_⟩:=I2.r
   obtain⟨_,k2,_⟩:=I2.p
   obtain⟨_,k3,_⟩:=I2.rm
   obtain⟨_,k4,_⟩:=I2.pm
   have k5:=I2.l
   rcases hm with rfl | rfl | rfl | rfl | rfl | rfl
   ·rw[hx2]at k0;cases k0
   ·rw[hx2]at k1;cases k1
   ·rw[hx2]at k2;cases k2
   ·rw[hx2]at k3;cases k3
   ·rw[hx2]at k4;cases k4
   ·rw[hx2]at k5;cases k5
  revert s3 e3
  generalize upd H2 x2 (.lst (((xs.drop 4).take 3).map V.int))=H3
  intro s3 e3
  refine(X2.sb s3.sb).at (k:=1) (by omega) λy2 _ _=> ?_
  push_cast[]
  obtain⟨mn,emn,hmn⟩:=KC y2 (n:=4) (by omega)
  rw[show((4:Nat):Int)=4 from rfl]at emn
  rw[emn]
  refine⟨A,vw,lf,lf,zs,x2,(xs.drop 4).take 3,mn,n,r0,c0,rfl,I2.same s3,C,⟨e3,by rw[List.length_take,List.length_drop,X.l];rfl,λx hx=>X.b x (List.mem_of_mem_drop (List.mem_of_mem_take hx)),nx2⟩,by omega,sz,λt tk vw' H4 I4 C4 hnm hrc4 hrm4 sz4 hp4 hf4 ht3 et sb4=> ?_⟩
  have X4:=(X2.sb s3.sb).sb sb4
  have N4:=(N2.sb s3.sb).sb sb4
  have s04:SameBut (· ∈A.L) H H4:=((s2.trans s3).sb).trans sb4
  have hrc':AF vw'.rc r=none:=by rw[hrc4];exact hrc
  have hr1':r<vw'.rc.length:=by rw[hrc4];exact hr1
  have nd4:=C4.nd
  have tkn:tk.Nodup:=(List.nodup_append.mp nd4).2.1
  have tko:∀ p∈tk,((AF vw'.pc p).isSome=true/\AF vw'.pm p=some 1)/\∀ r' c',AF vw'.rc r'=some c'->p∉c'.2:=λp hp=>⟨⟨(hp4 p hp).1,((C4.lm p).mp (List.mem_append.mpr (.inr hp))).1⟩,hf4 p hp⟩
  have rok:∀ {cnt:Int} (c:Int × List Nat),some (cnt,tk)=some c->(∀ p∈c.2,p<vw'.pc.length)/\c.2.length<=10:=λc hc=>by
   cases hc
   exact⟨λp hp=>by rw[sz4.2.2];exact(hp4 p hp).2,by show tk.length<=10;omega⟩
  push_cast[↓Jx]
  cases wn with
  | true =>
   refine CF rfl ?_
   push_cast[↓Jl]
   refine⟨⟨by decide,by decide,by decide⟩,by decide,λlp hlp=> ?_⟩
   have s5:=A0 (o:=.lst [V.int 0,V.int 0,V.int 1,V.int 2,V.int (10 ^ 30 - 40)]) hlp
   have e5:upd H4 lp (.lst [V.int 0,V.int 0,V.int 1,V.int 2,V.int (10 ^ 30 - 40)]) lp=some (.lst [V.int 0,V.int 0,V.int 1,V.int 2,V.int (10 ^ 30 - 40)]):=AS
   revert s5 e5
   generalize upd H4 lp (.lst [V.int 0,V.int 0,V.int 1,V.int 2,V.int (10 ^ 30 - 40)])=H5
   intro s5 e5
   refine(X4.sb s5.sb).at (k:=2) (by omega) λy3 _ _=> ?_
   push_cast[]
   obtain⟨b,eb,hb⟩:=KC y3 (n:=5) (by omega)
   rw[show((5:Nat):Int)=5 from rfl]at eb
   rw[eb]
   have fin:∀ e:Int,0<=e->(A7 K (V.int 1) (V.int e) H5 λx H1=>2<=sizeLine/\∀ (p:Addr),H1 p=none->AK K (V.ref A.v) (V.int 1) (upd H1 p (HO.tup [x,V.ref t])) λo H1=>CK o (V.int ↑r) (V.ref p) H1 λH3=>AQ (VQ K a (λx=>E) λx=>E) (VR K a (λx=>E) λx=>E) (A5 Q) [some (V.ref A.v),some (V.ref nl),some (V.ref xl),some (V.bl true),some (V.ref fl),some (V.int ↑r),some (V.ref t)] H3):=λe he=>by
    push_cast[]
    refine⟨by decide,λp hp=> ?_⟩
    have s6:=A0 (o:=.tup [V.int (1+e),V.ref t]) hp
    have e6:upd H5 p (.tup [V.int (1+e),V.ref t]) p=some (.tup [V.int (1+e),V.ref t]):=AS
    revert s6 e6
    generalize upd H5 p (.tup [V.int (1+e),V.ref t])=H6
    intro s6 e6
    have s46:=s5.trans s6
    have I6:=I4.same s46
    refine I6.at1 (I6.set1 (cc:=some (1+e,tk)) hr1' ⟨p,t,rfl,e6,s46 _ _ et⟩ rok λH7 I7 sb7 tk7=> ?_)
    have C7:=C4.recd (cnt:=1+e) hr1' hrc' tkn ht3 tko (by omega)
    push_cast[↓Jm]
    have hrm':r<vw'.rm.length:=by rw[I4.ok.l1];exact hr1'
    refine I7.at3 (I7.set3 (cc:=some 1) (by simp only[List.length_set];exact hr1') rfl (λc hc=>trivial) λH8 I8 sb8 tk8=> ?_)
    have C8:=C7.mark (r:=r) (x:=some 1) hrm' (.inr rfl)
    have sb48:SameBut (· ∈A.L) H4 H8:=(s46.sb.trans sb7).trans sb8
    push_cast[↓Jp]
    refine(X4.sb sb48).at (k:=3) (by omega) λy4 _ _=> ?_
    have erc:AF (vw'.rc.set r (some (1+e,tk))) r=some (1+e,tk):=by rw[D8 hr1',if_pos rfl]
    have erm:AF (vw'.rm.set r (some 1)) r=some 1:=by rw[D8 hrm',if_pos rfl]
    have hled:led vw' r=0:=C4.led0 hrc'
    refine⟨A,_,lf,lf++tk,zs,nl,r,(1+e,tk),y4,n,r0,c0,rfl,I8,C8,N4.sb sb48,⟨sz4.1,by simp only[List.length_set];exact sz4.2.1,sz4.2.2⟩,hn36,?_,erc,?_,erm,λvw9 H9 I9 C9 sz9 sb9=> ?_⟩
    ·have:FC vw≠[]:=hfn rfl
     unfold FC at this ⊢
     show(List.filter (λk=>(AF vw'.nm k).isNone) (List.range vw'.nm.length))≠[]
     rw[hnm];exact this
    ·show((led vw' r:Nat):Int)+1<=1+e
     rw[hled];omega
    ·rw[Vz nd4]at C9
     exact q vw9 lf H9 I9 C9 sz9 ((s04.trans sb48).trans sb9)
   rcases(by omega:b=0\/b=1\/b=2\/b=3\/b=4)with h | h | h | h | h<;>subst h
   ·exact BU (SqL.of e5) (n:=0) rfl rfl (fin 0 (by omega))
   ·exact BU (SqL.of e5) (n:=1) rfl rfl (fin 0 (by omega))
   ·exact BU (SqL.of e5) (n:=2) rfl rfl (fin 1 (by omega))
   ·exact BU (SqL.of e5) (n:=3) rfl rfl (fin 2 (by omega))
   ·exact BU (SqL.of e5) (n:=4) rfl rfl (fin (10 ^ 30 - 40) (by decide))
  | false =>
   refine BN Bool.false_ne_true ?_
   push_cast[↓Jq]
   refine X4.at (k:=2) (by omega) λy3 _ _=> ?_
   push_cast[]
   have hd3:0<=y3 % 3:=by omega
   generalize y3 % 3=e at hd3 ⊢
   refine⟨by decide,λp hp=> ?_⟩
   have s6:=A0 (o:=.tup [V.int (1+e),V.ref t]) hp
   have e6:upd H4 p (.tup [V.int (1+e),V.ref t]) p=some (.tup [V.int (1+e),V.ref t]):=AS
   revert s6 e6
   generalize upd H4 p (.tup [V.int (1+e),V.ref t])=H6
   intro s6 e6
   have I6:=I4.same s6
   refine I6.at1 (I6.set1 (cc:=some (1+e,tk)) hr1' ⟨p,t,rfl,e6,s6 _ _ et⟩ rok λH7 I7 sb7 tk7=> ?_)
   have C7:=C4.recd (cnt:=1+e) hr1' hrc' tkn ht3 tko (by omega)
   have hrm':r<vw'.rm.length:=by rw[I4.ok.l1];exact hr1'
   have sb47:SameBut (· ∈A.L) H4 H7:=s6.sb.trans sb7
   have et7:=tk7 _ _ (s6 _ _ et)
   push_cast[↓Jv]
   refine⟨by decide,λlp hlp=> ?_⟩
   have s8:=A0 (o:=.lst [V.int 1,V.int 1,V.int 0,V.non]) hlp
   have e8:upd H7 lp (.lst [V.int 1,V.int 1,V.int 0,V.non]) lp=some (.lst [V.int 1,V.int 1,V.int 0,V.non]):=AS
   revert s8 e8
   generalize upd H7 lp (.lst [V.int 1,V.int 1,V.int 0,V.non])=H8
   intro s8 e8
   have I8:=I7.same s8
   have et8:=s8 _ _ et7
   have sb48:=sb47.trans s8.sb
   refine(X4.sb sb48).at (k:=2) (by omega) λy4 _ _=> ?_
   push_cast[]
   obtain⟨b,eb,hb⟩:=KC (y4 / 3) (n:=4) (by omega)
   rw[show((4:Nat):Int)=4 from rfl]at eb
   rw[eb]
   have hled:led vw' r=0:=C4.led0 hrc'
   have fin:∀ {v:V} {x:Option Int},MkV H8 v x->(AK K (V.ref A.v) (V.int 3) H8 λo H1=>CK o (V.int ↑r) v H1 λH3=>VS K a (λx=>E) (λx=>E) (A5 Q) [some (V.ref A.v),some (V.ref nl),some (V.ref xl),some (V.bl false),some (V.ref fl),some (V.int ↑r),some (V.ref t)] H3):=λ{v x} hv=>by
    refine I8.at3 (I8.set3 (cc:=x) (by simp only[List.length_set];exact hr1') hv (λc hc=>trivial) λH9 I9 sb9 tk9=> ?_)
    have C9:=C7.mark (r:=r) (x:=x) hrm' (.inl hled)
    push_cast[↓Jw]
    refine I9.at5 ⟨.inl ⟨rfl,_,SqL.of I9.l⟩,?_⟩
    refine⟨_,.inr (SqT.of (tk9 _ _ et8)),λll hll=> ?_⟩
    have s10:=A0 (o:=.lst (AW tk)) hll
    have e10:upd H9 ll (.lst (AW tk)) ll=some (.lst (AW tk)):=AS
    revert s10 e10
    generalize upd H9 ll (.lst (AW tk))=H10
    intro s10 e10
    have I10:=I9.same s10
    have lfl:=C.short
    have l2:=I.ok.l2
    have szc:=sz.2.2
    refine⟨A.a5,ll,_,_,rfl,rfl,I10.l,e10,small _ (by rw[CN,CN];omega),?_⟩
    obtain⟨I11,sb11⟩:=I10.setl (lf':=lf++tk)
    have en:AW lf++AW tk=AW (lf++tk):=by unfold AW;rw[List.map_append]
    rw[en]
    exact q _ (lf++tk) _ I11 C9 ⟨sz4.1,by simp only[List.length_set];exact sz4.2.1,sz4.2.2⟩ ((((s04.trans sb48).trans sb9).trans s10.sb).trans sb11)
   refine⟨⟨by decide,by decide⟩,?_⟩
   rcases(by omega:b=0\/b=1\/b=2\/b=3)with h | h | h | h<;>subst h
   ·exact BU (SqL.of e8) (n:=0) rfl rfl (fin (x:=some 1) rfl)
   ·exact BU (SqL.of e8) (n:=1) rfl rfl (fin (x:=some 1) rfl)
   ·exact BU (SqL.of e8) (n:=2) rfl rfl (fin (x:=some 0) rfl)
   ·exact BU (SqL.of e8) (n:=3) rfl rfl (fin (x:=none) rfl)
 push_cast[↓Jh]
 refine⟨by decide,λe0 he0=> ?_⟩
 have s2:=A0 (o:=.lst []) he0
 refine kB (s2 _ _ efl) AS ⟨_,rfl,?_⟩
 have s02:=s1.trans s2
 have efl2:=s2 _ _ efl
 revert s02 efl2
 generalize upd H1 e0 (.lst [])=H2
 intro s02 efl2
 by_cases hf:GG vw=[]
 ·refine CF (by simpa using hf) ?_
  push_cast[↓iF]
  exact out s02
 ·refine BN (by simpa using hf) ?_
  cases wn with
  | false =>
   refine BN Bool.false_ne_true ?_
   exact main s02 efl2 hf (λh=>by cases h)
  | true =>
   refine CF rfl ⟨A,vw,lf,rfl,I.same s02,λfn H3 hfn s3 efn=>⟨by decide,λe1 he1=> ?_⟩⟩
   have s4:=A0 (o:=.lst []) he1
   refine kB (s4 _ _ efn) AS ⟨_,rfl,?_⟩
   have s04:=(s02.trans s3).trans s4
   have efl4:=(s3.trans s4) _ _ efl2
   revert s04 efl4
   generalize upd H3 e1 (.lst [])=H4
   intro s04 efl4
   by_cases hg:FC vw=[]
   ·refine CF (by simpa using hg) ?_
    push_cast[↓iF]
    exact out s04
   ·refine BN (by simpa using hg) ?_
    exact main s04 efl4 hf λ_=>hg
theorem Wc(h:LI K a vs H Q E):vs.length=4:=by
 obtain⟨_,_,_,_,_,_,_,_,_,_,_,rfl,_⟩:=h
 rfl
theorem Wd{lf tk:List Nat}(h:∀ p∈lf,p∉tk):(lf.filter λp=>decide (p∉tk))=lf:=List.filter_eq_self.mpr λp hp=>by simpa using h p hp
theorem Wg(h:OR K a vs H Q E):VG K a (λ_=>E) (A5 Q) (A1 ["view","names","xs","led","records","r"] vs) H:=by
 obtain⟨A,vw,lf,zs,nl,xl,xs,n,r0,c0,rfl,I,C,N,X,sz,hn36,q⟩:=h
 have br:=I.ok.br
 push_cast[VG,↓Fv]
 refine⟨A,vw,lf,rfl,I,λll H1 hll s1 ell=> ?_⟩
 have ell:H1 ll=some (.lst (AW ((List.range vw.rc.length).map (led vw)))):=ell
 push_cast[↓Fw]
 refine⟨vw.rc.length,.inl ⟨_,SqL.of ell,by rw[CN,GH]⟩,by omega,by omega,NY (λr=>decide (0<led vw r)) (small _ (by omega)) (λk hk QB qb=> ?_) λrl hrl=> ?_⟩
 ·push_cast[BL]
  refine FR ell hk ?_
  push_cast[]
  rw[RG]
  exact qb
 have s2:=A0 (o:=.lst (((List.range vw.rc.length).filter λr=>decide (0<led vw r)).map λ(i:Nat)=>V.int i)) hrl
 have er:upd H1 rl (.lst (((List.range vw.rc.length).filter λr=>decide (0<led vw r)).map λ(i:Nat)=>V.int i)) rl=some (.lst (AW ((List.range vw.rc.length).filter λr=>decide (0<led vw r)))):=AS
 revert s2 er
 generalize upd H1 rl (.lst (((List.range vw.rc.length).filter λr=>decide (0<led vw r)).map λ(i:Nat)=>V.int i))=H2
 intro s2 er
 have s02:=s1.trans s2
 have out:∀ {H':Hp},Same H H'->Q .non H':=λs=>q vw lf _ (I.same s) C sz s.sb
 push_cast[↓Gb]
 refine⟨by decide,λe0 he0=> ?_⟩
 have s3:=A0 (o:=.lst []) he0
 refine LU (s3 _ _ er) AS ⟨_,rfl,?_⟩
 have s03:=s02.trans s3
 have er3:=s3 _ _ er
 revert s03 er3
 generalize upd H2 e0 (.lst [])=H3
 intro s03 er3
 generalize hRL:((List.range vw.rc.length).filter λr=>decide (0<led vw r))=RL at er3
 by_cases hf:RL=[]
 ·refine BN (by simp[hf]) ?_
  exact out s03
 ·refine CF (by simp[hf]) ⟨A,vw,lf,rfl,I.same s03,λfn H4 hfn s4 efn=>⟨by decide,λe1 he1=> ?_⟩⟩
  have s5:=A0 (o:=.lst []) he1
  refine LU (s5 _ _ efn) AS ⟨_,rfl,?_⟩
  have s05:=(s03.trans s4).trans s5
  have er5:=(s4.trans s5) _ _ er3
  revert s05 er5
  generalize upd H4 e1 (.lst [])=H5
  intro s05 er5
  by_cases hg:FC vw=[]
  ·refine BN (by simp[hg]) ?_
   exact out s05
  ·refine CF (by simp[hg]) ?_
   have I5:=I.same s05
   have X5:=X.sb s05.sb
   have fl1:1<=RL.length:=by
    cases e:RL with
    | nil=>exact absurd e hf
    | cons _ _=>simp
   push_cast[↓Fx]
   refine X5.at (k:=0) (by omega) λy _ _=>⟨RL.length,.inl ⟨_,SqL.of er5,by rw[CN]⟩,?_⟩
   push_cast[]
   refine⟨by omega,KE er5 hf λr hr=> ?_⟩
   rw[<-hRL]at hr
   obtain⟨hr1,hr2⟩:=EN hr
   have hl:0<led vw r:=by simpa using hr2
   obtain⟨k,d,hk,hd⟩:=RM hl
   have hrs:=C.ls k d hk
   rw[hd]at hrs
   obtain⟨c,hc⟩:=Option.isSome_iff_exists.mp hrs
   have hcm:=LT hc
   push_cast[↓Fy]
   refine I5.ix1 hr1 λv hv=> ?_
   rw[hc]at hv
   obtain⟨p,t,rfl,hp,ht⟩:=hv
   refine BZ hp (n:=0) rfl rfl ?_
   push_cast[]
   refine I5.ix1 hr1 λv2 hv2=> ?_
   rw[hc]at hv2
   obtain⟨p2,t2,rfl,hp2,ht2⟩:=hv2
   refine BZ hp2 (n:=1) rfl rfl ⟨by decide,λnp hnp=> ?_⟩
   have s6:=A0 (o:=.tup [V.int (c.1+1),V.ref t2]) hnp
   have e6:upd H5 np (.tup [V.int (c.1+1),V.ref t2]) np=some (.tup [V.int (c.1+1),V.ref t2]):=AS
   revert s6 e6
   generalize upd H5 np (.tup [V.int (c.1+1),V.ref t2])=H6
   intro s6 e6
   have I6:=I5.same s6
   refine I6.at1 (I6.set1 (cc:=some (c.1+1,c.2)) hr1 ⟨np,t2,rfl,e6,s6 _ _ ht2⟩ (λc' h=>by cases h;exact I.ok.n2 c hcm) λH7 I7 sb7 tk7=> ?_)
   have fw:=C.fw r c hc
   have C7:=C.cnt (cnt:=c.1+1) hc (by omega)
   have sb07:SameBut (· ∈A.L) H H7:=(s05.trans s6).sb.trans sb7
   have erc:AF (vw.rc.set r (some (c.1+1,c.2))) r=some (c.1+1,c.2):=by rw[D8 hr1,if_pos rfl]
   push_cast[↓Fz]
   refine(X.sb sb07).at (k:=1) (by omega) λy4 _ _=> ?_
   refine⟨A,_,lf,lf,zs,nl,r,(c.1+1,c.2),y4,n,r0,c0,rfl,I7,C7,N.sb sb07,⟨sz.1,by simp only[List.length_set];exact sz.2.1,sz.2.2⟩,hn36,hg,erc,?_,C.fr r hl,λvw9 H9 I9 C9 sz9 sb9=> ?_⟩
   ·show((led vw r:Nat):Int)+1<=c.1+1
    omega
   ·rw[Wd λp hp=>((C.lm p).mp hp).2 r c hl hc]at C9
    exact q vw9 lf H9 I9 C9 sz9 (sb07.trans sb9)
theorem Wh(h:OR K a vs H Q E):vs.length=3:=by
 obtain⟨_,_,_,_,_,_,_,_,_,_,rfl,_⟩:=h
 rfl
theorem Wj(h:OS K a vs H Q E):VJ K a (λ_=>E) (A5 Q) (A1 ["view","kind","xs","records","pieces","p"] vs) H:=by
 obtain⟨A,vw,lf,zs,k,xl,xs,n,r0,c0,rfl,I,C,X,sz,hc36,q⟩:=h
 have br:=I.ok.br
 have l2:=I.ok.l2
 push_cast[VJ,↓Gc,↓Gd]
 refine⟨A,vw,lf,rfl,I,λfr H1 hfr s1 efr=>⟨A,vw,lf,rfl,I.same s1,λfp H2 hfp s2 efp=> ?_⟩⟩
 have s02:=s1.trans s2
 have efr2:=s2 _ _ efr
 have t12:∀ {H':Hp} {y5:Option V},k≠7->Q .non H'->OZ K a (λ_=>E) (λ_=>E) (A5 Q) [some (.ref A.v),some (.int k),some (.ref xl),some (.ref fr),some (.ref fp),y5] H':=λhk q'=>by
  push_cast[↓gT]
  refine BN hk ?_
  exact q'
 have t8:∀ {H':Hp} {y5:Option V},k≠5->OZ K a (λ_=>E) (λ_=>E) (A5 Q) [some (.ref A.v),some (.int k),some (.ref xl),some (.ref fr),some (.ref fp),y5] H'->AQ (VH K a (λ_=>E) (λ_=>E)) (OZ K a (λ_=>E) (λ_=>E)) (A5 Q) [some (.ref A.v),some (.int k),some (.ref xl),some (.ref fr),some (.ref fp),y5] H':=λhk q'=>by
  push_cast[↓gP]
  refine BN hk ?_
  exact q'
 push_cast[↓Gh]
 by_cases h6:k=6
 ·refine CF h6 ⟨by decide,λe0 he0=> ?_⟩
  have s3:=A0 (o:=.lst []) he0
  refine LU (s3 _ _ efr2) AS ⟨_,rfl,?_⟩
  have s03:=s02.trans s3
  have efr3:=s3 _ _ efr2
  revert s03 efr3
  generalize upd H2 e0 (.lst [])=H3
  intro s03 efr3
  have I3:=I.same s03
  by_cases hf:GG vw=[]
  ·refine BN (by simp[hf]) ?_
   exact t8 (by omega) (t12 (by omega) (q vw lf _ I3 C sz s03.sb))
  ·refine CF (by simp[hf]) ?_
   have fl1:1<=(GG vw).length:=by
    cases e:GG vw with
    | nil=>exact absurd e hf
    | cons _ _=>simp
   push_cast[↓Gg]
   refine I3.at3 ((X.sb s03.sb).at (k:=0) (by omega) λy _ _=>⟨(GG vw).length,.inl ⟨_,SqL.of efr3,by rw[CN]⟩,?_⟩)
   push_cast[]
   refine⟨by omega,KE efr3 hf λr hr=> ?_⟩
   obtain⟨hr1,hr2⟩:=EN hr
   rw[Bool.and_eq_true]at hr2
   refine I3.set3 (cc:=some 1) hr1 rfl (λc hc=>trivial) λH4 I4 sb4 tk4=> ?_
   exact t8 (by omega) (t12 (by omega) (q _ lf _ I4 (C.mark (x:=some 1) (by rw[I.ok.l1];exact hr1) (.inr rfl)) sz (s03.sb.trans sb4)))
 refine BN h6 ?_
 push_cast[↓gP]
 have dp:∀ {p:Nat},p∈E5 vw->p<vw.pc.length/\AF vw.pc p=none/\AF vw.pm p=none:=λhp=>by
  obtain⟨hp1,hp2⟩:=EN hp
  rw[Bool.and_eq_true]at hp2
  exact⟨hp1,Option.isNone_iff_eq_none.mp hp2.1,Option.isNone_iff_eq_none.mp hp2.2⟩
 by_cases h5:k=5
 ·refine CF h5 ⟨by decide,λe0 he0=> ?_⟩
  have s3:=A0 (o:=.lst []) he0
  refine LU (s3 _ _ efp) AS ⟨_,rfl,?_⟩
  have s03:=s02.trans s3
  have efp3:=s3 _ _ efp
  revert s03 efp3
  generalize upd H2 e0 (.lst [])=H3
  intro s03 efp3
  have I3:=I.same s03
  by_cases hf:E5 vw=[]
  ·refine BN (by simp[hf]) ?_
   exact t12 (by omega) (q vw lf _ I3 C sz s03.sb)
  ·refine CF (by simp[hf]) ?_
   have fl1:1<=(E5 vw).length:=by
    cases e:E5 vw with
    | nil=>exact absurd e hf
    | cons _ _=>simp
   push_cast[↓Gj]
   refine(X.sb s03.sb).at (k:=0) (by omega) λy _ _=>⟨(E5 vw).length,.inl ⟨_,SqL.of efp3,by rw[CN]⟩,?_⟩
   push_cast[]
   refine⟨by omega,KE efp3 hf λp hp=> ?_⟩
   obtain⟨hp1,hpc,hpm⟩:=dp hp
   push_cast[↓Gk]
   refine I3.at4 (I3.set4 (cc:=some 1) hp1 rfl (λc hc=>trivial) λH4 I4 sb4 tk4=> ?_)
   push_cast[↓Gm]
   have lfl:=C.short
   have szc:=sz.2.2
   refine I4.at5 ⟨.inl ⟨rfl,_,SqL.of I4.l⟩,A.a5,_,_,rfl,rfl,I4.l,Nat.lt_of_lt_of_le (show(AW lf).length<1000 by rw[CN];omega) (by decide),?_⟩
   obtain⟨I5,sb5⟩:=I4.setl (lf':=lf++[p])
   have en:AW lf++[V.int ↑p]=AW (lf++[p]):=by unfold AW;rw[List.map_append];rfl
   rw[en]
   exact t12 (by omega) (q _ (lf++[p]) _ I5 (C.pmk (by omega) hpm) sz ((s03.sb.trans sb4).trans sb5))
 refine BN h5 ?_
 push_cast[↓gT]
 by_cases h7:k=7
 ·refine CF h7 ⟨by decide,λe0 he0=> ?_⟩
  have s3:=A0 (o:=.lst []) he0
  refine LU (s3 _ _ efp) AS ⟨_,rfl,?_⟩
  have s03:=s02.trans s3
  have efp3:=s3 _ _ efp
  revert s03 efp3
  generalize upd H2 e0 (.lst [])=H3
  intro s03 efp3
  have I3:=I.same s03
  by_cases hf:E5 vw=[]
  ·refine BN (by simp[hf]) ?_
   exact q vw lf _ I3 C sz s03.sb
  ·refine CF (by simp[hf]) ?_
   have fl1:1<=(E5 vw).length:=by
    cases e:E5 vw with
    | nil=>exact absurd e hf
    | cons _ _=>simp
   push_cast[↓Gp]
   refine(X.sb s03.sb).at (k:=0) (by omega) λy _ _=>⟨(E5 vw).length,.inl ⟨_,SqL.of efp3,by rw[CN]⟩,?_⟩
   push_cast[]
   refine⟨by omega,KE efp3 hf λp hp=> ?_⟩
   obtain⟨hp1,hpc,hpm⟩:=dp hp
   push_cast[↓Gq]
   refine(X.sb s03.sb).at (k:=1) (by omega) λy2 _ _=>⟨_,rfl,λz H4 hz s4=> ?_⟩
   have I4:=I3.same s4
   refine I4.at2 (I4.set2 (cc:=some z) hp1 rfl (λc hc=>by cases hc;exact hz) λH5 I5 sb5 tk5=> ?_)
   have sb05:SameBut (· ∈A.L) H H5:=(s03.trans s4).sb.trans sb5
   push_cast[↓Gv]
   refine⟨by decide,λlp hlp=> ?_⟩
   have s6:=A0 (o:=.lst [V.int 0,V.non]) hlp
   have e6:upd H5 lp (.lst [V.int 0,V.non]) lp=some (.lst [V.int 0,V.non]):=AS
   revert s6 e6
   generalize upd H5 lp (.lst [V.int 0,V.non])=H6
   intro s6 e6
   have I6:=I5.same s6
   have sb06:=sb05.trans s6.sb
   refine(X.sb sb06).at (k:=2) (by omega) λy3 _ _=> ?_
   push_cast[]
   obtain⟨b,eb,hb⟩:=KC y3 (n:=2) (by omega)
   rw[show((2:Nat):Int)=2 from rfl]at eb
   rw[eb]
   have fin:∀ {v:V} {x:Option Int},MkV H6 v x->x≠some 1->(AK K (V.ref A.v) (V.int 4) H6 λo H1=>CK o (V.int ↑p) v H1 λH3=>Q V.non H3):=λ{v x} hv hx=>by
    refine I6.at4 (I6.set4 (cc:=x) (by simp only[List.length_set];exact hp1) hv (λc hc=>trivial) λH7 I7 sb7 tk7=> ?_)
    exact q _ lf _ I7 (C.alone (z:=some z) (x:=x) hp1 (by omega) hpm hx) ⟨sz.1,sz.2.1,by simp only[List.length_set];exact sz.2.2⟩ (sb06.trans sb7)
   rcases(by omega:b=0\/b=1)with h | h<;>subst h
   ·exact BU (SqL.of e6) (n:=0) rfl rfl (fin (x:=some 0) rfl (by decide))
   ·exact BU (SqL.of e6) (n:=1) rfl rfl (fin (x:=none) rfl (by decide))
 ·refine BN h7 ?_
  exact q vw lf _ (I.same s02) C sz s02.sb
theorem Wk(h:OS K a vs H Q E):vs.length=3:=by
 obtain⟨_,_,_,_,_,_,_,_,_,_,rfl,_⟩:=h
 rfl
theorem Wl(h:OU K a vs H Q E):U6 K a (λ_=>E) (A5 Q) (A1 ["view","led","records","found"] vs) H:=by
 obtain⟨A,vw,lf,zs,rfl,I,C,h36,q⟩:=h
 have ok:=I.ok
 have br:=ok.br
 have bp:=ok.bp
 have l2:=ok.l2
 push_cast[U6,↓Db]
 refine⟨A,vw,lf,rfl,I,λl1 H0 hl1' s0 hl1=> ?_⟩
 have hl1:H0 l1=some (.lst (AW ((List.range vw.rc.length).map (led vw)))):=hl1
 have I0:=I.same s0
 have nl1:(AW ((List.range vw.rc.length).map (led vw))).length=vw.rc.length:=by rw[CN,GH]
 push_cast[↓Dc]
 refine⟨vw.rc.length,.inl ⟨_,SqL.of hl1,nl1.symm⟩,by omega,by omega,NY (λk=>(AF vw.rc k).isSome) (small _ (by omega)) (λk hk QB qb=> ?_) λrl hrl=> ?_⟩
 ·push_cast[BL]
  refine I0.ix1 hk λv hv=> ?_
  push_cast[]
  rw[LP hv]
  simpa using qb
 have s1:=A0 (o:=.lst (((List.range vw.rc.length).filter λk=>(AF vw.rc k).isSome).map λ(i:Nat)=>V.int i)) hrl
 have er:upd H0 rl (.lst (((List.range vw.rc.length).filter λk=>(AF vw.rc k).isSome).map λ(i:Nat)=>V.int i)) rl=some (.lst (AW ((List.range vw.rc.length).filter λk=>(AF vw.rc k).isSome))):=AS
 revert s1 er
 generalize upd H0 rl (.lst (((List.range vw.rc.length).filter λk=>(AF vw.rc k).isSome).map λ(i:Nat)=>V.int i))=H1
 intro s1 er
 push_cast[↓Dd]
 refine .inl ⟨⟨_,SqL.of er⟩,G5 (D7 vw) (λr=>[.str "many",.int r,.int (led vw r)]) er (GI br) (λk hk H4 s QB qb=> ?_) (λk hk hp H4 Q' s q'=> ?_) ?_⟩
 ·obtain⟨hk,hs⟩:=EN hk
  obtain⟨c,hc⟩:=Option.isSome_iff_exists.mp hs
  have s':=s1.trans s
  unfold D7 at qb
  simp only[hc]at qb
  push_cast[BL]
  refine FR (s' _ _ hl1) hk ?_
  push_cast[]
  by_cases h0:0<led vw k
  ·refine CF (by omega) ((I0.same s').ix1 hk λv hv=> ?_)
   rw[hc]at hv
   obtain⟨p,t,rfl,hp,ht⟩:=hv
   refine BZ hp (n:=0) rfl rfl (FR (s' _ _ hl1) hk ?_)
   push_cast[]
   rw[decide_eq_true h0,Bool.true_and]at qb
   exact qb
  ·refine BN (by omega) ?_
   rw[decide_eq_false h0,Bool.false_and]at qb
   exact qb
 ·obtain⟨hk,hs⟩:=EN hk
  push_cast[BL]
  refine FR ((s1.trans s) _ _ hl1) hk ?_
  exact⟨by decide,q'⟩
 rw[FT (r:=D7 vw) λk _=>by
  unfold D7
  cases AF vw.rc k<;>simp]
 intro f2 H2 h2 s2 F2
 have n2:=DB (p:=D7 vw) (f:=λr=>[.str "many",.int r,.int (led vw r)]) br
 have s02:=s1.trans s2
 push_cast[↓Dg]
 refine .inl ⟨⟨_,SqL.of (s2 _ _ er)⟩,G5 (λr=>decide (led vw r=0)) (λr=>[.str "left",.str "record",.int r]) (s2 _ _ er) (GI br) (λk hk H4 s QB qb=> ?_) (λk hk hp H4 Q' s q'=> ?_) ?_⟩
 ·obtain⟨hk,hs⟩:=EN hk
  push_cast[BL]
  refine FR ((s02.trans s) _ _ hl1) hk ?_
  push_cast[]
  rw[jX]
  exact qb
 ·push_cast[]
  exact⟨by decide,q'⟩
 rw[FT λk _=>rfl]
 intro f3 H3 h3 s3 F3
 have n3:=DB (p:=λr=>(AF vw.rc r).isSome && decide (led vw r=0)) (f:=λr=>[.str "left",.str "record",.int r]) br
 refine FD (F2.same s3) F3 (by omega) λfd H4 hfd s4 F4=> ?_
 have s04:=(s02.trans s3).trans s4
 have F4:FindsL H4 fd (IS vw):=F4
 have I4:=I0.same s04
 obtain⟨_,_,_,m4,m5,m6⟩:=O1 ok
 have lfl:=C.short
 push_cast[↓Dh]
 refine I4.at5 ⟨A.a5,lf.map λ(k:Nat)=>(k:Int),rfl,by rw[<-RJ];exact SqL.of I4.l,by rw[List.length_map];omega,λD ks hD hpm hsr=> ?_⟩
 have eks:=C.sorted l2 hpm hsr
 have eks2:ks.map V.int=AW ((List.range vw.pc.length).filter λp=>decide (AF vw.pm p=some 1) && decide (DI vw p=0)):=by rw[eks,RJ]
 rw[eks2]
 have s5:=A0 (o:=.lst (AW ((List.range vw.pc.length).filter λp=>decide (AF vw.pm p=some 1) && decide (DI vw p=0)))) hD
 have e5:upd H4 D (.lst (AW ((List.range vw.pc.length).filter λp=>decide (AF vw.pm p=some 1) && decide (DI vw p=0)))) D=some (.lst (AW ((List.range vw.pc.length).filter λp=>decide (AF vw.pm p=some 1) && decide (DI vw p=0)))):=AS
 revert s5 e5
 generalize upd H4 D (.lst (AW ((List.range vw.pc.length).filter λp=>decide (AF vw.pm p=some 1) && decide (DI vw p=0))))=H5
 intro s5 e5
 refine⟨D,rfl,.inl ⟨⟨_,SqL.of e5⟩,G5 (λ_=>true) (λp=>[.str "left",.str "piece",.int p]) e5 (GI bp) (λk hk H6 s QB qb=>qb) (λk hk hp H6 Q' s q'=> ?_) ?_⟩⟩
 ·push_cast[]
  exact⟨by decide,q'⟩
 rw[FT (r:=λp=>decide (AF vw.pm p=some 1) && decide (DI vw p=0)) λk _=>by rw[Bool.and_true]]
 intro f6 H6 h6 s6 F6
 have F6:FindsL H6 f6 (IT vw):=F6
 refine FD (F4.same (s5.trans s6)) F6 (by omega) λf7 H7 h7 s7 F7=> ?_
 have s07:=((s04.trans s5).trans s6).trans s7
 push_cast[↓Dj]
 refine⟨vw.rc.length,.inl ⟨_,SqL.of (s07 _ _ hl1),nl1.symm⟩,by omega,by omega,Ql (λr=>decide (AF vw.rm r=some 1) && (AF vw.rc r).isNone) (λr=>[.str "marked",.int r]) (by omega) (λk hk H5 s QB qb=> ?_) (λk hk hp H5 Q' s q'=> ?_) λa8 H8 h8 s8 F8=> ?_⟩
 ·have I':=I0.same (s07.trans s)
  push_cast[BL]
  refine I'.ix3 hk λv hv=>RH hv ⟨_,rfl,?_⟩
  by_cases h1:AF vw.rm k=some 1
  ·refine CF (by simpa using h1) (I'.ix1 hk λv2 hv2=> ?_)
   push_cast[]
   rw[LP hv2]
   rw[decide_eq_true h1,Bool.true_and]at qb
   exact qb
  ·refine BN (by simpa using h1) ?_
   rw[decide_eq_false h1,Bool.false_and]at qb
   exact qb
 ·push_cast[]
  exact⟨by decide,q'⟩
 have F8:FindsL H8 a8 (IU vw):=F8
 exact FD (F7.same s8) F8 (by rw[List.length_append];omega) λl H9 hl s9 F9=>q l H9 (s0.free (s07.free (s8.free hl))) (((s0.trans s07).trans s8).trans s9) F9
theorem Wm(h:OU K a vs H Q E):vs.length=1:=by
 obtain⟨_,_,_,_,rfl,_⟩:=h
 rfl
theorem Wp{F:Addr->Nat->Prop}{as:List Addr}{x0 x1 x2 x3 x4:Nat}(h:Paired F as [x0,x1,x2,x3,x4]):∃ a0 a1 a2 a3 a4,as=[a0,a1,a2,a3,a4]/\F a0 x0/\F a1 x1/\F a2 x2/\F a3 x3/\F a4 x4:=by
 cases h with | cons h0 h=>cases h with | cons h1 h=>cases h with | cons h2 h=>cases h with | cons h3 h=>cases h with | cons h4 h =>
  cases h
  exact⟨_,_,_,_,_,rfl,h0,h1,h2,h3,h4⟩
theorem Wq(h:OT K a vs H Q E):VW K a (λ_=>E) (A5 Q) (A1 ["cells","sizes","names","many","view","cell","xs"] vs) H:=by
 obtain⟨sc,z,nl,ns,zs,n,r,c,w,rfl,hs,hns,hz,n1,n6,r1,r6,c1,c6,w1,w6,hnl,hzl,hzd,hzs,q⟩:=h
 have bw:∀ k:Nat,k<=6->k * w<=36:=λk hk=>Nat.mul_le_mul hk w6
 have bn:=bw n n6
 have br:=bw r r6
 have bc:=bw c c6
 have cn:∀ k:Nat,((k:Int) * w)=((k * w:Nat):Int):=λk=>by simp
 push_cast[VW,↓Jy]
 refine .inr ⟨z,_,rfl,SqT.of hz,by simp[HT.sIx],λt ht=>⟨t,rfl,.inr ⟨⟨_,SqT.of AS⟩,?_⟩⟩⟩
 have e1:upd H t (.tup (EF [.int n,.int r,.int c,.int w] none (some 3))) t=some (.tup [.int n,.int r,.int c]):=by rw[AS];rfl
 have s1:=A0 (o:=.tup (EF [.int n,.int r,.int c,.int w] none (some 3))) ht
 revert e1 s1
 generalize upd H t (.tup (EF [.int n,.int r,.int c,.int w] none (some 3)))=H1
 intro e1 s1
 refine Ub (xs:=[.int n,.int r,.int c]) (small _ (by simp)) (λi ys H'=>H'=H1/\ys=([n * w,r * w,c * w].take i).map λ(k:Nat)=>V.int k) ⟨rfl,rfl⟩ (λi ys H' _ ⟨e,_⟩=>e ▸ SqT.of e1) (λi x ys H' hx _ ⟨e,e'⟩=> ?_) (λys H' _ ⟨e,e'⟩ l hl=> ?_)
 ·subst e
  push_cast[BL]
  obtain⟨k,rfl,hk6,ek⟩:∃ k:Nat,x=.int k/\k<=6/\[n * w,r * w,c * w][i]? =some (k * w):=by
   match i with
   | 0=>cases hx;exact⟨n,rfl,n6,rfl⟩
   | 1=>cases hx;exact⟨r,rfl,r6,rfl⟩
   | 2=>cases hx;exact⟨c,rfl,c6,rfl⟩
   | i+3=>simp at hx
  refine BZ (s1 _ _ hz) (n:=3) rfl rfl ?_
  push_cast[]
  refine⟨.inl ⟨by omega,by omega⟩,?_⟩
  rw[cn k,e',EW ek,List.map_append]
  rfl
 subst e
 have e':ys=[.int ((n * w:Nat):Int),.int ((r * w:Nat):Int),.int ((c * w:Nat):Int)]:=e'
 subst e'
 have s2:=A0 (o:=.lst [V.int ↑(n * w),V.int ↑(r * w),V.int ↑(c * w)]) hl
 have e2:upd H' l (.lst [V.int ↑(n * w),V.int ↑(r * w),V.int ↑(c * w)]) l=some (.lst [V.int ↑(n * w),V.int ↑(r * w),V.int ↑(c * w)]):=AS
 revert s2 e2
 generalize upd H' l (.lst [V.int ↑(n * w),V.int ↑(r * w),V.int ↑(c * w)])=H2
 intro s2 e2
 have s02:=s1.trans s2
 push_cast[↓Jz]
 refine⟨by decide,λkl hkl=>.inl ⟨⟨_,SqL.of AS⟩,?_⟩⟩
 have s3:=A0 (o:=.lst [V.int 0,V.int 1,V.int 2,V.int 1,V.int 2]) hkl
 have e3:upd H2 kl (.lst [V.int 0,V.int 1,V.int 2,V.int 1,V.int 2]) kl=some (.lst [V.int 0,V.int 1,V.int 2,V.int 1,V.int 2]):=AS
 revert s3 e3
 generalize upd H2 kl (.lst [V.int 0,V.int 1,V.int 2,V.int 1,V.int 2])=H3
 intro s3 e3
 have s03:=s02.trans s3
 refine ZK (xs:=[V.int 0,V.int 1,V.int 2,V.int 1,V.int 2]) (small _ (by simp)) (λi ys H'=>Same H3 H'/\∃ as:List Addr,ys=as.map V.ref/\as.Nodup/\Paired (λa m=>H' a=some (.lst (List.replicate m V.non))/\H3 a=none) as ([n * w,r * w,c * w,r * w,c * w].take i)) ⟨Same.refl _,[],rfl,List.nodup_nil,.nil⟩ (λi ys H' _ ⟨s,_⟩=>SqL.of (s _ _ e3)) (λi x ys H4 hx _ ⟨s,as,e,nd,P⟩=> ?_) (λys H4 _ ⟨s,as,e,nd,P⟩ vl hvl=> ?_)
 ·obtain⟨j,m,rfl,ej,em,hm⟩:∃ (j m:Nat),x=.int j/\[V.int ↑(n * w),V.int ↑(r * w),V.int ↑(c * w)][j]? =some (.int m)/\[n * w,r * w,c * w,r * w,c * w][i]? =some m/\m<=36:=by
   match i with
   | 0=>cases hx;exact⟨0,_,rfl,rfl,rfl,bn⟩
   | 1=>cases hx;exact⟨1,_,rfl,rfl,rfl,br⟩
   | 2=>cases hx;exact⟨2,_,rfl,rfl,rfl,bc⟩
   | 3=>cases hx;exact⟨1,_,rfl,rfl,rfl,br⟩
   | 4=>cases hx;exact⟨2,_,rfl,rfl,rfl,bc⟩
   | i+5=>simp at hx
  push_cast[BL]
  refine⟨by decide,λp hp=> ?_⟩
  have s5:=A0 (o:=.lst [V.non]) hp
  refine BU (SqL.of (s5 _ _ (s _ _ (s3 _ _ e2)))) (n:=j) rfl ej (Ud AS (by omega) λa6 H6 h6 s6 e6=> ?_)
  have s56:=s5.trans s6
  refine⟨s.trans s56,as++[a6],by rw[e,List.map_append];rfl,?_,?_⟩
  ·rw[List.nodup_append]
   refine⟨nd,by simp,λx hx y hy=> ?_⟩
   rw[List.mem_singleton.mp hy]
   obtain⟨k,ek⟩:=JT hx
   obtain⟨r',_,hx'⟩:=E6 P ek
   exact BE (s5 _ _ hx'.1) h6
  ·rw[EW em]
   exact Paired.snoc (Paired.mapP P λt r e=>⟨s56 _ _ e.1,e.2⟩) ⟨e6,s.free (s5.free h6)⟩
 have P:Paired (λa m=>H4 a=some (.lst (List.replicate m V.non))/\H3 a=none) as [n * w,r * w,c * w,r * w,c * w]:=P
 obtain⟨a0,a1,a2,a3,a4,rfl,f0,f1,f2,f3,f4⟩:=Wp P
 subst e
 have s5:=A0 (o:=.lst [V.ref a0,V.ref a1,V.ref a2,V.ref a3,V.ref a4]) hvl
 have e5:upd H4 vl (.lst [V.ref a0,V.ref a1,V.ref a2,V.ref a3,V.ref a4]) vl=some (.lst [V.ref a0,V.ref a1,V.ref a2,V.ref a3,V.ref a4]):=AS
 show 0<=sizeLine/\_
 revert s5 e5
 simp only[List.map_cons,List.map_nil]
 generalize upd H4 vl (.lst [V.ref a0,V.ref a1,V.ref a2,V.ref a3,V.ref a4])=H5
 intro s5 e5
 refine⟨by decide,λa5 ha5=>⟨by decide,λp1 hp1=> ?_⟩⟩
 have s6:=A0 (o:=.lst []) ha5
 have e6:upd H5 a5 (.lst []) a5=some (.lst (AW [])):=AS
 revert hp1 s6 e6
 generalize upd H5 a5 (.lst [])=H6
 intro hp1 s6 e6
 have s7:=A0 (o:=.lst [V.ref a5]) hp1
 have e7:upd H6 p1 (.lst [V.ref a5]) p1=some (.lst [V.ref a5]):=AS
 revert s7 e7
 generalize upd H6 p1 (.lst [V.ref a5])=H7
 intro s7 e7
 refine HQ ((s6.trans s7) _ _ e5) e7 (by simp) λv H8 hv s8 e8=> ?_
 have s38:=((((s.trans s5).trans s6).trans s7).trans s8)
 have s48:=((s5.trans s6).trans s7).trans s8
 have s08:=s03.trans s38
 have g0:=s48 _ _ f0.1
 have g1:=s48 _ _ f1.1
 have g2:=s48 _ _ f2.1
 have g3:=s48 _ _ f3.1
 have g4:=s48 _ _ f4.1
 have g5:=(s7.trans s8) _ _ e6
 have d5:∀ {x:Addr} {m:Nat},H4 x=some (.lst (List.replicate m V.non))->x≠a5:=λe=>BE (s5 _ _ e) ha5
 have dv:∀ {x:Addr} {m:Nat},H4 x=some (.lst (List.replicate m V.non))->v≠x:=λe=>(BE ((((s5.trans s6).trans s7)) _ _ e) hv).symm
 have dv5:v≠a5:=(BE (s7 _ _ e6) hv).symm
 obtain⟨⟨d01,d02,d03,d04⟩,⟨d12,d13,d14⟩,⟨d23,d24⟩,d34⟩:(a0≠a1/\a0≠a2/\a0≠a3/\a0≠a4)/\(a1≠a2/\a1≠a3/\a1≠a4)/\(a2≠a3/\a2≠a4)/\a3≠a4:=by
  simp at nd
  exact⟨⟨nd.1.1,nd.1.2.1,nd.1.2.2.1,nd.1.2.2.2⟩,⟨nd.2.1.1,nd.2.1.2.1,nd.2.1.2.2⟩,⟨nd.2.2.1.1,nd.2.2.1.2⟩,nd.2.2.2⟩
 have nmem:∀ {α :Type} {k:Nat} {x: α},some x∉List.replicate k (none:Option α):=λh=>by have:=List.eq_of_mem_replicate h;cases this
 have I8:LWAt H8 ⟨v,a0,a1,a2,a3,a4,a5⟩ ⟨List.replicate (n * w) none,List.replicate (r * w) none,List.replicate (c * w) none,List.replicate (r * w) none,List.replicate (c * w) none⟩ []:=by
  refine⟨e8,⟨_,g0,LR (F:=NmV _) (x:=.non) (y:=none) rfl _⟩,⟨_,g1,LR (F:=RcV _) (x:=.non) (y:=none) rfl _⟩,⟨_,g2,LR (F:=PcV _) (x:=.non) (y:=none) rfl _⟩,⟨_,g3,LR (F:=MkV _) (x:=.non) (y:=none) rfl _⟩,⟨_,g4,LR (F:=MkV _) (x:=.non) (y:=none) rfl _⟩,g5,⟨λx h=>absurd h nmem,λx h=>absurd h nmem,λx h=>absurd h nmem,by simp,by simp,by simp;omega,by simp;omega,by simp;omega⟩,?_,?_⟩
  ·simp[LW.L,d01,d02,d03,d04,d12,d13,d14,d23,d24,d34,d5 f0.1,d5 f1.1,d5 f2.1,d5 f3.1,d5 f4.1]
  ·simp[LW.L,dv f0.1,dv f1.1,dv f2.1,dv f3.1,dv f4.1,dv5]
 have atN:∀ {α :Type} {k j:Nat} {x: α},AF (List.replicate k (none:Option α)) j≠some x:=λh=>nmem (LT h)
 have led0:∀ r',led ⟨List.replicate (n * w) none,List.replicate (r * w) none,List.replicate (c * w) none,List.replicate (r * w) none,List.replicate (c * w) none⟩ r'=0:=λr'=>by
  cases e:led ⟨List.replicate (n * w) none,List.replicate (r * w) none,List.replicate (c * w) none,List.replicate (r * w) none,List.replicate (c * w) none⟩ r' with
  | zero=>rfl
  | succ m =>
   obtain⟨k,d,hk,_⟩:=RM (r:=r') (by rw[e];exact Nat.succ_pos m)
   exact absurd hk atN
 have C8:Clean ⟨List.replicate (n * w) none,List.replicate (r * w) none,List.replicate (c * w) none,List.replicate (r * w) none,List.replicate (c * w) none⟩ [] zs:=by
  refine⟨λk d h=>absurd h atN,λj k d d' _ h=>absurd h atN,λk d h=>absurd h atN,λr' d h=>absurd h atN,λr' d h=>absurd h atN,λr1 r2 d d' _ h=>absurd h atN,λr' d h=>absurd h atN,λr' hl=> ?_,List.nodup_nil,λp=>⟨λh=>(by cases h),λ⟨h,_⟩=>absurd h atN⟩,λr' d h=>absurd h atN⟩
  rw[led0]at hl;omega
 have fA:∀ y∈LW.L ⟨v,a0,a1,a2,a3,a4,a5⟩,H y=none:=λy hy=>by
  simp[LW.L]at hy
  rcases hy with rfl | rfl | rfl | rfl | rfl | rfl
  ·exact s03.free f0.2
  ·exact s03.free f1.2
  ·exact s03.free f2.2
  ·exact s03.free f3.2
  ·exact s03.free f4.2
  ·exact s03.free ((s.trans s5).free ha5)
 have fv:H v=none:=s03.free ((((s.trans s5).trans s6).trans s7).free hv)
 have ns8:=s08 _ _ hs
 have nsA:sc∉LW.L ⟨v,a0,a1,a2,a3,a4,a5⟩:=λh=>by rw[fA sc h]at hs;cases hs
 have N8:NamesAt H8 ⟨v,a0,a1,a2,a3,a4,a5⟩ nl zs:=⟨s08 _ _ hnl,hzl,hzd,hzs,λh=>by rw[fA nl h]at hnl;cases hnl⟩
 clear nd P f0 f1 f2 f3 f4 g0 g1 g2 g3 g4 g5 d5 dv
 push_cast[↓Km]
 refine .inl ⟨⟨_,SqL.of ns8⟩,IJ (xs:=ns.map V.int) (λi σ H'=>(∃ vw lf,(LWAt H' ⟨v,a0,a1,a2,a3,a4,a5⟩ vw lf/\Clean vw lf zs)/\FQ vw (n * w) (r * w) (c * w)/\SameBut (· ∈LW.L ⟨v,a0,a1,a2,a3,a4,a5⟩) H8 H')/\∃ y5 y6,σ=[some (.ref sc),some (.ref z),some (.ref nl),some (.ref l),some (.ref v),y5,y6]) ⟨⟨_,_,⟨I8,C8⟩,⟨by simp,by simp,by simp⟩,SameBut.refl _⟩,_,_,rfl⟩ (λi σ H' _ ⟨⟨_,_,_,_,sb⟩,_⟩=>SqL.of (sb _ _ ns8 nsA)) (λi x σ H9 hx ⟨⟨vw,lf,⟨I9,C9⟩,sz,sb⟩,y5,y6,eσ⟩=> ?_) (λσ H9 ⟨⟨vw,lf,⟨I9,C9⟩,sz,sb⟩,y5,y6,eσ⟩=> ?_)⟩
 ·subst eσ
  obtain⟨cell,_,rfl⟩:=List.mem_map.mp (List.mem_of_getElem? hx)
  push_cast[↓Kb]
  refine⟨⟨by decide,by decide⟩,cell / 8,7,rfl,by omega,λxl xs H10 hxl s10 exl hxs hx=> ?_⟩
  have I10:=I9.same s10
  have nxl:xl∉LW.L ⟨v,a0,a1,a2,a3,a4,a5⟩:=λhm=>by
   simp[LW.L]at hm
   obtain⟨_,k0,_⟩:=I9.n
   obtain⟨_,k1,_⟩:=I9.r
   obtain⟨_,k2,_⟩:=I9.p
   obtain⟨_,k3,_⟩:=I9.rm
   obtain⟨_,k4,_⟩:=I9.pm
   have k5:=I9.l
   rcases hm with rfl | rfl | rfl | rfl | rfl | rfl
   ·rw[hxl]at k0;cases k0
   ·rw[hxl]at k1;cases k1
   ·rw[hxl]at k2;cases k2
   ·rw[hxl]at k3;cases k3
   ·rw[hxl]at k4;cases k4
   ·rw[hxl]at k5;cases k5
  have X10:IntsAt H10 ⟨v,a0,a1,a2,a3,a4,a5⟩ xl xs 7:=⟨exl,hxs,hx,nxl⟩
  have N10:=(N8.sb sb).sb s10.sb
  have sb10:SameBut (· ∈LW.L ⟨v,a0,a1,a2,a3,a4,a5⟩) H8 H10:=sb.trans s10.sb
  push_cast[↓Kl]
  by_cases h3:cell % 8<3
  ·refine CF h3 ?_
   push_cast[↓Kc]
   exact⟨⟨v,a0,a1,a2,a3,a4,a5⟩,vw,lf,zs,nl,xl,xs,true,n * w,r * w,c * w,rfl,I10,C9,N10,X10,sz,bn,bc,λvw' lf' H' I' C' sz' sb'=>⟨vw',lf',I',C',sz',sb10.trans sb'⟩⟩
  refine BN h3 ?_
  push_cast[↓Kk]
  by_cases h4:cell % 8=3
  ·refine CF h4 ?_
   push_cast[↓Kd]
   exact⟨⟨v,a0,a1,a2,a3,a4,a5⟩,vw,lf,zs,nl,xl,xs,n * w,r * w,c * w,rfl,I10,C9,N10,X10,sz,bn,λvw' lf' H' I' C' sz' sb'=>⟨vw',lf',I',C',sz',sb10.trans sb'⟩⟩
  refine BN h4 ?_
  push_cast[↓Kj]
  by_cases h5:cell % 8=4
  ·refine CF h5 ?_
   push_cast[↓Kg]
   exact⟨⟨v,a0,a1,a2,a3,a4,a5⟩,vw,lf,zs,nl,xl,xs,false,n * w,r * w,c * w,rfl,I10,C9,N10,X10,sz,bn,bc,λvw' lf' H' I' C' sz' sb'=>⟨vw',lf',I',C',sz',sb10.trans sb'⟩⟩
  refine BN h5 ?_
  push_cast[↓Kh]
  exact⟨⟨v,a0,a1,a2,a3,a4,a5⟩,vw,lf,zs,cell % 8,xl,xs,n * w,r * w,c * w,rfl,I10,C9,X10,sz,bc,λvw' lf' H' I' C' sz' sb'=>⟨vw',lf',I',C',sz',sb10.trans sb'⟩⟩
 ·subst eσ
  push_cast[↓Kp]
  refine q ⟨v,a0,a1,a2,a3,a4,a5⟩ vw lf H9 (λb o e=>sb _ _ (s08 _ _ e) λh=> ?_) I9 C9 sz fv fA
  rw[fA b h]at e;cases e
theorem Wv(h:OT K a vs H Q E):vs.length=3:=by
 obtain⟨_,_,_,_,_,_,_,_,_,rfl,_⟩:=h
 rfl
theorem kH{p:Addr}{xs:List Int}{k:Nat}{Q:VK}(h:H p=some (.lst (xs.map V.int)))(hk:k<xs.length)(q:Q (.int (xs.getD k 0)) H):AK K (.ref p) (.int k) H Q :=
 BU (SqL.of h) (n:=k) rfl (by rw[List.getElem?_map,List.getElem?_eq_getElem hk];simp[List.getD,hk]) q
def FE(x:Int):Nat:=97+(x % 26).toNat
theorem WE{x y:Int}(h:FE x=FE y):x % 26=y % 26:=by
 unfold FE at h
 omega
theorem kI{x:Int}{Q:VK}(q:Q (.str ⟨#[FE x]⟩) H):AK K (.str (Str.ofString "abcdefghijklmnopqrstuvwxyz")) (.int (x % 26)) H Q:=by
 obtain⟨b,eb,hb⟩:=KC x (n:=26) (by omega)
 rw[show((26:Nat):Int)=26 from rfl]at eb
 have:FE x=97+b:=by unfold FE;rw[eb];simp
 rw[this]at q
 rw[eb]
 exact Tj rfl hb q
theorem kJ{c:Nat}{k:Nat}(h1:1<=k)(h8:k<=8):(IE ⟨#[c]⟩ (k:Int)).cps.toList=List.replicate k c:=by
 rcases(by omega:k=1\/k=2\/k=3\/k=4\/k=5\/k=6\/k=7\/k=8)with h | h | h | h | h | h | h | h<;>subst h<;>rfl
theorem kK{m:Nat}{f:Nat->Str}(h:∀ j k,j<k->k<m->f j≠f k):((List.range m).map f).Nodup:=by
 rw[List.nodup_iff_pairwise_ne,List.pairwise_map,List.pairwise_iff_getElem]
 intro i j hi hj hlt
 rw[List.length_range]at hj
 simp only[List.getElem_range]
 exact h i j hlt hj
def LV(x:Int)(k:Nat):Str:=IE ⟨#[FE (x+(k:Int) / 8)]⟩ (1+(k:Int) % 8)
theorem Ww{x:Int}{j k:Nat}(h:j<k)(hk:k<36):LV x j≠LV x k:=λe=>by
 have e':=congrArg (λz:Str=>z.cps.toList) e
 unfold LV at e'
 have a1:(1+(j:Int) % 8)=((1+j % 8:Nat):Int):=by omega
 have a2:(1+(k:Int) % 8)=((1+k % 8:Nat):Int):=by omega
 simp only[a1,a2]at e'
 rw[kJ (by omega) (by omega),kJ (by omega) (by omega)]at e'
 have el:=congrArg List.length e'
 rw[List.length_replicate,List.length_replicate]at el
 rw[el,show 1+k % 8=k % 8+1 by omega,List.replicate_succ,List.replicate_succ]at e'
 have eh:=(List.cons.inj e').1
 have:=WE eh
 omega
def LX(fi se:Int)(k j:Nat):Int:=(k:Int) * (if(j:Int)=fi then 1 else 0)+(k:Int) / 26 * (if(j:Int)=se then 1 else 0)
def GM(xs:List Int)(fi se:Int)(k sz:Nat):List Nat:=(List.range sz).map λj=>FE (xs.getD (3+j) 0+LX fi se k j)
theorem Wx{xs:List Int}{fi se:Int}{j k sz:Nat}(h:j<k)(hk:k<36)(f0:0<=fi)(f1:fi<sz)(g0:0<=se)(g1:se<sz)(ne:fi≠se):GM xs fi se j sz≠GM xs fi se k sz:=λe=>by
 have at':∀ i:Nat,i<sz->FE (xs.getD (3+i) 0+LX fi se j i)=FE (xs.getD (3+i) 0+LX fi se k i):=λi hi=>by
  have:=congrArg (λl:List Nat=>l[i]?) e
  unfold GM at this
  simp only[List.getElem?_map,List.getElem?_range hi]at this
  exact Option.some.inj this
 by_cases hq:j / 26=k / 26
 ·have:=WE (at' fi.toNat (by omega))
  unfold LX at this
  have a1:((fi.toNat:Nat):Int)=fi:=by omega
  rw[a1,if_pos rfl,if_neg ne]at this
  omega
 ·have:=WE (at' se.toNat (by omega))
  unfold LX at this
  have a1:((se.toNat:Nat):Int)=se:=by omega
  rw[a1,if_pos rfl,if_neg (λz=>ne z.symm)]at this
  omega
theorem Wy{fi y:Int}{sz:Nat}(h2:2<=sz)(h8:sz<=8)(f0:0<=fi)(f1:fi<sz):fi≠(fi+1+y % ((sz:Int) - 1)) % (sz:Int):=by
 rcases(by omega:sz=2\/sz=3\/sz=4\/sz=5\/sz=6\/sz=7\/sz=8)with h | h | h | h | h | h | h<;>subst h<;>simp only[Int.cast_ofNat_Int,Int.reduceSub]<;>omega
theorem Wz{x y:Str}(h:x.cps.toList=y.cps.toList):x=y:=by
 cases x;cases y
 congr 1
 exact Array.toList_inj.mp h
theorem Xb{l:List Int}{z:Str}(h:z.cps.toList=l.map FE):PyData.strOk z=true:=by
 unfold PyData.strOk
 rw[<-Array.all_toList,h,List.all_eq_true]
 intro c hc
 obtain⟨x,_,rfl⟩:=List.mem_map.mp hc
 unfold FE
 simp
 omega
theorem Xc(h:OP K a vs H Q E):U0 K a (λ_=>E) (A5 Q) (A1 ["cell","many","letters","xs","size","first","second","names","k","word","j","step"] vs) H:=by
 obtain⟨x,m,rfl,hm,q⟩:=h
 push_cast[U0,↓Bd,↓Bg]
 refine⟨⟨by decide,by decide⟩,x / 2,12,rfl,by omega,λl xs H1 hl s1 el hxl hx=> ?_⟩
 push_cast[↓Bj]
 by_cases h1:x % 2=1
 ·refine CF h1 ?_
  push_cast[↓Bh]
  refine⟨by omega,by omega,?_⟩
  refine NX (small _ (by omega)) (λi ys H'=>H'=H1/\ys=((List.range i).map (LV (xs.getD 0 0))).map V.str) ⟨rfl,rfl⟩ (λi ys H' hi hl ⟨e1,e2⟩=> ?_) (λys H' hl' ⟨e1,e2⟩ p hp=> ?_)
  ·subst e1
   push_cast[BL,Int.zero_add]
   refine kH (k:=0) el (by omega) ?_
   push_cast[]
   refine⟨⟨by decide,by decide⟩,kI ?_⟩
   push_cast[]
   refine⟨by omega,by omega,(show(1:Nat)<=1000 by omega),?_⟩
   rw[e2,List.range_succ,List.map_append,List.map_append]
   rfl
  ·subst e1
   refine q p ((List.range m).map (LV (xs.getD 0 0))) _ (s1.free hp) (s1.trans (A0 hp)) (by rw[AS,e2]) (by simp) (kK λj k hjk hk=>Ww hjk (by omega)) λz hz=> ?_
   obtain⟨k,hk,rfl⟩:=List.mem_map.mp hz
   have hk:=List.mem_range.mp hk
   unfold LV
   have e8:∃ b:Nat,FE (xs.getD 0 0+(k:Int) / 8)=97+b/\b<26:=⟨((xs.getD 0 0+(k:Int) / 8) % 26).toNat,rfl,by omega⟩
   obtain⟨b,eb,hb⟩:=e8
   rw[eb]
   exact Tm hb (by omega) (by omega)
 ·refine BN h1 ?_
  push_cast[↓Bk]
  refine GK (k:=0) el (by omega) λy1 hy1=> ?_
  have b1:=hx y1 hy1
  push_cast[]
  obtain⟨sz,esz,hsz⟩:∃ sz:Nat,2+y1 % 7=sz/\2<=sz/\sz<=8:=⟨(2+y1 % 7).toNat,by omega,by omega,by omega⟩
  rw[esz]
  push_cast[↓Bl]
  refine GK (k:=1) el (by omega) λy2 hy2=> ?_
  push_cast[]
  refine⟨by omega,?_⟩
  have f0:=Int.emod_nonneg y2 (show(sz:Int)≠0 by omega)
  have f1:=Int.emod_lt_of_pos y2 (show(0:Int)<sz by omega)
  generalize y2 % (sz:Int)=first at f0 f1 ⊢
  push_cast[↓Bm]
  refine GK (k:=2) el (by omega) λy3 hy3=> ?_
  push_cast[]
  refine⟨by omega,by omega,?_⟩
  have ne:=Wy (y:=y3) hsz.1 hsz.2 f0 f1
  have g0:=Int.emod_nonneg (first+1+y3 % ((sz:Int) - 1)) (show(sz:Int)≠0 by omega)
  have g1:=Int.emod_lt_of_pos (first+1+y3 % ((sz:Int) - 1)) (show(0:Int)<sz by omega)
  generalize (first+1+y3 % ((sz:Int) - 1)) % (sz:Int)=second at g0 g1 ne ⊢
  push_cast[↓Bp]
  refine⟨by decide,λp hp=> ?_⟩
  have s2:=A0 (o:=.lst []) hp
  have e2:upd H1 p (.lst []) p=some (.lst []):=AS
  revert s2 e2
  generalize upd H1 p (.lst [])=H2
  intro s2 e2
  push_cast[↓Bz]
  refine⟨by omega,by omega,IK (λi σ H'=>(Same H1 H'/\H' p=some (.lst (((List.range i).map λk=>(⟨(GM xs first second k sz).toArray⟩:Str)).map V.str)))/\∃ y8 y9 y10 y11,σ=[some (.int x),some (.int m),some (.str (Str.ofString "abcdefghijklmnopqrstuvwxyz")),some (.ref l),some (.int sz),some (.int first),some (.int second),some (.ref p),y8,y9,y10,y11]) ⟨⟨s2,e2⟩,_,_,_,_,rfl⟩ (λi σ H' hi ⟨⟨s,e⟩,y8,y9,y10,y11,eσ⟩=> ?_) (λσ H' ⟨⟨s,e⟩,y8,y9,y10,y11,eσ⟩=> ?_)⟩
  ·subst eσ
   push_cast[↓Bq,↓Bx,Int.zero_add]
   refine⟨by omega,by omega,IK (λj σ H2=>(∃ wd:Str,H2=H'/\wd.cps.toList=GM xs first second i j/\∃ y10 y11,σ=[some (.int x),some (.int m),some (.str (Str.ofString "abcdefghijklmnopqrstuvwxyz")),some (.ref l),some (.int sz),some (.int first),some (.int second),some (.ref p),some (.int (i:Int)),some (.str wd),y10,y11])) ⟨Str.ofString "",rfl,rfl,_,_,rfl⟩ (λj σ H2 hj ⟨wd,eH,hw,y10,y11,eσ⟩=> ?_) (λσ H2 ⟨wd,eH,hw,y10,y11,eσ⟩=> ?_)⟩
   ·subst eσ;subst eH
    push_cast[↓Bv,↓Bw,Int.zero_add]
    refine⟨.inl ⟨by omega,by omega⟩,⟨by decide,by decide⟩,.inl ⟨by omega,by omega⟩,?_⟩
    rw[show(3:Int)+(j:Int)=((3+j:Nat):Int) by omega]
    refine kH (k:=3+j) (s _ _ el) (by omega) ?_
    push_cast[]
    refine kI ?_
    push_cast[]
    have hwl:wd.length=j:=by
     have:wd.cps.toList.length=j:=by rw[hw];unfold GM;simp
     simpa [Str.length]using this
    refine⟨small _ (by rw[hwl];show j+1<=_;omega),_,?_,rfl⟩
    show(wd.cps++_).toList=_
    rw[Array.toList_append,hw]
    unfold GM
    rw[List.range_succ,List.map_append]
    rfl
   ·subst eσ;subst eH
    push_cast[↓By]
    refine⟨.inl ⟨rfl,_,SqL.of e⟩,p,_,_,rfl,rfl,e,Nat.lt_of_lt_of_le (show(((List.range i).map λk=>(⟨(GM xs first second k sz).toArray⟩:Str)).map V.str).length<1000 by simp;omega) (by decide),λy o e=>by rw[AT (BE e hp)];exact s _ _ e,?_⟩
    rw[AS,List.range_succ,List.map_append,List.map_append]
    have:wd=(⟨(GM xs first second i sz).toArray⟩:Str):=Wz hw
    rw[this]
    rfl
  ·subst eσ
   push_cast[↓Cb]
   refine q p _ H' (s1.free hp) (s1.trans s) e (by simp) (kK λj k hjk hk=> ?_) λz hz=> ?_
   ·intro e'
    have e'':=congrArg (λz:Str=>z.cps.toList) e'
    exact Wx hjk (by omega) f0 f1 g0 g1 ne e''
   ·obtain⟨k,hk,rfl⟩:=List.mem_map.mp hz
    exact Xb (l:=(List.range sz).map λj=>xs.getD (3+j) 0+LX first second k j) (by show GM xs first second k sz=_;unfold GM;rw[List.map_map];rfl)
theorem Xd(h:OP K a vs H Q E):vs.length=2:=by
 obtain⟨_,_,rfl,_⟩:=h
 rfl
theorem Xg{as:TA}{g:TG}{s1:TS}{D:Ends}{σ:St}:C6 (NZ as) g s1 D σ H=(as σ H λvs H1=>∃ m c:Nat,vs=[.int 0,.int ((m * c:Nat):Int),.int c]/\(1<=c/\c<100000/\m * c<100000)/\GB (JR c m) g s1 D σ H1):=rfl
theorem Xh{c:Int}{n:Nat}{g:TG}{tb:TS}{D:Ends}{σ:St}(Pv:Nat->St->Hp->Prop)(h0:Pv 0 σ H)
  (hs:∀ i σ H,i<n->Pv i σ H->g (.int ((i:Nat) * c)) σ H λσ2 H2=>tb { D with nx:=Pv (i+1),ct:=Pv (i+1),bk:=D.nx } σ2 H2) (hd:∀ σ H,Pv n σ H->D.nx σ H):GB (JR c n) g tb D σ H:=by
 refine⟨λi m σ H=>m=n - i/\i<=n/\Pv i σ H,⟨n,by simp,Nat.zero_le _,h0⟩,?_⟩
 rintro i m σ H ⟨rfl,hi,p⟩
 by_cases hlt:i<n
 ·refine .inr ⟨hlt,Pv (i+1),λσ' H' p'=>⟨n - (i+1),by omega,rfl,hlt,p'⟩,λx H' y=> ?_⟩
  obtain⟨e,y⟩:=y
  subst e y
  exact hs i σ _ hlt p
 ·have e:i=n:=by omega
  subst e
  exact .inl ⟨Nat.le_refl _,hd σ H p⟩
theorem Xj(h:OV K a vs H Q E):VL K a (λ_=>E) (A5 Q) (A1 ["plank","view","cells","flat","k"] vs) H:=by
 obtain⟨gp,cl,A,vw,lf,n,r,c,w,rows,m,rfl,TP,P,hrl,I,⟨z1,z2,z3⟩,w1,w6,n6,r6,c6,ncl,ncv,q⟩:=h
 have ok:=I.ok
 obtain⟨v1,e1,P1⟩:=I.n
 obtain⟨v2,e2,P2⟩:=I.r
 obtain⟨v3,e3,P3⟩:=I.p
 obtain⟨v4,e4,P4⟩:=I.rm
 obtain⟨v5,e5,P5⟩:=I.pm
 have q1:=P1.length
 have q2:=P2.length
 have q3:=P3.length
 have q4:=P4.length
 have q5:=P5.length
 have l1:=ok.l1
 have l2:=ok.l2
 have bn:=ok.bn
 have br:=ok.br
 have bp:=ok.bp
 push_cast[VL,↓Gw]
 refine I.at0 (I.at1 (HQ e1 e2 (by omega) λb1 H1 _ s1 f1=> ?_))
 refine(I.same s1).at2 (HQ f1 (s1 _ _ e3) (by rw[List.length_append];omega) λb2 H2 _ s2 f2=> ?_)
 have s02:=s1.trans s2
 refine(I.same s02).at3 (HQ f2 (s02 _ _ e4) (by simp only[List.length_append];omega) λb3 H3 _ s3 f3=> ?_)
 have s03:=s02.trans s3
 refine(I.same s03).at4 (HQ f3 (s03 _ _ e5) (by simp only[List.length_append];omega) λb4 H4 hb4 s4 f4=> ?_)
 have s04:=s03.trans s4
 have fl:(v1++v2++v3++v4++v5).length=(n+r+c+r+c) * w:=by
  simp only[List.length_append,Nat.add_mul]
  omega
 generalize hM:n+r+c+r+c=M at fl hrl q
 generalize hF:v1++v2++v3++v4++v5=flat at f4 fl
 have fb:M * w<1000:=by rw[<-fl,<-hF];simp only[List.length_append];omega
 push_cast[↓Gy,↓Xg]
 refine⟨M * w,.inl ⟨_,SqL.of f4,fl.symm⟩,M,w,rfl,rfl,w1,by omega,by omega,?_⟩
 have cut:∀ i,i<M->EF flat (some ((i:Int) * w)) (some ((i:Int) * w+w))=DJ w flat i:=λi hi=>by
  have h1:(i+1) * w<=M * w:=Nat.mul_le_mul_right w hi
  rw[Nat.succ_mul]at h1
  unfold EF DJ
  have a1:(i:Int) * w=((i * w:Nat):Int):=by simp
  have a2:(i:Int) * w+w=((i * w+w:Nat):Int):=by simp
  rw[a2,a1,HT.sIx_nat,HT.sIx_nat,fl,Nat.min_eq_left (by omega),Nat.min_eq_left (by omega)]
  congr 1
  omega
 have P4':=P.same s04
 obtain⟨dp,hgp⟩:=P.ob
 obtain⟨tc,hcl,_⟩:=P.ls
 have nb4:b4≠gp/\b4≠cl:=⟨(BE (s03 _ _ hgp) hb4).symm,(BE (s03 _ _ hcl) hb4).symm⟩
 let PR:=λi=>((List.range i).map (DJ w flat))++rows.drop i
 refine Xh (λi σ H'=>(SameBut (λx=>x=gp\/x=cl) H4 H'/\PlankAt a H' gp cl w (PR i) (m+i))/\∃ y,σ=[some (.ref gp),some (.ref A.v),some (.int w),some (.ref b4),y]) ⟨⟨SameBut.refl _,P4'⟩,_,rfl⟩ (λi σ H' hi ⟨⟨s',P'⟩,y,eσ⟩=> ?_) (λσ H' ⟨⟨s',P'⟩,y,eσ⟩=> ?_)
 ·subst eσ
  obtain⟨dp',hob⟩:=P'.ob
  have f4':=s' _ _ f4 λz=>z.elim nb4.1 nb4.2
  push_cast[↓Gx]
  refine⟨_,_,hob,jQ _ _ _,⟨by omega,by omega⟩,Q6 (SqL.of f4') λl2 hl2=> ?_⟩
  rw[cut i hi,Int.mul_ediv_cancel _ (show(w:Int)≠0 by omega)]
  have s9:=A0 (o:=.lst (DJ w flat i)) hl2
  have el2:upd H' l2 (.lst (DJ w flat i)) l2=some (.lst (DJ w flat i)):=AS
  revert s9 el2
  generalize upd H' l2 (.lst (DJ w flat i))=H9
  intro s9 el2
  have cl':=Tz (xs:=flat) fl hi
  have hPR:(PR i).length=M:=by
   show((List.range i).map (DJ w flat)++rows.drop i).length=M
   rw[List.length_append,List.length_map,List.length_range,List.length_drop,hrl]
   omega
  refine⟨gp,cl,w,PR i,m+i,(i:Int),l2,DJ w flat i,rfl,TP,P'.same s9,SqL.of el2,by omega,λb' eb' hb' hyl Ha Pa sa=> ?_,λz=>by rw[hPR]at z;omega⟩
  obtain rfl:i=b':=by omega
  have ePR:(PR i).set i (DJ w flat i)=PR (i+1):=by
   show((List.range i).map (DJ w flat)++rows.drop i).set i (DJ w flat i)=(List.range (i+1)).map (DJ w flat)++rows.drop (i+1)
   rw[List.set_append_right _ _ (by simp),List.length_map,List.length_range,Nat.sub_self,List.drop_eq_getElem_cons (by omega),List.set_cons_zero,List.range_succ,List.map_append,List.append_assoc]
   rfl
  rw[ePR]at Pa
  exact⟨s'.trans (s9.sb.trans sa),Pa⟩
 ·subst eσ
  have ePR:PR M=(List.range M).map (DJ w flat):=by
   show(List.range M).map (DJ w flat)++rows.drop M=_
   rw[<-hrl,List.drop_length,List.append_nil]
  rw[ePR]at P'
  have tk:CD H H':=λy xs e=>s' _ _ (s04 _ _ e) λz=>by
   rcases z with z | z
   ·rw[z,hgp]at e;cases e
   ·rw[z,hcl]at e;cases e
  refine q _ H' P' (by simp) ⟨⟨v1,v2,v3,v4,v5,by rw[kA fl,hF],Paired.mapP P1 λv c=>NmV.keep tk,Paired.mapP P2 λv c=>RcV.keep tk,Paired.mapP P3 λv c=>PcV.keep tk,Paired.mapP P4 λv c=>MkV.keep tk,Paired.mapP P5 λv c=>MkV.keep tk⟩,z1,z2,z3,ok⟩ (s04.sb.trans s')
theorem Xk(h:OV K a vs H Q E):vs.length=3:=by
 obtain⟨_,_,_,_,_,_,_,_,_,_,_,rfl,_⟩:=h
 rfl
theorem LWAt.fresh{A:LW}{vw:Vw}{lf:List Nat}{x:Addr}(I:LWAt H A vw lf)(h:H x=none):x∉A.L/\x≠A.v:=by
 refine⟨λhm=> ?_,λe=>by rw[e,I.ob]at h;cases h⟩
 simp[LW.L]at hm
 obtain⟨_,k0,_⟩:=I.n
 obtain⟨_,k1,_⟩:=I.r
 obtain⟨_,k2,_⟩:=I.p
 obtain⟨_,k3,_⟩:=I.rm
 obtain⟨_,k4,_⟩:=I.pm
 have k5:=I.l
 rcases hm with rfl | rfl | rfl | rfl | rfl | rfl
 ·rw[h]at k0;cases k0
 ·rw[h]at k1;cases k1
 ·rw[h]at k2;cases k2
 ·rw[h]at k3;cases k3
 ·rw[h]at k4;cases k4
 ·rw[h]at k5;cases k5
theorem FindsL.on{H':Hp}{l:Addr}{fs:List (List V)}(h:FindsL H l fs)(hl:∀ o,H l=some o->H' l=some o)(tk:CD H H'):FindsL H' l fs:=by
 obtain⟨ps,e,P⟩:=h
 exact⟨ps,hl _ e,Paired.mapP P λp f e=>tk _ _ e⟩
theorem Xl(ns:List Int)(lo hi:Option Int):∃ ms:List Int,EF (ns.map V.int) lo hi=ms.map V.int/\ms.length<=ns.length:=by
 refine⟨(ns.drop (HT.sIx ns.length 0 lo)).take (HT.sIx ns.length ns.length hi - HT.sIx ns.length 0 lo),?_,?_⟩
 ·unfold EF
  rw[List.length_map,<-List.map_drop,<-List.map_take]
 ·rw[List.length_take,List.length_drop]
  omega
theorem kL(vw:Vw):E4 vw=(EH vw).map (aB vw):=by
 unfold E4 IS IT IU EH CC
 simp only[List.map_append,List.map_map]
 rfl
theorem WF{α :Type}{f:Nat->Option α}{n k:Nat}:AF ((List.range n).map f) k=if k<n then f k else none:=by
 unfold AF
 by_cases h:k<n
 ·rw[if_pos h,List.getElem?_map,List.getElem?_range h]
  rfl
 ·rw[if_neg h,List.getElem?_eq_none (by simp;omega)]
  rfl
theorem RN{α :Type}{l:List (Option α)}{k:Nat}(h:¬ k<l.length):AF l k=none:=by
 unfold AF
 rw[List.getElem?_eq_none (by omega)]
 rfl
section
variable{vw:Vw}
theorem FF(r:Nat):AF (mended vw).rc r=BP vw r:=by
 show AF ((List.range vw.rc.length).map (BP vw)) r=_
 rw[WF]
 split
 ·rfl
 ·rename_i h
  unfold BP
  rw[RN h]
theorem LY(ok:D3 vw)(r:Nat):AF (mended vw).rm r=BX vw r:=by
 show AF ((List.range vw.rc.length).map (BX vw)) r=_
 rw[WF]
 split
 ·rfl
 ·rename_i h
  have h2:AF vw.rm r=none:=RN (by rw[ok.l1];exact h)
  unfold BX
  rw[RN h,h2]
  simp
theorem LZ(ok:D3 vw)(p:Nat):AF (mended vw).pm p=DO vw p:=by
 show AF ((List.range vw.pc.length).map (DO vw)) p=_
 rw[WF]
 split
 ·rfl
 ·rename_i h
  have h2:AF vw.pm p=none:=RN (by rw[ok.l2];exact h)
  unfold DO
  rw[h2]
  simp
theorem Xm{k:Nat}{c:Str × Nat}(h:AF vw.nm k=some c):0<led vw c.2:=by
 unfold led B8
 rw[List.count_pos_iff,List.mem_filterMap]
 exact⟨some c,LT h,rfl⟩
theorem kM(r:Nat):led (mended vw) r=led vw r:=rfl
theorem KF{r:Nat}{d:Int × List Nat}(h:BP vw r=some d):∃ c,AF vw.rc r=some c/\0<led vw r/\d=((led vw r:Int),c.2):=by
 unfold BP at h
 cases e:AF vw.rc r with
 | none=>rw[e]at h;cases h
 | some c =>
  rw[e]at h
  by_cases h0:led vw r=0
  ·simp only[h0,if_true]at h;cases h
  ·simp only[h0,if_false,Option.some.injEq]at h
   exact⟨c,rfl,by omega,h.symm⟩
theorem IZ{r:Nat}{c:Int × List Nat}(h:AF vw.rc r=some c)(hl:0<led vw r):BP vw r=some ((led vw r:Int),c.2):=by
 unfold BP
 rw[h]
 simp only
 rw[if_neg (by omega)]
theorem kN{p:Nat}:OO (mended vw) p↔OO vw p:=by
 constructor
 ·intro h r c hl hc hm
  exact h r ((led vw r:Int),c.2) hl (by rw[FF];exact IZ hc hl) hm
 ·intro h r d hl hd hm
  rw[FF]at hd
  obtain⟨c,hc,h0,rfl⟩:=KF hd
  exact h r c h0 hc hm
theorem kO{p:Nat}:DI (mended vw) p=0↔DI vw p=0:=by rw[<-KD,<-KD,kN]
theorem KG(ok:D3 vw):D3 (mended vw):=by
 refine⟨λc h=> ?_,λc h=> ?_,ok.n3,?_,?_,ok.bn,?_,ok.bp⟩
 ·show c.2<((List.range vw.rc.length).map (BP vw)).length/\_
  simp only[List.length_map,List.length_range]
  exact ok.n1 c h
 ·have h:some c∈(List.range vw.rc.length).map (BP vw):=h
  obtain⟨r,_,hr⟩:=List.mem_map.mp h
  obtain⟨d,hd,_,rfl⟩:=KF hr
  exact ok.n2 d (LT hd)
 ·show((List.range vw.rc.length).map (BX vw)).length=((List.range vw.rc.length).map (BP vw)).length
  simp
 ·show((List.range vw.pc.length).map (DO vw)).length=vw.pc.length
  simp
 ·show((List.range vw.rc.length).map (BP vw)).length<=100
  simp only[List.length_map,List.length_range]
  exact ok.br
theorem Clean.mended{lf:List Nat}{zs:List Str}(C:Clean vw lf zs)(ok:D3 vw):Clean (mended vw) [] zs:=by
 have rcs:∀ {r:Nat} {d:Int × List Nat},AF (L2.mended vw).rc r=some d->∃ c,AF vw.rc r=some c/\0<led vw r/\d=((led vw r:Int),c.2):=λh=>KF (by rw[<-FF];exact h)
 refine⟨C.nm,C.ds,λk c h=> ?_,λr d h=> ?_,λr d h=> ?_,λr r' d d' ne h h' p hp hp'=> ?_,λr d h p hp=> ?_,λr hl=> ?_,List.nodup_nil,λp=>⟨λh=>(by cases h),λ⟨h1,h2⟩=> ?_⟩,λr d h=> ?_⟩
 ·have h:AF vw.nm k=some c:=h
  obtain⟨z,hz⟩:=Option.isSome_iff_exists.mp (C.ls k c h)
  rw[FF,IZ hz (Xm h)]
  rfl
 ·obtain⟨c,_,_,rfl⟩:=rcs h
  exact Int.le_refl _
 ·obtain⟨c,hc,_,rfl⟩:=rcs h
  exact C.s1 r c hc
 ·obtain⟨c,hc,_,rfl⟩:=rcs h
  obtain⟨c',hc',_,rfl⟩:=rcs h'
  exact C.s2 r r' c c' ne hc hc' p hp hp'
 ·obtain⟨c,hc,hl,rfl⟩:=rcs h
  have:=C.em r c hc p hp
  refine⟨this.1,?_⟩
  rw[LZ ok]
  unfold DO
  rw[if_neg,this.2]
  intro⟨_,h0⟩
  exact KD.mpr h0 r c hl hc hp
 ·have hl:0<led vw r:=hl
  obtain⟨k,d,hk,hd⟩:=RM hl
  have hrs:=C.ls k d hk
  rw[hd]at hrs
  obtain⟨c,hc⟩:=Option.isSome_iff_exists.mp hrs
  rw[LY ok]
  unfold BX
  rw[hc]
  simp only
  rw[if_neg (by omega)]
  exact C.fr r hl
 ·rw[LZ ok]at h1
  rw[kN,KD]at h2
  unfold DO at h1
  by_cases h3:AF vw.pm p=some 1/\DI vw p=0
  ·rw[if_pos h3]at h1;cases h1
  ·rw[if_neg h3]at h1
   exact absurd ⟨h1,h2⟩ h3
 ·obtain⟨c,hc,_,rfl⟩:=rcs h
  exact C.p3 r c hc
theorem kP{lf:List Nat}{zs:List Str}(C:Clean vw lf zs)(ok:D3 vw):E4 (mended vw)=[]:=by
 have rcs:∀ {r:Nat} {d:Int × List Nat},AF (L2.mended vw).rc r=some d->∃ c,AF vw.rc r=some c/\0<led vw r/\d=((led vw r:Int),c.2):=λh=>KF (by rw[<-FF];exact h)
 unfold E4 IS IT IU
 rw[GL,GL,GL,GL]
 ·rfl
 ·intro r _
  rw[LY ok,FF]
  cases e:AF vw.rc r with
  | none =>
   by_cases h1:AF vw.rm r=some 1
   ·have:BX vw r=some 0:=by unfold BX;rw[e];simp only;rw[if_pos h1]
    rw[this];rfl
   ·have:BX vw r=AF vw.rm r:=by unfold BX;rw[e];simp only;rw[if_neg h1]
    rw[this];simp[h1]
  | some c =>
   by_cases h0:led vw r=0
   ·have:BX vw r=some 0:=by unfold BX;rw[e];simp only;rw[if_pos h0]
    rw[this];rfl
   ·rw[IZ e (by omega)]
    simp
 ·intro p _
  rw[LZ ok]
  by_cases h3:AF vw.pm p=some 1/\DI vw p=0
  ·have:DO vw p=some 0:=if_pos h3
   rw[this];rfl
  ·have:DO vw p=AF vw.pm p:=if_neg h3
   rw[this]
   by_cases h1:AF vw.pm p=some 1
   ·have:¬ DI (mended vw) p=0:=λz=>h3 ⟨h1,kO.mp z⟩
    simp[this]
   ·simp[h1]
 ·intro r _
  rw[FF]
  cases e:BP vw r with
  | none=>rfl
  | some d =>
   obtain⟨c,_,h,_⟩:=KF e
   rw[kM]
   simp
   omega
 ·intro r _
  unfold D7
  cases e:AF (mended vw).rc r with
  | none=>rfl
  | some d =>
   obtain⟨c,_,h,rfl⟩:=rcs e
   simp only[kM]
   simp
theorem Xp{lf:List Nat}{zs:List Str}(C:Clean vw lf zs)(ok:D3 vw):mended (mended vw)=mended vw:=by
 have ok2:=KG ok
 have hl:=kP C ok
 have e1:∀ r,BP (mended vw) r=BP vw r:=λr=>by
  cases e:BP vw r with
  | none =>
   unfold BP
   rw[FF,e]
  | some d =>
   obtain⟨c,hc,h,rfl⟩:=KF e
   rw[IZ (vw:=mended vw) (c:=((led vw r:Int),c.2)) (by rw[FF];exact e) h]
   rfl
 have e2:∀ r,BX (mended vw) r=BX vw r:=λr=>by
  have key:BX (mended vw) r=(match BP vw r with
   | none=>if BX vw r=some 1 then some 0 else BX vw r
   | some _=>if led vw r=0 then some 0 else BX vw r):=by
   unfold BX
   rw[FF,LY ok]
   rfl
  rw[key]
  cases e:BP vw r with
  | none =>
   simp only
   rw[if_neg]
   intro z
   cases er:AF vw.rc r with
   | none =>
    unfold BX at z
    rw[er]at z
    simp only at z
    split at z
    ·cases z
    ·rename_i h;exact h z
   | some c =>
    by_cases h0:led vw r=0
    ·unfold BX at z
     rw[er]at z
     simp only[h0,if_true]at z
     cases z
    ·rw[IZ er (by omega)]at e;cases e
  | some d =>
   obtain⟨c,hc,h,rfl⟩:=KF e
   simp only
   rw[if_neg (by omega)]
 have e3:∀ p,DO (mended vw) p=DO vw p:=λp=>by
  have key:DO (mended vw) p=if DO vw p=some 1/\DI (mended vw) p=0 then some 0 else DO vw p:=by
   show(if AF (mended vw).pm p=some 1/\DI (mended vw) p=0 then some 0 else AF (mended vw).pm p)=_
   rw[LZ ok]
  rw[key,if_neg]
  intro⟨z1,z2⟩
  rw[kO]at z2
  unfold DO at z1
  by_cases h3:AF vw.pm p=some 1/\DI vw p=0
  ·rw[if_pos h3]at z1;cases z1
  ·rw[if_neg h3]at z1
   exact h3 ⟨z1,z2⟩
 have l1:(mended vw).rc.length=vw.rc.length:=by
  show((List.range vw.rc.length).map (BP vw)).length=_
  simp
 show Vw.mk (mended vw).nm ((List.range (mended vw).rc.length).map (BP (mended vw))) (mended vw).pc ((List.range (mended vw).rc.length).map (BX (mended vw))) ((List.range (mended vw).pc.length).map (DO (mended vw)))=_
 rw[l1,show BP (mended vw)=BP vw from funext e1,show BX (mended vw)=BX vw from funext e2,show DO (mended vw)=DO vw from funext e3]
 rfl
end
theorem GN{α β γ :Type}{F: α -> β ->Prop}{G: α -> γ ->Prop}{f: β -> γ}:∀ {l:List α} {m:List β},Paired F l m->(∀ x y,F x y->G x (f y))->Paired G l (m.map f)
 | _,_,.nil,_=>.nil
 | _,_,.cons h t,k=>.cons (k _ _ h) (GN t k)
theorem L4{α β γ :Type}{F: α -> β ->Prop}{G: α -> γ ->Prop}{f: β -> γ}(k:∀ x y,G x (f y)->F x y):∀ {l:List α} {m:List β},Paired G l (m.map f)->Paired F l m
 | _,[],h=>by cases h;exact .nil
 | _,y::m,h=>by
  cases h with
  | cons h t=>exact .cons (k _ _ h) (L4 k t)
theorem O5{α β :Type}{F: α -> β ->Prop}:∀ {bs:List β} {l:List α} {ds:List β},Paired F l (bs++ds)->∃ x y,l=x++y/\Paired F x bs/\Paired F y ds
 | [],l,ds,h=>⟨[],l,rfl,.nil,h⟩
 | b::bs,l,ds,h=>by
  cases h with
  | cons h t =>
   obtain⟨x,y,rfl,p1,p2⟩:=O5 t
   exact⟨_::x,y,rfl,.cons h p1,p2⟩
theorem PlV.asC{rows:List (List V)}{n r c w:Nat}{vw:Vw}(h:PlV H rows n r c w vw):Paired (CelV H) rows.flatten (B9 vw):=by
 obtain⟨v1,v2,v3,v4,v5,ef,P1,P2,P3,P4,P5⟩:=h.vs
 rw[ef]
 exact GJ (GJ (GJ (GJ (GN P1 λ_ _ h=>h) (GN P2 λ_ _ h=>h)) (GN P3 λ_ _ h=>h)) (GN P4 λ_ _ h=>h)) (GN P5 λ_ _ h=>h)
theorem PlV.of{rows:List (List V)}{n r c w:Nat}{vw:Vw}(P:Paired (CelV H) rows.flatten (B9 vw))(z1:vw.nm.length=n * w)(z2:vw.rc.length=r * w)(z3:vw.pc.length=c * w)(ok:D3 vw):PlV H rows n r c w vw:=by
 obtain⟨x4,v5,e5,P,P5⟩:=O5 P
 obtain⟨x3,v4,e4,P,P4⟩:=O5 P
 obtain⟨x2,v3,e3,P,P3⟩:=O5 P
 obtain⟨v1,v2,e2,P1,P2⟩:=O5 P
 exact⟨⟨v1,v2,v3,v4,v5,by rw[e5,e4,e3,e2],L4 (G:=CelV H) (f:=Cel.nm) (λ_ _ h=>h) P1,L4 (G:=CelV H) (f:=Cel.rc) (λ_ _ h=>h) P2,L4 (G:=CelV H) (f:=Cel.pc) (λ_ _ h=>h) P3,L4 (G:=CelV H) (f:=Cel.mk) (λ_ _ h=>h) P4,L4 (G:=CelV H) (f:=Cel.mk) (λ_ _ h=>h) P5⟩,z1,z2,z3,ok⟩
theorem CelV.keep{H':Hp}(tk:CD H H'){v:V}:∀ {c:Cel},CelV H v c->CelV H' v c
 | .nm _,h=>NmV.keep tk h
 | .rc _,h=>RcV.keep tk h
 | .pc _,h=>PcV.keep tk h
 | .mk _,h=>MkV.keep tk h
theorem KH{α :Type}{l:List (Option α)}{k:Nat}(h:k<l.length):l[k]? =some (AF l k):=by
 unfold AF
 rw[List.getElem?_eq_getElem h]
 rfl
def G7(vw:Vw)(N R P f:Nat):Cel:=if f<N then .nm (AF vw.nm f)else if f<N+R then .rc (AF vw.rc (f - N))else if f<N+R+P then .pc (AF vw.pc (f - N - R))else if f<N+R+P+R then .mk (AF vw.rm (f - N - R - P))else .mk (AF vw.pm (f - N - R - P - R))
theorem kQ(vw:Vw)(ok:D3 vw):(B9 vw).length=vw.nm.length+vw.rc.length+vw.pc.length+vw.rc.length+vw.pc.length:=by
 unfold B9
 simp only[List.length_append,List.length_map,ok.l1,ok.l2]
theorem RO{vw:Vw}(ok:D3 vw){N R P f:Nat}(h1:vw.nm.length=N)(h2:vw.rc.length=R)(h3:vw.pc.length=P)(hf:f<N+R+P+R+P):(B9 vw)[f]? =some (G7 vw N R P f):=by
 have l1:=ok.l1
 have l2:=ok.l2
 unfold B9 G7
 by_cases a1:f<N
 ·rw[if_pos a1,List.getElem?_append_left (by simp;omega),List.getElem?_append_left (by simp;omega),List.getElem?_append_left (by simp;omega),List.getElem?_append_left (by simp;omega),List.getElem?_map,KH (by omega)]
  rfl
 rw[if_neg a1]
 by_cases a2:f<N+R
 ·rw[if_pos a2,List.getElem?_append_left (by simp;omega),List.getElem?_append_left (by simp;omega),List.getElem?_append_left (by simp;omega),List.getElem?_append_right (by simp;omega),List.getElem?_map,List.length_map,h1,KH (by omega)]
  rfl
 rw[if_neg a2]
 by_cases a3:f<N+R+P
 ·rw[if_pos a3,List.getElem?_append_left (by simp;omega),List.getElem?_append_left (by simp;omega),List.getElem?_append_right (by simp;omega),List.getElem?_map,List.length_append,List.length_map,List.length_map,h1,h2,Nat.sub_add_eq,KH (by omega)]
  rfl
 rw[if_neg a3]
 by_cases a4:f<N+R+P+R
 ·rw[if_pos a4,List.getElem?_append_left (by simp;omega),List.getElem?_append_right (by simp;omega),List.getElem?_map]
  simp only[List.length_append,List.length_map,h1,h2,h3,Nat.sub_add_eq]
  rw[KH (by omega)]
  rfl
 rw[if_neg a4,List.getElem?_append_right (by simp;omega),List.getElem?_map]
 simp only[List.length_append,List.length_map,h1,h2,h3,l1,Nat.sub_add_eq]
 rw[KH (by omega)]
 rfl
theorem Xq{n:Nat}{p:Nat->Bool}{f:Nat->List V}(h:CC n p f=[]){k:Nat}(hk:k<n):p k=false:=by
 unfold CC at h
 have:=List.filter_eq_nil_iff.mp (List.map_eq_nil_iff.mp h) k (List.mem_range.mpr hk)
 simpa using this
theorem Xv{vw:Vw}(h:faults vw=[]){r:Nat}(hr:r<vw.rc.length):G2 vw r=false:=by
 unfold faults LG at h
 have h1:=(List.append_eq_nil_iff.mp (List.append_eq_nil_iff.mp h).1).2
 exact Xq (List.append_eq_nil_iff.mp h1).2 hr
theorem kR{vw:Vw}{lv:Lv}(h:lv∈EH vw):(∃ r,lv=.many r/\r<vw.rc.length/\D7 vw r=true)\/(∃ r,lv=.leftR r/\r<vw.rc.length/\(AF vw.rc r).isSome=true/\led vw r=0)\/(∃ p,lv=.leftP p/\p<vw.pc.length/\AF vw.pm p=some 1/\DI vw p=0)\/∃ r,lv=.marked r/\r<vw.rc.length/\AF vw.rm r=some 1/\AF vw.rc r=none:=by
 unfold EH at h
 simp only[List.mem_append,List.mem_map,List.mem_filter,List.mem_range,Bool.and_eq_true,decide_eq_true_eq]at h
 rcases h with((⟨r,h,rfl⟩ | ⟨r,h,rfl⟩) | ⟨p,h,rfl⟩) | ⟨r,h,rfl⟩
 ·exact .inl ⟨r,rfl,h.1,h.2⟩
 ·exact .inr (.inl ⟨r,rfl,h.1,h.2.1,h.2.2⟩)
 ·exact .inr (.inr (.inl ⟨p,rfl,h.1,h.2.1,h.2.2⟩))
 ·exact .inr (.inr (.inr ⟨r,rfl,h.1,h.2.1,Option.isNone_iff_eq_none.mp h.2.2⟩))
section
variable{vw:Vw}{n r c w:Nat}
theorem Xw(ok:D3 vw)(z1:vw.nm.length=n * w)(z2:vw.rc.length=r * w)(z3:vw.pc.length=c * w){lv:Lv}(h:lv∈EH vw){fx:Nat × Cel}(hx:fx∈EI vw n r c w lv):(B9 (mended vw))[fx.1]? =some fx.2:=by
 have ok2:=KG ok
 have g1:(mended vw).nm.length=n * w:=z1
 have g2:(mended vw).rc.length=r * w:=by
  show((List.range vw.rc.length).map (BP vw)).length=_
  simp[z2]
 have g3:(mended vw).pc.length=c * w:=z3
 have get:∀ f,f<n * w+r * w+c * w+r * w+c * w->(B9 (mended vw))[f]? =some (G7 (mended vw) (n * w) (r * w) (c * w) f):=λf hf=>RO ok2 g1 g2 g3 hf
 rcases kR h with⟨k,rfl,hk,hm⟩ | ⟨k,rfl,hk,hs,hl⟩ | ⟨k,rfl,hk,h1,h2⟩ | ⟨k,rfl,hk,h1,h2⟩
 ·simp only[EI,List.mem_singleton]at hx
  subst hx
  rw[get _ (by simp only;omega)]
  unfold G7
  rw[if_neg (by simp only;omega),if_pos (by simp only;omega),FF,show n * w+k - n * w=k by omega]
 ·obtain⟨d,hd⟩:=Option.isSome_iff_exists.mp hs
  simp only[EI,List.mem_cons,List.not_mem_nil,or_false]at hx
  rcases hx with rfl | rfl
  ·rw[get _ (by simp only;omega)]
   unfold G7
   rw[if_neg (by simp only;omega),if_pos (by simp only;omega),FF,show n * w+k - n * w=k by omega]
   unfold BP
   rw[hd]
   simp[hl]
  ·have e:(n+r+c) * w=n * w+r * w+c * w:=by simp only[Nat.add_mul]
   rw[get _ (by simp only;omega)]
   unfold G7
   rw[if_neg (by simp only;omega),if_neg (by simp only;omega),if_neg (by simp only;omega),if_pos (by simp only;omega),LY ok]
   simp only[e,show n * w+r * w+c * w+k - n * w - r * w - c * w=k by omega]
   unfold BX
   rw[hd]
   simp[hl]
 ·have e:(n+r+c+r) * w=n * w+r * w+c * w+r * w:=by simp only[Nat.add_mul]
  simp only[EI,List.mem_singleton]at hx
  subst hx
  rw[get _ (by simp only;omega)]
  unfold G7
  rw[if_neg (by simp only;omega),if_neg (by simp only;omega),if_neg (by simp only;omega),if_neg (by simp only;omega),LZ ok]
  simp only[e,show n * w+r * w+c * w+r * w+k - n * w - r * w - c * w - r * w=k by omega]
  unfold DO
  rw[if_pos ⟨h1,h2⟩]
 ·have e:(n+r+c) * w=n * w+r * w+c * w:=by simp only[Nat.add_mul]
  simp only[EI,List.mem_singleton]at hx
  subst hx
  rw[get _ (by simp only;omega)]
  unfold G7
  rw[if_neg (by simp only;omega),if_neg (by simp only;omega),if_neg (by simp only;omega),if_pos (by simp only;omega),LY ok]
  simp only[e,show n * w+r * w+c * w+k - n * w - r * w - c * w=k by omega]
  unfold BX
  rw[h2]
  simp[h1]
theorem Xx(ok:D3 vw)(z1:vw.nm.length=n * w)(z2:vw.rc.length=r * w)(z3:vw.pc.length=c * w)(hf0:faults vw=[]){f:Nat}(hf:f<n * w+r * w+c * w+r * w+c * w)(hno:∀ lv∈EH vw,∀ fx∈EI vw n r c w lv,fx.1≠f):(B9 (mended vw))[f]? =(B9 vw)[f]? :=by
 have ok2:=KG ok
 have g1:(mended vw).nm.length=n * w:=z1
 have g2:(mended vw).rc.length=r * w:=by
  show((List.range vw.rc.length).map (BP vw)).length=_
  simp[z2]
 have g3:(mended vw).pc.length=c * w:=z3
 have e1:(n+r+c) * w=n * w+r * w+c * w:=by simp only[Nat.add_mul]
 have e2:(n+r+c+r) * w=n * w+r * w+c * w+r * w:=by simp only[Nat.add_mul]
 rw[RO ok2 g1 g2 g3 hf,RO ok z1 z2 z3 hf]
 have inL:∀ {lv:Lv},(lv∈EH vw)->∀ fx∈EI vw n r c w lv,fx.1≠f:=λh=>hno _ h
 unfold G7
 by_cases a1:f<n * w
 ·rw[if_pos a1,if_pos a1]
  rfl
 rw[if_neg a1,if_neg a1]
 by_cases a2:f<n * w+r * w
 ·rw[if_pos a2,if_pos a2,FF]
  generalize hk:f - n * w=k
  have hk':k<vw.rc.length:=by omega
  congr 2
  cases e:AF vw.rc k with
  | none=>unfold BP;rw[e]
  | some d =>
   have h0:0<led vw k:=by
    rcases Nat.eq_zero_or_pos (led vw k)with z | z
    ·refine absurd (by omega) (inL (lv:=.leftR k) ?_ (n * w+k,.rc none) (by simp[EI]))
     unfold EH
     simp only[List.mem_append,List.mem_map,List.mem_filter,List.mem_range,Bool.and_eq_true,decide_eq_true_eq]
     exact .inl (.inl (.inr ⟨k,⟨hk',by rw[e];rfl,z⟩,rfl⟩))
    ·exact z
   have h1:¬ ((led vw k:Int)<d.1):=λz=>by
    refine absurd (by omega) (inL (lv:=.many k) ?_ (n * w+k,.rc (BP vw k)) (by simp[EI]))
    unfold EH
    simp only[List.mem_append,List.mem_map,List.mem_filter,List.mem_range,Bool.and_eq_true,decide_eq_true_eq]
    refine .inl (.inl (.inl ⟨k,⟨hk',?_⟩,rfl⟩))
    unfold D7
    rw[e]
    simp[h0,z]
   have h2:=Xv hf0 hk'
   unfold G2 at h2
   rw[e]at h2
   simp only[decide_eq_false_iff_not]at h2
   rw[IZ e h0]
   have:d.1=(led vw k:Int):=by omega
   rw[<-this]
 rw[if_neg a2,if_neg a2]
 by_cases a3:f<n * w+r * w+c * w
 ·rw[if_pos a3,if_pos a3]
  rfl
 rw[if_neg a3,if_neg a3]
 by_cases a4:f<n * w+r * w+c * w+r * w
 ·rw[if_pos a4,if_pos a4,LY ok]
  generalize hk:f - n * w - r * w - c * w=k
  have hk':k<vw.rc.length:=by omega
  congr 2
  cases e:AF vw.rc k with
  | none =>
   unfold BX
   rw[e]
   simp only
   rw[if_neg]
   intro z
   refine absurd (by simp only;omega) (inL (lv:=.marked k) ?_ ((n+r+c) * w+k,.mk (some 0)) (by simp[EI]))
   unfold EH
   simp only[List.mem_append,List.mem_map,List.mem_filter,List.mem_range,Bool.and_eq_true,decide_eq_true_eq]
   exact .inr ⟨k,⟨hk',z,by rw[e];rfl⟩,rfl⟩
  | some d =>
   unfold BX
   rw[e]
   simp only
   rw[if_neg]
   intro z
   refine absurd (by simp only;omega) (inL (lv:=.leftR k) ?_ ((n+r+c) * w+k,.mk (some 0)) (by simp[EI]))
   unfold EH
   simp only[List.mem_append,List.mem_map,List.mem_filter,List.mem_range,Bool.and_eq_true,decide_eq_true_eq]
   exact .inl (.inl (.inr ⟨k,⟨hk',by rw[e];rfl,z⟩,rfl⟩))
 rw[if_neg a4,if_neg a4,LZ ok]
 generalize hk:f - n * w - r * w - c * w - r * w=k
 have hk':k<vw.pc.length:=by omega
 congr 2
 unfold DO
 rw[if_neg]
 intro⟨z1',z2'⟩
 refine absurd (by simp only;omega) (inL (lv:=.leftP k) ?_ ((n+r+c+r) * w+k,.mk (some 0)) (by simp[EI]))
 unfold EH
 simp only[List.mem_append,List.mem_map,List.mem_filter,List.mem_range,Bool.and_eq_true,decide_eq_true_eq]
 exact .inl (.inr ⟨k,⟨hk',z1',z2'⟩,rfl⟩)
end
def DK:Cel->PyData
 | .nm none=>.none
 | .nm (some c)=>.tuple [.str c.1,.int c.2]
 | .rc none=>.none
 | .rc (some c)=>.tuple [.int c.1,.tuple (c.2.map λ(k:Nat)=>PyData.int k)]
 | .pc none=>.none
 | .pc (some s)=>.str s
 | .mk none=>.none
 | .mk (some i)=>.int i
theorem Xy(l:List Nat):∀ {n:Nat},Paired (Dat K H n) (AW l) (l.map λ(k:Nat)=>PyData.int k):=by
 intro n
 unfold AW
 induction l with
 | nil=>exact .nil
 | cons x r ih=>exact .cons (.int _) ih
theorem CelV.dat{v:V}:∀ {c:Cel},CelV H v c->c.ok->Dat K H 2 v (DK c)
 | .nm none,h,_=>by cases (show v=.non from h);exact Dat.non
 | .nm (some c),h,o=>by
  obtain⟨p,rfl,e⟩:=(show ∃ p,v=.ref p/\H p=some (.tup [.str c.1,.int c.2])from h)
  exact Dat.tup (n:=1) (SqT.of e) (.cons (⟨.str c.1,o,Nat.zero_le _⟩:Dat K H 1 (.str c.1) (.str c.1)) (.cons (Dat.int _) .nil))
 | .rc none,h,_=>by cases (show v=.non from h);exact Dat.non
 | .rc (some c),h,_=>by
  obtain⟨p,q,rfl,e,e2⟩:=(show ∃ p q,v=.ref p/\H p=some (.tup [.int c.1,.ref q])/\H q=some (.tup (AW c.2))from h)
  exact Dat.tup (n:=1) (SqT.of e) (.cons (Dat.int _) (.cons (Dat.tup (n:=0) (SqT.of e2) (Xy c.2)) .nil))
 | .pc none,h,_=>by cases (show v=.non from h);exact Dat.non
 | .pc (some s),h,o=>by
  cases (show v=.str s from h)
  exact⟨.str s,o,Nat.zero_le _⟩
 | .mk none,h,_=>by cases (show v=.non from h);exact Dat.non
 | .mk (some i),h,_=>by cases (show v=.int i from h);exact Dat.int i
theorem kS:∀ (l m:List Nat),PyData.eqvAll (l.map λ(k:Nat)=>PyData.int k) (m.map λ(k:Nat)=>PyData.int k)=decide (l=m)
 | [],[]=>rfl
 | [],_::_=>rfl
 | _::_,[]=>rfl
 | x::l,y::m=>by
  show(((x:Int) ==(y:Int)) && PyData.eqvAll (l.map λ(k:Nat)=>PyData.int k) (m.map λ(k:Nat)=>PyData.int k))=_
  rw[kS l m,Bool.eq_iff_iff]
  simp
  intro _
  omega
theorem Xz:∀ {c c':Cel},c.kind=c'.kind->PyData.eqv (DK c) (DK c')=decide (c=c')
 | .nm c,.nm c',_=>by
  cases c with
  | none=>cases c'<;>simp[DK,PyData.eqv]
  | some c =>
   cases c' with
   | none=>simp[DK,PyData.eqv]
   | some d =>
    obtain⟨s,k⟩:=c
    obtain⟨s',k'⟩:=d
    rw[Bool.eq_iff_iff]
    simp[DK,PyData.eqv,PyData.eqvAll]
    intro _
    omega
 | .rc c,.rc c',_=>by
  cases c with
  | none=>cases c'<;>simp[DK,PyData.eqv]
  | some c =>
   cases c' with
   | none=>simp[DK,PyData.eqv]
   | some d =>
    obtain⟨s,k⟩:=c
    obtain⟨s',k'⟩:=d
    rw[Bool.eq_iff_iff]
    simp[DK,PyData.eqv,PyData.eqvAll,kS]
 | .pc c,.pc c',_=>by
  cases c with
  | none=>cases c'<;>simp[DK,PyData.eqv]
  | some c =>
   cases c' with
   | none=>simp[DK,PyData.eqv]
   | some d =>
    rw[Bool.eq_iff_iff]
    simp[DK,PyData.eqv]
 | .mk c,.mk c',_=>by
  cases c with
  | none=>cases c'<;>simp[DK,PyData.eqv]
  | some c =>
   cases c' with
   | none=>simp[DK,PyData.eqv]
   | some d =>
    rw[Bool.eq_iff_iff]
    simp[DK,PyData.eqv]
 | .nm _,.rc _,h=>by cases h
 | .nm _,.pc _,h=>by cases h
 | .nm _,.mk _,h=>by cases h
 | .rc _,.nm _,h=>by cases h
 | .rc _,.pc _,h=>by cases h
 | .rc _,.mk _,h=>by cases h
 | .pc _,.nm _,h=>by cases h
 | .pc _,.rc _,h=>by cases h
 | .pc _,.mk _,h=>by cases h
 | .mk _,.nm _,h=>by cases h
 | .mk _,.rc _,h=>by cases h
 | .mk _,.pc _,h=>by cases h
theorem kT:∀ {cs cs':List Cel},cs.map Cel.kind=cs'.map Cel.kind->PyData.eqvAll (cs.map DK) (cs'.map DK)=decide (cs=cs')
 | [],[],_=>rfl
 | [],_::_,h=>by cases h
 | _::_,[],h=>by cases h
 | x::l,y::m,h=>by
  rw[List.map_cons,List.map_cons]at h
  injection h with h1 h2
  show(PyData.eqv (DK x) (DK y) && PyData.eqvAll (l.map DK) (m.map DK))=_
  rw[Xz h1,kT h2,Bool.eq_iff_iff]
  simp
theorem kU{xs:List V}{cs:List Cel}(h:Paired (CelV H) xs cs)(ok:∀ c∈cs,c.ok):Paired (Dat K H 2) xs (cs.map DK):=by
 induction h with
 | nil=>exact .nil
 | cons h t ih=>exact .cons (h.dat (ok _ List.mem_cons_self)) (ih λc hc=>ok c (List.mem_cons_of_mem _ hc))
theorem WG{p q:Addr}{xs ys:List V}{cs cs':List Cel}(h1:H p=some (.lst xs))(h2:H q=some (.lst ys))(P1:Paired (CelV H) xs cs)(P2:Paired (CelV H) ys cs')(o1:∀ c∈cs,c.ok)(o2:∀ c∈cs',c.ok)(hk:cs.map Cel.kind=cs'.map Cel.kind)(hq:Q (.bl (!decide (cs=cs'))) H):B1 K (.ref p) (.ref q) H Q:=by
 unfold B1
 rw[if_neg (by simp[D4])]
 have e1:Dat K H 3 (.ref p) _:=Dat.lst (SqL.of h1) (kU P1 o1)
 have e2:Dat K H 3 (.ref q) _:=Dat.lst (SqL.of h2) (kU P2 o2)
 refine⟨_,_,e1.1,e2.1,e1.shp (by omega),e2.shp (by omega),?_⟩
 show Q (.bl (!PyData.eqvAll (cs.map DK) (cs'.map DK))) H
 rw[kT hk]
 exact hq
theorem kW{w f g:Nat}(h:pk w f=pk w g):f=g:=by
 unfold pk at h
 injection h with h1 h
 injection h with h2 _
 injection h1 with h1
 injection h2 with h2
 have a1:=Nat.div_add_mod f w
 have a2:=Nat.div_add_mod g w
 rw[show f / w=g / w by omega,show f % w=g % w by omega]at a1
 omega
def WH(b j:Nat):Int:=reduceHash (Builtin.Tuple.tupleHashOf [hashInt b,hashInt j])
theorem Yb:∀ j,j<6->∀ b,b<31->∀ c,c<31->WH b j=WH c j->b=c:=by decide +kernel
theorem Yc{k:List AZ}{v:V}:N0 [(k,v)]:=λP w=>by simp
theorem Yd{w f g:Nat}{v u:V}(w6:w<=6)(w1:1<=w)(hf:f / w<31)(hg:g / w<31)(he:f % w=g % w)(ne:f / w≠g / w):N0 [(pk w f,v),(pk w g,u)]:=λP W=>by
 have e:∀ h:Nat,(tupleKind (DP P W)).hash (pk w h)=WH (h / w) (h % w):=λh=>rfl
 simp only[List.map_cons,List.map_nil,List.nodup_cons,List.mem_singleton,List.not_mem_nil,not_false_eq_true,List.nodup_nil,and_true]
 rw[e,e,he]
 intro z
 exact ne (Yb (g % w) (Nat.lt_of_lt_of_le (Nat.mod_lt _ w1) w6) _ hf _ hg z)
theorem O6{w b k:Nat}{x:Int}(hw:1<=w)(hx:x=b):([.int (x+(k:Int) / (w:Int)),.int ((k:Int) % (w:Int))]:List V)=(pk w (b * w+k)).map kV:=by
 unfold pk
 have h1:(b * w+k) / w=b+k / w:=by rw[Nat.mul_comm,Nat.mul_add_div (by omega)]
 have h2:(b * w+k) % w=k % w:=by rw[Nat.mul_comm,Nat.mul_add_mod]
 rw[h1,h2,hx]
 simp only[List.map_cons,List.map_nil,kV]
 rw[Int.natCast_add,Int.natCast_ediv,Int.natCast_emod]
theorem Yg{gp cl:Addr}{w m f:Nat}{rows:List (List V)}{cs:List Cel}{x:Cel}(P:PlankAt a H gp cl w rows m)(hw:1<=w)(hc:Paired (CelV H) rows.flatten cs)(hx:cs[f]? =some x)(hb:f / w<rows.length):∃ row v,rows[f / w]? =some row/\row[f % w]? =some v/\CelV H v x:=by
 obtain⟨v,hv,hr⟩:=LA hc hx
 have e:=WB (b:=f / w) (j:=f % w) P.wd hb (Nat.mod_lt _ hw)
 rw[Nat.mul_comm,Nat.div_add_mod,hv]at e
 cases er:rows[f / w]? with
 | none=>rw[er]at e;cases e
 | some row =>
  rw[er]at e
  exact⟨row,v,rfl,e.symm,hr⟩
theorem Yh(h:OW K a vs H Q E):LM K a (λ_=>E) (A5 Q) (A1 ["layout","plank","find","place"] vs) H:=by
 obtain⟨ly,gp,cl,fd,n,r,c,w,rows,m,vw,lv,rfl,S,hlv,hfd,q⟩:=h
 obtain⟨dl,hly⟩:=S.la.ob
 have w1:=S.w1
 have z1:=S.pv.ln
 have z2:=S.pv.lr
 have z3:=S.pv.lp
 have n6:=S.n6
 have r6:=S.r6
 have c6:=S.c6
 have q1:∀ {p t:Addr} {f:Nat} {x:Cel} {v:V} {H2:Hp},H p=none->Same H H2->H2 p=some (.dT [])->H2 t=some (.tup ((pk w f).map kV))->CelV H2 v x->EI vw n r c w lv=[(f,x)]->H2 p=some (.dT [])/\∃ kvs:List (List AZ × V),Q3 H2 [(.ref t,v)] kvs/\kvs.length<=15/\Q (.ref p) (upd H2 p (.dT (DU [] kvs))):=λ{p t f x v H2} hp s e et hv ef=>by
  refine⟨e,[(pk w f,v)],.cons ⟨⟨t,rfl,et⟩,rfl⟩ .nil,by simp,?_⟩
  have tk:CD H2 (upd H2 p (.dT (DU [] [(pk w f,v)]))):=λy ys ey=>by rw[AT (C5 ey e (λz=>nomatch z))];exact ey
  refine q p [(pk w f,v)] _ hp (λy o ey=>by rw[AT (BE ey hp)];exact s _ _ ey) AS ?_ Yc
  rw[ef]
  exact .cons ⟨rfl,CelV.keep tk hv⟩ .nil
 rcases kR hlv with⟨k,rfl,hk,hm⟩ | ⟨k,rfl,hk,hsm,hl⟩ | ⟨k,rfl,hk,h1,h2⟩ | ⟨k,rfl,hk,h1,h2⟩
 ·have hfd:H fd=some (.tup [.str (Str.ofString "many"),.int k,.int (led vw k)]):=hfd
  obtain⟨d,hd⟩:∃ d,AF vw.rc k=some d:=by
   unfold D7 at hm
   cases e:AF vw.rc k with
   | none=>rw[e]at hm;cases hm
   | some d=>exact⟨d,rfl⟩
  have hl:0<led vw k:=by
   unfold D7 at hm
   rw[hd]at hm
   simp at hm
   exact hm.1
  push_cast[LM,↓RD]
  refine BZ hfd (n:=0) rfl rfl ?_
  push_cast[]
  push_cast[↓Ek]
  refine⟨_,_,hly,D0 (by decide +kernel),BZ hfd (n:=1) rfl rfl ⟨ly,n,r,c,w,k,rfl,S.tl,S.la,λt ht=> ?_⟩⟩
  have s1:=A0 (o:=.tup [.int ((n:Int)+(k:Int) / (w:Int)),.int ((k:Int) % (w:Int))]) ht
  have e1:upd H t (.tup [.int ((n:Int)+(k:Int) / (w:Int)),.int ((k:Int) % (w:Int))]) t=some (.tup [.int ((n:Int)+(k:Int) / (w:Int)),.int ((k:Int) % (w:Int))]):=AS
  revert s1 e1
  generalize upd H t (.tup [.int ((n:Int)+(k:Int) / (w:Int)),.int ((k:Int) % (w:Int))])=H1
  intro s1 e1
  push_cast[↓El]
  intro p hp
  have s2:=A0 (o:=.dT []) hp
  have e2:upd H1 p (.dT []) p=some (.dT []):=AS
  revert s2 e2
  generalize upd H1 p (.dT [])=H2
  intro s2 e2
  have s02:=s1.trans s2
  have P2:=S.pl.same s02
  obtain⟨dp,hob⟩:=P2.ob
  have f1:(n * w+k) / w=n+k / w:=by rw[Nat.mul_comm,Nat.mul_add_div (by omega)]
  have f2:(n * w+k) % w=k % w:=by rw[Nat.mul_comm,Nat.mul_add_mod]
  have hkw:k / w<r:=by
   rw[Nat.div_lt_iff_lt_mul (by omega)]
   omega
  obtain⟨row,v,er,ev,hv⟩:=Yg (f:=n * w+k) (x:=.rc (AF vw.rc k)) P2 w1 (S.pv.same s02.tk).asC (by
   rw[RO S.pv.ok z1 z2 z3 (by omega)]
   unfold G7
   rw[if_neg (by omega),if_pos (by omega),show n * w+k - n * w=k by omega]) (by rw[S.rl];omega)
  rw[f1]at er
  rw[f2]at ev
  have hv:RcV H2 v (AF vw.rc k):=hv
  rw[hd]at hv
  obtain⟨pv,tv,rfl,hpv,htv⟩:=hv
  refine BZ ((s1.trans s2) _ _ hfd) (n:=2) rfl rfl ⟨_,_,hob,RE _ _ _,BZ (s2 _ _ e1) (n:=0) rfl rfl ⟨gp,cl,w,rows,m,_,rfl,S.tp,P2,λi row' eb er' l hnl=> ?_,λz=> ?_⟩⟩
  ·have ei:i=n+k / w:=by
    have:((n+k / w:Nat):Int)=(n:Int)+(k:Int) / (w:Int):=by rw[Int.natCast_add,Int.natCast_ediv]
    omega
   subst ei
   rw[er]at er'
   cases er'
   have s3:=A0 (o:=.lst row) hnl
   have e3:upd H2 l (.lst row) l=some (.lst row):=AS
   revert s3 e3
   generalize upd H2 l (.lst row)=H3
   intro s3 e3
   refine BZ (s3 _ _ (s2 _ _ e1)) (n:=1) rfl rfl (BU (SqL.of e3) (n:=k % w) (by rw[Int.natCast_emod]) ev (BZ (s3 _ _ hpv) (n:=1) rfl rfl ⟨by decide,λp1 hp1=> ?_⟩))
   have s4:=A0 (o:=.tup [V.int ↑(led vw k),V.ref tv]) hp1
   have s24:=s3.trans s4
   refine q1 (f:=n * w+k) (x:=.rc (BP vw k)) (s1.free hp) (s02.trans s24) (s24 _ _ e2) ?_ ?_ rfl
   ·rw[<-O6 (x:=(n:Int)) w1 rfl]
    exact s24 _ _ (s2 _ _ e1)
   ·show RcV _ _ (BP vw k)
    rw[IZ hd hl]
    exact⟨p1,tv,rfl,AS,s24 _ _ htv⟩
  ·exfalso
   have:((n+k / w:Nat):Int)=(n:Int)+(k:Int) / (w:Int):=by rw[Int.natCast_add,Int.natCast_ediv]
   have rl:=S.rl
   rw[<-this]at z
   rcases z with z | z
   ·exact absurd z (Int.not_lt.mpr (Int.natCast_nonneg _))
   ·have z:rows.length<=n+k / w:=Int.ofNat_le.mp z
    omega
 ·have hfd:H fd=some (.tup [.str (Str.ofString "left"),.str (Str.ofString "record"),.int k]):=hfd
  push_cast[LM,↓RD]
  refine BZ hfd (n:=0) rfl rfl ?_
  push_cast[]
  refine BN (by decide +kernel) ?_
  push_cast[↓VC]
  refine BZ hfd (n:=0) rfl rfl ?_
  push_cast[]
  refine BN (by decide +kernel) ?_
  push_cast[↓fN]
  refine BZ hfd (n:=1) rfl rfl ?_
  push_cast[]
  push_cast[↓Ep]
  intro p hp
  have s2:=A0 (o:=.dT []) hp
  have e2:upd H p (.dT []) p=some (.dT []):=AS
  revert s2 e2
  generalize upd H p (.dT [])=H2
  intro s2 e2
  refine⟨_,_,s2 _ _ hly,D0 (by decide +kernel),BZ (s2 _ _ hfd) (n:=2) rfl rfl ⟨ly,n,r,c,w,k,rfl,S.tl,S.la.same s2,λt ht=> ?_⟩⟩
  have s3:=A0 (o:=.tup [.int ((n:Int)+(k:Int) / (w:Int)),.int ((k:Int) % (w:Int))]) ht
  have e3:upd H2 t (.tup [.int ((n:Int)+(k:Int) / (w:Int)),.int ((k:Int) % (w:Int))]) t=some (.tup ((pk w (n * w+k)).map kV)):=by rw[AS,O6 (x:=(n:Int)) w1 rfl]
  revert s3 e3
  generalize upd H2 t (.tup [.int ((n:Int)+(k:Int) / (w:Int)),.int ((k:Int) % (w:Int))])=H3
  intro s3 e3
  have s03:=s2.trans s3
  refine⟨_,_,s03 _ _ hly,D0 (by decide +kernel),BZ (s03 _ _ hfd) (n:=2) rfl rfl ⟨ly,n,r,c,w,k,rfl,S.tl,S.la.same s03,λt2 ht2=> ?_⟩⟩
  have s4:=A0 (o:=.tup [.int ((n:Int)+r+c+(k:Int) / (w:Int)),.int ((k:Int) % (w:Int))]) ht2
  have e4:upd H3 t2 (.tup [.int ((n:Int)+r+c+(k:Int) / (w:Int)),.int ((k:Int) % (w:Int))]) t2=some (.tup ((pk w ((n+r+c) * w+k)).map kV)):=by rw[AS,O6 (x:=(n:Int)+r+c) (b:=n+r+c) w1 (by omega)]
  revert s4 e4
  generalize upd H3 t2 (.tup [.int ((n:Int)+r+c+(k:Int) / (w:Int)),.int ((k:Int) % (w:Int))])=H4
  intro s4 e4
  have s24:=s3.trans s4
  have e2':=s24 _ _ e2
  have f1:(n * w+k) / w=n+k / w:=by rw[Nat.mul_comm,Nat.mul_add_div (by omega)]
  have f2:(n * w+k) % w=k % w:=by rw[Nat.mul_comm,Nat.mul_add_mod]
  have g1:((n+r+c) * w+k) / w=n+r+c+k / w:=by rw[Nat.mul_comm,Nat.mul_add_div (by omega)]
  have g2:((n+r+c) * w+k) % w=k % w:=by rw[Nat.mul_comm,Nat.mul_add_mod]
  have hkw:k / w<r:=by
   rw[Nat.div_lt_iff_lt_mul (by omega)]
   omega
  generalize hkd:k / w=kd at f1 g1 hkw
  have ap:∀ {v u:V},N0 [(pk w (n * w+k),v),(pk w ((n+r+c) * w+k),u)]:=Yd S.w6 w1 (by rw[f1];omega) (by rw[g1];omega) (by rw[f2,g2]) (by rw[f1,g1];omega)
  have mg:DU [] [(pk w (n * w+k),V.non),(pk w ((n+r+c) * w+k),.int 0)]=[(pk w (n * w+k),V.non),(pk w ((n+r+c) * w+k),.int 0)]:=TM _ [] (by
   simp only[List.nil_append,List.map_cons,List.map_nil,List.nodup_cons,List.mem_singleton,List.not_mem_nil,not_false_eq_true,List.nodup_nil,and_true]
   intro z
   have:=kW z
   have e9:(n * w+k) / w=((n+r+c) * w+k) / w:=by rw[this]
   rw[f1,g1]at e9
   omega)
  refine⟨e2',[(pk w (n * w+k),V.non),(pk w ((n+r+c) * w+k),.int 0)],.cons ⟨⟨t,rfl,s4 _ _ e3⟩,rfl⟩ (.cons ⟨⟨t2,rfl,e4⟩,rfl⟩ .nil),by simp,?_⟩
  rw[mg]
  refine q p _ _ hp (λy o ey=>by rw[AT (BE ey hp)];exact(s2.trans s24) _ _ ey) AS (.cons ⟨rfl,rfl⟩ (.cons ⟨rfl,rfl⟩ .nil)) ap
 ·have hfd:H fd=some (.tup [.str (Str.ofString "left"),.str (Str.ofString "piece"),.int k]):=hfd
  push_cast[LM,↓RD]
  refine BZ hfd (n:=0) rfl rfl ?_
  push_cast[]
  refine BN (by decide +kernel) ?_
  push_cast[↓VC]
  refine BZ hfd (n:=0) rfl rfl ?_
  push_cast[]
  refine BN (by decide +kernel) ?_
  push_cast[↓fN]
  refine BZ hfd (n:=1) rfl rfl ?_
  push_cast[]
  refine BN (by decide +kernel) ?_
  push_cast[↓Ev]
  intro p hp
  have s2:=A0 (o:=.dT []) hp
  have e2:upd H p (.dT []) p=some (.dT []):=AS
  revert s2 e2
  generalize upd H p (.dT [])=H2
  intro s2 e2
  refine⟨_,_,s2 _ _ hly,D0 (by decide +kernel),BZ (s2 _ _ hfd) (n:=2) rfl rfl ⟨ly,n,r,c,w,k,rfl,S.tl,S.la.same s2,λt ht=> ?_⟩⟩
  have s3:=A0 (o:=.tup [.int ((n:Int)+r+c+r+(k:Int) / (w:Int)),.int ((k:Int) % (w:Int))]) ht
  have e3:upd H2 t (.tup [.int ((n:Int)+r+c+r+(k:Int) / (w:Int)),.int ((k:Int) % (w:Int))]) t=some (.tup ((pk w ((n+r+c+r) * w+k)).map kV)):=by rw[AS,O6 (x:=(n:Int)+r+c+r) (b:=n+r+c+r) w1 (by omega)]
  exact q1 (f:=(n+r+c+r) * w+k) (x:=.mk (some 0)) hp (s2.trans s3) (s3 _ _ e2) e3 rfl rfl
 ·have hfd:H fd=some (.tup [.str (Str.ofString "marked"),.int k]):=hfd
  push_cast[LM,↓RD]
  refine BZ hfd (n:=0) rfl rfl ?_
  push_cast[]
  refine BN (by decide +kernel) ?_
  push_cast[↓VC]
  refine BZ hfd (n:=0) rfl rfl ?_
  push_cast[]
  push_cast[↓Em]
  intro p hp
  have s2:=A0 (o:=.dT []) hp
  have e2:upd H p (.dT []) p=some (.dT []):=AS
  revert s2 e2
  generalize upd H p (.dT [])=H2
  intro s2 e2
  refine⟨_,_,s2 _ _ hly,D0 (by decide +kernel),BZ (s2 _ _ hfd) (n:=1) rfl rfl ⟨ly,n,r,c,w,k,rfl,S.tl,S.la.same s2,λt ht=> ?_⟩⟩
  have s3:=A0 (o:=.tup [.int ((n:Int)+r+c+(k:Int) / (w:Int)),.int ((k:Int) % (w:Int))]) ht
  have e3:upd H2 t (.tup [.int ((n:Int)+r+c+(k:Int) / (w:Int)),.int ((k:Int) % (w:Int))]) t=some (.tup ((pk w ((n+r+c) * w+k)).map kV)):=by rw[AS,O6 (x:=(n:Int)+r+c) (b:=n+r+c) w1 (by omega)]
  exact q1 (f:=(n+r+c) * w+k) (x:=.mk (some 0)) hp (s2.trans s3) (s3 _ _ e2) e3 rfl rfl
theorem Yj(h:OW K a vs H Q E):vs.length=3:=by
 obtain⟨_,_,_,_,_,_,_,_,_,_,_,_,rfl,_⟩:=h
 rfl
theorem WI{α β :Type}{F: α -> β ->Prop}:∀ {l:List α} {m:List β} (k:Nat),Paired F l m->Paired F (l.take k) (m.take k)
 | _,_,0,_=>by rw[List.take_zero,List.take_zero];exact .nil
 | _,_,_+1,.nil=>.nil
 | _,_,k+1,.cons h t=>.cons h (WI k t)
theorem WJ{α β :Type}{F: α -> β ->Prop}:∀ {l:List α} {m:List β} (k:Nat),Paired F l m->Paired F (l.drop k) (m.drop k)
 | _,_,0,h=>h
 | _,_,_+1,.nil=>.nil
 | _,_,k+1,.cons h t=>WJ k t
theorem kX{w b:Nat}{cs:List Cel}:CA w cs (b+1)=CA w (cs.drop w) b:=by
 unfold CA
 rw[List.drop_drop,Nat.succ_mul,Nat.add_comm]
theorem WK{w:Nat}:∀ {rows:List (List V)} {cs:List Cel},(∀ r∈rows,r.length=w)->Paired (CelV H) rows.flatten cs->∀ {b:Nat} {row:List V},rows[b]? =some row->Paired (CelV H) row (CA w cs b)
 | [],_,_,_,_,_,e=>by simp at e
 | r0::rs,cs,hw,P,0,row,e=>by
  cases e
  have h0:=hw r0 List.mem_cons_self
  have:=WI w P
  rw[List.flatten_cons,<-h0,List.take_left]at this
  unfold CA
  rw[Nat.zero_mul,List.drop_zero,<-h0]
  exact this
 | r0::rs,cs,hw,P,b+1,row,e=>by
  have h0:=hw r0 List.mem_cons_self
  have:=WJ w P
  rw[List.flatten_cons,<-h0,List.drop_left,h0]at this
  rw[kX]
  exact WK (λr hr=>hw r (List.mem_cons_of_mem _ hr)) this e
theorem kY{w:Nat}:∀ {rows:List (List V)} {cs:List Cel},cs.length=rows.length * w->(∀ {b:Nat} {row:List V},rows[b]? =some row->Paired (CelV H) row (CA w cs b))->Paired (CelV H) rows.flatten cs
 | [],cs,hl,_=>by
  rw[List.length_nil,Nat.zero_mul]at hl
  rw[List.length_eq_zero_iff.mp hl]
  exact .nil
 | r0::rs,cs,hl,h=>by
  rw[List.length_cons,Nat.succ_mul]at hl
  have h0:Paired (CelV H) r0 (CA w cs 0):=h (b:=0) rfl
  unfold CA at h0
  rw[Nat.zero_mul,List.drop_zero]at h0
  have ih:=kY (w:=w) (rows:=rs) (cs:=cs.drop w) (by rw[List.length_drop];omega) λ{b row} e=>by
   rw[<-kX]
   exact h (b:=b+1) e
  have:=GJ h0 ih
  rw[List.take_append_drop]at this
  exact this
theorem kZ{w:Nat}:∀ {rows:List (List V)},(∀ r∈rows,r.length=w)->rows.flatten.length=rows.length * w
 | [],_=>by simp
 | r::rs,h=>by
  rw[List.flatten_cons,List.length_append,kZ λx hx=>h x (List.mem_cons_of_mem _ hx),h r List.mem_cons_self,List.length_cons,Nat.succ_mul]
  omega
theorem Yk(cl:Addr)(w n:Int):(pf cl w n).lookup ("blocks":Str)=none:=N1 _ _ _ (by decide +kernel) (by decide +kernel) (by decide +kernel)
theorem k7{w b j:Nat}{cs:List Cel}(hj:j<w):(CA w cs b)[j]? =cs[b * w+j]? :=by
 unfold CA
 rw[List.getElem?_take,if_pos hj,List.getElem?_drop]
theorem k8{w b:Nat}{cs cs':List Cel}(h:cs'.map Cel.kind=cs.map Cel.kind):(CA w cs' b).map Cel.kind=(CA w cs b).map Cel.kind:=by
 unfold CA
 rw[List.map_take,List.map_drop,List.map_take,List.map_drop,h]
theorem L6{w b:Nat}{cs:List Cel}{c:Cel}(h:c∈CA w cs b):c∈cs:=List.mem_of_mem_drop (List.mem_of_mem_take h)
theorem WL{w i:Nat}{cs cs':List Cel}:G4 w (i+1) cs cs'=G4 w i cs cs'+if CA w cs i=CA w cs' i then 0 else 1:=by
 unfold G4
 rw[List.range_succ,List.filter_append,List.length_append]
 congr 1
 by_cases h:CA w cs i=CA w cs' i
 ·simp[h]
 ·simp[h]
theorem Yl{w b j:Nat}(hj:j<w):([.int (b:Int),.int (j:Int)]:List V)=(pk w (b * w+j)).map kV:=by
 unfold pk
 have h1:(b * w+j) / w=b:=by rw[Nat.mul_comm,Nat.mul_add_div (by omega),Nat.div_eq_of_lt hj,Nat.add_zero]
 have h2:(b * w+j) % w=j:=by rw[Nat.mul_comm,Nat.mul_add_mod,Nat.mod_eq_of_lt hj]
 rw[h1,h2]
 rfl
structure k9(a:Ad)(gp cl:Addr)(w m M:Nat)(cs cs':List Cel)(H:Hp)(i:Nat)(rs:List (List V))(H':Hp):Prop where
 p:PlankAt a H' gp cl w rs (m+G4 w i cs cs')
 l:rs.length=M
 c:∀ {b:Nat} {row:List V},rs[b]? =some row->Paired (CelV H') row (if b<i then CA w cs' b else CA w cs b)
 s:SameBut (λx=>x=gp\/x=cl) H H'
theorem Ym (h:OX K a vs H Q E):VD K a (λ_=>E) (A5 Q) (A1 ["plank","due","block","before","after"] vs) H:=by
  obtain⟨gp,cl,dl,w,rows,m,kvs,cs,cs',rfl,TP,P,hM,w1,w6,hdl,PC,hk,o1,o2,hc,q⟩:=h
  obtain⟨dp,hob⟩:=P.ob
  obtain⟨tc,hcl,_⟩:=P.ls
  have hcl':cs.length=rows.length * w:=by
    rw[<-PC.length]
    exact kZ P.wd
  have hcl2:cs'.length=cs.length:=by
    have:=congrArg List.length hk
    simpa using this
  have ndl:dl≠gp/\dl≠cl:=⟨C5 hdl hob (λz=>nomatch z),C5 hdl hcl (λz=>nomatch z)⟩
  push_cast[VD,↓Fb]
  refine⟨_,_,hob,Yk _ _ _,gp,cl,w,rows,m,rfl,TP,P,?_⟩
  push_cast[]
  refine⟨by omega,by omega,IK (λi σ H'=>(∃ rs,k9 a gp cl w m rows.length cs cs' H i rs H')/\∃ y2 y3 y4,σ=[some (.ref gp),some (.ref dl),y2,y3,y4]) ⟨⟨rows,⟨P,rfl,λe=>by rw[if_neg (Nat.not_lt_zero _)];exact WK P.wd PC e,SameBut.refl _⟩⟩,_,_,_,rfl⟩ (λi σ H1 hi ⟨⟨rs,J⟩,y2,y3,y4,eσ⟩=> ?_) (λσ H1 ⟨⟨rs,J⟩,y2,y3,y4,eσ⟩=> ?_)⟩
  · subst eσ
    obtain⟨dp1,hob1⟩:=J.p.ob
    obtain⟨tc1,hcl1,_⟩:=J.p.ls
    have hdl1:=J.s _ _ hdl λz=>z.elim ndl.1 ndl.2
    have tk1:CD H H1:=λy ys e=>J.s _ _ e λz=>by
      rcases z with z | z
      ·rw[z,hob]at e;cases e
      ·rw[z,hcl]at e;cases e
    have er:=List.getElem?_eq_getElem (l:=rs) (i:=i) (by rw[J.l];exact hi)
    revert er
    generalize rs[i]'(by rw[J.l];exact hi)=row
    intro er
    have Pr:=J.c er
    rw[if_neg (Nat.lt_irrefl _)]at Pr
    have hrw:row.length=w:=J.p.wd row (List.mem_of_getElem? er)
    push_cast[↓Ew,Int.zero_add]
    refine⟨_,_,hob1,RE _ _ _,gp,cl,w,rs,_,i,rfl,TP,J.p,λi' row' eb er' l hl=> ?_,λz=>by rw[J.l]at z;omega⟩
    obtain rfl:i=i':=by omega
    rw[er]at er'
    cases er'
    have s2:=A0 (o:=.lst row) hl
    have e2:upd H1 l (.lst row) l=some (.lst row):=AS
    revert s2 e2
    generalize upd H1 l (.lst row)=H2
    intro s2 e2
    push_cast[↓Ex]
    refine⟨⟨_,SqL.of e2⟩,TJ (xs:=row) (λ_=>true) (small _ (by omega)) (λj ys H'=>Same H2 H'/\Paired (CelV H') ys ((CA w cs' i).take j)) ⟨Same.refl _,.nil⟩ (λj ys H' hj ⟨s,P⟩=>⟨SqL.of (s _ _ e2),?_⟩) (λj ys H' t o ⟨s,P⟩ h=>⟨FS s h,Paired.mapP P λv c=>CelV.keep (A0 h).tk⟩) (λj x ys H' hx _ QB qb=>qb) (λj x ys H' hx _ ⟨s,P⟩=> ?_) (λj x ys H' hx hp=>by cases hp) (λys H3 ⟨s,P⟩ l2 hl2=> ?_)⟩
    ·rw[P.length,List.length_take];omega
    · have hj:j<w:=by rw[<-hrw];exact(List.getElem?_eq_some_iff.mp hx).1
      push_cast[BL]
      have hd':=s _ _ (s2 _ _ hdl1)
      have hlt:i * w+j<cs.length:=by
        rw[hcl']
        have:=Nat.mul_le_mul_right w (show i+1<=rows.length from hi)
        rw[Nat.succ_mul]at this
        omega
      refine⟨.inr ⟨kvs,.inl hd'⟩,by decide,λp hp=>⟨B0 kvs (pk w (i * w+j)),?_,FS s hp,?_⟩⟩
      · have sp:=A0 (o:=.tup [V.int (i:Int),V.int (j:Int)]) hp
        exact DGet.t (sp _ _ hd') (by rw[AS,Yl hj])
      · have sp:=A0 (o:=.tup [V.int (i:Int),V.int (j:Int)]) hp
        have ec':=List.getElem?_eq_getElem (l:=cs') (i:=i * w+j) (by rw[hcl2];exact hlt)
        revert ec'
        generalize cs'[i * w+j]'(by rw[hcl2];exact hlt)=c'
        intro ec'
        obtain⟨c,ec,hv⟩:=E6 Pr hx
        rw[k7 hj]at ec
        rw[EW (x:=c') (by rw[k7 hj];exact ec')]
        refine Paired.snoc (Paired.mapP P λv c=>CelV.keep sp.tk) ?_
        have s1p:=(s2.trans s).trans sp
        rcases hc _ c c' ec ec' with⟨e1,e2'⟩ | ⟨v,e1,e2'⟩
        · rw[e1,e2']
          exact CelV.keep s1p.tk hv
        · rw[e1]
          exact CelV.keep s1p.tk (CelV.keep tk1 e2')
    · have hcl3:(CA w cs' i).length=w:=by
        unfold CA
        rw[List.length_take,List.length_drop,hcl2,hcl']
        have:=Nat.mul_le_mul_right w (show i+1<=rows.length from hi)
        rw[Nat.succ_mul]at this
        omega
      rw[hrw,List.take_of_length_le (by omega)]at P
      have s4:=A0 (o:=.lst ys) hl2
      have e4:upd H3 l2 (.lst ys) l2=some (.lst ys):=AS
      revert s4 e4
      generalize upd H3 l2 (.lst ys)=H4
      intro s4 e4
      have s14:=(s2.trans s).trans s4
      have P4:Paired (CelV H4) ys (CA w cs' i):=Paired.mapP P λv c=>CelV.keep s4.tk
      have hys:ys.length=w:=by rw[P4.length,hcl3]
      have J4:k9 a gp cl w m rows.length cs cs' H i rs H4:=⟨J.p.same s14,J.l,λe=>Paired.mapP (J.c e) λv c=>CelV.keep s14.tk,J.s.trans s14.sb⟩
      push_cast[↓Ez]
      refine WG e4 ((s.trans s4) _ _ e2) P4 (Paired.mapP Pr λv c=>CelV.keep s14.tk) (λc hc=>o2 c (L6 hc)) (λc hc=>o1 c (L6 hc)) (k8 hk) ⟨_,rfl,?_⟩
      by_cases he:CA w cs' i=CA w cs i
      · refine BN (by simp[he]) ?_
        refine⟨rs,⟨by rw[WL,if_pos he.symm];exact J4.p,J4.l,λ{b row} e=> ?_,J4.s⟩⟩
        have:=J4.c e
        by_cases hb:b=i
        · rw[hb,if_neg (Nat.lt_irrefl _)]at this
          rw[hb,if_pos (Nat.lt_succ_self _),he]
          exact this
        · simp only[show(b<i+1)=(b<i)from propext ⟨λh=>by omega,λh=>by omega⟩]
          exact this
      · refine CF (by simp[he]) ?_
        obtain⟨dp4,hob4⟩:=J4.p.ob
        obtain⟨tc4,hcl4,_⟩:=J4.p.ls
        push_cast[↓Ey]
        refine⟨_,_,hob4,jQ _ _ _,gp,cl,w,rs,_,(i:Int),l2,ys,rfl,TP,J4.p,SqL.of e4,by omega,λi' eb hb' hyl H5 P5 sb5=> ?_,λz=>by rw[J.l]at z;omega⟩
        obtain rfl:i=i':=by omega
        have tk5:CD H4 H5:=λy ys e=>sb5 _ _ e λz=>by
          rcases z with z | z
          ·rw[z,hob4]at e;cases e
          ·rw[z,hcl4]at e;cases e
        refine⟨rs.set i ys,⟨?_,by rw[List.length_set];exact J.l,λ{b row} e=> ?_,J4.s.trans sb5⟩⟩
        · rw[WL,if_neg (λz=>he z.symm),<-Nat.add_assoc]
          exact P5
        · by_cases hb:b=i
          · subst hb
            rw[List.getElem?_set_self (by rw[J.l];exact hi)]at e
            cases e
            rw[if_pos (Nat.lt_succ_self _)]
            exact Paired.mapP P4 λv c=>CelV.keep tk5
          · rw[List.getElem?_set_ne (λz=>hb z.symm)]at e
            have:=J4.c e
            simp only[show(b<i+1)=(b<i)from propext ⟨λh=>by omega,λh=>by omega⟩]
            exact Paired.mapP this λv c=>CelV.keep tk5
  · subst eσ
    refine q rs H1 J.p J.l (kY (w:=w) (by rw[J.l,hcl2,hcl']) λ{b row} e=> ?_) J.s
    have hb:b<rows.length:=by rw[<-J.l];exact(List.getElem?_eq_some_iff.mp e).1
    have:=J.c e
    rw[if_pos hb]at this
    exact this
theorem Yp(h:OX K a vs H Q E):vs.length=2:=by
 obtain⟨_,_,_,_,_,_,_,_,_,rfl,_⟩:=h
 rfl
theorem RP{vw:Vw}(ok:D3 vw):∀ c∈B9 vw,c.ok:=λc hc=>by
 unfold B9 at hc
 simp only[List.mem_append,List.mem_map]at hc
 rcases hc with(((⟨x,hx,rfl⟩ | ⟨x,hx,rfl⟩) | ⟨x,hx,rfl⟩) | ⟨x,hx,rfl⟩) | ⟨x,hx,rfl⟩
 ·cases x with
  | none=>exact trivial
  | some d=>exact(ok.n1 d hx).2
 ·cases x<;>exact trivial
 ·cases x with
  | none=>exact trivial
  | some d=>exact ok.n3 d hx
 ·cases x<;>exact trivial
 ·cases x<;>exact trivial
theorem G8{α :Type}{f: α ->Cel}{k:Nat}(h:∀ x,(f x).kind=k)(l:List α):(l.map f).map Cel.kind=List.replicate l.length k:=by
 rw[List.map_map]
 induction l with
 | nil=>rfl
 | cons x r ih=>rw[List.map_cons,ih,List.length_cons,List.replicate_succ];exact congrArg (· ::_) (h x)
theorem WM{vw:Vw}(ok:D3 vw):(B9 (mended vw)).map Cel.kind=(B9 vw).map Cel.kind:=by
 have ok2:=KG ok
 have l1:(mended vw).rc.length=vw.rc.length:=by
  show((List.range vw.rc.length).map (BP vw)).length=_
  simp
 unfold B9
 simp only[List.map_append]
 rw[G8 (k:=0) (f:=Cel.nm) λ_=>rfl,G8 (k:=1) (f:=Cel.rc) λ_=>rfl,G8 (k:=2) (f:=Cel.pc) λ_=>rfl,G8 (k:=3) (f:=Cel.mk) λ_=>rfl,G8 (k:=3) (f:=Cel.mk) λ_=>rfl,
  G8 (k:=0) (f:=Cel.nm) λ_=>rfl,G8 (k:=1) (f:=Cel.rc) λ_=>rfl,G8 (k:=2) (f:=Cel.pc) λ_=>rfl,G8 (k:=3) (f:=Cel.mk) λ_=>rfl,G8 (k:=3) (f:=Cel.mk) λ_=>rfl,ok2.l1,ok2.l2,ok.l1,ok.l2,l1]
 rfl
theorem lA{P:List AZ->V->Prop}:∀ {more kvs:List (List AZ × V)},(∀ k v,B0 kvs k=some v->P k v)->(∀ kv∈more,P kv.1 kv.2)->∀ k v,B0 (DU kvs more) k=some v->P k v
 | [],kvs,h,_=>h
 | p::r,kvs,h,hm=>lA (more:=r) (kvs:=B7 kvs p.1 p.2) (λk v e=>by
   rw[QK]at e
   by_cases z:k=p.1
   ·rw[if_pos z]at e
    cases e
    rw[z]
    exact hm p List.mem_cons_self
   ·rw[if_neg z]at e
    exact h k v e) λkv hkv=>hm kv (List.mem_cons_of_mem _ hkv)
theorem WN:∀ {more kvs:List (List AZ × V)} {k:List AZ},(B0 kvs k).isSome=true->(B0 (DU kvs more) k).isSome=true
 | [],_,_,h=>h
 | p::r,kvs,k,h=>WN (more:=r) (kvs:=B7 kvs p.1 p.2) (by
   rw[QK]
   split
   ·rfl
   ·exact h)
theorem lB:∀ {more kvs:List (List AZ × V)} {kv:List AZ × V},kv∈more->(B0 (DU kvs more) kv.1).isSome=true
 | [],_,_,h=>by cases h
 | p::r,kvs,kv,h=>by
  rcases List.mem_cons.mp h with rfl | h
  ·exact WN (more:=r) (kvs:=B7 kvs kv.1 kv.2) (by rw[QK,if_pos rfl];rfl)
  ·exact lB (more:=r) h
theorem Yq{vw:Vw}{n r c w:Nat}(lv:Lv):(EI vw n r c w lv).length<=2:=by
 cases lv<;>simp[EI]
structure Yv(vw:Vw)(n r c w:Nat)(dl:Addr)(H2:Hp)(i:Nat)(kvs:List (List AZ × V))(H':Hp):Prop where
 s:Same H2 H'
 e:H' dl=some (.dT kvs)
 A:∀ k v,B0 kvs k=some v->∃ lv∈EH vw,∃ fx∈EI vw n r c w lv,k=pk w fx.1/\CelV H' v fx.2
 B:∀ j lv,j<i->(EH vw)[j]? =some lv->∀ fx∈EI vw n r c w lv,(B0 kvs (pk w fx.1)).isSome=true
 l:kvs.length<=2 * i
theorem Yw{vw:Vw}(ok:D3 vw):(EH vw).length<=400:=by
 obtain⟨_,_,_,m4,m5,m6⟩:=O1 ok
 have:=congrArg List.length (kL vw)
 unfold E4 at this
 simp only[List.length_append,List.length_map]at this
 omega
theorem Site.ground{ly gp cl:Addr}{n r c w:Nat}{rows:List (List V)}{m:Nat}{vw:Vw}(S:Site K a H ly gp cl n r c w rows m vw):Ground K a H ly gp vw:=⟨cl,n,r,c,w,rows,m,S.tv,S.tl,S.tp,S.la,S.pl,S.rl,S.pv⟩
theorem Site.same{ly gp cl:Addr}{n r c w:Nat}{rows:List (List V)}{m:Nat}{vw:Vw}{H':Hp}(S:Site K a H ly gp cl n r c w rows m vw)(s:Same H H'):Site K a H' ly gp cl n r c w rows m vw:=⟨S.tv,S.tl,S.tp,S.la.same s,S.pl.same s,S.rl,S.pv.same s.tk,S.w1,S.w6,S.n6,S.r6,S.c6⟩
theorem Yx(h:LJ K a vs H Q E):VZ K a (λ_=>E) (A5 Q) (A1 ["layout","plank","finds","due","find"] vs) H:=by
 obtain⟨ly,gp,cl,n,r,c,w,rows,m,vw,rfl,S,hf,q⟩:=h
 have z1:=S.pv.ln
 have z2:=S.pv.lr
 have z3:=S.pv.lp
 have ok:=S.pv.ok
 have n6:=S.n6
 have r6:=S.r6
 have c6:=S.c6
 have rl:=S.rl
 push_cast[VZ,↓Ky]
 refine⟨ly,gp,vw,rfl,S.ground,λH1 s1=> ?_⟩
 rw[decide_eq_true hf]
 push_cast[]
 push_cast[↓Kz]
 refine⟨ly,gp,vw,rfl,S.ground.same s1,λfo H2 hfo s2 F2=> ?_⟩
 rw[hf,List.nil_append]at F2
 have F0:=F2
 rw[kL]at F2
 obtain⟨ps,efo,PF⟩:=F2
 have s02:=s1.trans s2
 push_cast[↓Lb]
 intro dl hdl
 have s3:=A0 (o:=.dT []) hdl
 have e3:upd H2 dl (.dT []) dl=some (.dT []):=AS
 revert s3 e3
 generalize upd H2 dl (.dT [])=H3
 intro s3 e3
 have ln:=Yw ok
 have pl:ps.length=(EH vw).length:=by rw[PF.length,List.length_map]
 push_cast[↓Ld]
 refine .inl ⟨⟨_,SqL.of (s3 _ _ efo)⟩,IJ (xs:=ps.map V.ref) (λi σ H'=>(∃ kvs,Yv vw n r c w dl H2 i kvs H')/\∃ y,σ=[some (.ref ly),some (.ref gp),some (.ref fo),some (.ref dl),y]) ⟨⟨[],⟨s3,e3,λk v h=>(by cases h),λj lv h=>absurd h (Nat.not_lt_zero _),Nat.le_refl _⟩⟩,_,rfl⟩ (λi σ H' _ ⟨⟨_,J⟩,_⟩=>SqL.of (J.s _ _ efo)) (λi x σ H4 hx ⟨⟨kvs,J⟩,y,eσ⟩=> ?_) (λσ H4 ⟨⟨kvs,J⟩,y,eσ⟩=> ?_)⟩
 ·subst eσ
  rw[List.getElem?_map,Option.map_eq_some_iff]at hx
  obtain⟨fd,efd,rfl⟩:=hx
  obtain⟨g,eg,hfd⟩:=E6 PF efd
  rw[List.getElem?_map,Option.map_eq_some_iff]at eg
  obtain⟨lv,elv,rfl⟩:=eg
  have hlv:=List.mem_of_getElem? elv
  have hi:i<(EH vw).length:=(List.getElem?_eq_some_iff.mp elv).1
  push_cast[↓Lc]
  refine⟨.inr (.inr (.inl ⟨rfl,.inr ⟨kvs,J.e⟩⟩)),ly,gp,cl,fd,n,r,c,w,rows,m,vw,lv,rfl,(S.same s02).same J.s,hlv,J.s _ _ hfd,λdm more H5 hdm s5 e5 PM ap=> ?_⟩
  have ml:more.length<=2:=by rw[PM.length];exact Yq lv
  have jl:=J.l
  have tk6:CD H5 (upd H5 dl (.dT (DU kvs more))):=λy ys ey=>by rw[AT (C5 ey (s5 _ _ J.e) (λz=>nomatch z))];exact ey
  refine⟨dl,dm,kvs,more,rfl,rfl,BE J.e hdm,s5 _ _ J.e,e5,λ_=>ap,small _ (by omega),DU kvs more,⟨λy o ey=> ?_,AS,?_,λj lv' hj ej fx hfx=> ?_,?_⟩⟩
  ·rw[AT (BE ey hdl)]
   exact s5 _ _ (J.s _ _ ey)
  ·refine lA (λk v e=> ?_) λkv hkv=> ?_
   ·obtain⟨lv',h1,fx,h2,h3,h4⟩:=J.A k v e
    exact⟨lv',h1,fx,h2,h3,CelV.keep tk6 (CelV.keep s5.tk h4)⟩
   ·obtain⟨k,ek⟩:=JT hkv
    obtain⟨fx,efx,h1,h2⟩:=E6 PM ek
    exact⟨lv,hlv,fx,List.mem_of_getElem? efx,h1,CelV.keep tk6 h2⟩
  ·by_cases hji:j<i
   ·exact WN (J.B j lv' hji ej fx hfx)
   ·obtain rfl:j=i:=by omega
    rw[elv]at ej
    cases ej
    obtain⟨k,ek⟩:=JT hfx
    obtain⟨kv,ekv,h1,_⟩:=LA PM ek
    rw[<-h1]
    exact lB (List.mem_of_getElem? ekv)
  ·have:=TK more kvs
   omega
 ·subst eσ
  have S4:=(S.same s02).same J.s
  have w1:=S.w1
  obtain⟨dp,hgp⟩:=S4.pl.ob
  obtain⟨tc,hcl,_⟩:=S4.pl.ls
  obtain⟨dp1,hgp1⟩:=(S.same s1).pl.ob
  obtain⟨tc1,hcl1,_⟩:=(S.same s1).pl.ls
  have nfo:fo≠gp/\fo≠cl:=⟨(BE hgp1 hfo).symm,(BE hcl1 hfo).symm⟩
  have ok2:=KG ok
  have g2:(mended vw).rc.length=r * w:=by
   show((List.range vw.rc.length).map (BP vw)).length=_
   simp[z2]
  have e0:(n+r+c+r+c) * w=n * w+r * w+c * w+r * w+c * w:=by simp only[Nat.add_mul]
  push_cast[↓Lg]
  refine⟨gp,cl,dl,w,rows,m,kvs,B9 vw,B9 (mended vw),rfl,S.tp,S4.pl,by omega,w1,S.w6,J.e,S4.pv.asC,WM ok,RP ok,RP ok2,λf x x' ex ex'=> ?_,λrows' H5 P5 hl5 PC5 sb5=> ?_⟩
  ·have hlt:f<n * w+r * w+c * w+r * w+c * w:=by
    have:=(List.getElem?_eq_some_iff.mp ex).1
    rw[kQ vw ok]at this
    omega
   cases ev:B0 kvs (pk w f)with
   | none =>
    refine .inl ⟨rfl,?_⟩
    have:=Xx ok z1 z2 z3 hf hlt λlv hlv fx hfx e=> ?_
    ·rw[ex,ex']at this
     exact Option.some.inj this
    ·obtain⟨j,ej⟩:=JT hlv
     have hj:j<(ps.map V.ref).length:=by rw[List.length_map,pl];exact(List.getElem?_eq_some_iff.mp ej).1
     have:=J.B j lv hj ej fx hfx
     rw[e,ev]at this
     cases this
   | some v =>
    obtain⟨lv,hlv,fx,hfx,e1,e2⟩:=J.A _ v ev
    have:=kW e1
    have h3:=Xw ok z1 z2 z3 hlv hfx
    rw[<-this,ex']at h3
    cases h3
    exact .inr ⟨v,rfl,e2⟩
  ·have tk5:CD H4 H5:=λy ys e=>sb5 _ _ e λz=>by
    rcases z with z | z
    ·rw[z,hgp]at e;cases e
    ·rw[z,hcl]at e;cases e
   push_cast[↓Lh]
   exact q fo rows' H5 (s1.free hfo) ((F0.same J.s).on (λo e=>sb5 _ _ e λz=>z.elim nfo.1 nfo.2) tk5) P5 (by rw[hl5,rl]) (PlV.of PC5 z1 g2 z3 ok2) ((s02.trans J.s).sb.trans sb5)
theorem Yy(h:LJ K a vs H Q E):vs.length=2:=by
 obtain⟨_,_,_,_,_,_,_,_,_,_,rfl,_⟩:=h
 rfl
theorem Yz(h:LK K a vs H Q E):UO K a (λ_=>E) (A5 Q) (A1 ["view","cells","flat"] vs) H:=by
 obtain⟨A,vw,lf,w,M,rfl,I,w1,w6,hM,q⟩:=h
 have ok:=I.ok
 obtain⟨v1,e1,P1⟩:=I.n
 obtain⟨v2,e2,P2⟩:=I.r
 obtain⟨v3,e3,P3⟩:=I.p
 obtain⟨v4,e4,P4⟩:=I.rm
 obtain⟨v5,e5,P5⟩:=I.pm
 have q1:=P1.length
 have q2:=P2.length
 have q3:=P3.length
 have q4:=P4.length
 have q5:=P5.length
 have l1:=ok.l1
 have l2:=ok.l2
 have bn:=ok.bn
 have br:=ok.br
 have bp:=ok.bp
 push_cast[UO,↓zQ]
 refine I.at0 (I.at1 (HQ e1 e2 (by omega) λb1 H1 _ s1 f1=> ?_))
 refine(I.same s1).at2 (HQ f1 (s1 _ _ e3) (by rw[List.length_append];omega) λb2 H2 _ s2 f2=> ?_)
 have s02:=s1.trans s2
 refine(I.same s02).at3 (HQ f2 (s02 _ _ e4) (by simp only[List.length_append];omega) λb3 H3 _ s3 f3=> ?_)
 have s03:=s02.trans s3
 refine(I.same s03).at4 (HQ f3 (s03 _ _ e5) (by simp only[List.length_append];omega) λb4 H4 hb4 s4 f4=> ?_)
 have s04:=s03.trans s4
 have PC:Paired (CelV H) (v1++v2++v3++v4++v5) (B9 vw):=GJ (GJ (GJ (GJ (GN P1 λ_ _ h=>h) (GN P2 λ_ _ h=>h)) (GN P3 λ_ _ h=>h)) (GN P4 λ_ _ h=>h)) (GN P5 λ_ _ h=>h)
 have fb:(v1++v2++v3++v4++v5).length<1000:=by simp only[List.length_append];omega
 generalize hF:v1++v2++v3++v4++v5=flat at f4 PC fb
 have fl:flat.length=M * w:=by rw[PC.length,hM]
 push_cast[↓zR]
 refine⟨M * w,.inl ⟨_,SqL.of f4,fl.symm⟩,M,w,rfl,rfl,w1,by omega,by omega,?_⟩
 have cut:∀ i,i<M->EF flat (some ((i:Int) * w)) (some ((i:Int) * w+w))=(flat.drop (i * w)).take w:=λi hi=>by
  have h1:(i+1) * w<=M * w:=Nat.mul_le_mul_right w hi
  rw[Nat.succ_mul]at h1
  unfold EF
  have a1:(i:Int) * w=((i * w:Nat):Int):=by simp
  have a2:(i:Int) * w+w=((i * w+w:Nat):Int):=by simp
  rw[a2,a1,HT.sIx_nat,HT.sIx_nat,fl,Nat.min_eq_left (by omega),Nat.min_eq_left (by omega)]
  congr 1
  omega
 have Mb:M<=M * w:=Nat.le_mul_of_pos_right M (by omega)
 refine wL (small _ (by omega)) (λi ys H'=>Same H4 H'/\∃ ra:List Addr,ys=ra.map V.ref/\(∀ l∈ra,H l=none)/\Paired (λl b=>∃ xs,H' l=some (.lst xs)/\Paired (CelV H') xs (CA w (B9 vw) b)) ra (List.range i)) ⟨Same.refl _,[],rfl,λl h=>(by cases h),.nil⟩ (λi ys H' hi _ ⟨s,ra,e,fr,P⟩=> ?_) (λys H' _ ⟨s,ra,e,fr,P⟩ R hR=> ?_)
 ·push_cast[BL]
  refine Q6 (SqL.of (s _ _ f4)) λl hl=> ?_
  rw[cut i hi]
  have s5:=A0 (o:=.lst ((flat.drop (i * w)).take w)) hl
  refine⟨s.trans s5,ra++[l],by rw[e,List.map_append];rfl,λl' hl'=>(List.mem_append.mp hl').elim (fr l') λz=>by rw[List.mem_singleton.mp z];exact s04.free (s.free hl),?_⟩
  rw[List.range_succ]
  refine Paired.snoc (Paired.mapP P λl b ⟨xs,e1,e2⟩=>⟨xs,s5 _ _ e1,Paired.mapP e2 λv c=>CelV.keep s5.tk⟩) ⟨_,AS,Paired.mapP (WI w (WJ (i * w) PC)) λv c=>CelV.keep ((s04.trans s).trans s5).tk⟩
 ·have s5:=A0 (o:=.lst ys) hR
  exact q R ra _ ((s04.trans s).trans s5) ⟨by rw[AS,e],Paired.mapP P λl b ⟨xs,e1,e2⟩=>⟨xs,s5 _ _ e1,Paired.mapP e2 λv c=>CelV.keep s5.tk⟩⟩ (s04.free (s.free hR)) fr
theorem Zb(h:LK K a vs H Q E):vs.length=2:=by
 obtain⟨_,_,_,_,_,rfl,_⟩:=h
 rfl
theorem RowsAt.same{R:Addr}{ra:List Addr}{w M:Nat}{cs:List Cel}{H':Hp}(h:RowsAt H R ra w cs M)(s:Same H H'):RowsAt H' R ra w cs M:=⟨s _ _ h.e,Paired.mapP h.p λl b ⟨xs,e1,e2⟩=>⟨xs,s _ _ e1,Paired.mapP e2 λv c=>CelV.keep s.tk⟩⟩
theorem RowsAt.on{R:Addr}{ra:List Addr}{w M:Nat}{cs:List Cel}{H':Hp}(h:RowsAt H R ra w cs M)(hR:∀ o,H R=some o->H' R=some o)(hl:∀ l∈ra,∀ o,H l=some o->H' l=some o)(tk:CD H H'):RowsAt H' R ra w cs M:=by
 refine⟨hR _ h.e,?_⟩
 have:∀ {l:List Addr} {m:List Nat},(∀ x∈l,∀ o,H x=some o->H' x=some o)->Paired (λl b=>∃ xs,H l=some (.lst xs)/\Paired (CelV H) xs (CA w cs b)) l m->Paired (λl b=>∃ xs,H' l=some (.lst xs)/\Paired (CelV H') xs (CA w cs b)) l m:=by
  intro l m hk P
  induction P with
  | nil=>exact .nil
  | cons h t ih =>
   obtain⟨xs,e1,e2⟩:=h
   exact .cons ⟨xs,hk _ List.mem_cons_self _ e1,Paired.mapP e2 λv c=>CelV.keep tk⟩ (ih λx hx=>hk x (List.mem_cons_of_mem _ hx))
 exact this hl h.p
theorem RowsAt.at{R:Addr}{ra:List Addr}{w M i:Nat}{cs:List Cel}{Q:VK}(h:RowsAt H R ra w cs M)(hi:i<M)(q:∀ l xs,H l=some (.lst xs)->Paired (CelV H) xs (CA w cs i)->Q (.ref l) H):AK K (.ref R) (.int i) H Q:=by
 obtain⟨l,el,xs,e1,e2⟩:=LA h.p (List.getElem?_range hi)
 exact BU (SqL.of h.e) (n:=i) rfl (by rw[List.getElem?_map,el];rfl) (q l xs e1 e2)
theorem RowsAt.len{R:Addr}{ra:List Addr}{w M:Nat}{cs:List Cel}(h:RowsAt H R ra w cs M):JI K (.ref R) H M:=.inl ⟨_,SqL.of h.e,by rw[List.length_map,h.p.length,List.length_range]⟩
theorem Zc{x:V}{c:Cel}{QT QU QF:Hp->Prop}(hc:CelV H x c)(q:QF H):ET K [x,V.ty "bool"] H λx1 H1=>∃ k,DY K x1 H1 k/\if k=true then QT H1 else ET K [x,V.ty "tuple"] H1 λx2 H2=>∃ k,DY K x2 H2 k/\if k=true then AK K x (V.int 0) H2 λx3 H3=>ET K [x3,V.ty "bool"] H3 λx4 H4=>∃ k,DY K x4 H4 k/\if k=true then QU H4 else QF H4 else QF H2:=by
 have plain:∀ {t:Value},TyX K H x t->W.kitOne K t (.type "bool")=some false->W.kitOne K t (.type "tuple")=some false->ET K [x,V.ty "bool"] H λx1 H1=>∃ k,DY K x1 H1 k/\if k=true then QT H1 else ET K [x,V.ty "tuple"] H1 λx2 H2=>∃ k,DY K x2 H2 k/\if k=true then AK K x (V.int 0) H2 λx3 H3=>ET K [x3,V.ty "bool"] H3 λx4 H4=>∃ k,DY K x4 H4 k/\if k=true then QU H4 else QF H4 else QF H2:=λty k1 k2=>K9 ty (.ty _) k1 ⟨false,rfl,BN (by decide) (K9 ty (.ty _) k2 ⟨false,rfl,BN (by decide) q⟩)⟩
 have pair:∀ {p:Addr} {v0:V} {vs:List V} {t:Value},x=.ref p->H p=some (.tup (v0::vs))->TyX K H v0 t->W.kitOne K t (.type "bool")=some false->ET K [x,V.ty "bool"] H λx1 H1=>∃ k,DY K x1 H1 k/\if k=true then QT H1 else ET K [x,V.ty "tuple"] H1 λx2 H2=>∃ k,DY K x2 H2 k/\if k=true then AK K x (V.int 0) H2 λx3 H3=>ET K [x3,V.ty "bool"] H3 λx4 H4=>∃ k,DY K x4 H4 k/\if k=true then QU H4 else QF H4 else QF H2:=λex ep ty k1=>by
  subst ex
  exact K9 (.inl (.tup ep)) (.ty _) (b:=false) rfl ⟨false,rfl,BN (by decide) (K9 (.inl (.tup ep)) (.ty _) (b:=true) rfl ⟨true,rfl,CF rfl (BZ ep (n:=0) rfl rfl (K9 ty (.ty _) k1 ⟨false,rfl,BN (by decide) q⟩))⟩)⟩
 match c,hc with
 | .nm none,h=>cases (show x=.non from h);exact plain (.inl .non) rfl rfl
 | .nm (some d),h =>
  obtain⟨p,ex,ep⟩:=(show ∃ p,x=.ref p/\H p=some (.tup [.str d.1,.int d.2])from h)
  exact pair ex ep (.inl (.str _)) rfl
 | .rc none,h=>cases (show x=.non from h);exact plain (.inl .non) rfl rfl
 | .rc (some d),h =>
  obtain⟨p,q',ex,ep,_⟩:=(show ∃ p q,x=.ref p/\H p=some (.tup [.int d.1,.ref q])/\H q=some (.tup (AW d.2))from h)
  exact pair ex ep (.inl (.int _)) rfl
 | .pc none,h=>cases (show x=.non from h);exact plain (.inl .non) rfl rfl
 | .pc (some d),h=>cases (show x=.str d from h);exact plain (.inl (.str _)) rfl rfl
 | .mk none,h=>cases (show x=.non from h);exact plain (.inl .non) rfl rfl
 | .mk (some d),h=>cases (show x=.int d from h);exact plain (.inl (.int _)) rfl rfl
theorem Zd(h:J9 K a vs H Q E):VM K a (λ_=>E) (A5 Q) (A1 ["plank","rows","k","found","cell"] vs) H:=by
 obtain⟨gp,cl,R,w,rows,m,ra,cs,rfl,TP,P,RA,PC,hM,w1,w6,oks,q⟩:=h
 push_cast[VM,↓Hj]
 refine⟨rows.length,RA.len,by omega,by omega,IK (λi σ H'=>Same H H'/\∃ y2 y3 y4,σ=[some (.ref gp),some (.ref R),y2,y3,y4]) ⟨Same.refl _,_,_,_,rfl⟩ (λi σ H1 hi ⟨s1,y2,y3,y4,eσ⟩=> ?_) (λσ H1 ⟨s1,y2,y3,y4,eσ⟩=> ?_)⟩
 ·subst eσ
  have P1:=P.same s1
  obtain⟨dp,hob⟩:=P1.ob
  push_cast[↓Gz,Int.zero_add]
  refine⟨_,_,hob,RE _ _ _,gp,cl,w,rows,_,i,rfl,TP,P1,λi' row eb er l hl=> ?_,λz=>by omega⟩
  obtain rfl:i=i':=by omega
  have s2:=A0 (o:=.lst row) hl
  have e2:upd H1 l (.lst row) l=some (.lst row):=AS
  revert s2 e2
  generalize upd H1 l (.lst row)=H2
  intro s2 e2
  have s02:=s1.trans s2
  have Pr:Paired (CelV H2) row (CA w cs i):=Paired.mapP (WK P.wd PC er) λv c=>CelV.keep s02.tk
  push_cast[↓Hc]
  refine(RA.same s02).at hi λl3 xs e3 P3=>WG e2 e3 Pr P3 (λc hc=>oks c (L6 hc)) (λc hc=>oks c (L6 hc)) rfl ⟨_,rfl,BN (by simp) ?_⟩
  push_cast[↓Hh]
  refine .inl ⟨⟨_,SqL.of e2⟩,IJ (xs:=row) (λj σ H'=>H'=H2/\∃ y4,σ=[some (.ref gp),some (.ref R),some (.int (i:Int)),some (.ref l),y4]) ⟨rfl,_,rfl⟩ (λj σ H' _ ⟨e,_⟩=>e ▸ SqL.of e2) (λj x σ H' hx ⟨e,y4,eσ⟩=> ?_) (λσ H' ⟨e,y4,eσ⟩=> ?_)⟩
  ·subst e;subst eσ
   obtain⟨c,ec,hc⟩:=E6 Pr hx
   push_cast[↓Hg]
   exact Zc hc rfl
  ·subst e;subst eσ
   exact⟨s02,_,_,_,rfl⟩
 ·subst eσ
  push_cast[↓Hk]
  exact q H1 s1
theorem Zg(h:J9 K a vs H Q E):vs.length=2:=by
 obtain⟨_,_,_,_,_,_,_,_,rfl,_⟩:=h
 rfl
theorem Zh{α :Type}{F:Addr-> α ->Prop}{as:List Addr}{x0 x1 x2 x3 x4 x5: α}(h:Paired F as [x0,x1,x2,x3,x4,x5]):∃ a0 a1 a2 a3 a4 a5,as=[a0,a1,a2,a3,a4,a5]/\F a0 x0/\F a1 x1/\F a2 x2/\F a3 x3/\F a4 x4/\F a5 x5:=by
 cases h with | cons h0 h=>cases h with | cons h1 h=>cases h with | cons h2 h=>cases h with | cons h3 h=>cases h with | cons h4 h=>cases h with | cons h5 h =>
  cases h
  exact⟨_,_,_,_,_,_,rfl,h0,h1,h2,h3,h4,h5⟩
theorem Zj{A:LW}{vw:Vw}{lf:List Nat}{σ:St}{Q:VK}(I:LWAt H A vw lf)(q:∀ (A':LW) (H':Hp),Same H H'->LWAt H' A' vw lf->H A'.v=none->(∀ x∈A'.L,H x=none)->Q (.ref A'.v) H'):DN (E9 K A.v) (AL 0) CS (BW (JO K) (AD (AA 0) AH)) 1 [] σ H Q:=by
 obtain⟨v1,e1,P1⟩:=I.n
 obtain⟨v2,e2,P2⟩:=I.r
 obtain⟨v3,e3,P3⟩:=I.p
 obtain⟨v4,e4,P4⟩:=I.rm
 obtain⟨v5,e5,P5⟩:=I.pm
 refine ZK (xs:=[.ref A.a0,.ref A.a1,.ref A.a2,.ref A.a3,.ref A.a4,.ref A.a5]) (small _ (by simp)) (λi ys H'=>Same H H'/\∃ as:List Addr,ys=as.map V.ref/\as.Nodup/\Paired (λx us=>H' x=some (.lst us)/\H x=none) as ([v1,v2,v3,v4,v5,AW lf].take i)) ⟨Same.refl _,[],rfl,List.nodup_nil,.nil⟩ (λi ys H' _ ⟨s,_⟩=>SqL.of (s _ _ I.ob)) (λi x ys H4 hx _ ⟨s,as,e,nd,P⟩=> ?_) (λys H4 _ ⟨s,as,e,nd,P⟩ vl hvl=> ?_)
 ·obtain⟨y,us,rfl,hy,em⟩:∃ (y:Addr) (us:List V),x=.ref y/\H y=some (.lst us)/\[v1,v2,v3,v4,v5,AW lf][i]? =some us:=by
   match i with
   | 0=>cases hx;exact⟨_,_,rfl,e1,rfl⟩
   | 1=>cases hx;exact⟨_,_,rfl,e2,rfl⟩
   | 2=>cases hx;exact⟨_,_,rfl,e3,rfl⟩
   | 3=>cases hx;exact⟨_,_,rfl,e4,rfl⟩
   | 4=>cases hx;exact⟨_,_,rfl,e5,rfl⟩
   | 5=>cases hx;exact⟨_,_,rfl,I.l,rfl⟩
   | i+6=>simp at hx
  push_cast[BL]
  refine⟨_,.inl (SqL.of (s _ _ hy)),λa6 h6=> ?_⟩
  have s6:=A0 (o:=.lst us) h6
  refine⟨s.trans s6,as++[a6],by rw[e,List.map_append];rfl,?_,?_⟩
  ·rw[List.nodup_append]
   refine⟨nd,by simp,λx hx y hy=> ?_⟩
   rw[List.mem_singleton.mp hy]
   obtain⟨k,ek⟩:=JT hx
   obtain⟨r',_,hx'⟩:=E6 P ek
   exact BE hx'.1 h6
  ·rw[EW em]
   exact Paired.snoc (Paired.mapP P λt r e=>⟨s6 _ _ e.1,e.2⟩) ⟨AS,s.free h6⟩
 have P:Paired (λx us=>H4 x=some (.lst us)/\H x=none) as [v1,v2,v3,v4,v5,AW lf]:=P
 obtain⟨a0,a1,a2,a3,a4,a5,rfl,f0,f1,f2,f3,f4,f5⟩:=Zh P
 subst e
 have s5:=A0 (o:=.lst [V.ref a0,V.ref a1,V.ref a2,V.ref a3,V.ref a4,V.ref a5]) hvl
 have s05:=s.trans s5
 have e5':upd H4 vl (.lst [V.ref a0,V.ref a1,V.ref a2,V.ref a3,V.ref a4,V.ref a5]) vl=some (.lst [V.ref a0,V.ref a1,V.ref a2,V.ref a3,V.ref a4,V.ref a5]):=AS
 refine q ⟨vl,a0,a1,a2,a3,a4,a5⟩ _ s05 ⟨e5',⟨_,s5 _ _ f0.1,Paired.mapP P1 λv c=>NmV.keep s05.tk⟩,⟨_,s5 _ _ f1.1,Paired.mapP P2 λv c=>RcV.keep s05.tk⟩,⟨_,s5 _ _ f2.1,Paired.mapP P3 λv c=>PcV.keep s05.tk⟩,⟨_,s5 _ _ f3.1,Paired.mapP P4 λv c=>MkV.keep s05.tk⟩,⟨_,s5 _ _ f4.1,Paired.mapP P5 λv c=>MkV.keep s05.tk⟩,s5 _ _ f5.1,I.ok,nd,?_⟩ (s.free hvl) ?_
 ·have dv:∀ {x:Addr} {us:List V},H4 x=some (.lst us)->vl≠x:=λe=>(BE e hvl).symm
  simp[LW.L,dv f0.1,dv f1.1,dv f2.1,dv f3.1,dv f4.1,dv f5.1]
 ·intro x hx
  simp[LW.L]at hx
  rcases hx with rfl | rfl | rfl | rfl | rfl | rfl
  ·exact f0.2
  ·exact f1.2
  ·exact f2.2
  ·exact f3.2
  ·exact f4.2
  ·exact f5.2
def DC{α :Type}(f:Nat->Option α)(l:List (Option α))(i:Nat):List (Option α):=(List.range i).map f++l.drop i
theorem RQ{α :Type}{f:Nat->Option α}{l:List (Option α)}{i:Nat}(hi:i<l.length):(DC f l i).set i (f i)=DC f l (i+1):=by
 unfold DC
 rw[List.set_append_right _ _ (by simp),List.length_map,List.length_range,Nat.sub_self,List.drop_eq_getElem_cons hi,List.set_cons_zero,List.range_succ,List.map_append,List.append_assoc]
 rfl
theorem WO{α :Type}{f:Nat->Option α}{l:List (Option α)}{i:Nat}(hi:i<l.length)(h:f i=AF l i):DC f l i=DC f l (i+1):=by
 unfold DC
 have e:=KH hi
 rw[List.getElem?_eq_getElem hi]at e
 rw[List.drop_eq_getElem_cons hi,List.range_succ,List.map_append,List.append_assoc,Option.some.inj e,<-h]
 rfl
theorem Zk{α :Type}{f:Nat->Option α}{l:List (Option α)}{i:Nat}(hi:i<=l.length):(DC f l i).length=l.length:=by
 unfold DC
 rw[List.length_append,List.length_map,List.length_range,List.length_drop]
 omega
theorem lC{α :Type}{f:Nat->Option α}{l:List (Option α)}:DC f l l.length=(List.range l.length).map f:=by
 unfold DC
 rw[List.drop_length,List.append_nil]
def G9(ps:List Nat)(l:List (Option Int)):List (Option Int):=ps.foldl (λl p=>l.set p (some 0)) l
theorem WP:∀ (ps:List Nat) (l:List (Option Int)),(G9 ps l).length=l.length
 | [],_=>rfl
 | p::ps,l=>by
  show(G9 ps (l.set p (some 0))).length=_
  rw[WP,List.length_set]
theorem lD:∀ (ps:List Nat) (l:List (Option Int)) (k:Nat),k<l.length->AF (G9 ps l) k=if k∈ps then some 0 else AF l k
 | [],_,_,_=>by simp[G9]
 | p::ps,l,k,h=>by
  show AF (G9 ps (l.set p (some 0))) k=_
  rw[lD ps _ k (by rw[List.length_set];exact h)]
  by_cases h1:k∈ps
  ·rw[if_pos h1,if_pos (List.mem_cons_of_mem _ h1)]
  ·rw[if_neg h1]
   by_cases h2:k=p
   ·subst h2
    rw[if_pos List.mem_cons_self,D8 h,if_pos rfl]
   ·rw[if_neg (by simp[h1,h2])]
    unfold AF
    rw[List.getElem?_set_ne (λz=>h2 z.symm)]
theorem Zl{vw:Vw}{lf:List Nat}{zs:List Str}(C:Clean vw lf zs)(ok:D3 vw):G9 lf vw.pm=(List.range vw.pc.length).map (DO vw):=by
 apply List.ext_getElem?
 intro k
 by_cases hk:k<vw.pm.length
 ·rw[KH (by rw[WP];exact hk),lD _ _ _ hk,List.getElem?_map,List.getElem?_range (by rw[<-ok.l2];exact hk)]
  have:=C.lm k
  rw[KD]at this
  show some _=some (DO vw k)
  unfold DO
  simp only[this]
 ·rw[List.getElem?_eq_none (by rw[WP];omega),List.getElem?_eq_none (by simp[<-ok.l2];omega)]
theorem Zm{ps:List Nat}{l:List (Option Int)}{p:Nat}:G9 (ps++[p]) l=(G9 ps l).set p (some 0):=by
 unfold G9
 rw[List.foldl_append]
 rfl
def HA(vw:Vw)(i:Nat):Vw:={ vw with rc:=DC (BP vw) vw.rc i,rm:=DC (BX vw) vw.rm i }
theorem Zp(h:OY K a vs H Q E):U7 K a (λ_=>E) (A5 Q) (A1 ["view","led","made","r","p"] vs) H:=by
 obtain⟨A,vw,lf,zs,rfl,I,C,q⟩:=h
 have ok:=I.ok
 have br:=ok.br
 have l1:=ok.l1
 push_cast[U7,↓Dk]
 refine⟨A,vw,lf,rfl,I,λll H1 hll s1 ell=> ?_⟩
 have ell:H1 ll=some (.lst (AW ((List.range vw.rc.length).map (led vw)))):=ell
 have I1:=I.same s1
 push_cast[↓Dl]
 refine .inl ⟨⟨_,SqL.of I1.ob⟩,Zj I1 λA' H2 s2 I2 hv' hL'=> ?_⟩
 have keep:∀ {H':Hp},SameBut (· ∈A'.L) H2 H'->Same H1 H':=λsb b o e=>sb _ _ (s2 _ _ e) λhm=>by rw[hL' b hm]at e;cases e
 push_cast[↓Dz]
 refine⟨vw.rc.length,.inl ⟨_,SqL.of (s2 _ _ ell),by rw[CN,GH]⟩,by omega,by omega,IK (λi σ H'=>(SameBut (· ∈A'.L) H2 H'/\LWAt H' A' (HA vw i) lf)/\∃ y,σ=[some (.ref A.v),some (.ref ll),some (.ref A'.v),y,none]) ⟨⟨SameBut.refl _,I2⟩,_,rfl⟩ (λi σ H3 hi ⟨⟨sb3,J⟩,y,eσ⟩=> ?_) (λσ H3 ⟨⟨sb3,J⟩,y,eσ⟩=> ?_)⟩
 ·subst eσ
  have s3:=keep sb3
  have I3:=I1.same s3
  have hi':i<vw.rm.length:=by rw[l1];exact hi
  have hr3:i<(HA vw i).rc.length:=by
   show i<(DC (BP vw) vw.rc i).length
   rw[Zk (by omega)];exact hi
  push_cast[↓Dy,Int.zero_add]
  refine I3.ix1 hi λv hv=> ?_
  push_cast[]
  cases e:AF vw.rc i with
  | none =>
   rw[e]at hv
   cases (show v=.non from hv)
   refine CF rfl ?_
   have k1:DC (BP vw) vw.rc i=DC (BP vw) vw.rc (i+1):=WO hi (by unfold BP;rw[e])
   push_cast[↓Dp]
   refine I3.ix3 hi λv2 hv2=>RH hv2 ⟨_,rfl,?_⟩
   by_cases h1:AF vw.rm i=some 1
   ·refine CF (by simpa using h1) ?_
    push_cast[↓Dm]
    refine J.at3 (J.set3 (cc:=some 0) hr3 rfl (λ_ _=>trivial) λH4 J4 sb4 tk4=>⟨sb3.trans sb4,?_⟩)
    have:({ HA vw i with rm:=(HA vw i).rm.set i (some 0) }:Vw)=HA vw (i+1):=by
     have e2:some (0:Int)=BX vw i:=by unfold BX;rw[e];simp[h1]
     show Vw.mk vw.nm (DC (BP vw) vw.rc i) vw.pc ((DC (BX vw) vw.rm i).set i (some 0)) vw.pm=_
     rw[e2,RQ hi',k1]
     rfl
    rw[this]at J4
    exact J4
   ·refine BN (by simpa using h1) ⟨sb3,?_⟩
    have:HA vw i=HA vw (i+1):=by
     show Vw.mk vw.nm (DC (BP vw) vw.rc i) vw.pc (DC (BX vw) vw.rm i) vw.pm=_
     rw[k1,WO (f:=BX vw) hi' (by unfold BX;rw[e];simp[h1])]
     rfl
    rw[<-this]
    exact J
  | some d =>
   rw[e]at hv
   obtain⟨p,t,rfl,hp,ht⟩:=hv
   refine BN (by simp) ?_
   push_cast[↓Dx]
   refine FR (s3 _ _ ell) hi ?_
   push_cast[]
   by_cases h0:led vw i=0
   ·refine CF (by omega) ?_
    push_cast[↓Dq]
    refine J.at1 (J.set1 (cc:=none) hr3 rfl (λc h=>by cases h) λH4 J4 sb4 tk4=> ?_)
    push_cast[↓Dv]
    refine J4.at3 (J4.set3 (cc:=some 0) (by simp only[List.length_set];exact hr3) rfl (λ_ _=>trivial) λH5 J5 sb5 tk5=>⟨(sb3.trans sb4).trans sb5,?_⟩)
    have:Vw.mk vw.nm ((DC (BP vw) vw.rc i).set i none) vw.pc ((DC (BX vw) vw.rm i).set i (some 0)) vw.pm=HA vw (i+1):=by
     have e2:some (0:Int)=BX vw i:=by unfold BX;rw[e];simp[h0]
     have e3:(none:EV)=BP vw i:=by unfold BP;rw[e];simp[h0]
     rw[e2,RQ hi',e3,RQ hi]
     rfl
    rw[<-this]
    exact J5
   ·refine BN (by omega) ?_
    push_cast[↓Dw]
    refine FR (s3 _ _ ell) hi (I3.ix1 hi λv2 hv2=> ?_)
    rw[e]at hv2
    obtain⟨p2,t2,rfl,hp2,ht2⟩:=hv2
    refine BZ hp2 (n:=1) rfl rfl ⟨by decide,λnp hnp=> ?_⟩
    have s4:=A0 (o:=.tup [V.int ↑(led vw i),V.ref t2]) hnp
    have e4:upd H3 np (.tup [V.int ↑(led vw i),V.ref t2]) np=some (.tup [V.int ↑(led vw i),V.ref t2]):=AS
    revert s4 e4
    generalize upd H3 np (.tup [V.int ↑(led vw i),V.ref t2])=H4
    intro s4 e4
    have J4:=J.same s4
    have em:BP vw i=some ((led vw i:Int),d.2):=IZ e (by omega)
    refine J4.at1 (J4.set1 (cc:=some ((led vw i:Int),d.2)) hr3 ⟨np,t2,rfl,e4,s4 _ _ ht2⟩ (λc h=>by cases h;exact ok.n2 d (LT e)) λH5 J5 sb5 tk5=>⟨(sb3.trans s4.sb).trans sb5,?_⟩)
    have:Vw.mk vw.nm ((DC (BP vw) vw.rc i).set i (some ((led vw i:Int),d.2))) vw.pc (DC (BX vw) vw.rm i) vw.pm=HA vw (i+1):=by
     rw[<-em,RQ hi,WO (f:=BX vw) hi' (by unfold BX;rw[e];simp[h0])]
     rfl
    rw[<-this]
    exact J5
 ·subst eσ
  have eM:HA vw vw.rc.length={ vw with rc:=(List.range vw.rc.length).map (BP vw),rm:=(List.range vw.rc.length).map (BX vw) }:=by
   show Vw.mk vw.nm (DC (BP vw) vw.rc vw.rc.length) vw.pc (DC (BX vw) vw.rm vw.rc.length) vw.pm=_
   rw[lC,<-l1,lC]
  rw[eM]at J
  have I3:=I1.same (keep sb3)
  push_cast[↓Ec]
  refine I3.at5 ⟨A.a5,rfl,.inl ⟨⟨_,SqL.of I3.l⟩,IJ (xs:=AW lf) (λj σ H'=>(SameBut (· ∈A'.L) H2 H'/\LWAt H' A' { vw with rc:=(List.range vw.rc.length).map (BP vw),rm:=(List.range vw.rc.length).map (BX vw),pm:=G9 (lf.take j) vw.pm } lf)/\∃ y y2,σ=[some (.ref A.v),some (.ref ll),some (.ref A'.v),y,y2]) ⟨⟨sb3,J⟩,_,_,rfl⟩ (λj σ H' _ ⟨⟨sb,_⟩,_⟩=>SqL.of ((I1.same (keep sb)).l)) (λj x σ H4 hx ⟨⟨sb4,J4⟩,y,y2,eσ⟩=> ?_) (λσ H4 ⟨⟨sb4,J4⟩,y,y2,eσ⟩=> ?_)⟩⟩
  ·subst eσ
   unfold AW at hx
   rw[List.getElem?_map,Option.map_eq_some_iff]at hx
   obtain⟨p,ep,rfl⟩:=hx
   have hp:=LS ((C.lm p).mp (List.mem_of_getElem? ep)).1
   push_cast[↓Eb]
   refine J4.at4 (J4.set4 (cc:=some 0) (by rw[<-ok.l2];exact hp) rfl (λ_ _=>trivial) λH5 J5 sb5 tk5=>⟨sb4.trans sb5,?_⟩)
   rw[EW ep,Zm]
   exact J5
  ·subst eσ
   rw[CN,List.take_length,Zl C ok]at J4
   push_cast[↓Ed]
   exact q A' H4 (s1.trans (keep sb4)) J4
theorem Zq(h:OY K a vs H Q E):vs.length=1:=by
 obtain⟨_,_,_,_,rfl,_⟩:=h
 rfl
theorem Zv{w n:Nat}{cs:List Cel}:G4 w n cs cs=0:=by
 unfold G4
 simp
theorem lE{l e0:Addr}(F:FindsL H l [])(h2:H e0=some (.lst []))(q:Q (.bl false) H):B1 K (.ref l) (.ref e0) H Q:=by
 obtain⟨ps,e,P⟩:=F
 cases P
 exact ZU (n:=1) (by decide) (SqL.of e) .nil (SqL.of h2) q
theorem Zw(h:TY K a vs H Q E):V0 K a (λ_=>E) (A5 Q) (A1 ["script","sizes","view","layout","plank","ahead","behind","writings","k","due","found"] vs) H:=by
 obtain⟨s,ns,rfl,T,TL,TP,hs,hns,q⟩:=h
 push_cast[V0,↓Lj,↓Z9]
 refine⟨ns,0,rfl,hs,by omega,_,rfl,λz n r c w H1 s1 ez n1 n6 r1 r6 c1 c6 w1 w6=> ?_⟩
 have bw:∀ k:Nat,k<=6->k * w<=36:=λk hk=>Nat.mul_le_mul hk w6
 obtain⟨ms,ems,hms⟩:=Xl ns (some 2) none
 push_cast[↓Ll]
 refine Q6 (s1.seq hs) λrr hrr=> ?_
 rw[ems]
 have s2:=A0 (o:=.lst (ms.map V.int)) hrr
 have er2:upd H1 rr (.lst (ms.map V.int)) rr=some (.lst (ms.map V.int)):=AS
 revert s2 er2
 generalize upd H1 rr (.lst (ms.map V.int))=H2
 intro s2 er2
 have s02:=s1.trans s2
 simp only[↓Z9]
 refine⟨ns,1,rfl,s02.seq hs,by omega,_,36,rfl,by omega,λnl zs H3 hnl s3 enl hzl hzd hzs=> ?_⟩
 refine⟨rr,z,nl,ms,zs,n,r,c,w,rfl,s3 _ _ er2,by omega,(s2.trans s3) _ _ ez,n1,n6,r1,r6,c1,c6,w1,w6,enl,hzl,hzd,hzs,λA vw lf H4 s4 I4 C sz _ _=> ?_⟩
 have ez4:=((s2.trans s3).trans s4) _ _ ez
 clear s1 s2 s02 hrr s3 er2 s4 ez enl hnl
 push_cast[↓Lm]
 refine BZ ez4 (n:=0) rfl rfl (BZ ez4 (n:=1) rfl rfl (BZ ez4 (n:=2) rfl rfl (BZ ez4 (n:=3) rfl rfl ?_)))
 refine Uw TL (by omega) (by omega) (by omega) w1 (by omega) λly H5 L5 s5=> ?_
 obtain⟨dl,hly⟩:=L5.ob
 have I5:=I4.same s5
 have ez5:=s5 _ _ ez4
 push_cast[↓Lp]
 refine⟨_,_,hly,D0 (by decide +kernel),ly,n,r,c,w,rfl,TL,TP,L5,λgp cl H6 hgp hcl P6 s6=> ?_⟩
 have fc:=I5.fresh hcl
 have nly:ly≠gp/\ly≠cl:=⟨BE hly hgp,BE hly hcl⟩
 push_cast[↓Lq]
 refine BZ (s6 _ _ ez5) (n:=3) rfl rfl ⟨gp,cl,A,vw,lf,n,r,c,w,_,0,rfl,TP,P6,by rw[List.length_replicate],I5.same s6,sz,w1,w6,n6,r6,c6,fc.1,fc.2,λrows7 H7 P7 hl7 pv7 sb7=> ?_⟩
 have keep:∀ {H':Hp},SameBut (λx=>x=gp\/x=cl) H5 H'->Same H5 H':=λsb b o e=>sb _ _ e λz=>z.elim (BE e hgp) (BE e hcl)
 have s7:Same H5 H7:=keep (s6.sb.trans sb7)
 have ok:=I5.ok
 have hCL:(B9 vw).length=(n+r+c+r+c) * w:=by
  rw[kQ vw ok,sz.1,sz.2.1,sz.2.2]
  simp only[Nat.add_mul]
 have hCL2:(B9 (mended vw)).length=(n+r+c+r+c) * w:=by
  have:=congrArg List.length (WM ok)
  rw[List.length_map,List.length_map]at this
  rw[this,hCL]
 have S7:Site K a H7 ly gp cl n r c w rows7 (0+(n+r+c+r+c)) vw:=⟨T,TL,TP,L5.same s7,P7,hl7,pv7,w1,w6,n6,r6,c6⟩
 obtain⟨dp7,hgp7⟩:=P7.ob
 obtain⟨tc7,hcl7,_⟩:=P7.ls
 generalize hM:n+r+c+r+c=M at S7 hCL hCL2 hl7
 have bM:M<=30:=by omega
 clear sb7 pv7 s6 P6 P7 hly
 push_cast[↓Lw]
 refine BZ (s7 _ _ ez5) (n:=3) rfl rfl ⟨A,vw,lf,w,M,rfl,I5.same s7,w1,w6,hCL,λR1 ra1 H8 s8 RA1 hR1 hra1=> ?_⟩
 push_cast[↓Lx]
 refine⟨A,vw,lf,zs,rfl,(I5.same s7).same s8,C,λA' H9 s9 I9=> ?_⟩
 have s79:=s8.trans s9
 refine BZ ((s7.trans s79) _ _ ez5) (n:=3) rfl rfl ⟨A',mended vw,lf,w,M,rfl,I9,w1,w6,hCL2,λR2 ra2 H10 s10 RA2 hR2 hra2=> ?_⟩
 have s710:=s79.trans s10
 have RA1':=RA1.same (s9.trans s10)
 push_cast[↓Ly]
 refine⟨M,RA1'.len,?_⟩
 push_cast[↓Mc]
 have okc:=RP ok
 have okc2:=RP (KG ok)
 have kk:=WM ok
 refine⟨M,RA1'.len,by omega,by omega,IK (λi σ H'=>H'=H10/\∃ y8,σ=[some (.ref s),some (.ref z),some (.ref A.v),some (.ref ly),some (.ref gp),some (.ref R1),some (.ref R2),some (.int ((M+G4 w i (B9 vw) (B9 (mended vw)):Nat):Int)),y8,none,none]) ⟨rfl,_,rfl⟩ (λi σ H' hi ⟨e,y8,eσ⟩=> ?_) (λσ H' ⟨e,y8,eσ⟩=> ?_)⟩
 ·subst e;subst eσ
  push_cast[↓Lz,Int.zero_add]
  refine RA1'.at hi λl1 xs1 e1 P1=>RA2.at hi λl2 xs2 e2 P2=>WG e1 e2 P1 P2 (λc hc=>okc c (L6 hc)) (λc hc=>okc2 c (L6 hc)) (k8 kk).symm ?_
  push_cast[]
  rw[WL]
  by_cases he:CA w (B9 vw) i=CA w (B9 (mended vw)) i
  ·simp[he]
  ·simp[he]
   omega
 subst e;subst eσ
 push_cast[↓Md]
 refine⟨A,vw,lf,zs,rfl,(I5.same s7).same s710,C,by rw[sz.2.2];exact bw c c6,λdu H11 hdu s11 F11=> ?_⟩
 have s711:=s710.trans s11
 have hgp11:=s711 _ _ hgp7
 have hcl11:=s711 _ _ hcl7
 have RA2':=RA2.same s11
 have ndu:du≠gp/\du≠cl:=⟨(BE (s710 _ _ hgp7) hdu).symm,(BE (s710 _ _ hcl7) hdu).symm⟩
 have nR:R2≠gp/\R2≠cl:=⟨(BE (s79 _ _ hgp7) hR2).symm,(BE (s79 _ _ hcl7) hR2).symm⟩
 have nra:∀ l∈ra2,l≠gp/\l≠cl:=λl hl=>⟨(BE (s79 _ _ hgp7) (hra2 l hl)).symm,(BE (s79 _ _ hcl7) (hra2 l hl)).symm⟩
 have S11:=S7.same s711
 clear S7 s8 s9 s10 s11 s79 s710 s711 hR1 hra1 RA1 RA1' RA2 hR2 hra2 I9 I4 hdu hgp7 hcl7
 push_cast[↓Mg]
 refine⟨ly,gp,cl,n,r,c,w,rows7,0+M,vw,rfl,S11,C.faults,λfo rows12 H12 hfo F12 P12 hl12 pv12 sb12=> ?_⟩
 have tk12:CD H11 H12:=λy ys e=>sb12 _ _ e λz=>by
  rcases z with z | z
  ·rw[z,hgp11]at e;cases e
  ·rw[z,hcl11]at e;cases e
 have Fd12:FindsL H12 du (E4 vw):=F11.on (λo e=>sb12 _ _ e λz=>z.elim ndu.1 ndu.2) tk12
 have RA12:RowsAt H12 R2 ra2 w (B9 (mended vw)) M:=RA2'.on (λo e=>sb12 _ _ e λz=>z.elim nR.1 nR.2) (λl hl o e=>sb12 _ _ e λz=>z.elim (nra l hl).1 (nra l hl).2) tk12
 have L12:LayAt a H12 ly n r c w:=S11.la.sb sb12 λz=>z.elim nly.1 nly.2
 have ok2:=KG ok
 have C2:=C.mended ok
 have lv2:=kP C ok
 have nfo:fo≠gp/\fo≠cl:=⟨(BE hgp11 hfo).symm,(BE hcl11 hfo).symm⟩
 have nfR:R2≠fo:=BE RA2'.e hfo
 have nfra:∀ l∈ra2,l≠fo:=λl hl=>by
  obtain⟨k,ek⟩:=JT hl
  obtain⟨b,_,xs,e1,_⟩:=E6 RA2'.p ek
  exact BE e1 hfo
 have nfl:ly≠fo:=by
  obtain⟨d,h⟩:=S11.la.ob
  exact BE h hfo
 rw[hM]at hl12
 rw[hl7]at P12
 generalize hW:G4 w M (B9 vw) (B9 (mended vw))=W at P12
 have S12:Site K a H12 ly gp cl n r c w rows12 (0+M+W) (mended vw):=⟨T,TL,TP,L12,P12,by rw[hl12,hM],pv12,w1,w6,n6,r6,c6⟩
 have st:∀ {H':Hp} {rows:List (List V)} {m:Nat} {Q':VK} {E':XK},PlankAt a H' gp cl w rows m->rows.length=M->PlV H' rows n r c w (mended vw)->RowsAt H' R2 ra2 w (B9 (mended vw)) M->(∀ H2,Same H' H2->Q' (.bl true) H2)->J9 K a [.ref gp,.ref R2] H' Q' E':=λ{H' rows m Q' E'} P hl pv RA q'=>⟨gp,cl,R2,w,rows,m,ra2,B9 (mended vw),rfl,TP,P,by rw[hl];exact RA,pv.asC,by omega,w1,w6,okc2,q'⟩
 clear sb12 tk12 F11 RA2' S11 hgp11 hcl11 hfo L12 kk okc I5 s7 s5 ez4 ez5 keep hgp hcl L5
 obtain⟨pf,ef,PF⟩:=F12
 have F12:FindsL H12 fo (E4 vw):=⟨pf,ef,PF⟩
 obtain⟨dd,D1,D2⟩:=Up (K:=K) F12 Fd12 (Uv vw)
 push_cast[↓Mj]
 refine K9 (.inl (.lst ef)) (.ty _) (b:=true) rfl ⟨true,rfl,BN (by decide) (vS (n:=3) (by decide) D1 D2 ⟨_,rfl,BN (by decide) (st P12 hl12 pv12 RA12 λH13 s13=>⟨true,rfl,BN (by decide) ?_⟩)⟩)⟩
 have ef13:=s13 _ _ ef
 have S13:=S12.same s13
 have RA13:=RA12.same s13
 push_cast[↓Ml]
 refine⟨.inl ⟨rfl,_,SqL.of ef13⟩,fo,_,rfl,rfl,ef13,?_⟩
 have sb14:SameBut (· =fo) H13 (upd H13 fo (.lst [])):=λb o e n=>by rw[AT n];exact e
 have k1:upd H13 fo (.lst []) gp=H13 gp:=AT λz=>nfo.1 z.symm
 have k2:upd H13 fo (.lst []) cl=H13 cl:=AT λz=>nfo.2 z.symm
 revert sb14 k1 k2
 generalize upd H13 fo (.lst [])=H14
 intro sb14 k1 k2
 have tk14:CD H13 H14:=λy ys e=>sb14 _ _ e λz=>by rw[z,ef13]at e;cases e
 have S14:Site K a H14 ly gp cl n r c w rows12 (0+M+W) (mended vw):=⟨T,TL,TP,S13.la.sb sb14 nfl,S13.pl.keep k1 k2 tk14,S13.rl,S13.pv.same tk14,w1,w6,n6,r6,c6⟩
 have RA14:RowsAt H14 R2 ra2 w (B9 (mended vw)) M:=RA13.on (λo e=>sb14 _ _ e nfR) (λl hl o e=>sb14 _ _ e (nfra l hl)) tk14
 clear S12 S13 RA12 RA13 Fd12 F12 PF ef ef13 D1 D2 P12 pv12 k1 k2 sb14 tk14 s13
 push_cast[↓Mp]
 refine⟨ly,gp,mended vw,rfl,S14.ground,λf2 H15 hf2 s15 F15=>⟨by decide,λe0 he0=> ?_⟩⟩
 rw[C2.faults,lv2]at F15
 have s16:=A0 (o:=.lst []) he0
 refine lE (F15.same s16) AS ⟨_,rfl,BN (by decide) ?_⟩
 have s1416:=s15.trans s16
 revert s1416
 generalize upd H15 e0 (.lst [])=H16
 intro s1416
 refine⟨ly,gp,mended vw,rfl,(S14.same s1416).ground,λH17 s17=>⟨_,_,rfl,rfl,_,rfl,BN (by rw[C2.faults];simp) ?_⟩⟩
 have s1417:=s1416.trans s17
 have S17:=S14.same s1417
 have RA17:=RA14.same s1417
 clear S14 RA14
 obtain⟨dp17,hob17⟩:=S17.pl.ob
 obtain⟨tc17,hcl17,_⟩:=S17.pl.ls
 refine⟨_,_,hob17,jR _ _ _,_,_,_,_,_,rfl,TP,S17.pl,?_⟩
 push_cast[]
 push_cast[↓Mv]
 refine⟨ly,gp,cl,n,r,c,w,rows12,0+M+W,mended vw,rfl,S17,C2.faults,λf3 rows18 H18 hf3 F18 P18 hl18 pv18 sb18=>⟨by decide,λe3 he3=> ?_⟩⟩
 rw[Xp C ok]at pv18 P18
 rw[Zv,Nat.add_zero]at P18
 rw[lv2]at F18
 rw[hM]at hl18
 have tk18:CD H17 H18:=λy ys e=>sb18 _ _ e λz=>by
  rcases z with z | z
  ·rw[z,hob17]at e;cases e
  ·rw[z,hcl17]at e;cases e
 have RA18:RowsAt H18 R2 ra2 w (B9 (mended vw)) M:=RA17.on (λo e=>sb18 _ _ e λz=>z.elim nR.1 nR.2) (λl hl o e=>sb18 _ _ e λz=>z.elim (nra l hl).1 (nra l hl).2) tk18
 have s19:=A0 (o:=.lst []) he3
 refine lE (F18.same s19) AS ⟨_,rfl,BN (by decide) ?_⟩
 revert s19
 generalize upd H18 e3 (.lst [])=H19
 intro s19
 have P19:=P18.same s19
 obtain⟨dp19,hob19⟩:=P19.ob
 refine⟨_,_,hob19,jR _ _ _,_,_,_,_,_,rfl,TP,P19,?_⟩
 push_cast[]
 push_cast[↓Mw]
 exact st P19 hl18 (pv18.same s19.tk) (RA18.same s19) λH20 s20=>q _
theorem Zx(h:TY K a vs H Q E):vs.length=1:=by
 obtain⟨_,_,rfl,_⟩:=h
 rfl
end
end L2
namespace L2
def BI(i:Nat):Stmt:=PySem.Challenge.pw_holdback_k53_mended.main.body.getD i (.Pass ⟨0,0,0,0⟩)
structure Txt(K:W.Frag)(mg:Str->Option Value)(a:Ad):Prop where
 DV:Cls K (a "Layout")
 FY:Cls K (a "Plank")
 HW:Cls K (a "View")
 lT:mg "NoBlock"=some (.ref (a "NoBlock"))
 zdt:GV mg "NoBlock" (.ref (a "NoBlock"))
 lU:Exc K (a "NoBlock")
 zdi:mg "NotSound"=some (.ref (a "NotSound"))
 zdu:GV mg "NotSound" (.ref (a "NotSound"))
 zdj:Exc K (a "NotSound")
 lS:mg "bool"=none
 JD:mg "enumerate"=none
 XH:mg "int"=none
 R4:mg "isinstance"=none
 CV:mg "len"=none
 R5:mg "list"=none
 DD:mg "range"=none
 zdh:mg "sorted"=none
 XI:mg "tuple"=none
section
variable(P:Program)(w:World){K:W.Frag}{mg:Str->Option Value}(base:Heap){a:Ad}{f:Addr}{fd:FuncData}
seal wpAny
abbrev KI:Stmt:=DS (BI 5) 1
theorem Zy:FnScope ["self"] ["self"] (AM KI):=.go
theorem Zz(T:Txt K mg a)(F:Fun K "records_led_to" "View.records_led_to" KI f fd)  :
  FP P w K mg base 1 f fd ["self"] (OF K a) :=
 F.okF (TZ K a) Zy Rb Qz λ_ _ _ _ _ E hr hx=>(AV (BJ (DG (tn:=["record","value"]) (cn:=["self"]) (cap:=[0]) (B4 (outer:=AM KI) (N:=["self"]) rfl rfl (by decide +kernel)) rfl (IL rfl T.JD (AE (BV (AB 0) rfl) AJ)) (λ_ _ _ _ _ _=>(HG rfl (ED (BO (i:=0) (show(["record","value","self"]:List Str).Nodup from by decide +kernel) rfl (Or.inl rfl)) (ED (BO (i:=1) (show(["record","value","self"]:List Str).Nodup from by decide +kernel) rfl (Or.inl rfl)) HF)))) (λ_ _ _ _ _ _=>(DT (A8 IF (AN AO (BV (AB 2) rfl) (AB 0) (λ_ _=>rfl)) AI (A3 _)))) (λ_ _ _ _ _ _=>(AB 1)))))
abbrev KJ:Stmt:=DS (BI 5) 2
theorem zaa:FnScope ["self"] ["self"] (AM KJ):=.go
theorem zab(T:Txt K mg a)(F:Fun K "records_standing" "View.records_standing" KJ f fd)  :
  FP P w K mg base 1 f fd ["self"] (JW K a) :=
 F.okF (T1 K a) zaa Qv Qq λ_ _ _ _ _ E hr hx=>(AV (BJ (DG (tn:=["record","value"]) (cn:=[]) (cap:=[]) (B4 (outer:=AM KJ) (N:=["self"]) rfl rfl (by decide +kernel)) rfl (IL rfl T.JD (AE (BV (AB 0) rfl) AJ)) (λ_ _ _ _ _ _=>(HG rfl (ED (BO (i:=0) (show(["record","value"]:List Str).Nodup from by decide +kernel) rfl (Or.inl rfl)) (ED (BO (i:=1) (show(["record","value"]:List Str).Nodup from by decide +kernel) rfl (Or.inl rfl)) HF)))) (λ_ _ _ _ _ _=>(DT (A8 K7 (AB 1) DR (A3 _)))) (λ_ _ _ _ _ _=>(AB 0)))))
abbrev KK:Stmt:=DS (BI 5) 3
theorem zac:FnScope ["self"] ["self"] (AM KK):=.go
theorem zad(T:Txt K mg a)(F:Fun K "pieces_named" "View.pieces_named" KK f fd)  :
  FP P w K mg base 1 f fd ["self"] (IW K a) :=
 F.okF (T2 K a) zac Qy Qx λ_ _ _ _ _ E hr hx=>(AV (BJ (DG (tn:=["piece","many"]) (cn:=[]) (cap:=[]) (B4 (outer:=AM KK) (N:=["self"]) rfl rfl (by decide +kernel)) rfl (IL rfl T.JD (AE (BV (AB 0) rfl) AJ)) (λ_ _ _ _ _ _=>(HG rfl (ED (BO (i:=0) (show(["piece","many"]:List Str).Nodup from by decide +kernel) rfl (Or.inl rfl)) (ED (BO (i:=1) (show(["piece","many"]:List Str).Nodup from by decide +kernel) rfl (Or.inl rfl)) HF)))) (λ_ _ _ _ _ _=>(DT (A8 IF (AB 1) AI (A3 _)))) (λ_ _ _ _ _ _=>(AB 0)))))
abbrev L7:Stmt:=DS (BI 5) 4
theorem zae:FnScope ["self","record"] ["self","record"] (AM L7):=.go
theorem zaf(T:Txt K mg a)(F:Fun K "count_of" "View.count_of" L7 f fd)  :
  FP P w K mg base 1 f fd ["self","record"] (JX K a) :=
 F.okF (T3 K a) zae Qp Qm λ_ _ _ _ _ E hr hx=>(AV (BJ (AN AO (AN AO (BV (AB 0) rfl) (AB 1) (λ_ _=>rfl)) AI (λ_ _=>rfl))))
abbrev L8:Stmt:=BI 9
theorem L9:FnScope ["view","lost","twice","seen","k","value"] ["view"] (AM L8):=.go
theorem zag(T:Txt K mg a)(F:Fun K "faults_of_names" "faults_of_names" L8 f fd)  :
  FP P w K mg base 1 f fd ["view"] (OG K a) :=
 F.okF (T5 K a) L9 Sd Sc λ_ _ _ _ _ E hr hx=>(AR (BD 1 L9.nd (C0 AJ))
   (AR (BD 2 L9.nd (C0 AJ))
   (AR (BD 3 L9.nd pU)
   (AR (EE hx.po rfl (IL rfl T.JD (AE (BV (AB 0) rfl) AJ)) (HG rfl (ED (EG 4 L9.nd) (ED (EG 5 L9.nd) HF))) (AV (CB (A8 K7 (AB 5) DR (A3 _)) (AR (CB (A8 GU (AN AO (BV (AB 0) rfl) (AN AO (AB 5) AI (λ_ _=>rfl)) (λ_ _=>rfl)) DR (A3 _)) (AV (DE (FL PySem.F.plainAttrs_list PySem.F.slot_list_append PySem.F.type_list_append IB (AB 1) (AE (CZ (AE CG (AE (AB 4) AJ))) AJ)))) CO)
   (AR (CB (mJ (pQ (IC hr) (AN AO (AB 5) AI (λ_ _=>rfl)) (AB 3)) (by with_unfolding_all rfl)) (AV (DE (FL PySem.F.plainAttrs_list PySem.F.slot_list_append PySem.F.type_list_append IB (AB 2) (AE (CZ (AE CG (AE (AB 4) AJ))) AJ)))) CO)
   (AV (pR (IC hr) (AB 3) (AN AO (AB 5) AI (λ_ _=>rfl)) GP rfl)))) CO)))
   (AV (BJ (AU BK (AB 1) (AB 2))))))))
abbrev JA:Stmt:=BI 14
theorem lF:FnScope ["view","marked"] ["view"] (AM JA):=.go
theorem zah(T:Txt K mg a)(F:Fun K "left_pieces" "left_pieces" JA f fd)  :
  FP P w K mg base 1 f fd ["view"] (OK K a) :=
 F.okF (T6 K a) lF Rg Rc λ_ _ _ _ _ E hr hx=>(AR (EZ (i:=1) (tn:=["piece","mark"]) (cn:=[]) (cap:=[]) (B4 (outer:=AM JA) (N:=["view","marked"]) rfl rfl (by decide +kernel)) rfl lF.nd rfl rfl (IL rfl T.JD (AE (BV (AB 0) rfl) AJ)) (λ_ _ _ _ _ _=>(HG rfl (ED (BO (i:=0) (show(["piece","mark"]:List Str).Nodup from by decide +kernel) rfl (Or.inl rfl)) (ED (BO (i:=1) (show(["piece","mark"]:List Str).Nodup from by decide +kernel) rfl (Or.inl rfl)) HF)))) (λ_ _ _ _ _ _=>(DT (A8 (DH hr.units) (AB 1) AI (A3 _)))) (λ_ _ _ _ _ _=>(AB 0)))
   (AV (BJ (DG (tn:=["piece"]) (cn:=["view"]) (cap:=[0]) (B4 (outer:=AM JA) (N:=["view","marked"]) rfl rfl (by decide +kernel)) rfl (DM (AB 1)) (λ_ _ _ _ _ _=>(BO (i:=0) (show(["piece","view"]:List Str).Nodup from by decide +kernel) rfl (Or.inl rfl))) (λ_ _ _ _ _ _=>(DT (A8 (DH hr.units) (AN AO (BV (AB 1) rfl) (AB 0) (λ_ _=>rfl)) AI (A3 _)))) (λ_ _ _ _ _ _=>(CZ (AE CG (AE CG (AE (AB 0) AJ)))))))))
abbrev JB:Stmt:=BI 15
theorem lG:FnScope ["view","marked"] ["view"] (AM JB):=.go
theorem zai(T:Txt K mg a)(F:Fun K "marked_records" "marked_records" JB f fd)  :
  FP P w K mg base 1 f fd ["view"] (OL K a) :=
 F.okF (T7 K a) lG Rj Rh λ_ _ _ _ _ E hr hx=>(AR (EZ (i:=1) (tn:=["record","mark"]) (cn:=[]) (cap:=[]) (B4 (outer:=AM JB) (N:=["view","marked"]) rfl rfl (by decide +kernel)) rfl lG.nd rfl rfl (IL rfl T.JD (AE (BV (AB 0) rfl) AJ)) (λ_ _ _ _ _ _=>(HG rfl (ED (BO (i:=0) (show(["record","mark"]:List Str).Nodup from by decide +kernel) rfl (Or.inl rfl)) (ED (BO (i:=1) (show(["record","mark"]:List Str).Nodup from by decide +kernel) rfl (Or.inl rfl)) HF)))) (λ_ _ _ _ _ _=>(DT (A8 (DH hr.units) (AB 1) AI (A3 _)))) (λ_ _ _ _ _ _=>(AB 0)))
   (AV (BJ (DG (tn:=["record"]) (cn:=["view"]) (cap:=[0]) (B4 (outer:=AM JB) (N:=["view","marked"]) rfl rfl (by decide +kernel)) rfl (DM (AB 1)) (λ_ _ _ _ _ _=>(BO (i:=0) (show(["record","view"]:List Str).Nodup from by decide +kernel) rfl (Or.inl rfl))) (λ_ _ _ _ _ _=>(DT (A8 GU (AN AO (BV (AB 1) rfl) (AB 0) (λ_ _=>rfl)) DR (A3 _)))) (λ_ _ _ _ _ _=>(CZ (AE CG (AE (AB 0) AJ))))))))
abbrev KL:Stmt:=BI 17
theorem WQ:FnScope ["many","numbers","counts","number"] ["many","numbers"] (AM KL):=.go
theorem zaj(T:Txt K mg a)(F:Fun K "tally" "tally" KL f fd)  :
  FP P w K mg base 1 f fd ["many","numbers"] (JV K a) :=
 F.okF (T8 K a) WQ Sk Sj λ_ _ _ _ _ E hr hx=>(AR (EZ (i:=2) (tn:=["k"]) (cn:=[]) (cap:=[]) (B4 (outer:=AM KL) (N:=["many","numbers","counts","number"]) rfl rfl (by decide +kernel)) rfl WQ.nd rfl rfl (DL rfl T.DD (AE (AB 0) AJ)) (λ_ _ _ _ _ _=>(BO (i:=0) (show(["k"]:List Str).Nodup from by decide +kernel) rfl (Or.inl rfl))) (λ_ _ _ _ _ _=>EQ) (λ_ _ _ _ _ _=>AI))
   (AR (EE hx.po rfl (DM (AB 1)) (EG 3 WQ.nd) (AV (wD (AB 2) (AB 3) AI X3)))
   (AV (BJ (AB 2)))))
abbrev MA:Stmt:=BI 18
theorem WR:FnScope ["records","pieces","value"] ["records"] (AM MA):=.go
theorem zak(T:Txt K mg a)(F:Fun K "pieces_in" "pieces_in" MA f fd)  :
  FP P w K mg base 1 f fd ["records"] (LH K a) :=
 F.okF (T9 K a) WR Sm Sl λ_ _ _ _ _ E hr hx=>(AR (BD 1 WR.nd (C0 AJ))
   (AR (EE hx.po rfl (DM (AB 0)) (EG 2 WR.nd) (AV (CB (A8 K7 (AB 2) DR (A3 _)) (AV (DE (FL PySem.F.plainAttrs_list PySem.F.slot_list_extend PySem.F.type_list_extend wF (AB 1) (AE (AN AO (AB 2) AI (λ_ _=>rfl)) AJ)))) CO)))
   (AV (BJ (AB 1)))))
abbrev KM:Stmt:=DS (BI 24) 0
theorem zal:FnScope ["self","blocks","cells"] ["self","blocks","cells"] (AM KM):=.go
theorem zam(T:Txt K mg a)(F:Fun K "__init__" "Plank.__init__" KM f fd)  :
  FP P w K mg base 1 f fd ["self","blocks","cells"] (N3 K a) :=
 F.okF (UA K a) zal Ng Mx λ_ _ _ _ _ E hr hx=>(AR (ER (AB 0) (DG (tn:=["block"]) (cn:=["cells"]) (cap:=[2]) (B4 (outer:=AM KM) (N:=["self","blocks","cells"]) rfl rfl (by decide +kernel)) rfl (DL rfl T.DD (AE (AB 1) AJ)) (λ_ _ _ _ _ _=>(BO (i:=0) (show(["block","cells"]:List Str).Nodup from by decide +kernel) rfl (Or.inl rfl))) (λ_ _ _ _ _ _=>EQ) (λ_ _ _ _ _ _=>(AU E3 (CZ (AE DR AJ)) (AB 1)))) rfl)
   (AR (ER (AB 0) (AB 2) rfl)
   (AV (ER (AB 0) AI rfl))))
abbrev MB:Stmt:=DS (BI 24) 1
theorem zan:FnScope ["self"] ["self"] (AM MB):=.go
theorem zao(T:Txt K mg a)(F:Fun K "blocks" "Plank.blocks" MB f fd)  :
  FP P w K mg base 1 f fd ["self"] (N5 K a) :=
 F.okF (UB K a) zan Nh My λ_ _ _ _ _ E hr hx=>(AV (BJ (CI CT rfl T.CV (by rfl) (AE (BV (AB 0) rfl) AJ))))
abbrev MC:Stmt:=DS (BI 24) 3
theorem zap:FnScope ["self"] ["self"] (AM MC):=.go
theorem zaq(T:Txt K mg a)(F:Fun K "writings" "Plank.writings" MC f fd)  :
  FP P w K mg base 1 f fd ["self"] (LC K a) :=
 F.okF (UC K a) zap Np Nm λ_ _ _ _ _ E hr hx=>(AV (BJ (BV (AB 0) rfl)))
abbrev MD:Stmt:=DS (BI 24) 6
theorem zar:FnScope ["self","block"] ["self","block"] (AM MD):=.go
theorem zas(T:Txt K mg a)(F:Fun K "ask_for_block" "Plank.ask_for_block" MD f fd)  :
  FP P w K mg base 1 f fd ["self","block"] (HK K a) :=
 F.okF (UD K a) zar Nj Mz λ_ _ _ _ _ E hr hx=>(AV (CB (PX (nT qS QZ AI (AB 1) (CI CT rfl T.CV (by rfl) (AE (BV (AB 0) rfl) AJ)))) (AV (S3 hx T.lU rfl T.lT (AE CG AJ))) CO))
abbrev ME:Stmt:=DS (BI 26) 0
theorem zat:FnScope ["self","names","records","pieces","cells"] ["self","names","records","pieces","cells"] (AM ME):=.go
theorem zau(T:Txt K mg a)(F:Fun K "__init__" "Layout.__init__" ME f fd)  :
  FP P w K mg base 1 f fd ["self","names","records","pieces","cells"] (LE K a) :=
 F.okF (UE K a) zat Pm Nx λ_ _ _ _ _ E hr hx=>(AR (ER (AB 0) (AB 1) rfl)
   (AR (ER (AB 0) (AB 2) rfl)
   (AR (ER (AB 0) (AB 3) rfl)
   (AV (ER (AB 0) (AB 4) rfl)))))
abbrev MF:Stmt:=DS (BI 26) 6
theorem zav:FnScope ["self"] ["self"] (AM MF):=.go
theorem zaw(T:Txt K mg a)(F:Fun K "counts" "Layout.counts" MF f fd)  :
  FP P w K mg base 1 f fd ["self"] (OB K a) :=
 F.okF (UF K a) zav Qd Pk λ_ _ _ _ _ E hr hx=>(AV (BJ (CZ (AE (AU E3 (BV (AB 0) rfl) (BV (AB 0) rfl)) (AE (AU E3 (BV (AB 0) rfl) (BV (AB 0) rfl)) (AE (AU E3 (BV (AB 0) rfl) (BV (AB 0) rfl)) AJ))))))
abbrev MG:Stmt:=DS (BI 26) 9
theorem zax:FnScope ["self"] ["self"] (AM MG):=.go
theorem zay(T:Txt K mg a)(F:Fun K "blocks_ahead_of_marks" "Layout.blocks_ahead_of_marks" MG f fd)  :
  FP P w K mg base 1 f fd ["self"] (HL K a) :=
 F.okF (UG K a) zax Qb Ph λ_ _ _ _ _ E hr hx=>(AV (BJ (AU BK (AU BK (BV (AB 0) rfl) (BV (AB 0) rfl)) (BV (AB 0) rfl))))
abbrev MH:Stmt:=DS (BI 26) 10
theorem zaz:FnScope ["self","block","k"] ["self","block","k"] (AM MH):=.go
theorem za0(T:Txt K mg a)(F:Fun K "place_from" "Layout.place_from" MH f fd)  :
  FP P w K mg base 1 f fd ["self","block","k"] (FB K a) :=
 F.okF (UH K a) zaz Pp Ny λ_ _ _ _ _ E hr hx=>(AV (BJ (CZ (AE (AU BK (AB 1) (AU FH (AB 2) (BV (AB 0) rfl))) (AE (AU B6 (AB 2) (BV (AB 0) rfl)) AJ)))))
abbrev MI:Stmt:=BI 28
theorem za1:FnScope ["script","k"] ["script","k"] (AM MI):=.go
theorem za2(T:Txt K mg a)(F:Fun K "_law_cell_at" "_law_cell_at" MI f fd)  :
  FP P w K mg base 1 f fd ["script","k"] (IR K a) :=
 F.okF (UI K a) za1 Nv Nq λ_ _ _ _ _ E hr hx=>(AR (CB (A8 QZ (AB 1) (CI CT rfl T.CV (by rfl) (AE (AB 0) AJ)) (A3 _)) (AV (BJ (AN AO (AB 0) (AB 1) (λ_ _=>rfl)))) CO)
   (AV (BJ AI)))
abbrev MJ:Stmt:=BI 29
theorem KN:FnScope ["cell","many","here","there","found","k"] ["cell","many"] (AM MJ):=.go
theorem za3(T:Txt K mg a)(F:Fun K "_law_spun" "_law_spun" MJ f fd)  :
  FP P w K mg base 1 f fd ["cell","many"] (GF K a) :=
 F.okF (UJ K a) KN Tq Tp λ_ _ _ _ _ E hr hx=>(AR (BD 2 KN.nd (AU BK (AU B6 (AB 0) AI) AI))
   (AR (BD 3 KN.nd (AU BK (AU B6 (AU FH (AB 0) AI) AI) AI))
   (AR (BD 4 KN.nd (C0 AJ))
   (AR (EE hx.po rfl (DL rfl T.DD (AE (AB 1) AJ)) (EG 5 KN.nd) (AR (BD 2 KN.nd (AU B6 (AU BK (AU E3 (AB 2) AI) (AB 3)) AI))
   (AR (BD 3 KN.nd (AU B6 (AU BK (AU BK (AU E3 (AB 3) AI) (AU E3 (AB 2) (AB 2))) (AB 5)) AI))
   (AV (DE (FL PySem.F.plainAttrs_list PySem.F.slot_list_append PySem.F.type_list_append IB (AB 4) (AE (AU BK (AB 2) (AB 3)) AJ)))))))
   (AV (BJ (AB 4)))))))
abbrev MK:Stmt:=BI 33
theorem WS:FnScope ["view","led","cell"] ["view"] (AM MK):=.go
theorem za4(T:Txt K mg a)(F:Fun K "_law_led" "_law_led" MK f fd)  :
  FP P w K mg base 1 f fd ["view"] (HM K a) :=
 F.okF (UK K a) WS Vp Vm λ_ _ _ _ _ E hr hx=>(AR (BD 1 WS.nd (AU E3 (C0 (AE AI AJ)) (CI CT rfl T.CV (by rfl) (AE (AN AO (AB 0) AI (λ_ _=>rfl)) AJ))))
   (AR (EE hx.po rfl (DM (AN AO (AB 0) AI (λ_ _=>rfl))) (EG 2 WS.nd) (AV (CB (A8 K7 (AB 2) DR (A3 _)) (AV (EA (AU BK (AN AO (AB 1) (AN AO (AB 2) AI (λ_ _=>rfl)) (λ_ _=>rfl)) AI) (D9 (AB 1) (AN AO (AB 2) AI (λ_ _=>rfl)) D6))) CO)))
   (AV (BJ (AB 1)))))
abbrev KO:Stmt:=BI 34
theorem za5:FnScope ["view"] ["view"] (AM KO):=.go
theorem za6(T:Txt K mg a)(F:Fun K "_law_free_names" "_law_free_names" KO f fd)  :
  FP P w K mg base 1 f fd ["view"] (HN K a) :=
 F.okF (UL K a) za5 Vg Vd λ_ _ _ _ _ E hr hx=>(AV (BJ (DG (tn:=["k"]) (cn:=["view"]) (cap:=[0]) (B4 (outer:=AM KO) (N:=["view"]) rfl rfl (by decide +kernel)) rfl (DL rfl T.DD (AE (CI CT rfl T.CV (by rfl) (AE (AN AO (AB 0) AI (λ_ _=>rfl)) AJ)) AJ)) (λ_ _ _ _ _ _=>(BO (i:=0) (show(["k","view"]:List Str).Nodup from by decide +kernel) rfl (Or.inl rfl))) (λ_ _ _ _ _ _=>(DT (A8 GU (AN AO (AN AO (AB 1) AI (λ_ _=>rfl)) (AB 0) (λ_ _=>rfl)) DR (A3 _)))) (λ_ _ _ _ _ _=>(AB 0)))))
abbrev KP:Stmt:=BI 35
theorem za7:FnScope ["view"] ["view"] (AM KP):=.go
theorem za8(T:Txt K mg a)(F:Fun K "_law_free_records" "_law_free_records" KP f fd)  :
  FP P w K mg base 1 f fd ["view"] (J6 K a) :=
 F.okF (UM K a) za7 Vj Vh λ_ _ _ _ _ E hr hx=>(AV (BJ (DG (tn:=["r"]) (cn:=["view"]) (cap:=[0]) (B4 (outer:=AM KP) (N:=["view"]) rfl rfl (by decide +kernel)) rfl (DL rfl T.DD (AE (CI CT rfl T.CV (by rfl) (AE (AN AO (AB 0) AI (λ_ _=>rfl)) AJ)) AJ)) (λ_ _ _ _ _ _=>(BO (i:=0) (show(["r","view"]:List Str).Nodup from by decide +kernel) rfl (Or.inl rfl))) (λ_ _ _ _ _ _=>(DT (PW.pt (GR (A8 GU (AN AO (AN AO (AB 1) AI (λ_ _=>rfl)) (AB 0) (λ_ _=>rfl)) DR (A3 _)) (GQ (A8 GU (AN AO (AN AO (AB 1) AI (λ_ _=>rfl)) (AB 0) (λ_ _=>rfl)) DR (A3 _))))))) (λ_ _ _ _ _ _=>(AB 0)))))
abbrev KQ:Stmt:=BI 36
theorem za9:FnScope ["view"] ["view"] (AM KQ):=.go
theorem zba(T:Txt K mg a)(F:Fun K "_law_free_pieces" "_law_free_pieces" KQ f fd)  :
  FP P w K mg base 1 f fd ["view"] (J7 K a) :=
 F.okF (UN K a) za9 Vl Vk λ_ _ _ _ _ E hr hx=>(AV (BJ (DG (tn:=["p"]) (cn:=["view"]) (cap:=[0]) (B4 (outer:=AM KQ) (N:=["view"]) rfl rfl (by decide +kernel)) rfl (DL rfl T.DD (AE (CI CT rfl T.CV (by rfl) (AE (AN AO (AB 0) AI (λ_ _=>rfl)) AJ)) AJ)) (λ_ _ _ _ _ _=>(BO (i:=0) (show(["p","view"]:List Str).Nodup from by decide +kernel) rfl (Or.inl rfl))) (λ_ _ _ _ _ _=>(DT (PW.pt (GR (A8 GU (AN AO (AN AO (AB 1) AI (λ_ _=>rfl)) (AB 0) (λ_ _=>rfl)) DR (A3 _)) (GQ (A8 GU (AN AO (AN AO (AB 1) AI (λ_ _=>rfl)) (AB 0) (λ_ _=>rfl)) DR (A3 _))))))) (λ_ _ _ _ _ _=>(AB 0)))))
abbrev KR:Stmt:=BI 46
theorem lH:FnScope ["view","cells","flat"] ["view","cells"] (AM KR):=.go
theorem zbb(T:Txt K mg a)(F:Fun K "_law_rows" "_law_rows" KR f fd)  :
  FP P w K mg base 1 f fd ["view","cells"] (LK K a) :=
 F.okF (UO K a) lH Zb Yz λ_ _ _ _ _ E hr hx=>(AR (GS (i:=2) lH.nd rfl (Or.inr rfl) (AU BK (AU BK (AU BK (AU BK (AN AO (AB 0) AI (λ_ _=>rfl)) (AN AO (AB 0) AI (λ_ _=>rfl))) (AN AO (AB 0) AI (λ_ _=>rfl))) (AN AO (AB 0) AI (λ_ _=>rfl))) (AN AO (AB 0) AI (λ_ _=>rfl))))
   (AV (BJ (DG (tn:=["k"]) (cn:=["flat","cells"]) (cap:=[2,1]) (B4 (outer:=AM KR) (N:=["view","cells","flat"]) rfl rfl (by decide +kernel)) rfl (Z0 rfl T.DD (AE AI (AE (CI CT rfl T.CV (by rfl) (AE (AB 2) AJ)) (AE (AB 1) AJ)))) (λ_ _ _ _ _ _=>(BO (i:=0) (show(["k","flat","cells"]:List Str).Nodup from by decide +kernel) rfl (Or.inl rfl))) (λ_ _ _ _ _ _=>EQ) (λ_ _ _ _ _ _=>(NI NV (AB 1) (IA (AB 0)) (IA (AU BK (AB 0) (AB 2)))))))))
abbrev HR:Stmt:=BI 10
theorem RR:FnScope ["view","shared","empty","few"] ["view"] (AM HR):=.go
theorem zbc(T:Txt K mg a)(F:Fun K "faults_of_things" "faults_of_things" HR f fd)(R3:B2 P w K mg base (a "View") 1 "pieces_named" ["self"] (IW K a))(XF:B2 P w K mg base (a "View") 1 "records_standing" ["self"] (JW K a))(XD:B2 P w K mg base (a "View") 1 "count_of" ["self","record"] (JX K a)) :
  FP P w K mg base 2 f fd ["view"] (OH K a) :=
 F.okF (UP K a) RR Rx Rw λ_ _ _ _ _ E hr hx=>(AR (EZ (i:=1) (tn:=["piece"]) (cn:=["view"]) (cap:=[0]) (B4 (outer:=AM HR) (N:=["view","shared","empty","few"]) rfl rfl (by decide +kernel)) rfl RR.nd rfl rfl (DM (ES (AB 0) T.HW R3 hr.m hx.passes)) (λ_ _ _ _ _ _=>(BO (i:=0) (show(["piece","view"]:List Str).Nodup from by decide +kernel) rfl (Or.inl rfl))) (λ_ _ _ _ _ _=>(DT (A8 IF (AN AO (BV (AB 1) rfl) (AB 0) (λ_ _=>rfl)) AI (A3 _)))) (λ_ _ _ _ _ _=>(CZ (AE CG (AE (AB 0) AJ)))))
   (AR (EZ (i:=2) (tn:=["piece"]) (cn:=["view"]) (cap:=[0]) (B4 (outer:=AM HR) (N:=["view","shared","empty","few"]) rfl rfl (by decide +kernel)) rfl RR.nd rfl rfl (DM (ES (AB 0) T.HW R3 hr.m hx.passes)) (λ_ _ _ _ _ _=>(BO (i:=0) (show(["piece","view"]:List Str).Nodup from by decide +kernel) rfl (Or.inl rfl))) (λ_ _ _ _ _ _=>(DT (A8 GU (AN AO (BV (AB 1) rfl) (AB 0) (λ_ _=>rfl)) DR (A3 _)))) (λ_ _ _ _ _ _=>(CZ (AE CG (AE (AB 0) AJ)))))
   (AR (EZ (i:=3) (tn:=["record"]) (cn:=["view"]) (cap:=[0]) (B4 (outer:=AM HR) (N:=["view","shared","empty","few"]) rfl rfl (by decide +kernel)) rfl RR.nd rfl rfl (DM (ES (AB 0) T.HW XF hr.m hx.passes)) (λ_ _ _ _ _ _=>(BO (i:=0) (show(["record","view"]:List Str).Nodup from by decide +kernel) rfl (Or.inl rfl))) (λ_ _ _ _ _ _=>(DT (A8 QZ (DA (AB 1) T.HW XD hr.m JN (AE (AB 0) AJ)) (AN AO (BV (AB 1) rfl) (AB 0) (λ_ _=>rfl)) (A3 _)))) (λ_ _ _ _ _ _=>(CZ (AE CG (AE (AB 0) AJ)))))
   (AV (BJ (AU BK (AU BK (AB 1) (AB 2)) (AB 3)))))))
abbrev HS:Stmt:=BI 11
theorem RS:FnScope ["view","led_to","records","pieces"] ["view"] (AM HS):=.go
theorem zbd(T:Txt K mg a)(F:Fun K "faults_of_marks" "faults_of_marks" HS f fd)(R3:B2 P w K mg base (a "View") 1 "pieces_named" ["self"] (IW K a)) :
  FP P w K mg base 2 f fd ["view"] (OI K a) :=
 F.okF (UQ K a) RS Rv Rq λ_ _ _ _ _ E hr hx=>(AR (EZ (i:=1) (tn:=["record","many"]) (cn:=[]) (cap:=[]) (B4 (outer:=AM HS) (N:=["view","led_to","records","pieces"]) rfl rfl (by decide +kernel)) rfl RS.nd rfl rfl (IL rfl T.JD (AE (BV (AB 0) rfl) AJ)) (λ_ _ _ _ _ _=>(HG rfl (ED (BO (i:=0) (show(["record","many"]:List Str).Nodup from by decide +kernel) rfl (Or.inl rfl)) (ED (BO (i:=1) (show(["record","many"]:List Str).Nodup from by decide +kernel) rfl (Or.inl rfl)) HF)))) (λ_ _ _ _ _ _=>(DT (A8 IF (AB 1) AI (A3 _)))) (λ_ _ _ _ _ _=>(AB 0)))
   (AR (EZ (i:=2) (tn:=["record"]) (cn:=["view"]) (cap:=[0]) (B4 (outer:=AM HS) (N:=["view","led_to","records","pieces"]) rfl rfl (by decide +kernel)) rfl RS.nd rfl rfl (DM (AB 1)) (λ_ _ _ _ _ _=>(BO (i:=0) (show(["record","view"]:List Str).Nodup from by decide +kernel) rfl (Or.inl rfl))) (λ_ _ _ _ _ _=>(DT (A8 (EK hr.units) (AN AO (BV (AB 1) rfl) (AB 0) (λ_ _=>rfl)) AI (A3 _)))) (λ_ _ _ _ _ _=>(CZ (AE CG (AE CG (AE (AB 0) AJ))))))
   (AR (EZ (i:=3) (tn:=["piece"]) (cn:=["view"]) (cap:=[0]) (B4 (outer:=AM HS) (N:=["view","led_to","records","pieces"]) rfl rfl (by decide +kernel)) rfl RS.nd rfl rfl (DM (ES (AB 0) T.HW R3 hr.m hx.passes)) (λ_ _ _ _ _ _=>(BO (i:=0) (show(["piece","view"]:List Str).Nodup from by decide +kernel) rfl (Or.inl rfl))) (λ_ _ _ _ _ _=>(DT (A8 (EK hr.units) (AN AO (BV (AB 1) rfl) (AB 0) (λ_ _=>rfl)) AI (A3 _)))) (λ_ _ _ _ _ _=>(CZ (AE CG (AE CG (AE (AB 0) AJ))))))
   (AV (BJ (AU BK (AB 2) (AB 3)))))))
abbrev ML:Stmt:=BI 13
theorem O7:FnScope ["view","many","left","record","leads"] ["view"] (AM ML):=.go
theorem zbe(T:Txt K mg a)(F:Fun K "leavings_of_records" "leavings_of_records" ML f fd)(XF:B2 P w K mg base (a "View") 1 "records_standing" ["self"] (JW K a))(XD:B2 P w K mg base (a "View") 1 "count_of" ["self","record"] (JX K a)) :
  FP P w K mg base 2 f fd ["view"] (OJ K a) :=
 F.okF (UR K a) O7 Sb Rz λ_ _ _ _ _ E hr hx=>(AR (BD 1 O7.nd (C0 AJ))
   (AR (BD 2 O7.nd (C0 AJ))
   (AR (EE hx.po rfl (DM (ES (AB 0) T.HW XF hr.m hx.passes)) (EG 3 O7.nd) (AR (BD 4 O7.nd (AN AO (BV (AB 0) rfl) (AB 3) (λ_ _=>rfl)))
   (AV (CB (A8 (DH hr.units) (AB 4) AI (A3 _)) (AV (DE (FL PySem.F.plainAttrs_list PySem.F.slot_list_append PySem.F.type_list_append IB (AB 2) (AE (CZ (AE CG (AE CG (AE (AB 3) AJ)))) AJ)))) (AV (CB (A8 IF (DA (AB 0) T.HW XD hr.m hx.passes (AE (AB 3) AJ)) (AB 4) (A3 _)) (AV (DE (FL PySem.F.plainAttrs_list PySem.F.slot_list_append PySem.F.type_list_append IB (AB 1) (AE (CZ (AE CG (AE (AB 3) (AE (AB 4) AJ)))) AJ)))) CO))))))
   (AV (BJ (AU BK (AB 1) (AB 2)))))))
abbrev MM:Stmt:=DS (BI 24) 4
theorem zbf:FnScope ["self","block"] ["self","block"] (AM MM):=.go
theorem zbg(T:Txt K mg a)(F:Fun K "read" "Plank.read" MM f fd)(XB:B2 P w K mg base (a "Plank") 1 "ask_for_block" ["self","block"] (HK K a)) :
  FP P w K mg base 2 f fd ["self","block"] (GD K a) :=
 F.okF (US K a) zbf Nk Nb λ_ _ _ _ _ E hr hx=>(AR (DE (DA (AB 0) T.FY XB hr.m hx.passes (AE (AB 1) AJ)))
   (AV (BJ (HZ S8 rfl T.R5 (by rfl) (AE (AN AO (BV (AB 0) rfl) (AB 1) (λ_ _=>rfl)) AJ)))))
abbrev MN:Stmt:=DS (BI 24) 5
theorem zbh:FnScope ["self","block","values"] ["self","block","values"] (AM MN):=.go
theorem zbi(T:Txt K mg a)(F:Fun K "write" "Plank.write" MN f fd)(XB:B2 P w K mg base (a "Plank") 1 "ask_for_block" ["self","block"] (HK K a)) :
  FP P w K mg base 2 f fd ["self","block","values"] (JS K a) :=
 F.okF (UT K a) zbh Nl Nd λ_ _ _ _ _ E hr hx=>(AR (DE (DA (AB 0) T.FY XB hr.m hx.passes (AE (AB 1) AJ)))
   (AR (CB (A8 (EK hr.units) (CI CT rfl T.CV (by rfl) (AE (AB 2) AJ)) (BV (AB 0) rfl) (A3 _)) (AV (S3 hx T.lU rfl T.lT (AE CG AJ))) CO)
   (AR (EA (HZ ZB rfl T.XI (by rfl) (AE (AB 2) AJ)) (D9 (BV (AB 0) rfl) (AB 1) D6))
   (AV (oH (AB 0) AI X3)))))
abbrev MO:Stmt:=DS (BI 26) 1
theorem zbj:FnScope ["self","k"] ["self","k"] (AM MO):=.go
theorem zbk(T:Txt K mg a)(F:Fun K "name_at" "Layout.name_at" MO f fd)(HV:B2 P w K mg base (a "Layout") 1 "place_from" ["self","block","k"] (FB K a)) :
  FP P w K mg base 2 f fd ["self","k"] (N7 K a) :=
 F.okF (UU K a) zbj Pq Nz λ_ _ _ _ _ E hr hx=>(AV (BJ (DA (AB 0) T.DV HV hr.m hx.passes (AE AI (AE (AB 1) AJ)))))
abbrev MP:Stmt:=DS (BI 26) 2
theorem zbl:FnScope ["self","k"] ["self","k"] (AM MP):=.go
theorem zbm(T:Txt K mg a)(F:Fun K "record_at" "Layout.record_at" MP f fd)(HV:B2 P w K mg base (a "Layout") 1 "place_from" ["self","block","k"] (FB K a)) :
  FP P w K mg base 2 f fd ["self","k"] (IP K a) :=
 F.okF (UV K a) zbl Pw Pb λ_ _ _ _ _ E hr hx=>(AV (BJ (DA (AB 0) T.DV HV hr.m hx.passes (AE (BV (AB 0) rfl) (AE (AB 1) AJ)))))
abbrev MQ:Stmt:=DS (BI 26) 3
theorem zbn:FnScope ["self","k"] ["self","k"] (AM MQ):=.go
theorem zbo(T:Txt K mg a)(F:Fun K "piece_at" "Layout.piece_at" MQ f fd)(HV:B2 P w K mg base (a "Layout") 1 "place_from" ["self","block","k"] (FB K a)) :
  FP P w K mg base 2 f fd ["self","k"] (N9 K a) :=
 F.okF (UW K a) zbn Px Pc λ_ _ _ _ _ E hr hx=>(AV (BJ (DA (AB 0) T.DV HV hr.m hx.passes (AE (AU BK (BV (AB 0) rfl) (BV (AB 0) rfl)) (AE (AB 1) AJ)))))
abbrev MR:Stmt:=DS (BI 26) 4
theorem zbp:FnScope ["self","k"] ["self","k"] (AM MR):=.go
theorem zbq(T:Txt K mg a)(F:Fun K "record_mark" "Layout.record_mark" MR f fd)(PL:B2 P w K mg base (a "Layout") 1 "blocks_ahead_of_marks" ["self"] (HL K a))(HV:B2 P w K mg base (a "Layout") 1 "place_from" ["self","block","k"] (FB K a)) :
  FP P w K mg base 2 f fd ["self","k"] (IQ K a) :=
 F.okF (UX K a) zbp Py Pd λ_ _ _ _ _ E hr hx=>(AV (BJ (DA (AB 0) T.DV HV hr.m hx.passes (AE (ES (AB 0) T.DV PL hr.m hx.passes) (AE (AB 1) AJ)))))
abbrev MS:Stmt:=DS (BI 26) 5
theorem zbr:FnScope ["self","k"] ["self","k"] (AM MS):=.go
theorem zbs(T:Txt K mg a)(F:Fun K "piece_mark" "Layout.piece_mark" MS f fd)(PL:B2 P w K mg base (a "Layout") 1 "blocks_ahead_of_marks" ["self"] (HL K a))(HV:B2 P w K mg base (a "Layout") 1 "place_from" ["self","block","k"] (FB K a)) :
  FP P w K mg base 2 f fd ["self","k"] (JU K a) :=
 F.okF (UY K a) zbr Pz Pg λ_ _ _ _ _ E hr hx=>(AV (BJ (DA (AB 0) T.DV HV hr.m hx.passes (AE (AU BK (ES (AB 0) T.DV PL hr.m hx.passes) (BV (AB 0) rfl)) (AE (AB 1) AJ)))))
abbrev MT:Stmt:=DS (BI 26) 7
theorem zbt:FnScope ["self"] ["self"] (AM MT):=.go
theorem zbu(T:Txt K mg a)(F:Fun K "blocks" "Layout.blocks" MT f fd)(PL:B2 P w K mg base (a "Layout") 1 "blocks_ahead_of_marks" ["self"] (HL K a)) :
  FP P w K mg base 2 f fd ["self"] (OA K a) :=
 F.okF (UZ K a) zbt Qc Pj λ_ _ _ _ _ E hr hx=>(AV (BJ (AU BK (AU BK (ES (AB 0) T.DV PL hr.m hx.passes) (BV (AB 0) rfl)) (BV (AB 0) rfl))))
abbrev KS:Stmt:=BI 30
theorem FV:FnScope ["cell","many","letters","xs","size","first","second","names","k","word","j","step"] ["cell","many"] (AM KS):=.go
theorem zbv(T:Txt K mg a)(F:Fun K "_law_names" "_law_names" KS f fd)(K1:BM P w K mg base (1) "_law_spun" ["cell","many"] (GF K a)) :
  FP P w K mg base 2 f fd ["cell","many"] (OP K a) :=
 F.okF (U0 K a) FV Xd Xc λ_ _ _ _ _ E hr hx=>(AR (GS (i:=2) FV.nd rfl (Or.inr rfl) CG)
   (AR (GS (i:=3) FV.nd rfl (Or.inr rfl) (BC K1 hr.m hx.passes rfl (AE (AU FH (AB 0) AI) (AE AI AJ))))
   (AR (CB (A8 (DH hr.units) (AU B6 (AB 0) AI) AI (A3 _)) (AV (BJ (DG (tn:=["k"]) (cn:=["letters","xs"]) (cap:=[2,3]) (B4 (outer:=AM KS) (N:=["cell","many","letters","xs","size","first","second","names","k","word","j","step"]) rfl rfl (by decide +kernel)) rfl (DL rfl T.DD (AE (AB 1) AJ)) (λ_ _ _ _ _ _=>(BO (i:=0) (show(["k","letters","xs"]:List Str).Nodup from by decide +kernel) rfl (Or.inl rfl))) (λ_ _ _ _ _ _=>EQ) (λ_ _ _ _ _ _=>(AU E3 (AN AO (AB 1) (AU B6 (AU BK (AN AO (AB 2) AI (λ_ _=>rfl)) (AU FH (AB 0) AI)) AI) (λ_ _=>rfl)) (AU BK AI (AU B6 (AB 0) AI))))))) CO)
   (AR (BD 4 FV.nd (AU BK AI (AU B6 (AN AO (AB 3) AI (λ_ _=>rfl)) AI)))
   (AR (BD 5 FV.nd (AU B6 (AN AO (AB 3) AI (λ_ _=>rfl)) (AB 4)))
   (AR (BD 6 FV.nd (AU B6 (AU BK (AU BK (AB 5) AI) (AU B6 (AN AO (AB 3) AI (λ_ _=>rfl)) (AU SE (AB 4) AI))) (AB 4)))
   (AR (BD 7 FV.nd (C0 AJ))
   (AR (EE hx.po rfl (DL rfl T.DD (AE (AB 1) AJ)) (EG 8 FV.nd) (AR (BD 9 FV.nd CG)
   (AR (EE hx.po rfl (DL rfl T.DD (AE (AB 4) AJ)) (EG 10 FV.nd) (AR (BD 11 FV.nd (AU BK (AU E3 (AB 8) (HZ SG rfl T.XH (by rfl) (AE (QD (DH hr.units) (AB 10) (AB 5) (A3 _)) AJ))) (AU E3 (AU FH (AB 8) AI) (HZ SG rfl T.XH (by rfl) (AE (QD (DH hr.units) (AB 10) (AB 6) (A3 _)) AJ)))))
   (AV (BD 9 FV.nd (AU BK (AB 9) (AN AO (AB 2) (AU B6 (AU BK (AN AO (AB 3) (AU BK AI (AB 10)) (λ_ _=>rfl)) (AB 11)) AI) (λ_ _=>rfl)))))))
   (AV (DE (FL PySem.F.plainAttrs_list PySem.F.slot_list_append PySem.F.type_list_append IB (AB 7) (AE (AB 9) AJ)))))))
   (AV (BJ (AB 7)))))))))))
abbrev KU:Stmt:=BI 31
theorem MU:FnScope ["cell","signs","xs","size"] ["cell"] (AM KU):=.go
theorem zbw(T:Txt K mg a)(F:Fun K "_law_text" "_law_text" KU f fd)(K1:BM P w K mg base (1) "_law_spun" ["cell","many"] (GF K a)) :
  FP P w K mg base 2 f fd ["cell"] (J1 K a) :=
 F.okF (U2 K a) MU Ty Tx λ_ _ _ _ _ E hr hx=>(AR (GS (i:=1) MU.nd rfl (Or.inr rfl) CG)
   (AR (GS (i:=1) MU.nd rfl (Or.inr rfl) (AU BK (AB 1) CG))
   (AR (GS (i:=2) MU.nd rfl (Or.inr rfl) (BC K1 hr.m hx.passes rfl (AE (AB 0) (AE AI AJ))))
   (AR (BD 3 MU.nd (AU BK AI (AU B6 (AN AO (AB 2) AI (λ_ _=>rfl)) AI)))
   (AR (CB (A8 (DH hr.units) (AU B6 (AU FH (AN AO (AB 2) AI (λ_ _=>rfl)) AI) AI) AI (A3 _)) (AV (BD 3 MU.nd AI)) CO)
   (AV (BJ (FL PySem.F.plainAttrs_str PySem.F.slot_str_join PySem.F.type_str_join vU CG (AE (DG (tn:=["k"]) (cn:=["signs","xs"]) (cap:=[1,2]) (B4 (outer:=AM KU) (N:=["cell","signs","xs","size"]) rfl rfl (by decide +kernel)) rfl (DL rfl T.DD (AE (AB 3) AJ)) (λ_ _ _ _ _ _=>(BO (i:=0) (show(["k","signs","xs"]:List Str).Nodup from by decide +kernel) rfl (Or.inl rfl))) (λ_ _ _ _ _ _=>EQ) (λ_ _ _ _ _ _=>(AN AO (AB 1) (AU B6 (AU BK (AN AO (AB 2) AI (λ_ _=>rfl)) (AU E3 (AB 0) (AN AO (AB 2) AI (λ_ _=>rfl)))) AI) (λ_ _=>rfl)))) AJ)))))))))
abbrev MV:Stmt:=BI 32
theorem WT:FnScope ["cell","xs","most"] ["cell"] (AM MV):=.go
theorem zbx(T:Txt K mg a)(F:Fun K "_law_layout" "_law_layout" MV f fd)(K1:BM P w K mg base (1) "_law_spun" ["cell","many"] (GF K a)) :
  FP P w K mg base 2 f fd ["cell"] (ON K a) :=
 F.okF (U4 K a) WT Tw Tv λ_ _ _ _ _ E hr hx=>(AR (BD 1 WT.nd (BC K1 hr.m hx.passes rfl (AE (AU FH (AB 0) AI) (AE AI AJ))))
   (AR (BD 2 WT.nd (mO (A8 (DH hr.units) (AU B6 (AU FH (AB 0) AI) AI) AI (A3 _)) AI AI))
   (AV (BJ (CZ (AE (AU BK AI (AU B6 (AN AO (AB 1) AI (λ_ _=>rfl)) (AB 2))) (AE (AU BK AI (AU B6 (AN AO (AB 1) AI (λ_ _=>rfl)) (AB 2))) (AE (AU BK AI (AU B6 (AN AO (AB 1) AI (λ_ _=>rfl)) (AB 2))) (AE (AU BK AI (AU B6 (AB 0) AI)) AJ)))))))))
abbrev MW:Stmt:=BI 38
theorem WU:FnScope ["view","names","r","number","free","word"] ["view","names","r","number"] (AM MW):=.go
theorem zby(T:Txt K mg a)(F:Fun K "_law_named" "_law_named" MW f fd)(PH:BM P w K mg base (1) "_law_free_names" ["view"] (HN K a)) :
  FP P w K mg base 2 f fd ["view","names","r","number"] (J8 K a) :=
 F.okF (U5 K a) WU Vv Vq λ_ _ _ _ _ E hr hx=>(AR (BD 4 WU.nd (BC PH hr.m hx.passes rfl (AE (AB 0) AJ)))
   (AR (BD 5 WU.nd (AN AO (AB 1) (AU SE (CI CT rfl T.CV (by rfl) (AE (AN AO (AB 0) AI (λ_ _=>rfl)) AJ)) (CI CT rfl T.CV (by rfl) (AE (AB 4) AJ))) (λ_ _=>rfl)))
   (AV (EA (CZ (AE (AB 5) (AE (AB 2) AJ))) (D9 (AN AO (AB 0) AI (λ_ _=>rfl)) (AN AO (AB 4) (AU B6 (AB 3) (CI CT rfl T.CV (by rfl) (AE (AB 4) AJ))) (λ_ _=>rfl)) D6)))))
abbrev GO:Stmt:=BI 43
theorem MX:FnScope ["view","led","records","found"] ["view"] (AM GO):=.go
theorem zbz(T:Txt K mg a)(F:Fun K "_law_due" "_law_due" GO f fd)(PJ:BM P w K mg base (1) "_law_led" ["view"] (HM K a)) :
  FP P w K mg base 2 f fd ["view"] (OU K a) :=
 F.okF (U6 K a) MX Wm Wl λ_ _ _ _ _ E hr hx=>(AR (GS (i:=1) MX.nd rfl (Or.inr rfl) (BC PJ hr.m hx.passes rfl (AE (AB 0) AJ)))
   (AR (EZ (i:=2) (tn:=["r"]) (cn:=["view"]) (cap:=[0]) (B4 (outer:=AM GO) (N:=["view","led","records","found"]) rfl rfl (by decide +kernel)) rfl MX.nd rfl rfl (DL rfl T.DD (AE (CI CT rfl T.CV (by rfl) (AE (AB 1) AJ)) AJ)) (λ_ _ _ _ _ _=>(BO (i:=0) (show(["r","view"]:List Str).Nodup from by decide +kernel) rfl (Or.inl rfl))) (λ_ _ _ _ _ _=>(DT (A8 K7 (AN AO (AN AO (AB 1) AI (λ_ _=>rfl)) (AB 0) (λ_ _=>rfl)) DR (A3 _)))) (λ_ _ _ _ _ _=>(AB 0)))
   (AR (EZ (i:=3) (tn:=["r"]) (cn:=["led","view"]) (cap:=[1,0]) (B4 (outer:=AM GO) (N:=["view","led","records","found"]) rfl rfl (by decide +kernel)) rfl MX.nd rfl rfl (DM (AB 2)) (λ_ _ _ _ _ _=>(BO (i:=0) (show(["r","led","view"]:List Str).Nodup from by decide +kernel) rfl (Or.inl rfl))) (λ_ _ _ _ _ _=>(DT (PW.pt (GR (A8 IF (AN AO (AB 1) (AB 0) (λ_ _=>rfl)) AI (A3 _)) (GQ (A8 IF (AN AO (AN AO (AN AO (AB 2) AI (λ_ _=>rfl)) (AB 0) (λ_ _=>rfl)) AI (λ_ _=>rfl)) (AN AO (AB 1) (AB 0) (λ_ _=>rfl)) (A3 _))))))) (λ_ _ _ _ _ _=>(CZ (AE CG (AE (AB 0) (AE (AN AO (AB 1) (AB 0) (λ_ _=>rfl)) AJ))))))
   (AR (BD 3 MX.nd (AU BK (AB 3) (DG (tn:=["r"]) (cn:=["led"]) (cap:=[1]) (B4 (outer:=AM GO) (N:=["view","led","records","found"]) rfl rfl (by decide +kernel)) rfl (DM (AB 2)) (λ_ _ _ _ _ _=>(BO (i:=0) (show(["r","led"]:List Str).Nodup from by decide +kernel) rfl (Or.inl rfl))) (λ_ _ _ _ _ _=>(DT (A8 (DH hr.units) (AN AO (AB 1) (AB 0) (λ_ _=>rfl)) AI (A3 _)))) (λ_ _ _ _ _ _=>(CZ (AE CG (AE CG (AE (AB 0) AJ))))))))
   (AR (BD 3 MX.nd (AU BK (AB 3) (DG (tn:=["p"]) (cn:=[]) (cap:=[]) (B4 (outer:=AM GO) (N:=["view","led","records","found"]) rfl rfl (by decide +kernel)) rfl (DM (CI (v9 rfl) rfl T.zdh (by rfl) (AE (AN AO (AB 0) AI (λ_ _=>rfl)) AJ))) (λ_ _ _ _ _ _=>(BO (i:=0) (show(["p"]:List Str).Nodup from by decide +kernel) rfl (Or.inl rfl))) (λ_ _ _ _ _ _=>EQ) (λ_ _ _ _ _ _=>(CZ (AE CG (AE CG (AE (AB 0) AJ))))))))
   (AV (BJ (AU BK (AB 3) (DG (tn:=["r"]) (cn:=["view"]) (cap:=[0]) (B4 (outer:=AM GO) (N:=["view","led","records","found"]) rfl rfl (by decide +kernel)) rfl (DL rfl T.DD (AE (CI CT rfl T.CV (by rfl) (AE (AB 1) AJ)) AJ)) (λ_ _ _ _ _ _=>(BO (i:=0) (show(["r","view"]:List Str).Nodup from by decide +kernel) rfl (Or.inl rfl))) (λ_ _ _ _ _ _=>(DT (PW.pt (GR (A8 (DH hr.units) (AN AO (AN AO (AB 1) AI (λ_ _=>rfl)) (AB 0) (λ_ _=>rfl)) AI (A3 _)) (GQ (A8 GU (AN AO (AN AO (AB 1) AI (λ_ _=>rfl)) (AB 0) (λ_ _=>rfl)) DR (A3 _))))))) (λ_ _ _ _ _ _=>(CZ (AE CG (AE (AB 0) AJ)))))))))))))
abbrev KW:Stmt:=BI 45
theorem O8:FnScope ["view","led","made","r","p"] ["view"] (AM KW):=.go
theorem zb0(T:Txt K mg a)(F:Fun K "_law_mended" "_law_mended" KW f fd)(PJ:BM P w K mg base (1) "_law_led" ["view"] (HM K a)) :
  FP P w K mg base 2 f fd ["view"] (OY K a) :=
 F.okF (U7 K a) O8 Zq Zp λ_ _ _ _ _ E hr hx=>(AR (BD 1 O8.nd (BC PJ hr.m hx.passes rfl (AE (AB 0) AJ)))
   (AR (EZ (i:=2) (tn:=["part"]) (cn:=[]) (cap:=[]) (B4 (outer:=AM KW) (N:=["view","led","made","r","p"]) rfl rfl (by decide +kernel)) rfl O8.nd rfl rfl (DM (AB 0)) (λ_ _ _ _ _ _=>(BO (i:=0) (show(["part"]:List Str).Nodup from by decide +kernel) rfl (Or.inl rfl))) (λ_ _ _ _ _ _=>EQ) (λ_ _ _ _ _ _=>(HZ S8 rfl T.R5 (by rfl) (AE (AB 0) AJ))))
   (AR (EE hx.po rfl (DL rfl T.DD (AE (CI CT rfl T.CV (by rfl) (AE (AB 1) AJ)) AJ)) (EG 3 O8.nd) (AV (CB (A8 GU (AN AO (AN AO (AB 0) AI (λ_ _=>rfl)) (AB 3) (λ_ _=>rfl)) DR (A3 _)) (AV (CB (A8 (DH hr.units) (AN AO (AN AO (AB 0) AI (λ_ _=>rfl)) (AB 3) (λ_ _=>rfl)) AI (A3 _)) (AV (EA AI (D9 (AN AO (AB 2) AI (λ_ _=>rfl)) (AB 3) D6))) CO)) (AV (CB (A8 (DH hr.units) (AN AO (AB 1) (AB 3) (λ_ _=>rfl)) AI (A3 _)) (AR (EA DR (D9 (AN AO (AB 2) AI (λ_ _=>rfl)) (AB 3) D6))
   (AV (EA AI (D9 (AN AO (AB 2) AI (λ_ _=>rfl)) (AB 3) D6)))) (AV (EA (CZ (AE (AN AO (AB 1) (AB 3) (λ_ _=>rfl)) (AE (AN AO (AN AO (AN AO (AB 0) AI (λ_ _=>rfl)) (AB 3) (λ_ _=>rfl)) AI (λ_ _=>rfl)) AJ))) (D9 (AN AO (AB 2) AI (λ_ _=>rfl)) (AB 3) D6))))))))
   (AR (EE hx.po rfl (DM (AN AO (AB 0) AI (λ_ _=>rfl))) (EG 4 O8.nd) (AV (EA AI (D9 (AN AO (AB 2) AI (λ_ _=>rfl)) (AB 4) D6))))
   (AV (BJ (AB 2)))))))
abbrev MY:Stmt:=BI 8
theorem zb1:FnScope ["view"] ["view"] (AM MY):=.go
theorem zb2(T:Txt K mg a)(F:Fun K "faults_in" "faults_in" MY f fd)(zcr:BM P w K mg base (1) "faults_of_names" ["view"] (OG K a))(zcs:BM P w K mg base (2) "faults_of_things" ["view"] (OH K a))(zcq:BM P w K mg base (2) "faults_of_marks" ["view"] (OI K a)) :
  FP P w K mg base 3 f fd ["view"] (JY K a) :=
 F.okF (U8 K a) zb1 Rl Rk λ_ _ _ _ _ E hr hx=>(AV (BJ (AU BK (AU BK (BC zcr hr.m hx.passes rfl (AE (AB 0) AJ)) (BC zcs hr.m hx.passes rfl (AE (AB 0) AJ))) (BC zcq hr.m hx.passes rfl (AE (AB 0) AJ)))))
abbrev MZ:Stmt:=BI 12
theorem zb3:FnScope ["view"] ["view"] (AM MZ):=.go
theorem zb4(T:Txt K mg a)(F:Fun K "leavings_in" "leavings_in" MZ f fd)(zc3:BM P w K mg base (2) "leavings_of_records" ["view"] (OJ K a))(zc4:BM P w K mg base (1) "left_pieces" ["view"] (OK K a))(zc5:BM P w K mg base (1) "marked_records" ["view"] (OL K a)) :
  FP P w K mg base 3 f fd ["view"] (OM K a) :=
 F.okF (U9 K a) zb3 Rp Rm λ_ _ _ _ _ E hr hx=>(AV (BJ (AU BK (AU BK (BC zc3 hr.m hx.passes rfl (AE (AB 0) AJ)) (BC zc4 hr.m hx.passes rfl (AE (AB 0) AJ))) (BC zc5 hr.m hx.passes rfl (AE (AB 0) AJ)))))
abbrev KY:Stmt:=BI 16
theorem zb5:FnScope ["plank","places"] ["plank","places"] (AM KY):=.go
theorem zb6(T:Txt K mg a)(F:Fun K "values_at" "values_at" KY f fd)(K2:B2 P w K mg base (a "Plank") 2 "read" ["self","block"] (GD K a)) :
  FP P w K mg base 3 f fd ["plank","places"] (G3 K a) :=
 F.okF (VB K a) zb5 Sh Sg λ_ _ _ _ _ E hr hx=>(AV (BJ (DG (tn:=["block","cell"]) (cn:=["plank"]) (cap:=[0]) (B4 (outer:=AM KY) (N:=["plank","places"]) rfl rfl (by decide +kernel)) rfl (DM (AB 1)) (λ_ _ _ _ _ _=>(HG rfl (ED (BO (i:=0) (show(["block","cell","plank"]:List Str).Nodup from by decide +kernel) rfl (Or.inl rfl)) (ED (BO (i:=1) (show(["block","cell","plank"]:List Str).Nodup from by decide +kernel) rfl (Or.inl rfl)) HF)))) (λ_ _ _ _ _ _=>EQ) (λ_ _ _ _ _ _=>(AN AO (DA (AB 2) T.FY K2 hr.m JN (AE (AB 0) AJ)) (AB 1) (λ_ _=>rfl))))))
abbrev M0:Stmt:=BI 21
theorem lI:FnScope ["layout","plank","find","place"] ["layout","plank","find"] (AM M0):=.go
theorem zb7(T:Txt K mg a)(F:Fun K "mended_cells" "mended_cells" M0 f fd)(RZ:B2 P w K mg base (a "Layout") 2 "record_at" ["self","k"] (IP K a))(K2:B2 P w K mg base (a "Plank") 2 "read" ["self","block"] (GD K a))(R0:B2 P w K mg base (a "Layout") 2 "record_mark" ["self","k"] (IQ K a))(XA:B2 P w K mg base (a "Layout") 2 "piece_mark" ["self","k"] (JU K a)) :
  FP P w K mg base 3 f fd ["layout","plank","find"] (OW K a) :=
 F.okF (LM K a) lI Yj Yh λ_ _ _ _ _ E hr hx=>(AR (CB (A8 (DH hr.units) (AN AO (AB 2) AI (λ_ _=>rfl)) CG (A3 _)) (AR (BD 3 lI.nd (DA (AB 0) T.DV RZ hr.m hx.passes (AE (AN AO (AB 2) AI (λ_ _=>rfl)) AJ)))
   (AV (BJ (Q4 (IC hr) (NN (AB 3) (CZ (AE (AN AO (AB 2) AI (λ_ _=>rfl)) (AE (AN AO (AN AO (DA (AB 1) T.FY K2 hr.m hx.passes (AE (AN AO (AB 3) AI (λ_ _=>rfl)) AJ)) (AN AO (AB 3) AI (λ_ _=>rfl)) (λ_ _=>rfl)) AI (λ_ _=>rfl)) AJ))) QW) rfl rfl (by simp) (by simp))))) CO)
   (AR (CB (A8 (DH hr.units) (AN AO (AB 2) AI (λ_ _=>rfl)) CG (A3 _)) (AV (BJ (Q4 (IC hr) (NN (DA (AB 0) T.DV R0 hr.m hx.passes (AE (AN AO (AB 2) AI (λ_ _=>rfl)) AJ)) AI QW) rfl rfl (by simp) (by simp)))) CO)
   (AR (CB (A8 (DH hr.units) (AN AO (AB 2) AI (λ_ _=>rfl)) CG (A3 _)) (AV (BJ (Q4 (IC hr) (NN (DA (AB 0) T.DV RZ hr.m hx.passes (AE (AN AO (AB 2) AI (λ_ _=>rfl)) AJ)) DR (NN (DA (AB 0) T.DV R0 hr.m hx.passes (AE (AN AO (AB 2) AI (λ_ _=>rfl)) AJ)) AI QW)) rfl rfl (by simp) (by simp)))) CO)
   (AV (BJ (Q4 (IC hr) (NN (DA (AB 0) T.DV XA hr.m hx.passes (AE (AN AO (AB 2) AI (λ_ _=>rfl)) AJ)) AI QW) rfl rfl (by simp) (by simp)))))))
abbrev KZ:Stmt:=BI 22
theorem RT:FnScope ["plank","due","block","before","after"] ["plank","due"] (AM KZ):=.go
theorem zb8(T:Txt K mg a)(F:Fun K "write_due" "write_due" KZ f fd)(zdd:B2 P w K mg base (a "Plank") 1 "blocks" ["self"] (N5 K a))(K2:B2 P w K mg base (a "Plank") 2 "read" ["self","block"] (GD K a))(XC:B2 P w K mg base (a "Plank") 2 "write" ["self","block","values"] (JS K a)) :
  FP P w K mg base 3 f fd ["plank","due"] (OX K a) :=
 F.okF (VD K a) RT Yp Ym λ_ _ _ _ _ E hr hx=>(AV (EE hx.po rfl (DL rfl T.DD (AE (ES (AB 0) T.FY zdd hr.m hx.passes) AJ)) (BO (i:=2) RT.nd rfl (Or.inr rfl)) (AR (BD 3 RT.nd (DA (AB 0) T.FY K2 hr.m hx.passes (AE (AB 2) AJ)))
   (AR (EZ (i:=4) (tn:=["cell","value"]) (cn:=["due","block"]) (cap:=[1,2]) (B4 (outer:=AM KZ) (N:=["plank","due","block","before","after"]) rfl rfl (by decide +kernel)) rfl RT.nd rfl rfl (IL rfl T.JD (AE (AB 3) AJ)) (λ_ _ _ _ _ _=>(HG rfl (ED (BO (i:=0) (show(["cell","value","due","block"]:List Str).Nodup from by decide +kernel) rfl (Or.inl rfl)) (ED (BO (i:=1) (show(["cell","value","due","block"]:List Str).Nodup from by decide +kernel) rfl (Or.inl rfl)) HF)))) (λ_ _ _ _ _ _=>EQ) (λ_ _ _ _ _ _=>(p0 (IC hr) (AB 2) (CZ (AE (AB 3) (AE (AB 0) AJ))) (AB 1) ⟨rfl,rfl,rfl,rfl⟩)))
   (AV (CB (A8 (EK hr.units) (AB 4) (AB 3) (A3 _)) (AV (DE (DA (AB 0) T.FY XC hr.m hx.passes (AE (AB 2) (AE (AB 4) AJ))))) CO))))))
abbrev M3:Stmt:=DS (BI 26) 8
theorem zb9:FnScope ["self"] ["self"] (AM M3):=.go
theorem zca(T:Txt K mg a)(F:Fun K "plank" "Layout.plank" M3 f fd)(zc8:B2 P w K mg base (a "Layout") 2 "blocks" ["self"] (OA K a))(zdg:NS P w K mg base (a "Plank") 1 "Plank" ["self","blocks","cells"] (N3 K a)) :
  FP P w K mg base 3 f fd ["self"] (OC K a) :=
 F.okF (VE K a) zb9 Qg Pl λ_ _ _ _ _ E hr hx=>(AV (BJ (QX zdg hr.m hx.passes rfl (AE (ES (AB 0) T.DV zc8 hr.m hx.passes) (AE (BV (AB 0) rfl) AJ)))))
abbrev M4:Stmt:=BI 37
theorem O9:FnScope ["view","xs","many","taken","k","free","p"] ["view","xs","many"] (AM M4):=.go
theorem zcb(T:Txt K mg a)(F:Fun K "_law_pieces" "_law_pieces" M4 f fd)(WZ:BM P w K mg base (1) "_law_free_pieces" ["view"] (J7 K a))(W3:BM P w K mg base (2) "_law_text" ["cell"] (J1 K a)) :
  FP P w K mg base 3 f fd ["view","xs","many"] (OQ K a) :=
 F.okF (VF K a) O9 Vy Vx λ_ _ _ _ _ E hr hx=>(AR (BD 3 O9.nd (C0 AJ))
   (AR (EE hx.po rfl (DL rfl T.DD (AE (AB 2) AJ)) (EG 4 O9.nd) (AR (BD 5 O9.nd (BC WZ hr.m hx.passes rfl (AE (AB 0) AJ)))
   (AV (CB (A8 (EK hr.units) (AB 5) (C0 AJ) (A3 _)) (AR (BD 6 O9.nd (AN AO (AB 5) (AU B6 (AN AO (AB 1) (AB 4) (λ_ _=>rfl)) (CI CT rfl T.CV (by rfl) (AE (AB 5) AJ))) (λ_ _=>rfl)))
   (AR (EA (BC W3 hr.m hx.passes rfl (AE (AU FH (AN AO (AB 1) (AB 4) (λ_ _=>rfl)) AI) AJ)) (D9 (AN AO (AB 0) AI (λ_ _=>rfl)) (AB 6) D6))
   (AR (EA AI (D9 (AN AO (AB 0) AI (λ_ _=>rfl)) (AB 6) D6))
   (AV (DE (FL PySem.F.plainAttrs_list PySem.F.slot_list_append PySem.F.type_list_append IB (AB 3) (AE (AB 6) AJ))))))) CO))))
   (AV (BJ (HZ ZB rfl T.XI (by rfl) (AE (AB 3) AJ))))))
abbrev K0:Stmt:=BI 40
theorem RU:FnScope ["view","names","xs","led","records","r"] ["view","names","xs"] (AM K0):=.go
theorem zcc(T:Txt K mg a)(F:Fun K "_law_more" "_law_more" K0 f fd)(PJ:BM P w K mg base (1) "_law_led" ["view"] (HM K a))(PH:BM P w K mg base (1) "_law_free_names" ["view"] (HN K a))(W2:BM P w K mg base (2) "_law_named" ["view","names","r","number"] (J8 K a)) :
  FP P w K mg base 3 f fd ["view","names","xs"] (OR K a) :=
 F.okF (VG K a) RU Wh Wg λ_ _ _ _ _ E hr hx=>(AR (GS (i:=3) RU.nd rfl (Or.inr rfl) (BC PJ hr.m hx.passes rfl (AE (AB 0) AJ)))
   (AR (EZ (i:=4) (tn:=["r"]) (cn:=["led"]) (cap:=[3]) (B4 (outer:=AM K0) (N:=["view","names","xs","led","records","r"]) rfl rfl (by decide +kernel)) rfl RU.nd rfl rfl (DL rfl T.DD (AE (CI CT rfl T.CV (by rfl) (AE (AB 3) AJ)) AJ)) (λ_ _ _ _ _ _=>(BO (i:=0) (show(["r","led"]:List Str).Nodup from by decide +kernel) rfl (Or.inl rfl))) (λ_ _ _ _ _ _=>(DT (A8 IF (AN AO (AB 1) (AB 0) (λ_ _=>rfl)) AI (A3 _)))) (λ_ _ _ _ _ _=>(AB 0)))
   (AV (CB (PW.pt (GR (A8 (EK hr.units) (AB 4) (C0 AJ) (A3 _)) (GQ (A8 (EK hr.units) (BC PH hr.m hx.passes rfl (AE (AB 0) AJ)) (C0 AJ) (A3 _))))) (AR (BD 5 RU.nd (AN AO (AB 4) (AU B6 (AN AO (AB 2) AI (λ_ _=>rfl)) (CI CT rfl T.CV (by rfl) (AE (AB 4) AJ))) (λ_ _=>rfl)))
   (AR (EA (CZ (AE (AU BK (AN AO (AN AO (AN AO (AB 0) AI (λ_ _=>rfl)) (AB 5) (λ_ _=>rfl)) AI (λ_ _=>rfl)) AI) (AE (AN AO (AN AO (AN AO (AB 0) AI (λ_ _=>rfl)) (AB 5) (λ_ _=>rfl)) AI (λ_ _=>rfl)) AJ))) (D9 (AN AO (AB 0) AI (λ_ _=>rfl)) (AB 5) D6))
   (AV (DE (BC W2 hr.m hx.passes rfl (AE (AB 0) (AE (AB 1) (AE (AB 5) (AE (AN AO (AB 2) AI (λ_ _=>rfl)) AJ))))))))) CO))))
abbrev M5:Stmt:=BI 41
theorem PB:FnScope ["view","kind","xs","records","pieces","p"] ["view","kind","xs"] (AM M5):=.go
theorem zcd(T:Txt K mg a)(F:Fun K "_law_alone" "_law_alone" M5 f fd)(W1:BM P w K mg base (1) "_law_free_records" ["view"] (J6 K a))(WZ:BM P w K mg base (1) "_law_free_pieces" ["view"] (J7 K a))(W3:BM P w K mg base (2) "_law_text" ["cell"] (J1 K a)) :
  FP P w K mg base 3 f fd ["view","kind","xs"] (OS K a) :=
 F.okF (VJ K a) PB Wk Wj λ_ _ _ _ _ E hr hx=>(AR (BD 3 PB.nd (BC W1 hr.m hx.passes rfl (AE (AB 0) AJ)))
   (AR (BD 4 PB.nd (BC WZ hr.m hx.passes rfl (AE (AB 0) AJ)))
   (AR (CB (PW.pt (GR (A8 (DH hr.units) (AB 1) AI (A3 _)) (GQ (A8 (EK hr.units) (AB 3) (C0 AJ) (A3 _))))) (AV (EA AI (D9 (AN AO (AB 0) AI (λ_ _=>rfl)) (AN AO (AB 3) (AU B6 (AN AO (AB 2) AI (λ_ _=>rfl)) (CI CT rfl T.CV (by rfl) (AE (AB 3) AJ))) (λ_ _=>rfl)) D6))) CO)
   (AR (CB (PW.pt (GR (A8 (DH hr.units) (AB 1) AI (A3 _)) (GQ (A8 (EK hr.units) (AB 4) (C0 AJ) (A3 _))))) (AR (BD 5 PB.nd (AN AO (AB 4) (AU B6 (AN AO (AB 2) AI (λ_ _=>rfl)) (CI CT rfl T.CV (by rfl) (AE (AB 4) AJ))) (λ_ _=>rfl)))
   (AR (EA AI (D9 (AN AO (AB 0) AI (λ_ _=>rfl)) (AB 5) D6))
   (AV (DE (FL PySem.F.plainAttrs_list PySem.F.slot_list_append PySem.F.type_list_append IB (AN AO (AB 0) AI (λ_ _=>rfl)) (AE (AB 5) AJ)))))) CO)
   (AV (CB (PW.pt (GR (A8 (DH hr.units) (AB 1) AI (A3 _)) (GQ (A8 (EK hr.units) (AB 4) (C0 AJ) (A3 _))))) (AR (BD 5 PB.nd (AN AO (AB 4) (AU B6 (AN AO (AB 2) AI (λ_ _=>rfl)) (CI CT rfl T.CV (by rfl) (AE (AB 4) AJ))) (λ_ _=>rfl)))
   (AR (EA (BC W3 hr.m hx.passes rfl (AE (AN AO (AB 2) AI (λ_ _=>rfl)) AJ)) (D9 (AN AO (AB 0) AI (λ_ _=>rfl)) (AB 5) D6))
   (AV (EA (AN AO (C0 (AE AI (AE DR AJ))) (AU B6 (AN AO (AB 2) AI (λ_ _=>rfl)) AI) (λ_ _=>rfl)) (D9 (AN AO (AB 0) AI (λ_ _=>rfl)) (AB 5) D6))))) CO))))))
abbrev M6:Stmt:=BI 44
theorem WV:FnScope ["plank","view","cells","flat","k"] ["plank","view","cells"] (AM M6):=.go
theorem zce(T:Txt K mg a)(F:Fun K "_law_write" "_law_write" M6 f fd)(XC:B2 P w K mg base (a "Plank") 2 "write" ["self","block","values"] (JS K a)) :
  FP P w K mg base 3 f fd ["plank","view","cells"] (OV K a) :=
 F.okF (VL K a) WV Xk Xj λ_ _ _ _ _ E hr hx=>(AR (BD 3 WV.nd (AU BK (AU BK (AU BK (AU BK (AN AO (AB 1) AI (λ_ _=>rfl)) (AN AO (AB 1) AI (λ_ _=>rfl))) (AN AO (AB 1) AI (λ_ _=>rfl))) (AN AO (AB 1) AI (λ_ _=>rfl))) (AN AO (AB 1) AI (λ_ _=>rfl))))
   (AV (EE hx.po rfl (Z0 rfl T.DD (AE AI (AE (CI CT rfl T.CV (by rfl) (AE (AB 3) AJ)) (AE (AB 2) AJ)))) (EG 4 WV.nd) (AV (DE (DA (AB 0) T.FY XC hr.m hx.passes (AE (AU FH (AB 4) (AB 2)) (AE (NI NV (AB 3) (IA (AB 4)) (IA (AU BK (AB 4) (AB 2)))) AJ))))))))
abbrev M7:Stmt:=BI 47
theorem RV:FnScope ["plank","rows","k","found","cell"] ["plank","rows"] (AM M7):=.go
theorem zcf(T:Txt K mg a)(F:Fun K "_law_stands" "_law_stands" M7 f fd)(K2:B2 P w K mg base (a "Plank") 2 "read" ["self","block"] (GD K a)) :
  FP P w K mg base 3 f fd ["plank","rows"] (J9 K a) :=
 F.okF (VM K a) RV Zg Zd λ_ _ _ _ _ E hr hx=>(AR (EE hx.po rfl (DL rfl T.DD (AE (CI CT rfl T.CV (by rfl) (AE (AB 1) AJ)) AJ)) (EG 2 RV.nd) (AR (BD 3 RV.nd (DA (AB 0) T.FY K2 hr.m hx.passes (AE (AB 2) AJ)))
   (AR (CB (A8 (EK hr.units) (AB 3) (AN AO (AB 1) (AB 2) (λ_ _=>rfl)) (A3 _)) (AV (BJ GP)) CO)
   (AV (EE hx.po rfl (DM (AB 3)) (EG 4 RV.nd) (AV (CB (PW.pt (JE (HY (CI Q1 rfl T.R4 (by rfl) (AE (AB 4) (AE (PU rfl T.lS (by rfl) rfl) AJ))) (λ_=>rfl)) (NE (PW.pt (GR (HY (CI Q1 rfl T.R4 (by rfl) (AE (AB 4) (AE (PU rfl T.XI (by rfl) rfl) AJ))) (λ_=>rfl)) (GQ (HY (CI Q1 rfl T.R4 (by rfl) (AE (AN AO (AB 4) AI (λ_ _=>rfl)) (AE (PU rfl T.lS (by rfl) rfl) AJ))) (λ_=>rfl)))))))) (AV (BJ GP)) CO)))))))
   (AV (BJ GP)))
abbrev FW:Stmt:=DS (BI 5) 0
theorem RW:FnScope ["self","layout","plank","counts","records","pieces"] ["self","layout","plank"] (AM FW):=.go
theorem zcg(T:Txt K mg a)(F:Fun K "__init__" "View.__init__" FW f fd)(zc9:B2 P w K mg base (a "Layout") 1 "counts" ["self"] (OB K a))(zda:B2 P w K mg base (a "Layout") 2 "name_at" ["self","k"] (N7 K a))(PK:BM P w K mg base (3) "values_at" ["plank","places"] (G3 K a))(RZ:B2 P w K mg base (a "Layout") 2 "record_at" ["self","k"] (IP K a))(zdb:B2 P w K mg base (a "Layout") 2 "piece_at" ["self","k"] (N9 K a))(R0:B2 P w K mg base (a "Layout") 2 "record_mark" ["self","k"] (IQ K a))(XA:B2 P w K mg base (a "Layout") 2 "piece_mark" ["self","k"] (JU K a))(W8:BM P w K mg base (1) "tally" ["many","numbers"] (JV K a))(lQ:BM P w K mg base (1) "pieces_in" ["records"] (LH K a))(zde:B2 P w K mg base (a "View") 1 "records_led_to" ["self"] (OF K a)) :
  FP P w K mg base 4 f fd ["self","layout","plank"] (IY K a) :=
 F.okF (VN K a) RW Sz Sy λ_ _ _ _ _ E hr hx=>(AR (BD 3 RW.nd (ES (AB 1) T.DV zc9 hr.m hx.passes))
   (AR (BD 4 RW.nd (AN AO (AB 3) AI (λ_ _=>rfl)))
   (AR (BD 5 RW.nd (AN AO (AB 3) AI (λ_ _=>rfl)))
   (AR (ER (AB 0) (BC PK hr.m hx.passes rfl (AE (AB 2) (AE (DG (tn:=["k"]) (cn:=["layout"]) (cap:=[1]) (B4 (outer:=AM FW) (N:=["self","layout","plank","counts","records","pieces"]) rfl rfl (by decide +kernel)) rfl (DL rfl T.DD (AE (AN AO (AB 3) AI (λ_ _=>rfl)) AJ)) (λ_ _ _ _ _ _=>(BO (i:=0) (show(["k","layout"]:List Str).Nodup from by decide +kernel) rfl (Or.inl rfl))) (λ_ _ _ _ _ _=>EQ) (λ_ _ _ _ _ _=>(DA (AB 1) T.DV zda hr.m JN (AE (AB 0) AJ)))) AJ))) rfl)
   (AR (ER (AB 0) (BC PK hr.m hx.passes rfl (AE (AB 2) (AE (DG (tn:=["k"]) (cn:=["layout"]) (cap:=[1]) (B4 (outer:=AM FW) (N:=["self","layout","plank","counts","records","pieces"]) rfl rfl (by decide +kernel)) rfl (DL rfl T.DD (AE (AB 4) AJ)) (λ_ _ _ _ _ _=>(BO (i:=0) (show(["k","layout"]:List Str).Nodup from by decide +kernel) rfl (Or.inl rfl))) (λ_ _ _ _ _ _=>EQ) (λ_ _ _ _ _ _=>(DA (AB 1) T.DV RZ hr.m JN (AE (AB 0) AJ)))) AJ))) rfl)
   (AR (ER (AB 0) (BC PK hr.m hx.passes rfl (AE (AB 2) (AE (DG (tn:=["k"]) (cn:=["layout"]) (cap:=[1]) (B4 (outer:=AM FW) (N:=["self","layout","plank","counts","records","pieces"]) rfl rfl (by decide +kernel)) rfl (DL rfl T.DD (AE (AB 5) AJ)) (λ_ _ _ _ _ _=>(BO (i:=0) (show(["k","layout"]:List Str).Nodup from by decide +kernel) rfl (Or.inl rfl))) (λ_ _ _ _ _ _=>EQ) (λ_ _ _ _ _ _=>(DA (AB 1) T.DV zdb hr.m JN (AE (AB 0) AJ)))) AJ))) rfl)
   (AR (ER (AB 0) (BC PK hr.m hx.passes rfl (AE (AB 2) (AE (DG (tn:=["k"]) (cn:=["layout"]) (cap:=[1]) (B4 (outer:=AM FW) (N:=["self","layout","plank","counts","records","pieces"]) rfl rfl (by decide +kernel)) rfl (DL rfl T.DD (AE (AB 4) AJ)) (λ_ _ _ _ _ _=>(BO (i:=0) (show(["k","layout"]:List Str).Nodup from by decide +kernel) rfl (Or.inl rfl))) (λ_ _ _ _ _ _=>EQ) (λ_ _ _ _ _ _=>(DA (AB 1) T.DV R0 hr.m JN (AE (AB 0) AJ)))) AJ))) rfl)
   (AR (ER (AB 0) (BC PK hr.m hx.passes rfl (AE (AB 2) (AE (DG (tn:=["k"]) (cn:=["layout"]) (cap:=[1]) (B4 (outer:=AM FW) (N:=["self","layout","plank","counts","records","pieces"]) rfl rfl (by decide +kernel)) rfl (DL rfl T.DD (AE (AB 5) AJ)) (λ_ _ _ _ _ _=>(BO (i:=0) (show(["k","layout"]:List Str).Nodup from by decide +kernel) rfl (Or.inl rfl))) (λ_ _ _ _ _ _=>EQ) (λ_ _ _ _ _ _=>(DA (AB 1) T.DV XA hr.m JN (AE (AB 0) AJ)))) AJ))) rfl)
   (AR (ER (AB 0) (BC W8 hr.m hx.passes rfl (AE (AB 4) (AE (DG (tn:=["value"]) (cn:=[]) (cap:=[]) (B4 (outer:=AM FW) (N:=["self","layout","plank","counts","records","pieces"]) rfl rfl (by decide +kernel)) rfl (DM (BV (AB 0) rfl)) (λ_ _ _ _ _ _=>(BO (i:=0) (show(["value"]:List Str).Nodup from by decide +kernel) rfl (Or.inl rfl))) (λ_ _ _ _ _ _=>(DT (A8 K7 (AB 0) DR (A3 _)))) (λ_ _ _ _ _ _=>(AN AO (AB 0) AI (λ_ _=>rfl)))) AJ))) rfl)
   (AR (ER (AB 0) (BC W8 hr.m hx.passes rfl (AE (AB 5) (AE (BC lQ hr.m hx.passes rfl (AE (BV (AB 0) rfl) AJ)) AJ))) rfl)
   (AV (ER (AB 0) (BC W8 hr.m hx.passes rfl (AE (AB 5) (AE (BC lQ hr.m hx.passes rfl (AE (ES (AB 0) T.HW zde hr.m hx.passes) AJ)) AJ))) rfl))))))))))))
abbrev M8:Stmt:=BI 39
theorem RX:FnScope ["view","names","xs","with_name","records","r","pieces"] ["view","names","xs","with_name"] (AM M8):=.go
theorem zch(T:Txt K mg a)(F:Fun K "_law_record" "_law_record" M8 f fd)(W1:BM P w K mg base (1) "_law_free_records" ["view"] (J6 K a))(PH:BM P w K mg base (1) "_law_free_names" ["view"] (HN K a))(zcz:BM P w K mg base (3) "_law_pieces" ["view","xs","many"] (OQ K a))(W2:BM P w K mg base (2) "_law_named" ["view","names","r","number"] (J8 K a)) :
  FP P w K mg base 4 f fd ["view","names","xs","with_name"] (LI K a) :=
 F.okF (VU K a) RX Wc Wb λ_ _ _ _ _ E hr hx=>(AR (BD 4 RX.nd (BC W1 hr.m hx.passes rfl (AE (AB 0) AJ)))
   (AR (CB (PW.pt (JE (A8 (DH hr.units) (AB 4) (C0 AJ) (A3 _)) (NE (PW.pt (GR (HY (AB 3) (λ_=>rfl)) (GQ (A8 (DH hr.units) (BC PH hr.m hx.passes rfl (AE (AB 0) AJ)) (C0 AJ) (A3 _)))))))) (AV mS) CO)
   (AR (BD 5 RX.nd (AN AO (AB 4) (AU B6 (AN AO (AB 2) AI (λ_ _=>rfl)) (CI CT rfl T.CV (by rfl) (AE (AB 4) AJ))) (λ_ _=>rfl)))
   (AR (BD 6 RX.nd (BC zcz hr.m hx.passes rfl (AE (AB 0) (AE (NI NV (AB 2) (IA AI) (IA AI)) (AE (AU B6 (AN AO (AB 2) AI (λ_ _=>rfl)) AI) AJ)))))
   (AV (CB (HY (AB 3) (λ_=>rfl)) (AR (EA (CZ (AE (AU BK AI (AN AO (C0 (AE AI (AE AI (AE AI (AE AI (AE (AU SE (AU nD AI AI) AI) AJ)))))) (AU B6 (AN AO (AB 2) AI (λ_ _=>rfl)) AI) (λ_ _=>rfl))) (AE (AB 6) AJ))) (D9 (AN AO (AB 0) AI (λ_ _=>rfl)) (AB 5) D6))
   (AR (EA AI (D9 (AN AO (AB 0) AI (λ_ _=>rfl)) (AB 5) D6))
   (AV (DE (BC W2 hr.m hx.passes rfl (AE (AB 0) (AE (AB 1) (AE (AB 5) (AE (AN AO (AB 2) AI (λ_ _=>rfl)) AJ))))))))) (AR (EA (CZ (AE (AU BK AI (AU B6 (AN AO (AB 2) AI (λ_ _=>rfl)) AI)) (AE (AB 6) AJ))) (D9 (AN AO (AB 0) AI (λ_ _=>rfl)) (AB 5) D6))
   (AR (EA (AN AO (C0 (AE AI (AE AI (AE AI (AE DR AJ))))) (AU B6 (AU FH (AN AO (AB 2) AI (λ_ _=>rfl)) AI) AI) (λ_ _=>rfl)) (D9 (AN AO (AB 0) AI (λ_ _=>rfl)) (AB 5) D6))
   (AV (DE (FL PySem.F.plainAttrs_list PySem.F.slot_list_extend PySem.F.type_list_extend pG (AN AO (AB 0) AI (λ_ _=>rfl)) (AE (HZ S8 rfl T.R5 (by rfl) (AE (AB 6) AJ)) AJ))))))))))))
abbrev JC:Stmt:=BI 42
theorem PD:FnScope ["cells","sizes","names","many","view","cell","xs"] ["cells","sizes","names"] (AM JC):=.go
theorem zci(T:Txt K mg a)(F:Fun K "_law_view" "_law_view" JC f fd)(K1:BM P w K mg base (1) "_law_spun" ["cell","many"] (GF K a))(lM:BM P w K mg base (4) "_law_record" ["view","names","xs","with_name"] (LI K a))(zcx:BM P w K mg base (3) "_law_more" ["view","names","xs"] (OR K a))(zct:BM P w K mg base (3) "_law_alone" ["view","kind","xs"] (OS K a)) :
  FP P w K mg base 5 f fd ["cells","sizes","names"] (OT K a) :=
 F.okF (VW K a) PD Wv Wq λ_ _ _ _ _ E hr hx=>(AR (GS (i:=3) PD.nd rfl (Or.inr rfl) (DG (tn:=["size"]) (cn:=["sizes"]) (cap:=[1]) (B4 (outer:=AM JC) (N:=["cells","sizes","names","many","view","cell","xs"]) rfl rfl (by decide +kernel)) rfl (DM (NI NV (AB 1) YE (IA AI))) (λ_ _ _ _ _ _=>(BO (i:=0) (show(["size","sizes"]:List Str).Nodup from by decide +kernel) rfl (Or.inl rfl))) (λ_ _ _ _ _ _=>EQ) (λ_ _ _ _ _ _=>(AU E3 (AB 0) (AN AO (AB 1) AI (λ_ _=>rfl))))))
   (AR (BD 4 PD.nd (AU BK (DG (tn:=["k"]) (cn:=["many"]) (cap:=[3]) (B4 (outer:=AM JC) (N:=["cells","sizes","names","many","view","cell","xs"]) rfl rfl (by decide +kernel)) rfl (DM (C0 (AE AI (AE AI (AE AI (AE AI (AE AI AJ))))))) (λ_ _ _ _ _ _=>(BO (i:=0) (show(["k","many"]:List Str).Nodup from by decide +kernel) rfl (Or.inl rfl))) (λ_ _ _ _ _ _=>EQ) (λ_ _ _ _ _ _=>(AU E3 (C0 (AE DR AJ)) (AN AO (AB 1) (AB 0) (λ_ _=>rfl))))) (C0 (AE (C0 AJ) AJ))))
   (AR (EE hx.po rfl (DM (AB 0)) (EG 5 PD.nd) (AR (BD 6 PD.nd (BC K1 hr.m hx.passes rfl (AE (AU FH (AB 5) AI) (AE AI AJ))))
   (AV (CB (A8 QZ (AU B6 (AB 5) AI) AI (A3 _)) (AV (DE (BC lM hr.m hx.passes rfl (AE (AB 4) (AE (AB 2) (AE (AB 6) (AE GP AJ))))))) (AV (CB (A8 (DH hr.units) (AU B6 (AB 5) AI) AI (A3 _)) (AV (DE (BC zcx hr.m hx.passes rfl (AE (AB 4) (AE (AB 2) (AE (AB 6) AJ)))))) (AV (CB (A8 (DH hr.units) (AU B6 (AB 5) AI) AI (A3 _)) (AV (DE (BC lM hr.m hx.passes rfl (AE (AB 4) (AE (AB 2) (AE (AB 6) (AE GP AJ))))))) (AV (DE (BC zct hr.m hx.passes rfl (AE (AB 4) (AE (AU B6 (AB 5) AI) (AE (AB 6) AJ))))))))))))))
   (AV (BJ (AB 4))))))
abbrev M9:Stmt:=BI 6
theorem lJ:FnScope ["layout","plank","view"] ["layout","plank"] (AM M9):=.go
theorem zcj(T:Txt K mg a)(F:Fun K "walk" "walk" M9 f fd)(XG:NS P w K mg base (a "View") 4 "View" ["self","layout","plank"] (IY K a))(WX:BM P w K mg base (3) "faults_in" ["view"] (JY K a))(zc2:BM P w K mg base (3) "leavings_in" ["view"] (OM K a)) :
  FP P w K mg base 6 f fd ["layout","plank"] (JZ K a) :=
 F.okF (VX K a) lJ Tc Tb λ_ _ _ _ _ E hr hx=>(AR (BD 2 lJ.nd (QX XG hr.m hx.passes rfl (AE (AB 0) (AE (AB 1) AJ))))
   (AV (BJ (AU BK (BC WX hr.m hx.passes rfl (AE (AB 2) AJ)) (BC zc2 hr.m hx.passes rfl (AE (AB 2) AJ))))))
abbrev NA:Stmt:=BI 7
theorem zck:FnScope ["layout","plank"] ["layout","plank"] (AM NA):=.go
theorem zcl(T:Txt K mg a)(F:Fun K "is_sound" "is_sound" NA f fd)(XG:NS P w K mg base (a "View") 4 "View" ["self","layout","plank"] (IY K a))(WX:BM P w K mg base (3) "faults_in" ["view"] (JY K a)) :
  FP P w K mg base 6 f fd ["layout","plank"] (J0 K a) :=
 F.okF (VY K a) zck Tg Td λ_ _ _ _ _ E hr hx=>(AV (BJ (QD (DH hr.units) (CI CT rfl T.CV (by rfl) (AE (BC WX hr.m hx.passes rfl (AE (QX XG hr.m hx.passes rfl (AE (AB 0) (AE (AB 1) AJ))) AJ)) AJ)) AI (A3 _))))
abbrev NB:Stmt:=BI 20
theorem RY:FnScope ["layout","plank","finds","due","find"] ["layout","plank"] (AM NB):=.go
theorem zcm(T:Txt K mg a)(F:Fun K "mend" "mend" NB f fd)(WY:BM P w K mg base (6) "is_sound" ["layout","plank"] (J0 K a))(W9:BM P w K mg base (6) "walk" ["layout","plank"] (JZ K a))(zc6:BM P w K mg base (3) "mended_cells" ["layout","plank","find"] (OW K a))(zc7:BM P w K mg base (3) "write_due" ["plank","due"] (OX K a)) :
  FP P w K mg base 7 f fd ["layout","plank"] (LJ K a) :=
 F.okF (VZ K a) RY Yy Yx λ_ _ _ _ _ E hr hx=>(AR (CB (PX (HY (BC WY hr.m hx.passes rfl (AE (AB 0) (AE (AB 1) AJ))) (λ_=>rfl))) (AV (S3 hx T.zdj rfl T.zdi (AE CG AJ))) CO)
   (AR (BD 2 RY.nd (BC W9 hr.m hx.passes rfl (AE (AB 0) (AE (AB 1) AJ))))
   (AR (BD 3 RY.nd pV)
   (AR (EE hx.po rfl (DM (AB 2)) (EG 4 RY.nd) (AV (DE (FL PySem.F.plainAttrs_dict PySem.F.slot_dict_update PySem.F.type_dict_update (wU (IC hr)) (AB 3) (AE (BC zc6 hr.m hx.passes rfl (AE (AB 0) (AE (AB 1) (AE (AB 4) AJ)))) AJ)))))
   (AR (DE (BC zc7 hr.m hx.passes rfl (AE (AB 1) (AE (AB 3) AJ))))
   (AV (BJ (AB 2))))))))
abbrev HU:Stmt:=BI 48
theorem FX:FnScope ["script","sizes","view","layout","plank","ahead","behind","writings","k","due","found"] ["script"] (AM HU):=.go
theorem zcn(T:Txt K mg a)(F:Fun K "law" "law" HU f fd)(lL:BM P w K mg base (1) "_law_cell_at" ["script","k"] (IR K a))(zcv:BM P w K mg base (2) "_law_layout" ["cell"] (ON K a))(zcy:BM P w K mg base (2) "_law_names" ["cell","many"] (OP K a))(zc0:BM P w K mg base (5) "_law_view" ["cells","sizes","names"] (OT K a))(zdf:NS P w K mg base (a "Layout") 1 "Layout" ["self","names","records","pieces","cells"] (LE K a))(zdc:B2 P w K mg base (a "Layout") 3 "plank" ["self"] (OC K a))(zc1:BM P w K mg base (3) "_law_write" ["plank","view","cells"] (OV K a))(lN:BM P w K mg base (1) "_law_rows" ["view","cells"] (LK K a))(zcw:BM P w K mg base (2) "_law_mended" ["view"] (OY K a))(zcu:BM P w K mg base (2) "_law_due" ["view"] (OU K a))(lP:BM P w K mg base (7) "mend" ["layout","plank"] (LJ K a))(lO:BM P w K mg base (3) "_law_stands" ["plank","rows"] (J9 K a))(lR:B2 P w K mg base (a "Plank") 1 "writings" ["self"] (LC K a))(WY:BM P w K mg base (6) "is_sound" ["layout","plank"] (J0 K a))(W9:BM P w K mg base (6) "walk" ["layout","plank"] (JZ K a)) :
  FP P w K mg base 8 f fd ["script"] (TY K a) :=
 F.okF (V0 K a) FX Zx Zw λ_ _ _ _ _ E hr hx=>(AR (BD 1 FX.nd (BC zcv hr.m hx.passes rfl (AE (BC lL hr.m hx.passes rfl (AE (AB 0) (AE AI AJ))) AJ)))
   (AR (BD 2 FX.nd (BC zc0 hr.m hx.passes rfl (AE (NI NV (AB 0) (IA AI) YE) (AE (AB 1) (AE (BC zcy hr.m hx.passes rfl (AE (BC lL hr.m hx.passes rfl (AE (AB 0) (AE AI AJ))) (AE AI AJ))) AJ)))))
   (AR (BD 3 FX.nd (QX zdf hr.m hx.passes rfl (AE (AN AO (AB 1) AI (λ_ _=>rfl)) (AE (AN AO (AB 1) AI (λ_ _=>rfl)) (AE (AN AO (AB 1) AI (λ_ _=>rfl)) (AE (AN AO (AB 1) AI (λ_ _=>rfl)) AJ))))))
   (AR (BD 4 FX.nd (ES (AB 3) T.DV zdc hr.m hx.passes))
   (AR (DE (BC zc1 hr.m hx.passes rfl (AE (AB 4) (AE (AB 2) (AE (AN AO (AB 1) AI (λ_ _=>rfl)) AJ)))))
   (AR (BD 5 FX.nd (BC lN hr.m hx.passes rfl (AE (AB 2) (AE (AN AO (AB 1) AI (λ_ _=>rfl)) AJ))))
   (AR (BD 6 FX.nd (BC lN hr.m hx.passes rfl (AE (BC zcw hr.m hx.passes rfl (AE (AB 2) AJ)) (AE (AN AO (AB 1) AI (λ_ _=>rfl)) AJ))))
   (AR (BD 7 FX.nd (CI CT rfl T.CV (by rfl) (AE (AB 5) AJ)))
   (AR (EE hx.po rfl (DL rfl T.DD (AE (CI CT rfl T.CV (by rfl) (AE (AB 5) AJ)) AJ)) (EG 8 FX.nd) (AV (BD 7 FX.nd (AU BK (AB 7) (HZ SG rfl T.XH (by rfl) (AE (QD (EK hr.units) (AN AO (AB 5) (AB 8) (λ_ _=>rfl)) (AN AO (AB 6) (AB 8) (λ_ _=>rfl)) (A3 _)) AJ))))))
   (AR (BD 9 FX.nd (BC zcu hr.m hx.passes rfl (AE (AB 2) AJ)))
   (AR (BD 10 FX.nd (BC lP hr.m hx.passes rfl (AE (AB 3) (AE (AB 4) AJ))))
   (AR (CB (PW.pt (JE (PX (HY (CI Q1 rfl T.R4 (by rfl) (AE (AB 10) (AE (PU rfl T.R5 (by rfl) rfl) AJ))) (λ_=>rfl))) (JE (A8 (EK hr.units) (AB 10) (AB 9) (A3 _)) (NE (PX (HY (BC lO hr.m hx.passes rfl (AE (AB 4) (AE (AB 6) AJ))) (λ_=>rfl))))))) (AV (BJ GP)) CO)
   (AR (DE (pF PySem.F.plainAttrs_list PySem.F.slot_list_clear PySem.F.type_list_clear pH (AB 10)))
   (AR (CB (PW.pt (JE (A8 (EK hr.units) (BC W9 hr.m hx.passes rfl (AE (AB 3) (AE (AB 4) AJ))) (C0 AJ) (A3 _)) (JE (A8 uX (BC WY hr.m hx.passes rfl (AE (AB 3) (AE (AB 4) AJ))) GP (A3 _)) (NE (A8 (EK hr.units) (ES (AB 4) T.FY lR hr.m hx.passes) (AB 7) (A3 _)))))) (AV (BJ GP)) CO)
   (AR (CB (PW.pt (JE (A8 (EK hr.units) (BC lP hr.m hx.passes rfl (AE (AB 3) (AE (AB 4) AJ))) (C0 AJ) (A3 _)) (NE (A8 (EK hr.units) (ES (AB 4) T.FY lR hr.m hx.passes) (AB 7) (A3 _))))) (AV (BJ GP)) CO)
   (AV (BJ (BC lO hr.m hx.passes rfl (AE (AB 4) (AE (AB 6) AJ))))))))))))))))))))
end
end L2
namespace L2
theorem zco(q8j q8k q8l q8m q8n:Addr):∃ a:Ad,a "NoBlock"=q8j/\a "NotSound"=q8k/\a "View"=q8l/\a "Plank"=q8m/\a "Layout"=q8n :=
 ⟨λs=>if s="NoBlock" then q8j else if s="NotSound" then q8k else if s="View" then q8l else if s="Plank" then q8m else if s="Layout" then q8n else 0,by simp,by simp,by simp,by simp,by simp⟩
theorem CU{α :Type}{P:List α ->Prop}(h:∀ x0,P [x0]):∀ us:List α,us.length=1->P us
 | [],e=>by simp at e
 | [x0],_=>h x0
 | _::_::_,e=>by simp at e
theorem us2{α :Type}{P:List α ->Prop}(h:∀ x0 x1,P [x0,x1]):∀ us:List α,us.length=2->P us
 | [],e=>by simp at e
 | [_],e=>by simp at e
 | [x0,x1],_=>h x0 x1
 | _::_::_::_,e=>by simp at e
theorem HB{α :Type}{P:List α ->Prop}(h:∀ x0 x1 x2,P [x0,x1,x2]):∀ us:List α,us.length=3->P us
 | [],e=>by simp at e
 | [_],e=>by simp at e
 | [_,_],e=>by simp at e
 | [x0,x1,x2],_=>h x0 x1 x2
 | _::_::_::_::_,e=>by simp at e
theorem lK{α :Type}{P:List α ->Prop}(h:∀ x0 x1 x2 x3,P [x0,x1,x2,x3]):∀ us:List α,us.length=4->P us
 | [],e=>by simp at e
 | [_],e=>by simp at e
 | [_,_],e=>by simp at e
 | [_,_,_],e=>by simp at e
 | [x0,x1,x2,x3],_=>h x0 x1 x2 x3
 | _::_::_::_::_::_,e=>by simp at e
theorem us5{α :Type}{P:List α ->Prop}(h:∀ x0 x1 x2 x3 x4,P [x0,x1,x2,x3,x4]):∀ us:List α,us.length=5->P us
 | [],e=>by simp at e
 | [_],e=>by simp at e
 | [_,_],e=>by simp at e
 | [_,_,_],e=>by simp at e
 | [_,_,_,_],e=>by simp at e
 | [x0,x1,x2,x3,x4],_=>h x0 x1 x2 x3 x4
 | _::_::_::_::_::_::_,e=>by simp at e
def WW(K:W.Frag):Sp:=λvs H Q _=>∃ (s:Addr) (ns:List Int),vs=[.ref s]/\SqL K H s (ns.map V.int)/\ns.length<=63/\∀ H',Q (.bl true) H'
theorem all_mk{l:W.OpenLaw}{w:World}{K:W.Frag}{h:Heap}{mg:Str->Option Value}{fa:Addr}{q8j q8k q8l q8m q8n:Addr}{q8o q8p q8q q8r q8s q8t q8u q8v q8w q8x q8y q8z q90 q91 q92 q93 q94 q95 q96 q97 q98 q99 q9a q9b q9c q9d q9e q9f q9g q9h q9i q9j q9k q9l q9m q9n q9o q9p q9q q9r q9s q9t q9u q9v q9w q9x q9y q9z qa0 qa1 qa2 qa3 qa4 qa5 qa6 qa7 qa8 qa9 qaa:Addr}{qab qby qdl qf8 qgv qii qac qbz qdm qf9 qgw qij qad qc0 qdn qfa qgx qik qae qc1 qdo qfb qgy qil qaf qc2 qdp qfc qgz qim qag qc3 qdq qfd qh0 qin qah qc4 qdr qfe qh1 qio qai qc5 qds qff qh2 qip qaj qc6 qdt qfg qh3 qiq qak qc7 qdu qfh qh4 qir qal qc8 qdv qfi qh5 qis qam qc9 qdw qfj qh6 qit qan qca qdx qfk qh7 qiu qao qcb qdy qfl qh8 qiv qap qcc qdz qfm qh9 qiw qaq qcd qe0 qfn qha qix qar qce qe1 qfo qhb qiy qas qcf qe2 qfp qhc qiz qat qcg qe3 qfq qhd qj0 qau qch qe4 qfr qhe qj1 qav qci qe5 qfs qhf qj2 qaw qcj qe6 qft qhg qj3 qax qck qe7 qfu qhh qj4 qay qcl qe8 qfv qhi qj5 qaz qcm qe9 qfw qhj qj6 qb0 qcn qea qfx qhk qj7 qb1 qco qeb qfy qhl qj8 qb2 qcp qec qfz qhm qj9 qb3 qcq qed qg0 qhn qja qb4 qcr qee qg1 qho qjb qb5 qcs qef qg2 qhp qjc qb6 qct qeg qg3 qhq qjd qb7 qcu qeh qg4 qhr qje qb8 qcv qei qg5 qhs qjf qb9 qcw qej qg6 qht qjg qba qcx qek qg7 qhu qjh qbb qcy qel qg8 qhv qji qbc qcz qem qg9 qhw qjj qbd qd0 qen qga qhx qjk qbe qd1 qeo qgb qhy qjl qbf qd2 qep qgc qhz qjm qbg qd3 qeq qgd qi0 qjn qbh qd4 qer qge qi1 qjo qbi qd5 qes qgf qi2 qjp qbj qd6 qet qgg qi3 qjq qbk qd7 qeu qgh qi4 qjr qbl qd8 qev qgi qi5 qjs qbm qd9 qew qgj qi6 qjt qbn qda qex qgk qi7 qju qbo qdb qey qgl qi8 qjv qbp qdc qez qgm qi9 qjw qbq qdd qf0 qgn qia qjx qbr qde qf1 qgo qib qjy qbs qdf qf2 qgp qic qjz qbt qdg qf3 qgq qid qk0 qbu qdh qf4 qgr qie qk1 qbv qdi qf5 qgs qif qk2 qbw qdj qf6 qgt qig qk3 qbx qdk qf7 qgu qih qk4:Value}{qk5 qls qk6 qlt qk7 qlu qk8 qlv qk9 qlw qka qlx qkb qly qkc qlz qkd qm0 qke qm1 qkf qm2 qkg qm3 qkh qm4 qki qm5 qkj qm6 qkk qm7 qkl qm8 qkm qm9 qkn qma qko qmb qkp qmc qkq qmd qkr qme qks qmf qkt qmg qku qmh qkv qmi qkw qmj qkx qmk qky qml qkz qmm ql0 qmn ql1 qmo ql2 qmp ql3 qmq ql4 qmr ql5 qms ql6 qmt ql7 qmu ql8 qmv ql9 qmw qla qmx qlb qmy qlc qmz qld qn0 qle qn1 qlf qn2 qlg qn3 qlh qn4 qli qn5 qlj qn6 qlk qn7 qll qn8 qlm qn9 qln qna qlo qnb qlp qnc qlq qnd qlr qne:Option Addr}{qnf qng qnh qni qnj qnk qnl qnm qnn qno qnp qnq qnr qns qnt qnu qnv qnw qnx qny qnz qo0 qo1 qo2 qo3 qo4 qo5 qo6 qo7 qo8 qo9 qoa qob qoc qod qoe qof qog qoh qoi qoj qok qol qom qon qoo qop qoq qor qos qot qou qov qow qox qoy qoz qp0 qp1:Array (Option Value)}(X:K.In h)(G:h.Ns mainGlobals mg)(hfa:mg "law"=some (.ref fa))
  (q0:W.nsIn K mainGlobals "NoBlock"=some (some (.ref q8j)))
  (q1:W.nsIn K mainGlobals "NotSound"=some (some (.ref q8k)))
  (q2:W.nsIn K mainGlobals "View"=some (some (.ref q8l)))
  (q3:W.nsIn K mainGlobals "Plank"=some (some (.ref q8m)))
  (q4:W.nsIn K mainGlobals "Layout"=some (some (.ref q8n)))
  (q5:W.plainGet K q8n Str.empty=true)
  (q6:W.hasDictIn K q8n=true)
  (q7:W.plainOver K q8n=true)
  (q8:W.findIn K (.ref q8n) "__setattr__"=some (some (.builtin "object.__setattr__")))
  (q9:W.plainGet K q8m Str.empty=true)
  (qa:W.hasDictIn K q8m=true)
  (qb:W.plainOver K q8m=true)
  (qc:W.findIn K (.ref q8m) "__setattr__"=some (some (.builtin "object.__setattr__")))
  (qd:W.plainGet K q8l Str.empty=true)
  (qe:W.hasDictIn K q8l=true)
  (qf:W.plainOver K q8l=true)
  (qg:W.findIn K (.ref q8l) "__setattr__"=some (some (.builtin "object.__setattr__")))
  (qh:W.makesIn K q8n=true)
  (qi:W.keepIn K (.ref q8n)=true)
  (qj:W.makesIn K q8m=true)
  (qk:W.keepIn K (.ref q8m)=true)
  (ql:W.makesIn K q8l=true)
  (qm:W.keepIn K (.ref q8l)=true)
  (qn:W.excIn K q8j [.type "ValueError",.type "Exception",.type "BaseException",.type "object"] "ValueError.__new__"=true)
  (qo:W.excIn K q8k [.type "ValueError",.type "Exception",.type "BaseException",.type "object"] "ValueError.__new__"=true)
  (qp:W.nsIn K mainGlobals "bool"=some none)
  (qq:W.nsIn K mainGlobals "enumerate"=some none)
  (qr:W.nsIn K mainGlobals "int"=some none)
  (qs:W.nsIn K mainGlobals "isinstance"=some none)
  (qt:W.nsIn K mainGlobals "len"=some none)
  (qu:W.nsIn K mainGlobals "list"=some none)
  (qv:W.nsIn K mainGlobals "range"=some none)
  (qw:W.nsIn K mainGlobals "sorted"=some none)
  (qx:W.nsIn K mainGlobals "tuple"=some none)
  (qy:W.findIn K (.ref q8l) "records_led_to"=some (some (.ref q8o)))
  (qz:W.isFn K (.ref q8o)=true)
  (q10:K.lookup q8o=some ⟨qab,qk5,.func (W.fnOf "records_led_to" "View.records_led_to" (BB KI) (A6 KI) (AM KI) .none qby qdl qf8 qls qgv qii),qnf⟩)
  (q11:W.codeIn K qgv "View.records_led_to"=true)
  (q12:W.keepIn K (.ref q8o)=true)
  (q13:W.findIn K (.ref q8l) "records_standing"=some (some (.ref q8p)))
  (q14:W.isFn K (.ref q8p)=true)
  (q15:K.lookup q8p=some ⟨qac,qk6,.func (W.fnOf "records_standing" "View.records_standing" (BB KJ) (A6 KJ) (AM KJ) .none qbz qdm qf9 qlt qgw qij),qng⟩)
  (q16:W.codeIn K qgw "View.records_standing"=true)
  (q17:W.keepIn K (.ref q8p)=true)
  (q18:W.findIn K (.ref q8l) "pieces_named"=some (some (.ref q8q)))
  (q19:W.isFn K (.ref q8q)=true)
  (q1a:K.lookup q8q=some ⟨qad,qk7,.func (W.fnOf "pieces_named" "View.pieces_named" (BB KK) (A6 KK) (AM KK) .none qc0 qdn qfa qlu qgx qik),qnh⟩)
  (q1b:W.codeIn K qgx "View.pieces_named"=true)
  (q1c:W.keepIn K (.ref q8q)=true)
  (q1d:W.findIn K (.ref q8l) "count_of"=some (some (.ref q8r)))
  (q1e:W.isFn K (.ref q8r)=true)
  (q1f:K.lookup q8r=some ⟨qae,qk8,.func (W.fnOf "count_of" "View.count_of" (BB L7) (A6 L7) (AM L7) .none qc1 qdo qfb qlv qgy qil),qni⟩)
  (q1g:W.codeIn K qgy "View.count_of"=true)
  (q1h:W.keepIn K (.ref q8r)=true)
  (q1i:W.nsIn K mainGlobals "faults_of_names"=some (some (.ref q8s)))
  (q1j:K.lookup q8s=some ⟨qaf,qk9,.func (W.fnOf "faults_of_names" "faults_of_names" (BB L8) (A6 L8) (AM L8) .none qc2 qdp qfc qlw qgz qim),qnj⟩)
  (q1k:W.codeIn K qgz "faults_of_names"=true)
  (q1l:W.keepIn K (.ref q8s)=true)
  (q1m:W.nsIn K mainGlobals "left_pieces"=some (some (.ref q8t)))
  (q1n:K.lookup q8t=some ⟨qag,qka,.func (W.fnOf "left_pieces" "left_pieces" (BB JA) (A6 JA) (AM JA) .none qc3 qdq qfd qlx qh0 qin),qnk⟩)
  (q1o:W.codeIn K qh0 "left_pieces"=true)
  (q1p:W.keepIn K (.ref q8t)=true)
  (q1q:W.nsIn K mainGlobals "marked_records"=some (some (.ref q8u)))
  (q1r:K.lookup q8u=some ⟨qah,qkb,.func (W.fnOf "marked_records" "marked_records" (BB JB) (A6 JB) (AM JB) .none qc4 qdr qfe qly qh1 qio),qnl⟩)
  (q1s:W.codeIn K qh1 "marked_records"=true)
  (q1t:W.keepIn K (.ref q8u)=true)
  (q1u:W.nsIn K mainGlobals "tally"=some (some (.ref q8v)))
  (q1v:K.lookup q8v=some ⟨qai,qkc,.func (W.fnOf "tally" "tally" (BB KL) (A6 KL) (AM KL) .none qc5 qds qff qlz qh2 qip),qnm⟩)
  (q1w:W.codeIn K qh2 "tally"=true)
  (q1x:W.keepIn K (.ref q8v)=true)
  (q1y:W.nsIn K mainGlobals "pieces_in"=some (some (.ref q8w)))
  (q1z:K.lookup q8w=some ⟨qaj,qkd,.func (W.fnOf "pieces_in" "pieces_in" (BB MA) (A6 MA) (AM MA) .none qc6 qdt qfg qm0 qh3 qiq),qnn⟩)
  (q20:W.codeIn K qh3 "pieces_in"=true)
  (q21:W.keepIn K (.ref q8w)=true)
  (q22:W.findIn K (.ref q8m) "__init__"=some (some (.ref q8x)))
  (q23:W.isFn K (.ref q8x)=true)
  (q24:K.lookup q8x=some ⟨qak,qke,.func (W.fnOf "__init__" "Plank.__init__" (BB KM) (A6 KM) (AM KM) .none qc7 qdu qfh qm1 qh4 qir),qno⟩)
  (q25:W.codeIn K qh4 "Plank.__init__"=true)
  (q26:W.keepIn K (.ref q8x)=true)
  (q27:W.findIn K (.ref q8m) "blocks"=some (some (.ref q8y)))
  (q28:W.isFn K (.ref q8y)=true)
  (q29:K.lookup q8y=some ⟨qal,qkf,.func (W.fnOf "blocks" "Plank.blocks" (BB MB) (A6 MB) (AM MB) .none qc8 qdv qfi qm2 qh5 qis),qnp⟩)
  (q2a:W.codeIn K qh5 "Plank.blocks"=true)
  (q2b:W.keepIn K (.ref q8y)=true)
  (q2c:W.findIn K (.ref q8m) "writings"=some (some (.ref q8z)))
  (q2d:W.isFn K (.ref q8z)=true)
  (q2e:K.lookup q8z=some ⟨qam,qkg,.func (W.fnOf "writings" "Plank.writings" (BB MC) (A6 MC) (AM MC) .none qc9 qdw qfj qm3 qh6 qit),qnq⟩)
  (q2f:W.codeIn K qh6 "Plank.writings"=true)
  (q2g:W.keepIn K (.ref q8z)=true)
  (q2h:W.findIn K (.ref q8m) "ask_for_block"=some (some (.ref q90)))
  (q2i:W.isFn K (.ref q90)=true)
  (q2j:K.lookup q90=some ⟨qan,qkh,.func (W.fnOf "ask_for_block" "Plank.ask_for_block" (BB MD) (A6 MD) (AM MD) .none qca qdx qfk qm4 qh7 qiu),qnr⟩)
  (q2k:W.codeIn K qh7 "Plank.ask_for_block"=true)
  (q2l:W.keepIn K (.ref q90)=true)
  (q2m:W.findIn K (.ref q8n) "__init__"=some (some (.ref q91)))
  (q2n:W.isFn K (.ref q91)=true)
  (q2o:K.lookup q91=some ⟨qao,qki,.func (W.fnOf "__init__" "Layout.__init__" (BB ME) (A6 ME) (AM ME) .none qcb qdy qfl qm5 qh8 qiv),qns⟩)
  (q2p:W.codeIn K qh8 "Layout.__init__"=true)
  (q2q:W.keepIn K (.ref q91)=true)
  (q2r:W.findIn K (.ref q8n) "counts"=some (some (.ref q92)))
  (q2s:W.isFn K (.ref q92)=true)
  (q2t:K.lookup q92=some ⟨qap,qkj,.func (W.fnOf "counts" "Layout.counts" (BB MF) (A6 MF) (AM MF) .none qcc qdz qfm qm6 qh9 qiw),qnt⟩)
  (q2u:W.codeIn K qh9 "Layout.counts"=true)
  (q2v:W.keepIn K (.ref q92)=true)
  (q2w:W.findIn K (.ref q8n) "blocks_ahead_of_marks"=some (some (.ref q93)))
  (q2x:W.isFn K (.ref q93)=true)
  (q2y:K.lookup q93=some ⟨qaq,qkk,.func (W.fnOf "blocks_ahead_of_marks" "Layout.blocks_ahead_of_marks" (BB MG) (A6 MG) (AM MG) .none qcd qe0 qfn qm7 qha qix),qnu⟩)
  (q2z:W.codeIn K qha "Layout.blocks_ahead_of_marks"=true)
  (q30:W.keepIn K (.ref q93)=true)
  (q31:W.findIn K (.ref q8n) "place_from"=some (some (.ref q94)))
  (q32:W.isFn K (.ref q94)=true)
  (q33:K.lookup q94=some ⟨qar,qkl,.func (W.fnOf "place_from" "Layout.place_from" (BB MH) (A6 MH) (AM MH) .none qce qe1 qfo qm8 qhb qiy),qnv⟩)
  (q34:W.codeIn K qhb "Layout.place_from"=true)
  (q35:W.keepIn K (.ref q94)=true)
  (q36:W.nsIn K mainGlobals "_law_cell_at"=some (some (.ref q95)))
  (q37:K.lookup q95=some ⟨qas,qkm,.func (W.fnOf "_law_cell_at" "_law_cell_at" (BB MI) (A6 MI) (AM MI) .none qcf qe2 qfp qm9 qhc qiz),qnw⟩)
  (q38:W.codeIn K qhc "_law_cell_at"=true)
  (q39:W.keepIn K (.ref q95)=true)
  (q3a:W.nsIn K mainGlobals "_law_spun"=some (some (.ref q96)))
  (q3b:K.lookup q96=some ⟨qat,qkn,.func (W.fnOf "_law_spun" "_law_spun" (BB MJ) (A6 MJ) (AM MJ) .none qcg qe3 qfq qma qhd qj0),qnx⟩)
  (q3c:W.codeIn K qhd "_law_spun"=true)
  (q3d:W.keepIn K (.ref q96)=true)
  (q3e:W.nsIn K mainGlobals "_law_led"=some (some (.ref q97)))
  (q3f:K.lookup q97=some ⟨qau,qko,.func (W.fnOf "_law_led" "_law_led" (BB MK) (A6 MK) (AM MK) .none qch qe4 qfr qmb qhe qj1),qny⟩)
  (q3g:W.codeIn K qhe "_law_led"=true)
  (q3h:W.keepIn K (.ref q97)=true)
  (q3i:W.nsIn K mainGlobals "_law_free_names"=some (some (.ref q98)))
  (q3j:K.lookup q98=some ⟨qav,qkp,.func (W.fnOf "_law_free_names" "_law_free_names" (BB KO) (A6 KO) (AM KO) .none qci qe5 qfs qmc qhf qj2),qnz⟩)
  (q3k:W.codeIn K qhf "_law_free_names"=true)
  (q3l:W.keepIn K (.ref q98)=true)
  (q3m:W.nsIn K mainGlobals "_law_free_records"=some (some (.ref q99)))
  (q3n:K.lookup q99=some ⟨qaw,qkq,.func (W.fnOf "_law_free_records" "_law_free_records" (BB KP) (A6 KP) (AM KP) .none qcj qe6 qft qmd qhg qj3),qo0⟩)
  (q3o:W.codeIn K qhg "_law_free_records"=true)
  (q3p:W.keepIn K (.ref q99)=true)
  (q3q:W.nsIn K mainGlobals "_law_free_pieces"=some (some (.ref q9a)))
  (q3r:K.lookup q9a=some ⟨qax,qkr,.func (W.fnOf "_law_free_pieces" "_law_free_pieces" (BB KQ) (A6 KQ) (AM KQ) .none qck qe7 qfu qme qhh qj4),qo1⟩)
  (q3s:W.codeIn K qhh "_law_free_pieces"=true)
  (q3t:W.keepIn K (.ref q9a)=true)
  (q3u:W.nsIn K mainGlobals "_law_rows"=some (some (.ref q9b)))
  (q3v:K.lookup q9b=some ⟨qay,qks,.func (W.fnOf "_law_rows" "_law_rows" (BB KR) (A6 KR) (AM KR) .none qcl qe8 qfv qmf qhi qj5),qo2⟩)
  (q3w:W.codeIn K qhi "_law_rows"=true)
  (q3x:W.keepIn K (.ref q9b)=true)
  (q3y:W.nsIn K mainGlobals "faults_of_things"=some (some (.ref q9c)))
  (q3z:K.lookup q9c=some ⟨qaz,qkt,.func (W.fnOf "faults_of_things" "faults_of_things" (BB HR) (A6 HR) (AM HR) .none qcm qe9 qfw qmg qhj qj6),qo3⟩)
  (q40:W.codeIn K qhj "faults_of_things"=true)
  (q41:W.keepIn K (.ref q9c)=true)
  (q42:W.nsIn K mainGlobals "faults_of_marks"=some (some (.ref q9d)))
  (q43:K.lookup q9d=some ⟨qb0,qku,.func (W.fnOf "faults_of_marks" "faults_of_marks" (BB HS) (A6 HS) (AM HS) .none qcn qea qfx qmh qhk qj7),qo4⟩)
  (q44:W.codeIn K qhk "faults_of_marks"=true)
  (q45:W.keepIn K (.ref q9d)=true)
  (q46:W.nsIn K mainGlobals "leavings_of_records"=some (some (.ref q9e)))
  (q47:K.lookup q9e=some ⟨qb1,qkv,.func (W.fnOf "leavings_of_records" "leavings_of_records" (BB ML) (A6 ML) (AM ML) .none qco qeb qfy qmi qhl qj8),qo5⟩)
  (q48:W.codeIn K qhl "leavings_of_records"=true)
  (q49:W.keepIn K (.ref q9e)=true)
  (q4a:W.findIn K (.ref q8m) "read"=some (some (.ref q9f)))
  (q4b:W.isFn K (.ref q9f)=true)
  (q4c:K.lookup q9f=some ⟨qb2,qkw,.func (W.fnOf "read" "Plank.read" (BB MM) (A6 MM) (AM MM) .none qcp qec qfz qmj qhm qj9),qo6⟩)
  (q4d:W.codeIn K qhm "Plank.read"=true)
  (q4e:W.keepIn K (.ref q9f)=true)
  (q4f:W.findIn K (.ref q8m) "write"=some (some (.ref q9g)))
  (q4g:W.isFn K (.ref q9g)=true)
  (q4h:K.lookup q9g=some ⟨qb3,qkx,.func (W.fnOf "write" "Plank.write" (BB MN) (A6 MN) (AM MN) .none qcq qed qg0 qmk qhn qja),qo7⟩)
  (q4i:W.codeIn K qhn "Plank.write"=true)
  (q4j:W.keepIn K (.ref q9g)=true)
  (q4k:W.findIn K (.ref q8n) "name_at"=some (some (.ref q9h)))
  (q4l:W.isFn K (.ref q9h)=true)
  (q4m:K.lookup q9h=some ⟨qb4,qky,.func (W.fnOf "name_at" "Layout.name_at" (BB MO) (A6 MO) (AM MO) .none qcr qee qg1 qml qho qjb),qo8⟩)
  (q4n:W.codeIn K qho "Layout.name_at"=true)
  (q4o:W.keepIn K (.ref q9h)=true)
  (q4p:W.findIn K (.ref q8n) "record_at"=some (some (.ref q9i)))
  (q4q:W.isFn K (.ref q9i)=true)
  (q4r:K.lookup q9i=some ⟨qb5,qkz,.func (W.fnOf "record_at" "Layout.record_at" (BB MP) (A6 MP) (AM MP) .none qcs qef qg2 qmm qhp qjc),qo9⟩)
  (q4s:W.codeIn K qhp "Layout.record_at"=true)
  (q4t:W.keepIn K (.ref q9i)=true)
  (q4u:W.findIn K (.ref q8n) "piece_at"=some (some (.ref q9j)))
  (q4v:W.isFn K (.ref q9j)=true)
  (q4w:K.lookup q9j=some ⟨qb6,ql0,.func (W.fnOf "piece_at" "Layout.piece_at" (BB MQ) (A6 MQ) (AM MQ) .none qct qeg qg3 qmn qhq qjd),qoa⟩)
  (q4x:W.codeIn K qhq "Layout.piece_at"=true)
  (q4y:W.keepIn K (.ref q9j)=true)
  (q4z:W.findIn K (.ref q8n) "record_mark"=some (some (.ref q9k)))
  (q50:W.isFn K (.ref q9k)=true)
  (q51:K.lookup q9k=some ⟨qb7,ql1,.func (W.fnOf "record_mark" "Layout.record_mark" (BB MR) (A6 MR) (AM MR) .none qcu qeh qg4 qmo qhr qje),qob⟩)
  (q52:W.codeIn K qhr "Layout.record_mark"=true)
  (q53:W.keepIn K (.ref q9k)=true)
  (q54:W.findIn K (.ref q8n) "piece_mark"=some (some (.ref q9l)))
  (q55:W.isFn K (.ref q9l)=true)
  (q56:K.lookup q9l=some ⟨qb8,ql2,.func (W.fnOf "piece_mark" "Layout.piece_mark" (BB MS) (A6 MS) (AM MS) .none qcv qei qg5 qmp qhs qjf),qoc⟩)
  (q57:W.codeIn K qhs "Layout.piece_mark"=true)
  (q58:W.keepIn K (.ref q9l)=true)
  (q59:W.findIn K (.ref q8n) "blocks"=some (some (.ref q9m)))
  (q5a:W.isFn K (.ref q9m)=true)
  (q5b:K.lookup q9m=some ⟨qb9,ql3,.func (W.fnOf "blocks" "Layout.blocks" (BB MT) (A6 MT) (AM MT) .none qcw qej qg6 qmq qht qjg),qod⟩)
  (q5c:W.codeIn K qht "Layout.blocks"=true)
  (q5d:W.keepIn K (.ref q9m)=true)
  (q5e:W.nsIn K mainGlobals "_law_names"=some (some (.ref q9n)))
  (q5f:K.lookup q9n=some ⟨qba,ql4,.func (W.fnOf "_law_names" "_law_names" (BB KS) (A6 KS) (AM KS) .none qcx qek qg7 qmr qhu qjh),qoe⟩)
  (q5g:W.codeIn K qhu "_law_names"=true)
  (q5h:W.keepIn K (.ref q9n)=true)
  (q5i:W.nsIn K mainGlobals "_law_text"=some (some (.ref q9o)))
  (q5j:K.lookup q9o=some ⟨qbb,ql5,.func (W.fnOf "_law_text" "_law_text" (BB KU) (A6 KU) (AM KU) .none qcy qel qg8 qms qhv qji),qof⟩)
  (q5k:W.codeIn K qhv "_law_text"=true)
  (q5l:W.keepIn K (.ref q9o)=true)
  (q5m:W.nsIn K mainGlobals "_law_layout"=some (some (.ref q9p)))
  (q5n:K.lookup q9p=some ⟨qbc,ql6,.func (W.fnOf "_law_layout" "_law_layout" (BB MV) (A6 MV) (AM MV) .none qcz qem qg9 qmt qhw qjj),qog⟩)
  (q5o:W.codeIn K qhw "_law_layout"=true)
  (q5p:W.keepIn K (.ref q9p)=true)
  (q5q:W.nsIn K mainGlobals "_law_named"=some (some (.ref q9q)))
  (q5r:K.lookup q9q=some ⟨qbd,ql7,.func (W.fnOf "_law_named" "_law_named" (BB MW) (A6 MW) (AM MW) .none qd0 qen qga qmu qhx qjk),qoh⟩)
  (q5s:W.codeIn K qhx "_law_named"=true)
  (q5t:W.keepIn K (.ref q9q)=true)
  (q5u:W.nsIn K mainGlobals "_law_due"=some (some (.ref q9r)))
  (q5v:K.lookup q9r=some ⟨qbe,ql8,.func (W.fnOf "_law_due" "_law_due" (BB GO) (A6 GO) (AM GO) .none qd1 qeo qgb qmv qhy qjl),qoi⟩)
  (q5w:W.codeIn K qhy "_law_due"=true)
  (q5x:W.keepIn K (.ref q9r)=true)
  (q5y:W.nsIn K mainGlobals "_law_mended"=some (some (.ref q9s)))
  (q5z:K.lookup q9s=some ⟨qbf,ql9,.func (W.fnOf "_law_mended" "_law_mended" (BB KW) (A6 KW) (AM KW) .none qd2 qep qgc qmw qhz qjm),qoj⟩)
  (q60:W.codeIn K qhz "_law_mended"=true)
  (q61:W.keepIn K (.ref q9s)=true)
  (q62:W.nsIn K mainGlobals "faults_in"=some (some (.ref q9t)))
  (q63:K.lookup q9t=some ⟨qbg,qla,.func (W.fnOf "faults_in" "faults_in" (BB MY) (A6 MY) (AM MY) .none qd3 qeq qgd qmx qi0 qjn),qok⟩)
  (q64:W.codeIn K qi0 "faults_in"=true)
  (q65:W.keepIn K (.ref q9t)=true)
  (q66:W.nsIn K mainGlobals "leavings_in"=some (some (.ref q9u)))
  (q67:K.lookup q9u=some ⟨qbh,qlb,.func (W.fnOf "leavings_in" "leavings_in" (BB MZ) (A6 MZ) (AM MZ) .none qd4 qer qge qmy qi1 qjo),qol⟩)
  (q68:W.codeIn K qi1 "leavings_in"=true)
  (q69:W.keepIn K (.ref q9u)=true)
  (q6a:W.nsIn K mainGlobals "values_at"=some (some (.ref q9v)))
  (q6b:K.lookup q9v=some ⟨qbi,qlc,.func (W.fnOf "values_at" "values_at" (BB KY) (A6 KY) (AM KY) .none qd5 qes qgf qmz qi2 qjp),qom⟩)
  (q6c:W.codeIn K qi2 "values_at"=true)
  (q6d:W.keepIn K (.ref q9v)=true)
  (q6e:W.nsIn K mainGlobals "mended_cells"=some (some (.ref q9w)))
  (q6f:K.lookup q9w=some ⟨qbj,qld,.func (W.fnOf "mended_cells" "mended_cells" (BB M0) (A6 M0) (AM M0) .none qd6 qet qgg qn0 qi3 qjq),qon⟩)
  (q6g:W.codeIn K qi3 "mended_cells"=true)
  (q6h:W.keepIn K (.ref q9w)=true)
  (q6i:W.nsIn K mainGlobals "write_due"=some (some (.ref q9x)))
  (q6j:K.lookup q9x=some ⟨qbk,qle,.func (W.fnOf "write_due" "write_due" (BB KZ) (A6 KZ) (AM KZ) .none qd7 qeu qgh qn1 qi4 qjr),qoo⟩)
  (q6k:W.codeIn K qi4 "write_due"=true)
  (q6l:W.keepIn K (.ref q9x)=true)
  (q6m:W.findIn K (.ref q8n) "plank"=some (some (.ref q9y)))
  (q6n:W.isFn K (.ref q9y)=true)
  (q6o:K.lookup q9y=some ⟨qbl,qlf,.func (W.fnOf "plank" "Layout.plank" (BB M3) (A6 M3) (AM M3) .none qd8 qev qgi qn2 qi5 qjs),qop⟩)
  (q6p:W.codeIn K qi5 "Layout.plank"=true)
  (q6q:W.keepIn K (.ref q9y)=true)
  (q6r:W.nsIn K mainGlobals "_law_pieces"=some (some (.ref q9z)))
  (q6s:K.lookup q9z=some ⟨qbm,qlg,.func (W.fnOf "_law_pieces" "_law_pieces" (BB M4) (A6 M4) (AM M4) .none qd9 qew qgj qn3 qi6 qjt),qoq⟩)
  (q6t:W.codeIn K qi6 "_law_pieces"=true)
  (q6u:W.keepIn K (.ref q9z)=true)
  (q6v:W.nsIn K mainGlobals "_law_more"=some (some (.ref qa0)))
  (q6w:K.lookup qa0=some ⟨qbn,qlh,.func (W.fnOf "_law_more" "_law_more" (BB K0) (A6 K0) (AM K0) .none qda qex qgk qn4 qi7 qju),qor⟩)
  (q6x:W.codeIn K qi7 "_law_more"=true)
  (q6y:W.keepIn K (.ref qa0)=true)
  (q6z:W.nsIn K mainGlobals "_law_alone"=some (some (.ref qa1)))
  (q70:K.lookup qa1=some ⟨qbo,qli,.func (W.fnOf "_law_alone" "_law_alone" (BB M5) (A6 M5) (AM M5) .none qdb qey qgl qn5 qi8 qjv),qos⟩)
  (q71:W.codeIn K qi8 "_law_alone"=true)
  (q72:W.keepIn K (.ref qa1)=true)
  (q73:W.nsIn K mainGlobals "_law_write"=some (some (.ref qa2)))
  (q74:K.lookup qa2=some ⟨qbp,qlj,.func (W.fnOf "_law_write" "_law_write" (BB M6) (A6 M6) (AM M6) .none qdc qez qgm qn6 qi9 qjw),qot⟩)
  (q75:W.codeIn K qi9 "_law_write"=true)
  (q76:W.keepIn K (.ref qa2)=true)
  (q77:W.nsIn K mainGlobals "_law_stands"=some (some (.ref qa3)))
  (q78:K.lookup qa3=some ⟨qbq,qlk,.func (W.fnOf "_law_stands" "_law_stands" (BB M7) (A6 M7) (AM M7) .none qdd qf0 qgn qn7 qia qjx),qou⟩)
  (q79:W.codeIn K qia "_law_stands"=true)
  (q7a:W.keepIn K (.ref qa3)=true)
  (q7b:W.findIn K (.ref q8l) "__init__"=some (some (.ref qa4)))
  (q7c:W.isFn K (.ref qa4)=true)
  (q7d:K.lookup qa4=some ⟨qbr,qll,.func (W.fnOf "__init__" "View.__init__" (BB FW) (A6 FW) (AM FW) .none qde qf1 qgo qn8 qib qjy),qov⟩)
  (q7e:W.codeIn K qib "View.__init__"=true)
  (q7f:W.keepIn K (.ref qa4)=true)
  (q7g:W.nsIn K mainGlobals "_law_record"=some (some (.ref qa5)))
  (q7h:K.lookup qa5=some ⟨qbs,qlm,.func (W.fnOf "_law_record" "_law_record" (BB M8) (A6 M8) (AM M8) .none qdf qf2 qgp qn9 qic qjz),qow⟩)
  (q7i:W.codeIn K qic "_law_record"=true)
  (q7j:W.keepIn K (.ref qa5)=true)
  (q7k:W.nsIn K mainGlobals "_law_view"=some (some (.ref qa6)))
  (q7l:K.lookup qa6=some ⟨qbt,qln,.func (W.fnOf "_law_view" "_law_view" (BB JC) (A6 JC) (AM JC) .none qdg qf3 qgq qna qid qk0),qox⟩)
  (q7m:W.codeIn K qid "_law_view"=true)
  (q7n:W.keepIn K (.ref qa6)=true)
  (q7o:W.nsIn K mainGlobals "walk"=some (some (.ref qa7)))
  (q7p:K.lookup qa7=some ⟨qbu,qlo,.func (W.fnOf "walk" "walk" (BB M9) (A6 M9) (AM M9) .none qdh qf4 qgr qnb qie qk1),qoy⟩)
  (q7q:W.codeIn K qie "walk"=true)
  (q7r:W.keepIn K (.ref qa7)=true)
  (q7s:W.nsIn K mainGlobals "is_sound"=some (some (.ref qa8)))
  (q7t:K.lookup qa8=some ⟨qbv,qlp,.func (W.fnOf "is_sound" "is_sound" (BB NA) (A6 NA) (AM NA) .none qdi qf5 qgs qnc qif qk2),qoz⟩)
  (q7u:W.codeIn K qif "is_sound"=true)
  (q7v:W.keepIn K (.ref qa8)=true)
  (q7w:W.nsIn K mainGlobals "mend"=some (some (.ref qa9)))
  (q7x:K.lookup qa9=some ⟨qbw,qlq,.func (W.fnOf "mend" "mend" (BB NB) (A6 NB) (AM NB) .none qdj qf6 qgt qnd qig qk3),qp0⟩)
  (q7y:W.codeIn K qig "mend"=true)
  (q7z:W.keepIn K (.ref qa9)=true)
  (q80:W.nsIn K mainGlobals "law"=some (some (.ref qaa)))
  (q81:K.lookup qaa=some ⟨qbx,qlr,.func (W.fnOf "law" "law" (BB HU) (A6 HU) (AM HU) .none qdk qf7 qgu qne qih qk4),qp1⟩)
  (q82:W.codeIn K qih "law"=true)
  (q83:W.keepIn K (.ref qaa)=true)
  (q84:W.findIn K (.ref q8m) "contents"=some none)
  (q85:W.findIn K (.ref q8m) "width"=some none)
  (q86:W.findIn K (.ref q8m) "written"=some none)
  (q87:W.findIn K (.ref q8n) "name_blocks"=some none)
  (q88:W.findIn K (.ref q8n) "record_blocks"=some none)
  (q89:W.findIn K (.ref q8n) "piece_blocks"=some none)
  (q8a:W.findIn K (.ref q8n) "width"=some none)
  (q8b:W.findIn K (.ref q8l) "name_values"=some none)
  (q8c:W.findIn K (.ref q8l) "record_values"=some none)
  (q8d:W.findIn K (.ref q8l) "piece_values"=some none)
  (q8e:W.findIn K (.ref q8l) "record_marks"=some none)
  (q8f:W.findIn K (.ref q8l) "piece_marks"=some none)
  (q8g:W.findIn K (.ref q8l) "leads"=some none)
  (q8h:W.findIn K (.ref q8l) "namings"=some none)
  (q8i:W.findIn K (.ref q8l) "reached"=some none) :
  ∃ fd:FuncData,(∀ (s:Shared) (v:Value),BindsTo s fd ⟨[v],[]⟩ [("script",v)])/\∀ base:Heap,K.In base->base.Ns mainGlobals mg->FnOk l.prog w K mg base (D5 l.prog w) 8 fa fd ["script"] (WW K):=by
 obtain⟨a,rfl,rfl,rfl,rfl,rfl⟩:=zco q8j q8k q8l q8m q8n
 have e:=hfa.symm.trans (W.mg_of X G q80)
 cases e
 have T:Txt K mg a:=⟨⟨q5,q6,q7,q8⟩,⟨q9,qa,qb,qc⟩,⟨qd,qe,qf,qg⟩,W.mg_of X G q0,⟨_,W.mg_of X G q0,rfl⟩,⟨qn⟩,W.mg_of X G q1,⟨_,W.mg_of X G q1,rfl⟩,⟨qo⟩,W.mg_none_of X G qp,W.mg_none_of X G qq,W.mg_none_of X G qr,W.mg_none_of X G qs,W.mg_none_of X G qt,W.mg_none_of X G qu,W.mg_none_of X G qv,W.mg_none_of X G qw,W.mg_none_of X G qx⟩
 have TPk:EL K a:=⟨T.FY,q84,q85,q86⟩
 have TLy:EM K a:=⟨T.DV,q87,q88,q89,q8a⟩
 have TVw:TV K a:=⟨T.HW,q8b,q8c,q8d,q8e,q8f,q8g,q8h,q8i⟩
 have qp2:=BG (st:=KI) q10 q11 q12
 have qqp:=qp2.binds (ps:=["self"]) λ_ _ _ _ _ _=>CU λ_=>rfl
 have qp3:=BG (st:=KJ) q15 q16 q17
 have qqq:=qp3.binds (ps:=["self"]) λ_ _ _ _ _ _=>CU λ_=>rfl
 have qp4:=BG (st:=KK) q1a q1b q1c
 have qqr:=qp4.binds (ps:=["self"]) λ_ _ _ _ _ _=>CU λ_=>rfl
 have qp5:=BG (st:=L7) q1f q1g q1h
 have qqs:=qp5.binds (ps:=["self","record"]) λ_ _ _ _ _ _=>us2 λ_ _=>rfl
 have qp6:=BG (st:=L8) q1j q1k q1l
 have qqt:=qp6.binds (ps:=["view"]) λ_ _ _ _ _ _=>CU λ_=>rfl
 have qp7:=BG (st:=JA) q1n q1o q1p
 have qqu:=qp7.binds (ps:=["view"]) λ_ _ _ _ _ _=>CU λ_=>rfl
 have qp8:=BG (st:=JB) q1r q1s q1t
 have qqv:=qp8.binds (ps:=["view"]) λ_ _ _ _ _ _=>CU λ_=>rfl
 have qp9:=BG (st:=KL) q1v q1w q1x
 have qqw:=qp9.binds (ps:=["many","numbers"]) λ_ _ _ _ _ _=>us2 λ_ _=>rfl
 have qpa:=BG (st:=MA) q1z q20 q21
 have qqx:=qpa.binds (ps:=["records"]) λ_ _ _ _ _ _=>CU λ_=>rfl
 have qpb:=BG (st:=KM) q24 q25 q26
 have qqy:=qpb.binds (ps:=["self","blocks","cells"]) λ_ _ _ _ _ _=>HB λ_ _ _=>rfl
 have qpc:=BG (st:=MB) q29 q2a q2b
 have qqz:=qpc.binds (ps:=["self"]) λ_ _ _ _ _ _=>CU λ_=>rfl
 have qpd:=BG (st:=MC) q2e q2f q2g
 have qr0:=qpd.binds (ps:=["self"]) λ_ _ _ _ _ _=>CU λ_=>rfl
 have qpe:=BG (st:=MD) q2j q2k q2l
 have qr1:=qpe.binds (ps:=["self","block"]) λ_ _ _ _ _ _=>us2 λ_ _=>rfl
 have qpf:=BG (st:=ME) q2o q2p q2q
 have qr2:=qpf.binds (ps:=["self","names","records","pieces","cells"]) λ_ _ _ _ _ _=>us5 λ_ _ _ _ _=>rfl
 have qpg:=BG (st:=MF) q2t q2u q2v
 have qr3:=qpg.binds (ps:=["self"]) λ_ _ _ _ _ _=>CU λ_=>rfl
 have qph:=BG (st:=MG) q2y q2z q30
 have qr4:=qph.binds (ps:=["self"]) λ_ _ _ _ _ _=>CU λ_=>rfl
 have qpi:=BG (st:=MH) q33 q34 q35
 have qr5:=qpi.binds (ps:=["self","block","k"]) λ_ _ _ _ _ _=>HB λ_ _ _=>rfl
 have qpj:=BG (st:=MI) q37 q38 q39
 have qr6:=qpj.binds (ps:=["script","k"]) λ_ _ _ _ _ _=>us2 λ_ _=>rfl
 have qpk:=BG (st:=MJ) q3b q3c q3d
 have qr7:=qpk.binds (ps:=["cell","many"]) λ_ _ _ _ _ _=>us2 λ_ _=>rfl
 have qpl:=BG (st:=MK) q3f q3g q3h
 have qr8:=qpl.binds (ps:=["view"]) λ_ _ _ _ _ _=>CU λ_=>rfl
 have qpm:=BG (st:=KO) q3j q3k q3l
 have qr9:=qpm.binds (ps:=["view"]) λ_ _ _ _ _ _=>CU λ_=>rfl
 have qpn:=BG (st:=KP) q3n q3o q3p
 have qra:=qpn.binds (ps:=["view"]) λ_ _ _ _ _ _=>CU λ_=>rfl
 have qpo:=BG (st:=KQ) q3r q3s q3t
 have qrb:=qpo.binds (ps:=["view"]) λ_ _ _ _ _ _=>CU λ_=>rfl
 have qpp:=BG (st:=KR) q3v q3w q3x
 have qrc:=qpp.binds (ps:=["view","cells"]) λ_ _ _ _ _ _=>us2 λ_ _=>rfl
 have qpq:=BG (st:=HR) q3z q40 q41
 have qrd:=qpq.binds (ps:=["view"]) λ_ _ _ _ _ _=>CU λ_=>rfl
 have qpr:=BG (st:=HS) q43 q44 q45
 have qre:=qpr.binds (ps:=["view"]) λ_ _ _ _ _ _=>CU λ_=>rfl
 have qps:=BG (st:=ML) q47 q48 q49
 have qrf:=qps.binds (ps:=["view"]) λ_ _ _ _ _ _=>CU λ_=>rfl
 have qpt:=BG (st:=MM) q4c q4d q4e
 have qrg:=qpt.binds (ps:=["self","block"]) λ_ _ _ _ _ _=>us2 λ_ _=>rfl
 have qpu:=BG (st:=MN) q4h q4i q4j
 have qrh:=qpu.binds (ps:=["self","block","values"]) λ_ _ _ _ _ _=>HB λ_ _ _=>rfl
 have qpv:=BG (st:=MO) q4m q4n q4o
 have qri:=qpv.binds (ps:=["self","k"]) λ_ _ _ _ _ _=>us2 λ_ _=>rfl
 have qpw:=BG (st:=MP) q4r q4s q4t
 have qrj:=qpw.binds (ps:=["self","k"]) λ_ _ _ _ _ _=>us2 λ_ _=>rfl
 have qpx:=BG (st:=MQ) q4w q4x q4y
 have qrk:=qpx.binds (ps:=["self","k"]) λ_ _ _ _ _ _=>us2 λ_ _=>rfl
 have qpy:=BG (st:=MR) q51 q52 q53
 have qrl:=qpy.binds (ps:=["self","k"]) λ_ _ _ _ _ _=>us2 λ_ _=>rfl
 have qpz:=BG (st:=MS) q56 q57 q58
 have qrm:=qpz.binds (ps:=["self","k"]) λ_ _ _ _ _ _=>us2 λ_ _=>rfl
 have qq0:=BG (st:=MT) q5b q5c q5d
 have qrn:=qq0.binds (ps:=["self"]) λ_ _ _ _ _ _=>CU λ_=>rfl
 have qq1:=BG (st:=KS) q5f q5g q5h
 have qro:=qq1.binds (ps:=["cell","many"]) λ_ _ _ _ _ _=>us2 λ_ _=>rfl
 have qq2:=BG (st:=KU) q5j q5k q5l
 have qrp:=qq2.binds (ps:=["cell"]) λ_ _ _ _ _ _=>CU λ_=>rfl
 have qq3:=BG (st:=MV) q5n q5o q5p
 have qrq:=qq3.binds (ps:=["cell"]) λ_ _ _ _ _ _=>CU λ_=>rfl
 have qq4:=BG (st:=MW) q5r q5s q5t
 have qrr:=qq4.binds (ps:=["view","names","r","number"]) λ_ _ _ _ _ _=>lK λ_ _ _ _=>rfl
 have qq5:=BG (st:=GO) q5v q5w q5x
 have qrs:=qq5.binds (ps:=["view"]) λ_ _ _ _ _ _=>CU λ_=>rfl
 have qq6:=BG (st:=KW) q5z q60 q61
 have qrt:=qq6.binds (ps:=["view"]) λ_ _ _ _ _ _=>CU λ_=>rfl
 have qq7:=BG (st:=MY) q63 q64 q65
 have qru:=qq7.binds (ps:=["view"]) λ_ _ _ _ _ _=>CU λ_=>rfl
 have qq8:=BG (st:=MZ) q67 q68 q69
 have qrv:=qq8.binds (ps:=["view"]) λ_ _ _ _ _ _=>CU λ_=>rfl
 have qq9:=BG (st:=KY) q6b q6c q6d
 have qrw:=qq9.binds (ps:=["plank","places"]) λ_ _ _ _ _ _=>us2 λ_ _=>rfl
 have qqa:=BG (st:=M0) q6f q6g q6h
 have qrx:=qqa.binds (ps:=["layout","plank","find"]) λ_ _ _ _ _ _=>HB λ_ _ _=>rfl
 have qqb:=BG (st:=KZ) q6j q6k q6l
 have qry:=qqb.binds (ps:=["plank","due"]) λ_ _ _ _ _ _=>us2 λ_ _=>rfl
 have qqc:=BG (st:=M3) q6o q6p q6q
 have qrz:=qqc.binds (ps:=["self"]) λ_ _ _ _ _ _=>CU λ_=>rfl
 have qqd:=BG (st:=M4) q6s q6t q6u
 have qs0:=qqd.binds (ps:=["view","xs","many"]) λ_ _ _ _ _ _=>HB λ_ _ _=>rfl
 have qqe:=BG (st:=K0) q6w q6x q6y
 have qs1:=qqe.binds (ps:=["view","names","xs"]) λ_ _ _ _ _ _=>HB λ_ _ _=>rfl
 have qqf:=BG (st:=M5) q70 q71 q72
 have qs2:=qqf.binds (ps:=["view","kind","xs"]) λ_ _ _ _ _ _=>HB λ_ _ _=>rfl
 have qqg:=BG (st:=M6) q74 q75 q76
 have qs3:=qqg.binds (ps:=["plank","view","cells"]) λ_ _ _ _ _ _=>HB λ_ _ _=>rfl
 have qqh:=BG (st:=M7) q78 q79 q7a
 have qs4:=qqh.binds (ps:=["plank","rows"]) λ_ _ _ _ _ _=>us2 λ_ _=>rfl
 have qqi:=BG (st:=FW) q7d q7e q7f
 have qs5:=qqi.binds (ps:=["self","layout","plank"]) λ_ _ _ _ _ _=>HB λ_ _ _=>rfl
 have qqj:=BG (st:=M8) q7h q7i q7j
 have qs6:=qqj.binds (ps:=["view","names","xs","with_name"]) λ_ _ _ _ _ _=>lK λ_ _ _ _=>rfl
 have qqk:=BG (st:=JC) q7l q7m q7n
 have qs7:=qqk.binds (ps:=["cells","sizes","names"]) λ_ _ _ _ _ _=>HB λ_ _ _=>rfl
 have qql:=BG (st:=M9) q7p q7q q7r
 have qs8:=qql.binds (ps:=["layout","plank"]) λ_ _ _ _ _ _=>us2 λ_ _=>rfl
 have qqm:=BG (st:=NA) q7t q7u q7v
 have qs9:=qqm.binds (ps:=["layout","plank"]) λ_ _ _ _ _ _=>us2 λ_ _=>rfl
 have qqn:=BG (st:=NB) q7x q7y q7z
 have qsa:=qqn.binds (ps:=["layout","plank"]) λ_ _ _ _ _ _=>us2 λ_ _=>rfl
 have qqo:=BG (st:=HU) q81 q82 q83
 have qsb:=qqo.binds (ps:=["script"]) λ_ _ _ _ _ _=>CU λ_=>rfl
 refine⟨W.fnOf "law" "law" (BB HU) (A6 HU) (AM HU) .none qdk qf7 qgu qne qih qk4,λs v=>.of_eq rfl,λbase _ _=> ?_⟩
 have qsc:=Zz l.prog w base T qp2
 have qsd:=zab l.prog w base T qp3
 have qse:=zad l.prog w base T qp4
 have qsf:=zaf l.prog w base T qp5
 have qsg:=zag l.prog w base T qp6
 have qsh:=zah l.prog w base T qp7
 have qsi:=zai l.prog w base T qp8
 have qsj:=zaj l.prog w base T qp9
 have qsk:=zak l.prog w base T qpa
 have qsl:=zam l.prog w base T qpb
 have qsm:=zao l.prog w base T qpc
 have qsn:=zaq l.prog w base T qpd
 have qso:=zas l.prog w base T qpe
 have qsp:=zau l.prog w base T qpf
 have qsq:=zaw l.prog w base T qpg
 have qsr:=zay l.prog w base T qph
 have qss:=za0 l.prog w base T qpi
 have qst:=za2 l.prog w base T qpj
 have qsu:=za3 l.prog w base T qpk
 have qsv:=za4 l.prog w base T qpl
 have qsw:=za6 l.prog w base T qpm
 have qsx:=za8 l.prog w base T qpn
 have qsy:=zba l.prog w base T qpo
 have qsz:=zbb l.prog w base T qpp
 have qt0:=zbc l.prog w base T qpq ⟨_,_,qse,⟨q18,q19,q1c⟩,qqr⟩ ⟨_,_,qsd,⟨q13,q14,q17⟩,qqq⟩ ⟨_,_,qsf,⟨q1d,q1e,q1h⟩,qqs⟩
 have qt1:=zbd l.prog w base T qpr ⟨_,_,qse,⟨q18,q19,q1c⟩,qqr⟩
 have qt2:=zbe l.prog w base T qps ⟨_,_,qsd,⟨q13,q14,q17⟩,qqq⟩ ⟨_,_,qsf,⟨q1d,q1e,q1h⟩,qqs⟩
 have qt3:=zbg l.prog w base T qpt ⟨_,_,qso,⟨q2h,q2i,q2l⟩,qr1⟩
 have qt4:=zbi l.prog w base T qpu ⟨_,_,qso,⟨q2h,q2i,q2l⟩,qr1⟩
 have qt5:=zbk l.prog w base T qpv ⟨_,_,qss,⟨q31,q32,q35⟩,qr5⟩
 have qt6:=zbm l.prog w base T qpw ⟨_,_,qss,⟨q31,q32,q35⟩,qr5⟩
 have qt7:=zbo l.prog w base T qpx ⟨_,_,qss,⟨q31,q32,q35⟩,qr5⟩
 have qt8:=zbq l.prog w base T qpy ⟨_,_,qsr,⟨q2w,q2x,q30⟩,qr4⟩ ⟨_,_,qss,⟨q31,q32,q35⟩,qr5⟩
 have qt9:=zbs l.prog w base T qpz ⟨_,_,qsr,⟨q2w,q2x,q30⟩,qr4⟩ ⟨_,_,qss,⟨q31,q32,q35⟩,qr5⟩
 have qta:=zbu l.prog w base T qq0 ⟨_,_,qsr,⟨q2w,q2x,q30⟩,qr4⟩
 have qtb:=zbv l.prog w base T qq1 ⟨_,_,qsu,W.mg_of X G q3a,q3d,qr7⟩
 have qtc:=zbw l.prog w base T qq2 ⟨_,_,qsu,W.mg_of X G q3a,q3d,qr7⟩
 have qtd:=zbx l.prog w base T qq3 ⟨_,_,qsu,W.mg_of X G q3a,q3d,qr7⟩
 have qte:=zby l.prog w base T qq4 ⟨_,_,qsw,W.mg_of X G q3i,q3l,qr9⟩
 have qtf:=zbz l.prog w base T qq5 ⟨_,_,qsv,W.mg_of X G q3e,q3h,qr8⟩
 have qtg:=zb0 l.prog w base T qq6 ⟨_,_,qsv,W.mg_of X G q3e,q3h,qr8⟩
 have qth:=zb2 l.prog w base T qq7 ⟨_,_,qsg,W.mg_of X G q1i,q1l,qqt⟩ ⟨_,_,qt0,W.mg_of X G q3y,q41,qrd⟩ ⟨_,_,qt1,W.mg_of X G q42,q45,qre⟩
 have qti:=zb4 l.prog w base T qq8 ⟨_,_,qt2,W.mg_of X G q46,q49,qrf⟩ ⟨_,_,qsh,W.mg_of X G q1m,q1p,qqu⟩ ⟨_,_,qsi,W.mg_of X G q1q,q1t,qqv⟩
 have qtj:=zb6 l.prog w base T qq9 ⟨_,_,qt3,⟨q4a,q4b,q4e⟩,qrg⟩
 have qtk:=zb7 l.prog w base T qqa ⟨_,_,qt6,⟨q4p,q4q,q4t⟩,qrj⟩ ⟨_,_,qt3,⟨q4a,q4b,q4e⟩,qrg⟩ ⟨_,_,qt8,⟨q4z,q50,q53⟩,qrl⟩ ⟨_,_,qt9,⟨q54,q55,q58⟩,qrm⟩
 have qtl:=zb8 l.prog w base T qqb ⟨_,_,qsm,⟨q27,q28,q2b⟩,qqz⟩ ⟨_,_,qt3,⟨q4a,q4b,q4e⟩,qrg⟩ ⟨_,_,qt4,⟨q4f,q4g,q4j⟩,qrh⟩
 have qtm:=zca l.prog w base T qqc ⟨_,_,qta,⟨q59,q5a,q5d⟩,qrn⟩ ⟨_,_,qsl,⟨qj,q22,q23,qk⟩,W.mg_of X G q3,qqy⟩
 have qtn:=zcb l.prog w base T qqd ⟨_,_,qsy,W.mg_of X G q3q,q3t,qrb⟩ ⟨_,_,qtc,W.mg_of X G q5i,q5l,qrp⟩
 have qto:=zcc l.prog w base T qqe ⟨_,_,qsv,W.mg_of X G q3e,q3h,qr8⟩ ⟨_,_,qsw,W.mg_of X G q3i,q3l,qr9⟩ ⟨_,_,qte,W.mg_of X G q5q,q5t,qrr⟩
 have qtp:=zcd l.prog w base T qqf ⟨_,_,qsx,W.mg_of X G q3m,q3p,qra⟩ ⟨_,_,qsy,W.mg_of X G q3q,q3t,qrb⟩ ⟨_,_,qtc,W.mg_of X G q5i,q5l,qrp⟩
 have qtq:=zce l.prog w base T qqg ⟨_,_,qt4,⟨q4f,q4g,q4j⟩,qrh⟩
 have qtr:=zcf l.prog w base T qqh ⟨_,_,qt3,⟨q4a,q4b,q4e⟩,qrg⟩
 have qts:=zcg l.prog w base T qqi ⟨_,_,qsq,⟨q2r,q2s,q2v⟩,qr3⟩ ⟨_,_,qt5,⟨q4k,q4l,q4o⟩,qri⟩ ⟨_,_,qtj,W.mg_of X G q6a,q6d,qrw⟩ ⟨_,_,qt6,⟨q4p,q4q,q4t⟩,qrj⟩ ⟨_,_,qt7,⟨q4u,q4v,q4y⟩,qrk⟩ ⟨_,_,qt8,⟨q4z,q50,q53⟩,qrl⟩ ⟨_,_,qt9,⟨q54,q55,q58⟩,qrm⟩ ⟨_,_,qsj,W.mg_of X G q1u,q1x,qqw⟩ ⟨_,_,qsk,W.mg_of X G q1y,q21,qqx⟩ ⟨_,_,qsc,⟨qy,qz,q12⟩,qqp⟩
 have qtt:=zch l.prog w base T qqj ⟨_,_,qsx,W.mg_of X G q3m,q3p,qra⟩ ⟨_,_,qsw,W.mg_of X G q3i,q3l,qr9⟩ ⟨_,_,qtn,W.mg_of X G q6r,q6u,qs0⟩ ⟨_,_,qte,W.mg_of X G q5q,q5t,qrr⟩
 have qtu:=zci l.prog w base T qqk ⟨_,_,qsu,W.mg_of X G q3a,q3d,qr7⟩ ⟨_,_,qtt,W.mg_of X G q7g,q7j,qs6⟩ ⟨_,_,qto,W.mg_of X G q6v,q6y,qs1⟩ ⟨_,_,qtp,W.mg_of X G q6z,q72,qs2⟩
 have qtv:=zcj l.prog w base T qql ⟨_,_,qts,⟨ql,q7b,q7c,qm⟩,W.mg_of X G q2,qs5⟩ ⟨_,_,qth,W.mg_of X G q62,q65,qru⟩ ⟨_,_,qti,W.mg_of X G q66,q69,qrv⟩
 have qtw:=zcl l.prog w base T qqm ⟨_,_,qts,⟨ql,q7b,q7c,qm⟩,W.mg_of X G q2,qs5⟩ ⟨_,_,qth,W.mg_of X G q62,q65,qru⟩
 have qtx:=zcm l.prog w base T qqn ⟨_,_,qtw,W.mg_of X G q7s,q7v,qs9⟩ ⟨_,_,qtv,W.mg_of X G q7o,q7r,qs8⟩ ⟨_,_,qtk,W.mg_of X G q6e,q6h,qrx⟩ ⟨_,_,qtl,W.mg_of X G q6i,q6l,qry⟩
 have qty:=zcn l.prog w base T qqo ⟨_,_,qst,W.mg_of X G q36,q39,qr6⟩ ⟨_,_,qtd,W.mg_of X G q5m,q5p,qrq⟩ ⟨_,_,qtb,W.mg_of X G q5e,q5h,qro⟩ ⟨_,_,qtu,W.mg_of X G q7k,q7n,qs7⟩ ⟨_,_,qsp,⟨qh,q2m,q2n,qi⟩,W.mg_of X G q4,qr2⟩ ⟨_,_,qtm,⟨q6m,q6n,q6q⟩,qrz⟩ ⟨_,_,qtq,W.mg_of X G q73,q76,qs3⟩ ⟨_,_,qsz,W.mg_of X G q3u,q3x,qrc⟩ ⟨_,_,qtg,W.mg_of X G q5y,q61,qrt⟩ ⟨_,_,qtf,W.mg_of X G q5u,q5x,qrs⟩ ⟨_,_,qtx,W.mg_of X G q7w,q7z,qsa⟩ ⟨_,_,qtr,W.mg_of X G q77,q7a,qs4⟩ ⟨_,_,qsn,⟨q2c,q2d,q2g⟩,qr0⟩ ⟨_,_,qtw,W.mg_of X G q7s,q7v,qs9⟩ ⟨_,_,qtv,W.mg_of X G q7o,q7r,qs8⟩
 exact qty.imp (λvs H Q E ⟨s,ns,e,hs,hn,q⟩=>⟨s,ns,e,TVw,TLy,TPk,hs,hn,q⟩)
theorem walk{l:W.OpenLaw}{q:Program}{loose:List Str}{XP:(Str->Option Value)->Heap->Prop}{YP:World->Heap->Prop}{d:DefRec}{K:Params->W.Frag}(hn:l.most=some 63)(hdf:d.params.defaults=[])
  (hY:∀ (w:World) (h:Heap),YP w h->(K w.params).In h)
  (F:∀ (w:World) (mg:Str->Option Value) (fa:Addr) (h:Heap),(K w.params).In h->h.Ns mainGlobals mg->mg d.name=some (.ref fa) →
   ∃ fd:FuncData,(∀ (s:Shared) (u:Value),BindsTo s fd ⟨[u],[]⟩ [("script",u)])/\∀ base:Heap,(K w.params).In base->base.Ns mainGlobals mg->FnOk l.prog w (K w.params) mg base (D5 l.prog w) 8 fa fd ["script"] (WW (K w.params))) :
  W.WalkO q loose XP YP l.row.toRowW d [] (λf vs=>PySem.call f vs) :=
 L2.walk_of (n:=63) (k:=8) (x:="script") (CX:=λw=>D5 l.prog w) (sp:=λw=>WW (K w.params)) hn (by decide) hdf ⟨rfl,by decide,by decide⟩ hY F (λ_ _ a ns hl _ hS=>⟨a,ns,rfl,hS,hl,λ_=>rfl⟩) λ_ _ _ _ _ z=>Y8 z
end L2
namespace PySem.W.Fast
def tw9693565829684072985:=()
def tw3389867964858960032:=()
def tw16496837218757619846:=()
def tw1587319995514829353:=()
def tw756226873979676458:=()
def tw17030202942857516041:=()
def tw10627994425033423940:=()
def tw3098994996919138143:=()
def tw5063680404075664260:=()
def tw9409858552226776643:=()
def tw11383175628755340950:=()
def tw1933403340874674408:=()
def tw11147711544558515908:=()
def tw12602417850557606930:=()
def tw9085902749945847543:=()
def tw10478041120006287029:=()
def tw6624903131147963863:=()
def tw7485050812353517445:=()
def tw2779854830076179618:=()
def tw14286074370355185278:=()
def tw18108150750545745103:=()
def tw14169045621324165261:=()
def tw15041544541477775756:=()
def tw7877654505627115219:=()
def tw131980946155388661:=()
def tw2047209856351653314:=()
def tw12450873014296864235:=()
def tw14591057696964822727:=()
def tw13447556219680962750:=()
def tw1720633689655858949:=()
def tw16823085499214574925:=()
def tw10976612818447330421:=()
def tw10727486666174589353:=()
def tw8599754127858024684:=()
def tw10235984863793852605:=()
def tw6654533851699750532:=()
def tw16518518191241498849:=()
def tw2631016818649449808:=()
def tw15347666274026311346:=()
def tw1934588777584444150:=()
def tw5446557084441771201:=()
def tw17398875302400411366:=()
def tw10140902257808032890:=()
def tw6820650699119247038:=()
def tw9694212502629877815:=()
def tw15481630181437788572:=()
def tw3832118424258714002:=()
def tw8741100811214690495:=()
def tw18160759885161261711:=()
def tw1140774331080170639:=()
def tw7116584805545046227:=()
def tw16315360330842975598:=()
def tw10448087094092939017:=()
def tw17867596628788457030:=()
def tw13852918766688796027:=()
def tw1201039853146141790:=()
def tw11239391521785807478:=()
def tw578960638516638993:=()
def tw18010104778084514091:=()
def tw14456792989832983228:=()
def tw5780089806289916089:=()
def tw32746223810252223:=()
def tw2383001148270994268:=()
def tw3786654722950832308:=()
def tw1084787398763902985:=()
def tw2086578638392074724:=()
def tw4551275976562402271:=()
def tw6348010931689461926:=()
def tw12233338766255100724:=()
def tw14387209797308455672:=()
def tw17383748075904107288:=()
def tw15894763041871763158:=()
def tw15894428578079924167:=()
def tw13355805020602008423:=()
def tw4151546370996143721:=()
def tw875924228312139336:=()
def tw18107228597917163620:=()
def tw11967945305097547103:=()
def tw17546699404366290399:=()
def tw7219926491669850147:=()
def tw18296032286098413930:=()
def tw4975691843688866480:=()
def tw3458241371041466266:=()
def tw8985774484925840033:=()
def tw17146813943175771695:=()
def tw4800933465979431145:=()
def tw15607281177495500120:=()
def tw4565959905900390880:=()
def tw16959676734485659659:=()
def tw8067301655161390302:=()
def tw4217749385191670039:=()
def tw9815377442906185967:=()
def tw4152799882761038136:=()
def tw7734415647732021987:=()
def tw9461016155085983259:=()
def tw8429889679657724305:=()
def tw6907994445370040146:=()
def tw6785144172350051390:=()
def tw14675902339814879791:=()
def tw18401703090926136602:=()
def tw5342889759180914224:=()
def tw7136231193013159370:=()
def tw2330191699275182024:=()
def tw14254293821845844977:=()
def tw14031938124697593555:=()
def tw13385221162969408147:=()
def tw2110095123100985197:=()
def tw16663917142192600670:=()
def tw5965556858730473578:=()
def tw7204411468038009845:=()
def tw6691745439894276034:=()
def tw3824926421736949114:=()
def tw14501036553524881512:=()
def tw5510330810649300951:=()
def tw3243203504751765527:=()
def tw11811125472173821746:=()
def tw2833588941515914435:=()
def tw12578854661844164233:=()
def tw6264959777104668957:=()
def tw2804180897872205226:=()
def tw10100534540781739311:=()
def tw14843342488832355588:=()
def tw10006115985316001094:=()
def tw230336236270968652:=()
def tw3928412221395712556:=()
def tw705941853045871869:=()
def tw898860787179699087:=()
def tw17961115341284130952:=()
def tw4833977422138078580:=()
def tw12342996418343211702:=()
def tw16787842826194977315:=()
def tw7510562754776054255:=()
def tw16689797133277388205:=()
def tw16880421968571075653:=()
def tw13889136036459207374:=()
def tw13407633013641239705:=()
def tw7166734338118473424:=()
def tw8290030788830945315:=()
def tw18424937287683156937:=()
def tw6406009174965580520:=()
def tw17379089626462989682:=()
def tw15765359141060602288:=()
def tw14694259236774244193:=()
def tw16823929168136009866:=()
def tw2470260862856405529:=()
def tw11365662994308844751:=()
def tw12613416060800223401:=()
def tw14884351192743424231:=()
def tw17894925086975564864:=()
def tw1783209657638156925:=()
def tw9238631405485300136:=()
def tw18264437046755081416:=()
def tw9236912577549514604:=()
def tw13607001483413085571:=()
def tw9845407431960872469:=()
def tw589395274455138634:=()
def tw8573458699070942250:=()
def tw7782524845202104406:=()
def tw5218282041681019346:=()
def tw17632827500112382750:=()
def tw554107660703558793:=()
def tw13046090612123147291:=()
def tw10193621426827874798:=()
def tw13658045252199457151:=()
def tw10188280014450214492:=()
def tw1611616231465134511:=()
def tw5252194356882188320:=()
def tw3277948648635933089:=()
def tw4481810183531935423:=()
def tw5593237553864096793:=()
def tw18407823083841124100:=()
def tw13609735201426894950:=()
def tw13905464114044995987:=()
def tw12111576628107733215:=()
def tw13382803162411649476:=()
def tw13168609687088693026:=()
def tw3226861106689107207:=()
def tw6099989543769383764:=()
def tw12969914611006259870:=()
def tw9575581921361913355:=()
def tw16647784430989125460:=()
def tw10504370616804452739:=()
def tw17565030234076561265:=()
def tw813812164025785236:=()
def tw4131064784834983757:=()
def tw11740375749564826075:=()
def tw14737492346971827304:=()
def tw8078352743388991072:=()
def tw15639389023890355422:=()
def tw9252808686685001288:=()
def tw17123435002073217412:=()
def tw8133594149957921796:=()
def tw12863660187368800226:=()
def tw15022048182162590318:=()
def tw15762562186438619866:=()
def tw14148104585798756517:=()
def tw3437165509038135298:=()
def tw9472282276072586456:=()
def tw4897228033275486956:=()
def tw3322477499732781915:=()
def tw9179008323423483205:=()
def tw9013961532419701718:=()
def tw3248310343276351614:=()
def tw8262069438597748546:=()
def tw1682954134187352677:=()
def tw10758172238723627362:=()
def tw9747846101620962195:=()
def tw3580639300444556475:=()
def tw6749497024609031635:=()
def tw3699532390382689565:=()
def tw14354231601812607481:=()
def tw2951253737420097535:=()
def tw14449574953028041977:=()
def tw14983333412183707180:=()
def tw11710809939789440979:=()
def tw1950279713347497391:=()
def tw11346969869211218160:=()
def tw10149563545940856321:=()
def tw12466666777616100676:=()
def tw9985809682973790383:=()
def tw16112857496168673791:=()
def tw4297380885518313929:=()
def tw9377843269627929103:=()
def tw11897467009694340687:=()
def tw7890239292593936773:=()
def tw18365985064355536074:=()
def tw13209069038008332713:=()
def tw12459686887558104619:=()
def tw3743578459366345639:=()
def tw6875345855415605092:=()
def tw14986618849625557887:=()
def tw15479019187408621162:=()
def tw3688569967334186395:=()
def tw5268291363306028174:=()
def tw15531031599028475441:=()
def tw13791779075471266670:=()
def tw12238609211552041188:=()
def tw1409726023358412859:=()
def tw10581971246457640572:=()
def tw8670310127301347802:=()
def tw7141681927070249104:=()
def tw3385330580801411210:=()
def tw9361889714774969339:=()
def tw13903063247661448113:=()
def tw10329738958615556922:=()
def tw8754866756624917516:=()
def tw16458926529373116789:=()
def tw13059486196180314755:=()
def tw5219420751588842153:=()
def tw13464867115838372581:=()
def tw10101962732888378055:=()
def tw12116218079968265092:=()
def tw13480227391380937120:=()
def tw1927800798034933938:=()
def tw11569075950513363565:=()
def tw14954535248443723892:=()
def tw18349303847857068567:=()
def tw13217194411584427316:=()
def tw6604122263446447690:=()
def tw6391828012773614658:=()
def tw4263440496621935903:=()
def tw7080984521482275709:=()
def tw13511565073228698627:=()
def tw14138784506740881291:=()
def tw2258366821080567641:=()
def tw660311687947437139:=()
def tw17459220656838714356:=()
def tw1642926846162089891:=()
def tw12314972849655938667:=()
def tw8939282949886594832:=()
def tw17763778225657652234:=()
def tw8698535559437178949:=()
def tw16100869788566496298:=()
def tw359319428274379138:=()
def tw9202610803592567165:=()
def tw3656710982614246538:=()
def tw5820763120139533747:=()
def tw17146020464159071281:=()
def tw17051389594006153249:=()
def tw10146168368764695779:=()
def tw6990018777963526075:=()
def tw4094068462224880304:=()
def tw691314066902873874:=()
def tw11627852412589449822:=()
def tw154437806797818812:=()
def tw4529498195609656010:=()
def tw15015162371065183945:=()
def tw15588810098699261837:=()
def tw833669556905047274:=()
def tw10522277619341788186:=()
def tw8563486805166274191:=()
def tw8330687846120471111:=()
def tw7768568931713020474:=()
def tw122499864993284151:=()
def tw15903796267806748587:=()
def tw1387349786781125197:=()
def tw1500713935397513819:=()
def tw14691729042234926666:=()
def tw16725983780280604978:=()
def tw6070801299538466762:=()
def tw1035086383739856888:=()
def tw7261707347395500096:=()
def tw18272699567105140809:=()
def tw4350461880573212143:=()
def tw10307224747350117187:=()
def tw11860422618136683884:=()
def tw6995043922759713400:=()
def tw13178662947712864642:=()
def tw3780168844749800390:=()
def tw3336213777700171091:=()
def tw5010066128666713755:=()
def tw1214827956672430680:=()
def tw10719379093284000382:=()
def tw14796349873211617976:=()
def tw16845335495839151143:=()
def tw5977599611407996890:=()
def tw13575376667804078836:=()
def tw6421030654044646943:=()
def tw1273170381916972007:=()
def tw7338279741297119417:=()
def tw2194044436422326731:=()
def tw3058254504841971498:=()
def tw8052203341134219517:=()
def tw8523763615112714253:=()
def tw8471895367432702866:=()
def tw16534007516635009822:=()
def tw18142592120697030949:=()
def tw5606974622314949379:=()
def tw9261909667744251056:=()
def tw1158497710185213603:=()
def tw18369986705076511383:=()
def tw5646538855361032946:=()
def tw16829903127536113935:=()
def tw6369213485548549841:=()
def tw12263850402583856114:=()
def tw11281667971175405368:=()
def tw5866318798933637704:=()
def tw11156968384281364961:=()
def tw9951997220830347722:=()
def tw3298858193948679996:=()
def tw4250030856203699222:=()
def tw11936831376186204266:=()
def tw1800516706247758410:=()
def tw13354541192032587692:=()
def tw2472661167445211845:=()
def tw1748074595863487049:=()
def tw9929321987054077996:=()
def tw11560560004407735778:=()
def tw13722228130526733701:=()
def tw9287652259456048202:=()
def tw9326753119433455301:=()
def tw16858211850838282666:=()
def tw14062930391873967739:=()
def tw552217865493315201:=()
def tw9606768547562479994:=()
def tw6001792029792287990:=()
def tw1055145747497154706:=()
def tw5540057823078538158:=()
def tw16535693226379573529:=()
def tw2131122438435576081:=()
def tw14772045127699999764:=()
def tw11690385814053175812:=()
def tw3550774602264004433:=()
def tw2322676900318202692:=()
def tw3930112441732535624:=()
def tw2259876833985617419:=()
def tw510009692647714783:=()
def tw1819157275642096999:=()
def tw4747599223513559236:=()
def tw5990843476739956875:=()
def tw577636697119905940:=()
def tw3233910800152697227:=()
def tw16214239540513669389:=()
def tw9698336614461058837:=()
def tw8041280063429491012:=()
def tw13827009186709604483:=()
def tw1152694007593063135:=()
def tw11086531206100481419:=()
def tw8897634990836795073:=()
def tw3796050261443227256:=()
def tw15059151975773289730:=()
def tw11640357668193323468:=()
def tw17815365970677160317:=()
def tw9962165963224773998:=()
def tw8315743947630863597:=()
def tw127060434503573298:=()
def tw13207986600340820179:=()
def tw342994850654693840:=()
def tw17489106846739315559:=()
def tw14103412406867164541:=()
def tw13725595029495713087:=()
def tw7065930525279056860:=()
def tw15509430669988194345:=()
def tw6442477341005319475:=()
def tw5612759277078209937:=()
def tw5289564444877197235:=()
def tw18075195587774354690:=()
def tw5537800235080912091:=()
def tw1434564306175278676:=()
def tw15420049162697421524:=()
def tw9233428592468951581:=()
def tw9133041267939733361:=()
def tw2902023358929148017:=()
def tw16574115827278079391:=()
def tw11334235635014215421:=()
def tw11433466383741149071:=()
def tw2099738811002414976:=()
def tw12544467165620928498:=()
def tw6107527121046562546:=()
def tw646070442153164683:=()
def tw16490016281670191967:=()
def tw5184592445252639192:=()
def tw7194449363425116719:=()
def tw9000409369610867520:=()
def tw3257510910106861538:=()
def tw10645939295337403897:=()
def tw18005126033276107315:=()
def tw762597350580446274:=()
def tw16512695906997562076:=()
def tw15888562706197575898:=()
def tw14803074346931696037:=()
def tw13869399377043477093:=()
def tw5821323366634724173:=()
end PySem.W.Fast
open PySem PySem.W PyProof.Rows
set_option Elab.async false
set_option maxRecDepth 100000 in
set_option maxHeartbeats 0 in
theorem PySem.Challenge.cw_holdback_k53_mended_holds : PySem.Challenge.rw_holdback_k53_mended.Holds := by
 w_on;o_law;k_head;(case hw=>w_witness2)
 k_fill
 refine L2.walk (l:=PySem.Challenge.rw_holdback_k53_mended) rfl rfl (λw h Y=>PySem.W.kIn_of Y) ?F
 case F =>
  intro w mg fa h KX G hmg
  refine' L2.all_mk KX G hmg ?q0 ?q1 ?q2 ?q3 ?q4 ?q5 ?q6 ?q7 ?q8 ?q9 ?qa ?qb ?qc ?qd ?qe ?qf ?qg ?qh ?qi ?qj ?qk ?ql ?qm ?qn ?qo ?qp ?qq ?qr ?qs ?qt ?qu ?qv ?qw ?qx ?qy ?qz ?q10 ?q11 ?q12 ?q13 ?q14 ?q15 ?q16 ?q17 ?q18 ?q19 ?q1a ?q1b ?q1c ?q1d ?q1e ?q1f ?q1g ?q1h ?q1i ?q1j ?q1k ?q1l ?q1m ?q1n ?q1o ?q1p ?q1q ?q1r ?q1s ?q1t ?q1u ?q1v ?q1w ?q1x ?q1y ?q1z ?q20 ?q21 ?q22 ?q23 ?q24 ?q25 ?q26 ?q27 ?q28 ?q29 ?q2a ?q2b ?q2c ?q2d ?q2e ?q2f ?q2g ?q2h ?q2i ?q2j ?q2k ?q2l ?q2m ?q2n ?q2o ?q2p ?q2q ?q2r ?q2s ?q2t ?q2u ?q2v ?q2w ?q2x ?q2y ?q2z ?q30 ?q31 ?q32 ?q33 ?q34 ?q35 ?q36 ?q37 ?q38 ?q39 ?q3a ?q3b ?q3c ?q3d ?q3e ?q3f ?q3g ?q3h ?q3i ?q3j ?q3k ?q3l ?q3m ?q3n ?q3o ?q3p ?q3q ?q3r ?q3s ?q3t ?q3u ?q3v ?q3w ?q3x ?q3y ?q3z ?q40 ?q41 ?q42 ?q43 ?q44 ?q45 ?q46 ?q47 ?q48 ?q49 ?q4a ?q4b ?q4c ?q4d ?q4e ?q4f ?q4g ?q4h ?q4i ?q4j ?q4k ?q4l ?q4m ?q4n ?q4o ?q4p ?q4q ?q4r ?q4s ?q4t ?q4u ?q4v ?q4w ?q4x ?q4y ?q4z ?q50 ?q51 ?q52 ?q53 ?q54 ?q55 ?q56 ?q57 ?q58 ?q59 ?q5a ?q5b ?q5c ?q5d ?q5e ?q5f ?q5g ?q5h ?q5i ?q5j ?q5k ?q5l ?q5m ?q5n ?q5o ?q5p ?q5q ?q5r ?q5s ?q5t ?q5u ?q5v ?q5w ?q5x ?q5y ?q5z ?q60 ?q61 ?q62 ?q63 ?q64 ?q65 ?q66 ?q67 ?q68 ?q69 ?q6a ?q6b ?q6c ?q6d ?q6e ?q6f ?q6g ?q6h ?q6i ?q6j ?q6k ?q6l ?q6m ?q6n ?q6o ?q6p ?q6q ?q6r ?q6s ?q6t ?q6u ?q6v ?q6w ?q6x ?q6y ?q6z ?q70 ?q71 ?q72 ?q73 ?q74 ?q75 ?q76 ?q77 ?q78 ?q79 ?q7a ?q7b ?q7c ?q7d ?q7e ?q7f ?q7g ?q7h ?q7i ?q7j ?q7k ?q7l ?q7m ?q7n ?q7o ?q7p ?q7q ?q7r ?q7s ?q7t ?q7u ?q7v ?q7w ?q7x ?q7y ?q7z ?q80 ?q81 ?q82 ?q83 ?q84 ?q85 ?q86 ?q87 ?q88 ?q89 ?q8a ?q8b ?q8c ?q8d ?q8e ?q8f ?q8g ?q8h ?q8i
  (case q0=>k_is)
  (case q1=>k_is)
  (case q2=>k_is)
  (case q3=>k_is)
  (case q4=>k_is)
  (case q5=>k_is)
  (case q6=>k_is)
  (case q7=>k_is)
  (case q8=>k_is)
  (case q9=>k_is)
  (case qa=>k_is)
  (case qb=>k_is)
  (case qc=>k_is)
  (case qd=>k_is)
  (case qe=>k_is)
  (case qf=>k_is)
  (case qg=>k_is)
  (case qh=>k_is)
  (case qi=>k_is)
  (case qj=>k_is)
  (case qk=>k_is)
  (case ql=>k_is)
  (case qm=>k_is)
  (case qn=>k_exc)
  (case qo=>k_exc)
  (case qp=>k_is)
  (case qq=>k_is)
  (case qr=>k_is)
  (case qs=>k_is)
  (case qt=>k_is)
  (case qu=>k_is)
  (case qv=>k_is)
  (case qw=>k_is)
  (case qx=>k_is)
  (case qy=>k_is)
  (case qz=>k_is)
  (case q10=>k_is)
  (case q11=>k_is)
  (case q12=>k_is)
  (case q13=>k_is)
  (case q14=>k_is)
  (case q15=>k_is)
  (case q16=>k_is)
  (case q17=>k_is)
  (case q18=>k_is)
  (case q19=>k_is)
  (case q1a=>k_is)
  (case q1b=>k_is)
  (case q1c=>k_is)
  (case q1d=>k_is)
  (case q1e=>k_is)
  (case q1f=>k_is)
  (case q1g=>k_is)
  (case q1h=>k_is)
  (case q1i=>k_is)
  (case q1j=>k_is)
  (case q1k=>k_is)
  (case q1l=>k_is)
  (case q1m=>k_is)
  (case q1n=>k_is)
  (case q1o=>k_is)
  (case q1p=>k_is)
  (case q1q=>k_is)
  (case q1r=>k_is)
  (case q1s=>k_is)
  (case q1t=>k_is)
  (case q1u=>k_is)
  (case q1v=>k_is)
  (case q1w=>k_is)
  (case q1x=>k_is)
  (case q1y=>k_is)
  (case q1z=>k_is)
  (case q20=>k_is)
  (case q21=>k_is)
  (case q22=>k_is)
  (case q23=>k_is)
  (case q24=>k_is)
  (case q25=>k_is)
  (case q26=>k_is)
  (case q27=>k_is)
  (case q28=>k_is)
  (case q29=>k_is)
  (case q2a=>k_is)
  (case q2b=>k_is)
  (case q2c=>k_is)
  (case q2d=>k_is)
  (case q2e=>k_is)
  (case q2f=>k_is)
  (case q2g=>k_is)
  (case q2h=>k_is)
  (case q2i=>k_is)
  (case q2j=>k_is)
  (case q2k=>k_is)
  (case q2l=>k_is)
  (case q2m=>k_is)
  (case q2n=>k_is)
  (case q2o=>k_is)
  (case q2p=>k_is)
  (case q2q=>k_is)
  (case q2r=>k_is)
  (case q2s=>k_is)
  (case q2t=>k_is)
  (case q2u=>k_is)
  (case q2v=>k_is)
  (case q2w=>k_is)
  (case q2x=>k_is)
  (case q2y=>k_is)
  (case q2z=>k_is)
  (case q30=>k_is)
  (case q31=>k_is)
  (case q32=>k_is)
  (case q33=>k_is)
  (case q34=>k_is)
  (case q35=>k_is)
  (case q36=>k_is)
  (case q37=>k_is)
  (case q38=>k_is)
  (case q39=>k_is)
  (case q3a=>k_is)
  (case q3b=>k_is)
  (case q3c=>k_is)
  (case q3d=>k_is)
  (case q3e=>k_is)
  (case q3f=>k_is)
  (case q3g=>k_is)
  (case q3h=>k_is)
  (case q3i=>k_is)
  (case q3j=>k_is)
  (case q3k=>k_is)
  (case q3l=>k_is)
  (case q3m=>k_is)
  (case q3n=>k_is)
  (case q3o=>k_is)
  (case q3p=>k_is)
  (case q3q=>k_is)
  (case q3r=>k_is)
  (case q3s=>k_is)
  (case q3t=>k_is)
  (case q3u=>k_is)
  (case q3v=>k_is)
  (case q3w=>k_is)
  (case q3x=>k_is)
  (case q3y=>k_is)
  (case q3z=>k_is)
  (case q40=>k_is)
  (case q41=>k_is)
  (case q42=>k_is)
  (case q43=>k_is)
  (case q44=>k_is)
  (case q45=>k_is)
  (case q46=>k_is)
  (case q47=>k_is)
  (case q48=>k_is)
  (case q49=>k_is)
  (case q4a=>k_is)
  (case q4b=>k_is)
  (case q4c=>k_is)
  (case q4d=>k_is)
  (case q4e=>k_is)
  (case q4f=>k_is)
  (case q4g=>k_is)
  (case q4h=>k_is)
  (case q4i=>k_is)
  (case q4j=>k_is)
  (case q4k=>k_is)
  (case q4l=>k_is)
  (case q4m=>k_is)
  (case q4n=>k_is)
  (case q4o=>k_is)
  (case q4p=>k_is)
  (case q4q=>k_is)
  (case q4r=>k_is)
  (case q4s=>k_is)
  (case q4t=>k_is)
  (case q4u=>k_is)
  (case q4v=>k_is)
  (case q4w=>k_is)
  (case q4x=>k_is)
  (case q4y=>k_is)
  (case q4z=>k_is)
  (case q50=>k_is)
  (case q51=>k_is)
  (case q52=>k_is)
  (case q53=>k_is)
  (case q54=>k_is)
  (case q55=>k_is)
  (case q56=>k_is)
  (case q57=>k_is)
  (case q58=>k_is)
  (case q59=>k_is)
  (case q5a=>k_is)
  (case q5b=>k_is)
  (case q5c=>k_is)
  (case q5d=>k_is)
  (case q5e=>k_is)
  (case q5f=>k_is)
  (case q5g=>k_is)
  (case q5h=>k_is)
  (case q5i=>k_is)
  (case q5j=>k_is)
  (case q5k=>k_is)
  (case q5l=>k_is)
  (case q5m=>k_is)
  (case q5n=>k_is)
  (case q5o=>k_is)
  (case q5p=>k_is)
  (case q5q=>k_is)
  (case q5r=>k_is)
  (case q5s=>k_is)
  (case q5t=>k_is)
  (case q5u=>k_is)
  (case q5v=>k_is)
  (case q5w=>k_is)
  (case q5x=>k_is)
  (case q5y=>k_is)
  (case q5z=>k_is)
  (case q60=>k_is)
  (case q61=>k_is)
  (case q62=>k_is)
  (case q63=>k_is)
  (case q64=>k_is)
  (case q65=>k_is)
  (case q66=>k_is)
  (case q67=>k_is)
  (case q68=>k_is)
  (case q69=>k_is)
  (case q6a=>k_is)
  (case q6b=>k_is)
  (case q6c=>k_is)
  (case q6d=>k_is)
  (case q6e=>k_is)
  (case q6f=>k_is)
  (case q6g=>k_is)
  (case q6h=>k_is)
  (case q6i=>k_is)
  (case q6j=>k_is)
  (case q6k=>k_is)
  (case q6l=>k_is)
  (case q6m=>k_is)
  (case q6n=>k_is)
  (case q6o=>k_is)
  (case q6p=>k_is)
  (case q6q=>k_is)
  (case q6r=>k_is)
  (case q6s=>k_is)
  (case q6t=>k_is)
  (case q6u=>k_is)
  (case q6v=>k_is)
  (case q6w=>k_is)
  (case q6x=>k_is)
  (case q6y=>k_is)
  (case q6z=>k_is)
  (case q70=>k_is)
  (case q71=>k_is)
  (case q72=>k_is)
  (case q73=>k_is)
  (case q74=>k_is)
  (case q75=>k_is)
  (case q76=>k_is)
  (case q77=>k_is)
  (case q78=>k_is)
  (case q79=>k_is)
  (case q7a=>k_is)
  (case q7b=>k_is)
  (case q7c=>k_is)
  (case q7d=>k_is)
  (case q7e=>k_is)
  (case q7f=>k_is)
  (case q7g=>k_is)
  (case q7h=>k_is)
  (case q7i=>k_is)
  (case q7j=>k_is)
  (case q7k=>k_is)
  (case q7l=>k_is)
  (case q7m=>k_is)
  (case q7n=>k_is)
  (case q7o=>k_is)
  (case q7p=>k_is)
  (case q7q=>k_is)
  (case q7r=>k_is)
  (case q7s=>k_is)
  (case q7t=>k_is)
  (case q7u=>k_is)
  (case q7v=>k_is)
  (case q7w=>k_is)
  (case q7x=>k_is)
  (case q7y=>k_is)
  (case q7z=>k_is)
  (case q80=>k_is)
  (case q81=>k_is)
  (case q82=>k_is)
  (case q83=>k_is)
  (case q84=>k_is)
  (case q85=>k_is)
  (case q86=>k_is)
  (case q87=>k_is)
  (case q88=>k_is)
  (case q89=>k_is)
  (case q8a=>k_is)
  (case q8b=>k_is)
  (case q8c=>k_is)
  (case q8d=>k_is)
  (case q8e=>k_is)
  (case q8f=>k_is)
  (case q8g=>k_is)
  (case q8h=>k_is)
  (case q8i=>k_is)
