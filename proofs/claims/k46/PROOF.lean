import PyProof.Rows.All
import Wide.All
import OpenK.AllK
import Wide.FinOn
import Lean
import PyProof.EqAt
import PyProof.EqKinds
import PyProof.TupleCall
import PyProof.SetScanFacts
import PyProof.Rows.SetFrom
import PyProof.Rows.SortWalk
import PyProof.CollectWalk
import PyProof.DictWalks
import PySem.Challenge.RW_holdback_k46_whole_texts_of_some_moment
set_option linter.all false
set_option maxRecDepth 100000
set_option maxHeartbeats 8000000
open PySem PySem.Spec PyProof.Rows
set_option Elab.async false
namespace L2
abbrev AH:=Sum Int Str
def KP:AH->Value->Bool
 | .inl k,v=>Value.isInt k v
 | .inr x,v=>Value.isStrOf x v
def sV(w:World):AH->Int
 | .inl k=>hashInt k
 | .inr x=>hashStr w x
theorem HY:∀ {k:AH} {v:Value},KP k v=true->(∃ i t,k=Sum.inl i/\v=Value.int i t)\/(∃ x t,k=Sum.inr x/\v=Value.str x t)
 | .inl i,v,h=>by
  obtain⟨t,e⟩:=Value.isInt_shape (k:=i) (v:=v) h
  exact .inl ⟨i,t,rfl,e⟩
 | .inr x,v,h=>by
  obtain⟨t,e⟩:=Value.isStrOf_shape (x:=x) (v:=v) h
  exact .inr ⟨x,t,rfl,e⟩
theorem sW(i:Int)(t:Tok):KP (.inl i) (.int i t)=true:=by simp[KP,Value.isInt]
theorem sX(x:Str)(t:Tok):KP (.inr x) (.str x t)=true:=by simp[KP,Value.isStrOf]
theorem sY(a b:Int):decide ((Sum.inl a:AH)=Sum.inl b)=(a == b):=by
 by_cases e:a=b
 ·subst e;simp
 ·have h:¬ (Sum.inl a:AH)=Sum.inl b:=λq=>e (Sum.inl.inj q)
  rw[decide_eq_false h]
  exact(beq_eq_false_iff_ne.mpr e).symm
theorem sZ(a b:Str):decide ((Sum.inr a:AH)=Sum.inr b)=decide (a=b):=by
 by_cases e:a=b
 ·subst e;simp
 ·have h:¬ (Sum.inr a:AH)=Sum.inr b:=λq=>e (Sum.inr.inj q)
  rw[decide_eq_false h,decide_eq_false e]
theorem tD(a:Int)(b:Str):decide ((Sum.inl a:AH)=Sum.inr b)=false:=decide_eq_false (λq=>nomatch q)
theorem tE(a:Str)(b:Int):decide ((Sum.inr a:AH)=Sum.inl b)=false:=decide_eq_false (λq=>nomatch q)
def D4(prog:Program)(w:World):PySem.KeyKind prog w AH where
 is:=KP
 hash:=sV w
 inj:=λv a b ha hb=>by
  rcases HY ha with⟨i,t,rfl,rfl⟩ | ⟨x,t,rfl,rfl⟩
  ·rcases HY hb with⟨j,u,rfl,e⟩ | ⟨y,u,rfl,e⟩
   ·injection e with e1 _;rw[e1]
   ·exact nomatch e
  ·rcases HY hb with⟨j,u,rfl,e⟩ | ⟨y,u,rfl,e⟩
   ·exact nomatch e
   ·injection e with e1 _;rw[e1]
 byValue:=λk v h=>by
  rcases HY h with⟨i,t,rfl,rfl⟩ | ⟨x,t,rfl,rfl⟩<;>rfl
 pyHash:=λhv h=>by
  rcases HY hv with⟨i,t,rfl,rfl⟩ | ⟨x,t,rfl,rfl⟩
  ·exact wpAny_pyHash_int h
  ·exact wpAny_pyHash_str h
 eqBool:=λhu hv h=>by
  rcases HY hu with⟨i,t,rfl,rfl⟩ | ⟨x,t,rfl,rfl⟩
  ·rcases HY hv with⟨j,u,rfl,rfl⟩ | ⟨y,u,rfl,rfl⟩
   ·rw[sY]at h;exact wpAny_eqBool_int h
   ·rw[tD]at h;exact SeqAt.EqAt.int_str i t y u _ _ _ _ h
  ·rcases HY hv with⟨j,u,rfl,rfl⟩ | ⟨y,u,rfl,rfl⟩
   ·rw[tE]at h;exact SeqAt.EqAt.str_int x t j u _ _ _ _ h
   ·rw[sZ]at h;exact wpAny_eqBool_str h
 «strs» :=λk x t v h=>by
  rcases HY h with⟨i,u,rfl,e⟩ | ⟨y,u,rfl,e⟩
  ·exact nomatch e
  ·injection e with e1 _
   subst e1
   cases v<;>rfl
theorem tF(prog:Program)(w:World)(i:Int)(t:Tok):(D4 prog w).is (.inl i) (.int i t)=true:=sW i t
theorem tG(prog:Program)(w:World)(x:Str)(t:Tok):(D4 prog w).is (.inr x) (.str x t)=true:=sX x t
end L2
namespace L2
inductive V where
 | non | bl (b:Bool) | int (i:Int) | str (x:Str) | byt (b:Array UInt8) | flt (b:UInt64) | ref (a:Addr) | ty (n:String)
 deriving DecidableEq
def RelV:V->Value->Prop
 | .non,u=>u=Value.none
 | .bl b,u=>u=Value.bool b
 | .int i,u=>∃ t,u=Value.int i t
 | .str x,u=>∃ t,u=Value.str x t
 | .byt b,u=>∃ t,u=Value.bytes b t
 | .flt b,u=>∃ t,u=Value.float b t
 | .ref a,u=>u=Value.ref a
 | .ty n,u=>u=Value.type n
abbrev Vals:List V->List Value->Prop:=Paired RelV
theorem Vals.length{xs:List V}{us:List Value}(r:Vals xs us):xs.length=us.length:=Paired.length r
theorem Vals.get:∀ {xs:List V} {us:List Value} {i:Nat} {x:V},Vals xs us->xs[i]? =some x->∃ u,us[i]? =some u/\RelV x u
 | _,_,_,_,.nil,e=>by simp at e
 | _,_,0,_,.cons r _,e=>by simp at e;subst e;exact⟨_,rfl,r⟩
 | _,_,i+1,x,.cons _ t,e=>by
  obtain⟨u,h1,h2⟩:=Vals.get (i:=i) (x:=x) t (by simpa using e)
  exact⟨u,by simpa using h1,h2⟩
theorem Vals.set{x:V}{u:Value}(r:RelV x u):∀ {xs:List V} {us:List Value} (i:Nat),Vals xs us->Vals (xs.set i x) (us.set i u)
 | _,_,_,.nil=>.nil
 | _,_,0,.cons _ t=>.cons r t
 | _,_,i+1,.cons q t=>.cons q (Vals.set r i t)
theorem Vals.append:∀ {xs ys:List V} {us ws:List Value},Vals xs us->Vals ys ws->Vals (xs++ys) (us++ws)
 | _,_,_,_,.nil,s=>s
 | _,_,_,_,.cons r t,s=>.cons r (Vals.append t s)
theorem Vals.take:∀ {xs:List V} {us:List Value} (n:Nat),Vals xs us->Vals (xs.take n) (us.take n)
 | _,_,0,_=>.nil
 | _,_,_+1,.nil=>.nil
 | _,_,n+1,.cons r t=>.cons r (Vals.take n t)
theorem Vals.drop:∀ {xs:List V} {us:List Value} (n:Nat),Vals xs us->Vals (xs.drop n) (us.drop n)
 | _,_,0,r=>r
 | _,_,_+1,.nil=>.nil
 | _,_,n+1,.cons _ t=>Vals.drop n t
def RelO:Option V->Option Value->Prop
 | some v,some u=>RelV v u
 | none,none=>True
 | _,_=>False
def KV{κ :Type}:List (κ × V)->List (κ × Value)->Prop:=Paired λ(p: κ × V) (q: κ × Value)=>p.1=q.1/\RelV p.2 q.2
def kV:AH->V
 | .inl i=>.int i
 | .inr x=>.str x
inductive HO where
 /-- a list -/
 | lst (xs:List V)
 /-- a tuple (never changes) -/
 | tup (xs:List V)
 /-- a dict whose keys are ints and texts;one whose keys are tuples of ints and texts (the empty one is both) -/
 | dK (kvs:List (AH × V)) | dT (kvs:List (List AH × V))
 /-- a set of ints: its members,its size -/
 | set (S:Int->Bool) (n:Nat)
 /-- an instance of the class at C,its dict at dx,its attributes -/
 | ins (C dx:Addr) (fs:List (Str × V))
 /-- the dict of the instance at x -/
 | own (x:Addr)
 /-- the dict of an exception -/
 | xd (fs:List (Str × V))
 /-- a bound method,f of x -/
 | met (f x:Addr)
 /-- a range object lo,lo+1,.. below hi -/
 | rng (lo hi:Int)
 /-- a thing that is known to the object (the script;a dict while a loop walks it): read,never written while it is so -/
 | frz (o:Obj) (u:HO)
 /-- a code object's table -/
 | tbl (ps:Array Value)
 /-- any other thing,by what is true of its one object (a def of one's own: SetO a S n:=HO.ext λh=>..) -/
 | ext (φ :Heap->Prop)
abbrev Hp:=Addr->Option HO
def upd(H:Hp)(a:Addr)(o:HO):Hp:=λb=>if b=a then some o else H b
theorem AE{H:Hp}{a:Addr}{o:HO}:upd H a o a=some o:=by unfold upd;rw[if_pos rfl]
theorem AF{H:Hp}{a b:Addr}{o:HO}(h:b≠a):upd H a o b=H b:=by unfold upd;rw[if_neg h]
theorem HC{H:Hp}{a:Addr}{o u:HO}:upd (upd H a o) a u=upd H a u:=by
 funext b;unfold upd;split<;>rfl
theorem BD{H:Hp}{a b:Addr}{o u:HO}(h:H a=some o)(h':H b=some u)(d:o≠u):a≠b:=by
 intro e;subst e;rw[h]at h';exact d (Option.some.inj h')
theorem BM{H:Hp}{a b:Addr}{o:HO}(h:H a=some o)(h':H b=none):a≠b:=by
 intro e;subst e;rw[h]at h';cases h'
section
variable(P:Program)(w:World)
def ObjOk(H:Hp)(h:Heap)(a:Addr):HO->Prop
 | .lst xs=>xs.length<=sizeLine/\∃ (its:List Value) (n:Nat),Vals xs its/\h.get? a=some { cls:=.type "list",data:=.seq its.toArray n }
 | .tup xs=>xs.length<=sizeLine/\∃ its:List Value,Vals xs its/\IsTup h a its.toArray
 | .dK kvs=>kvs.length<=sizeLine/\(a == sysModules)=false/\∃ vs,KV kvs vs/\h.DictOf (D4 P w) a vs
 | .dT kvs=>kvs.length<=sizeLine/\(a == sysModules)=false/\∃ xs:List (List AH × Addr × Value),
   Paired (λ(p:List AH × V) (q:List AH × Addr × Value)=>p.1=q.1/\H q.2.1=some (.tup (p.1.map kV))/\RelV p.2 q.2.2) kvs xs ∧
   ∃ o es ep,h.get? a=some o/\o.ExactDict/\o.data=.dict es ep/\es.toList=xs.map (entryOfKey (tupleKind (D4 P w)))/\(xs.map (·.1)).Nodup
 | .set S n=>h.SetOf (intKind P w) a S n
 | .ins C dx fs=>H dx=some (.own a)/\fs.length<=1000/\dx≠a/\h.get? a=some (W.instObj C dx) ∧
   ∃ mA,h.Ns1 dx mA/\(∀ f,RelO (fs.lookup f) (mA f))/\PySem.Within mA (fs.map (·.1))
 | .own _=>∃ o,h.get? a=some o
 | .xd fs=>∃ mA,h.Ns1 a mA/\∀ f,RelO (fs.lookup f) (mA f)
 | .rng lo hi=>∃ t u v,h.get? a=some { cls:=.type "range",data:=.fields #[.int lo t,.int hi u,.int 1 v] }
 | .frz o u=>h.get? a=some o/\ObjOk H h a u
 | .tbl ps=>h.get? a=some { cls:=.none,data:=.fields ps }
 | .met f x=>h.get? a=some (W.methodObj (.ref f) (.ref x))
 | .ext φ => φ h/\(∃ o,h.get? a=some o)/\∀ h1 h2:Heap,φ h1->(∀ o,h1.get? a=some o->h2.get? a=some o)-> φ h2
def HOk(H:Hp)(h:Heap):Prop:=∀ a o,H a=some o->ObjOk P w H h a o
end
section
variable{P:Program}{w:World}{H H':Hp}{h h':Heap}{a:Addr}{o:HO}
theorem ObjOk.lt(x:ObjOk P w H h a o):a<h.objs.size:=by
 cases o with
 | lst xs=>obtain⟨_,_,_,_,e⟩:=x;exact Heap.lt_size e
 | tup xs=>obtain⟨_,_,_,p⟩:=x;exact p.lt
 | dK kvs=>obtain⟨_,_,_,_,o,_,_,e,_⟩:=x;exact Heap.lt_size e
 | dT kvs=>obtain⟨_,_,_,_,o,_,_,e,_⟩:=x;exact Heap.lt_size e
 | set S n=>obtain⟨o,_,_,_,e,_⟩:=x;exact Heap.lt_size e
 | ins C dx fs=>obtain⟨_,_,_,e,_⟩:=x;exact Heap.lt_size e
 | own y=>obtain⟨_,e⟩:=x;exact Heap.lt_size e
 | xd fs=>obtain⟨_,⟨_,_,_,e,_⟩,_⟩:=x;exact Heap.lt_size e
 | rng lo hi=>obtain⟨_,_,_,e⟩:=x;exact Heap.lt_size e
 | frz ob u=>obtain⟨e,_⟩:=x;exact Heap.lt_size e
 | tbl ps=>exact Heap.lt_size (show h.get? a=some _ from x)
 | met f y=>exact Heap.lt_size (show h.get? a=some _ from x)
 | ext φ =>obtain⟨_,⟨_,e⟩,_⟩:=x;exact Heap.lt_size e
theorem Paired.mapP{α β :Type}{F G: α -> β ->Prop}:∀ {l₁:List α} {l₂:List β},Paired F l₁ l₂->(∀ a b,F a b->G a b)->Paired G l₁ l₂
 | _,_,.nil,_=>.nil
 | _,_,.cons r t,f=>.cons (f _ _ r) (Paired.mapP t f)
theorem ObjOk.stay(x:ObjOk P w H h a o)(k:∀ b u,(b=a\/H b=some (.own a))->h.get? b=some u->h'.get? b=some u)
  (ho:∀ b,H b=some (.own a)->H' b=some (.own a)) (ht:∀ b xs,H b=some (.tup xs)->H' b=some (.tup xs)):ObjOk P w H' h' a o:=by
 induction o with
 | lst xs=>obtain⟨z,its,n,r,e⟩:=x;exact⟨z,its,n,r,k _ _ (.inl rfl) e⟩
 | tup xs=>obtain⟨z,its,r,ob,e,c⟩:=x;exact⟨z,its,r,ob,k _ _ (.inl rfl) e,c⟩
 | dK kvs=>obtain⟨z,y,vs,r,ob,es,ep,e,c⟩:=x;exact⟨z,y,vs,r,ob,es,ep,k _ _ (.inl rfl) e,c⟩
 | dT kvs =>
  obtain⟨z,y,xs,r,ob,es,ep,e,c⟩:=x
  exact⟨z,y,xs,Paired.mapP r λp q z=>⟨z.1,ht _ _ z.2.1,z.2.2⟩,ob,es,ep,k _ _ (.inl rfl) e,c⟩
 | set S n=>obtain⟨ob,es,ep,t,e,c⟩:=x;exact⟨ob,es,ep,t,k _ _ (.inl rfl) e,c⟩
 | ins C dx fs =>
  obtain⟨d,z,ne,e,mA,⟨od,es,ep,e2,c⟩,r⟩:=x
  exact⟨ho _ d,z,ne,k _ _ (.inl rfl) e,mA,⟨od,es,ep,k _ _ (.inr d) e2,c⟩,r⟩
 | own y=>obtain⟨ob,e⟩:=x;exact⟨ob,k _ _ (.inl rfl) e⟩
 | xd fs=>obtain⟨mA,⟨od,es,ep,e,c⟩,r⟩:=x;exact⟨mA,⟨od,es,ep,k _ _ (.inl rfl) e,c⟩,r⟩
 | rng lo hi=>obtain⟨t,u,v,e⟩:=x;exact⟨t,u,v,k _ _ (.inl rfl) e⟩
 | frz ob u ih=>obtain⟨e,q⟩:=x;exact⟨k _ _ (.inl rfl) e,ih q⟩
 | tbl ps =>
  have e:h.get? a=some { cls:=.none,data:=.fields ps }:=x
  show h'.get? a=some { cls:=.none,data:=.fields ps }
  exact k a _ (.inl rfl) e
 | met f y =>
  have e:h.get? a=some (W.methodObj (.ref f) (.ref y)):=x
  show h'.get? a=some (W.methodObj (.ref f) (.ref y))
  exact k a _ (.inl rfl) e
 | ext φ =>obtain⟨p,⟨o,e⟩,st⟩:=x;exact⟨st _ _ p λo q=>k _ _ (.inl rfl) q,⟨o,k _ _ (.inl rfl) e⟩,st⟩
theorem HOk.lt(x:HOk P w H h)(e:H a=some o):a<h.objs.size:=(x a o e).lt
theorem HOk.fresh(x:HOk P w H h)(e:h.objs.size<=a):H a=none:=by
 cases q:H a with
 | none=>rfl
 | some u=>exact absurd (Nat.lt_of_lt_of_le (x.lt q) e) (Nat.lt_irrefl _)
theorem HOk.kept(x:HOk P w H h)(k:∀ b u,h.get? b=some u->h'.get? b=some u):HOk P w H h':=λa o e =>
 (x a o e).stay (λb u _ q=>k b u q) (λ_ q=>q) λ_ _ q=>q
theorem HOk.laid(x:HOk P w H h)(k:∀ b u,h.get? b=some u->h'.get? b=some u)(hp:h.objs.size<=a)(new:ObjOk P w (upd H a o) h' a o):HOk P w (upd H a o) h':=λb u e=>by
 have hn:=x.fresh hp
 by_cases hb:b=a
 ·subst hb;rw[AE]at e;cases e;exact new
 ·rw[AF hb]at e
  exact(x b u e).stay (λc v _ q=>k c v q) (λc q=>by rw[AF (BM q hn)];exact q) λc xs q=>by rw[AF (BM q hn)];exact q
end
def Rd(H:Hp)(a:Addr)(u:HO):Prop:=H a=some u\/∃ o,H a=some (.frz o u)
theorem Rd.ok{P:Program}{w:World}{H:Hp}{h:Heap}{a:Addr}{u:HO}(r:Rd H a u)(x:HOk P w H h):ObjOk P w H h a u:=by
 rcases r with r | ⟨o,r⟩
 ·exact x a u r
 ·obtain⟨_,q⟩:=x a _ r
  exact q
def MY:Option HO->Prop
 | some (.lst _)=>True
 | some (.dK _)=>True
 | some (.dT _)=>True
 | some (.set _ _)=>True
 | some (.ins _ _ _)=>True
 | some (.ext _)=>True
 | _=>False
section
variable{P:Program}{w:World}{H:Hp}{h h':Heap}{x e:Addr}{o':HO}
theorem HOk.write(ok:HOk P w H h)(mu:MY (H x))(he:e=x\/H e=some (.own x))(k:∀ b u,b≠e->h.get? b=some u->h'.get? b=some u)(heo:∃ u,h'.get? e=some u)
  (new:ObjOk P w (upd H x o') h' x o'):HOk P w (upd H x o') h':=λb u q=>by
 have nown:∀ c y,H c=some (.own y)->c≠x:=λc y r z=>by subst z;rw[r]at mu;exact mu
 have ntup:∀ c xs,H c=some (.tup xs)->c≠x:=λc xs r z=>by subst z;rw[r]at mu;exact mu
 by_cases hb:b=x
 ·subst hb;rw[AE]at q;cases q;exact new
 ·rw[AF hb]at q
  by_cases hbe:b=e
  ·have q':H b=some (.own x):=by
    rcases he with z | z
    ·exact absurd (hbe.trans z) hb
    ·rw[hbe];exact z
   rw[q]at q';cases q'
   obtain⟨v,hv⟩:=heo
   exact⟨v,by rw[hbe];exact hv⟩
  ·refine(ok b u q).stay (λc v hc r=>k c v ?_ r) (λc r=>by rw[AF (nown c b r)];exact r) λc xs r=>by rw[AF (ntup c xs r)];exact r
   rcases hc with rfl | hc
   ·exact hbe
   ·rintro rfl
    rcases he with z | z
    ·exact nown c b hc z
    ·rw[hc]at z;cases z;exact hb rfl
end
structure Un(fs ex:List Addr)(H H':Hp)(h h':Heap):Prop where
 keep:∀ b o,h.get? b=some o->H b=none->b∉fs->b∉ex->h'.get? b=some o
 slot:∀ b o,h.get? b=some o->H b=none->b∈fs->b∉ex->∃ sl,h'.get? b=some { o with slots:=sl }
 free:∀ b o,h.get? b=some o->H b=none->b∉ex->H' b=none
 there:∀ b o,h.get? b=some o->b∉ex->∃ o',h'.get? b=some o'
 tups:∀ b xs,H b=some (.tup xs)->H' b=some (.tup xs)
 frzs:∀ b o u,H b=some (.frz o u)->H' b=some (.frz o u)
 tbls:∀ b ps,H b=some (.tbl ps)->∃ more,H' b=some (.tbl (ps++more))
section
variable{fs fs' ex ex':List Addr}{H H1 H2:Hp}{h h1 h2 h':Heap}{a x e:Addr}{o:HO}
theorem Un.any(u:Un fs ex H H1 h h1){b:Addr}{ob:Obj}(q:h.get? b=some ob)(n:H b=none)(hx:b∉ex):∃ sl,h1.get? b=some { ob with slots:=sl }:=by
 by_cases hb:b∈fs
 ·exact u.slot b ob q n hb hx
 ·exact⟨ob.slots,u.keep b ob q n hb hx⟩
theorem Un.kept(k:∀ b u,h.get? b=some u->h'.get? b=some u):Un fs ex H H h h' :=
 ⟨λb ob q _ _ _=>k b ob q,λb ob q _ _ _=>⟨ob.slots,k b ob q⟩,λ_ _ _ n _=>n,λb ob q _=>⟨ob,k b ob q⟩,λ_ _ q=>q,λ_ _ _ q=>q,λ_ ps q=>⟨#[],by rw[q];simp⟩⟩
theorem Un.refl:Un fs ex H H h h:=Un.kept λ_ _ q=>q
theorem Un.laid(k:∀ b u,h.get? b=some u->h'.get? b=some u)(hp:h.objs.size<=a)(hn:H a=none):Un fs ex H (upd H a o) h h' where
 keep:=λb u q _ _ _=>k b u q
 slot:=λb u q _ _ _=>⟨u.slots,k b u q⟩
 free:=λb u q n _=>by rw[AF (Nat.ne_of_lt (Nat.lt_of_lt_of_le (Heap.lt_size q) hp))];exact n
 there:=λb u q _=>⟨u,k b u q⟩
 tups:=λb xs q=>by rw[AF (BM q hn)];exact q
 frzs:=λb u xs q=>by rw[AF (BM q hn)];exact q
 tbls:=λb ps q=>⟨#[],by rw[AF (BM q hn),q];simp⟩
theorem Un.write(mu:MY (H x))(he:e=x\/H e=some (.own x))(k:∀ b u,b≠e->h.get? b=some u->h'.get? b=some u)(heo:∃ u,h'.get? e=some u):Un fs ex H (upd H x o) h h':=by
 have hx:∀ b,H b=none->b≠x:=λb n z=>by subst z;rw[n]at mu;exact mu
 have hb:∀ b,H b=none->b≠e:=λb n z=>by
  subst z
  rcases he with r | r
  ·exact hx b n r
  ·rw[n]at r;cases r
 have hm:∀ b u,H b=some u->¬ MY (some u)->b≠x:=λb u q nm z=>by subst z;rw[q]at mu;exact nm mu
 refine⟨λb u q n _ _=>k b u (hb b n) q,λb u q n _ _=>⟨u.slots,k b u (hb b n) q⟩,λb u q n _=>by rw[AF (hx b n)];exact n,λb u q _=> ?_,
  λb xs q=>by rw[AF (hm b _ q λz=>z)];exact q,λb u xs q=>by rw[AF (hm b _ q λz=>z)];exact q,λb ps q=>⟨#[],by rw[AF (hm b _ q λz=>z),q];simp⟩⟩
 by_cases hbe:b=e
 ·subst hbe;exact heo
 ·exact⟨u,k b u hbe q⟩
end
def OE(h:Heap)(H:Hp):List Addr:=(List.range h.objs.size).filter λa=>(H a).isSome
def IQ(h:Heap)(H:Hp):Heap:=W.hideAll h (OE h H)
theorem tH(h:Heap)(H:Hp):(IQ h H).objs.size=h.objs.size:=W.hideAll_size _ _
theorem tI{h:Heap}{H:Hp}{b:Addr}{o:Obj}(e:h.get? b=some o)(n:H b=none):(IQ h H).get? b=some o :=
 W.hideAll_get _ e λhm=>by
  have q:(H b).isSome=true:=(List.mem_filter.mp hm).2
  rw[n]at q;simp at q
theorem tJ{h:Heap}{H:Hp}{b:Addr}{o:Obj}(e:(IQ h H).get? b=some o):h.get? b=some o/\H b=none:=by
 have e':h.get? b=some o:=W.of_hideAll (OE h H) e
 refine⟨e',?_⟩
 cases q:H b with
 | none=>rfl
 | some x =>
  have hm:b∈OE h H:=List.mem_filter.mpr ⟨List.mem_range.mpr (Heap.lt_size e'),by simp[q]⟩
  have z:(IQ h H).get? b=none:=W.hideAll_none (OE h H) hm
  rw[z]at e;cases e
def tK(g h:Heap)(L:Addr):List (Addr × Obj):=(List.range h.objs.size).filterMap λa=>if a=L\/(g.get? a).isSome=true then none else(h.get? a).map λo=>(a,o)
def rest(g h:Heap)(L d:Addr):List (Addr × Obj):=(tK g h L).filter λp=>decide (p.1≠d)
end L2
namespace L2
structure Mod(K:W.Frag)(mg:Str->Option Value)(base:Heap):Prop where
 kin:K.In base
 glob:base.Ns mainGlobals mg
 blt:∃ mb,base.Ns builtinsNs mb/\∀ x:Str,x≠"__name__"->mb x=bootBuiltins x
 nolimit:base.NoLimit
structure Cx where
 prog:Program
 w:World
 K:W.Frag
 mg:Str->Option Value
 base:Heap
 A:Around
 N:List Str
 s₀:Shared
 H₀:Hp
 env:Env
 outer:List Env
 stack:List Env
 ex:List Addr
 fn:Str->Bool
 calm:Bool
 pn:List (Addr × Obj)
 xe:Value->Shared->Prop
def DY(l:List Env):List Addr:=l.filterMap (·.frame)
abbrev Cx.fs(X:Cx):List Addr:=DY X.outer
def R0(sc:Scope)(x:Str):Prop:=sc.names.lookup x=some .local\/sc.names.lookup x=some .cell\/sc.names.lookup x=some .free
def LG(sc:Scope)(x:Str):Prop:=sc.names.lookup x=some .local\/sc.names.lookup x=some .cell
def tL(env:Env)(h:Heap)(m:Str->Option Value)(x:Str)(u:Value):Prop :=
 (env.kindOf x=some .local/\m x=some u)\/((env.kindOf x=some .cell\/env.kindOf x=some .free)/\∃ c,env.cells.lookup x=some c/\h.IsCell c (some u))
structure Cx.Ok(X:Cx):Prop where
 mod:Mod X.K X.mg X.base
 kind:X.env.scope.kind=.function
 glob:X.env.globals=mainGlobals
 blt:X.env.builtins=builtinsNs
 above:X.s₀.heap.objs.size<=X.env.locals
 inj:∀ x y c,X.env.cells.lookup x=some c->X.env.cells.lookup y=some c->x=y
 has:∀ x,(X.env.kindOf x=some .cell\/X.env.kindOf x=some .free)->∃ c,X.env.cells.lookup x=some c
 cab:∀ x c,X.fn x=true->X.env.cells.lookup x=some c->X.s₀.heap.objs.size<=c
 hd:X.calm=true->X.A.handled=none
 frames:X.A.frames=some X.stack
 stk:X.stack=X.outer\/(X.stack=X.env::X.outer/\X.env.frame=some X.env.locals)
 exf:∀ b∈X.ex,b≠X.env.locals/\∀ x c,X.env.cells.lookup x=some c->c≠b
 bs:∀ b o,X.base.get? b=some o->X.s₀.heap.get? b=some o/\X.H₀ b=none
 bsz:X.base.objs.size<=X.s₀.heap.objs.size
 noex:∀ b o,X.base.get? b=some o->b∉X.ex
 exfs:∀ b∈X.ex,b∉X.fs
 funs:X.s₀.heap.FunFrames X.base X.outer
 frf:∀ b∈X.fs,X.H₀ b=none
structure Inv(X:Cx)(AA:List (Addr × Obj))(σ:List (Option V))(H:Hp)(s:Shared):Prop where
 ok:X.Ok
 os:s.os=X.s₀.os
 bare:AllBare s.gens
 base:Un X.fs X.ex X.H₀ H X.s₀.heap s.heap
 loc:∃ m,s.heap.Ns X.env.locals m/\∀ (i:Nat) (x:Str) (v:V),X.N[i]? =some x->σ[i]? =some (some v)->R0 X.env.scope x->∃ u,RelV v u/\tL X.env s.heap m x u
 cell:∀ x c,X.env.cells.lookup x=some c->∃ v,s.heap.IsCell c v
 free:H X.env.locals=none
 freeC:∀ x c,X.env.cells.lookup x=some c->H c=none
 pin:∀ p∈X.pn++AA,s.heap.get? p.1=some p.2/\H p.1=none/\p.1≠X.env.locals/\p.1∉X.fs/\∀ v,p.2.data≠.cell v
 hok:HOk X.prog X.w H s.heap
 len:σ.length=X.N.length
section
variable{X:Cx}{AA:List (Addr × Obj)}{σ:List (Option V)}{H H':Hp}{s:Shared}{h':Heap}
theorem Cx.Ok.nofr(ok:X.Ok){b:Addr}{o:Obj}(e:X.base.get? b=some o):b∉X.fs:=λhb=>by
 have:=(ok.funs.mem hb).1
 rw[e]at this;cases this
theorem Inv.bs(I:Inv X AA σ H s):∀ b o,X.base.get? b=some o->s.heap.get? b=some o/\H b=none:=λb o e =>
 ⟨I.base.keep b o (I.ok.bs b o e).1 (I.ok.bs b o e).2 (I.ok.nofr e) (I.ok.noex b o e),I.base.free b o (I.ok.bs b o e).1 (I.ok.bs b o e).2 (I.ok.noex b o e)⟩
theorem Inv.bk(I:Inv X AA σ H s):∀ b o,X.base.get? b=some o->s.heap.get? b=some o:=λb o e=>(I.bs b o e).1
theorem Inv.mod(I:Inv X AA σ H s):Mod X.K X.mg X.base:=I.ok.mod
theorem Inv.kIn(I:Inv X AA σ H s):X.K.In s.heap:=I.ok.mod.kin.keeps I.bk
theorem Inv.lt(I:Inv X AA σ H s):X.env.locals<s.heap.objs.size:=let ⟨_,hn,_⟩:=I.loc;hn.lt
theorem Inv.sz(I:Inv X AA σ H s):X.s₀.heap.objs.size<=s.heap.objs.size:=Nat.le_trans I.ok.above (Nat.le_of_lt I.lt)
theorem Inv.nofs(I:Inv X AA σ H s){a:Addr}(h:s.heap.objs.size<=a):a∉X.fs:=λhb=>by
 obtain⟨_,o,ho,_⟩:=I.ok.funs.mem hb
 exact absurd (Nat.lt_of_lt_of_le (Heap.lt_size ho) (Nat.le_trans I.sz h)) (Nat.lt_irrefl _)
theorem Inv.cne(I:Inv X AA σ H s):∀ x c,X.env.cells.lookup x=some c->c≠X.env.locals:=λx c e z=>by
 obtain⟨v,o,ho,hd⟩:=I.cell x c e
 obtain⟨m,⟨o',es,ep,ho',hd',_⟩,_⟩:=I.loc
 rw[z,ho']at ho;cases ho;rw[hd']at hd;cases hd
theorem Inv.funs(I:Inv X AA σ H s):s.heap.FunFrames X.base X.outer:=by
 have all:∀ (l:List Env),(∀ b∈DY l,b∈X.fs)->X.s₀.heap.FunFrames X.base l->s.heap.FunFrames X.base l:=by
  intro l
  induction l with
  | nil=>intro _ _;trivial
  | cons env r ih =>
   intro hs hl
   obtain⟨hk,⟨L,o,hf,hn,ho,hd⟩,hr⟩:=hl
   have hL:L∈X.fs:=hs L (by unfold DY;rw[List.filterMap_cons,hf];exact List.mem_cons_self)
   obtain⟨sl,e⟩:=I.base.slot L o ho (I.ok.frf L hL) hL λz=>I.ok.exfs L z hL
   exact⟨hk,⟨L,_,hf,hn,e,hd⟩,ih (λb hb=>hs b (by unfold DY;rw[List.filterMap_cons,hf];exact List.mem_cons_of_mem _ hb)) hr⟩
 exact all X.outer (λ_ hb=>hb) I.ok.funs
theorem Inv.stack(I:Inv X AA σ H s):s.heap.FunFrames X.base X.stack:=by
 rcases I.ok.stk with e | ⟨e,hf⟩
 ·rw[e];exact I.funs
 ·rw[e]
  obtain⟨m,hn,_⟩:=I.loc
  refine .cons (by rw[I.ok.kind];decide) hf hn ?_ I.funs
  exact Heap.get?_none_of_le (Nat.le_trans I.ok.bsz I.ok.above)
theorem Inv.stkSub(I:Inv X AA σ H s):∀ b∈DY X.stack,b∈X.env.locals::X.fs:=λb hb=>by
 rcases I.ok.stk with e | ⟨e,hf⟩
 ·rw[e]at hb;exact List.mem_cons_of_mem _ hb
 ·rw[e]at hb
  unfold DY at hb
  rw[List.filterMap_cons,hf]at hb
  exact hb
theorem Inv.stkFree(I:Inv X AA σ H s):∀ b∈DY X.stack,H b=none:=λb hb=>by
 rcases List.mem_cons.mp (I.stkSub b hb)with e | hb
 ·rw[e];exact I.free
 ·obtain⟨_,o,ho,_⟩:=I.ok.funs.mem hb
  exact I.base.free b o ho (I.ok.frf b hb) λz=>I.ok.exfs b z hb
theorem Inv.step{g':Array GenState}{t':Nat}{d':Drawn}{ch:List Addr}(I:Inv X AA σ H s)
  (DQ:∀ b∈ch,(b∈X.ex\/X.s₀.heap.objs.size<=b)/\b≠X.env.locals/\(∀ x c,X.env.cells.lookup x=some c->c≠b)/\∀ p∈X.pn++AA,p.1≠b)
  (keep:∀ b o,b≠X.env.locals->b∉X.fs->b∉ch->s.heap.get? b=some o->H b=none->h'.get? b=some o)
  (slot:∀ b o,b≠X.env.locals->b∈X.fs->b∉ch->s.heap.get? b=some o->H b=none->∃ sl,h'.get? b=some { o with slots:=sl }) (free:∀ b o,b∉ch->s.heap.get? b=some o->H b=none->H' b=none)
  (there:∀ b o,b∉ch->s.heap.get? b=some o->∃ o',h'.get? b=some o')
  (tups:∀ b xs,H b=some (.tup xs)->H' b=some (.tup xs)) (frzs:∀ b o u,H b=some (.frz o u)->H' b=some (.frz o u)) (tbls:∀ b ps,H b=some (.tbl ps)->∃ more,H' b=some (.tbl (ps++more)))
  (ns:∀ m,s.heap.Ns X.env.locals m->h'.Ns X.env.locals m) (hok:HOk X.prog X.w H' h') (hg:AllBare g') :
  Inv X AA σ H' { s with heap:=h',gens:=g',drawn:=d',toks:=t' }:=by
 have neL:∀ b o,X.s₀.heap.get? b=some o->b≠X.env.locals:=λb o e=>Nat.ne_of_lt (Nat.lt_of_lt_of_le (Heap.lt_size e) I.ok.above)
 have neC:∀ b o,X.s₀.heap.get? b=some o->b∉X.ex->b∉ch:=λb o e hx hb=>by
  rcases(DQ b hb).1 with z | z
  ·exact hx z
  ·exact absurd (Nat.lt_of_lt_of_le (Heap.lt_size e) z) (Nat.lt_irrefl _)
 have cellK:∀ x c,X.env.cells.lookup x=some c->∀ v,s.heap.IsCell c v->h'.IsCell c v:=λx c e v ⟨o,ho,hd⟩=>by
  have nch:c∉ch:=λz=>(DQ c z).2.2.1 x c e rfl
  by_cases hc:c∈X.fs
  ·obtain⟨sl,q⟩:=slot c o (I.cne x c e) hc nch ho (I.freeC x c e)
   exact⟨_,q,hd⟩
  ·exact⟨o,keep c o (I.cne x c e) hc nch ho (I.freeC x c e),hd⟩
 refine⟨I.ok,I.os,hg,⟨λb o e n hb hx=> ?_,λb o e n hb hx=> ?_,λb o e n hx=> ?_,λb o e hx=> ?_,λb xs e=>tups b xs (I.base.tups b xs e),λb o xs e=>frzs b o xs (I.base.frzs b o xs e),λb ps e=> ?_⟩,?_,λx c e=> ?_,?_,λx c e=> ?_,λp hp=> ?_,hok,I.len⟩
 ·exact keep b o (neL b o e) hb (neC b o e hx) (I.base.keep b o e n hb hx) (I.base.free b o e n hx)
 ·obtain⟨sl,e1⟩:=I.base.slot b o e n hb hx
  obtain⟨sl',e2⟩:=slot b _ (neL b o e) hb (neC b o e hx) e1 (I.base.free b o e n hx)
  exact⟨sl',e2⟩
 ·obtain⟨o',e1⟩:=I.base.there b o e hx
  exact free b o' (neC b o e hx) e1 (I.base.free b o e n hx)
 ·obtain⟨o',e1⟩:=I.base.there b o e hx
  exact there b o' (neC b o e hx) e1
 ·obtain⟨m1,e1⟩:=I.base.tbls b ps e
  obtain⟨m2,e2⟩:=tbls b _ e1
  exact⟨m1++m2,by rw[e2,Array.append_assoc]⟩
 ·obtain⟨m,hn,hl⟩:=I.loc
  refine⟨m,ns m hn,λi x v e1 e2 e3=> ?_⟩
  obtain⟨u,r,l⟩:=hl i x v e1 e2 e3
  refine⟨u,r,?_⟩
  rcases l with l | ⟨k,c,e,z⟩
  ·exact .inl l
  ·exact .inr ⟨k,c,e,cellK x c e _ z⟩
 ·obtain⟨v,z⟩:=I.cell x c e
  exact⟨v,cellK x c e v z⟩
 ·obtain⟨m,⟨o,_,_,ho,_⟩,_⟩:=I.loc
  exact free _ o (λz=>(DQ _ z).2.1 rfl) ho I.free
 ·obtain⟨v,o,ho,hd⟩:=I.cell x c e
  exact free c o (λz=>(DQ c z).2.2.1 x c e rfl) ho (I.freeC x c e)
 ·obtain⟨e,n,ne,nf,d⟩:=I.pin p hp
  have nch:p.1∉ch:=λz=>(DQ p.1 z).2.2.2 p hp rfl
  exact⟨keep p.1 p.2 ne nf nch e n,free p.1 p.2 nch e n,ne,nf,d⟩
theorem Inv.un{t':Nat}(I:Inv X AA σ H s)(u:Un X.fs [] H H' s.heap h')(hok:HOk X.prog X.w H' h'):Inv X AA σ H' { s with heap:=h',toks:=t' }:=by
 obtain⟨m,⟨o,es,ep,ho,r⟩,_⟩:=id I.loc
 obtain⟨sl,hL⟩:=u.any ho I.free (by simp)
 exact I.step (g':=s.gens) (d':=s.drawn) (ch:=[]) (λ_ z=>nomatch z) (λb o _ hb _ e n=>u.keep b o e n hb (by simp)) (λb o _ hb _ e n=>u.slot b o e n hb (by simp)) (λb o _ e n=>u.free b o e n (by simp)) (λb o _ e=>u.there b o e (by simp)) u.tups u.frzs u.tbls (λm' hm=>by
  obtain⟨o',es',ep',ho',r'⟩:=hm
  rw[ho]at ho';cases ho'
  exact⟨_,es',ep',hL,r'⟩) hok I.bare
theorem Inv.call{g':Array GenState}{t':Nat}{d':Drawn}{ch:List Addr}(I:Inv X AA σ H s)(u:Un (DY X.stack) ch H H' s.heap h')(hok:HOk X.prog X.w H' h')(hg:AllBare g')
  (DQ:∀ b∈ch,(b∈X.ex\/X.s₀.heap.objs.size<=b)/\b≠X.env.locals/\(∀ x c,X.env.cells.lookup x=some c->c≠b)/\∀ p∈X.pn++AA,p.1≠b) :
  Inv X AA σ H' { s with heap:=h',gens:=g',drawn:=d',toks:=t' }:=by
 obtain⟨m,⟨o,es,ep,ho,r⟩,_⟩:=id I.loc
 obtain⟨sl,hL⟩:=u.any ho I.free λz=>(DQ _ z).2.1 rfl
 exact I.step (ch:=ch) DQ (λb o hL hb hc e n=>u.keep b o e n (λz=>(List.mem_cons.mp (I.stkSub b z)).elim hL hb) hc) (λb o _ _ hc e n=>u.any e n hc) (λb o hc e n=>u.free b o e n hc) (λb o hc e=>u.there b o e hc) u.tups u.frzs u.tbls (λm' hm=>by
  obtain⟨o',es',ep',ho',r'⟩:=hm
  rw[ho]at ho';cases ho'
  exact⟨_,es',ep',hL,r'⟩) hok hg
theorem Inv.turned{t':Nat}{it:Addr}(I:Inv X AA σ H s)(k:∀ b o,b≠it->s.heap.get? b=some o->h'.get? b=some o)(hn:H it=none)(hL:it≠X.env.locals)
  (h1:it∈X.ex\/X.s₀.heap.objs.size<=it) (h2:∀ x c,X.env.cells.lookup x=some c->c≠it) (h3:∀ p∈X.pn++AA,p.1≠it):Inv X AA σ H { s with heap:=h',toks:=t' }:=by
 have nit:∀ b u,H b=some u->b≠it:=λb u e z=>by rw[z,hn]at e;cases e
 refine I.step (g':=s.gens) (d':=s.drawn) (ch:=[it]) (λb hb=> ?_) (λb o _ _ hc e _=>k b o (λz=>hc (by simp[z])) e) (λb o _ _ hc e _=>⟨o.slots,k b o (λz=>hc (by simp[z])) e⟩) (λ_ _ _ _ n=>n)
  (λb o hc e=>⟨o,k b o (λz=>hc (by simp[z])) e⟩) (λ_ _ e=>e) (λ_ _ _ e=>e) (λb ps e=>⟨#[],by rw[e];simp⟩) (λm hm=> ?_) (λb u e=> ?_) I.bare
 ·have e:b=it:=by simpa using hb
  subst e
  exact⟨h1,hL,h2,h3⟩
 ·obtain⟨o,es,ep,ho,r⟩:=hm
  exact⟨o,es,ep,k _ o (Ne.symm hL) ho,r⟩
 ·refine(I.hok b u e).stay (λc v hc q=>k c v ?_ q) (λ_ q=>q) λ_ _ q=>q
  rcases hc with z | z
  ·rw[z];exact nit b u e
  ·exact nit c _ z
theorem Inv.tok(I:Inv X AA σ H s)(t:Nat):Inv X AA σ H { s with toks:=t }:=I.un (h':=s.heap) (t':=t) Un.refl I.hok
theorem Inv.kept{t':Nat}(I:Inv X AA σ H s)(k:∀ b u,s.heap.get? b=some u->h'.get? b=some u):Inv X AA σ H { s with heap:=h',toks:=t' }:=I.un (Un.kept k) (I.hok.kept k)
theorem Inv.laid{a:Addr}{o:HO}{t':Nat}(I:Inv X AA σ H s)(k:∀ b u,s.heap.get? b=some u->h'.get? b=some u)(hp:s.heap.objs.size<=a)(new:ObjOk X.prog X.w (upd H a o) h' a o) :
  Inv X AA σ (upd H a o) { s with heap:=h',toks:=t' }:=I.un (Un.laid k hp (I.hok.fresh hp)) (I.hok.laid k hp new)
theorem Inv.write{x e:Addr}{o:HO}{t':Nat}(I:Inv X AA σ H s)(mu:MY (H x))(he:e=x\/H e=some (.own x))(k:∀ b u,b≠e->s.heap.get? b=some u->h'.get? b=some u)(heo:∃ u,h'.get? e=some u)
  (new:ObjOk X.prog X.w (upd H x o) h' x o):Inv X AA σ (upd H x o) { s with heap:=h',toks:=t' }:=I.un (Un.write mu he k heo) (I.hok.write mu he k heo new)
theorem Inv.pins_of{pins':List (Addr × Obj)}(I:Inv X AA σ H s)(h:∀ p∈pins',s.heap.get? p.1=some p.2/\H p.1=none/\p.1≠X.env.locals/\p.1∉X.fs/\∀ v,p.2.data≠.cell v):Inv X pins' σ H s :=
 ⟨I.ok,I.os,I.bare,I.base,I.loc,I.cell,I.free,I.freeC,λp hp=>(List.mem_append.mp hp).elim (λz=>I.pin p (List.mem_append_left _ z)) (h p),I.hok,I.len⟩
theorem aX{N:List Str}(hN:N.Nodup){i j:Nat}{x:Str}(a:N[i]? =some x)(b:N[j]? =some x):i=j:=by
 obtain⟨h1,e1⟩:=List.getElem?_eq_some_iff.mp a
 obtain⟨h2,e2⟩:=List.getElem?_eq_some_iff.mp b
 exact(List.getElem_inj hN).mp (e1.trans e2.symm)
theorem aY{M:Model}{A:Around}{E:Value->Shared->Prop}{i:Nat}{x:Str}{v:V}{u:Value}{Q:Unit->Shared->Prop}(I:Inv X AA σ H s)(hN:X.N.Nodup)(hi:X.N[i]? =some x)(hx:LG X.env.scope x)(r:RelV v u)
  (h:∀ s',Inv X AA (σ.set i (some v)) H s'->(∃ a,Heap.SameBut a s.heap s'.heap/\(a=X.env.locals\/X.env.cells.lookup x=some a))->Q () s') (hf:X.fn x=true\/X.env.scope.names.lookup x=some .local:=by first | exact .inl rfl | exact .inr rfl | assumption):wpAny M A (storeName X.env x u) Q E s:=by
 obtain⟨m,hn,hl⟩:=id I.loc
 have MX:(X.env.scope.kind == .class || (X.env.scope.kind == .module && X.env.locals != X.env.globals))=false:=by rw[I.ok.kind];rfl
 have hiσ:i<σ.length:=by rw[I.len];exact(List.getElem?_eq_some_iff.mp hi).1
 have cne:=I.cne
 have tracked:∀ {a:Addr} {h':Heap},(∃ o,s.heap.get? a=some o/\H a=none)->Heap.SameBut a s.heap h'->HOk X.prog X.w H h':=λ{a h'} ha hs b ob e=>by
  obtain⟨_,_,hfree⟩:=ha
  refine(I.hok b ob e).stay (λc w' hc q=>(hs.2 c ?_).trans q) (λ_ q=>q) λ_ _ q=>q
  rintro rfl
  rcases hc with rfl | hc
  ·rw[hfree]at e;cases e
  ·rw[hfree]at hc;cases hc
 rcases hx with hk | hk
 ·refine wpAny_storeName_local hk hn (λh' hn' hs=> ?_) MX
  obtain⟨oL,_,_,hoL,_⟩:=id hn
  refine h _ ⟨I.ok,I.os,I.bare,⟨λb o e n hb hx=> ?_,λb o e n hb hx=> ?_,I.base.free,λb o e hx=> ?_,I.base.tups,I.base.frzs,I.base.tbls⟩,⟨_,hn',λj y v' e1 e2 e3=> ?_⟩,λy c e=> ?_,I.free,I.freeC,λp hp=> ?_,tracked ⟨oL,hoL,I.free⟩ hs,by simpa using I.len⟩ ⟨_,hs,.inl rfl⟩
  ·exact(hs.2 b (Nat.ne_of_lt (Nat.lt_of_lt_of_le (Heap.lt_size e) I.ok.above))).trans (I.base.keep b o e n hb hx)
  ·obtain⟨sl,e1⟩:=I.base.slot b o e n hb hx
   exact⟨sl,(hs.2 b (Nat.ne_of_lt (Nat.lt_of_lt_of_le (Heap.lt_size e) I.ok.above))).trans e1⟩
  ·obtain⟨o',e1⟩:=I.base.there b o e hx
   exact⟨o',(hs.2 b (Nat.ne_of_lt (Nat.lt_of_lt_of_le (Heap.lt_size e) I.ok.above))).trans e1⟩
  ·by_cases hj:j=i
   ·subst hj
    rw[hi]at e1;cases e1
    rw[List.getElem?_set_self hiσ]at e2
    cases e2
    exact⟨u,r,.inl ⟨hk,by simp⟩⟩
   ·rw[List.getElem?_set_ne (Ne.symm hj)]at e2
    obtain⟨u',r',q⟩:=hl j y v' e1 e2 e3
    refine⟨u',r',?_⟩
    rcases q with⟨k,e⟩ | ⟨k,c,e,z⟩
    ·refine .inl ⟨k,?_⟩
     have:y≠x:=λe=>hj (aX hN e1 (e ▸ hi))
     simp[this,e]
    ·exact .inr ⟨k,c,e,z.sameBut hs (cne y c e)⟩
  ·obtain⟨w',z⟩:=I.cell y c e
   exact⟨w',z.sameBut hs (cne y c e)⟩
  ·obtain⟨e,n,ne,nf,d⟩:=I.pin p hp
   exact⟨(hs.2 p.1 ne).trans e,n,ne,nf,d⟩
 ·have hfn:X.fn x=true:=by
   rcases hf with z | z
   ·exact z
   ·rw[z]at hk;cases hk
  obtain⟨c,hc⟩:=I.ok.has x (.inl hk)
  obtain⟨w',z⟩:=I.cell x c hc
  refine wpAny_storeName_cell I.ok.kind hk hc z (λh' hc' hs=> ?_)
  obtain⟨oc,hoc,hocd⟩:=id z
  refine h { s with heap:=h' } ⟨I.ok,I.os,I.bare,⟨λb o e n hb hx=> ?_,λb o e n hb hx=> ?_,I.base.free,λb o e hx=> ?_,I.base.tups,I.base.frzs,I.base.tbls⟩,⟨m,hn.sameBut hs (Ne.symm (cne x c hc)),λj y v' e1 e2 e3=> ?_⟩,λy c' e=> ?_,I.free,I.freeC,λp hp=> ?_,tracked ⟨oc,hoc,I.freeC x c hc⟩ hs,by simpa using I.len⟩ ⟨c,hs,.inr hc⟩
  ·exact(hs.2 b (Nat.ne_of_lt (Nat.lt_of_lt_of_le (Heap.lt_size e) (I.ok.cab x c hfn hc)))).trans (I.base.keep b o e n hb hx)
  ·obtain⟨sl,e1⟩:=I.base.slot b o e n hb hx
   exact⟨sl,(hs.2 b (Nat.ne_of_lt (Nat.lt_of_lt_of_le (Heap.lt_size e) (I.ok.cab x c hfn hc)))).trans e1⟩
  ·obtain⟨o',e1⟩:=I.base.there b o e hx
   exact⟨o',(hs.2 b (Nat.ne_of_lt (Nat.lt_of_lt_of_le (Heap.lt_size e) (I.ok.cab x c hfn hc)))).trans e1⟩
  ·by_cases hj:j=i
   ·subst hj
    rw[hi]at e1;cases e1
    rw[List.getElem?_set_self hiσ]at e2
    cases e2
    exact⟨u,r,.inr ⟨.inl hk,c,hc,hc'⟩⟩
   ·rw[List.getElem?_set_ne (Ne.symm hj)]at e2
    obtain⟨u',r',q⟩:=hl j y v' e1 e2 e3
    refine⟨u',r',?_⟩
    rcases q with q | ⟨k,c',e,z'⟩
    ·exact .inl q
    ·refine .inr ⟨k,c',e,z'.sameBut hs ?_⟩
     rintro rfl
     exact hj (aX hN e1 (I.ok.inj _ _ _ e hc ▸ hi))
  ·by_cases hcc:c'=c
   ·subst hcc;exact⟨_,hc'⟩
   ·obtain⟨w2,z2⟩:=I.cell y c' e
    exact⟨w2,z2.sameBut hs hcc⟩
  ·obtain⟨e,n,ne,nf,d⟩:=I.pin p hp
   refine⟨(hs.2 p.1 ?_).trans e,n,ne,nf,d⟩
   intro q
   rw[q,hoc]at e
   have q':oc=p.2:=Option.some.inj e
   exact d w' (by rw[<-q'];exact hocd)
theorem aZ{M:Model}{A:Around}{E:Value->Shared->Prop}{i:Nat}{x:Str}{v:V}{u:Value}{Q:Unit->Shared->Prop}(I:Inv X AA σ H s)(hN:X.N.Nodup)(hi:X.N[i]? =some x)(hx:LG X.env.scope x)(r:RelV v u)
  (h:∀ s',Inv X AA (σ.set i (some v)) H s'->Q () s') (hf:X.fn x=true\/X.env.scope.names.lookup x=some .local:=by first | exact .inl rfl | exact .inr rfl | assumption):wpAny M A (storeName X.env x u) Q E s :=
 aY I hN hi hx r (λs' I' _=>h s' I') hf
theorem Inv.call'{s':Shared}{ch:List Addr}(I:Inv X AA σ H s)(ho:s'.os=s.os)(u:Un (DY X.stack) ch H H' s.heap s'.heap)(hok:HOk X.prog X.w H' s'.heap)(hg:AllBare s'.gens)
  (DQ:∀ b∈ch,(b∈X.ex\/X.s₀.heap.objs.size<=b)/\b≠X.env.locals/\(∀ x c,X.env.cells.lookup x=some c->c≠b)/\∀ p∈X.pn++AA,p.1≠b):Inv X AA σ H' s':=by
 obtain⟨h',g',d',t',o'⟩:=s'
 have e:o'=s.os:=ho
 subst e
 exact I.call (g':=g') (t':=t') (d':=d') u hok hg DQ
end
abbrev XK:=Value->Option Addr->Hp->Prop
abbrev St:=List (Option V)
abbrev VK:=V->Hp->Prop
abbrev TE:=St->Hp->VK->Prop
abbrev TT:=St->Hp->(Bool->Hp->Prop)->Prop
abbrev TA:=St->Hp->(List V->Hp->Prop)->Prop
structure Ends where
 nx:St->Hp->Prop
 rt:VK
 bk:St->Hp->Prop:=λ_ _=>False
 ct:St->Hp->Prop:=λ_ _=>False
abbrev TS:=Ends->St->Hp->Prop
def EP(X:Cx)(AA:List (Addr × Obj))(σ:St)(Q:VK)(u:Value)(s':Shared):Prop:=∃ v H',Inv X AA σ H' s'/\RelV v u/\Q v H'
def TP(X:Cx)(AA:List (Addr × Obj))(σ:St)(Q:Bool->Hp->Prop)(b:Bool)(s':Shared):Prop:=∃ H',Inv X AA σ H' s'/\Q b H'
def AP(X:Cx)(AA:List (Addr × Obj))(σ:St)(Q:List V->Hp->Prop)(us:List Value)(s':Shared):Prop:=∃ vs H',Inv X AA σ H' s'/\Vals vs us/\Q vs H'
def SP(X:Cx)(AA:List (Addr × Obj))(D:Ends)(f:Flow)(s':Shared):Prop :=
 match f with
 | .next=>∃ σ' H',Inv X AA σ' H' s'/\D.nx σ' H'
 | .brk=>∃ σ' H',Inv X AA σ' H' s'/\D.bk σ' H'
 | .cont=>∃ σ' H',Inv X AA σ' H' s'/\D.ct σ' H'
 | .ret u=>∃ v σ' H',Inv X AA σ' H' s'/\RelV v u/\D.rt v H'
def PE(X:Cx)(e:Expr)(t:TE):Prop :=
 ∀ (AA:List (Addr × Obj)) (s:Shared) (σ:St) (H:Hp) (Q:VK),Inv X AA σ H s->t σ H Q->wpAny (model X.prog X.w) X.A (eval e X.env) (EP X AA σ Q) X.xe s
def PT(X:Cx)(e:Expr)(t:TT):Prop :=
 ∀ (AA:List (Addr × Obj)) (s:Shared) (σ:St) (H:Hp) (Q:Bool->Hp->Prop),Inv X AA σ H s->t σ H Q->wpAny (model X.prog X.w) X.A (isTrue e X.env (eval e X.env)) (TP X AA σ Q) X.xe s
def PW(X:Cx)(e:Expr)(t:TT):Prop :=
 ∀ (whole:Sem Value) (AA:List (Addr × Obj)) (s:Shared) (σ:St) (H:Hp) (Q:Bool->Hp->Prop),Inv X AA σ H s->t σ H Q->wpAny (model X.prog X.w) X.A (isTrue e X.env whole) (TP X AA σ Q) X.xe s
theorem PW.pt{X:Cx}{e:Expr}{t:TT}(h:PW X e t):PT X e t:=h _
def PA(X:Cx)(es:List Expr)(t:TA):Prop :=
 ∀ (pos:Pos) (AA:List (Addr × Obj)) (s:Shared) (σ:St) (H:Hp) (Q:List V->Hp->Prop),Inv X AA σ H s->t σ H Q->wpAny (model X.prog X.w) X.A (spliced (backTo pos (starEach es X.env))) (AP X AA σ Q) X.xe s
def PS(X:Cx)(st:Stmt)(t:TS):Prop :=
 ∀ (AA:List (Addr × Obj)) (s:Shared) (σ:St) (H:Hp) (D:Ends),Inv X AA σ H s->t D σ H->wpAny (model X.prog X.w) X.A (exec st X.env) (SP X AA D) X.xe s
def FZ(X:Cx)(st:List Stmt)(t:TS):Prop :=
 ∀ (AA:List (Addr × Obj)) (s:Shared) (σ:St) (H:Hp) (D:Ends),Inv X AA σ H s->t D σ H->wpAny (model X.prog X.w) X.A (execs st X.env) (SP X AA D) X.xe s
theorem AS{α :Type}{t:Sem α}{Q Q': α ->Shared->Prop}{M:Model}{A:Around}{E:Value->Shared->Prop}{s:Shared}(h:wpAny M A t Q E s)(hQ:∀ a s,Q a s->Q' a s):wpAny M A t Q' E s:=wpAny_mono h hQ λ_ _ x=>x
end L2
namespace L2
section
variable{X:Cx}
def R1(i:Nat):TE:=λσ H Q=>∃ v,σ[i]? =some (some v)/\Q v H
def tC(v:V):TE:=λ_ H Q=>Q v H
theorem tM{i:Nat}{x:Str}{pos:Pos}(hN:X.N[i]? =some x)(hv:R0 X.env.scope x)(hd:(x ==("__debug__":Str))=false:=by decide)(IN:(x ==("__classdict__":Str))=false:=by decide):PE X (.Name x pos) (R1 i):=by
 intro AA s σ H Q I h
 obtain⟨v,e,h⟩:=h
 obtain⟨m,hn,hl⟩:=I.loc
 obtain⟨u,r,l⟩:=hl i x v hN e hv
 have fin:EP X AA σ Q u s:=⟨v,H,I,r,h⟩
 rcases l with⟨hk,hm⟩ | ⟨hk,c,hc,hcell⟩
 ·exact wpAny_Name (wpAny_loadName_local I.ok.kind hk hn hm fin) hd
 ·rcases hk with hk | hk
  ·exact wpAny_Name (wpAny_loadName_cell I.ok.kind hk hc hcell fin) hd
  ·exact wpAny_Name (wpAny_loadName_free I.ok.kind hk hc hcell fin IN) hd
theorem AQ{i j pos}:PE X (.Constant (.int i) j pos) (tC (.int i)):=λ_ _ _ H _ I h=>wpAny_Constant_int ⟨.int i,H,I.tok _,⟨_,rfl⟩,h⟩
theorem IR{b j pos}:PE X (.Constant (.bool b) j pos) (tC (.bl b)):=λ_ _ _ H _ I h=>Constant_bool ⟨.bl b,H,I,rfl,h⟩
theorem FL{j pos}:PE X (.Constant .none j pos) (tC .non):=λ_ _ _ H _ I h=>Constant_none ⟨.non,H,I,rfl,h⟩
theorem DJ{x j pos}:PE X (.Constant (.str x) j pos) (tC (.str x)):=λ_ _ _ H _ I h=>Calls.Constant_str ⟨.str x,H,I.tok _,⟨_,rfl⟩,h⟩
def Gl(X:Cx)(x:Str):Prop:=X.env.kindOf x=some .globalImplicit
theorem MZ{E:Value->Shared->Prop}{AA:List (Addr × Obj)}{s:Shared}{σ:St}{H:Hp}{x:Str}{u:Value}{pos:Pos}{Q:Value->Shared->Prop}(I:Inv X AA σ H s)(hg:Gl X x)(hm:X.mg x=some u)(h:Q u s)
  (hd:(x ==("__debug__":Str))=false:=by decide):wpAny (model X.prog X.w) X.A (eval (.Name x pos) X.env) Q E s :=
 Calls.Name_function_global I.ok.kind hg (Calls.loadGlobal_global (by rw[I.ok.glob];exact I.mod.glob.keeps I.bk) hm h) hd
theorem OF{E:Value->Shared->Prop}{AA:List (Addr × Obj)}{s:Shared}{σ:St}{H:Hp}{x:Str}{u:Value}{pos:Pos}{Q:Value->Shared->Prop}(I:Inv X AA σ H s)(hg:Gl X x)(hm:X.mg x=none)(hv:bootBuiltins x=some u)(h:Q u s)
  (hn:x≠"__name__":=by decide) (hd:(x ==("__debug__":Str))=false:=by decide):wpAny (model X.prog X.w) X.A (eval (.Name x pos) X.env) Q E s:=by
 obtain⟨mb,h1,h2⟩:=I.mod.blt
 exact Calls.Name_function_global I.ok.kind hg (Calls.loadGlobal_builtin (by rw[I.ok.glob];exact I.mod.glob.keeps I.bk) hm (by rw[I.ok.blt];exact h1.keeps I.bk) ((h2 x hn).trans hv) h) hd
theorem tN{x:Str}{v:V}{u:Value}{pos:Pos}(hg:Gl X x)(hm:X.mg x=some u)(r:RelV v u)(hd:(x ==("__debug__":Str))=false:=by decide):PE X (.Name x pos) (tC v) :=
 λ_ _ _ H _ I h=>MZ I hg hm ⟨v,H,I,r,h⟩ hd
variable{a b:Expr}{ta tb:TE}{pos:Pos}
def PC(X:Cx)(op:CmpOp)(a b:Expr)(t:TE):Prop :=
 ∀ (AA:List (Addr × Obj)) (s:Shared) (σ:St) (H:Hp) (Q:VK),Inv X AA σ H s->t σ H Q →
  wpAny (model X.prog X.w) X.A (eval a X.env) (λv s₁=>wpAny (model X.prog X.w) X.A (eval b X.env) (λu s₂=>wpAny (model X.prog X.w) X.A (compareOp op v u) (EP X AA σ Q) X.xe s₂) X.xe s₁) X.xe s
theorem tO(b:Expr){op:CmpOp}(h:op≠.In)(h2:op≠.NotIn):behindInMarks op b=false:=by
 have e1:(op == CmpOp.In)=false:=by cases op<;>first | rfl | exact absurd rfl h
 have e2:(op == CmpOp.NotIn)=false:=by cases op<;>first | rfl | exact absurd rfl h2
 cases b<;>simp[behindInMarks,e1,e2]
def tB(t:TE):TT:=λσ H Q=>t σ H λx H1=>∃ c,x=.bl c/\Q c H1
theorem LH{op:CmpOp}{t:TE}(h:PC X op a b t)(h1:behindInMarks op b=false:=by first | exact tO _ (by decide) (by decide) | rfl):PT X (.Compare a [op] [b] pos) (tB t):=by
 intro AA s σ H Q I hw
 refine wpAny_isTrue_Compare1 (AS (h AA s σ H _ I hw) λv s1 h1=>AS h1 λu s2 h2=>AS h2 λc s3 hzz=> ?_) h1
 obtain⟨x,H1,I1,r1,q1⟩:=hzz
 obtain⟨d,rfl,q⟩:=q1
 cases r1
 exact wpAny_truthy_bool ⟨H1,I1,q⟩
variable{tA tB':TT}{rest:List Expr}
def M3(t u:TT):TT:=λσ H Q=>t σ H λc H1=>if c=true then u σ H1 Q else Q false H1
def R3(t u:TT):TT:=λσ H Q=>t σ H λc H1=>if c=true then Q true H1 else u σ H1 Q
def GJ(t:TT):TT:=λσ H Q=>t σ H λc H1=>Q (!c) H1
theorem R4(ha:PT X a tA):PW X (.BoolOp .And [a] pos) tA:=by
 intro wh AA s σ H Q I h
 refine isTrue_and (AS (ha AA s σ H Q I h) λc s1 e=> ?_)
 cases c with
 | true=>exact isTrue_and_nil e
 | false=>exact e
theorem tP(ha:PT X a tA):PW X (.BoolOp .Or [a] pos) tA:=by
 intro wh AA s σ H Q I h
 refine isTrue_or (AS (ha AA s σ H Q I h) λc s1 e=> ?_)
 cases c with
 | false=>exact isTrue_or_nil e
 | true=>exact e
theorem R5(ha:PT X a tA)(hb:PW X (.BoolOp .And (b::rest) pos) tB'):PW X (.BoolOp .And (a::b::rest) pos) (M3 tA tB'):=by
 intro wh AA s σ H Q I h
 refine isTrue_and (AS (ha AA s σ H _ I h) λc s1 hzz=> ?_)
 obtain⟨H1,I1,q1⟩:=hzz
 cases c with
 | true=>exact hb wh AA s1 σ H1 Q I1 q1
 | false=>exact⟨H1,I1,q1⟩
theorem tQ(ha:PT X a tA)(hb:PW X (.BoolOp .Or (b::rest) pos) tB'):PW X (.BoolOp .Or (a::b::rest) pos) (R3 tA tB'):=by
 intro wh AA s σ H Q I h
 refine isTrue_or (AS (ha AA s σ H _ I h) λc s1 hzz=> ?_)
 obtain⟨H1,I1,q1⟩:=hzz
 cases c with
 | true=>exact⟨H1,I1,q1⟩
 | false=>exact hb wh AA s1 σ H1 Q I1 q1
theorem HZ(ha:PT X a tA):PT X (.UnaryOp .Not a pos) (GJ tA):=by
 intro AA s σ H Q I h
 exact isTrue_not (ha AA s σ H (λc H1=>Q (!c) H1) I h)
def M4(ta tb:TE):TE:=λσ H Q=>ta σ H λx H1=>∃ c,x=.bl c/\if c=true then tb σ H1 Q else Q (.bl false) H1
def R6(ta tb:TE):TE:=λσ H Q=>ta σ H λx H1=>∃ c,x=.bl c/\if c=true then Q (.bl true) H1 else tb σ H1 Q
theorem OG{op}{t:TE}(h:PE X a t):PE X (.BoolOp op [a] pos) t:=λAA s σ H Q I hw=>BoolOp_one (h AA s σ H Q I hw)
theorem R7(ha:PE X a ta)(hb:PE X (.BoolOp .And (b::rest) pos) tb):PE X (.BoolOp .And (a::b::rest) pos) (M4 ta tb):=by
 intro AA s σ H Q I h
 refine BoolOp_and (AS (ha AA s σ H _ I h) λv s1 hzz=> ?_)
 obtain⟨x,H1,I1,r1,q1⟩:=hzz
 obtain⟨c,rfl,q1⟩:=q1
 cases r1
 refine wpAny_truthy_bool ?_
 cases c with
 | true=>exact hb AA s1 σ H1 Q I1 q1
 | false=>exact⟨.bl false,H1,I1,rfl,q1⟩
theorem tR(ha:PE X a ta)(hb:PE X (.BoolOp .Or (b::rest) pos) tb):PE X (.BoolOp .Or (a::b::rest) pos) (R6 ta tb):=by
 intro AA s σ H Q I h
 refine BoolOp_or (AS (ha AA s σ H _ I h) λv s1 hzz=> ?_)
 obtain⟨x,H1,I1,r1,q1⟩:=hzz
 obtain⟨c,rfl,q1⟩:=q1
 cases r1
 refine wpAny_truthy_bool ?_
 cases c with
 | false=>exact hb AA s1 σ H1 Q I1 q1
 | true=>exact⟨.bl true,H1,I1,rfl,q1⟩
end
end L2
namespace L2
def SqL(K:W.Frag)(H:Hp)(a:Addr)(xs:List V):Prop :=
 Rd H a (.lst xs) ∨
  ∃ (o:Obj) (its:Array Value) (n:Nat),K.lookup a=some o/\o.cls=.type "list"/\o.dict=none/\o.data=.seq its n/\its.size<=sizeLine/\Vals xs its.toList
def SqT(K:W.Frag)(H:Hp)(a:Addr)(xs:List V):Prop :=
 Rd H a (.tup xs) ∨
  ∃ (o:Obj) (its:Array Value) (n:Nat),K.lookup a=some o/\o.cls=.type "tuple"/\o.data=.seq its n/\its.size<=sizeLine/\Vals xs its.toList
def tS:Value->Option V
 | .none=>some .non
 | .bool b=>some (.bl b)
 | .int i _=>some (.int i)
 | .str x _=>some (.str x)
 | .bytes b _=>some (.byt b)
 | .float b _=>some (.flt b)
 | .ref a=>some (.ref a)
 | .type n=>some (.ty n)
 | _=>none
theorem RelV.abs{x:V}{u:Value}(r:RelV x u):tS u=some x:=by
 cases x with
 | non=>cases r;rfl
 | bl _=>cases r;rfl
 | int _=>obtain⟨t,rfl⟩:=r;rfl
 | str _=>obtain⟨t,rfl⟩:=r;rfl
 | byt _=>obtain⟨t,rfl⟩:=r;rfl
 | flt _=>obtain⟨t,rfl⟩:=r;rfl
 | ref _=>cases r;rfl
 | ty _=>cases r;rfl
theorem RelV.inj{x y:V}{u:Value}(r:RelV x u)(q:RelV y u):x=y:=Option.some.inj (r.abs.symm.trans q.abs)
theorem Vals.inj:∀ {xs ys:List V} {us:List Value},Vals xs us->Vals ys us->xs=ys
 | _,_,_,.nil,.nil=>rfl
 | _,_,_,.cons r t,.cons r' t'=>by rw[r.inj r',Vals.inj t t']
section
variable{X:Cx}{AA:List (Addr × Obj)}{σ:St}{H:Hp}{s:Shared}{a:Addr}{xs ys:List V}
theorem SqL.of{K:W.Frag}(h:H a=some (.lst xs)):SqL K H a xs:=.inl (.inl h)
theorem SqT.of{K:W.Frag}(h:H a=some (.tup xs)):SqT K H a xs:=.inl (.inl h)
theorem Inv.list(I:Inv X AA σ H s)(h:SqL X.K H a xs):∃ its:List Value,Vals xs its/\PlainL s.heap a its.toArray/\xs.length<=sizeLine:=by
 rcases h with h | ⟨o,its,n,hk,hc,hd,hs,hz,r⟩
 ·obtain⟨z,its,n,r,e⟩:=h.ok I.hok
  exact⟨its,r,⟨_,n,e,rfl,rfl,rfl⟩,z⟩
 ·refine⟨its.toList,r,⟨o,n,I.kIn a o hk,hc,hd,by simpa using hs⟩,?_⟩
  have e:=r.length
  simp only[Array.length_toList]at e
  omega
theorem Inv.tuple(I:Inv X AA σ H s)(h:SqT X.K H a xs):∃ its:List Value,Vals xs its/\IsTup s.heap a its.toArray/\xs.length<=sizeLine:=by
 rcases h with h | ⟨o,its,n,hk,hc,hs,hz,r⟩
 ·obtain⟨z,its,r,p⟩:=h.ok I.hok
  exact⟨its,r,p,z⟩
 ·refine⟨its.toList,r,⟨o,I.kIn a o hk,hc,n,by simpa using hs⟩,?_⟩
  have e:=r.length
  simp only[Array.length_toList]at e
  omega
theorem Inv.list_inj(I:Inv X AA σ H s)(h:SqL X.K H a xs)(h':SqL X.K H a ys):xs=ys:=by
 obtain⟨its,r,⟨o,n,e,_,_,d⟩,_⟩:=I.list h
 obtain⟨its',r',⟨o',n',e',_,_,d'⟩,_⟩:=I.list h'
 rw[e]at e';cases e'
 rw[d]at d'
 injection d' with d1 _
 have:its=its':=by simpa using congrArg Array.toList d1
 subst this
 exact r.inj r'
theorem Inv.tuple_inj(I:Inv X AA σ H s)(h:SqT X.K H a xs)(h':SqT X.K H a ys):xs=ys:=by
 obtain⟨its,r,⟨o,e,_,n,d⟩,_⟩:=I.tuple h
 obtain⟨its',r',⟨o',e',_,n',d'⟩,_⟩:=I.tuple h'
 rw[e]at e';cases e'
 rw[d]at d'
 injection d' with d1 _
 have:its=its':=by simpa using congrArg Array.toList d1
 subst this
 exact r.inj r'
end
section
variable{X:Cx}{AA:List (Addr × Obj)}{σ:St}{H:Hp}{s:Shared}{E:Value->Shared->Prop}
end
section
variable{X:Cx}{st:Stmt}{rest:List Stmt}{t u:TS}{e:Expr}{te:TE}{pos:Pos}
def CQ:TS:=λD σ H=>D.nx σ H
def AK(t u:TS):TS:=λD σ H=>t { D with nx:=u D } σ H
theorem CZ:FZ X [] CQ:=λ_ _ σ H _ I h=>wpAny_execs_nil ⟨σ,H,I,h⟩
theorem AM(h1:PS X st t)(h2:FZ X rest u):FZ X (st::rest) (AK t u):=by
 intro AA s σ H D I h
 refine wpAny_execs_cons (AS (h1 AA s σ H { D with nx:=u D } I h) λf s1 q=> ?_)
 cases f with
 | next =>
  obtain⟨σ',H',I',q⟩:=q
  exact h2 AA s1 σ' H' D I' q
 | ret v=>exact q
 | brk=>exact q
 | cont=>exact q
theorem AL(h1:PS X st t):FZ X [st] t:=by
 intro AA s σ H D I h
 refine wpAny_execs_cons (AS (h1 AA s σ H D I h) λf s1 q=> ?_)
 cases f with
 | next=>exact wpAny_execs_nil q
 | ret v=>exact q
 | brk=>exact q
 | cont=>exact q
def R8:TS:=λD σ H=>D.ct σ H
theorem tT:PS X (.Continue pos) R8:=λ_ _ σ H _ I h=>wpAny_Continue ⟨σ,H,I,h⟩
theorem Inv.quiet{AA:List (Addr × Obj)}{σ:St}{H:Hp}{s:Shared}(I:Inv X AA σ H s):interactive X.env=false:=by simp[interactive,I.ok.kind]
def C5(te:TE):TS:=λD σ H=>te σ H λ_ H1=>D.nx σ H1
theorem C9(he:PE X e te)(hs:swapsWith e none pos.line X.env=pure false:=by rfl):PS X (.Expr e pos) (C5 te):=by
 intro AA s σ H D I h
 exact wpAny_Expr_any (AS (he AA s σ H _ I h) λv s1 ⟨x,H1,I1,r1,q1⟩=>⟨σ,H1,I1,q1⟩) I.quiet hs
def BF(te:TE):TS:=λD σ H=>te σ H D.rt
theorem BH(he:PE X e te):PS X (.Return (some e) pos) (BF te):=by
 intro AA s σ H D I h
 exact wpAny_Return_some (AS (he AA s σ H _ I h) λv s1 ⟨x,H1,I1,r1,q1⟩=>⟨x,σ,H1,I1,r1,q1⟩)
def B1(c:TT)(t u:TS):TS:=λD σ H=>c σ H λb H1=>if b=true then t D σ H1 else u D σ H1
theorem CC{c:Expr}{a b:List Stmt}{tc:TT}(hc:PT X c tc)(ha:FZ X a t)(hb:FZ X b u):PS X (.If c a b pos) (B1 tc t u):=by
 intro AA s σ H D I h
 refine wpAny_If (AS (hc AA s σ H _ I h) λd s1 hzz=> ?_)
 obtain⟨H1,I1,q1⟩:=hzz
 cases d with
 | true=>exact ha AA s1 σ H1 D I1 q1
 | false=>exact hb AA s1 σ H1 D I1 q1
end
abbrev TG:=V->St->Hp->(St->Hp->Prop)->Prop
abbrev JV:=List V->St->Hp->(St->Hp->Prop)->Prop
def PG(X:Cx)(target:Expr)(t:TG):Prop :=
 ∀ (AA:List (Addr × Obj)) (s:Shared) (σ:St) (H:Hp) (v:V) (u:Value) (Q:St->Hp->Prop),Inv X AA σ H s->RelV v u->t v σ H Q →
  wpAny (model X.prog X.w) X.A (assign target X.env u) (λ_ s'=>∃ σ' H',Inv X AA σ' H' s'/\Q σ' H') X.xe s
def OH(X:Cx)(ts:List Expr)(t:JV):Prop :=
 ∀ (AA:List (Addr × Obj)) (s:Shared) (σ:St) (H:Hp) (vs:List V) (us:List Value) (Q:St->Hp->Prop),Inv X AA σ H s->Vals vs us->t vs σ H Q →
  wpAny (model X.prog X.w) X.A (assignInOrder ((assignEach ts X.env).map (·.2)) us) (λ_ s'=>∃ σ' H',Inv X AA σ' H' s'/\Q σ' H') X.xe s
abbrev OI:=V->V->V->Hp->(Hp->Prop)->Prop
def R9(X:Cx)(t:OI):Prop :=
 ∀ (AA:List (Addr × Obj)) (s:Shared) (σ:St) (H:Hp) (o i v:V) (ov iv u:Value) (Q:Hp->Prop),Inv X AA σ H s->RelV o ov->RelV i iv->RelV v u->t o i v H Q →
  wpAny (model X.prog X.w) X.A (setItem ov iv u) (λ_ s'=>∃ H',Inv X AA σ H' s'/\Q H') X.xe s
abbrev a0:=V->V->Hp->VK->Prop
section
variable{X:Cx}{pos:Pos}
def AN(i:Nat):TG:=λv σ H Q=>Q (σ.set i (some v)) H
theorem tU{i:Nat}{x:Str}(hN:X.N.Nodup)(hi:X.N[i]? =some x)(hx:LG X.env.scope x)(hf:X.fn x=true\/X.env.scope.names.lookup x=some .local:=by first | exact .inl rfl | exact .inr rfl | assumption):PG X (.Name x pos) (AN i):=by
 intro AA s σ H v u Q I r h
 exact wpAny_assign_Name (aZ I hN hi hx r (λs' I'=>⟨_,H,I',h⟩) hf)
def OJ:JV:=λvs σ H Q=>vs=[]/\Q σ H
def LI(t:TG)(u:JV):JV:=λvs σ H Q=>∃ v r,vs=v::r/\t v σ H λσ' H'=>u r σ' H' Q
theorem bA:OH X [] OJ:=by
 intro AA s σ H vs us Q I r h
 obtain⟨e,h⟩:=h
 subst e
 cases r
 exact assignInOrder_nil ⟨σ,H,I,h⟩
theorem OK{e:Expr}{es:List Expr}{t:TG}{u:JV}(h1:PG X e t)(h2:OH X es u)
  (hs:(assignEach (e::es) X.env).map (·.2)=assign e X.env::(assignEach es X.env).map (·.2):=by rfl):OH X (e::es) (LI t u):=by
 intro AA s σ H vs us Q I r h
 obtain⟨v,vr,e1,h⟩:=h
 subst e1
 cases r with
 | cons r rr =>
  rw[hs]
  refine assignInOrder_cons (AS (h1 AA s σ H _ _ _ I r h) λ_ s1 hzz=> ?_)
  obtain⟨σ1,H1,I1,q1⟩:=hzz
  exact h2 AA s1 σ1 H1 _ _ Q I1 rr q1
def OL(K:W.Frag)(n:Nat)(t:JV):TG:=λv σ H Q=>∃ a xs,v=.ref a/\SqT K H a xs/\xs.length=n/\t xs σ H Q
theorem bB{es:List Expr}{k:Nat}{t:JV}{n:Nat}(hc:X.calm=true)(h:OH X es t)
  (hn:(assignEach es X.env).length=n:=by rfl) (hst:(assignEach es X.env).findIdx? (·.1)=none:=by rfl):PG X (.Tuple es k pos) (OL X.K n t):=by
 intro AA s σ H v u Q I r hw
 obtain⟨a,xs,e1,hq,hl,hw⟩:=hw
 subst e1
 cases r
 obtain⟨its,rv,ht,hz⟩:=I.tuple hq
 refine assign_Tuple_tuple (I.ok.hd hc) ht (by simp[hn,<-hl,rv.length]) hst λh' hx=> ?_
 have I1:Inv X AA σ H { s with heap:=h' }:=I.kept (t':=s.toks) λb o e=>hx b o (Nat.ne_of_lt (Heap.lt_size e)) e
 exact h AA _ σ H xs _ Q I1 (by simpa using rv) hw
def OM(to ti:TE)(t:OI):TG:=λv σ H Q=>to σ H λo H1=>ti σ H1 λi H2=>t o i v H2 λH3=>Q σ H3
theorem bC{o i:Expr}{to ti:TE}{t:OI}(ho:PE X o to)(hi:PE X i ti)(hs:R9 X t)
  (ha:∀ v,assign (.Subscript o i pos) X.env v=(do
   let ov ← holding [v] (eval o X.env)
   let iv ← holding [v,ov] (eval i X.env)
   standAt pos
   holding [v,ov,iv] (setItem ov iv v)
   release [v,ov,iv] []):=by intro _;rfl):PG X (.Subscript o i pos) (OM to ti t):=by
 intro AA s σ H v u Q I r h
 rw[ha]
 refine wpAny_bind (wpAny_holding (AS (ho AA s σ H _ I h) λov s1 hzz=> ?_))
 obtain⟨x,H1,I1,r1,q1⟩:=hzz
 refine wpAny_bind (wpAny_holding (AS (hi AA s1 σ H1 _ I1 q1) λiv s2 hzz=> ?_))
 obtain⟨y,H2,I2,r2,q2⟩:=hzz
 refine wpAny_bind (wpAny_standAt (wpAny_bind (wpAny_holding (AS (hs AA s2 σ H2 x y v ov iv u _ I2 r1 r2 r q2) λ_ s3 hzz=> ?_))))
 obtain⟨H3,I3,q3⟩:=hzz
 exact wpAny_release ⟨σ,H3,I3,q3⟩
def A0(te:TE)(g:TG):TS:=λD σ H=>te σ H λx H1=>g x σ H1 D.nx
theorem bD{tg e:Expr}{te:TE}{g:TG}(he:PE X e te)(hg:PG X tg g)(hs:swapsWithSole [tg] e pos.line X.env=pure false:=by rfl)(hw:swappedStores [tg] e X.env=pure none:=by rfl)
  (h1:(assignEach [tg] X.env).map (·.2)=[assign tg X.env]:=by rfl):PS X (.Assign [tg] e pos) (A0 te g):=by
 intro AA s σ H D I h
 refine wpAny_Assign_stores (AS (he AA s σ H _ I h) λv s1 hzz=> ?_) hs hw
 obtain⟨x,H1,I1,r1,q1⟩:=hzz
 rw[h1]
 exact AS (hg AA s1 σ H1 x v _ I1 r1 q1) λ_ s2 q=>q
theorem M5{i:Nat}{x:Str}{e:Expr}{te:TE}{pos':Pos}(hN:X.N.Nodup)(hi:X.N[i]? =some x)(hx:LG X.env.scope x)(he:PE X e te)(hs:swapsWith e (some (.Name x pos')) pos.line X.env=pure false:=by rfl)(hf:X.fn x=true\/X.env.scope.names.lookup x=some .local:=by first | exact .inl rfl | exact .inr rfl | assumption) :
  PS X (.Assign [.Name x pos'] e pos) (A0 te (AN i)):=by
 intro AA s σ H D I h
 refine wpAny_Assign_Name (AS (he AA s σ H _ I h) λv s1 hzz=> ?_) hs
 obtain⟨y,H1,I1,r1,q1⟩:=hzz
 exact aZ I1 hN hi hx r1 (λs2 I2=>⟨_,H1,I2,q1⟩) hf
def tV(f:Int->Int->Int):a0:=λx y H Q=>∃ i j,x=.int i/\y=.int j/\Q (.int (f i j)) H
end
section
variable{X:Cx}{pos:Pos}
end
structure It where
 go:Nat->Hp->Prop
 yld:Nat->Hp->V->Hp->Prop
 stop:Nat->Hp->Prop
def FpOk(X:Cx)(AA:List (Addr × Obj))(H:Hp)(b:Addr):Prop :=
 H b=none/\b≠X.env.locals/\b∉X.fs/\(b∈X.ex\/X.s₀.heap.objs.size<=b)/\(∀ x c,X.env.cells.lookup x=some c->c≠b)/\∀ p∈X.pn++AA,p.1≠b
theorem Inv.fpOk{X:Cx}{AA:List (Addr × Obj)}{σ:St}{H H':Hp}{s:Shared}{b:Addr}(I:Inv X AA σ H s)(hb:s.heap.objs.size<=b)(hn:H' b=none):FpOk X AA H' b:=by
 refine⟨hn,Nat.ne_of_gt (Nat.lt_of_lt_of_le I.lt hb),I.nofs hb,.inr (Nat.le_trans I.sz hb),λx c e z=> ?_,λp hp z=> ?_⟩
 ·obtain⟨v,q⟩:=I.cell x c e
  exact absurd (Nat.lt_of_lt_of_le q.lt (by rw[z];exact hb)) (Nat.lt_irrefl _)
 ·exact absurd (Nat.lt_of_lt_of_le (Heap.lt_size (I.pin p hp).1) (by rw[z];exact hb)) (Nat.lt_irrefl _)
structure JW(P:Program)(w:World)(K:W.Frag)(tg:Expr)(J:It)(fp:List Addr)(it:Addr)(tn:Nat->Heap->Prop):Prop where
 mem:it∈fp
 obj:∀ i h,tn i h->∀ b∈fp,∃ o,h.get? b=some o/\∀ v,o.data≠.cell v
 keep:∀ i h h',tn i h->(∀ b∈fp,∀ o,h.get? b=some o->h'.get? b=some o)->tn i h'
 item:∀ (X:Cx),X.prog=P->X.w=w->X.K=K->X.calm=true->∀ (i:Nat) (AA:List (Addr × Obj)) (s:Shared) (σ:St) (H:Hp) (E:Value->Shared->Prop),Inv X AA σ H s->(∀ b∈fp,FpOk X AA H b)->tn i s.heap->J.go i H →
  wpAny (model P w) X.A (pyNext (.ref it)) (λr s1=>∃ u,r=some u ∧
   wpAny (model P w) X.A (letOwnedTupleGo tg (.ref it) u) (λ_ s2=>∃ x H',Inv X AA σ H' s2/\RelV x u/\J.yld i H x H'/\tn (i+1) s2.heap/\∀ b∈fp,H' b=none) E s1) E s
 done:∀ (X:Cx),X.prog=P->X.w=w->X.K=K->X.calm=true->∀ (i:Nat) (AA:List (Addr × Obj)) (s:Shared) (σ:St) (H:Hp) (E:Value->Shared->Prop),Inv X AA σ H s->(∀ b∈fp,FpOk X AA H b)->tn i s.heap->J.stop i H →
  wpAny (model P w) X.A (pyNext (.ref it)) (λr s1=>r=none/\Inv X AA σ H s1) E s
 self:∀ (A:Around) (i:Nat) (s:Shared) (Q:Value->Shared->Prop) (E:Value->Shared->Prop),tn i s.heap->Q (.ref it) s->wpAny (model P w) A (pyIter (.ref it)) Q E s
abbrev TI:=St->Hp->(It->Hp->Prop)->Prop
def SB(X:Cx)(AA:List (Addr × Obj))(σ:St)(tg:Expr)(R:It->Hp->Prop)(itv:Value)(s2:Shared):Prop :=
 ∃ (it:Addr) (fp:List Addr) (tn:Nat->Heap->Prop) (J:It) (H':Hp),itv=.ref it/\Inv X AA σ H' s2/\JW X.prog X.w X.K tg J fp it tn/\tn 0 s2.heap/\(∀ b∈fp,FpOk X AA H' b)/\R J H'
def PI(X:Cx)(tg iter:Expr)(wi:TI):Prop :=
 ∀ (AA:List (Addr × Obj)) (s:Shared) (σ:St) (H:Hp) (R:It->Hp->Prop),Inv X AA σ H s->wi σ H R →
  wpAny (model X.prog X.w) X.A (eval iter X.env) (λv s1=>wpAny (model X.prog X.w) X.A (pyIter v) (SB X AA σ tg R) X.xe s1) X.xe s
theorem M6{M:Model}{A:Around}{E:Value->Shared->Prop}{s:Shared}{tg:Expr}{it:Addr}{u:Value}{o:Obj}{n:String}{vs:Array Value}{Q:Unit->Shared->Prop}(ho:s.heap.get? it=some o)(hc:o.cls=.type n)(hd:o.data=.fields vs)
    (hn:["enumerate","zip","dict_itemiterator","dict_reverseitemiterator","odict_iterator","itertools.zip_longest","itertools.pairwise"].contains n=false) (hQ:Q () s):wpAny M A (letOwnedTupleGo tg (.ref it) u) Q E s:=by
  unfold letOwnedTupleGo
  cases tg<;>first
    | exact wpAny_pure hQ
    | (cases u<;>first
        | exact wpAny_pure hQ
        | (refine wpAny_bind (wpAny_load ho ?_)
           rw[hc,hd]
           show wpAny M A (if(["enumerate","zip","dict_itemiterator","dict_reverseitemiterator","odict_iterator","itertools.zip_longest","itertools.pairwise"].contains n && vs[0]? == some (rawInt _))=true then _ else _) Q E s
           rw[if_neg (by intro h;rw[hn,Bool.false_and]at h;cases h)]
           exact wpAny_pure hQ))
def IS(K:W.Frag)(a:Addr):It :=
 ⟨λi H=>∃ xs x,SqL K H a xs/\xs[i]? =some x,λi H x H'=>H'=H/\∀ xs,SqL K H a xs->xs[i]? =some x,λi H=>∃ xs,SqL K H a xs/\xs.length<=i⟩
def IT(K:W.Frag)(a:Addr):It :=
 ⟨λi H=>∃ xs x,SqT K H a xs/\xs[i]? =some x,λi H x H'=>H'=H/\∀ xs,SqT K H a xs->xs[i]? =some x,λi H=>∃ xs,SqT K H a xs/\xs.length<=i⟩
def HD(lo:Int)(n:Nat):It:=⟨λi _=>i<n,λi H x H'=>H'=H/\x=.int (lo+i),λi _=>n<=i⟩
theorem tW{P:Program}{w:World}{K:W.Frag}{tg:Expr}(a it:Addr):JW P w K tg (IS K a) [it] it (λi h=>h.IsListIter it a i) where
 mem:=by simp
 obj:=λi h st b hb=>by
  have e:b=it:=by simpa using hb
  subst e
  obtain⟨o,e,c,d⟩:=st
  exact⟨o,e,λv z=>by rw[d]at z;cases z⟩
 keep:=λi h h' st k=>st.at λo e=>k it (by simp) o e
 item:=by
  intro X hP hw hK hc i AA s σ H E I hf st hg
  subst hP hw hK
  obtain⟨xs,x,hq,hx⟩:=hg
  obtain⟨its,rv,p,hz⟩:=I.list hq
  obtain⟨u,hu,ru⟩:=rv.get hx
  obtain⟨f0,f1,f2,f3,f4,f5⟩:=hf it (by simp)
  refine wpAny_pyNext_list_item st p.isList (x:=u) (by simpa using hu) λh' st' sb=> ?_
  have I1:Inv X AA σ H { s with heap:=h' }:=I.turned (t':=s.toks) (λb o hb e=>(sb.2 b hb).trans e) f0 f1 f3 f4 f5
  obtain⟨o,e,c,d⟩:=id st'
  exact⟨u,rfl,M6 (s:={ s with heap:=h' }) e c d (by decide) ⟨x,H,I1,ru,⟨rfl,λys hy=>by rw[I.list_inj hy hq];exact hx⟩,st',λb hb=>(hf b hb).1⟩⟩
 done:=by
  intro X hP hw hK hc i AA s σ H E I hf st hg
  subst hP hw hK
  obtain⟨xs,hq,hx⟩:=hg
  obtain⟨its,rv,p,hz⟩:=I.list hq
  obtain⟨f0,f1,f2,f3,f4,f5⟩:=hf it (by simp)
  have hl:=rv.length
  exact wpAny_pyNext_list_end (I.ok.hd hc) st p.isList (by simp;omega) λh' eb=>⟨rfl,I.turned (t':=s.toks) (λb o hb e=>eb b o hb e) f0 f1 f3 f4 f5⟩
 self:=λ_ _ _ _ _ st h=>wpAny_pyIter_listiter st h
theorem tX{P:Program}{w:World}{K:W.Frag}{tg:Expr}(a it:Addr):JW P w K tg (IT K a) [it] it (λi h=>h.IsTupleIter it a i) where
 mem:=by simp
 obj:=λi h st b hb=>by
  have e:b=it:=by simpa using hb
  subst e
  obtain⟨o,e,c,d⟩:=st
  exact⟨o,e,λv z=>by rw[d]at z;cases z⟩
 keep:=λi h h' st k=>st.at λo e=>k it (by simp) o e
 item:=by
  intro X hP hw hK hc i AA s σ H E I hf st hg
  subst hP hw hK
  obtain⟨xs,x,hq,hx⟩:=hg
  obtain⟨its,rv,p,hz⟩:=I.tuple hq
  obtain⟨u,hu,ru⟩:=rv.get hx
  obtain⟨f0,f1,f2,f3,f4,f5⟩:=hf it (by simp)
  refine wpAny_pyNext_tuple_item st (show s.heap.IsTuple a its.toArray from p) (x:=u) (by simpa using hu) λh' st' sb=> ?_
  have I1:Inv X AA σ H { s with heap:=h' }:=I.turned (t':=s.toks) (λb o hb e=>(sb.2 b hb).trans e) f0 f1 f3 f4 f5
  obtain⟨o,e,c,d⟩:=id st'
  exact⟨u,rfl,M6 (s:={ s with heap:=h' }) e c d (by decide) ⟨x,H,I1,ru,⟨rfl,λys hy=>by rw[I.tuple_inj hy hq];exact hx⟩,st',λb hb=>(hf b hb).1⟩⟩
 done:=by
  intro X hP hw hK hc i AA s σ H E I hf st hg
  subst hP hw hK
  obtain⟨xs,hq,hx⟩:=hg
  obtain⟨its,rv,p,hz⟩:=I.tuple hq
  obtain⟨f0,f1,f2,f3,f4,f5⟩:=hf it (by simp)
  have hl:=rv.length
  exact wpAny_pyNext_tuple_end (I.ok.hd hc) st (show s.heap.IsTuple a its.toArray from p) (by simp;omega) λh' eb=>⟨rfl,I.turned (t':=s.toks) (λb o hb e=>eb b o hb e) f0 f1 f3 f4 f5⟩
 self:=λ_ _ _ _ _ st h=>wpAny_pyIter_tupleiter st h
theorem tY{P:Program}{w:World}{K:PySem.W.Frag}{tg:Expr}(it:Addr)(lo:Int)(n:Nat):JW P w K tg (HD lo n) [it] it (λi h=>IsRangeIter h it (lo+(i:Nat) * 1) ((n:Int) - (i:Nat)) 1) where
 mem:=by simp
 obj:=λi h st b hb=>by
  have e:b=it:=by simpa using hb
  subst e
  exact⟨_,st,λv z=>by
   have z':Data.fields _=Data.cell v:=z
   cases z'⟩
 keep:=λi h h' st k=>k it (by simp) _ st
 item:=by
  intro X hP hw hK hc i AA s σ H E I hf st hg
  subst hP hw hK
  obtain⟨f0,f1,f2,f3,f4,f5⟩:=hf it (by simp)
  have W:=Walks.range (prog:=X.prog) (w:=X.w) (I.ok.hd hc) it lo 1 n
  refine W.item i s _ _ hg st λv h' tk hv st' kk=> ?_
  obtain⟨t,rfl⟩:=hv
  have I1:Inv X AA σ H { s with heap:=h',toks:=tk }:=I.turned (λb o hb e=>kk b o (by simpa using hb) e) f0 f1 f3 f4 f5
  refine⟨_,rfl,M6 (s:={ s with heap:=h',toks:=tk }) (n:="range_iterator") st' rfl rfl (by decide) ⟨.int (lo+i),H,I1,⟨t,?_⟩,⟨rfl,rfl⟩,st',λb hb=>(hf b hb).1⟩⟩
  rw[Int.mul_one]
 done:=by
  intro X hP hw hK hc i AA s σ H E I hf st hg
  subst hP hw hK
  obtain⟨f0,f1,f2,f3,f4,f5⟩:=hf it (by simp)
  exact wpAny_pyNext_range_end (I.ok.hd hc) st (by have:n<=i:=hg;omega) λh' eb=>⟨rfl,I.turned (t':=s.toks) (λb o hb e=>eb b o hb e) f0 f1 f3 f4 f5⟩
 self:=λ_ _ _ _ _ st h=>wpAny_pyIter_rangeiter st h
end L2
namespace L2
section
variable{X:Cx}{tg:Expr}
theorem tZ{AA:List (Addr × Obj)}{σ:St}{H:Hp}{s:Shared}{R:It->Hp->Prop}{E:Value->Shared->Prop}{lo hi:Int}{t u v:Tok}{tk:Nat}(I:Inv X AA σ H s)(h1: -(2 ^ 62)<=lo)(h2:lo<2 ^ 62)(h3: -(2 ^ 62)<=hi)(h4:hi<2 ^ 62)
  (q:R (HD lo (hi - lo).toNat) H):wpAny (model X.prog X.w) X.A (pyIter (.ref s.heap.objs.size)) (SB X AA σ tg R) E { s with heap:=s.heap.push { cls:=.type "range",data:=.fields #[.int lo t,.int hi u,.int 1 v] },toks:=tk }:=by
 refine wpAny_pyIter_range (IsRange.new ..) (small_one h1 h2 h3 h4) ?_
 have I1:Inv X AA σ H { s with heap:=s.heap.push { cls:=.type "range",data:=.fields #[.int lo t,.int hi u,.int 1 v] },toks:=tk }:=I.kept λb o e=>Heap.get?_push_of_some _ e
 refine⟨(s.heap.push { cls:=.type "range",data:=.fields #[.int lo t,.int hi u,.int 1 v] }).objs.size,[(s.heap.push { cls:=.type "range",data:=.fields #[.int lo t,.int hi u,.int 1 v] }).objs.size],_,_,H,rfl,
  I1.kept (t':=tk) λb o e=>Heap.get?_push_of_some _ e,tY _ lo (hi - lo).toNat,?_,λb hb=> ?_,q⟩
 ·have e1:lo+((0:Nat):Int) * 1=lo:=by simp
  have e2:(((hi - lo).toNat:Nat):Int) - ((0:Nat):Int)=Builtin.Range.rangeSize lo hi 1:=by rw[rangeSize_one];split<;>omega
  show IsRangeIter _ _ (lo+((0:Nat):Int) * 1) ((((hi - lo).toNat:Nat):Int) - ((0:Nat):Int)) 1
  rw[e1,e2]
  exact Heap.get?_push_size _ rfl
 ·have e:b=(s.heap.push { cls:=.type "range",data:=.fields #[.int lo t,.int hi u,.int 1 v] }).objs.size:=by simpa using hb
  subst e
  exact I1.fpOk (Nat.le_refl _) (I1.hok.fresh (Nat.le_refl _))
def FM(ta:TA):TI:=λσ H R=>ta σ H λvs H1=>∃ j:Int,vs=[.int j]/\ -(2 ^ 62)<=j/\j<2 ^ 62/\R (HD 0 j.toNat) H1
theorem GK{a:Expr}{ta:TA}{p pos:Pos}(hg:Gl X "range")(hm:X.mg "range"=none)(ha:PA X [a] ta)(hs:starEach [a] X.env=[(false,eval a X.env)]:=by rfl):PI X tg (.Call (.Name "range" p) [a] [] pos) (FM ta):=by
 intro AA s σ H R I h
 refine Call_ (OF I hg hm boot_range (PyProof.Rows.callWith_type1 (AS (ha pos AA s σ H _ I h) λus s1 hzz=> ?_) hs rfl))
 obtain⟨vs,H1,I1,r1,q1⟩:=hzz
 obtain⟨j,e,q1,q2,q⟩:=q1
 subst e
 cases r1 with
 | cons r rr =>
  cases rr
  obtain⟨t,rfl⟩:=r
  exact call_range_1 (tZ I1 (by omega) (by omega) q1 q2 (by simpa using q))
def EH(wi:TI)(g:TG)(tb:TS):TS:=λD σ H=>wi σ H λJ H1=>∃ W:Nat->Nat->St->Hp->Prop,(∃ m,W 0 m σ H1)/\∀ i m σ H,W i m σ H →
 (J.stop i H/\D.nx σ H)\/(J.go i H/\∃ N:St->Hp->Prop,(∀ σ' H',N σ' H'->∃ m',m'<m/\W (i+1) m' σ' H')/\∀ x H',J.yld i H x H'->g x σ H' λσ2 H2=>tb { D with nx:=N,ct:=N,bk:=D.nx } σ2 H2)
def LJ(fp:List Addr)(h:Heap):List (Addr × Obj):=fp.filterMap λb=>(h.get? b).map λo=>(b,o)
theorem LK{fp:List Addr}{h:Heap}{b:Addr}{o:Obj}(hb:b∈fp)(e:h.get? b=some o):(b,o)∈LJ fp h:=List.mem_filterMap.mpr ⟨b,hb,by rw[e];rfl⟩
theorem t5{fp:List Addr}{h:Heap}{p:Addr × Obj}(hp:p∈LJ fp h):p.1∈fp/\h.get? p.1=some p.2:=by
 obtain⟨b,hb,e⟩:=List.mem_filterMap.mp hp
 cases q:h.get? b with
 | none=>rw[q]at e;cases e
 | some o =>
  rw[q]at e
  have e':(b,o)=p:=Option.some.inj e
  subst e'
  exact⟨hb,q⟩
theorem Inv.pinned{AA:List (Addr × Obj)}{σ:St}{H:Hp}{s:Shared}{fp:List Addr}(I:Inv X AA σ H s)(hf:∀ b∈fp,FpOk X AA H b)(ho:∀ b∈fp,∃ o,s.heap.get? b=some o/\∀ v,o.data≠.cell v):Inv X (AA++LJ fp s.heap) σ H s :=
 I.pins_of λp hp=>(List.mem_append.mp hp).elim (λz=>I.pin p (List.mem_append_right _ z)) λz=>by
  obtain⟨hb,e⟩:=t5 z
  obtain⟨f0,f1,f2,_⟩:=hf p.1 hb
  obtain⟨o,e',d⟩:=ho p.1 hb
  rw[e]at e';cases e'
  exact⟨e,f0,f1,f2,d⟩
theorem Inv.unpinned{AA pl:List (Addr × Obj)}{σ:St}{H:Hp}{s:Shared}(I:Inv X (AA++pl) σ H s):Inv X AA σ H s:=I.pins_of λp hp=>I.pin p (List.mem_append_right _ (List.mem_append_left _ hp))
theorem FN{iter:Expr}{body:List Stmt}{wi:TI}{g:TG}{tb:TS}{pos:Pos}(hp:PassesOwn (model X.prog X.w) X.A X.env X.xe)(hc:X.calm=true)(hi:PI X tg iter wi)(hg:PG X tg g)(hb:FZ X body tb)
  (hs:∀ x,foldedSetIterable iter X.env x=pure x:=by intro _;rfl):PS X (.For tg iter body [] pos) (EH wi g tb):=by
 intro AA s σ H D I h
 refine wpAny_For (AS (hi AA s σ H _ I h) λv s1 h1=>AS h1 λitv s2 h2=> ?_) hs
 obtain⟨it,fp,tn,J,H2,e,I2,T,st2,f2,W,⟨m0,w0⟩,turn⟩:=h2
 subst e
 have stat:∀ {H':Hp},(∀ b∈fp,H' b=none)->∀ b∈fp,FpOk X AA H' b:=λhn b hb=>⟨hn b hb,(f2 b hb).2⟩
 refine codeAny_forLoop_any (λn s'=>∃ i σ' H',Inv X AA σ' H' s'/\tn i s'.heap/\(∀ b∈fp,H' b=none)/\W i n σ' H') ?_ m0 ⟨0,σ,H2,I2,st2,λb hb=>(f2 b hb).1,w0⟩
 rintro n s3 ⟨i,σ3,H3,I3,st3,fr3,w3⟩
 rcases turn i n σ3 H3 w3 with⟨stop,qn⟩ | ⟨go,N,hN,step⟩
 ·refine wpAny_passesOwn hp (AS (T.done X rfl rfl rfl hc i AA s3 σ3 H3 X.xe I3 (stat fr3) st3 stop) λr s4 ⟨hr,I4⟩=> ?_)
  subst hr
  exact wpAny_execs_nil ⟨σ3,H3,I4,qn⟩
 ·refine wpAny_passesOwn hp (AS (T.item X rfl rfl rfl hc i AA s3 σ3 H3 X.xe I3 (stat fr3) st3 go) λr s4 hzz=> ?_)
  obtain⟨u,hr,h4⟩:=hzz
  subst hr
  refine wpAny_passesOwn hp (AS h4 λ_ s5 hzz=> ?_)
  obtain⟨x,H5,I5,r5,y5,st5,fr5⟩:=hzz
  have I5':=I5.pinned (stat fr5) (T.obj _ _ st5)
  refine wpAny_passesOwn hp (AS (hg _ s5 σ3 H5 x u _ I5' r5 (step x H5 y5)) λ_ s6 hzz=> ?_)
  obtain⟨σ6,H6,I6,q6⟩:=hzz
  refine wpAny_passesOwn hp (AS (hb _ s6 σ6 H6 _ I6 q6) λf s7 q7=> ?_)
  have again:∀ {σ7:St} {H7:Hp},Inv X (AA++LJ fp s5.heap) σ7 H7 s7->N σ7 H7->∃ m,m<n/\∃ i σ' H',Inv X AA σ' H' s7/\tn i s7.heap/\(∀ b∈fp,H' b=none)/\W i m σ' H':=λ{σ7 H7} I7 n7=>by
   obtain⟨m',hm,w7⟩:=hN σ7 H7 n7
   refine⟨m',hm,i+1,σ7,H7,I7.unpinned,T.keep _ _ _ st5 λb hb o e=>(I7.pin (b,o) (List.mem_append_right _ (List.mem_append_right _ (LK hb e)))).1,λb hb=> ?_,w7⟩
   obtain⟨o,e,d⟩:=T.obj _ _ st5 b hb
   exact(I7.pin (b,o) (List.mem_append_right _ (List.mem_append_right _ (LK hb e)))).2.1
  cases f with
  | next=>obtain⟨σ7,H7,I7,n7⟩:=q7;exact again I7 n7
  | cont=>obtain⟨σ7,H7,I7,n7⟩:=q7;exact again I7 n7
  | brk=>obtain⟨σ7,H7,I7,q7⟩:=q7;exact⟨σ7,H7,I7.unpinned,q7⟩
  | ret v=>obtain⟨x7,σ7,H7,I7,r7,q7⟩:=q7;exact⟨x7,σ7,H7,I7.unpinned,r7,q7⟩
end
theorem t7{K:PySem.W.Frag}{a:Addr}{xs:List V}{g:TG}{tb:TS}{D:Ends}{σ:St}{H:Hp}(Pv:Nat->St->Hp->Prop)(h0:Pv 0 σ H)(hl:∀ i σ H,i<=xs.length->Pv i σ H->SqL K H a xs)
  (hs:∀ i x σ H,xs[i]? =some x->Pv i σ H->g x σ H λσ2 H2=>tb { D with nx:=Pv (i+1),ct:=Pv (i+1),bk:=D.nx } σ2 H2) (hd:∀ σ H,Pv xs.length σ H->D.nx σ H) :
  ∃ W:Nat->Nat->St->Hp->Prop,(∃ m,W 0 m σ H)/\∀ i m σ H,W i m σ H →
   ((IS K a).stop i H/\D.nx σ H)\/((IS K a).go i H/\∃ N:St->Hp->Prop,(∀ σ' H',N σ' H'->∃ m',m'<m/\W (i+1) m' σ' H')/\∀ x H',(IS K a).yld i H x H'->g x σ H' λσ2 H2=>tb { D with nx:=N,ct:=N,bk:=D.nx } σ2 H2):=by
 refine⟨λi m σ H=>m=xs.length - i/\i<=xs.length/\Pv i σ H,⟨xs.length,by simp,Nat.zero_le _,h0⟩,?_⟩
 rintro i m σ H ⟨rfl,hi,p⟩
 have q:=hl i σ H hi p
 by_cases BK:i<xs.length
 ·refine .inr ⟨⟨xs,xs[i],q,by simp[BK]⟩,Pv (i+1),λσ' H' p'=>⟨xs.length - (i+1),by omega,rfl,BK,p'⟩,λx H' y=> ?_⟩
  obtain⟨e,y⟩:=y
  subst e
  exact hs i x σ _ (y xs q) p
 ·have e:i=xs.length:=by omega
  subst e
  exact .inl ⟨⟨xs,q,Nat.le_refl _⟩,hd σ H p⟩
theorem t8{K:PySem.W.Frag}{a:Addr}{xs:List V}{g:TG}{tb:TS}{D:Ends}{σ:St}{H:Hp}(Pv:Nat->St->Hp->Prop)(h0:Pv 0 σ H)(hl:∀ i σ H,i<=xs.length->Pv i σ H->SqT K H a xs)
  (hs:∀ i x σ H,xs[i]? =some x->Pv i σ H->g x σ H λσ2 H2=>tb { D with nx:=Pv (i+1),ct:=Pv (i+1),bk:=D.nx } σ2 H2) (hd:∀ σ H,Pv xs.length σ H->D.nx σ H) :
  ∃ W:Nat->Nat->St->Hp->Prop,(∃ m,W 0 m σ H)/\∀ i m σ H,W i m σ H →
   ((IT K a).stop i H/\D.nx σ H)\/((IT K a).go i H/\∃ N:St->Hp->Prop,(∀ σ' H',N σ' H'->∃ m',m'<m/\W (i+1) m' σ' H')/\∀ x H',(IT K a).yld i H x H'->g x σ H' λσ2 H2=>tb { D with nx:=N,ct:=N,bk:=D.nx } σ2 H2):=by
 refine⟨λi m σ H=>m=xs.length - i/\i<=xs.length/\Pv i σ H,⟨xs.length,by simp,Nat.zero_le _,h0⟩,?_⟩
 rintro i m σ H ⟨rfl,hi,p⟩
 have q:=hl i σ H hi p
 by_cases BK:i<xs.length
 ·refine .inr ⟨⟨xs,xs[i],q,by simp[BK]⟩,Pv (i+1),λσ' H' p'=>⟨xs.length - (i+1),by omega,rfl,BK,p'⟩,λx H' y=> ?_⟩
  obtain⟨e,y⟩:=y
  subst e
  exact hs i x σ _ (y xs q) p
 ·have e:i=xs.length:=by omega
  subst e
  exact .inl ⟨⟨xs,q,Nat.le_refl _⟩,hd σ H p⟩
theorem uA{lo:Int}{n:Nat}{g:TG}{tb:TS}{D:Ends}{σ:St}{H:Hp}(Pv:Nat->St->Hp->Prop)(h0:Pv 0 σ H)
  (hs:∀ i σ H,i<n->Pv i σ H->g (.int (lo+i)) σ H λσ2 H2=>tb { D with nx:=Pv (i+1),ct:=Pv (i+1),bk:=D.nx } σ2 H2) (hd:∀ σ H,Pv n σ H->D.nx σ H) :
  ∃ W:Nat->Nat->St->Hp->Prop,(∃ m,W 0 m σ H)/\∀ i m σ H,W i m σ H →
   ((HD lo n).stop i H/\D.nx σ H)\/((HD lo n).go i H/\∃ N:St->Hp->Prop,(∀ σ' H',N σ' H'->∃ m',m'<m/\W (i+1) m' σ' H')/\∀ x H',(HD lo n).yld i H x H'->g x σ H' λσ2 H2=>tb { D with nx:=N,ct:=N,bk:=D.nx } σ2 H2):=by
 refine⟨λi m σ H=>m=n - i/\i<=n/\Pv i σ H,⟨n,by simp,Nat.zero_le _,h0⟩,?_⟩
 rintro i m σ H ⟨rfl,hi,p⟩
 by_cases BK:i<n
 ·refine .inr ⟨BK,Pv (i+1),λσ' H' p'=>⟨n - (i+1),by omega,rfl,BK,p'⟩,λx H' y=> ?_⟩
  obtain⟨e,y⟩:=y
  subst e y
  exact hs i σ _ BK p
 ·have e:i=n:=by omega
  subst e
  exact .inl ⟨Nat.le_refl _,hd σ H p⟩
end L2
namespace L2
abbrev R2:=V->V->Hp->VK->Prop
def B2(X:Cx)(f:Value->Value->Sem Value)(r:R2):Prop :=
 ∀ (AA:List (Addr × Obj)) (s:Shared) (σ:St) (H:Hp) (x y:V) (v u:Value) (Q:VK),Inv X AA σ H s->RelV x v->RelV y u->r x y H Q →
  wpAny (model X.prog X.w) X.A (f v u) (EP X AA σ Q) X.xe s
def SD(X:Cx)(f:Value->Sem Value)(r:V->Hp->VK->Prop):Prop :=
 ∀ (AA:List (Addr × Obj)) (s:Shared) (σ:St) (H:Hp) (x:V) (v:Value) (Q:VK),Inv X AA σ H s->RelV x v->r x H Q →
  wpAny (model X.prog X.w) X.A (f v) (EP X AA σ Q) X.xe s
def F1(X:Cx)(f:Value)(r:List V->Hp->VK->Prop):Prop :=
 ∀ (AA:List (Addr × Obj)) (s:Shared) (σ:St) (H:Hp) (xs:List V) (us:List Value) (Q:VK),Inv X AA σ H s->Vals xs us->r xs H Q →
  wpAny (model X.prog X.w) X.A (call f us) (EP X AA σ Q) X.xe s
def uB(X:Cx)(r:V->Hp->(Bool->Hp->Prop)->Prop):Prop :=
 ∀ (AA:List (Addr × Obj)) (s:Shared) (σ:St) (H:Hp) (x:V) (v:Value) (Q:Bool->Hp->Prop),Inv X AA σ H s->RelV x v->r x H Q →
  wpAny (model X.prog X.w) X.A (truthy v) (TP X AA σ Q) X.xe s
def AG(r:R2)(ta tb:TE):TE:=λσ H Q=>ta σ H λx H1=>tb σ H1 λy H2=>r x y H2 Q
def ON(r:V->Hp->VK->Prop)(ta:TE):TE:=λσ H Q=>ta σ H λx H1=>r x H1 Q
def rI(C:Int->Int->Prop)(g:Int->Int->V):R2:=λx y H Q=>∃ i j,x=.int i/\y=.int j/\C i j/\Q (g i j) H
def H0(g:Int->Int->V):R2:=λx y H Q=>∃ i j,x=.int i/\y=.int j/\Q (g i j) H
def rU(g:Int->V):V->Hp->VK->Prop:=λx H Q=>∃ i,x=.int i/\Q (g i) H
section
variable{X:Cx}{a b c:Expr}{ta tb tc:TE}{pos:Pos}
theorem SE(ha:PE X a ta)(hb:PE X b tb){AA:List (Addr × Obj)}{s:Shared}{σ:St}{H:Hp}{R:V->V->Hp->Prop}(I:Inv X AA σ H s)
  (h:ta σ H λx H1=>tb σ H1 λy H2=>R x y H2) {Q:Value->Shared->Prop} {f:Value->Value->Sem Value}
  (hf:∀ v u s2 x y H2,Inv X AA σ H2 s2->RelV x v->RelV y u->R x y H2->wpAny (model X.prog X.w) X.A (f v u) Q X.xe s2) :
  wpAny (model X.prog X.w) X.A (eval a X.env) (λv s₁=>wpAny (model X.prog X.w) X.A (eval b X.env) (λu s₂=>wpAny (model X.prog X.w) X.A (f v u) Q X.xe s₂) X.xe s₁) X.xe s:=by
 refine AS (ha AA s σ H _ I h) λv s1 hzz=> ?_
 obtain⟨x,H1,I1,r1,q1⟩:=hzz
 refine AS (hb AA s1 σ H1 _ I1 q1) λu s2 hzz=> ?_
 obtain⟨y,H2,I2,r2,q2⟩:=hzz
 exact hf v u s2 x y H2 I2 r1 r2 q2
theorem AV{op:Operator}{r:R2}(ho:B2 X (binaryOp op) r)(ha:PE X a ta)(hb:PE X b tb):PE X (.BinOp a op b pos) (AG r ta tb):=by
 intro AA s σ H Q I h
 exact wpAny_BinOp (SE ha hb I h λv u s2 x y H2 I2 rx ry q=>ho AA s2 σ H2 x y v u Q I2 rx ry q)
theorem bE{op:UnaryOp}{r:V->Hp->VK->Prop}(ho:SD X (unaryOp op) r)(ha:PE X a ta):PE X (.UnaryOp op a pos) (ON r ta):=by
 intro AA s σ H Q I h
 exact UnaryOp_ (AS (ha AA s σ H _ I h) λv s1 ⟨x,H1,I1,r1,q1⟩=>ho AA s1 σ H1 x v Q I1 r1 q1)
theorem SF{f:Value->Value->Sem Value}{C:Int->Int->Prop}{g:Int->Int->Int}
  (rule:∀ (i j:Int) (t u:Tok) (s:Shared) (Q:Value->Shared->Prop) (E:Value->Shared->Prop),C i j->Q (.int (g i j) s.toks) { s with toks:=s.toks+1 }->wpAny (model X.prog X.w) X.A (f (.int i t) (.int j u)) Q E s) :
  B2 X f (rI C λi j=>.int (g i j)):=by
 intro AA s σ H x y v u Q I rx ry h
 obtain⟨i,j,rfl,rfl,hc,q⟩:=h
 obtain⟨t,rfl⟩:=rx
 obtain⟨t',rfl⟩:=ry
 exact rule i j t t' s _ _ hc ⟨.int (g i j),H,I.tok _,⟨_,rfl⟩,q⟩
theorem bF{f:Value->Value->Sem Value}{g:Int->Int->Int}
  (rule:∀ (i j:Int) (t u:Tok) (s:Shared) (Q:Value->Shared->Prop) (E:Value->Shared->Prop),Q (.int (g i j) s.toks) { s with toks:=s.toks+1 }->wpAny (model X.prog X.w) X.A (f (.int i t) (.int j u)) Q E s) :
  B2 X f (H0 λi j=>.int (g i j)):=by
 intro AA s σ H x y v u Q I rx ry h
 obtain⟨i,j,rfl,rfl,q⟩:=h
 obtain⟨t,rfl⟩:=rx
 obtain⟨t',rfl⟩:=ry
 exact rule i j t t' s _ _ ⟨.int (g i j),H,I.tok _,⟨_,rfl⟩,q⟩
theorem SG{f:Value->Value->Sem Value}{g:Int->Int->Bool}
  (rule:∀ (i j:Int) (t u:Tok) (s:Shared) (Q:Value->Shared->Prop) (E:Value->Shared->Prop),Q (.bool (g i j)) s->wpAny (model X.prog X.w) X.A (f (.int i t) (.int j u)) Q E s) :
  B2 X f (H0 λi j=>.bl (g i j)):=by
 intro AA s σ H x y v u Q I rx ry h
 obtain⟨i,j,rfl,rfl,q⟩:=h
 obtain⟨t,rfl⟩:=rx
 obtain⟨t',rfl⟩:=ry
 exact rule i j t t' s _ _ ⟨.bl (g i j),H,I,rfl,q⟩
def bG(i j:Int):Prop:=0<j/\j<1073741824
def uC(i j:Int):Prop:=0<=j/\j<=1000000/\i.natAbs<2 ^ 64
def CMul(i j:Int):Prop:=(-(2 ^ 64)<i/\i<2 ^ 64)\/(-(2 ^ 64)<j/\j<2 ^ 64)
theorem CMul.ok{i j:Int}(h:CMul i j):IntMulOk i j:=by
 rcases h with⟨h1,h2⟩ | ⟨h1,h2⟩
 ·exact .of_left (intBits_le_64 h1 h2)
 ·exact .of_right (intBits_le_64 h1 h2)
theorem uD:B2 X (binaryOp .Add) (H0 λi j=>.int (i+j)):=bF λ_ _ _ _ _ _ _ q=>add_int q
theorem OO:B2 X (binaryOp .Sub) (H0 λi j=>.int (i - j)):=bF λ_ _ _ _ _ _ _ q=>sub_int q
theorem uE:B2 X (binaryOp .Mult) (rI CMul λi j=>.int (i * j)):=SF λ_ _ _ _ _ _ _ hc q=>mul_int q hc.ok
theorem DK:B2 X (binaryOp .FloorDiv) (rI bG λi j=>.int (i / j)):=SF λi j _ _ _ _ _ hc q=>by
 have h1:(0:Int)<j:=hc.1
 have h2:j<1073741824:=hc.2
 exact floordiv_int (by omega) (by rw[Int.fdiv_eq_ediv_of_nonneg i (by omega)];exact q) (.inl (PyProof.noPylong_small (by omega)))
theorem C7:B2 X (binaryOp .Mod) (rI (λ_ j=>0<j) λi j=>.int (i % j)):=SF λi j _ _ _ _ _ hc q=>by
 have h1:(0:Int)<j:=hc
 exact mod_int' (by omega) (by rw[Int.fmod_eq_emod_of_nonneg i (by omega)];exact q)
theorem uF{f:Value->Sem Value}{g:Int->Int}
  (rule:∀ (i:Int) (t:Tok) (s:Shared) (Q:Value->Shared->Prop) (E:Value->Shared->Prop),Q (.int (g i) s.toks) { s with toks:=s.toks+1 }->wpAny (model X.prog X.w) X.A (f (.int i t)) Q E s) :
  SD X f (rU λi=>.int (g i)):=by
 intro AA s σ H x v Q I rx h
 obtain⟨i,rfl,q⟩:=h
 obtain⟨t,rfl⟩:=rx
 exact rule i t s _ _ ⟨.int (g i),H,I.tok _,⟨_,rfl⟩,q⟩
theorem bH:SD X (unaryOp .USub) (rU λi=>.int (-i)):=uF λ_ _ _ _ _ q=>neg_int q
end
def KQ:V->V->Bool
 | .non,.non=>true | .non,.int _=>true | .int _,.non=>true | .non,.bl _=>true | .bl _,.non=>true | .non,.str _=>true | .str _,.non=>true
 | .int _,.int _=>true | .bl _,.bl _=>true | .str _,.str _=>true | .byt _,.byt _=>true
 | .int _,.str _=>true | .str _,.int _=>true | .bl _,.str _=>true | .str _,.bl _=>true
 | _,_=>false
def uG:R2:=λx y H Q=>KQ x y=true/\Q (.bl (decide (x=y))) H
def uH:R2:=λx y H Q=>KQ x y=true/\Q (.bl (!decide (x=y))) H
theorem bI{i j:Int}:decide (V.int i=V.int j)=(i == j):=by
 rw[Bool.eq_iff_iff]
 simp
theorem bJ{i j:Bool}:decide (V.bl i=V.bl j)=(i == j):=by
 rw[Bool.eq_iff_iff]
 simp
theorem bK{i j:Str}:decide (V.str i=V.str j)=(i == j):=by
 rw[Bool.eq_iff_iff]
 simp
theorem bL{i j:Array UInt8}:decide (V.byt i=V.byt j)=(i.toList == j.toList):=by
 rw[Bool.eq_iff_iff]
 cases i
 cases j
 simp
section
variable{X:Cx}{a b c:Expr}{ta tb tc:TE}{pos:Pos}
theorem CS{AA:List (Addr × Obj)}{σ:St}{H:Hp}{s:Shared}{Q:VK}{k k':Bool}(I:Inv X AA σ H s)(q:Q (.bl k) H)(e:k=k'):EP X AA σ Q (.bool k') s:=by
 subst e
 exact⟨.bl k,H,I,rfl,q⟩
theorem uI:B2 X (compareOp .Eq) uG:=by
 intro AA s σ H x y v u Q I rx ry h
 obtain⟨hs,q⟩:=h
 cases x with
 | non =>
  cases rx
  cases y with
  | non=>cases ry;exact PySem.EqNone.eq_none_none (CS I q (by simp))
  | bl j=>cases ry;exact PySem.EqNone.eq_none_bool (CS I q (by simp))
  | int j=>obtain⟨t',rfl⟩:=ry;exact PySem.EqNone.eq_none_int (CS I q (by simp))
  | str j=>obtain⟨t',rfl⟩:=ry;exact PySem.EqNone.eq_none_str (CS I q (by simp))
  | _=>exact absurd (show false=true from hs) Bool.false_ne_true
 | bl i =>
  cases rx
  cases y with
  | non=>cases ry;exact PySem.EqNone.eq_bool_none (CS I q (by simp))
  | bl j=>cases ry;exact eq_bool (CS I q bJ)
  | str j=>obtain⟨t',rfl⟩:=ry;exact PySem.EqMixed.eq_bool_str (CS I q (by simp))
  | _=>exact absurd (show false=true from hs) Bool.false_ne_true
 | int i =>
  obtain⟨t,rfl⟩:=rx
  cases y with
  | non=>cases ry;exact PySem.EqNone.eq_int_none (CS I q (by simp))
  | int j=>obtain⟨t',rfl⟩:=ry;exact eq_int (CS I q bI)
  | str j=>obtain⟨t',rfl⟩:=ry;exact PySem.EqMixed.eq_int_str (CS I q (by simp))
  | _=>exact absurd (show false=true from hs) Bool.false_ne_true
 | str i =>
  obtain⟨t,rfl⟩:=rx
  cases y with
  | non=>cases ry;exact PySem.EqNone.eq_str_none (CS I q (by simp))
  | bl j=>cases ry;exact PySem.EqMixed.eq_str_bool (CS I q (by simp))
  | int j=>obtain⟨t',rfl⟩:=ry;exact PySem.EqMixed.eq_str_int (CS I q (by simp))
  | str j=>obtain⟨t',rfl⟩:=ry;exact eq_str (CS I q bK)
  | _=>exact absurd (show false=true from hs) Bool.false_ne_true
 | byt i =>
  obtain⟨t,rfl⟩:=rx
  cases y with
  | byt j=>obtain⟨t',rfl⟩:=ry;exact W.eq_bytes (CS I q bL)
  | _=>exact absurd (show false=true from hs) Bool.false_ne_true
 | _=>cases y<;>exact absurd (show false=true from hs) Bool.false_ne_true
theorem uJ:B2 X (compareOp .NotEq) uH:=by
 intro AA s σ H x y v u Q I rx ry h
 obtain⟨hs,q⟩:=h
 cases x with
 | non =>
  cases rx
  cases y with
  | non=>cases ry;exact PySem.EqNone.ne_none_none (CS I q (by simp))
  | bl j=>cases ry;exact PySem.EqNone.ne_none_bool (CS I q (by simp))
  | int j=>obtain⟨t',rfl⟩:=ry;exact PySem.EqNone.ne_none_int (CS I q (by simp))
  | str j=>obtain⟨t',rfl⟩:=ry;exact PySem.EqNone.ne_none_str (CS I q (by simp))
  | _=>exact absurd (show false=true from hs) Bool.false_ne_true
 | bl i =>
  cases rx
  cases y with
  | non=>cases ry;exact PySem.EqNone.ne_bool_none (CS I q (by simp))
  | bl j=>cases ry;exact ne_bool (CS I q (congrArg not bJ))
  | str j=>obtain⟨t',rfl⟩:=ry;exact PySem.EqMixed.ne_bool_str (CS I q (by simp))
  | _=>exact absurd (show false=true from hs) Bool.false_ne_true
 | int i =>
  obtain⟨t,rfl⟩:=rx
  cases y with
  | non=>cases ry;exact PySem.EqNone.ne_int_none (CS I q (by simp))
  | int j=>obtain⟨t',rfl⟩:=ry;exact ne_int (CS I q (congrArg not bI))
  | str j=>obtain⟨t',rfl⟩:=ry;exact PySem.EqMixed.ne_int_str (CS I q (by simp))
  | _=>exact absurd (show false=true from hs) Bool.false_ne_true
 | str i =>
  obtain⟨t,rfl⟩:=rx
  cases y with
  | non=>cases ry;exact PySem.EqNone.ne_str_none (CS I q (by simp))
  | bl j=>cases ry;exact PySem.EqMixed.ne_str_bool (CS I q (by simp))
  | int j=>obtain⟨t',rfl⟩:=ry;exact PySem.EqMixed.ne_str_int (CS I q (by simp))
  | str j=>obtain⟨t',rfl⟩:=ry;exact ne_str (CS I q (congrArg not bK))
  | _=>exact absurd (show false=true from hs) Bool.false_ne_true
 | byt i =>
  obtain⟨t,rfl⟩:=rx
  cases y with
  | byt j=>obtain⟨t',rfl⟩:=ry;exact W.ne_bytes (CS I q (congrArg not bL))
  | _=>exact absurd (show false=true from hs) Bool.false_ne_true
 | _=>cases y<;>exact absurd (show false=true from hs) Bool.false_ne_true
theorem uK:B2 X (compareOp .Lt) (H0 λi j=>.bl (decide (i<j))):=SG λ_ _ _ _ _ _ _ q=>lt_int q
theorem uL:B2 X (compareOp .LtE) (H0 λi j=>.bl (decide (i<=j))):=SG λ_ _ _ _ _ _ _ q=>le_int q
theorem uM:B2 X (compareOp .Gt) (H0 λi j=>.bl (decide (j<i))):=SG λ_ _ _ _ _ _ _ q=>gt_int q
theorem OP:B2 X (compareOp .Is) (λx y H Q=>y=.non/\Q (.bl (decide (x=.non))) H):=by
 intro AA s σ H x y v u Q I rx ry h
 obtain⟨rfl,q⟩:=h
 cases ry
 refine is_none_gen (CS I q ?_)
 cases x<;>first
  | (cases rx;rfl)
  | (obtain⟨t,rfl⟩:=rx;rfl)
theorem SH:B2 X (compareOp .IsNot) (λx y H Q=>y=.non/\Q (.bl (!decide (x=.non))) H):=by
 intro AA s σ H x y v u Q I rx ry h
 obtain⟨rfl,q⟩:=h
 cases ry
 refine isnot_none_gen (CS I q ?_)
 cases x<;>first
  | (cases rx;rfl)
  | (obtain⟨t,rfl⟩:=rx;rfl)
theorem DL(b:Expr){op:CmpOp}(h:op≠.In:=by decide)(h2:op≠.NotIn:=by decide):behindInMarks op b=false:=by
 have e1:(op == CmpOp.In)=false:=by cases op<;>first | rfl | exact absurd rfl h
 have e2:(op == CmpOp.NotIn)=false:=by cases op<;>first | rfl | exact absurd rfl h2
 cases b<;>simp[behindInMarks,e1,e2]
theorem bM{op:CmpOp}{r:R2}(ho:B2 X (compareOp op) r)(ha:PE X a ta)(hb:PE X b tb)(hm:behindInMarks op b=false):PE X (.Compare a [op] [b] pos) (AG r ta tb):=by
 intro AA s σ H Q I h
 exact wpAny_Compare1 (SE ha hb I h λv u s2 x y H2 I2 rx ry q=>ho AA s2 σ H2 x y v u Q I2 rx ry q) hm
def CK(t:TE):TT:=λσ H Q=>t σ H λx H'=>∃ k,x=.bl k/\Q k H'
theorem DC{op:CmpOp}{r:R2}(ho:B2 X (compareOp op) r)(ha:PE X a ta)(hb:PE X b tb)(hm:behindInMarks op b=false):PT X (.Compare a [op] [b] pos) (CK (AG r ta tb)):=by
 intro AA s σ H Q I h
 refine wpAny_isTrue_Compare1 (AS (ha AA s σ H _ I h) λv s1 ⟨x,H1,I1,r1,q1⟩=>AS (hb AA s1 σ H1 _ I1 q1) λu s2 ⟨y,H2,I2,r2,q2⟩ =>
  AS (ho AA s2 σ H2 x y v u _ I2 r1 r2 q2) λc s3 ⟨z,H3,I3,r3,k,e,q3⟩=> ?_) hm
 subst e
 cases r3
 exact wpAny_truthy_bool ⟨H3,I3,q3⟩
def GL(r r':R2)(ta tb tc:TE):TE:=λσ H Q=>ta σ H λx H1=>tb σ H1 λy H2=>r x y H2 λz H3=>∃ k,z=.bl k ∧
 (if k=true then tc σ H3 λw' H4=>r' y w' H4 Q else Q (.bl false) H3)
theorem OQ{op op':CmpOp}{r r':R2}(ho:B2 X (compareOp op) r)(ho':B2 X (compareOp op') r')(ha:PE X a ta)(hb:PE X b tb)(hc:PE X c tc)
  (hm:lastMarks [op,op'] [b,c]=false:=by with_unfolding_all rfl):PE X (.Compare a [op,op'] [b,c] pos) (GL r r' ta tb tc):=by
 intro AA s σ H Q I h
 refine Compare_chain (AS (ha AA s σ H _ I h) λv s1 ⟨x,H1,I1,r1,q1⟩=>chain_link (AS (hb AA s1 σ H1 _ I1 q1) λu s2 ⟨y,H2,I2,r2,q2⟩ =>
  AS (ho AA s2 σ H2 x y v u _ I2 r1 r2 q2) λd s3 ⟨z,H3,I3,r3,k,e,q3⟩=> ?_)) hm
 subst e
 cases r3
 refine wpAny_truthy_bool ?_
 cases k with
 | false=>exact ite_ff ⟨.bl false,H3,I3,rfl,q3⟩
 | true=>exact ite_tt (chain_last (AS (hc AA s3 σ H3 _ I3 q3) λw' s4 ⟨z',H4,I4,r4,q4⟩=>ho' AA s4 σ H4 y z' u w' Q I4 r2 r4 q4))
theorem M7{op op':CmpOp}{r r':R2}(ho:B2 X (compareOp op) r)(ho':B2 X (compareOp op') r')(ha:PE X a ta)(hb:PE X b tb)(hc:PE X c tc)
  (hm:lastMarks [op,op'] [b,c]=false:=by with_unfolding_all rfl):PT X (.Compare a [op,op'] [b,c] pos) (CK (GL r r' ta tb tc)):=by
 intro AA s σ H Q I h
 refine isTrue_chain (AS (ha AA s σ H _ I h) λv s1 ⟨x,H1,I1,r1,q1⟩=>test_link (AS (hb AA s1 σ H1 _ I1 q1) λu s2 ⟨y,H2,I2,r2,q2⟩ =>
  AS (ho AA s2 σ H2 x y v u _ I2 r1 r2 q2) λd s3 ⟨z,H3,I3,r3,k,e,q3⟩=> ?_)) hm
 subst e
 cases r3
 refine wpAny_truthy_bool ?_
 cases k with
 | false =>
  obtain⟨k',e',q'⟩:=q3
  cases e'
  exact ite_ff ⟨H3,I3,q'⟩
 | true =>
  refine ite_tt (test_last (AS (hc AA s3 σ H3 _ I3 q3) λw' s4 ⟨z',H4,I4,r4,q4⟩=>AS (ho' AA s4 σ H4 y z' u w' _ I4 r2 r4 q4) λd' s5 hzz=> ?_))
  obtain⟨z2,H5,I5,r5,k2,e2,q5⟩:=hzz
  subst e2
  cases r5
  exact wpAny_truthy_bool ⟨H5,I5,q5⟩
def LM(K:W.Frag)(x:V)(H:Hp)(k:Bool):Prop :=
 match x with
 | .non=>k=false
 | .bl b=>k=b
 | .int i=>k=(i != 0)
 | .str y=>y.length<=sizeLine/\k=((y.length:Int) != 0)
 | .byt y=>y.size<=sizeLine/\k=((y.size:Int) != 0)
 | .ref p=>(∃ xs,SqL K H p xs/\k= !xs.isEmpty)\/(∃ xs,SqT K H p xs/\k= !xs.isEmpty)\/∃ kvs,H p=some (.dK kvs)/\k= !kvs.isEmpty
 | _=>False
theorem uN{κ :Type}{kvs:List (κ × V)}{vs:List (κ × Value)}(r:KV kvs vs):(!vs.isEmpty)= !kvs.isEmpty:=by
 cases r<;>rfl
theorem bN{xs:List V}{its:List Value}(r:Vals xs its):(!its.toArray.isEmpty)= !xs.isEmpty:=by
 cases r<;>simp
theorem LN:(sizeLine:Nat)<2 ^ 63:=by rw[sizeLine_eq];decide
theorem uO:uB X (λx H Q=>∃ k,LM X.K x H k/\Q k H):=by
 intro AA s σ H x v Q I rx h
 obtain⟨k,e,q⟩:=h
 have hl:=LN
 have hs:sizeLine=16777216:=sizeLine_eq
 cases x with
 | non =>
  cases rx
  have e':k=false:=e
  subst e'
  exact truthy_none ⟨H,I,q⟩
 | bl b =>
  cases rx
  have e':k=b:=e
  subst e'
  exact wpAny_truthy_bool ⟨H,I,q⟩
 | int i =>
  obtain⟨t,rfl⟩:=rx
  have e':k=(i != 0):=e
  subst e'
  exact PySem.P.truthy_int ⟨H,I,q⟩
 | str y =>
  obtain⟨t,rfl⟩:=rx
  obtain⟨hy,e'⟩:y.length<=sizeLine/\k=((y.length:Int) != 0):=e
  subst e'
  exact PySem.P.truthy_str (by omega) ⟨H,I.tok _,q⟩
 | byt y =>
  obtain⟨t,rfl⟩:=rx
  obtain⟨hy,e'⟩:y.size<=sizeLine/\k=((y.size:Int) != 0):=e
  subst e'
  exact W.truthy_bytes (by omega) ⟨H,I.tok _,q⟩
 | ref p =>
  cases rx
  have e':(∃ xs,SqL X.K H p xs/\k= !xs.isEmpty)\/(∃ xs,SqT X.K H p xs/\k= !xs.isEmpty)\/∃ kvs,H p=some (.dK kvs)/\k= !kvs.isEmpty:=e
  rcases e' with⟨xs,hx,e'⟩ | ⟨xs,hx,e'⟩ | ⟨kvs,hx,e'⟩
  ·subst e'
   obtain⟨its,r,pl,hz⟩:=I.list hx
   have BU:=r.length
   exact wpAny_truthy_list pl.isList (by simp only[List.size_toArray];omega) ⟨H,I.tok _,by rw[bN r];exact q⟩
  ·subst e'
   obtain⟨its,r,pl,hz⟩:=I.tuple hx
   have BU:=r.length
   exact truthy_tuple pl (by simp only[List.size_toArray];omega) ⟨H,I.tok _,by rw[bN r];exact q⟩
  ·subst e'
   obtain⟨hz,hS,vs,r,m⟩:kvs.length<=sizeLine/\(p == sysModules)=false/\∃ vs,KV kvs vs/\s.heap.DictOf (D4 X.prog X.w) p vs:=I.hok p _ hx
   have BU:kvs.length=vs.length:=Paired.length r
   exact wpAny_truthy_dict hS m (by omega) ⟨H,I.tok _,by rw[uN r];exact q⟩
 | _=>exact(show False from e).elim
theorem M8(ha:PE X a ta)(he:∀ whole,isTrue a X.env whole=(do let v ← whole;standAt a.pos;holding [v] (truthy v))) :
  PT X a (λσ H Q=>ta σ H λx H'=>∃ k,LM X.K x H' k/\Q k H'):=by
 intro AA s σ H Q I h
 exact isTrue_plain (AS (ha AA s σ H _ I h) λv s1 ⟨x,H1,I1,r1,q1⟩=>uO AA s1 σ H1 x v Q I1 r1 q1) (he _)
theorem uP:B2 X (binaryOp .Add) (λx y H Q=>∃ i j,x=.str i/\y=.str j/\i.length+j.length<=sizeLine/\Q (.str (i++j)) H):=by
 intro AA s σ H x y v u Q I rx ry h
 obtain⟨i,j,rfl,rfl,hz,q⟩:=h
 obtain⟨t,rfl⟩:=rx
 obtain⟨t',rfl⟩:=ry
 exact add_str (λt' tk=>⟨.str (i++j),H,I.tok _,⟨_,rfl⟩,q⟩) hz
theorem IU{x:V}{us:List Value}(r:Vals [x] us):∃ u,us=[u]/\RelV x u:=by
 cases r with
 | cons r1 r2=>cases r2;exact⟨_,rfl,r1⟩
theorem uQ:F1 X (.builtin "ord") (λxs H Q=>∃ x,xs=[.str x]/\x.length=1/\Q (.int (x.cps.getD 0 0:Nat)) H):=by
 intro AA s σ H xs us Q I r h
 obtain⟨x,rfl,hz,q⟩:=h
 obtain⟨u,rfl,t,rfl⟩:=IU r
 exact ord_of_one hz ⟨.int _,H,I.tok _,⟨_,rfl⟩,q⟩
def SJ(K:W.Frag)(x:V)(H:Hp)(n:Nat):Prop :=
 match x with
 | .str y=>y.length<=sizeLine/\n=y.length
 | .byt y=>y.size<=sizeLine/\n=y.size
 | .ref p=>(∃ xs,SqL K H p xs/\n=xs.length)\/∃ xs,SqT K H p xs/\n=xs.length
 | _=>False
theorem uR:F1 X (.builtin "len") (λxs H Q=>∃ x n,xs=[x]/\SJ X.K x H n/\Q (.int n) H):=by
 intro AA s σ H xs us Q I r h
 obtain⟨x,n,rfl,e,q⟩:=h
 obtain⟨u,rfl,rx⟩:=IU r
 have hl:=LN
 have hs:sizeLine=16777216:=sizeLine_eq
 cases x with
 | str y =>
  obtain⟨t,rfl⟩:=rx
  obtain⟨hy,e'⟩:y.length<=sizeLine/\n=y.length:=e
  subst e'
  exact len_str (by omega) ⟨.int _,H,I.tok _,⟨_,rfl⟩,q⟩
 | byt y =>
  obtain⟨t,rfl⟩:=rx
  obtain⟨hy,e'⟩:y.size<=sizeLine/\n=y.size:=e
  subst e'
  exact W.len_bytes (by omega) ⟨.int _,H,I.tok _,⟨_,rfl⟩,q⟩
 | ref p =>
  cases rx
  have e':(∃ xs,SqL X.K H p xs/\n=xs.length)\/∃ xs,SqT X.K H p xs/\n=xs.length:=e
  rcases e' with⟨xs,hx,e'⟩ | ⟨xs,hx,e'⟩
  ·subst e'
   obtain⟨its,r',pl,hz⟩:=I.list hx
   have BU:=r'.length
   exact Calls.call_len_list pl.isList (by simp only[List.size_toArray];omega) ⟨.int xs.length,H,I.tok _,⟨_,by simp only[List.size_toArray];rw[BU]⟩,q⟩
  ·subst e'
   obtain⟨its,r',pl,hz⟩:=I.tuple hx
   have BU:=r'.length
   exact len_tuple pl (by simp only[List.size_toArray];omega) ⟨.int xs.length,H,I.tok _,⟨_,by simp only[List.size_toArray];rw[BU]⟩,q⟩
 | _=>exact(show False from e).elim
end
end L2
namespace L2
structure ObjM(h:Heap)(x dx C:Addr)(mA:Str->Option Value):Prop where
 obj:h.get? x=some (W.instObj C dx)
 ns:h.Ns1 dx mA
 ne:dx≠x
theorem uS{h:Heap}{dx:Addr}{mA:Str->Option Value}(n:h.Ns1 dx mA):∃ od,h.get? dx=some od/\∀ name,W.lookIn name od=some (mA name):=by
 obtain⟨o,es,ep,ho,hd,hk,_,hm⟩:=n
 refine⟨o,ho,λname=> ?_⟩
 have e:=hm name
 unfold nsFind findBy at e
 rw[<-Array.find?_toList]at e
 unfold W.lookIn
 rw[hd]
 dsimp only
 split
 ·rename_i y q
  rw[q]at e
  exact congrArg some e
 ·rename_i q
  rw[q]at e
  have a:es.toList.any (·.refKey)=false:=by
   rw[List.any_eq_false]
   intro y hy
   obtain⟨z,t,hkey⟩:=hk y (Array.mem_toList_iff.mp hy)
   simp[DictEntry.refKey,hkey]
  have a':¬ es.toList.any (·.refKey)=true:=by rw[a];exact Bool.false_ne_true
  rw[if_neg a']
  exact congrArg some e
theorem ObjM.look{h:Heap}{x dx C:Addr}{mA:Str->Option Value}(I:ObjM h x dx C mA):∃ od,W.InstAt h x (W.instObj C dx) C (some od)/\∀ name,W.lookIn name od=some (mA name) :=
 let ⟨od,ho,hl⟩:=uS I.ns
 ⟨od,⟨I.obj,rfl,rfl,ho⟩,hl⟩
section
variable{prog:Program}{w:World}{A:Around}{E:Value->Shared->Prop}{s:Shared}{K:W.Frag}{x dx C f:Addr}{mA:Str->Option Value}{name:Str}{v:Value}
theorem uT{expr:Bool}{Q:Value->Shared->Prop}(X:K.In s.heap)(I:ObjM s.heap x dx C mA)(hg:W.plainGet K C name=true)(hh:W.hasDictIn K C=true)
  (ha:W.findIn K (.ref C) name=some none) (hv:mA name=some v) (hv':W.handedIn v=true) (h:Q v { s with toks:=s.toks+1 }) :
  wpAny (model prog w) A (getAttr (.ref x) name expr) Q E s:=by
 obtain⟨od,J,hl⟩:=I.look
 exact W.get_value X J (W.plainGet_of hg).1 (W.findObj_own hh ha rfl (by rw[hl,hv])) hv' h
theorem uU{pl:Sem Bool}{Q:Value × List Value->Shared->Prop}(X:K.In s.heap)(I:ObjM s.heap x dx C mA)(hg:W.plainGet K C name=true)
  (hf:W.findIn K (.ref C) name=some (some (.ref f))) (ht:W.isFn K (.ref f)=true) (hv:mA name=none) (h:Q (.ref f,[.ref x]) s) :
  wpAny (model prog w) A (getMethod (.ref x) name pl) Q E s:=by
 obtain⟨od,J,hl⟩:=I.look
 exact W.method_fn X J (W.plainGet_of hg).1 (W.plainGet_of hg).2 hf (beq_iff_eq.mp ht) (by show(W.lookIn name od).map (·.isSome)=some false;rw[hl,hv];rfl) h
theorem uV{ns:List Str}{Q:Unit->Shared->Prop}(X:K.In s.heap)(I:ObjM s.heap x dx C mA)
  (hs:W.findIn K (.ref C) "__setattr__"=some (some (.builtin "object.__setattr__"))) (hp:W.plainOver K C=true) (ht:W.takerIn K C name=some none) (hh:W.hasDictIn K C=true)
  (hw:PySem.Within mA ns) (hsz:ns.length<=sizeLine)
  (h:∀ h',ObjM h' x dx C (λy=>if y=name then some v else mA y)->Heap.SameBut dx s.heap h'->Q () { s with heap:=h',toks:=s.toks+2 }) :
  wpAny (model prog w) A (setAttr (.ref x) name v) Q E s:=by
 obtain⟨od,J,hl⟩:=I.look
 refine W.set_plain X J hs (W.osa_open (s:={ s with toks:=s.toks+1 }) (r:=none) X J hp ht λb=> ?_)
 obtain⟨cd,hc,hd'⟩:=W.any_some hh
 have hx:s.heap.get? x=some ⟨.ref C,some dx,.plain,#[]⟩:=I.obj
 refine wpAny_bind (wpAny_pure (wpAny_bind (wpAny_bind (wpAny_loadPart hx (wpAny_bind (W.Looks.here (s:={ s with toks:=s.toks+1 }) (W.looks_clsIn X hc) ?_))))))
 rw[hd']
 refine wpAny_pure (a:=some dx) (wpAny_bind (wpAny_pure (wpAny_bind ?_)))
 refine wpAny_nsSet1 (s:={ s with toks:=s.toks+1 }) I.ns λh' hn2 hs2=> ?_
 obtain⟨oD,esD,epD,hoD,hdD,hcD⟩:=hn2.count (PySem.Within.cons name v hw)
 refine wpAny_bind (wpAny_lookBehind hoD (by rw[hdD];exact pastItsLine_dict (Nat.le_trans hcD (by rw[List.length_cons];omega))) ?_)
 exact wpAny_pure (h _ ⟨(hs2.2 _ (Ne.symm I.ne)).trans I.obj,hn2,I.ne⟩ hs2)
theorem uW{R:Result->Shared->Prop}{vs:List Value}{kw:List (Str × Value)}(X:K.In s.heap)(hm:W.makesIn K C=true)
  (hi:W.findIn K (.ref C) "__init__"=some (some (.ref f))) (hf:W.typeIn K (.ref f)=some (.type "function"))
  (h:codeAny (model prog w) (A.under (.builtin "type.__call__" ⟨.ref C::vs,kw⟩)) (.call (.ref f) ⟨.ref (s.heap.objs.size+1)::vs,kw⟩) (W.InitBack (s.heap.objs.size+1) R)
   { s with heap:=(s.heap.push W.emptyDict).push (W.instObj C s.heap.objs.size) }) :
  codeAny (model prog w) A (.call (.ref C) ⟨vs,kw⟩) R s:=by
 obtain⟨hh,g,d,t,os⟩:=s
 exact W.make_core (W.makes_of X hm) (W.looks_findIn X hi) (λself=>W.bind_fn X self hf) (.inl rfl) h
end
def A7(f:Str)(v:V):List (Str × V)->List (Str × V)
 | []=>[(f,v)]
 | (g,x)::r=>if g=f then(g,v)::r else(g,x)::A7 f v r
theorem bO(f g:Str)(v:V):∀ fs:List (Str × V),(A7 f v fs).lookup g=if g=f then some v else fs.lookup g
 | []=>by
  show List.lookup g [(f,v)]=_
  by_cases h:g=f
  ·have hb:(g == f)=true:=beq_iff_eq.mpr h
   simp only[List.lookup,hb,if_pos h]
  ·have hb:(g == f)=false:=beq_eq_false_iff_ne.mpr h
   simp only[List.lookup,hb,if_neg h]
 | (k,x)::r=>by
  have ih:=bO f g v r
  rw[show A7 f v ((k,x)::r)=(if k=f then(k,v)::r else(k,x)::A7 f v r)from rfl]
  by_cases hk:k=f
  ·rw[if_pos hk]
   by_cases h:g=k
   ·have hb:(g == k)=true:=beq_iff_eq.mpr h
    simp only[List.lookup,hb,if_pos (h.trans hk)]
   ·have hb:(g == k)=false:=beq_eq_false_iff_ne.mpr h
    simp only[List.lookup,hb,if_neg (λe:g=f=>h (e.trans hk.symm))]
  ·rw[if_neg hk]
   by_cases h:g=k
   ·have hb:(g == k)=true:=beq_iff_eq.mpr h
    simp only[List.lookup,hb,if_neg (λe:g=f=>hk (h.symm.trans e))]
   ·have hb:(g == k)=false:=beq_eq_false_iff_ne.mpr h
    simp only[List.lookup,hb]
    exact ih
theorem SK(f:Str)(v:V):∀ fs:List (Str × V),f∈(A7 f v fs).map (·.1)/\∀ g,g∈fs.map (·.1)->g∈(A7 f v fs).map (·.1)
 | []=>⟨by simp[A7],λg h=>by simp at h⟩
 | (k,x)::r=>by
  obtain⟨i1,i2⟩:=SK f v r
  rw[show A7 f v ((k,x)::r)=(if k=f then(k,v)::r else(k,x)::A7 f v r)from rfl]
  by_cases hk:k=f
  ·rw[if_pos hk]
   subst hk
   exact⟨by simp,λg h=>by simpa using h⟩
  ·rw[if_neg hk]
   refine⟨?_,λg h=> ?_⟩
   ·rw[List.map_cons]
    exact List.mem_cons_of_mem _ i1
   ·rw[List.map_cons]at h ⊢
    rcases List.mem_cons.mp h with e | e
    ·exact List.mem_cons.mpr (.inl e)
    ·exact List.mem_cons_of_mem _ (i2 g e)
theorem M9(f:Str)(v:V):∀ fs:List (Str × V),(A7 f v fs).length<=fs.length+1
 | []=>by simp[A7]
 | (k,x)::r=>by
  have ih:=M9 f v r
  rw[show A7 f v ((k,x)::r)=(if k=f then(k,v)::r else(k,x)::A7 f v r)from rfl]
  by_cases hk:k=f
  ·rw[if_pos hk,List.length_cons,List.length_cons];omega
  ·rw[if_neg hk,List.length_cons,List.length_cons];omega
theorem RelO.some_of{v:V}{o:Option Value}(r:RelO (some v) o):∃ u,o=some u/\RelV v u:=by
 cases o with
 | none=>exact(show False from r).elim
 | some u=>exact⟨u,rfl,r⟩
theorem RelO.none_of{o:Option Value}(r:RelO none o):o=none:=by
 cases o with
 | none=>rfl
 | some u=>exact(show False from r).elim
theorem uX{v:V}{u:Value}(r:RelV v u):W.handedIn u=true:=by
 cases v with
 | non=>cases (show u=Value.none from r);rfl
 | bl b=>cases (show u=Value.bool b from r);rfl
 | int i=>obtain⟨t,e⟩:=(show ∃ t,u=Value.int i t from r);cases e;rfl
 | str x=>obtain⟨t,e⟩:=(show ∃ t,u=Value.str x t from r);cases e;rfl
 | byt b=>obtain⟨t,e⟩:=(show ∃ t,u=Value.bytes b t from r);cases e;rfl
 | flt b=>obtain⟨t,e⟩:=(show ∃ t,u=Value.float b t from r);cases e;rfl
 | ref a=>cases (show u=Value.ref a from r);rfl
 | ty n=>cases (show u=Value.type n from r);rfl
section
variable{P:Program}{w:World}{H H':Hp}{h h':Heap}{a C dx:Addr}{fs fs':List (Str × V)}
theorem SL(hok:HOk P w H h)(e:H a=some (.ins C dx fs)):∃ mA,ObjM h a dx C mA/\(∀ f,RelO (fs.lookup f) (mA f))/\PySem.Within mA (fs.map (·.1))/\fs.length<=1000/\H dx=some (.own a):=by
 obtain⟨d,z,ne,ob,mA,n,r,q⟩:=(show ObjOk P w H h a (.ins C dx fs)from hok a _ e)
 exact⟨mA,⟨ob,n,ne⟩,r,q,z,d⟩
end
structure Cls(K:W.Frag)(C:Addr):Prop where
 pg:W.plainGet K C Str.empty=true
 hd:W.hasDictIn K C=true
 po:W.plainOver K C=true
 sa:W.findIn K (.ref C) "__setattr__"=some (some (.builtin "object.__setattr__"))
theorem Cls.get{K:W.Frag}{C:Addr}(c:Cls K C)(f:Str):W.plainGet K C f=true:=c.pg
def NoAttr(K:W.Frag)(C:Addr)(f:Str):Prop:=W.findIn K (.ref C) f=some none
theorem NoAttr.taker{K:W.Frag}{C:Addr}{f:Str}(n:NoAttr K C f):W.takerIn K C f=some none:=by
 unfold W.takerIn
 rw[show W.findIn K (.ref C) f=some none from n]
 rfl
structure Con(K:W.Frag)(C:Addr)(f:Str)(v:V)(u:Value):Prop where
 at_:W.findIn K (.ref C) f=some (some u)
 rel:RelV v u
 get:W.specialIn K u "__get__"=some none
 cp:W.copiedNames.contains f=false
structure OR(K:W.Frag)(C:Addr)(m:Str)(f:Addr):Prop where
 at_:W.findIn K (.ref C) m=some (some (.ref f))
 fn:W.isFn K (.ref f)=true
 kp:W.keepIn K (.ref f)=true
section
variable{X:Cx}{AA:List (Addr × Obj)}{σ:St}{H:Hp}{s:Shared}{a C dx:Addr}{fs:List (Str × V)}{f:Str}{v:V}{A:Around}{E:Value->Shared->Prop}
theorem bP{b:Bool}{Q:Value->Shared->Prop}(I:Inv X AA σ H s)(e:H a=some (.ins C dx fs))(c:Cls X.K C)(n:NoAttr X.K C f)(l:fs.lookup f=some v)
  (h:∀ u s',Inv X AA σ H s'->RelV v u->Q u s'):wpAny (model X.prog X.w) A (getAttr (.ref a) f b) Q E s:=by
 obtain⟨mA,O,r,_,_,_⟩:=SL I.hok e
 obtain⟨u,hu,ru⟩:=RelO.some_of (v:=v) (o:=mA f) (by rw[<-l];exact r f)
 exact uT I.kIn O (c.get f) c.hd n hu (uX ru) (h u _ (I.tok _) ru)
theorem bQ{m:Str}{g:Addr}{pl:Sem Bool}{Q:Value × List Value->Shared->Prop}(I:Inv X AA σ H s)(e:H a=some (.ins C dx fs))(c:Cls X.K C)(k:OR X.K C m g)(l:fs.lookup m=none)
  (h:Q (.ref g,[.ref a]) s):wpAny (model X.prog X.w) A (getMethod (.ref a) m pl) Q E s:=by
 obtain⟨mA,O,r,_,_,_⟩:=SL I.hok e
 have hn:mA m=none:=RelO.none_of (by rw[<-l];exact r m)
 exact uU I.kIn O (c.get m) k.at_ k.fn hn h
theorem bR{y:V}{u:Value}{Q:Unit->Shared->Prop}(I:Inv X AA σ H s)(e:H a=some (.ins C dx fs))(c:Cls X.K C)(n:NoAttr X.K C f)(hl:fs.length<1000)(ry:RelV y u)
  (h:∀ s',Inv X AA σ (upd H a (.ins C dx (A7 f y fs))) s'->Q () s'):wpAny (model X.prog X.w) A (setAttr (.ref a) f u) Q E s:=by
 obtain⟨mA,O,r,wi,_,ho⟩:=SL I.hok e
 have hz:(fs.map (·.1)).length<=sizeLine:=by rw[List.length_map,sizeLine_eq];omega
 refine uV I.kIn O c.sa c.po n.taker c.hd wi hz λh' O' sb=>h _ ?_
 have hd:∃ o,h'.get? dx=some o:=let ⟨o,_,_,e',_⟩:=O'.ns;⟨o,e'⟩
 refine I.write (x:=a) (e:=dx) (by rw[e];exact True.intro) (.inr ho) (λb q hb z=>(sb.2 b hb).trans z) hd ?_
 refine⟨by rw[AF O.ne];exact ho,?_,O.ne,O'.obj,_,O'.ns,λg=> ?_,λg hg=> ?_⟩
 ·have:=M9 f y fs;omega
 ·show RelO ((A7 f y fs).lookup g) (if g=f then some u else mA g)
  rw[bO]
  by_cases q:g=f
  ·rw[if_pos q,if_pos q];exact ry
  ·rw[if_neg q,if_neg q];exact r g
 ·by_cases q:g=f
  ·rw[q];exact(SK f y fs).1
  ·refine(SK f y fs).2 g (wi g λz=>hg ?_)
   show(if g=f then some u else mA g)=none
   rw[if_neg q];exact z
theorem Inv.made(I:Inv X AA σ H s):Inv X AA σ (upd (upd H s.heap.objs.size (.own (s.heap.objs.size+1))) (s.heap.objs.size+1) (.ins C s.heap.objs.size []))
  { s with heap:=(s.heap.push W.emptyDict).push (W.instObj C s.heap.objs.size) }:=by
 have e1:(s.heap.push W.emptyDict).get? s.heap.objs.size=some W.emptyDict:=Heap.get?_push_size s.heap rfl
 have e2:((s.heap.push W.emptyDict).push (W.instObj C s.heap.objs.size)).get? (s.heap.objs.size+1)=some (W.instObj C s.heap.objs.size):=by
  have:=Heap.get?_push_size (s.heap.push W.emptyDict) (o:=W.instObj C s.heap.objs.size) rfl
  rwa [Heap.size_push]at this
 have e3:(s.heap.push W.emptyDict).Ns s.heap.objs.size (λ_=>none):=⟨W.emptyDict,#[],_,e1,rfl,(λe he=>absurd he (by simp)),λ_=>rfl⟩
 have I1:=I.laid (a:=s.heap.objs.size) (o:=.own (s.heap.objs.size+1)) (h':=s.heap.push W.emptyDict) (t':=s.toks) (λb u q=>Heap.get?_push_of_some _ q) (Nat.le_refl _) ⟨_,e1⟩
 refine I1.laid (a:=s.heap.objs.size+1) (o:=.ins C s.heap.objs.size []) (t':=s.toks) (λb u q=>Heap.get?_push_of_some _ q) (Nat.le_of_eq (Heap.size_push _ _)) ?_
 have ne:s.heap.objs.size≠s.heap.objs.size+1:=Nat.ne_of_lt (Nat.lt_succ_self _)
 refine⟨by rw[AF ne,AE],Nat.zero_le _,ne,e2,λ_=>none,(Heap.Ns1.of_empty e3).at λo q=>Heap.get?_push_of_some _ q,λ_=>True.intro,λy hy=>absurd rfl hy⟩
theorem uY{prog:Program}{w:World}{env:Env}{e:Expr}{f:Str}{pos:Pos}{s:Shared}{Q:Value->Shared->Prop}(hb:attributeBase e f env (eval e env)=eval e env)
  (h:wpAny (model prog w) A (eval e env) (λo s₁=>wpAny (model prog w) A (getAttr o f true) Q E s₁) E s):wpAny (model prog w) A (eval (.Attribute e f pos) env) Q E s :=
 Attribute_any_ h (by rw[arm_eval_Attribute,hb])
end
def AX(K:W.Frag)(ta:TE)(f:Str):TE:=λσ H Q=>ta σ H λx H1=>∃ a C dx fs v,x=.ref a/\H1 a=some (.ins C dx fs)/\Cls K C/\NoAttr K C f/\fs.lookup f=some v/\Q v H1
def EB(K:W.Frag)(ta tv:TE)(f:Str):TS:=λD σ H=>tv σ H λy H1=>ta σ H1 λx H2=>∃ a C dx fs,x=.ref a/\H2 a=some (.ins C dx fs)/\Cls K C/\NoAttr K C f/\fs.length<1000 ∧
 D.nx σ (upd H2 a (.ins C dx (A7 f y fs)))
def bS(X:Cx)(op:Operator)(rd:V->V->Hp->VK->Prop):Prop :=
 ∀ (AA:List (Addr × Obj)) (s:Shared) (σ:St) (H:Hp) (x y:V) (u v:Value) (Q:VK),Inv X AA σ H s->RelV x u->RelV y v->rd x y H Q->wpAny (model X.prog X.w) X.A (inplaceOp op u v) (EP X AA σ Q) X.xe s
def SN(K:W.Frag)(ta tv:TE)(rd:V->V->Hp->VK->Prop)(f:Str):TS:=λD σ H=>ta σ H λx H1=>∃ a C dx fs v,x=.ref a/\H1 a=some (.ins C dx fs)/\Cls K C/\NoAttr K C f/\fs.lookup f=some v ∧
 tv σ H1 λy H2=>rd v y H2 λz H3=>∃ dx' fs',H3 a=some (.ins C dx' fs')/\fs'.length<1000/\D.nx σ (upd H3 a (.ins C dx' (A7 f z fs')))
section
variable{X:Cx}{o e value:Expr}{f:Str}{pos pos' tpos:Pos}{ta tv:TE}
theorem AZ(he:PE X e ta)(hb:attributeBase e f X.env (eval e X.env)=eval e X.env):PE X (.Attribute e f pos) (AX X.K ta f):=by
 intro AA s σ H Q I h
 refine uY hb (AS (he AA s σ H _ I h) λu s1 hzz=> ?_)
 obtain⟨x,H1,I1,rx,a,C,dx,fs,v,ex,ea,c,n,l,q⟩:=hzz
 subst ex
 obtain rfl:u=Value.ref a:=rx
 exact bP I1 ea c n l λu' s2 I2 ru=>⟨v,H1,I2,ru,q⟩
theorem EN(ha:PE X o ta)(hv:PE X value tv)(hs:swapsWith value (some (.Attribute o f pos')) pos.line X.env=pure false):PS X (.Assign [.Attribute o f pos'] value pos) (EB X.K ta tv f):=by
 intro AA s σ H D I h
 refine plainObj_wpAny_Assign_Attribute (AS (hv AA s σ H _ I h) λu s1 ⟨y,H1,I1,ry,q⟩=>AS (ha AA s1 σ H1 _ I1 q) λov s2 hzz=> ?_) hs
 obtain⟨x,H2,I2,rx,a,C,dx,fs,ex,ea,c,n,l,q2⟩:=hzz
 subst ex
 obtain rfl:ov=Value.ref a:=rx
 exact bR I2 ea c n l ry λs3 I3=>⟨σ,_,I3,q2⟩
theorem uZ{op:Operator}{rd:V->V->Hp->VK->Prop}(ha:PE X o ta)(hv:PE X value tv)(hop:bS X op rd):PS X (.AugAssign (.Attribute o f tpos) op value pos) (SN X.K ta tv rd f):=by
 intro AA s σ H D I h
 refine wpAny_AugAssign_AttributeAny (AS (ha AA s σ H _ I h) λov s1 hzz=> ?_)
 obtain⟨x,H1,I1,rx,a,C,dx,fs,v,ex,ea,c,n,l,q⟩:=hzz
 subst ex
 obtain rfl:ov=Value.ref a:=rx
 refine bP I1 ea c n l λu s2 I2 ru=>AS (hv AA s2 σ H1 _ I2 q) λw3 s3 ⟨y,H2,I3,ry,q3⟩=>AS (hop AA s3 σ H2 v y u w3 _ I3 ru ry q3) λw4 s4 hzz=> ?_
 obtain⟨z,H3,I4,rz,dx',fs',ea',l',q4⟩:=hzz
 exact bR I4 ea' c n l' rz λs5 I5=>⟨σ,_,I5,q4⟩
def OS:V->V->Hp->VK->Prop:=λx y H Q=>∃ i j,x=.int i/\y=.int j/\Q (.int (i+j)) H
theorem u3:bS X .Add OS:=by
 rintro AA s σ H x y u v Q I rx ry ⟨i,j,rfl,rfl,q⟩
 obtain⟨t,rfl⟩:=(show ∃ t,u=Value.int i t from rx)
 obtain⟨t',rfl⟩:=(show ∃ t',v=Value.int j t' from ry)
 exact PyProof.Rows.iadd_int ⟨.int (i+j),H,I.tok _,⟨_,rfl⟩,q⟩
end
section
variable{X:Cx}{AA:List (Addr × Obj)}{σ:St}{H:Hp}{s:Shared}{A:Around}{E:Value->Shared->Prop}{Q:Value->Shared->Prop}{c:Value}{b:Bool}
inductive HE(K:W.Frag)(H:Hp):V->Value->Prop where
 | non:HE K H .non (.type "NoneType")
 | bl (x:Bool):HE K H (.bl x) (.type "bool")
 | int (i:Int):HE K H (.int i) (.type "int")
 | str (x:Str):HE K H (.str x) (.type "str")
 | flt (x:UInt64):HE K H (.flt x) (.type "float")
 | lst {a:Addr} {xs:List V} (e:H a=some (.lst xs)):HE K H (.ref a) (.type "list")
 | frz {a:Addr} {o:Obj} {xs:List V} (e:H a=some (.frz o (.lst xs))):HE K H (.ref a) (.type "list")
 | tup {a:Addr} {xs:List V} (e:H a=some (.tup xs)):HE K H (.ref a) (.type "tuple")
 | dK {a:Addr} {kvs:List (AH × V)} (e:H a=some (.dK kvs)):HE K H (.ref a) (.type "dict")
 | dT {a:Addr} {kvs:List (List AH × V)} (e:H a=some (.dT kvs)):HE K H (.ref a) (.type "dict")
 | ins {a C dx:Addr} {fs:List (Str × V)} (e:H a=some (.ins C dx fs)) (cl:Cls K C) (ha:W.findIn K (.ref C) "__class__"=some (some (.builtin "object.__class__")))
   (hn:W.specialIn K (.builtin "object.__class__") "__get__"=some (some (.builtin "getset_descriptor.__get__"))) (htk:W.takesIn K (.builtin "object.__class__")=some true)
   (hm:W.mroIn K C (.type "object")=some true):HE K H (.ref a) (.ref C)
end
end L2
namespace L2
structure Room(k:Nat)(A:Around):Prop where
 hd:A.handled=none
 dp:A.depth+3 * k+5<recursionLimit
 un:A.units+16 * k+200<cLine
theorem Room.mono{j k:Nat}{A:Around}(r:Room k A)(h:j<=k):Room j A:=⟨r.hd,by have:=r.dp;omega,by have:=r.un;omega⟩
theorem Room.deeper{k:Nat}{A:Around}(r:Room (k+1) A)(env:Env):Room k (A.deeper env) :=
 ⟨r.hd,by have:=r.dp;show A.depth+1+3 * k+5<_;omega,by have:=r.un;show A.units+3+16 * k+200<_;omega⟩
theorem u4{A:Around}{C:Addr}{us:List Value}{kw:List (Str × Value)}:(A.under (.builtin "type.__call__" ⟨.ref C::us,kw⟩)).depth=A.depth+1:=by
 first | rfl | simp[Around.under,Code.weight,Code.isCreation,Code.isGuard,Code.isCaller,Code.frames,Code.isFrame,guardIds]
theorem u7{A:Around}{C:Addr}{us:List Value}{kw:List (Str × Value)}:(A.under (.builtin "type.__call__" ⟨.ref C::us,kw⟩)).units=A.units+1:=by
 first | rfl | simp[Around.under,Code.cUnits,Code.frames,Code.isFrame]
theorem Room.make{k:Nat}{A:Around}(r:Room (k+1) A)(C:Addr)(us:List Value)(kw:List (Str × Value)):Room k (A.under (.builtin "type.__call__" ⟨.ref C::us,kw⟩)) :=
 ⟨r.hd,by have:=r.dp;rw[u4];omega,by have:=r.un;rw[u7];omega⟩
theorem Room.depth{k:Nat}{A:Around}(r:Room k A):A.depth<recursionLimit:=by have:=r.dp;omega
theorem Room.units{k:Nat}{A:Around}(r:Room k A):A.units+64<cLine:=by have:=r.un;omega
def BW:TA:=λ_ H Q=>Q [] H
def DM(ta:TE)(tr:TA):TA:=λσ H Q=>ta σ H λx H1=>tr σ H1 λxs H2=>Q (x::xs) H2
section
variable{X:Cx}{e:Expr}{es:List Expr}{te:TE}{t:TA}{pos:Pos}
theorem FO:PA X [] BW:=λ_ _ _ _ H Q I h=>Calls.spliced_nil ⟨[],H,I,.nil,h⟩
theorem IV(ha:PE X e te)(hr:PA X es t)(hs:starEach (e::es) X.env=(false,eval e X.env)::starEach es X.env:=by rfl):PA X (e::es) (DM te t):=by
 intro pos AA s σ H Q I h
 rw[hs]
 show wpAny _ _ (spliced ((false,eval e X.env)::backTo pos (starEach es X.env))) _ _ s
 refine Calls.spliced_cons (AS (ha AA s σ H _ I h) λu s1 hzz=> ?_)
 obtain⟨x,H1,I1,r1,q1⟩:=hzz
 exact AS (hr pos AA s1 σ H1 _ I1 q1) λus s2 ⟨xs,H2,I2,r2,q2⟩=>⟨x::xs,H2,I2,.cons r1 r2,q2⟩
def EO(t:TA):TE:=λσ H Q=>t σ H λxs H1=>xs.length<=sizeLine/\∀ p,H1 p=none->Q (.ref p) (upd H1 p (.tup xs))
def CG(t:TA):TE:=λσ H Q=>t σ H λxs H1=>xs.length<=sizeLine/\∀ p,H1 p=none->Q (.ref p) (upd H1 p (.lst xs))
theorem E9{x1}(h:PA X es t):PE X (.Tuple es x1 pos) (EO t):=by
 intro AA s σ H Q I hq
 refine wpAny_Tuple_spliced (AS (h pos AA s σ H _ I hq) λus s1 ⟨xs,H1,I1,r,z,q⟩=>⟨by rw[<-r.length];exact z,?_⟩)
 have hf:H1 s1.heap.objs.size=none:=I1.hok.fresh (Nat.le_refl _)
 refine⟨.ref s1.heap.objs.size,upd H1 s1.heap.objs.size (.tup xs),I1.laid (t':=s1.toks) (λb u e=>Heap.get?_push_of_some _ e) (Nat.le_refl _) ?_,rfl,q _ hf⟩
 exact⟨z,us,r,⟨_,Heap.get?_push_size _ rfl,rfl,_,rfl⟩⟩
theorem CL(h:PA X es t):PE X (.List es pos) (CG t):=by
 intro AA s σ H Q I hq
 refine wpAny_List_spliced (AS (h pos AA s σ H _ I hq) λus s1 ⟨xs,H1,I1,r,z,q⟩=>⟨by rw[<-r.length];exact z,?_⟩)
 have hf:H1 s1.heap.objs.size=none:=I1.hok.fresh (Nat.le_refl _)
 refine⟨.ref s1.heap.objs.size,upd H1 s1.heap.objs.size (.lst xs),I1.laid (t':=s1.toks) (λb u e=>Heap.get?_push_of_some _ e) (Nat.le_refl _) ?_,rfl,q _ hf⟩
 exact⟨z,us,0,r,Heap.get?_push_size _ rfl⟩
end
abbrev Sp:=List V->Hp->VK->XK->Prop
abbrev GO:=List Env->Hp->Shared->XK->Value->Shared->Prop
structure Env0(P:Program)(w:World)(K:W.Frag)(mg:Str->Option Value)(base:Heap)(A:Around)(outer:List Env)(s:Shared)(H:Hp):Prop where
 frames:A.frames=some outer
 mod:Mod K mg base
 bs:∀ b o,base.get? b=some o->s.heap.get? b=some o/\H b=none
 bsz:base.objs.size<=s.heap.objs.size
 funs:s.heap.FunFrames base outer
 frf:∀ b∈DY outer,H b=none
 hok:HOk P w H s.heap
 bare:AllBare s.gens
def CE(outer:List Env)(P:Program)(w:World)(H:Hp)(s:Shared)(Q:VK)(u:Value)(s':Shared):Prop :=
 ∃ v H',s'.os=s.os/\AllBare s'.gens/\Un (DY outer) [] H H' s.heap s'.heap/\HOk P w H' s'.heap/\RelV v u/\Q v H'
def CR(CX:GO)(outer:List Env)(P:Program)(w:World)(H:Hp)(s:Shared)(Q:VK)(E:XK)(r:Result)(s':Shared):Prop :=
 match r with
 | .ok (.ret u)=>CE outer P w H s Q u s'
 | .ok _=>False
 | .error e=>CX outer H s E e s'
structure FnOk(P:Program)(w:World)(K:W.Frag)(mg:Str->Option Value)(base:Heap)(CX:GO)(k:Nat)(f:Addr)(fd:FuncData)(ps:List Str)(sp:Sp):Prop where
 len:∀ vs H Q E,sp vs H Q E->vs.length=ps.length
 run:∀ (A:Around) (outer:List Env) (s:Shared) (H:Hp) (args:Args) (us:List Value) (vs:List V) (Q:VK) (E:XK),Room k A->Env0 P w K mg base A outer s H->BindsTo s fd args (ps.zip us)->Vals vs us->sp vs H Q E →
  codeAny (model P w) A (.call (.ref f) args) (CR CX outer P w H s Q E) s
theorem FnOk.imp{P:Program}{w:World}{K:W.Frag}{mg:Str->Option Value}{base:Heap}{CX:GO}{k:Nat}{f:Addr}{fd:FuncData}{ps:List Str}{sp sp':Sp}(F:FnOk P w K mg base CX k f fd ps sp)
  (h:∀ vs H Q E,sp' vs H Q E->sp vs H Q E):FnOk P w K mg base CX k f fd ps sp' :=
 ⟨λvs H Q E q=>F.len vs H Q E (h _ _ _ _ q),λA outer s H args us vs Q E hr he hb hv hs=>F.run A outer s H args us vs Q E hr he hb hv (h _ _ _ _ hs)⟩
theorem Env0.make{P:Program}{w:World}{K:W.Frag}{mg:Str->Option Value}{base:Heap}{A:Around}{outer:List Env}{s:Shared}{H:Hp}(e:Env0 P w K mg base A outer s H)(C:Addr)(us:List Value)(kw:List (Str × Value)) :
  Env0 P w K mg base (A.under (.builtin "type.__call__" ⟨.ref C::us,kw⟩)) outer s H:=⟨by first | exact e.frames | (simpa [Around.under,Code.envs,Code.isFrame,pushEnvs]using e.frames),e.mod,e.bs,e.bsz,e.funs,e.frf,e.hok,e.bare⟩
section
variable{X:Cx}{AA:List (Addr × Obj)}{σ:St}{H:Hp}{s s':Shared}
theorem Inv.env0(I:Inv X AA σ H s):Env0 X.prog X.w X.K X.mg X.base X.A X.stack s H :=
 ⟨I.ok.frames,I.ok.mod,I.bs,Nat.le_trans I.ok.bsz I.sz,I.stack,I.stkFree,I.hok,I.bare⟩
theorem Inv.after{Q:VK}{u:Value}(I:Inv X AA σ H s)(h:CE X.stack X.prog X.w H s Q u s'):EP X AA σ Q u s':=by
 obtain⟨v,H',os,bare,un,hok,r,q⟩:=h
 obtain⟨hh,g,d,t,os'⟩:=s'
 obtain rfl:os'=s.os:=os
 exact⟨v,H',I.call (h':=hh) (g':=g) (d':=d) (t':=t) (ch:=[]) un hok bare (λb z=>absurd z (by simp)),r,q⟩
end
def DD(sp:Sp)(C8:List V)(E:St->XK)(t:TA):TE:=λσ H Q=>t σ H λvs H1=>sp (vs++C8) H1 Q (E σ)
def AR(C:Addr)(m:Str)(sp:Sp)(C8:List V)(E:St->XK)(ta:TE)(t:TA):TE:=λσ H Q=>ta σ H λx H1=>∃ a dx fs,x=.ref a/\H1 a=some (.ins C dx fs)/\fs.lookup m=none ∧
 t σ H1 λvs H2=>sp (x::(vs++C8)) H2 Q (E σ)
def JX(C:Addr)(sp:Sp)(C8:List V)(E:St->XK)(t:TA):TE:=λσ H Q=>t σ H λvs H1=>∀ x dx,H1 x=none->H1 dx=none->dx≠x →
 sp (.ref x::(vs++C8)) (upd (upd H1 dx (.own x)) x (.ins C dx [])) (λv H2=>v=.non/\Q (.ref x) H2) (E σ)
def Binds(K:W.Frag)(fd:FuncData)(ps:List Str)(ds:List Value):Prop :=
 ∀ (s:Shared) (us:List Value),K.In s.heap->(us++ds).length=ps.length->BindsTo s fd ⟨us,[]⟩ (ps.zip (us++ds))
theorem Binds.all{K:W.Frag}{fd:FuncData}{ps:List Str}(h:∀ us:List Value,us.length=ps.length->bindArgs fd ⟨us,[]⟩=pure (ps.zip us)):Binds K fd ps []:=λs us _ hl=>by
 rw[List.append_nil]at hl ⊢
 exact .of_eq (h us hl)
def GP(CX:GO)(X:Cx)(E:St->XK):Prop:=∀ (AA:List (Addr × Obj)) (σ:St) (H:Hp) (s:Shared) (e:Value) (s':Shared),Inv X AA σ H s->CX X.stack H s (E σ) e s'->X.xe e s'
section
variable{X:Cx}{CX:GO}{k:Nat}{f C:Addr}{fd:FuncData}{ps:List Str}{sp:Sp}{C8:List V}{ds:List Value}{E:St->XK}{x m:Str}{p pos CI:Pos}{e o:Expr}{es:List Expr}{ta:TE}{t:TA}
theorem SO{AA:List (Addr × Obj)}{σ:St}{H:Hp}{s:Shared}{Q:VK}{us:List Value}{vs:List V}(F:FnOk X.prog X.w X.K X.mg X.base CX k f fd ps sp)(hr:Room k X.A)(hb:Binds X.K fd ps ds)(hd:Vals C8 ds)(hx:GP CX X E)
  (I:Inv X AA σ H s) (r:Vals vs us) (h:sp (vs++C8) H Q (E σ)):wpAny (model X.prog X.w) X.A (call (.ref f) us) (EP X AA σ Q) X.xe s:=by
 have r2:Vals (vs++C8) (us++ds):=r.append hd
 have hl:(us++ds).length=ps.length:=by rw[<-r2.length];exact F.len _ _ _ _ h
 refine wpAny_call (codeAny_mono (F.run X.A X.stack s H ⟨us,[]⟩ (us++ds) (vs++C8) Q (E σ) hr I.env0 (hb s us I.kIn hl) r2 h) λr s' hq=> ?_)
 cases r with
 | error e=>exact hx AA σ H s e s' I hq
 | ok fl =>
  cases fl with
  | ret u=>exact I.after hq
  | next=>exact False.elim hq
  | brk=>exact False.elim hq
  | cont=>exact False.elim hq
theorem u8(F:FnOk X.prog X.w X.K X.mg X.base CX k f fd ps sp)(hr:Room k X.A)(hg:Gl X x)(hm:X.mg x=some (.ref f))(hk:W.keepIn X.K (.ref f)=true)(hb:Binds X.K fd ps ds)(hd:Vals C8 ds)(hx:GP CX X E)
  (ha:PA X (e::es) t) (hdb:(x ==("__debug__":Str))=false:=by decide) (he:starEach (e::es) X.env=(false,eval e X.env)::starEach es X.env:=by rfl) (CJ:(backTo pos (starEach es X.env)).any (·.1)=false:=by rfl) :
  PE X (.Call (.Name x p) (e::es) [] pos) (DD sp C8 E t):=by
 intro AA s σ H Q I h
 refine wpAny_Call_Name_kw (MZ I hg hm ?_ hdb)
 refine W.callWith_K (h₀:=X.base) I.ok.mod.kin hk (AS (ha pos AA s σ H _ I h) λus s1 ⟨vs,H1,I1,r,q⟩=>⟨I1.kIn,?_⟩) he CJ
 exact SO F hr hb hd hx I1 r q
theorem u9{pl:Sem Bool}(he:PE X o ta)(c:Cls X.K C)(hm:OR X.K C m f)(F:FnOk X.prog X.w X.K X.mg X.base CX k f fd ps sp)(hr:Room k X.A)(hb:Binds X.K fd ps ds)(hd:Vals C8 ds)(hx:GP CX X E)(ha:PA X (e::es) t)
  (hst:starEach (e::es) X.env=(false,eval e X.env)::starEach es X.env:=by rfl) (CJ:(backTo pos (starEach es X.env)).any (·.1)=false:=by rfl)
  (ht:eval (.Call (.Attribute o m CI) (e::es) [] pos) X.env=(do
   let ov ← eval o X.env
   standAt CI.atName
   let (f,first) ← holding [ov] (getMethod ov m pl)
   callWith pos f first (backTo pos (starEach (e::es) X.env)) (backToKw pos (keywordEach [] X.env))):=by rfl) :
  PE X (.Call (.Attribute o m CI) (e::es) [] pos) (AR C m sp C8 E ta t):=by
 intro AA s σ H Q I h
 refine W.methodCall_KW (pl:=pl) (AS (he AA s σ H _ I h) λu s1 hzz=> ?_) ht
 obtain⟨x,H1,I1,rx,a,dx,fs,ex,ea,l,q⟩:=hzz
 subst ex
 obtain rfl:u=Value.ref a:=rx
 refine bQ I1 ea c hm l ?_
 refine W.callWith_K (first:=[.ref a]) (h₀:=X.base) I.ok.mod.kin hm.kp (AS (ha pos AA s1 σ H1 _ I1 q) λus s2 ⟨vs,H2,I2,r,q2⟩=>⟨I2.kIn,?_⟩) hst CJ
 exact SO (us:=.ref a::us) (vs:=.ref a::vs) F hr hb hd hx I2 (.cons rfl r) q2
theorem vA{pl:Sem Bool}(he:PE X o ta)(c:Cls X.K C)(hm:OR X.K C m f)(F:FnOk X.prog X.w X.K X.mg X.base CX k f fd ps sp)(hr:Room k X.A)(hb:Binds X.K fd ps ds)(hd:Vals C8 ds)(hx:GP CX X E)
  (ht:eval (.Call (.Attribute o m CI) [] [] pos) X.env=(do
   let ov ← eval o X.env
   standAt CI.atName
   let (f,first) ← holding [ov] (getMethod ov m pl)
   callWith pos f first (backTo pos (starEach [] X.env)) (backToKw pos (keywordEach [] X.env))):=by rfl) :
  PE X (.Call (.Attribute o m CI) [] [] pos) (AR C m sp C8 E ta BW):=by
 intro AA s σ H Q I h
 refine W.methodCall_KW (pl:=pl) (AS (he AA s σ H _ I h) λu s1 hzz=> ?_) ht
 obtain⟨x,H1,I1,rx,a,dx,fs,ex,ea,l,q⟩:=hzz
 subst ex
 obtain rfl:u=Value.ref a:=rx
 refine bQ I1 ea c hm l ?_
 exact W.callWith_K0 (first:=[.ref a]) I1.kIn hm.kp (SO (us:=[.ref a]) (vs:=[.ref a]) F hr hb hd hx I1 (.cons rfl .nil) q)
structure Mk(K:W.Frag)(C f:Addr):Prop where
 makes:W.makesIn K C=true
 init:W.findIn K (.ref C) "__init__"=some (some (.ref f))
 fn:W.isFn K (.ref f)=true
 kp:W.keepIn K (.ref C)=true
theorem vC{AA:List (Addr × Obj)}{σ:St}{H:Hp}{s:Shared}{Q:VK}{us:List Value}{vs:List V}(M:Mk X.K C f)(F:FnOk X.prog X.w X.K X.mg X.base CX k f fd ps sp)(hr:Room (k+1) X.A)(hb:Binds X.K fd ps ds)(hd:Vals C8 ds)
  (hx:GP CX X E) (I:Inv X AA σ H s) (r:Vals vs us)
  (h:∀ x dx,H x=none->H dx=none->dx≠x->sp (.ref x::(vs++C8)) (upd (upd H dx (.own x)) x (.ins C dx [])) (λv H2=>v=.non/\Q (.ref x) H2) (E σ)) :
  wpAny (model X.prog X.w) X.A (call (.ref C) us) (EP X AA σ Q) X.xe s:=by
 have hq:=h (s.heap.objs.size+1) s.heap.objs.size (I.hok.fresh (Nat.le_succ _)) (I.hok.fresh (Nat.le_refl _)) (Nat.ne_of_lt (Nat.lt_succ_self _))
 have I2:=Inv.made (C:=C) I
 have r2:Vals (V.ref (s.heap.objs.size+1)::(vs++C8)) (Value.ref (s.heap.objs.size+1)::(us++ds)):=.cons rfl (r.append hd)
 have hl:(Value.ref (s.heap.objs.size+1)::us++ds).length=ps.length:=by
  have e:=r2.length
  rw[F.len _ _ _ _ hq]at e
  exact e.symm
 refine wpAny_call (uW (f:=f) I.kIn M.makes M.init (beq_iff_eq.mp M.fn) (codeAny_mono (F.run _ X.stack _ _ ⟨Value.ref (s.heap.objs.size+1)::us,[]⟩ (Value.ref (s.heap.objs.size+1)::(us++ds)) _ _ (E σ) (hr.make C us [])
  (I2.env0.make C us []) (hb _ (Value.ref (s.heap.objs.size+1)::us) I2.kIn hl) r2 hq) λr s' hq'=> ?_))
 cases r with
 | error e=>exact hx AA σ _ _ e s' I2 hq'
 | ok fl =>
  cases fl with
  | ret u =>
   obtain⟨v,H',I3,rv,ev,q3⟩:=I2.after hq'
   subst ev
   exact⟨rv,⟨V.ref (s.heap.objs.size+1),H',I3,rfl,q3⟩⟩
  | next=>exact False.elim hq'
  | brk=>exact False.elim hq'
  | cont=>exact False.elim hq'
theorem vD(M:Mk X.K C f)(F:FnOk X.prog X.w X.K X.mg X.base CX k f fd ps sp)(hr:Room (k+1) X.A)(hg:Gl X x)(hm:X.mg x=some (.ref C))(hb:Binds X.K fd ps ds)(hd:Vals C8 ds)(hx:GP CX X E)
  (ha:PA X (e::es) t) (hdb:(x ==("__debug__":Str))=false:=by decide) (he:starEach (e::es) X.env=(false,eval e X.env)::starEach es X.env:=by rfl) (CJ:(backTo pos (starEach es X.env)).any (·.1)=false:=by rfl) :
  PE X (.Call (.Name x p) (e::es) [] pos) (JX C sp C8 E t):=by
 intro AA s σ H Q I h
 refine wpAny_Call_Name_kw (MZ I hg hm ?_ hdb)
 refine W.callWith_K (h₀:=X.base) I.ok.mod.kin M.kp (AS (ha pos AA s σ H _ I h) λus s1 ⟨vs,H1,I1,r,q⟩=>⟨I1.kIn,?_⟩) he CJ
 exact vC M F hr hb hd hx I1 r q
end
section
variable{X:Cx}{CX:GO}{k:Nat}{f C:Addr}{fd:FuncData}{ps ks:List Str}{sp:Sp}{E:St->XK}{x m:Str}{p pos CI kpos:Pos}{e o:Expr}{es:List Expr}{kws:List Keyword}{te ta:TE}{t tk:TA}{nm:Option Str}
structure zf3(K:W.Frag)(fd:FuncData)(ps ks:List Str)(g:List Value->List Value->List Value)(gV:List V->List V->List V):Prop where
 to:∀ (s:Shared) (us ws:List Value),K.In s.heap->(g us ws).length=ps.length->BindsTo s fd ⟨us,ks.zip ws⟩ (ps.zip (g us ws))
 rel:∀ {vs:List V} {us:List Value} {zs:List V} {ws:List Value},Vals vs us->Vals zs ws->Vals (gV vs zs) (g us ws)
variable{g:List Value->List Value->List Value}{gV:List V->List V->List V}
end
structure FnScope(N P:List Str)(sc:Scope):Prop where
 kind:sc.kind=.function
 co:sc.isCoroutine=false
 gen:sc.isGenerator=false
 nd:N.Nodup
 pre:N.take P.length=P
 par:∀ x∈P,sc.names.lookup x=some .local\/sc.names.lookup x=some .cell
 nofree:∀ y∈sc.names,y.2≠.free
theorem bT{kindOf:Str->Option NameKind}{x:Str}:∀ {binds:List (Str × Value)} {m:Str->Option Value},(∀ v,(x,v)∉binds)->bindL kindOf binds m x=m x
 | [],_,_=>rfl
 | (n,v)::r,m,h=>by
  unfold bindL
  rw[bT λw hw=>h w (List.mem_cons_of_mem _ hw)]
  split
  ·have:x≠n:=by rintro rfl;exact h v List.mem_cons_self
   simp[this]
  ·rfl
theorem bU{kindOf:Str->Option NameKind}{x:Str}:∀ {binds:List (Str × Value)} {m:Str->Option Value},(∀ v,(x,v)∉binds)->bindC kindOf binds m x=m x
 | [],_,_=>rfl
 | (n,v)::r,m,h=>by
  unfold bindC
  rw[bU λw hw=>h w (List.mem_cons_of_mem _ hw)]
  split
  ·rfl
  ·have:x≠n:=by rintro rfl;exact h v List.mem_cons_self
   simp[this]
theorem bV{kindOf:Str->Option NameKind}{x:Str}{v:Value}:∀ {P:List Str} {vs:List Value} {i:Nat} {m:Str->Option Value},P.Nodup->P[i]? =some x->vs[i]? =some v->kindOf x=some .local →
  bindL kindOf (P.zip vs) m x=some v
 | [],_,_,_,_,h,_,_=>by simp at h
 | _::_,[],_,_,_,_,h,_=>by simp at h
 | p::P,w::vs,0,m,nd,h1,h2,hk=>by
  simp at h1 h2;subst h1;subst h2
  show bindL kindOf ((p,w)::P.zip vs) m p=_
  unfold bindL
  rw[bT λv hv=>(List.nodup_cons.mp nd).1 (List.of_mem_zip hv).1,if_pos hk]
  simp
 | p::P,w::vs,i+1,m,nd,h1,h2,hk=>by
  show bindL kindOf ((p,w)::P.zip vs) m x=_
  unfold bindL
  exact bV (i:=i) (List.nodup_cons.mp nd).2 (by simpa using h1) (by simpa using h2) hk
theorem bW{kindOf:Str->Option NameKind}{x:Str}{v:Value}:∀ {P:List Str} {vs:List Value} {i:Nat} {m:Str->Option Value},P.Nodup->P[i]? =some x->vs[i]? =some v->kindOf x≠some .local →
  bindC kindOf (P.zip vs) m x=some v
 | [],_,_,_,_,h,_,_=>by simp at h
 | _::_,[],_,_,_,_,h,_=>by simp at h
 | p::P,w::vs,0,m,nd,h1,h2,hk=>by
  simp at h1 h2;subst h1;subst h2
  show bindC kindOf ((p,w)::P.zip vs) m p=_
  unfold bindC
  rw[bU λv hv=>(List.nodup_cons.mp nd).1 (List.of_mem_zip hv).1,if_neg hk]
  simp
 | p::P,w::vs,i+1,m,nd,h1,h2,hk=>by
  show bindC kindOf ((p,w)::P.zip vs) m x=_
  unfold bindC
  exact bW (i:=i) (List.nodup_cons.mp nd).2 (by simpa using h1) (by simpa using h2) hk
def start(N:List Str)(vs:List V):St:=vs.map some++List.replicate (N.length - vs.length) none
def HF(CX:GO)(P:Program)(w:World)(K:W.Frag)(mg:Str->Option Value)(base:Heap)(N:List Str)(qual:Str)(scope:Scope)(f:Addr)(cd:Value)(A:Around)(outer:List Env)(s:Shared)(H:Hp)(E:XK):Cx where
 prog:=P
 w:=w
 K:=K
 mg:=mg
 base:=base
 A:=A.deeper (envOfC qual scope s.heap.objs.size f cd)
 N:=N
 s₀:=s
 H₀:=H
 env:=envOfC qual scope s.heap.objs.size f cd
 outer:=outer
 stack:=envOfC qual scope s.heap.objs.size f cd::outer
 ex:=[]
 calm:=true
 fn:=λ_=>true
 pn:=[]
 xe:=λe s'=>wpAny (model P w) (A.deeper (envOfC qual scope s.heap.objs.size f cd)) (leaving (envOfC qual scope s.heap.objs.size f cd) e) (λ_ s''=>CX outer H s E e s'') (λe' s''=>CX outer H s E e' s'') s'
theorem bX{sc:Scope}{n:Nat}{x:Str}(h:sc.names.lookup x=some .cell):∃ c,(cellsFrom n sc.names []).lookup x=some c:=by
 have q:=W.cellsFrom_some sc.names n [] (.inl h)
 exact Option.isSome_iff_exists.mp q
theorem vE{CX:GO}{P:Program}{w:World}{K:W.Frag}{mg:Str->Option Value}{base:Heap}{N ps:List Str}{qual:Str}{scope:Scope}{f:Addr}{cd:Value}{A:Around}{outer:List Env}{s s1:Shared}{H:Hp}{E:XK}{us:List Value}{vs:List V}
  (S:FnScope N ps scope) (hd:A.handled=none) (e0:Env0 P w K mg base A outer s H) (hl:vs.length=ps.length) (r:Vals vs us)
  (x:InCallC s s.heap.objs.size (bindL (envOfC qual scope s.heap.objs.size f cd).kindOf (ps.zip us) λ_=>none) (cellsFrom (s.heap.objs.size+1) scope.names []) (bindC (envOfC qual scope s.heap.objs.size f cd).kindOf (ps.zip us) λ_=>none) s1) :
  Inv (HF CX P w K mg base N qual scope f cd A outer s H E) [] (start N vs) H s1:=by
 have CJ:ps.length<=N.length:=by have:=congrArg List.length S.pre;rw[List.length_take]at this;omega
 obtain⟨h1,tk,rfl,hk⟩:=x.done
 have noA:∀ b:Addr,b∉(HF CX P w K mg base N qual scope f cd A outer s H E).ex:=λb z=>absurd (show b∈([]:List Addr)from z) (by simp)
 refine⟨⟨e0.mod,S.kind,rfl,rfl,Nat.le_refl _,λy z c h1 h2=> ?_,λy hy=> ?_,λy c _ h=> ?_,λ_=>hd,Around.frames_deeper e0.frames,.inr ⟨rfl,rfl⟩,λb z=>absurd z (noA b),e0.bs,e0.bsz,λb _ _=>noA b,λb z=>absurd z (noA b),e0.funs,e0.frf⟩,
  rfl,e0.bare,Un.kept hk,⟨_,x.toInCall.ns,λi y v h1 h2 h3=> ?_⟩,λy c h=>⟨_,x.cell y c h⟩,e0.hok.fresh (Nat.le_refl _),λy c h=> ?_,λp hp=>absurd (show p∈([]:List (Addr × Obj))from hp) (by simp),e0.hok.kept hk,?_⟩
 ·exact name_of_addr x.apart (PySem.mem_of_lookup h1) (PySem.mem_of_lookup h2)
 ·have hy:scope.names.lookup y=some .cell\/scope.names.lookup y=some .free:=hy
  rcases hy with hy | hy
  ·exact bX hy
  ·exact absurd rfl (S.nofree _ (PySem.mem_of_lookup hy))
 ·exact Nat.le_of_lt (x.above y c (PySem.mem_of_lookup h))
 ·have hi:i<vs.length:=by
   unfold start at h2
   by_cases hi:i<vs.length
   ·exact hi
   ·rw[List.getElem?_append_right (by simpa using hi)]at h2
    rw[List.getElem?_replicate]at h2
    split at h2<;>cases h2
  have ha:vs[i]? =some v:=by
   unfold start at h2
   rw[List.getElem?_append_left (by simpa using hi),List.getElem?_map]at h2
   cases e:vs[i]? with
   | none=>rw[e]at h2;cases h2
   | some a=>rw[e]at h2;cases h2;rfl
  obtain⟨u,hu,rv⟩:=r.get ha
  have hp:ps[i]? =some y:=by
   rw[<-S.pre,List.getElem?_take_of_lt (by omega)];exact h1
  have ndP:ps.Nodup:=by rw[<-S.pre];exact S.nd.sublist (List.take_sublist _ _)
  refine⟨u,rv,?_⟩
  rcases S.par y (List.mem_of_getElem? hp)with k | k
  ·exact .inl ⟨k,bV ndP hp hu k⟩
  ·obtain⟨c,e⟩:=bX (n:=s.heap.objs.size+1) k
   refine .inr ⟨.inl k,c,e,?_⟩
   have q:=x.cell y c e
   rw[bW ndP hp hu (by show scope.names.lookup y≠_;rw[k];decide)]at q
   exact q
 ·exact e0.hok.fresh (Nat.le_of_lt (x.above y c (PySem.mem_of_lookup h)))
 ·unfold start
  show _=N.length
  rw[List.length_append,List.length_map,List.length_replicate]
  omega
theorem vF{CX:GO}{P:Program}{w:World}{K:W.Frag}{mg:Str->Option Value}{base:Heap}{k:Nat}{f:Addr}{name qual:Str}{params:Arguments}{body:List Stmt}{scope:Scope}{dV kV doc pm BR ct oc:Value}{an od:Option Addr}
  {osl:Array (Option Value)} {N ps:List Str} {sp:Sp} (lk:K.lookup f=some ⟨oc,od,.func (W.fnOf name qual params body scope dV kV doc pm an BR ct),osl⟩) (IN:W.codeIn K BR qual=true) (S:FnScope N ps scope)
  (len:∀ vs H Q E,sp vs H Q E->vs.length=ps.length)
  (aP:∀ (A:Around) (outer:List Env) (s:Shared) (H:Hp) (vs:List V) (Q:VK) (E:XK),Room k (A.deeper (envOfC qual scope s.heap.objs.size f BR))->sp vs H Q E →
   ∃ t,FZ (HF CX P w K mg base N qual scope f BR A outer s H E) body t/\t { nx:=λ_ H'=>Q .non H',rt:=Q } (start N vs) H) :
  FnOk P w K mg base CX (k+1) f (W.fnOf name qual params body scope dV kV doc pm an BR ct) ps sp:=by
 refine⟨len,λA outer s H args us vs Q E hr e0 hb r hsp=> ?_⟩
 have hl:=len _ _ _ _ hsp
 have KX:K.In s.heap:=e0.mod.kin.keeps λb o e=>(e0.bs b o e).1
 have lim:s.heap.NoLimit:=e0.mod.nolimit.keeps λb o e=>(e0.bs b o e).1
 have hkind:∀ y∈ps.zip us,scope.names.lookup y.1=some .local\/(scope.names.lookup y.1=some .cell/\((cellsFrom (s.heap.objs.size+1) scope.names []).lookup y.1).isSome=true):=λ⟨n,v⟩ hy=>by
  rcases S.par n (List.of_mem_zip hy).1 with q | q
  ·exact .inl q
  ·exact .inr ⟨q,W.cellsFrom_some _ _ _ (.inl q)⟩
 refine codeAny_call_function hr.depth (KX _ _ lk) rfl S.co S.gen rfl (W.codeRec_of KX IN) (hb _ _ _ _ ?_)
 refine wpAny_newFunctionEnv_cells S.kind hkind λenv he s1 x=> ?_
 subst he
 refine⟨lim.keeps x.toInCall.keep,codeAny_func ?_⟩
 obtain⟨t,ht,hq⟩:=aP A outer s H vs Q E (hr.deeper _) hsp
 have I:Inv (HF CX P w K mg base N qual scope f BR A outer s H E) [] (start N vs) H s1:=vE S hr.hd e0 hl r x
 refine wpAny_mono (ht [] s1 (start N vs) H _ I hq) (λfl s' hs=> ?_) λe s' hs=>hs
 have fin:∀ {σ':St} {H':Hp} {v:V} {u:Value},Inv (HF CX P w K mg base N qual scope f BR A outer s H E) [] σ' H' s'->RelV v u->Q v H'->CE outer P w H s Q u s' :=
  λ{σ' H' v u} J rv q=>⟨v,H',J.os,J.bare,J.base,J.hok,rv,q⟩
 cases fl with
 | ret u =>
  obtain⟨v,σ',H',J,rv,q⟩:=hs
  exact fin J rv q
 | next =>
  obtain⟨σ',H',J,q⟩:=hs
  exact fin (v:=V.non) (u:=Value.none) J rfl q
 | brk =>
  obtain⟨_,_,_,q⟩:=hs
  exact False.elim q
 | cont =>
  obtain⟨_,_,_,q⟩:=hs
  exact False.elim q
end L2
namespace L2
section
variable{X:Cx}{x:Str}{p pos:Pos}{e:Expr}{es:List Expr}{t:TA}{id T:String}{r:List V->Hp->VK->Prop}
def DE(r:List V->Hp->VK->Prop)(t:TA):TE:=λσ H Q=>t σ H λvs H1=>r vs H1 Q
theorem EX(hc:F1 X (.builtin id) r)(hg:Gl X x)(hm:X.mg x=none)(hv:bootBuiltins x=some (.builtin id))(ha:PA X (e::es) t)(hn:x≠"__name__":=by decide)(hdb:(x ==("__debug__":Str))=false:=by decide)
  (he:starEach (e::es) X.env=(false,eval e X.env)::starEach es X.env:=by rfl) (CJ:(backTo pos (starEach es X.env)).any (·.1)=false:=by rfl):PE X (.Call (.Name x p) (e::es) [] pos) (DE r t):=by
 intro AA s σ H Q I h
 refine wpAny_Call_Name_kw (OF I hg hm hv ?_ hn hdb)
 exact PyProof.Rows.callWith_builtin1 (AS (ha pos AA s σ H _ I h) λus s1 ⟨vs,H1,I1,r1,q1⟩=>hc AA s1 σ H1 vs us Q I1 r1 q1) he CJ
theorem JY(hc:F1 X (.type T) r)(hg:Gl X x)(hm:X.mg x=none)(hv:bootBuiltins x=some (.type T))(ha:PA X (e::es) t)(hn:x≠"__name__":=by decide)(hdb:(x ==("__debug__":Str))=false:=by decide)
  (he:starEach (e::es) X.env=(false,eval e X.env)::starEach es X.env:=by rfl) (CJ:(backTo pos (starEach es X.env)).any (·.1)=false:=by rfl):PE X (.Call (.Name x p) (e::es) [] pos) (DE r t):=by
 intro AA s σ H Q I h
 refine wpAny_Call_Name_kw (OF I hg hm hv ?_ hn hdb)
 exact PyProof.Rows.callWith_type1 (AS (ha pos AA s σ H _ I h) λus s1 ⟨vs,H1,I1,r1,q1⟩=>hc AA s1 σ H1 vs us Q I1 r1 q1) he CJ
end
end L2
namespace HT
open PySem PyProof.Rows
section
open PySem.SeqAt
open PySem.AutoSeq1 (wpAny_loadPart')
open PySem.MeetsSeq PySem.MeetsSeq2 PySem.MeetsSeq3
end
section
variable{prog:Program}{w:World}{A:Around}{E:Value->Shared->Prop}{s:Shared}
theorem cat_tup{t b:Addr}{vs ws:List Value}{Q:Value->Shared->Prop}(ht:IsTup s.heap t vs.toArray)(hb:IsTup s.heap b ws.toArray)(hv:vs≠[])
  (h1:ws=[]->Q (.ref t) s) (h2:ws≠[]->Q (.ref s.heap.objs.size) { s with heap:=s.heap.push { cls:=.type "tuple",data:=.seq (vs++ws).toArray } })
  (hsz:vs.length+ws.length<=sizeLine):wpAny (model prog w) A (binaryOp .Add (.ref t) (.ref b)) Q E s:=by
 obtain⟨⟨cls,dd,data,sl⟩,ho,hc,n,hd⟩:=id ht
 obtain⟨⟨cls2,dd2,data2,sl2⟩,ho2,hc2,n2,hd2⟩:=id hb
 simp only at hc hd hc2 hd2
 subst hc hd hc2 hd2
 have e:vs.toArray++ws.toArray=(vs++ws).toArray:=by simp
 by_cases hw:ws=[]
 ·exact concat_meets ⟨_,ho,rfl⟩ ⟨_,ho2,rfl⟩ noFill_tuple_add seq_tuple_add PySem.F.slot_tuple_add PySem.F.entry_tuple_add (PySem.F.args_tuple_add_2 _ _)
   (tuple_addW1 t b vs.toArray ws.toArray n n2 dd dd2 sl sl2 (by simpa using hv) (by simp[hw])) ⟨ho,ho2,h1 hw⟩
 ·refine concat_meets ⟨_,ho,rfl⟩ ⟨_,ho2,rfl⟩ noFill_tuple_add seq_tuple_add PySem.F.slot_tuple_add PySem.F.entry_tuple_add (PySem.F.args_tuple_add_2 _ _)
   (tuple_addW2 t b vs.toArray ws.toArray n n2 dd dd2 sl sl2 (by simpa using hv) (by simpa using hw) (by rw[List.size_toArray,List.size_toArray];exact hsz)) ⟨ho,ho2,?_⟩
  rw[e]
  exact h2 hw
def sIx(n d:Nat):Option Int->Nat
 | none=>d
 | some v=>if v<0 then(v+(n:Int)).toNat else min v.toNat n
theorem sIx_none(n d:Nat):sIx n d none=d:=rfl
theorem vG(n d:Nat)(hd:d<=n)(o:Option Int):sIx n d o<=n:=by
 cases o with
 | none=>exact hd
 | some v =>
  show(if v<0 then(v+(n:Int)).toNat else min v.toNat n)<=n
  by_cases hv:v<0
  ·rw[if_pos hv];omega
  ·rw[if_neg hv];exact Nat.min_le_right _ _
theorem bY(v:Int)(n d:Nat):(if v<0 then max (v+(n:Int)) 0 else min v (n:Int))=((sIx n d (some v):Nat):Int):=by
 show(if v<0 then max (v+(n:Int)) 0 else min v (n:Int))=(((if v<0 then(v+(n:Int)).toNat else min v.toNat n):Nat):Int)
 by_cases hv:v<0
 ·simp only[if_pos hv];omega
 ·simp only[if_neg hv];omega
theorem vH(lo hi:Option Int)(n:Nat):Builtin.Slice.sliceAdjust lo hi 1 (n:Int)=(((sIx n 0 lo:Nat):Int),((sIx n n hi:Nat):Int)):=by
 have h1:¬ ((1:Int)<0):=by omega
 unfold Builtin.Slice.sliceAdjust
 simp only[h1,if_false]
 refine Prod.ext ?_ ?_
 ·cases lo with
  | none=>rfl
  | some v=>exact bY v n 0
 ·cases hi with
  | none=>rfl
  | some v=>exact bY v n n
theorem vI(i j:Nat):Builtin.Slice.slicePlaces (i:Int) (j:Int) 1=j - i:=by
 unfold Builtin.Slice.slicePlaces
 have h1:(1:Int) > 0:=by omega
 simp only[h1,if_true,Int.ediv_one]
 split<;>omega
theorem bZ{v:Value}{o:Option Int}{Q:Option Int->Shared->Prop}(p:IsPart v o)(h:Q o s):wpAny (model prog w) A (Builtin.Slice.slicePartIndex v) Q E s:=by
 cases p with
 | none=>exact slicePart_none h
 | int i t=>exact slicePart_int h
theorem vJ{sl:Addr}{vl vu:Value}{lo hi:Option Int}{n:Nat}{Q:Int × Int × Nat->Shared->Prop}(hs:s.heap.IsSliceOf sl vl vu .none)(pl:IsPart vl lo)(pu:IsPart vu hi)
  (h:Q (((sIx n 0 lo:Nat):Int),1,sIx n n hi - sIx n 0 lo) s):wpAny (model prog w) A (Builtin.Slice.sliceApplied (.ref sl) (pure (n:Int))) Q E s:=by
 obtain⟨os,hos,hcs,hds⟩:=id hs
 unfold Builtin.Slice.sliceApplied Builtin.Slice.sliceFields
 refine wpAny_bind (wpAny_bind (wpAny_field hos hds (x:=vl) rfl (wpAny_bind (wpAny_field hos hds (x:=vu) rfl (wpAny_bind (wpAny_field hos hds (x:=.none) rfl (wpAny_pure ?_)))))))
 refine wpAny_bind (slicePart_none ?_)
 show wpAny _ _ (if((1:Int) == 0)=true then _ else _) _ _ s
 rw[if_neg (by decide)]
 refine wpAny_bind (bZ pl (wpAny_bind (bZ pu (wpAny_bind (wpAny_pure ?_)))))
 show wpAny _ _ (match Builtin.Slice.sliceAdjust lo hi 1 (n:Int)with | (lo,hi)=>pure (lo,(1:Int),Builtin.Slice.slicePlaces lo hi 1)) _ _ s
 rw[vH lo hi n]
 show wpAny _ _ (pure (((sIx n 0 lo:Nat):Int),(1:Int),Builtin.Slice.slicePlaces ((sIx n 0 lo:Nat):Int) ((sIx n n hi:Nat):Int) 1)) _ _ s
 rw[vI]
 exact wpAny_pure h
theorem vK(xs:Array Value)(i k:Nat):((List.range k).filterMap λ(m:Nat)=>xs[((i:Int)+(m:Int) * 1).toNat]?).toArray=((xs.toList.drop i).take k).toArray:=by
 have e:(λ(m:Nat)=>xs[((i:Int)+(m:Int) * 1).toNat]?)=λm=>xs[i+m]? :=by
  funext m
  have:((i:Int)+(m:Int) * 1).toNat=i+m:=by omega
  rw[this]
 rw[e]
 have:=pick_run xs i k
 rw[List.filterMap_map]at this
 have e2:((λx=>xs[x]?) ∘ λx=>i+x)=λm=>xs[i+m]? :=rfl
 rw[e2]at this
 rw[this]
theorem getItem_tuple_cut{t sl:Addr}{BI:Array Value}{vl vu:Value}{lo hi:Option Int}{Q:Value->Shared->Prop}(ht:IsTup s.heap t BI)(hs:s.heap.IsSliceOf sl vl vu .none)(pl:IsPart vl lo)(pu:IsPart vu hi)
  (hw:¬ (sIx BI.size 0 lo=0/\sIx BI.size BI.size hi=BI.size))
  (h:Q (.ref s.heap.objs.size) { s with heap:=s.heap.push { cls:=.type "tuple",data:=.seq ((BI.toList.drop (sIx BI.size 0 lo)).take (sIx BI.size BI.size hi - sIx BI.size 0 lo)).toArray } })
  (hsz:BI.size<=sizeLine):wpAny (model prog w) A (getItem (.ref t) (.ref sl)) Q E s:=by
 have htake:sizeOk (.seq ((BI.toList.drop (sIx BI.size 0 lo)).take (sIx BI.size BI.size hi - sIx BI.size 0 lo)).toArray):=by
  show((BI.toList.drop (sIx BI.size 0 lo)).take (sIx BI.size BI.size hi - sIx BI.size 0 lo)).toArray.size<=sizeLine
  rw[List.size_toArray,List.length_take,List.length_drop,Array.length_toList]
  omega
 have hj:sIx BI.size BI.size hi<=BI.size:=vG _ _ (Nat.le_refl _) hi
 obtain⟨os,hos,hcs,hds⟩:=id hs
 have hTs:s.TypeIs (.ref sl) "slice":=⟨os,hos,hcs⟩
 unfold getItem
 try with_reducible refine wpAny_holding ?_
 first | refine wpAny_bind (wpAny_pure ?_) | skip
 refine wpAny_bind (wpAny_sequenceKey ht.typeIs (by decide) ?_)
 refine wpAny_bind (wpAny_callSpecial?_slot (name:=Str.ofString "__getitem__") ht.typeIs PyProof.Rows.slot_tuple_getitem
  (wpAny_call_entry PyProof.Rows.slot_tuple_getitem ht.typeIs entry_tuple_getitem ?_ (args_tuple_getitem _ _)))
 show wpAny _ _ (Builtin.Tuple.tupleItemsOf (.ref t) >>= _) _ _ s
 refine wpAny_bind (tupleItemsOf_ ht ?_)
 refine wpAny_bind (wpAny_typeOf hTs ?_)
 rw[if_pos (by decide)]
 refine wpAny_bind (vJ hs pl pu ?_)
 have hno:¬ ((((sIx BI.size 0 lo:Nat):Int) == 0 && (1:Int) == 1 && (sIx BI.size BI.size hi - sIx BI.size 0 lo) == BI.size)=true):=by
  intro q
  rw[Bool.and_eq_true,Bool.and_eq_true]at q
  have q1:((sIx BI.size 0 lo:Nat):Int)=0:=eq_of_beq q.1.1
  have q2:sIx BI.size BI.size hi - sIx BI.size 0 lo=BI.size:=eq_of_beq q.2
  exact hw ⟨by omega,by omega⟩
 show wpAny _ _ (if(((sIx BI.size 0 lo:Nat):Int) == 0 && (1:Int) == 1 && (sIx BI.size BI.size hi - sIx BI.size 0 lo) == BI.size)=true then _ else _) _ _ s
 rw[if_neg hno,vK]
 first
  | exact wpAny_bind (m:=Builtin.Tuple.tupleExact _) (wpAny_newObj_type (wpAny_pure ⟨_,rfl,wpAny_pure h⟩) htake)
  | exact wpAny_bind (m:=Builtin.Tuple.tupleExact _) (wpAny_newObj_type (wpAny_bind (wpAny_pure (wpAny_pure ⟨_,rfl,wpAny_pure h⟩))) htake)
  | exact wpAny_bind (wpAny_bind (m:=Builtin.Tuple.tupleExact _) (wpAny_newObj_type (wpAny_pure (wpAny_pure ⟨_,rfl,wpAny_pure h⟩)) htake))
  | exact wpAny_bind (wpAny_bind (m:=Builtin.Tuple.tupleExact _) (wpAny_newObj_type (wpAny_pure ⟨_,rfl,wpAny_pure h⟩) htake))
end
end HT
namespace L2
abbrev TO:=St->Hp->(Option Int->Hp->Prop)->Prop
def PO(X:Cx)(e:Option Expr)(t:TO):Prop :=
 ∀ (AA:List (Addr × Obj)) (s:Shared) (σ:St) (H:Hp) (Q:Option Int->Hp->Prop),Inv X AA σ H s->t σ H Q →
  wpAny (model X.prog X.w) X.A (evalPart e X.env) (λu s'=>∃ o H',Inv X AA σ H' s'/\IsPart u o/\Q o H') X.xe s
def LO:TO:=λ_ H Q=>Q none H
def JZ(t:TE):TO:=λσ H Q=>t σ H λx H1=>∃ i,x=.int i/\Q (some i) H1
section
variable{X:Cx}{e:Expr}{te:TE}{lo hi:Option Expr}{tl th:TO}{pos p2:Pos}
theorem OT:PO X none LO:=by
 intro AA s σ H Q I h
 rw[evalPart_none]
 exact wpAny_pure ⟨none,H,I,.none,h⟩
theorem LP(h:PE X e te):PO X (some e) (JZ te):=by
 intro AA s σ H Q I hw
 rw[evalPart_some]
 refine AS (h AA s σ H _ I hw) λu s1 hzz=> ?_
 obtain⟨x,H1,I1,r1,q1⟩:=hzz
 obtain⟨i,rfl,q⟩:=q1
 obtain⟨t,rfl⟩:=r1
 exact⟨some i,H1,I1,.int i t,q⟩
def SlR(X:Cx)(r:V->Option Int->Option Int->Hp->VK->Prop):Prop :=
 ∀ (AA:List (Addr × Obj)) (s:Shared) (σ:St) (H:Hp) (x:V) (v vl vu:Value) (lo hi:Option Int) (sl:Addr) (Q:VK),Inv X AA σ H s->RelV x v->s.heap.IsSliceOf sl vl vu .none->IsPart vl lo->IsPart vu hi->r x lo hi H Q →
  ∃ T id,typeLookup (.type T) "__getitem__"=pure (some (.builtin id))/\s.TypeIs v T/\wpAny (model X.prog X.w) X.A (getItem v (.ref sl)) (EP X AA σ Q) X.xe s
theorem SlR.or{r r':V->Option Int->Option Int->Hp->VK->Prop}(h:SlR X r)(h':SlR X r'):SlR X (λx lo hi H Q=>r x lo hi H Q\/r' x lo hi H Q):=by
 intro AA s σ H x v vl vu lo hi sl Q I rx hs pl pu q
 rcases q with q | q
 ·exact h AA s σ H x v vl vu lo hi sl Q I rx hs pl pu q
 ·exact h' AA s σ H x v vl vu lo hi sl Q I rx hs pl pu q
def KR(r:V->Option Int->Option Int->Hp->VK->Prop)(te:TE)(tl th:TO):TE:=λσ H Q=>te σ H λx H1=>tl σ H1 λl H2=>th σ H2 λu H3=>r x l u H3 Q
theorem NA{r:V->Option Int->Option Int->Hp->VK->Prop}(hr:SlR X r)(he:PE X e te)(hl:PO X lo tl)(hu:PO X hi th):PE X (.Subscript e (.Slice lo hi none p2) pos) (KR r te tl th):=by
 intro AA s σ H Q I h
 refine Subscript_ (AS (he AA s σ H _ I h) λv s1 hzz=> ?_)
 obtain⟨x,H1,I1,r1,q1⟩:=hzz
 refine wpAny_Slice (AS (hl AA s1 σ H1 _ I1 q1) λvl s2 ⟨l,H2,I2,pl,q2⟩=>AS (hu AA s2 σ H2 _ I2 q2) λvu s3 hzz=> ?_)
 obtain⟨u,H3,I3,pu,q3⟩:=hzz
 rw[evalPart_none]
 refine wpAny_pure ?_
 have I4:Inv X AA σ H3 { s3 with heap:=s3.heap.push { cls:=.type "slice",data:=.fields #[vl,vu,.none] } }:=I3.kept (t':=s3.toks) λb ob q=>Heap.get?_push_of_some _ q
 obtain⟨T,id,hT,ht,hg⟩:=hr AA { s3 with heap:=s3.heap.push { cls:=.type "slice",data:=.fields #[vl,vu,.none] } } σ H3 x v vl vu l u s3.heap.objs.size Q I4 r1 (Heap.IsSliceOf.new ..) pl pu q3
 show wpAny (model X.prog X.w) X.A (subscriptTail e (.Slice lo hi none p2) v (.ref s3.heap.objs.size)) (EP X AA σ Q) X.xe { s3 with heap:=s3.heap.push { cls:=.type "slice",data:=.fields #[vl,vu,.none] } }
 exact tail_any (ops:=[.ref s3.heap.objs.size,v]) ht hT hg (by with_unfolding_all rfl)
def EY(xs:List V)(lo hi:Option Int):List V:=(xs.drop (HT.sIx xs.length 0 lo)).take (HT.sIx xs.length xs.length hi - HT.sIx xs.length 0 lo)
theorem cA(xs:List V)(lo hi:Option Int):(EY xs lo hi).length<=xs.length:=by
 unfold EY
 rw[List.length_take,List.length_drop]
 omega
def cB(K:W.Frag):V->Option Int->Option Int->Hp->VK->Prop:=λx lo hi H Q=>∃ a xs,x=.ref a/\SqT K H a xs ∧
 ¬ (HT.sIx xs.length 0 lo=0/\HT.sIx xs.length xs.length hi=xs.length)/\∀ p,H p=none->Q (.ref p) (upd H p (.tup (EY xs lo hi)))
theorem vL:SlR X (cB X.K):=by
 intro AA s σ H x v vl vu lo hi sl Q I rx hs pl pu h
 obtain⟨a,xs,rfl,hx,hw,q⟩:=h
 cases rx
 obtain⟨its,r,ht,hz⟩:=I.tuple hx
 have BU:its.toArray.size=xs.length:=by rw[List.size_toArray];exact r.length.symm
 refine⟨"tuple",_,PyProof.Rows.slot_tuple_getitem.lookup,ht.typeIs,?_⟩
 refine HT.getItem_tuple_cut ht hs pl pu (by rw[BU];exact hw) ?_ (by rw[BU];exact hz)
 rw[BU]
 refine⟨.ref s.heap.objs.size,_,I.laid (t':=s.toks) (o:=.tup (EY xs lo hi)) (λb ob q=>Heap.get?_push_of_some _ q) (Nat.le_refl _) ?_,rfl,q _ (I.hok.fresh (Nat.le_refl _))⟩
 exact⟨Nat.le_trans (cA xs lo hi) hz,_,(r.drop (HT.sIx xs.length 0 lo)).take (HT.sIx xs.length xs.length hi - HT.sIx xs.length 0 lo),IsTup.new _ _⟩
def SQ(K:W.Frag):R2:=λx y H Q=>∃ a b xs ys,x=.ref a/\y=.ref b/\SqT K H a xs/\SqT K H b ys/\xs≠[]/\xs.length+ys.length<=sizeLine ∧
 (ys=[]->Q (.ref a) H)/\(ys≠[]->∀ p,H p=none->Q (.ref p) (upd H p (.tup (xs++ys))))
theorem Vals.nil_iff{xs:List V}{us:List Value}(r:Vals xs us):us=[]↔xs=[]:=by
 cases r with
 | nil=>simp
 | cons _ _=>simp
theorem vM:B2 X (binaryOp .Add) (SQ X.K):=by
 intro AA s σ H x y v u Q I rx ry h
 obtain⟨a,b,xs,ys,rfl,rfl,ha,hb,hx,hz,q1,q2⟩:=h
 cases rx
 cases ry
 obtain⟨its,r1,p1,_⟩:=I.tuple ha
 obtain⟨OA,r2,p2,_⟩:=I.tuple hb
 refine HT.cat_tup p1 p2 (λz=>hx (r1.nil_iff.mp z)) (λz=>⟨.ref a,H,I,rfl,q1 (r2.nil_iff.mp z)⟩) (λz=> ?_) (by rw[<-r1.length,<-r2.length];exact hz)
 refine⟨.ref s.heap.objs.size,_,I.laid (t':=s.toks) (o:=.tup (xs++ys)) (λb ob q=>Heap.get?_push_of_some _ q) (Nat.le_refl _) ?_,rfl,q2 (λw=>z (r2.nil_iff.mpr w)) _ (I.hok.fresh (Nat.le_refl _))⟩
 exact⟨by rw[List.length_append];exact hz,_,r1.append r2,IsTup.new _ _⟩
end
end L2
namespace L2
def IW(n:Nat)(i:Int):Option Nat:=if 0<=i then(if i<n then some i.toNat else none)else if -(n:Int)<=i then some (i+n).toNat else none
def KS{α :Type}(xs:List α)(i:Int):Option α :=(IW xs.length i).bind λj=>xs[j]?
theorem cC{n:Nat}{i:Int}{j:Nat}(h:IW n i=some j):seqIndex? i n=some j/\j<n/\ -(n:Int)<=i/\i<n:=by
 unfold IW at h
 by_cases h0:0<=i
 ·rw[if_pos h0]at h
  by_cases h1:i<n
  ·rw[if_pos h1]at h
   have e:i.toNat=j:=Option.some.inj h
   exact⟨by rw[seqIndex_of h0 h1,e],by omega,by omega,h1⟩
  ·rw[if_neg h1]at h;cases h
 ·rw[if_neg h0]at h
  by_cases h1: -(n:Int)<=i
  ·rw[if_pos h1]at h
   have e:(i+n).toNat=j:=Option.some.inj h
   exact⟨by rw[seqIndex_neg (by omega) h1,e],by omega,h1,by omega⟩
  ·rw[if_neg h1]at h;cases h
theorem SR{α :Type}{xs:List α}{i:Int}{v: α}(h:KS xs i=some v):∃ j,seqIndex? i xs.length=some j/\xs[j]? =some v/\j<xs.length/\ -(xs.length:Int)<=i/\i<xs.length:=by
 unfold KS at h
 cases e:IW xs.length i with
 | none=>rw[e]at h;cases h
 | some j =>
  rw[e]at h
  obtain⟨h1,h2,h3,h4⟩:=cC e
  exact⟨j,h1,h,h2,h3,h4⟩
theorem OU{α :Type}{xs:List α}{j:Nat}{v: α}(h:xs[j]? =some v):KS xs (j:Int)=some v:=by
 have hj:j<xs.length:=(List.getElem?_eq_some_iff.mp h).1
 have e:IW xs.length (j:Int)=some j:=by
  unfold IW
  rw[if_pos (by omega),if_pos (by omega)];simp
 unfold KS;rw[e];exact h
def vN(b:Expr):Prop:=∀ o i,subscripted b false o i=operate [o,i] (getItem o i)
def IxR(X:Cx)(r:R2):Prop :=
 ∀ (value slice:Expr) (AA:List (Addr × Obj)) (s:Shared) (σ:St) (H:Hp) (x y:V) (v u:Value) (Q:VK),Inv X AA σ H s->RelV x v->RelV y u->r x y H Q →
  subscripted slice false v u=operate [v,u] (getItem v u)->wpAny (model X.prog X.w) X.A (subscriptTail value slice v u) (EP X AA σ Q) X.xe s
def SS(X:Cx)(id:String)(r:V->List V->Hp->VK->Prop):Prop :=
 ∀ (AA:List (Addr × Obj)) (s:Shared) (σ:St) (H:Hp) (x:V) (xs:List V) (v:Value) (us:List Value) (Q:VK),Inv X AA σ H s->RelV x v->Vals xs us->r x xs H Q →
  wpAny (model X.prog X.w) X.A (call (.builtin id) (v::us)) (EP X AA σ Q) X.xe s
section
variable{X:Cx}{a b:Expr}{ta tb:TE}{pos:Pos}
theorem IxR.or{r r':R2}(h:IxR X r)(h':IxR X r'):IxR X (λx y H Q=>r x y H Q\/r' x y H Q):=by
 intro value slice AA s σ H x y v u Q I rx ry q hs
 rcases q with q | q
 ·exact h value slice AA s σ H x y v u Q I rx ry q hs
 ·exact h' value slice AA s σ H x y v u Q I rx ry q hs
theorem CD{r:R2}(hr:IxR X r)(ha:PE X a ta)(hb:PE X b tb)(hs:vN b):PE X (.Subscript a b pos) (AG r ta tb):=by
 intro AA s σ H Q I h
 exact Subscript_ (SE ha hb I h λv u s2 x y H2 I2 rx ry q=>hr a b AA s2 σ H2 x y v u Q I2 rx ry q (hs _ _))
def cD(K:W.Frag):R2:=λx y H Q=>∃ p xs i v,x=.ref p/\y=.int i/\SqL K H p xs/\KS xs i=some v/\Q v H
def cE(K:W.Frag):R2:=λx y H Q=>∃ p xs i v,x=.ref p/\y=.int i/\SqT K H p xs/\KS xs i=some v/\Q v H
def cF:R2:=λx y H Q=>∃ z i c,x=.str z/\y=.int i/\z.length<=sizeLine/\KS z.cps.toList i=some c/\Q (.str ⟨#[c]⟩) H
theorem vO:IxR X (cD X.K):=by
 intro value slice AA s σ H x y v u Q I rx ry h hs
 obtain⟨p,xs,i,z,rfl,rfl,hq,he,q⟩:=h
 cases rx
 obtain⟨t,rfl⟩:=ry
 obtain⟨its,r,pl,hz⟩:=I.list hq
 obtain⟨j,h1,h2,h3,h4,h5⟩:=SR he
 obtain⟨w,ew,rw'⟩:=r.get h2
 have hl:=r.length
 have hn:=LN
 have fin:EP X AA σ Q w s:=⟨z,H,I,rw',q⟩
 by_cases h0:0<=i
 ·have hj:i.toNat=j:=by
   rw[seqIndex_of h0 h5]at h1
   exact Option.some.inj h1
  exact item_listR pl.isList h0 (by omega) (by rw[hj];simpa using ew) fin hs
 ·have hj:(i+(its.toArray.size:Int)).toNat=j:=by
   rw[seqIndex_neg (by omega) h4]at h1
   rw[List.size_toArray,<-hl]
   exact Option.some.inj h1
  exact subscriptTail_builtinR (x:=w) pl.isList.typeIs slot_list_getitem.lookup
   (wpAny_getItem_list_neg (Q:=λr s'=>r=w/\EP X AA σ Q r s') pl.isList (by omega) (by rw[List.size_toArray]<;>omega) (by omega) (by rw[hj];simpa using ew) ⟨rfl,fin⟩) hs
theorem vP:IxR X (cE X.K):=by
 intro value slice AA s σ H x y v u Q I rx ry h hs
 obtain⟨p,xs,i,z,rfl,rfl,hq,he,q⟩:=h
 cases rx
 obtain⟨t,rfl⟩:=ry
 obtain⟨its,r,pl,hz⟩:=I.tuple hq
 obtain⟨j,h1,h2,h3,h4,h5⟩:=SR he
 obtain⟨w,ew,rw'⟩:=r.get h2
 have hl:=r.length
 have hn:=LN
 have fin:EP X AA σ Q w s:=⟨z,H,I,rw',q⟩
 exact subscriptTail_builtinR (x:=w) pl.typeIs slot_tuple_getitem.lookup
  (getItem_tuple (j:=j) (Q:=λr s'=>r=w/\EP X AA σ Q r s') pl (by omega) (by omega) (by rw[List.size_toArray,<-hl];exact h1) (by simpa using ew) ⟨rfl,fin⟩) hs
theorem vQ:IxR X cF:=by
 intro value slice AA s σ H x y v u Q I rx ry h hs
 obtain⟨z,i,c,rfl,rfl,hz,he,q⟩:=h
 obtain⟨t,rfl⟩:=rx
 obtain⟨t',rfl⟩:=ry
 obtain⟨j,h1,h2,h3,h4,h5⟩:=SR he
 have hl:z.cps.toList.length=z.length:=by simp[Str.length]
 rw[hl]at h1 h4 h5
 have hn:=LN
 exact tail_any (typeIs_str s z t) slot_str_getitem.lookup (getItem_str (c:=c) (by
  have e1:decide (i< -(2 ^ 63:Int))=false:=decide_eq_false (by omega)
  have e2:decide (i ≥ 2 ^ 63)=false:=decide_eq_false (by omega)
  rw[e1,e2,Bool.or_false]) (by rw[h1];simpa using h2) ⟨.str ⟨#[c]⟩,H,I.tok _,⟨_,rfl⟩,q⟩) hs
def cG(K:W.Frag):R2:=λx y H Q=>cD K x y H Q\/cE K x y H Q\/cF x y H Q
theorem vR:IxR X (cG X.K):=vO.or (vP.or vQ)
theorem vS(its:List Value)(n j:Nat)(u:Value):Obj.mapSeq (·.setIfInBounds j u) { cls:=.type "list",data:=.seq its.toArray n }={ cls:=.type "list",data:=.seq (its.set j u).toArray n }:=by
 simp[Obj.mapSeq]
theorem Inv.lst{AA:List (Addr × Obj)}{σ:St}{H:Hp}{s:Shared}{p:Addr}{xs:List V}(I:Inv X AA σ H s)(h:H p=some (.lst xs)) :
  ∃ (its:List Value) (n:Nat),Vals xs its/\s.heap.get? p=some { cls:=.type "list",data:=.seq its.toArray n }/\xs.length<=sizeLine:=by
 obtain⟨z,its,n,r,e⟩:=I.hok p _ h
 exact⟨its,n,r,e,z⟩
theorem Inv.lstUpd{AA:List (Addr × Obj)}{σ:St}{H:Hp}{s:Shared}{p:Addr}{xs ys:List V}{its its':List Value}{n n':Nat}{f:Obj->Obj}(I:Inv X AA σ H s)(h:H p=some (.lst xs))
  (ho:s.heap.get? p=some { cls:=.type "list",data:=.seq its.toArray n }) (hf:f { cls:=.type "list",data:=.seq its.toArray n }={ cls:=.type "list",data:=.seq its'.toArray n' }) (r:Vals ys its') (hz:ys.length<=sizeLine) (t:Nat) :
  Inv X AA σ (upd H p (.lst ys)) { s with heap:=s.heap.update p f,toks:=t }:=by
 have e:(s.heap.update p f).get? p=some { cls:=.type "list",data:=.seq its'.toArray n' }:=by
  rw[Heap.get?_update_self f ho (by rw[hf]<;>rfl),hf]
 refine I.write (x:=p) (e:=p) (by rw[h];trivial) (.inl rfl) (λb u hb q=>(Heap.get?_update_other _ _ (Ne.symm hb)).trans q) ⟨_,e⟩ ?_
 exact⟨hz,its',n',r,e⟩
def cH:V->V->V->Hp->(Hp->Prop)->Prop:=λo i v H Q=>∃ p xs k j,o=.ref p/\i=.int k/\H p=some (.lst xs)/\IW xs.length k=some j/\Q (upd H p (.lst (xs.set j v)))
theorem vT:R9 X cH:=by
 intro AA s σ H o i v ov iv u Q I ro ri rv h
 obtain⟨p,xs,k,j,rfl,rfl,hp,hj,q⟩:=h
 cases ro
 obtain⟨t,rfl⟩:=ri
 obtain⟨its,n,r,ho,hz⟩:=I.lst hp
 obtain⟨h1,h2,h3,h4⟩:=cC hj
 have hl:=r.length
 have hn:=LN
 have I':Inv X AA σ (upd H p (.lst (xs.set j v))) { s with heap:=s.heap.update p (Obj.mapSeq (·.setIfInBounds j u)) } :=
  I.lstUpd hp ho (vS its n j u) (r.set rv j) (by rw[List.length_set];exact hz) s.toks
 by_cases h0:0<=k
 ·have hk:k.toNat=j:=by
   rw[seqIndex_of h0 h4]at h1
   exact Option.some.inj h1
  exact W.ki_setAt ho h0 (by omega) (by rw[List.size_toArray,<-hl];exact h4) (by rw[hk];exact⟨_,I',q⟩)
 ·have hk:(k+(its.toArray.size:Int)).toNat=j:=by
   rw[seqIndex_neg (by omega) h3]at h1
   rw[List.size_toArray,<-hl]
   exact Option.some.inj h1
  exact W.ki_setBack ho (by omega) (by rw[List.size_toArray,<-hl];exact h3) (by omega) (by rw[hk];exact⟨_,I',q⟩)
theorem vU(lo hi:Option Int)(n:Nat):(sliceBounds lo hi none n).1=((HT.sIx n 0 lo:Nat):Int)/\(sliceBounds lo hi none n).2.1=((HT.sIx n n hi:Nat):Int)/\(sliceBounds lo hi none n).2.2=1:=by
 refine⟨?_,?_,rfl⟩
 ·cases lo with
  | none=>simp[sliceBounds,HT.sIx]
  | some i =>
   simp only[sliceBounds,HT.sIx,Option.getD_none,show(1:Int) > 0 by decide,if_true]
   by_cases h:i<0
   ·simp only[h,if_true]<;>omega
   ·simp only[h,if_false]<;>omega
 ·cases hi with
  | none=>simp[sliceBounds,HT.sIx]
  | some i =>
   simp only[sliceBounds,HT.sIx,Option.getD_none,show(1:Int) > 0 by decide,if_true]
   by_cases h:i<0
   ·simp only[h,if_true]<;>omega
   ·simp only[h,if_false]<;>omega
theorem vV(its:List Value)(lo hi:Option Int):slicePick its.toArray lo hi none=((its.drop (HT.sIx its.length 0 lo)).take (HT.sIx its.length its.length hi - HT.sIx its.length 0 lo)).toArray:=by
 obtain⟨h1,h2,h3⟩:=vU lo hi its.toArray.size
 unfold slicePick
 rw[h1,h2,h3]
 simp only[sliceRange_one,pick_run,List.size_toArray]<;>rfl
def cI(K:W.Frag):V->Option Int->Option Int->Hp->VK->Prop:=λx lo hi H Q=>∃ a xs,x=.ref a/\SqL K H a xs/\∀ p,H p=none->Q (.ref p) (upd H p (.lst (EY xs lo hi)))
theorem vW:SlR X (cI X.K):=by
 intro AA s σ H x v vl vu lo hi sl Q I rx hs pl pu h
 obtain⟨a,xs,rfl,hx,q⟩:=h
 cases rx
 obtain⟨its,r,ht,hz⟩:=I.list hx
 have BU:=r.length
 refine⟨"list",_,slot_list_getitem.lookup,ht.isList.typeIs,?_⟩
 refine wpAny_getItem_list_slice ht.isList hs pl pu .none (by simp) ?_ (by rw[List.size_toArray]<;>omega)
 rw[vV,<-BU]
 refine⟨.ref s.heap.objs.size,_,I.laid (t':=s.toks) (o:=.lst (EY xs lo hi)) (λb ob q=>Heap.get?_push_of_some _ q) (Nat.le_refl _) ?_,rfl,q _ (I.hok.fresh (Nat.le_refl _))⟩
 exact⟨Nat.le_trans (cA xs lo hi) hz,_,0,(r.drop (HT.sIx xs.length 0 lo)).take (HT.sIx xs.length xs.length hi - HT.sIx xs.length 0 lo),Heap.get?_push_size _ rfl⟩
def GQ:V->Bool
 | .non=>true
 | .bl _=>true
 | .int _=>true
 | .str _=>true
 | _=>false
def HG:V->V->Bool
 | .non,.non=>true
 | .bl a,.bl b=>a == b
 | .bl a,.int b=>(if a then 1 else 0) == b
 | .int a,.bl b=>a ==(if b then 1 else 0)
 | .int a,.int b=>a == b
 | .str a,.str b=>a == b
 | _,_=>false
theorem vX{A:Around}{s:Shared}{y x:V}{u v:Value}(ry:RelV y u)(rx:RelV x v)(fy:GQ y=true)(fx:GQ x=true):SeqAt.EqAt A s u v (HG y x):=by
 cases y with
 | non =>
  cases ry
  cases x with
  | non=>cases rx;exact SeqAt.EqAt.same _
  | bl b=>cases rx;exact SeqAt.EqAt.none_bool b
  | int b=>obtain⟨t,rfl⟩:=rx;exact SeqAt.EqAt.none_int b t
  | str b=>obtain⟨t,rfl⟩:=rx;exact SeqAt.EqAt.none_str b t
  | _=>exact absurd (show false=true from fx) Bool.false_ne_true
 | bl a =>
  cases ry
  cases x with
  | non=>cases rx;exact SeqAt.EqAt.bool_none a
  | bl b=>cases rx;exact SeqAt.EqAt.bool_bool a b
  | int b=>obtain⟨t,rfl⟩:=rx;exact SeqAt.EqAt.bool_int a b t
  | str b=>obtain⟨t,rfl⟩:=rx;exact SeqAt.EqAt.bool_str a b t
  | _=>exact absurd (show false=true from fx) Bool.false_ne_true
 | int a =>
  obtain⟨t',rfl⟩:=ry
  cases x with
  | non=>cases rx;exact SeqAt.EqAt.int_none a t'
  | bl b=>cases rx;exact SeqAt.EqAt.int_bool a t' b
  | int b=>obtain⟨t,rfl⟩:=rx;exact SeqAt.EqAt.int_int a t' b t
  | str b=>obtain⟨t,rfl⟩:=rx;exact SeqAt.EqAt.int_str a t' b t
  | _=>exact absurd (show false=true from fx) Bool.false_ne_true
 | str a =>
  obtain⟨t',rfl⟩:=ry
  cases x with
  | non=>cases rx;exact SeqAt.EqAt.str_none a t'
  | bl b=>cases rx;exact SeqAt.EqAt.str_bool a t' b
  | int b=>obtain⟨t,rfl⟩:=rx;exact SeqAt.EqAt.str_int a t' b t
  | str b=>obtain⟨t,rfl⟩:=rx;exact SeqAt.EqAt.str_str a t' b t
  | _=>exact absurd (show false=true from fx) Bool.false_ne_true
 | _=>exact absurd (show false=true from fy) Bool.false_ne_true
def IX(x:V)(u:Value):Bool:=match u with
 | .none=>HG .non x
 | .bool b=>HG (.bl b) x
 | .int i _=>HG (.int i) x
 | .str z _=>HG (.str z) x
 | _=>false
theorem cJ{x y:V}{u:Value}(r:RelV y u)(f:GQ y=true):IX x u=HG y x:=by
 cases y with
 | non=>cases r;rfl
 | bl b=>cases r;rfl
 | int i=>obtain⟨t,rfl⟩:=r;rfl
 | str z=>obtain⟨t,rfl⟩:=r;rfl
 | _=>exact absurd (show false=true from f) Bool.false_ne_true
theorem ST{x:V}:∀ {xs:List V} {us:List Value},Vals xs us->xs.all GQ=true->us.any (IX x)=xs.any λy=>HG y x
 | _,_,.nil,_=>rfl
 | y::xs,u::us,.cons r t,f=>by
  rw[List.all_cons,Bool.and_eq_true]at f
  rw[List.any_cons,List.any_cons,cJ r f.1,ST t f.2]
theorem SU{A:Around}{s:Shared}{x:V}{v:Value}(rx:RelV x v)(fx:GQ x=true):∀ {xs:List V} {us:List Value},Vals xs us->xs.all GQ=true->∀ u∈us,SeqAt.EqAt A s u v (IX x u)
 | _,_,.nil,_=>λu hu=>by cases hu
 | y::xs,u::us,.cons r t,f=>λu' hu=>by
  rw[List.all_cons,Bool.and_eq_true]at f
  rcases List.mem_cons.mp hu with rfl | hu
  ·rw[cJ r f.1];exact vX r rx f.1 fx
  ·exact SU rx fx t f.2 u' hu
def KU(x:V)(xs:List V):Bool:=xs.any λy=>HG y x
def cK(K:W.Frag)(neg:Bool):R2:=λx y H Q=>∃ p xs,y=.ref p/\(SqL K H p xs\/SqT K H p xs)/\GQ x=true/\xs.all GQ=true/\Q (.bl (if neg then !KU x xs else KU x xs)) H
theorem vY:B2 X (compareOp .In) (cK X.K false):=by
 intro AA s σ H x y v u Q I rx ry h
 obtain⟨p,xs,rfl,hq,fx,fs,q⟩:=h
 cases ry
 rcases hq with hq | hq
 ·obtain⟨its,r,pl,hz⟩:=I.list hq
  refine SeqAt.in_listAt (IX x) pl.isList (λw hw=>SU rx fx r fs w (by simpa using hw)) ⟨.bl _,H,I,rfl,?_⟩
  rw[show its.toArray.any (IX x)=its.any (IX x) by simp,ST r fs]
  exact q
 ·obtain⟨its,r,pl,hz⟩:=I.tuple hq
  refine SeqAt.in_tupleAt (IX x) pl (λw hw=>SU rx fx r fs w (by simpa using hw)) ⟨.bl _,H,I,rfl,?_⟩
  rw[show its.toArray.any (IX x)=its.any (IX x) by simp,ST r fs]
  exact q
theorem vZ:F1 X (.type "list") (λxs H Q=>∃ p ys,xs=[.ref p]/\(SqL X.K H p ys\/SqT X.K H p ys)/\∀ l,H l=none->Q (.ref l) (upd H l (.lst ys))):=by
 intro AA s σ H xs us Q I r h
 obtain⟨p,ys,rfl,hq,q⟩:=h
 obtain⟨u,rfl,rx⟩:=IU r
 cases rx
 have fin:∀ (its:List Value),Vals ys its->ys.length<=sizeLine->∀ (h':Heap) (c':Nat),(∀ b o',s.heap.get? b=some o'->h'.get? b=some o') →
   h'.get? s.heap.objs.size=some { cls:=.type "list",dict:=none,data:=.seq its.toArray c',slots:= #[] }->EP X AA σ Q (.ref s.heap.objs.size) { s with heap:=h' }:=λits r' hz h' c' kp e =>
  ⟨.ref s.heap.objs.size,_,I.laid (t':=s.toks) kp (Nat.le_refl _) (show ObjOk X.prog X.w _ h' _ (.lst ys)from⟨hz,its,c',r',e⟩),rfl,q _ (I.hok.fresh (Nat.le_refl _))⟩
 rcases hq with hq | hq
 ·obtain⟨its,r',pl,hz⟩:=I.list hq
  have BU:=r'.length
  obtain⟨o,ho,hc,n,hd⟩:=pl.isList
  exact call_list_seq p (.inl rfl) ho hc hd (λh' c' kp e=>fin its r' hz h' c' kp e) (by simp only[List.size_toArray]<;>omega)
 ·obtain⟨its,r',pl,hz⟩:=I.tuple hq
  have BU:=r'.length
  obtain⟨o,ho,hc,n,hd⟩:=pl
  exact call_list_seq p (.inr rfl) ho hc hd (λh' c' kp e=>fin its r' hz h' c' kp e) (by simp only[List.size_toArray]<;>omega)
theorem v0:F1 X (.type "tuple") (λxs H Q=>∃ p ys,xs=[.ref p]/\((SqL X.K H p ys/\∀ l,H l=none->Q (.ref l) (upd H l (.tup ys)))\/(SqT X.K H p ys/\Q (.ref p) H))):=by
 intro AA s σ H xs us Q I r h
 obtain⟨p,ys,rfl,h⟩:=h
 obtain⟨u,rfl,rx⟩:=IU r
 cases rx
 rcases h with⟨hq,q⟩ | ⟨hq,q⟩
 ·obtain⟨its,r',pl,hz⟩:=I.list hq
  have BU:=r'.length
  refine call_tuple_list pl.isList (λh' kp=> ?_) (by simp only[List.size_toArray]<;>omega)
  have I1:Inv X AA σ H { s with heap:=h' }:=I.kept (t':=s.toks) kp
  have I2:Inv X AA σ (upd H h'.objs.size (.tup ys)) { s with heap:=h'.push { cls:=.type "tuple",data:=.seq its.toArray } } :=
   I1.laid (t':=s.toks) (λb o e=>Heap.get?_push_of_some _ e) (Nat.le_refl _) (show ObjOk X.prog X.w _ _ _ (.tup ys)from⟨hz,its,r',IsTup.new _ _⟩)
  exact⟨.ref h'.objs.size,_,I2,rfl,q _ (I1.hok.fresh (Nat.le_refl _))⟩
 ·obtain⟨its,r',pl,hz⟩:=I.tuple hq
  exact call_tuple_same pl ⟨.ref p,H,I,rfl,q⟩
def SV(K:W.Frag)(T:String)(x:V)(H:Hp):Prop:=match x with
 | .str _=>T="str"
 | .int _=>T="int"
 | .ref p=>(T="list"/\∃ xs,SqL K H p xs)\/(T="tuple"/\∃ o,K.lookup p=some o/\o.cls=.type "tuple"/\o.dict=none) ∨
   (T="dict"/\((∃ kvs,H p=some (.dK kvs))\/∃ kvs,H p=some (.dT kvs)))\/(T="set"/\∃ S n,H p=some (.set S n))
 | _=>False
theorem v2{AA:List (Addr × Obj)}{σ:St}{H:Hp}{s:Shared}{T:String}{x:V}{v:Value}(I:Inv X AA σ H s)(r:RelV x v)(ty:SV X.K T x H) :
  s.TypeIs v T/\∀ a,v=.ref a->∃ ob,s.heap.get? a=some ob/\ob.dict=none:=by
 cases x with
 | str z =>
  obtain⟨t,rfl⟩:=r
  cases (show T="str" from ty)
  exact⟨typeIs_str s z t,λ_ e=>nomatch e⟩
 | int i =>
  obtain⟨t,rfl⟩:=r
  cases (show T="int" from ty)
  exact⟨typeIs_int s i t,λ_ e=>nomatch e⟩
 | ref p =>
  cases r
  rcases ty with⟨rfl,xs,hq⟩ | ⟨rfl,o,hk,hc,hd⟩ | ⟨rfl,hk⟩ | ⟨rfl,S,n,hk⟩
  ·obtain⟨its,_,pl,_⟩:=I.list hq
   refine⟨pl.isList.typeIs,λa e=> ?_⟩
   cases e
   obtain⟨o,n,e,c,hd,_⟩:=pl
   exact⟨o,e,hd⟩
  ·refine⟨⟨o,I.kIn p o hk,hc⟩,λa e=> ?_⟩
   cases e
   exact⟨o,I.kIn _ o hk,hd⟩
  ·have z:∃ o,s.heap.get? p=some o/\o.ExactDict:=by
    rcases hk with⟨kvs,hk⟩ | ⟨kvs,hk⟩
    ·obtain⟨_,_,_,_,o,_,_,e,ex,_⟩:=I.hok p _ hk
     exact⟨o,e,ex⟩
    ·obtain⟨_,_,_,_,o,_,_,e,ex,_⟩:=I.hok p _ hk
     exact⟨o,e,ex⟩
   obtain⟨o,e,ex⟩:=z
   refine⟨⟨o,e,ex.1⟩,λa e2=> ?_⟩
   cases e2
   exact⟨o,e,ex.2.1⟩
  ·obtain⟨o,_,_,_,e,ex,_⟩:=I.hok p _ hk
   refine⟨⟨o,e,ex.1⟩,λa e2=> ?_⟩
   cases e2
   exact⟨o,e,ex.2.1⟩
 | _=>exact False.elim ty
def GR(K:W.Frag)(T:String)(r:V->List V->Hp->VK->Prop)(to:TE)(t:TA):TE:=λσ H Q=>to σ H λx H1=>SV K T x H1/\t σ H1 λxs H2=>r x xs H2 Q
variable{o e:Expr}{es:List Expr}{to:TE}{t:TA}{name:Str}{CI C3:Pos}{T id:String}{r:V->List V->Hp->VK->Prop}
theorem IA(pa:PlainAttrs T)(slot:Slot T name id)(hty:typeOf (.builtin id)=pure (.type "method_descriptor"))(hm:SS X id r)(ho:PE X o to)(ha:PA X (e::es) t)
  (hbase:attributeBase o name X.env (eval o X.env)=eval o X.env:=by rfl)
  (hfew:((backTo C3 (starEach (e::es) X.env)).all (λx=> !x.1) && (backToKw C3 (keywordEach [] X.env)).all (λx=>x.1.isSome)
   && decide ((e::es).length+([]:List Keyword).length+(if([]:List Keyword).isEmpty then 0 else 1)<30))=true:=by rfl)
  (hline:(CI.endLine == C3.line)=true:=by rfl) (hs:starEach (e::es) X.env=(false,eval e X.env)::starEach es X.env:=by rfl) (hplain:(backTo C3 (starEach es X.env)).any (·.1)=false:=by rfl) :
  PE X (.Call (.Attribute o name CI) (e::es) [] C3) (GR X.K T r to t):=by
 intro AA s σ H Q I h
 refine wpAny_Call_method_late hbase hfew hline rfl (AS (ho AA s σ H _ I h) λv s1 hzz=> ?_)
 obtain⟨x,H1,I1,r1,ty,q1⟩:=hzz
 obtain⟨h1,h2⟩:=v2 I1 r1 ty
 refine⟨T,id,pa,slot,hty,h1,h2,?_⟩
 have hA:=ha C3 AA s1 σ H1 _ I1 q1
 rw[hs]at hA ⊢
 refine Calls.callWith_builtin (by show(false || (backTo C3 (starEach es X.env)).any (·.1))=false;rw[hplain]<;>rfl) (Calls.evalArgs_plain ?_)
 exact AS hA λus s2 ⟨vs,H2,I2,r2,q2⟩=>hm AA s2 σ H2 x vs v us Q I2 r1 r2 q2
end
end L2
namespace L2
def v5(X:Cx)(id:String)(r:V->List V->Hp->VK->Prop):Prop :=
 ∀ (AA:List (Addr × Obj)) (s:Shared) (σ:St) (H:Hp) (x:V) (xs:List V) (v:Value) (us:List Value) (Q:VK),Inv X AA σ H s->RelV x v->Vals xs us->r x xs H Q →
  wpAny (model X.prog X.w) X.A (call (.builtin id) (v::us)) (EP X AA σ Q) X.xe s
theorem Vals.one:∀ {x:V} {us:List Value},Vals [x] us->∃ u,us=[u]/\RelV x u
 | _,_,.cons r .nil=>⟨_,rfl,r⟩
theorem Vals.eraseIdx:∀ {xs:List V} {us:List Value} (i:Nat),Vals xs us->Vals (xs.eraseIdx i) (us.eraseIdx i)
 | _,_,_,.nil=>.nil
 | _,_,0,.cons _ t=>t
 | _,_,i+1,.cons r t=>.cons r (Vals.eraseIdx i t)
theorem Vals.rep{xs:List V}{us:List Value}(h:Vals xs us):∀ k:Nat,Vals (List.replicate k xs).flatten (List.replicate k us).flatten
 | 0=>.nil
 | k+1=>by
  rw[List.replicate_succ,List.replicate_succ,List.flatten_cons,List.flatten_cons]
  exact Vals.append h (Vals.rep h k)
theorem OV(its:List Value):∀ (k:Nat) (BZ:List Value),
  List.foldl (λx1 x2=>x1++x2) BZ.toArray (List.replicate k its.toArray)=(BZ++(List.replicate k its).flatten).toArray
 | 0,BZ=>by simp
 | k+1,BZ=>by
  have e:BZ.toArray++its.toArray=(BZ++its).toArray:=by simp
  have e2:(BZ++its)++(List.replicate k its).flatten=BZ++(List.replicate (k+1) its).flatten:=by
   rw[List.replicate_succ,List.flatten_cons,List.append_assoc]
  rw[<-e2,<-OV its k (BZ++its),<-e,List.replicate_succ,List.foldl_cons]
section
variable{X:Cx}{AA:List (Addr × Obj)}{σ:St}{H:Hp}{s:Shared}{l b:Addr}{xs ys zs:List V}
theorem Inv.lset{its its':List Value}{n:Nat}{f:Array Value->Array Value}{t':Nat}(I:Inv X AA σ H s)(hH:H l=some (.lst xs))
  (e:s.heap.get? l=some { cls:=.type "list",data:=.seq its.toArray n }) (hf:f its.toArray=its'.toArray) (hv:Vals ys its') (hz:ys.length<=sizeLine) :
  Inv X AA σ (upd H l (.lst ys)) { s with heap:=s.heap.update l (Obj.mapSeq f),toks:=t' }:=by
 have q:=PySem.IsL.update e f
 rw[hf]at q
 refine I.write (x:=l) (e:=l) (by rw[hH];exact trivial) (.inl rfl) (λb' u hb hu=>(Heap.get?_update_other s.heap (Obj.mapSeq f) (Ne.symm hb)).trans hu) ⟨_,q⟩ ?_
 exact⟨hz,its',_,hv,q⟩
theorem Inv.lnew{its:List Value}{t':Nat}(I:Inv X AA σ H s)(hv:Vals ys its)(hz:ys.length<=sizeLine) :
  Inv X AA σ (upd H s.heap.objs.size (.lst ys)) { s with heap:=s.heap.push { cls:=.type "list",data:=.seq its.toArray },toks:=t' } :=
 I.laid (λ_ _ q=>Heap.get?_push_of_some _ q) (Nat.le_refl _) ⟨hz,its,0,hv,Heap.get?_push_size _ rfl⟩
theorem Inv.fresh(I:Inv X AA σ H s):H s.heap.objs.size=none:=I.hok.fresh (Nat.le_refl _)
theorem Inv.lstM(I:Inv X AA σ H s)(hH:H l=some (.lst xs)):xs.length<=sizeLine/\∃ (its:List Value) (n:Nat),Vals xs its/\xs.length=its.length/\s.heap.get? l=some { cls:=.type "list",data:=.seq its.toArray n }:=by
 obtain⟨z,its,n,r,e⟩:=I.hok l _ hH
 exact⟨z,its,n,r,r.length,e⟩
theorem v6{n:Nat}(h:n<=sizeLine):Builtin.List.listTooLong n=false:=by
 unfold Builtin.List.listTooLong
 exact decide_eq_false (by omega)
end
section
variable{X:Cx}
def cM:V->List V->Hp->VK->Prop:=λx vs H Q=>∃ l xs y,x=.ref l/\vs=[y]/\H l=some (.lst xs)/\xs.length<sizeLine/\Q .non (upd H l (.lst (xs++[y])))
theorem J3:v5 X "list.append" cM:=by
 intro AA s σ H x vs v us Q I rx rv h
 obtain⟨l,xs,y,rfl,rfl,hH,hz,q⟩:=h
 cases rx
 obtain⟨u,rfl,ru⟩:=rv.one
 obtain⟨z,its,n,r,hl,e⟩:=I.lstM hH
 refine call_meets F.slot_list_append ⟨_,e,rfl⟩ F.entry_list_append (F.args_list_append_2 _ _) (PySem.list_append l its.toArray n u (by rw[List.size_toArray];omega)) ⟨e,?_⟩
 refine⟨.non,_,I.lset (its':=its++[u]) hH e (by simp) (r.append (.cons ru .nil)) ?_,rfl,q⟩
 rw[List.length_append,List.length_singleton]
 omega
def SW:R2:=λx y H Q=>∃ l b xs zs,x=.ref l/\y=.ref b/\H l=some (.lst xs)/\H b=some (.lst zs)/\xs.length+zs.length<=sizeLine/\∀ p,H p=none->Q (.ref p) (upd H p (.lst (xs++zs)))
theorem v7:B2 X (binaryOp .Add) SW:=by
 intro AA s σ H x y v u Q I rx ry h
 obtain⟨l,b,xs,zs,rfl,rfl,hH,hB,hz,q⟩:=h
 cases rx
 cases ry
 obtain⟨z,its,n,r,hl,e⟩:=I.lstM hH
 obtain⟨z2,OA,n2,r2,MV,e2⟩:=I.lstM hB
 refine PySem.P.add_list e e2 ?_ (by rw[List.size_toArray,List.size_toArray];omega)
 have ea:its.toArray++OA.toArray=(its++OA).toArray:=by simp
 rw[ea]
 exact⟨.ref _,_,I.lnew (t':=s.toks) (r.append r2) (by rw[List.length_append];omega),rfl,q _ I.fresh⟩
def SY:R2:=λx y H Q=>∃ l k xs,x=.ref l/\y=.int k/\H l=some (.lst xs)/\ -(2 ^ 63)<=k/\k<2 ^ 63/\xs.length * k.toNat<=sizeLine ∧
 ∀ p,H p=none->Q (.ref p) (upd H p (.lst (List.replicate k.toNat xs).flatten))
theorem cN{α :Type}(xs:List α)(k:Nat):(List.replicate k xs).flatten.length=k * xs.length:=by
 induction k with
 | zero=>simp
 | succ k ih=>rw[List.replicate_succ,List.flatten_cons,List.length_append,ih,Nat.succ_mul,Nat.add_comm]
theorem v8:B2 X (binaryOp .Mult) SY:=by
 intro AA s σ H x y v u Q I rx ry h
 obtain⟨l,k,xs,rfl,rfl,hH,h1,h2,hz,q⟩:=h
 cases rx
 obtain⟨t,rfl⟩:=ry
 obtain⟨z,its,n,r,hl,e⟩:=I.lstM hH
 have BU:its.toArray.size * k.toNat<=sizeLine:=by rw[List.size_toArray,<-hl];exact hz
 have hcap:¬ its.toArray.size * k.toNat >(2 ^ 63 - 1) / 8:=by
  have:(sizeLine:Nat)<=(2 ^ 63 - 1) / 8:=by decide
  omega
 have hfit:¬ (!Builtin.List.listFitsIndex k)=true:=by
  rw[fitsIndex_both h1 h2]
  exact Bool.false_ne_true
 have hlong:¬ Builtin.List.listTooLong (its.toArray.size * k.toNat)=true:=by
  rw[v6 BU]
  exact Bool.false_ne_true
 have hnew:List.foldl (λx1 x2=>x1++x2) #[] (List.replicate (if its.toArray.isEmpty=true then 0 else k.toNat) its.toArray)=(List.replicate k.toNat its).flatten.toArray:=by
  have f0:∀ m:Nat,List.foldl (λx1 x2=>x1++x2) #[] (List.replicate m its.toArray)=(List.replicate m its).flatten.toArray:=λm=>by
   have:=OV its m []
   rw[List.nil_append]at this
   exact this
  rw[f0]
  cases its with
  | nil=>simp
  | cons a r'=>rw[if_neg (by simp)]
 refine wpAny_binaryOp_repeat_ref (T:="list") (U:="int") (by decide) ⟨_,e,rfl⟩ (λs'=>typeIs_int s' k t) noFill_list_mul F.fills_int_mul F.slot_int_rmul repeat_list F.slot_int_index.lookup
  (call_meets F.slot_int_rmul (typeIs_int s k t) F.entry_int_rmul (F.args_int_rmul_2 _ _) (int___rmul___int_list k t l its.toArray n)
   ⟨e,rfl,⟨_,e,rfl⟩,call_meets F.slot_list_mul ⟨_,e,rfl⟩ F.entry_list_mul (F.args_list_mul_2 _ _) (AutoListH.list___mul___list_int_3 l its.toArray n k t hfit hcap hlong) ⟨e,?_⟩⟩)
 rw[hnew]
 exact⟨.ref _,_,I.lnew (t':=s.toks) (r.rep k.toNat) (by rw[cN,Nat.mul_comm];exact hz),rfl,q _ I.fresh⟩
end
section
variable{prog:Program}{w:World}{A:Around}{E:Value->Shared->Prop}{s:Shared}
set_option maxRecDepth 100000 in
end
section
variable{X:Cx}
end
end L2
namespace L2
section
variable{κ :Type}[DecidableEq κ]
def BJ(kvs:List (κ × V))(k: κ):Option V:=(kvs.find? λkv=>decide (kv.1=k)).map (·.2)
def B7(kvs:List (κ × V))(k: κ)(v:V):List (κ × V) :=
 if(kvs.any λkv=>decide (kv.1=k))=true then kvs.map (λkv=>if kv.1=k then(kv.1,v)else kv)else kvs++[(k,v)]
def FA(kvs:List (κ × V))(k: κ):List (κ × V):=kvs.filter λkv=>decide (kv.1≠k)
theorem FQ{p: κ × V}{r:List (κ × V)}{k: κ}(e:p.1=k):BJ (p::r) k=some p.2:=by simp[BJ,List.find?_cons,e]
theorem FB{p: κ × V}{r:List (κ × V)}{k: κ}(e:¬ p.1=k):BJ (p::r) k=BJ r k:=by simp[BJ,List.find?_cons,e]
theorem IY(k: κ):∀ kvs:List (κ × V),(kvs.any λkv=>decide (kv.1=k))=(BJ kvs k).isSome
 | []=>rfl
 | p::r=>by
  rw[List.any_cons]
  by_cases e:p.1=k
  ·simp only[FQ e,decide_eq_true e,Bool.true_or,Option.isSome_some]
  ·rw[FB e,decide_eq_false e,Bool.false_or];exact IY k r
theorem cO(k j: κ)(y:V):∀ kvs:List (κ × V),BJ (kvs.map λkv=>if kv.1=k then(kv.1,y)else kv) j=(BJ kvs j).map λx=>if j=k then y else x
 | []=>rfl
 | p::r=>by
  have ih:=cO k j y r
  rw[List.map_cons]
  by_cases h:p.1=k
  ·rw[if_pos h]
   by_cases e:p.1=j
   ·rw[FQ (p:=(p.1,y)) e,FQ e,Option.map_some,if_pos (e.symm.trans h)]
   ·rw[FB (p:=(p.1,y)) e,FB e,ih]
  ·rw[if_neg h]
   by_cases e:p.1=j
   ·rw[FQ (p:=p) e,FQ e,Option.map_some,if_neg (λz=>h (e.trans z))]
   ·rw[FB (p:=p) e,FB e,ih]
theorem cP(k j: κ)(y:V):∀ kvs:List (κ × V),BJ kvs k=none->BJ (kvs++[(k,y)]) j=if j=k then some y else BJ kvs j
 | [],_=>by
  by_cases e:k=j
  ·rw[if_pos e.symm];exact FQ (p:=(k,y)) e
  ·rw[if_neg (λz=>e z.symm)];exact FB (p:=(k,y)) e
 | p::r,hn=>by
  rw[List.cons_append]
  have hk:¬ p.1=k:=λz=>by rw[FQ z]at hn;cases hn
  rw[FB hk]at hn
  have ih:=cP k j y r hn
  by_cases e:p.1=j
  ·rw[FQ e,FQ e,if_neg (λz=>hk (e.trans z))]
  ·rw[FB e,FB e,ih]
theorem KW(kvs:List (κ × V))(k j: κ)(y:V):BJ (B7 kvs k y) j=if j=k then some y else BJ kvs j:=by
 unfold B7
 by_cases a:(kvs.any λkv=>decide (kv.1=k))=true
 ·rw[if_pos a,cO]
  rw[IY]at a
  by_cases e:j=k
  ·obtain⟨x,hx⟩:=Option.isSome_iff_exists.mp a
   rw[if_pos e,e,hx,Option.map_some,if_pos rfl]
  ·rw[if_neg e]
   cases BJ kvs j with
   | none=>rfl
   | some x=>rw[Option.map_some,if_neg e]
 ·rw[if_neg a]
  refine cP k j y kvs ?_
  rw[IY]at a
  cases q:BJ kvs k with
  | none=>rfl
  | some x=>rw[q]at a;exact(a rfl).elim
theorem KY(kvs:List (κ × V))(k: κ)(v:V):(B7 kvs k v).length<=kvs.length+1:=by
 unfold B7
 split
 ·rw[List.length_map];omega
 ·rw[List.length_append,List.length_cons,List.length_nil];omega
theorem OW{kvs:List (κ × V)}{k: κ}(v:V)(h:BJ kvs k=none):B7 kvs k v=kvs++[(k,v)]:=by
 unfold B7
 rw[IY,h]
 exact if_neg (by decide)
theorem RelO.isSome_eq{o:Option V}{u:Option Value}(r:RelO o u):o.isSome=u.isSome:=by
 cases o with
 | none=>cases u with
  | none=>rfl
  | some _=>exact(show False from r).elim
 | some _=>cases u with
  | none=>exact(show False from r).elim
  | some _=>rfl
theorem RelO.getD{o:Option V}{u:Option Value}{d:V}{d':Value}(r:RelO o u)(rd:RelV d d'):RelV (o.getD d) (u.getD d'):=by
 cases o with
 | none=>cases u with
  | none=>exact rd
  | some _=>exact(show False from r).elim
 | some _=>cases u with
  | none=>exact(show False from r).elim
  | some _=>exact r
theorem KV.val{kvs:List (κ × V)}{vs:List (κ × Value)}(r:KV kvs vs)(k: κ):RelO (BJ kvs k) (valueAt vs k):=by
 unfold KV at r
 induction r with
 | nil=>exact True.intro
 | @cons p q ps qs h t ih =>
  obtain⟨h1,h2⟩:=h
  by_cases e:p.1=k
  ·have e':q.1=k:=h1.symm.trans e
   have b:valueAt (q::qs) k=some q.2:=by simp[valueAt,List.find?_cons,e']
   rw[FQ e,b];exact h2
  ·have e':¬ q.1=k:=λz=>e (h1.trans z)
   have b:valueAt (q::qs) k=valueAt qs k:=by simp[valueAt,List.find?_cons,e']
   rw[FB e,b];exact ih
theorem KV.any{kvs:List (κ × V)}{vs:List (κ × Value)}(r:KV kvs vs)(k: κ):(kvs.any λkv=>decide (kv.1=k))=vs.any λkv=>decide (kv.1=k):=by
 unfold KV at r
 induction r with
 | nil=>rfl
 | cons h t ih=>rw[List.any_cons,List.any_cons,ih,h.1]
theorem KV.repl{kvs:List (κ × V)}{vs:List (κ × Value)}(r:KV kvs vs)(k: κ){y:V}{u:Value}(ry:RelV y u) :
  KV (kvs.map λkv=>if kv.1=k then(kv.1,y)else kv) (vs.map λkv=>if kv.1=k then(kv.1,u)else kv):=by
 unfold KV at r ⊢
 induction r with
 | nil=>exact .nil
 | @cons p q ps qs h t ih =>
  rw[List.map_cons,List.map_cons]
  refine .cons ?_ ih
  obtain⟨h1,h2⟩:=h
  by_cases e:p.1=k
  ·rw[if_pos e,if_pos (h1.symm.trans e)];exact⟨h1,ry⟩
  ·rw[if_neg e,if_neg (λz=>e (h1.trans z))];exact⟨h1,h2⟩
theorem KV.put{kvs:List (κ × V)}{vs:List (κ × Value)}(r:KV kvs vs)(k: κ){y:V}{u:Value}(ry:RelV y u):KV (B7 kvs k y) (stored vs k u):=by
 unfold B7 stored
 rw[r.any k]
 by_cases e:(vs.any λkv=>decide (kv.1=k))=true
 ·rw[if_pos e,if_pos e];exact r.repl k ry
 ·rw[if_neg e,if_neg e];exact Paired.snoc r ⟨rfl,ry⟩
theorem KV.drop{kvs:List (κ × V)}{vs:List (κ × Value)}(r:KV kvs vs)(k: κ):KV (FA kvs k) (without vs k):=by
 unfold KV at r ⊢
 unfold FA without
 induction r with
 | nil=>exact .nil
 | @cons p q ps qs h t ih =>
  obtain⟨h1,h2⟩:=h
  rw[List.filter_cons,List.filter_cons]
  by_cases e:p.1=k
  ·have a:¬ decide (p.1≠k)=true:=by simp[e]
   have b:¬ decide (q.1≠k)=true:=by simp[h1.symm.trans e]
   rw[if_neg a,if_neg b];exact ih
  ·have e':¬ q.1=k:=λz=>e (h1.trans z)
   have a:decide (p.1≠k)=true:=by simp[e]
   have b:decide (q.1≠k)=true:=by simp[e']
   rw[if_pos a,if_pos b];exact .cons ⟨h1,h2⟩ ih
theorem KV.length{kvs:List (κ × V)}{vs:List (κ × Value)}(r:KV kvs vs):kvs.length=vs.length:=Paired.length r
theorem v9(kvs:List (κ × V))(k: κ):(FA kvs k).length<=kvs.length:=List.length_filter_le _ _
end
theorem J4{P:Program}{w:World}{k:AH}{u:Value}(r:RelV (kV k) u):(D4 P w).is k u=true:=by
 cases k with
 | inl i=>obtain⟨t,e⟩:=(show ∃ t,u=Value.int i t from r);subst e;exact tF P w i t
 | inr x=>obtain⟨t,e⟩:=(show ∃ t,u=Value.str x t from r);subst e;exact tG P w x t
theorem cQ{P:Program}{w:World}:∀ {ks:List AH} {us:List Value},Vals (ks.map kV) us->ItemsAre (D4 P w) ks us
 | [],_,r=>by rw[List.map_nil]at r;cases r;exact .nil
 | k::ks,_,r=>by
  rw[List.map_cons]at r
  cases r with
  | cons h t=>exact .cons (J4 h) (cQ t)
abbrev KT(H:Hp):List (List AH × V)->List (List AH × Addr × Value)->Prop:=Paired λp q=>p.1=q.1/\H q.2.1=some (.tup (p.1.map kV))/\RelV p.2 q.2.2
theorem KT.val{H:Hp}{kvs:List (List AH × V)}{xs:List (List AH × Addr × Value)}(r:KT H kvs xs)(k:List AH):RelO (BJ kvs k) ((atKey xs k).map (·.2)):=by
 induction r with
 | nil=>exact True.intro
 | @cons p q ps qs h t ih =>
  obtain⟨h1,_,h2⟩:=h
  by_cases e:p.1=k
  ·have e':q.1=k:=h1.symm.trans e
   have b:atKey (q::qs) k=some q.2:=by simp[atKey,List.find?_cons,e']
   rw[FQ e,b];exact h2
  ·have e':¬ q.1=k:=λz=>e (h1.trans z)
   have b:atKey (q::qs) k=atKey qs k:=by simp[atKey,List.find?_cons,e']
   rw[FB e,b];exact ih
theorem KT.repl{H:Hp}{kvs:List (List AH × V)}{xs:List (List AH × Addr × Value)}(r:KT H kvs xs)(k:List AH){y:V}{u:Value}(ry:RelV y u) :
  KT H (kvs.map λkv=>if kv.1=k then(kv.1,y)else kv) (xs.map (putAt k u)):=by
 induction r with
 | nil=>exact .nil
 | @cons p q ps qs h t ih =>
  rw[List.map_cons,List.map_cons]
  refine .cons ?_ ih
  obtain⟨h1,h2,h3⟩:=h
  unfold putAt
  by_cases e:p.1=k
  ·rw[if_pos e,if_pos (h1.symm.trans e)];exact⟨h1,h2,ry⟩
  ·rw[if_neg e,if_neg (λz=>e (h1.trans z))];exact⟨h1,h2,h3⟩
theorem KT.put{H:Hp}{kvs:List (List AH × V)}{xs:List (List AH × Addr × Value)}(r:KT H kvs xs)(k:List AH){b:Addr}{y:V}{u:Value}(hb:H b=some (.tup (k.map kV)))(ry:RelV y u) :
  KT H (B7 kvs k y) (storedH xs k b u):=by
 have e:(kvs.any λkv=>decide (kv.1=k))=(atKey xs k).isSome:=by
  rw[IY,(r.val k).isSome_eq,Option.isSome_map]
 unfold B7 storedH
 rw[e]
 by_cases q:(atKey xs k).isSome=true
 ·rw[if_pos q,if_pos q];exact r.repl k ry
 ·rw[if_neg q,if_neg q];exact Paired.snoc r ⟨rfl,hb,ry⟩
theorem KT.keeps{H H':Hp}{kvs:List (List AH × V)}{xs:List (List AH × Addr × Value)}(r:KT H kvs xs)(ht:∀ b ys,H b=some (.tup ys)->H' b=some (.tup ys)):KT H' kvs xs :=
 Paired.mapP r λ_ _ z=>⟨z.1,ht _ _ z.2.1,z.2.2⟩
section
variable{P:Program}{w:World}{H:Hp}{h:Heap}{a:Addr}
theorem cR{u:HO}(ok:HOk P w H h)(e:Rd H a u):ObjOk P w H h a u:=e.ok ok
theorem IZ{kvs:List (AH × V)}(ok:HOk P w H h)(e:Rd H a (.dK kvs)):kvs.length<=sizeLine/\(a == sysModules)=false/\∃ vs,KV kvs vs/\h.DictOf (D4 P w) a vs :=
 show ObjOk P w H h a (.dK kvs)from cR ok e
theorem cS{kvs:List (AH × V)}(ok:HOk P w H h)(e:H a=some (.dK kvs)):kvs.length<=sizeLine/\(a == sysModules)=false/\∃ vs,KV kvs vs/\h.DictOf (D4 P w) a vs:=IZ ok (.inl e)
theorem KZ{ks:List AH}(ok:HOk P w H h)(e:H a=some (.tup (ks.map kV))):(tupleKind (D4 P w)).is h ks a:=by
 obtain⟨_,its,r,o,h1,h2,n,h3⟩:=(show ObjOk P w H h a (.tup (ks.map kV))from ok a _ e)
 exact⟨o,its.toArray,n,h1,h2,h3,by simpa using cQ r⟩
theorem J5{kvs:List (List AH × V)}(ok:HOk P w H h)(e:Rd H a (.dT kvs)):kvs.length<=sizeLine/\(a == sysModules)=false ∧
  ∃ xs,KT H kvs xs/\h.DictOfH (tupleKind (D4 P w)) a xs:=by
 obtain⟨z,y,xs,r,o,es,ep,h1,h2,h3,h4,h5⟩:=(show ObjOk P w H h a (.dT kvs)from cR ok e)
 refine⟨z,y,xs,r,o,es,ep,h1,h2,h3,h4,λx hx=> ?_,h5⟩
 have all:∀ {l:List (List AH × V)} {m:List (List AH × Addr × Value)},KT H l m->∀ x∈m,(tupleKind (D4 P w)).is h x.1 x.2.1:=by
  intro l m q
  induction q with
  | nil=>intro x hx;exact nomatch hx
  | @cons p q ps qs hq t ih =>
   intro x hx
   rcases List.mem_cons.mp hx with e | hx
   ·subst e
    exact KZ ok (by rw[<-hq.1];exact hq.2.1)
   ·exact ih x hx
 exact all r x hx
theorem wA{kvs:List (List AH × V)}(ok:HOk P w H h)(e:H a=some (.dT kvs)):kvs.length<=sizeLine/\(a == sysModules)=false ∧
  ∃ xs,KT H kvs xs/\h.DictOfH (tupleKind (D4 P w)) a xs:=J5 ok (.inl e)
end
def DGet(H:Hp)(a:Addr)(y:V)(r:Option V):Prop :=
 (∃ kvs k,Rd H a (.dK kvs)/\y=kV k/\r=BJ kvs k)\/∃ kvs k b,Rd H a (.dT kvs)/\y=.ref b/\H b=some (.tup (k.map kV))/\r=BJ kvs k
def DPut(H:Hp)(a:Addr)(y v:V)(H':Hp):Prop :=
 (∃ kvs k,H a=some (.dK kvs)/\y=kV k/\kvs.length<sizeLine/\H'=upd H a (.dK (B7 kvs k v))) ∨
 ∃ kvs k b,H a=some (.dT kvs)/\y=.ref b/\H b=some (.tup (k.map kV))/\kvs.length<sizeLine/\H'=upd H a (.dT (B7 kvs k v))
theorem DGet.k{H:Hp}{a:Addr}{kvs:List (AH × V)}{k:AH}(e:H a=some (.dK kvs)):DGet H a (kV k) (BJ kvs k):=.inl ⟨kvs,k,.inl e,rfl,rfl⟩
theorem DGet.t{H:Hp}{a b:Addr}{kvs:List (List AH × V)}{k:List AH}(e:H a=some (.dT kvs))(eb:H b=some (.tup (k.map kV))):DGet H a (.ref b) (BJ kvs k):=.inr ⟨kvs,k,b,.inl e,rfl,eb,rfl⟩
theorem DPut.k{H:Hp}{a:Addr}{kvs:List (AH × V)}{k:AH}{v:V}(e:H a=some (.dK kvs))(hl:kvs.length<sizeLine):DPut H a (kV k) v (upd H a (.dK (B7 kvs k v))):=.inl ⟨kvs,k,e,rfl,hl,rfl⟩
theorem DPut.t{H:Hp}{a b:Addr}{kvs:List (List AH × V)}{k:List AH}{v:V}(e:H a=some (.dT kvs))(eb:H b=some (.tup (k.map kV)))(hl:kvs.length<sizeLine) :
  DPut H a (.ref b) v (upd H a (.dT (B7 kvs k v))):=.inr ⟨kvs,k,b,e,rfl,eb,hl,rfl⟩
section
variable{X:Cx}{AA:List (Addr × Obj)}{σ:St}{H:Hp}{s:Shared}{a:Addr}{y v:V}{u r:Value}{o:Option V}{A:Around}{E:Value->Shared->Prop}
theorem Inv.big(I:Inv X AA σ H s):sysModules<s.heap.objs.size:=by
 have h:mainGlobals<s.heap.objs.size:=(I.mod.glob.keeps I.bk).lt
 exact Nat.lt_trans (by decide) h
theorem wB{Q:Value->Shared->Prop}(hu:A.units+1<cLine)(I:Inv X AA σ H s)(g:DGet H a y (some v))(ry:RelV y u)(h:∀ w' s',Inv X AA σ H s'->RelV v w'->Q w' s') :
  wpAny (model X.prog X.w) A (getItem (.ref a) u) Q E s:=by
 rcases g with⟨kvs,k,e,ey,l⟩ | ⟨kvs,k,b,e,ey,eb,l⟩
 ·subst ey
  obtain⟨z,hd,vs,rel,dd⟩:=IZ I.hok e
  obtain⟨w',hw,rw'⟩:=RelO.some_of (v:=v) (o:=valueAt vs k) (by rw[l];exact rel.val k)
  exact wpAny_getItem_of (J4 ry) dd.mapOf hw (h w' _ (I.tok _) rw')
 ·subst ey
  cases (show u=Value.ref b from ry)
  obtain⟨z,hd,xs,rel,dd⟩:=J5 I.hok e
  obtain⟨w',hw,rw'⟩:=RelO.some_of (v:=v) (o:=(atKey xs k).map (·.2)) (by rw[l];exact rel.val k)
  obtain⟨p,hp,IM⟩:=Option.map_eq_some_iff.mp hw
  refine wpAny_getItem_heap (tupleKind_room_in1 hu) (KZ I.hok eb) dd hp ?_
  rw[IM]
  exact h w' _ (I.tok _) rw'
theorem wC{Q:Value->Shared->Prop}(hu:A.units+1<cLine)(I:Inv X AA σ H s)(g:DGet H a y o)(ry:RelV y u)(h:∀ s',Inv X AA σ H s'->Q (.bool o.isSome) s') :
  wpAny (model X.prog X.w) A (compareOp .In u (.ref a)) Q E s:=by
 rcases g with⟨kvs,k,e,ey,l⟩ | ⟨kvs,k,b,e,ey,eb,l⟩
 ·subst ey
  obtain⟨z,hd,vs,rel,dd⟩:=IZ I.hok e
  refine wpAny_in_of (J4 ry) hd dd.mapOf ?_
  rw[<-(rel.val k).isSome_eq,<-l]
  exact h _ (I.tok _)
 ·subst ey
  cases (show u=Value.ref b from ry)
  obtain⟨z,hd,xs,rel,dd⟩:=J5 I.hok e
  refine wpAny_in_heap (tupleKind_room_in1 hu) (KZ I.hok eb) hd dd ?_
  have q:=(rel.val k).isSome_eq
  rw[Option.isSome_map]at q
  rw[<-q,<-l]
  exact h _ (I.tok _)
theorem wD{Q:Value->Shared->Prop}(hu:A.units+1<cLine)(I:Inv X AA σ H s)(g:DGet H a y o)(ry:RelV y u)(h:∀ s',Inv X AA σ H s'->Q (.bool (!o.isSome)) s') :
  wpAny (model X.prog X.w) A (compareOp .NotIn u (.ref a)) Q E s:=by
 rcases g with⟨kvs,k,e,ey,l⟩ | ⟨kvs,k,b,e,ey,eb,l⟩
 ·subst ey
  obtain⟨z,hd,vs,rel,dd⟩:=IZ I.hok e
  refine wpAny_notIn_of (J4 ry) hd dd.mapOf ?_
  rw[<-(rel.val k).isSome_eq,<-l]
  exact h _ (I.tok _)
 ·subst ey
  cases (show u=Value.ref b from ry)
  obtain⟨z,hd,xs,rel,dd⟩:=J5 I.hok e
  refine wpAny_notIn_heap (tupleKind_room_in1 hu) (KZ I.hok eb) hd dd ?_
  have q:=(rel.val k).isSome_eq
  rw[Option.isSome_map]at q
  rw[<-q,<-l]
  exact h _ (I.tok _)
theorem SZ{h':Heap}{t':Nat}{ob:HO}(I:Inv X AA σ H s)(mu:MY (H a))(hs:Heap.SameBut a s.heap h')(he:∃ q,h'.get? a=some q)(new:ObjOk X.prog X.w (upd H a ob) h' a ob) :
  Inv X AA σ (upd H a ob) { s with heap:=h',toks:=t' } :=
 I.write (x:=a) (e:=a) mu (.inl rfl) (λb q hb z=>(hs.2 b hb).trans z) he new
theorem S0{P:Program}{w:World}{H':Hp}{h':Heap}{kvs:List (AH × V)}{vs:List (AH × Value)}(z:kvs.length<=sizeLine)(hd:(a == sysModules)=false)(rel:KV kvs vs)(dd:h'.DictOf (D4 P w) a vs) :
  ObjOk P w H' h' a (.dK kvs):=⟨z,hd,vs,rel,dd⟩
theorem wE{H':Hp}{Q:Unit->Shared->Prop}(hu:A.units+1<cLine)(I:Inv X AA σ H s)(g:DPut H a y v H')(ry:RelV y u)(rv:RelV v r)(h:∀ s',Inv X AA σ H' s'->Q () s') :
  wpAny (model X.prog X.w) A (setItem (.ref a) u r) Q E s:=by
 rcases g with⟨kvs,k,e,ey,l,eH⟩ | ⟨kvs,k,b,e,ey,eb,l,eH⟩
 ·subst ey eH
  obtain⟨z,hd,vs,rel,dd⟩:=cS I.hok e
  have hz:vs.length<=sizeLine:=by rw[<-rel.length];exact z
  have hl:(B7 kvs k v).length<=sizeLine:=by have:=KY kvs k v;omega
  refine wpAny_setItem_pairs (hsz:=hz) (J4 ry) dd λh' dd' hs=>h _ ?_
  have he:∃ q,h'.get? a=some q:=let ⟨q,_,_,hq,_⟩:=dd';⟨q,hq⟩
  exact SZ I (by rw[e];exact True.intro) hs he (S0 hl hd (rel.put k rv) dd')
 ·subst ey eH
  cases (show u=Value.ref b from ry)
  obtain⟨z,hd,xs,rel,dd⟩:=wA I.hok e
  have hz:xs.length<=sizeLine:=by rw[<-Paired.length rel];exact z
  have hl:(B7 kvs k v).length<=sizeLine:=by have:=KY kvs k v;omega
  refine wpAny_setItem_heap (hsz:=hz) (tupleKind_room_in1 hu) (KZ I.hok eb) dd λh' dd' hs=>h _ ?_
  obtain⟨q,es,ep,hq,h2,h3,h4,_,h5⟩:=dd'
  refine SZ I (by rw[e];exact True.intro) hs ⟨q,hq⟩ ⟨hl,hd,_,(rel.put k eb rv).keeps λc ys ec=> ?_,q,es,ep,hq,h2,h3,h4,h5⟩
  rw[AF (BD ec e (λz=>nomatch z))]
  exact ec
end
section
variable{X:Cx}{AA:List (Addr × Obj)}{σ:St}{H:Hp}{s:Shared}{a:Addr}{kvs:List (AH × V)}{k:AH}{u:Value}{A:Around}{E:Value->Shared->Prop}
theorem wF{v:V}{more:List Value}{Q:Value->Shared->Prop}(I:Inv X AA σ H s)(e:H a=some (.dK kvs))(ry:RelV (kV k) u)(l:BJ kvs k=some v)(hm:more=[]\/∃ x,more=[x])
  (h:∀ w' s',Inv X AA σ (upd H a (.dK (FA kvs k))) s'->RelV v w'->Q w' s'):wpAny (model X.prog X.w) A (call (.builtin "dict.pop") (.ref a::u::more)) Q E s:=by
 obtain⟨z,hd,vs,rel,dd⟩:=cS I.hok e
 obtain⟨w',hw,rw'⟩:=RelO.some_of (v:=v) (o:=valueAt vs k) (by rw[<-l];exact rel.val k)
 have hp:(keyPart u).isSome=true:=by
  cases k with
  | inl i=>obtain⟨t,q⟩:=(show ∃ t,u=Value.int i t from ry);subst q;rfl
  | inr x=>obtain⟨t,q⟩:=(show ∃ t,u=Value.str x t from ry);subst q;rfl
 have ha:argsOk "dict.pop" ⟨.ref a::u::more,[]⟩:=by
  rcases hm with q | ⟨x,q⟩
  ·subst q;exact PySem.F.args_dict_pop_2 _ _
  ·subst q;exact PySem.F.args_dict_pop_3 _ _ _
 refine call_meetsIn PySem.F.slot_dict_pop dd.typeIs PySem.F.entry_dict_pop ha (meets_dict_pop_there (D4 X.prog X.w) a (J4 ry) more hm hp)
  ⟨vs,w',dd,by rw[<-rel.length];exact z,hw,λh' dd' hs=>h w' _ ?_ rw'⟩
 have he:∃ q,h'.get? a=some q:=let ⟨q,_,_,hq,_⟩:=dd';⟨q,hq⟩
 exact SZ I (by rw[e];exact True.intro) hs he (S0 (Nat.le_trans (v9 kvs k) z) hd (rel.drop k) dd')
end
def cT(i:Expr):Prop:=∀ ov iv,subscripted i false ov iv=operate [ov,iv] (getItem ov iv)
theorem wG{prog:Program}{w:World}{A:Around}{E:Value->Shared->Prop}{s:Shared}{env:Env}{value slice:Expr}{pos:Pos}{T id:String}{Q:Value->Shared->Prop}
  (hl:typeLookup (.type T) "__getitem__"=pure (some (.builtin id))) (hs:cT slice)
  (h:wpAny (model prog w) A (eval value env) (λo s₁=>wpAny (model prog w) A (eval slice env) (λi s₂=>s₂.TypeIs o T/\wpAny (model prog w) A (getItem o i) Q E s₂) E s₁) E s) :
  wpAny (model prog w) A (eval (.Subscript value slice pos) env) Q E s:=by
 refine Subscript_ (wpAny_mono h (λo s₁ h₁=>wpAny_mono h₁ (λi s₂ h₂=> ?_) λ_ _ x=>x) λ_ _ x=>x)
 obtain⟨hT,h₂⟩:=h₂
 unfold subscriptTail
 refine wpAny_bind ?_
 rw[getitemInPython_of_ne hT.not_modules]
 refine wpAny_bind (wpAny_specialOf hT hl ?_)
 have fin:wpAny (model prog w) A (subscripted slice false o i) (λr s₃=>wpAny (model prog w) A (letTemporaryGo value o r >>= λ_=>pure r) Q E s₃) E s₂:=by
  rw[hs o i]
  exact wpAny_operating (wpAny_mono h₂ (λr s₃ h₃=>wpAny_bind (wpAny_letTemporaryGo (wpAny_pure h₃))) λ_ _ x=>x)
 first
  | exact wpAny_pure (wpAny_bind fin)
  | exact wpAny_bind (wpAny_pure (wpAny_bind fin))
  | exact wpAny_bind fin
theorem wH{X:Cx}{AA:List (Addr × Obj)}{σ:St}{H:Hp}{s:Shared}{a:Addr}{y:V}{o:Option V}(I:Inv X AA σ H s)(g:DGet H a y o):s.TypeIs (.ref a) "dict":=by
 rcases g with⟨kvs,k,e,_,_⟩ | ⟨kvs,k,b,e,_,_,_⟩
 ·obtain⟨_,_,vs,_,dd⟩:=IZ I.hok e
  exact dd.typeIs
 ·obtain⟨_,_,xs,_,dd⟩:=J5 I.hok e
  exact dd.typeIs
def IB(td ty:TE):TE:=λσ H Q=>td σ H λx H1=>ty σ H1 λy H2=>∃ a v,x=.ref a/\DGet H2 a y (some v)/\Q v H2
def OX(ty td:TE):TE:=λσ H Q=>ty σ H λy H1=>td σ H1 λx H2=>∃ a o,x=.ref a/\DGet H2 a y o/\Q (.bl o.isSome) H2
def LQ(ty td:TE):TE:=λσ H Q=>ty σ H λy H1=>td σ H1 λx H2=>∃ a o,x=.ref a/\DGet H2 a y o/\Q (.bl (!o.isSome)) H2
def HH(td ty tv:TE):TS:=λD σ H=>tv σ H λv H1=>td σ H1 λx H2=>ty σ H2 λy H3=>∃ a H4,x=.ref a/\DPut H3 a y v H4/\D.nx σ H4
section
variable{X:Cx}{o i e value:Expr}{pos pos' tpos:Pos}{td ty tv:TE}
theorem J6(hu:X.A.units+1<cLine)(ho:PE X o td)(hi:PE X i ty)(hs:cT i):PE X (.Subscript o i pos) (IB td ty):=by
 intro AA s σ H Q I h
 refine wG PySem.F.slot_dict_getitem.lookup hs (AS (ho AA s σ H _ I h) λu s1 ⟨x,H1,I1,rx,q1⟩=>AS (hi AA s1 σ H1 _ I1 q1) λiv s2 hzz=> ?_)
 obtain⟨y,H2,I2,ry,a,v,ex,g,q2⟩:=hzz
 subst ex
 obtain rfl:u=Value.ref a:=rx
 exact⟨wH I2 g,wB hu I2 g ry λw' s3 I3 rw'=>⟨v,H2,I3,rw',q2⟩⟩
theorem cU(hu:X.A.units+1<cLine)(hi:PE X i ty)(ho:PE X o td):PC X .In i o (OX ty td):=by
 intro AA s σ H Q I h
 refine AS (hi AA s σ H _ I h) λiv s1 ⟨y,H1,I1,ry,q1⟩=>AS (ho AA s1 σ H1 _ I1 q1) λu s2 hzz=> ?_
 obtain⟨x,H2,I2,rx,a,ov,ex,g,q2⟩:=hzz
 subst ex
 obtain rfl:u=Value.ref a:=rx
 exact wC hu I2 g ry λs3 I3=>⟨.bl ov.isSome,H2,I3,rfl,q2⟩
theorem OY(hu:X.A.units+1<cLine)(hi:PE X i ty)(ho:PE X o td):PC X .NotIn i o (LQ ty td):=by
 intro AA s σ H Q I h
 refine AS (hi AA s σ H _ I h) λiv s1 ⟨y,H1,I1,ry,q1⟩=>AS (ho AA s1 σ H1 _ I1 q1) λu s2 hzz=> ?_
 obtain⟨x,H2,I2,rx,a,ov,ex,g,q2⟩:=hzz
 subst ex
 obtain rfl:u=Value.ref a:=rx
 exact wD hu I2 g ry λs3 I3=>⟨.bl (!ov.isSome),H2,I3,rfl,q2⟩
theorem JA(hu:X.A.units+1<cLine)(ho:PE X o td)(hi:PE X i ty)(hv:PE X value tv)(hs:swapsWith value (some (.Subscript o i pos')) pos.line X.env=pure false) :
  PS X (.Assign [.Subscript o i pos'] value pos) (HH td ty tv):=by
 intro AA s σ H D I h
 refine wpAny_Assign_Subscript (AS (hv AA s σ H _ I h) λr s1 ⟨v,H1,I1,rv,q1⟩=>AS (ho AA s1 σ H1 _ I1 q1) λu s2 ⟨x,H2,I2,rx,q2⟩=>AS (hi AA s2 σ H2 _ I2 q2) λiv s3 hzz=> ?_) hs
 obtain⟨y,H3,I3,ry,a,H4,ex,g,q3⟩:=hzz
 subst ex
 obtain rfl:u=Value.ref a:=rx
 exact wE hu I3 g ry rv λs4 I4=>⟨σ,H4,I4,q3⟩
end
theorem wI{P:Program}{w:World}{H:Hp}(h:Heap)(hb:sysModules<h.objs.size):ObjOk P w H (h.push { cls:=.type "dict",data:=.dict #[] }) h.objs.size (.dK []) :=
 ⟨Nat.zero_le _,beq_eq_false_iff_ne.mpr (Ne.symm (Nat.ne_of_lt hb)),[],.nil,Heap.DictOf.new h⟩
theorem wJ{P:Program}{w:World}{H:Hp}(h:Heap)(hb:sysModules<h.objs.size):ObjOk P w H (h.push { cls:=.type "dict",data:=.dict #[] }) h.objs.size (.dT []) :=
 ⟨Nat.zero_le _,beq_eq_false_iff_ne.mpr (Ne.symm (Nat.ne_of_lt hb)),[],.nil,_,#[],0,Heap.get?_push_size _ rfl,⟨rfl,rfl,rfl⟩,rfl,rfl,List.nodup_nil⟩
def JB:TE:=λ_ H Q=>∀ p,H p=none->Q (.ref p) (upd H p (.dK []))
def OZ:TE:=λ_ H Q=>∀ p,H p=none->Q (.ref p) (upd H p (.dT []))
section
variable{X:Cx}{pos:Pos}
theorem K0:PE X (.Dict [] [] pos) JB:=λAA s σ H Q I h =>
 wpAny_Dict_empty ⟨.ref s.heap.objs.size,_,I.laid (a:=s.heap.objs.size) (o:=.dK []) (t':=s.toks) (λ_ _ q=>Heap.get?_push_of_some _ q) (Nat.le_refl _) (wI s.heap I.big),rfl,h _ (I.hok.fresh (Nat.le_refl _))⟩
theorem cV:PE X (.Dict [] [] pos) OZ:=λAA s σ H Q I h =>
 wpAny_Dict_empty ⟨.ref s.heap.objs.size,_,I.laid (a:=s.heap.objs.size) (o:=.dT []) (t':=s.toks) (λ_ _ q=>Heap.get?_push_of_some _ q) (Nat.le_refl _) (wJ s.heap I.big),rfl,h _ (I.hok.fresh (Nat.le_refl _))⟩
end
structure M1(X:Cx)(o:Expr)(m:Str)(CI:Pos)(e:Expr)(C3:Pos):Prop where
 base:attributeBase o m X.env (eval o X.env)=eval o X.env
 few:((backTo C3 (starEach [e] X.env)).all (λx=> !x.1) && (backToKw C3 (keywordEach [] X.env)).all (λx=>x.1.isSome)
  && decide (([e]:List Expr).length+([]:List Keyword).length+(if([]:List Keyword).isEmpty then 0 else 1)<30))=true
 line:(CI.endLine == C3.line)=true
 trees:backTo C3 (starEach [e] X.env)=[(false,eval e X.env)]
structure M2(X:Cx)(o:Expr)(m:Str)(CI:Pos)(e f:Expr)(C3:Pos):Prop where
 base:attributeBase o m X.env (eval o X.env)=eval o X.env
 few:((backTo C3 (starEach [e,f] X.env)).all (λx=> !x.1) && (backToKw C3 (keywordEach [] X.env)).all (λx=>x.1.isSome)
  && decide (([e,f]:List Expr).length+([]:List Keyword).length+(if([]:List Keyword).isEmpty then 0 else 1)<30))=true
 line:(CI.endLine == C3.line)=true
 trees:backTo C3 (starEach [e,f] X.env)=[(false,eval e X.env),(false,eval f X.env)]
def LR(H:Hp)(a:Addr):Prop:=(∃ kvs,Rd H a (.dK kvs))\/∃ kvs,Rd H a (.dT kvs)
theorem S4{X:Cx}{AA:List (Addr × Obj)}{σ:St}{H:Hp}{s:Shared}{a:Addr}(I:Inv X AA σ H s)(d:LR H a) :
  s.TypeIs (.ref a) "dict"/\(∀ b,Value.ref a=.ref b->∃ ob,s.heap.get? b=some ob/\ob.dict=none)/\(a == sysModules)=false:=by
 rcases d with⟨kvs,e⟩ | ⟨kvs,e⟩
 ·obtain⟨_,hd,vs,_,dd⟩:=IZ I.hok e
  refine⟨dd.typeIs,λb q=> ?_,hd⟩
  cases q
  obtain⟨ob,_,_,h1,h2,_⟩:=dd
  exact⟨ob,h1,h2.2.1⟩
 ·obtain⟨_,hd,xs,_,dd⟩:=J5 I.hok e
  refine⟨dd.typeIs,λb q=> ?_,hd⟩
  cases q
  obtain⟨ob,_,_,h1,h2,_⟩:=dd
  exact⟨ob,h1,h2.2.1⟩
section
variable{X:Cx}{AA:List (Addr × Obj)}{σ:St}{H:Hp}{s:Shared}{a:Addr}{y d:V}{u r:Value}{o:Option V}{A:Around}{E:Value->Shared->Prop}
theorem wK{Q:Value->Shared->Prop}(hu:A.units+1<cLine)(I:Inv X AA σ H s)(g:DGet H a y o)(ry:RelV y u)(h:∀ w' s',Inv X AA σ H s'->RelV (o.getD .non) w'->Q w' s') :
  wpAny (model X.prog X.w) A (call (.builtin "dict.get") [.ref a,u]) Q E s:=by
 rcases g with⟨kvs,k,e,ey,l⟩ | ⟨kvs,k,b,e,ey,eb,l⟩
 ·subst ey
  obtain⟨z,hd,vs,rel,dd⟩:=IZ I.hok e
  refine call_meetsIn PySem.F.slot_dict_get dd.typeIs PySem.F.entry_dict_get (PySem.F.args_dict_get_2 _ _) (meets_dict_get (D4 X.prog X.w) a (J4 ry) hd) ⟨_,dd.mapOf,h _ _ (I.tok _) ?_⟩
  rw[l]
  exact(rel.val k).getD rfl
 ·subst ey
  cases (show u=Value.ref b from ry)
  obtain⟨z,hd,xs,rel,dd⟩:=J5 I.hok e
  refine call_meetsIn PySem.F.slot_dict_get dd.typeIs PySem.F.entry_dict_get (PySem.F.args_dict_get_2 _ _) (meetsH_dict_get (tupleKind (D4 X.prog X.w)) a b hd) ⟨tupleKind_room_in1 hu,k,xs,KZ I.hok eb,dd,h _ _ (I.tok _) ?_⟩
  rw[l]
  exact(rel.val k).getD rfl
theorem wL{Q:Value->Shared->Prop}(hu:A.units+1<cLine)(I:Inv X AA σ H s)(g:DGet H a y o)(ry:RelV y u)(rd:RelV d r)(h:∀ w' s',Inv X AA σ H s'->RelV (o.getD d) w'->Q w' s') :
  wpAny (model X.prog X.w) A (call (.builtin "dict.get") [.ref a,u,r]) Q E s:=by
 rcases g with⟨kvs,k,e,ey,l⟩ | ⟨kvs,k,b,e,ey,eb,l⟩
 ·subst ey
  obtain⟨z,hd,vs,rel,dd⟩:=IZ I.hok e
  refine call_meetsIn PySem.F.slot_dict_get dd.typeIs PySem.F.entry_dict_get (PySem.F.args_dict_get_3 _ _ _) (meets_dict_get_default (D4 X.prog X.w) a (J4 ry) hd r) ⟨_,dd.mapOf,h _ _ (I.tok _) ?_⟩
  rw[l]
  exact(rel.val k).getD rd
 ·subst ey
  cases (show u=Value.ref b from ry)
  obtain⟨z,hd,xs,rel,dd⟩:=J5 I.hok e
  refine call_meetsIn PySem.F.slot_dict_get dd.typeIs PySem.F.entry_dict_get (PySem.F.args_dict_get_3 _ _ _) (meetsH_dict_get_default (tupleKind (D4 X.prog X.w)) a b hd r) ⟨tupleKind_room_in1 hu,k,xs,KZ I.hok eb,dd,h _ _ (I.tok _) ?_⟩
  rw[l]
  exact(rel.val k).getD rd
end
def S5(td ty:TE):TE:=λσ H Q=>td σ H λx H1=>∃ a,x=.ref a/\LR H1 a/\ty σ H1 λy H2=>∃ o,DGet H2 a y o/\Q (o.getD .non) H2
def S6(td ty tx:TE):TE:=λσ H Q=>td σ H λx H1=>∃ a,x=.ref a/\LR H1 a/\ty σ H1 λy H2=>tx σ H2 λz H3=>∃ o,DGet H3 a y o/\Q (o.getD z) H3
def NB(td ty:TE):TE:=λσ H Q=>td σ H λx H1=>∃ a,x=.ref a/\LR H1 a/\ty σ H1 λy H2=>∃ kvs k v,H2 a=some (.dK kvs)/\y=kV k/\BJ kvs k=some v/\Q v (upd H2 a (.dK (FA kvs k)))
section
variable{X:Cx}{o e f:Expr}{CI C3:Pos}{td ty tx:TE}
theorem wM(hu:X.A.units+1<cLine)(ho:PE X o td)(he:PE X e ty)(m:M1 X o "get" CI e C3):PE X (.Call (.Attribute o "get" CI) [e] [] C3) (S5 td ty):=by
 intro AA s σ H Q I h
 refine wpAny_Call_method m.base m.few m.line PySem.F.plainAttrs_dict PySem.F.slot_dict_get PySem.F.type_dict_get (AS (ho AA s σ H _ I h) λu s1 hzz=> ?_)
 obtain⟨x,H1,I1,rx,a,ex,d,q1⟩:=hzz
 subst ex
 obtain rfl:u=Value.ref a:=rx
 obtain⟨t1,t2,_⟩:=S4 I1 d
 refine⟨t1,t2,?_⟩
 rw[m.trees]
 refine Calls.callWith_builtin rfl (Calls.evalArgs_plain (Calls.spliced_cons (AS (he AA s1 σ H1 _ I1 q1) λiv s2 ⟨y,H2,I2,ry,ov,g,q2⟩=>Calls.spliced_nil ?_)))
 exact wK hu I2 g ry λw' s3 I3 rw'=>⟨_,H2,I3,rw',q2⟩
theorem wN(hu:X.A.units+1<cLine)(ho:PE X o td)(he:PE X e ty)(hf:PE X f tx)(m:M2 X o "get" CI e f C3):PE X (.Call (.Attribute o "get" CI) [e,f] [] C3) (S6 td ty tx):=by
 intro AA s σ H Q I h
 refine wpAny_Call_method m.base m.few m.line PySem.F.plainAttrs_dict PySem.F.slot_dict_get PySem.F.type_dict_get (AS (ho AA s σ H _ I h) λu s1 hzz=> ?_)
 obtain⟨x,H1,I1,rx,a,ex,d,q1⟩:=hzz
 subst ex
 obtain rfl:u=Value.ref a:=rx
 obtain⟨t1,t2,_⟩:=S4 I1 d
 refine⟨t1,t2,?_⟩
 rw[m.trees]
 refine Calls.callWith_builtin rfl (Calls.evalArgs_plain (Calls.spliced_cons (AS (he AA s1 σ H1 _ I1 q1) λiv s2 ⟨y,H2,I2,ry,q2⟩ =>
  Calls.spliced_cons (AS (hf AA s2 σ H2 _ I2 q2) λfv s3 ⟨z,H3,I3,rz,ov,g,q3⟩=>Calls.spliced_nil ?_))))
 exact wL hu I3 g ry rz λw' s4 I4 rw'=>⟨_,H3,I4,rw',q3⟩
theorem cW(ho:PE X o td)(he:PE X e ty)(m:M1 X o "pop" CI e C3):PE X (.Call (.Attribute o "pop" CI) [e] [] C3) (NB td ty):=by
 intro AA s σ H Q I h
 refine wpAny_Call_method m.base m.few m.line PySem.F.plainAttrs_dict PySem.F.slot_dict_pop PySem.F.type_dict_pop (AS (ho AA s σ H _ I h) λu s1 hzz=> ?_)
 obtain⟨x,H1,I1,rx,a,ex,d,q1⟩:=hzz
 subst ex
 obtain rfl:u=Value.ref a:=rx
 obtain⟨t1,t2,_⟩:=S4 I1 d
 refine⟨t1,t2,?_⟩
 rw[m.trees]
 refine Calls.callWith_builtin rfl (Calls.evalArgs_plain (Calls.spliced_cons (AS (he AA s1 σ H1 _ I1 q1) λiv s2 ⟨y,H2,I2,ry,kvs,k,v,ea,ey,l,q2⟩=>Calls.spliced_nil ?_)))
 subst ey
 exact wF I2 ea ry l (.inl rfl) λw' s3 I3 rw'=>⟨v,_,I3,rw',q2⟩
end
section
variable{X:Cx}{AA:List (Addr × Obj)}{σ:St}{H:Hp}{s:Shared}{a:Addr}{kvs:List (AH × V)}{A:Around}{E:Value->Shared->Prop}
theorem wO{Q:Value->Shared->Prop}(I:Inv X AA σ H s)(e:Rd H a (.dK kvs))(h:∀ p s',H p=none->Inv X AA σ (upd H p (.dK kvs)) s'->Q (.ref p) s'):wpAny (model X.prog X.w) A (call (.type "dict") [.ref a]) Q E s:=by
 obtain⟨z,hd,vs,rel,dd⟩:=IZ I.hok e
 refine kt_call_dict hd dd (by rw[<-rel.length];exact z) λh' dd' hs=> ?_
 refine h _ _ (I.hok.fresh (Nat.le_refl _)) (I.laid (a:=s.heap.objs.size) (o:=.dK kvs) (t':=s.toks) (λb q hq=> ?_) (Nat.le_refl _) (S0 z (beq_eq_false_iff_ne.mpr (Ne.symm (Nat.ne_of_lt I.big))) rel dd'))
 exact(hs.2 b (Nat.ne_of_lt (Heap.lt_size hq))).trans (Heap.get?_push_of_some _ hq)
end
section
variable{X:Cx}{AA:List (Addr × Obj)}{σ:St}{H:Hp}{s:Shared}{a:Addr}{y:V}{u:Value}{A:Around}{E:Value->Shared->Prop}
end
end L2
namespace Att
open PySem PySem.W PySem.Calls PyProof.Rows
theorem wP{P:Params}{h:Heap}:∀ (ns:List Int) (vs:List Value),WellAll P h vs (ns.map WData.int)->IntsAre vs ns:=by
 intro ns
 induction ns with
 | nil =>
  intro vs w
  rw[List.map_nil]at w
  cases w
  exact .nil
 | cons n ns ih =>
  intro vs w
  rw[List.map_cons]at w
  cases w with
  | cons a b =>
   cases a
   exact .cons _ _ (ih _ b)
theorem wQ{l:OpenLaw}{n:Nat}(hn:l.most=some n){P:Params}{h:Heap}{args:List WData}{vals:List Value}
  (hpre:l.row.toRowW.claim.pre args=true) (hwl:WellAll P h vals args) :
  ∃ a vs ns,vals=[Value.ref a]/\args=[WData.list (ns.map WData.int)]/\h.get? a=some { cls:=.type "list",data:=.seq vs.toArray }/\IntsAre vs ns/\ns.length<=n:=by
 have hsh:WShape.hasAll [] args [.list .int]=true:=(pre_splitW hpre).1
 have hc:l.pre.holds [] { args:=args }=true:=(pre_splitW hpre).2
 obtain⟨d,r,rfl,h1,h2⟩:=hasAllW_cons hsh
 obtain rfl:=hasAllW_nil h2
 obtain⟨xs,rfl,h3⟩:=hasW_list h1
 obtain⟨ns,rfl⟩:=items_int h3
 have BU:ns.length<=n:=by
  unfold OpenLaw.pre at hc
  have h4:(WTm.not (.lt (.lit (.int (n:Int))) (.len (.arg 0)))).holds [] { args:=[.list (ns.map .int)] }=true:=by
   have h4:=(holds_andW hc).1
   rw[hn]at h4
   exact h4
  have h5:=condW_of h4 (w_not (w_lt w_lit (w_len_list (w_arg rfl))))
  rw[List.length_map]at h5
  refine Nat.le_of_not_lt λq=> ?_
  have q':(n:Int)<((ns.length:Nat):Int):=by omega
  first
   | (rw[decide_eq_true q']at h5;exact absurd h5 (by decide))
   | (simp at h5;omega)
 cases hwl with
 | cons w1 w2 =>
  cases w2
  cases w1 with
  | list ho hall=>exact⟨_,_,ns,rfl,rfl,ho,wP ns _ hall,BU⟩
theorem wR(l:OpenLaw)(args:List WData):l.row.toRowW.claim.post args (.bool true) args=true :=
 postW_of (r:=l.row.toRowW) (X:=(true == true))
  (show WShape.has [] (.bool true) .bool=true by first | rfl | decide | simp[WShape.has,WShape.arms,WShape.armsAll])
  (show(WTm.eq .res (.lit (.bool true))).value [] { args:=args,res:=some (.bool true),after:=args }=some (.bool (true == true))from w_eq_bool (w_res rfl) w_lit) rfl
theorem attach_call{l:OpenLaw}{n:Nat}{q:Program}{loose:List Str}{XP:(Str->Option Value)->Heap->Prop}{YP:World->Heap->Prop}{d:DefRec}
  (hn:l.most=some n) (hdf:d.params.defaults=[])
  (call:∀ (w:World) (s₀ s₁:Shared) (mg mb:Str->Option Value) (fa:Addr) (o:Obj) (pm cd doc:Value) (a:Addr) (vs:List Value) (ns:List Int),
   Ground q loose [] XP w s₀ mg mb s₁.heap->YP w s₁.heap →
   s₁.heap.get? fa=some o->o.data=.func (docDef d.name d.params d.body d.scope pm cd doc)->s₁.heap.CodeRec cd d.name->mg d.name=some (.ref fa) →
   s₁.heap.get? a=some { cls:=.type "list",data:=.seq vs.toArray }->IntsAre vs ns->ns.length<=n->s₁.gens= #[] →
   codeAny (model l.prog w) callerA (.call (.ref fa) ⟨[.ref a],[]⟩) (λr s'=>r=.ok (.ret (.bool true))/\OldK s₁.heap s'.heap/\s'.os=s₁.os/\AllBare s'.gens) s₁) :
  WalkO q loose XP YP l.row.toRowW d [] (λf vs=>PySem.call f vs):=by
 intro w s₀ s₁ mg mb G Y fa o pm cd doc dV kV ho hd IN hD hmg hg args vals as hpre hlay hrd hwl hlo
 obtain rfl:dV=.none:=Dflts.none hD hdf
 obtain rfl:kV=.none:=Dflts.noKw hD
 obtain⟨a,vs,ns,rfl,rfl,hobj,hints,BU⟩:=wQ hn hpre hwl
 refine enter_call (codeAny_mono (call w s₀ s₁ mg mb fa o pm cd doc a vs ns G Y ho (fd_plain hd) IN hmg hobj hints BU hg) λr s' hq=> ?_)
 obtain⟨rfl,h2,h3,h4⟩:=hq
 exact⟨.inl ⟨.bool true,.bool true,[],rfl,λ_=>rfl,.bool true,wR l _,λ_=>⟨List.Pairwise.nil,λ_ hm=>(nomatch hm)⟩⟩,h2,h3,h4⟩
section
variable{prog:Program}{w:World}{A:Around}{E:Value->Shared->Prop}{s:Shared}{K:Frag}
end
end Att
namespace L2
theorem S7:∀ {vs:List Value} {ns:List Int},IntsAre vs ns->Vals (ns.map V.int) vs
 | _,_,.nil=>.nil
 | _,_,.cons n t h=>.cons ⟨t,rfl⟩ (S7 h)
def S8(H:Hp):Prop:=∀ b,H b=none\/∃ o xs,H b=some (.frz o (.lst xs))
theorem wS {P:Program} {w:World} {K:W.Frag} {mg mb:Str->Option Value} {CX:GO} {k:Nat} {fa a:Addr} {fd:FuncData} {x:Str} {sp:Sp} {s₁:Shared} {vs:List Value} {ns:List Int}
    (KX:K.In s₁.heap) (hns:s₁.heap.Ns mainGlobals mg) (hb:s₁.heap.Ns builtinsNs mb) (hbb:∀ x:Str,x≠"__name__"->mb x=bootBuiltins x) (hlim:s₁.heap.NoLimit) (hg:s₁.gens= #[])
    (ha:s₁.heap.get? a=some { cls:=.type "list",data:=.seq vs.toArray }) (hi:IntsAre vs ns) (hl:ns.length<=sizeLine) (hr:Room k callerA)
    (F:∀ base:Heap,K.In base->base.Ns mainGlobals mg->FnOk P w K mg base CX k fa fd [x] sp) (hbind:∀ (s:Shared) (u:Value),BindsTo s fd ⟨[u],[]⟩ [(x,u)])
    (hsp:∀ H:Hp,S8 H->SqL K H a (ns.map V.int)->sp [.ref a] H (λv _=>v=.bl true) λ_ _ _=>False)
    (hCX:∀ H e s',CX [] H s₁ (λ_ _ _=>False) e s'->False) :
    codeAny (model P w) callerA (.call (.ref fa) ⟨[.ref a],[]⟩) (λr s'=>r=.ok (.ret (.bool true))/\OldK s₁.heap s'.heap/\s'.os=s₁.os/\AllBare s'.gens) s₁:=by
  have rv:=S7 hi
  have lenV:=hi.length
  have core:∀ H:Hp,S8 H->SqL K H a (ns.map V.int)->HOk P w H s₁.heap->(∀ b,H b≠none->b=a)->(H a≠none->K.lookup a=none) →
      codeAny (model P w) callerA (.call (.ref fa) ⟨[.ref a],[]⟩) (λr s'=>r=.ok (.ret (.bool true))/\OldK s₁.heap s'.heap/\s'.os=s₁.os/\AllBare s'.gens) s₁:=by
    intro H hO hS hok hA hK
    have base_of:∀ {b:Addr} {o:Obj},s₁.heap.get? b=some o->H b=none->(IQ s₁.heap H).get? b=some o:=λe n=>tI e n
    have noA:∀ {b:Addr} {o:Obj} {es:Array DictEntry} {ep:Nat},s₁.heap.get? b=some o->o.data=.dict es ep->H b=none:=λ{b o es ep} e d=>by
      cases q:H b with
      | none=>rfl
      | some u =>
        have e':b=a:=hA b (by rw[q];simp)
        subst e'
        rw[ha]at e;cases e
        have d':Data.seq vs.toArray _=Data.dict es ep:=d
        cases d'
    have nsK:∀ {b:Addr} {m:Str->Option Value},s₁.heap.Ns b m->(IQ s₁.heap H).Ns b m:=λ{b m} ⟨o,es,ep,e,d,r⟩=>⟨o,es,ep,base_of e (noA e d),d,r⟩
    have hKb:K.In (IQ s₁.heap H):=λb o e=>base_of (KX b o e) (by
      cases q:H b with
      | none=>rfl
      | some u =>
        have e':b=a:=hA b (by rw[q];simp)
        subst e'
        rw[hK (by rw[q];simp)]at e;cases e)
    have hM:Mod K mg (IQ s₁.heap H):=⟨hKb,nsK hns,⟨mb,nsK hb,hbb⟩,let ⟨mc,h1,h2⟩:=hlim;⟨mc,nsK h1,h2⟩⟩
    have e0:Env0 P w K mg (IQ s₁.heap H) callerA [] s₁ H:=⟨rfl,hM,λb o e=>tJ e,Nat.le_of_eq (tH _ _),trivial,λb hb=>absurd (show b∈([]:List Addr)from hb) (by simp),hok,.of_eq hg⟩
    refine codeAny_mono ((F _ hKb (nsK hns)).run callerA [] s₁ H ⟨[.ref a],[]⟩ [.ref a] [.ref a] _ _ hr e0 (hbind s₁ (.ref a)) (.cons rfl .nil) (hsp H hO hS)) λr s' h=> ?_
    cases r with
    | error e=>exact(hCX H e s' h).elim
    | ok fl =>
      cases fl with
      | next=>exact False.elim h
      | brk=>exact False.elim h
      | cont=>exact False.elim h
      | ret u =>
        obtain⟨v,H',os,bare,un,hok',r',q⟩:=h
        have q':v=.bl true:=q
        subst q'
        obtain rfl:u=Value.bool true:=r'
        refine⟨rfl,OldK.of_keep λb o e=> ?_,os,bare⟩
        cases q:H b with
        | none=>exact un.keep b o e q (by intro z;exact absurd (show b∈([]:List Addr)from z) (by simp)) (by simp)
        | some u =>
          rcases hO b with z | ⟨ob,xs,z⟩
          ·rw[q]at z;cases z
          · have z2:=un.frzs b ob _ z
            obtain⟨e1,_⟩:=hok b _ z
            obtain⟨e2,_⟩:=hok' b _ z2
            rw[e]at e1;cases e1
            exact e2
  cases hk:K.lookup a with
  | some o =>
    have e:=KX a o hk
    rw[ha]at e
    cases e
    refine core (λ_=>none) (λ_=>.inl rfl) (.inr ⟨_,vs.toArray,_,hk,rfl,rfl,rfl,by rw[List.size_toArray,lenV];exact hl,by simpa using rv⟩) (λb u z=>by have z':(none:Option HO)=some u:=z;cases z') (λb z=>absurd rfl z) λz=>absurd rfl z
  | none =>
    refine core (λb=>if b=a then some (.frz { cls:=.type "list",data:=.seq vs.toArray } (.lst (ns.map V.int)))else none) (λb=> ?_) (.inl (.inr ⟨{ cls:=.type "list",data:=.seq vs.toArray },if_pos rfl⟩)) (λb u z=> ?_) (λb z=> ?_) λ_=>hk
    · by_cases hb:b=a
      ·exact .inr ⟨_,_,if_pos hb⟩
      ·exact .inl (if_neg hb)
    · by_cases hb:b=a
      · have z':=(if_pos hb).symm.trans z
        cases z'
        subst hb
        exact⟨ha,by rw[List.length_map];exact hl,vs,_,rv,ha⟩
      · have z':=(if_neg hb).symm.trans z
        cases z'
    · by_cases hb:b=a
      ·exact hb
      ·exact absurd (if_neg hb) z
end L2
namespace L2
theorem walk_of{l:W.OpenLaw}{n k:Nat}{q:Program}{loose:List Str}{XP:(Str->Option Value)->Heap->Prop}{YP:World->Heap->Prop}{d:DefRec}{K:Params->W.Frag}{CX:World->GO}{sp:World->Sp}{x:Str}
  (hn:l.most=some n) (hn2:n<=sizeLine) (hdf:d.params.defaults=[]) (hr:Room k callerA)
  (hY:∀ (w:World) (h:Heap),YP w h->(K w.params).In h)
  (F:∀ (w:World) (mg:Str->Option Value) (fa:Addr) (h:Heap),(K w.params).In h->h.Ns mainGlobals mg->mg d.name=some (.ref fa) →
   ∃ fd:FuncData,(∀ (s:Shared) (u:Value),BindsTo s fd ⟨[u],[]⟩ [(x,u)]) ∧
    ∀ base:Heap,(K w.params).In base->base.Ns mainGlobals mg->FnOk l.prog w (K w.params) mg base (CX w) k fa fd [x] (sp w))
  (hsp:∀ (w:World) (H:Hp) (a:Addr) (ns:List Int),ns.length<=n->S8 H->SqL (K w.params) H a (ns.map V.int)->sp w [.ref a] H (λv _=>v=.bl true) λ_ _ _=>False)
  (hCX:∀ (w:World) (H:Hp) (s:Shared) (e:Value) (s':Shared),CX w [] H s (λ_ _ _=>False) e s'->False) :
  W.WalkO q loose XP YP l.row.toRowW d [] (λf vs=>PySem.call f vs):=by
 refine Att.attach_call hn hdf λw s₀ s₁ mg mb fa o pm cd doc a vs ns G Y ho hd IN hmg hobj hints BU hg=> ?_
 have KX:=hY w _ Y
 obtain⟨fd,hb,hF⟩:=F w mg fa _ KX G.T.g hmg
 exact wS KX G.T.g G.T.b G.T.builtins G.T.nolimit hg hobj hints (Nat.le_trans BU hn2) hr hF hb (λH hO hS=>hsp w H a ns BU hO hS) λH e s'=>hCX w H s₁ e s'
end L2
namespace L2
def BQ(s:Stmt)(j:Nat):Stmt:=match s with
 | .ClassDef _ _ _ body _ _ _ _ _ _ _=>body.getD j (.Pass ⟨0,0,0,0⟩)
 | _=>.Pass ⟨0,0,0,0⟩
def JC(s:Stmt):Arguments:=match s with
 | .FunctionDef _ a _ _ _ _ _ _ _ _=>a
 | _=>{ posonlyargs:=[],args:=[],vararg:=none,kwonlyargs:=[],kw_defaults:=[],kwarg:=none,defaults:=[] }
def GS(s:Stmt):List Stmt:=match s with
 | .FunctionDef _ _ b _ _ _ _ _ _ _=>b
 | _=>[]
def A1(s:Stmt):Scope:=match s with
 | .FunctionDef _ _ _ _ _ _ sc _ _ _=>sc
 | _=>{ kind:=.function,names:=[],isGenerator:=false,isCoroutine:=false }
abbrev E0:XK:=λ_ _ _=>False
structure Fun(K:W.Frag)(x qual:Str)(st:Stmt)(f:Addr)(fd:FuncData):Prop where
 ex:∃ (oc:Value) (od:Option Addr) (kV doc pm:Value) (an:Option Addr) (BR ct:Value) (osl:Array (Option Value)),
  fd=W.fnOf x qual (JC st) (GS st) (A1 st) .none kV doc pm an BR ct/\K.lookup f=some ⟨oc,od,.func fd,osl⟩/\W.codeIn K BR qual=true
 kp:W.keepIn K (.ref f)=true
section
variable{P:Program}{w:World}{K:W.Frag}{mg:Str->Option Value}{base:Heap}
theorem Fun.binds{x qual:Str}{st:Stmt}{f:Addr}{fd:FuncData}{ps:List Str}(F:Fun K x qual st f fd)
  (h:∀ (kV doc pm:Value) (an:Option Addr) (BR ct:Value) (us:List Value),us.length=ps.length->bindArgs (W.fnOf x qual (JC st) (GS st) (A1 st) .none kV doc pm an BR ct) ⟨us,[]⟩=pure (ps.zip us)):Binds K fd ps []:=by
 obtain⟨oc,od,kV,doc,pm,an,BR,ct,osl,rfl,lk,IN⟩:=F.ex
 exact .all (h kV doc pm an BR ct)
theorem cX{x qual:Str}{st:Stmt}{f:Addr}{oc:Value}{od an:Option Addr}{osl:Array (Option Value)}{kV doc pm BR ct:Value}(l:K.lookup f=some ⟨oc,od,.func (W.fnOf x qual (JC st) (GS st) (A1 st) .none kV doc pm an BR ct),osl⟩)
  (c:W.codeIn K BR qual=true) (k:W.keepIn K (.ref f)=true):Fun K x qual st f (W.fnOf x qual (JC st) (GS st) (A1 st) .none kV doc pm an BR ct):=⟨⟨oc,od,kV,doc,pm,an,BR,ct,osl,rfl,l,c⟩,k⟩
end
theorem DN{A:Around}{k:Nat}(hr:Room k A):A.units+1<cLine:=Nat.lt_of_le_of_lt (Nat.add_le_add_left (by decide:1<=64) _) hr.units
section
variable{X:Cx}
end
def Same(H H':Hp):Prop:=∀ b o,H b=some o->H' b=some o
theorem Same.refl(H:Hp):Same H H:=λ_ _ h=>h
theorem Same.trans{H H1 H2:Hp}(a:Same H H1)(b:Same H1 H2):Same H H2:=λc o h=>b c o (a c o h)
theorem Same.free{H H':Hp}(e:Same H H'){l:Addr}(h:H' l=Option.none):H l=Option.none:=by
 cases q:H l with
 | none=>rfl
 | some o =>
  rw[e l o q]at h
  cases h
theorem Same.seq{K:W.Frag}{H H':Hp}{a:Addr}{xs:List V}(e:Same H H')(h:SqL K H a xs):SqL K H' a xs:=by
 rcases h with(h | ⟨o,h⟩) | h
 ·exact .inl (.inl (e _ _ h))
 ·exact .inl (.inr ⟨o,e _ _ h⟩)
 ·exact .inr h
section
variable{κ :Type}[DecidableEq κ]
theorem cY{kvs:List (κ × V)}{k: κ}(h:BJ kvs k=none):¬ k∈kvs.map (·.1):=by
 intro m
 obtain⟨p,hp,e⟩:=List.mem_map.mp m
 have q:(kvs.any λkv=>decide (kv.1=k))=true:=List.any_eq_true.mpr ⟨p,hp,decide_eq_true e⟩
 rw[IY,h]at q
 exact absurd q (by simp)
theorem cZ:∀ {l:List κ} {k: κ},l.Nodup->¬ k∈l->(l++[k]).Nodup
 | [],k,_,_=>by simp
 | a::r,k,h,hk=>by
  obtain⟨h1,h2⟩:=List.nodup_cons.mp h
  show(a::(r++[k])).Nodup
  refine List.nodup_cons.mpr ⟨λm=> ?_,cZ h2 λm=>hk (List.mem_cons.mpr (Or.inr m))⟩
  rcases List.mem_append.mp m with q | q
  ·exact h1 q
  ·exact hk (List.mem_cons.mpr (Or.inl (List.mem_singleton.mp q).symm))
theorem wT{kvs:List (κ × V)}{k: κ}(v:V)(hn:(kvs.map (·.1)).Nodup)(h:BJ kvs k=none):((B7 kvs k v).map (·.1)).Nodup:=by
 rw[OW v h,List.map_append]
 exact cZ hn (cY h)
theorem c5{p: κ × V}{r:List (κ × V)}{k: κ}(e:p.1=k):FA (p::r) k=FA r k:=by
 unfold FA
 rw[List.filter_cons,if_neg (by simp[e])]
theorem c7{p: κ × V}{r:List (κ × V)}{k: κ}(e:¬ p.1=k):FA (p::r) k=p::FA r k:=by
 unfold FA
 rw[List.filter_cons,if_pos (by simp[e])]
theorem c8{kvs:List (κ × V)}{k: κ}{p: κ × V}(h:p∈FA kvs k):p∈kvs:=(List.mem_filter.mp h).1
theorem S9:∀ {kvs:List (κ × V)} {k: κ},(kvs.map (·.1)).Nodup->((FA kvs k).map (·.1)).Nodup
 | [],_,_=>List.nodup_nil
 | p::r,k,h=>by
  have h:(p.1::r.map (·.1)).Nodup:=h
  obtain⟨h1,h2⟩:=List.nodup_cons.mp h
  by_cases e:p.1=k
  ·rw[c5 e]
   exact S9 h2
  ·rw[c7 e]
   show(p.1::(FA r k).map (·.1)).Nodup
   refine List.nodup_cons.mpr ⟨λm=>h1 ?_,S9 h2⟩
   obtain⟨q,hq,eq⟩:=List.mem_map.mp m
   exact List.mem_map.mpr ⟨q,c8 hq,eq⟩
end
end L2
namespace L2
theorem TC{env:Env}:∀ (names:List (Str × NameKind)) (cs:List (Str × Addr)),
  (∀ x∈names,x.2=.free->∃ c,env.cells.lookup x.1=some c)->(∀ x c,cs.lookup x=some c->env.cells.lookup x=some c) →
  ∃ cl,(forIn names cs λx r=>(if(x.2 == NameKind.free)=true then do let a ← cellOf env x.1;pure (ForInStep.yield ((x.1,a)::r))else pure (ForInStep.yield r):Sem (ForInStep (List (Str × Addr)))))=pure cl ∧
   (∀ x c,cl.lookup x=some c->env.cells.lookup x=some c)/\(∀ x,(cs.lookup x).isSome=true->(cl.lookup x).isSome=true) ∧
   ∀ x∈names,x.2=.free->(cl.lookup x.1).isSome=true
 | [],cs,_,h=>⟨cs,rfl,h,λ_ z=>z,λ_ z=>nomatch z⟩
 | (n,k)::r,cs,hf,h=>by
  by_cases hk:k=.free
  ·subst hk
   obtain⟨c,hc⟩:=hf (n,.free) List.mem_cons_self rfl
   obtain⟨cl,e,h1,h2,h3⟩:=TC r ((n,c)::cs) (λx hx=>hf x (List.mem_cons_of_mem _ hx)) (λx c' hx=>by
    by_cases hxn:x=n
    ·subst hxn;simp only[List.lookup_cons,beq_self_eq_true]at hx;cases hx;exact hc
    ·have:(x == n)=false:=beq_eq_false_iff_ne.mpr hxn
     simp only[List.lookup_cons,this]at hx;exact h x c' hx)
   refine⟨cl,?_,h1,λx hx=>h2 x ?_,λx hx hxf=> ?_⟩
   ·rw[List.forIn_cons]
    show((if(NameKind.free == NameKind.free)=true then _ else _) >>= _)=_
    rw[if_pos (show(NameKind.free == NameKind.free)=true from rfl)]
    unfold cellOf
    show(((match env.cells.lookup n with | some a=>pure a | none=>_) >>= _) >>= _)=_
    rw[hc]
    exact e
   ·by_cases hxn:x=n
    ·subst hxn;simp
    ·have:(x == n)=false:=beq_eq_false_iff_ne.mpr hxn
     simp only[List.lookup_cons,this];exact hx
   ·rcases List.mem_cons.mp hx with rfl | hx
    ·exact h2 n (by simp)
    ·exact h3 x hx hxf
  ·obtain⟨cl,e,h1,h2,h3⟩:=TC r cs (λx hx=>hf x (List.mem_cons_of_mem _ hx)) h
   refine⟨cl,?_,h1,h2,λx hx hxf=> ?_⟩
   ·rw[List.forIn_cons]
    have hb:(k == NameKind.free)=false:=by simpa using hk
    show((if(k == NameKind.free)=true then _ else _) >>= _)=_
    rw[if_neg (by simp[hb])]
    exact e
   ·rcases List.mem_cons.mp hx with rfl | hx
    ·exact absurd hxf hk
    ·exact h3 x hx hxf
theorem c9{env:Env}{scope:Scope}(hf:∀ x∈scope.names,x.2=.free->∃ c,env.cells.lookup x.1=some c) :
  ∃ cl,closureFor scope env=pure cl/\(∀ x c,cl.lookup x=some c->env.cells.lookup x=some c)/\∀ x∈scope.names,x.2=.free->(cl.lookup x.1).isSome=true:=by
 obtain⟨cl,e,h1,_,h3⟩:=TC (env:=env) scope.names [] hf (λx c h=>by simp at h)
 refine⟨cl,?_,h1,h3⟩
 unfold closureFor
 show(forIn scope.names ([]:List (Str × Addr)) _ >>= _)=_
 have:(forIn scope.names ([]:List (Str × Addr)) λx r=>(if(x.2 == NameKind.free)=true then do let a ← cellOf env x.1;pure (ForInStep.yield ((x.1,a)::r))else pure (ForInStep.yield r):Sem (ForInStep (List (Str × Addr))))) >>=(λr=>(pure r:Sem _))=(pure cl:Sem _):=by rw[e];rfl
 exact this
theorem dA{env:Env}:∀ {names:List (Str × NameKind)} {x:Str},names.lookup x=some .free →
  (names.map λ(n,k)=>if(k == NameKind.free && env.scope.kind == .function && env.kindOf n == some .cell)then(n,NameKind.cell)else(n,k)).lookup x=some .cell ∨
  (names.map λ(n,k)=>if(k == NameKind.free && env.scope.kind == .function && env.kindOf n == some .cell)then(n,NameKind.cell)else(n,k)).lookup x=some .free
 | [],_,h=>by simp at h
 | (n,k)::r,x,h=>by
  by_cases hx:x=n
  ·subst hx
   simp only[List.lookup_cons,beq_self_eq_true]at h
   cases h
   show List.lookup x ((if _ then(x,NameKind.cell)else(x,NameKind.free))::_)=_\/List.lookup x ((if _ then(x,NameKind.cell)else(x,NameKind.free))::_)=_
   split
   ·exact .inl (by simp)
   ·exact .inr (by simp)
  ·have hb:(x == n)=false:=beq_eq_false_iff_ne.mpr hx
   simp only[List.lookup_cons,hb]at h
   have ih:=dA (env:=env) h
   show List.lookup x ((if _ then(n,NameKind.cell)else(n,k))::_)=_\/List.lookup x ((if _ then(n,NameKind.cell)else(n,k))::_)=_
   split<;>(simp only[List.lookup_cons,hb];exact ih)
theorem dB{env:Env}:∀ {names:List (Str × NameKind)} {x:Str},
  ((names.map λ(n,k)=>if(k == NameKind.free && env.scope.kind == .function && env.kindOf n == some .cell)then(n,NameKind.cell)else(n,k)).lookup x=some .cell ∨
  (names.map λ(n,k)=>if(k == NameKind.free && env.scope.kind == .function && env.kindOf n == some .cell)then(n,NameKind.cell)else(n,k)).lookup x=some .free)->(x,NameKind.free)∈names\/(x,NameKind.cell)∈names
 | [],_,h=>by simp at h
 | (n,k)::r,x,h=>by
  by_cases hx:x=n
  ·subst hx
   have h:List.lookup x ((if(k == NameKind.free && env.scope.kind == .function && env.kindOf x == some .cell)=true then(x,NameKind.cell)else(x,k))::_)=some .cell\/List.lookup x ((if(k == NameKind.free && env.scope.kind == .function && env.kindOf x == some .cell)=true then(x,NameKind.cell)else(x,k))::_)=some .free:=h
   split at h
   ·rename_i hc
    rw[Bool.and_eq_true,Bool.and_eq_true]at hc
    have:k=.free:=by simpa using hc.1.1
    subst this
    exact .inl List.mem_cons_self
   ·simp only[List.lookup_cons,beq_self_eq_true]at h
    rcases h with h | h
    ·cases h;exact .inr List.mem_cons_self
    ·cases h;exact .inl List.mem_cons_self
  ·have hb:(x == n)=false:=beq_eq_false_iff_ne.mpr hx
   have h:List.lookup x ((if(k == NameKind.free && env.scope.kind == .function && env.kindOf n == some .cell)=true then(n,NameKind.cell)else(n,k))::_)=some .cell\/List.lookup x ((if(k == NameKind.free && env.scope.kind == .function && env.kindOf n == some .cell)=true then(n,NameKind.cell)else(n,k))::_)=some .free:=h
   have h':=h
   split at h'
   all_goals
    simp only[List.lookup_cons,hb]at h'
    exact(dB h').imp (List.mem_cons_of_mem _) (List.mem_cons_of_mem _)
theorem FC{a b:Addr}{n:Nat}(h:a<n)(h2:n<=b):a≠b:=Nat.ne_of_lt (Nat.lt_of_lt_of_le h h2)
def Cx.block(X:Cx)(AA:List (Addr × Obj))(s:Shared)(H:Hp)(Nc:List Str)(scope:Scope)(cl:List (Str × Addr))(C:Addr)(fp:List Addr):Cx where
 prog:=X.prog
 w:=X.w
 K:=X.K
 mg:=X.mg
 base:=X.base
 A:=X.A
 N:=Nc
 s₀:=s
 H₀:=H
 env:=compEnvC scope cl C X.env
 outer:=X.stack
 stack:=X.stack
 ex:=fp
 fn:=λ_=>false
 calm:=X.calm
 pn:=X.pn++AA
 xe:=λ_ _=>False
structure LS(X:Cx)(scope:Scope)(tn cn:List Str)(cap:List Nat):Prop where
 kind:scope.kind=.function
 nocell:∀ y∈scope.names,y.2≠.cell
 names:∀ y∈scope.names,y.2=.local->scope.names.lookup y.1=some .local
 free:∀ y∈scope.names,y.2=.free->X.env.kindOf y.1=some .cell\/X.env.kindOf y.1=some .free
 drawn:∀ x∈cn,scope.names.lookup x=some .free
 caps:cap.map (λi=>X.N[i]?)=cn.map some
def J7(k:Nat)(cap:List Nat)(σ:St):St:=List.replicate k none++cap.map λi=>(σ[i]?).join
theorem HOk.track{P:Program}{w:World}{H:Hp}{h:Heap}{a:Addr}{o:HO}(x:HOk P w H h)(hn:H a=none)(new:ObjOk P w (upd H a o) h a o):HOk P w (upd H a o) h:=λb u e=>by
 by_cases hb:b=a
 ·subst hb;rw[AE]at e;cases e;exact new
 ·rw[AF hb]at e
  refine(x b u e).stay (λ_ _ _ q=>q) (λc q=> ?_) λc xs q=> ?_
  ·rw[AF (BM q hn)];exact q
  ·rw[AF (BM q hn)];exact q
section
variable{X:Cx}{AA:List (Addr × Obj)}{σ:St}{H:Hp}{s:Shared}
theorem Inv.pinlt(I:Inv X AA σ H s){p:Addr × Obj}(hp:p∈X.pn++AA):p.1<s.heap.objs.size:=Heap.lt_size (I.pin p hp).1
theorem Inv.stkne(I:Inv X AA σ H s){b:Addr}(h1:b≠X.env.locals)(h2:b∉X.fs):b∉DY X.stack:=λz=>(List.mem_cons.mp (I.stkSub b z)).elim h1 h2
theorem Inv.stklt(I:Inv X AA σ H s){b:Addr}(h:b∈DY X.stack):b<s.heap.objs.size:=by
 obtain⟨_,o,ho,_⟩:=I.stack.mem h
 exact Heap.lt_size ho
theorem Inv.block{scope:Scope}{tn cn:List Str}{cap:List Nat}{cl:List (Str × Addr)}{C:Addr}{fp:List Addr}{pins':List (Addr × Obj)}{s1:Shared}(I:Inv X AA σ H s)(S:LS X scope tn cn cap)
  (A8:∀ x c,cl.lookup x=some c->X.env.cells.lookup x=some c) (KO:∀ x∈scope.names,x.2=.free->(cl.lookup x.1).isSome=true)
  (hf:∀ b∈fp,FpOk X AA H b) (hfl:∀ b∈fp,b<s.heap.objs.size) (hC:s.heap.objs.size<=C) (k:∀ b o,s.heap.get? b=some o->s1.heap.get? b=some o)
  (hos:s1.os=s.os) (hg:s1.gens=s.gens) (hns:∃ m,s1.heap.Ns C m)
  (hp:∀ p∈pins',s1.heap.get? p.1=some p.2/\H p.1=none/\p.1≠C/\p.1∉DY X.stack/\∀ v,p.2.data≠.cell v) :
  Inv (X.block AA s H (tn++cn) scope cl C fp) pins' (J7 tn.length cap σ) H s1:=by
 have ok:(X.block AA s H (tn++cn) scope cl C fp).Ok:=by
  refine⟨I.ok.mod,S.kind,I.ok.glob,I.ok.blt,hC,λx y c h1 h2=>I.ok.inj x y c (A8 x c h1) (A8 y c h2),λx hx=> ?_,λx c z _=>(by cases z),I.ok.hd,I.ok.frames,.inl rfl,λb hb=>⟨?_,λx c e=>(hf b hb).2.2.2.2.1 x c (A8 x c e)⟩,I.bs,Nat.le_trans I.ok.bsz I.sz,λb o e hb=> ?_,λb hb=>I.stkne (hf b hb).2.1 (hf b hb).2.2.1,I.stack,I.stkFree⟩
  ·rcases dB (env:=X.env) hx with z | z
   ·exact Option.isSome_iff_exists.mp (KO _ z rfl)
   ·exact absurd rfl (S.nocell _ z)
  ·exact Nat.ne_of_lt (Nat.lt_of_lt_of_le (hfl b hb) hC)
  ·rcases(hf b hb).2.2.2.1 with z | z
   ·exact I.ok.noex b o e z
   ·have h1:b<X.base.objs.size:=Heap.lt_size e
    exact absurd (Nat.lt_of_lt_of_le h1 (Nat.le_trans I.ok.bsz z)) (Nat.lt_irrefl _)
 refine⟨ok,hos,by rw[hg];exact I.bare,Un.kept k,?_,λx c e=> ?_,I.hok.fresh hC,λx c e=>I.freeC x c (A8 x c e),λp hp'=> ?_,I.hok.kept k,?_⟩
 ·obtain⟨m,hm⟩:=hns
  refine⟨m,hm,λi x v h1 h2 h3=> ?_⟩
  have hi:tn.length<=i:=by
   rcases Nat.lt_or_ge i tn.length with z | z
   ·unfold J7 at h2
    rw[List.getElem?_append_left (by simpa using z),List.getElem?_replicate]at h2
    split at h2<;>cases h2
   ·exact z
  unfold J7 at h2
  rw[List.getElem?_append_right (by simpa using hi),List.length_replicate,List.getElem?_map]at h2
  have h1':cn[i - tn.length]? =some x:=by
   have:(tn++cn)[i]? =some x:=h1
   rwa [List.getElem?_append_right hi]at this
  cases hq:cap[i - tn.length]? with
  | none=>rw[hq]at h2;cases h2
  | some j =>
   rw[hq]at h2
   have hj:X.N[j]? =some x:=by
    have:=congrArg (λl=>l[i - tn.length]?) S.caps
    simp only[List.getElem?_map,hq,h1',Option.map_some]at this
    exact Option.some.inj this
   have hv:σ[j]? =some (some v):=by
    cases hs:σ[j]? with
    | none=>simp[hs]at h2
    | some y=>simp only[Option.map_some,hs,Option.join_some]at h2;cases h2;rfl
   have hxf:(x,NameKind.free)∈scope.names:=PySem.mem_of_lookup (S.drawn x (List.mem_of_getElem? h1'))
   have hk:=S.free _ hxf rfl
   obtain⟨m0,_,hl0⟩:=I.loc
   obtain⟨u,r,q⟩:=hl0 j x v hj hv (hk.elim (λz=>.inr (.inl z)) λz=>.inr (.inr z))
   refine⟨u,r,.inr ⟨dA (S.drawn x (List.mem_of_getElem? h1')),?_⟩⟩
   rcases q with⟨kl,_⟩ | ⟨_,c,hc,z⟩
   ·have kl':X.env.kindOf x=some .local:=kl
    rcases hk with hk | hk<;>(rw[kl']at hk;cases hk)
   ·obtain⟨c',hc'⟩:=Option.isSome_iff_exists.mp (KO _ hxf rfl)
    have:=A8 _ _ hc'
    rw[hc]at this
    cases this
    exact⟨c,hc',z.keeps k⟩
 ·obtain⟨v,z⟩:=I.cell x c (A8 x c e)
  exact⟨v,z.keeps k⟩
 ·rcases List.mem_append.mp hp' with z | z
  ·obtain⟨e,n,ne,nf,d⟩:=I.pin p z
   exact⟨k _ _ e,n,Nat.ne_of_lt (Nat.lt_of_lt_of_le (Heap.lt_size e) hC),I.stkne ne nf,d⟩
  ·exact hp p z
 ·unfold J7
  show _=(tn++cn).length
  have:=congrArg List.length S.caps
  simp only[List.length_map]at this
  simp[this]
end
def DO:TT:=λ_ H Q=>Q true H
def O0(X:Cx)(FJ:List Expr)(t:TT):Prop :=
 ∀ (AA:List (Addr × Obj)) (s:Shared) (σ:St) (H:Hp) (Q:Bool->Hp->Prop),Inv X AA σ H s->t σ H Q →
  wpAny (model X.prog X.w) X.A (forIn FJ true λc r=>if r=true then do let ok ← isTrue c X.env (eval c X.env);pure (ForInStep.yield ok)else pure (ForInStep.yield r)) (TP X AA σ Q) X.xe s
theorem F7{X:Cx}:O0 X [] DO:=λAA s σ H Q I h=>wpAny_tests_nil ⟨H,I,h⟩
theorem wU {prog:Program} {w:World} {A:Around} {R:Result->Shared->Prop} {s:Shared} {F6 target iter:Expr} {FJ:List Expr} {scope:Scope} {pos:Pos} {it BZ:Value} {env:Env} (Jn:Nat->Shared->Prop)
    (turn:∀ n s,Jn n s->wpAny (model prog w) A (pyNext it) (λr s₁=>match r with
      | none=>R (.ok .next) s₁
      | some v=>wpAny (model prog w) A (letOwnedTupleGo target it v) (λ_ s₂=>wpAny (model prog w) A (assign target env v) (λ_ s₃ =>
          wpAny (model prog w) A (forIn FJ true λc r=>if r=true then do let ok ← isTrue c env (eval c env);pure (ForInStep.yield ok)else pure (ForInStep.yield r)) (λok s₄ =>
            if ok=true then wpAny (model prog w) A (eval F6 env) (λx s₅ =>
              wpAny (model prog w) A (call (.builtin "list.append") [BZ,x]) (λ_ s₆=>∃ m,m<n/\Jn m s₆) (λ_ _=>False) s₅) (λ_ _=>False) s₄
            else ∃ m,m<n/\Jn m s₄) (λ_ _=>False) s₃) (λ_ _=>False) s₂) (λ_ _=>False) s₁) (λ_ _=>False) s)
    (n:Nat) (h:Jn n s):codeAny (model prog w) A (.compLoop (.ListComp F6 [⟨target,iter,FJ,0⟩] scope pos) 0 it BZ env) R s:=by
  refine codeAny_loop rfl Jn (λn' s' hJ=> ?_) n h
  show wpAny _ A ((compTurn (.ListComp F6 [⟨target,iter,FJ,0⟩] scope pos) 0 it BZ env).onRaise (λx'=>do noteFrame x' env;theTreesLotGoes x')) _ _ s'
  refine wpAny_noted (wpAny_noRaise ?_)
  rw[compTurn_list]
  refine wpAny_bind (wpAny_standAt (wpAny_bind (AS (turn n' s' hJ) λr s₁ h₁=> ?_)))
  cases r with
  | none=>exact wpAny_pure h₁
  | some v =>
    refine wpAny_bind (AS h₁ λ_ s₂ h₂=> ?_)
    refine wpAny_bind (AS h₂ λ_ s₃ h₃=>wpAny_bind (AS h₃ λok s₄ h₄=> ?_))
    cases ok with
    | false=>exact wpAny_pure ⟨rfl,h₄⟩
    | true=>exact wpAny_bind (wpAny_bind (AS h₄ λx' s₅ h₅=>wpAny_bind (AS h₅ λ_ s₆ h₆=>wpAny_pure (wpAny_pure ⟨rfl,h₆⟩))))
def EQ(wi:TI)(g:TG)(tt:TT)(te:TE)(k:Nat)(cap:List Nat):TE:=λσ H Q=>wi σ H λJ H1 =>
 ∃ W:Nat->Nat->St->List V->Hp->Prop,(∃ m,W 0 m (J7 k cap σ) [] H1)/\∀ i m σ' ys H,W i m σ' ys H →
  (J.stop i H/\∀ p,H p=none->Q (.ref p) (upd H p (.lst ys))) ∨
  (J.go i H/\ys.length<sizeLine/\∀ x H',J.yld i H x H'->g x σ' H' λσ2 H2=>tt σ2 H2 λb H3 =>
   if b=true then ∃ N:VK,(∀ y H4,N y H4->∃ m',m'<m/\W (i+1) m' σ2 (ys++[y]) H4)/\te σ2 H3 N else ∃ m',m'<m/\W (i+1) m' σ2 ys H3)
structure CompDone(X:Cx)(fp:List Addr)(H:Hp)(s:Shared)(Q:VK)(BZ:Value)(C:Addr)(r:Result)(s':Shared):Prop where
 ok:r=.ok .next
 ex:∃ (D:Addr) (ys:List V) (its:List Value) (n:Nat) (H':Hp),BZ=.ref D/\Vals ys its/\ys.length<=sizeLine/\s'.heap.get? D=some { cls:=.type "list",data:=.seq its.toArray n }/\s.heap.objs.size<=D/\D≠C/\H' D=none/\H' C=none ∧
  (∃ m,s'.heap.Ns C m)/\Un (DY X.stack) fp H H' s.heap s'.heap/\HOk X.prog X.w H' s'.heap/\∀ p,H' p=none->Q (.ref p) (upd H' p (.lst ys))
 ge:s.heap.objs.size<=C
 os:s'.os=s.os
 bare:AllBare s'.gens
section
variable{X:Cx}{AA:List (Addr × Obj)}{σ:St}{H:Hp}{s:Shared}
theorem dC {tg iter F6:Expr} {FJ:List Expr} {scope:Scope} {pos:Pos} {g:TG} {tt:TT} {te:TE} {tn cn:List Str} {cap:List Nat} {cl:List (Str × Addr)} {it:Addr} {fp:List Addr} {tn':Nat->Heap->Prop} {J:It} {Q:VK} {E:Value->Shared->Prop}
    (I:Inv X AA σ H s) (S:LS X scope tn cn cap) (hc:X.calm=true)
    (A8:∀ x c,cl.lookup x=some c->X.env.cells.lookup x=some c) (KO:∀ x∈scope.names,x.2=.free->(cl.lookup x.1).isSome=true)
    (T:JW X.prog X.w X.K tg J fp it tn') (st:tn' 0 s.heap) (hf:∀ b∈fp,FpOk X AA H b)
    (hg:∀ C,PG (X.block AA s H (tn++cn) scope cl C fp) tg g) (ht:∀ C,O0 (X.block AA s H (tn++cn) scope cl C fp) FJ tt) (he:∀ C,PE (X.block AA s H (tn++cn) scope cl C fp) F6 te)
    (W:Nat->Nat->St->List V->Hp->Prop) {m0:Nat} (w0:W 0 m0 (J7 tn.length cap σ) [] H)
    (step:∀ i m σ' ys H,W i m σ' ys H →
      (J.stop i H/\∀ p,H p=none->Q (.ref p) (upd H p (.lst ys))) ∨
      (J.go i H/\ys.length<sizeLine/\∀ x H',J.yld i H x H'->g x σ' H' λσ2 H2=>tt σ2 H2 λb H3 =>
        if b=true then ∃ N:VK,(∀ y H4,N y H4->∃ m',m'<m/\W (i+1) m' σ2 (ys++[y]) H4)/\te σ2 H3 N else ∃ m',m'<m/\W (i+1) m' σ2 ys H3)) :
    wpAny (model X.prog X.w) X.A (newList []) (λBZ s₃=>wpAny (model X.prog X.w) X.A (newFunctionEnv scope X.env.globals cl [] X.env.qual none .none (some X.env)) (λcenv s₄ =>
      codeAny (model X.prog X.w) X.A (.compStart (.ListComp F6 [⟨tg,iter,FJ,0⟩] scope pos) 0 (.ref it) BZ { cenv with scope:=relabel scope X.env }) (CompDone X fp H s Q BZ cenv.locals) s₄) E s₃) E s:=by
  refine wpAny_newObj_type (wpAny_newFunctionEnv S.nocell (by intro y hy;simp at hy) (λh₁ hns₁ hsb₁=> ?_) S.kind)
  dsimp only at hns₁ hsb₁ ⊢
  generalize hH2:s.heap.push { cls:=.type "list",dict:=none,data:=.seq ([]:List Value).toArray }=H2 at hns₁ hsb₁ ⊢
  have hCs:H2.objs.size=s.heap.objs.size+1:=by rw[<-hH2,Heap.size_push]
  generalize hCe:H2.objs.size=C at hns₁ hsb₁ ⊢
  have hC:C=s.heap.objs.size+1:=hCe.symm.trans hCs
  generalize hD:s.heap.objs.size=D at *
  have hDC:D≠C:=by rw[hC];exact Nat.ne_of_lt (Nat.lt_succ_self _)
  have old:∀ b o,s.heap.get? b=some o->h₁.get? b=some o:=λb o e=>by
    have hb:b<D:=by rw[<-hD];exact Heap.lt_size e
    have hbC:b≠C:=FC hb (by rw[hC];exact Nat.le_succ _)
    exact hsb₁.extBut b o hbC (Heap.get?_push_of_some _ (hH2 ▸ Heap.get?_push_of_some _ e))
  have hDo:h₁.get? D=some { cls:=.type "list",data:=.seq ([]:List Value).toArray }:=by
    refine hsb₁.extBut _ _ hDC (Heap.get?_push_of_some _ ?_)
    rw[<-hH2,<-hD]
    exact Heap.get?_push_size _ rfl
  have hfl:∀ b∈fp,b<s.heap.objs.size:=λb hb=>by
    obtain⟨o,e,_⟩:=T.obj 0 _ st b hb
    exact Heap.lt_size e
  have hDn:H D=none:=by rw[<-hD];exact I.hok.fresh (Nat.le_refl _)
  have hDs:D∉DY X.stack:=λz=>FC (I.stklt z) (Nat.le_of_eq hD) rfl
  have I0:Inv (X.block AA s H (tn++cn) scope cl C fp) [(D,{ cls:=.type "list",data:=.seq ([]:List Value).toArray 0 })] (J7 tn.length cap σ) H { s with heap:=h₁,toks:=s.toks+([]:List (Str × Value)).length } :=
    I.block S A8 KO hf hfl (by omega) old rfl rfl ⟨_,hns₁⟩ λp hp=>by
      rw[List.mem_singleton]at hp
      subst hp
      exact⟨hDo,hDn,hDC,hDs,λv z=>nomatch z⟩
  have fpok:∀ {H':Hp} {o:Obj},(∀ b∈fp,H' b=none)->∀ b∈fp,FpOk (X.block AA s H (tn++cn) scope cl C fp) [(D,o)] H' b:=λ{H' o} hn b hb=>by
    obtain⟨_,f1,f2,f3,f4,f5⟩:=hf b hb
    have hbl:=hfl b hb
    refine⟨hn b hb,?_,I.stkne f1 f2,.inl hb,λx c e=>f4 x c (A8 x c e),λp hp=> ?_⟩
    ·exact FC hbl (by rw[hD,hC];exact Nat.le_succ _)
    · rcases List.mem_append.mp hp with z | z
      ·exact f5 p z
      ·rw[List.mem_singleton]at z;subst z;exact Ne.symm (FC hbl (Nat.le_of_eq hD))
  have st1:tn' 0 h₁:=T.keep _ _ _ st λb _ o e=>old b o e
  have loop:∀ s₃:Shared,s₃={ s with heap:=h₁,toks:=s.toks+([]:List (Str × Value)).length } →
      codeAny (model X.prog X.w) X.A (.compLoop (.ListComp F6 [⟨tg,iter,FJ,0⟩] scope pos) 0 (.ref it) (.ref D) (compEnvC scope cl C X.env)) (CompDone X fp H s Q (.ref D) C) s₃:=by
    rintro s₃ rfl
    refine wU (λn s'=>∃ i σ' ys its nn H',Inv (X.block AA s H (tn++cn) scope cl C fp) [(D,{ cls:=.type "list",data:=.seq (its:List Value).toArray nn })] σ' H' s'/\tn' i s'.heap/\(∀ b∈fp,H' b=none)/\Vals ys its/\ys.length<=sizeLine/\W i n σ' ys H') ?_ m0
      ⟨0,_,[],[],0,H,I0,st1,λb hb=>(hf b hb).1,.nil,Nat.zero_le _,w0⟩
    rintro n s4 ⟨i,σ4,ys,its,nn,H4,I4,st4,fr4,r4,l4,w4⟩
    rcases step i n σ4 ys H4 w4 with⟨stop,qn⟩ | ⟨go,BK,next⟩
    · refine AS (T.done (X.block AA s H (tn++cn) scope cl C fp) rfl rfl rfl hc i _ s4 σ4 H4 _ I4 (fpok fr4) st4 stop) λr s5 ⟨hr,I5⟩=> ?_
      subst hr
      have hp:=I5.pin (D,_) (List.mem_append_right _ List.mem_cons_self)
      obtain⟨m5,hm5,_⟩:=I5.loc
      exact⟨rfl,⟨D,ys,its,nn,H4,rfl,r4,l4,hp.1,by omega,hDC,hp.2.1,I5.free,⟨m5,hm5⟩,I5.base,I5.hok,qn⟩,by omega,I5.os,I5.bare⟩
    · refine AS (T.item (X.block AA s H (tn++cn) scope cl C fp) rfl rfl rfl hc i _ s4 σ4 H4 _ I4 (fpok fr4) st4 go) λr s5 hzz=> ?_
      obtain⟨u,hr,h5⟩:=hzz
      subst hr
      refine AS h5 λ_ s6 hzz=> ?_
      obtain⟨x,H6,I6,r6,y6,st6,fr6⟩:=hzz
      have I6':=I6.pinned (fpok fr6) (T.obj _ _ st6)
      refine AS (hg C _ s6 σ4 H6 x u _ I6' r6 (next x H6 y6)) λ_ s7 hzz=> ?_
      obtain⟨σ7,H7,I7,q7⟩:=hzz
      refine AS (ht C _ s7 σ7 H7 _ I7 q7) λok s8 hzz=> ?_
      obtain⟨H8,I8,q8⟩:=hzz
      have keepst:∀ {σ9:St} {H9:Hp} {s9:Shared},Inv (X.block AA s H (tn++cn) scope cl C fp) ([(D,{ cls:=.type "list",data:=.seq its.toArray nn })]++LJ fp s6.heap) σ9 H9 s9->(∀ b∈fp,∀ o,s6.heap.get? b=some o->s9.heap.get? b=some o)/\∀ b∈fp,H9 b=none:=λ{σ9 H9 s9} I9=>by
        refine⟨λb hb o e=>(I9.pin (b,o) (List.mem_append_right _ (List.mem_append_right _ (LK hb e)))).1,λb hb=> ?_⟩
        obtain⟨o,e,_⟩:=T.obj _ _ st6 b hb
        exact(I9.pin (b,o) (List.mem_append_right _ (List.mem_append_right _ (LK hb e)))).2.1
      cases ok with
      | false =>
        obtain⟨m',hm',w'⟩:=q8
        obtain⟨k1,k2⟩:=keepst I8
        exact⟨m',hm',i+1,σ7,ys,its,nn,H8,I8.unpinned,T.keep _ _ _ st6 k1,k2,r4,l4,w'⟩
      | true =>
        obtain⟨Nw,hN,q8⟩:=q8
        refine AS (he C _ s8 σ7 H8 Nw I8 q8) λv s9 hzz=> ?_
        obtain⟨y,H9,I9,r9,n9⟩:=hzz
        obtain⟨m',hm',w'⟩:=hN y H9 n9
        obtain⟨k1,k2⟩:=keepst I9
        have hp:=I9.pin (D,_) (List.mem_append_right _ (List.mem_append_left _ List.mem_cons_self))
        have e:=hp.1
        have BU:=r4.length
        refine call_meets F.slot_list_append ⟨_,e,rfl⟩ F.entry_list_append (F.args_list_append_2 _ _) (PySem.list_append D its.toArray nn v (by rw[List.size_toArray];omega)) ⟨e,?_⟩
        have q:=PySem.IsL.update e (λxs=>xs.push v)
        have Ia:Inv (X.block AA s H (tn++cn) scope cl C fp) [] σ7 H9 s9:=I9.pins_of λp hp=>nomatch hp
        have Ib:=Ia.turned (h':=s9.heap.update D (Obj.mapSeq (·.push v))) (t':=s9.toks) (it:=D) (λb o hb eb=>(Heap.get?_update_other _ _ (Ne.symm hb)).trans eb) hp.2.1 hDC (.inr (by show s.heap.objs.size<=D;omega))
          (λx c ec z=>by
            obtain⟨vv,zc⟩:=I.cell x c (A8 x c ec)
            exact FC zc.lt (Nat.le_of_eq hD) z)
          (λp hp'=>by
            rw[List.append_nil]at hp'
            exact FC (I.pinlt hp') (Nat.le_of_eq hD))
        have q':(s9.heap.update D (Obj.mapSeq (·.push v))).get? D=some { cls:=.type "list",data:=.seq (its++[v]).toArray (nn+1) }:=by
          rw[if_neg (by simp)]at q
          rw[<-List.push_toArray]
          exact q
        refine⟨m',hm',i+1,σ7,ys++[y],its++[v],nn+1,H9,Ib.pins_of (λp hp'=> ?_),T.keep _ _ _ st6 λb hb o eb=> ?_,k2,r4.append (.cons r9 .nil),?_,w'⟩
        · rw[List.mem_singleton]at hp'
          subst hp'
          exact⟨q',hp.2.1,hDC,hDs,λv' z=>nomatch z⟩
        · have hbl:=hfl b hb
          exact(Heap.get?_update_other _ _ (Ne.symm (FC hbl (Nat.le_of_eq hD)))).trans (k1 b hb o eb)
        · rw[List.length_append,List.length_singleton]
          omega
  exact codeAny_compStart_list (loop _ rfl) (T.self _ 0 _ _ _ st1 (loop _ rfl))
theorem CompDone.inv{Q:VK}{BZ:Value}{C:Addr}{r:Result}{s':Shared}{fp:List Addr}(I:Inv X AA σ H s)(hf:∀ b∈fp,FpOk X AA H b)(h:CompDone X fp H s Q BZ C r s') :
  ∃ D H',BZ=.ref D/\Inv X AA σ H' s'/\Q (.ref D) H'/\H' C=none/\∃ m,s'.heap.Ns C m:=by
 obtain⟨_,⟨D,ys,its,n,H',rfl,r4,l4,e,hD,hDC,hDn,hCn,hm,u,ok,q⟩,hC,os,bare⟩:=h
 have lt:∀ b o,s.heap.get? b=some o->b≠D:=λb o eb=>FC (Heap.lt_size eb) hD
 have ltH:∀ b o,H b=some o->b≠D:=λb o eb=>FC (I.hok.lt eb) hD
 refine⟨D,upd H' D (.lst ys),rfl,I.call' (ch:=fp) os ⟨u.keep,u.slot,λb o eb n' hx=> ?_,u.there,λb xs eb=> ?_,λb o x eb=> ?_,λb ps eb=> ?_⟩ (ok.track hDn ⟨l4,its,n,r4,e⟩) bare (λb hb=> ?_),q D hDn,?_,hm⟩
 ·rw[AF (lt b o eb)];exact u.free b o eb n' hx
 ·rw[AF (ltH b _ eb)];exact u.tups b xs eb
 ·rw[AF (ltH b _ eb)];exact u.frzs b o x eb
 ·rw[AF (ltH b _ eb)];exact u.tbls b ps eb
 ·obtain⟨_,f1,f2,f3,f4,f5⟩:=hf b hb
  exact⟨f3,f1,f4,f5⟩
 ·rw[AF (Ne.symm hDC)];exact hCn
theorem Inv.letgo{C:Addr}{h':Heap}{s1:Shared}{σ1:St}{H1:Hp}(I:Inv X AA σ H s)(hC:s.heap.objs.size<=C)(I1:Inv X AA σ1 H1 s1)(hn:H1 C=none)(hs:Heap.SameBut C s1.heap h'):Inv X AA σ1 H1 { s1 with heap:=h' }:=by
 refine I1.turned (t':=s1.toks) (it:=C) (λb o hb e=>(hs.2 b hb).trans e) hn (λz=> ?_) (.inr ?_) (λx c e z=> ?_) λp hp z=> ?_
 ·exact FC I.lt hC z.symm
 ·exact Nat.le_trans I.sz hC
 ·obtain⟨v,zc⟩:=I.cell x c e
  exact FC zc.lt hC z
 ·exact FC (I.pinlt hp) hC z
variable{tg iter F6:Expr}{FJ:List Expr}{scope:Scope}{pos:Pos}{wi:TI}{g:TG}{tt:TT}{te:TE}{tn cn:List Str}{cap:List Nat}
theorem JD(S:LS X scope tn cn cap)(hc:X.calm=true)(hi:PI X tg iter wi)
  (hg:∀ AA s H cl C fp,PG (X.block AA s H (tn++cn) scope cl C fp) tg g) (ht:∀ AA s H cl C fp,O0 (X.block AA s H (tn++cn) scope cl C fp) FJ tt) (he:∀ AA s H cl C fp,PE (X.block AA s H (tn++cn) scope cl C fp) F6 te)
  (hs:∀ x,foldedSetIterable iter X.env x=pure x:=by intro _;rfl):PE X (.ListComp F6 [⟨tg,iter,FJ,0⟩] scope pos) (EQ wi g tt te tn.length cap):=by
 intro AA s σ H Q I h
 obtain⟨cl,ecl,A8,KO⟩:=c9 (env:=X.env) (scope:=scope) λx hx hxf=>I.ok.has x.1 (S.free x hx hxf)
 rw[eval_ListComp]
 refine wpAny_comprehension_free (use:=none) rfl hs ecl S.kind S.names (AS (hi AA s σ H _ I h) λv s1 h1=>AS h1 λitv s2 h2=> ?_)
 obtain⟨it,fp,tn',J,H2,e,I2,T,st2,f2,W,⟨m0,w0⟩,turn⟩:=h2
 subst e
 refine AS (dC I2 S hc A8 KO T st2 f2 (λC=>hg _ _ _ _ C _) (λC=>ht _ _ _ _ C _) (λC=>he _ _ _ _ C _) W w0 turn) λBZ s3 h3=>AS h3 λcenv s4 h4=>codeAny_mono h4 λr s5 h5=> ?_
 have hr:=h5.ok
 subst hr
 obtain⟨D,H',rfl,I5,q5,hCn,m,hm⟩:=h5.inv I2 f2
 exact⟨m,hm,λh' hs'=>⟨.ref D,H',I2.letgo h5.ge I5 hCn hs',rfl,q5⟩⟩
theorem O1{i:Nat}{x:Str}{px spos:Pos}(S:LS X scope tn cn cap)(hc:X.calm=true)(hN:X.N.Nodup)(hi':X.N[i]? =some x)(hx:X.env.scope.names.lookup x=some .local)(hi:PI X tg iter wi)
  (hg:∀ AA s H cl C fp,PG (X.block AA s H (tn++cn) scope cl C fp) tg g) (ht:∀ AA s H cl C fp,O0 (X.block AA s H (tn++cn) scope cl C fp) FJ tt) (he:∀ AA s H cl C fp,PE (X.block AA s H (tn++cn) scope cl C fp) F6 te)
  (hsw:swapsWith (.ListComp F6 [⟨tg,iter,FJ,0⟩] scope pos) (some (.Name x px)) spos.line X.env=pure true:=by rfl)
  (hs:∀ x,foldedSetIterable iter X.env x=pure x:=by intro _;rfl):PS X (.Assign [.Name x px] (.ListComp F6 [⟨tg,iter,FJ,0⟩] scope pos) spos) (A0 (EQ wi g tt te tn.length cap) (AN i)):=by
 intro AA s σ H D I h
 obtain⟨cl,ecl,A8,KO⟩:=c9 (env:=X.env) (scope:=scope) λx hx hxf=>I.ok.has x.1 (S.free x hx hxf)
 rw[exec_Assign_Name_used _ _ _ _ hsw]
 refine wpAny_bind (wpAny_standAt (wpAny_bind ?_))
 unfold evalThenUse
 refine wpAny_bind ?_
 refine wpAny_comprehension_free (use:=some (assign (.Name x px) X.env)) rfl hs ecl S.kind S.names (AS (hi AA s σ H _ I h) λv s1 h1=>AS h1 λitv s2 h2=> ?_)
 obtain⟨it,fp,tn',J,H2,e,I2,T,st2,f2,W,⟨m0,w0⟩,turn⟩:=h2
 subst e
 refine AS (dC (Q:=λx' H1=>AN i x' σ H1 D.nx) I2 S hc A8 KO T st2 f2 (λC=>hg _ _ _ _ C _) (λC=>ht _ _ _ _ C _) (λC=>he _ _ _ _ C _) W w0 turn) λBZ s3 h3=>AS h3 λcenv s4 h4=>codeAny_mono h4 λr s5 h5=> ?_
 have hr:=h5.ok
 subst hr
 obtain⟨Da,H',rfl,I5,q5,hCn,m,hm⟩:=h5.inv I2 f2
 show wpAny _ _ (assign (.Name x px) X.env (.ref Da)) _ _ s5
 refine wpAny_assign_Name (aY I5 hN hi' (.inl hx) (show RelV (.ref Da) (.ref Da)from rfl) (λs6 I6 hzz=> ?_) (.inr hx))
 obtain⟨a,hsb,ha⟩:=hzz
 refine⟨m,hm.sameBut hsb ?_,λh' hs'=> ?_⟩
 ·rcases ha with z | z
  ·exact Ne.symm (z ▸ FC I2.lt h5.ge)
  ·obtain⟨vv,zc⟩:=I2.cell x a z
   exact Ne.symm (FC zc.lt h5.ge)
 ·exact wpAny_pure (wpAny_pure ⟨σ.set i (some (.ref Da)),H',I2.letgo h5.ge I6 hCn hs',q5⟩)
end
end L2
namespace L2
theorem ObjOk.there{P:Program}{w:World}{H:Hp}{h:Heap}{a:Addr}{o:HO}(x:ObjOk P w H h a o):∃ ob,h.get? a=some ob:=by
 cases o with
 | lst xs=>obtain⟨_,_,_,_,e⟩:=x;exact⟨_,e⟩
 | tup xs=>obtain⟨_,_,_,ob,e,_⟩:=x;exact⟨_,e⟩
 | dK kvs=>obtain⟨_,_,_,_,ob,_,_,e,_⟩:=x;exact⟨_,e⟩
 | dT kvs=>obtain⟨_,_,_,_,ob,_,_,e,_⟩:=x;exact⟨_,e⟩
 | set S n=>obtain⟨ob,_,_,_,e,_⟩:=x;exact⟨_,e⟩
 | ins C dx fs=>obtain⟨_,_,_,e,_⟩:=x;exact⟨_,e⟩
 | own y=>exact x
 | xd fs=>obtain⟨_,⟨ob,_,_,e,_⟩,_⟩:=x;exact⟨_,e⟩
 | rng lo hi=>obtain⟨_,_,_,e⟩:=x;exact⟨_,e⟩
 | frz ob u=>obtain⟨e,_⟩:=x;exact⟨_,e⟩
 | tbl ps=>exact⟨_,show h.get? a=some _ from x⟩
 | met f y=>exact⟨_,show h.get? a=some _ from x⟩
 | ext φ =>exact x.2.1
theorem HOk.nh{P:Program}{w:World}{H:Hp}{h:Heap}{a:Addr}(x:HOk P w H h)(e:h.get? a=none):H a=none:=by
 cases q:H a with
 | none=>rfl
 | some o =>
  obtain⟨ob,e'⟩:=(x a o q).there
  rw[e]at e';cases e'
section
variable{X:Cx}{AA:List (Addr × Obj)}{σ:St}{H H':Hp}{s:Shared}{h':Heap}
theorem Inv.stepN{g':Array GenState}{t':Nat}{d':Drawn}{ch:List Addr}(I:Inv X AA σ H s)
  (DQ:∀ b∈ch,(b∈X.ex\/X.s₀.heap.get? b=none)/\b≠X.env.locals/\(∀ x c,X.env.cells.lookup x=some c->c≠b)/\∀ p∈X.pn++AA,p.1≠b)
  (keep:∀ b o,b≠X.env.locals->b∉X.fs->b∉ch->s.heap.get? b=some o->H b=none->h'.get? b=some o)
  (slot:∀ b o,b≠X.env.locals->b∈X.fs->b∉ch->s.heap.get? b=some o->H b=none->∃ sl,h'.get? b=some { o with slots:=sl }) (free:∀ b o,b∉ch->s.heap.get? b=some o->H b=none->H' b=none)
  (there:∀ b o,b∉ch->s.heap.get? b=some o->∃ o',h'.get? b=some o')
  (tups:∀ b xs,H b=some (.tup xs)->H' b=some (.tup xs)) (frzs:∀ b o u,H b=some (.frz o u)->H' b=some (.frz o u)) (tbls:∀ b ps,H b=some (.tbl ps)->∃ more,H' b=some (.tbl (ps++more)))
  (ns:∀ m,s.heap.Ns X.env.locals m->h'.Ns X.env.locals m) (hok:HOk X.prog X.w H' h') (hg:AllBare g') :
  Inv X AA σ H' { s with heap:=h',gens:=g',drawn:=d',toks:=t' }:=by
 have neL:∀ b o,X.s₀.heap.get? b=some o->b≠X.env.locals:=λb o e=>Nat.ne_of_lt (Nat.lt_of_lt_of_le (Heap.lt_size e) I.ok.above)
 have neC:∀ b o,X.s₀.heap.get? b=some o->b∉X.ex->b∉ch:=λb o e hx hb=>by
  rcases(DQ b hb).1 with z | z
  ·exact hx z
  ·rw[e]at z;cases z
 have cellK:∀ x c,X.env.cells.lookup x=some c->∀ v,s.heap.IsCell c v->h'.IsCell c v:=λx c e v ⟨o,ho,hd⟩=>by
  have nch:c∉ch:=λz=>(DQ c z).2.2.1 x c e rfl
  by_cases hc:c∈X.fs
  ·obtain⟨sl,q⟩:=slot c o (I.cne x c e) hc nch ho (I.freeC x c e)
   exact⟨_,q,hd⟩
  ·exact⟨o,keep c o (I.cne x c e) hc nch ho (I.freeC x c e),hd⟩
 refine⟨I.ok,I.os,hg,⟨λb o e n hb hx=> ?_,λb o e n hb hx=> ?_,λb o e n hx=> ?_,λb o e hx=> ?_,λb xs e=>tups b xs (I.base.tups b xs e),λb o xs e=>frzs b o xs (I.base.frzs b o xs e),λb ps e=> ?_⟩,?_,λx c e=> ?_,?_,λx c e=> ?_,λp hp=> ?_,hok,I.len⟩
 ·exact keep b o (neL b o e) hb (neC b o e hx) (I.base.keep b o e n hb hx) (I.base.free b o e n hx)
 ·obtain⟨sl,e1⟩:=I.base.slot b o e n hb hx
  obtain⟨sl',e2⟩:=slot b _ (neL b o e) hb (neC b o e hx) e1 (I.base.free b o e n hx)
  exact⟨sl',e2⟩
 ·obtain⟨o',e1⟩:=I.base.there b o e hx
  exact free b o' (neC b o e hx) e1 (I.base.free b o e n hx)
 ·obtain⟨o',e1⟩:=I.base.there b o e hx
  exact there b o' (neC b o e hx) e1
 ·obtain⟨m1,e1⟩:=I.base.tbls b ps e
  obtain⟨m2,e2⟩:=tbls b _ e1
  exact⟨m1++m2,by rw[e2,Array.append_assoc]⟩
 ·obtain⟨m,hn,hl⟩:=I.loc
  refine⟨m,ns m hn,λi x v e1 e2 e3=> ?_⟩
  obtain⟨u,r,l⟩:=hl i x v e1 e2 e3
  refine⟨u,r,?_⟩
  rcases l with l | ⟨k,c,e,z⟩
  ·exact .inl l
  ·exact .inr ⟨k,c,e,cellK x c e _ z⟩
 ·obtain⟨v,z⟩:=I.cell x c e
  exact⟨v,cellK x c e v z⟩
 ·obtain⟨m,⟨o,_,_,ho,_⟩,_⟩:=I.loc
  exact free _ o (λz=>(DQ _ z).2.1 rfl) ho I.free
 ·obtain⟨v,o,ho,hd⟩:=I.cell x c e
  exact free c o (λz=>(DQ c z).2.2.1 x c e rfl) ho (I.freeC x c e)
 ·obtain⟨e,n,ne,nf,d⟩:=I.pin p hp
  have nch:p.1∉ch:=λz=>(DQ p.1 z).2.2.2 p hp rfl
  exact⟨keep p.1 p.2 ne nf nch e n,free p.1 p.2 nch e n,ne,nf,d⟩
end
structure Fly(bad:Addr->Prop)(H:Hp)(h:Heap)(e:Addr)(cls:Value):Prop where
 nb:¬ bad e
 free:H e=none
 ex:∃ (oe:Obj) (vs:Array Value),h.get? e=some oe/\oe.cls=cls/\oe.dict=none/\oe.data=.fields vs/\(vs[1]? =some .none ∨
  ∃ (T:Addr) (oT:Obj) (ts:Array Value),vs[1]? =some (.ref T)/\¬ bad T/\H T=none/\T≠e/\h.get? T=some oT/\oT.data=.fields ts/\ts[3]? =some .none)
theorem Fly.mono{bad bad':Addr->Prop}{H:Hp}{h:Heap}{e:Addr}{cls:Value}(F:Fly bad H h e cls)(k:∀ a,bad' a->bad a):Fly bad' H h e cls:=by
 obtain⟨nb,fr,oe,vs,h1,h2,h3,h4,h5⟩:=F
 refine⟨λz=>nb (k _ z),fr,oe,vs,h1,h2,h3,h4,?_⟩
 rcases h5 with z | ⟨T,oT,ts,a,b,c⟩
 ·exact .inl z
 ·exact .inr ⟨T,oT,ts,a,λz=>b (k _ z),c⟩
section
variable{M:Model}{A:Around}{E:Value->Shared->Prop}{s:Shared}
theorem dD{base:Heap}{env:Env}{outer:List Env}{L e:Addr}{oe:Obj}{vs:Array Value}{hd:Value}{nx:Bool}{Q:Unit->Shared->Prop}
  (KN:A.frames=some (env::outer)) (hl:s.heap.FunFrames base (env::outer)) (hf:env.frame=some L) (he:s.heap.get? e=some oe) (hdt:oe.data=.fields vs) (hsz:1<vs.size)
  (h:∀ h' T oT ts,(∀ b o,s.heap.get? b=some o->b≠e->b∉DY (env::outer)->h'.get? b=some o)->(∀ b o,s.heap.get? b=some o->b≠e->∃ sl,h'.get? b=some { o with slots:=sl }) →
   h'.get? e=some (oe.mapFields (·.setIfInBounds 1 (.ref T)))->s.heap.objs.size<=T->h'.get? T=some oT->oT.data=.fields ts->ts[3]? =some (rawInt L)->Q () { s with heap:=h' }) :
  wpAny M A (do let a ← frameOf env;let pl ← entryPlaceOf L nx;let b ← EntryCells.newEntry hd a .none (rawInt L) .none pl;setField (.ref e) 1 b) Q E s:=by
 have hne:e∉(env::outer).filterMap (·.frame):=λz=>by
  obtain⟨_,o,ho,hn⟩:=hl.mem z
  rw[he]at ho;cases ho
  exact hn vs hdt
 refine wpAny_bind (wpAny_frameOf_fun KN hl hf λh1 hs1=> ?_)
 refine wpAny_bind (wpAny_entryPlaceOf λpl CJ=> ?_)
 unfold EntryCells.newEntry newFields
 refine wpAny_bind (wpAny_newObj_type ?_ (CJ.sizeOk5 _ _ _ _ _))
 have he1:h1.get? e=some oe:=(hs1.2.1 e hne).trans he
 refine wpAny_setField (Heap.get?_push_of_some _ he1) hdt hsz ?_
 have hTe:h1.objs.size≠e:=Nat.ne_of_gt (Heap.lt_size he1)
 have hd3:=Obj.data_mapFields hdt (·.setIfInBounds 1 (Value.ref h1.objs.size))
 have keep:∀ b o,b≠e->h1.get? b=some o->((h1.push { cls:=.type "traceback",dict:=none,data:=.fields ([hd,.ref L,.none,rawInt L,.none]++(if pl.isEmpty then List.replicate 6 Value.none else pl)).toArray }).update e (Obj.mapFields (·.setIfInBounds 1 (Value.ref h1.objs.size)))).get? b=some o:=λb o hb e1=>by
  rw[Heap.get?_update_other _ _ (Ne.symm hb)]
  exact Heap.get?_push_of_some _ e1
 refine h _ h1.objs.size _ _ (λb o e1 hb hnf=>keep b o hb ((hs1.2.1 b hnf).trans e1)) (λb o e1 hb=> ?_) (Heap.get?_update_self _ (Heap.get?_push_of_some _ he1) (Obj.isFreed_of_fields hd3)) (by rw[hs1.1];exact Nat.le_refl _)
  ((Heap.get?_update_other _ _ (Ne.symm hTe)).trans (Heap.get?_push_size _ rfl)) rfl ?_
 ·obtain⟨sl,e2⟩:=hs1.2.2 b o e1
  exact⟨sl,keep b _ hb e2⟩
 ·first | (simp;done) | (rcases CJ with rfl | ⟨_,_,_,_,_,_,_,rfl⟩<;>simp)
structure TF(fr:List Addr)(bad:Addr->Prop)(H:Hp)(e:Addr)(cls:Value)(h h':Heap):Prop where
 ch:∃ ch:List Addr,(∀ b∈ch,¬ bad b/\H b=none/\∃ o vs,h.get? b=some o/\o.data=.fields vs)/\(∀ b o,h.get? b=some o->b∉ch->b∉fr->h'.get? b=some o) ∧
  (∀ b o,h.get? b=some o->b∉ch->∃ sl,h'.get? b=some { o with slots:=sl })
 fly:Fly bad H h' e cls
theorem dE{A2:Around}{E2:Value->Shared->Prop}{base:Heap}{env:Env}{outer:List Env}{L e:Addr}{cls:Value}{bad:Addr->Prop}{H:Hp}{Q:Unit->Shared->Prop}
  (KN:A.frames=some (env::outer)) (hl:s.heap.FunFrames base (env::outer)) (hf:env.frame=some L) (F:Fly bad H s.heap e cls) (hb:∀ a,s.heap.objs.size<=a->¬ bad a) (hH:∀ a,s.heap.objs.size<=a->H a=none)
  (h:∀ h',TF (DY (env::outer)) bad H e cls s.heap h'->Q () { s with heap:=h' }) :
  wpAny M A (noteFrame (.ref e) env) (λ_ s2=>wpAny M A2 (setFlight (.ref e) none) Q E2 s2) E s:=by
 obtain⟨nb,fr,oe,vs,he,MX,RZ,hd,htb⟩:=F
 have rest:∀ (s1:Shared) (ch:List Addr) (h':Heap) (T:Addr) (oT:Obj) (ts:Array Value) (oe1:Obj),(∀ b o,s.heap.get? b=some o->s1.heap.get? b=some o\/b∈ch)->s1.heap.objs.size=s.heap.objs.size->e∈ch->(∀ b∈ch,¬ bad b/\H b=none/\∃ o vs,s.heap.get? b=some o/\o.data=.fields vs) →
   oe1.cls=cls->oe1.dict=none->oe1.data=.fields vs->1<vs.size →
   (∀ b o,s1.heap.get? b=some o->b≠e->b∉DY (env::outer)->h'.get? b=some o)->(∀ b o,s1.heap.get? b=some o->b≠e->∃ sl,h'.get? b=some { o with slots:=sl }) →
   h'.get? e=some (oe1.mapFields (·.setIfInBounds 1 (.ref T)))->s1.heap.objs.size<=T->h'.get? T=some oT->oT.data=.fields ts->ts[3]? =some (rawInt L)->wpAny M A2 (setFlight (.ref e) none) Q E2 { s with heap:=h' }:=by
  intro s1 ch h' T oT ts oe1 hk1 hsz hech DQ hcls1 hdict1 hd1 hv k1 k2 e1 hT e2 hdT h3
  have hT':s.heap.objs.size<=T:=hsz ▸ hT
  have hTe:T≠e:=Ne.symm (FC (Heap.lt_size he) hT')
  have hde:=Obj.data_mapFields hd1 (·.setIfInBounds 1 (Value.ref T))
  unfold setFlight
  refine wpAny_bind (wpAny_field e1 hde (x:=.ref T) (by simp[hv]) ?_)
  rw[if_pos (show(Value.ref T != Value.none)=true from by simp)]
  have hs3:3<ts.size:=(Array.getElem?_eq_some_iff.mp h3).1
  refine wpAny_setField e2 hdT hs3 (h _ ?_)
  have oth:∀ b,b≠T->(h'.update T (Obj.mapFields (·.setIfInBounds 3 ((none:Option Addr).elim Value.none λf=>rawInt f)))).get? b=h'.get? b:=λb hb'=>Heap.get?_update_other _ _ (Ne.symm hb')
  have ltT:∀ b o,s.heap.get? b=some o->b≠T:=λb o eb=>FC (Heap.lt_size eb) hT'
  refine⟨⟨ch,DQ,λb o eb hbc hbf=> ?_,λb o eb hbc=> ?_⟩,nb,fr,_,_,(oth e (Ne.symm hTe)).trans e1,(Obj.cls_mapFields _ _).trans hcls1,?_,hde,.inr ⟨T,_,_,by simp[hv],hb T hT',hH T hT',hTe,Heap.get?_update_self _ e2 (Obj.isFreed_of_fields (Obj.data_mapFields hdT _)),Obj.data_mapFields hdT _,by simp[hs3]⟩⟩
  ·rw[oth b (ltT b o eb)]
   rcases hk1 b o eb with z | z
   ·exact k1 b o z (λz'=>hbc (z' ▸ hech)) hbf
   ·exact absurd z hbc
  ·rw[oth b (ltT b o eb)]
   rcases hk1 b o eb with z | z
   ·exact k2 b o z (λz'=>hbc (z' ▸ hech))
   ·exact absurd z hbc
  ·obtain⟨c1,c2,c3,c4⟩:=oe1
   dsimp only at hd1
   subst hd1
   exact hdict1
 unfold noteFrame
 simp only[hf]
 rcases htb with h1 | ⟨T0,oT0,ts0,h1,nbT,frT,neT,eT,dT,h3⟩
 ·have hv:1<vs.size:=(Array.getElem?_eq_some_iff.mp h1).1
  refine wpAny_bind (wpAny_field he hd h1 ?_)
  rw[if_neg (by decide)]
  refine dD KN hl hf he hd hv λh' T oT ts k1 k2 e1 hT e2 hdT h3=> ?_
  exact rest s [e] h' T oT ts oe (λb o eb=>.inl eb) rfl (by simp) (λb hb'=>by rw[List.mem_singleton]at hb';subst hb';exact⟨nb,fr,oe,vs,he,hd⟩) MX RZ hd hv k1 k2 e1 hT e2 hdT h3
 ·have hv:1<vs.size:=(Array.getElem?_eq_some_iff.mp h1).1
  refine wpAny_bind (wpAny_field he hd h1 ?_)
  rw[if_pos (show(Value.ref T0 != Value.none)=true from by simp)]
  refine wpAny_bind (wpAny_field eT dT h3 ?_)
  rw[if_neg (show ¬ ((Value.none == rawInt L)=true)from by simp[rawInt])]
  refine wpAny_bind (wpAny_setField eT dT (Array.getElem?_eq_some_iff.mp h3).1 ?_)
  have oth:∀ b,b≠T0->(s.heap.update T0 (Obj.mapFields (·.setIfInBounds 3 Value.none))).get? b=s.heap.get? b:=λb hb'=>Heap.get?_update_other _ _ (Ne.symm hb')
  have nf:∀ b o,s.heap.get? b=some o->(∀ vs,o.data≠.fields vs)->b≠T0:=λb o eb hn z=>by rw[z,eT]at eb;cases eb;exact hn ts0 dT
  refine dD KN (hl.of_keeps λb o eb hn=>⟨o,(oth b (nf b o eb hn)).trans eb,rfl⟩) hf ((oth e (Ne.symm neT)).trans he) hd hv λh' T oT ts k1 k2 e1 hT e2 hdT h3'=> ?_
  exact rest { s with heap:=s.heap.update T0 (Obj.mapFields (·.setIfInBounds 3 Value.none)) } [e,T0] h' T oT ts oe
   (λb o eb=>by
    by_cases z:b=T0
    ·exact .inr (by simp[z])
    ·exact .inl ((oth b z).trans eb))
   (Heap.size_after_update ..) (by simp)
   (λb hb'=>by
    rcases List.mem_cons.mp hb' with z | z
    ·subst z;exact⟨nb,fr,oe,vs,he,hd⟩
    ·rw[List.mem_singleton]at z;subst z;exact⟨nbT,frT,oT0,ts0,eT,dT⟩)
   MX RZ hd hv k1 k2 e1 hT e2 hdT h3'
end
def Cx.bad(X:Cx)(AA:List (Addr × Obj)):Addr->Prop:=λa=>X.s₀.heap.get? a≠none\/∃ p∈X.pn++AA,p.1=a
structure XOk(X:Cx)(E:St->XK):Prop where
 po:PassesOwn (model X.prog X.w) X.A X.env X.xe
 ex:X.ex=[]
 calm:X.calm=true
 go:∀ (AA:List (Addr × Obj)) (σ:St) (H:Hp) (s:Shared) (e:Addr) (cls:Value),Inv X AA σ H s->Fly (X.bad AA) H s.heap e cls->E σ cls none H->X.xe (.ref e) s
section
variable{X:Cx}{AA:List (Addr × Obj)}{σ:St}{H:Hp}{s:Shared}
theorem Inv.notbad(I:Inv X AA σ H s)(hx:X.ex=[]){a:Addr}(h:s.heap.get? a=none):¬ X.bad AA a:=λz=>by
 rcases z with z | ⟨p,hp,rfl⟩
 ·cases q:X.s₀.heap.get? a with
  | none=>exact z q
  | some o =>
   obtain⟨o',e⟩:=I.base.there a o q (by rw[hx];simp)
   rw[h]at e;cases e
 ·have:=(I.pin p hp).1
  rw[h]at this;cases this
theorem dF{h:Heap}{a:Addr}(z:h.objs.size<=a):h.get? a=none:=by
 cases q:h.get? a with
 | none=>rfl
 | some o=>exact absurd (Nat.lt_of_lt_of_le (Heap.lt_size q) z) (Nat.lt_irrefl _)
theorem Inv.noted{e:Addr}{cls:Value}{h':Heap}(I:Inv X AA σ H s)(N:TF (DY X.stack) (X.bad AA) H e cls s.heap h'):Inv X AA σ H { s with heap:=h' }:=by
 obtain⟨⟨ch,DQ,k1,k2⟩,_⟩:=N
 obtain⟨mL,⟨oL,esL,epL,hoL,dL,rL⟩,_⟩:=id I.loc
 have chne:∀ b∈ch,∀ o,s.heap.get? b=some o->∃ vs,o.data=.fields vs:=λb hb o eb=>by
  obtain⟨_,_,o',vs,e',d⟩:=DQ b hb
  rw[eb]at e';cases e'
  exact⟨vs,d⟩
 have hL:X.env.locals∉ch:=λz=>by
  obtain⟨vs,d⟩:=chne _ z _ hoL
  rw[dL]at d;cases d
 refine I.stepN (g':=s.gens) (t':=s.toks) (d':=s.drawn) (ch:=ch) (λb hb=>⟨.inr ?_,λz=>hL (z ▸ hb),λx c ec z=> ?_,λp hp z=>(DQ b hb).1 (.inr ⟨p,hp,z⟩)⟩)
  (λb o hbL hbf hbc eb _=>k1 b o eb hbc λz=>(List.mem_cons.mp (I.stkSub b z)).elim hbL hbf) (λb o _ _ hbc eb _=>k2 b o eb hbc) (λ_ _ _ _ n=>n) (λb o hbc eb=> ?_) (λ_ _ q=>q) (λ_ _ _ q=>q) (λb ps q=>⟨#[],by rw[q];simp⟩) (λm hm=> ?_) (λb o eb=> ?_) I.bare
 ·cases q:X.s₀.heap.get? b with
  | none=>rfl
  | some o=>exact absurd (.inl (by rw[q];simp)) (DQ b hb).1
 ·obtain⟨v,oc,hoc,hd⟩:=I.cell x c ec
  obtain⟨vs,d⟩:=chne c (z ▸ hb) oc hoc
  rw[hd]at d;cases d
 ·obtain⟨sl,q⟩:=k2 b o eb hbc
  exact⟨_,q⟩
 ·obtain⟨o',es',ep',ho',r'⟩:=hm
  rw[hoL]at ho';cases ho'
  obtain⟨sl,q⟩:=k2 _ _ hoL hL
  exact⟨_,es',ep',q,r'⟩
 ·refine(I.hok b o eb).stay (λc u hc q=>k1 c u q ?_ ?_) (λ_ q=>q) λ_ _ q=>q
  ·intro z
   have fr:=(DQ c z).2.1
   rcases hc with rfl | hc
   ·rw[eb]at fr;cases fr
   ·rw[hc]at fr;cases fr
  ·intro z
   have fr:=I.stkFree c z
   rcases hc with rfl | hc
   ·rw[eb]at fr;cases fr
   ·rw[hc]at fr;cases fr
def D5(P:Program)(w:World):GO:=λouter H s E e s'=>∃ (ea:Addr) (cls:Value) (H':Hp),e=.ref ea/\s'.os=s.os/\AllBare s'.gens/\Un (DY outer) [] H H' s.heap s'.heap/\HOk P w H' s'.heap/\Fly (λa=>s.heap.get? a≠none) H' s'.heap ea cls/\E cls none H'
theorem dG{P:Program}{w:World}{outer:List Env}{H:Hp}{s:Shared}{e:Value}{s':Shared}(h:D5 P w outer H s (λ_ _ _=>False) e s'):False:=by
 obtain⟨_,_,_,_,_,_,_,_,_,f⟩:=h
 exact f
theorem XOk.passes{E:St->XK}(x:XOk X E):GP (D5 X.prog X.w) X E:=λAA σ H s e s' I h=>by
 obtain⟨ea,cls,H',rfl,os,bare,un,hok,F,q⟩:=h
 refine x.go AA σ H' s' ea cls (I.call' (ch:=[]) os un hok bare λb z=>absurd z (by simp)) (F.mono λa z=> ?_) q
 rcases z with z | ⟨p,hp,rfl⟩
 ·cases q0:X.s₀.heap.get? a with
  | none=>exact absurd q0 z
  | some o =>
   obtain⟨o',e⟩:=I.base.there a o q0 (by rw[x.ex];simp)
   rw[e];simp
 ·rw[(I.pin p hp).1];simp
theorem HI{P:Program}{w:World}:GP (D5 P w) X (λ_=>E0):=λ_ _ _ _ _ _ _ h=>(dG h).elim
end
theorem wV{P:Program}{w:World}{K:W.Frag}{mg:Str->Option Value}{base:Heap}{N:List Str}{qual:Str}{scope:Scope}{f:Addr}{cd:Value}{A:Around}{outer:List Env}{s:Shared}{H:Hp}{E:XK} :
  XOk (HF (D5 P w) P w K mg base N qual scope f cd A outer s H E) (λ_=>E) where
 po:=PassesOwn.leaving
 ex:=rfl
 calm:=rfl
 go:=λAA σ H' s' e cls I F q=>by
  have KN:(A.deeper (envOfC qual scope s.heap.objs.size f cd)).frames=some (envOfC qual scope s.heap.objs.size f cd::outer):=I.ok.frames
  show wpAny _ _ (leaving _ _) _ _ _
  unfold leaving
  refine wpAny_bind (dE KN I.stack rfl F (λa z=>I.notbad rfl (dF z)) (λa z=>I.hok.fresh z) λh' N=> ?_)
  have I':=I.noted N
  exact⟨e,cls,H',rfl,I'.os,I'.bare,I'.base,I'.hok,N.fly.mono λa z=>.inl z,q⟩
structure Exc(K:W.Frag)(C:Addr):Prop where
 ex:W.excIn K C [.type "ValueError",.type "Exception",.type "BaseException",.type "object"] "ValueError.__new__"=true
theorem Exc.obj{K:W.Frag}{C:Addr}{h:Heap}(x:Exc K C)(X:K.In h):∃ (tl:List Value) (N:Addr) (nm q:Str) (bs:List Value) (hdct:Bool) (sn:List Str) (sub:List Value) (ab:Bool) (col:Option Bool) (dd:Option Addr) (k0 k1 k2 k3 k5:Option Value) (mN:Str->Option Value),
  h.get? C=some (excClassObj nm q C N bs tl hdct sn sub ab col dd k0 k1 k2 k3 k5 "ValueError.__new__")/\h.Ns N mN/\mN "__init__"=none/\OwnTail h [.type "ValueError",.type "Exception",.type "BaseException",.type "object"] tl:=by
 have q:=x.ex
 unfold W.excIn at q
 split at q
 ·rename_i dd cd sl ho
  split at q
  ·rename_i C' bm k0 k1 k2 k3 n k5 hm hs
   simp only[Bool.and_eq_true,beq_iff_eq,Bool.not_eq_true']at q
   obtain⟨⟨⟨⟨⟨rfl,rfl⟩,hdel⟩,ht⟩,hok⟩,hni⟩:=q
   obtain⟨nm,bs,mro,ns,qn,hd,sn,sub,ab,col,del⟩:=cd
   dsimp only at hm hdel hok hni
   subst hm hdel
   obtain⟨l⟩:=sl
   simp only at hs
   subst hs
   exact⟨bm,ns,nm,qn,bs,hd,sn,sub,ab,col,dd,k0,k1,k2,k3,k5,_,X _ _ ho,.of_isNs (W.isNs_of_in X hok),W.nsMap_none_of_in X hok hni,W.tail_of_in X ht⟩
  ·cases q
 ·cases q
def GT(C:Addr)(E:St->XK)(t:TA):TS:=λ_ σ H=>t σ H λvs H1=>vs.length<=sizeLine/\E σ (.ref C) none H1
section
variable{X:Cx}{E:St->XK}{C:Addr}{x:Str}{np C3 pos:Pos}{e:Expr}{es:List Expr}{t:TA}
theorem IC(hx:XOk X E)(c:Exc X.K C)(hg:Gl X x)(hm:X.mg x=some (.ref C))(ha:PA X (e::es) t)(hdb:(x ==("__debug__":Str))=false:=by decide)
  (he:starEach (e::es) X.env=(false,eval e X.env)::starEach es X.env:=by rfl) (CJ:(backTo C3 (starEach es X.env)).any (·.1)=false:=by rfl) :
  PS X (.Raise (some (.Call (.Name x np) (e::es) [] C3)) none pos) (GT C E t):=by
 intro AA s σ H D I h
 obtain⟨tl,N,nm,q,bs,hdct,sn,sub,ab,col,dd,k0,k1,k2,k3,k5,mN,hC,hN,hni,T⟩:=c.obj I.mod.kin
 have hpl2:(backTo C3 (starEach (e::es) X.env)).any (·.1)=false:=by
  rw[he]
  show(false || (backTo C3 (starEach es X.env)).any (·.1))=false
  rw[CJ];rfl
 refine wpAny_Raise_call_subT (C:=C) (nm:=nm) (q:=q) (N:=N) (bs:=bs) (bm:=tl) (hdct:=hdct) (sn:=sn) (sub:=sub) (ab:=ab) (col:=col) (dd:=dd) (k0:=k0) (k1:=k1) (k2:=k2) (k3:=k3) (k5:=k5)
  PySem.F.excBase_ValueError (mN:=mN) (T.hasType PySem.F.excBase_ValueError.hasBase) (I.ok.hd hx.calm) hpl2 hni (MZ I hg hm ⟨rfl,?_⟩ hdb)
 have hq:=ha C3 AA s σ H _ I h
 rw[he]at hq ⊢
 refine Calls.evalArgs_plain (AS hq λus s1 ⟨vs,H1,I1,r,hz,q1⟩=>⟨rfl,?_,I1.bk _ _ hC,hN.keeps I1.bk,T.keeps I1.bk,λh' ea hM=> ?_⟩)
 ·show us.length<=_
  rw[<-r.length];exact hz
 ·have I2:Inv X AA σ H1 { s1 with heap:=h' }:=I1.kept (t':=s1.toks) hM.keeps
  obtain⟨tt,h1,h2,h3⟩:=hM.there
  refine hx.go AA σ H1 _ ea (.ref C) I2 ⟨λz=>I1.notbad hx.ex hM.new z,I1.hok.nh hM.new,_,_,h1,rfl,rfl,rfl,.inl rfl⟩ q1
end
end L2
namespace L2
section
variable(P:Program)(w:World)(K:W.Frag)(mg:Str->Option Value)(base:Heap)
structure DT(k:Nat)(x:Str)(ps:List Str)(sp:Sp):Prop where
 ex:∃ (f:Addr) (fd:FuncData),FnOk P w K mg base (D5 P w) k f fd ps sp/\mg x=some (.ref f)/\W.keepIn K (.ref f)=true/\Binds K fd ps []
structure AU(C:Addr)(k:Nat)(m:Str)(ps:List Str)(sp:Sp):Prop where
 ex:∃ (f:Addr) (fd:FuncData),FnOk P w K mg base (D5 P w) k f fd ps sp/\OR K C m f/\Binds K fd ps []
structure K1(C:Addr)(k:Nat)(x:Str)(ps:List Str)(sp:Sp):Prop where
 ex:∃ (f:Addr) (fd:FuncData),FnOk P w K mg base (D5 P w) k f fd ps sp/\Mk K C f/\mg x=some (.ref C)/\Binds K fd ps []
end
section
variable{X:Cx}{E:St->XK}{k:Nat}{x m:Str}{ps:List Str}{sp:Sp}{C:Addr}{p pos CI:Pos}{e o:Expr}{es:List Expr}{ta:TE}{t:TA}
theorem NC(c:DT X.prog X.w X.K X.mg X.base k x ps sp)(hr:Room k X.A)(hp:GP (D5 X.prog X.w) X E)(hg:Gl X x)(ha:PA X (e::es) t)(hdb:(x ==("__debug__":Str))=false:=by decide)
  (he:starEach (e::es) X.env=(false,eval e X.env)::starEach es X.env:=by rfl) (CJ:(backTo pos (starEach es X.env)).any (·.1)=false:=by rfl):PE X (.Call (.Name x p) (e::es) [] pos) (DD sp [] E t):=by
 obtain⟨f,fd,F,hm,hk,hb⟩:=c.ex
 exact u8 F hr hg hm hk hb .nil hp ha hdb he CJ
theorem FD{pl:Sem Bool}(he:PE X o ta)(cl:Cls X.K C)(c:AU X.prog X.w X.K X.mg X.base C k m ps sp)(hr:Room k X.A)(hp:GP (D5 X.prog X.w) X E)(ha:PA X (e::es) t)
  (hst:starEach (e::es) X.env=(false,eval e X.env)::starEach es X.env:=by rfl) (CJ:(backTo pos (starEach es X.env)).any (·.1)=false:=by rfl)
  (ht:eval (.Call (.Attribute o m CI) (e::es) [] pos) X.env=(do
   let ov ← eval o X.env
   standAt CI.atName
   let (f,first) ← holding [ov] (getMethod ov m pl)
   callWith pos f first (backTo pos (starEach (e::es) X.env)) (backToKw pos (keywordEach [] X.env))):=by rfl):PE X (.Call (.Attribute o m CI) (e::es) [] pos) (AR C m sp [] E ta t):=by
 obtain⟨f,fd,F,hm,hb⟩:=c.ex
 exact u9 he cl hm F hr hb .nil hp ha hst CJ ht
theorem wW{pl:Sem Bool}(he:PE X o ta)(cl:Cls X.K C)(c:AU X.prog X.w X.K X.mg X.base C k m ps sp)(hr:Room k X.A)(hp:GP (D5 X.prog X.w) X E)
  (ht:eval (.Call (.Attribute o m CI) [] [] pos) X.env=(do
   let ov ← eval o X.env
   standAt CI.atName
   let (f,first) ← holding [ov] (getMethod ov m pl)
   callWith pos f first (backTo pos (starEach [] X.env)) (backToKw pos (keywordEach [] X.env))):=by rfl):PE X (.Call (.Attribute o m CI) [] [] pos) (AR C m sp [] E ta BW):=by
 obtain⟨f,fd,F,hm,hb⟩:=c.ex
 exact vA he cl hm F hr hb .nil hp ht
theorem ND(c:K1 X.prog X.w X.K X.mg X.base C k x ps sp)(hr:Room (k+1) X.A)(hp:GP (D5 X.prog X.w) X E)(hg:Gl X x)(ha:PA X (e::es) t)(hdb:(x ==("__debug__":Str))=false:=by decide)
  (he:starEach (e::es) X.env=(false,eval e X.env)::starEach es X.env:=by rfl) (CJ:(backTo pos (starEach es X.env)).any (·.1)=false:=by rfl):PE X (.Call (.Name x p) (e::es) [] pos) (JX C sp [] E t):=by
 obtain⟨f,fd,F,M,hm,hb⟩:=c.ex
 exact vD M F hr hg hm hb .nil hp ha hdb he CJ
end
theorem Fun.okE{P:Program}{w:World}{K:W.Frag}{mg:Str->Option Value}{base:Heap}{x qual:Str}{st:Stmt}{f:Addr}{fd:FuncData}{N ps:List Str}{k:Nat}{sp:Sp}(F:Fun K x qual st f fd)(S:FnScope N ps (A1 st))(len:∀ vs H Q E,sp vs H Q E->vs.length=ps.length)
  (aP:∀ (BR:Value) (A:Around) (outer:List Env) (s:Shared) (H:Hp) (vs:List V) (Q:VK) (E:XK),Room k (A.deeper (envOfC qual (A1 st) s.heap.objs.size f BR))->sp vs H Q E →
   ∃ t,FZ (HF (D5 P w) P w K mg base N qual (A1 st) f BR A outer s H E) (GS st) t/\t { nx:=λ_ H'=>Q .non H',rt:=Q } (start N vs) H):FnOk P w K mg base (D5 P w) (k+1) f fd ps sp:=by
 obtain⟨oc,od,kV,doc,pm,an,BR,ct,osl,rfl,l,c⟩:=F.ex
 exact vF l c S len λA outer s H vs Q E hr h=>aP BR A outer s H vs Q E hr h
def GV(mg:Str->Option Value)(x:Str)(v:V):Prop:=∃ u,mg x=some u/\RelV v u
theorem TJ{X:Cx}{x:Str}{v:V}{pos:Pos}(g:GV X.mg x v)(hg:Gl X x)(hd:(x ==("__debug__":Str))=false:=by decide):PE X (.Name x pos) (tC v):=by
 obtain⟨u,hm,r⟩:=g
 exact tN hg hm r hd
abbrev Cx.tri(X:Cx)(pn:List (Addr × Obj))(xe:Value->Shared->Prop):Cx:={ X with pn:=pn,xe:=xe }
abbrev Cx.hand(X:Cx)(e:Addr):Cx:={ X with A:=X.A.mark (some (.ref e)),calm:=false,xe:=λ_ _=>False }
section
variable{X:Cx}{AA:List (Addr × Obj)}{σ:St}{H:Hp}{s:Shared}
theorem Cx.Ok.tri{pn:List (Addr × Obj)}{xe:Value->Shared->Prop}(ok:X.Ok):(X.tri pn xe).Ok :=
 ⟨ok.mod,ok.kind,ok.glob,ok.blt,ok.above,ok.inj,ok.has,ok.cab,ok.hd,ok.frames,ok.stk,ok.exf,ok.bs,ok.bsz,ok.noex,ok.exfs,ok.funs,ok.frf⟩
theorem Inv.tri{xe:Value->Shared->Prop}(I:Inv X AA σ H s):Inv (X.tri (X.pn++AA) xe) [] σ H s :=
 ⟨I.ok.tri,I.os,I.bare,I.base,I.loc,I.cell,I.free,I.freeC,λp hp=>I.pin p (by simpa using hp),I.hok,I.len⟩
theorem Cx.Ok.untri{pn:List (Addr × Obj)}{xe:Value->Shared->Prop}(ok:(X.tri pn xe).Ok):X.Ok :=
 ⟨ok.mod,ok.kind,ok.glob,ok.blt,ok.above,ok.inj,ok.has,ok.cab,ok.hd,ok.frames,ok.stk,ok.exf,ok.bs,ok.bsz,ok.noex,ok.exfs,ok.funs,ok.frf⟩
theorem Inv.untri{pl:List (Addr × Obj)}{xe:Value->Shared->Prop}(I:Inv (X.tri (X.pn++AA) xe) pl σ H s):Inv X AA σ H s :=
 ⟨I.ok.untri,I.os,I.bare,I.base,I.loc,I.cell,I.free,I.freeC,λp hp=>I.pin p (List.mem_append_left _ hp),I.hok,I.len⟩
theorem Cx.Ok.hand{e:Addr}(ok:X.Ok):(X.hand e).Ok :=
 ⟨ok.mod,ok.kind,ok.glob,ok.blt,ok.above,ok.inj,ok.has,ok.cab,(λz=>nomatch z),ok.frames,ok.stk,ok.exf,ok.bs,ok.bsz,ok.noex,ok.exfs,ok.funs,ok.frf⟩
theorem Inv.hand{e:Addr}(I:Inv X AA σ H s):Inv (X.hand e) AA σ H s:=⟨I.ok.hand,I.os,I.bare,I.base,I.loc,I.cell,I.free,I.freeC,I.pin,I.hok,I.len⟩
theorem Inv.unhand{e:Addr}(ok:X.Ok)(I:Inv (X.hand e) AA σ H s):Inv X AA σ H s:=⟨ok,I.os,I.bare,I.base,I.loc,I.cell,I.free,I.freeC,I.pin,I.hok,I.len⟩
end
abbrev TH:=Value->Ends->St->Hp->Prop
def TK:TH:=λ_ _ _ _=>False
def JE(p:Value->Option Bool)(ts:TS)(rest:TH):TH:=λcls D σ H=>(p cls=some true/\ts D σ H)\/(p cls=some false/\rest cls D σ H)
def Ends.drop(D:Ends)(i:Nat):Ends:={ nx:=λσ H=>D.nx (σ.set i none) H,rt:=D.rt,bk:=λσ H=>D.bk (σ.set i none) H,ct:=λσ H=>D.ct (σ.set i none) H }
def PH(X:Cx)(hs:List ExceptHandler)(th:TH):Prop :=
 ∀ (AA:List (Addr × Obj)) (s:Shared) (σ:St) (H:Hp) (D:Ends) (e:Addr) (cls:Value),X.ex=[]->Inv X AA σ H s->Fly (X.bad AA) H s.heap e cls->th cls D σ H →
  wpAny (model X.prog X.w) X.A (handleBy (.ref e) X.env hs) (SP X AA D) X.xe s
def PX(X:Cx)(t:Expr)(p:Value->Option Bool):Prop :=
 ∀ (AA:List (Addr × Obj)) (s:Shared) (σ:St) (H:Hp) (e:Addr) (cls:Value) (b:Bool) (Q:Bool->Shared->Prop) (E:Value->Shared->Prop),Inv X AA σ H s->Fly (X.bad AA) H s.heap e cls->p cls=some b →
  (∀ s',Inv X AA σ H s'->Fly (X.bad AA) H s'.heap e cls->Q b s')->wpAny (model X.prog X.w) (X.A.mark (some (.ref e))) (eval t X.env) (λc s1=>wpAny (model X.prog X.w) (X.A.mark (some (.ref e))) (excMatches (.ref e) c) Q E s1) E s
def TM(tb:(St->XK)->TS)(th:TH):TS:=λD σ H=>tb (λσ' cls _ H'=>th cls D σ' H') D σ H
section
variable{X:Cx}{hs:List ExceptHandler}{h₀:ExceptHandler}{th:TH}{body:List Stmt}{tb:(St->XK)->TS}{pos:Pos}
theorem wX:PH X [] TK:=λ_ _ _ _ _ _ _ _ _ _ h=>h.elim
theorem wY{bad:Addr->Prop}{H:Hp}{h:Heap}{e:Addr}{cls:Value}{M:Model}(F:Fly bad H h e cls):W.Looks M h (typeOf (.ref e)) cls:=by
 obtain⟨_,_,oe,vs,h1,h2,_⟩:=F
 subst h2
 exact(W.Looks.ld h1).andThen .now
theorem O2{x:Str}{np:Pos}{C:Value}(hg:Gl X x)(hm:X.mg x=some C)(hd:(x ==("__debug__":Str))=false:=by decide):PX X (.Name x np) (λcls=>W.exmOne X.K cls C):=by
 intro AA s σ H e cls b Q E I F hp h
 have I2:Inv (X.hand e) AA σ H s:=I.hand
 refine MZ (X:=X.hand e) I2 hg hm ?_ hd
 exact W.exm_one I.kIn (wY F) hp _ _ _ s (λ_ _ z=>z) (h s I F)
theorem wZ{M:Model}{A:Around}{E:Value->Shared->Prop}{s:Shared}{bad:Addr->Prop}{H:Hp}{fr:List Addr}{e:Addr}{cls:Value}{Q:Unit->Shared->Prop}(F:Fly bad H s.heap e cls)
  (h:∀ h',TF fr bad H e cls s.heap h'->Q () { s with heap:=h' }):wpAny M A (setFlight (.ref e) none) Q E s:=by
 have F0:=F
 obtain⟨nb,frr,oe,vs,he,MX,RZ,hd,htb⟩:=F
 unfold setFlight
 rcases htb with h1 | ⟨T,oT,ts,h1,nbT,frT,neT,eT,dT,h3⟩
 ·refine wpAny_bind (wpAny_field he hd h1 ?_)
  rw[if_neg (by decide)]
  exact wpAny_pure (h s.heap ⟨⟨[],(λb hb=>nomatch hb),λb o eb _ _=>eb,λb o eb _=>⟨o.slots,eb⟩⟩,F0⟩)
 ·refine wpAny_bind (wpAny_field he hd h1 ?_)
  rw[if_pos (show(Value.ref T != Value.none)=true from by simp)]
  have hs3:3<ts.size:=(Array.getElem?_eq_some_iff.mp h3).1
  refine wpAny_setField eT dT hs3 (h _ ?_)
  have oth:∀ b,b≠T->(s.heap.update T (Obj.mapFields (·.setIfInBounds 3 ((none:Option Addr).elim Value.none λf=>rawInt f)))).get? b=s.heap.get? b:=λb hb'=>Heap.get?_update_other _ _ (Ne.symm hb')
  refine⟨⟨[T],λb hb=> ?_,λb o eb hb _=>(oth b λz=>hb (by simp[z])).trans eb,λb o eb hb=>⟨o.slots,(oth b λz=>hb (by simp[z])).trans eb⟩⟩,nb,frr,oe,vs,(oth e (Ne.symm neT)).trans he,MX,RZ,hd,.inr ⟨T,_,_,h1,nbT,frT,neT,Heap.get?_update_self _ eT (Obj.isFreed_of_fields (Obj.data_mapFields dT _)),Obj.data_mapFields dT _,by simp[hs3]⟩⟩
  rw[List.mem_singleton]at hb
  subst hb
  exact⟨nbT,frT,oT,ts,eT,dT⟩
theorem SP.unhand{AA:List (Addr × Obj)}{D:Ends}{e:Addr}{f:Flow}{s:Shared}(ok:X.Ok)(h:SP (X.hand e) AA D f s):SP X AA D f s:=by
 cases f with
 | next=>obtain⟨σ1,H1,I1,q⟩:=h;exact⟨σ1,H1,I1.unhand ok,q⟩
 | brk=>obtain⟨σ1,H1,I1,q⟩:=h;exact⟨σ1,H1,I1.unhand ok,q⟩
 | cont=>obtain⟨σ1,H1,I1,q⟩:=h;exact⟨σ1,H1,I1.unhand ok,q⟩
 | ret u=>obtain⟨v,σ1,H1,I1,r,q⟩:=h;exact⟨v,σ1,H1,I1.unhand ok,r,q⟩
theorem O3{t:Expr}{b₀:Stmt}{suite:List Stmt}{hp:Pos}{p:Value->Option Bool}{ts:TS}{rest:List ExceptHandler}{tr:TH}(ht:PX X t p)(hsu:∀ e,FZ (X.hand e) (b₀::suite) ts)(hr:PH X rest tr) :
  PH X (.ExceptHandler (some t) none (b₀::suite) hp::rest) (JE p ts tr):=by
 intro AA s σ H D e cls hx I F h
 have hmain:∃ b,p cls=some b/\(b=true->ts D σ H)/\(b=false->tr cls D σ H):=by
  rcases h with⟨h1,h2⟩ | ⟨h1,h2⟩
  ·exact⟨true,h1,λ_=>h2,λz=>nomatch z⟩
  ·exact⟨false,h1,(λz=>nomatch z),λ_=>h2⟩
 obtain⟨b,hp',hT,hF⟩:=hmain
 refine wpAny_handleBy_cons (codeAny_handlers_test (ht AA s σ H e cls b _ _ I F hp' λs' I' F'=> ?_)) (by intro z;cases z)
 cases b with
 | false=>exact hr AA s' σ H D e cls hx I' F' (hF rfl)
 | true =>
  refine codeAny_handlers_suite (wZ (fr:=DY X.stack) F' λh' N=> ?_)
  have I2:Inv (X.hand e) AA σ H { s' with heap:=h' }:=(I'.noted N).hand
  refine wpAny_mono (hsu e AA _ σ H D I2 (hT rfl)) (λf s2 h2=>h2.unhand I.ok) λ_ _ z=>z.elim
theorem w5(hx:X.ex=[])(hcalm:X.calm=true)(hst:X.stack=X.env::X.outer)(KN:X.env.frame=some X.env.locals)(hb:∀ (E:St->XK) (pn:List (Addr × Obj)) (xe:Value->Shared->Prop),XOk (X.tri pn xe) E->FZ (X.tri pn xe) body (tb E))(hh:PH X (h₀::hs) th) :
  PS X (.Try body (h₀::hs) [] [] pos) (TM tb th):=by
 intro AA s σ H D I h
 refine wpAny_Try_except ?_
 let xe:Value->Shared->Prop:=λe s₁=>wpAny (model X.prog X.w) X.A (noteFrame e X.env) (λ_ s₂=>wpAny (model X.prog X.w) X.A (setFlight e none) (λ_ s₃=>wpAny (model X.prog X.w) X.A (handleBy e X.env (h₀::hs)) (SP X AA D) X.xe s₃) X.xe s₂) X.xe s₁
 have xok:XOk (X.tri (X.pn++AA) xe) (λσ' cls _ H'=>th cls D σ' H'):=by
  refine⟨PassesOwn.looking,hx,hcalm,λpl σ' H' s' e cls I' F' q=> ?_⟩
  have Iu:=I'.untri
  refine dE (hst ▸ Iu.ok.frames) (hst ▸ Iu.stack) KN F' (λa z=>I'.notbad hx (dF z)) (λa z=>I'.hok.fresh z) λh' N=> ?_
  rw[<-hst]at N
  have I2:Inv (X.tri (X.pn++AA) xe) pl σ' H' { s' with heap:=h' }:=I'.noted N
  exact hh AA _ σ' H' D e cls hx I2.untri (N.fly.mono λa z=>by
   rcases z with z | ⟨p,hp,z⟩
   ·exact .inl z
   ·exact .inr ⟨p,List.mem_append_left _ hp,z⟩) q
 refine wpAny_mono (hb _ _ xe xok [] s σ H D I.tri h) (λf s1 hs1=> ?_) λ_ _ z=>z
 cases f with
 | next =>
  obtain⟨σ1,H1,I1,q⟩:=hs1
  exact wpAny_execs_nil ⟨σ1,H1,I1.untri,q⟩
 | brk=>obtain⟨σ1,H1,I1,q⟩:=hs1;exact⟨σ1,H1,I1.untri,q⟩
 | cont=>obtain⟨σ1,H1,I1,q⟩:=hs1;exact⟨σ1,H1,I1.untri,q⟩
 | ret u=>obtain⟨v,σ1,H1,I1,r,q⟩:=hs1;exact⟨v,σ1,H1,I1.untri,r,q⟩
end
end L2
namespace L2
mutual
inductive Rep(K:W.Frag)(H:Hp):V->PyData->Prop
 | non:Rep K H .non .none
 | bl (b:Bool):Rep K H (.bl b) (.bool b)
 | int (i:Int):Rep K H (.int i) (.int i)
 | str (x:Str):Rep K H (.str x) (.str x)
 | lst {a:Addr} {xs:List V} {ds:List PyData}:SqL K H a xs->RepAll K H xs ds->Rep K H (.ref a) (.list ds)
 | tup {a:Addr} {xs:List V} {ds:List PyData}:SqT K H a xs->RepAll K H xs ds->Rep K H (.ref a) (.tuple ds)
inductive RepAll(K:W.Frag)(H:Hp):List V->List PyData->Prop
 | nil:RepAll K H [] []
 | cons {v:V} {d:PyData} {vs:List V} {ds:List PyData}:Rep K H v d->RepAll K H vs ds->RepAll K H (v::vs) (d::ds)
end
section
variable{X:Cx}{AA:List (Addr × Obj)}{σ:St}{H:Hp}{s:Shared}
mutual
theorem Rep.reads(I:Inv X AA σ H s):∀ {v:V} {d:PyData} {u:Value},Rep X.K H v d->RelV v u->∃ as,Reads s.heap u d as
 | _,_,_,.non,r=>by cases (show _=Value.none from r);exact⟨_,.none⟩
 | _,_,_,.bl b,r=>by cases (show _=Value.bool b from r);exact⟨_,.bool b⟩
 | _,_,_,.int i,r=>by obtain⟨t,e⟩:=(show ∃ t,_=Value.int i t from r);cases e;exact⟨_,.int i t⟩
 | _,_,_,.str x,r=>by obtain⟨t,e⟩:=(show ∃ t,_=Value.str x t from r);cases e;exact⟨_,.str x t⟩
 | _,_,_,.lst (a:=a) h hr,r=>by
  cases (show _=Value.ref a from r)
  obtain⟨its,rv,p,_⟩:=I.list h
  obtain⟨as,q⟩:=RepAll.reads I hr rv
  obtain⟨o,e1,e2,n,e3⟩:=p.isList
  exact⟨_,.list e1 e2 e3 q⟩
 | _,_,_,.tup (a:=a) h hr,r=>by
  cases (show _=Value.ref a from r)
  obtain⟨its,rv,p,_⟩:=I.tuple h
  obtain⟨as,q⟩:=RepAll.reads I hr rv
  obtain⟨o,e1,e2,n,e3⟩:=p
  exact⟨_,.tuple e1 e2 e3 q⟩
theorem RepAll.reads(I:Inv X AA σ H s):∀ {vs:List V} {ds:List PyData} {us:List Value},RepAll X.K H vs ds->Vals vs us->∃ as,ReadsAll s.heap us ds as
 | _,_,_,.nil,.nil=>⟨_,.nil⟩
 | _,_,_,.cons h hr,.cons r rr=>by
  obtain⟨as,q⟩:=Rep.reads I h r
  obtain⟨bs,q2⟩:=RepAll.reads I hr rr
  exact⟨_,.cons q q2⟩
end
end
abbrev O4(d:PyData):Prop:=PySem.SeqAt.shaped d=true
def FE(K:W.Frag):R2:=λx y H Q=>if KQ x y=true then Q (.bl (decide (x=y))) H else ∃ d e,Rep K H x d/\Rep K H y e/\O4 d/\O4 e/\Q (.bl (PyData.eqv d e)) H
def LT(K:W.Frag):R2:=λx y H Q=>if KQ x y=true then Q (.bl (!decide (x=y))) H else ∃ d e,Rep K H x d/\Rep K H y e/\O4 d/\O4 e/\Q (.bl (!PyData.eqv d e)) H
section
variable{X:Cx}
theorem ID(hu:X.A.units+64<cLine):B2 X (compareOp .Eq) (FE X.K):=by
 intro AA s σ H x y v u Q I rx ry h
 unfold FE at h
 split at h
 ·rename_i hs
  exact uI AA s σ H x y v u Q I rx ry ⟨hs,h⟩
 ·obtain⟨d,e,rd,re,sd,se,q⟩:=h
  obtain⟨as,ra⟩:=rd.reads I rx
  obtain⟨bs,rb⟩:=re.reads I ry
  exact eq_dataH ra rb sd se hu ⟨.bl _,H,I,rfl,q⟩
theorem dH(hu:X.A.units+64<cLine):B2 X (compareOp .NotEq) (LT X.K):=by
 intro AA s σ H x y v u Q I rx ry h
 unfold LT at h
 split at h
 ·rename_i hs
  exact uJ AA s σ H x y v u Q I rx ry ⟨hs,h⟩
 ·obtain⟨d,e,rd,re,sd,se,q⟩:=h
  obtain⟨as,ra⟩:=rd.reads I rx
  obtain⟨bs,rb⟩:=re.reads I ry
  exact ne_dataH ra rb sd se hu ⟨.bl _,H,I,rfl,q⟩
def TN(K:W.Frag):R2:=λx y H Q=>∃ a b ys,x=.ref a/\y=.ref b/\SqT K H a []/\SqT K H b ys/\Q (.ref b) H
theorem w8:B2 X (binaryOp .Add) (TN X.K):=by
 intro AA s σ H x y v u Q I rx ry h
 obtain⟨a,b,ys,rfl,rfl,ha,hb,q⟩:=h
 cases rx
 cases ry
 obtain⟨its,r1,⟨⟨c1,c2,c3,c4⟩,e1,e2,n1,e3⟩,_⟩:=I.tuple ha
 obtain⟨OA,r2,⟨⟨d1,d2,d3,d4⟩,f1,f2,n2,f3⟩,_⟩:=I.tuple hb
 obtain rfl:c1=_:=e2
 obtain rfl:c3=_:=e3
 obtain rfl:d1=_:=f2
 obtain rfl:d3=_:=f3
 cases r1
 exact concat_meets ⟨_,e1,rfl⟩ ⟨_,f1,rfl⟩ noFill_tuple_add seq_tuple_add PySem.F.slot_tuple_add PySem.F.entry_tuple_add (PySem.F.args_tuple_add_2 _ _) (tuple_addW0 a b #[] OA.toArray n1 n2 c2 d2 c4 d4 rfl) ⟨e1,f1,.ref b,H,I,rfl,q⟩
def BS(K:W.Frag):R2:=λx y H Q=>match x,y with
 | .int i,.int j=>Q (.int (i+j)) H
 | .str i,.str j=>i.length+j.length<=sizeLine/\Q (.str (i++j)) H
 | .ref _,.ref _=>SW x y H Q\/SQ K x y H Q\/TN K x y H Q
 | _,_=>False
theorem CA:B2 X (binaryOp .Add) (BS X.K):=by
 intro AA s σ H x y v u Q I rx ry h
 cases x<;>cases y<;>simp only[BS]at h
 ·exact uD AA s σ H _ _ v u Q I rx ry ⟨_,_,rfl,rfl,h⟩
 ·exact uP AA s σ H _ _ v u Q I rx ry ⟨_,_,rfl,rfl,h⟩
 ·rcases h with h | h
  ·exact v7 AA s σ H _ _ v u Q I rx ry h
  rcases h with h | h
  ·exact vM AA s σ H _ _ v u Q I rx ry h
  ·exact w8 AA s σ H _ _ v u Q I rx ry h
def F2:R2:=λx y H Q=>match x,y with
 | .int i,.int j=>Q (.bl (decide (i<j))) H
 | .str i,.str j=>Q (.bl (decide (i.cps.toList<j.cps.toList))) H
 | _,_=>False
def EZ:R2:=λx y H Q=>match x,y with
 | .int i,.int j=>Q (.bl (decide (i<=j))) H
 | .str i,.str j=>Q (.bl (!decide (j.cps.toList<i.cps.toList))) H
 | _,_=>False
end
end L2
namespace L2
theorem w9:fillsNumberSlot (.type "tuple") "mul"=pure false :=
 PySem.fillsNumberSlot_seq (id:="tuple.__mul__") (r:=some (.builtin "tuple.__rmul__")) F.slot_tuple_mul.lookup (by decide +kernel) F.slot_tuple_rmul.lookup (by decide +kernel)
theorem xA:seqRepeat? (.type "tuple")=pure (some (.builtin "tuple.__mul__")):=by
 unfold seqRepeat?
 rw[PySem.seqSlot_of (T:="tuple") (name:="__mul__") (id:="tuple.__mul__") F.slot_tuple_mul.lookup (by decide +kernel),PySem.seqSlot_of (T:="tuple") (name:="__rmul__") (id:="tuple.__rmul__") F.slot_tuple_rmul.lookup (by decide +kernel)]
 rfl
theorem xB(a:Int)(t:Tok)(l:Addr)(BI:Array Value)(dd:Option Addr)(n:Nat)(sl:Array (Option Value)) :
  Meets (Builtin.«int.__rmul__» ⟨[.int a t,.ref l],[]⟩) (λ_ R s=>s.heap.get? l=some ⟨.type "tuple",dd,.seq BI n,sl⟩/\R (.ok (.ret Value.notImplemented)) s) :=
 .of_wp λprog w A R s h=>by obtain⟨hp,g,d,tk,os⟩:=s;obtain⟨hl,h⟩:=h;wp_walk;exact⟨_,rfl,h⟩
theorem xC(l:Addr)(BI:Array Value)(dd:Option Addr)(n:Nat)(sl:Array (Option Value))(x:Int)(u:Tok)(h1:1<x)(h2:x<2 ^ 63)(hne:BI.isEmpty=false)(hz:BI.size * x.toNat<=sizeLine) :
  Meets (Builtin.«tuple.__mul__» ⟨[.ref l,.int x u],[]⟩) (λ_ R s=>s.heap.get? l=some ⟨.type "tuple",dd,.seq BI n,sl⟩ ∧
   R (.ok (.ret (Value.ref s.heap.objs.size))) { s with heap:=s.heap.push { cls:=Value.type "tuple",data:=Data.seq (List.foldl (λx1 x2=>x1++x2) #[] (List.replicate x.toNat BI)) } }) :=
 .of_wp λprog w A R s h=>by
  obtain⟨hp,g,d,tk,os⟩:=s;obtain⟨hl,h⟩:=h
  have hsl:(sizeLine:Nat)<=(2 ^ 63 - 1) / 8:=by decide
  have BU:(List.foldl (λx1 x2=>x1++x2) #[] (List.replicate x.toNat BI)).size<=sizeLine:=by
   have:=OV BI.toList x.toNat []
   simp only[List.nil_append,Array.toArray_toList]at this
   rw[this]
   simp only[List.size_toArray,List.length_flatten,List.map_replicate,List.sum_replicate_nat,Array.length_toList]
   rw[Nat.mul_comm];exact hz
  have hx:∃ N:Nat,(BI.size:Int) * x=(N:Int)/\N<=sizeLine:=⟨BI.size * x.toNat,by rw[Int.natCast_mul,Int.toNat_of_nonneg (by omega)],hz⟩
  obtain⟨N,hx,hN⟩:=hx
  unfold Builtin.«tuple.__mul__»
  wp_walk
  refine wpAny_ite_false (by simp;omega) ?_
  wp_walk
  refine wpAny_ite_false (by simp only[hne,Bool.false_or];simp;omega) ?_
  refine wpAny_ite_false (by simp only[hne,Bool.or_false];simp;omega) ?_
  refine wpAny_ite_false (by rw[hx];exact decide_eq_false (by omega)) ?_
  refine wpAny_ite_false (by rw[hx];unfold Builtin.Tuple.tupleTooMany;simp;omega) ?_
  wp_walk
  exact⟨_,rfl,h⟩
theorem xD(l:Addr)(BI:Array Value)(dd:Option Addr)(n:Nat)(sl:Array (Option Value))(u:Tok) :
  Meets (Builtin.«tuple.__mul__» ⟨[.ref l,.int 1 u],[]⟩) (λ_ R s=>s.heap.get? l=some ⟨.type "tuple",dd,.seq BI n,sl⟩/\R (.ok (.ret (Value.ref l))) s) :=
 .of_wp λprog w A R s h=>by
  obtain⟨hp,g,d,tk,os⟩:=s;obtain⟨hl,h⟩:=h
  unfold Builtin.«tuple.__mul__»
  wp_walk
  exact⟨_,rfl,h⟩
def TQ(K:W.Frag):R2:=λx y H Q=>∃ a k xs,x=.ref a/\y=.int k/\SqT K H a xs/\xs≠[]/\1<=k/\k<2 ^ 63/\xs.length * k.toNat<=sizeLine ∧
 (k=1->Q (.ref a) H)/\(k≠1->∀ p,H p=none->Q (.ref p) (upd H p (.tup (List.replicate k.toNat xs).flatten)))
section
variable{X:Cx}
theorem Inv.tnew{AA:List (Addr × Obj)}{σ:St}{H:Hp}{s:Shared}{ys:List V}{its:List Value}(I:Inv X AA σ H s)(hv:Vals ys its)(hz:ys.length<=sizeLine) :
  Inv X AA σ (upd H s.heap.objs.size (.tup ys)) { s with heap:=s.heap.push { cls:=.type "tuple",data:=.seq its.toArray } } :=
 I.laid (t':=s.toks) (λ_ _ q=>Heap.get?_push_of_some _ q) (Nat.le_refl _) ⟨hz,its,hv,_,Heap.get?_push_size _ rfl,rfl,0,rfl⟩
theorem xE:B2 X (binaryOp .Mult) (TQ X.K):=by
 intro AA s σ H x y v u Q I rx ry h
 obtain⟨a,k,xs,rfl,rfl,hx,hne,h1,h2,hz,q1,q2⟩:=h
 cases rx
 obtain⟨t,rfl⟩:=ry
 obtain⟨its,r,⟨⟨c1,c2,c3,c4⟩,e1,e2,n,e3⟩,_⟩:=I.tuple hx
 obtain rfl:c1=_:=e2
 obtain rfl:c3=_:=e3
 have hl:=r.length
 have he:its.toArray.isEmpty=false:=by
  cases its with
  | nil=>exact absurd (List.length_eq_zero_iff.mp hl) hne
  | cons b t=>rfl
 refine wpAny_binaryOp_repeat_ref (T:="tuple") (U:="int") (by decide) ⟨_,e1,rfl⟩ (λs'=>typeIs_int s' k t) w9 F.fills_int_mul F.slot_int_rmul xA F.slot_int_index.lookup
  (call_meets F.slot_int_rmul (typeIs_int s k t) F.entry_int_rmul (F.args_int_rmul_2 _ _) (xB k t a its.toArray c2 n c4) ⟨e1,rfl,⟨_,e1,rfl⟩,?_⟩)
 by_cases hk:k=1
 ·subst hk
  exact call_meets F.slot_tuple_mul ⟨_,e1,rfl⟩ F.entry_tuple_mul (F.args_tuple_mul_2 _ _) (xD a its.toArray c2 n c4 t) ⟨e1,.ref a,H,I,rfl,q1 rfl⟩
 ·refine call_meets F.slot_tuple_mul ⟨_,e1,rfl⟩ F.entry_tuple_mul (F.args_tuple_mul_2 _ _) (xC a its.toArray c2 n c4 k t (by omega) h2 he (by rw[List.size_toArray,<-hl];exact hz)) ⟨e1,?_⟩
  have f0:=OV its k.toNat []
  rw[List.nil_append]at f0
  rw[f0]
  exact⟨.ref _,_,I.tnew (r.rep k.toNat) (by rw[cN,Nat.mul_comm];exact hz),rfl,q2 hk _ I.fresh⟩
abbrev NE:R2:=H0 λi j=>.int (i - j)
abbrev C6:R2:=rI (λ_ j=>0<j) λi j=>.int (i % j)
abbrev DF:R2:=rI bG λi j=>.int (i / j)
abbrev xF:R2:=rI uC λi j=>.int (i ^ j.toNat)
abbrev TR:V->Hp->VK->Prop:=rU λi=>.int (-i)
abbrev xG:a0:=tV λi j=>i+j
def O5(z:Str)(k:Int):Str:=if k<1 then Str.empty else if(k == 1 || z.length == 0)=true then z else⟨(List.replicate k.toNat z.cps).foldl (· ++·) #[]⟩
theorem xH(z:Str)(k:Nat):(Str.mk ((List.replicate k z.cps).foldl (· ++·) #[])).length=k * z.length:=by
 have e:∀ (m:Nat) (BZ:Array Nat),((List.replicate m z.cps).foldl (· ++·) BZ).size=BZ.size+m * z.cps.size:=λm=>by
  induction m with
  | zero=>intro BZ;simp
  | succ m ih=>intro BZ;rw[List.replicate_succ,List.foldl_cons,ih,Array.size_append,Nat.succ_mul];omega
 have:=e k #[]
 simpa [Str.length]using this
def xI:R2:=λx y H Q=>∃ z k,x=.str z/\y=.int k/\0<=k/\k<=1000/\z.length<=1000/\Q (.str (O5 z k)) H
theorem xJ:B2 X (binaryOp .Mult) xI:=by
 intro AA s σ H x y v u Q I rx ry h
 obtain⟨z,k,rfl,rfl,h1,h2,h3,q⟩:=h
 obtain⟨t,rfl⟩:=rx
 obtain⟨t',rfl⟩:=ry
 refine PySem.P.mul_str (by simp;omega) (λa _=> ?_) (λa _=> ?_) ?_
 ·have:(1000:Int)<=(2 ^ 63 - 1) / k:=(Int.le_ediv_iff_mul_le (by omega)).mpr (by omega)
  omega
 ·have h4:z.length * k.toNat<=1000 * 1000:=Nat.mul_le_mul h3 (by omega)
  have h5:(1000 * 1000:Nat)<=sizeLine:=by decide
  unfold Builtin.Str.tooLong
  exact decide_eq_false (by omega)
 ·unfold O5 at q
  split
  ·rename_i c
   rw[if_pos c]at q
   exact⟨by show(0:Nat)<=sizeLine;omega,.str _,H,I.tok _,⟨_,rfl⟩,q⟩
  ·rename_i c
   rw[if_neg c]at q
   split
   ·rename_i d
    rw[if_pos d]at q
    exact⟨.str _,H,I,⟨_,rfl⟩,q⟩
   ·rename_i d
    rw[if_neg d]at q
    exact⟨by rw[xH];have:=Nat.mul_le_mul (show k.toNat<=1000 by omega) h3;show _<=2 ^ 24;omega,.str _,H,I.tok _,⟨_,rfl⟩,q⟩
def F8(K:W.Frag):R2:=λx y H Q=>match x,y with
 | .int i,.int j=>CMul i j/\Q (.int (i * j)) H
 | .str z,.int k=>0<=k/\k<=1000/\z.length<=1000/\Q (.str (O5 z k)) H
 | .ref _,.int _=>SY x y H Q\/TQ K x y H Q
 | _,_=>False
theorem KA:B2 X (binaryOp .Mult) (F8 X.K):=by
 intro AA s σ H x y v u Q I rx ry h
 cases x<;>cases y<;>simp only[F8]at h
 ·exact uE AA s σ H _ _ v u Q I rx ry ⟨_,_,rfl,rfl,h⟩
 ·exact xJ AA s σ H _ _ v u Q I rx ry ⟨_,_,rfl,rfl,h⟩
 ·rcases h with h | h
  ·exact v8 AA s σ H _ _ v u Q I rx ry h
  ·exact xE AA s σ H _ _ v u Q I rx ry h
def O6:R2:=λx y H Q=>match x,y with
 | .int i,.int j=>Q (.bl (decide (j<i))) H
 | _,_=>False
theorem IE:B2 X (compareOp .Lt) F2:=by
 intro AA s σ H x y v u Q I rx ry h
 cases x<;>cases y<;>simp only[F2]at h
 ·exact uK AA s σ H _ _ v u Q I rx ry ⟨_,_,rfl,rfl,h⟩
 ·obtain⟨t,rfl⟩:=rx
  obtain⟨t',rfl⟩:=ry
  exact PySem.P.lt_str ⟨.bl _,H,I,rfl,h⟩
theorem F9:B2 X (compareOp .LtE) EZ:=by
 intro AA s σ H x y v u Q I rx ry h
 cases x<;>cases y<;>simp only[EZ]at h
 ·exact uL AA s σ H _ _ v u Q I rx ry ⟨_,_,rfl,rfl,h⟩
 ·obtain⟨t,rfl⟩:=rx
  obtain⟨t',rfl⟩:=ry
  exact PySem.P.le_str ⟨.bl _,H,I,rfl,h⟩
theorem xK:B2 X (compareOp .Gt) O6:=by
 intro AA s σ H x y v u Q I rx ry h
 cases x<;>cases y<;>simp only[O6]at h
 exact uM AA s σ H _ _ v u Q I rx ry ⟨_,_,rfl,rfl,h⟩
abbrev LU:R2:=λx y H Q=>y=.non/\Q (.bl (decide (x=.non))) H
abbrev NF:R2:=λx y H Q=>y=.non/\Q (.bl (!decide (x=.non))) H
variable{a:Expr}{ta:TE}{tA:TT}{pos:Pos}
abbrev LV(K:W.Frag)(ta:TE):TT:=λσ H Q=>ta σ H λx H'=>∃ k,LM K x H' k/\Q k H'
def CP(K:W.Frag):R2:=cG K
theorem CF:IxR X (CP X.K):=vR
def xL:V->Option Int->Option Int->Hp->VK->Prop:=λx lo hi H Q=>∃ z,x=.str z/\z.length<=sizeLine/\Q (.str (Txt.slice z lo hi)) H
theorem dJ{v:Value}{lo:Option Int}(p:IsPart v lo):∃ l:Option (Int × Tok),v=partValue l/\l.map (·.1)=lo:=by
 cases p with
 | none=>exact⟨none,rfl,rfl⟩
 | int i t=>exact⟨some (i,t),rfl,rfl⟩
theorem xM:SlR X xL:=by
 intro AA s σ H x v vl vu lo hi sl Q I rx hs pl pu h
 obtain⟨z,rfl,hz,q⟩:=h
 obtain⟨t,rfl⟩:=rx
 obtain⟨l,rfl,rfl⟩:=dJ pl
 obtain⟨u,rfl,rfl⟩:=dJ pu
 refine⟨"str",_,PySem.F.slot_str_getitem.lookup,typeIs_str _ _ _,?_⟩
 exact wpAny_getItem_str_slice (l:=l) (u:=u) (st:=none) hs rfl (post_val_or_str ⟨Nat.le_trans (Txt.slice_le z _ _) hz,λt' k=>⟨.str _,H,I.tok k,⟨t',rfl⟩,q⟩⟩)
def KB(K:W.Frag):V->Option Int->Option Int->Hp->VK->Prop:=λx lo hi H Q=>match x with
 | .str z=>z.length<=sizeLine/\Q (.str (Txt.slice z lo hi)) H
 | _=>cI K x lo hi H Q\/cB K x lo hi H Q
theorem NG:SlR X (KB X.K):=by
 intro AA s σ H x v vl vu lo hi sl Q I rx hs pl pu h
 cases x<;>first
  | exact xM AA s σ H _ v vl vu lo hi sl Q I rx hs pl pu ⟨_,rfl,h⟩
  | exact(SlR.or vW vL) AA s σ H _ v vl vu lo hi sl Q I rx hs pl pu h
abbrev TU:V->V->V->Hp->(Hp->Prop)->Prop:=cH
theorem dM:R9 X TU:=vT
def FR(K:W.Frag)(tl:TE):TI:=λσ H R=>tl σ H λx H1=>∃ a,x=.ref a/\(((∃ xs,SqL K H1 a xs)/\R (IS K a) H1)\/((∃ xs,SqT K H1 a xs)/\R (IT K a) H1))
def FS(K:W.Frag):List V->Hp->VK->Prop:=λxs H Q=>∃ x n,xs=[x]/\SJ K x H n/\Q (.int n) H
theorem GU:F1 X (.builtin "len") (FS X.K):=uR
def LW(K:W.Frag):List V->Hp->VK->Prop:=λxs H Q=>∃ p ys,xs=[.ref p]/\(SqL K H p ys\/SqT K H p ys)/\∀ l,H l=none->Q (.ref l) (upd H l (.lst ys))
theorem TV:F1 X (.type "list") (LW X.K):=vZ
def LX(K:W.Frag):List V->Hp->VK->Prop:=λxs H Q=>∃ p ys,xs=[.ref p]/\((SqL K H p ys/\∀ l,H l=none->Q (.ref l) (upd H l (.tup ys)))\/(SqT K H p ys/\Q (.ref p) H))
theorem TW:F1 X (.type "tuple") (LX X.K):=v0
abbrev KC:=cM
end
end L2
namespace L2
section
variable{X:Cx}{tg a:Expr}{ta:TE}{pos:Pos}
theorem GW{l:Expr}{tl:TE}(hl:PE X l tl):PI X tg l (FR X.K tl):=by
 intro AA s σ H R I h
 refine AS (hl AA s σ H _ I h) λv s1 hzz=> ?_
 obtain⟨x,H1,I1,r1,q1⟩:=hzz
 obtain⟨a,e,q1⟩:=q1
 subst e
 cases r1
 have fp1:∀ b∈[s1.heap.objs.size],FpOk X AA H1 b:=λb hb=>by
  have e:b=s1.heap.objs.size:=by simpa using hb
  subst e
  exact I1.fpOk (Nat.le_refl _) (I1.hok.fresh (Nat.le_refl _))
 rcases q1 with⟨⟨xs,hq⟩,q⟩ | ⟨⟨xs,hq⟩,q⟩
 ·obtain⟨its,rv,p,hz⟩:=I1.list hq
  refine wpAny_pyIter_list p.isList ?_
  exact⟨s1.heap.objs.size,[s1.heap.objs.size],_,_,H1,rfl,I1.kept (t':=s1.toks) λb o e=>Heap.get?_push_of_some _ e,tW a _,⟨_,Heap.get?_push_size _ rfl,rfl,rfl⟩,fp1,q⟩
 ·obtain⟨its,rv,p,hz⟩:=I1.tuple hq
  refine wpAny_pyIter_tuple (show s1.heap.IsTuple a its.toArray from p) ?_
  exact⟨s1.heap.objs.size,[s1.heap.objs.size],_,_,H1,rfl,I1.kept (t':=s1.toks) λb o e=>Heap.get?_push_of_some _ e,tX a _,⟨_,Heap.get?_push_size _ rfl,rfl,rfl⟩,fp1,q⟩
end
def TX(scope outer:Scope)(N cn:List Str)(cap:List Nat):Bool :=
 scope.kind == .function && scope.names.all (λy=>y.2 != .cell) && scope.names.all (λy=>y.2 != .local || scope.names.lookup y.1 == some .local) &&
 scope.names.all (λy=>y.2 != .free || outer.names.lookup y.1 == some .cell || outer.names.lookup y.1 == some .free) && cn.all (λx=>scope.names.lookup x == some .free) && (cap.map (λi=>N[i]?) == cn.map some)
theorem xN{X:Cx}{scope outer:Scope}{N tn cn:List Str}{cap:List Nat}(h1:X.env.scope=outer)(h2:X.N=N)(h:TX scope outer N cn cap=true):LS X scope tn cn cap:=by
 unfold TX at h
 simp only[Bool.and_eq_true,List.all_eq_true,Bool.or_eq_true,bne_iff_ne,beq_iff_eq]at h
 obtain⟨⟨⟨⟨⟨k1,k2⟩,k3⟩,k4⟩,k5⟩,k6⟩:=h
 refine⟨k1,k2,λy hy hl=>(k3 y hy).resolve_left λz=>z hl,λy hy hf=> ?_,k5,by rw[h2];exact k6⟩
 have z:=k4 y hy
 show X.env.scope.names.lookup y.1=_\/X.env.scope.names.lookup y.1=_
 rw[h1]
 rcases z with(z | z) | z
 ·exact absurd hf z
 ·exact .inl z
 ·exact .inr z
structure zf4(K:W.Frag)(C:Addr):Prop where
 ga:W.findIn K (.ref C) "__getattribute__"=some (some (.builtin "BaseException.__getattribute__"))
 gt:W.findIn K (.ref C) "__getattr__"=some none
 be:W.mroIn K C (.type "BaseException")=some true
 cl:W.isClsIn K C=true
 ha:W.findIn K (.ref C) "__class__"=some (some (.builtin "object.__class__"))
 hn:W.specialIn K (.builtin "object.__class__") "__get__"=some (some (.builtin "getset_descriptor.__get__"))
 tk:W.takesIn K (.builtin "object.__class__")=some true
 mr:W.mroIn K C (.type "object")=some true
inductive dN:V->Value->Prop
 | own (C:Addr):dN (.ref C) (.ref C)
 | ty (n:String):dN (.ty n) (.type n)
section
variable{X:Cx}
end
end L2
namespace L2
def IF(J:It)(g:TG)(tt:TT)(te:TE)(k:Nat)(cap:List Nat)(σ:St)(H1:Hp)(Q:VK):Prop :=
 ∃ W:Nat->Nat->St->List V->Hp->Prop,(∃ m,W 0 m (J7 k cap σ) [] H1)/\∀ i m σ' ys H,W i m σ' ys H →
  (J.stop i H/\∀ p,H p=none->Q (.ref p) (upd H p (.lst ys))) ∨
  (J.go i H/\ys.length<sizeLine/\∀ x H',J.yld i H x H'->g x σ' H' λσ2 H2=>tt σ2 H2 λb H3 =>
   if b=true then ∃ N:VK,(∀ y H4,N y H4->∃ m',m'<m/\W (i+1) m' σ2 (ys++[y]) H4)/\te σ2 H3 N else ∃ m',m'<m/\W (i+1) m' σ2 ys H3)
def GY(J:It)(g:TG)(tb:TS)(D:Ends)(σ:St)(H1:Hp):Prop :=
 ∃ W:Nat->Nat->St->Hp->Prop,(∃ m,W 0 m σ H1)/\∀ i m σ H,W i m σ H →
  (J.stop i H/\D.nx σ H)\/(J.go i H/\∃ N:St->Hp->Prop,(∀ σ' H',N σ' H'->∃ m',m'<m/\W (i+1) m' σ' H')/\∀ x H',J.yld i H x H'->g x σ H' λσ2 H2=>tb { D with nx:=N,ct:=N,bk:=D.nx } σ2 H2)
section
variable{K:W.Frag}{ta tb tc to ti tv tl:TE}{tt tA tB' tu:TT}{s1 s2:TS}{r r':R2}{σ:St}{H:Hp}{Q:VK}{D:Ends}{QB:Bool->Hp->Prop}{as:TA}{g:TG}{gs:JV}{te:TE}{k i:Nat}{cap:List Nat}{f m:Str}{C:Addr}{sp:Sp}{C8:List V}{E:St->XK}{v:V}{vs:List V}{QA:List V->Hp->Prop}{QG:St->Hp->Prop}{QO:Option Int->Hp->Prop}
theorem xO:AK s1 s2 D σ H=(s1 { D with nx:=s2 D } σ H):=rfl
theorem xP:CQ D σ H=(D.nx σ H):=rfl
theorem xQ:R8 D σ H=(D.ct σ H):=rfl
theorem xR:A0 ta g D σ H=(ta σ H λx H1=>g x σ H1 D.nx):=rfl
theorem xS:C5 ta D σ H=(ta σ H λ_ H1=>D.nx σ H1):=rfl
theorem xT:BF ta D σ H=(ta σ H D.rt):=rfl
theorem xU:B1 tt s1 s2 D σ H=(tt σ H λb H1=>if b=true then s1 D σ H1 else s2 D σ H1):=rfl
theorem xV:tC v σ H Q=(Q v H):=rfl
theorem xW:AG r ta tb σ H Q=(ta σ H λx H1=>tb σ H1 λy H2=>r x y H2 Q):=rfl
theorem xX:CK ta σ H QB=(ta σ H λx H'=>∃ k,x=.bl k/\QB k H'):=rfl
theorem xY:GL r r' ta tb tc σ H Q=(ta σ H λx H1=>tb σ H1 λy H2=>r x y H2 λz H3=>∃ k,z=.bl k/\(if k=true then tc σ H3 λw' H4=>r' y w' H4 Q else Q (.bl false) H3)):=rfl
theorem xZ:GJ tt σ H QB=(tt σ H λc H1=>QB (!c) H1):=rfl
theorem x4:M3 tt tu σ H QB=(tt σ H λc H1=>if c=true then tu σ H1 QB else QB false H1):=rfl
theorem x5:R3 tt tu σ H QB=(tt σ H λc H1=>if c=true then QB true H1 else tu σ H1 QB):=rfl
theorem x6:M4 ta tb σ H Q=(ta σ H λx H1=>∃ c,x=.bl c/\if c=true then tb σ H1 Q else Q (.bl false) H1):=rfl
theorem x8:R6 ta tb σ H Q=(ta σ H λx H1=>∃ c,x=.bl c/\if c=true then Q (.bl true) H1 else tb σ H1 Q):=rfl
theorem x9:LV K ta σ H QB=(ta σ H λx H'=>∃ k,LM K x H' k/\QB k H'):=rfl
theorem yA:BW σ H QA=(QA [] H):=rfl
theorem yB:DM ta as σ H QA=(ta σ H λx H1=>as σ H1 λxs H2=>QA (x::xs) H2):=rfl
theorem yC:EO as σ H Q=(as σ H λxs H1=>xs.length<=sizeLine/\∀ p,H1 p=none->Q (.ref p) (upd H1 p (.tup xs))):=rfl
theorem yD:CG as σ H Q=(as σ H λxs H1=>xs.length<=sizeLine/\∀ p,H1 p=none->Q (.ref p) (upd H1 p (.lst xs))):=rfl
theorem yE:DD sp C8 E as σ H Q=(as σ H λvs H1=>sp (vs++C8) H1 Q (E σ)):=rfl
theorem yF:AR C m sp C8 E ta as σ H Q=(ta σ H λx H1=>∃ a dx fs,x=.ref a/\H1 a=some (.ins C dx fs)/\fs.lookup m=none/\as σ H1 λvs H2=>sp (x::(vs++C8)) H2 Q (E σ)):=rfl
theorem yG:JX C sp C8 E as σ H Q=(as σ H λvs H1=>∀ x dx,H1 x=none->H1 dx=none->dx≠x->sp (.ref x::(vs++C8)) (upd (upd H1 dx (.own x)) x (.ins C dx [])) (λv H2=>v=.non/\Q (.ref x) H2) (E σ)):=rfl
theorem yH:AX K ta f σ H Q=(ta σ H λx H1=>∃ a C dx fs v,x=.ref a/\H1 a=some (.ins C dx fs)/\Cls K C/\NoAttr K C f/\fs.lookup f=some v/\Q v H1):=rfl
theorem yI:EB K ta tv f D σ H=(tv σ H λy H1=>ta σ H1 λx H2=>∃ a C dx fs,x=.ref a/\H2 a=some (.ins C dx fs)/\Cls K C/\NoAttr K C f/\fs.length<1000/\D.nx σ (upd H2 a (.ins C dx (A7 f y fs)))):=rfl
theorem yJ{ru:V->Hp->VK->Prop}:ON ru ta σ H Q=ta σ H λx H1=>ru x H1 Q:=rfl
theorem yK{rc:List V->Hp->VK->Prop}:DE rc as σ H Q=as σ H λvs H1=>rc vs H1 Q:=rfl
theorem yL:GT C E as D σ H=(as σ H λvs H1=>vs.length<=sizeLine/\E σ (.ref C) none H1):=rfl
theorem yM{sb:(St->XK)->TS}{th:TH}:TM sb th D σ H=sb (λσ' cls _ H'=>th cls D σ' H') D σ H:=rfl
theorem yN:AN i v σ H QG=(QG (σ.set i (some v)) H):=rfl
theorem yO{rs:OI}:OM to ti rs v σ H QG=to σ H λo H1=>ti σ H1 λi H2=>rs o i v H2 λH3=>QG σ H3:=rfl
theorem yP:OL K k gs v σ H QG=(∃ a xs,v=.ref a/\SqT K H a xs/\xs.length=k/\gs xs σ H QG):=rfl
theorem yQ:OJ vs σ H QG=((vs=[]/\QG σ H)):=rfl
theorem yR:LI g gs vs σ H QG=(∃ v r,vs=v::r/\g v σ H λσ' H'=>gs r σ' H' QG):=rfl
theorem yS{rs:V->Option Int->Option Int->Hp->VK->Prop}{ol oh:TO}:KR rs ta ol oh σ H Q=ta σ H λx H1=>ol σ H1 λl H2=>oh σ H2 λu H3=>rs x l u H3 Q:=rfl
theorem yT:LO σ H QO=(QO none H):=rfl
theorem yU:JZ ta σ H QO=(ta σ H λx H1=>∃ i,x=.int i/\QO (some i) H1):=rfl
theorem yV{T:String}{rm:V->List V->Hp->VK->Prop}:GR K T rm ta as σ H Q=ta σ H λx H1=>SV K T x H1/\as σ H1 λxs H2=>rm x xs H2 Q:=rfl
theorem yW:DO σ H QB=(QB true H):=rfl
theorem yX:EQ (FM as) g tt te k cap σ H Q=(as σ H λvs H1=>∃ j:Int,vs=[.int j]/\ -(2 ^ 62)<=j/\j<2 ^ 62/\IF (HD 0 j.toNat) g tt te k cap σ H1 Q):=rfl
theorem yY:EQ (FR K tl) g tt te k cap σ H Q=(tl σ H λx H1=>∃ a,x=.ref a/\(((∃ xs,SqL K H1 a xs)/\IF (IS K a) g tt te k cap σ H1 Q)\/((∃ xs,SqT K H1 a xs)/\IF (IT K a) g tt te k cap σ H1 Q))):=rfl
theorem yZ:EH (FM as) g s1 D σ H=(as σ H λvs H1=>∃ j:Int,vs=[.int j]/\ -(2 ^ 62)<=j/\j<2 ^ 62/\GY (HD 0 j.toNat) g s1 D σ H1):=rfl
theorem zA:EH (FR K tl) g s1 D σ H=(tl σ H λx H1=>∃ a,x=.ref a/\(((∃ xs,SqL K H1 a xs)/\GY (IS K a) g s1 D σ H1)\/((∃ xs,SqT K H1 a xs)/\GY (IT K a) g s1 D σ H1))):=rfl
theorem zB{rd:V->V->Hp->VK->Prop}:SN K ta tv rd f D σ H=(ta σ H λx H1=>∃ a C dx fs v,x=.ref a/\H1 a=some (.ins C dx fs)/\Cls K C/\NoAttr K C f/\fs.lookup f=some v/\tv σ H1 λy H2=>rd v y H2 λz H3=>∃ dx' fs',H3 a=some (.ins C dx' fs')/\fs'.length<1000/\D.nx σ (upd H3 a (.ins C dx' (A7 f z fs')))):=rfl
end
end L2
namespace L2
section
variable{K:W.Frag}{σ:St}{H:Hp}{Q:VK}{P:Bool->Prop}{PI':Int->Prop}{PV:V->Prop}{QB:Bool->Hp->Prop}{v:V}{x:Option V}{i j:Int}{n:Nat}{b b':Bool}{s s':Str}{p q:Addr}{f:Int->Int->V}{C:Int->Int->Prop}
def EC(i:Nat):TE:=λσ H Q=>match σ[i]? with
 | some (some v)=>Q v H
 | _=>False
theorem zC:EC 0 (some v::σ) H Q=Q v H:=rfl
theorem zD:EC (n+1) (x::σ) H Q=EC n σ H Q:=rfl
theorem zE(i:Nat):EC i=R1 i:=by
 funext σ H Q
 unfold EC R1
 cases σ[i]? with
 | none=>simp
 | some o=>cases o<;>simp
theorem zF{P:Bool->Prop}:(∃ k,V.bl b=V.bl k/\P k)=P b:=by simp
theorem zG{P:Int->Prop}:(∃ k,V.int i=V.int k/\P k)=P i:=by simp
theorem zH{P:Addr->Prop}:(∃ k,V.ref p=V.ref k/\P k)=P p:=by simp
theorem zI{P:Bool->Prop}:(∃ k,LM K (.bl b) H k/\P k)=P b:=by simp[LM]
theorem zJ:BS K (.int i) (.int j) H Q=Q (.int (i+j)) H:=rfl
theorem zK:BS K (.str s) (.str s') H Q=(s.length+s'.length<=sizeLine/\Q (.str (s++s')) H):=rfl
theorem TY:BS K (.ref p) (.ref q) H Q=(SW (.ref p) (.ref q) H Q\/SQ K (.ref p) (.ref q) H Q\/TN K (.ref p) (.ref q) H Q):=rfl
theorem zL{x y:Str}:EZ (.str x) (.str y) H Q=Q (.bl (!decide (y.cps.toList<x.cps.toList))) H:=rfl
theorem zM{x y:Str}:F2 (.str x) (.str y) H Q=Q (.bl (decide (x.cps.toList<y.cps.toList))) H:=rfl
theorem zN{x:Str}{lo hi:Option Int}:KB K (.str x) lo hi H Q=(x.length<=sizeLine/\Q (.str (Txt.slice x lo hi)) H):=rfl
theorem zO:F8 K (.int i) (.int j) H Q=(CMul i j/\Q (.int (i * j)) H):=rfl
theorem zP{z:Str}{j:Int}:F8 K (.str z) (.int j) H Q=(0<=j/\j<=1000/\z.length<=1000/\Q (.str (O5 z j)) H):=rfl
theorem zQ:F8 K (.ref p) (.int j) H Q=(SY (.ref p) (.int j) H Q\/TQ K (.ref p) (.int j) H Q):=rfl
theorem zR:H0 f (.int i) (.int j) H Q=Q (f i j) H:=by simp[H0]
theorem dO:rI C f (.int i) (.int j) H Q=(C i j/\Q (f i j) H):=by simp[rI]
theorem zS{g:Int->V}:rU g (.int i) H Q=Q (g i) H:=by simp[rU]
theorem zT:F2 (.int i) (.int j) H Q=Q (.bl (decide (i<j))) H:=rfl
theorem zU:EZ (.int i) (.int j) H Q=Q (.bl (decide (i<=j))) H:=rfl
theorem zV:O6 (.int i) (.int j) H Q=Q (.bl (decide (j<i))) H:=rfl
theorem zW:FE K (.int i) (.int j) H Q=Q (.bl (decide (i=j))) H:=by simp[FE,KQ]
theorem zX:FE K (.str s) (.str s') H Q=Q (.bl (decide (s=s'))) H:=by simp[FE,KQ]
theorem zY:LT K (.int i) (.int j) H Q=Q (.bl (!decide (i=j))) H:=by simp[LT,KQ]
theorem zZ:LU v .non H Q=Q (.bl (decide (v=.non))) H:=by simp[LU]
theorem z6:NF v .non H Q=Q (.bl (!decide (v=.non))) H:=by simp[NF]
theorem z7:OS (.int i) (.int j) H Q=Q (.int (i+j)) H:=by simp[OS]
theorem z8:FS K [v] H Q=∃ n:Nat,SJ K v H n/\Q (.int n) H:=by simp[FS]
theorem dP:LW K [.ref p] H Q=∃ ys,(SqL K H p ys\/SqT K H p ys)/\∀ l,H l=none->Q (.ref l) (upd H l (.lst ys)):=by simp[LW]
theorem z9:LX K [.ref p] H Q=∃ ys,((SqL K H p ys/\∀ l,H l=none->Q (.ref l) (upd H l (.tup ys)))\/(SqT K H p ys/\Q (.ref p) H)):=by simp[LX]
end
theorem AB{X:Cx}(i:Nat){x:Str}{pos:Pos}(hN:X.N[i]? =some x:=by rfl)(hv:R0 X.env.scope x:=by first | exact Or.inl rfl | exact Or.inr (Or.inl rfl) | exact Or.inr (Or.inr rfl))(hd:(x ==("__debug__":Str))=false:=by decide)
  (IN:(x ==("__classdict__":Str))=false:=by decide):PE X (.Name x pos) (EC i):=by
 rw[zE]
 exact tM hN hv hd IN
end L2
namespace L2
abbrev A9(Q:VK):Ends:={ nx:=λ_ H'=>Q .non H',rt:=Q }
abbrev EI(cap:List Nat)(σ:St):St:=cap.map λi=>(σ[i]?).join
section
variable{K:W.Frag}{te:TE}{cap:List Nat}{σ:St}{H:Hp}{Q:VK}
theorem NH{lo:Int}{n:Nat}(hn:n<=sizeLine)(Pv:Nat->List V->Hp->Prop)(h0:Pv 0 [] H)(hs:∀ i ys H,i<n->ys.length=i->Pv i ys H->te (some (.int (lo+i))::EI cap σ) H λy H2=>Pv (i+1) (ys++[y]) H2)
  (hd:∀ ys H,ys.length=n->Pv n ys H->∀ p,H p=none->Q (.ref p) (upd H p (.lst ys))) :
  IF (HD lo n) (AN 0) DO te 1 cap σ H Q:=by
 refine⟨λi m σ' ys H=>m=n - i/\i<=n/\ys.length=i/\(∃ x0,σ'=x0::EI cap σ)/\Pv i ys H,⟨n,by simp,Nat.zero_le _,rfl,⟨none,rfl⟩,h0⟩,?_⟩
 rintro i m σ' ys H ⟨rfl,hi,hl,⟨x0,rfl⟩,p⟩
 by_cases BK:i<n
 ·refine .inr ⟨BK,by omega,λx H' y=> ?_⟩
  obtain⟨e,y⟩:=y
  subst e y
  simp only[AN,DO,if_true]
  refine⟨_,λy H4 q=>⟨n - (i+1),by omega,rfl,BK,?_,⟨_,rfl⟩,q⟩,hs i ys _ BK hl p⟩
  rw[List.length_append,List.length_singleton,hl]
 ·have e:i=n:=by omega
  subst e
  exact .inl ⟨Nat.le_refl _,hd ys H hl p⟩
theorem Ab{b:Addr}{xs:List V}(hn:xs.length<=sizeLine)(Pv:Nat->List V->Hp->Prop)(h0:Pv 0 [] H)(hq:∀ i ys H,i<=xs.length->Pv i ys H->SqL K H b xs)
  (hs:∀ i x ys H,xs[i]? =some x->ys.length=i->Pv i ys H->te (some x::EI cap σ) H λy H2=>Pv (i+1) (ys++[y]) H2)
  (hd:∀ ys H,ys.length=xs.length->Pv xs.length ys H->∀ p,H p=none->Q (.ref p) (upd H p (.lst ys))) :
  IF (IS K b) (AN 0) DO te 1 cap σ H Q:=by
 refine⟨λi m σ' ys H=>m=xs.length - i/\i<=xs.length/\ys.length=i/\(∃ x0,σ'=x0::EI cap σ)/\Pv i ys H,⟨xs.length,by simp,Nat.zero_le _,rfl,⟨none,rfl⟩,h0⟩,?_⟩
 rintro i m σ' ys H ⟨rfl,hi,hl,⟨x0,rfl⟩,p⟩
 have q:=hq i ys H hi p
 by_cases BK:i<xs.length
 ·refine .inr ⟨⟨xs,xs[i],q,by simp[BK]⟩,by omega,λx H' y=> ?_⟩
  obtain⟨e,y⟩:=y
  subst e
  have hx:=y xs q
  simp only[AN,DO,if_true]
  refine⟨_,λy H4 q=>⟨xs.length - (i+1),by omega,rfl,BK,?_,⟨_,rfl⟩,q⟩,hs i x ys _ hx hl p⟩
  rw[List.length_append,List.length_singleton,hl]
 ·have e:i=xs.length:=by omega
  subst e
  exact .inl ⟨⟨xs,q,Nat.le_refl _⟩,hd ys H hl p⟩
theorem K2{b:Addr}{xs:List V}{g:TG}{tb:TS}{D:Ends}(Pv:Nat->St->Hp->Prop)(h0:Pv 0 σ H)(hl:∀ i σ H,i<=xs.length->Pv i σ H->SqL K H b xs)
  (hs:∀ i x σ H,xs[i]? =some x->Pv i σ H->g x σ H λσ2 H2=>tb { D with nx:=Pv (i+1),ct:=Pv (i+1),bk:=D.nx } σ2 H2) (hd:∀ σ H,Pv xs.length σ H->D.nx σ H):GY (IS K b) g tb D σ H:=t7 Pv h0 hl hs hd
theorem Ac{b:Addr}{xs:List V}{g:TG}{tb:TS}{D:Ends}(Pv:Nat->St->Hp->Prop)(h0:Pv 0 σ H)(hl:∀ i σ H,i<=xs.length->Pv i σ H->SqT K H b xs)
  (hs:∀ i x σ H,xs[i]? =some x->Pv i σ H->g x σ H λσ2 H2=>tb { D with nx:=Pv (i+1),ct:=Pv (i+1),bk:=D.nx } σ2 H2) (hd:∀ σ H,Pv xs.length σ H->D.nx σ H):GY (IT K b) g tb D σ H:=t8 Pv h0 hl hs hd
theorem NI{lo:Int}{n:Nat}{g:TG}{tb:TS}{D:Ends}(Pv:Nat->St->Hp->Prop)(h0:Pv 0 σ H)
  (hs:∀ i σ H,i<n->Pv i σ H->g (.int (lo+i)) σ H λσ2 H2=>tb { D with nx:=Pv (i+1),ct:=Pv (i+1),bk:=D.nx } σ2 H2) (hd:∀ σ H,Pv n σ H->D.nx σ H):GY (HD lo n) g tb D σ H:=uA Pv h0 hs hd
end
theorem AO{H:Hp}{p:Addr}{o:HO}(h:H p=none):Same H (upd H p o):=λb u e=>by rw[AF (BM e h)];exact e
theorem K3{α β :Type}{F: α -> β ->Prop}:∀ {l:List α} {m:List β} {i:Nat} {y: β},Paired F l m->m[i]? =some y->∃ x,l[i]? =some x/\F x y
 | _,_,_,_,.nil,e=>by simp at e
 | _,_,0,_,.cons r _,e=>by simp at e;subst e;exact⟨_,rfl,r⟩
 | _,_,i+1,y,.cons _ t,e=>by
  obtain⟨u,h1,h2⟩:=K3 (i:=i) (y:=y) t (by simpa using e)
  exact⟨u,by simpa using h1,h2⟩
theorem dQ{α β :Type}{F: α -> β ->Prop}{x: α}{y: β}(r:F x y):∀ {l:List α} {m:List β} (i:Nat),Paired F l m->Paired F (l.set i x) (m.set i y)
 | _,_,_,.nil=>.nil
 | _,_,0,.cons _ t=>.cons r t
 | _,_,i+1,.cons q t=>.cons q (dQ r i t)
theorem FF{K:W.Frag}{H:Hp}{p:Addr}{xs:List V}{i:Int}{n:Nat}{v:V}{Q:VK}(h:SqL K H p xs)(hi:i=n)(hx:xs[n]? =some v)(q:Q v H):CP K (.ref p) (.int i) H Q :=
 .inl ⟨p,xs,i,v,rfl,rfl,h,hi ▸ OU hx,q⟩
theorem CM(n:Nat)(h:n<=100000):n<=sizeLine:=Nat.le_trans h (by decide)
theorem dR{α :Type}(x: α):∀ w:Nat,(List.replicate w [x]).flatten=List.replicate w x
 | 0=>rfl
 | w+1=>by rw[List.replicate_succ,List.flatten_cons,dR x w];rfl
theorem JF{f:Str}{v:V}{fs:List (Str × V)}{n:Nat}(h:fs.length+1<n):(A7 f v fs).length<n:=Nat.lt_of_le_of_lt (M9 f v fs) h
end L2
namespace L2
def ItK(k:Bool)(h:Heap)(j a:Addr)(i:Nat):Prop:=if k then h.IsListIter j a i else h.IsTupleIter j a i
def dU(k:Bool)(h:Heap)(a:Addr)(xs:Array Value):Prop:=if k then h.IsList a xs else h.IsTuple a xs
theorem ItK.up{k:Bool}{h h':Heap}{j a:Addr}{i:Nat}(x:ItK k h j a i)(q:∀ o,h.get? j=some o->h'.get? j=some o):ItK k h' j a i:=by
 cases k<;>exact(let ⟨o,e,r⟩:=x;⟨o,q o e,r⟩)
theorem ItK.ob{k:Bool}{h:Heap}{j a:Addr}{i:Nat}(x:ItK k h j a i):∃ o,h.get? j=some o/\o.data=.fields #[.ref a,.int i 0]:=by
 cases k<;>exact(let ⟨o,e,_,r⟩:=x;⟨o,e,r⟩)
section
variable{P:Program}{w:World}{A:Around}{E:Value->Shared->Prop}{s:Shared}
theorem Ag{j t:Addr}{i:Nat}{its:Array Value}{Q:Value->Shared->Prop}(z:A.handled=none)(c:s.heap.IsTupleIter j t i)(d:s.heap.IsTuple t its)(e:its[i]? =none)
  (q:∀ h' x,Heap.ExtBut j s.heap h'->(∃ o,h'.get? x=some o/\o.cls=.type "StopIteration")->E (.ref x) { s with heap:=h' }):wpAny (model P w) A (Builtin.SmallTypes.nextOf (.ref j)) Q E s:=by
 obtain⟨oj,e1,e2,e3⟩:=id c
 obtain⟨ot,f1,_,n,f2⟩:=d
 unfold Builtin.SmallTypes.nextOf
 refine wpAny_bind (wpAny_callSpecial?_slot (name:=Str.ofString "__next__") c.typeIs F.slot_tuple_iterator_next (wpAny_call_entry F.slot_tuple_iterator_next c.typeIs F.entry_tuple_iterator_next ?_ (F.args_tuple_iterator_next_1 _)))
 show wpAny (model P w) _ (field (.ref j) 0 >>= _) _ _ s
 refine wpAny_bind (wpAny_field e1 e3 (x:=.ref t) rfl ?_)
 show wpAny (model P w) _ (field (.ref j) 1 >>= _) _ _ s
 refine wpAny_bind (wpAny_field e1 e3 (x:=.int i 0) rfl ?_)
 show wpAny (model P w) _ (seqItems? (.ref t) >>= _) _ _ s
 refine wpAny_bind (wpAny_seqItems f1 f2 ?_)
 simp only[Int.toNat_natCast,e]
 refine wpAny_bind (wpAny_rule (wpAny_bind (wpAny_setField e1 e3 (by simp) ?_)))
 show wpAny (model P w) _ (newExc (.type "StopIteration") [] >>= _) _ _ _
 refine wpAny_bind ?_
 simp only[newExc,newTuple]
 refine wpAny_bind (wpAny_newObj_type (wpAny_bind (m:=firstArgMember _ _) (wpAny_of_eq (a:=Value.none) (by first | rfl | (simp only[firstArgMember];rfl)) (wpAny_newObj_type ?_ (by size_fits)))) (by size_fits))
 simp only[raiseNew]
 refine wpAny_bind (wpAny_handled ?_)
 rw[show A.in1.handled=none from z]
 exact wpAny_bind (wpAny_pure (wpAny_throw (q _ _ (((Heap.SameBut.update ..).extBut.push _).push _) ⟨_,Heap.get?_push_size _ rfl,rfl⟩)))
theorem Ah{k:Bool}{j t:Addr}{i:Nat}{its:Array Value}{Q:Value->Shared->Prop}(z:A.handled=none)(c:ItK k s.heap j t i)(d:dU k s.heap t its)(e:its[i]? =none)
  (q:∀ h' x,Heap.ExtBut j s.heap h'->(∃ o,h'.get? x=some o/\o.cls=.type "StopIteration")->E (.ref x) { s with heap:=h' }):wpAny (model P w) A (Builtin.SmallTypes.nextOf (.ref j)) Q E s:=by
 cases k
 ·exact Ag z c d e q
 ·exact wpAny_nextOf_list_end z c d e q
end
section
variable{P:Program}{w:World}{A:Around}{E:Value->Shared->Prop}{s:Shared}
end
theorem Inv.turnedS{X:Cx}{AA:List (Addr × Obj)}{σ:St}{H:Hp}{s:Shared}{h':Heap}{t':Nat}{fp:List Addr}(I:Inv X AA σ H s)(k:∀ b o,b∉fp->s.heap.get? b=some o->h'.get? b=some o)(hf:∀ b∈fp,FpOk X AA H b):Inv X AA σ H { s with heap:=h',toks:=t' }:=by
 have nit:∀ b u,H b=some u->b∉fp:=λb u e z=>by rw[(hf b z).1]at e;cases e
 refine I.step (g':=s.gens) (d':=s.drawn) (ch:=fp) (λb hb=> ?_) (λb o _ _ hc e _=>k b o hc e) (λb o _ _ hc e _=>⟨o.slots,k b o hc e⟩) (λ_ _ _ _ n=>n)
  (λb o hc e=>⟨o,k b o hc e⟩) (λ_ _ e=>e) (λ_ _ _ e=>e) (λb ps e=>⟨#[],by rw[e];simp⟩) (λm hm=> ?_) (λb u e=> ?_) I.bare
 ·obtain⟨_,f1,_,f3,f4,f5⟩:=hf b hb
  exact⟨f3,f1,f4,f5⟩
 ·obtain⟨o,es,ep,ho,r⟩:=hm
  exact⟨o,es,ep,k _ o (λz=>(hf _ z).2.1 rfl) ho,r⟩
 ·refine(I.hok b u e).stay (λc v hc q=>k c v ?_ q) (λ_ q=>q) λ_ _ q=>q
  rcases hc with z | z
  ·rw[z];exact nit b u e
  ·exact nit c _ z
def TZ(K:W.Frag)(k:Bool)(H:Hp)(a:Addr)(xs:List V):Prop:=if k then SqL K H a xs else SqT K H a xs
theorem Inv.seqK{X:Cx}{AA:List (Addr × Obj)}{σ:St}{H:Hp}{s:Shared}{k:Bool}{a:Addr}{xs:List V}(I:Inv X AA σ H s)(q:TZ X.K k H a xs):∃ its,Vals xs its/\dU k s.heap a its.toArray:=by
 cases k
 ·obtain⟨its,rv,p,_⟩:=I.tuple q
  exact⟨its,rv,p⟩
 ·obtain⟨its,rv,p,_⟩:=I.list q
  exact⟨its,rv,p.isList⟩
theorem Inv.seqK_inj{X:Cx}{AA:List (Addr × Obj)}{σ:St}{H:Hp}{s:Shared}{k:Bool}{a:Addr}{xs ys:List V}(I:Inv X AA σ H s)(p:TZ X.K k H a xs)(q:TZ X.K k H a ys):xs=ys:=by
 cases k
 ·exact I.tuple_inj p q
 ·exact I.list_inj p q
structure zf5(z T U j j':Addr):Prop where
 a1:T≠z
 a2:U≠z
 a3:j≠z
 a4:j'≠z
 a5:T≠U
 a6:T≠j
 a7:T≠j'
 a8:U≠j
 a9:U≠j'
 a10:j≠j'
theorem FpOk.upd{X:Cx}{AA:List (Addr × Obj)}{H:Hp}{a b:Addr}{o:HO}(f:FpOk X AA H b)(n:b≠a):FpOk X AA (upd H a o) b:=⟨(AF n).trans f.1,f.2⟩
section
variable{X:Cx}{tg:Expr}
end
end L2
namespace L2
def NJ(z:Str):It:=⟨λi _=>i<z.cps.size,λi H x H'=>H'=H/\∃ c,z.cps[i]? =some c/\x=.str ⟨#[c]⟩,λi _=>z.cps.size<=i⟩
theorem dW{P:Program}{w:World}{K:PySem.W.Frag}{tg:Expr}{it:Addr}{z:Str}{t:Tok}{nm:String}(hn:["enumerate","zip","dict_itemiterator","dict_reverseitemiterator","odict_iterator","itertools.zip_longest","itertools.pairwise"].contains nm=false)
  (W:∀ A:Around,A.handled=none->Walks P w A it [it] [it] z.cps.size (SignAt z) (λi h=>h.IsStrIter it nm z t i)) (sf:∀ (A:Around) (i:Nat) (s:Shared) (Q:Value->Shared->Prop) (E:Value->Shared->Prop),s.heap.IsStrIter it nm z t i->Q (.ref it) s->wpAny (model P w) A (pyIter (.ref it)) Q E s) :
  JW P w K tg (NJ z) [it] it (λi h=>i<=z.cps.size/\h.IsStrIter it nm z t i) where
 mem:=by simp
 obj:=λi h ⟨_,o,e,c,d⟩ b hb=>by
  have e':b=it:=by simpa using hb
  subst e'
  exact⟨o,e,λv q=>by rw[d]at q;cases q⟩
 keep:=λi h h' ⟨l,o,e,r⟩ k=>⟨l,o,k it (by simp) o e,r⟩
 item:=by
  intro X hP hw hK hc i AA s σ H E I hf ⟨_,st⟩ hg
  subst hP hw hK
  obtain⟨f0,f1,f2,f3,f4,f5⟩:=hf it (by simp)
  refine(W _ (I.ok.hd hc)).item i s _ _ hg st λv h' tk hv st' kk=> ?_
  obtain⟨c,u,hx,rfl⟩:=hv
  have I1:Inv X AA σ H { s with heap:=h',toks:=tk }:=I.turned (λb o hb e=>kk b o (by simpa using hb) e) f0 f1 f3 f4 f5
  obtain⟨o,e,c1,d⟩:=id st'
  exact⟨_,rfl,M6 (s:={ s with heap:=h',toks:=tk }) e c1 d hn ⟨.str ⟨#[c]⟩,H,I1,⟨u,rfl⟩,⟨rfl,c,hx,rfl⟩,⟨hg,st'⟩,λb hb=>(hf b hb).1⟩⟩
 done:=by
  intro X hP hw hK hc i AA s σ H E I hf ⟨l,st⟩ hg
  subst hP hw hK
  obtain⟨f0,f1,f2,f3,f4,f5⟩:=hf it (by simp)
  have e:i=z.cps.size:=Nat.le_antisymm l hg
  subst e
  exact(W _ (I.ok.hd hc)).done s _ _ st λh' tk kk=>⟨rfl,I.turned (λb o hb e=>kk b o (by simpa using hb) e) f0 f1 f3 f4 f5⟩
 self:=λA i s Q E st h=>sf A i s Q E st.2 h
theorem dX:∀ bs:List Bool,(List.range bs.length).all (λi=>bs.getD i false)=bs.all id
 | []=>rfl
 | b::t=>by
  have ih:=dX t
  rw[List.length_cons,List.range_succ_eq_map,List.all_cons,List.all_map,List.all_cons,<-ih]
  rfl
def O7(tl:TE):TI:=λσ H R=>tl σ H λx H1=>∃ z,x=.str z/\R (NJ z) H1
section
variable{X:Cx}{tg:Expr}
theorem dY{l:Expr}{tl:TE}(hl:PE X l tl):PI X tg l (O7 tl):=by
 intro AA s σ H R I h
 refine AS (hl AA s σ H _ I h) λv s1 hzz=> ?_
 obtain⟨x,H1,I1,r1,q1⟩:=hzz
 obtain⟨z,rfl,q⟩:=q1
 obtain⟨t,rfl⟩:=r1
 have fp1:∀ b∈[s1.heap.objs.size],FpOk X AA H1 b:=λb hb=>by
  have e:b=s1.heap.objs.size:=by simpa using hb
  subst e
  exact I1.fpOk (Nat.le_refl _) (I1.hok.fresh (Nat.le_refl _))
 cases ha:z.cps.all (· <128)
 ·refine wpAny_pyIter_wide ha ⟨s1.heap.objs.size,[s1.heap.objs.size],_,_,H1,rfl,I1.kept (t':=s1.toks) λb o e=>Heap.get?_push_of_some _ e,dW (nm:="str_iterator") (t:=t) (by decide) (λA hA=>Walks.strWide hA _ z t) (λA i s Q E st h=>wpAny_pyIter_striter_wide st h),⟨Nat.zero_le _,_,Heap.get?_push_size _ rfl,rfl,rfl⟩,fp1,q⟩
 ·refine wpAny_pyIter_ascii ha ⟨s1.heap.objs.size,[s1.heap.objs.size],_,_,H1,rfl,I1.kept (t':=s1.toks) λb o e=>Heap.get?_push_of_some _ e,dW (nm:="str_ascii_iterator") (t:=t) (by decide) (λA hA=>Walks.strAscii hA _ z t) (λA i s Q E st h=>wpAny_pyIter_striter_ascii st h),⟨Nat.zero_le _,_,Heap.get?_push_size _ rfl,rfl,rfl⟩,fp1,q⟩
def O8(K:W.Frag):List V->Hp->VK->Prop:=λxs H Q=>∃ x,xs=[.str x]/\x.length=1/\Q (.int (x.cps.getD 0 0:Nat)) H
theorem Aj:F1 X (.builtin "ord") (O8 X.K):=uQ
def NK(K:W.Frag):List V->Hp->VK->Prop:=λxs H Q=>∃ (p:Addr) (bs:List Bool),xs=[.ref p]/\SqL K H p (bs.map V.bl)/\Q (.bl (bs.all id)) H
theorem T2(hc:X.calm=true):F1 X (.builtin "all") (NK X.K):=by
 intro AA s σ H xs us Q I r h
 obtain⟨p,bs,rfl,hp,q⟩:=h
 obtain⟨u,rfl,ru⟩:=IU r
 cases ru
 obtain⟨its,rv,pl,hz⟩:=I.list hp
 have hl:=rv.length
 refine call_all_walk (wpAny_pyIter_list pl.isList ?_)
 have hne:p≠s.heap.objs.size:=by
  obtain⟨o,e,_⟩:=pl.isList
  exact Nat.ne_of_lt (Heap.lt_size e)
 refine⟨s.heap.objs.size,_,_,_,_,_,λi=>bs.getD i false,rfl,Walks.list (show X.A.in1.handled=none from I.ok.hd hc) s.heap.objs.size p hne its.toArray,⟨⟨_,Heap.get?_push_size _ rfl,rfl,rfl⟩,pl.isList.push _⟩,?_,?_⟩
 ·intro i v s' Q' E' hv hq
  have hv:its[i]? =some v:=by simpa using hv
  have hi:=(List.getElem?_eq_some_iff.mp hv).1
  rw[List.length_map]at hl
  obtain⟨b,hb⟩:∃ b,bs[i]? =some b:=⟨_,List.getElem?_eq_getElem (by omega)⟩
  obtain⟨u,hu,ru⟩:=rv.get (i:=i) (x:=V.bl b) (by rw[List.getElem?_map,hb];rfl)
  rw[hv]at hu
  cases hu
  cases (show v=Value.bool b from ru)
  have e:bs.getD i false=b:=by rw[List.getD_eq_getElem?_getD,hb];rfl
  have hq:Q' (bs.getD i false) s':=hq
  rw[e]at hq
  exact wpAny_pure hq
 ·intro h' tk kk
  have e:(List.range its.toArray.size).all (λi=>bs.getD i false)=bs.all id:=by
   rw[List.length_map]at hl
   rw[List.size_toArray,<-hl]
   exact dX bs
  rw[e]
  exact⟨.bl _,H,I.kept (t':=tk) λb o eb=>kk b o (by simpa using Nat.ne_of_lt (Heap.lt_size eb)) (Heap.get?_push_of_some _ eb),rfl,q⟩
end
theorem Ak{K:W.Frag}{x:Str}{H:Hp}{Q:VK}:O8 K [.str x] H Q=(x.length=1/\Q (.int (x.cps.getD 0 0:Nat)) H):=by simp[O8]
section
variable{P:Program}{w:World}{A:Around}{E:Value->Shared->Prop}{s:Shared}
end
section
variable{X:Cx}
end
theorem Al{tl:TE}{g:TG}{tt:TT}{te:TE}{k:Nat}{cap:List Nat}{σ:St}{H:Hp}{Q:VK}:EQ (O7 tl) g tt te k cap σ H Q=(tl σ H λx H1=>∃ z,x=.str z/\IF (NJ z) g tt te k cap σ H1 Q):=rfl
theorem Am{te:TE}{cap:List Nat}{σ:St}{H:Hp}{Q:VK}{z:Str}(hn:z.cps.size<=sizeLine)(Pv:Nat->List V->Hp->Prop)(h0:Pv 0 [] H)(hs:∀ i c ys H,z.cps[i]? =some c->ys.length=i->Pv i ys H->te (some (.str ⟨#[c]⟩)::EI cap σ) H λy H2=>Pv (i+1) (ys++[y]) H2)
  (hd:∀ ys H,ys.length=z.cps.size->Pv z.cps.size ys H->∀ p,H p=none->Q (.ref p) (upd H p (.lst ys))):IF (NJ z) (AN 0) DO te 1 cap σ H Q:=by
 refine⟨λi m σ' ys H=>m=z.cps.size - i/\i<=z.cps.size/\ys.length=i/\(∃ x0,σ'=x0::EI cap σ)/\Pv i ys H,⟨z.cps.size,by simp,Nat.zero_le _,rfl,⟨none,rfl⟩,h0⟩,?_⟩
 rintro i m σ' ys H ⟨rfl,hi,hl,⟨x0,rfl⟩,p⟩
 by_cases BK:i<z.cps.size
 ·refine .inr ⟨BK,by omega,λx H' y=> ?_⟩
  obtain⟨e,c,hc,y⟩:=y
  subst e y
  simp only[AN,DO,if_true]
  refine⟨_,λy H4 q=>⟨z.cps.size - (i+1),by omega,rfl,BK,?_,⟨_,rfl⟩,q⟩,hs i c ys _ hc hl p⟩
  rw[List.length_append,List.length_singleton,hl]
 ·have e:i=z.cps.size:=by omega
  subst e
  exact .inl ⟨Nat.le_refl _,hd ys H hl p⟩
end L2
namespace L2
open PySem
abbrev IG(l:List Nat):Prop:=l.Pairwise (· <·)
theorem NL{l:List Nat}(R:IG l){i k a b:Nat}(h:i<k)(ha:l[i]? =some a)(hb:l[k]? =some b):a<b:=by
 obtain⟨h1,rfl⟩:=List.getElem?_eq_some_iff.mp ha
 obtain⟨h2,rfl⟩:=List.getElem?_eq_some_iff.mp hb
 exact List.pairwise_iff_getElem.mp R i k h1 h2 h
structure Below(xs:Array Nat)(j r:Nat):Prop where
 le:r<=xs.size
 lo:∀ i v,i<r->xs.toList[i]? =some v->v<j
 hi:∀ i v,r<=i->xs.toList[i]? =some v->j<=v
theorem T5{xs:Array Nat}{j:Nat}(R:IG xs.toList):∀ (fuel lo hi:Nat),lo<=hi->hi<=xs.size->hi - lo<=fuel->(∀ i v,i<lo->xs.toList[i]? =some v->v<j)->(∀ i v,hi<=i->xs.toList[i]? =some v->j<=v) →
  Below xs j (SetTable.below.go xs j fuel lo hi)
 | 0,lo,hi,h1,h2,h3,a,b=>by
  have e:lo=hi:=by omega
  subst e
  exact⟨h2,a,b⟩
 | fuel+1,lo,hi,h1,h2,h3,a,b=>by
  unfold SetTable.below.go
  by_cases BK:lo<hi
  ·rw[if_pos BK]
   have hm:(lo+hi) / 2<xs.size:=by omega
   have em:xs.toList[(lo+hi) / 2]? =some (xs[(lo+hi) / 2]):=by simp[hm]
   have ed:xs.getD ((lo+hi) / 2) j=xs[(lo+hi) / 2]:=by simp[hm]
   simp only[ed]
   split
   ·rename_i hv
    refine T5 R fuel _ _ (by omega) h2 (by omega) (λi v hi' e=> ?_) b
    by_cases q:i=(lo+hi) / 2
    ·subst q;rw[em]at e;cases e;exact hv
    ·exact Nat.lt_trans (NL R (show i<(lo+hi) / 2 by omega) e em) hv
   ·rename_i hv
    refine T5 R fuel _ _ (by omega) (by omega) (by omega) a λi v hi' e=> ?_
    by_cases q:i=(lo+hi) / 2
    ·subst q;rw[em]at e;cases e;omega
    ·have:=NL R (show(lo+hi) / 2<i by omega) em e
     omega
  ·rw[if_neg BK]
   have e:lo=hi:=by omega
   subst e
   exact⟨h2,a,b⟩
theorem T6{xs:Array Nat}{j:Nat}(R:IG xs.toList):Below xs j (SetTable.below xs j) :=
 T5 R _ _ _ (Nat.zero_le _) (Nat.le_refl _) (by omega) (λ_ _ h=>absurd h (Nat.not_lt_zero _)) λi v h e=>by
  rw[List.getElem?_eq_none (by simpa using h)]at e;cases e
theorem Below.uniq{xs:Array Nat}{j r r':Nat}(a:Below xs j r)(b:Below xs j r'):r=r':=by
 rcases Nat.lt_trichotomy r r' with h | h | h
 ·have hs:r<xs.size:=Nat.lt_of_lt_of_le h b.le
  have e:xs.toList[r]? =some (xs[r]):=by simp[hs]
  have:=b.lo _ _ h e
  have:=a.hi _ _ (Nat.le_refl _) e
  omega
 ·exact h
 ·have hs:r'<xs.size:=Nat.lt_of_lt_of_le h a.le
  have e:xs.toList[r']? =some (xs[r']):=by simp[hs]
  have:=a.lo _ _ h e
  have:=b.hi _ _ (Nat.le_refl _) e
  omega
def NotIn(t:SetTable)(j:Nat):Prop:=t.place[SetTable.below t.place j]? ≠some j
theorem Ap{t:SetTable}{j:Nat}(h:t.slot j=.empty):NotIn t j:=λe=>by
 unfold SetTable.slot at h
 simp only[e,beq_self_eq_true,if_true]at h
 cases h
theorem Aq{t:SetTable}{j:Nat}(h:t.slot j=.dummy):NotIn t j:=λe=>by
 unfold SetTable.slot at h
 simp only[e,beq_self_eq_true,if_true]at h
 cases h
theorem dZ(t:SetTable)(p:SetTable.Probe):(t.advance p).dummy=p.dummy:=by
 unfold SetTable.advance
 split<;>rfl
theorem T7{t:SetTable}{f:Nat->Int}{h:Int}:∀ (fuel:Nat) (p:SetTable.Probe) (j:Nat) (d:Option Nat),SetTable.probe.go t f h fuel p=some (.empty j d)->(∀ x,p.dummy=some x->NotIn t x)->NotIn t (d.getD j)
 | 0,p,j,d,e,_=>by cases e
 | fuel+1,p,j,d,e,hd=>by
  unfold SetTable.probe.go at e
  split at e
  ·rename_i hs
   cases e
   cases q:p.dummy with
   | none=>exact Ap hs
   | some x=>exact hd x q
  ·rename_i hs
   refine T7 fuel _ j d e λx hx=> ?_
   rw[dZ]at hx
   cases hx
   exact Aq hs
  ·rename_i i hs
   split at e
   ·cases e
   ·exact T7 fuel _ j d e λx hx=>by rw[dZ]at hx;exact hd x hx
theorem Av{t:SetTable}{h:Int}{s:Nat}{b:Bool}(e:t.freeSlot h=some (s,b)):NotIn t s:=by
 unfold SetTable.freeSlot at e
 split at e
 ·rename_i j d hp
  cases e
  refine T7 _ _ _ _ hp λx hx=> ?_
  cases hx
 ·cases e
theorem Aw(n:Nat):IG (Array.range n).toList:=by
 rw[Array.toList_range]
 exact List.pairwise_lt_range
theorem Ax {t:SetTable} {j:Nat} (R:IG t.place.toList) (h:NotIn t j):IG (t.put j).1.place.toList:=by
  have b:=T6 (j:=j) R
  show IG (SetTable.insertAt t.place (SetTable.below t.place j) j).toList
  rw[SetTable.toList_insertAt]
  have hlo:∀ v∈t.place.toList.take (SetTable.below t.place j),v<j:=λv hv=>by
    obtain⟨i,hi,e⟩:=List.getElem_of_mem hv
    have hi':i<SetTable.below t.place j:=by rw[List.length_take]at hi;omega
    refine b.lo i v hi' ?_
    rw[<-e];simp only[List.getElem_take];exact List.getElem?_eq_getElem _
  have hhi:∀ v∈t.place.toList.drop (SetTable.below t.place j),j<v:=λv hv=>by
    obtain⟨i,hi,e⟩:=List.getElem_of_mem hv
    have e2:t.place.toList[SetTable.below t.place j+i]? =some v:=by
      rw[<-List.getElem?_drop,List.getElem?_eq_getElem hi,e]
    have:=b.hi _ _ (Nat.le_add_right _ _) e2
    by_cases q:j=v
    · subst q
      have z:i=0:=by
        by_cases z:i=0
        ·exact z
        · have hl:SetTable.below t.place j<t.place.toList.length:=by
            rw[List.length_drop]at hi;omega
          have e3:=List.getElem?_eq_getElem hl
          have:=NL R (show SetTable.below t.place j<SetTable.below t.place j+i by omega) e3 e2
          have:=b.hi _ _ (Nat.le_refl _) e3
          omega
      subst z
      rw[Nat.add_zero,Array.getElem?_toList]at e2
      exact absurd e2 h
    ·omega
  refine List.pairwise_append.mpr ⟨R.sublist (List.take_sublist ..),List.pairwise_cons.mpr ⟨hhi,R.sublist (List.drop_sublist ..)⟩,λx hx y hy=> ?_⟩
  rcases List.mem_cons.mp hy with rfl | hy
  ·exact hlo x hx
  ·exact Nat.lt_trans (hlo x hx) (hhi y hy)
structure Led(led:Bool)(t:SetTable):Prop where
 rise:IG t.place.toList
 led:t.led=led
theorem Led.standIn{led:Bool}{t:SetTable}(h:t.led=led)(n:Nat):Led led (t.standIn n):=⟨Aw n,h⟩
theorem Led.or{led:Bool}{t:SetTable}(h:Led led t)(n:Nat):Led led (t.orStandIn n):=by
 unfold SetTable.orStandIn
 split
 ·exact h
 ·exact .standIn h.led n
theorem Led.layNew{led:Bool}{t:SetTable}(L:Led led t)(es:Array (Int × Value))(h:Int)(x:Value):Led led (layNew t es h x).2.1:=by
 unfold PySem.layNew
 split
 ·rename_i slot b e
  exact Led.or ⟨Ax L.rise (Av e),L.led⟩ _
 ·exact .standIn L.led _
theorem Ay(owner:Array (Option Nat))(m:Nat):IG (((List.range m).filterMap λj=>(owner.getD j none).map (j,·)).map (·.1)):=by
 rw[List.map_filterMap]
 refine(List.pairwise_lt_range (n:=m)).filterMap _ λa b hab x hx y hy=> ?_
 simp only[Option.mem_def,Option.map_map,Option.map_eq_some_iff,Function.comp_apply]at hx hy
 obtain⟨_,_,rfl⟩:=hx
 obtain⟨_,_,rfl⟩:=hy
 exact hab
theorem Led.relayAll{led:Bool}{t:SetTable}(h:t.led=led)(L:Led led t)(es:Array (Int × Value))(wanted:Nat):Led led (relayAll t es wanted).2.1:=by
 unfold PySem.relayAll
 split
 ·rename_i t' order e
  dsimp only
  split
  ·unfold SetTable.relaid SetTable.laid at e
   simp only[Option.bind_eq_bind,Option.bind_eq_some_iff,Option.pure_def,Option.some.injEq,Prod.mk.injEq]at e
   obtain⟨owner,_,rfl,_⟩:=e
   exact⟨by simpa using Ay owner _,h⟩
  ·exact .standIn h _
 ·exact .standIn h _
theorem Led.plainOff{led:Bool}{t:SetTable}(L:Led led t):Led led { t with plain:=false }:=⟨L.rise,L.led⟩
theorem Led.fresh(led:Bool):Led led (.fresh 0 0 led):=⟨List.Pairwise.nil,rfl⟩
def LY(xs:Array Nat):Nat->Nat
 | 0=>0
 | i+1=>xs.getD i 0+1
theorem Az{xs:Array Nat}(R:IG xs.toList):∀ {i:Nat},i<=xs.size->SetTable.below xs (LY xs i)=i
 | 0,_=>(T6 R).uniq ⟨Nat.zero_le _,λ_ _ h=>absurd h (Nat.not_lt_zero _),λ_ _ _ _=>Nat.zero_le _⟩
 | i+1,hi=>(T6 R).uniq ⟨hi,λk v hk e=>by
   have hi':i<xs.size:=by omega
   have ei:xs.toList[i]? =some xs[i]:=by simp[hi']
   have ed:xs.getD i 0=xs[i]:=by simp[hi']
   show v<xs.getD i 0+1
   rw[ed]
   by_cases q:k=i
   ·subst q;rw[ei]at e;cases e;omega
   ·have:=NL R (show k<i by omega) e ei
    omega,λk v hk e=>by
   have hi':i<xs.size:=by omega
   have ei:xs.toList[i]? =some xs[i]:=by simp[hi']
   have ed:xs.getD i 0=xs[i]:=by simp[hi']
   show xs.getD i 0+1<=v
   rw[ed]
   exact NL R (show i<k by omega) ei e⟩
theorem d0{α :Type}(next:Nat->Nat):∀ (fuel k:Nat) (left:List α) (out:Array α),left.length=fuel->List.Perm (pickOrder.go next fuel k left out).toList (out.toList++left)
 | 0,k,left,out,h=>by
  rw[List.length_eq_zero_iff.mp h]
  unfold pickOrder.go
  simp
 | fuel+1,k,left,out,h=>by
  unfold pickOrder.go
  have hl:next k % left.length<left.length:=Nat.mod_lt _ (by omega)
  rw[List.getElem?_eq_getElem hl]
  dsimp only
  refine(d0 next fuel (k+1) _ _ (by rw[List.length_eraseIdx_of_lt hl];omega)).trans ?_
  rw[Array.toList_push,List.append_assoc]
  refine List.Perm.append_left _ ?_
  rw[List.eraseIdx_eq_take_drop_succ]
  show List.Perm (left[next k % left.length]::(left.take (next k % left.length)++left.drop (next k % left.length+1))) left
  refine List.perm_middle.symm.trans ?_
  rw[<-List.drop_eq_getElem_cons hl,List.take_append_drop]
theorem Bb{α :Type}(next:Nat->Nat)(xs:Array α):List.Perm (pickOrder next xs).toList xs.toList:=by
 have:=d0 next xs.size 0 xs.toList #[] (by simp)
 simpa [pickOrder]using this
end L2
namespace L2
open PySem PyProof.Rows
def K4(w:World):Bool:= !w.params.followText "set-order"
def iv:Value->Int
 | .int n _=>n
 | _=>0
def IntSet(P:Program)(w:World)(h:Heap)(a:Addr)(ms:List Int):Prop :=
 ∃ (o:Obj) (es:Array (Int × Value)) (ep:Nat) (t:SetTable),h.get? a=some o/\o.ExactSet/\o.data=.set es ep t/\ElemsOf (intKind P w) es.toList ∧
  List.Perm (es.toList.map λe=>iv e.2) ms/\es.size<scanBound/\t.fits es.size=true/\Led (K4 w) t
section
variable{P:Program}{w:World}{A:Around}{E:Value->Shared->Prop}{s:Shared}
theorem T8{es:List (Int × Value)}(h:ElemsOf (intKind P w) es){e:Int × Value}(he:e∈es):∃ t,e.2=.int (iv e.2) t:=by
 obtain⟨⟨k,hk,_⟩,_⟩:=h e he
 obtain⟨t,z⟩:=Value.isInt_shape hk
 exact⟨t,by rw[z];rfl⟩
theorem d6{es:List (Int × Value)}(h:ElemsOf (intKind P w) es){e:Int × Value}(he:e∈es){k:Int}:(intKind P w).is k e.2=true↔iv e.2=k:=by
 obtain⟨t,z⟩:=T8 h he
 rw[z]
 refine⟨λq=> ?_,λq=> ?_⟩
 ·have q':Value.isInt k (.int (iv e.2) t)=true:=q
  obtain⟨t',z'⟩:=Value.isInt_shape q'
  cases z';rfl
 ·rw[<-q];exact intKind_is ..
theorem d7{es:List (Int × Value)}{ms:List Int}(h:ElemsOf (intKind P w) es)(p:List.Perm (es.map λe=>iv e.2) ms)(k:Int):k∈ms↔∃ e∈es,(intKind P w).is k e.2=true:=by
 rw[<-p.mem_iff,List.mem_map]
 exact⟨λ⟨e,he,q⟩=>⟨e,he,(d6 h he).mpr q⟩,λ⟨e,he,q⟩=>⟨e,he,(d6 h he).mp q⟩⟩
theorem d8{h:Heap}{a:Addr}{o:Obj}{es es':Array (Int × Value)}{ep:Nat}{t t':SetTable}{ms:List Int}(ho:h.get? a=some o)(hex:o.ExactSet)(hd:o.data=.set es ep t)
  (hel:ElemsOf (intKind P w) es'.toList) (hp:List.Perm (es'.toList.map λe=>iv e.2) ms) (hb:es'.size<scanBound) (hf:t'.fits es'.size=true) (L:Led (K4 w) t') :
  (h.update a (Obj.putSet es' t')).get? a=some { o with data:=.set es' (ep+1) t' }/\IntSet P w (h.update a (Obj.putSet es' t')) a ms:=by
 have g:=(SetOf_store (knd:=intKind P w) (S':=λk=>es'.toList.any λe=>(intKind P w).is k e.2) ho hex hd hel (λk=>by rw[List.any_eq_true]) hb hf).1
 exact⟨g,_,es',ep+1,t',g,hex,rfl,hel,hp,hb,hf,L⟩
theorem d9{g:Bool->Sem Unit}(hg:∀ (b:Bool) (s1:Shared) (R:Unit->Shared->Prop),R () s1->wpAny (model P w) A (g b) R E s1){a:Addr}{o:Obj}{es e1:Array (Int × Value)}{ep:Nat}{t t1:SetTable}{ms:List Int}{wd:Bool}
  (ho:s.heap.get? a=some o) (hex:o.ExactSet) (hd:o.data=.set es ep t) (hel:ElemsOf (intKind P w) e1.toList) (hp:List.Perm (e1.toList.map λe=>iv e.2) ms) (hb:e1.size<scanBound) (hf:t1.fits e1.size=true) (L:Led (K4 w) t1)
  {R:Option Bool->Shared->Prop} (h:∀ h',Heap.SameBut a s.heap h'->IntSet P w h' a ms->R (some true) { s with heap:=h' }) :
  wpAny (model P w) A (do
   storeSet a e1 t1
   if(!wd && t1.tooFull)=true then do
    g (relayAll t1 e1 (SetTable.grown e1.size)).2.2
    storeSet a (relayAll t1 e1 (SetTable.grown e1.size)).1 (relayAll t1 e1 (SetTable.grown e1.size)).2.1
    pure (some true)
   else pure (some true)) R E s:=by
 refine wpAny_bind (wpAny_storeSet_of ho hd ?_ (fits_of_scanBound hb))
 obtain⟨g1,S1⟩:=d8 ho hex hd hel hp hb hf L
 have sb1:=Heap.SameBut.update s.heap a (Obj.putSet e1 t1)
 split
 ·have p2:=relayAll_perm t1 e1 (SetTable.grown e1.size)
  have f2:=relayAll_fits t1 e1 (SetTable.grown e1.size)
  have L2:=Led.relayAll L.led L e1 (SetTable.grown e1.size)
  revert p2 f2 L2
  generalize relayAll t1 e1 (SetTable.grown e1.size)=r
  obtain⟨e2,t2,gv⟩:=r
  intro p2 f2 L2
  dsimp only at p2 f2 L2 ⊢
  have z2:e2.size=e1.size:=by rw[<-Array.length_toList,p2.length_eq,Array.length_toList]
  have b2:e2.size<scanBound:=z2 ▸ hb
  refine wpAny_bind (hg _ _ _ ?_)
  refine wpAny_bind (wpAny_storeSet_of g1 rfl ?_ (fits_of_scanBound b2))
  obtain⟨_,S2⟩:=d8 (P:=P) (w:=w) g1 hex rfl (hel.perm p2) ((p2.map _).trans hp) b2 f2 L2
  exact wpAny_pure (h _ (sb1.trans (Heap.SameBut.update ..)) S2)
 ·exact wpAny_pure (h _ sb1 S1)
theorem eA{ms:List Int}{k:Int}(h:k∈ms):step_dedup ms k=ms:=by
 unfold step_dedup
 have e:(ms.any λx=>x == k)=true:=List.any_eq_true.mpr ⟨k,h,beq_self_eq_true k⟩
 rw[if_pos e]
theorem eB{ms:List Int}{k:Int}(h:¬ k∈ms):step_dedup ms k=ms++[k]:=by
 unfold step_dedup
 rw[if_neg λz=> ?_]
 obtain⟨x,hx,q⟩:=List.any_eq_true.mp z
 rw[beq_iff_eq]at q
 exact h (q ▸ hx)
theorem Bc{a:Addr}{ms:List Int}{k:Int}{tk:Tok}{Q:Bool->Shared->Prop}(hS:IntSet P w s.heap a ms)(hr:ms.length+1<scanBound)
    (h:∀ (b:Bool) h',Heap.SameBut a s.heap h'->IntSet P w h' a (step_dedup ms k)->Q b { s with heap:=h' }):wpAny (model P w) A (setAddHashed a (.int k tk) ((intKind P w).hash k)) Q E s:=by
  have hk:(intKind P w).is k (.int k tk)=true:=intKind_is ..
  have hsc:(Value.int k tk).scannable=true:=rfl
  generalize Value.int k tk=x at hk hsc
  obtain⟨o,es,ep,t,ho,hex,hd,hel,hp,hb,hf,L⟩:=hS
  have BU:es.size=ms.length:=by rw[<-hp.length_eq,List.length_map,Array.length_toList]
  have hivx:iv x=k:=by obtain⟨_,z⟩:=Value.isInt_shape hk;rw[z];rfl
  unfold setAddHashed setAddHashedIn
  refine wpAny_holding (wpAny_bind (wpAny_setState_of ho hd hf ?_))
  dsimp only
  rw[byScan_of hsc hb hel,if_pos rfl]
  unfold setAddByScan
  refine wpAny_bind (wpAny_bind (wpAny_rule (wpAny_bind (wpAny_setScan_of hk ho hd hf hel ?_))))
  cases hx:es.toList.findIdx? (λe=>(intKind P w).is k e.2)with
  | some j =>
    dsimp only
    obtain⟨hj,pj,_⟩:=List.findIdx?_eq_some_iff_getElem.mp hx
    have hm:k∈ms:=(d7 hel hp k).mpr ⟨_,List.getElem_mem hj,pj⟩
    refine wpAny_pure (wpAny_pure ?_)
    have:=h false s.heap (Heap.SameBut.refl a s.heap) ⟨o,es,ep,t,ho,hex,hd,hel,by rw[eA hm];exact hp,hb,hf,L⟩
    exact this
  | none =>
    dsimp only
    have hm:¬ k∈ms:=λz=>by
      obtain⟨e,he,q⟩:=(d7 hel hp k).mp z
      have:=List.findIdx?_eq_none_iff.mp hx e he
      rw[q]at this;cases this
    have p1:=layNew_perm t es ((intKind P w).hash k) x
    have f1:=layNew_fits t es ((intKind P w).hash k) x
    have L1:=L.layNew es ((intKind P w).hash k) x
    revert p1 f1 L1
    generalize layNew t es ((intKind P w).hash k) x=r
    obtain⟨e1,t1,wd,gv⟩:=r
    intro p1 f1 L1
    dsimp only at p1 f1 L1 ⊢
    rw[Array.toList_push]at p1
    have hel1:ElemsOf (intKind P w) e1.toList:=(hel.push hk hsc).perm p1
    have RY:List.Perm (e1.toList.map λe=>iv e.2) (step_dedup ms k):=by
      rw[eB hm]
      refine(p1.map _).trans ?_
      rw[List.map_append,List.map_cons,List.map_nil,hivx]
      exact List.Perm.append_right _ hp
    have hb1:e1.size<scanBound:=by
      rw[<-Array.length_toList,p1.length_eq,List.length_append,Array.length_toList,BU]
      exact hr
    have gw:∀ (b:Bool) (s1:Shared) (R:Unit->Shared->Prop),R () s1 →
        wpAny (model P w) A (match b with
          | true=>rule "set.scan.the-table-gave-way"
          | false=>pure ()) R E s1:=λb s1 R q=>by
      cases b
      ·exact wpAny_pure q
      ·exact wpAny_rule q
    refine wpAny_bind (gw _ _ _ ?_)
    split
    · refine wpAny_bind ?_
      rw[hashByValue_scannable 8 hsc]
      refine wpAny_pure (d9 ?_ ho hex hd hel1 RY hb1 ?_ ?_ λh' sb S'=> ?_)
      · intro b s1 R q
        cases b
        ·exact wpAny_pure q
        ·exact wpAny_rule q
      · split
        ·exact f1
        ·exact SetTable.fits_plain_off f1
      · split
        ·exact L1
        ·exact L1.plainOff
      ·dsimp only;exact wpAny_pure (h _ h' sb S')
    · refine wpAny_bind (wpAny_pure ?_)
      rw[if_pos rfl]
      refine d9 ?_ ho hex hd hel1 RY hb1 f1 L1 λh' sb S'=> ?_
      · intro b s1 R q
        cases b
        ·exact wpAny_pure q
        ·exact wpAny_rule q
      ·dsimp only;exact wpAny_pure (h _ h' sb S')
theorem IntSet.at{h h':Heap}{a:Addr}{ms:List Int}(x:IntSet P w h a ms)(k:∀ o,h.get? a=some o->h'.get? a=some o):IntSet P w h' a ms:=by
 obtain⟨o,es,ep,t,ho,r⟩:=x
 exact⟨o,es,ep,t,k _ ho,r⟩
end
section
variable{P:Program}{w:World}{A:Around}{R:Result->Shared->Prop}{I:Addr}{fp wr:List Addr}{G:Array GenState->Array GenState->Prop}{n:Nat}{T:Nat->Value->Prop}{St:Nat->Shared->Prop}
theorem Bd(W:WalksS P w A.in1 I fp wr G n T St)(a:Addr)(ha:a∉fp)(val:Nat->Int)(hv:∀ i v,T i v->∃ t,v=.int (val i) t)(hb:n+1<scanBound):∀ (k i:Nat) (s:Shared),n - i=k->i<=n->St i s →
  IntSet P w s.heap a (firstMet val i)->(∀ s',Moved (a::wr) G s s'->IntSet P w s'.heap a (firstMet val n)->R (.ok (.ret .none)) s') →
  codeAny (model P w) A (.builtin "set.update.loop" ⟨[.ref a,.ref I],[]⟩) R s:=by
 have haw:a∉wr:=λz=>ha (W.sub _ z)
 have up:∀ b∈wr,b∈a::wr:=λb q=>List.mem_cons_of_mem _ q
 intro k
 induction k with
 | zero =>
  intro i s e1 e2 st S q
  obtain rfl:i=n:=by omega
  refine codeAny_builtin PyProof.Rows.F.entry_set_update_loop ?_
  rw[Around.under_plainId PyProof.Rows.F.plain_set_update_loop _]
  show wpAny _ A.in1 (pyNext (.ref I) >>= _) _ _ s
  refine wpAny_bind (W.done s _ _ st λs' m=> ?_)
  show wpAny _ A.in1 (ret Value.none) _ _ s'
  exact wpAny_pure (q s' (m.mono up) (S.at λo e=>m.heap a o haw e))
 | succ k ih =>
  intro i s e1 e2 st S q
  have hi:i<n:=by omega
  refine codeAny_builtin PyProof.Rows.F.entry_set_update_loop ?_
  rw[Around.under_plainId PyProof.Rows.F.plain_set_update_loop _]
  show wpAny _ A.in1 (pyNext (.ref I) >>= _) _ _ s
  refine wpAny_bind (W.item i s _ _ hi st λv s1 tv st1 m=> ?_)
  obtain⟨t,rfl⟩:=hv i v tv
  have S1:=S.at λo e=>m.heap a o haw e
  show wpAny _ A.in1 (holding [Value.int (val i) t] (setAdd a (.int (val i) t)) >>= _) _ _ s1
  refine wpAny_bind (wpAny_holding ?_)
  unfold setAdd
  refine wpAny_holding (wpAny_bind ((intKind P w).pyHash (k:=val i) (intKind_is ..) ?_))
  refine Bc (s:={ s1 with toks:=s1.toks+1 }) S1 (by have:=firstMet_length_le val i;omega) λb h' sb S2=> ?_
  rw[<-firstMet_succ]at S2
  refine wpAny_pure ⟨plainId_quiet PyProof.Rows.F.plain_set_update_loop _,ih (i+1) _ (by omega) hi (W.frame _ s1 _ _ st1 (Nat.le_succ _) λb hb o e=> ?_) S2 λs2 m2 S3=> ?_⟩
  ·rw[sb.2 b λz:b=a=>ha (z ▸ hb)];exact e
  ·refine q s2 (Moved.trans W.gtrans ((m.mono up).then_heap (Nat.le_succ _) λb o hb e=> ?_) m2) S3
   rw[sb.2 b λz:b=a=>hb (z ▸ List.mem_cons_self)];exact e
end
section
variable{P:Program}{w:World}{A:Around}{E:Value->Shared->Prop}{s:Shared}
theorem Bg{x:Value}{Q:Value->Shared->Prop}(h:Q (.ref s.heap.objs.size) { s with heap:=s.heap.push { cls:=.type "set",dict:=none,data:=.set #[] 0 (.fresh 0 0 (K4 w)) } }) :
  codeAny (model P w) A (.call (.builtin "set.__new__") ⟨[.type "set",x],[]⟩) (wants Q E) s:=by
 refine codeAny_of_tree ?_
 show wpAny _ A.in1 (checkBuiltinCall "set.__new__" ⟨[.type "set",x],[]⟩ >>= λ_=>again (.builtin "set.__new__" ⟨[.type "set",x],[]⟩)) _ _ s
 refine wpAny_bind (wpAny_of_eq (PySem.F.newCall_set_1 x) (wpAny_pure ⟨plainId_quiet PySem.F.plain_set_new _,codeAny_builtin PySem.F.entry_set_new ?_⟩))
 rw[Around.under_plainId PySem.F.plain_set_new _]
 unfold Builtin.«set.__new__» Builtin.Frozenset.newClass
 have e:=sub_set_self
 obtain⟨hp,g,d,tk,os⟩:=s
 dsimp only
 wp_walk
 refine wpAny_askSetting (wpAny_pure ?_)
 dsimp only
 simp only[newObj]
 exact wpAny_bind (wpAny_alloc (wpAny_pure (wpAny_pure h)))
end
end L2
namespace L2
open PySem PyProof.Rows
abbrev HJ(f:Value)(i:Nat)(a:Addr)(n ep:Nat):Obj:={ cls:=.type "set_iterator",dict:=none,data:=.fields #[f,rawInt i,.ref a,rawInt n,rawInt ep],slots:= #[] }
theorem HK:Slot "set_iterator" "__next__" "set_iterator.__next__" :=
 .of (owner:="set_iterator") (n:="__next__") (by rw[typeLookup_type,builtinLookup_eq_fast];kernel_rfl) (by decide +kernel) (by decide +kernel) (by decide +kernel)
  (by first | exact .inl (by decide +kernel) | exact .inr (by decide +kernel))
  (by rw[isSubtype_type];kernel_rfl)
theorem O9:entryFor table "set_iterator.__next__"=some Builtin.«set_iterator.__next__» :=entryFor_of_fast (by kernel_rfl)
theorem PB(a:Value):argsOk "set_iterator.__next__" ⟨[a],[]⟩:=by
 unfold argsOk
 kernel_rfl
theorem eC:Slot "set_iterator" "__iter__" "set_iterator.__iter__" :=
 .of (owner:="set_iterator") (n:="__iter__") (by rw[typeLookup_type,builtinLookup_eq_fast];kernel_rfl) (by decide +kernel) (by decide +kernel) (by decide +kernel)
  (by first | exact .inl (by decide +kernel) | exact .inr (by decide +kernel))
  (by rw[isSubtype_type];kernel_rfl)
section
variable{P:Program}{w:World}{A:Around}{E:Value->Shared->Prop}{s:Shared}
theorem Bh{it a:Addr}{sl i n ep nx:Nat}{x:Value}{o:Obj}{es:Array (Int × Value)}{ep':Nat}{t:SetTable}{Q:Option Value->Shared->Prop}(hit:s.heap.get? it=some (HJ (rawInt sl) i a n ep))
  (ho:s.heap.get? a=some o) (hd:o.data=.set es ep' t) (hf:t.fits es.size=true) (hn:es.size=n)
  (hs:∀ (A':Around) (E':Value->Shared->Prop) (Q':Option (Value × Nat)->Shared->Prop),Q' (some (x,nx)) s->wpAny (model P w) A' (setNext a sl i ep) Q' E' s)
  (q:∀ h',h'.get? it=some (HJ (rawInt nx) (i+1) a n ep)->Heap.SameBut it s.heap h'->Q (some x) { s with heap:=h' }):wpAny (model P w) A (pyNext (.ref it)) Q E s:=by
 have T:s.TypeIs (.ref it) "set_iterator":=⟨_,hit,rfl⟩
 unfold pyNext
 refine wpAny_bind (wpAny_attempt (wpAny_callSpecial?_slot (name:=Str.ofString "__next__") T HK (wpAny_call_entry HK T O9 ?_ (PB _))))
 unfold Builtin.«set_iterator.__next__»
 refine wpAny_bind (wpAny_pure ?_)
 refine wpAny_bind (wpAny_fieldsOf hit rfl ?_)
 show wpAny _ _ (setEntries a >>= _) _ _ s
 refine wpAny_bind (wpAny_setEntries_of ho hd hf ?_)
 rw[if_neg (by rw[hn];simp)]
 show wpAny _ _ (setNext a (sl:Int).toNat (i:Int).toNat (ep:Int).toNat >>= _) _ _ s
 rw[Int.toNat_natCast,Int.toNat_natCast,Int.toNat_natCast]
 refine wpAny_bind (hs _ _ _ ?_)
 dsimp only
 refine wpAny_bind (wpAny_setField_rec hit (by simp) λh1 g1 b1=> ?_)
 refine wpAny_bind (wpAny_setField_rec g1 (by simp) λh2 g2 b2=> ?_)
 exact wpAny_pure ⟨_,rfl,wpAny_pure (q h2 g2 (b1.trans b2))⟩
theorem eD{it:Addr}{h1:Heap}{Q:Except Value (Option Value)->Shared->Prop}(hh:A.handled=none)(hx:Heap.ExtBut it s.heap h1)
  (q:∀ h' e,Heap.ExtBut it s.heap h'->({ s with heap:=h' }:Shared).TypeIs e "StopIteration"->Q (.error e) { s with heap:=h' }) :
  wpAny (model P w) A (newExc (.type "StopIteration") [] >>= raiseNew (α :=Fin)) (λ_ _=>False) (λe=>Q (.error e)) { s with heap:=h1 }:=by
 refine wpAny_bind ?_
 simp only[newExc,newTuple]
 refine wpAny_bind (wpAny_newObj_type ?_ (by size_fits))
 refine wpAny_bind (m:=firstArgMember _ _) (wpAny_of_eq (a:=Value.none) (by first | rfl | (simp only[firstArgMember];rfl)) ?_)
 refine wpAny_newObj_type ?_ (by size_fits)
 simp only[raiseNew]
 refine wpAny_bind (wpAny_handled ?_)
 rw[hh]
 refine wpAny_bind (wpAny_pure (wpAny_throw ?_))
 exact q _ _ ((hx.push _).push _) ⟨_,Heap.get?_push_size _ rfl,rfl⟩
theorem Bj{it a:Addr}{sl i n ep:Nat}{o:Obj}{es:Array (Int × Value)}{ep':Nat}{t:SetTable}{Q:Option Value->Shared->Prop}(hh:A.handled=none)(hit:s.heap.get? it=some (HJ (rawInt sl) i a n ep))
  (ho:s.heap.get? a=some o) (hd:o.data=.set es ep' t) (hf:t.fits es.size=true) (hn:es.size=n)
  (hs:∀ (A':Around) (E':Value->Shared->Prop) (Q':Option (Value × Nat)->Shared->Prop),Q' none s->wpAny (model P w) A' (setNext a sl i ep) Q' E' s)
  (q:∀ h',Heap.ExtBut it s.heap h'->Q none { s with heap:=h' }):wpAny (model P w) A (pyNext (.ref it)) Q E s:=by
 have T:s.TypeIs (.ref it) "set_iterator":=⟨_,hit,rfl⟩
 unfold pyNext
 refine wpAny_bind (wpAny_attempt (wpAny_callSpecial?_slot (name:=Str.ofString "__next__") T HK (wpAny_call_entry HK T O9 ?_ (PB _))))
 unfold Builtin.«set_iterator.__next__»
 refine wpAny_bind (wpAny_pure ?_)
 refine wpAny_bind (wpAny_fieldsOf hit rfl ?_)
 show wpAny _ _ (setEntries a >>= _) _ _ s
 refine wpAny_bind (wpAny_setEntries_of ho hd hf ?_)
 rw[if_neg (by rw[hn];simp)]
 show wpAny _ _ (setNext a (sl:Int).toNat (i:Int).toNat (ep:Int).toNat >>= _) _ _ s
 rw[Int.toNat_natCast,Int.toNat_natCast,Int.toNat_natCast]
 refine wpAny_bind (hs _ _ _ ?_)
 dsimp only
 refine wpAny_bind (wpAny_setField_rec hit (by simp) λh1 g1 b1=> ?_)
 refine wpAny_mono (eD (s:=s) (it:=it) (A:=A.in1) (Q:=λr s'=>match r with
  | .error e=>wpAny (model P w) A (isInstance e (.type "StopIteration") >>= λb=>if b=true then pure none else throw e) Q E s'
  | _=>False) (by simpa using hh) b1.extBut λh' e hx te=> ?_) (λ_ _ z=>z.elim) (λe s' z=>z)
 refine wpAny_bind (wpAny_isInstance (T:="StopIteration") (b:=true) te isSubtype_stop ?_)
 exact wpAny_pure (q _ hx)
theorem Bk{it a tp:Addr}{i n ep pl:Nat}{ot:Obj}{ps:Array Value}{k:Nat}{x:Int × Value}{o:Obj}{es:Array (Int × Value)}{t:SetTable}{Q:Option Value->Shared->Prop}(hit:s.heap.get? it=some (HJ (.ref tp) i a n ep))
  (ho:s.heap.get? a=some o) (hd:o.data=.set es ep t) (hf:t.fits es.size=true) (hn:es.size=n) (ht:s.heap.get? tp=some ot) (hdt:ot.data=.seq ps k) (hp:ps[i]? =some (rawInt pl)) (hx:es[pl]? =some x)
  (q:∀ h',h'.get? it=some (HJ (.ref tp) (i+1) a n ep)->Heap.SameBut it s.heap h'->Q (some x.2) { s with heap:=h' }):wpAny (model P w) A (pyNext (.ref it)) Q E s:=by
 have T:s.TypeIs (.ref it) "set_iterator":=⟨_,hit,rfl⟩
 unfold pyNext
 refine wpAny_bind (wpAny_attempt (wpAny_callSpecial?_slot (name:=Str.ofString "__next__") T HK (wpAny_call_entry HK T O9 ?_ (PB _))))
 unfold Builtin.«set_iterator.__next__»
 refine wpAny_bind (wpAny_pure ?_)
 refine wpAny_bind (wpAny_fieldsOf hit rfl ?_)
 show wpAny _ _ (setEntries a >>= _) _ _ s
 refine wpAny_bind (wpAny_setEntries_of ho hd hf ?_)
 rw[if_neg (by rw[hn];simp)]
 show wpAny _ _ (seqItems? (.ref tp) >>= _) _ _ s
 refine wpAny_bind (wpAny_seqItems ht hdt ?_)
 dsimp only
 rw[Int.toNat_natCast,hp]
 show wpAny _ _ (setNextDrawn a (pl:Int).toNat (ep:Int).toNat >>= _) _ _ s
 rw[Int.toNat_natCast,Int.toNat_natCast]
 unfold setNextDrawn
 refine wpAny_bind (wpAny_bind (wpAny_setState_of ho hd hf ?_))
 dsimp only
 rw[if_neg (by simp)]
 obtain⟨x1,x2⟩:=x
 rw[hx]
 refine wpAny_pure ?_
 refine wpAny_bind (wpAny_setField_rec hit (by simp) λh2 g2 b2=> ?_)
 exact wpAny_pure ⟨_,rfl,wpAny_pure (q h2 g2 b2)⟩
theorem Bl{it a tp:Addr}{i n ep:Nat}{ot:Obj}{ps:Array Value}{k:Nat}{o:Obj}{es:Array (Int × Value)}{t:SetTable}{Q:Option Value->Shared->Prop}(hh:A.handled=none)(hit:s.heap.get? it=some (HJ (.ref tp) i a n ep))
  (ho:s.heap.get? a=some o) (hd:o.data=.set es ep t) (hf:t.fits es.size=true) (hn:es.size=n) (ht:s.heap.get? tp=some ot) (hdt:ot.data=.seq ps k) (hp:ps[i]? =none)
  (q:∀ h',Heap.ExtBut it s.heap h'->Q none { s with heap:=h' }):wpAny (model P w) A (pyNext (.ref it)) Q E s:=by
 have T:s.TypeIs (.ref it) "set_iterator":=⟨_,hit,rfl⟩
 unfold pyNext
 refine wpAny_bind (wpAny_attempt (wpAny_callSpecial?_slot (name:=Str.ofString "__next__") T HK (wpAny_call_entry HK T O9 ?_ (PB _))))
 unfold Builtin.«set_iterator.__next__»
 refine wpAny_bind (wpAny_pure ?_)
 refine wpAny_bind (wpAny_fieldsOf hit rfl ?_)
 show wpAny _ _ (setEntries a >>= _) _ _ s
 refine wpAny_bind (wpAny_setEntries_of ho hd hf ?_)
 rw[if_neg (by rw[hn];simp)]
 show wpAny _ _ (seqItems? (.ref tp) >>= _) _ _ s
 refine wpAny_bind (wpAny_seqItems ht hdt ?_)
 dsimp only
 rw[Int.toNat_natCast,hp]
 dsimp only
 refine wpAny_bind (wpAny_setField_rec hit (by simp) λh1 g1 b1=> ?_)
 refine wpAny_bind (wpAny_setField_rec g1 (by simp) λh2 g2 b2=> ?_)
 refine wpAny_mono (eD (s:=s) (it:=it) (A:=A.in1) (Q:=λr s'=>match r with
  | .error e=>wpAny (model P w) A (isInstance e (.type "StopIteration") >>= λb=>if b=true then pure none else throw e) Q E s'
  | _=>False) (by simpa using hh) (b1.trans b2).extBut λh' e hx te=> ?_) (λ_ _ z=>z.elim) (λe s' z=>z)
 refine wpAny_bind (wpAny_isInstance (T:="StopIteration") (b:=true) te isSubtype_stop ?_)
 exact wpAny_pure (q _ hx)
theorem Bm{a:Addr}{o:Obj}{es:Array (Int × Value)}{ep:Nat}{t:SetTable}{i:Nat}{Q:Option (Value × Nat)->Shared->Prop}(ft:w.params.followText "set-order"=true)(ho:s.heap.get? a=some o)(hd:o.data=.set es ep t)(hf:t.fits es.size=true)
  (q:Q (((pickOrder (w.params.setOrder a ep) es)[i]?).map λe=>(e.2,0)) s):wpAny (model P w) A (setNext a 0 i ep) Q E s:=by
 unfold setNext
 refine wpAny_bind (wpAny_setState_of ho hd hf ?_)
 dsimp only
 refine wpAny_bind ?_
 unfold setsByText
 refine wpAny_bind (wpAny_askSetting (wpAny_pure ?_))
 show wpAny _ _ (if w.params.followText "set-order"=true then _ else _) _ _ s
 rw[if_pos ft,if_neg (by simp)]
 refine wpAny_bind ?_
 unfold setWalk
 refine wpAny_bind (wpAny_setState_of ho hd hf ?_)
 dsimp only
 refine wpAny_bind ?_
 unfold setsByText
 refine wpAny_bind (wpAny_askSetting (wpAny_pure ?_))
 show wpAny _ _ (if w.params.followText "set-order"=true then _ else _) _ _ s
 rw[if_pos ft]
 refine wpAny_bind (wpAny_askSetting (wpAny_pure ?_))
 exact wpAny_pure q
theorem Bp{a:Addr}{o:Obj}{es:Array (Int × Value)}{ep:Nat}{t:SetTable}{i:Nat}{Q:Option (Value × Nat)->Shared->Prop}(ft:w.params.followText "set-order"=false)(ho:s.heap.get? a=some o)(hd:o.data=.set es ep t)(hf:t.fits es.size=true)
  (L:Led (K4 w) t) (pl:(!t.plain && decide (es.size > 1))=false) (hi:i<=es.size) (q:Q ((es[i]?).map λe=>(e.2,LY t.place (i+1))) s):wpAny (model P w) A (setNext a (LY t.place i) i ep) Q E s:=by
 have hz:t.place.size=es.size:=by
  unfold SetTable.fits at hf
  simp only[Bool.and_eq_true,beq_iff_eq]at hf
  exact hf.1
 unfold setNext
 refine wpAny_bind (wpAny_setState_of ho hd hf ?_)
 dsimp only
 refine wpAny_bind ?_
 unfold setsByText
 refine wpAny_bind (wpAny_askSetting (wpAny_pure ?_))
 show wpAny _ _ (if w.params.followText "set-order"=true then _ else _) _ _ s
 rw[if_neg (show ¬ w.params.followText "set-order"=true by rw[ft];exact Bool.false_ne_true)]
 have ld:t.led=true:=by rw[L.led];unfold K4;rw[ft];rfl
 show wpAny _ _ (if(!t.plain && decide (es.size > 1))=true then _ else _) _ _ s
 rw[if_neg (by rw[pl];exact Bool.false_ne_true)]
 refine wpAny_bind (m:=if(!t.led && !es.isEmpty)=true then _ else _) ?_
 rw[if_neg (by rw[ld];simp)]
 refine wpAny_pure (wpAny_pure ?_)
 rw[Az L.rise (by omega)]
 by_cases BK:i<es.size
 ·have h2:i<t.place.size:=by omega
  rw[Array.getElem?_eq_getElem BK,Array.getElem?_eq_getElem h2]
  rw[Array.getElem?_eq_getElem BK]at q
  have:LY t.place (i+1)=t.place[i]+1:=by simp[LY,h2]
  rw[Option.map_some,this]at q
  exact q
 ·rw[Array.getElem?_eq_none (by omega)]
  rw[Array.getElem?_eq_none (by omega),Option.map_none]at q
  exact q
end
end L2
namespace L2
open PySem PyProof.Rows
theorem Bq:entryFor table "set.__iter__"=some Builtin.«frozenset.__iter__» :=entryFor_alias (id':="frozenset.__iter__") (by kernel_rfl) rfl (by decide +kernel) (by kernel_rfl)
theorem Bv:entryFor table "set_iterator.__iter__"=some Builtin.«dict_keyiterator.__iter__» :=entryFor_alias (id':="dict_keyiterator.__iter__") (by kernel_rfl) rfl (by decide +kernel) (by kernel_rfl)
theorem Bw(a:Value):argsOk "set_iterator.__iter__" ⟨[a],[]⟩:=by
 unfold argsOk
 kernel_rfl
structure T9(P:Program)(w:World)(A:Around)(h h1:Heap)(a I:Addr)(ms:List Int):Prop where
 ex:∃ (fp:List Addr) (ord:List Value) (ks:List Int) (St:Nat->Heap->Prop),(∀ b∈fp,b=a\/h.objs.size<=b)/\Walks P w A I fp [I] ord.length (λi v=>ord[i]? =some v) St/\St 0 h1/\IntsAre ord ks/\ks.Perm ms
 new:h.objs.size<=I
section
variable{P:Program}{w:World}{A:Around}{E:Value->Shared->Prop}{s:Shared}
theorem UA:∀ {es:List (Int × Value)},ElemsOf (intKind P w) es->IntsAre (es.map (·.2)) (es.map λe=>iv e.2)
 | [],_=>.nil
 | e::r,h=>by
  obtain⟨t,z⟩:=T8 h (List.mem_cons_self ..)
  have:=UA h.tail
  rw[List.map_cons,List.map_cons,z]
  exact .cons _ _ this
theorem eE{it:Addr}{f:Value}{i:Nat}{a:Addr}{n ep:Nat}{Q:Value->Shared->Prop}(hit:s.heap.get? it=some (HJ f i a n ep))(q:Q (.ref it) s):wpAny (model P w) A (pyIter (.ref it)) Q E s:=by
 have T:s.TypeIs (.ref it) "set_iterator":=⟨_,hit,rfl⟩
 refine wpAny_pyIter_slot T eC (wpAny_call_entry eC T Bv ?_ (Bw _))
 show wpAny _ _ (ret (.ref it)) _ _ s
 exact wpAny_pure ⟨_,rfl,"set_iterator",_,T,HK.lookup,q⟩
theorem Bx{a I:Addr}{es:Array (Int × Value)}{ep:Nat}{t:SetTable}{o:Obj}{f:Nat->Nat}{ord:List Value}(hh:A.handled=none)(hne:a≠I)(hd:o.data=.set es ep t)(hf:t.fits es.size=true)(hl:ord.length=es.size)
  (nx:∀ (s:Shared),s.heap.get? a=some o->∀ (i:Nat),i<=es.size->∀ (A':Around) (E':Value->Shared->Prop) (Q':Option (Value × Nat)->Shared->Prop),Q' ((ord[i]?).map λv=>(v,f (i+1))) s->wpAny (model P w) A' (setNext a (f i) i ep) Q' E' s) :
  Walks P w A I [I,a] [I] ord.length (λi v=>ord[i]? =some v) (λi h=>h.get? I=some (HJ (rawInt (f i)) i a es.size ep)/\h.get? a=some o) where
 sub:=λb hb=>by simp at hb;simp[hb]
 frame:=λ_ _ _ st k=>⟨k I (by simp) _ st.1,k a (by simp) _ st.2⟩
 item:=λi s Q E hi st q=>by
  have e:ord[i]? =some ord[i]:=List.getElem?_eq_getElem hi
  refine Bh st.1 st.2 hd hf rfl (λA' E' Q' q'=>nx s st.2 i (by omega) A' E' Q' (by rw[e];exact q')) λh' g b=> ?_
  exact q _ h' s.toks e ⟨g,b.extBut a _ hne st.2⟩ λc u hc z=>b.extBut c u (λy=>hc (by simp[y])) z
 done:=λs Q E st q=>by
  refine Bj hh st.1 st.2 hd hf rfl (λA' E' Q' q'=>nx s st.2 ord.length (by omega) A' E' Q' (by rw[List.getElem?_eq_none (Nat.le_refl _)];exact q')) λh' x=> ?_
  exact q h' s.toks λc u hc z=>x c u (λy=>hc (by simp[y])) z
 self:=λ_ _ _ _ st q=>eE st.1 q
theorem By{a I tp:Addr}{es:Array (Int × Value)}{ep k:Nat}{t:SetTable}{o ot:Obj}{pl:List Nat}{ord:List Value}(hh:A.handled=none)(hne:a≠I)(hnt:tp≠I)(hd:o.data=.set es ep t)(hf:t.fits es.size=true)
  (hdt:ot.data=.seq (pl.map λ(i:Nat)=>rawInt i).toArray k) (hl:ord.length=pl.length) (hx:∀ (i p:Nat),pl[i]? =some p->∃ e:Int × Value,es[p]? =some e/\ord[i]? =some e.2) :
  Walks P w A I [I,a,tp] [I] ord.length (λi v=>ord[i]? =some v) (λi h=>h.get? I=some (HJ (.ref tp) i a es.size ep)/\h.get? a=some o/\h.get? tp=some ot) where
 sub:=λb hb=>by simp at hb;simp[hb]
 frame:=λ_ _ _ st k=>⟨k I (by simp) _ st.1,k a (by simp) _ st.2.1,k tp (by simp) _ st.2.2⟩
 item:=λi s Q E hi st q=>by
  have hi':i<pl.length:=by omega
  have e:=List.getElem?_eq_getElem hi'
  obtain⟨x,e1,e2⟩:=hx i _ e
  refine Bk st.1 st.2.1 hd hf rfl st.2.2 hdt (by rw[List.getElem?_toArray,List.getElem?_map,e];rfl) e1 λh' g b=> ?_
  exact q _ h' s.toks e2 ⟨g,b.extBut a _ hne st.2.1,b.extBut tp _ hnt st.2.2⟩ λc u hc z=>b.extBut c u (λy=>hc (by simp[y])) z
 done:=λs Q E st q=>by
  refine Bl hh st.1 st.2.1 hd hf rfl st.2.2 hdt (by rw[List.getElem?_toArray,List.getElem?_map,List.getElem?_eq_none (by omega)];rfl) λh' x=> ?_
  exact q h' s.toks λc u hc z=>x c u (λy=>hc (by simp[y])) z
 self:=λ_ _ _ _ st q=>eE st.1 q
theorem Bz{n:Nat}{Q:Nat->Shared->Prop}(hn:n≠0)(q:∀ i d,i<n->Q i { s with drawn:=d }):wpAny (model P w) A (choose .order n) Q E s:=fun Γ p hΓ =>by
 show Sem.wp _ _ (.choose .order n .pure) _ _ _ _
 rw[Sem.wp_choose]
 refine⟨hn,?_⟩
 show Sem.wp _ _ (.pure _) _ _ _ _
 rw[Sem.wp]
 exact q _ _ (Nat.mod_lt _ (Nat.pos_of_ne_zero hn))
theorem eF{α :Type}:∀ (n:Nat) (xs:List α) (s:Shared) (Q:List α ->Shared->Prop),xs.length=n->(∀ ys d,List.Perm ys xs->Q ys { s with drawn:=d })->wpAny (model P w) A (drawOrder n xs) Q E s
 | 0,xs,s,Q,hn,q=>by
  have:xs=[]:=List.length_eq_zero_iff.mp hn
  subst this
  unfold drawOrder
  exact wpAny_pure (q [] s.drawn .nil)
 | n+1,[],s,Q,hn,q=>by cases hn
 | n+1,x::r,s,Q,hn,q=>by
  unfold drawOrder
  refine wpAny_bind (Bz (by simp) λi d hi=> ?_)
  rw[List.getElem?_eq_getElem hi]
  dsimp only
  refine wpAny_bind (eF n _ _ _ (by rw[List.length_eraseIdx_of_lt hi,hn];rfl) λys d' p=> ?_)
  refine wpAny_pure (q _ d' ?_)
  refine(List.Perm.cons _ p).trans ?_
  rw[List.eraseIdx_eq_take_drop_succ]
  refine List.perm_middle.symm.trans ?_
  rw[<-List.drop_eq_getElem_cons hi,List.take_append_drop]
theorem Cb {a:Addr} {ms:List Int} {Q:Value->Shared->Prop} (hh:A.handled=none) (S:IntSet P w s.heap a ms)
    (q:∀ I h1 d1,(∀ b o,s.heap.get? b=some o->h1.get? b=some o)->T9 P w A s.heap h1 a I ms->Q (.ref I) { s with heap:=h1,drawn:=d1 }):wpAny (model P w) A (pyIter (.ref a)) Q E s:=by
  obtain⟨o,es,ep,t,ho,hex,hd,hel,hp,hb,hf,L⟩:=S
  have T:s.TypeIs (.ref a) "set":=⟨o,ho,hex.1⟩
  have BK:a<s.heap.objs.size:=Heap.lt_size ho
  refine wpAny_pyIter_slot T PySem.F.slot_set_iter (wpAny_call_entry PySem.F.slot_set_iter T Bq ?_ (PySem.F.args_set_iter_1 _))
  unfold Builtin.«frozenset.__iter__»
  show wpAny _ _ ((pure a:Sem Addr) >>= _) _ _ s
  refine wpAny_bind (wpAny_pure ?_)
  refine wpAny_bind ?_
  unfold Builtin.Frozenset.sizeOf
  refine wpAny_bind (wpAny_setEntries_of ho hd hf (wpAny_pure ?_))
  refine wpAny_bind ?_
  unfold setDrawn
  refine wpAny_bind (wpAny_setState_of ho hd hf ?_)
  dsimp only
  refine wpAny_bind ?_
  unfold setsByText
  refine wpAny_bind (wpAny_askSetting (wpAny_pure (wpAny_pure ?_)))
  show wpAny _ _ (if(!w.params.followText "set-order" && (!t.plain && decide (es.size > 1)))=true then _ else _) _ _ s
  have plain:∀ (f:Nat->Nat) (ord:List Value),f 0=0->ord.length=es.size->(∃ ks,IntsAre ord ks/\ks.Perm ms) →
      (∀ (s:Shared),s.heap.get? a=some o->∀ (i:Nat),i<=es.size->∀ (A':Around) (E':Value->Shared->Prop) (Q':Option (Value × Nat)->Shared->Prop),Q' ((ord[i]?).map λv=>(v,f (i+1))) s->wpAny (model P w) A' (setNext a (f i) i ep) Q' E' s) →
      T9 P w A s.heap (s.heap.push (HJ (rawInt 0) 0 a es.size ep)) a s.heap.objs.size ms:=λf ord f0 hl ⟨ks,hi,pk⟩ nx =>
    ⟨⟨_,ord,ks,_,λb hb=>by
        simp only[List.mem_cons,List.not_mem_nil,or_false]at hb
        rcases hb with rfl | rfl
        ·exact .inr (Nat.le_refl _)
        ·exact .inl rfl,Bx hh (Nat.ne_of_lt BK) hd hf hl nx,⟨by rw[f0];exact Heap.get?_push_size _ rfl,Heap.get?_push_of_some _ ho⟩,hi,pk⟩,Nat.le_refl _⟩
  have fin:∀ (W:T9 P w A s.heap (s.heap.push (HJ (rawInt 0) 0 a es.size ep)) a s.heap.objs.size ms),
      wpAny (model P w) A.in1 (do
        let first ← (pure (rawInt 0):Sem Value)
        ret (← newFields "set_iterator" [first,rawInt 0,.ref a,rawInt es.size,rawInt (← setEpoch a)])) (λfin s'=>∃ v,fin=.done (.ret v)/\∃ T' r,s'.TypeIs v T'/\typeLookup (.type T') "__next__"=pure (some r)/\Q v s') E s:=λW=>by
    refine wpAny_bind (wpAny_pure ?_)
    refine wpAny_bind (wpAny_setEpoch_of ho hd hf ?_)
    refine wpAny_bind (wpAny_newObj_type (wpAny_pure ⟨_,rfl,"set_iterator",_,⟨_,Heap.get?_push_size _ rfl,rfl⟩,HK.lookup,?_⟩))
    exact q _ _ s.drawn (λb u e=>Heap.get?_push_of_some _ e) W
  cases ft:w.params.followText "set-order" with
  | true =>
    rw[if_neg (by simp)]
    have pk:=Bb (w.params.setOrder a ep) es
    have hl:(pickOrder (w.params.setOrder a ep) es).size=es.size:=by rw[<-Array.length_toList,pk.length_eq,Array.length_toList]
    refine fin (plain (λ_=>0) ((pickOrder (w.params.setOrder a ep) es).toList.map (·.2)) rfl (by rw[List.length_map,Array.length_toList,hl]) ⟨_,UA (hel.perm pk),(pk.map _).trans hp⟩ λs1 h1 i hi A' E' Q' q'=> ?_)
    refine Bm ft h1 hd hf ?_
    rw[List.getElem?_map,Array.getElem?_toList,Option.map_map]at q'
    exact q'
  | false =>
    cases pl:(!t.plain && decide (es.size > 1))with
    | false =>
      rw[if_neg (by simp)]
      refine fin (plain (LY t.place) (es.toList.map (·.2)) rfl (by rw[List.length_map,Array.length_toList]) ⟨_,UA hel,hp⟩ λs1 h1 i hi A' E' Q' q'=> ?_)
      refine Bp ft h1 hd hf L pl hi ?_
      rw[List.getElem?_map,Array.getElem?_toList,Option.map_map]at q'
      exact q'
    | true =>
      rw[if_pos (by simp)]
      refine wpAny_bind (eF es.size (List.range es.size) s _ (List.length_range) λys d p=> ?_)
      have hy:ys.length=es.size:=by rw[p.length_eq,List.length_range]
      have hys:∀ x∈ys,x<es.size:=λx hx=>List.mem_range.mp (p.mem_iff.mp hx)
      refine wpAny_bind (wpAny_newTuple ?_ (by rw[List.length_map,hy];exact fits_of_scanBound hb))
      refine wpAny_bind (wpAny_setEpoch_of (o:=o) (Heap.get?_push_of_some _ ho) hd hf ?_)
      refine wpAny_bind (wpAny_newObj_type (wpAny_pure ⟨_,rfl,"set_iterator",_,⟨_,Heap.get?_push_size _ rfl,rfl⟩,HK.lookup,?_⟩))
      refine q _ _ d (λb u e=>Heap.get?_push_of_some _ (Heap.get?_push_of_some _ e)) ⟨⟨_,ys.map λp=>(es[p]?.map (·.2)).getD .none,ys.map λp=>(es[p]?.map λe=>iv e.2).getD 0,_,λb hb=> ?_,
        By hh ?_ ?_ hd hf rfl (by rw[List.length_map]) λi p e=> ?_,⟨Heap.get?_push_size _ rfl,Heap.get?_push_of_some _ (Heap.get?_push_of_some _ ho),Heap.get?_push_of_some _ (Heap.get?_push_size _ rfl)⟩,?_,?_⟩,?_⟩
      · simp only[List.mem_cons,List.not_mem_nil,or_false]at hb
        rcases hb with rfl | rfl | rfl
        ·right;rw[size_push'];exact Nat.le_succ _
        ·exact .inl rfl
        ·exact .inr (Nat.le_refl _)
      ·rw[size_push'];exact Nat.ne_of_lt (Nat.lt_succ_of_lt BK)
      ·rw[size_push'];exact Nat.ne_of_lt (Nat.lt_succ_self _)
      · have hp':p<es.size:=hys p (List.mem_of_getElem? e)
        exact⟨es[p],Array.getElem?_eq_getElem hp',by rw[List.getElem?_map,e];simp[hp']⟩
      · have all:∀ (l:List Nat),(∀ x∈l,x<es.size)->IntsAre (l.map λp=>(es[p]?.map (·.2)).getD .none) (l.map λp=>(es[p]?.map λe=>iv e.2).getD 0):=by
          intro l
          induction l with
          | nil=>exact λ_=>.nil
          | cons x r ih =>
            intro hl
            have hx:=hl x (List.mem_cons_self ..)
            obtain⟨tk,z⟩:=T8 hel (e:=es[x]) (by simp)
            have e1:(es[x]?.map (·.2)).getD Value.none=Value.int (iv es[x].2) tk:=by rw[Array.getElem?_eq_getElem hx];exact z
            have e2:(es[x]?.map λe=>iv e.2).getD 0=iv es[x].2:=by rw[Array.getElem?_eq_getElem hx];rfl
            rw[List.map_cons,List.map_cons,e1,e2]
            exact .cons _ _ (ih λy hy=>hl y (List.mem_cons_of_mem _ hy))
        exact all ys hys
      · refine(p.map _).trans (List.Perm.trans (List.Perm.of_eq ?_) hp)
        refine List.ext_getElem (by simp) λi h1 h2=> ?_
        have hi:i<es.size:=by simpa using h1
        simp[hi]
      ·rw[size_push'];exact Nat.le_succ _
theorem Cc{a:Addr}{Q:Bool->Shared->Prop}(T:s.TypeIs (.ref a) "set")(q:Q false s):wpAny (model P w) A (Builtin.List.listLengthHint (.ref a)) Q E s:=by
 unfold Builtin.List.listLengthHint
 refine wpAny_bind (wpAny_specialOf T PySem.F.slot_set_len.lookup ?_)
 generalize hid:("set.__len__":String)=id0
 wp_delta
 rw[show splitId id0=some ("set","__len__")from by subst hid;decide +kernel]
 subst hid
 refine wpAny_bind (wpAny_isInstance (T:="set") (b:=true) T (by rw[isSubtype_type];kernel_rfl) ?_)
 refine wpAny_ite_split (λz=>absurd z (by decide)) (λ_=> ?_)
 refine wpAny_ite_split (λ_=> ?_) (λz=>absurd (by decide +kernel) z)
 exact wpAny_bind (wpAny_typeOf T (wpAny_pure q))
theorem Cd{a:Addr}{ms:List Int}{R:List Value->Shared->Prop}(hh:A.handled=none)(S:IntSet P w s.heap a ms)(hn:ms.length<=sizeLine)
  (q:∀ h' tk d vs ks,(∀ b o,s.heap.get? b=some o->h'.get? b=some o)->s.heap.objs.size<=h'.objs.size->IntsAre vs ks->ks.Perm ms->R vs { s with heap:=h',toks:=tk,drawn:=d }):wpAny (model P w) A (collect (.ref a)) R E s:=by
 have BK:a<s.heap.objs.size:=let ⟨_,_,_,_,ho,_⟩:=S;Heap.lt_size ho
 unfold collect
 refine wpAny_bind (wpAny_runValue (codeAny_builtin entry_proto_collect' ?_))
 rw[Around.under_plainId PySem.F.plain_proto_collect _]
 show wpAny _ A.in1 (newList [] >>= λl=>again (.builtin "list.__iadd__" ⟨[l,.ref a],[]⟩)) _ _ s
 refine wpAny_bind (wpAny_newObj_type ?_)
 refine wpAny_pure ⟨plainId_quiet PySem.F.plain_list_iadd _,codeAny_builtin entry_list_iadd' ?_⟩
 rw[Around.under_plainId PySem.F.plain_list_iadd _]
 show wpAny _ A.in1 (Builtin.List.listExtendWith (.ref s.heap.objs.size) (.ref a) (.ref s.heap.objs.size)) _ _ _
 generalize eN:s.heap.objs.size=N at BK ⊢
 have gN:(s.heap.push { cls:=.type "list",data:=.seq ([]:List Value).toArray }).get? N=some { cls:=.type "list",data:=.seq #[] }:=eN ▸ Heap.get?_push_size _ rfl
 have keep1:∀ b o,s.heap.get? b=some o->(s.heap.push { cls:=.type "list",data:=.seq ([]:List Value).toArray }).get? b=some o:=λb o e=>Heap.get?_push_of_some _ e
 have S1:=S.at λo e=>keep1 a o e
 have big:(s.heap.push { cls:=.type "list",data:=.seq ([]:List Value).toArray }).objs.size=N+1:=by rw[size_push',eN]
 revert gN keep1 S1 big
 generalize s.heap.push { cls:=.type "list",data:=.seq ([]:List Value).toArray }=h0
 intro gN keep1 S1 big
 have T1:∀ h':Heap,(∀ b o,h0.get? b=some o->h'.get? b=some o)->∀ tk d,({ s with heap:=h',toks:=tk,drawn:=d }:Shared).TypeIs (.ref a) "set":=λh' k tk d=>by
  obtain⟨o,_,_,_,ho,hex,_⟩:=S1
  exact⟨o,k _ _ ho,hex.1⟩
 unfold Builtin.List.listExtendWith
 refine wpAny_bind (wpAny_typeOf (T:="set") (T1 h0 (λ_ _ e=>e) s.toks s.drawn) ?_)
 have ne:Builtin.List.listSameRef (.ref N) (.ref a)=false:=by
  simp only[Builtin.List.listSameRef,beq_eq_false_iff_ne]
  exact Nat.ne_of_gt BK
 have n1:(Value.type "set" == Value.type "list")=false:=by decide
 have n2:(Value.type "set" == Value.type "tuple")=false:=by decide
 simp only[ne,n1,n2,Bool.or_false,Bool.false_eq_true,if_false]
 refine wpAny_bind (Cb (A:=A.in1) (s:={ s with heap:=h0 }) (by simpa using hh) S1 λI h1 d1 k1 W=> ?_)
 obtain⟨⟨fp,ord,ks,St,hfp,W,st,hi,pk⟩,hI⟩:=W
 have hI:N+1<=I:=big ▸ hI
 have BU:ord.length=ms.length:=by rw[IntsAre.length hi,pk.length_eq]
 refine wpAny_bind (wpAny_holding (Cc (T1 h1 k1 s.toks d1) ?_))
 rw[if_pos (by decide)]
 refine wpAny_bind (wpAny_rule ?_)
 refine wpAny_bind ?_
 show wpAny _ _ (updateSeq N (·.push .none) >>= λ_=>updateSeq N (·.pop)) _ _ _
 have g1:=k1 _ _ gN
 refine wpAny_bind (wpAny_updateSeq (s:={ s with heap:=h1,drawn:=d1 }) g1 rfl ?_)
 have g2:=Heap.get?_update_self (Obj.mapSeq (·.push Value.none)) g1 rfl
 refine wpAny_updateSeq (hz:=by seq_fits) g2 rfl ?_
 have g3:=Heap.get?_update_self (Obj.mapSeq (·.pop)) g2 rfl
 have oth:∀ b o,b≠N->h1.get? b=some o->((h1.update N (Obj.mapSeq (·.push Value.none))).update N (Obj.mapSeq (·.pop))).get? b=some o:=λb o hb e =>
  (Heap.get?_update_other _ _ (Ne.symm hb)).trans ((Heap.get?_update_other _ _ (Ne.symm hb)).trans e)
 have Nfp:N∉fp:=λz=>by
  rcases hfp N z with y | y
  ·exact Nat.ne_of_gt BK y
  ·have y':h0.objs.size<=N:=y
   rw[big]at y'
   exact absurd y' (Nat.not_succ_le_self _)
 refine wpAny_pure ⟨plainId_quiet PySem.F.plain_extend_loop _,?_⟩
 refine codeAny_extend_loopS W.toS (by rw[BU];exact hn) N Nfp (.ref N) ord.length 0 _ #[] _ rfl (Nat.zero_le _) (W.frame 0 _ _ st λb hb o e=>oth b o (λz=>Nfp (z ▸ hb)) e) g3 (ItemsOf.nil _) λs' BZ c m g4 hacc=> ?_
 show wpAny _ A (load N >>= _) _ _ _
 refine wpAny_bind (wpAny_load g4 ?_)
 refine wpAny_pure ?_
 have eacc:BZ.toList=ord:=by
  refine List.ext_getElem? λi=> ?_
  by_cases hlt':i<ord.length
  ·have h3:i<BZ.size:=by rw[hacc.1];exact hlt'
   have:=hacc.2 i BZ[i] (Array.getElem?_eq_getElem h3)
   rw[Array.getElem?_toList,Array.getElem?_eq_getElem h3,this]
  ·have e1:BZ.toList[i]? =none:=List.getElem?_eq_none (by rw[Array.length_toList,hacc.1];omega)
   have e2:ord[i]? =none:=List.getElem?_eq_none (by omega)
   rw[e1,e2]
 show R BZ.toList s'
 rw[eacc]
 obtain⟨h3,gn3,dr3,tk3,os3⟩:=s'
 have a1:gn3=s.gens:=m.gens
 have a2:dr3=d1:=m.drawn
 have a3:os3=s.os:=m.os
 subst a1;subst a2;subst a3
 refine q _ _ dr3 ord ks (λb o e=> ?_) (by rw[eN];exact Nat.le_of_lt (Heap.lt_size g4)) hi pk
 have hb:b<N:=eN ▸ Heap.lt_size e
 refine m.heap b o (λz=> ?_) (oth b o (Nat.ne_of_lt hb) (k1 _ _ (keep1 _ _ e)))
 simp only[List.mem_cons,List.not_mem_nil,or_false]at z
 rcases z with z | z
 ·exact Nat.ne_of_lt hb z
 ·exact Nat.ne_of_lt (Nat.lt_of_lt_of_le (Nat.lt_succ_of_lt hb) hI) z
theorem Cg{a:Addr}{ms:List Int}{Q:Value->Shared->Prop}(hh:A.handled=none)(S:IntSet P w s.heap a ms)(hn:ms.length<64)
  (q:∀ D h' tk d c out ks,(∀ b o,s.heap.get? b=some o->h'.get? b=some o)->s.heap.objs.size<=D->h'.get? D=some (seqObj "list" out c)->IntsAre out.toList ks->ks.Perm ms->ks.Pairwise (· <=·)->Q (.ref D) { s with heap:=h',toks:=tk,drawn:=d }) :
  wpAny (model P w) A (call (.builtin "sorted") [.ref a]) Q E s:=by
 refine Calls.call_function_entry kind_sorted plain_sorted entry_sorted (args_sorted1 _) ?_
 unfold Builtin.«sorted»
 refine wpAny_bind (m:=checkCount "sorted" 1 1 _) (wpAny_pure ?_)
 refine wpAny_bind (Cd (A:=A.in1) (by simpa using hh) S (by rw[sizeLine_eq];omega) λh1 tk d vs ks k1 size_le hi pk=> ?_)
 have hl:vs.length<64:=by rw[IntsAre.length hi,pk.length_eq];exact hn
 refine wpAny_bind (wpAny_newList ?_ (by rw[sizeLine_eq];omega))
 have g:(h1.push (seqObj "list" vs.toArray 0)).get? h1.objs.size=some (seqObj "list" vs.toArray 0):=Heap.get?_push_size _ rfl
 show wpAny _ _ _ _ _ { s with heap:=h1.push (seqObj "list" vs.toArray 0),toks:=tk,drawn:=d }
 refine wpAny_bind (wpAny_holding (wpAny_call_entry slot_list_sort ⟨_,g,rfl⟩ entry_list_sort (list_sort_tree g hi hl λout ks' i1 p1 r1=>⟨_,rfl,?_⟩) (args_list_sort _)))
 obtain⟨c,gc⟩:=sortedHeap_at (n:=0) (out:=out) g
 refine wpAny_pure ⟨_,rfl,q _ _ tk d c out ks' (λb o e=> ?_) size_le gc i1 (p1.trans pk) r1⟩
 have hb:=Heap.lt_size (k1 _ _ e)
 rw[sortedHeap_old (Nat.ne_of_lt hb) (by rw[size_push'];exact Nat.lt_succ_of_lt hb)]
 exact Heap.get?_push_of_some _ (k1 _ _ e)
end
end L2
namespace L2
open PySem PyProof.Rows
section
variable{P:Program}{w:World}{A:Around}{E:Value->Shared->Prop}{s:Shared}
theorem Cj {l:Addr} {its:Array Value} {ns:List Int} {Q:Value->Shared->Prop} (hh:A.handled=none) (hl:s.heap.IsList l its) (hi:IntsAre its.toList ns) (hb:its.size+1<scanBound)
    (q:∀ h' tk,IntSet P w h' s.heap.objs.size (firstMet (λi=>ns.getD i 0) its.size)->(∀ b o,s.heap.get? b=some o->h'.get? b=some o)->Q (.ref s.heap.objs.size) { s with heap:=h',toks:=tk }) :
    wpAny (model P w) A (call (.type "set") [.ref l]) Q E s:=by
  obtain⟨c,tl,mro⟩:=PySem.F.called_set.mro
  have made:=PySem.F.called_set.made
  have sub:=PySem.F.called_set.sub
  refine wpAny_call (codeAny_of_tree ?_)
  show wpAny _ _ (callAny (.type "set") _) _ _ _
  refine wpAny_pure ⟨Code.quiet_builtin _ (by decide +kernel),codeAny_builtin PySem.F.entry_type_call ?_⟩
  rw[Around.under_plain (weight_type_call_type "set" [.ref l] []) rfl]
  have n1:=PySem.F.called_set.notType
  have n2:=PySem.F.called_set.canCreate
  have n3:=PySem.F.typeCall_set_1 (.ref l)
  repeat (any_goals (first | assumption | wp_step))
  generalize eS:({ cls:=.type "set",dict:=none,data:=.set #[] 0 (.fresh 0 0 (K4 w)) }:Obj)=oS
  refine codeAny_mono (Bg (E:=E) (Q:=λx s1=>x=.ref s.heap.objs.size/\s1={ s with heap:=s.heap.push oS }) ⟨rfl,by rw[<-eS]⟩) λr s1 hr=> ?_
  cases r with
  | error e=>exact hr
  | ok fl =>
    cases fl with
    | ret x =>
      obtain⟨rfl,rfl⟩:=hr
      have g0:(s.heap.push oS).get? s.heap.objs.size=some oS:=Heap.get?_push_size _ (by rw[<-eS];rfl)
      have T0:Shared.TypeIs { s with heap:=s.heap.push oS } (.ref s.heap.objs.size) "set":=⟨_,g0,by rw[<-eS]⟩
      have i1:=PySem.F.called_set.init.lookup
      have i2:=PySem.F.called_set.init.bind (.ref s.heap.objs.size)
      repeat (any_goals (first | assumption | wp_step))
      refine codeAny_mono (codeAny_call_builtin (R:=wants (λr s2=>r=.none/\∃ h' tk,s2={ s with heap:=h',toks:=tk }/\IntSet P w h' s.heap.objs.size (firstMet (λi=>ns.getD i 0) its.size) ∧
        (∀ b o,s.heap.get? b=some o->h'.get? b=some o)) E) PySem.F.called_set.init.plain PySem.F.entry_set_init (check_set_init_1 T0 ?_)) λr2 s2 aO=> ?_
      · obtain⟨ol,gl,cl,nl,dl⟩:=hl
        obtain⟨c1,d1,dt1,sl1⟩:=ol
        simp only at cl dl
        subst cl;subst dl
        have gl':=Heap.get?_push_of_some oS gl
        have e1:=PySem.F.sub_list_set
        have e2:=PySem.F.sub_list_frozenset
        have e3:(Value.type "list" == Value.type "dict")=false:=by decide
        have IL:(s.heap.push oS).IsList l its:=⟨_,gl',rfl,nl,rfl⟩
        have BK:l<s.heap.objs.size:=Heap.lt_size gl
        have big:=size_push' s.heap oS
        revert gl' IL g0 T0 big
        have keep0:∀ b o,s.heap.get? b=some o->(s.heap.push oS).get? b=some o:=λb o e=>Heap.get?_push_of_some _ e
        revert keep0
        generalize s.heap.push oS=h0
        intro keep0 g0 T0 gl' IL big
        subst eS
        unfold Builtin.«set.__init__» noKeywords Builtin.Frozenset.updateFrom
        generalize hPI:pyIter=PI
        wp_walk
        subst hPI
        refine wpAny_pyIter_list IL ?_
        refine wpAny_bind (wpAny_runValue ?_)
        have hh3:A.in1.in1.in1.handled=none:=by simp[hh]
        have ne1:l≠h0.objs.size:=Nat.ne_of_lt (by rw[big];exact Nat.lt_succ_of_lt BK)
        have nin:s.heap.objs.size∉[h0.objs.size,l]:=by
          simp only[List.mem_cons,List.not_mem_nil,or_false,not_or]
          exact⟨Nat.ne_of_lt (by rw[big];exact Nat.lt_succ_self _),Nat.ne_of_gt BK⟩
        refine Bd ((Walks.list hh3 _ l ne1 its).toS) s.heap.objs.size nin (λi=>ns.getD i 0) (λi v e=>IntsAre.int_at hi i v (by rw[Array.getElem?_toList];exact e)) hb (its.size - 0) 0 _ (by omega) (Nat.zero_le _)
          ⟨⟨_,Heap.get?_push_size _ rfl,rfl,rfl⟩,IL.push _⟩ ⟨_,#[],0,_,Heap.get?_push_of_some _ g0,⟨rfl,rfl,rfl⟩,rfl,λe he=>by simp at he,by exact .nil,by decide,by rfl,Led.fresh _⟩ λs3 m S3=> ?_
        obtain⟨h3,g3,d3,tk3,os3⟩:=s3
        have a1:g3=s.gens:=m.gens
        have a2:d3=s.drawn:=m.drawn
        have a3:os3=s.os:=m.os
        subst a1;subst a2;subst a3
        show wpAny _ _ _ _ _ _
        refine wpAny_pure ?_
        show wpAny _ _ (ret Value.none) _ _ _
        refine wpAny_pure ⟨rfl,h3,tk3,rfl,S3,λb o e=> ?_⟩
        have hb:=Heap.lt_size e
        refine m.heap b o ?_ (Heap.get?_push_of_some _ (keep0 _ _ e))
        simp only[List.mem_cons,List.not_mem_nil,or_false,not_or]
        exact⟨Nat.ne_of_lt hb,Nat.ne_of_lt (by rw[big];exact Nat.lt_succ_of_lt hb)⟩
      · cases r2 with
        | error e=>exact aO
        | ok fl2 =>
          cases fl2 with
          | ret r =>
            obtain⟨rfl,h',tk,rfl,S',k'⟩:=aO
            repeat (any_goals (first | assumption | wp_step))
            exact q _ _ S' k'
          | _=>exact aO.elim
    | _=>exact hr.elim
end
end L2
namespace L2
section
variable{X:Cx}
theorem Inv.drawn{AA:List (Addr × Obj)}{σ:St}{H:Hp}{s:Shared}(I:Inv X AA σ H s)(d):Inv X AA σ H { s with drawn:=d } :=
 { ok:=I.ok,os:=I.os,bare:=I.bare,base:=I.base,loc:=I.loc,cell:=I.cell,free:=I.free,freeC:=I.freeC,pin:=I.pin,hok:=I.hok,len:=I.len }
theorem eG:∀ {ns:List Int} {us:List Value},Vals (ns.map V.int) us->IntsAre us ns
 | [],_,.nil=>.nil
 | n::r,_,.cons h t=>by
  obtain⟨tk,rfl⟩:=h
  exact .cons _ _ (eG t)
abbrev eI(X:Cx)(a:Addr)(ms:List Int):HO:=.ext λh=>IntSet X.prog X.w h a ms
theorem Ck(hc:X.calm=true):F1 X (.type "set") (λxs H Q=>∃ (p:Addr) (ns:List Int),xs=[.ref p]/\SqL X.K H p (ns.map V.int)/\ns.length<=1000 ∧
  ∀ (a:Addr),H a=none->Q (.ref a) (upd H a (eI X a (firstMet (λi=>ns.getD i 0) ns.length)))):=by
 intro AA s σ H xs us Q I r h
 obtain⟨p,ns,rfl,hq,hn,q⟩:=h
 obtain⟨u,rfl,rx⟩:=IU r
 cases rx
 obtain⟨its,r',pl,hz⟩:=I.list hq
 have hi:=eG r'
 have BU:its.length=ns.length:=IntsAre.length hi
 refine Cj (I.ok.hd hc) pl.isList hi (by rw[List.size_toArray,BU];exact Nat.lt_of_le_of_lt (Nat.succ_le_succ hn) (by decide)) λh' tk S k=> ?_
 have hz2:its.toArray.size=ns.length:=by rw[List.size_toArray,BU]
 rw[hz2]at S
 refine⟨.ref s.heap.objs.size,_,I.laid k (Nat.le_refl _) ?_,rfl,q _ (I.hok.fresh (Nat.le_refl _))⟩
 exact⟨S,⟨_,S.choose_spec.choose_spec.choose_spec.choose_spec.1⟩,λh1 h2 z e=>z.at e⟩
theorem Cl(hc:X.calm=true):F1 X (.builtin "sorted") (λxs H Q=>∃ (a:Addr) (ms:List Int),xs=[.ref a]/\H a=some (eI X a ms)/\ms.length<64 ∧
  ∀ (D:Addr) (ks:List Int),H D=none->List.Perm ks ms->ks.Pairwise (· <=·)->Q (.ref D) (upd H D (.lst (ks.map V.int)))):=by
 intro AA s σ H xs us Q I r h
 obtain⟨a,ms,rfl,ha,hn,q⟩:=h
 obtain⟨u,rfl,rx⟩:=IU r
 cases rx
 obtain⟨S,_,_⟩:=I.hok a _ ha
 refine Cg (I.ok.hd hc) S hn λD h' tk d c out ks k hD g hi pk hr=> ?_
 have hl:ks.length<64:=by rw[pk.length_eq];exact hn
 refine⟨.ref D,_,(I.laid (t':=tk) k hD ?_).drawn d,rfl,q D ks (I.hok.fresh hD) pk hr⟩
 exact⟨by rw[List.length_map,sizeLine_eq];omega,out.toList,c,S7 hi,g⟩
theorem Cm(val:Nat->Int)(n:Nat)(x:Int):x∈firstMet val n↔∃ i,i<n/\val i=x:=by
 have h:=firstMet_any val n x
 rw[Bool.eq_iff_iff,List.any_eq_true,List.any_eq_true]at h
 constructor
 ·intro hx
  obtain⟨y,hy,e⟩:=h.mp ⟨x,hx,beq_self_eq_true x⟩
  obtain⟨i,hi,rfl⟩:=List.mem_map.mp hy
  exact⟨i,List.mem_range.mp hi,eq_of_beq e⟩
 ·rintro ⟨i,hi,rfl⟩
  obtain⟨y,hy,e⟩:=h.mpr ⟨val i,List.mem_map.mpr ⟨i,List.mem_range.mpr hi,rfl⟩,beq_self_eq_true _⟩
  exact eq_of_beq e ▸ hy
theorem UB(val:Nat->Int):∀ n,(firstMet val n).Nodup
 | 0=>by rw[firstMet_zero];exact List.nodup_nil
 | n+1=>by
  rw[firstMet_succ]
  by_cases h:val n∈firstMet val n
  ·rw[eA h];exact UB val n
  ·rw[eB h]
   exact List.nodup_append.mpr ⟨UB val n,by simp,λa ha b hb e=>by rw[List.mem_singleton]at hb;subst hb;subst e;exact h ha⟩
theorem eJ:∀ {l:List Int},l.Pairwise (· <=·)->l.Nodup->l.Pairwise (· <·)
 | [],_,_=>.nil
 | x::r,h,n=>by
  obtain⟨h1,h2⟩:=List.pairwise_cons.mp h
  obtain⟨n1,n2⟩:=List.nodup_cons.mp n
  refine List.pairwise_cons.mpr ⟨λy hy=> ?_,eJ h2 n2⟩
  have:=h1 y hy
  have:x≠y:=λz=>n1 (z ▸ hy)
  omega
def PD(K:W.Frag)(te:TE):TE:=λσ H Q=>te σ H λx H1=>∃ (p:Addr) (ns:List Int),x=.ref p/\SqL K H1 p (ns.map V.int)/\ns.length<64 ∧
 ∀ (a:Addr) (o:HO) (D:Addr) (ks:List Int),H1 a=none->upd H1 a o D=none->ks.Pairwise (· <·)->(∀ x,x∈ks↔x∈ns)->ks.length<=ns.length->Q (.ref D) (upd (upd H1 a o) D (.lst (ks.map V.int)))
def clo(te:TE):TE:=λσ H Q=>∃ C:VK,te σ H C/\∀ x H1,C x H1->Q x H1
theorem PE.clo{e:Expr}{te:TE}(h:PE X e te):PE X e (clo te):=λAA s σ H Q I ⟨C,q,m⟩=>AS (h AA s σ H C I q) λv s' ⟨x,H1,I1,r1,q1⟩=>⟨x,H1,I1,r1,m _ _ q1⟩
theorem eK{e:Expr}{te:TE}{p1 p2 p3 p4:Pos}(hc:X.calm=true)(g1:Gl X "sorted")(m1:X.mg "sorted"=none)(g2:Gl X "set")(m2:X.mg "set"=none)(h:PE X e te)
  (he:starEach [e] X.env=[(false,eval e X.env)]:=by rfl) :
  PE X (.Call (.Name "sorted" p1) [.Call (.Name "set" p2) [e] [] p3] [] p4) (PD X.K te):=λAA s σ H Q I q=>by
 refine(EX (Cl hc) g1 m1 (by rfl) (IV (JY (Ck hc) g2 m2 (by rfl) (IV h.clo FO he) (he:=he)) FO)) AA s σ H Q I ?_
 refine⟨_,q,λx H1 hzz=> ?_⟩
 obtain⟨p,ns,e1,hq,hn,q1⟩:=hzz
 subst e1
 refine⟨p,ns,rfl,hq,by omega,λa ha=>⟨a,_,rfl,AE,?_,λD ks hD pk hr=> ?_⟩⟩
 ·exact Nat.lt_of_le_of_lt (firstMet_length_le ..) hn
 ·have nd:=UB (λi=>ns.getD i 0) ns.length
  refine q1 a _ D ks ha hD (eJ hr (pk.nodup_iff.mpr nd)) (λx=> ?_) (by rw[pk.length_eq];exact firstMet_length_le ..)
  rw[pk.mem_iff,Cm]
  refine⟨λhzz=> ?_,λhx=> ?_⟩
  ·obtain⟨i,hi,e⟩:=hzz
   rw[<-e]
   simp[List.getD,hi]
  ·obtain⟨i,hi,e⟩:=List.getElem_of_mem hx
   exact⟨i,hi,by simp[List.getD,hi,e]⟩
end
end L2
namespace L2
section
variable{X:Cx}{tg:Expr}
def PF(K:W.Frag):List V->Hp->VK->Prop:=λxs H Q=>∃ (p:Addr) (kvs:List (AH × V)),xs=[.ref p]/\H p=some (.dK kvs)/\∀ l,H l=none->Q (.ref l) (upd H l (.dK kvs))
theorem Cp:F1 X (.type "dict") (PF X.K):=by
 intro AA s σ H xs us Q I r h
 obtain⟨p,kvs,rfl,hp,q⟩:=h
 obtain⟨u,rfl,rx⟩:=IU r
 cases rx
 exact wO I (.inl hp) λl s' hl I'=>⟨.ref l,_,I',rfl,q l hl⟩
theorem Cq{K:W.Frag}{p:Addr}{H:Hp}{Q:VK}:PF K [.ref p] H Q=∃ kvs,H p=some (.dK kvs)/\∀ l,H l=none->Q (.ref l) (upd H l (.dK kvs)):=by simp[PF]
end
section
variable{K:W.Frag}{tt:TT}{cap:List Nat}{σ:St}{H:Hp}{Q:VK}
end
section
variable{K:W.Frag}{td ty tv te:TE}{D:Ends}{σ:St}{H:Hp}{Q:VK}{QB:Bool->Hp->Prop}
theorem Cv:IB td ty σ H Q=(td σ H λx H1=>ty σ H1 λy H2=>∃ a v,x=.ref a/\DGet H2 a y (some v)/\Q v H2):=rfl
theorem Cw:OX ty td σ H Q=(ty σ H λy H1=>td σ H1 λx H2=>∃ a o,x=.ref a/\DGet H2 a y o/\Q (.bl o.isSome) H2):=rfl
theorem Cy:LQ ty td σ H Q=(ty σ H λy H1=>td σ H1 λx H2=>∃ a o,x=.ref a/\DGet H2 a y o/\Q (.bl (!o.isSome)) H2):=rfl
theorem Cz:HH td ty tv D σ H=(tv σ H λv H1=>td σ H1 λx H2=>ty σ H2 λy H3=>∃ a H4,x=.ref a/\DPut H3 a y v H4/\D.nx σ H4):=rfl
theorem Db:S5 td ty σ H Q=(td σ H λx H1=>∃ a,x=.ref a/\LR H1 a/\ty σ H1 λy H2=>∃ o,DGet H2 a y o/\Q (o.getD .non) H2):=rfl
theorem Dc:JB σ H Q=(∀ p,H p=none->Q (.ref p) (upd H p (.dK []))):=rfl
theorem Dg:OZ σ H Q=(∀ p,H p=none->Q (.ref p) (upd H p (.dT []))):=rfl
theorem Dh:tB te σ H QB=(te σ H λx H1=>∃ c,x=.bl c/\QB c H1):=rfl
theorem Dj:PD K te σ H Q=(te σ H λx H1=>∃ (p:Addr) (ns:List Int),x=.ref p/\SqL K H1 p (ns.map V.int)/\ns.length<64 ∧
 ∀ (a:Addr) (o:HO) (D:Addr) (ks:List Int),H1 a=none->upd H1 a o D=none->ks.Pairwise (· <·)->(∀ x,x∈ks↔x∈ns)->ks.length<=ns.length->Q (.ref D) (upd (upd H1 a o) D (.lst (ks.map V.int)))):=rfl
variable{a b:Addr}{i j:Int}{z:Str}{kvs:List (AH × V)}{kvt:List (List AH × V)}{v:V}
theorem dI(e:H a=some (.dK kvs)):DGet H a (.int i) (BJ kvs (.inl i)):=DGet.k (k:=.inl i) e
theorem dS(e:H a=some (.dK kvs)):DGet H a (.str z) (BJ kvs (.inr z)):=DGet.k (k:=.inr z) e
theorem eL(e:H a=some (.dT kvt))(eb:H b=some (.tup [.int i,.int j])):DGet H a (.ref b) (BJ kvt [.inl i,.inl j]):=DGet.t (k:=[.inl i,.inl j]) e eb
theorem NM(e:H a=some (.dK kvs))(h:BJ kvs (.inr z)=some v):DGet H a (.str z) (some v):=h ▸ dS e
theorem Dk(e:H a=some (.dT kvt))(eb:H b=some (.tup [.int i,.int j]))(h:BJ kvt [.inl i,.inl j]=some v):DGet H a (.ref b) (some v):=h ▸ eL e eb
theorem pI(e:H a=some (.dK kvs))(hl:kvs.length<100000):DPut H a (.int i) v (upd H a (.dK (B7 kvs (.inl i) v))):=DPut.k (k:=.inl i) e (Nat.lt_of_lt_of_le hl (by decide))
theorem pS(e:H a=some (.dK kvs))(hl:kvs.length<100000):DPut H a (.str z) v (upd H a (.dK (B7 kvs (.inr z) v))):=DPut.k (k:=.inr z) e (Nat.lt_of_lt_of_le hl (by decide))
theorem Dl(e:H a=some (.dT kvt))(eb:H b=some (.tup [.int i,.int j]))(hl:kvt.length<100000):DPut H a (.ref b) v (upd H a (.dT (B7 kvt [.inl i,.inl j] v))):=DPut.t (k:=[.inl i,.inl j]) e eb (Nat.lt_of_lt_of_le hl (by decide))
end
end L2
namespace L2
section
variable{X:Cx}
abbrev PJ(K:W.Frag):R2:=cK K false
theorem eO(hu:X.A.units+64<cLine):B2 X (compareOp .In) (PJ X.K):=vY
end
theorem SqT.same{K:W.Frag}{H H':Hp}{a:Addr}{xs:List V}(e:Same H H')(h:SqT K H a xs):SqT K H' a xs:=by
 rcases h with(h | ⟨o,h⟩) | h
 ·exact .inl (.inl (e _ _ h))
 ·exact .inl (.inr ⟨o,e _ _ h⟩)
 ·exact .inr h
mutual
theorem Rep.same{K:W.Frag}{H H':Hp}(s:Same H H'):∀ {v:V} {d:PyData},Rep K H v d->Rep K H' v d
 | _,_,.non=>.non
 | _,_,.bl b=>.bl b
 | _,_,.int i=>.int i
 | _,_,.str x=>.str x
 | _,_,.lst h r=>.lst (s.seq h) (RepAll.same s r)
 | _,_,.tup h r=>.tup (SqT.same s h) (RepAll.same s r)
theorem RepAll.same{K:W.Frag}{H H':Hp}(s:Same H H'):∀ {vs:List V} {ds:List PyData},RepAll K H vs ds->RepAll K H' vs ds
 | _,_,.nil=>.nil
 | _,_,.cons h r=>.cons (Rep.same s h) (RepAll.same s r)
end
section
variable{K:W.Frag}{H:Hp}{n:Nat}{Q:VK}
end
end L2
namespace L2
end L2
namespace L2
section
variable{prog:Program}{w:World}{A:Around}{E:Value->Shared->Prop}{s:Shared}{d it:Addr}{od:Obj}{es:Array DictEntry}{ep i:Nat}
theorem Dm{Q:Value->Shared->Prop}(hd:(d == sysModules)=false)(ho:s.heap.get? d=some od)(hx:od.ExactDict)(hdat:od.data=.dict es ep)
  (hQ:Q (.ref s.heap.objs.size) { s with heap:=s.heap.push { cls:=.type "dict_keyiterator",data:=.fields #[.ref d,.int 0 0,.int es.size 0,.int ep 0] } }) :
  wpAny (model prog w) A (pyIter (.ref d)) Q E s:=by
 have hT:s.TypeIs (.ref d) "dict":=⟨od,ho,hx.1⟩
 refine wpAny_pyIter_slot hT F.slot_dict_iter (wpAny_call_entry F.slot_dict_iter hT F.entry_dict_iter ?_ (F.args_dict_iter_1 _))
 unfold Builtin.«dict.__iter__» Builtin.Dict.dictSlotNone
 refine wpAny_bind (wpAny_bind (wpAny_notOrdered_dict hT (wpAny_pure ?_)))
 show wpAny _ _ (Builtin.Dict.showsAll d >>= _) _ _ s
 unfold Builtin.Dict.showsAll
 rw[if_neg (by rw[hd];exact Bool.false_ne_true)]
 refine wpAny_bind (wpAny_pure (wpAny_bind (wpAny_dictEntries ho hdat (wpAny_bind (wpAny_dictEpoch ho hdat ?_)))))
 refine wpAny_bind (wpAny_newObj_type (wpAny_pure ⟨_,rfl,"dict_keyiterator",_,⟨_,Heap.get?_push_size _ rfl,rfl⟩,F.slot_dict_keyiterator_next.lookup,?_⟩))
 simpa [rawInt]using hQ
theorem Dp{Q:Option Value->Shared->Prop}(hit:s.heap.IsKeyIter it d i es.size ep)(hod:s.heap.get? d=some od)(hdd:od.data=.dict es ep){e:DictEntry}(he:es[i]? =some e)
  (hQ:∀ h',h'.IsKeyIter it d (i+1) es.size ep->Heap.SameBut it s.heap h'->Q (some e.key) { s with heap:=h' }) :
  wpAny (model prog w) A (pyNext (.ref it)) Q E s:=by
 obtain⟨o,ho,hc,hd⟩:=id hit
 unfold pyNext
 refine wpAny_bind (wpAny_attempt (wpAny_callSpecial?_slot (name:=Str.ofString "__next__") hit.typeIs F.slot_dict_keyiterator_next
  (wpAny_call_entry F.slot_dict_keyiterator_next hit.typeIs F.entry_dict_keyiterator_next ?_ (F.args_dict_keyiterator_next_1 _))))
 refine wpAny_bind (wpAny_pure (wpAny_bind (wpAny_bind ?_)))
 first | refine wpAny_bind (wpAny_typeNameOfWhole_keyiter hit.typeIs (wpAny_pure ?_)) | refine wpAny_bind (wpAny_typeNameOf_keyiter hit.typeIs (wpAny_pure ?_))
 refine wpAny_bind (wpAny_fieldsOf ho hd ?_)
 have hown:Builtin.Dict_items.ownsTuple "dict_keyiterator"=false:=by decide
 simp only[hown,Bool.false_eq_true,if_false]
 show wpAny _ _ (if(Value.ref d == Value.none)=true then _ else _) _ _ s
 rw[if_neg (show ¬ ((Value.ref d == Value.none)=true)from Bool.false_ne_true)]
 refine wpAny_bind (wpAny_pure (wpAny_bind (wpAny_dictEntries hod hdd ?_)))
 rw[if_neg (by simp)]
 refine wpAny_bind (wpAny_pure (wpAny_bind (wpAny_dictEpoch hod hdd ?_)))
 rw[if_neg (by simp)]
 refine wpAny_pure ?_
 simp only[show ¬ ((i:Int)<0)from by omega,if_false,Int.toNat_natCast,he]
 refine wpAny_bind ?_
 first | refine wpAny_bind (wpAny_typeNameOfWhole_keyiter hit.typeIs (wpAny_pure ?_)) | refine wpAny_bind (wpAny_typeNameOf_keyiter hit.typeIs (wpAny_pure ?_))
 refine wpAny_bind (wpAny_isOneOf_keyiter hit.typeIs ?_)
 show wpAny _ _ (setField (.ref it) 1 (rawInt ((i:Int)+1)) >>= _) _ _ s
 refine wpAny_bind (wpAny_setField ho hd (by simp) ?_)
 have hit':(s.heap.update it (Obj.mapFields (·.setIfInBounds 1 (rawInt ((i:Int)+1))))).IsKeyIter it d (i+1) es.size ep :=
  ⟨_,Heap.get?_update_self _ ho (Obj.isFreed_of_fields (Obj.data_mapFields hd _)),(Obj.cls_mapFields ..).trans hc,by rw[Obj.data_mapFields hd];simp[rawInt]⟩
 refine wpAny_bind (wpAny_holding (wpAny_bind (wpAny_isOneOf_keyiter (s:={ s with heap:=s.heap.update it (Obj.mapFields (·.setIfInBounds 1 (rawInt ((i:Int)+1)))) }) hit'.typeIs ?_)))
 show wpAny _ _ (pure e.key) _ _ _
 exact wpAny_pure (wpAny_pure ⟨_,rfl,wpAny_pure (hQ _ hit' (Heap.SameBut.update ..))⟩)
theorem Dq{Q:Option Value->Shared->Prop}(hh:A.handled=none)(hit:s.heap.IsKeyIter it d i es.size ep)(hod:s.heap.get? d=some od)(hdd:od.data=.dict es ep)(hge:es.size<=i)
  (hQ:∀ h',Heap.ExtBut it s.heap h'->Q none { s with heap:=h' }):wpAny (model prog w) A (pyNext (.ref it)) Q E s:=by
 obtain⟨o,ho,hc,hd⟩:=id hit
 unfold pyNext
 refine wpAny_bind (wpAny_attempt (wpAny_callSpecial?_slot (name:=Str.ofString "__next__") hit.typeIs F.slot_dict_keyiterator_next
  (wpAny_call_entry F.slot_dict_keyiterator_next hit.typeIs F.entry_dict_keyiterator_next ?_ (F.args_dict_keyiterator_next_1 _))))
 refine wpAny_bind (wpAny_pure (wpAny_bind (wpAny_bind ?_)))
 first | refine wpAny_bind (wpAny_typeNameOfWhole_keyiter hit.typeIs (wpAny_pure ?_)) | refine wpAny_bind (wpAny_typeNameOf_keyiter hit.typeIs (wpAny_pure ?_))
 refine wpAny_bind (wpAny_fieldsOf ho hd ?_)
 have hown:Builtin.Dict_items.ownsTuple "dict_keyiterator"=false:=by decide
 simp only[hown,Bool.false_eq_true,if_false]
 show wpAny _ _ (if(Value.ref d == Value.none)=true then _ else _) _ _ s
 rw[if_neg (show ¬ ((Value.ref d == Value.none)=true)from Bool.false_ne_true)]
 refine wpAny_bind (wpAny_pure (wpAny_bind (wpAny_dictEntries hod hdd ?_)))
 rw[if_neg (by simp)]
 refine wpAny_bind (wpAny_pure (wpAny_bind (wpAny_dictEpoch hod hdd ?_)))
 rw[if_neg (by simp)]
 refine wpAny_pure ?_
 simp only[show ¬ ((i:Int)<0)from by omega,if_false,Int.toNat_natCast,Array.getElem?_eq_none hge]
 refine wpAny_bind ?_
 first | refine wpAny_bind (wpAny_typeNameOfWhole_keyiter hit.typeIs (wpAny_pure ?_)) | refine wpAny_bind (wpAny_typeNameOf_keyiter hit.typeIs (wpAny_pure ?_))
 show wpAny _ _ (setField (.ref it) 0 .none >>= _) _ _ s
 refine wpAny_bind (wpAny_setField ho hd (by simp) ?_)
 show wpAny _ _ (newExc (.type "StopIteration") [] >>= _) _ _ _
 refine wpAny_bind ?_
 simp only[newExc,newTuple]
 refine wpAny_bind (wpAny_newObj_type ?_ (by size_fits))
 refine wpAny_bind (m:=firstArgMember _ _) (wpAny_of_eq (a:=Value.none) (by first | rfl | (simp only[firstArgMember];rfl)) ?_)
 refine wpAny_newObj_type ?_ (by size_fits)
 simp only[raiseNew]
 refine wpAny_bind (wpAny_handled ?_)
 rw[show A.in1.handled=none from hh]
 refine wpAny_bind (wpAny_pure (wpAny_throw ?_))
 refine wpAny_bind (wpAny_isInstance (T:="StopIteration") (b:=true) ⟨_,Heap.get?_push_size _ rfl,rfl⟩ isSubtype_stop ?_)
 exact wpAny_pure (hQ _ (((Heap.SameBut.update ..).extBut.push _).push _))
end
end L2
namespace L2
theorem eQ:∀ {ys:List Str} {us:List Value},Vals (ys.map V.str) us->StrsAre us ys
 | [],_,.nil=>.nil
 | y::r,_,.cons h t=>by
  obtain⟨tk,rfl⟩:=h
  exact .cons _ _ (eQ t)
section
variable{X:Cx}
def eU(K:W.Frag):V->List V->Hp->VK->Prop:=λx vs H Q=>∃ (z:Str) (p:Addr) (ys:List Str),x=.str z/\vs=[.ref p]/\SqL K H p (ys.map V.str)/\z.length<=16/\(ys.map (·.length)).sum+ys.length<=1048576/\Q (.str (Txt.join z ys)) H
theorem Dv:SS X "str.join" (eU X.K):=by
 intro AA s σ H x vs v us Q I rx rv h
 obtain⟨z,p,ys,rfl,rfl,hp,hz,hw,q⟩:=h
 obtain⟨t,rfl⟩:=rx
 obtain⟨u,rfl,ru⟩:=rv.one
 cases ru
 obtain⟨its,r,pl,hz'⟩:=I.list hp
 exact join_listW pl.isList (eQ r) hz hw λt' k=>⟨.str _,H,I.tok k,⟨t',rfl⟩,q⟩
end
section
variable{K:W.Frag}{tt:TT}{te:TE}{cap:List Nat}{σ:St}{H:Hp}{Q:VK}
end
end L2
namespace L2
section
variable{X:Cx}{tg:Expr}
end
section
variable{K:W.Frag}{tt:TT}{cap:List Nat}{σ:St}{H:Hp}{Q:VK}
end
section
variable{P:Program}{w:World}{A:Around}{E:Value->Shared->Prop}{s:Shared}
end
section
variable{X:Cx}
end
end L2
namespace L2
section
variable{P:Program}{w:World}{A:Around}{E:Value->Shared->Prop}{s:Shared}
theorem Dw{e it l:Addr}{i:Nat}{BI:Array Value}{x old:Value}{Q:Option Value->Shared->Prop}(he:IsEnum s.heap e it i old)(hi:s.heap.IsListIter it l i)(hl:s.heap.IsList l BI)(ex:BI[i]? =some x)(ne:e≠it)
  (q:∀ h',IsEnumOut h' e it (i+1) x s.heap.objs.size->h'.IsListIter it l (i+1)->h'.get? s.heap.objs.size=some { cls:=Value.type "tuple",data:=Data.seq #[Value.int i s.toks,x] }->(∀ b o,b≠e->b≠it->s.heap.get? b=some o->h'.get? b=some o) →
   Q (some (.ref s.heap.objs.size)) { s with heap:=h',toks:=s.toks+1 }):wpAny (model P w) A (pyNext (.ref e)) Q E s:=by
 have ty:s.TypeIs (.ref e) "enumerate":=⟨_,he,rfl⟩
 unfold pyNext
 exact wpAny_bind (wpAny_attempt (wpAny_callSpecial?_slot (name:=Str.ofString "__next__") ty F.slot_enumerate_next (wpAny_call_entry F.slot_enumerate_next ty F.entry_enumerate_next
  (enumerate_next_item he hi hl ex ne λh' a1 a2 a3 _ a4=>wpAny_pure (q h' a1 a2 a3 a4)) (F.args_enumerate_next_1 _))))
theorem Dx{e it l:Addr}{i:Nat}{BI:Array Value}{old:Value}{Q:Fin->Shared->Prop}(hh:A.handled=none)(he:IsEnum s.heap e it i old)(hi:s.heap.IsListIter it l i)(hl:s.heap.IsList l BI)(ex:BI[i]? =none)
  (q:∀ h' x,Heap.ExtBut it s.heap h'->(∃ o,h'.get? x=some o/\o.cls=.type "StopIteration")->E (.ref x) { s with heap:=h' }):wpAny (model P w) A (Builtin.«enumerate.__next__» ⟨[.ref e],[]⟩) Q E s:=by
 show wpAny (model P w) A (field (.ref e) 2 >>= _) _ _ s
 refine wpAny_bind (wpAny_field he rfl (x:=.ref it) rfl ?_)
 exact wpAny_bind (Ah (k:=true) hh hi hl ex q)
theorem Dy{e it l:Addr}{i:Nat}{BI:Array Value}{old:Value}{Q:Option Value->Shared->Prop}(hh:A.handled=none)(he:IsEnum s.heap e it i old)(hi:s.heap.IsListIter it l i)(hl:s.heap.IsList l BI)(ex:BI[i]? =none)
  (q:∀ h',Heap.ExtBut it s.heap h'->Q none { s with heap:=h' }):wpAny (model P w) A (pyNext (.ref e)) Q E s:=by
 have ty:s.TypeIs (.ref e) "enumerate":=⟨_,he,rfl⟩
 unfold pyNext
 refine wpAny_bind (wpAny_attempt (wpAny_callSpecial?_slot (name:=Str.ofString "__next__") ty F.slot_enumerate_next (wpAny_call_entry F.slot_enumerate_next ty F.entry_enumerate_next (Dx hh he hi hl ex λh' x kk ⟨o,e1,e2⟩=> ?_) (F.args_enumerate_next_1 _))))
 exact wpAny_bind (wpAny_isInstance (T:="StopIteration") (b:=true) ⟨o,e1,e2⟩ isSubtype_stop (wpAny_pure (q _ kk)))
end
def PK(K:W.Frag)(a:Addr):It :=
  ⟨λi H=>∃ xs x,SqL K H a xs/\xs[i]? =some x,
   λi H v H'=>∃ t,H t=none/\v=.ref t/\∃ x,H'=upd H t (.tup [.int (i:Int),x])/\∀ xs,SqL K H a xs->xs[i]? =some x,
   λi H=>∃ xs,SqL K H a xs/\xs.length<=i⟩
def EnSt(e it l:Addr)(i:Nat)(h:Heap):Prop:=(∃ old,IsEnum h e it i old)/\h.IsListIter it l i
theorem EnSt.lt{e it l:Addr}{i:Nat}{h:Heap}(q:EnSt e it l i h):∀ b∈[e,it],b<h.objs.size:=by
 obtain⟨⟨old,h1⟩,o,h2,_⟩:=q
 intro b hb
 simp only[List.mem_cons,List.not_mem_nil,or_false]at hb
 rcases hb with rfl | rfl
 ·exact Heap.lt_size h1
 ·exact Heap.lt_size h2
theorem Dz{P:Program}{w:World}{K:W.Frag}{elts:List Expr}{kn:Nat}{pos:Pos}{e it l:Addr}(ne:e≠it) :
  JW P w K (.Tuple elts kn pos) (PK K l) [e,it] e (λi h=>EnSt e it l i h) where
 mem:=by simp
 obj:=λi h st b hb=>by
  obtain⟨⟨old,h1⟩,h2⟩:=st
  obtain⟨o4,e4,d4⟩:=ItK.ob (k:=true) h2
  simp only[List.mem_cons,List.not_mem_nil,or_false]at hb
  rcases hb with rfl | rfl
  ·exact⟨_,h1,λv q=>by cases q⟩
  ·exact⟨_,e4,λv q=>by rw[d4]at q;cases q⟩
 keep:=λi h h' ⟨⟨old,h1⟩,h2⟩ q=>⟨⟨old,q e (by simp) _ h1⟩,ItK.up (k:=true) h2 λo x=>q it (by simp) o x⟩
 item:=by
  intro X hP hw hK hc i AA s σ H E I hf st hg
  subst hP hw hK
  obtain⟨xs,x,hx,ex⟩:=hg
  obtain⟨its,rv,d1⟩:=I.seqK (k:=true) hx
  obtain⟨u,hu,ru⟩:=rv.get ex
  have lt:=EnSt.lt st
  obtain⟨⟨old,h1⟩,h2⟩:=st
  refine Dw h1 h2 d1 (x:=u) (by simpa using hu) ne λh' g1 g2 g3 kk=>⟨_,rfl,?_⟩
  refine wpAny_letOwnedTupleGo_enum g1 λh2' z2 sb=> ?_
  have I1:=I.tnew (ys:=[.int (i:Int),x]) (its:=[Value.int (i:Int) s.toks,u]) (.cons (show RelV (.int (i:Int)) (Value.int (i:Int) s.toks)from⟨s.toks,rfl⟩) (.cons ru .nil)) (by show 2<=sizeLine;decide)
  have f':∀ b∈[e,it],b≠s.heap.objs.size:=λb hb=>Nat.ne_of_lt (lt b hb)
  have nz:s.heap.objs.size≠e:=(f' e (by simp)).symm
  have I2:Inv X AA σ (upd H s.heap.objs.size (.tup [.int (i:Int),x])) { s with heap:=h2',toks:=s.toks+1 }:=by
   refine Inv.turnedS (s:={ s with heap:=s.heap.push { cls:=Value.type "tuple",data:=Data.seq #[Value.int i s.toks,u] } }) (t':=s.toks+1) (fp:=[e,it]) I1 (λb o hb eo=> ?_) λb hb=>(hf b hb).upd (f' b hb)
   simp only[List.mem_cons,List.not_mem_nil,or_false,not_or]at hb
   rcases Heap.get?_push_cases eo with⟨e1,e2⟩ | e1
   ·subst e1 e2
    exact sb.extBut _ _ nz g3
   ·exact sb.extBut _ _ hb.1 (kk _ _ hb.1 hb.2 e1)
  exact⟨.ref s.heap.objs.size,_,I2,rfl,⟨s.heap.objs.size,I.fresh,rfl,x,rfl,λys' q=>by rw[I.seqK_inj (k:=true) q hx];exact ex⟩,
   ⟨⟨_,z2⟩,ItK.up (k:=true) g2 λo x=>sb.extBut _ _ ne.symm x⟩,λb hb=>((hf b hb).upd (f' b hb)).1⟩
 done:=by
  intro X hP hw hK hc i AA s σ H E I hf st hg
  subst hP hw hK
  obtain⟨xs,hx,en⟩:=hg
  obtain⟨its,rv,d1⟩:=I.seqK (k:=true) hx
  obtain⟨⟨old,h1⟩,h2⟩:=st
  have e1:=rv.length
  refine Dy (I.ok.hd hc) h1 h2 d1 (by simp;omega) λh' kk=>⟨rfl,I.turnedS (t':=s.toks) (fp:=[e,it]) (λb o hb eo=> ?_) hf⟩
  simp only[List.mem_cons,List.not_mem_nil,or_false,not_or]at hb
  exact kk _ _ hb.2 eo
 self:=λ_ _ _ _ _ st h=>by
  obtain⟨⟨old,h1⟩,_⟩:=st
  exact wpAny_pyIter_enum h1 h
section
variable{X:Cx}
def PL(K:W.Frag)(ta:TA):TI:=λσ H R=>ta σ H λvs H1=>∃ a:Addr,vs=[.ref a]/\(∃ xs,SqL K H1 a xs)/\R (PK K a) H1
theorem eV{a:Expr}{ta:TA}{p pos p2:Pos}{elts:List Expr}{kn:Nat}(hg:Gl X "enumerate")(hm:X.mg "enumerate"=none)(ha:PA X [a] ta)(hs:starEach [a] X.env=[(false,eval a X.env)]:=by rfl) :
  PI X (.Tuple elts kn p2) (.Call (.Name "enumerate" p) [a] [] pos) (PL X.K ta):=by
 intro AA s σ H R I h
 refine Call_ (OF I hg hm boot_enumerate (PyProof.Rows.callWith_type1 (AS (ha pos AA s σ H _ I h) λus s1 hzz=> ?_) (by rw[hs];rfl) (by rfl)))
 obtain⟨vs,H1,I1,r1,q1⟩:=hzz
 obtain⟨l,e,⟨xs,hx⟩,q⟩:=q1
 subst e
 obtain⟨u,rfl,rx⟩:=IU r1
 cases rx
 obtain⟨its,rv,d1⟩:=I1.seqK (k:=true) hx
 refine call_enumerate_list d1 λh' z1 z2 sz kk=>wpAny_pyIter_enum z1 ?_
 have I2:Inv X AA σ H1 { s1 with heap:=h' }:=I1.kept (t':=s1.toks) kk
 refine⟨_,[s1.heap.objs.size+1,s1.heap.objs.size],_,_,H1,rfl,I2,Dz (Nat.ne_of_gt (by omega)),⟨⟨_,z1⟩,z2⟩,λb hb=>I1.fpOk ?_ (I1.hok.fresh ?_),q⟩
 all_goals
  simp only[List.mem_cons,List.not_mem_nil,or_false]at hb
  rcases hb with rfl | rfl<;>omega
end
theorem Eb{K:W.Frag}{as:TA}{g:TG}{s1:TS}{D:Ends}{σ:St}{H:Hp}:EH (PL K as) g s1 D σ H=(as σ H λvs H1=>∃ a:Addr,vs=[.ref a]/\(∃ xs,SqL K H1 a xs)/\GY (PK K a) g s1 D σ H1):=rfl
theorem eY{K:W.Frag}{σ:St}{H:Hp}{a:Addr}{xs:List V}{g:TG}{tb:TS}{D:Ends}(Pv:Nat->St->Hp->Prop)(h0:Pv 0 σ H)(ha:∀ i σ H,i<=xs.length->Pv i σ H->SqL K H a xs)
  (hs:∀ i x σ H t,xs[i]? =some x->Pv i σ H->H t=none->g (.ref t) σ (upd H t (.tup [.int (i:Int),x])) λσ2 H2=>tb { D with nx:=Pv (i+1),ct:=Pv (i+1),bk:=D.nx } σ2 H2) (hd:∀ σ H,Pv xs.length σ H->D.nx σ H):GY (PK K a) g tb D σ H:=by
 refine⟨λi m σ H=>i+m=xs.length/\Pv i σ H,⟨xs.length,by omega,h0⟩,λi m σ H ⟨e,p⟩=> ?_⟩
 have h1:=ha i σ H (by omega) p
 by_cases hi:i<xs.length
 ·refine .inr ⟨⟨xs,xs[i],h1,List.getElem?_eq_getElem hi⟩,Pv (i+1),λσ' H' q=>⟨m - 1,by omega,by omega,q⟩,λv H' ⟨t,ht,e,x,e',q1⟩=> ?_⟩
  subst e e'
  exact hs i x σ H t (q1 _ h1) p ht
 ·have e:i=xs.length:=by omega
  subst e
  exact .inl ⟨⟨xs,h1,Nat.le_refl _⟩,hd _ _ p⟩
def PM(K:W.Frag):R2:=λx y H Q=>PJ K x y H Q\/∃ t ts p xs,x=.ref t/\SqT K H t ts/\y=.ref p/\SqT K H p xs/\(∀ z∈xs,z=.non\/∃ i,z=.int i)/\Q (.bl false) H
theorem eZ:∀ {xs:List V} {us:List Value} {u:Value},Vals xs us->u∈us->∃ x∈xs,RelV x u
 | _,_,_,.nil,h=>by cases h
 | _,_,_,.cons r t,h=>by
  rcases List.mem_cons.mp h with rfl | h
  ·exact⟨_,List.mem_cons_self ..,r⟩
  ·obtain⟨x,hx,e⟩:=eZ t h
   exact⟨x,List.mem_cons_of_mem _ hx,e⟩
theorem Ec{X:Cx}(hu:X.A.units+64<cLine):B2 X (compareOp .In) (PM X.K):=by
 intro AA s σ H x y v u Q I rx ry h
 rcases h with h | ⟨t,ts,p,xs,rfl,ht,rfl,hp,hx,q⟩
 ·exact eO hu AA s σ H x y v u Q I rx ry h
 ·cases rx
  cases ry
  obtain⟨its,r,pl,hz⟩:=I.tuple hp
  obtain⟨tts,tr,tl,_⟩:=I.tuple ht
  have hin:X.A.in1.units<cLine:=by
   have:X.A.in1.units=X.A.units+1:=rfl
   omega
  refine SeqAt.in_tupleAt (λ_=>false) pl (λz hz'=> ?_) ⟨.bl _,H,I,rfl,?_⟩
  ·obtain⟨z0,h0,r0⟩:=eZ r (by simpa using hz')
   rcases hx z0 h0 with rfl | ⟨i,rfl⟩
   ·cases r0
    exact SeqAt.EqAt.none_tuple tl hin
   ·obtain⟨tk,rfl⟩:=r0
    exact SeqAt.EqAt.int_tuple _ _ tl hin
  ·have:its.toArray.any (λ_=>false)=false:=by
    rw[Array.any_eq_false]
    simp
   rw[this]
   exact q
end L2
namespace L2
section
variable{X:Cx}
def fA:V->List V->Hp->VK->Prop:=λx vs H Q=>∃ z y:Str,x=.str z/\vs=[.str y]/\Q (.int (Txt.find z y)) H
theorem Ed:SS X "str.find" fA:=by
 intro AA s σ H x vs v us Q I rx rv h
 obtain⟨z,y,rfl,rfl,q⟩:=h
 obtain⟨t,rfl⟩:=rx
 obtain⟨u,rfl,ru⟩:=rv.one
 obtain⟨t2,rfl⟩:=ru
 exact PySem.SC.find ⟨.int _,H,I.tok _,⟨_,rfl⟩,q⟩
end
end L2
namespace L2
section
variable{P:Program}{w:World}{A:Around}{E:Value->Shared->Prop}{s:Shared}
end
section
variable{X:Cx}
end
end L2
namespace L2
section
variable{X:Cx}{AA:List (Addr × Obj)}{σ:St}{H:Hp}{s:Shared}
theorem Inv.thaw{d:Addr}{o:Obj}{kvs:List (AH × V)}(I:Inv X AA σ H s)(e:H d=some (.frz o (.dK kvs)))(nb:∀ o u,X.H₀ d≠some (.frz o u)):Inv X AA σ (upd H d (.dK kvs)) s:=by
 have nd:∀ {b:Addr},H b=none->b≠d:=λhb z=>by rw[z,e]at hb;cases hb
 have up:∀ {b:Addr},H b=none->upd H d (.dK kvs) b=none:=λhb=>by rw[AF (nd hb)];exact hb
 refine⟨I.ok,I.os,I.bare,⟨I.base.keep,I.base.slot,λb o' e1 e2 e3=>up (I.base.free b o' e1 e2 e3),I.base.there,λb xs eb=> ?_,λb o' u eb=> ?_,λb ps eb=> ?_⟩,I.loc,I.cell,up I.free,λx c ec=>up (I.freeC x c ec),λp hp=> ?_,λb u eb=> ?_,I.len⟩
 ·have:=I.base.tups b xs eb
  rw[AF λz=>by rw[z,e]at this;cases this]
  exact this
 ·have:=I.base.frzs b o' u eb
  rw[AF (show b≠d from λz=>nb o' u (by rw[<-z];exact eb))]
  exact this
 ·obtain⟨more,this⟩:=I.base.tbls b ps eb
  exact⟨more,by rw[AF λz=>by rw[z,e]at this;cases this];exact this⟩
 ·obtain⟨h1,h2,h3⟩:=I.pin p hp
  exact⟨h1,up h2,h3⟩
 ·have st:∀ {b:Addr} {u:HO},ObjOk X.prog X.w H s.heap b u->ObjOk X.prog X.w (upd H d (.dK kvs)) s.heap b u:=λh=>h.stay (λ_ _ _ e=>e) (λb' e'=>by rw[AF (BD e' e (by intro z;cases z))];exact e') λb' xs e'=>by rw[AF (BD e' e (by intro z;cases z))];exact e'
  by_cases hb:b=d
  ·subst hb
   rw[AE]at eb
   cases eb
   exact st (show ObjOk X.prog X.w H s.heap b (.frz o (.dK kvs))from I.hok b _ e).2
  ·rw[AF hb]at eb
   exact st (I.hok b u eb)
def PN(d:Addr)(o:Obj)(kvs:List (AH × V)):It :=
 ⟨λi H=>H d=some (.frz o (.dK kvs))/\i<kvs.length,λi H x H'=>H'=H/\∃ k v,x=kV k/\kvs[i]? =some (k,v),λi H=>H d=some (.frz o (.dK kvs))/\kvs.length<=i⟩
theorem fB{P:Program}{w:World}:∀ {es:List DictEntry} {vs:List (AH × Value)} {i:Nat} {x:AH × Value},Pairs (D4 P w) es vs->vs[i]? =some x->∃ e,es[i]? =some e/\KP x.1 e.key=true
 | _,_,0,_,.cons h _ _,e=>by cases e;exact⟨_,rfl,h⟩
 | _,_,i+1,_,.cons _ _ t,e=>fB (i:=i) t e
theorem fC{P:Program}{w:World}:∀ {es:List DictEntry} {vs:List (AH × Value)},Pairs (D4 P w) es vs->es.length=vs.length
 | _,_,.nil=>rfl
 | _,_,.cons _ _ t=>by rw[List.length_cons,List.length_cons,fC t]
theorem Eg{P:Program}{w:World}{K:W.Frag}{tg:Expr}(d it:Addr){o:Obj}{kvs:List (AH × V)}{es:Array DictEntry}{ep:Nat}(hdat:o.data=.dict es ep):JW P w K tg (PN d o kvs) [it] it (λi h=>h.IsKeyIter it d i es.size ep) where
 mem:=by simp
 obj:=λi h st b hb=>by
  have e:b=it:=by simpa using hb
  subst e
  obtain⟨o,e,c,d⟩:=st
  exact⟨o,e,λv z=>by rw[d]at z;cases z⟩
 keep:=λi h h' st k=>st.at λo e=>k it (by simp) o e
 item:=by
  intro X hP hw hK hc i AA s σ H E I hf st hg
  subst hP hw hK
  obtain⟨hq,hi⟩:=hg
  obtain⟨h1,z,y,vs,r,o',es',ep',g1,g2,g3,g4,g5,g6⟩:=(show ObjOk X.prog X.w H s.heap d (.frz o (.dK kvs))from I.hok d _ hq)
  rw[h1]at g1;cases g1
  rw[hdat]at g3;cases g3
  obtain⟨f0,f1,f2,f3,f4,f5⟩:=hf it (by simp)
  have hl:vs.length=kvs.length:=r.length.symm
  have hix:i<vs.length:=by omega
  obtain⟨x,ex,hx1,hx2⟩:=K3 r (List.getElem?_eq_getElem hix)
  obtain⟨en,ee,hk⟩:=fB g5 (List.getElem?_eq_getElem hix)
  have he:es[i]? =some en:=by rw[<-Array.getElem?_toList];exact ee
  refine Dp st h1 hdat he λh' st' sb=> ?_
  have I1:Inv X AA σ H { s with heap:=h' }:=I.turned (t':=s.toks) (λb o hb e=>(sb.2 b hb).trans e) f0 f1 f3 f4 f5
  obtain⟨o2,e2,c2,d2⟩:=id st'
  have rk:RelV (kV x.1) en.key:=by
   rw[hx1]
   rcases HY hk with⟨j,t,e5,e6⟩ | ⟨j,t,e5,e6⟩
   ·rw[e5,e6];exact⟨t,rfl⟩
   ·rw[e5,e6];exact⟨t,rfl⟩
  exact⟨_,rfl,M6 (s:={ s with heap:=h' }) e2 c2 d2 (by decide) ⟨kV x.1,H,I1,rk,⟨rfl,x.1,x.2,rfl,ex⟩,st',λb hb=>(hf b hb).1⟩⟩
 done:=by
  intro X hP hw hK hc i AA s σ H E I hf st hg
  subst hP hw hK
  obtain⟨hq,hi⟩:=hg
  obtain⟨h1,z,y,vs,r,o',es',ep',g1,g2,g3,g4,g5,g6⟩:=(show ObjOk X.prog X.w H s.heap d (.frz o (.dK kvs))from I.hok d _ hq)
  rw[h1]at g1;cases g1
  rw[hdat]at g3;cases g3
  obtain⟨f0,f1,f2,f3,f4,f5⟩:=hf it (by simp)
  have hes:es.size=kvs.length:=by rw[<-Array.length_toList,fC g5];exact r.length.symm
  exact Dq (I.ok.hd hc) st h1 hdat (by omega) λh' eb=>⟨rfl,I.turned (t':=s.toks) (λb o hb e=>eb b o hb e) f0 f1 f3 f4 f5⟩
 self:=λ_ _ _ _ _ st h=>wpAny_pyIter_keyiter st h
variable{tg iter F6:Expr}{FJ:List Expr}{scope:Scope}{pos:Pos}{td:TE}{g:TG}{tt:TT}{te:TE}{tn cn:List Str}{cap:List Nat}
end
end L2
namespace L2
theorem FnScope.go{N P:List Str}{sc:Scope}(h1:sc.kind=.function:=by exact rfl)(h2:sc.isCoroutine=false:=by exact rfl)(h3:sc.isGenerator=false:=by exact rfl)(h4:N.Nodup:=by decide +kernel)(h5:N.take P.length=P:=by exact rfl)(h6:∀ x∈P,sc.names.lookup x=some .local\/sc.names.lookup x=some .cell:=by decide +kernel)(h7:∀ y∈sc.names,y.2≠.free:=by decide +kernel):FnScope N P sc:=⟨h1,h2,h3,h4,h5,h6,h7⟩
theorem Room.m{j k:Nat}{A:Around}(r:Room k A)(h:j<=k:=by decide):Room j A:=r.mono h
abbrev FP(P:Program)(w:World)(K:W.Frag)(mg:Str->Option Value)(base:Heap)(k:Nat)(f:Addr)(fd:FuncData)(ps:List Str)(sp:Sp):Prop:=FnOk P w K mg base (D5 P w) k f fd ps sp
theorem Fun.okF{P:Program}{w:World}{K:W.Frag}{mg:Str->Option Value}{base:Heap}{x qual:Str}{st:Stmt}{f:Addr}{fd:FuncData}{N ps:List Str}{k:Nat}{sp:Sp}(F:Fun K x qual st f fd)(rd:(St->XK)->TS)(S:FnScope N ps (A1 st))(len:∀ {vs H Q E},sp vs H Q E->vs.length=ps.length)
  (ok:∀ {vs H Q E},sp vs H Q E->rd (λ_=>E) { nx:=λ_ H'=>Q .non H',rt:=Q } (start N vs) H)
  (hb:∀ (BR:Value) (A:Around) (outer:List Env) (s:Shared) (H:Hp) (E:XK),Room k (A.deeper (envOfC qual (A1 st) s.heap.objs.size f BR))->XOk (HF (D5 P w) P w K mg base N qual (A1 st) f BR A outer s H E) (λ_=>E) →
   FZ (HF (D5 P w) P w K mg base N qual (A1 st) f BR A outer s H E) (GS st) (rd λ_=>E)):FP P w K mg base (k+1) f fd ps sp :=
 F.okE S (λ_ _ _ _=>len) λBR A outer s H _ _ E hr h=>⟨_,hb BR A outer s H E hr wV,ok h⟩
section
variable{X:Cx}{pos:Pos}
theorem BB(i:Nat){x:Str}{e:Expr}{te:TE}{pos':Pos}(hN:X.N.Nodup)(he:PE X e te)(hi:X.N[i]? =some x:=by exact rfl)(hx:LG X.env.scope x:=by exact Or.inl rfl)(hs:swapsWith e (some (.Name x pos')) pos.line X.env=pure false:=by rfl)(hf:X.fn x=true\/X.env.scope.names.lookup x=some .local:=by first | exact .inl rfl | exact .inr rfl | assumption) :
  PS X (.Assign [.Name x pos'] e pos) (A0 te (AN i)):=M5 hN hi hx he hs hf
theorem CT(i:Nat){x:Str}(hN:X.N.Nodup)(hi:X.N[i]? =some x:=by exact rfl)(hx:LG X.env.scope x:=by exact Or.inl rfl)(hf:X.fn x=true\/X.env.scope.names.lookup x=some .local:=by first | exact .inl rfl | exact .inr rfl | assumption):PG X (.Name x pos) (AN i):=tU hN hi hx hf
end
end L2
namespace L2
section
variable{X:Cx}{pos:Pos}
theorem GZ{a:Expr}{ta:TE}{i:Int}{j pos'}(ha:PE X a ta):PE X (.Subscript a (.Constant (.int i) j pos') pos) (AG (CP X.K) ta (tC (.int i))):=CD CF ha AQ (λ_ _=>rfl)
theorem FnScope.cp{scope outer:Scope}{N P tn cn:List Str}{cap:List Nat}(_:FnScope N P outer)(h:TX scope outer N cn cap=true:=by decide +kernel)(h1:X.env.scope=outer:=by exact rfl)(h2:X.N=N:=by exact rfl):LS X scope tn cn cap:=xN h1 h2 h
end
section
variable{X:Cx}{E:St->XK}{k j:Nat}{x m:Str}{ps:List Str}{sp:Sp}{C:Addr}{p pos CI:Pos}{e o e1 e2 e3:Expr}{es:List Expr}{ta tb tc td:TE}{t:TA}
theorem AI(h:PE X e ta)(s:starEach [e] X.env=(false,eval e X.env)::starEach [] X.env:=by rfl):PA X [e] (DM ta BW):=IV h FO s
theorem BT(h:PE X e ta)(h1:PE X e1 tb)(s:starEach [e,e1] X.env=(false,eval e X.env)::starEach [e1] X.env:=by rfl)(s1:starEach [e1] X.env=(false,eval e1 X.env)::starEach [] X.env:=by rfl):PA X [e,e1] (DM ta (DM tb BW)):=IV h (AI h1 s1) s
theorem DR(h:PE X e ta)(h1:PE X e1 tb)(h2:PE X e2 tc)(s:starEach [e,e1,e2] X.env=(false,eval e X.env)::starEach [e1,e2] X.env:=by rfl)(s1:starEach [e1,e2] X.env=(false,eval e1 X.env)::starEach [e2] X.env:=by rfl)(s2:starEach [e2] X.env=(false,eval e2 X.env)::starEach [] X.env:=by rfl):PA X [e,e1,e2] (DM ta (DM tb (DM tc BW))):=IV h (BT h1 h2 s1 s2) s
theorem JG(h:PE X e ta)(h1:PE X e1 tb)(h2:PE X e2 tc)(h3:PE X e3 td)(s:starEach [e,e1,e2,e3] X.env=(false,eval e X.env)::starEach [e1,e2,e3] X.env:=by rfl)(s1:starEach [e1,e2,e3] X.env=(false,eval e1 X.env)::starEach [e2,e3] X.env:=by rfl)(s2:starEach [e2,e3] X.env=(false,eval e2 X.env)::starEach [e3] X.env:=by rfl)(s3:starEach [e3] X.env=(false,eval e3 X.env)::starEach [] X.env:=by rfl):PA X [e,e1,e2,e3] (DM ta (DM tb (DM tc (DM td BW)))):=IV h (DR h1 h2 h3 s1 s2 s3) s
theorem ER(c:DT X.prog X.w X.K X.mg X.base k x ps sp)(hr:Room j X.A)(hx:XOk X E)(ha:PA X (e::es) t)(hj:k<=j:=by decide)(hg:Gl X x:=by exact rfl)(hdb:(x ==("__debug__":Str))=false:=by decide)
  (he:starEach (e::es) X.env=(false,eval e X.env)::starEach es X.env:=by rfl) (CJ:(backTo pos (starEach es X.env)).any (·.1)=false:=by rfl):PE X (.Call (.Name x p) (e::es) [] pos) (DD sp [] E t):=NC c (hr.mono hj) hx.passes hg ha hdb he CJ
theorem A6{pl:Sem Bool}(he:PE X o ta)(cl:Cls X.K C)(c:AU X.prog X.w X.K X.mg X.base C k m ps sp)(hr:Room j X.A)(hx:XOk X E)(ha:PA X (e::es) t)(hj:k<=j:=by decide)
  (hst:starEach (e::es) X.env=(false,eval e X.env)::starEach es X.env:=by rfl) (CJ:(backTo pos (starEach es X.env)).any (·.1)=false:=by rfl)
  (ht:eval (.Call (.Attribute o m CI) (e::es) [] pos) X.env=(do
   let ov ← eval o X.env
   standAt CI.atName
   let (f,first) ← holding [ov] (getMethod ov m pl)
   callWith pos f first (backTo pos (starEach (e::es) X.env)) (backToKw pos (keywordEach [] X.env))):=by rfl):PE X (.Call (.Attribute o m CI) (e::es) [] pos) (AR C m sp [] E ta t):=FD he cl c (hr.mono hj) hx.passes ha hst CJ ht
theorem ES{pl:Sem Bool}(he:PE X o ta)(cl:Cls X.K C)(c:AU X.prog X.w X.K X.mg X.base C k m ps sp)(hr:Room j X.A)(hx:XOk X E)(hj:k<=j:=by decide)
  (ht:eval (.Call (.Attribute o m CI) [] [] pos) X.env=(do
   let ov ← eval o X.env
   standAt CI.atName
   let (f,first) ← holding [ov] (getMethod ov m pl)
   callWith pos f first (backTo pos (starEach [] X.env)) (backToKw pos (keywordEach [] X.env))):=by rfl):PE X (.Call (.Attribute o m CI) [] [] pos) (AR C m sp [] E ta BW):=wW he cl c (hr.mono hj) hx.passes ht
end
theorem Fun.okL{P:Program}{w:World}{K:W.Frag}{mg:Str->Option Value}{base:Heap}{x qual:Str}{st:Stmt}{f:Addr}{fd:FuncData}{N ps:List Str}{k:Nat}{sp:Sp}(F:Fun K x qual st f fd)(rd:(St->XK)->TS)(S:FnScope N ps (A1 st))
  (ok:∀ {vs H Q E},sp vs H Q E->rd (λ_=>E) { nx:=λ_ H'=>Q .non H',rt:=Q } (start N vs) H)
  (hb:∀ (BR:Value) (A:Around) (outer:List Env) (s:Shared) (H:Hp) (E:XK),Room k (A.deeper (envOfC qual (A1 st) s.heap.objs.size f BR))->XOk (HF (D5 P w) P w K mg base N qual (A1 st) f BR A outer s H E) (λ_=>E) →
   FZ (HF (D5 P w) P w K mg base N qual (A1 st) f BR A outer s H E) (GS st) (rd λ_=>E))
  (len:∀ {vs H Q E},sp vs H Q E->vs.length=ps.length:=by
   intro _ _ _ _ h
   repeat (first | (obtain⟨rfl,_⟩:=h;rfl) | (refine Or.elim h ?_ ?_<;>(clear h;intro h)) | obtain⟨_,h⟩:=h)):FP P w K mg base (k+1) f fd ps sp:=F.okF rd S len ok hb
theorem Eh{α :Type}{P:List α ->Prop}(h:P []):∀ us:List α,us.length=0->P us
 | [],_=>h
theorem UC{α :Type}{P:List α ->Prop}(h:∀ a,P [a]):∀ us:List α,us.length=1->P us
 | [a],_=>h a
theorem UD{α :Type}{P:List α ->Prop}(h:∀ a b,P [a,b]):∀ us:List α,us.length=2->P us
 | [a,b],_=>h a b
theorem UE{α :Type}{P:List α ->Prop}(h:∀ a b c,P [a,b,c]):∀ us:List α,us.length=3->P us
 | [a,b,c],_=>h a b c
theorem UF{α :Type}{P:List α ->Prop}(h:∀ a b c d,P [a,b,c,d]):∀ us:List α,us.length=4->P us
 | [a,b,c,d],_=>h a b c d
theorem UG{α :Type}{P:List α ->Prop}(h:∀ a b c d e,P [a,b,c,d,e]):∀ us:List α,us.length=5->P us
 | [a,b,c,d,e],_=>h a b c d e
theorem UH{α :Type}{P:List α ->Prop}(h:∀ a b c d e f,P [a,b,c,d,e,f]):∀ us:List α,us.length=6->P us
 | [a,b,c,d,e,f],_=>h a b c d e f
theorem UI{α :Type}{P:List α ->Prop}(h:∀ a b c d e f g,P [a,b,c,d,e,f,g]):∀ us:List α,us.length=7->P us
 | [a,b,c,d,e,f,g],_=>h a b c d e f g
def UJ(x qual:Str)(st:Stmt)(ps:List Str):Prop:=∀ (kV doc pm:Value) (an:Option Addr) (BR ct:Value) (us:List Value),us.length=ps.length->bindArgs (W.fnOf x qual (JC st) (GS st) (A1 st) .none kV doc pm an BR ct) ⟨us,[]⟩=pure (ps.zip us)
structure GF(K:W.Frag)(x:Str)(st:Stmt):Prop where
 ex:∃ (f:Addr) (fd:FuncData),W.nsIn K mainGlobals x=some (some (.ref f))/\Fun K x x st f fd
structure GM(K:W.Frag)(C:Addr)(m q:Str)(st:Stmt):Prop where
 ex:∃ (f:Addr) (fd:FuncData),W.findIn K (.ref C) m=some (some (.ref f))/\W.isFn K (.ref f)=true/\Fun K m q st f fd
structure GC(K:W.Frag)(C:Addr)(x:Str):Prop where
 ac:W.nsIn K mainGlobals x=some (some (.ref C))
 c:Cls K C
structure GN(K:W.Frag)(C:Addr)(x q:Str)(st:Stmt):Prop where
 m:GM K C "__init__" q st
 mks:W.makesIn K C=true
 kc:W.keepIn K (.ref C)=true
 ac:W.nsIn K mainGlobals x=some (some (.ref C))
structure GX(K:W.Frag)(C:Addr)(x:Str):Prop where
 ac:W.nsIn K mainGlobals x=some (some (.ref C))
 ex:W.excIn K C [.type "ValueError",.type "Exception",.type "BaseException",.type "object"] "ValueError.__new__"=true
section
variable{K:W.Frag}{x q:Str}{st:Stmt}{C f:Addr}{oc:Value}{od an:Option Addr}{osl:Array (Option Value)}{kV doc pm BR ct:Value}
theorem gf(a:W.nsIn K mainGlobals x=some (some (.ref f)))(l:K.lookup f=some ⟨oc,od,.func (W.fnOf x x (JC st) (GS st) (A1 st) .none kV doc pm an BR ct),osl⟩)
  (c:W.codeIn K BR x=true) (k:W.keepIn K (.ref f)=true):GF K x st:=⟨_,_,a,cX l c k⟩
theorem gm(a:W.findIn K (.ref C) x=some (some (.ref f)))(l:K.lookup f=some ⟨oc,od,.func (W.fnOf x q (JC st) (GS st) (A1 st) .none kV doc pm an BR ct),osl⟩)
  (c:W.codeIn K BR q=true) (k:W.keepIn K (.ref f)=true) (i:W.isFn K (.ref f)=true):GM K C x q st:=⟨_,_,a,i,cX l c k⟩
theorem gn{y:Str}(a:W.findIn K (.ref C) "__init__"=some (some (.ref f)))(l:K.lookup f=some ⟨oc,od,.func (W.fnOf "__init__" q (JC st) (GS st) (A1 st) .none kV doc pm an BR ct),osl⟩)
  (c:W.codeIn K BR q=true) (k:W.keepIn K (.ref f)=true) (i:W.isFn K (.ref f)=true) (m:W.makesIn K C=true) (n:W.keepIn K (.ref C)=true) (s:W.nsIn K mainGlobals y=some (some (.ref C))):GN K C y q st:=⟨gm a l c k i,m,n,s⟩
theorem gc(a:W.nsIn K mainGlobals x=some (some (.ref C)))(l:W.plainGet K C Str.empty=true)(c:W.hasDictIn K C=true)(k:W.plainOver K C=true)(i:W.findIn K (.ref C) "__setattr__"=some (some (.builtin "object.__setattr__"))):GC K C x:=⟨a,l,c,k,i⟩
end
section
variable{P:Program}{w:World}{K:W.Frag}{h:Heap}{mg:Str->Option Value}{base:Heap}{x q:Str}{st:Stmt}{C:Addr}{k:Nat}{ps:List Str}{sp:Sp}
theorem GF.cal(g:GF K x st)(X:K.In h)(G:h.Ns mainGlobals mg)(ok:∀ {f fd},Fun K x x st f fd->FP P w K mg base k f fd ps sp)
  (b:UJ x x st ps:=by intro _ _ _ _ _ _;first | exact UC λ_=>rfl | exact UD λ_ _=>rfl | exact UE λ_ _ _=>rfl | exact UF λ_ _ _ _=>rfl | exact UG λ_ _ _ _ _=>rfl | exact Eh rfl | exact UH λ_ _ _ _ _ _=>rfl | exact UI λ_ _ _ _ _ _ _=>rfl):DT P w K mg base k x ps sp:=by
 obtain⟨f,fd,a,F⟩:=g.ex
 exact⟨f,fd,ok F,W.mg_of X G a,F.kp,F.binds b⟩
theorem GM.cal(g:GM K C x q st)(ok:∀ {f fd},Fun K x q st f fd->FP P w K mg base k f fd ps sp)
  (b:UJ x q st ps:=by intro _ _ _ _ _ _;first | exact UC λ_=>rfl | exact UD λ_ _=>rfl | exact UE λ_ _ _=>rfl | exact UF λ_ _ _ _=>rfl | exact UG λ_ _ _ _ _=>rfl | exact UH λ_ _ _ _ _ _=>rfl | exact UI λ_ _ _ _ _ _ _=>rfl):AU P w K mg base C k x ps sp:=by
 obtain⟨f,fd,a,i,F⟩:=g.ex
 exact⟨f,fd,ok F,⟨a,i,F.kp⟩,F.binds b⟩
theorem GN.cal(g:GN K C x q st)(X:K.In h)(G:h.Ns mainGlobals mg)(ok:∀ {f fd},Fun K "__init__" q st f fd->FP P w K mg base k f fd ps sp)
  (b:UJ "__init__" q st ps:=by intro _ _ _ _ _ _;first | exact UC λ_=>rfl | exact UD λ_ _=>rfl | exact UE λ_ _ _=>rfl | exact UF λ_ _ _ _=>rfl | exact UG λ_ _ _ _ _=>rfl | exact UH λ_ _ _ _ _ _=>rfl | exact UI λ_ _ _ _ _ _ _=>rfl):K1 P w K mg base C k x ps sp:=by
 obtain⟨f,fd,a,i,F⟩:=g.m.ex
 exact⟨f,fd,ok F,⟨g.mks,a,i,g.kc⟩,W.mg_of X G g.ac,F.binds b⟩
theorem GF.law{fa:Addr}(g:GF K x st)(X:K.In h)(G:h.Ns mainGlobals mg)(hfa:mg x=some (.ref fa))
  (b:∀ (kV doc pm:Value) (an:Option Addr) (BR ct:Value) (s:Shared) (v:Value),BindsTo s (W.fnOf x x (JC st) (GS st) (A1 st) .none kV doc pm an BR ct) ⟨[v],[]⟩ [("script",v)]) :
  ∃ fd:FuncData,(∀ (s:Shared) (v:Value),BindsTo s fd ⟨[v],[]⟩ [("script",v)])/\Fun K x x st fa fd:=by
 obtain⟨f,fd,a,F⟩:=g.ex
 have e:=hfa.symm.trans (W.mg_of X G a)
 cases e
 obtain⟨oc,od,kV,doc,pm,an,BR,ct,osl,rfl,lk,IN⟩:=F.ex
 exact⟨_,b kV doc pm an BR ct,F⟩
end
end L2
namespace L2
section
variable{X:Cx}{o i value:Expr}{td ty tv:TE}{tpos pos:Pos}
end
section
variable{X:Cx}{tg:Expr}
end
section
variable{K:W.Frag}{g:TG}{tt:TT}{te:TE}{k:Nat}{cap:List Nat}{σ:St}{H:Hp}{Q:VK}
end
end L2
namespace L2
section
variable{prog:Program}{w:World}{K:Type}[DecidableEq K]{knd:HeapKind prog w K}{A:Around}{E:Value->Shared->Prop}{s:Shared}
end
theorem Ej{H:Hp}{p:Addr}{o o':HO}:upd (upd H p o) p o'=upd H p o':=by
 funext x
 by_cases e:x=p
 ·rw[e,AE,AE]
 ·rw[AF e,AF e,AF e]
theorem Ek{td ty tx:TE}{σ:St}{H:Hp}{Q:VK}:S6 td ty tx σ H Q=(td σ H λx H1=>∃ a,x=.ref a/\LR H1 a/\ty σ H1 λy H2=>tx σ H2 λz H3=>∃ o,DGet H3 a y o/\Q (o.getD z) H3):=rfl
end L2
namespace L2
theorem fE{d:Addr}{ob:Obj}{kvs:List (AH × V)}{g:TG}{tb:TS}{D:Ends}{σ:St}{H:Hp}(Pv:Nat->St->Hp->Prop)(h0:Pv 0 σ H)(hl:∀ i σ H,i<=kvs.length->Pv i σ H->H d=some (.frz ob (.dK kvs)))
  (hs:∀ i k v σ H,kvs[i]? =some (k,v)->Pv i σ H->g (kV k) σ H λσ2 H2=>tb { D with nx:=Pv (i+1),ct:=Pv (i+1),bk:=D.nx } σ2 H2) (hd:∀ σ H,Pv kvs.length σ H->D.nx σ H):GY (PN d ob kvs) g tb D σ H:=by
 refine⟨λi m σ H=>m=kvs.length - i/\i<=kvs.length/\Pv i σ H,⟨_,rfl,Nat.zero_le _,h0⟩,?_⟩
 rintro i m σ H ⟨rfl,hi,p⟩
 by_cases BK:i<kvs.length
 ·refine .inr ⟨⟨hl i σ H hi p,BK⟩,Pv (i+1),λσ' H' p'=>⟨_,by omega,rfl,by omega,p'⟩,?_⟩
  rintro x H' ⟨rfl,k,v,rfl,e1⟩
  exact hs i k v σ H' e1 p
 ·have e:i=kvs.length:=by omega
  subst e
  exact .inl ⟨⟨hl _ σ H hi p,hi⟩,hd σ H p⟩
end L2
namespace L2
def Ends.thaw(D:Ends)(d:Addr)(o:Obj)(kvs:List (AH × V)):Ends:={ D with nx:=λσ H=>H d=some (.frz o (.dK kvs))/\D.nx σ (upd H d (.dK kvs)),rt:=λv H=>H d=some (.frz o (.dK kvs))/\D.rt v (upd H d (.dK kvs)) }
def PQ(te:TE)(g:TG)(tb:TS):TS:=λD σ H=>te σ H λx H1=>∃ d kvs,x=.ref d/\H1 d=some (.dK kvs)/\∀ o,GY (PN d o kvs) g tb (D.thaw d o kvs) σ (upd H1 d (.frz o (.dK kvs)))
theorem El{te:TE}{g:TG}{s1:TS}{D:Ends}{σ:St}{H:Hp}:PQ te g s1 D σ H=(te σ H λx H1=>∃ d kvs,x=.ref d/\H1 d=some (.dK kvs)/\∀ o,GY (PN d o kvs) g s1 (D.thaw d o kvs) σ (upd H1 d (.frz o (.dK kvs)))):=rfl
section
variable{X:Cx}{tg:Expr}
theorem fH{iter:Expr}{body:List Stmt}{te:TE}{g:TG}{tb:TS}{pos:Pos}(hp:PassesOwn (model X.prog X.w) X.A X.env X.xe)(hc:X.calm=true)(hi:PE X iter te)(hg:PG X tg g)(hb:FZ X body tb)
  (hs:∀ x,foldedSetIterable iter X.env x=pure x:=by intro _;rfl):PS X (.For tg iter body [] pos) (PQ te g tb):=by
 intro AA s σ H D I h
 have key:wpAny (model X.prog X.w) X.A (eval iter X.env) (λv s1=>wpAny (model X.prog X.w) X.A (pyIter v) (SB X AA σ tg λJ H2=>∃ d o kvs,(∀ o u,X.H₀ d≠some (.frz o u))/\GY J g tb (D.thaw d o kvs) σ H2) X.xe s1) X.xe s:=by
  refine AS (hi AA s σ H _ I h) λv s1 hzz=> ?_
  obtain⟨x,H1,I1,r1,d,kvs,e,hd,q⟩:=hzz
  subst e
  cases r1
  have nb:∀ o u,X.H₀ d≠some (.frz o u):=λo u e=>by
   have:=I1.base.frzs d o u e
   rw[hd]at this
   cases this
  obtain⟨z,y,vs,r,o,es,ep,g1,g2,g3,g4,g5,g6⟩:=(show ObjOk X.prog X.w H1 s1.heap d (.dK kvs)from I1.hok d _ hd)
  refine Dm y g1 g2 g3 ?_
  have new:ObjOk X.prog X.w (upd H1 d (.frz o (.dK kvs))) s1.heap d (.frz o (.dK kvs)):=⟨g1,(I1.hok d _ hd).stay (λ_ _ _ e=>e) (λb e=>by rw[AF (BD e hd (by intro z;cases z))];exact e) λb xs e=>by rw[AF (BD e hd (by intro z;cases z))];exact e⟩
  have I2:Inv X AA σ (upd H1 d (.frz o (.dK kvs))) { s1 with heap:=s1.heap,toks:=s1.toks }:=I1.write (by rw[hd];trivial) (.inl rfl) (λ_ _ _ e=>e) ⟨o,g1⟩ new
  have I3:Inv X AA σ (upd H1 d (.frz o (.dK kvs))) { s1 with heap:=s1.heap.push { cls:=.type "dict_keyiterator",data:=.fields #[.ref d,.int 0 0,.int es.size 0,.int ep 0] } }:=I2.kept (t':=s1.toks) λb o e=>Heap.get?_push_of_some _ e
  exact⟨_,[s1.heap.objs.size],_,_,_,rfl,I3,Eg d s1.heap.objs.size g3,⟨_,Heap.get?_push_size _ rfl,rfl,by simp⟩,λb hb=>by
   have e:b=s1.heap.objs.size:=by simpa using hb
   subst e
   exact I2.fpOk (Nat.le_refl _) (I2.hok.fresh (Nat.le_refl _)),d,o,kvs,nb,q o⟩
 refine wpAny_For (AS key λv s1 h1=>AS h1 λitv s2 h2=> ?_) hs
 obtain⟨it,fp,tn,J,H2,e,I2,T,st2,f2,d,o,kvs,nb,W,⟨m0,w0⟩,turn⟩:=h2
 subst e
 have stat:∀ {H':Hp},(∀ b∈fp,H' b=none)->∀ b∈fp,FpOk X AA H' b:=λhn b hb=>⟨hn b hb,(f2 b hb).2⟩
 refine codeAny_forLoop_any (λn s'=>∃ i σ' H',Inv X AA σ' H' s'/\tn i s'.heap/\(∀ b∈fp,H' b=none)/\W i n σ' H') ?_ m0 ⟨0,σ,H2,I2,st2,λb hb=>(f2 b hb).1,w0⟩
 rintro n s3 ⟨i,σ3,H3,I3,st3,fr3,w3⟩
 rcases turn i n σ3 H3 w3 with⟨stop,qe,qn⟩ | ⟨go,N,hN,step⟩
 ·refine wpAny_passesOwn hp (AS (T.done X rfl rfl rfl hc i AA s3 σ3 H3 X.xe I3 (stat fr3) st3 stop) λr s4 ⟨hr,I4⟩=> ?_)
  subst hr
  exact wpAny_execs_nil ⟨σ3,_,I4.thaw qe nb,qn⟩
 ·refine wpAny_passesOwn hp (AS (T.item X rfl rfl rfl hc i AA s3 σ3 H3 X.xe I3 (stat fr3) st3 go) λr s4 hzz=> ?_)
  obtain⟨u,hr,h4⟩:=hzz
  subst hr
  refine wpAny_passesOwn hp (AS h4 λ_ s5 hzz=> ?_)
  obtain⟨x,H5,I5,r5,y5,st5,fr5⟩:=hzz
  have I5':=I5.pinned (stat fr5) (T.obj _ _ st5)
  refine wpAny_passesOwn hp (AS (hg _ s5 σ3 H5 x u _ I5' r5 (step x H5 y5)) λ_ s6 hzz=> ?_)
  obtain⟨σ6,H6,I6,q6⟩:=hzz
  refine wpAny_passesOwn hp (AS (hb _ s6 σ6 H6 _ I6 q6) λf s7 q7=> ?_)
  have again:∀ {σ7:St} {H7:Hp},Inv X (AA++LJ fp s5.heap) σ7 H7 s7->N σ7 H7->∃ m,m<n/\∃ i σ' H',Inv X AA σ' H' s7/\tn i s7.heap/\(∀ b∈fp,H' b=none)/\W i m σ' H':=λ{σ7 H7} I7 n7=>by
   obtain⟨m',hm,w7⟩:=hN σ7 H7 n7
   refine⟨m',hm,i+1,σ7,H7,I7.unpinned,T.keep _ _ _ st5 λb hb o e=>(I7.pin (b,o) (List.mem_append_right _ (List.mem_append_right _ (LK hb e)))).1,λb hb=> ?_,w7⟩
   obtain⟨o,e,d⟩:=T.obj _ _ st5 b hb
   exact(I7.pin (b,o) (List.mem_append_right _ (List.mem_append_right _ (LK hb e)))).2.1
  cases f with
  | next=>obtain⟨σ7,H7,I7,n7⟩:=q7;exact again I7 n7
  | cont=>obtain⟨σ7,H7,I7,n7⟩:=q7;exact again I7 n7
  | brk=>obtain⟨σ7,H7,I7,q7,q8⟩:=q7;exact⟨σ7,_,I7.unpinned.thaw q7 nb,q8⟩
  | ret v=>obtain⟨x7,σ7,H7,I7,r7,q7,q8⟩:=q7;exact⟨x7,σ7,_,I7.unpinned.thaw q7 nb,r7,q8⟩
def fI(K:W.Frag):R2:=λx y H Q=>∃ ds d,Rep K H y (.list ds)/\Rep K H x d/\PyData.canLayAll0 ds=true/\d.canLay0=true/\d.depth<=60/\Q (.bl (ds.any λe=>PyData.eqv e d)) H
theorem Em(hu:X.A.units+64<cLine):B2 X (compareOp .In) (fI X.K):=by
 intro AA s σ H x y v u Q I rx ry h
 obtain⟨ds,d,r1,r2,c1,c2,hd,q⟩:=h
 obtain⟨as,ra⟩:=r1.reads I ry
 obtain⟨bs,rb⟩:=r2.reads I rx
 refine SeqAt.in_list_reads ra rb c1 c2 ?_ ⟨.bl _,H,I,rfl,q⟩
 have:=Nat.min_le_right (PyData.depthAll ds) d.depth
 omega
end
end L2
namespace L2
abbrev Ad:=String->Addr
def SameBut(F:Addr->Prop)(H H':Hp):Prop:=∀ b o,H b=some o->¬ F b->H' b=some o
structure ED(K:W.Frag)(a:Ad):Prop where
 cl:Cls K (a "Plank")
 nC:NoAttr K (a "Plank") "contents"
 nW:NoAttr K (a "Plank") "width"
 nN:NoAttr K (a "Plank") "written"
def pf(cl:Addr)(w n:Int):List (Str × V):=[("contents",.ref cl),("width",.int w),("written",.int n)]
theorem fJ:¬ ("contents":Str)="width":=by decide +kernel
theorem UK:¬ ("contents":Str)="written":=by decide +kernel
theorem UL:¬ ("width":Str)="written":=by decide +kernel
theorem PR(cl:Addr)(w n:Int):(pf cl w n).lookup ("contents":Str)=some (V.ref cl):=by simp[pf]
theorem fK(cl:Addr)(w n:Int):(pf cl w n).lookup ("width":Str)=some (V.int w):=by
 have h:(("width":Str) == "contents")=false:=beq_eq_false_iff_ne.mpr (Ne.symm fJ)
 simp[pf,List.lookup_cons,h]
theorem Ep(cl:Addr)(w n:Int):(pf cl w n).lookup ("written":Str)=some (V.int n):=by
 have h:(("written":Str) == "contents")=false:=beq_eq_false_iff_ne.mpr (Ne.symm UK)
 have h2:(("written":Str) == "width")=false:=beq_eq_false_iff_ne.mpr (Ne.symm UL)
 simp[pf,List.lookup_cons,h,h2]
theorem Ev(cl:Addr)(w n:Int):A7 "written" (.int n) (A7 "width" (.int w) (A7 "contents" (.ref cl) []))=pf cl w n:=by
 simp only[A7,pf]
 rw[if_neg fJ]
 simp only[A7]
 rw[if_neg UK,if_neg UL]
theorem Ew(cl:Addr)(w n m:Int):A7 "written" (.int m) (pf cl w n)=pf cl w m:=by
 simp only[A7,pf]
 rw[if_neg UK,if_neg UL]
 simp
theorem LZ(cl:Addr)(w n:Int){m:Str}(h1:¬ m="contents")(h2:¬ m="width")(h3:¬ m="written"):(pf cl w n).lookup m=none:=by
 have e1:=beq_eq_false_iff_ne.mpr h1
 have e2:=beq_eq_false_iff_ne.mpr h2
 have e3:=beq_eq_false_iff_ne.mpr h3
 simp[pf,List.lookup_cons,e1,e2,e3]
structure PlankAt(a:Ad)(H:Hp)(p cl:Addr)(w:Nat)(rows:List (List V))(n:Nat):Prop where
 ob:∃ dx,H p=some (.ins (a "Plank") dx (pf cl w n))
 ls:∃ ts:List Addr,H cl=some (.lst (ts.map V.ref))/\Paired (λt r=>H t=some (.tup r)) ts rows
 wd:∀ r∈rows,r.length=w
 sz:rows.length<=1000
 sw:w<=1000
theorem PlankAt.ne{a:Ad}{H:Hp}{p cl:Addr}{w:Nat}{rows:List (List V)}{n:Nat}(P:PlankAt a H p cl w rows n):p≠cl:=by
 obtain⟨⟨dx,h1⟩,⟨ts,h2,_⟩,_⟩:=P
 exact BD h1 h2 (by intro z;cases z)
theorem PlankAt.same{a:Ad}{H H':Hp}{p cl:Addr}{w:Nat}{rows:List (List V)}{n:Nat}(P:PlankAt a H p cl w rows n)(s:Same H H'):PlankAt a H' p cl w rows n:=by
 obtain⟨⟨dx,e1⟩,⟨ts,e2,e3⟩,r1,r2,r3⟩:=P
 exact⟨⟨dx,s _ _ e1⟩,⟨ts,s _ _ e2,Paired.mapP e3 λt r q=>s _ _ q⟩,r1,r2,r3⟩
def PU(K:W.Frag)(a:Ad):Sp:=λvs H Q _=>∃ (p dx:Addr) (m w:Nat),vs=[.ref p,.int m,.int w]/\ED K a/\H p=some (.ins (a "Plank") dx [])/\m<=1000/\1<=w/\w<=1000 ∧
 ∀ cl H',H cl=none->PlankAt a H' p cl w (List.replicate m (List.replicate w .non)) 0->SameBut (· =p) H H'->Q .non H'
def L0(K:W.Frag)(a:Ad):Sp:=λvs H Q _=>∃ p cl w rows n,vs=[.ref p]/\ED K a/\PlankAt a H p cl w rows n/\Q (.int rows.length) H
def PY(K:W.Frag)(a:Ad):Sp:=λvs H Q _=>∃ (p cl:Addr) (w:Nat) (rows:List (List V)) (n:Nat),vs=[.ref p]/\ED K a/\PlankAt a H p cl w rows n/\Q (.int w) H
def KD(K:W.Frag)(a:Ad):Sp:=λvs H Q E=>∃ (p cl:Addr) (w:Nat) (rows:List (List V)) (n:Nat) (b:Int),vs=[.ref p,.int b]/\ED K a/\PlankAt a H p cl w rows n ∧
 (0<=b->b<rows.length->Q .non H)/\(b<0\/rows.length<=b->E (.ref (a "NoBlock")) none H)
def KE(K:W.Frag)(a:Ad):Sp:=λvs H Q E=>∃ (p cl:Addr) (w:Nat) (rows:List (List V)) (n:Nat) (b:Int),vs=[.ref p,.int b]/\ED K a/\PlankAt a H p cl w rows n ∧
 (∀ (i:Nat) row,b=i->rows[i]? =some row->∀ l,H l=none->Q (.ref l) (upd H l (.lst row)))/\(b<0\/rows.length<=b->E (.ref (a "NoBlock")) none H)
def PZ(K:W.Frag)(a:Ad):Sp:=λvs H Q E=>∃ (p cl:Addr) (w:Nat) (rows:List (List V)) (n:Nat) (b:Int) (v:Addr) (xs:List V),vs=[.ref p,.int b,.ref v]/\ED K a/\PlankAt a H p cl w rows n/\SqL K H v xs/\xs.length<=2000 ∧
 (∀ (i:Nat),b=i->i<rows.length->xs.length=w->∀ H',PlankAt a H' p cl w (rows.set i xs) (n+1)->SameBut (λx=>x=p\/x=cl) H H'->Q .non H') ∧
 (b<0\/rows.length<=b\/xs.length≠w->E (.ref (a "NoBlock")) none H)
end L2
namespace L2
theorem DG{K:W.Frag}{H:Hp}{p:Addr}{xs:List V}{i:Int}{n:Nat}{v:V}{Q:VK}(h:H p=some (.tup xs))(hi:i=n)(hx:xs[n]? =some v)(q:Q v H):CP K (.ref p) (.int i) H Q :=
 .inr (.inl ⟨p,xs,i,v,rfl,rfl,SqT.of h,by rw[hi];exact OU hx,q⟩)
theorem L3{C C' dx dx':Addr}{fs fs':List (Str × V)}(h:fs≠fs'):HO.ins C dx fs≠HO.ins C' dx' fs':=by
 intro z
 injection z with _ _ z
 exact h z
theorem Ex(xs:List V){k:Int}(h:0<=k):EY xs none (some k)=xs.take k.toNat:=by
 unfold EY
 have e:HT.sIx xs.length xs.length (some k)=min k.toNat xs.length:=by
  show(if k<0 then(k+(xs.length:Int)).toNat else min k.toNat xs.length)=_
  rw[if_neg (by omega)]
 rw[e,HT.sIx_none,List.drop_zero,Nat.sub_zero,List.take_eq_take_iff]
 omega
theorem Ey(xs:List V){k:Int}(h:0<=k):EY xs (some k) none=xs.drop k.toNat:=by
 unfold EY
 have e:HT.sIx xs.length 0 (some k)=min k.toNat xs.length:=by
  show(if k<0 then(k+(xs.length:Int)).toNat else min k.toNat xs.length)=_
  rw[if_neg (by omega)]
 rw[e,HT.sIx_none]
 rcases Nat.lt_or_ge k.toNat xs.length with z | z
 ·rw[Nat.min_eq_left (Nat.le_of_lt z),List.take_of_length_le (by rw[List.length_drop];exact Nat.le_refl _)]
 ·rw[Nat.min_eq_right z,List.drop_of_length_le (Nat.le_refl _),List.drop_of_length_le z];simp
theorem Ez{K:W.Frag}{H:Hp}{p:Addr}{xs:List V}{lo hi:Option Int}{Q:VK}(h:SqL K H p xs)(q:∀ r,H r=none->Q (.ref r) (upd H r (.lst (EY xs lo hi)))):KB K (.ref p) lo hi H Q:=.inl ⟨p,xs,rfl,h,q⟩
theorem SameBut.refl{F:Addr->Prop}(H:Hp):SameBut F H H:=λ_ _ e _=>e
theorem SameBut.trans{F:Addr->Prop}{H H' H2:Hp}(s:SameBut F H H')(t:SameBut F H' H2):SameBut F H H2:=λb o e n=>t _ _ (s _ _ e n) n
theorem SameBut.wide{F G:Addr->Prop}{H H':Hp}(s:SameBut F H H')(i:∀ x,F x->G x):SameBut G H H':=λb o e n=>s _ _ e λz=>n (i _ z)
theorem Same.sb{F:Addr->Prop}{H H':Hp}(s:Same H H'):SameBut F H H':=λb o e _=>s b o e
theorem SameBut.upd{F:Addr->Prop}{H H':Hp}{p:Addr}{o:HO}(s:SameBut F H H')(h:F p\/H p=none):SameBut F H (upd H' p o):=λb u e n=>by
 have:b≠p:=by
  rcases h with h | h
  ·exact λz=>n (z ▸ h)
  ·exact BM e h
 rw[AF this];exact s _ _ e n
structure Ch where
 blk:Nat
 cell:Nat
 val:V
 nd:List Int
def K5:List Ch->Int->Int->Option Nat
 | [],_,_=>none
 | c::r,i,j=>if(c.blk:Int)=i/\(c.cell:Int)=j then some r.length else K5 r i j
def D6(cs:List Ch)(i j:Int):Option Nat:=K5 cs.reverse i j
def GA:List Ch->Nat->List Nat
 | [],_=>[]
 | c::r,b=>if c.blk=b then GA r b++[r.length]else GA r b
def CN(cs:List Ch)(b:Nat):List Nat:=GA cs.reverse b
theorem UM(cs:List Ch)(c:Ch)(i j:Int):D6 (cs++[c]) i j=if(c.blk:Int)=i/\(c.cell:Int)=j then some cs.length else D6 cs i j:=by
 simp[D6,K5]
theorem Fb(cs:List Ch)(c:Ch)(b:Nat):CN (cs++[c]) b=if c.blk=b then CN cs b++[cs.length]else CN cs b:=by
 simp[CN,GA]
theorem UN:∀ {l:List Ch} {i j:Int} {k:Nat},K5 l i j=some k->k<l.length
 | [],_,_,_,h=>by cases h
 | c::r,i,j,k,h=>by
  unfold K5 at h
  split at h
  ·cases h;simp
  ·have:=UN h
   simp only[List.length_cons];omega
theorem P0{cs:List Ch}{i j:Int}{k:Nat}(h:D6 cs i j=some k):k<cs.length:=by
 have:=UN h
 rwa [List.length_reverse]at this
theorem UO:∀ {l:List Ch} {b k:Nat},k∈GA l b->k<l.length
 | [],_,_,h=>by cases h
 | c::r,b,k,h=>by
  unfold GA at h
  split at h
  ·rcases List.mem_append.mp h with h | h
   ·have:=UO h
    simp only[List.length_cons];omega
   ·rw[List.mem_singleton.mp h];simp
  ·have:=UO h
   simp only[List.length_cons];omega
theorem UP{cs:List Ch}{b k:Nat}(h:k∈CN cs b):k<cs.length:=by
 have:=UO h
 rwa [List.length_reverse]at this
theorem fM:∀ (l:List Ch) (b:Nat),(GA l b).length<=l.length
 | [],_=>Nat.le_refl _
 | c::r,b=>by
  have:=fM r b
  unfold GA
  split<;>simp<;>omega
theorem fN(cs:List Ch)(b:Nat):(CN cs b).length<=cs.length:=by
 have:=fM cs.reverse b
 rwa [List.length_reverse]at this
def FT(pl:Addr)(v:V)(nt:Addr):List (Str × V):=[("place",.ref pl),("value",v),("needs",.ref nt)]
def bf(gp m mi lt ou:Addr):List (Str × V):=[("ground",.ref gp),("made",.ref m),("made_in",.ref mi),("latest",.ref lt),("outs",.ref ou)]
def E3(a b:Str):Bool:=a == b
section
variable{pl nt gp m mi lt ou:Addr}{v:V}
theorem CO{a b:Str}(h:E3 a b=false):(a == b)=false:=h
theorem Fc:(FT pl v nt).lookup ("place":Str)=some (V.ref pl):=by simp[FT]
theorem fP:(FT pl v nt).lookup ("value":Str)=some v:=by
 simp[FT,List.lookup_cons,CO (a:="value") (b:="place") (by decide +kernel)]
theorem Fd:(FT pl v nt).lookup ("needs":Str)=some (V.ref nt):=by
 simp[FT,List.lookup_cons,CO (a:="needs") (b:="place") (by decide +kernel),CO (a:="needs") (b:="value") (by decide +kernel)]
theorem L4{f g:Str}{x y:V}{r:List (Str × V)}(h:E3 g f=false):A7 f y ((g,x)::r)=(g,x)::A7 f y r:=by
 have:¬ g=f:=λe=>by rw[e]at h;simp[E3]at h
 simp[A7,this]
theorem L5{f:Str}{y:V}:A7 f y []=[(f,y)]:=rfl
theorem Fg:A7 "needs" (.ref nt) (A7 "value" v (A7 "place" (.ref pl) []))=FT pl v nt:=by
 rw[L5,L4 (by decide +kernel),L5,L4 (by decide +kernel),L4 (by decide +kernel),L5]
 rfl
theorem NN:(bf gp m mi lt ou).lookup ("ground":Str)=some (V.ref gp):=by simp[bf]
theorem K6:(bf gp m mi lt ou).lookup ("made":Str)=some (V.ref m):=by
 simp[bf,List.lookup_cons,CO (a:="made") (b:="ground") (by decide +kernel)]
theorem UQ:(bf gp m mi lt ou).lookup ("made_in":Str)=some (V.ref mi):=by
 simp[bf,List.lookup_cons,CO (a:="made_in") (b:="ground") (by decide +kernel),CO (a:="made_in") (b:="made") (by decide +kernel)]
theorem fQ:(bf gp m mi lt ou).lookup ("latest":Str)=some (V.ref lt):=by
 simp[bf,List.lookup_cons,CO (a:="latest") (b:="ground") (by decide +kernel),CO (a:="latest") (b:="made") (by decide +kernel),CO (a:="latest") (b:="made_in") (by decide +kernel)]
theorem P4:(bf gp m mi lt ou).lookup ("outs":Str)=some (V.ref ou):=by
 simp[bf,List.lookup_cons,CO (a:="outs") (b:="ground") (by decide +kernel),CO (a:="outs") (b:="made") (by decide +kernel),CO (a:="outs") (b:="made_in") (by decide +kernel),CO (a:="outs") (b:="latest") (by decide +kernel)]
theorem DU{x:Str}(h:(E3 x "ground" || E3 x "made" || E3 x "made_in" || E3 x "latest" || E3 x "outs")=false):(bf gp m mi lt ou).lookup x=none:=by
 simp only[Bool.or_eq_false_iff]at h
 obtain⟨⟨⟨⟨h1,h2⟩,h3⟩,h4⟩,h5⟩:=h
 simp[bf,List.lookup_cons,CO h1,CO h2,CO h3,CO h4,CO h5]
theorem Fh:A7 "outs" (.ref ou) (A7 "latest" (.ref lt) (A7 "made_in" (.ref mi) (A7 "made" (.ref m) (A7 "ground" (.ref gp) []))))=bf gp m mi lt ou:=by
 repeat (first | rw[L5] | rw[L4 (by decide +kernel)])
 rfl
end
structure fR(K:W.Frag)(C D:Addr):Prop where
 cl:Cls K C
 nG:NoAttr K C "ground"
 nM:NoAttr K C "made"
 nI:NoAttr K C "made_in"
 nL:NoAttr K C "latest"
 nO:NoAttr K C "outs"
 cc:Cls K D
 nP:NoAttr K D "place"
 nV:NoAttr K D "value"
 nN:NoAttr K D "needs"
def ChAt(D:Addr)(H:Hp)(x:Addr)(c:Ch):Prop:=∃ dx pl nt,H x=some (.ins D dx (FT pl c.val nt))/\H pl=some (.tup [.int c.blk,.int c.cell])/\H nt=some (.tup (c.nd.map V.int))
structure BA where
 b:Addr
 gp:Addr
 m:Addr
 mi:Addr
 lt:Addr
 ou:Addr
 ls:List Addr
 cl:Addr
def BA.F(A:BA)(x:Addr):Prop:=x=A.m\/x=A.mi\/x∈A.ls\/x=A.lt\/x=A.ou\/x=A.cl
def KeysOk(C4:List (AH × V))(n:Nat):Prop:=(C4.map (·.1)).Nodup/\∀ p∈C4,∃ x:Nat,p.1=Sum.inl (x:Int)/\x<n
theorem KeysOk.mono{C4:List (AH × V)}{n m:Nat}(h:KeysOk C4 n)(hm:n<=m):KeysOk C4 m:=⟨h.1,λp hp=>by obtain⟨x,e,hx⟩:=h.2 p hp;exact⟨x,e,by omega⟩⟩
theorem KeysOk.len{C4:List (AH × V)}{n:Nat}(h:KeysOk C4 n):C4.length<=n:=by
 have:=List.Nodup.length_le_of_subset (l₂:=(List.range n).map λ(k:Nat)=>(Sum.inl (k:Int):AH)) h.1 λk hk=>by
  obtain⟨p,hp,rfl⟩:=List.mem_map.mp hk
  obtain⟨x,e,hx⟩:=h.2 p hp
  rw[e]
  exact List.mem_map.mpr ⟨x,List.mem_range.mpr hx,rfl⟩
 simpa using this
theorem KeysOk.put{C4:List (AH × V)}{n:Nat}(h:KeysOk C4 n){k:Nat}(hk:k<n)(hn:BJ C4 (.inl (k:Int))=none)(v:V):KeysOk (B7 C4 (.inl (k:Int)) v) n:=by
 refine⟨wT v h.1 hn,λp hp=> ?_⟩
 rw[OW v hn]at hp
 rcases List.mem_append.mp hp with hp | hp
 ·exact h.2 p hp
 ·rw[List.mem_singleton.mp hp];exact⟨k,rfl,hk⟩
structure BookIn(C D:Addr)(H:Hp)(A:BA)(w:Nat)(cs:List Ch)(outs:Int->Bool):Prop where
 ob:∃ dx,H A.b=some (.ins C dx (bf A.gp A.m A.mi A.lt A.ou))
 made:∃ chs:List Addr,H A.m=some (.lst (chs.map V.ref))/\Paired (ChAt D H) chs cs
 mil:H A.mi=some (.lst (A.ls.map V.ref))
 mic:∀ (i:Nat) l,A.ls[i]? =some l->H l=some (.lst ((CN cs i).map λ(k:Nat)=>V.int k))
 nd:A.ls.Nodup
 lat:∃ kvs,H A.lt=some (.dT kvs)/\(∀ i j:Int,BJ kvs [.inl i,.inl j]=(D6 cs i j).map λ(k:Nat)=>V.int k)/\kvs.length<=cs.length
 out:∃ C4,H A.ou=some (.dK C4)/\(∀ k:Int,(BJ C4 (.inl k)).isSome=outs k)/\KeysOk C4 cs.length
 sz:cs.length<=990
 inn:∀ c∈cs,c.blk<A.ls.length/\c.cell<w
 need:∀ (k:Nat) c,cs[k]? =some c->(∀ x∈c.nd,0<=x/\x<k)/\c.nd.Pairwise (· <·)/\c.nd.length<=100
 ap:A.m≠A.mi/\A.m∉A.ls/\A.mi∉A.ls/\A.cl≠A.m/\A.cl≠A.mi/\A.cl∉A.ls
 chn:∀ (k:Nat) c,cs[k]? =some c->∀ j,D6 (cs.take k) c.blk c.cell=some j->(j:Int)∈c.nd
structure BookAt(a:Ad)(C:Addr)(H:Hp)(A:BA)(w:Nat)(rows:List (List V))(n:Nat)(cs:List Ch)(outs:Int->Bool):Prop where
 bk:BookIn C (a "Change") H A w cs outs
 pk:PlankAt a H A.gp A.cl w rows n
 nb:A.ls.length=rows.length
def D7(o:Option HO):Prop:=(∀ xs,o≠some (.tup xs))/\∀ C dx fs,o≠some (.ins C dx fs)
theorem ChAt.sb{D:Addr}{G:Addr->Prop}{H H':Hp}(s:SameBut G H H')(g:∀ x,G x->D7 (H x)){x:Addr}{c:Ch}(h:ChAt D H x c):ChAt D H' x c:=by
 obtain⟨dx,pl,nt,e1,e2,e3⟩:=h
 exact⟨dx,pl,nt,s _ _ e1 λz=>(g _ z).2 _ _ _ e1,s _ _ e2 λz=>(g _ z).1 _ e2,s _ _ e3 λz=>(g _ z).1 _ e3⟩
theorem BookIn.sb{C D:Addr}{G:Addr->Prop}{H H':Hp}{A:BA}{w:Nat}{cs:List Ch}{outs:Int->Bool}(B:BookIn C D H A w cs outs)(s:SameBut G H H')(g:∀ x,G x->D7 (H x))(f:∀ x,G x->¬ A.F x):BookIn C D H' A w cs outs:=by
 obtain⟨⟨dx,e1⟩,⟨chs,e2,e3⟩,e4,e5,e6,⟨kvs,e7,e8⟩,⟨C4,e9,e10⟩,r1,r2,r3,r4,r5⟩:=B
 refine⟨⟨dx,s _ _ e1 λz=>(g _ z).2 _ _ _ e1⟩,⟨chs,s _ _ e2 λz=>f _ z (.inl rfl),Paired.mapP e3 λx c h=>h.sb s g⟩,s _ _ e4 λz=>f _ z (.inr (.inl rfl)),λi l h=>s _ _ (e5 i l h) λz=>f _ z (.inr (.inr (.inl (List.mem_of_getElem? h)))),e6,
  ⟨kvs,s _ _ e7 λz=>f _ z (.inr (.inr (.inr (.inl rfl)))),e8⟩,⟨C4,s _ _ e9 λz=>f _ z (.inr (.inr (.inr (.inr (.inl rfl))))),e10⟩,r1,r2,r3,r4,r5⟩
theorem PlankAt.sbL{a:Ad}{G:Addr->Prop}{H H':Hp}{p cl:Addr}{w:Nat}{rows:List (List V)}{n:Nat}(P:PlankAt a H p cl w rows n)(s:SameBut G H H')(g:∀ x,G x->D7 (H x))(h:¬ G cl):PlankAt a H' p cl w rows n:=by
 obtain⟨⟨dx,e1⟩,⟨ts,e2,e3⟩,r1,r2,r3⟩:=P
 exact⟨⟨dx,s _ _ e1 λz=>(g _ z).2 _ _ _ e1⟩,⟨ts,s _ _ e2 h,Paired.mapP e3 λt r q=>s _ _ q λz=>(g _ z).1 _ q⟩,r1,r2,r3⟩
theorem BookAt.sb{a:Ad}{C:Addr}{G:Addr->Prop}{H H':Hp}{A:BA}{w:Nat}{rows:List (List V)}{n:Nat}{cs:List Ch}{outs:Int->Bool}(B:BookAt a C H A w rows n cs outs)(s:SameBut G H H')(g:∀ x,G x->D7 (H x))(f:∀ x,G x->¬ A.F x):BookAt a C H' A w rows n cs outs :=
 ⟨B.bk.sb s g f,B.pk.sbL s g λz=>f _ z (.inr (.inr (.inr (.inr (.inr rfl))))),B.nb⟩
theorem BookAt.same{a:Ad}{C:Addr}{H H':Hp}{A:BA}{w:Nat}{rows:List (List V)}{n:Nat}{cs:List Ch}{outs:Int->Bool}(B:BookAt a C H A w rows n cs outs)(s:Same H H'):BookAt a C H' A w rows n cs outs :=
 B.sb (G:=λ_=>False) (Same.sb s) (λ_ z=>z.elim) λ_ z=>z.elim
theorem BookAt.off{a:Ad}{C:Addr}{H:Hp}{A:BA}{w:Nat}{rows:List (List V)}{n:Nat}{cs:List Ch}{outs:Int->Bool}(B:BookAt a C H A w rows n cs outs){x:Addr}(h:H x=none):¬ A.F x:=by
 obtain⟨⟨_,⟨chs,e2,_⟩,e4,e5,_,⟨kvs,e7,_⟩,⟨C4,e9,_⟩,_⟩,⟨_,⟨ts,e11,_⟩,_⟩,_⟩:=B
 rintro (z | z | z | z | z | z)
 ·rw[z,e2]at h;cases h
 ·rw[z,e4]at h;cases h
 ·obtain⟨i,hi,e⟩:=List.getElem_of_mem z
  have:=e5 i x (by rw[<-e];exact List.getElem?_eq_getElem hi)
  rw[this]at h;cases h
 ·rw[z,e7]at h;cases h
 ·rw[z,e9]at h;cases h
 ·rw[z,e11]at h;cases h
theorem Fj{α :Type}{l:List α}{x: α}(h:x∈l):∃ i:Nat,l[i]? =some x:=by
 obtain⟨i,hi,e⟩:=List.getElem_of_mem h
 exact⟨i,by rw[<-e];exact List.getElem?_eq_getElem hi⟩
theorem K7{H:Hp}{x:Addr}{xs:List V}(h:H x=some (.lst xs)):D7 (H x):=by
 rw[h];exact⟨λ_ z=>(by cases z),λ_ _ _ z=>(by cases z)⟩
theorem K8{H:Hp}{x:Addr}{xs:List (AH × V)}(h:H x=some (.dK xs)):D7 (H x):=by
 rw[h];exact⟨λ_ z=>(by cases z),λ_ _ _ z=>(by cases z)⟩
theorem Fk{H:Hp}{x:Addr}{xs:List (List AH × V)}(h:H x=some (.dT xs)):D7 (H x):=by
 rw[h];exact⟨λ_ z=>(by cases z),λ_ _ _ z=>(by cases z)⟩
theorem BookAt.loose{a:Ad}{C:Addr}{H:Hp}{A:BA}{w:Nat}{rows:List (List V)}{n:Nat}{cs:List Ch}{outs:Int->Bool}(B:BookAt a C H A w rows n cs outs){x:Addr}(h:A.F x):D7 (H x):=by
 obtain⟨⟨_,⟨chs,e2,_⟩,e4,e5,_,⟨kvs,e7,_⟩,⟨C4,e9,_⟩,_⟩,⟨_,⟨ts,e11,_⟩,_⟩,_⟩:=B
 rcases h with z | z | z | z | z | z
 ·exact K7 (z ▸ e2)
 ·exact K7 (z ▸ e4)
 ·obtain⟨i,e⟩:=Fj z
  exact K7 (e5 i x e)
 ·exact Fk (z ▸ e7)
 ·exact K8 (z ▸ e9)
 ·exact K7 (z ▸ e11)
structure zf6(cs:List Ch)(outs:Int->Bool)(ns:List Int)(R:Int->Bool):Prop where
 all:∀ x∈ns,R x=true
 up:∀ (k:Nat) (c:Ch),cs[k]? =some c->outs k=false->R k=true->∀ y∈c.nd,R y=true
 only:∀ x,R x=true->x∈ns\/∃ (k:Nat) (c:Ch),cs[k]? =some c/\outs k=false/\R k=true/\x∈c.nd
end L2
namespace L2
def L6(nd:List Int)(there:Int->Bool):Option Int:=nd.find? λx=> !there x
structure Pass where
 out:List Nat
 held:List (Nat × Int)
 gone:Int->Bool
def DV(cs:List Ch)(outs:Int->Bool)(s:Pass)(k:Nat):Pass :=
 if outs k || s.gone k then s else
  match (cs[k]?).bind λc=>L6 c.nd λx=>outs x || s.gone x with
  | none=>⟨s.out++[k],s.held,λx=>s.gone x || x ==(k:Int)⟩
  | some l=>⟨s.out,s.held++[(k,l)],s.gone⟩
def outcome(cs:List Ch)(outs taken:Int->Bool)(b:Nat):Pass:=(CN cs b).foldl (DV cs outs) ⟨[],[],taken⟩
def F3(cs:List Ch)(outs:Int->Bool)(r:List V)(k:Nat):List V :=
 if outs k then match cs[k]? with
  | some c=>r.set c.cell c.val
  | none=>r
 else r
def EJ(cs:List Ch)(outs:Int->Bool)(b:Nat)(row:List V):List V:=(CN cs b).foldl (F3 cs outs) row
def E4(cs:List Ch)(outs:Int->Bool)(b:Nat):Int->Bool:=λx=>outs x || (outcome cs outs (λ_=>false) b).out.any λ(k:Nat)=>x ==(k:Int)
theorem Fl{cs:List Ch}{outs:Int->Bool}(r:List V)(k:Nat):(F3 cs outs r k).length=r.length:=by
 unfold F3
 split
 ·split
  ·rw[List.length_set]
  ·rfl
 ·rfl
theorem UR{cs:List Ch}{outs:Int->Bool}:∀ (l:List Nat) (r:List V),(l.foldl (F3 cs outs) r).length=r.length
 | [],r=>rfl
 | k::l,r=>by rw[List.foldl_cons,UR l,Fl]
theorem fS{cs:List Ch}{outs:Int->Bool}{b:Nat}{row:List V}:(EJ cs outs b row).length=row.length:=UR _ _
theorem fT{cs:List Ch}{outs:Int->Bool}:∀ (l:List Nat) (s:Pass),(l.foldl (DV cs outs) s).out.length+(l.foldl (DV cs outs) s).held.length<=s.out.length+s.held.length+l.length
 | [],s=>by simp
 | k::l,s=>by
  rw[List.foldl_cons]
  have h:=fT (cs:=cs) (outs:=outs) l (DV cs outs s k)
  have h2:(DV cs outs s k).out.length+(DV cs outs s k).held.length<=s.out.length+s.held.length+1:=by
   unfold DV
   split
   ·omega
   ·split<;>simp<;>omega
  simp only[List.length_cons]
  omega
theorem fU{α β :Type}(f: β -> α -> β)(b: β){l:List α}{i:Nat}{x: α}(h:l[i]? =some x):(l.take (i+1)).foldl f b=f ((l.take i).foldl f b) x:=by
 obtain⟨hi,e⟩:=List.getElem?_eq_some_iff.mp h
 rw[<-e,<-List.take_append_getElem hi,List.foldl_append]
 rfl
theorem fV(b:Nat):∀ l:List Ch,GA l b=(List.range l.length).filter λ(k:Nat)=>(l.reverse[k]?).any λc=>c.blk == b
 | []=>rfl
 | c::r=>by
  have ih:=fV b r
  have e:(List.range r.length).filter (λ(k:Nat)=>((c::r).reverse[k]?).any λc=>c.blk == b)=GA r b:=by
   rw[ih]
   refine List.filter_congr λk hk=> ?_
   rw[List.reverse_cons,List.getElem?_append_left (by rw[List.length_reverse];exact List.mem_range.mp hk)]
  have e2:(c::r).reverse[r.length]? =some c:=by
   rw[List.reverse_cons,List.getElem?_append_right (by rw[List.length_reverse];exact Nat.le_refl _)]
   simp
  rw[List.length_cons,List.range_succ,List.filter_append,e]
  show(if c.blk=b then GA r b++[r.length]else GA r b)=_
  by_cases h:c.blk=b
  ·rw[if_pos h]
   simp[e2,h]
  ·rw[if_neg h]
   simp[e2,h]
theorem fW(cs:List Ch)(b:Nat):CN cs b=(List.range cs.length).filter λ(k:Nat)=>(cs[k]?).any λc=>c.blk == b:=by
 have:=fV b cs.reverse
 rw[List.reverse_reverse,List.length_reverse]at this
 exact this
theorem Fm(cs:List Ch)(b:Nat):(CN cs b).Pairwise (· <·):=by
 rw[fW]
 exact List.pairwise_lt_range.filter _
theorem US{cs:List Ch}{b k:Nat}:k∈CN cs b↔∃ c,cs[k]? =some c/\c.blk=b:=by
 rw[fW,List.mem_filter,List.mem_range]
 constructor
 ·rintro ⟨h,h2⟩
  rw[List.getElem?_eq_getElem h]at h2 ⊢
  exact⟨_,rfl,by simpa using h2⟩
 ·rintro ⟨c,e,rfl⟩
  exact⟨(List.getElem?_eq_some_iff.mp e).1,by rw[e];simp⟩
theorem fX{cs:List Ch}{outs:Int->Bool}(s:Pass)(k:Nat):DV cs outs s k=s\/(outs k=false/\DV cs outs s k=⟨s.out++[k],s.held,λx=>s.gone x || x ==(k:Int)⟩)\/∃ l,DV cs outs s k=⟨s.out,s.held++[(k,l)],s.gone⟩:=by
 unfold DV
 split
 ·exact .inl rfl
 ·rename_i hc
  simp only[Bool.or_eq_true,not_or,Bool.not_eq_true]at hc
  split
  ·exact .inr (.inl ⟨hc.1,rfl⟩)
  ·exact .inr (.inr ⟨_,rfl⟩)
theorem fY{cs:List Ch}{outs:Int->Bool}:∀ (l:List Nat) (s:Pass),∃ l',(l.foldl (DV cs outs) s).out=s.out++l'/\l'.Sublist l/\(∀ k∈l',outs k=false)/\∀ x,(l.foldl (DV cs outs) s).gone x=(s.gone x || l'.any λ(k:Nat)=>x ==(k:Int))
 | [],s=>⟨[],by simp,.slnil,by simp,by simp⟩
 | k::l,s=>by
  rw[List.foldl_cons]
  obtain⟨l',h1,h2,h3,h4⟩:=fY (cs:=cs) (outs:=outs) l (DV cs outs s k)
  rcases fX (cs:=cs) (outs:=outs) s k with e | ⟨ho,e⟩ | ⟨l0,e⟩
  ·rw[e]at h1 h4 ⊢
   exact⟨l',h1,h2.cons _,h3,h4⟩
  ·rw[e]at h1 h4 ⊢
   refine⟨k::l',by rw[h1];simp,h2.cons_cons _,λx hx=> ?_,λx=> ?_⟩
   ·rcases List.mem_cons.mp hx with rfl | hx
    ·exact ho
    ·exact h3 x hx
   ·rw[h4,List.any_cons,Bool.or_assoc]
  ·rw[e]at h1 h4 ⊢
   exact⟨l',h1,h2.cons _,h3,h4⟩
theorem UT{cs:List Ch}{outs:Int->Bool}{b:Nat}:(outcome cs outs (λ_=>false) b).out.Pairwise (· <·)/\(∀ k∈(outcome cs outs (λ_=>false) b).out,outs k=false/\k∈CN cs b)/\∀ x,(outcome cs outs (λ_=>false) b).gone x=(outcome cs outs (λ_=>false) b).out.any λ(k:Nat)=>x ==(k:Int):=by
 obtain⟨l',h1,h2,h3,h4⟩:=fY (cs:=cs) (outs:=outs) (CN cs b) ⟨[],[],λ_=>false⟩
 have e:(outcome cs outs (λ_=>false) b).out=l':=by unfold outcome;rw[h1];rfl
 rw[e]
 exact⟨(Fm cs b).sublist h2,λk hk=>⟨h3 k hk,h2.subset hk⟩,λx=>by unfold outcome;rw[h4];simp⟩
def fZ(H:Hp)(t ol hl:Addr)(out:List Nat)(held:List (Nat × Int)):Prop:=H t=some (.tup [.ref ol,.ref hl])/\H ol=some (.lst (out.map λ(k:Nat)=>V.int k))/\∃ hs:List Addr,H hl=some (.lst (hs.map V.ref))/\Paired (λx (p:Nat × Int)=>H x=some (.tup [.int p.1,.int p.2])) hs held
def P5(cs:List Ch)(r:List V)(k:Nat):List V:=match cs[k]? with
 | some c=>r.set c.cell c.val
 | none=>r
def P7(cs:List Ch)(ks:List Nat)(row:List V):List V:=ks.foldl (P5 cs) row
theorem Fp(cs:List Ch)(O:Int->Bool)(b:Nat)(row:List V):EJ cs O b row=P7 cs ((CN cs b).filter λ(k:Nat)=>O k) row:=by
 unfold EJ P7
 rw[List.foldl_filter]
 rfl
def IH(cs:List Ch):List Nat->Nat->Option Ch
 | [],_=>none
 | k::r,j=>match IH cs r j with
  | some c=>some c
  | none=>(cs[k]?).filter λc=>c.cell == j
theorem UU(cs:List Ch)(k:Nat)(r:List Nat)(j:Nat):IH cs (k::r) j=match IH cs r j with
  | some c=>some c
  | none=>(cs[k]?).filter λc=>c.cell == j:=rfl
theorem f7(cs:List Ch)(j:Nat):∀ (ks:List Nat) (row:List V),(P7 cs ks row)[j]? =(row[j]?).map λv=>((IH cs ks j).map (·.val)).getD v
 | [],row=>by
  show row[j]? =_
  cases row[j]? <;>rfl
 | k::r,row=>by
  show(P7 cs r (P5 cs row k))[j]? =_
  rw[f7 cs j r,UU]
  cases h:IH cs r j with
  | some c =>
   unfold P5
   cases e:cs[k]? with
   | none=>rfl
   | some c0 =>
    dsimp only
    rw[List.getElem?_set]
    by_cases hj:c0.cell=j
    ·subst hj
     rw[if_pos rfl]
     by_cases hl:c0.cell<row.length
     ·rw[if_pos hl,List.getElem?_eq_getElem hl];rfl
     ·rw[if_neg hl,List.getElem?_eq_none (by omega)]
    ·rw[if_neg hj]
  | none =>
   unfold P5
   cases e:cs[k]? with
   | none=>rfl
   | some c0 =>
    dsimp only
    rw[List.getElem?_set]
    by_cases hj:c0.cell=j
    ·subst hj
     rw[if_pos rfl]
     by_cases hl:c0.cell<row.length
     ·rw[if_pos hl,List.getElem?_eq_getElem hl];simp[Option.filter]
     ·rw[if_neg hl,List.getElem?_eq_none (by omega)];rfl
    ·rw[if_neg hj]
     have:(Option.filter (λ(c:Ch)=>c.cell == j) (some c0))=none:=by simp[Option.filter,hj]
     rw[this]
theorem f8{cs:List Ch}{j:Nat}{c:Ch}:∀ {ks:List Nat},IH cs ks j=some c->∃ k∈ks,cs[k]? =some c/\c.cell=j/\(ks.Pairwise (· <·)->∀ k'∈ks,k<k'->∀ c',cs[k']? =some c'->c'.cell≠j)
 | [],h=>by cases h
 | k::r,h=>by
  rw[UU]at h
  cases e:IH cs r j with
  | some c1 =>
   rw[e]at h
   cases h
   obtain⟨k1,h1,h2,h3,h4⟩:=f8 e
   refine⟨k1,List.mem_cons_of_mem _ h1,h2,h3,λhp k' hk' BK c' ec=> ?_⟩
   obtain⟨p1,p2⟩:=List.pairwise_cons.mp hp
   rcases List.mem_cons.mp hk' with rfl | hk'
   ·have:=p1 k1 h1;omega
   ·exact h4 p2 k' hk' BK c' ec
  | none =>
   rw[e]at h
   dsimp only at h
   cases ec:cs[k]? with
   | none=>rw[ec]at h;cases h
   | some c0 =>
    rw[ec]at h
    have hc:c0.cell=j/\c0=c:=by
     simp only[Option.filter]at h
     split at h
     ·rename_i hh;cases h;exact⟨by simpa using hh,rfl⟩
     ·cases h
    obtain⟨hc,rfl⟩:=hc
    refine⟨k,List.mem_cons_self ..,ec,hc,λhp k' hk' BK c' ec'=> ?_⟩
    rcases List.mem_cons.mp hk' with rfl | hk'
    ·omega
    ·exact lastAt_no e k' hk' c' ec'
where
 lastAt_no {cs:List Ch} {j:Nat}:∀ {ks:List Nat},IH cs ks j=none->∀ k∈ks,∀ c,cs[k]? =some c->c.cell≠j
  | [],_,k,hk=>by cases hk
  | k0::r,h,k,hk=>λc ec hj=>by
   rw[UU]at h
   cases e:IH cs r j with
   | some c1=>rw[e]at h;cases h
   | none =>
    rw[e]at h
    rcases List.mem_cons.mp hk with rfl | hk
    ·rw[ec]at h
     simp[Option.filter,hj]at h
    ·exact lastAt_no e k hk c ec hj
theorem f9{i j:Int}:∀ {l:List Ch} {k:Nat} {c:Ch},l.reverse[k]? =some c->(c.blk:Int)=i->(c.cell:Int)=j->∃ j0 c0,K5 l i j=some j0/\k<=j0/\l.reverse[j0]? =some c0/\(c0.blk:Int)=i/\(c0.cell:Int)=j
 | [],k,c,h,_,_=>by simp at h
 | c1::r,k,c,h,h1,h2=>by
  have hk:=(List.getElem?_eq_some_iff.mp h).1
  rw[List.length_reverse,List.length_cons]at hk
  unfold K5
  by_cases hp:(c1.blk:Int)=i/\(c1.cell:Int)=j
  ·rw[if_pos hp]
   refine⟨r.length,c1,rfl,by omega,?_,hp⟩
   rw[List.reverse_cons,List.getElem?_append_right (by rw[List.length_reverse];exact Nat.le_refl _)]
   simp
  ·rw[if_neg hp]
   have BK:k<r.length:=by
    rcases Nat.lt_or_ge k r.length with z | z
    ·exact z
    ·exfalso
     have:k=r.length:=by omega
     subst this
     rw[List.reverse_cons,List.getElem?_append_right (by rw[List.length_reverse];exact Nat.le_refl _)]at h
     simp at h
     subst h
     exact hp ⟨h1,h2⟩
   rw[List.reverse_cons,List.getElem?_append_left (by rw[List.length_reverse];exact BK)]at h
   obtain⟨j0,c0,e1,e2,e3,e4⟩:=f9 h h1 h2
   refine⟨j0,c0,e1,e2,?_,e4⟩
   have:=UN e1
   rw[List.reverse_cons,List.getElem?_append_left (by rw[List.length_reverse];exact this)]
   exact e3
theorem Fq{cs:List Ch}{k:Nat}{c:Ch}(h:cs[k]? =some c):∃ j0 c0,D6 cs c.blk c.cell=some j0/\k<=j0/\cs[j0]? =some c0/\c0.blk=c.blk/\c0.cell=c.cell:=by
 obtain⟨j0,c0,e1,e2,e3,e4,e5⟩:=f9 (l:=cs.reverse) (i:=c.blk) (j:=c.cell) (by rw[List.reverse_reverse];exact h) rfl rfl
 rw[List.reverse_reverse]at e3
 exact⟨j0,c0,e1,e2,e3,by omega,by omega⟩
def P8(cs:List Ch)(outs:Int->Bool):Prop:=∀ (k:Nat) (c:Ch),cs[k]? =some c->outs k=true->∀ y∈c.nd,outs y=true
theorem Fv{cs:List Ch}{outs:Int->Bool}(s:Pass)(k:Nat)(h:(DV cs outs s k).out=s.out++[k]):∀ c,cs[k]? =some c->∀ y∈c.nd,(outs y || s.gone y)=true:=λc ec y hy=>by
 unfold DV at h
 split at h
 ·exact absurd h (by intro z;have:=congrArg List.length z;simp at this)
 ·rw[ec]at h
  simp only[Option.bind_some]at h
  split at h
  ·rename_i hn
   have:=List.find?_eq_none.mp hn y hy
   cases e:(outs y || s.gone y)with
   | true=>rfl
   | false =>
    have this:¬ (!(outs y || s.gone y))=true:=this
    rw[e]at this
    exact absurd rfl this
  ·exact absurd h (by intro z;have:=congrArg List.length z;simp at this)
theorem gA{cs:List Ch}{outs:Int->Bool}:∀ (l:List Nat) (s:Pass),(∀ k∈s.out,∀ c,cs[k]? =some c->∀ y∈c.nd,(outs y || s.gone y)=true)->∀ k∈(l.foldl (DV cs outs) s).out,∀ c,cs[k]? =some c->∀ y∈c.nd,(outs y || (l.foldl (DV cs outs) s).gone y)=true
 | [],s,h=>h
 | k::l,s,h=>by
  rw[List.foldl_cons]
  refine gA l _ ?_
  rcases fX (cs:=cs) (outs:=outs) s k with e | ⟨ho,e⟩ | ⟨l0,e⟩
  ·rw[e];exact h
  ·have hl:=Fv (cs:=cs) (outs:=outs) s k (by rw[e])
   rw[e]
   intro k' hk' c ec y hy
   rcases List.mem_append.mp hk' with hk' | hk'
   ·have:=h k' hk' c ec y hy
    rw[<-Bool.or_assoc,this,Bool.true_or]
   ·rw[List.mem_singleton.mp hk']at ec
    have:=hl c ec y hy
    rw[<-Bool.or_assoc,this,Bool.true_or]
  ·rw[e];exact h
theorem Fw{cs:List Ch}{outs:Int->Bool}(cut:P8 cs outs)(b:Nat):P8 cs (E4 cs outs b):=λk c ec ho y hy=>by
 obtain⟨_,_,hg⟩:=UT (cs:=cs) (outs:=outs) (b:=b)
 unfold E4 at ho ⊢
 rw[Bool.or_eq_true]at ho
 rcases ho with ho | ho
 ·rw[cut k c ec ho y hy,Bool.true_or]
 ·obtain⟨k',hk',e⟩:=List.any_eq_true.mp ho
  have e:(k:Int)=k':=by simpa using e
  have e:k=k':=by omega
  subst e
  have:=gA (cs:=cs) (outs:=outs) (CN cs b) ⟨[],[],λ_=>false⟩ (by simp) k hk' c ec y hy
  rw[<-hg y]
  exact this
end L2
namespace L2
end L2
namespace L2
structure DZ(K:W.Frag)(a:Ad):Prop where
 cl:Cls K (a "Layout")
 n1:NoAttr K (a "Layout") "name_blocks"
 n2:NoAttr K (a "Layout") "record_blocks"
 n3:NoAttr K (a "Layout") "piece_blocks"
 n4:NoAttr K (a "Layout") "width"
section
variable{n r c w:Int}
def lf(n r c w:Int):List (Str × V):=[("name_blocks",.int n),("record_blocks",.int r),("piece_blocks",.int c),("width",.int w)]
theorem P9:(lf n r c w).lookup ("name_blocks":Str)=some (V.int n):=by simp[lf]
theorem NO:(lf n r c w).lookup ("record_blocks":Str)=some (V.int r):=by
 simp[lf,List.lookup_cons,CO (a:="record_blocks") (b:="name_blocks") (by decide +kernel)]
theorem UV:(lf n r c w).lookup ("piece_blocks":Str)=some (V.int c):=by
 simp[lf,List.lookup_cons,CO (a:="piece_blocks") (b:="name_blocks") (by decide +kernel),CO (a:="piece_blocks") (b:="record_blocks") (by decide +kernel)]
theorem L7:(lf n r c w).lookup ("width":Str)=some (V.int w):=by
 simp[lf,List.lookup_cons,CO (a:="width") (b:="name_blocks") (by decide +kernel),CO (a:="width") (b:="record_blocks") (by decide +kernel),CO (a:="width") (b:="piece_blocks") (by decide +kernel)]
theorem CB{x:Str}(h:(E3 x "name_blocks" || E3 x "record_blocks" || E3 x "piece_blocks" || E3 x "width")=false):(lf n r c w).lookup x=none:=by
 simp only[Bool.or_eq_false_iff]at h
 obtain⟨⟨⟨h1,h2⟩,h3⟩,h4⟩:=h
 simp[lf,List.lookup_cons,CO h1,CO h2,CO h3,CO h4]
theorem Fx:A7 "width" (.int w) (A7 "piece_blocks" (.int c) (A7 "record_blocks" (.int r) (A7 "name_blocks" (.int n) [])))=lf n r c w:=by
 repeat (first | rw[L5] | rw[L4 (by decide +kernel)])
 rfl
end
structure LayAt(a:Ad)(H:Hp)(p:Addr)(n r c w:Nat):Prop where
 ob:∃ dx,H p=some (.ins (a "Layout") dx (lf n r c w))
 hn:n<=100
 hr:r<=100
 hc:c<=100
 h1:1<=w
 hw:w<=100
theorem LayAt.same{a:Ad}{H H':Hp}{p:Addr}{n r c w:Nat}(L:LayAt a H p n r c w)(s:Same H H'):LayAt a H' p n r c w:=by
 obtain⟨⟨dx,e⟩,z1,z2,z3,z4,z5⟩:=L
 exact⟨⟨dx,s _ _ e⟩,z1,z2,z3,z4,z5⟩
theorem LayAt.sb{a:Ad}{F:Addr->Prop}{H H':Hp}{p:Addr}{n r c w:Nat}(L:LayAt a H p n r c w)(s:SameBut F H H')(f:¬ F p):LayAt a H' p n r c w:=by
 obtain⟨⟨dx,e⟩,z1,z2,z3,z4,z5⟩:=L
 exact⟨⟨dx,s _ _ e f⟩,z1,z2,z3,z4,z5⟩
def QC(K:W.Frag)(a:Ad):Sp:=λvs H Q _=>∃ (p dx:Addr) (n r c w:Nat),vs=[.ref p,.int n,.int r,.int c,.int w]/\DZ K a/\H p=some (.ins (a "Layout") dx [])/\n<=100/\r<=100/\c<=100/\1<=w/\w<=100 ∧
 ∀ H',LayAt a H' p n r c w->SameBut (· =p) H H'->Q .non H'
def G0(x y:Int)(Q:VK)(H:Hp):Prop:=∀ t,H t=none->Q (.ref t) (upd H t (.tup [.int x,.int y]))
def G4(K:W.Frag)(a:Ad):Sp:=λvs H Q _=>∃ (p:Addr) (n r c w k:Nat) (b:Int),vs=[.ref p,.int b,.int k]/\DZ K a/\LayAt a H p n r c w/\G0 (b+k / w) (k % w) Q H
def GB(K:W.Frag)(a:Ad):Sp:=λvs H Q _=>∃ (p:Addr) (n r c w k:Nat),vs=[.ref p,.int k]/\DZ K a/\LayAt a H p n r c w/\G0 (0+k / w) (k % w) Q H
def FU(K:W.Frag)(a:Ad):Sp:=λvs H Q _=>∃ (p:Addr) (n r c w k:Nat),vs=[.ref p,.int k]/\DZ K a/\LayAt a H p n r c w/\G0 (n+k / w) (k % w) Q H
def JH(K:W.Frag)(a:Ad):Sp:=λvs H Q _=>∃ (p:Addr) (n r c w k:Nat),vs=[.ref p,.int k]/\DZ K a/\LayAt a H p n r c w/\G0 (n+r+k / w) (k % w) Q H
def JI(K:W.Frag)(a:Ad):Sp:=λvs H Q _=>∃ (p:Addr) (n r c w k:Nat),vs=[.ref p,.int k]/\DZ K a/\LayAt a H p n r c w/\G0 (n+r+c+k / w) (k % w) Q H
def HL(K:W.Frag)(a:Ad):Sp:=λvs H Q _=>∃ (p:Addr) (n r c w k:Nat),vs=[.ref p,.int k]/\DZ K a/\LayAt a H p n r c w/\G0 (n+r+c+r+k / w) (k % w) Q H
def KF(K:W.Frag)(a:Ad):Sp:=λvs H Q _=>∃ (p:Addr) (n r c w:Nat),vs=[.ref p]/\DZ K a/\LayAt a H p n r c w/\Q (.int (n+r+c)) H
def JJ(K:W.Frag)(a:Ad):Sp:=λvs H Q _=>∃ (p:Addr) (n r c w:Nat),vs=[.ref p]/\DZ K a/\LayAt a H p n r c w/\Q (.int (n+r+c+r+c)) H
def G5(K:W.Frag)(a:Ad):Sp:=λvs H Q _=>∃ (p:Addr) (n r c w:Nat),vs=[.ref p]/\DZ K a/\LayAt a H p n r c w/\∀ t,H t=none->Q (.ref t) (upd H t (.tup [.int (n * w),.int (r * w),.int (c * w)]))
def QD(K:W.Frag)(a:Ad):Sp:=λvs H Q _=>∃ (p:Addr) (n r c w:Nat),vs=[.ref p]/\DZ K a/\ED K a/\LayAt a H p n r c w ∧
 ∀ x cl H',H x=none->H cl=none->PlankAt a H' x cl w (List.replicate (n+r+c+r+c) (List.replicate w .non)) 0->Same H H'->Q (.ref x) H'
end L2
namespace L2
inductive CV where
 | no
 | nm (z:Str) (k:Nat)
 | mk (i:Nat)
 | rc (m:Nat) (ps:List Nat)
 | tx (z:Str)
abbrev Md:=Nat->Nat->CV
def Md.put(M:Md)(kind k:Nat)(x:CV):Md:=λi j=>if i=kind/\j=k then x else M i j
structure AC where
 kind:Nat
 k:Nat
 x:CV
 nd:List Nat
def sh(M0:Md)(C:Nat->Bool):List AC->Md
 | []=>M0
 | a::r=>if C r.length then(sh M0 C r).put a.kind a.k a.x else sh M0 C r
abbrev AW(M0:Md)(as:List AC):Md:=sh M0 (λ_=>true) as
def D8(kind k:Nat):List AC->Option Nat
 | []=>none
 | a::r=>if a.kind=kind/\a.k=k then some r.length else D8 kind k r
def D9(C:Nat->Bool):List AC->Prop
 | []=>True
 | a::r=>D9 C r/\(C r.length=true->(∀ y∈a.nd,C y=true)/\∀ j,D8 a.kind a.k r=some j->C j=true)
section
variable{M0 S:Md}{C:Nat->Bool}{as:List AC}{kind k m0:Nat}{x:CV}
theorem BN:S.put kind k x kind k=x:=if_pos ⟨rfl,rfl⟩
theorem BO{i j:Nat}(h:i≠kind):S.put kind k x i j=S i j:=if_neg λz=>h z.1
theorem CH{i j:Nat}(h:j≠k):S.put kind k x i j=S i j:=if_neg λz=>h z.2
theorem gB(h:∀ j,D8 kind k as=some j->C j=true):sh M0 C as kind k=AW M0 as kind k:=by
 induction as with
 | nil=>rfl
 | cons a r ih =>
  unfold D8 at h
  simp only[sh,if_true]
  by_cases e:a.kind=kind/\a.k=k
  ·rw[if_pos e]at h
   obtain⟨rfl,rfl⟩:=e
   rw[h _ rfl]
   simp only[if_true]
   rw[BN,BN]
  ·rw[if_neg e]at h
   have:=ih h
   have e':¬ (kind=a.kind/\k=a.k):=λz=>e ⟨z.1.symm,z.2.symm⟩
   unfold Md.put
   rw[if_neg e']
   by_cases c:C r.length=true
   ·rw[if_pos c,if_neg e'];exact this
   ·rw[if_neg c];exact this
theorem HM{a:AC}(h:D9 C (a::as))(c:C as.length=true):sh M0 C as a.kind a.k=AW M0 as a.kind a.k:=gB (h.2 c).2
theorem BE{a:AC}:AW M0 (a::as)=(AW M0 as).put a.kind a.k a.x:=rfl
theorem BY{a:AC}(c:C as.length=true):sh M0 C (a::as)=(sh M0 C as).put a.kind a.k a.x:=if_pos c
theorem DA{a:AC}(c:¬ C as.length=true):sh M0 C (a::as)=sh M0 C as:=if_neg c
def F4:CV->Nat->Bool
 | .nm _ r',r=>r' == r
 | _,_=>false
def ld(m0:Nat)(S:Md)(r:Nat):Nat:=(List.range m0).countP λk=>F4 (S 0 k) r
theorem QE{r:Nat}(h:kind≠0):ld m0 (S.put kind k x) r=ld m0 S r:=by
 unfold ld
 congr 1
 funext j
 rw[BO h.symm]
theorem UW{r:Nat}:∀ {m0:Nat},k<m0->ld m0 (S.put 0 k x) r+(if F4 (S 0 k) r then 1 else 0)=ld m0 S r+(if F4 x r then 1 else 0):=by
 intro m0
 unfold ld
 induction m0 with
 | zero=>intro h;omega
 | succ n ih =>
  intro h
  rw[List.range_succ,List.countP_append,List.countP_append]
  simp only[List.countP_cons,List.countP_nil,Nat.zero_add]
  by_cases e:k=n
  ·subst e
   have:(List.range k).countP (λj=>F4 ((S.put 0 k x) 0 j) r)=(List.range k).countP (λj=>F4 (S 0 j) r):=List.countP_congr λj hj=>by
    rw[CH (by have:=List.mem_range.mp hj;omega)]
   rw[this,BN]
   omega
  ·have:=ih (by omega)
   rw[CH (λz=>e z.symm)]
   omega
structure Snd(m0:Nat)(S:Md):Prop where
 nl:∀ k z r,k<m0->S 0 k=.nm z r->∃ m ps,S 3 r=.rc m ps
 ct:∀ r m ps,S 3 r=.rc m ps->ld m0 S r<=m
 mr:∀ r m ps,S 3 r=.rc m ps->S 1 r=.mk 1
 nd:∀ r m ps,S 3 r=.rc m ps->ps.Nodup
 pm:∀ r m ps,S 3 r=.rc m ps->∀ p∈ps,S 2 p=.mk 1/\∃ t,S 4 p=.tx t
 dj:∀ r r' m m' ps ps',r≠r'->S 3 r=.rc m ps->S 3 r'=.rc m' ps'->∀ p∈ps,p∉ps'
 un:∀ k k' z r r',k<m0->k'<m0->S 0 k=.nm z r->S 0 k'=.nm z r'->k=k'
theorem Snd.rmark(I:Snd m0 S){r i:Nat}(h:i=1\/∀ m ps,S 3 r≠.rc m ps):Snd m0 (S.put 1 r (.mk i)):=by
 refine⟨I.nl,λr' m ps e=>I.ct r' m ps e,λr' m ps e=> ?_,I.nd,I.pm,I.dj,I.un⟩
 have e:S 3 r'=.rc m ps:=e
 by_cases z:r'=r
 ·subst z
  rw[BN]
  rcases h with h | h
  ·rw[h]
  ·exact absurd e (h m ps)
 ·rw[CH z];exact I.mr r' m ps e
theorem Snd.pmark(I:Snd m0 S){p i:Nat}(h:i=1\/∀ r m ps,S 3 r=.rc m ps->p∉ps):Snd m0 (S.put 2 p (.mk i)):=by
 refine⟨I.nl,λr' m ps e=>I.ct r' m ps e,I.mr,I.nd,λr' m ps e q hq=>⟨?_,(I.pm r' m ps e q hq).2⟩,I.dj,I.un⟩
 have e:S 3 r'=.rc m ps:=e
 by_cases z:q=p
 ·subst z
  rw[BN]
  rcases h with h | h
  ·rw[h]
  ·exact absurd hq (h r' m ps e)
 ·rw[CH z];exact(I.pm r' m ps e q hq).1
theorem Snd.text(I:Snd m0 S){p:Nat}{t:Str}:Snd m0 (S.put 4 p (.tx t)):=by
 refine⟨I.nl,λr' m ps e=>I.ct r' m ps e,I.mr,I.nd,λr' m ps e q hq=>⟨(I.pm r' m ps e q hq).1,?_⟩,I.dj,I.un⟩
 by_cases z:q=p
 ·subst z;exact⟨t,BN⟩
 ·rw[CH z];exact(I.pm r' m ps e q hq).2
theorem Snd.gone(I:Snd m0 S)(hk:k<m0):Snd m0 (S.put 0 k .no):=by
 have at':∀ {j z r},(S.put 0 k .no) 0 j=.nm z r->S 0 j=.nm z r:=λ{j z r} e=>by
  by_cases h:j=k
  ·subst h;rw[BN]at e;cases e
  ·rw[CH h]at e;exact e
 refine⟨λj z r hj e=>I.nl j z r hj (at' e),λr m ps e=> ?_,I.mr,I.nd,I.pm,I.dj,λj j' z r r' h h' e e'=>I.un j j' z r r' h h' (at' e) (at' e')⟩
 have l:=UW (S:=S) (x:=.no) (r:=r) hk
 have c:=I.ct r m ps e
 rw[show F4 .no r=false from rfl]at l
 simp only[Bool.false_eq_true,if_false]at l
 omega
theorem Snd.fill(I:Snd m0 S)(hk:k<m0){z:Str}{r m:Nat}{ps:List Nat}(h3:S 3 r=.rc m ps)(hl:ld m0 S r+1<=m)(hz:∀ j r',j<m0->S 0 j≠.nm z r')(h0:∀ z r,S 0 k≠.nm z r):Snd m0 (S.put 0 k (.nm z r)):=by
 have at':∀ {j y q},(S.put 0 k (.nm z r)) 0 j=.nm y q->(j=k/\y=z/\q=r)\/(j≠k/\S 0 j=.nm y q):=λ{j y q} e=>by
  by_cases h:j=k
  ·subst h;rw[BN]at e;cases e;exact .inl ⟨rfl,rfl,rfl⟩
  ·rw[CH h]at e;exact .inr ⟨h,e⟩
 refine⟨λj y q hj e=> ?_,λq m' ps' e=> ?_,I.mr,I.nd,I.pm,I.dj,λj j' y q q' h h' e e'=> ?_⟩
 ·rcases at' e with⟨_,_,rfl⟩ | ⟨_,e⟩
  ·exact⟨m,ps,h3⟩
  ·exact I.nl j y q hj e
 ·have e:S 3 q=.rc m' ps':=e
  have l:=UW (S:=S) (x:=.nm z r) (r:=q) hk
  have c:=I.ct q m' ps' e
  have n0:F4 (S 0 k) q=false:=by
   cases e0:S 0 k with
   | nm y q'=>exact absurd e0 (h0 y q')
   | _=>rfl
  rw[n0]at l
  simp only[F4]at l
  by_cases z:r=q
  ·subst z
   rw[e]at h3;cases h3
   simp at l;omega
  ·simp[z]at l;omega
 ·rcases at' e with⟨e1,e2,_⟩ | ⟨e1,e2⟩<;>rcases at' e' with⟨f1,f2,_⟩ | ⟨f1,f2⟩
  ·rw[e1,f1]
  ·subst e2;exact absurd f2 (hz _ _ h')
  ·subst f2;exact absurd e2 (hz _ _ h)
  ·exact I.un j j' y q q' h h' e2 f2
theorem Snd.recd(I:Snd m0 S){r m':Nat}{ps':List Nat}(hl:ld m0 S r<=m')(hm:S 1 r=.mk 1)(hn:ps'.Nodup)(hp:∀ p∈ps',(S 2 p=.mk 1/\∃ t,S 4 p=.tx t)/\∀ q m ps,q≠r->S 3 q=.rc m ps->p∉ps):Snd m0 (S.put 3 r (.rc m' ps')):=by
 have at':∀ {q m ps},(S.put 3 r (.rc m' ps')) 3 q=.rc m ps->(q=r/\m=m'/\ps=ps')\/(q≠r/\S 3 q=.rc m ps):=λ{q m ps} e=>by
  by_cases h:q=r
  ·subst h;rw[BN]at e;cases e;exact .inl ⟨rfl,rfl,rfl⟩
  ·rw[CH h]at e;exact .inr ⟨h,e⟩
 refine⟨λj z q hj e=> ?_,λq m ps e=> ?_,λq m ps e=> ?_,λq m ps e=> ?_,λq m ps e p h=> ?_,λq q' m m1 ps ps1 ne e e' p h=> ?_,I.un⟩
 ·by_cases h:q=r
  ·subst h;exact⟨m',ps',BN⟩
  ·rw[CH h];exact I.nl j z q hj e
 ·rw[QE (by decide)]
  rcases at' e with⟨rfl,rfl,_⟩ | ⟨_,e⟩
  ·exact hl
  ·exact I.ct q m ps e
 ·rcases at' e with⟨rfl,_,_⟩ | ⟨_,e⟩
  ·exact hm
  ·exact I.mr q m ps e
 ·rcases at' e with⟨_,_,rfl⟩ | ⟨_,e⟩
  ·exact hn
  ·exact I.nd q m ps e
 ·rcases at' e with⟨_,_,rfl⟩ | ⟨_,e⟩
  ·exact(hp p h).1
  ·exact I.pm q m ps e p h
 ·rcases at' e with⟨e1,_,rfl⟩ | ⟨e1,e2⟩<;>rcases at' e' with⟨f1,_,rfl⟩ | ⟨f1,f2⟩
  ·exact absurd (e1.trans f1.symm) ne
  ·exact(hp p h).2 q' m1 ps1 (λz=>ne (e1.trans z.symm)) f2
  ·exact λz=>(hp p z).2 q m ps (λy=>ne (y.trans f1.symm)) e2 h
  ·exact I.dj q q' m m1 ps ps1 ne e2 f2 p h
theorem Snd.count(I:Snd m0 S){r m m':Nat}{ps:List Nat}(h3:S 3 r=.rc m ps)(hl:ld m0 S r<=m'):Snd m0 (S.put 3 r (.rc m' ps)) :=
 I.recd hl (I.mr r m ps h3) (I.nd r m ps h3) λp hp=>⟨I.pm r m ps h3 p hp,λq m1 ps1 ne e=>I.dj r q m m1 ps ps1 ne.symm h3 e p hp⟩
theorem Snd.less(I:Snd m0 S){r m:Nat}{ps ps':List Nat}(h3:S 3 r=.rc m ps)(hs:ps'.Sublist ps):Snd m0 (S.put 3 r (.rc m ps')) :=
 I.recd (I.ct r m ps h3) (I.mr r m ps h3) ((I.nd r m ps h3).sublist hs) λp hp=>⟨I.pm r m ps h3 p (hs.subset hp),λq m1 ps1 ne e=>I.dj r q m m1 ps ps1 ne.symm h3 e p (hs.subset hp)⟩
theorem Snd.more(I:Snd m0 S){r m p:Nat}{ps:List Nat}{t:Str}(h3:S 3 r=.rc m ps)(h2:S 2 p=.mk 1)(h4:S 4 p=.tx t)(hu:∀ q m ps,S 3 q=.rc m ps->p∉ps):Snd m0 (S.put 3 r (.rc m (ps++[p]))):=by
 refine I.recd (I.ct r m ps h3) (I.mr r m ps h3) (List.nodup_append.mpr ⟨I.nd r m ps h3,by simp,λx hx y hy e=> ?_⟩) λy hy=> ?_
 ·rw[List.mem_singleton]at hy;subst hy;subst e;exact hu r m ps h3 hx
 ·rcases List.mem_append.mp hy with hy | hy
  ·exact⟨I.pm r m ps h3 y hy,λq m1 ps1 ne e=>I.dj r q m m1 ps ps1 ne.symm h3 e y hy⟩
  ·rw[List.mem_singleton.mp hy];exact⟨⟨h2,t,h4⟩,λq m1 ps1 _ e=>hu q m1 ps1 e⟩
theorem Snd.drop(I:Snd m0 S){r:Nat}(hl:ld m0 S r=0):Snd m0 (S.put 3 r .no):=by
 have at':∀ {q m ps},(S.put 3 r .no) 3 q=.rc m ps->S 3 q=.rc m ps:=λ{q m ps} e=>by
  by_cases h:q=r
  ·subst h;rw[BN]at e;cases e
  ·rw[CH h]at e;exact e
 refine⟨λj z q hj e=> ?_,λq m ps e=> ?_,λq m ps e=>I.mr q m ps (at' e),λq m ps e=>I.nd q m ps (at' e),λq m ps e=>I.pm q m ps (at' e),λq q' m m1 ps ps1 ne e e'=>I.dj q q' m m1 ps ps1 ne (at' e) (at' e'),I.un⟩
 ·have e:S 0 j=.nm z q:=e
  by_cases h:q=r
  ·subst h
   exfalso
   have:0<ld m0 S q:=List.countP_pos_iff.mpr ⟨j,List.mem_range.mpr hj,by have e:S 0 j=.nm z q:=e;simp[e,F4]⟩
   omega
  ·rw[CH h];exact I.nl j z q hj e
 ·rw[QE (by decide)];exact I.ct q m ps (at' e)
structure Hist(m0:Nat)(M0:Md)(as:List AC)(t o:Str->Option Nat):Prop where
 sd:∀ C,D9 C as->Snd m0 (sh M0 C as)
 k1:∀ z k r,k<m0->AW M0 as 0 k=.nm z r->D8 0 k as=o z
 k2:∀ z,(∀ k r,k<m0->AW M0 as 0 k≠.nm z r)->t z=o z
 k3:∀ C z,D9 C as->(∀ j,o z=some j->C j=true)->∀ k r,k<m0->(sh M0 C as 0 k=.nm z r↔AW M0 as 0 k=.nm z r)
theorem UX:∀ as:List AC,D9 (λ_=>true) as
 | []=>trivial
 | _::r=>⟨UX r,λ_=>⟨λ_ _=>rfl,λ_ _=>rfl⟩⟩
variable{t o:Str->Option Nat}
theorem Hist.now(I:Hist m0 M0 as t o):Snd m0 (AW M0 as):=I.sd _ (UX as)
theorem Hist.step(I:Hist m0 M0 as t o){a:AC}(ha:a.kind≠0)(h:∀ C,D9 C (a::as)->C as.length=true->Snd m0 ((sh M0 C as).put a.kind a.k a.x)):Hist m0 M0 (a::as) t o:=by
 have s0:∀ (C:Nat->Bool) (k:Nat),sh M0 C (a::as) 0 k=sh M0 C as 0 k:=λC k=>by
  by_cases c:C as.length=true
  ·rw[BY c,BO ha.symm]
  ·rw[DA c]
 have s1:∀ k:Nat,AW M0 (a::as) 0 k=AW M0 as 0 k:=s0 _
 refine⟨λC hC=> ?_,λz k r hk e=> ?_,λz e=>I.k2 z λk r hk=>by rw[<-s1];exact e k r hk,λC z hC ho k r hk=> ?_⟩
 ·by_cases c:C as.length=true
  ·rw[BY c];exact h C hC c
  ·rw[DA c];exact I.sd C hC.1
 ·rw[s1]at e
  unfold D8
  rw[if_neg λz=>ha z.1]
  exact I.k1 z k r hk e
 ·rw[s0,s1];exact I.k3 C z hC.1 ho k r hk
def EK(f:Str->Option Nat)(z:Str)(j:Nat):Str->Option Nat:=λy=>if y=z then some j else f y
theorem Hist.fill(I:Hist m0 M0 as t o){z:Str}{k r:Nat}{nd:List Nat}(hk:k<m0)(h0:AW M0 as 0 k=.no)(hz:∀ j r,j<m0->AW M0 as 0 j≠.nm z r)(ht:∀ j,t z=some j->j∈nd)
  (h:∀ C,D9 C (⟨0,k,.nm z r,nd⟩::as)->C as.length=true->∃ m ps,sh M0 C as 3 r=.rc m ps/\ld m0 (sh M0 C as) r+1<=m):Hist m0 M0 (⟨0,k,.nm z r,nd⟩::as) t (EK o z as.length):=by
 have to:=I.k2 z hz
 have hnk:∀ {j y q},j<m0->AW M0 as 0 j=.nm y q->j≠k/\y≠z:=λ{j y q} hj e=>⟨λe'=>(by rw[e',h0]at e;cases e),λe'=>hz j q hj (e' ▸ e)⟩
 have free:∀ C,D9 C (⟨0,k,.nm z r,nd⟩::as)->C as.length=true->sh M0 C as 0 k=.no/\∀ j q,j<m0->sh M0 C as 0 j≠.nm z q:=λC hC c=>by
  refine⟨by rw[HM (a:=⟨0,k,.nm z r,nd⟩) hC c];exact h0,λj q hj e=> ?_⟩
  exact hz j q hj ((I.k3 C z hC.1 (λi ei=>(hC.2 c).1 i (ht i (by rw[to,ei]))) j q hj).mp e)
 refine⟨λC hC=> ?_,λy j q hj e=> ?_,λy e=> ?_,λC y hC ho j q hj=> ?_⟩
 ·by_cases c:C as.length=true
  ·obtain⟨m,ps,h3,hl⟩:=h C hC c
   obtain⟨f1,f2⟩:=free C hC c
   rw[BY c]
   exact(I.sd C hC.1).fill hk h3 hl f2 λz r e=>by rw[f1]at e;cases e
  ·rw[DA c];exact I.sd C hC.1
 ·rw[BE]at e
  unfold D8
  by_cases z':j=k
  ·subst z'
   rw[BN]at e;cases e
   rw[if_pos ⟨rfl,rfl⟩]
   exact(if_pos rfl).symm
  ·rw[CH z']at e
   rw[if_neg λw=>z' w.2.symm]
   unfold EK
   rw[if_neg (hnk hj e).2]
   exact I.k1 y j q hj e
 ·have ny:y≠z:=λw=>by
   subst w
   exact e k r hk (by rw[BE,BN])
  unfold EK
  rw[if_neg ny]
  refine I.k2 y λj q hj e'=>e j q hj ?_
  rw[BE,CH (hnk hj e').1];exact e'
 ·rw[BE]
  by_cases c:C as.length=true
  ·obtain⟨f1,f2⟩:=free C hC c
   rw[BY c]
   by_cases z':j=k
   ·subst z';rw[BN,BN]
   ·rw[CH z',CH z']
    by_cases w:y=z
    ·subst w
     exact⟨λe=>absurd e (f2 j q hj),λe=>absurd e (hz j q hj)⟩
    ·unfold EK at ho
     rw[if_neg w]at ho
     exact I.k3 C y hC.1 ho j q hj
  ·rw[DA c]
   unfold EK at ho
   by_cases w:y=z
   ·subst w
    rw[if_pos rfl]at ho
    exact absurd (ho _ rfl) c
   ·rw[if_neg w]at ho
    have k3:=I.k3 C y hC.1 ho j q hj
    by_cases z':j=k
    ·subst z'
     rw[BN]
     refine⟨λe=> ?_,λe=>absurd (by cases e;rfl) w⟩
     have:=k3.mp e
     rw[h0]at this;cases this
    ·rw[CH z'];exact k3
theorem Hist.gone(I:Hist m0 M0 as t o){z:Str}{k r:Nat}{nd:List Nat}(hk:k<m0)(h0:AW M0 as 0 k=.nm z r):Hist m0 M0 (⟨0,k,.no,nd⟩::as) (EK t z as.length) (EK o z as.length):=by
 have un:=I.now.un
 have k1:=I.k1 z k r hk h0
 have only:∀ {j q},j<m0->AW M0 as 0 j=.nm z q->j=k:=λ{j q} hj e=>un j k z q r hj hk e h0
 refine⟨λC hC=> ?_,λy j q hj e=> ?_,λy e=> ?_,λC y hC ho j q hj=> ?_⟩
 ·by_cases c:C as.length=true
  ·rw[BY c];exact(I.sd C hC.1).gone hk
  ·rw[DA c];exact I.sd C hC.1
 ·rw[BE]at e
  by_cases z':j=k
  ·subst z';rw[BN]at e;cases e
  ·rw[CH z']at e
   unfold D8 EK
   rw[if_neg λw=>z' w.2.symm,if_neg λw=>z' (only hj (w ▸ e))]
   exact I.k1 y j q hj e
 ·unfold EK
  by_cases w:y=z
  ·rw[if_pos w,if_pos w]
  ·rw[if_neg w,if_neg w]
   refine I.k2 y λj q hj e'=>e j q hj ?_
   have:j≠k:=λz'=>by rw[z',h0]at e';cases e';exact w rfl
   rw[BE,CH this];exact e'
 ·rw[BE]
  unfold EK at ho
  by_cases c:C as.length=true
  ·rw[BY c]
   have ck:sh M0 C as 0 k=.nm z r:=by rw[HM (a:=⟨0,k,.no,nd⟩) hC c];exact h0
   by_cases z':j=k
   ·subst z';rw[BN,BN]
   ·rw[CH z',CH z']
    by_cases w:y=z
    ·subst w
     exact⟨λe=>absurd ((I.sd C hC.1).un j k y q r hj hk e ck) z',λe=>absurd (only hj e) z'⟩
    ·rw[if_neg w]at ho;exact I.k3 C y hC.1 ho j q hj
  ·rw[DA c]
   by_cases w:y=z
   ·subst w
    rw[if_pos rfl]at ho
    exact absurd (ho _ rfl) c
   ·rw[if_neg w]at ho
    have k3:=I.k3 C y hC.1 ho j q hj
    by_cases z':j=k
    ·subst z'
     rw[BN]
     refine⟨λe=> ?_,λe=>by cases e⟩
     have:=k3.mp e
     rw[h0]at this;cases this;exact absurd rfl w
    ·rw[CH z'];exact k3
theorem Snd.ld0(I:Snd m0 S){r:Nat}(h:∀ m ps,S 3 r≠.rc m ps):ld m0 S r=0:=by
 refine List.countP_eq_zero.mpr λk hk e=> ?_
 cases e0:S 0 k with
 | nm z q =>
  simp only[e0,F4,beq_iff_eq]at e
  subst e
  obtain⟨m,ps,e⟩:=I.nl k z q (List.mem_range.mp hk) e0
  exact h m ps e
 | _=>simp[e0,F4]at e
theorem Hist.make(I:Hist m0 M0 as t o){z:Str}{k r:Nat}{nd:List Nat}(hk:k<m0)(h0:AW M0 as 0 k=.no)(hz:∀ j r,j<m0->AW M0 as 0 j≠.nm z r)(h1:AW M0 as 1 r≠.mk 1)(hn:as.length+1∈nd)(ht:∀ j,t z=some j->j∈nd) :
  Hist m0 M0 (⟨0,k,.nm z r,nd⟩::⟨3,r,.rc 1 [],[as.length]⟩::⟨1,r,.mk 1,[]⟩::as) t (EK o z (as.length+2)):=by
 have I1:=I.step (a:=⟨1,r,.mk 1,[]⟩) (by simp) λC hC _=>(I.sd C hC.1).rmark (.inl rfl)
 have no:∀ C,D9 C (⟨3,r,.rc 1 [],[as.length]⟩::⟨1,r,.mk 1,[]⟩::as)->C (as.length+1)=true->ld m0 (sh M0 C (⟨1,r,.mk 1,[]⟩::as)) r=0:=λC hC c=>by
  refine(I1.sd C hC.1).ld0 λm ps e=> ?_
  rw[HM (a:=⟨3,r,.rc 1 [],[as.length]⟩) hC c,BE,BO (by simp)]at e
  exact h1 (I.now.mr r m ps e)
 have I2:=I1.step (a:=⟨3,r,.rc 1 [],[as.length]⟩) (by simp) λC hC c=>by
  have cL:C as.length=true:=(hC.2 c).1 _ (by simp)
  refine(I1.sd C hC.1).recd (by rw[no C hC c];omega) ?_ List.nodup_nil (by simp)
  rw[BY cL,BN]
 refine I2.fill hk (by rw[BE,BO (by simp),BE,BO (by simp)];exact h0) (λj q hj=>by rw[BE,BO (by simp),BE,BO (by simp)];exact hz j q hj) ht λC hC c=> ?_
 have cL:C (as.length+1)=true:=(hC.2 c).1 _ hn
 refine⟨1,[],by rw[BY cL,BN],?_⟩
 rw[BY cL,QE (by simp),no C hC.1 cL]
 exact Nat.le_refl 1
theorem Hist.link(I:Hist m0 M0 as t o){z:Str}{k r m:Nat}{ps nd:List Nat}(hk:k<m0)(h0:AW M0 as 0 k=.no)(hz:∀ j r,j<m0->AW M0 as 0 j≠.nm z r)(h3:AW M0 as 3 r=.rc m ps)(hn:as.length∈nd)(ht:∀ j,t z=some j->j∈nd) :
  Hist m0 M0 (⟨0,k,.nm z r,nd⟩::⟨3,r,.rc (m+1) ps,[]⟩::as) t (EK o z (as.length+1)):=by
 have a3:∀ C,D9 C (⟨3,r,.rc (m+1) ps,[]⟩::as)->C as.length=true->sh M0 C as 3 r=.rc m ps:=λC hC c=>by
  rw[HM (a:=⟨3,r,.rc (m+1) ps,[]⟩) hC c];exact h3
 have I1:=I.step (a:=⟨3,r,.rc (m+1) ps,[]⟩) (by simp) λC hC c=>(I.sd C hC.1).count (a3 C hC c) (Nat.le_succ_of_le ((I.sd C hC.1).ct r m ps (a3 C hC c)))
 refine I1.fill hk (by rw[BE,BO (by simp)];exact h0) (λj q hj=>by rw[BE,BO (by simp)];exact hz j q hj) ht λC hC c=> ?_
 have cL:C as.length=true:=(hC.2 c).1 _ hn
 refine⟨m+1,ps,by rw[BY cL,BN],?_⟩
 rw[BY cL,QE (by simp)]
 exact Nat.succ_le_succ ((I.sd C hC.1.1).ct r m ps (a3 C hC.1 cL))
theorem Hist.fewer(I:Hist m0 M0 as t o){z:Str}{k r m:Nat}{ps nd:List Nat}{b:AC}(hk:k<m0)(h0:AW M0 as 0 k=.nm z r)(h3:AW M0 as 3 r=.rc m ps)(hb:b.kind=3/\b.k=r/\as.length∈b.nd){C:Nat->Bool}(hC:D9 C (b::⟨0,k,.no,nd⟩::as))(c:C (as.length+1)=true) :
  sh M0 C (⟨0,k,.no,nd⟩::as) 3 r=.rc m ps/\ld m0 (sh M0 C (⟨0,k,.no,nd⟩::as)) r+1<=m/\sh M0 C as 3 r=.rc m ps:=by
 obtain⟨b1,b2,b3⟩:=hb
 have cL:C as.length=true:=(hC.2 c).1 _ b3
 have e3:sh M0 C (⟨0,k,.no,nd⟩::as) 3 r=.rc m ps:=by
  have:=HM (M0:=M0) hC c
  rw[b1,b2]at this
  rw[this,BE,BO (by simp)];exact h3
 have f3:sh M0 C as 3 r=.rc m ps:=by
  rw[BY cL,BO (by simp)]at e3;exact e3
 have f0:sh M0 C as 0 k=.nm z r:=by rw[HM (a:=⟨0,k,.no,nd⟩) hC.1 cL];exact h0
 refine⟨e3,?_,f3⟩
 have l:=UW (S:=sh M0 C as) (x:=.no) (r:=r) hk
 rw[f0,show F4 (.nm z r) r=true from by simp[F4],show F4 .no r=false from rfl]at l
 simp only[Bool.false_eq_true,if_false,if_true]at l
 have c1:=(I.sd C hC.1.1).ct r m ps f3
 have e:ld m0 (sh M0 C (⟨0,k,.no,nd⟩::as)) r=ld m0 ((sh M0 C as).put 0 k .no) r:=by rw[BY cL]
 omega
theorem Hist.unlead(I:Hist m0 M0 as t o){z:Str}{k r m:Nat}{ps nd:List Nat}(hk:k<m0)(h0:AW M0 as 0 k=.nm z r)(h3:AW M0 as 3 r=.rc (m+1) ps) :
  Hist m0 M0 (⟨3,r,.rc m ps,[as.length]⟩::⟨0,k,.no,nd⟩::as) (EK t z as.length) (EK o z as.length):=by
 have I1:=I.gone (nd:=nd) hk h0
 exact I1.step (a:=⟨3,r,.rc m ps,[as.length]⟩) (by simp) λC hC c=>by
  obtain⟨e1,e2,_⟩:=I.fewer hk h0 h3 ⟨rfl,rfl,by simp⟩ hC c
  exact(I1.sd C hC.1).count e1 (Nat.le_of_succ_le_succ e2)
theorem Hist.unmark{d:Nat}:∀ {ps:List Nat} {bs:List AC},Hist m0 M0 bs t o->(∀ C,D9 C bs->C d=true->∀ q m ps',sh M0 C bs 3 q=.rc m ps'->∀ p∈ps,p∉ps')->Hist m0 M0 ((ps.map λp=>(⟨2,p,.mk 0,[d]⟩:AC)).reverse++bs) t o
 | [],bs,I,_=>I
 | p::ps,bs,I,h=>by
  have I1:=I.step (a:=⟨2,p,.mk 0,[d]⟩) (by simp) λC hC c=>(I.sd C hC.1).pmark (.inr λr m ps' e=>h C hC.1 ((hC.2 c).1 d (by simp)) r m ps' e p List.mem_cons_self)
  have:=Hist.unmark (ps:=ps) I1 λC hC cd q m ps' e p' hp'=>by
   have e':sh M0 C bs 3 q=.rc m ps':=by
    by_cases c:C bs.length=true
    ·rw[BY c,BO (by simp)]at e;exact e
    ·rw[DA c]at e;exact e
   exact h C hC.1 cd q m ps' e' p' (List.mem_cons_of_mem _ hp')
  rw[List.map_cons,List.reverse_cons,List.append_assoc]
  exact this
theorem Fy{cs:List AC}{i j:Nat}(h:∀ a∈cs,a.kind≠i):sh M0 C (cs++as) i j=sh M0 C as i j:=by
 induction cs with
 | nil=>rfl
 | cons a r ih =>
  have ih:=ih λb hb=>h b (List.mem_cons_of_mem _ hb)
  rw[List.cons_append]
  by_cases c:C (r++as).length=true
  ·rw[BY c,BO (h a List.mem_cons_self).symm];exact ih
  ·rw[DA c];exact ih
theorem Hist.dropped(I:Hist m0 M0 as t o){z:Str}{k r m:Nat}{ps nd:List Nat}(hk:k<m0)(h0:AW M0 as 0 k=.nm z r)(h3:AW M0 as 3 r=.rc m ps)(hm:m<=1) :
  Hist m0 M0 (⟨1,r,.mk 0,[as.length+1]⟩::((ps.map λp=>(⟨2,p,.mk 0,[as.length+1]⟩:AC)).reverse++⟨3,r,.no,[as.length]⟩::⟨0,k,.no,nd⟩::as)) (EK t z as.length) (EK o z as.length):=by
 have I1:=I.gone (nd:=nd) hk h0
 have I2:=I1.step (a:=⟨3,r,.no,[as.length]⟩) (by simp) λC hC c=>by
  obtain⟨e1,e2,_⟩:=I.fewer hk h0 h3 ⟨rfl,rfl,by simp⟩ hC c
  exact(I1.sd C hC.1).drop (Nat.le_zero.mp (Nat.le_of_succ_le_succ (Nat.le_trans e2 hm)))
 have I3:=Hist.unmark (d:=as.length+1) (ps:=ps) I2 λC hC cd q m' ps' e p hp=>by
  obtain⟨_,_,f3⟩:=I.fewer hk h0 h3 ⟨rfl,rfl,by simp⟩ hC cd
  have cL:C as.length=true:=(hC.2 cd).1 _ (by simp)
  rw[BY cd]at e
  by_cases z:q=r
  ·subst z;rw[BN]at e;cases e
  ·rw[CH z,BY cL,BO (by simp)]at e
   exact(I.sd C hC.1.1).dj r q m m' ps ps' (λy=>z y.symm) f3 e p hp
 refine I3.step (a:=⟨1,r,.mk 0,[as.length+1]⟩) (by simp) λC hC c=>(I3.sd C hC.1).rmark (.inr λm' ps' e=> ?_)
 have cd:C (as.length+1)=true:=(hC.2 c).1 _ (by simp)
 rw[Fy (λa ha=>by
  obtain⟨p,_,rfl⟩:=List.mem_map.mp (List.mem_reverse.mp ha)
  simp),BY cd,BN]at e
 cases e
theorem Hist.put(I:Hist m0 M0 as t o){r m p:Nat}{ps:List Nat}{x:Str}(h2:AW M0 as 2 p≠.mk 1)(h3:AW M0 as 3 r=.rc m ps) :
  Hist m0 M0 (⟨3,r,.rc m (ps++[p]),[as.length+1]⟩::⟨4,p,.tx x,[as.length]⟩::⟨2,p,.mk 1,[]⟩::as) t o:=by
 have I1:=I.step (a:=⟨2,p,.mk 1,[]⟩) (by simp) λC hC _=>(I.sd C hC.1).pmark (.inl rfl)
 have I2:=I1.step (a:=⟨4,p,.tx x,[as.length]⟩) (by simp) λC hC _=>(I1.sd C hC.1).text
 refine I2.step (a:=⟨3,r,.rc m (ps++[p]),[as.length+1]⟩) (by simp) λC hC c=> ?_
 have c1:C (as.length+1)=true:=(hC.2 c).1 _ (by simp)
 have c0:C as.length=true:=(hC.1.2 c1).1 _ (by simp)
 refine(I2.sd C hC.1).more (t:=x) ?_ ?_ ?_ λq m' ps' e hp=> ?_
 ·rw[HM (a:=⟨3,r,.rc m (ps++[p]),[as.length+1]⟩) hC c,BE,BO (by simp),BE,BO (by simp)];exact h3
 ·rw[BY c1,BO (by simp),BY c0,BN]
 ·rw[BY c1,BN]
 ·rw[BY c1,BO (by simp),BY c0,BO (by simp)]at e
  have:=((I.sd C hC.1.1.1).pm q m' ps' e p hp).1
  rw[HM (a:=⟨2,p,.mk 1,[]⟩) hC.1.1 c0]at this
  exact h2 this
theorem Hist.take(I:Hist m0 M0 as t o){r m p i:Nat}{ps:List Nat}(h3:AW M0 as 3 r=.rc m ps)(hi:ps[i]? =some p) :
  Hist m0 M0 (⟨2,p,.mk 0,[as.length]⟩::⟨3,r,.rc m (ps.eraseIdx i),[]⟩::as) t o:=by
 have a3:∀ C,D9 C (⟨3,r,.rc m (ps.eraseIdx i),[]⟩::as)->C as.length=true->sh M0 C as 3 r=.rc m ps:=λC hC c=>by
  rw[HM (a:=⟨3,r,.rc m (ps.eraseIdx i),[]⟩) hC c];exact h3
 have I1:=I.step (a:=⟨3,r,.rc m (ps.eraseIdx i),[]⟩) (by simp) λC hC c=>(I.sd C hC.1).less (a3 C hC c) (List.eraseIdx_sublist ..)
 refine I1.step (a:=⟨2,p,.mk 0,[as.length]⟩) (by simp) λC hC c=>(I1.sd C hC.1).pmark (.inr λq m' ps' e=> ?_)
 have c0:C as.length=true:=(hC.2 c).1 _ (by simp)
 have e3:=a3 C hC.1 c0
 rw[BY c0]at e
 by_cases z:q=r
 ·subst z
  rw[BN]at e
  cases e
  have nd:=(I.sd C hC.1.1).nd q m ps e3
  exact λh=>by
   have hl:=(List.getElem?_eq_some_iff.mp hi).1
   obtain⟨j,hj,ej⟩:=List.mem_eraseIdx_iff_getElem?.mp h
   exact hj ((List.getElem?_inj hl nd).mp (hi.trans ej.symm)).symm
 ·rw[CH z]at e
  exact(I.sd C hC.1.1).dj r q m m' ps ps' (λy=>z y.symm) e3 e p (List.mem_of_getElem? hi)
end
end L2
namespace L2
section
variable{M0 S:Md}{C:Nat->Bool}{as:List AC}{gs:List Nat}{kind k m0:Nat}{x:CV}
def ET(C:Nat->Bool):List AC->List Nat->Nat->Option Nat
 | a::r,g::gs,i=>if C r.length=true/\a.kind=3/\a.k=i then some g else ET C r gs i
 | _,_,_=>none
def CU(S:Md)(ps:List Nat):List CV:=ps.map (S 4)
structure Vers(m0:Nat)(M0:Md)(as:List AC)(gs:List Nat)(V:Nat->List CV->Prop)(ev:Str->Nat->Prop):Prop where
 ln:gs.length=as.length
 va:∀ C,D9 C as->∀ r m ps,sh M0 C as 3 r=.rc m ps->∃ g,ET C as gs r=some g/\V g (CU (sh M0 C as) ps)
 vb:∀ C,D9 C as->∀ r m ps,AW M0 as 3 r=.rc m ps->(∀ j,D8 3 r as=some j->C j=true)->∀ p∈ps,∀ j,D8 4 p as=some j->C j=true
 vc:∀ C,D9 C as->∀ k z r g,k<m0->sh M0 C as 0 k=.nm z r->ET C as gs r=some g->ev z g
theorem GD{a:AC}{g i:Nat}(c:C as.length=true)(h:a.kind=3/\a.k=i):ET C (a::as) (g::gs) i=some g:=if_pos ⟨c,h⟩
theorem DP{a:AC}{g i:Nat}(h:C as.length=true->¬ (a.kind=3/\a.k=i)):ET C (a::as) (g::gs) i=ET C as gs i:=if_neg λz=>h z.1 z.2
theorem gC{i:Nat}:∀ {as:List AC} {gs:List Nat},(∀ j,D8 3 i as=some j->C j=true)->ET C as gs i=ET (λ_=>true) as gs i
 | [],_,_=>rfl
 | _::_,[],_=>rfl
 | a::as,g::gs,h=>by
  unfold D8 at h
  by_cases e:a.kind=3/\a.k=i
  ·rw[if_pos e]at h
   rw[GD (h _ rfl) e,GD rfl e]
  ·rw[if_neg e]at h
   rw[DP λ_=>e,DP λ_=>e]
   exact gC h
variable{V V':Nat->List CV->Prop}{ev ev':Str->Nat->Prop}
theorem Vers.grow(I:Vers m0 M0 as gs V ev)(hV:∀ g t,V g t->V' g t)(he:∀ z g,ev z g->ev' z g):Vers m0 M0 as gs V' ev' :=
 ⟨I.ln,λC hC r m ps e=>(let ⟨g,h1,h2⟩:=I.va C hC r m ps e;⟨g,h1,hV _ _ h2⟩),I.vb,λC hC k z r g hk e h=>he _ _ (I.vc C hC k z r g hk e h)⟩
theorem KG{a:AC}(h:¬ (a.kind=kind/\a.k=k)):D8 kind k (a::as)=D8 kind k as:=if_neg h
theorem gD{a:AC}(h:a.kind=kind/\a.k=k):D8 kind k (a::as)=some as.length:=if_pos h
theorem Vers.mark(I:Vers m0 M0 as gs V ev){a:AC}(h:a.kind=1\/a.kind=2){g:Nat}:Vers m0 M0 (a::as) (g::gs) V ev:=by
 have n3:∀ i,¬ (a.kind=3/\a.k=i):=λi z=>by omega
 have n4:∀ i,¬ (a.kind=4/\a.k=i):=λi z=>by omega
 have s:∀ C i j,i=0\/i=3\/i=4->sh M0 C (a::as) i j=sh M0 C as i j:=λC i j hi=>by
  by_cases c:C as.length=true
  ·rw[BY c,BO (by omega)]
  ·rw[DA c]
 have st:∀ C ps,CU (sh M0 C (a::as)) ps=CU (sh M0 C as) ps:=λC ps=>List.map_congr_left λp _=>s C 4 p (by omega)
 refine⟨by rw[List.length_cons,List.length_cons,I.ln],λC hC r m ps e=> ?_,λC hC r m ps e hl p hp j hj=> ?_,λC hC k z r g' hk e hg=> ?_⟩
 ·rw[s C 3 r (by omega)]at e
  rw[DP λ_=>n3 r,st]
  exact I.va C hC.1 r m ps e
 ·rw[show AW M0 (a::as) 3 r=AW M0 as 3 r from s _ 3 r (by omega)]at e
  rw[KG (n3 r)]at hl
  rw[KG (n4 p)]at hj
  exact I.vb C hC.1 r m ps e hl p hp j hj
 ·rw[s C 0 k (by omega)]at e
  rw[DP λ_=>n3 r]at hg
  exact I.vc C hC.1 k z r g' hk e hg
theorem Vers.text(I:Vers m0 M0 as gs V ev){p:Nat}{t:Str}{nd:List Nat}{g:Nat}(hn:∀ r m ps,AW M0 as 3 r=.rc m ps->p∉ps)(hp:∀ C,D9 C (⟨4,p,.tx t,nd⟩::as)->C as.length=true->∀ r m ps,sh M0 C as 3 r=.rc m ps->p∉ps):Vers m0 M0 (⟨4,p,.tx t,nd⟩::as) (g::gs) V ev:=by
 have n3:∀ i,¬ ((⟨4,p,.tx t,nd⟩:AC).kind=3/\(⟨4,p,.tx t,nd⟩:AC).k=i):=λi z=>by simp at z
 have s:∀ C i j,i≠4->sh M0 C (⟨4,p,.tx t,nd⟩::as) i j=sh M0 C as i j:=λC i j hi=>by
  by_cases c:C as.length=true
  ·rw[BY c,BO hi]
  ·rw[DA c]
 refine⟨by rw[List.length_cons,List.length_cons,I.ln],λC hC r m ps e=> ?_,λC hC r m ps e hl q hq j hj=> ?_,λC hC k z r g' hk e hg=> ?_⟩
 ·rw[s C 3 r (by omega)]at e
  rw[DP λ_=>n3 r]
  obtain⟨g',h1,h2⟩:=I.va C hC.1 r m ps e
  refine⟨g',h1,?_⟩
  by_cases c:C as.length=true
  ·have:CU (sh M0 C (⟨4,p,.tx t,nd⟩::as)) ps=CU (sh M0 C as) ps:=List.map_congr_left λq hq=>by
    rw[BY c,CH λ(z:q=p)=>hp C hC c r m ps e (z ▸ hq)]
   rw[this];exact h2
  ·rw[DA c];exact h2
 ·rw[show AW M0 (⟨4,p,.tx t,nd⟩::as) 3 r=AW M0 as 3 r from s _ 3 r (by omega)]at e
  rw[KG (n3 r)]at hl
  rw[KG (a:=⟨4,p,.tx t,nd⟩) λz=>hn r m ps e (by have z2:p=q:=z.2;rw[z2];exact hq)]at hj
  exact I.vb C hC.1 r m ps e hl q hq j hj
 ·rw[s C 0 k (by omega)]at e
  rw[DP λ_=>n3 r]at hg
  exact I.vc C hC.1 k z r g' hk e hg
theorem Vers.name(I:Vers m0 M0 as gs V ev){k:Nat}{y:CV}{nd:List Nat}{g:Nat}(h:∀ C,D9 C (⟨0,k,y,nd⟩::as)->C as.length=true->∀ z r g',y=.nm z r->ET C as gs r=some g'->ev z g'):Vers m0 M0 (⟨0,k,y,nd⟩::as) (g::gs) V ev:=by
 have n:∀ q i,q≠0->¬ ((⟨0,k,y,nd⟩:AC).kind=q/\(⟨0,k,y,nd⟩:AC).k=i):=λq i hq z=>hq z.1.symm
 have s:∀ C i j,i≠0->sh M0 C (⟨0,k,y,nd⟩::as) i j=sh M0 C as i j:=λC i j hi=>by
  by_cases c:C as.length=true
  ·rw[BY c,BO hi]
  ·rw[DA c]
 have st:∀ C ps,CU (sh M0 C (⟨0,k,y,nd⟩::as)) ps=CU (sh M0 C as) ps:=λC ps=>List.map_congr_left λp _=>s C 4 p (by omega)
 refine⟨by rw[List.length_cons,List.length_cons,I.ln],λC hC r m ps e=> ?_,λC hC r m ps e hl p hp j hj=> ?_,λC hC k' z r g' hk e hg=> ?_⟩
 ·rw[s C 3 r (by omega)]at e
  rw[DP λ_=>n 3 r (by omega),st]
  exact I.va C hC.1 r m ps e
 ·rw[show AW M0 (⟨0,k,y,nd⟩::as) 3 r=AW M0 as 3 r from s _ 3 r (by omega)]at e
  rw[KG (n 3 r (by omega))]at hl
  rw[KG (n 4 p (by omega))]at hj
  exact I.vb C hC.1 r m ps e hl p hp j hj
 ·rw[DP λ_=>n 3 r (by omega)]at hg
  by_cases c:C as.length=true
  ·rw[BY c]at e
   by_cases w:k'=k
   ·subst w
    rw[BN]at e
    exact h C hC c z r g' e hg
   ·rw[CH w]at e;exact I.vc C hC.1 k' z r g' hk e hg
  ·rw[DA c]at e;exact I.vc C hC.1 k' z r g' hk e hg
theorem Vers.recd(I:Vers m0 M0 as gs V ev){r:Nat}{y:CV}{nd:List Nat}{g:Nat}(h1:∀ C,D9 C (⟨3,r,y,nd⟩::as)->C as.length=true->∀ m ps,y=.rc m ps->V g (CU (sh M0 C as) ps)/\∀ p∈ps,∀ j,D8 4 p as=some j->C j=true)(h2:∀ C,D9 C (⟨3,r,y,nd⟩::as)->C as.length=true->∀ k z,k<m0->sh M0 C as 0 k=.nm z r->ev z g):Vers m0 M0 (⟨3,r,y,nd⟩::as) (g::gs) V ev:=by
 have n:∀ q i,q≠3->¬ ((⟨3,r,y,nd⟩:AC).kind=q/\(⟨3,r,y,nd⟩:AC).k=i):=λq i hq z=>hq z.1.symm
 have s:∀ C i j,i≠3->sh M0 C (⟨3,r,y,nd⟩::as) i j=sh M0 C as i j:=λC i j hi=>by
  by_cases c:C as.length=true
  ·rw[BY c,BO hi]
  ·rw[DA c]
 have st:∀ C ps,CU (sh M0 C (⟨3,r,y,nd⟩::as)) ps=CU (sh M0 C as) ps:=λC ps=>List.map_congr_left λp _=>s C 4 p (by omega)
 refine⟨by rw[List.length_cons,List.length_cons,I.ln],λC hC q m ps e=> ?_,λC hC q m ps e hl p hp j hj=> ?_,λC hC k z q g' hk e hg=> ?_⟩
 ·rw[st]
  by_cases c:C as.length=true
  ·rw[BY c]at e
   by_cases w:q=r
   ·subst w
    rw[BN]at e
    exact⟨g,GD c ⟨rfl,rfl⟩,(h1 C hC c m ps e).1⟩
   ·rw[CH w]at e
    rw[DP λ_ (z:3=3/\r=q)=>w z.2.symm]
    exact I.va C hC.1 q m ps e
  ·rw[DA c]at e
   rw[DP λz=>absurd z c]
   exact I.va C hC.1 q m ps e
 ·rw[KG (n 4 p (by omega))]at hj
  rw[BE]at e
  by_cases w:q=r
  ·subst w
   rw[BN]at e
   exact(h1 C hC (hl _ (gD ⟨rfl,rfl⟩)) m ps e).2 p hp j hj
  ·rw[CH w]at e
   rw[KG λ(z:3=3/\r=q)=>w z.2.symm]at hl
   exact I.vb C hC.1 q m ps e hl p hp j hj
 ·rw[s C 0 k (by omega)]at e
  by_cases c:C as.length=true
  ·by_cases w:q=r
   ·subst w
    rw[GD c ⟨rfl,rfl⟩]at hg
    cases hg
    exact h2 C hC c k z hk e
   ·rw[DP λ_ (z:3=3/\r=q)=>w z.2.symm]at hg
    exact I.vc C hC.1 k z q g' hk e hg
  ·rw[DP λz=>absurd z c]at hg
   exact I.vc C hC.1 k z q g' hk e hg
theorem Vers.redo(J:Vers m0 M0 as gs V ev){r m g:Nat}{ps nd:List Nat}{y:CV}(h3:AW M0 as 3 r=.rc m ps)(hg:ET (λ_=>true) as gs r=some g)(hy:∀ m' ps',y=.rc m' ps'->V g (CU (AW M0 as) ps')/\∀ p∈ps',p∈ps\/∀ j,D8 4 p as=some j->j∈nd):Vers m0 M0 (⟨3,r,y,nd⟩::as) (g::gs) V ev:=by
 refine J.recd (λC hC c m' ps' e=> ?_) λC hC c k z hk e=>J.vc C hC.1 k z r g hk e ((gC (hC.2 c).2).trans hg)
 obtain⟨v,hp⟩:=hy m' ps' e
 have sh':∀ p∈ps',∀ j,D8 4 p as=some j->C j=true:=λp h j hj=>(hp p h).elim (λz=>J.vb C hC.1 r m ps h3 (hC.2 c).2 p z j hj) λz=>(hC.2 c).1 j (z j hj)
 refine⟨?_,sh'⟩
 rw[show CU (sh M0 C as) ps'=CU (AW M0 as) ps' from List.map_congr_left λp h=>gB (sh' p h)]
 exact v
theorem Vers.now(J:Vers m0 M0 as gs V ev){r m:Nat}{ps:List Nat}(h3:AW M0 as 3 r=.rc m ps):∃ g,ET (λ_=>true) as gs r=some g/\V g (CU (AW M0 as) ps):=J.va _ (UX as) r m ps h3
variable{t o:Str->Option Nat}
theorem Vers.make(J:Vers m0 M0 as gs V ev)(I:Hist m0 M0 as t o){z:Str}{k r g:Nat}{nd:List Nat}(h1:AW M0 as 1 r≠.mk 1)(hn:as.length+1∈nd)(hV:V g [])(he:ev z g) :
  Vers m0 M0 (⟨0,k,.nm z r,nd⟩::⟨3,r,.rc 1 [],[as.length]⟩::⟨1,r,.mk 1,[]⟩::as) (0::g::0::gs) V ev:=by
 have I1:=I.step (a:=⟨1,r,.mk 1,[]⟩) (by simp) λC hC _=>(I.sd C hC.1).rmark (.inl rfl)
 have J2:=(J.mark (a:=⟨1,r,.mk 1,[]⟩) (.inl rfl) (g:=0)).recd (r:=r) (y:=.rc 1 []) (nd:=[as.length]) (g:=g) (λC hC c m ps e=>by cases e;exact⟨hV,λp hp=>(by cases hp)⟩) λC hC c k' z' hk e=>by
  obtain⟨m,ps,e⟩:=(I1.sd C hC.1).nl k' z' r hk e
  rw[HM (a:=⟨3,r,.rc 1 [],[as.length]⟩) hC c,BE,BO (by simp)]at e
  exact absurd (I.now.mr r m ps e) h1
 refine J2.name λC hC c z' r' g' e hg=> ?_
 cases e
 have cL:C (as.length+1)=true:=(hC.2 c).1 _ hn
 rw[GD cL ⟨rfl,rfl⟩]at hg
 cases hg
 exact he
theorem Vers.link(J:Vers m0 M0 as gs V ev){z:Str}{k r m g:Nat}{ps nd:List Nat}(h3:AW M0 as 3 r=.rc m ps)(hg:ET (λ_=>true) as gs r=some g)(hn:as.length∈nd)(he:ev z g) :
  Vers m0 M0 (⟨0,k,.nm z r,nd⟩::⟨3,r,.rc (m+1) ps,[]⟩::as) (0::g::gs) V ev:=by
 obtain⟨g',e1,v⟩:=J.now h3
 rw[hg]at e1
 cases e1
 refine(J.redo (y:=.rc (m+1) ps) (nd:=[]) h3 hg λm' ps' e=>by cases e;exact⟨v,λp h=>.inl h⟩).name λC hC c z' r' g' e hg'=> ?_
 cases e
 have cL:C as.length=true:=(hC.2 c).1 _ hn
 rw[GD cL ⟨rfl,rfl⟩]at hg'
 cases hg'
 exact he
theorem Vers.gone(J:Vers m0 M0 as gs V ev){k:Nat}{nd:List Nat}:Vers m0 M0 (⟨0,k,.no,nd⟩::as) (0::gs) V ev:=J.name λC hC c z' r' g' e hg'=>(by cases e)
theorem Vers.unlead(J:Vers m0 M0 as gs V ev){k r m g:Nat}{ps nd nd':List Nat}(h3:AW M0 as 3 r=.rc (m+1) ps)(hg:ET (λ_=>true) as gs r=some g) :
  Vers m0 M0 (⟨3,r,.rc m ps,nd'⟩::⟨0,k,.no,nd⟩::as) (g::0::gs) V ev:=by
 obtain⟨g',e1,v⟩:=J.now h3
 rw[hg]at e1
 cases e1
 exact(J.gone (k:=k) (nd:=nd)).redo (m:=m+1) (ps:=ps) h3 hg λm' ps' e=>by cases e;exact⟨v,λp h=>.inl h⟩
theorem Vers.marks(J:Vers m0 M0 as gs V ev){d:Nat}:∀ {ps:List Nat},Vers m0 M0 ((ps.map λp=>(⟨2,p,.mk 0,[d]⟩:AC))++as) (ps.map (λ_=>0)++gs) V ev
 | []=>J
 | p::ps=>(J.marks (ps:=ps)).mark (.inr rfl)
theorem Vers.dropped(J:Vers m0 M0 as gs V ev){k r m g:Nat}{ps nd:List Nat}(h3:AW M0 as 3 r=.rc m ps)(hg:ET (λ_=>true) as gs r=some g) :
  Vers m0 M0 (⟨1,r,.mk 0,[as.length+1]⟩::((ps.map λp=>(⟨2,p,.mk 0,[as.length+1]⟩:AC)).reverse++⟨3,r,.no,[as.length]⟩::⟨0,k,.no,nd⟩::as)) (0::(ps.map (λ_=>0)++g::0::gs)) V ev:=by
 have J1:=(J.gone (k:=k) (nd:=nd)).redo (m:=m) (ps:=ps) (y:=.no) (nd:=[as.length]) h3 hg λm' ps' e=>(by cases e)
 have J2:=J1.marks (d:=as.length+1) (ps:=ps.reverse)
 rw[List.map_reverse,show ps.reverse.map (λ_=>0)=ps.map (λ_=>0) by rw[List.map_const',List.map_const',List.length_reverse]]at J2
 exact J2.mark (.inl rfl)
theorem Vers.put(J:Vers m0 M0 as gs V ev)(I:Hist m0 M0 as t o){r m p g:Nat}{ps:List Nat}{x:Str}(h2:AW M0 as 2 p≠.mk 1)(h3:AW M0 as 3 r=.rc m ps)(hg:ET (λ_=>true) as gs r=some g)(hV:V g (CU (AW M0 as) ps++[.tx x])) :
  Vers m0 M0 (⟨3,r,.rc m (ps++[p]),[as.length+1]⟩::⟨4,p,.tx x,[as.length]⟩::⟨2,p,.mk 1,[]⟩::as) (g::0::0::gs) V ev:=by
 have np:∀ q m' ps',AW M0 as 3 q=.rc m' ps'->p∉ps':=λq m' ps' e hp=>h2 (I.now.pm q m' ps' e p hp).1
 have J2:=(J.mark (a:=⟨2,p,.mk 1,[]⟩) (.inr rfl) (g:=0)).text (p:=p) (t:=x) (nd:=[as.length]) (g:=0) np λC hC c q m' ps' e hp=>by
  have c0:C as.length=true:=(hC.2 c).1 _ (by simp)
  rw[BY c0,BO (by simp)]at e
  have:=((I.sd C hC.1.1).pm q m' ps' e p hp).1
  rw[HM (a:=⟨2,p,.mk 1,[]⟩) hC.1 c0]at this
  exact h2 this
 refine J2.redo (m:=m) (ps:=ps) h3 hg λm' ps' e=> ?_
 cases e
 refine⟨?_,λq hq=> ?_⟩
 ·have:CU (AW M0 (⟨4,p,.tx x,[as.length]⟩::⟨2,p,.mk 1,[]⟩::as)) (ps++[p])=CU (AW M0 as) ps++[.tx x]:=by
   unfold CU
   rw[List.map_append]
   congr 1
   ·exact List.map_congr_left λq hq=>by
     rw[BE,CH (λ(z:q=p)=>np r m ps h3 (z ▸ hq)),BE,BO (by simp)]
   ·rw[List.map_cons,List.map_nil,BE,BN]
  rw[this];exact hV
 ·rcases List.mem_append.mp hq with hq | hq
  ·exact .inl hq
  ·rw[List.mem_singleton.mp hq]
   refine .inr λj hj=> ?_
   rw[gD (a:=⟨4,p,.tx x,[as.length]⟩) ⟨rfl,rfl⟩]at hj
   cases hj
   simp
theorem Vers.take(J:Vers m0 M0 as gs V ev){r m p i g:Nat}{ps:List Nat}(h3:AW M0 as 3 r=.rc m ps)(hg:ET (λ_=>true) as gs r=some g)(hV:V g (CU (AW M0 as) (ps.eraseIdx i))) :
  Vers m0 M0 (⟨2,p,.mk 0,[as.length]⟩::⟨3,r,.rc m (ps.eraseIdx i),[]⟩::as) (0::g::gs) V ev :=
 (J.redo (y:=.rc m (ps.eraseIdx i)) (nd:=[]) h3 hg λm' ps' e=>by cases e;exact⟨hV,λp h=>.inl (List.mem_of_mem_eraseIdx h)⟩).mark (.inr rfl)
abbrev D0(as:List AC)(gs:List Nat)(r:Nat):Option Nat:=ET (λ_=>true) as gs r
def Mad(m0:Nat)(M0:Md)(as:List AC)(gs:List Nat)(z:Str)(g:Nat):Prop:=∃ k r,k<m0/\AW M0 as 0 k=.nm z r/\D0 as gs r=some g
theorem Mad.other{a:AC}{g:Nat}(h:a.kind≠0)(h3:a.kind≠3){z:Str}{i:Nat}:Mad m0 M0 (a::as) (g::gs) z i↔Mad m0 M0 as gs z i:=by
 unfold Mad
 have e:∀ r,D0 (a::as) (g::gs) r=D0 as gs r:=λr=>DP λ_ y=>h3 y.1
 have e0:∀ k,AW M0 (a::as) 0 k=AW M0 as 0 k:=λk=>by rw[BE,BO h.symm]
 simp only[e,e0]
theorem Mad.redo{r g:Nat}{y:CV}{nd:List Nat}(h:D0 as gs r=some g\/∀ k z,k<m0->AW M0 as 0 k≠.nm z r){z:Str}{i:Nat}:Mad m0 M0 (⟨3,r,y,nd⟩::as) (g::gs) z i↔Mad m0 M0 as gs z i:=by
 have e0:∀ k,AW M0 (⟨3,r,y,nd⟩::as) 0 k=AW M0 as 0 k:=λk=>by rw[BE,BO (by simp)]
 have e1:∀ k q,k<m0->AW M0 as 0 k=.nm z q->D0 (⟨3,r,y,nd⟩::as) (g::gs) q=D0 as gs q:=λk q hk e=>by
  by_cases w:r=q
  ·subst w
   show ET _ _ _ _=_
   rw[GD rfl ⟨rfl,rfl⟩]
   rcases h with h | h
   ·exact h.symm
   ·exact absurd e (h k z hk)
  ·exact DP λ_ (y:3=3/\r=q)=>w y.2
 constructor
 ·rintro ⟨k,q,hk,e,h⟩
  rw[e0]at e
  rw[e1 k q hk e]at h
  exact⟨k,q,hk,e,h⟩
 ·rintro ⟨k,q,hk,e,h⟩
  refine⟨k,q,hk,by rw[e0];exact e,?_⟩
  rw[e1 k q hk e];exact h
theorem Mad.fill{z:Str}{r g:Nat}{nd:List Nat}(hk:k<m0)(h0:AW M0 as 0 k=.no){x:Str}{i:Nat}:Mad m0 M0 (⟨0,k,.nm z r,nd⟩::as) (g::gs) x i↔Mad m0 M0 as gs x i\/(x=z/\D0 as gs r=some i):=by
 have e1:∀ q,D0 (⟨0,k,.nm z r,nd⟩::as) (g::gs) q=D0 as gs q:=λq=>DP λ_ (y:0=3/\_)=>by simp at y
 constructor
 ·rintro ⟨j,q,hj,e,h⟩
  rw[e1]at h
  rw[BE]at e
  by_cases w:j=k
  ·subst w
   rw[BN]at e
   cases e
   exact .inr ⟨rfl,h⟩
  ·rw[CH w]at e
   exact .inl ⟨j,q,hj,e,h⟩
 ·rintro (⟨j,q,hj,e,h⟩ | ⟨rfl,h⟩)
  ·refine⟨j,q,hj,?_,by rw[e1];exact h⟩
   rw[BE,CH λw=>by rw[w,h0]at e;cases e]
   exact e
  ·exact⟨k,r,hk,by rw[BE,BN],by rw[e1];exact h⟩
theorem Mad.gone(S:Snd m0 (AW M0 as)){z:Str}{r g:Nat}{nd:List Nat}(hk:k<m0)(h0:AW M0 as 0 k=.nm z r){x:Str}{i:Nat}:Mad m0 M0 (⟨0,k,.no,nd⟩::as) (g::gs) x i↔Mad m0 M0 as gs x i/\x≠z:=by
 have e1:∀ q,D0 (⟨0,k,.no,nd⟩::as) (g::gs) q=D0 as gs q:=λq=>DP λ_ (y:0=3/\_)=>by simp at y
 constructor
 ·rintro ⟨j,q,hj,e,h⟩
  rw[e1]at h
  rw[BE]at e
  by_cases w:j=k
  ·subst w
   rw[BN]at e
   cases e
  ·rw[CH w]at e
   exact⟨⟨j,q,hj,e,h⟩,λy=>w (S.un j k z q r hj hk (y ▸ e) h0)⟩
 ·rintro ⟨⟨j,q,hj,e,h⟩,n⟩
  refine⟨j,q,hj,?_,by rw[e1];exact h⟩
  rw[BE,CH λw=>by rw[w,h0]at e;cases e;exact n rfl]
  exact e
theorem Mad.marks{d:Nat}{z:Str}{i:Nat}:∀ {ps:List Nat},Mad m0 M0 ((ps.map λp=>(⟨2,p,.mk 0,[d]⟩:AC))++as) (ps.map (λ_=>0)++gs) z i↔Mad m0 M0 as gs z i
 | []=>Iff.rfl
 | p::ps=>(Mad.other (by simp) (by simp)).trans (Mad.marks (ps:=ps))
def gE(m0:Nat)(M0:Md)(as:List AC)(gs:List Nat)(V:Nat->List CV->Prop)(ev:Str->Nat->Prop):Prop:=∀ k z r m ps g,k<m0->AW M0 as 0 k=.nm z r->AW M0 as 3 r=.rc m ps->D0 as gs r=some g->V g (CU (AW M0 as) ps)/\ev z g
def Pend(m0:Nat)(M0:Md)(as:List AC)(gs:List Nat)(V:Nat->List CV->Prop)(ev:Str->Nat->Prop):Prop:=∀ V' ev',(∀ g t,V g t->V' g t)->(∀ z g,ev z g->ev' z g)->gE m0 M0 as gs V' ev'->Vers m0 M0 as gs V' ev'
inductive Dd(kind:Nat)(y z:Str)(g:Nat)(A B:Str->Nat->Prop):Prop
 | make:kind<2->(∀ i,¬ A y i)->(∀ x i,B x i↔A x i\/(x=y/\i=g))->Dd kind y z g A B
 | link (j:Nat):kind=2->A y j->(∀ i,¬ A z i)->(∀ x i,B x i↔A x i\/(x=z/\i=j))->Dd kind y z g A B
 | cut (j:Nat):kind=3->A y j->(∀ x i,B x i↔A x i/\x≠y)->Dd kind y z g A B
 | same:4<=kind->kind<7->(∀ x i,B x i↔A x i)->Dd kind y z g A B
 | move (j:Nat):kind=7->A y j->y≠z->(∀ i,¬ A z i)->(∀ x i,B x i↔(A x i\/(x=z/\i=j))/\x≠y)->Dd kind y z g A B
theorem Vers.make'(J:Vers m0 M0 as gs V ev)(I:Hist m0 M0 as t o){z:Str}{k r:Nat}(g:Nat){nd:List Nat}(hk:k<m0)(h0:AW M0 as 0 k=.no)(h1:AW M0 as 1 r≠.mk 1)(hn:as.length+1∈nd) :
  Pend m0 M0 (⟨0,k,.nm z r,nd⟩::⟨3,r,.rc 1 [],[as.length]⟩::⟨1,r,.mk 1,[]⟩::as) (0::g::0::gs) V ev/\∀ x i,Mad m0 M0 (⟨0,k,.nm z r,nd⟩::⟨3,r,.rc 1 [],[as.length]⟩::⟨1,r,.mk 1,[]⟩::as) (0::g::0::gs) x i↔Mad m0 M0 as gs x i\/(x=z/\i=g):=by
 have eg:D0 (⟨3,r,.rc 1 [],[as.length]⟩::⟨1,r,.mk 1,[]⟩::as) (g::0::gs) r=some g:=GD rfl ⟨rfl,rfl⟩
 refine⟨λV' ev' hV he F=> ?_,λx i=> ?_⟩
 ·obtain⟨v,e⟩:=F k z r 1 [] g hk (by rw[BE,BN]) (by rw[BE,BO (by simp),BE,BN]) ((DP λ_ (y:0=3/\_)=>by simp at y).trans eg)
  exact(J.grow hV he).make I h1 hn v e
 ·rw[Mad.fill hk (by rw[BE,BO (by simp),BE,BO (by simp)];exact h0),Mad.redo (.inr λj y hj e=> ?_),Mad.other (by simp) (by simp),eg]
  ·simp[eq_comm]
  ·rw[BE,BO (by simp)]at e
   obtain⟨m,ps,e3⟩:=I.now.nl j y r hj e
   exact h1 (I.now.mr r m ps e3)
theorem Vers.link'(J:Vers m0 M0 as gs V ev){z:Str}{k r m g:Nat}{ps nd:List Nat}(hk:k<m0)(h0:AW M0 as 0 k=.no)(h3:AW M0 as 3 r=.rc m ps)(hg:D0 as gs r=some g)(hn:as.length∈nd) :
  Pend m0 M0 (⟨0,k,.nm z r,nd⟩::⟨3,r,.rc (m+1) ps,[]⟩::as) (0::g::gs) V ev/\∀ x i,Mad m0 M0 (⟨0,k,.nm z r,nd⟩::⟨3,r,.rc (m+1) ps,[]⟩::as) (0::g::gs) x i↔Mad m0 M0 as gs x i\/(x=z/\i=g):=by
 have eg:D0 (⟨3,r,.rc (m+1) ps,[]⟩::as) (g::gs) r=some g:=GD rfl ⟨rfl,rfl⟩
 refine⟨λV' ev' hV he F=> ?_,λx i=> ?_⟩
 ·obtain⟨v,e⟩:=F k z r (m+1) ps g hk (by rw[BE,BN]) (by rw[BE,BO (by simp),BE,BN]) ((DP λ_ (y:0=3/\_)=>by simp at y).trans eg)
  exact(J.grow hV he).link h3 hg hn e
 ·rw[Mad.fill hk (by rw[BE,BO (by simp)];exact h0),Mad.redo (.inl hg),eg]
  simp[eq_comm]
theorem Vers.unlead'(J:Vers m0 M0 as gs V ev)(S:Snd m0 (AW M0 as)){z:Str}{k r m g:Nat}{ps nd nd':List Nat}(hk:k<m0)(h0:AW M0 as 0 k=.nm z r)(h3:AW M0 as 3 r=.rc (m+1) ps)(hg:D0 as gs r=some g) :
  Pend m0 M0 (⟨3,r,.rc m ps,nd'⟩::⟨0,k,.no,nd⟩::as) (g::0::gs) V ev/\∀ x i,Mad m0 M0 (⟨3,r,.rc m ps,nd'⟩::⟨0,k,.no,nd⟩::as) (g::0::gs) x i↔Mad m0 M0 as gs x i/\x≠z :=
 ⟨λV' ev' hV he _=>(J.grow hV he).unlead h3 hg,λx i=>by rw[Mad.redo (.inl ((DP λ_ (y:0=3/\_)=>by simp at y).trans hg)),Mad.gone S hk h0]⟩
theorem Vers.dropped'(J:Vers m0 M0 as gs V ev)(S:Snd m0 (AW M0 as)){z:Str}{k r m g:Nat}{ps nd:List Nat}(hk:k<m0)(h0:AW M0 as 0 k=.nm z r)(h3:AW M0 as 3 r=.rc m ps)(hg:D0 as gs r=some g) :
  Pend m0 M0 (⟨1,r,.mk 0,[as.length+1]⟩::((ps.map λp=>(⟨2,p,.mk 0,[as.length+1]⟩:AC)).reverse++⟨3,r,.no,[as.length]⟩::⟨0,k,.no,nd⟩::as)) (0::(ps.map (λ_=>0)++g::0::gs)) V ev ∧
  ∀ x i,Mad m0 M0 (⟨1,r,.mk 0,[as.length+1]⟩::((ps.map λp=>(⟨2,p,.mk 0,[as.length+1]⟩:AC)).reverse++⟨3,r,.no,[as.length]⟩::⟨0,k,.no,nd⟩::as)) (0::(ps.map (λ_=>0)++g::0::gs)) x i↔Mad m0 M0 as gs x i/\x≠z:=by
 refine⟨λV' ev' hV he _=>(J.grow hV he).dropped h3 hg,λx i=> ?_⟩
 rw[Mad.other (by simp) (by simp),<-List.map_reverse,show ps.map (λ_=>0)=ps.reverse.map (λ_=>0) by rw[List.map_const',List.map_const',List.length_reverse],Mad.marks,Mad.redo (.inl ((DP λ_ (y:0=3/\_)=>by simp at y).trans hg)),Mad.gone S hk h0]
theorem Vers.put'(J:Vers m0 M0 as gs V ev)(I:Hist m0 M0 as t o){z:Str}{k r m p g:Nat}{ps:List Nat}{x:Str}(hk:k<m0)(h0:AW M0 as 0 k=.nm z r)(h2:AW M0 as 2 p≠.mk 1)(h3:AW M0 as 3 r=.rc m ps)(hg:D0 as gs r=some g) :
  Pend m0 M0 (⟨3,r,.rc m (ps++[p]),[as.length+1]⟩::⟨4,p,.tx x,[as.length]⟩::⟨2,p,.mk 1,[]⟩::as) (g::0::0::gs) V ev/\∀ y i,Mad m0 M0 (⟨3,r,.rc m (ps++[p]),[as.length+1]⟩::⟨4,p,.tx x,[as.length]⟩::⟨2,p,.mk 1,[]⟩::as) (g::0::0::gs) y i↔Mad m0 M0 as gs y i:=by
 have np:p∉ps:=λhp=>h2 (I.now.pm r m ps h3 p hp).1
 refine⟨λV' ev' hV he F=> ?_,λy i=> ?_⟩
 ·obtain⟨v,e⟩:=F k z r m (ps++[p]) g hk (by rw[BE,BO (by simp),BE,BO (by simp),BE,BO (by simp)];exact h0) (by rw[BE,BN]) (GD rfl ⟨rfl,rfl⟩)
  refine(J.grow hV he).put I h2 h3 hg ?_
  have:CU (AW M0 (⟨3,r,.rc m (ps++[p]),[as.length+1]⟩::⟨4,p,.tx x,[as.length]⟩::⟨2,p,.mk 1,[]⟩::as)) (ps++[p])=CU (AW M0 as) ps++[.tx x]:=by
   unfold CU
   rw[List.map_append]
   congr 1
   ·exact List.map_congr_left λq hq=>by
     rw[BE,BO (by simp),BE,CH (λ(z:q=p)=>np (z ▸ hq)),BE,BO (by simp)]
   ·rw[List.map_cons,List.map_nil,BE,BO (by simp),BE,BN]
  rw[<-this];exact v
 ·rw[Mad.redo (.inl ?_),Mad.other (by simp) (by simp),Mad.other (by simp) (by simp)]
  exact(DP λ_ (y:4=3/\_)=>by simp at y).trans ((DP λ_ (y:2=3/\_)=>by simp at y).trans hg)
theorem Vers.take'(J:Vers m0 M0 as gs V ev){z:Str}{k r m p i g:Nat}{ps:List Nat}(hk:k<m0)(h0:AW M0 as 0 k=.nm z r)(h3:AW M0 as 3 r=.rc m ps)(hg:D0 as gs r=some g) :
  Pend m0 M0 (⟨2,p,.mk 0,[as.length]⟩::⟨3,r,.rc m (ps.eraseIdx i),[]⟩::as) (0::g::gs) V ev/\∀ y j,Mad m0 M0 (⟨2,p,.mk 0,[as.length]⟩::⟨3,r,.rc m (ps.eraseIdx i),[]⟩::as) (0::g::gs) y j↔Mad m0 M0 as gs y j:=by
 refine⟨λV' ev' hV he F=> ?_,λy j=>by rw[Mad.other (by simp) (by simp),Mad.redo (.inl hg)]⟩
 obtain⟨v,e⟩:=F k z r m (ps.eraseIdx i) g hk (by rw[BE,BO (by simp),BE,BO (by simp)];exact h0) (by rw[BE,BO (by simp),BE,BN]) ((DP λ_ (y:2=3/\_)=>by simp at y).trans (GD rfl ⟨rfl,rfl⟩))
 refine(J.grow hV he).take h3 hg ?_
 have:CU (AW M0 (⟨2,p,.mk 0,[as.length]⟩::⟨3,r,.rc m (ps.eraseIdx i),[]⟩::as)) (ps.eraseIdx i)=CU (AW M0 as) (ps.eraseIdx i):=List.map_congr_left λq _=>by
  rw[BE,BO (by simp),BE,BO (by simp)]
 rw[<-this];exact v
theorem Vers.move'(J:Vers m0 M0 as gs V ev)(I:Hist m0 M0 as t o){y z:Str}{k l r m g:Nat}{ps nd nd1 nd2:List Nat}(hk:k<m0)(h0:AW M0 as 0 k=.no)(hl:l<m0)(hy:AW M0 as 0 l=.nm y r)(hz:∀ j r,j<m0->AW M0 as 0 j≠.nm z r)(h3:AW M0 as 3 r=.rc m ps)(hg:D0 as gs r=some g)(hn:as.length∈nd)
  (S:Snd m0 (AW M0 (⟨0,k,.nm z r,nd⟩::⟨3,r,.rc (m+1) ps,[]⟩::as))) :
  Pend m0 M0 (⟨3,r,.rc m ps,nd2⟩::⟨0,l,.no,nd1⟩::⟨0,k,.nm z r,nd⟩::⟨3,r,.rc (m+1) ps,[]⟩::as) (g::0::0::g::gs) V ev/\∀ x i,Mad m0 M0 (⟨3,r,.rc m ps,nd2⟩::⟨0,l,.no,nd1⟩::⟨0,k,.nm z r,nd⟩::⟨3,r,.rc (m+1) ps,[]⟩::as) (g::0::0::g::gs) x i↔(Mad m0 M0 as gs x i\/(x=z/\i=g))/\x≠y:=by
 have nlk:l≠k:=λe=>by rw[e,h0]at hy;cases hy
 have hy':AW M0 (⟨0,k,.nm z r,nd⟩::⟨3,r,.rc (m+1) ps,[]⟩::as) 0 l=.nm y r:=by rw[BE,CH nlk,BE,BO (by simp)];exact hy
 have h3':AW M0 (⟨0,k,.nm z r,nd⟩::⟨3,r,.rc (m+1) ps,[]⟩::as) 3 r=.rc (m+1) ps:=by rw[BE,BO (by simp),BE,BN]
 have hg':D0 (⟨0,k,.nm z r,nd⟩::⟨3,r,.rc (m+1) ps,[]⟩::as) (0::g::gs) r=some g:=(DP λ_ (y:0=3/\_)=>by simp at y).trans (GD rfl ⟨rfl,rfl⟩)
 refine⟨λV' ev' hV he F=> ?_,λx i=> ?_⟩
 ·obtain⟨v,e⟩:=F k z r m ps g hk (by rw[BE,BO (by simp),BE,CH nlk.symm,BE,BN]) (by rw[BE,BN]) (GD rfl ⟨rfl,rfl⟩)
  exact((J.grow hV he).link h3 hg hn e).unlead h3' hg'
 ·rw[Mad.redo (.inl ((DP λ_ (y:0=3/\_)=>by simp at y).trans hg')),Mad.gone S hl hy',(J.link' hk h0 h3 hg hn).2]
end
end L2
namespace L2
abbrev E5(a:Ad):Addr:=a "Hold"
def K9(ns:List Int)(k:Nat):Int:=ns.getD k 0
def L9(K:W.Frag)(a:Ad):Sp:=λvs H Q _=>∃ (s:Addr) (ns:List Int) (k:Nat),vs=[.ref s,.int k]/\SqL K H s (ns.map V.int)/\ns.length<=1000/\Q (.int (K9 ns k)) H
theorem Fz{K:W.Frag}{a:Ad}{s:Addr}{k:Int}{H:Hp}{Q:VK}{E:XK}:L9 K a [.ref s,.int k] H Q E=∃ (ns:List Int) (n:Nat),k=n/\SqL K H s (ns.map V.int)/\ns.length<=1000/\Q (.int (K9 ns n)) H:=by simp[L9,and_assoc]
abbrev TB(K:W.Frag)(a:Ad):Prop:=fR K (E5 a) (a "Change")
abbrev EE(a:Ad)(H:Hp)(A:BA)(w:Nat)(rows:List (List V))(n:Nat)(cs:List Ch)(outs:Int->Bool):Prop:=BookAt a (E5 a) H A w rows n cs outs
def HN:Option Nat->V
 | none=>.non
 | some k=>.int k
def BC(l:List Nat):List V:=l.map λ(k:Nat)=>V.int k
abbrev onPl(rows:List (List V))(w:Nat)(i j:Int):Prop:=0<=i/\i<rows.length/\0<=j/\j<w
def QF(K:W.Frag)(a:Ad):Sp:=λvs H Q _=>∃ x dx pl v nt,vs=[.ref x,.ref pl,v,.ref nt]/\TB K a/\H x=some (.ins (a "Change") dx [])/\Q .non (upd H x (.ins (a "Change") dx (FT pl v nt)))
def NP(K:W.Frag)(a:Ad):Sp:=λvs H Q _=>∃ (b gp cl dx:Addr) (w:Nat) (rows:List (List V)) (n:Nat),vs=[.ref b,.ref gp]/\TB K a/\ED K a/\PlankAt a H gp cl w rows n/\H b=some (.ins (E5 a) dx []) ∧
 ∀ (m mi lt ou:Addr) (ls:List Addr) (H':Hp),H m=none->H mi=none->H lt=none->H ou=none->(∀ l∈ls,H l=none)->EE a H' ⟨b,gp,m,mi,lt,ou,ls,cl⟩ w rows n [] (λ_=>false)->SameBut (· =b) H H'->Q .non H'
def QH(K:W.Frag)(a:Ad):Sp:=λvs H Q _=>∃ (nl:Addr) (ns:List Int) (o:Option Nat),vs=[.ref nl,HN o]/\SqL K H nl (ns.map V.int)/\ns.length<=60 ∧
 ∀ (t:Addr) (ks:List Int) (H':Hp),Same H H'->H' t=some (.tup (ks.map V.int))->ks.Pairwise (· <·)->(∀ x,x∈ks↔x∈ns\/∃ k:Nat,o=some k/\x=k)->ks.length<=ns.length+1->Q (.ref t) H'
def QI(K:W.Frag)(a:Ad):Sp:=λvs H Q E=>∃ (A:BA) (w:Nat) (rows:List (List V)) (n:Nat) (cs:List Ch) (outs:Int->Bool) (pl:Addr) (i j:Int),vs=[.ref A.b,.ref pl]/\TB K a/\ED K a/\EE a H A w rows n cs outs/\H pl=some (.tup [.int i,.int j]) ∧
 (onPl rows w i j->Q .non H)/\(¬ onPl rows w i j->E (.ref (a "NoBlock")) none H)
def MA(K:W.Frag)(a:Ad):Sp:=λvs H Q E=>∃ (A:BA) (w:Nat) (rows:List (List V)) (n:Nat) (cs:List Ch) (outs:Int->Bool) (pl:Addr) (i j:Int),vs=[.ref A.b,.ref pl]/\TB K a/\ED K a/\EE a H A w rows n cs outs/\H pl=some (.tup [.int i,.int j]) ∧
 (onPl rows w i j->Q (HN (D6 cs i j)) H)/\(¬ onPl rows w i j->E (.ref (a "NoBlock")) none H)
abbrev known(cs:List Ch)(x:Int):Prop:=0<=x/\x<cs.length
def QJ(K:W.Frag)(a:Ad):Sp:=λvs H Q E=>∃ (A:BA) (w:Nat) (rows:List (List V)) (n:Nat) (cs:List Ch) (outs:Int->Bool) (nl:Addr) (ns:List Int),vs=[.ref A.b,.ref nl]/\TB K a/\EE a H A w rows n cs outs/\SqL K H nl (ns.map V.int) ∧
 ((∀ x∈ns,known cs x)->Q .non H)/\((∃ x∈ns,¬ known cs x)->E (.ref (a "NoChange")) none H)
def D1(K:W.Frag)(a:Ad):Sp:=λvs H Q E=>∃ (A:BA) (w:Nat) (rows:List (List V)) (n:Nat) (cs:List Ch) (outs:Int->Bool) (pl nl:Addr) (v:V) (ns:List Int) (i j:Int),vs=[.ref A.b,.ref pl,v,.ref nl]/\TB K a/\ED K a/\EE a H A w rows n cs outs/\H pl=some (.tup [.int i,.int j])/\SqL K H nl (ns.map V.int)/\ns.length<=60/\cs.length<990 ∧
 (onPl rows w i j->(∀ x∈ns,known cs x)->∀ (nd:List Int) (H':Hp),nd.Pairwise (· <·)->(∀ x,x∈nd↔x∈ns\/∃ k:Nat,D6 cs i j=some k/\x=k)->EE a H' A w rows n (cs++[⟨i.toNat,j.toNat,v,nd⟩]) outs->SameBut A.F H H'->Q (.int cs.length) H') ∧
 (¬ onPl rows w i j->E (.ref (a "NoBlock")) none H)/\(onPl rows w i j->(∃ x∈ns,¬ known cs x)->E (.ref (a "NoChange")) none H)
def EF(cs:List Ch)(rows:List (List V))(i j:Int):Option V:=match D6 cs i j with
 | some k=>(cs[k]?).map (·.val)
 | none=>(rows[i.toNat]?).bind λr=>r[j.toNat]?
def II(K:W.Frag)(a:Ad):Sp:=λvs H Q E=>∃ (A:BA) (w:Nat) (rows:List (List V)) (n:Nat) (cs:List Ch) (outs:Int->Bool) (pl:Addr) (i j:Int),vs=[.ref A.b,.ref pl]/\TB K a/\ED K a/\EE a H A w rows n cs outs/\H pl=some (.tup [.int i,.int j]) ∧
 (onPl rows w i j->∀ (v:V) (H':Hp),EF cs rows i j=some v->Same H H'->Q v H')/\(¬ onPl rows w i j->E (.ref (a "NoBlock")) none H)
def UY:Option Int->V
 | none=>.non
 | some k=>.int k
abbrev D2(kvs:List (AH × V))(x:Int):Bool:=(BJ kvs (.inl x)).isSome
def QK(K:W.Frag)(a:Ad):Sp:=λvs H Q _=>∃ (A:BA) (w:Nat) (rows:List (List V)) (n:Nat) (cs:List Ch) (outs:Int->Bool) (k:Nat) (c:Ch) (g:Addr) (kvg:List (AH × V)),vs=[.ref A.b,.int k,.ref g]/\TB K a/\EE a H A w rows n cs outs/\cs[k]? =some c/\H g=some (.dK kvg) ∧
 Q (UY (L6 c.nd λx=>outs x || D2 kvg x)) H
def QL(K:W.Frag)(a:Ad):Sp:=λvs H Q _=>∃ (A:BA) (w:Nat) (rows:List (List V)) (n:Nat) (cs:List Ch) (outs:Int->Bool) (b:Nat) (tk:Addr) (kvt:List (AH × V)),vs=[.ref A.b,.int b,.ref tk]/\TB K a/\EE a H A w rows n cs outs/\b<rows.length/\H tk=some (.dK kvt)/\kvt.length<=1000 ∧
 ∀ (t ol hl:Addr) (H':Hp),H ol=none->H hl=none->ol≠hl->Same H H'->fZ H' t ol hl (outcome cs outs (D2 kvt) b).out (outcome cs outs (D2 kvt) b).held->Q (.ref t) H'
def QM(K:W.Frag)(a:Ad):Sp:=λvs H Q _=>∃ (A:BA) (w:Nat) (rows:List (List V)) (n:Nat) (cs:List Ch) (outs:Int->Bool) (b:Nat) (vl:Addr) (row:List V),vs=[.ref A.b,.ref vl,.int b]/\TB K a/\EE a H A w rows n cs outs/\b<rows.length/\H vl=some (.lst row)/\row.length=w ∧
 ∀ (l:Addr) (H':Hp),H l=none->Same H H'->H' l=some (.lst (EJ cs outs b row))->Q (.ref l) H'
def QN(K:W.Frag)(a:Ad):Sp:=λvs H Q E=>∃ (A:BA) (w:Nat) (rows:List (List V)) (n:Nat) (cs:List Ch) (outs:Int->Bool) (b:Int),vs=[.ref A.b,.int b]/\TB K a/\ED K a/\EE a H A w rows n cs outs ∧
 (∀ (b':Nat) (row:List V) (t ol hl:Addr) (H':Hp),b=b'->rows[b']? =some row->H ol=none->H hl=none->ol≠hl->fZ H' t ol hl (outcome cs outs (λ_=>false) b').out (outcome cs outs (λ_=>false) b').held →
  EE a H' A w (rows.set b' (EJ cs (E4 cs outs b') b' row)) (n+1) cs (E4 cs outs b')->SameBut (λx=>A.F x\/x=A.gp) H H'->Q (.ref t) H') ∧
 (b<0\/rows.length<=b->E (.ref (a "NoBlock")) none H)
def GoodV:Nat->Hp->V->Prop
 | 0,_,_=>False
 | _+1,_,.int _=>True
 | _+1,_,.non=>True
 | _+1,_,.str z=>PyData.strOk z=true
 | n+1,H,.ref p=>∃ xs,H p=some (.tup xs)/\xs.length<=100/\∀ v∈xs,GoodV n H v
 | _,_,_=>False
def QP(v:V):Prop:=v=.non\/∃ i,v=.int i
def A5(n r c w kind k:Nat):Nat:=(if kind=0 then 0 else if kind=1 then n+r+c else if kind=2 then n+r+c+r else if kind=3 then n else n+r)+k / w
def AY(n r c w kind:Nat):Nat:=(if kind=0 then n else if kind=1 then r else if kind=2 then c else if kind=3 then r else c) * w
def JK(kind:Nat)(v:V):Bool:=decide (v=.non) || (decide (0<kind) && decide (v=.int 0))
def EL(f:Nat->Bool)(m:Nat):Int:=match (List.range m).find? f with
 | some k=>k
 | none=> -1
def gF(H:Hp)(rows:List (List V)):Prop:=∀ r∈rows,∀ v∈r,GoodV 4 H v
def goodH(H:Hp)(cs:List Ch)(rows:List (List V)):Prop:=gF H rows/\∀ c∈cs,GoodV 4 H c.val
def KH(cs:List Ch)(rows:List (List V))(n r c w kind:Nat)(k:Nat):Bool:=match EF cs rows (A5 n r c w kind k:Nat) (k % w:Nat)with
 | some v=>JK kind v
 | none=>false
def JL(K:W.Frag)(a:Ad):Sp:=λvs H Q E=>∃ (A:BA) (w:Nat) (rows:List (List V)) (n:Nat) (cs:List Ch) (outs:Int->Bool) (pl vl:Addr) (ts:List Addr) (xs:List V) (f:Nat->Bool) (m:Nat),vs=[.ref A.b,.ref pl,.ref vl]/\TB K a/\ED K a/\EE a H A w rows n cs outs/\H pl=some (.lst (ts.map V.ref))/\ts.length=m/\m<=1000/\H vl=some (.tup xs)/\(∀ z∈xs,QP z) ∧
 (∀ k t,ts[k]? =some t->∃ i j v,H t=some (.tup [.int i,.int j])/\onPl rows w i j/\EF cs rows i j=some v/\GoodV 4 H v/\f k=decide (v∈xs)) ∧
 (∀ k:Nat,EL f m=k->∀ H',Same H H'->Q (.int k) H')/\(EL f m= -1->∀ H',Same H H'->E (.ref (a "NoRoom")) none H')
def QQ(kind:Nat)(K:W.Frag)(a:Ad)(p b:Addr)(H:Hp)(Q:VK)(E:XK):Prop:=∃ (A:BA) (n r c w:Nat) (rows:List (List V)) (nn:Nat) (cs:List Ch) (outs:Int->Bool),b=A.b/\TB K a/\ED K a/\DZ K a/\LayAt a H p n r c w/\n<=6/\r<=6/\c<=6/\w<=6/\EE a H A w rows nn cs outs/\rows.length=n+r+c+r+c/\(∀ i j v,EF cs rows i j=some v->GoodV 4 H v) ∧
 (∀ k:Nat,EL (KH cs rows n r c w kind) (AY n r c w kind)=k->∀ H',Same H H'->Q (.int k) H')/\(EL (KH cs rows n r c w kind) (AY n r c w kind)= -1->∀ H',Same H H'->E (.ref (a "NoRoom")) none H')
def MB(K:W.Frag)(a:Ad):Sp:=λvs H Q E=>∃ p b,vs=[.ref p,.ref b]/\QQ 0 K a p b H Q E
def QR(K:W.Frag)(a:Ad):Sp:=λvs H Q E=>∃ p b,vs=[.ref p,.ref b]/\QQ 1 K a p b H Q E
def QS(K:W.Frag)(a:Ad):Sp:=λvs H Q E=>∃ p b,vs=[.ref p,.ref b]/\QQ 2 K a p b H Q E
def UZ(c:Nat):Bool:=decide (32<=c) && decide (c<=126) && decide (c≠37)
def NQ(c:Nat):Bool:=decide (97<=c) && decide (c<=122)
def BL(z:Str):Bool:=decide (1<=z.length) && decide (z.length<=8) && z.cps.toList.all NQ
def MC(z:Str):Bool:=decide (1<=z.length) && decide (z.length<=40) && z.cps.toList.all UZ
def QT(K:W.Frag)(a:Ad):Sp:=λvs H Q _=>∃ c:Nat,vs=[.str ⟨#[c]⟩]/\Q (.bl (UZ c)) H
def QU(K:W.Frag)(a:Ad):Sp:=λvs H Q _=>∃ z:Str,vs=[.str z]/\z.length<=1000/\∀ H',Same H H'->Q (.bl (BL z)) H'
def QW(K:W.Frag)(a:Ad):Sp:=λvs H Q _=>∃ z:Str,vs=[.str z]/\z.length<=1000/\∀ H',Same H H'->Q (.bl (MC z)) H'
structure QX(K:W.Frag)(a:Ad):Prop where
 cl:Cls K (a "Store")
 n1:NoAttr K (a "Store") "plan"
 n2:NoAttr K (a "Store") "book"
 n3:NoAttr K (a "Store") "taken_out"
def sf(lp b tk:Addr):List (Str × V):=[("plan",.ref lp),("book",.ref b),("taken_out",.ref tk)]
structure SA where
 A:BA
 st:Addr
 lp:Addr
 tk:Addr
structure Hs where
 b:Md
 as:List AC
abbrev Hs.f(M:Hs):Md:=AW M.b M.as
instance:CoeFun Hs λ_=>Nat->Nat->CV:=⟨Hs.f⟩
def Hs.put(M:Hs)(kind k:Nat)(x:CV)(nd:List Nat):Hs:=⟨M.b,⟨kind,k,x,nd⟩::M.as⟩
theorem Hs.put_at{M:Hs}{kind k i j:Nat}{x:CV}{nd:List Nat}:(M.put kind k x nd) i j=if i=kind/\j=k then x else M i j:=rfl
def RepC(H:Hp):CV->V->Prop
 | .no,v=>v=.non
 | .nm z k,v=>∃ t,v=.ref t/\H t=some (.tup [.str z,.int k])
 | .mk i,v=>v=.int i
 | .rc m ps,v=>∃ t u,v=.ref t/\H t=some (.tup [.int m,.ref u])/\H u=some (.tup (BC ps))
 | .tx z,v=>v=.str z
def EG:Nat->CV->Prop
 | _,.no=>True
 | 0,.nm _ _=>True
 | 1,.mk i=>i<=1
 | 2,.mk i=>i<=1
 | 3,.rc _ _=>True
 | 4,.tx _=>True
 | _,_=>False
inductive LaidA(n r c w:Nat)(H:Hp):List Ch->List AC->Prop
 | nil:LaidA n r c w H [] []
 | snoc {cs:List Ch} {as:List AC} {ch:Ch} {x:AC}:LaidA n r c w H cs as->ch.blk=A5 n r c w x.kind x.k->ch.cell=x.k % w->RepC H x.x ch.val->(∀ y:Int,y∈ch.nd↔(∃ j∈x.nd,y=(j:Nat))\/∃ j:Nat,D8 x.kind x.k as=some j/\y=j)->x.kind<5->x.k<AY n r c w x.kind->LaidA n r c w H (cs++[ch]) (x::as)
structure SM(a:Ad)(H:Hp)(S:SA)(n r c w:Nat)(rows:List (List V))(nn:Nat)(cs:List Ch)(outs:Int->Bool)(tks:List (AH × V))(M:Hs):Prop where
 ob:∃ dx,H S.st=some (.ins (a "Store") dx (sf S.lp S.A.b S.tk))
 ly:LayAt a H S.lp n r c w
 bk:EE a H S.A w rows nn cs outs
 tk:H S.tk=some (.dK tks)
 tl:tks.length<=cs.length
 tv:∀ z v,BJ tks (.inr z)=some v->∃ k:Nat,v=.int k/\k<cs.length
 ap:¬ S.A.F S.tk
 sz:n<=6/\r<=6/\c<=6/\w<=6/\rows.length=n+r+c+r+c
 gd:goodH H cs rows
 rp:∀ kind k v,kind<5->k<AY n r c w kind->EF cs rows (A5 n r c w kind k:Nat) (k % w:Nat)=some v->RepC H (M kind k) v
 ok:∀ kind k,kind<5->k<AY n r c w kind->EG kind (M kind k)
 la:LaidA n r c w H cs M.as
def GE(M:Hs)(k:Nat):Option (Str × Nat):=match M 0 k with
 | .nm z r=>some (z,r)
 | _=>none
def cellOf(M:Hs)(m:Nat)(z:Str):Option Nat:=(List.range m).find? λk=>(GE M k).any λp=>decide (p.1=z)
def FV(kind:Nat):CV->Bool
 | .no=>true
 | .mk i=>decide (0<kind) && decide (i=0)
 | _=>false
def GG(M:Hs)(kind m:Nat):Int:=EL (λk=>FV kind (M kind k)) m
abbrev C0(K:W.Frag)(a:Ad):Prop:=TB K a/\ED K a/\DZ K a/\QX K a
abbrev gG(cs:List Ch)(i j:Int)(x:Int):Prop:=∃ k:Nat,D6 cs i j=some k/\x=k
structure SX where
 S:SA
 n:Nat
 r:Nat
 c:Nat
 w:Nat
 rows:List (List V)
 nn:Nat
 outs:Int->Bool
abbrev SX.at(X:SX)(a:Ad)(H:Hp)(cs:List Ch)(tks:List (AH × V))(M:Hs):Prop:=SM a H X.S X.n X.r X.c X.w X.rows X.nn cs X.outs tks M
abbrev SX.m0(X:SX):Nat:=X.n * X.w
def QY(K:W.Frag)(a:Ad):Sp:=λvs H Q _=>∃ (x dx lp gp cl:Addr) (n r c w:Nat) (rows:List (List V)) (nn:Nat) (M:Md),vs=[.ref x,.ref lp,.ref gp]/\C0 K a/\H x=some (.ins (a "Store") dx [])/\LayAt a H lp n r c w/\PlankAt a H gp cl w rows nn/\(n<=6/\r<=6/\c<=6/\w<=6/\rows.length=n+r+c+r+c)/\gF H rows/\(∀ kind k v,kind<5->k<AY n r c w kind->EF [] rows (A5 n r c w kind k:Nat) (k % w:Nat)=some v->RepC H (M kind k) v)/\(∀ kind k,kind<5->k<AY n r c w kind->EG kind (M kind k)) ∧
 ∀ (S:SA) (H':Hp),S.st=x->S.lp=lp->S.A.gp=gp->S.A.cl=cl->(∀ y o,H y=some o->y=cl\/¬ S.A.F y)->H S.tk=none->SM a H' S n r c w rows nn [] (λ_=>false) [] ⟨M,[]⟩->SameBut (· =x) H H'->Q .non H'
def MD(K:W.Frag)(a:Ad):Sp:=λvs H Q _=>∃ (X:SX) (cs:List Ch) (tks:List (AH × V)) (M:Hs),vs=[.ref X.S.st]/\C0 K a/\X.at a H cs tks M ∧
 ∀ (l:Addr) (xs:List V) (H':Hp),Same H H'->H' l=some (.lst xs)->xs.length=X.m0->(∀ k v,xs[k]? =some v->RepC H' (M 0 k) v)->Q (.ref l) H'
def KI(K:W.Frag)(a:Ad):Sp:=λvs H Q _=>∃ (X:SX) (cs:List Ch) (tks:List (AH × V)) (M:Hs) (z:Str),vs=[.ref X.S.st,.str z]/\C0 K a/\X.at a H cs tks M/\∀ (H':Hp),Same H H'->Q (HN (cellOf M X.m0 z)) H'
def F5(K:W.Frag)(a:Ad):Sp:=λvs H Q E=>∃ (X:SX) (cs:List Ch) (tks:List (AH × V)) (M:Hs) (z:Str),vs=[.ref X.S.st,.str z]/\C0 K a/\X.at a H cs tks M ∧
 (∀ cell k,cellOf M X.m0 z=some cell->cell<X.m0->M 0 cell=.nm z k->∀ H',Same H H'->Q (.int k) H')/\(cellOf M X.m0 z=none->∀ H',Same H H'->E (.ref (a "NoName")) none H')
def FG(K:W.Frag)(a:Ad):Sp:=λvs H Q _=>∃ (X:SX) (cs:List Ch) (tks:List (AH × V)) (M:Hs) (rec:Nat),vs=[.ref X.S.st,.int rec]/\C0 K a/\X.at a H cs tks M/\rec<X.r * X.w/\∀ v H',RepC H' (M 3 rec) v->Same H H'->Q v H'
def ME(K:W.Frag)(a:Ad):Sp:=λvs H Q E=>∃ (X:SX) (cs:List Ch) (tks:List (AH × V)) (M:Hs) (z:Str) (gl:Addr) (zs:List Str),vs=[.ref X.S.st,.str z,.ref gl]/\C0 K a/\X.at a H cs tks M/\H gl=some (.lst (zs.map V.str))/\zs.length<=60/\(∀ y∈zs,y.length<=1000) ∧
 (zs.all BL=true->cellOf M X.m0 z=none->∀ H',Same H H'->Q .non H')/\(zs.all BL=false->∀ H',Same H H'->E (.ref (a "NoName")) none H')/\(zs.all BL=true->(∃ k,cellOf M X.m0 z=some k)->∀ H',Same H H'->E (.ref (a "Twice")) none H')
def QZ(X:SX)(a:Ad)(H:Hp)(cs:List Ch)(tks:List (AH × V))(M':Hs)(Q:VK):Prop:=∀ (ch:Ch) (H':Hp),X.at a H' (cs++[ch]) tks M'->SameBut X.S.A.F H H'->Q (.int cs.length) H'
def DW(tks:List (AH × V))(z:Str):List Nat:=match BJ tks (.inr z)with
 | some (.int k)=>[k.toNat]
 | _=>[]
abbrev JM(ns:List Int):List Nat:=ns.map Int.toNat
def MF(K:W.Frag)(a:Ad):Sp:=λvs H Q _=>∃ (X:SX) (cs:List Ch) (tks:List (AH × V)) (M:Hs) (cell rec need:Nat) (z:Str),vs=[.ref X.S.st,.int cell,.str z,.int rec,.int need]/\C0 K a/\X.at a H cs tks M/\cell<X.m0/\need<cs.length/\cs.length<980/\PyData.strOk z=true/\QZ X a H cs tks (M.put 0 cell (.nm z rec) (need::DW tks z)) Q
def KJ(K:W.Frag)(a:Ad):Sp:=λvs H Q _=>∃ (X:SX) (cs:List Ch) (tks:List (AH × V)) (M:Hs) (rec m m':Nat) (more:Int) (ps:List Nat) (nl:Addr) (ns:List Int),vs=[.ref X.S.st,.int rec,.int more,.ref nl]/\C0 K a/\X.at a H cs tks M/\rec<X.r * X.w/\M 3 rec=.rc m ps/\(m:Int)+more=m'/\ps.length<=100/\H nl=some (.lst (ns.map V.int))/\ns.length<=60/\(∀ x∈ns,known cs x)/\cs.length<980/\QZ X a H cs tks (M.put 3 rec (.rc m' ps) (JM ns)) Q
def MG(K:W.Frag)(a:Ad):Sp:=λvs H Q _=>∃ (X:SX) (cs:List Ch) (tks:List (AH × V)) (M:Hs) (rec m:Nat) (ps ps':List Nat) (pl nl:Addr) (ns:List Int),vs=[.ref X.S.st,.int rec,.ref pl,.ref nl]/\C0 K a/\X.at a H cs tks M/\rec<X.r * X.w/\M 3 rec=.rc m ps/\H pl=some (.tup (BC ps'))/\ps'.length<=100/\H nl=some (.lst (ns.map V.int))/\ns.length<=60/\(∀ x∈ns,known cs x)/\cs.length<980/\QZ X a H cs tks (M.put 3 rec (.rc m ps') (JM ns)) Q
def MH(K:W.Frag)(a:Ad):Sp:=λvs H Q _=>∃ (X:SX) (cs:List Ch) (tks:List (AH × V)) (M:Hs) (cell:Nat) (z:Str) (nl:Addr) (ns:List Int),vs=[.ref X.S.st,.str z,.ref nl]/\C0 K a/\X.at a H cs tks M/\cellOf M X.m0 z=some cell/\cell<X.m0/\H nl=some (.lst (ns.map V.int))/\ns.length<=60/\(∀ x∈ns,known cs x)/\cs.length<980 ∧
 ∀ (ch:Ch) (H':Hp),X.at a H' (cs++[ch]) (B7 tks (.inr z) (.int cs.length)) (M.put 0 cell .no (JM ns))->SameBut (λx=>X.S.A.F x\/x=X.S.tk) H H'->Q (.int cs.length) H'
def Hs.unmark(M:Hs)(d:Nat)(ps:List Nat):Hs:=ps.foldl (λM p=>M.put 2 p (.mk 0) [d]) M
def Q0(K:W.Frag)(a:Ad):Sp:=λvs H Q _=>∃ (X:SX) (cs:List Ch) (tks:List (AH × V)) (M:Hs) (rec m gone:Nat) (ps:List Nat),vs=[.ref X.S.st,.int rec,.int gone]/\C0 K a/\X.at a H cs tks M/\rec<X.r * X.w/\M 3 rec=.rc m ps/\gone<cs.length/\(∀ p∈ps,p<X.c * X.w)/\ps.length<=36/\cs.length<940 ∧
 ∀ (ex:List Ch) (l:Addr) (H':Hp),H l=none->H' l=some (.lst (BC ((List.range (ps.length+2)).map (cs.length+·))))->ex.length=ps.length+2->X.at a H' (cs++ex) tks (((M.put 3 rec .no [gone]).unmark cs.length ps).put 1 rec (.mk 0) [cs.length])->SameBut X.S.A.F H H'->Q (.ref l) H'
def LA(X:SX)(a:Ad)(H:Hp)(cs:List Ch)(d:Nat)(tks':List (AH × V))(M':Hs)(Q:VK):Prop:=∀ (ex:List Ch) (l:Addr) (H':Hp),ex.length=d->H l=none->H' l=some (.lst (BC ((List.range d).map (cs.length+·))))->X.at a H' (cs++ex) tks' M'->SameBut (λx=>X.S.A.F x\/x=X.S.tk) H H'->Q (.ref l) H'
def EM(a:Ad)(H:Hp)(c:String)(E:XK):Prop:=∀ H',Same H H'->E (.ref (a c)) none H'
def Q1(K:W.Frag)(a:Ad):Sp:=λvs H Q E=>∃ (X:SX) (cs:List Ch) (tks:List (AH × V)) (M:Hs) (z:Str),vs=[.ref X.S.st,.str z]/\C0 K a/\X.at a H cs tks M/\z.length<=1000/\cs.length<930 ∧
 (BL z=true->cellOf M X.m0 z=none->∀ rec cell:Nat,GG M 1 (X.r * X.w)=rec->GG M 0 X.m0=cell->rec<X.r * X.w->cell<X.m0->LA X a H cs 3 tks (((M.put 1 rec (.mk 1) []).put 3 rec (.rc 1 []) [cs.length]).put 0 cell (.nm z rec) ((cs.length+1)::DW tks z)) Q) ∧
 (BL z=false->EM a H "NoName" E)/\(BL z=true->(∃ k,cellOf M X.m0 z=some k)->EM a H "Twice" E) ∧
 (BL z=true->cellOf M X.m0 z=none->(GG M 1 (X.r * X.w)= -1\/GG M 0 X.m0= -1)->EM a H "NoRoom" E)
def MI(K:W.Frag)(a:Ad):Sp:=λvs H Q E=>∃ (X:SX) (cs:List Ch) (tks:List (AH × V)) (M:Hs) (y z:Str),vs=[.ref X.S.st,.str y,.str z]/\C0 K a/\X.at a H cs tks M/\y.length<=1000/\z.length<=1000/\cs.length<930 ∧
 (BL y=true->BL z=true->cellOf M X.m0 z=none->∀ old rec cell:Nat,cellOf M X.m0 y=some old->old<X.m0->M 0 old=.nm y rec->rec<X.r * X.w/\∃ m ps,M 3 rec=.rc m ps/\ps.length<=100/\(GG M 0 X.m0=cell->cell<X.m0->LA X a H cs 2 tks ((M.put 3 rec (.rc (m+1) ps) []).put 0 cell (.nm z rec) (cs.length::DW tks z)) Q)) ∧
 ((BL y && BL z)=false->EM a H "NoName" E)/\(BL y=true->BL z=true->(∃ k,cellOf M X.m0 z=some k)->EM a H "Twice" E)/\(BL y=true->BL z=true->cellOf M X.m0 z=none->cellOf M X.m0 y=none->EM a H "NoName" E) ∧
 (BL y=true->BL z=true->cellOf M X.m0 z=none->(∃ k,cellOf M X.m0 y=some k)->GG M 0 X.m0= -1->EM a H "NoRoom" E)
def Q2(K:W.Frag)(a:Ad):Sp:=λvs H Q E=>∃ (X:SX) (cs:List Ch) (tks:List (AH × V)) (M:Hs) (z:Str),vs=[.ref X.S.st,.str z]/\C0 K a/\X.at a H cs tks M/\cs.length<930 ∧
 (∀ cell rec:Nat,cellOf M X.m0 z=some cell->cell<X.m0->M 0 cell=.nm z rec->rec<X.r * X.w/\∃ m ps,M 3 rec=.rc m ps/\(∀ p∈ps,p<X.c * X.w)/\ps.length<=36 ∧
  (1<m->LA X a H cs 2 (B7 tks (.inr z) (.int cs.length)) ((M.put 0 cell .no []).put 3 rec (.rc (m - 1) ps) [cs.length]) Q)/\(m<=1->LA X a H cs (ps.length+3) (B7 tks (.inr z) (.int cs.length)) ((((M.put 0 cell .no []).put 3 rec .no [cs.length]).unmark (cs.length+1) ps).put 1 rec (.mk 0) [cs.length+1]) Q)) ∧
 (cellOf M X.m0 z=none->EM a H "NoName" E)
def Q3(K:W.Frag)(a:Ad):Sp:=λvs H Q E=>∃ (X:SX) (cs:List Ch) (tks:List (AH × V)) (M:Hs) (z t:Str),vs=[.ref X.S.st,.str z,.str t]/\C0 K a/\X.at a H cs tks M/\t.length<=1000/\PyData.strOk t=true/\cs.length<930 ∧
 (∀ cell rec:Nat,cellOf M X.m0 z=some cell->cell<X.m0->M 0 cell=.nm z rec->MC t=true->∀ p:Nat,GG M 2 (X.c * X.w)=p->p<X.c * X.w->rec<X.r * X.w/\∃ m ps,M 3 rec=.rc m ps/\ps.length<=90/\LA X a H cs 3 tks (((M.put 2 p (.mk 1) []).put 4 p (.tx t) [cs.length]).put 3 rec (.rc m (ps++[p])) [cs.length+1]) Q) ∧
 (cellOf M X.m0 z=none->EM a H "NoName" E)/\((∃ k,cellOf M X.m0 z=some k)->MC t=false->EM a H "NoPiece" E)/\((∃ k,cellOf M X.m0 z=some k)->MC t=true->GG M 2 (X.c * X.w)= -1->EM a H "NoRoom" E)
def Q4(K:W.Frag)(a:Ad):Sp:=λvs H Q E=>∃ (X:SX) (cs:List Ch) (tks:List (AH × V)) (M:Hs) (z:Str),vs=[.ref X.S.st,.str z]/\C0 K a/\X.at a H cs tks M ∧
 (∀ cell rec:Nat,cellOf M X.m0 z=some cell->cell<X.m0->M 0 cell=.nm z rec->rec<X.r * X.w/\∃ m ps,M 3 rec=.rc m ps/\ps.length<=100/\∃ ts:List Str,Paired (λp t=>p<X.c * X.w/\M 4 p=.tx t) ps ts/\∀ l H',H l=none->Same H H'->H' l=some (.lst (ts.map V.str))->Q (.ref l) H') ∧
 (cellOf M X.m0 z=none->EM a H "NoName" E)
def Q5(K:W.Frag)(a:Ad):Sp:=λvs H Q E=>∃ (X:SX) (cs:List Ch) (tks:List (AH × V)) (M:Hs) (z:Str) (x:Int),vs=[.ref X.S.st,.str z,.int x]/\C0 K a/\X.at a H cs tks M/\cs.length<930 ∧
 (∀ cell rec:Nat,cellOf M X.m0 z=some cell->cell<X.m0->M 0 cell=.nm z rec->rec<X.r * X.w/\∃ m ps,M 3 rec=.rc m ps/\ps.length<=100/\((x<0\/ps.length<=x)->EM a H "NoPiece" E)/\(∀ (k p:Nat),x=k->ps[k]? =some p->p<X.c * X.w/\LA X a H cs 2 tks ((M.put 3 rec (.rc m (ps.eraseIdx k)) []).put 2 p (.mk 0) [cs.length]) Q)) ∧
 (cellOf M X.m0 z=none->EM a H "NoName" E)
def Q6(K:W.Frag)(a:Ad):Sp:=λvs H Q E=>∃ (X:SX) (cs:List Ch) (tks:List (AH × V)) (M:Hs) (y z:Str),vs=[.ref X.S.st,.str y,.str z]/\C0 K a/\X.at a H cs tks M/\y.length<=1000/\z.length<=1000/\cs.length<920 ∧
 (BL y=true->BL z=true->cellOf M X.m0 z=none->∀ old rec cell:Nat,cellOf M X.m0 y=some old->old<X.m0->M 0 old=.nm y rec->rec<X.r * X.w/\∃ m ps,M 3 rec=.rc m ps/\ps.length<=100/\(GG M 0 X.m0=cell->cell<X.m0->LA X a H cs 4 (B7 tks (.inr y) (.int (cs.length+2:Nat))) ((((M.put 3 rec (.rc (m+1) ps) []).put 0 cell (.nm z rec) (cs.length::DW tks z)).put 0 old .no [cs.length+1]).put 3 rec (.rc m ps) [cs.length+2]) Q)) ∧
 ((BL y && BL z)=false->EM a H "NoName" E)/\(BL y=true->BL z=true->(∃ k,cellOf M X.m0 z=some k)->EM a H "Twice" E)/\(BL y=true->BL z=true->cellOf M X.m0 z=none->cellOf M X.m0 y=none->EM a H "NoName" E) ∧
 (BL y=true->BL z=true->cellOf M X.m0 z=none->(∃ k,cellOf M X.m0 y=some k)->GG M 0 X.m0= -1->EM a H "NoRoom" E)
def SX.wr(X:SX)(cs:List Ch)(b:Nat)(row:List V):SX:={ X with rows:=X.rows.set b (EJ cs (E4 cs X.outs b) b row),nn:=X.nn+1,outs:=E4 cs X.outs b }
def MJ(K:W.Frag)(a:Ad):Sp:=λvs H Q _=>∃ (X:SX) (cs:List Ch) (tks:List (AH × V)) (M:Hs) (b:Nat) (row:List V),vs=[.ref X.S.st,.int b]/\C0 K a/\X.at a H cs tks M/\X.rows[b]? =some row/\∀ t H',(X.wr cs b row).at a H' cs tks M->SameBut (λx=>X.S.A.F x\/x=X.S.A.gp) H H'->Q (.ref t) H'
def Q7(K:W.Frag)(a:Ad):Sp:=λvs H Q _=>∃ x:Int,vs=[.int x]/\∀ (l:Addr) (zs:List Str) (H':Hp),H l=none->Same H H'->H' l=some (.lst (zs.map V.str))->zs.length=5->(∀ z∈zs,BL z=true)->Q (.ref l) H'
def Q8(K:W.Frag)(a:Ad):Sp:=λvs H Q _=>∃ x:Int,vs=[.int x]/\∀ (t:Str) (H':Hp),t.length<=40->PyData.strOk t=true->Same H H'->Q (.str t) H'
def Q9(K:W.Frag)(a:Ad):Sp:=λvs H Q _=>∃ x:Int,vs=[.int x]/\∀ y,Q (.int y) H
structure TD(K:W.Frag)(a:Ad):Prop where
 n1:W.exmOne K (.ref (a "NoName")) (.ref (a "NoName"))=some true
 t1:W.exmOne K (.ref (a "Twice")) (.ref (a "NoName"))=some false
 t2:W.exmOne K (.ref (a "Twice")) (.ref (a "Twice"))=some true
 p1:W.exmOne K (.ref (a "NoPiece")) (.ref (a "NoName"))=some false
 p2:W.exmOne K (.ref (a "NoPiece")) (.ref (a "Twice"))=some false
 p3:W.exmOne K (.ref (a "NoPiece")) (.ref (a "NoPiece"))=some true
 r1:W.exmOne K (.ref (a "NoRoom")) (.ref (a "NoName"))=some false
 r2:W.exmOne K (.ref (a "NoRoom")) (.ref (a "Twice"))=some false
 r3:W.exmOne K (.ref (a "NoRoom")) (.ref (a "NoPiece"))=some false
 r4:W.exmOne K (.ref (a "NoRoom")) (.ref (a "NoRoom"))=some true
def LB(tks:List (AH × V)):Str->Option Nat:=λz=>(DW tks z).head?
def RowsAre(H:Hp)(n r c w:Nat)(rows:List (List V))(S:Md):Prop:=∀ kind k v,kind<5->k<AY n r c w kind->(rows[A5 n r c w kind k]?).bind (λq=>q[k % w]?)=some v->RepC H (S kind k) v
structure C45(a:Ad)(H:Hp)(X:SX)(cs:List Ch)(tks:List (AH × V))(M:Hs):Prop where
 st:X.at a H cs tks M
 hi:∃ o,Hist X.m0 M.b M.as (LB tks) o
 b0:M.b=λ_ _=>.no
 cut:P8 cs X.outs
 rows:RowsAre H X.n X.r X.c X.w X.rows (sh M.b (λj=>X.outs (j:Nat)) M.as)
 few:X.c * X.w<=12
 ok:∀ x∈M.as,EG x.kind x.x
def NR(K:PySem.W.Frag)(a:Ad):Sp:=λvs H Q _=>∃ (X:SX) (cs:List Ch) (tks:List (AH × V)) (M:Hs) (gs:List Nat) (W:Nat->List CV->Prop) (ev:Str->Nat->Prop) (g kind:Nat) (y z:Str) (x:Int),vs=[.ref X.S.st,.int kind,.str y,.str z,.int x]/\C0 K a/\TD K a/\C45 a H X cs tks M/\Vers X.m0 M.b M.as gs W ev/\cs.length<920/\kind<8/\BL y=true/\BL z=true ∧
 (∀ v H',v≠Str.ofString ""->Same H H'->Q (.str v) H') ∧
 ∀ cs' tks' M' gs' H',C45 a H' X cs' tks' M'->cs'.length<=cs.length+15->SameBut (λx=>X.S.A.F x\/x=X.S.tk) H H'->Pend X.m0 M'.b M'.as gs' W ev->Dd kind y z g (Mad X.m0 M.b M.as gs) (Mad X.m0 M'.b M'.as gs')->Q (.str (Str.ofString "")) H'
def MK(K:W.Frag)(a:Ad):Sp:=λvs H Q _=>∃ (ly gp cl:Addr) (n r c w:Nat) (rows:List (List V)) (m:Nat),vs=[.ref ly,.ref gp]/\DZ K a/\ED K a/\LayAt a H ly n r c w/\PlankAt a H gp cl w rows m/\rows.length=n+r+c+r+c/\rows.length<=30/\w<=6 ∧
 ∀ (d:Addr) (kvs:List (List AH × V)) (H':Hp),Same H H'->H' d=some (.dT kvs)->(∀ b k:Nat,b<rows.length->k<w->BJ kvs [.inl (b:Int),.inl (k:Int)]=(rows[b]?).bind λq=>q[k]?)->Q (.ref d) H'
structure There(K:W.Frag)(a:Ad)(H:Hp)(ly d:Addr)(n r c w:Nat)(S:Md):Prop where
 tl:DZ K a
 la:LayAt a H ly n r c w
 e:∃ kvs,H d=some (.dT kvs)/\∀ kind k,kind<5->k<AY n r c w kind->∃ v,BJ kvs [.inl ((A5 n r c w kind k:Nat):Int),.inl ((k % w:Nat):Int)]=some v/\RepC H (S kind k) v
 sd:Snd (n * w) S
 ok:∀ kind k,kind<5->k<AY n r c w kind->EG kind (S kind k)
 ps:∀ q m ps,S 3 q=.rc m ps->(∀ p∈ps,p<c * w)/\ps.length<=12
 rr:∀ k z q,k<n * w->S 0 k=.nm z q->q<r * w
 w1:1<=w
 w6:w<=6
 n6:n<=6
 r6:r<=6
 c6:c<=6
abbrev E6(S:SA)(ld x:Addr):Prop:=S.A.F x\/x=S.tk\/x=S.A.gp\/x=ld
def EA(l:List Nat):List (AH × V):=l.map λ(i:Nat)=>(.inl (i:Int),.bl true)
def Vof(VS:List (List (List Str)))(g:Nat)(t:List CV):Prop:=∃ W ts,VS[g]? =some W/\ts∈W/\t=ts.map CV.tx
structure Lg(B:Addr->Prop)(H:Hp)(er vr:Addr)(zs:List Str)(ad:Str->Option Addr)(EV:Str->List Nat)(as:List Addr)(VS:List (List (List Str)))(N:Nat):Prop where
 ee:∃ kvs,H er=some (.dK kvs)/\∀ z,BJ kvs (.inr z)=(ad z).map V.ref
 ev:∀ z x,ad z=some x->H x=some (.dK (EA (EV z)))/\x≠er/\¬ B x
 ei:∀ z z' x,ad z=some x->ad z'=some x->z=z'
 ez:∀ z∈zs,∃ x,ad z=some x
 e0:∀ z,ad z=none->EV z=[]
 el:∀ z,(EV z).length<=N
 em:∀ z,∀ i∈EV z,i<VS.length
 be:¬ B er
 ve:H vr=some (.lst (as.map V.ref))
 vn:as.Nodup
 v1:vr∉as
 vk:as.length=VS.length
 vv:∀ (i:Nat) x W,as[i]? =some x->VS[i]? =some W->¬ B x/\∃ bs:List Addr,H x=some (.lst (bs.map V.ref))/\Paired (λ(b:Addr) (ts:List Str)=>H b=some (.lst (ts.map V.str))/\¬ B b/\b∉as/\b≠vr) bs W
 vb:¬ B vr
 vs:∀ W∈VS,∀ ts∈W,(∀ t∈ts,PyData.strOk t=true)/\ts.length<=100
 vl:VS.length<=N/\∀ W∈VS,W.length<=N
structure LedI(kl:List (AH × V))(R:Str->Nat->Prop)(zs:List Str):Prop where
 v:∀ z (i:Nat),R z i↔BJ kl (.inr z)=some (.int i)
 ks:∀ kv∈kl,∃ z,∃ i:Nat,kv=(.inr z,.int i)/\z∈zs
 nd:(kl.map (·.1)).Nodup
def NS(K:W.Frag)(a:Ad):Sp:=λvs H Q _=>∃ (ld:Addr) (kl:List (AH × V)) (A B:Str->Nat->Prop) (zs:List Str) (g kind:Nat) (y z:Str) (m:Int),vs=[.ref ld,.int kind,.str y,.str z,.int m]/\H ld=some (.dK kl)/\LedI kl A zs/\kl.length<=1000/\y∈zs/\z∈zs/\Dd kind y z g A B/\(kind<2->m=g) ∧
 ∀ kl' H',SameBut (· =ld) H H'->H' ld=some (.dK kl')->LedI kl' B zs->Q .non H'
def NT(K:W.Frag)(a:Ad):Sp:=λvs H Q _=>∃ (X:SX) (cs:List Ch) (tks:List (AH × V)) (M:Hs) (gs:List Nat) (ld er vr:Addr) (kl:List (AH × V)) (zs:List Str) (ad:Str->Option Addr) (EV:Str->List Nat) (as:List Addr) (VS:List (List (List Str))) (N:Nat),vs=[.ref X.S.st,.ref ld,.ref er,.ref vr]/\C0 K a/\C45 a H X cs tks M/\H ld=some (.dK kl)/\LedI kl (Mad X.m0 M.b M.as gs) zs/\zs.length<=5/\Lg (E6 X.S ld) H er vr zs ad EV as VS N/\N<=1000/\(¬ X.S.A.F ld/\ld≠X.S.tk/\ld≠X.S.A.gp)/\(∀ z g,Mad X.m0 M.b M.as gs z g->g<VS.length) ∧
 ∀ EV' VS' H',C45 a H' X cs tks M->H' ld=some (.dK kl)->Lg (E6 X.S ld) H' er vr zs ad EV' as VS' (N+10)->(∀ z,∀ i∈EV z,i∈EV' z)->(∀ g t,Vof VS g t->Vof VS' g t)->VS'.length=VS.length->gE X.m0 M.b M.as gs (Vof VS') (λz g=>g∈EV' z)->SameBut (λx=>(∃ z,ad z=some x)\/x∈as) H H'->Q .non H'
def ML(K:W.Frag)(a:Ad):Sp:=λvs H Q _=>∃ (ly d er vr:Addr) (n r c w:Nat) (S:Md) (B:Addr->Prop) (zs:List Str) (ad:Str->Option Addr) (EV:Str->List Nat) (as:List Addr) (VS:List (List (List Str))) (N:Nat),vs=[.ref ly,.ref d,.ref er,.ref vr]/\There K a H ly d n r c w S/\Lg B H er vr zs ad EV as VS N/\N<=1000 ∧
 (∀ k z q,k<n * w->S 0 k=.nm z q->∃ m ps g,S 3 q=.rc m ps/\g∈EV z/\Vof VS g (CU S ps))/\∀ H',Same H H'->Q (.bl true) H'
def gH(K:W.Frag)(a:Ad):Sp:=λvs H Q _=>∃ (s:Addr) (ns:List Int),vs=[.ref s]/\C0 K a/\TD K a/\SqL K H s (ns.map V.int)/\ns.length<=63/\∀ H',Q (.bl true) H'
end L2
namespace L2
abbrev FK:=W.Frag
abbrev XE:=St->XK
abbrev RT:=FK->Ad->XE->XE->TS
theorem A3{f g:RT}(h:∀ K a E E1,f K a E E1=g K a E E1){K a E E1 D σ H}:f K a E E1 D σ H=g K a E E1 D σ H:=by rw[h]
abbrev FW:TE:=tC (.int 0)
abbrev DH:TE:=tC (.int 1)
abbrev LC:TE:=tC (.int 2)
abbrev GH:TE:=tC (.int 3)
abbrev gI:TE:=tC (.int 4)
abbrev NU:TE:=tC (.int 5)
abbrev RA:TE:=tC (.int 6)
abbrev NV:TE:=tC (.int 7)
abbrev U0:TE:=tC (.int 8)
abbrev Gb:TE:=tC (.int 9)
abbrev DB(n:Int):TE:=tC (.int n)
abbrev AJ(x0:TE):TA:=DM x0 BW
abbrev BV(x0 x1:TE):TA:=DM x0 (DM x1 BW)
abbrev DX(x0 x1 x2:TE):TA:=DM x0 (DM x1 (DM x2 BW))
abbrev JN(x0 x1 x2 x3:TE):TA:=DM x0 (DM x1 (DM x2 (DM x3 BW)))
abbrev DI(K:W.Frag)(x:TE)(n:Int):TE:=AG (CP K) x (tC (.int n))
abbrev AD:TE:=EC 0
abbrev AT:TE:=EC 1
abbrev U1:TE:=EC 10
abbrev gJ:TE:=EC 11
abbrev gK:TE:=EC 12
abbrev Gc:TE:=EC 13
abbrev A4:TE:=EC 2
abbrev BP:TE:=EC 3
abbrev BX:TE:=EC 4
abbrev CY:TE:=EC 5
abbrev FH:TE:=EC 6
abbrev MM:TE:=EC 7
abbrev NW:TE:=EC 8
abbrev MN:TE:=EC 9
section
variable{K:FK}{a:Ad}{n:Nat}{E E1:XE}{D:Ends}{σ:St}{H:Hp}
def gL:RT:=λK a E E1=>(EB K AD AT "place")
theorem Gd:type_of%(@A3 _ _ gL.eq_1):=rfl
def gM:RT:=λK a E E1=>(EB K AD A4 "value")
theorem Gg:type_of%(@A3 _ _ gM.eq_1):=rfl
def gO:RT:=λK a E E1=>(EB K AD BP "needs")
theorem Gh:type_of%(@A3 _ _ gO.eq_1):=rfl
def U2(K:FK)(a:Ad)(E:XE):TS:=(AK (gL K a E E) (AK (gM K a E E) (gO K a E E)))
def gP:RT:=λK a E E1=>(GT (a "NoChange") E (AJ (tC (.str "there is no change of such a number"))))
theorem gQ:type_of%(@A3 _ _ gP.eq_1):=rfl
def gR:RT:=λK a E E1=>(B1 (GJ (CK (GL EZ F2 FW A4 (DE (FS K) (AJ (AX K AD "made")))))) (gP K a E E) CQ)
theorem gS:type_of%(@A3 _ _ gR.eq_1):=rfl
def gT:RT:=λK a E E1=>(EH (FR K AT) (AN 2) (gR K a E E))
theorem gU:type_of%(@A3 _ _ gT.eq_1):=rfl
def U3(K:FK)(a:Ad)(E:XE):TS:=(gT K a E E)
def gW:RT:=λK a E E1=>(BF (DE (LX K) (AJ (PD K AD))))
theorem gX:type_of%(@A3 _ _ gW.eq_1):=rfl
def gY:RT:=λK a E E1=>(B1 (CK (AG LU AT (tC .non))) (gW K a E E) CQ)
theorem gZ:type_of%(@A3 _ _ gY.eq_1):=rfl
def g7:RT:=λK a E E1=>(BF (DE (LX K) (AJ (PD K (AG (BS K) (DE (LW K) (AJ AD)) (CG (AJ AT)))))))
theorem g8:type_of%(@A3 _ _ g7.eq_1):=rfl
def RB(K:FK)(a:Ad)(E:XE):TS:=(AK (gY K a E E) (g7 K a E E))
def g9:RT:=λK a E E1=>(BF BP)
theorem U4:type_of%(@A3 _ _ g9.eq_1):=rfl
def hE:RT:=λK a E E1=>(B1 (M3 (tB (LQ BP (AX K AD "outs"))) (tB (LQ BP A4))) (g9 K a E E) CQ)
theorem U5:type_of%(@A3 _ _ hE.eq_1):=rfl
def hG:RT:=λK a E E1=>(EH (FR K (AX K (AG (CP K) (AX K AD "made") AT) "needs")) (AN 3) (hE K a E E))
theorem U6:type_of%(@A3 _ _ hG.eq_1):=rfl
def hR:RT:=λK a E E1=>(BF (tC .non))
theorem U7:type_of%(@A3 _ _ hR.eq_1):=rfl
def U8(K:FK)(a:Ad)(E:XE):TS:=(AK (hG K a E E) (hR K a E E))
def hU:RT:=λK a E E1=>(A0 (DE (LW K) (AJ AT)) (AN 3))
theorem U9:type_of%(@A3 _ _ hU.eq_1):=rfl
def hX:RT:=λK a E E1=>(A0 (AX K (AG (CP K) (AX K AD "made") BX) "value") (OM BP (DI K (AX K (AG (CP K) (AX K AD "made") BX) "place") 1) TU))
theorem VA:type_of%(@A3 _ _ hX.eq_1):=rfl
def hZ:RT:=λK a E E1=>(B1 (tB (OX BX (AX K AD "outs"))) (hX K a E E) CQ)
theorem VB:type_of%(@A3 _ _ hZ.eq_1):=rfl
def h9:RT:=λK a E E1=>(EH (FR K (AG (CP K) (AX K AD "made_in") A4)) (AN 4) (hZ K a E E))
theorem VC:type_of%(@A3 _ _ h9.eq_1):=rfl
def iA:RT:=λK a E E1=>(BF BP)
theorem VD:type_of%(@A3 _ _ iA.eq_1):=rfl
def VE(K:FK)(a:Ad)(E:XE):TS:=(AK (hU K a E E) (AK (h9 K a E E) (iA K a E E)))
def iB:RT:=λK a E E1=>(BF (M4 (GL EZ EZ (tC (.str " ")) AD (tC (.str "~"))) (AG (LT K) (DE (O8 K) (AJ AD)) (DB 37))))
theorem Gj:type_of%(@A3 _ _ iB.eq_1):=rfl
def VF(K:FK)(a:Ad)(E:XE):TS:=(iB K a E E)
def iC:RT:=λK a E E1=>(BF (M4 (GL EZ EZ DH (DE (FS K) (AJ AD)) U0) (DE (NK K) (AJ (EQ (O7 AD) (AN 0) DO (GL EZ EZ (tC (.str "a")) AD (tC (.str "z"))) 1 [])))))
theorem Gk:type_of%(@A3 _ _ iC.eq_1):=rfl
def VG(K:FK)(a:Ad)(E:XE):TS:=(iC K a E E)
def iD:RT:=λK a E E1=>(EB K AD (EQ (FM (AJ AT)) (AN 0) DO (AG (F8 K) (EO (AJ (tC .non))) AT) 1 [2]) "contents")
theorem Gm:type_of%(@A3 _ _ iD.eq_1):=rfl
def iE:RT:=λK a E E1=>(EB K AD A4 "width")
theorem Gp:type_of%(@A3 _ _ iE.eq_1):=rfl
def iF:RT:=λK a E E1=>(EB K AD FW "written")
theorem Gq:type_of%(@A3 _ _ iF.eq_1):=rfl
def VH(K:FK)(a:Ad)(E:XE):TS:=(AK (iD K a E E) (AK (iE K a E E) (iF K a E E)))
def iG:RT:=λK a E E1=>(BF (DE (FS K) (AJ (AX K AD "contents"))))
theorem Gv:type_of%(@A3 _ _ iG.eq_1):=rfl
def VI(K:FK)(a:Ad)(E:XE):TS:=(iG K a E E)
def iH:RT:=λK a E E1=>(BF (AX K AD "width"))
theorem Gw:type_of%(@A3 _ _ iH.eq_1):=rfl
def VJ(K:FK)(a:Ad)(E:XE):TS:=(iH K a E E)
def iI:RT:=λK a E E1=>(GT (a "NoBlock") E (AJ (tC (.str "there is no such block"))))
theorem Gx:type_of%(@A3 _ _ iI.eq_1):=rfl
def iJ:RT:=λK a E E1=>(B1 (GJ (CK (GL EZ F2 FW AT (DE (FS K) (AJ (AX K AD "contents")))))) (iI K a E E) CQ)
theorem Gy:type_of%(@A3 _ _ iJ.eq_1):=rfl
def VL(K:FK)(a:Ad)(E:XE):TS:=(iJ K a E E)
def iK:RT:=λK a E E1=>(EB K AD AT "name_blocks")
theorem Gz:type_of%(@A3 _ _ iK.eq_1):=rfl
def iL:RT:=λK a E E1=>(EB K AD A4 "record_blocks")
theorem Hb:type_of%(@A3 _ _ iL.eq_1):=rfl
def iM:RT:=λK a E E1=>(EB K AD BP "piece_blocks")
theorem Hc:type_of%(@A3 _ _ iM.eq_1):=rfl
def iN:RT:=λK a E E1=>(EB K AD BX "width")
theorem Hd:type_of%(@A3 _ _ iN.eq_1):=rfl
def VM(K:FK)(a:Ad)(E:XE):TS:=(AK (iK K a E E) (AK (iL K a E E) (AK (iM K a E E) (iN K a E E))))
def iO:RT:=λK a E E1=>(BF (EO (DX (AG (F8 K) (AX K AD "name_blocks") (AX K AD "width")) (AG (F8 K) (AX K AD "record_blocks") (AX K AD "width")) (AG (F8 K) (AX K AD "piece_blocks") (AX K AD "width")))))
theorem Hg:type_of%(@A3 _ _ iO.eq_1):=rfl
def VN(K:FK)(a:Ad)(E:XE):TS:=(iO K a E E)
def iP:RT:=λK a E E1=>(BF (AG (BS K) (AG (BS K) (AX K AD "name_blocks") (AX K AD "record_blocks")) (AX K AD "piece_blocks")))
theorem Hh:type_of%(@A3 _ _ iP.eq_1):=rfl
def VO(K:FK)(a:Ad)(E:XE):TS:=(iP K a E E)
def iQ:RT:=λK a E E1=>(BF (EO (BV (AG (BS K) AT (AG DF A4 (AX K AD "width"))) (AG C6 A4 (AX K AD "width")))))
theorem Hj:type_of%(@A3 _ _ iQ.eq_1):=rfl
def VP(K:FK)(a:Ad)(E:XE):TS:=(iQ K a E E)
def iR:RT:=λK a E E1=>(BF (AG (CP K) AD AT))
theorem Hk:type_of%(@A3 _ _ iR.eq_1):=rfl
def iS:RT:=λK a E E1=>(B1 (CK (AG F2 AT (DE (FS K) (AJ AD)))) (iR K a E E) CQ)
theorem Hl:type_of%(@A3 _ _ iS.eq_1):=rfl
def iT:RT:=λK a E E1=>(BF FW)
theorem Hm:type_of%(@A3 _ _ iT.eq_1):=rfl
def VQ(K:FK)(a:Ad)(E:XE):TS:=(AK (iS K a E E) (iT K a E E))
def iU:RT:=λK a E E1=>(A0 (tC (.str "abcdefghijklmnopqrstuvwxyz")) (AN 1))
theorem Hq:type_of%(@A3 _ _ iU.eq_1):=rfl
def iV:RT:=λK a E E1=>(A0 (tC (.str "")) (AN 2))
theorem Hv:type_of%(@A3 _ _ iV.eq_1):=rfl
def iW:RT:=λK a E E1=>(A0 (AG DF AD RA) (AN 3))
theorem Hw:type_of%(@A3 _ _ iW.eq_1):=rfl
def iX:RT:=λK a E E1=>(A0 (AG (BS K) A4 (AG (CP K) AT (AG C6 (AG (BS K) BP (AG (F8 K) (AG (F8 K) NV BX) (AG C6 (AG DF BP (DB 26)) NU))) (DB 26)))) (AN 2))
theorem Hx:type_of%(@A3 _ _ iX.eq_1):=rfl
def iY:RT:=λK a E E1=>(A0 (AG (BS K) (AG DF BP (DB 29)) (AG (F8 K) GH BX)) (AN 3))
theorem Hy:type_of%(@A3 _ _ iY.eq_1):=rfl
def iZ:RT:=λK a E E1=>(EH (FM (AJ (AG (BS K) DH (AG C6 AD RA)))) (AN 4) (AK (iX K a E E) (iY K a E E)))
theorem Hz:type_of%(@A3 _ _ iZ.eq_1):=rfl
def i4:RT:=λK a E E1=>(A0 (AG C6 (AG DF AD NV) (DE (FS K) (AJ A4))) (AN 5))
theorem Jb:type_of%(@A3 _ _ i4.eq_1):=rfl
def i5:RT:=λK a E E1=>(A0 (AG (CP K) AT (AG C6 (AG DF AD (DB 11)) (DB 26))) (AN 6))
theorem Jc:type_of%(@A3 _ _ i5.eq_1):=rfl
def i6:RT:=λK a E E1=>(A0 (AG (CP K) AT (AG C6 (AG (BS K) (AG (BS K) (AG DF AD (DB 11)) DH) (AG C6 (AG DF AD (DB 13)) (DB 25))) (DB 26))) (AN 7))
theorem Jd:type_of%(@A3 _ _ i6.eq_1):=rfl
def i7:RT:=λK a E E1=>(A0 (AG (CP K) AT (AG C6 (AG (BS K) (AG (BS K) (GR K "str" fA AT (AJ (AG (CP K) A4 CY))) DH) (AG C6 (AG DF AD (DB 17)) (DB 25))) (DB 26))) (AN 8))
theorem Jg:type_of%(@A3 _ _ i7.eq_1):=rfl
def i8:RT:=λK a E E1=>(BF (CG (DM A4 (JN (AG (BS K) A4 MM) (AG (BS K) FH A4) (AG (BS K) (AG (BS K) (KR (KB K) A4 LO (JZ CY)) NW) (KR (KB K) A4 (JZ (AG (BS K) CY DH)) LO)) (AG (BS K) (AG (BS K) A4 MM) FH)))))
theorem Jh:type_of%(@A3 _ _ i8.eq_1):=rfl
def VR(K:FK)(a:Ad)(E:XE):TS:=(AK (iU K a E E) (AK (iV K a E E) (AK (iW K a E E) (AK (iZ K a E E) (AK (i4 K a E E) (AK (i5 K a E E) (AK (i6 K a E E) (AK (i7 K a E E) (i8 K a E E)))))))))
def i9:RT:=λK a E E1=>(A0 (tC (.str " !\"#$&'()*+,-./0123456789:;<=>?@ABCDEFGHIJKLMNOPQRSTUVWXYZ[\\]^_`")) (AN 1))
theorem Jj:type_of%(@A3 _ _ i9.eq_1):=rfl
def jA:RT:=λK a E E1=>(A0 (AG (BS K) AT (tC (.str "abcdefghijklmnopqrstuvwxyz{|}~"))) (AN 1))
theorem Jk:type_of%(@A3 _ _ jA.eq_1):=rfl
def jB:RT:=λK a E E1=>(A0 (AG (BS K) DH (AG C6 AD NU)) (AN 2))
theorem Jl:type_of%(@A3 _ _ jB.eq_1):=rfl
def jC:RT:=λK a E E1=>(A0 (AG NE (DB 40) (AG C6 (AG DF AD (DB 40)) LC)) (AN 2))
theorem Jm:type_of%(@A3 _ _ jC.eq_1):=rfl
def jD:RT:=λK a E E1=>(B1 (CK (AG (FE K) (AG C6 (AG DF AD NU) U0) GH)) (jC K a E E) CQ)
theorem Jp:type_of%(@A3 _ _ jD.eq_1):=rfl
def VT:RT:=λK a E E1=>(A0 (AG (BS K) DH (AG C6 (AG DF AD (DB 19)) (DB 93))) (AN 3))
theorem Jq:type_of%(@A3 _ _ VT.eq_1):=rfl
def VU:RT:=λK a E E1=>(A0 (AG (BS K) DH (AG C6 (AG DF AD NV) GH)) (AN 4))
theorem Jv:type_of%(@A3 _ _ VU.eq_1):=rfl
def VV:RT:=λK a E E1=>(BF (GR K "str" (eU K) (tC (.str "")) (AJ (EQ (FM (AJ A4)) (AN 0) DO (AG (CP K) AT (AG C6 (AG (BS K) (AG DF A4 GH) (AG (F8 K) BP (AG DF AD BX))) (DB 94))) 1 [1,0,3,4]))))
theorem Jw:type_of%(@A3 _ _ VV.eq_1):=rfl
def VW(K:FK)(a:Ad)(E:XE):TS:=(AK (i9 K a E E) (AK (jA K a E E) (AK (jB K a E E) (AK (jD K a E E) (AK (VT K a E E) (AK (VU K a E E) (VV K a E E)))))))
def jE:RT:=λK a E E1=>(BF (AG NE (AG C6 AD gI) DH))
theorem Jx:type_of%(@A3 _ _ jE.eq_1):=rfl
def jF:RT:=λK a E E1=>(B1 (CK (AG (FE K) (AG C6 (AG DF AD (DB 28)) LC) FW)) (jE K a E E) CQ)
theorem Jy:type_of%(@A3 _ _ jF.eq_1):=rfl
def jG:RT:=λK a E E1=>(BF (AG NE (AG C6 AD (DB 14)) DH))
theorem Jz:type_of%(@A3 _ _ jG.eq_1):=rfl
def VX(K:FK)(a:Ad)(E:XE):TS:=(AK (jF K a E E) (jG K a E E))
def jH:RT:=λK a E E1=>(HH AD A4 BX)
theorem Kb:type_of%(@A3 _ _ jH.eq_1):=rfl
def jI:RT:=λK a E E1=>(C5 (NB AD A4))
theorem Kc:type_of%(@A3 _ _ jI.eq_1):=rfl
def jJ:RT:=λK a E E1=>(HH AD BP (IB AD A4))
theorem jK:type_of%(@A3 _ _ jJ.eq_1):=rfl
def jL:RT:=λK a E E1=>(C5 (NB AD A4))
theorem Kd:type_of%(@A3 _ _ jL.eq_1):=rfl
def jM:RT:=λK a E E1=>(B1 (CK (AG (FE K) AT NV)) (jL K a E E) CQ)
theorem jN:type_of%(@A3 _ _ jM.eq_1):=rfl
def jO:RT:=λK a E E1=>(B1 (CK (AG (PJ K) AT (EO (BV LC NV)))) (AK (jJ K a E E) (jM K a E E)) CQ)
theorem VY:type_of%(@A3 _ _ jO.eq_1):=rfl
def jP:RT:=λK a E E1=>(B1 (CK (AG (FE K) AT GH)) (jI K a E E) (jO K a E E))
theorem RC:type_of%(@A3 _ _ jP.eq_1):=rfl
def jQ:RT:=λK a E E1=>(B1 (CK (AG F2 AT LC)) (jH K a E E) (jP K a E E))
theorem Kg:type_of%(@A3 _ _ jQ.eq_1):=rfl
def VZ(K:FK)(a:Ad)(E:XE):TS:=(jQ K a E E)
def jR:RT:=λK a E E1=>(EB K AD AT "ground")
theorem Kh:type_of%(@A3 _ _ jR.eq_1):=rfl
def jS:RT:=λK a E E1=>(EB K AD (CG BW) "made")
theorem Kj:type_of%(@A3 _ _ jS.eq_1):=rfl
def jT:RT:=λK a E E1=>(EB K AD (EQ (FM (AJ (AR (a "Plank") "blocks" (L0 K a) [] E AT BW))) (AN 0) DO (CG BW) 1 []) "made_in")
theorem Kk:type_of%(@A3 _ _ jT.eq_1):=rfl
def jU:RT:=λK a E E1=>(EB K AD OZ "latest")
theorem Kl:type_of%(@A3 _ _ jU.eq_1):=rfl
def jV:RT:=λK a E E1=>(EB K AD JB "outs")
theorem Km:type_of%(@A3 _ _ jV.eq_1):=rfl
def V0(K:FK)(a:Ad)(E:XE):TS:=(AK (jR K a E E) (AK (jS K a E E) (AK (jT K a E E) (AK (jU K a E E) (jV K a E E)))))
def jW:RT:=λK a E E1=>(GT (a "NoBlock") E (AJ (tC (.str "there is no such place on the plank"))))
theorem Kp:type_of%(@A3 _ _ jW.eq_1):=rfl
def jX:RT:=λK a E E1=>(B1 (R3 (GJ (CK (GL EZ F2 FW (DI K AT 0) (AR (a "Plank") "blocks" (L0 K a) [] E (AX K AD "ground") BW)))) (GJ (CK (GL EZ F2 FW (DI K AT 1) (AR (a "Plank") "cells" (PY K a) [] E (AX K AD "ground") BW))))) (jW K a E E) CQ)
theorem Kq:type_of%(@A3 _ _ jX.eq_1):=rfl
def V1(K:FK)(a:Ad)(E:XE):TS:=(jX K a E E)
def jY:RT:=λK a E E1=>(A0 (DE (PF K) (AJ A4)) (AN 3))
theorem V2:type_of%(@A3 _ _ jY.eq_1):=rfl
def jZ:RT:=λK a E E1=>(A0 (CG BW) (AN 4))
theorem V3:type_of%(@A3 _ _ jZ.eq_1):=rfl
def j2:RT:=λK a E E1=>(A0 (CG BW) (AN 5))
theorem V4:type_of%(@A3 _ _ j2.eq_1):=rfl
def j3:RT:=λK a E E1=>(A0 (AR (a "Hold") "lack_of" (QK K a) [] E AD (BV FH BP)) (AN 7))
theorem V5:type_of%(@A3 _ _ j3.eq_1):=rfl
def j4:RT:=λK a E E1=>(HH BP FH (tC (.bl true)))
theorem V6:type_of%(@A3 _ _ j4.eq_1):=rfl
def j5:RT:=λK a E E1=>(C5 (GR K "list" KC BX (AJ FH)))
theorem V7:type_of%(@A3 _ _ j5.eq_1):=rfl
def j6:RT:=λK a E E1=>(C5 (GR K "list" KC CY (AJ (EO (BV FH MM)))))
theorem V8:type_of%(@A3 _ _ j6.eq_1):=rfl
def j7:RT:=λK a E E1=>(B1 (CK (AG LU MM (tC .non))) (AK (j4 K a E E) (j5 K a E E)) (j6 K a E E))
theorem V9:type_of%(@A3 _ _ j7.eq_1):=rfl
def j8:RT:=λK a E E1=>(B1 (M3 (tB (LQ FH (AX K AD "outs"))) (tB (LQ FH BP))) (AK (j3 K a E E) (j7 K a E E)) CQ)
theorem WA:type_of%(@A3 _ _ j8.eq_1):=rfl
def j9:RT:=λK a E E1=>(EH (FR K (AG (CP K) (AX K AD "made_in") AT)) (AN 6) (j8 K a E E))
theorem WB:type_of%(@A3 _ _ j9.eq_1):=rfl
def kA:RT:=λK a E E1=>(BF (EO (BV BX CY)))
theorem WC:type_of%(@A3 _ _ kA.eq_1):=rfl
def WD(K:FK)(a:Ad)(E:XE):TS:=(AK (jY K a E E) (AK (jZ K a E E) (AK (j2 K a E E) (AK (j9 K a E E) (kA K a E E)))))
def kB:RT:=λK a E E1=>(BF (M4 (GL EZ EZ DH (DE (FS K) (AJ AD)) (DB 40)) (DE (NK K) (AJ (EQ (O7 AD) (AN 0) DO (DD (QT K a) [] (λ_=>E0) (AJ AD)) 1 [])))))
theorem Kv:type_of%(@A3 _ _ kB.eq_1):=rfl
def WE(K:FK)(a:Ad)(E:XE):TS:=(kB K a E E)
def kC:RT:=λK a E E1=>(C5 (AR (a "Plank") "ask_for_block" (KD K a) [] E AD (AJ AT)))
theorem Kw:type_of%(@A3 _ _ kC.eq_1):=rfl
def kD:RT:=λK a E E1=>(BF (DE (LW K) (AJ (AG (CP K) (AX K AD "contents") AT))))
theorem Kx:type_of%(@A3 _ _ kD.eq_1):=rfl
def WF(K:FK)(a:Ad)(E:XE):TS:=(AK (kC K a E E) (kD K a E E))
def kE:RT:=λK a E E1=>(C5 (AR (a "Plank") "ask_for_block" (KD K a) [] E AD (AJ AT)))
theorem Ky:type_of%(@A3 _ _ kE.eq_1):=rfl
def kF:RT:=λK a E E1=>(GT (a "NoBlock") E (AJ (tC (.str "the list is not as long as a block"))))
theorem Kz:type_of%(@A3 _ _ kF.eq_1):=rfl
def kG:RT:=λK a E E1=>(B1 (CK (AG (LT K) (DE (FS K) (AJ A4)) (AX K AD "width"))) (kF K a E E) CQ)
theorem Lb:type_of%(@A3 _ _ kG.eq_1):=rfl
def kH:RT:=λK a E E1=>(A0 (DE (LX K) (AJ A4)) (OM (AX K AD "contents") AT TU))
theorem Lc:type_of%(@A3 _ _ kH.eq_1):=rfl
def kI:RT:=λK a E E1=>(SN K AD DH OS "written")
theorem Lh:type_of%(@A3 _ _ kI.eq_1):=rfl
def WG(K:FK)(a:Ad)(E:XE):TS:=(AK (kE K a E E) (AK (kG K a E E) (AK (kH K a E E) (kI K a E E))))
def kJ:RT:=λK a E E1=>(BF (AR (a "Layout") "place_from" (G4 K a) [] E AD (BV FW AT)))
theorem Lj:type_of%(@A3 _ _ kJ.eq_1):=rfl
def WH(K:FK)(a:Ad)(E:XE):TS:=(kJ K a E E)
def kK:RT:=λK a E E1=>(BF (AR (a "Layout") "place_from" (G4 K a) [] E AD (BV (AX K AD "name_blocks") AT)))
theorem Lk:type_of%(@A3 _ _ kK.eq_1):=rfl
def WI(K:FK)(a:Ad)(E:XE):TS:=(kK K a E E)
def kL:RT:=λK a E E1=>(BF (AR (a "Layout") "place_from" (G4 K a) [] E AD (BV (AG (BS K) (AX K AD "name_blocks") (AX K AD "record_blocks")) AT)))
theorem Ll:type_of%(@A3 _ _ kL.eq_1):=rfl
def WJ(K:FK)(a:Ad)(E:XE):TS:=(kL K a E E)
def kM:RT:=λK a E E1=>(BF (AR (a "Layout") "place_from" (G4 K a) [] E AD (BV (AR (a "Layout") "blocks_ahead_of_marks" (KF K a) [] E AD BW) AT)))
theorem Lm:type_of%(@A3 _ _ kM.eq_1):=rfl
def WK(K:FK)(a:Ad)(E:XE):TS:=(kM K a E E)
def kN:RT:=λK a E E1=>(BF (AR (a "Layout") "place_from" (G4 K a) [] E AD (BV (AG (BS K) (AR (a "Layout") "blocks_ahead_of_marks" (KF K a) [] E AD BW) (AX K AD "record_blocks")) AT)))
theorem Lp:type_of%(@A3 _ _ kN.eq_1):=rfl
def WL(K:FK)(a:Ad)(E:XE):TS:=(kN K a E E)
def kO:RT:=λK a E E1=>(BF (AG (BS K) (AG (BS K) (AR (a "Layout") "blocks_ahead_of_marks" (KF K a) [] E AD BW) (AX K AD "record_blocks")) (AX K AD "piece_blocks")))
theorem Lq:type_of%(@A3 _ _ kO.eq_1):=rfl
def WM(K:FK)(a:Ad)(E:XE):TS:=(kO K a E E)
def kP:RT:=λK a E E1=>(C5 (AR (a "Hold") "ask_for_place" (QI K a) [] E AD (AJ AT)))
theorem Lv:type_of%(@A3 _ _ kP.eq_1):=rfl
def kQ:RT:=λK a E E1=>(BF (S5 (AX K AD "latest") AT))
theorem Lw:type_of%(@A3 _ _ kQ.eq_1):=rfl
def WN(K:FK)(a:Ad)(E:XE):TS:=(AK (kP K a E E) (kQ K a E E))
def kR:RT:=λK a E E1=>(A0 (AR (a "Plank") "read" (KE K a) [] E (AX K AD "ground") (AJ AT)) (AN 2))
theorem RD:type_of%(@A3 _ _ kR.eq_1):=rfl
def kS:RT:=λK a E E1=>(A0 (AR (a "Hold") "outcome" (QL K a) [] E AD (BV AT JB)) (AN 3))
theorem RE:type_of%(@A3 _ _ kS.eq_1):=rfl
def kT:RT:=λK a E E1=>(HH (AX K AD "outs") BX (tC (.bl true)))
theorem RF:type_of%(@A3 _ _ kT.eq_1):=rfl
def kU:RT:=λK a E E1=>(EH (FR K (DI K BP 0)) (AN 4) (kT K a E E))
theorem RG:type_of%(@A3 _ _ kU.eq_1):=rfl
def kW:RT:=λK a E E1=>(C5 (AR (a "Plank") "write" (PZ K a) [] E (AX K AD "ground") (BV AT (AR (a "Hold") "laid_over" (QM K a) [] E AD (BV A4 AT)))))
theorem RH:type_of%(@A3 _ _ kW.eq_1):=rfl
def kX:RT:=λK a E E1=>(BF BP)
theorem RI:type_of%(@A3 _ _ kX.eq_1):=rfl
def WO(K:FK)(a:Ad)(E:XE):TS:=(AK (kR K a E E) (AK (kS K a E E) (AK (kU K a E E) (AK (kW K a E E) (kX K a E E)))))
def kY:RT:=λK a E E1=>(BF (JX (a "Plank") (PU K a) [] E (BV (AR (a "Layout") "blocks" (JJ K a) [] E AD BW) (AX K AD "width"))))
theorem Lx:type_of%(@A3 _ _ kY.eq_1):=rfl
def WP(K:FK)(a:Ad)(E:XE):TS:=(kY K a E E)
def kZ:RT:=λK a E E1=>(A0 OZ (AN 2))
theorem Ly:type_of%(@A3 _ _ kZ.eq_1):=rfl
def k8:RT:=λK a E E1=>(A0 (AR (a "Plank") "read" (KE K a) [] E AT (AJ BP)) (AN 4))
theorem Lz:type_of%(@A3 _ _ k8.eq_1):=rfl
def k9:RT:=λK a E E1=>(HH A4 (EO (BV BP CY)) (AG (CP K) BX CY))
theorem Mb:type_of%(@A3 _ _ k9.eq_1):=rfl
def lA:RT:=λK a E E1=>(EH (FM (AJ (DE (FS K) (AJ BX)))) (AN 5) (k9 K a E E))
theorem Mc:type_of%(@A3 _ _ lA.eq_1):=rfl
def lB:RT:=λK a E E1=>(EH (FM (AJ (AR (a "Layout") "blocks" (JJ K a) [] E AD BW))) (AN 3) (AK (k8 K a E E) (lA K a E E)))
theorem Mg:type_of%(@A3 _ _ lB.eq_1):=rfl
def lC:RT:=λK a E E1=>(BF A4)
theorem Mh:type_of%(@A3 _ _ lC.eq_1):=rfl
def WQ(K:FK)(a:Ad)(E:XE):TS:=(AK (kZ K a E E) (AK (lB K a E E) (lC K a E E)))
def lD:RT:=λK a E E1=>(A0 (IB AT (AR (a "Layout") "name_at" (GB K a) [] E AD (AJ BX))) (AN 5))
theorem Mj:type_of%(@A3 _ _ lD.eq_1):=rfl
def lE:RT:=λK a E E1=>(A0 (DI K (IB AT (AR (a "Layout") "record_at" (FU K a) [] E AD (AJ (DI K CY 1)))) 1) (AN 6))
theorem Ml:type_of%(@A3 _ _ lE.eq_1):=rfl
def lF:RT:=λK a E E1=>(A0 (EQ (FR K FH) (AN 0) DO (IB AT (AR (a "Layout") "piece_at" (JH K a) [] (λ_=>E0) A4 (AJ AD))) 1 [1,0]) (AN 7))
theorem Mm:type_of%(@A3 _ _ lF.eq_1):=rfl
def lG:RT:=λK a E E1=>(A0 (tC (.bl false)) (AN 8))
theorem Mp:type_of%(@A3 _ _ lG.eq_1):=rfl
def lH:RT:=λK a E E1=>(A0 (R6 NW (AG (fI K) MM (AG (CP K) BP MN))) (AN 8))
theorem Mq:type_of%(@A3 _ _ lH.eq_1):=rfl
def lI:RT:=λK a E E1=>(PQ (S6 A4 (DI K CY 0) JB) (AN 9) (lH K a E E))
theorem Mv:type_of%(@A3 _ _ lI.eq_1):=rfl
def Mw:RT:=λK a E E1=>(BF (tC (.bl false)))
def lJ:RT:=λK a E E1=>(B1 (GJ (LV K NW)) (Mw K a E E) CQ)
theorem Mx:type_of%(@A3 _ _ lJ.eq_1):=rfl
def lK:RT:=λK a E E1=>(B1 (CK (AG NF CY (tC .non))) (AK (lE K a E E) (AK (lF K a E E) (AK (lG K a E E) (AK (lI K a E E) (lJ K a E E))))) CQ)
theorem My:type_of%(@A3 _ _ lK.eq_1):=rfl
def lL:RT:=λK a E E1=>(EH (FM (AJ (DI K (AR (a "Layout") "counts" (G5 K a) [] E AD BW) 0))) (AN 4) (AK (lD K a E E) (lK K a E E)))
theorem Mz:type_of%(@A3 _ _ lL.eq_1):=rfl
def lM:RT:=λK a E E1=>(BF (tC (.bl true)))
theorem Nb:type_of%(@A3 _ _ lM.eq_1):=rfl
def WR(K:FK)(a:Ad)(E:XE):TS:=(AK (lL K a E E) (lM K a E E))
def lN:RT:=λK a E E1=>(A0 (AR (a "Hold") "newest" (MA K a) [] E AD (AJ AT)) (AN 4))
theorem Nd:type_of%(@A3 _ _ lN.eq_1):=rfl
def lO:RT:=λK a E E1=>(C5 (AR (a "Hold") "ask_for_changes" (QJ K a) [] E AD (AJ BP)))
theorem Ng:type_of%(@A3 _ _ lO.eq_1):=rfl
def lP:RT:=λK a E E1=>(A0 (DE (FS K) (AJ (AX K AD "made"))) (AN 5))
theorem Nh:type_of%(@A3 _ _ lP.eq_1):=rfl
def lQ:RT:=λK a E E1=>(C5 (GR K "list" KC (AX K AD "made") (AJ (JX (a "Change") (QF K a) [] E (DX AT A4 (DD (QH K a) [] E (BV BP BX)))))))
theorem Nj:type_of%(@A3 _ _ lQ.eq_1):=rfl
def lR:RT:=λK a E E1=>(C5 (GR K "list" KC (AG (CP K) (AX K AD "made_in") (DI K AT 0)) (AJ CY)))
theorem Nk:type_of%(@A3 _ _ lR.eq_1):=rfl
def lS:RT:=λK a E E1=>(HH (AX K AD "latest") AT CY)
theorem Nl:type_of%(@A3 _ _ lS.eq_1):=rfl
def lT:RT:=λK a E E1=>(BF CY)
theorem Nm:type_of%(@A3 _ _ lT.eq_1):=rfl
def WS(K:FK)(a:Ad)(E:XE):TS:=(AK (lN K a E E) (AK (lO K a E E) (AK (lP K a E E) (AK (lQ K a E E) (AK (lR K a E E) (AK (lS K a E E) (lT K a E E)))))))
def lU:RT:=λK a E E1=>(A0 (AR (a "Hold") "newest" (MA K a) [] E AD (AJ AT)) (AN 2))
theorem Np:type_of%(@A3 _ _ lU.eq_1):=rfl
def lV:RT:=λK a E E1=>(BF (AG (CP K) (AR (a "Plank") "read" (KE K a) [] E (AX K AD "ground") (AJ (DI K AT 0))) (DI K AT 1)))
theorem Nq:type_of%(@A3 _ _ lV.eq_1):=rfl
def lW:RT:=λK a E E1=>(B1 (CK (AG LU A4 (tC .non))) (lV K a E E) CQ)
theorem Nv:type_of%(@A3 _ _ lW.eq_1):=rfl
def lX:RT:=λK a E E1=>(BF (AX K (AG (CP K) (AX K AD "made") A4) "value"))
theorem Nx:type_of%(@A3 _ _ lX.eq_1):=rfl
def WT(K:FK)(a:Ad)(E:XE):TS:=(AK (lU K a E E) (AK (lW K a E E) (lX K a E E)))
def lY:RT:=λK a E E1=>(EB K AD AT "plan")
theorem Ny:type_of%(@A3 _ _ lY.eq_1):=rfl
def lZ:RT:=λK a E E1=>(EB K AD (JX (a "Hold") (NP K a) [] E (AJ A4)) "book")
theorem Nz:type_of%(@A3 _ _ lZ.eq_1):=rfl
def l9:RT:=λK a E E1=>(EB K AD JB "taken_out")
theorem Pb:type_of%(@A3 _ _ l9.eq_1):=rfl
def WU(K:FK)(a:Ad)(E:XE):TS:=(AK (lY K a E E) (AK (lZ K a E E) (l9 K a E E)))
def mB:RT:=λK a E E1=>(BF (AR (a "Hold") "write" (QN K a) [] E (AX K AD "book") (AJ AT)))
theorem Pc:type_of%(@A3 _ _ mB.eq_1):=rfl
def WV(K:FK)(a:Ad)(E:XE):TS:=(mB K a E E)
def mC:RT:=λK a E E1=>(BF BP)
theorem Pd:type_of%(@A3 _ _ mC.eq_1):=rfl
def mD:RT:=λK a E E1=>(B1 (CK (AG (PM K) (AR (a "Hold") "in_hand" (II K a) [] E AD (AJ BX)) A4)) (mC K a E E) CQ)
theorem Pg:type_of%(@A3 _ _ mD.eq_1):=rfl
def mE:RT:=λK a E E1=>(EH (PL K (AJ AT)) (OL K 2 (LI (AN 3) (LI (AN 4) OJ))) (mD K a E E))
theorem Ph:type_of%(@A3 _ _ mE.eq_1):=rfl
def mF:RT:=λK a E E1=>(GT (a "NoRoom") E (AJ (tC (.str "nothing of what is to be taken is free"))))
theorem Pj:type_of%(@A3 _ _ mF.eq_1):=rfl
def WW(K:FK)(a:Ad)(E:XE):TS:=(AK (mE K a E E) (mF K a E E))
def mG:RT:=λK a E E1=>(BF (EQ (FM (AJ (DI K (AR (a "Layout") "counts" (G5 K a) [] E (AX K AD "plan") BW) 0))) (AN 0) DO (AR (a "Hold") "in_hand" (II K a) [] (λ_=>E0) (AX K AT "book") (AJ (AR (a "Layout") "name_at" (GB K a) [] (λ_=>E0) (AX K AT "plan") (AJ AD)))) 1 [0]))
theorem Pk:type_of%(@A3 _ _ mG.eq_1):=rfl
def WX(K:FK)(a:Ad)(E:XE):TS:=(mG K a E E)
def mH:RT:=λK a E E1=>(BF (AR (a "Hold") "in_hand" (II K a) [] E (AX K AD "book") (AJ (AR (a "Layout") "record_at" (FU K a) [] E (AX K AD "plan") (AJ AT)))))
theorem Pl:type_of%(@A3 _ _ mH.eq_1):=rfl
def WY(K:FK)(a:Ad)(E:XE):TS:=(mH K a E E)
def mI:RT:=λK a E E1=>(A0 (CG (AJ BX)) (AN 5))
theorem Pm:type_of%(@A3 _ _ mI.eq_1):=rfl
def mJ:RT:=λK a E E1=>(C5 (GR K "list" KC CY (AJ (IB (AX K AD "taken_out") A4))))
theorem Pp:type_of%(@A3 _ _ mJ.eq_1):=rfl
def mK:RT:=λK a E E1=>(B1 (tB (OX A4 (AX K AD "taken_out"))) (mJ K a E E) CQ)
theorem Pq:type_of%(@A3 _ _ mK.eq_1):=rfl
def WZ:RT:=λK a E E1=>(BF (AR (a "Hold") "change" (D1 K a) [] E (AX K AD "book") (DX (AR (a "Layout") "name_at" (GB K a) [] E (AX K AD "plan") (AJ AT)) (EO (BV A4 BP)) CY)))
theorem Pw:type_of%(@A3 _ _ WZ.eq_1):=rfl
def W0(K:FK)(a:Ad)(E:XE):TS:=(AK (mI K a E E) (AK (mK K a E E) (WZ K a E E)))
def mM:RT:=λK a E E1=>(A0 (EQ (FM (AJ (DI K (AR (a "Layout") "counts" (G5 K a) [] E AD BW) 0))) (AN 0) DO (AR (a "Layout") "name_at" (GB K a) [] (λ_=>E0) AT (AJ AD)) 1 [0]) (AN 2))
theorem Px:type_of%(@A3 _ _ mM.eq_1):=rfl
def mO:RT:=λK a E E1=>(BF (DD (JL K a) [] E (DX AT A4 (EO (AJ (tC .non))))))
theorem Py:type_of%(@A3 _ _ mO.eq_1):=rfl
def W2(K:FK)(a:Ad)(E:XE):TS:=(AK (mM K a E E) (mO K a E E))
def mP:RT:=λK a E E1=>(A0 (EQ (FM (AJ (DI K (AR (a "Layout") "counts" (G5 K a) [] E AD BW) 1))) (AN 0) DO (AR (a "Layout") "record_mark" (JI K a) [] (λ_=>E0) AT (AJ AD)) 1 [0]) (AN 2))
theorem Pz:type_of%(@A3 _ _ mP.eq_1):=rfl
def mQ:RT:=λK a E E1=>(BF (DD (JL K a) [] E (DX AT A4 (EO (BV (tC .non) FW)))))
theorem Qb:type_of%(@A3 _ _ mQ.eq_1):=rfl
def W3(K:FK)(a:Ad)(E:XE):TS:=(AK (mP K a E E) (mQ K a E E))
def mR:RT:=λK a E E1=>(A0 (EQ (FM (AJ (DI K (AR (a "Layout") "counts" (G5 K a) [] E AD BW) 2))) (AN 0) DO (AR (a "Layout") "piece_mark" (HL K a) [] (λ_=>E0) AT (AJ AD)) 1 [0]) (AN 2))
theorem Qc:type_of%(@A3 _ _ mR.eq_1):=rfl
def mS:RT:=λK a E E1=>(BF (DD (JL K a) [] E (DX AT A4 (EO (BV (tC .non) FW)))))
theorem Qd:type_of%(@A3 _ _ mS.eq_1):=rfl
def W4(K:FK)(a:Ad)(E:XE):TS:=(AK (mR K a E E) (mS K a E E))
def mT:RT:=λK a E E1=>(BF A4)
theorem Qg:type_of%(@A3 _ _ mT.eq_1):=rfl
def mU:RT:=λK a E E1=>(B1 (M3 (CK (AG NF BP (tC .non))) (CK (AG (FE K) (DI K BP 0) AT))) (mT K a E E) CQ)
theorem Qh:type_of%(@A3 _ _ mU.eq_1):=rfl
def mV:RT:=λK a E E1=>(EH (PL K (AJ (AR (a "Store") "name_cells" (MD K a) [] E AD BW))) (OL K 2 (LI (AN 2) (LI (AN 3) OJ))) (mU K a E E))
theorem Qj:type_of%(@A3 _ _ mV.eq_1):=rfl
def mW:RT:=λK a E E1=>(BF (tC .non))
theorem Qk:type_of%(@A3 _ _ mW.eq_1):=rfl
def W5(K:FK)(a:Ad)(E:XE):TS:=(AK (mV K a E E) (mW K a E E))
def mX:RT:=λK a E E1=>(A0 (AR (a "Store") "standing" (FG K a) [] E AD (AJ AT)) (AN 4))
theorem Ql:type_of%(@A3 _ _ mX.eq_1):=rfl
def mY:RT:=λK a E E1=>(BF (AR (a "Hold") "change" (D1 K a) [] E (AX K AD "book") (DX (AR (a "Layout") "record_at" (FU K a) [] E (AX K AD "plan") (AJ AT)) (EO (BV (AG (BS K) (DI K BX 0) A4) (DI K BX 1))) BP)))
theorem Qm:type_of%(@A3 _ _ mY.eq_1):=rfl
def W6(K:FK)(a:Ad)(E:XE):TS:=(AK (mX K a E E) (mY K a E E))
def mZ:RT:=λK a E E1=>(BF (AR (a "Hold") "change" (D1 K a) [] E (AX K AD "book") (DX (AR (a "Layout") "record_at" (FU K a) [] E (AX K AD "plan") (AJ AT)) (EO (BV (DI K (AR (a "Store") "standing" (FG K a) [] E AD (AJ AT)) 0) A4)) BP)))
theorem Qp:type_of%(@A3 _ _ mZ.eq_1):=rfl
def W7(K:FK)(a:Ad)(E:XE):TS:=(mZ K a E E)
def m4:RT:=λK a E E1=>(A0 (DI K (AR (a "Store") "standing" (FG K a) [] E AD (AJ AT)) 1) (AN 3))
theorem Qq:type_of%(@A3 _ _ m4.eq_1):=rfl
def m6:RT:=λK a E E1=>(A0 (AR (a "Hold") "change" (D1 K a) [] E (AX K AD "book") (DX (AR (a "Layout") "record_at" (FU K a) [] E (AX K AD "plan") (AJ AT)) (tC .non) (CG (AJ A4)))) (AN 4))
theorem Qv:type_of%(@A3 _ _ m6.eq_1):=rfl
def m7:RT:=λK a E E1=>(A0 (CG (AJ BX)) (AN 5))
theorem Qw:type_of%(@A3 _ _ m7.eq_1):=rfl
def m8:RT:=λK a E E1=>(C5 (GR K "list" KC CY (AJ (AR (a "Hold") "change" (D1 K a) [] E (AX K AD "book") (DX FH FW (CG (AJ BX)))))))
theorem Qx:type_of%(@A3 _ _ m8.eq_1):=rfl
def m9:RT:=λK a E E1=>(EH (FR K (AG (BS K) (EQ (FR K BP) (AN 0) DO (AR (a "Layout") "piece_mark" (HL K a) [] (λ_=>E0) (AX K AT "plan") (AJ AD)) 1 [0]) (CG (AJ (AR (a "Layout") "record_mark" (JI K a) [] E (AX K AD "plan") (AJ AT)))))) (AN 6) (m8 K a E E))
theorem Qy:type_of%(@A3 _ _ m9.eq_1):=rfl
def nA:RT:=λK a E E1=>(BF CY)
theorem Qz:type_of%(@A3 _ _ nA.eq_1):=rfl
def W8(K:FK)(a:Ad)(E:XE):TS:=(AK (m4 K a E E) (AK (m6 K a E E) (AK (m7 K a E E) (AK (m9 K a E E) (nA K a E E)))))
def nD:RT:=λK a E E1=>(GT (a "NoName") E (AJ (tC (.str "the text is no name"))))
theorem Rb:type_of%(@A3 _ _ nD.eq_1):=rfl
def nE:RT:=λK a E E1=>(B1 (GJ (LV K (DE (NK K) (AJ (EQ (FR K A4) (AN 0) DO (DD (QU K a) [] (λ_=>E0) (AJ AD)) 1 []))))) (nD K a E E) CQ)
theorem Rc:type_of%(@A3 _ _ nE.eq_1):=rfl
def nH:RT:=λK a E E1=>(GT (a "Twice") E (AJ (tC (.str "the new name stands already"))))
theorem Rg:type_of%(@A3 _ _ nH.eq_1):=rfl
def nJ:RT:=λK a E E1=>(B1 (CK (AG NF (AR (a "Store") "cell_of" (KI K a) [] E AD (AJ AT)) (tC .non))) (nH K a E E) CQ)
theorem Rh:type_of%(@A3 _ _ nJ.eq_1):=rfl
def W9(K:FK)(a:Ad)(E:XE):TS:=(AK (nE K a E E) (nJ K a E E))
def nK:RT:=λK a E E1=>(A0 (AR (a "Store") "cell_of" (KI K a) [] E AD (AJ AT)) (AN 2))
theorem Rj:type_of%(@A3 _ _ nK.eq_1):=rfl
def nQ:RT:=λK a E E1=>(GT (a "NoName") E (AJ (tC (.str "no such name stands"))))
theorem Rk:type_of%(@A3 _ _ nQ.eq_1):=rfl
def nR:RT:=λK a E E1=>(B1 (CK (AG LU A4 (tC .non))) (nQ K a E E) CQ)
theorem Rl:type_of%(@A3 _ _ nR.eq_1):=rfl
def nS:RT:=λK a E E1=>(BF (DI K (AG (CP K) (AR (a "Store") "name_cells" (MD K a) [] E AD BW) A4) 1))
theorem Rm:type_of%(@A3 _ _ nS.eq_1):=rfl
def XA(K:FK)(a:Ad)(E:XE):TS:=(AK (nK K a E E) (AK (nR K a E E) (nS K a E E)))
def nT:RT:=λK a E E1=>(A0 (AR (a "Hold") "change" (D1 K a) [] E (AX K AD "book") (DX (AR (a "Layout") "name_at" (GB K a) [] E (AX K AD "plan") (AJ (AR (a "Store") "cell_of" (KI K a) [] E AD (AJ AT)))) (tC .non) A4)) (AN 3))
theorem Rp:type_of%(@A3 _ _ nT.eq_1):=rfl
def nU:RT:=λK a E E1=>(HH (AX K AD "taken_out") AT BP)
theorem Rq:type_of%(@A3 _ _ nU.eq_1):=rfl
def nX:RT:=λK a E E1=>(BF BP)
theorem Rv:type_of%(@A3 _ _ nX.eq_1):=rfl
def XB(K:FK)(a:Ad)(E:XE):TS:=(AK (nT K a E E) (AK (nU K a E E) (nX K a E E)))
def nY:RT:=λK a E E1=>(C5 (AR (a "Store") "ask_for_new_name" (ME K a) [] E AD (BV AT (CG (AJ AT)))))
theorem Rw:type_of%(@A3 _ _ nY.eq_1):=rfl
def nZ:RT:=λK a E E1=>(A0 (DD (QR K a) [] E (BV (AX K AD "plan") (AX K AD "book"))) (AN 2))
theorem Rx:type_of%(@A3 _ _ nZ.eq_1):=rfl
def n5:RT:=λK a E E1=>(A0 (DD (MB K a) [] E (BV (AX K AD "plan") (AX K AD "book"))) (AN 3))
theorem Ry:type_of%(@A3 _ _ n5.eq_1):=rfl
def oA:RT:=λK a E E1=>(A0 (AR (a "Hold") "change" (D1 K a) [] E (AX K AD "book") (DX (AR (a "Layout") "record_mark" (JI K a) [] E (AX K AD "plan") (AJ A4)) DH (CG BW))) (AN 4))
theorem Rz:type_of%(@A3 _ _ oA.eq_1):=rfl
def oB:RT:=λK a E E1=>(A0 (AR (a "Hold") "change" (D1 K a) [] E (AX K AD "book") (DX (AR (a "Layout") "record_at" (FU K a) [] E (AX K AD "plan") (AJ A4)) (EO (BV DH (EO BW))) (CG (AJ BX)))) (AN 5))
theorem Sb:type_of%(@A3 _ _ oB.eq_1):=rfl
def oC:RT:=λK a E E1=>(BF (CG (DX BX CY (AR (a "Store") "fill_cell" (MF K a) [] E AD (JN BP AT A4 CY)))))
theorem Sc:type_of%(@A3 _ _ oC.eq_1):=rfl
def XC(K:FK)(a:Ad)(E:XE):TS:=(AK (nY K a E E) (AK (nZ K a E E) (AK (n5 K a E E) (AK (oA K a E E) (AK (oB K a E E) (oC K a E E))))))
def oE:RT:=λK a E E1=>(C5 (AR (a "Store") "ask_for_new_name" (ME K a) [] E AD (BV A4 (CG (BV AT A4)))))
theorem Sd:type_of%(@A3 _ _ oE.eq_1):=rfl
def oF:RT:=λK a E E1=>(A0 (AR (a "Store") "record_of" (F5 K a) [] E AD (AJ AT)) (AN 3))
theorem Sg:type_of%(@A3 _ _ oF.eq_1):=rfl
def oG:RT:=λK a E E1=>(A0 (DD (MB K a) [] E (BV (AX K AD "plan") (AX K AD "book"))) (AN 4))
theorem Sh:type_of%(@A3 _ _ oG.eq_1):=rfl
def oH:RT:=λK a E E1=>(A0 (AR (a "Store") "recount" (KJ K a) [] E AD (DX BP DH (CG BW))) (AN 5))
theorem Sj:type_of%(@A3 _ _ oH.eq_1):=rfl
def oI:RT:=λK a E E1=>(BF (CG (BV CY (AR (a "Store") "fill_cell" (MF K a) [] E AD (JN BX A4 BP CY)))))
theorem Sk:type_of%(@A3 _ _ oI.eq_1):=rfl
def XD(K:FK)(a:Ad)(E:XE):TS:=(AK (oE K a E E) (AK (oF K a E E) (AK (oG K a E E) (AK (oH K a E E) (oI K a E E)))))
def oJ:RT:=λK a E E1=>(A0 (AR (a "Store") "record_of" (F5 K a) [] E AD (AJ AT)) (AN 2))
theorem Sl:type_of%(@A3 _ _ oJ.eq_1):=rfl
def oK:RT:=λK a E E1=>(A0 (AR (a "Store") "empty_cell" (MH K a) [] E AD (BV AT (CG BW))) (AN 3))
theorem Sm:type_of%(@A3 _ _ oK.eq_1):=rfl
def oM:RT:=λK a E E1=>(BF (CG (BV BP (AR (a "Store") "recount" (KJ K a) [] E AD (DX A4 (ON TR DH) (CG (AJ BP)))))))
theorem Sq:type_of%(@A3 _ _ oM.eq_1):=rfl
def oN:RT:=λK a E E1=>(B1 (CK (AG O6 (DI K (AR (a "Store") "standing" (FG K a) [] E AD (AJ A4)) 0) DH)) (oM K a E E) CQ)
theorem Sv:type_of%(@A3 _ _ oN.eq_1):=rfl
def oO:RT:=λK a E E1=>(BF (AG (BS K) (CG (AJ BP)) (AR (a "Store") "drop_record" (Q0 K a) [] E AD (BV A4 BP))))
theorem Sw:type_of%(@A3 _ _ oO.eq_1):=rfl
def XF(K:FK)(a:Ad)(E:XE):TS:=(AK (oJ K a E E) (AK (oK K a E E) (AK (oN K a E E) (oO K a E E))))
def oP:RT:=λK a E E1=>(A0 (AR (a "Store") "record_of" (F5 K a) [] E AD (AJ AT)) (AN 3))
theorem Sx:type_of%(@A3 _ _ oP.eq_1):=rfl
def oQ:RT:=λK a E E1=>(GT (a "NoPiece") E (AJ (tC (.str "the text is none of a piece"))))
theorem Sy:type_of%(@A3 _ _ oQ.eq_1):=rfl
def oR:RT:=λK a E E1=>(B1 (GJ (LV K (DD (QW K a) [] E (AJ A4)))) (oQ K a E E) CQ)
theorem Sz:type_of%(@A3 _ _ oR.eq_1):=rfl
def oU:RT:=λK a E E1=>(A0 (DD (QS K a) [] E (BV (AX K AD "plan") (AX K AD "book"))) (AN 4))
theorem Tb:type_of%(@A3 _ _ oU.eq_1):=rfl
def oV:RT:=λK a E E1=>(A0 (AR (a "Hold") "change" (D1 K a) [] E (AX K AD "book") (DX (AR (a "Layout") "piece_mark" (HL K a) [] E (AX K AD "plan") (AJ BX)) DH (CG BW))) (AN 5))
theorem Tc:type_of%(@A3 _ _ oV.eq_1):=rfl
def oW:RT:=λK a E E1=>(A0 (AR (a "Hold") "change" (D1 K a) [] E (AX K AD "book") (DX (AR (a "Layout") "piece_at" (JH K a) [] E (AX K AD "plan") (AJ BX)) A4 (CG (AJ CY)))) (AN 6))
theorem Td:type_of%(@A3 _ _ oW.eq_1):=rfl
def oX:RT:=λK a E E1=>(BF (CG (DX CY FH (AR (a "Store") "regroup" (MG K a) [] E AD (DX BP (AG (BS K) (DI K (AR (a "Store") "standing" (FG K a) [] E AD (AJ BP)) 1) (EO (AJ BX))) (CG (AJ FH)))))))
theorem Tg:type_of%(@A3 _ _ oX.eq_1):=rfl
def XG(K:FK)(a:Ad)(E:XE):TS:=(AK (oP K a E E) (AK (oR K a E E) (AK (oU K a E E) (AK (oV K a E E) (AK (oW K a E E) (oX K a E E))))))
def oY:RT:=λK a E E1=>(A0 (AR (a "Store") "record_of" (F5 K a) [] E AD (AJ AT)) (AN 3))
theorem Th:type_of%(@A3 _ _ oY.eq_1):=rfl
def oZ:RT:=λK a E E1=>(A0 (DI K (AR (a "Store") "standing" (FG K a) [] E AD (AJ BP)) 1) (AN 4))
theorem Tj:type_of%(@A3 _ _ oZ.eq_1):=rfl
def o0:RT:=λK a E E1=>(GT (a "NoPiece") E (AJ (tC (.str "the record has no piece at that place"))))
theorem Tk:type_of%(@A3 _ _ o0.eq_1):=rfl
def o5:RT:=λK a E E1=>(B1 (GJ (CK (GL EZ F2 FW A4 (DE (FS K) (AJ BX))))) (o0 K a E E) CQ)
theorem Tl:type_of%(@A3 _ _ o5.eq_1):=rfl
def o6:RT:=λK a E E1=>(A0 (AR (a "Store") "regroup" (MG K a) [] E AD (DX BP (AG (BS K) (KR (KB K) BX LO (JZ A4)) (KR (KB K) BX (JZ (AG (BS K) A4 DH)) LO)) (CG BW))) (AN 5))
theorem Tm:type_of%(@A3 _ _ o6.eq_1):=rfl
def o7:RT:=λK a E E1=>(BF (CG (BV CY (AR (a "Hold") "change" (D1 K a) [] E (AX K AD "book") (DX (AR (a "Layout") "piece_mark" (HL K a) [] E (AX K AD "plan") (AJ (AG (CP K) BX A4))) FW (CG (AJ CY)))))))
theorem Tp:type_of%(@A3 _ _ o7.eq_1):=rfl
def XH(K:FK)(a:Ad)(E:XE):TS:=(AK (oY K a E E) (AK (oZ K a E E) (AK (o5 K a E E) (AK (o6 K a E E) (o7 K a E E)))))
def o8:RT:=λK a E E1=>(A0 (DI K (AR (a "Store") "standing" (FG K a) [] E AD (AJ (AR (a "Store") "record_of" (F5 K a) [] E AD (AJ AT)))) 1) (AN 2))
theorem Tq:type_of%(@A3 _ _ o8.eq_1):=rfl
def o9:RT:=λK a E E1=>(BF (EQ (FR K A4) (AN 0) DO (AR (a "Hold") "in_hand" (II K a) [] (λ_=>E0) (AX K AT "book") (AJ (AR (a "Layout") "piece_at" (JH K a) [] (λ_=>E0) (AX K AT "plan") (AJ AD)))) 1 [0]))
theorem Tv:type_of%(@A3 _ _ o9.eq_1):=rfl
def XI(K:FK)(a:Ad)(E:XE):TS:=(AK (o8 K a E E) (o9 K a E E))
def pA:RT:=λK a E E1=>(A0 (AR (a "Store") "link" (MI K a) [] E AD (BV AT A4)) (AN 3))
theorem Tw:type_of%(@A3 _ _ pA.eq_1):=rfl
def pB:RT:=λK a E E1=>(A0 (AR (a "Store") "record_of" (F5 K a) [] E AD (AJ AT)) (AN 4))
theorem Tx:type_of%(@A3 _ _ pB.eq_1):=rfl
def pC:RT:=λK a E E1=>(A0 (AR (a "Store") "empty_cell" (MH K a) [] E AD (BV AT (CG (AJ (DI K BP 1))))) (AN 5))
theorem Ty:type_of%(@A3 _ _ pC.eq_1):=rfl
def pD:RT:=λK a E E1=>(BF (AG (BS K) BP (CG (BV CY (AR (a "Store") "recount" (KJ K a) [] E AD (DX BX (ON TR DH) (CG (AJ CY))))))))
theorem Tz:type_of%(@A3 _ _ pD.eq_1):=rfl
def XJ(K:FK)(a:Ad)(E:XE):TS:=(AK (pA K a E E) (AK (pB K a E E) (AK (pC K a E E) (pD K a E E))))
def pE:RT:=λK a E E1=>(HH (IB A4 BX) (IB AT BX) (tC (.bl true)))
theorem Ub:type_of%(@A3 _ _ pE.eq_1):=rfl
def pF:RT:=λK a E E1=>(C5 (GR K "list" KC (AG (CP K) BP (IB AT BX)) (AJ (AR (a "Store") "texts" (Q4 K a) [] E AD (AJ BX)))))
theorem Uc:type_of%(@A3 _ _ pF.eq_1):=rfl
def pG:RT:=λK a E E1=>(PQ AT (AN 4) (AK (pE K a E E) (pF K a E E)))
theorem Ud:type_of%(@A3 _ _ pG.eq_1):=rfl
def XL(K:FK)(a:Ad)(E:XE):TS:=(pG K a E E)
def pH:RT:=λK a E E1=>(A0 (tC (.str "")) (AN 5))
theorem Ug:type_of%(@A3 _ _ pH.eq_1):=rfl
def pJ:RT:=λK a E E1=>(C5 (AR (a "Store") "make" (Q1 K a) [] E1 AD (AJ A4)))
theorem Uh:type_of%(@A3 _ _ pJ.eq_1):=rfl
def pK:RT:=λK a E E1=>(C5 (AR (a "Store") "link" (MI K a) [] E1 AD (BV A4 BP)))
theorem Uj:type_of%(@A3 _ _ pK.eq_1):=rfl
def pL:RT:=λK a E E1=>(C5 (AR (a "Store") "cut" (Q2 K a) [] E1 AD (AJ A4)))
theorem Uk:type_of%(@A3 _ _ pL.eq_1):=rfl
def pM:RT:=λK a E E1=>(C5 (AR (a "Store") "put" (Q3 K a) [] E1 AD (BV A4 (DD (Q8 K a) [] E1 (AJ BX)))))
theorem Ul:type_of%(@A3 _ _ pM.eq_1):=rfl
def pN:RT:=λK a E E1=>(C5 (AR (a "Store") "take" (Q5 K a) [] E1 AD (BV A4 (DD (Q9 K a) [] E1 (AJ BX)))))
theorem Um:type_of%(@A3 _ _ pN.eq_1):=rfl
def pO:RT:=λK a E E1=>(C5 (AR (a "Store") "move" (Q6 K a) [] E1 AD (BV A4 BP)))
theorem Up:type_of%(@A3 _ _ pO.eq_1):=rfl
def pP:RT:=λK a E E1=>(B1 (CK (AG (FE K) AT RA)) (pN K a E E1) (pO K a E E1))
theorem Uq:type_of%(@A3 _ _ pP.eq_1):=rfl
def pQ:RT:=λK a E E1=>(B1 (CK (AG F2 AT RA)) (pM K a E E1) (pP K a E E1))
theorem Uv:type_of%(@A3 _ _ pQ.eq_1):=rfl
def pR:RT:=λK a E E1=>(B1 (CK (AG (FE K) AT GH)) (pL K a E E1) (pQ K a E E1))
theorem Uw:type_of%(@A3 _ _ pR.eq_1):=rfl
def pT:RT:=λK a E E1=>(B1 (CK (AG (FE K) AT LC)) (pK K a E E1) (pR K a E E1))
theorem Ux:type_of%(@A3 _ _ pT.eq_1):=rfl
def pU:RT:=λK a E E1=>(B1 (CK (AG F2 AT LC)) (pJ K a E E1) (pT K a E E1))
theorem Uy:type_of%(@A3 _ _ pU.eq_1):=rfl
def XM:RT:=λK a E E1=>(A0 (tC (.str "NoRoom")) (AN 5))
theorem Uz:type_of%(@A3 _ _ XM.eq_1):=rfl
def XN:RT:=λK a E E1=>(A0 (tC (.str "NoPiece")) (AN 5))
theorem Vb:type_of%(@A3 _ _ XN.eq_1):=rfl
def XO:RT:=λK a E E1=>(A0 (tC (.str "Twice")) (AN 5))
theorem Vc:type_of%(@A3 _ _ XO.eq_1):=rfl
def XQ:RT:=λK a E E1=>(A0 (tC (.str "NoName")) (AN 5))
theorem Vd:type_of%(@A3 _ _ XQ.eq_1):=rfl
def pV:RT:=λK a E E1=>(TM (λE1=>(pU K a E E1)) (JE (λcls=>W.exmOne K cls (.ref (a "NoName"))) (XQ K a E E) (JE (λcls=>W.exmOne K cls (.ref (a "Twice"))) (XO K a E E) (JE (λcls=>W.exmOne K cls (.ref (a "NoPiece"))) (XN K a E E) (JE (λcls=>W.exmOne K cls (.ref (a "NoRoom"))) (XM K a E E) TK)))))
theorem Vg:type_of%(@A3 _ _ pV.eq_1):=rfl
def NX:RT:=λK a E E1=>(BF CY)
theorem pW:type_of%(@A3 _ _ NX.eq_1):=rfl
def XR(K:FK)(a:Ad)(E:XE):TS:=(AK (pH K a E E) (AK (pV K a E E) (NX K a E E)))
def pX:RT:=λK a E E1=>(A0 (DD (L9 K a) [] E (BV AD FW)) (AN 1))
theorem Vh:type_of%(@A3 _ _ pX.eq_1):=rfl
def pY:RT:=λK a E E1=>(A0 (JX (a "Layout") (QC K a) [] E (JN (AG (BS K) DH (AG C6 AT GH)) (AG (BS K) DH (AG C6 (AG DF AT GH) GH)) (AG (BS K) DH (AG C6 (AG DF AT Gb) GH)) (AG (BS K) DH (AG C6 (AG DF AT (DB 27)) gI)))) (AN 2))
theorem Vj:type_of%(@A3 _ _ pY.eq_1):=rfl
def pZ:RT:=λK a E E1=>(A0 (AR (a "Layout") "plank" (QD K a) [] E A4 BW) (AN 3))
theorem Vk:type_of%(@A3 _ _ pZ.eq_1):=rfl
def p0:RT:=λK a E E1=>(A0 (JX (a "Store") (QY K a) [] E (BV A4 BP)) (AN 4))
theorem Vl:type_of%(@A3 _ _ p0.eq_1):=rfl
def p5:RT:=λK a E E1=>(A0 (DD (Q7 K a) [] E (AJ (AG DF AT (DB 108)))) (AN 5))
theorem Vm:type_of%(@A3 _ _ p5.eq_1):=rfl
def p6:RT:=λK a E E1=>(A0 JB (AN 6))
theorem Vp:type_of%(@A3 _ _ p6.eq_1):=rfl
def p7:RT:=λK a E E1=>(HH FH MM JB)
theorem Vq:type_of%(@A3 _ _ p7.eq_1):=rfl
def p8:RT:=λK a E E1=>(EH (FR K CY) (AN 7) (p7 K a E E))
theorem Vv:type_of%(@A3 _ _ p8.eq_1):=rfl
def p9:RT:=λK a E E1=>(A0 JB (AN 8))
theorem Vw:type_of%(@A3 _ _ p9.eq_1):=rfl
def qA:RT:=λK a E E1=>(A0 (CG BW) (AN 9))
theorem Vx:type_of%(@A3 _ _ qA.eq_1):=rfl
def qB:RT:=λK a E E1=>(C5 (AR (a "Store") "write" (MJ K a) [] E BX (AJ (AG C6 (AG DF AT GH) (AR (a "Layout") "blocks" (JJ K a) [] E A4 BW)))))
theorem Vy:type_of%(@A3 _ _ qB.eq_1):=rfl
def Vz:RT:=λK a E E1=>(BF (tC (.bl false)))
def qC:RT:=λK a E E1=>(B1 (GJ (LV K (DD (ML K a) [] E (JN A4 (DD (MK K a) [] E (BV A4 BP)) FH MN)))) (Vz K a E E) CQ)
theorem Wb:type_of%(@A3 _ _ qC.eq_1):=rfl
def qD:RT:=λK a E E1=>R8
theorem Wc:type_of%(@A3 _ _ qD.eq_1):=rfl
def qE:RT:=λK a E E1=>(B1 (CK (AG (FE K) (AG C6 AT GH) FW)) (AK (qB K a E E) (AK (qC K a E E) (qD K a E E))) CQ)
theorem Wd:type_of%(@A3 _ _ qE.eq_1):=rfl
def qF:RT:=λK a E E1=>(A0 (AG C6 (AG DF AT GH) U0) (AN 10))
theorem Wg:type_of%(@A3 _ _ qF.eq_1):=rfl
def qG:RT:=λK a E E1=>(A0 (AG (CP K) CY (AG C6 (AG DF AT (DB 24)) NU)) (AN 11))
theorem Wh:type_of%(@A3 _ _ qG.eq_1):=rfl
def qH:RT:=λK a E E1=>(A0 (AG (CP K) CY (AG C6 (AG DF AT (DB 120)) NU)) (AN 12))
theorem Wj:type_of%(@A3 _ _ qH.eq_1):=rfl
def qI:RT:=λK a E E1=>(C5 (GR K "list" KC MN (AJ (CG BW))))
theorem Wk:type_of%(@A3 _ _ qI.eq_1):=rfl
def qJ:RT:=λK a E E1=>(B1 (CK (AG F2 U1 LC)) (qI K a E E) CQ)
theorem Wl:type_of%(@A3 _ _ qJ.eq_1):=rfl
def XS:RT:=λK a E E1=>(C5 (DD (NS K a) [] E (DM NW (JN U1 gJ gK (AG NE (DE (FS K) (AJ MN)) DH)))))
theorem Wm:type_of%(@A3 _ _ XS.eq_1):=rfl
def XT:RT:=λK a E E1=>(C5 (DD (NT K a) [] E (JN BX NW FH MN)))
theorem Wp:type_of%(@A3 _ _ XT.eq_1):=rfl
def qK:RT:=λK a E E1=>(B1 (CK (AG (FE K) (DD (NR K a) [] E (DM BX (JN U1 gJ gK (AG DF AT (DB 600))))) (tC (.str "")))) (AK (qJ K a E E) (AK (XS K a E E) (XT K a E E))) CQ)
theorem Wq:type_of%(@A3 _ _ qK.eq_1):=rfl
def qL:RT:=λK a E E1=>(EH (FR K (KR (KB K) AD (JZ DH) (JZ (DB 64)))) (AN 1) (AK (qE K a E E) (AK (qF K a E E) (AK (qG K a E E) (AK (qH K a E E) (qK K a E E))))))
theorem Wv:type_of%(@A3 _ _ qL.eq_1):=rfl
def qM:RT:=λK a E E1=>(C5 (AR (a "Store") "write" (MJ K a) [] E BX (AJ Gc)))
theorem Ww:type_of%(@A3 _ _ qM.eq_1):=rfl
def Wx:RT:=λK a E E1=>(BF (tC (.bl false)))
def qN:RT:=λK a E E1=>(B1 (GJ (LV K (DD (ML K a) [] E (JN A4 (DD (MK K a) [] E (BV A4 BP)) FH MN)))) (Wx K a E E) CQ)
theorem Wy:type_of%(@A3 _ _ qN.eq_1):=rfl
def qO:RT:=λK a E E1=>(EH (FM (AJ (AR (a "Layout") "blocks" (JJ K a) [] E A4 BW))) (AN 13) (AK (qM K a E E) (qN K a E E)))
theorem Wz:type_of%(@A3 _ _ qO.eq_1):=rfl
def qP:RT:=λK a E E1=>(BF (tC (.bl true)))
theorem Xb:type_of%(@A3 _ _ qP.eq_1):=rfl
def XU(K:FK)(a:Ad)(E:XE):TS:=(AK (pX K a E E) (AK (pY K a E E) (AK (pZ K a E E) (AK (p0 K a E E) (AK (p5 K a E E) (AK (p6 K a E E) (AK (p8 K a E E) (AK (p9 K a E E) (AK (qA K a E E) (AK (qL K a E E) (AK (qO K a E E) (qP K a E E))))))))))))
end
end L2
namespace L2
local macro_rules
 | `(tactic| push_cast[$ls,*])=>`(tactic| simp only[↓xO,↓xP,↓xQ,↓xR,↓xS,↓xT,↓xU,↓xV,↓xW,↓xX,↓xY,↓xZ,↓x4,↓x5,↓x6,↓x8,↓x9,↓yA,↓yB,↓yC,↓yD,↓yE,↓yF,↓yG,↓yH,↓yI,↓yJ,↓yK,↓yL,↓yM,↓yN,↓yO,↓yP,↓yQ,↓yR,↓yS,↓yT,↓yU,↓yV,↓yW,↓yX,↓yY,↓yZ,↓zA,↓zB,
     ↓zC,↓zD,↓zF,↓zG,↓zH,↓zI,↓zJ,↓zK,↓TY,↓zO,↓zQ,↓zP,↓zR,↓dO,↓zS,↓zT,↓zU,↓zM,↓zL,↓zN,↓zV,↓zW,↓zX,↓zY,↓zZ,↓z6,↓z7,↓z8,↓dP,↓z9,
     NE,C6,DF,xF,TR,xG,Ends.drop,start,List.map_cons,List.map_nil,List.length_cons,List.length_nil,List.reduceReplicate,Nat.reduceAdd,Nat.reduceSub,Nat.zero_add,List.cons_append,List.nil_append,List.append_nil,List.getElem?_cons_zero,List.getElem?_cons_succ,Option.some.injEq,Option.join_some,List.set_cons_zero,List.set_cons_succ,
     V.int.injEq,V.ref.injEq,V.bl.injEq,V.str.injEq,List.cons.injEq,and_true,true_and,exists_eq_left',exists_eq_left,exists_eq',exists_eq,exists_and_left,exists_and_right,reduceCtorEq,false_and,and_false,or_false,false_or,exists_false,decide_eq_true_eq,Bool.not_eq_true',Bool.not_eq_true,decide_eq_false_iff_not,eq_self_iff_true,if_true,Bool.false_eq_true,if_false,ite_true,Bool.true_eq_false,forall_const,and_assoc,Int.reduceToNat,Int.reduceLT,Int.reduceLE,Int.reduceEq,Nat.reduceLeDiff,Int.toNat_natCast,not_true_eq_false,not_false_eq_true,Bool.not_false,Bool.not_true,↓Cv,↓Cw,↓Cy,↓Cz,↓Db,↓Dc,↓Dg,↓Dh,↓Dj,↓Cq,↓El,↓Eb,↓Ek,↓Al,↓Ak,$ls,*])
section
variable{K:W.Frag}{a:Ad}{vs:List V}{H:Hp}{Q:VK}{E:XK}
theorem Xc(h:L9 K a vs H Q E):VQ K a (λ_=>E) (A9 Q) (start ["script","k"] vs) H:=by
 obtain⟨s,ns,k,rfl,hs,hl,q⟩:=h
 push_cast[VQ,↓Hk,↓Hl,↓Hm]
 refine⟨ns.length,?_,?_⟩
 ·exact .inl ⟨_,hs,(List.length_map _).symm⟩
 split
 ·rename_i hk
  have hk:k<ns.length:=by omega
  refine FF hs rfl (v:=.int (K9 ns k)) ?_ q
  unfold K9
  rw[List.getElem?_map,List.getElem?_eq_getElem hk]
  simp[List.getD,hk]
 ·rename_i hk
  have:K9 ns k=0:=by
   unfold K9
   rw[List.getD_eq_getElem?_getD,List.getElem?_eq_none (by omega)];rfl
  rw[this]at q
  exact q
theorem Xd(h:PU K a vs H Q E):VH K a (λ_=>E) (A9 Q) (start ["self","blocks","cells"] vs) H:=by
 obtain⟨p,dx,m,w,rfl,T,hp,hm,h1,h2,q⟩:=h
 push_cast[VH,↓Gm,↓Gp,↓Gq]
 refine⟨by omega,by omega,?_⟩
 refine NH (CM m (by omega)) (λi ys H'=>Same H H'/\∃ ts:List Addr,ys=ts.map V.ref/\Paired (λt r=>H' t=some (.tup r)) ts (List.replicate i (List.replicate w .non))) ⟨Same.refl _,[],rfl,.nil⟩ (λi ys H' hi hl hzz=> ?_) (λys H' hl ⟨s,ts,e,P⟩ cl A8=> ?_)
 ·obtain⟨s,ts,e,P⟩:=hzz
  push_cast[EI,Option.join_some,Int.zero_add]
  refine⟨by decide,λt ht=>.inr ?_⟩
  have fin:∀ (t':Addr) (H2:Hp),Same H' H2->H2 t'=some (.tup (List.replicate w .non))->Same H H2/\∃ ts':List Addr,ys++[V.ref t']=ts'.map V.ref/\Paired (λt r=>H2 t=some (.tup r)) ts' (List.replicate (i+1) (List.replicate w .non)):=λt' H2 s2 e2=>by
   refine⟨s.trans s2,ts++[t'],by rw[e,List.map_append];rfl,?_⟩
   rw[List.replicate_succ']
   exact Paired.snoc (Paired.mapP P λt r z=>s2 _ _ z) e2
  have s1:Same H' (upd H' t (.tup [V.non])):=λb o z=>by rw[AF (BM z ht)];exact z
  refine⟨t,w,[.non],rfl,rfl,SqT.of AE,by simp,by omega,by omega,CM _ (by simp;omega),λe1=> ?_,λe1 u hu=> ?_⟩
  ·have e1:w=1:=by omega
   refine fin t _ s1 ?_
   rw[AE,e1];rfl
  ·rw[Int.toNat_natCast,dR]
   exact fin u _ (s1.trans λb o z=>by rw[AF (BM z hu)];exact z) AE
 ·have npc:p≠cl:=BM (s _ _ hp) A8
  have e1:upd H' cl (HO.lst ys) p=some (HO.ins (a "Plank") dx []):=by rw[AF npc];exact s _ _ hp
  refine⟨_,_,_,e1,T.cl,T.nC,by decide,_,_,_,AE,T.cl,T.nW,JF (by decide),_,_,_,AE,T.cl,T.nN,JF (n:=1000) (Nat.succ_lt_succ (JF (n:=999) (by decide))),?_⟩
  rw[Ev,HC,HC]
  refine q cl _ (s.free A8) ⟨⟨dx,AE⟩,⟨ts,by rw[AF npc.symm,AE,e],?_⟩,λr hr=> ?_,by simpa using hm,h2⟩ λb o eb hb=> ?_
  ·refine Paired.mapP P λt r z=> ?_
   rw[AF (BD z (s _ _ hp) (by intro z';cases z')),AF (BM z A8)]
   exact z
  ·rw[List.eq_of_mem_replicate hr,List.length_replicate]
  ·rw[AF hb,AF (BM (s _ _ eb) A8)]
   exact s _ _ eb
theorem Xg(h:L0 K a vs H Q E):VI K a (λ_=>E) (A9 Q) (start ["self"] vs) H:=by
 obtain⟨p,cl,w,rows,n,rfl,T,P,q⟩:=h
 obtain⟨dx,h1⟩:=P.ob
 obtain⟨ts,h2,h3⟩:=P.ls
 push_cast[VI,↓Gv]
 refine⟨_,_,_,h1,T.cl,T.nC,_,PR _ _ _,rows.length,.inl ⟨_,SqL.of h2,?_⟩,q⟩
 rw[List.length_map,h3.length]
theorem Xh(h:PY K a vs H Q E):VJ K a (λ_=>E) (A9 Q) (start ["self"] vs) H:=by
 obtain⟨p,cl,w,rows,n,rfl,T,P,q⟩:=h
 obtain⟨dx,h1⟩:=P.ob
 push_cast[VJ,↓Gw]
 exact⟨_,_,_,h1,T.cl,T.nW,_,fK _ _ _,q⟩
theorem Xj(h:KD K a vs H Q E):VL K a (λ_=>E) (A9 Q) (start ["self","block"] vs) H:=by
 obtain⟨p,cl,w,rows,n,b,rfl,T,P,q,qe⟩:=h
 obtain⟨dx,h1⟩:=P.ob
 obtain⟨ts,h2,h3⟩:=P.ls
 push_cast[VL,↓Gx,↓Gy]
 have hl:rows.length=(ts.map V.ref).length:=by rw[List.length_map,h3.length]
 split
 ·rename_i h0
  refine⟨_,_,_,h1,T.cl,T.nC,_,PR _ _ _,rows.length,.inl ⟨_,SqL.of h2,hl⟩,?_⟩
  split
  ·exact⟨by decide,qe (by omega)⟩
  ·exact q h0 (by omega)
 ·exact⟨by decide,qe (by omega)⟩
theorem qQ(cl:Addr)(w n:Int):(pf cl w n).lookup ("ask_for_block":Str)=none:=LZ _ _ _ (by decide +kernel) (by decide +kernel) (by decide +kernel)
theorem Xk(h:KE K a vs H Q E):WF K a (λ_=>E) (A9 Q) (start ["self","block"] vs) H:=by
 obtain⟨p,cl,w,rows,n,b,rfl,T,P,q,qe⟩:=h
 obtain⟨dx,h1⟩:=P.ob
 obtain⟨ts,h2,h3⟩:=P.ls
 push_cast[WF,↓Kw,↓Kx,KD]
 refine⟨_,_,h1,qQ _ _ _,T,cl,w,rows,⟨n,P⟩,λh0 hb=>⟨_,_,_,h1,T.cl,T.nC,_,PR _ _ _,?_⟩,qe⟩
 obtain⟨i,rfl⟩:∃ i:Nat,b=i:=⟨b.toNat,by omega⟩
 have hi:i<rows.length:=by omega
 obtain⟨t,et,ht⟩:=K3 h3 (List.getElem?_eq_getElem hi)
 refine FF (SqL.of h2) rfl (v:=.ref t) (by rw[List.getElem?_map,et];rfl) ?_
 rw[dP]
 exact⟨_,.inr (SqT.of ht),q i _ rfl (List.getElem?_eq_getElem hi)⟩
theorem Xl(h:PZ K a vs H Q E):WG K a (λ_=>E) (A9 Q) (start ["self","block","values"] vs) H:=by
 obtain⟨p,cl,w,rows,n,b,v,xs,rfl,T,P,hv,hx,q,qe⟩:=h
 obtain⟨dx,h1⟩:=P.ob
 obtain⟨ts,h2,h3⟩:=P.ls
 have npc:=P.ne
 push_cast[WG,↓Ky,↓Kz,↓Lb,↓Lc,↓Lh,KD]
 refine⟨_,_,h1,qQ _ _ _,T,cl,w,rows,⟨n,P⟩,λh0 hb=>⟨xs.length,.inl ⟨_,hv,rfl⟩,_,_,_,h1,T.cl,T.nW,_,fK _ _ _,?_⟩,λz=>qe (z.imp id .inl)⟩
 obtain⟨i,rfl⟩:∃ i:Nat,b=i:=⟨b.toNat,by omega⟩
 have hi:i<rows.length:=by omega
 push_cast[]
 split
 ·exact⟨by decide,qe (.inr (.inr (by omega)))⟩
 ·rename_i hw
  have hw:xs.length=w:=by omega
  refine⟨xs,.inl ⟨hv,λt ht=> ?_⟩⟩
  have ntp:p≠t:=BM h1 ht
  have ntc:cl≠t:=BM h2 ht
  refine⟨_,_,_,by rw[AF ntp];exact h1,T.cl,T.nC,_,PR _ _ _,?_⟩
  refine⟨cl,ts.map V.ref,(i:Int),i,rfl,rfl,by rw[AF ntc];exact h2,?_,?_⟩
  ·unfold IW
   rw[if_pos (by omega),if_pos (by rw[List.length_map,h3.length];omega),Int.toNat_natCast]
  ·refine⟨_,_,_,by rw[AF npc,AF ntp];exact h1,T.cl,T.nN,_,Ep _ _ _,?_⟩
   push_cast[]
   refine⟨_,_,by rw[AF npc,AF ntp];exact h1,by show 3<1000;decide,?_⟩
   rw[Ew]
   refine q i rfl hi hw _ ⟨⟨dx,AE⟩,⟨ts.set i t,?_,?_⟩,λr hr=> ?_,by rw[List.length_set];exact P.sz,P.sw⟩ λx o ex hxn=> ?_
   ·rw[AF npc.symm,AE,List.map_set]
   ·have keep:∀ u r,H u=some (.tup r)->upd (upd (upd H t (.tup xs)) cl (.lst ((ts.map V.ref).set i (.ref t)))) p (.ins (a "Plank") dx (pf cl w ((n:Int)+1))) u=some (.tup r):=λu r hu=>by
     rw[AF (BD hu h1 (by intro z;cases z)),AF (BD hu h2 (by intro z;cases z)),AF (BM hu ht)]
     exact hu
    refine dQ ?_ i (Paired.mapP h3 keep)
    rw[AF ntp.symm,AF ntc.symm,AE]
   ·rcases List.mem_or_eq_of_mem_set hr with z | z
    ·exact P.wd r z
    ·rw[z];exact hw
   ·have hxn:x≠p/\x≠cl:=⟨λz=>hxn (.inl z),λz=>hxn (.inr z)⟩
    rw[AF hxn.1,AF hxn.2,AF (BM ex ht)]
    exact ex
theorem XV(cl:Addr)(w n:Int):(pf cl w n).lookup ("read":Str)=none:=LZ _ _ _ (by decide +kernel) (by decide +kernel) (by decide +kernel)
theorem Xm(cl:Addr)(w n:Int):(pf cl w n).lookup ("write":Str)=none:=LZ _ _ _ (by decide +kernel) (by decide +kernel) (by decide +kernel)
theorem FI{f:Str}{v:V}{fs:List (Str × V)}{n:Nat}(h:fs.length<n):(A7 f v fs).length<n+1:=Nat.lt_of_le_of_lt (M9 f v fs) (Nat.succ_lt_succ h)
theorem SameBut.none{b:Addr}{H H1:Hp}{x:Addr}(s:SameBut (· =b) H H1)(hb:H1 b≠Option.none)(h:H1 x=Option.none):H x=Option.none:=by
 cases e:H x with
 | none=>rfl
 | some o =>
  have:x≠b:=λz=>hb (z ▸ h)
  rw[s _ _ e this]at h
  cases h
theorem Xp(h:QF K a vs H Q E):U2 K a (λ_=>E) (A9 Q) (start ["self","place","value","needs"] vs) H:=by
 obtain⟨x,dx,pl,v,nt,rfl,T,hx,q⟩:=h
 push_cast[U2,↓Gd,↓Gg,↓Gh]
 refine⟨_,_,_,hx,T.cc,T.nP,by decide,_,_,_,AE,T.cc,T.nV,FI (n:=999) (by decide),_,_,_,AE,T.cc,T.nN,FI (n:=999) (FI (n:=998) (by decide)),?_⟩
 rw[Fg,HC,HC]
 exact q
theorem Xq(h:NP K a vs H Q E):V0 K a (λ_=>E) (A9 Q) (start ["self","plank"] vs) H:=by
 obtain⟨b,gp,cl,dx,w,rows,n,rfl,T,TP,P,hb,q⟩:=h
 push_cast[V0,↓Kh,↓Kj,↓Kk,↓Kl,↓Km]
 refine⟨_,_,_,hb,T.cl,T.nG,by decide,by decide,?_⟩
 have e1:upd H b (.ins (E5 a) dx (A7 "ground" (.ref gp) [])) b=some (.ins (E5 a) dx (A7 "ground" (.ref gp) [])):=AE
 have s1:SameBut (· =b) H (upd H b (.ins (E5 a) dx (A7 "ground" (.ref gp) []))):=λx o e n=>by rw[AF n];exact e
 revert e1 s1
 generalize upd H b (.ins (E5 a) dx (A7 "ground" (.ref gp) []))=H1
 intro e1 s1 m hm
 have nbm:b≠m:=BM e1 hm
 have hmH:=s1.none (by rw[e1];intro z;cases z) hm
 refine⟨_,_,_,by rw[AF nbm];exact e1,T.cl,T.nM,FI (n:=999) (by decide),?_⟩
 have s2:SameBut (· =b) H (upd (upd H1 m (.lst [])) b (.ins (E5 a) dx (A7 "made" (.ref m) (A7 "ground" (.ref gp) [])))):=(s1.upd (.inr hmH)).upd (.inl rfl)
 have e2:upd (upd H1 m (.lst [])) b (.ins (E5 a) dx (A7 "made" (.ref m) (A7 "ground" (.ref gp) []))) b=some (.ins (E5 a) dx (A7 "made" (.ref m) (A7 "ground" (.ref gp) []))):=AE
 have m2:upd (upd H1 m (.lst [])) b (.ins (E5 a) dx (A7 "made" (.ref m) (A7 "ground" (.ref gp) []))) m=some (.lst []):=by rw[AF nbm.symm,AE]
 revert s2 e2 m2
 generalize upd (upd H1 m (.lst [])) b (.ins (E5 a) dx (A7 "made" (.ref m) (A7 "ground" (.ref gp) [])))=H2
 intro s2 e2 m2
 have gb:∀ x xs,(· =b) x->H x≠some (.tup xs):=λx xs e=>by rw[show x=b from e,hb];intro z;cases z
 have ncl:¬ cl=b:=by obtain⟨ts,z,_⟩:=P.ls;exact BD z hb (by intro z;cases z)
 have P2:PlankAt a H2 gp cl w rows n:=by
  obtain⟨⟨dx',f1⟩,⟨ts,f2,f3⟩,r1,r2,r3⟩:=P
  exact⟨⟨dx',s2 _ _ f1 (BD f1 hb (L3 (by simp[pf])))⟩,⟨ts,s2 _ _ f2 (BD f2 hb (by intro z;cases z)),Paired.mapP f3 λt r z=>s2 _ _ z (BD z hb (by intro z;cases z))⟩,r1,r2,r3⟩
 obtain⟨dp,hp⟩:=P2.ob
 refine⟨_,_,hp,LZ _ _ _ (by decide +kernel) (by decide +kernel) (by decide +kernel),gp,cl,w,rows,n,rfl,TP,P2,rows.length,rfl,by omega,by have:=P.sz;omega,?_⟩
 rw[Int.toNat_natCast]
 refine NH (CM _ (by have:=P.sz;omega)) (λi ys H'=>Same H2 H'/\∃ ls:List Addr,ys=ls.map V.ref/\ls.Nodup/\∀ l∈ls,H' l=some (.lst [])/\H2 l=none) ⟨Same.refl _,[],rfl,List.nodup_nil,by simp⟩ (λi ys H' hi hl hzz=> ?_) (λys H' hl ⟨s,ls,ey,nd,al⟩ mi G9=> ?_)
 ·obtain⟨s,ls,ey,nd,al⟩:=hzz
  push_cast[]
  refine⟨by decide,λl hl'=>⟨s.trans (AO hl'),ls++[l],by rw[ey,List.map_append];rfl,?_,λx hx=> ?_⟩⟩
  ·exact List.nodup_append.mpr ⟨nd,by simp,λx hx y hy e=>by rw[List.mem_singleton]at hy;subst hy;subst e;rw[(al _ hx).1]at hl';cases hl'⟩
  ·rcases List.mem_append.mp hx with hx | hx
   ·exact⟨AO hl' _ _ (al x hx).1,(al x hx).2⟩
   ·rw[List.mem_singleton.mp hx];exact⟨AE,s.free hl'⟩
 ·have s3:SameBut (· =b) H (upd H' mi (.lst ys)):=by
   intro x o e nx
   have e':=s _ _ (s2 _ _ e nx)
   rw[AF (BM e' G9)];exact e'
  have e3:upd H' mi (.lst ys) b=some (.ins (E5 a) dx (A7 "made" (.ref m) (A7 "ground" (.ref gp) []))):=by rw[AF (BM (s _ _ e2) G9)];exact s _ _ e2
  have m3:upd H' mi (.lst ys) m=some (.lst []):=by rw[AF (BM (s _ _ m2) G9)];exact s _ _ m2
  have i3:upd H' mi (.lst ys) mi=some (.lst (ls.map V.ref)):=by rw[AE,ey]
  have l3:∀ l∈ls,upd H' mi (.lst ys) l=some (.lst [])/\H l=none/\l≠mi/\l≠m:=λl hl'=>by
   have z:=al l hl'
   have n1:=BM z.1 G9
   exact⟨by rw[AF n1];exact z.1,s2.none (by rw[e2];intro z;cases z) z.2,n1,λy=>by rw[y,m2]at z;cases z.2⟩
  have hmiH:H mi=none:=s2.none (by rw[e2];intro z;cases z) (s.free G9)
  have nmm:m≠mi:=BM (s _ _ m2) G9
  have BU:ls.length=rows.length:=by rw[<-hl,ey,List.length_map]
  revert s3 e3 m3 i3 l3
  generalize upd H' mi (.lst ys)=H3
  intro s3 e3 m3 i3 l3
  refine⟨_,_,_,e3,T.cl,T.nI,FI (n:=999) (FI (n:=998) (by decide)),λlt BK=> ?_⟩
  have nb4:b≠lt:=BM AE BK
  rw[AF nb4.symm]at BK
  have ltH:H lt=none:=s3.none (by rw[e3];intro z;cases z) BK
  refine⟨_,_,_,by rw[AF nb4,AE],T.cl,T.nL,FI (n:=999) (FI (n:=998) (FI (n:=997) (by decide))),λou D3=> ?_⟩
  have nb5:b≠ou:=BM AE D3
  rw[AF nb5.symm]at D3
  have nl5:lt≠ou:=BM AE D3
  rw[AF nl5.symm,AF nb5.symm]at D3
  have ouH:H ou=none:=s3.none (by rw[e3];intro z;cases z) D3
  refine⟨_,_,_,by rw[AF nb5,AE],T.cl,T.nO,FI (n:=999) (FI (n:=998) (FI (n:=997) (FI (n:=996) (by decide)))),?_⟩
  rw[Fh]
  generalize eH:upd (upd (upd (upd (upd H3 b _) lt (.dT [])) b _) ou (.dK [])) b (.ins (E5 a) dx (bf gp m mi lt ou))=H5
  have kp:∀ x,x≠b->x≠lt->x≠ou->H5 x=H3 x:=λx n1 n2 n3=>by rw[<-eH,AF n1,AF n3,AF n1,AF n2,AF n1]
  have kk:∀ x o,H3 x=some o->x≠b->H5 x=some o:=λx o e n1=>by rw[kp x n1 (BM e BK) (BM e D3)];exact e
  have s5:SameBut (· =b) H H5:=λx o e n1=>kk x o (s3 _ _ e n1) n1
  have nbx:∀ x xs,H3 x=some (.lst xs)->x≠b:=λx xs e=>BD e e3 (by intro z;cases z)
  refine q m mi lt ou ls H5 hmH hmiH ltH ouH (λl hl'=>(l3 l hl').2.1) ⟨⟨⟨dx,by rw[<-eH,AE]⟩,⟨[],kk _ _ m3 (nbx _ _ m3),.nil⟩,kk _ _ i3 (nbx _ _ i3),λi l e=> ?_,nd,⟨[],?_,λi j=>rfl,Nat.le_refl _⟩,⟨[],?_,λk=>rfl,List.nodup_nil,by simp⟩,by simp,by simp,by simp,⟨nmm,?_,?_,?_,?_,?_⟩,by simp⟩,?_,BU⟩ s5
  ·have z:=l3 l (List.mem_of_getElem? e)
   exact kk _ _ z.1 (nbx _ _ z.1)
  ·rw[<-eH,AF nb4.symm,AF nl5,AF nb4.symm,AE]
  ·rw[<-eH,AF nb5.symm,AE]
  ·exact λz=>(l3 _ z).2.2.2 rfl
  ·exact λz=>(l3 _ z).2.2.1 rfl
  ·obtain⟨ts,z,_⟩:=P.ls;exact BM z hmH
  ·obtain⟨ts,z,_⟩:=P.ls;exact BM z hmiH
  ·obtain⟨ts,z,_⟩:=P.ls;exact λy=>by rw[(l3 _ y).2.1]at z;cases z
  ·obtain⟨⟨dx',f1⟩,⟨ts,f2,f3⟩,r1,r2,r3⟩:=P
   exact⟨⟨dx',s5 _ _ f1 (BD f1 hb (L3 (by simp[pf])))⟩,⟨ts,s5 _ _ f2 (BD f2 hb (by intro z;cases z)),Paired.mapP f3 λt r z=>s5 _ _ z (BD z hb (by intro z;cases z))⟩,r1,r2,r3⟩
theorem Xv(h:QH K a vs H Q E):RB K a (λ_=>E) (A9 Q) (start ["needs","ahead"] vs) H:=by
 obtain⟨nl,ns,o,rfl,hs,hl,q⟩:=h
 cases o with
 | none =>
  push_cast[RB,↓gX,↓gZ,↓g8,HN]
  refine⟨ns,hs,by omega,λx o D ks hx hD r m l=>⟨_,.inl ⟨SqL.of AE,λt ht=>q t ks _ (((AO hx).trans (AO hD)).trans (AO ht)) AE r (λy=> ?_) (by omega)⟩⟩⟩
  rw[m y];simp
 | some k =>
  push_cast[RB,↓gX,↓gZ,↓g8,HN]
  refine⟨_,.inl hs,λl hl'=>⟨by decide,λp hp=>.inl ?_⟩⟩
  have np:l≠p:=BM AE hp
  have s0:Same H (upd (upd H l (.lst (ns.map V.int))) p (.lst [.int k])):=(AO hl').trans (AO hp)
  have e1:upd (upd H l (.lst (ns.map V.int))) p (.lst [.int k]) l=some (.lst (ns.map V.int)):=by rw[AF np,AE]
  have e2:upd (upd H l (.lst (ns.map V.int))) p (.lst [.int k]) p=some (.lst [.int k]):=AE
  revert s0 e1 e2
  generalize upd (upd H l (.lst (ns.map V.int))) p (.lst [.int k])=H1
  intro s0 e1 e2
  refine⟨l,p,_,_,rfl,rfl,e1,e2,CM _ (by simp;omega),λr hr=>⟨r,rfl,ns++[(k:Int)],?_,by simp;omega,λx o D ks hx hD rs m ll=>⟨_,.inl ⟨SqL.of AE,λt ht=>q t ks _ ((((s0.trans (AO hr)).trans (AO hx)).trans (AO hD)).trans (AO ht)) AE rs (λy=> ?_) (by simpa using ll)⟩⟩⟩⟩
  ·rw[List.map_append];exact SqL.of AE
  ·rw[m y,List.mem_append,List.mem_singleton];simp
theorem Xw(h:QI K a vs H Q E):V1 K a (λ_=>E) (A9 Q) (start ["self","place"] vs) H:=by
 obtain⟨A,w,rows,n,cs,outs,pl,i,j,rfl,T,TP,B,hp,q,qe⟩:=h
 obtain⟨dx,hb⟩:=B.bk.ob
 obtain⟨dp,hg⟩:=B.pk.ob
 have ng:∀ {m:Str},¬ m="contents"->¬ m="width"->¬ m="written"->(pf A.cl w n).lookup m=none:=λh1 h2 h3=>LZ _ _ _ h1 h2 h3
 push_cast[V1,↓Kp,↓Kq]
 refine DG hp (n:=0) rfl rfl ?_
 push_cast[]
 split
 ·rename_i h0
  refine⟨_,_,_,hb,T.cl,T.nG,_,NN,A.gp,rfl,_,_,hg,ng (by decide +kernel) (by decide +kernel) (by decide +kernel),A.gp,A.cl,w,rows,n,rfl,TP,B.pk,?_⟩
  push_cast[]
  split
  ·exact⟨by decide,qe λz=>by omega⟩
  ·rename_i h1
   refine DG hp (n:=1) rfl rfl ?_
   push_cast[]
   split
   ·rename_i h2
    refine⟨_,_,_,hb,T.cl,T.nG,_,NN,A.gp,rfl,_,_,hg,ng (by decide +kernel) (by decide +kernel) (by decide +kernel),A.gp,A.cl,w,rows,n,rfl,TP,B.pk,?_⟩
    push_cast[]
    split
    ·exact⟨by decide,qe λz=>by omega⟩
    ·exact q ⟨h0,by omega,h2,by omega⟩
   ·exact⟨by decide,qe λz=>by omega⟩
 ·exact⟨by decide,qe λz=>by omega⟩
theorem Xx(h:MA K a vs H Q E):WN K a (λ_=>E) (A9 Q) (start ["self","place"] vs) H:=by
 obtain⟨A,w,rows,n,cs,outs,pl,i,j,rfl,T,TP,B,hp,q,qe⟩:=h
 obtain⟨dx,hb⟩:=B.bk.ob
 obtain⟨kvs,hl,hv,_⟩:=B.bk.lat
 push_cast[WN,↓Lv,↓Lw]
 refine⟨_,_,hb,DU (by decide +kernel),A,w,rows,n,cs,outs,pl,i,j,rfl,T,TP,B,hp,λh=> ?_,qe⟩
 push_cast[]
 refine⟨_,_,_,hb,T.cl,T.nL,_,fQ,A.lt,rfl,.inr ⟨_,.inl hl⟩,_,eL hl hp,?_⟩
 rw[hv]
 have:=q h
 cases e:D6 cs i j with
 | none=>rw[e]at this;exact this
 | some k=>rw[e]at this;exact this
theorem BookIn.len{C D:Addr}{A:BA}{w:Nat}{cs:List Ch}{outs:Int->Bool}(B:BookIn C D H A w cs outs):∃ xs,H A.m=some (.lst xs)/\xs.length=cs.length:=by
 obtain⟨chs,e,p⟩:=B.made
 exact⟨_,e,by rw[List.length_map,p.length]⟩
theorem Xy(h:QJ K a vs H Q E):U3 K a (λ_=>E) (A9 Q) (start ["self","numbers","number"] vs) H:=by
 obtain⟨A,w,rows,n,cs,outs,nl,ns,rfl,T,B,hs,q,qe⟩:=h
 obtain⟨dx,hb⟩:=B.bk.ob
 obtain⟨xs,hm,hml⟩:=B.bk.len
 push_cast[U3,↓gQ,↓gS,↓gU]
 refine .inl ⟨⟨_,hs⟩,?_⟩
 refine K2 (xs:=ns.map V.int) (λi σ H'=>H'=H/\(∃ z,σ=[some (.ref A.b),some (.ref nl),z])/\∀ x∈ns.take i,known cs x) ⟨rfl,⟨_,rfl⟩,by simp⟩ (λi σ H' _ ⟨e,_⟩=>e ▸ hs) (λi x σ H' hx ⟨e,⟨z,ez⟩,kn⟩=> ?_) (λσ H' ⟨e,⟨z,ez⟩,kn⟩=> ?_)
 ·subst e;subst ez
  rw[List.getElem?_map,Option.map_eq_some_iff]at hx
  obtain⟨x',hx',rfl⟩:=hx
  push_cast[↓gQ,↓gS,↓gU]
  have bad:¬ known cs x'->1<=sizeLine/\E (.ref (a "NoChange")) none H':=λh=>⟨by decide,qe ⟨x',List.mem_of_getElem? hx',h⟩⟩
  split
  ·rename_i h0
   refine⟨_,_,_,hb,T.cl,T.nM,_,K6,cs.length,.inl ⟨_,SqL.of hm,hml.symm⟩,?_⟩
   split
   ·exact bad λz=>by omega
   ·intro y hy
    rw[List.take_add_one,hx']at hy
    rcases List.mem_append.mp hy with hy | hy
    ·exact kn y hy
    ·simp only[Option.toList_some,List.mem_singleton]at hy
     subst hy
     exact⟨h0,by omega⟩
  ·exact bad λz=>by omega
 ·subst e
  refine q λx hx=>kn x ?_
  rw[List.length_map,List.take_length];exact hx
theorem Xz(h:D1 K a vs H Q E):WS K a (λ_=>E) (A9 Q) (start ["self","place","value","needs","ahead","number"] vs) H:=by
 obtain⟨A,w,rows,n,cs,outs,pl,nl,v,ns,i,j,rfl,T,TP,B,hp,hs,hl,hc,q,q1,q2⟩:=h
 obtain⟨dx,hb⟩:=B.bk.ob
 obtain⟨xs,hm,hml⟩:=B.bk.len
 push_cast[WS,↓Nd]
 refine⟨_,_,hb,DU (by decide +kernel),A,w,rows,n,cs,outs,pl,i,j,rfl,T,TP,B,hp,λhon=> ?_,q1⟩
 push_cast[↓Ng]
 refine⟨_,_,hb,DU (by decide +kernel),A,w,rows,n,cs,outs,nl,ns,rfl,T,B,hs,λhkn=> ?_,q2 hon⟩
 push_cast[↓Nh]
 refine⟨_,_,_,hb,T.cl,T.nM,_,K6,cs.length,.inl ⟨_,SqL.of hm,hml.symm⟩,?_⟩
 push_cast[↓Nj]
 refine⟨_,_,_,hb,T.cl,T.nM,_,K6,.inl ⟨rfl,_,SqL.of hm⟩,nl,ns,D6 cs i j,rfl,hs,hl,λt ks H1 s1 et kr km kl=> ?_⟩
 push_cast[]
 intro x dy hx hdy ndy
 refine⟨x,dy,pl,v,t,rfl,T,AE,rfl,?_⟩
 rw[HC]
 have s2:Same H1 (upd (upd H1 dy (.own x)) x (.ins (a "Change") dy (FT pl v t))):=(AO hdy).trans (AO (by rw[AF ndy.symm];exact hx))
 have ex:upd (upd H1 dy (.own x)) x (.ins (a "Change") dy (FT pl v t)) x=some (.ins (a "Change") dy (FT pl v t)):=AE
 revert s2 ex
 generalize upd (upd H1 dy (.own x)) x (.ins (a "Change") dy (FT pl v t))=H2
 intro s2 ex
 have s:=s1.trans s2
 have hxH:H x=none:=s1.free hx
 replace et:=s2 _ _ et
 obtain⟨chs,hm',pch⟩:=B.bk.made
 have G9:=B.bk.mil
 obtain⟨kvs,BK,hv,hkl⟩:=B.bk.lat
 obtain⟨C4,D3,hvo,hko⟩:=B.bk.out
 obtain⟨i0,i1,j0,j1⟩:=hon
 obtain⟨i',rfl⟩:∃ i':Nat,i=i':=⟨i.toNat,by omega⟩
 obtain⟨j',rfl⟩:∃ j':Nat,j=j':=⟨j.toNat,by omega⟩
 have hil:i'<A.ls.length:=by rw[B.nb];omega
 have el:=List.getElem?_eq_getElem hil
 have hll:=B.bk.mic i' _ el
 have hmem:A.ls[i']∈A.ls:=List.getElem_mem hil
 revert el hll hmem
 generalize A.ls[i']=l
 intro el hll hmem
 have ap:=B.bk.ap
 have nml:A.m≠l:=λz=>ap.2.1 (z ▸ hmem)
 have nil':A.mi≠l:=λz=>ap.2.2.1 (z ▸ hmem)
 have ncl:A.cl≠l:=λz=>ap.2.2.2.2.2 (z ▸ hmem)
 have klt:∀ {y:Addr} {o:HO},H2 y=some o->(∀ k,o≠.dT k)->y≠A.lt:=λe h=>BD e (s _ _ BK) (h _)
 have km':∀ {y:Addr} {o:HO},H2 y=some o->(∀ k,o≠.lst k)->y≠A.m:=λe h=>BD e (s _ _ hm') (h _)
 have kll:∀ {y:Addr} {o:HO},H2 y=some o->(∀ k,o≠.lst k)->y≠l:=λe h=>BD e (s _ _ hll) (h _)
 have hb2:=s _ _ hb
 have IM:=s _ _ hp
 have sz:=B.bk.sz
 have lenc:chs.length=cs.length:=pch.length
 refine⟨A.m,_,_,rfl,rfl,s _ _ hm',Nat.lt_of_lt_of_le (show(chs.map V.ref).length<1000 by rw[List.length_map];omega) (by decide),?_⟩
 push_cast[↓Nk]
 have bb:A.b≠A.m:=km' hb2 (by intro k z;cases z)
 have bl:A.b≠l:=kll hb2 (by intro k z;cases z)
 have bt:A.b≠A.lt:=klt hb2 (by intro k z;cases z)
 have pm:pl≠A.m:=km' IM (by intro k z;cases z)
 have pl':pl≠l:=kll IM (by intro k z;cases z)
 have pt:pl≠A.lt:=klt IM (by intro k z;cases z)
 have lt':l≠A.lt:=klt (s _ _ hll) (by intro k z;cases z)
 have mt:A.m≠A.lt:=klt (s _ _ hm') (by intro k z;cases z)
 have it:A.mi≠A.lt:=klt (s _ _ G9) (by intro k z;cases z)
 refine⟨_,_,_,by rw[AF bb];exact hb2,T.cl,T.nI,_,UQ,DG (by rw[AF pm];exact IM) (n:=0) rfl rfl (FF (SqL.of (by rw[AF ap.1.symm];exact s _ _ G9)) (n:=i') (v:=.ref l) rfl (by rw[List.getElem?_map,el];rfl) ⟨.inl ⟨rfl,_,SqL.of (by rw[AF nml.symm];exact s _ _ hll)⟩,?_⟩)⟩
 have bln:=fN cs i'
 refine⟨l,_,_,rfl,rfl,by rw[AF nml.symm];exact s _ _ hll,Nat.lt_of_lt_of_le (show((CN cs i').map λ(k:Nat)=>V.int k).length<1000 by rw[List.length_map];omega) (by decide),?_⟩
 push_cast[↓Nl,↓Nm]
 refine⟨_,_,_,by rw[AF bl,AF bb];exact hb2,T.cl,T.nL,_,fQ,A.lt,rfl,_,Dl (by rw[AF lt'.symm,AF mt.symm];exact s _ _ BK) (by rw[AF pl',AF pm];exact IM) (by omega),?_⟩
 generalize eH:upd (upd (upd H2 A.m _) l _) A.lt (.dT (B7 kvs [.inl ↑i',.inl ↑j'] (.int ↑cs.length)))=H5
 have kp:∀ y,y≠A.m->y≠l->y≠A.lt->H5 y=H2 y:=λy n1 n2 n3=>by rw[<-eH,AF n3,AF n2,AF n1]
 have s5:SameBut (λy=>y=A.m\/y=l\/y=A.lt) H H5:=λy o e ny=>by
  rw[kp y (λz=>ny (.inl z)) (λz=>ny (.inr (.inl z))) (λz=>ny (.inr (.inr z)))]
  exact s _ _ e
 have lo:∀ y,(y=A.m\/y=l\/y=A.lt)->D7 (H y):=by
  rintro y (z | z | z)
  ·exact B.loose (.inl z)
  ·exact B.loose (.inr (.inr (.inl (z ▸ hmem))))
  ·exact B.loose (.inr (.inr (.inr (.inl z))))
 have AW:∀ y∈ks,0<=y/\y<cs.length:=λy hy=>by
  rcases(km y).mp hy with h | ⟨k,e,rfl⟩
  ·exact hkn y h
  ·exact⟨by omega,by have:=P0 e;omega⟩
 refine q ⟨i0,i1,j0,j1⟩ hkn ks H5 kr km ⟨⟨⟨dx,by rw[kp _ bb bl bt];exact hb2⟩,⟨chs++[x],?_,Paired.snoc (Paired.mapP pch λy c h=>h.sb s5 lo) ⟨dy,pl,t,?_,?_,?_⟩⟩,?_,λk l' e=> ?_,B.bk.nd,⟨B7 kvs [.inl ↑i',.inl ↑j'] (.int ↑cs.length),?_,λp q=> ?_,?_⟩,⟨C4,?_,hvo,?_⟩,?_,λc hc'=> ?_,λk c e=> ?_,ap,λk c e j ej=> ?_⟩,B.pk.sbL s5 lo ?_,B.nb⟩ (s5.wide λy z=> ?_)
 ·rw[<-eH,AF mt,AF nml,AE,List.map_append];rfl
 ·rw[kp x (km' ex (by intro k z;cases z)) (kll ex (by intro k z;cases z)) (klt ex (by intro k z;cases z))];exact ex
 ·rw[kp pl pm pl' pt];exact IM
 ·rw[kp t (km' et (by intro k z;cases z)) (kll et (by intro k z;cases z)) (klt et (by intro k z;cases z))];exact et
 ·rw[kp _ ap.1.symm nil' it];exact s _ _ G9
 ·rw[Fb]
  by_cases z:l'=l
  ·subst z
   have ek:k=i':=by
    obtain⟨h1,h2⟩:=List.getElem?_eq_some_iff.mp e
    obtain⟨h3,h4⟩:=List.getElem?_eq_some_iff.mp el
    exact(List.getElem_inj B.bk.nd).mp (h2.trans h4.symm)
   subst ek
   rw[<-eH,AF lt',AE]
   simp
  ·have nk:¬ i'=k:=λy=>by subst y;rw[el]at e;cases e;exact z rfl
   have hl':=B.bk.mic k l' e
   rw[kp l' (λy=>ap.2.1 (y ▸ List.mem_of_getElem? e)) z (klt (s _ _ hl') (by intro k z;cases z))]
   simp only[Int.toNat_natCast,if_neg nk]
   exact s _ _ hl'
 ·rw[<-eH,AE]
 ·rw[KW,UM]
  by_cases z:p=i'/\q=j'
  ·obtain⟨rfl,rfl⟩:=z
   simp
  ·have z1:¬ ([Sum.inl p,Sum.inl q]:List AH)=[.inl ↑i',.inl ↑j']:=λy=>z (by simpa using y)
   have z2:¬ ((((i':Int).toNat:Nat):Int)=p/\(((j':Int).toNat:Nat):Int)=q):=λy=>z ⟨by omega,by omega⟩
   rw[if_neg z1,if_neg z2]
   exact hv p q
 ·have:=KY kvs [.inl ↑i',.inl ↑j'] (.int ↑cs.length)
  simp;omega
 ·rw[kp _ (km' (s _ _ D3) (by intro k z;cases z)) (kll (s _ _ D3) (by intro k z;cases z)) (klt (s _ _ D3) (by intro k z;cases z))];exact s _ _ D3
 ·exact hko.mono (by simp)
 ·simp;omega
 ·rcases List.mem_append.mp hc' with h | h
  ·exact B.bk.inn c h
  ·rw[List.mem_singleton.mp h]
   exact⟨by rw[Int.toNat_natCast];exact hil,(show(j':Int).toNat<w by omega)⟩
 ·rcases Nat.lt_or_ge k cs.length with h | h
  ·rw[List.getElem?_append_left h]at e
   exact B.bk.need k c e
  ·rw[List.getElem?_append_right h]at e
   have:k - cs.length=0:=by
    rcases Nat.eq_zero_or_pos (k - cs.length)with z | z
    ·exact z
    ·rw[List.getElem?_eq_none (by simp;omega)]at e;cases e
   rw[this]at e
   cases e
   exact⟨λy hy=>⟨(AW y hy).1,by have:=(AW y hy).2;omega⟩,kr,(show ks.length<=100 by omega)⟩
 ·rcases Nat.lt_or_ge k cs.length with h | h
  ·rw[List.getElem?_append_left h]at e
   rw[List.take_append_of_le_length (by omega)]at ej
   exact B.bk.chn k c e j ej
  ·rw[List.getElem?_append_right h]at e
   have:k - cs.length=0:=by
    rcases Nat.eq_zero_or_pos (k - cs.length)with z | z
    ·exact z
    ·rw[List.getElem?_eq_none (by simp;omega)]at e;cases e
   have hk:k=cs.length:=by omega
   subst hk
   rw[this]at e
   cases e
   rw[List.take_left' rfl]at ej
   exact(km _).mpr (.inr ⟨j,by simpa using ej,rfl⟩)
 ·rintro (z | z | z)
  ·exact ap.2.2.2.1 z
  ·exact ncl z
  ·obtain⟨ts,e,_⟩:=B.pk.ls
   exact klt (s _ _ e) (by intro k z;cases z) z
 ·rcases z with z | z | z
  ·exact .inl z
  ·exact .inr (.inr (.inl (z ▸ hmem)))
  ·exact .inr (.inr (.inr (.inl z)))
theorem BookIn.at{C D:Addr}{A:BA}{w:Nat}{cs:List Ch}{outs:Int->Bool}{H:Hp}(B:BookIn C D H A w cs outs){k:Nat}{c:Ch}(e:cs[k]? =some c):∃ xs x,H A.m=some (.lst xs)/\xs[k]? =some (.ref x)/\ChAt D H x c:=by
 obtain⟨chs,h,p⟩:=B.made
 obtain⟨x,ex,hx⟩:=K3 p e
 exact⟨_,x,h,by rw[List.getElem?_map,ex];rfl,hx⟩
theorem Yb{w n:Nat}{rows:List (List V)}{gp cl:Addr}{H1:Hp}{Q:Addr->Hp->Prop}{E:XK}(T:TB K a)(TP:ED K a)(P:PlankAt a H1 gp cl w rows n)
  (q:∀ (A:BA) (H2:Hp),A.gp=gp->A.cl=cl->(∀ x o,H1 x=some o->x=cl\/¬ A.F x)->EE a H2 A w rows n [] (λ_=>false)->Same H1 H2->Q A.b H2) :
  ∀ x dx,H1 x=none->H1 dx=none->dx≠x->NP K a [.ref x,.ref gp] (upd (upd H1 dx (.own x)) x (.ins (E5 a) dx [])) (λv H2=>v=.non/\Q x H2) E:=λb db hb hdb ndb=>by
 have s0:Same H1 (upd (upd H1 db (.own b)) b (.ins (E5 a) db [])):=(AO hdb).trans (AO (by rw[AF ndb.symm];exact hb))
 refine⟨b,gp,cl,db,w,rows,n,rfl,T,TP,P.same s0,AE,λm mi lt ou ls H4 hm G9 BK D3 hls B4 sb4=>⟨rfl,?_⟩⟩
 refine q ⟨b,gp,m,mi,lt,ou,ls,cl⟩ H4 rfl rfl (λx o e=> ?_) B4 λy o e=>sb4 _ _ (s0 _ _ e) (BM e hb)
 by_cases z:x=cl
 ·exact .inl z
 ·refine .inr ?_
  have e':=s0 _ _ e
  rintro (y | y | y | y | y | y)
  ·rw[y]at e';rw[show(BA.mk b gp m mi lt ou ls cl).m=m from rfl,hm]at e';cases e'
  ·rw[y]at e';rw[show(BA.mk b gp m mi lt ou ls cl).mi=mi from rfl,G9]at e';cases e'
  ·rw[hls x y]at e';cases e'
  ·rw[y]at e';rw[show(BA.mk b gp m mi lt ou ls cl).lt=lt from rfl,BK]at e';cases e'
  ·rw[y]at e';rw[show(BA.mk b gp m mi lt ou ls cl).ou=ou from rfl,D3]at e';cases e'
  ·exact z y
theorem Yc(h:II K a vs H Q E):WT K a (λ_=>E) (A9 Q) (start ["self","place","number"] vs) H:=by
 obtain⟨A,w,rows,n,cs,outs,pl,i,j,rfl,T,TP,B,hp,q,qe⟩:=h
 obtain⟨dx,hb⟩:=B.bk.ob
 obtain⟨dp,hg⟩:=B.pk.ob
 push_cast[WT,↓Np,↓Nq,↓Nv,↓Nx]
 refine⟨_,_,hb,DU (by decide +kernel),A,w,rows,n,cs,outs,pl,i,j,rfl,T,TP,B,hp,λh=> ?_,qe⟩
 have q:=q h
 unfold EF at q
 cases e:D6 cs i j with
 | none =>
  rw[e]at q
  push_cast[HN]
  refine⟨_,_,_,hb,T.cl,T.nG,_,NN,A.gp,rfl,_,_,hg,XV _ _ _,DG hp (n:=0) rfl rfl ?_⟩
  refine⟨A.gp,A.cl,w,rows,n,i,rfl,TP,B.pk,λb' row eb er vl hvl=> ?_,λz=>absurd h λy=>by omega⟩
  subst eb
  have s1:=AO (o:=.lst row) hvl
  refine DG (s1 _ _ hp) (n:=1) rfl rfl ?_
  have rl:=B.pk.wd row (List.mem_of_getElem? er)
  have hj:j.toNat<row.length:=by omega
  have ej:=List.getElem?_eq_getElem hj
  refine FF (SqL.of AE) (n:=j.toNat) (v:=row[j.toNat]) (by omega) ej ?_
  refine q _ _ ?_ s1
  rw[show((b':Int)).toNat=b' from by omega,er]
  exact ej
 | some k =>
  rw[e]at q
  push_cast[HN]
  have hk:=P0 e
  have ec:=List.getElem?_eq_getElem hk
  obtain⟨chs,hm,pc⟩:=B.bk.made
  obtain⟨x,ex,dx',p1,n1,h1,h2,h3⟩:=K3 pc ec
  refine⟨_,_,_,hb,T.cl,T.nM,_,K6,FF (SqL.of hm) (n:=k) (v:=.ref x) rfl (by rw[List.getElem?_map,ex];rfl) ⟨x,rfl,_,_,_,h1,T.cc,T.nV,_,fP,q _ _ ?_ (Same.refl _)⟩⟩
  show(cs[k]?).map (·.val)=_
  rw[ec]
  rfl
theorem Yd(h:QK K a vs H Q E):U8 K a (λ_=>E) (A9 Q) (start ["self","number","gone","need"] vs) H:=by
 obtain⟨A,w,rows,n,cs,outs,k,c,g,kvg,rfl,T,B,ec,hg,q⟩:=h
 obtain⟨dx,hb⟩:=B.bk.ob
 obtain⟨xs,cx,hm,ex,DQ⟩:=B.bk.at ec
 obtain⟨dc,pl,nt,hc1,hc2,hc3⟩:=DQ
 obtain⟨C4,ho,hv,_⟩:=B.bk.out
 push_cast[U8,↓U4,↓U5,↓U6,↓U7]
 refine⟨_,_,_,hb,T.cl,T.nM,_,K6,FF (SqL.of hm) rfl ex ⟨cx,rfl,_,_,_,hc1,T.cc,T.nN,_,Fd,nt,rfl,.inr ⟨⟨_,SqT.of hc3⟩,?_⟩⟩⟩
 refine Ac (xs:=c.nd.map V.int) (λi σ H'=>H'=H/\(∀ x∈c.nd.take i,(outs x || D2 kvg x)=true)/\∃ z,σ=[some (.ref A.b),some (.int k),some (.ref g),z]) ⟨rfl,by simp,_,rfl⟩ (λi σ H' _ ⟨e,_⟩=>e ▸ SqT.of hc3) (λi x σ H' hx hzz=> ?_) (λσ H' hzz=> ?_)
 ·obtain⟨e,al,z,ez⟩:=hzz
  subst e;subst ez
  rw[List.getElem?_map,Option.map_eq_some_iff]at hx
  obtain⟨y,hy,rfl⟩:=hx
  push_cast[↓U4,↓U5,↓U6,↓U7]
  have step:(outs y || D2 kvg y)=true->∀ x∈c.nd.take (i+1),(outs x || D2 kvg x)=true:=λh x hx=>by
   rw[List.take_add_one,hy]at hx
   rcases List.mem_append.mp hx with hx | hx
   ·exact al x hx
   ·have:x=y:=by simpa using hx
    exact this ▸ h
  refine⟨_,_,_,hb,T.cl,T.nO,_,P4,A.ou,rfl,_,dI ho,?_⟩
  rw[hv]
  cases h1:outs y with
  | true =>
   push_cast[]
   exact step (by rw[h1];rfl)
  | false =>
   push_cast[]
   refine⟨_,dI hg,?_⟩
   cases h2:(BJ kvg (.inl y)).isSome with
   | true =>
    push_cast[]
    exact step (by show(outs y || (BJ kvg (.inl y)).isSome)=true;rw[h2];simp)
   | false =>
    push_cast[]
    have e:L6 c.nd (λx=>outs x || D2 kvg x)=some y:=by
     obtain⟨hi,e⟩:=List.getElem?_eq_some_iff.mp hy
     unfold L6
     rw[List.find?_eq_some_iff_append]
     refine⟨by show(!(outs y || (BJ kvg (.inl y)).isSome))=true;rw[h1,h2];rfl,c.nd.take i,c.nd.drop (i+1),?_,λx hx=>by show(!!(outs x || D2 kvg x))=true;rw[al x hx];rfl⟩
     rw[<-e,<-List.drop_eq_getElem_cons hi,List.take_append_drop]
    rw[e]at q
    exact q
 ·obtain⟨e,al,z,ez⟩:=hzz
  subst e;subst ez
  rw[List.length_map,List.take_length]at al
  push_cast[↓U4,↓U5,↓U6,↓U7]
  have e:L6 c.nd (λx=>outs x || D2 kvg x)=none:=List.find?_eq_none.mpr λx hx=>by show ¬ (!(outs x || D2 kvg x))=true;rw[al x hx];exact Bool.false_ne_true
  rw[e]at q
  exact q
def Yg(s:Pass)(m:Nat)(H1 H':Hp)(g ol hl:Addr):Prop:=∃ (kvg:List (AH × V)) (hs:List Addr),SameBut (λy=>y=g\/y=ol\/y=hl) H1 H'/\H' g=some (.dK kvg)/\(∀ x:Int,D2 kvg x=s.gone x)/\kvg.length<=m/\H' ol=some (.lst (s.out.map λ(k:Nat)=>V.int k)) ∧
 H' hl=some (.lst (hs.map V.ref))/\Paired (λx (p:Nat × Int)=>H' x=some (.tup [.int p.1,.int p.2])) hs s.held
theorem qR(kvs:List (AH × V))(k x:Int)(v:V):D2 (B7 kvs (.inl k) v) x=(D2 kvs x || x == k):=by
 unfold D2
 rw[KW]
 by_cases e:x=k
 ·subst e;simp
 ·have:¬ (Sum.inl x:AH)=Sum.inl k:=λz=>e (by simpa using z)
  rw[if_neg this];simp[e]
theorem Yh (h:QL K a vs H Q E):WD K a (λ_=>E) (A9 Q) (start ["self","block","taken","gone","out","held","number","lack"] vs) H:=by
  obtain⟨A,w,rows,n,cs,outs,b,tk,kvt,rfl,T,B,hbl,htk,hkt,q⟩:=h
  obtain⟨dx,hb⟩:=B.bk.ob
  push_cast[WD,↓V2,↓V3,↓V4,↓V5,↓V6,↓V7,↓V8,↓V9,↓WA,↓WB,↓WC]
  refine⟨_,htk,λg hg=>⟨by decide,λol hol=>⟨by decide,λhl hhl=> ?_⟩⟩⟩
  have s1:Same H (upd (upd (upd H g (.dK kvt)) ol (.lst [])) hl (.lst [])):=((AO hg).trans (AO hol)).trans (AO hhl)
  have ngo:g≠ol:=BM AE hol
  have nol:ol≠hl:=BM AE hhl
  have ngl:g≠hl:=BM (by rw[AF ngo];exact AE) hhl
  have eg:upd (upd (upd H g (.dK kvt)) ol (.lst [])) hl (.lst []) g=some (.dK kvt):=by rw[AF ngl,AF ngo,AE]
  have eo:upd (upd (upd H g (.dK kvt)) ol (.lst [])) hl (.lst []) ol=some (.lst []):=by rw[AF nol,AE]
  have el:upd (upd (upd H g (.dK kvt)) ol (.lst [])) hl (.lst []) hl=some (.lst []):=AE
  have holH:H ol=none:=(AO hg).free hol
  have hhlH:H hl=none:=((AO hg).trans (AO hol)).free hhl
  revert s1 eg eo el
  generalize upd (upd (upd H g (.dK kvt)) ol (.lst [])) hl (.lst [])=H1
  intro s1 eg eo el
  have hil:b<A.ls.length:=by rw[B.nb];exact hbl
  have ell:=List.getElem?_eq_getElem hil
  have hll:=B.bk.mic b _ ell
  revert ell hll
  generalize A.ls[b]=l
  intro ell hll
  refine⟨_,_,_,s1 _ _ hb,T.cl,T.nI,_,UQ,FF (SqL.of (s1 _ _ B.bk.mil)) (n:=b) (v:=.ref l) rfl (by rw[List.getElem?_map,ell];rfl) ⟨l,rfl,.inl ⟨⟨_,SqL.of (s1 _ _ hll)⟩,?_⟩⟩⟩
  have bln:=fN cs b
  have sz:=B.bk.sz
  have G:∀ {H':Hp},SameBut (λy=>y=g\/y=ol\/y=hl) H1 H'->Same H H':=λsb y o e=>sb _ _ (s1 _ _ e) (by
    rintro (z | z | z)
    ·rw[z,hg]at e;cases e
    ·rw[z,holH]at e;cases e
    ·rw[z,hhlH]at e;cases e)
  refine K2 (xs:=(CN cs b).map λ(k:Nat)=>V.int k) (λi σ H'=>Yg (((CN cs b).take i).foldl (DV cs outs) ⟨[],[],D2 kvt⟩) (1000+i) H1 H' g ol hl/\∃ z1 z2,σ=[some (.ref A.b),some (.int b),some (.ref tk),some (.ref g),some (.ref ol),some (.ref hl),z1,z2])
    ⟨⟨kvt,[],SameBut.refl _,eg,λ_=>rfl,by omega,eo,el,.nil⟩,_,_,rfl⟩ (λi σ H' _ ⟨⟨kvg,hs,sb,_⟩,_⟩=>SqL.of (G sb _ _ hll)) (λi x σ H' hx ⟨iv,z1,z2,ez⟩=> ?_) (λσ H' ⟨iv,z1,z2,ez⟩=> ?_)
  · subst ez
    have hi:=(List.getElem?_eq_some_iff.mp hx).1
    rw[List.length_map]at hi
    rw[List.getElem?_map,Option.map_eq_some_iff]at hx
    obtain⟨k,hk,rfl⟩:=hx
    have hkc:=UP (List.mem_of_getElem? hk)
    have ec:=List.getElem?_eq_getElem hkc
    revert ec
    generalize cs[k]=c
    intro ec
    have hszs:=fT (cs:=cs) (outs:=outs) ((CN cs b).take i) ⟨[],[],D2 kvt⟩
    have es:=fU (DV cs outs) (⟨[],[],D2 kvt⟩:Pass) hk
    revert iv hszs es
    generalize ((CN cs b).take i).foldl (DV cs outs) ⟨[],[],D2 kvt⟩=s
    generalize ((CN cs b).take (i+1)).foldl (DV cs outs) ⟨[],[],D2 kvt⟩=s'
    intro iv hszs es
    obtain⟨kvg,hs,sb,e1,e2,e3,e4,e5,e6⟩:=iv
    simp only[List.length_nil,List.length_take]at hszs
    have sH:=G sb
    have B':=B.same sH
    obtain⟨C4,ho,hv,_⟩:=B.bk.out
    push_cast[↓V2,↓V3,↓V4,↓V5,↓V6,↓V7,↓V8,↓V9,↓WA,↓WB,↓WC]
    refine⟨_,_,_,sH _ _ hb,T.cl,T.nO,_,P4,A.ou,rfl,_,dI (sH _ _ ho),?_⟩
    rw[hv]
    unfold DV at es
    cases h1:outs k with
    | true =>
      rw[h1,Bool.true_or,if_pos rfl]at es
      push_cast[]
      rw[es]
      exact⟨kvg,hs,sb,e1,e2,by omega,e4,e5,e6⟩
    | false =>
      rw[h1,Bool.false_or]at es
      push_cast[]
      refine⟨_,dI e1,?_⟩
      have e2k:(BJ kvg (.inl (k:Int))).isSome=s.gone k:=e2 k
      rw[e2k]
      cases h2:s.gone k with
      | true =>
        rw[h2,if_pos rfl]at es
        push_cast[]
        rw[es]
        exact⟨kvg,hs,sb,e1,e2,by omega,e4,e5,e6⟩
      | false =>
        rw[h2,if_neg Bool.false_ne_true,ec]at es
        push_cast[]
        refine⟨_,_,sH _ _ hb,DU (by decide +kernel),A,w,rows,n,cs,outs,k,c,g,kvg,rfl,T,B',ec,e1,?_⟩
        have efn:(λx=>outs x || D2 kvg x)=λx=>outs x || s.gone x:=by funext x;rw[e2]
        rw[efn]
        simp only[Option.bind_some]at es
        cases h3:L6 c.nd (λx=>outs x || s.gone x)with
        | none =>
          rw[h3]at es
          dsimp only at es
          dsimp only [UY]
          rw[if_pos rfl]
          refine⟨_,pI e1 (by omega),.inl ⟨rfl,_,SqL.of (by rw[AF ngo.symm];exact e4)⟩,ol,_,_,rfl,rfl,by rw[AF ngo.symm];exact e4,Nat.lt_of_lt_of_le (show(s.out.map λ(k:Nat)=>V.int k).length<1000 by rw[List.length_map];omega) (by decide),?_⟩
          rw[es]
          refine⟨_,hs,?_,by rw[AF ngo,AE],λx=>by rw[qR,e2],?_,by rw[AE,List.map_append];rfl,by rw[AF nol.symm,AF ngl.symm];exact e5,Paired.mapP e6 λx p e=> ?_⟩
          · intro y o e ny
            rw[AF λz=>ny (.inr (.inl z)),AF λz=>ny (.inl z)]
            exact sb _ _ e ny
          · have:=KY kvg (.inl (k:Int)) (.bl true)
            omega
          ·rw[AF (BD e e4 (by intro z;cases z)),AF (BD e e1 (by intro z;cases z))];exact e
        | some l' =>
          rw[h3]at es
          dsimp only at es
          dsimp only [UY]
          rw[if_neg (by intro z;cases z)]
          refine⟨.inl ⟨rfl,_,SqL.of e5⟩,by decide,λtp htp=> ?_⟩
          have ntl:hl≠tp:=BM e5 htp
          refine⟨hl,_,_,rfl,rfl,by rw[AF ntl];exact e5,Nat.lt_of_lt_of_le (show(hs.map V.ref).length<1000 by rw[List.length_map,e6.length];omega) (by decide),?_⟩
          rw[es]
          have s2:=AO (o:=.tup [.int (k:Int),.int l']) htp
          have kp:∀ y,y≠hl->y≠tp->upd (upd H' tp (.tup [.int (k:Int),.int l'])) hl (.lst (hs.map V.ref++[.ref tp])) y=H' y:=λy n1 n2=>by rw[AF n1,AF n2]
          refine⟨kvg,hs++[tp],?_,by rw[kp g ngl (BM e1 htp)];exact e1,e2,by omega,by rw[kp ol nol (BM e4 htp)];exact e4,by rw[AE,List.map_append];rfl,Paired.snoc (Paired.mapP e6 λx p e=> ?_) ?_⟩
          · intro y o e ny
            have e':=sb _ _ e ny
            rw[kp y (λz=>ny (.inr (.inr z))) (BM e' htp)];exact e'
          ·rw[kp x (BD e e5 (by intro z;cases z)) (BM e htp)];exact e
          ·rw[AF ntl.symm,AE]
  · subst ez
    rw[List.length_map,List.take_length]at iv
    push_cast[↓V2,↓V3,↓V4,↓V5,↓V6,↓V7,↓V8,↓V9,↓WA,↓WB,↓WC]
    obtain⟨kvg,hs,sb,e1,e2,e3,e4,e5,e6⟩:=iv
    refine⟨by decide,λt ht=> ?_⟩
    have s2:=AO (o:=.tup [.ref ol,.ref hl]) ht
    exact q t ol hl _ holH hhlH nol ((G sb).trans s2) ⟨AE,s2 _ _ e4,hs,s2 _ _ e5,Paired.mapP e6 λx p e=>s2 _ _ e⟩
theorem Yj(h:QM K a vs H Q E):VE K a (λ_=>E) (A9 Q) (start ["self","values","block","laid","number"] vs) H:=by
 obtain⟨A,w,rows,n,cs,outs,b,vl,row,rfl,T,B,hbl,hvl,N9,q⟩:=h
 obtain⟨dx,hb⟩:=B.bk.ob
 obtain⟨C4,ho,hv,_⟩:=B.bk.out
 push_cast[VE,↓U9,↓VA,↓VB,↓VC,↓VD]
 refine⟨_,.inl (SqL.of hvl),λla hla=> ?_⟩
 have s1:=AO (o:=.lst row) hla
 have hil:b<A.ls.length:=by rw[B.nb];exact hbl
 have ell:=List.getElem?_eq_getElem hil
 have hll:=B.bk.mic b _ ell
 revert ell hll
 generalize A.ls[b]=l
 intro ell hll
 refine⟨_,_,_,s1 _ _ hb,T.cl,T.nI,_,UQ,FF (SqL.of (s1 _ _ B.bk.mil)) (n:=b) (v:=.ref l) rfl (by rw[List.getElem?_map,ell];rfl) ⟨l,rfl,.inl ⟨⟨_,SqL.of (s1 _ _ hll)⟩,?_⟩⟩⟩
 have sk:∀ o,Same H (upd H la o):=λo=>AO hla
 refine K2 (xs:=(CN cs b).map λ(k:Nat)=>V.int k) (λi σ H'=>H'=upd H la (.lst (((CN cs b).take i).foldl (F3 cs outs) row))/\∃ z1,σ=[some (.ref A.b),some (.ref vl),some (.int b),some (.ref la),z1])
  ⟨rfl,_,rfl⟩ (λi σ H' _ ⟨e,_⟩=>by rw[e];exact SqL.of (sk _ _ _ hll)) (λi x σ H' hx ⟨e,z1,ez⟩=> ?_) (λσ H' ⟨e,z1,ez⟩=> ?_)
 ·subst e;subst ez
  rw[List.getElem?_map,Option.map_eq_some_iff]at hx
  obtain⟨k,hk,rfl⟩:=hx
  have hkc:=UP (List.mem_of_getElem? hk)
  have ec:=List.getElem?_eq_getElem hkc
  revert ec
  generalize cs[k]=c
  intro ec
  have es:=fU (F3 cs outs) row hk
  have BU:=UR (cs:=cs) (outs:=outs) ((CN cs b).take i) row
  revert es BU
  generalize ((CN cs b).take i).foldl (F3 cs outs) row=r
  generalize ((CN cs b).take (i+1)).foldl (F3 cs outs) row=r'
  intro es BU
  have sH:=sk (.lst r)
  push_cast[↓U9,↓VA,↓VB,↓VC,↓VD]
  refine⟨_,_,_,sH _ _ hb,T.cl,T.nO,_,P4,A.ou,rfl,_,dI (sH _ _ ho),?_⟩
  rw[hv]
  unfold F3 at es
  cases h1:outs k with
  | false =>
   rw[h1,if_neg Bool.false_ne_true]at es
   push_cast[]
   rw[es]
  | true =>
   rw[h1,if_pos rfl,ec]at es
   dsimp only at es
   push_cast[]
   obtain⟨xs,cx,hm,ex,dc,pl,nt,hc1,hc2,hc3⟩:=(B.same sH).bk.at ec
   have hcell:=(B.bk.inn c (List.mem_of_getElem? ec)).2
   refine⟨_,_,_,sH _ _ hb,T.cl,T.nM,_,K6,FF (SqL.of hm) rfl ex ⟨cx,rfl,_,_,_,hc1,T.cc,T.nV,_,fP,?_⟩⟩
   refine⟨_,_,_,sH _ _ hb,T.cl,T.nM,_,K6,FF (SqL.of hm) rfl ex ⟨cx,rfl,_,_,_,hc1,T.cc,T.nP,_,Fc,DG hc2 (n:=1) rfl rfl ?_⟩⟩
   refine⟨la,r,(c.cell:Int),c.cell,rfl,rfl,AE,?_,?_⟩
   ·unfold IW
    rw[if_pos (by omega),if_pos (by omega),Int.toNat_natCast]
   ·rw[HC,es]
 ·subst e;subst ez
  rw[List.length_map,List.take_length]
  push_cast[↓U9,↓VA,↓VB,↓VC,↓VD]
  exact q la _ hla (sk _) AE
theorem Yk(h:QN K a vs H Q E):WO K a (λ_=>E) (A9 Q) (start ["self","block","values","told","number"] vs) H:=by
 obtain⟨A,w,rows,n,cs,outs,b,rfl,T,TP,B,q,qe⟩:=h
 obtain⟨dx,hb⟩:=B.bk.ob
 obtain⟨dp,hg⟩:=B.pk.ob
 push_cast[WO,↓RD,↓RE,↓RF,↓RG,↓RH,↓RI]
 refine⟨_,_,_,hb,T.cl,T.nG,_,NN,A.gp,rfl,_,_,hg,XV _ _ _,A.gp,A.cl,w,rows,n,b,rfl,TP,B.pk,λb' row eb er vl hvl=> ?_,qe⟩
 subst eb
 push_cast[]
 have hbl:=(List.getElem?_eq_some_iff.mp er).1
 have s1:=AO (o:=.lst row) hvl
 have ev:upd H vl (.lst row) vl=some (.lst row):=AE
 revert s1 ev
 generalize upd H vl (.lst row)=H1
 intro s1 ev
 refine⟨_,_,s1 _ _ hb,DU (by decide +kernel),λe0 he0=> ?_⟩
 have s2:=s1.trans (AO (o:=.dK []) he0)
 refine⟨A,w,rows,n,cs,outs,b',e0,[],rfl,T,B.same s2,hbl,AE,by simp,λt ol hl H3 hol hhl nol s3 told=> ?_⟩
 have RW:=s2.trans s3
 have ev3:=s3 _ _ (AO he0 _ _ ev)
 have holH:=s2.free hol
 have hhlH:=s2.free hhl
 have hasnil:(D2 ([]:List (AH × V)))=λ_=>false:=rfl
 rw[hasnil]at told
 obtain⟨ht,ho3,hs,hh3,hpr⟩:=told
 obtain⟨rise,fresh,_⟩:=UT (cs:=cs) (outs:=outs) (b:=b')
 have eW:E4 cs outs b'=λx=>outs x || (outcome cs outs (λ_=>false) b').out.any λ(k:Nat)=>x ==(k:Int):=rfl
 replace q:=λH' a1 a2 a3=>q b' row t ol hl H' rfl er holH hhlH nol a1 a2 a3
 revert ho3 hpr rise fresh eW q
 generalize outcome cs outs (λ_=>false) b'=oc
 generalize E4 cs outs b'=ow
 intro ho3 hpr rise fresh eW q
 push_cast[]
 refine DG ht (n:=0) rfl rfl ⟨ol,rfl,.inl ⟨⟨_,SqL.of ho3⟩,?_⟩⟩
 obtain⟨C4,D3,hvo,hko⟩:=B.bk.out
 have hou3:=RW _ _ D3
 have fO:¬ A.F ol:=B.off holH
 have fL:¬ A.F hl:=B.off hhlH
 have nou:ol≠A.ou:=λz=>fO (.inr (.inr (.inr (.inr (.inl z)))))
 refine K2 (xs:=oc.out.map λ(k:Nat)=>V.int k) (λi σ H'=>(∃ kv,H'=upd H3 A.ou (.dK kv)/\(∀ x:Int,(BJ kv (.inl x)).isSome=(outs x || (oc.out.take i).any λ(k:Nat)=>x ==(k:Int)))/\KeysOk kv cs.length)/\∃ z1,σ=[some (.ref A.b),some (.int b'),some (.ref vl),some (.ref t),z1])
  ⟨⟨C4,?_,λx=>by rw[hvo];simp,hko⟩,_,rfl⟩ (λi σ H' _ ⟨⟨kv,e,_⟩,_⟩=>by rw[e];exact SqL.of (by rw[AF nou];exact ho3)) (λi x σ H' hx ⟨⟨kv,e,hv,hk⟩,z1,ez⟩=> ?_) (λσ H' ⟨⟨kv,e,hv,hk⟩,z1,ez⟩=> ?_)
 ·funext y
  by_cases e:y=A.ou
  ·subst e;rw[AE];exact hou3
  ·rw[AF e]
 ·subst e;subst ez
  rw[List.getElem?_map,Option.map_eq_some_iff]at hx
  obtain⟨k,ek,rfl⟩:=hx
  have hkm:=List.mem_of_getElem? ek
  have hkc:=UP (fresh k hkm).2
  have hnone:BJ kv (.inl (k:Int))=none:=by
   have:=hv k
   rw[(fresh k hkm).1,Bool.false_or]at this
   have z:(oc.out.take i).any (λ(j:Nat)=>(k:Int) ==(j:Int))=false:=by
    rw[List.any_eq_false]
    intro j hj
    obtain⟨m,hm,e⟩:=List.getElem_of_mem hj
    rw[List.length_take]at hm
    rw[List.getElem_take]at e
    obtain⟨hi,e2⟩:=List.getElem?_eq_some_iff.mp ek
    have:=List.pairwise_iff_getElem.mp rise m i (by omega) hi (by omega)
    rw[e,e2]at this
    simp;omega
   rw[z]at this
   exact Option.isSome_eq_false_iff.mp this |> Option.isNone_iff_eq_none.mp
  push_cast[↓RD,↓RE,↓RF,↓RG,↓RH,↓RI]
  have hb3:upd H3 A.ou (.dK kv) A.b=some (.ins (E5 a) dx (bf A.gp A.m A.mi A.lt A.ou)):=by
   rw[AF (BD (RW _ _ hb) hou3 (by intro z;cases z))];exact RW _ _ hb
  refine⟨_,_,_,hb3,T.cl,T.nO,_,P4,A.ou,rfl,_,pI AE (by have:=hk.len;have:=B.bk.sz;omega),_,HC,λx=> ?_,hk.put hkc hnone _⟩
  have:=qR kv k x (.bl true)
  unfold D2 at this
  rw[this,hv,List.take_add_one,ek,List.any_append,Bool.or_assoc]
  simp
 ·subst e;subst ez
  rw[List.length_map,List.take_length]at hv
  replace hv:∀ x:Int,(BJ kv (.inl x)).isSome=ow x:=λx=>by rw[hv,eW]
  push_cast[↓RD,↓RE,↓RF,↓RG,↓RH,↓RI]
  have lou:D7 (H A.ou):=K8 D3
  have kb:∀ {y:Addr} {o:HO},H y=some o->y≠A.ou->upd H3 A.ou (.dK kv) y=some o:=λe n=>by rw[AF n];exact RW _ _ e
  have sb4:SameBut (· =A.ou) H (upd H3 A.ou (.dK kv)):=λy o e n=>kb e n
  have B4:EE a (upd H3 A.ou (.dK kv)) A w rows n cs ow:=by
   obtain⟨⟨b1,b2,b3,b4,b5,b6,_,b8,b9,b10,b11,b12⟩,pk,nb⟩:=B
   have g:∀ x,x=A.ou->D7 (H x):=λx e=>e ▸ lou
   obtain⟨dx',b1⟩:=b1
   obtain⟨chs,b2,b2'⟩:=b2
   obtain⟨kvs,b6,b6'⟩:=b6
   obtain⟨ts,pl1,pl2⟩:=pk.ls
   refine⟨⟨⟨dx',kb b1 (BD b1 D3 (by intro z;cases z))⟩,⟨chs,kb b2 (BD b2 D3 (by intro z;cases z)),Paired.mapP b2' λx c h=>h.sb sb4 g⟩,kb b3 (BD b3 D3 (by intro z;cases z)),λi l e=>kb (b4 i l e) (BD (b4 i l e) D3 (by intro z;cases z)),b5,⟨kvs,kb b6 (BD b6 D3 (by intro z;cases z)),b6'⟩,⟨kv,AE,hv,hk⟩,b8,b9,b10,b11,b12⟩,pk.sbL sb4 g (BD pl1 D3 (by intro z;cases z)),nb⟩
  have ev4:upd H3 A.ou (.dK kv) vl=some (.lst row):=by rw[AF (BD ev3 hou3 (by intro z;cases z))];exact ev3
  have ht4:upd H3 A.ou (.dK kv) t=some (.tup [.ref ol,.ref hl]):=by rw[AF (BD ht hou3 (by intro z;cases z))];exact ht
  have ho4:upd H3 A.ou (.dK kv) ol=some (.lst (oc.out.map λ(k:Nat)=>V.int k)):=by rw[AF nou];exact ho3
  have hh4:upd H3 A.ou (.dK kv) hl=some (.lst (hs.map V.ref)):=by rw[AF (BD hh3 hou3 (by intro z;cases z))];exact hh3
  have hp4:Paired (λx (p:Nat × Int)=>upd H3 A.ou (.dK kv) x=some (.tup [.int p.1,.int p.2])) hs oc.held:=Paired.mapP hpr λx p e=>by rw[AF (BD e hou3 (by intro z;cases z))];exact e
  revert sb4 B4 ev4 ht4 ho4 hh4 hp4
  generalize upd H3 A.ou (.dK kv)=H4
  intro sb4 B4 ev4 ht4 ho4 hh4 hp4
  obtain⟨dx4,hb4⟩:=B4.bk.ob
  obtain⟨dp4,hg4⟩:=B4.pk.ob
  refine⟨_,_,_,hb4,T.cl,T.nG,_,NN,A.gp,rfl,_,_,hg4,Xm _ _ _,_,_,hb4,DU (by decide +kernel),A,w,rows,n,cs,ow,b',vl,row,rfl,T,B4,hbl,ev4,B.pk.wd row (List.mem_of_getElem? er),λll H5 hll5 s5 ell5=> ?_⟩
  have B5:=B4.same s5
  refine⟨A.gp,A.cl,w,rows,n,b',ll,EJ cs ow b' row,rfl,TP,B5.pk,SqL.of ell5,by rw[fS,B.pk.wd row (List.mem_of_getElem? er)];have:=B.pk.sw;omega,λi ei hi hxw H6 P6 sb6=> ?_,λz=> ?_⟩
  ·have ei:b'=i:=by omega
   subst ei
   push_cast[↓RD,↓RE,↓RF,↓RG,↓RH,↓RI]
   obtain⟨ts5,pl5,pt5⟩:=B5.pk.ls
   obtain⟨dp5,hg5⟩:=B5.pk.ob
   have ap:=B5.bk.ap
   have nF:∀ {y:Addr} {o:HO},H5 y=some o->(∀ C d f,o≠.ins C d f)->(∀ xs,o≠.lst xs)->¬ (y=A.gp\/y=A.cl):=λe n1 n2=>by
    rintro (z | z)
    ·exact BD e hg5 (n1 _ _ _) z
    ·exact BD e pl5 (n2 _) z
   have gp_b:A.b≠A.gp:=by
    obtain⟨d5,hb5⟩:=B5.bk.ob
    exact BD hb5 hg5 (L3 (by simp[bf,pf]))
   have k6:∀ {y:Addr} {o:HO},H5 y=some o->y≠A.gp->y≠A.cl->H6 y=some o:=λe n1 n2=>sb6 _ _ e (by rintro (z | z);exact n1 z;exact n2 z)
   have notins:∀ {y:Addr} {o:HO},H5 y=some o->(∀ C d f,o≠.ins C d f)->y≠A.gp:=λe n=>BD e hg5 (n _ _ _)
   have B6:EE a H6 A w (rows.set b' (EJ cs ow b' row)) (n+1) cs ow:=by
    obtain⟨⟨b1,b2,b3,b4,b5,b6,b7,b8,b9,b10,b11,b12⟩,pk,nb⟩:=B5
    obtain⟨dx',b1⟩:=b1
    obtain⟨chs,b2,b2'⟩:=b2
    obtain⟨kvs,b6,b6'⟩:=b6
    obtain⟨kvo',b7,b7'⟩:=b7
    refine⟨⟨⟨dx',k6 b1 gp_b (BD b1 pl5 (by intro z;cases z))⟩,⟨chs,k6 b2 (notins b2 (by intro _ _ _ z;cases z)) ap.2.2.2.1.symm,Paired.mapP b2' λx c h=> ?_⟩,k6 b3 (notins b3 (by intro _ _ _ z;cases z)) ap.2.2.2.2.1.symm,λi l e=>k6 (b4 i l e) (notins (b4 i l e) (by intro _ _ _ z;cases z)) (λz=>ap.2.2.2.2.2 (z ▸ List.mem_of_getElem? e)),b5,⟨kvs,k6 b6 (notins b6 (by intro _ _ _ z;cases z)) (BD b6 pl5 (by intro z;cases z)),b6'⟩,⟨kvo',k6 b7 (notins b7 (by intro _ _ _ z;cases z)) (BD b7 pl5 (by intro z;cases z)),b7'⟩,b8,b9,b10,b11,b12⟩,P6,by rw[nb,List.length_set]⟩
    obtain⟨dc,p1,n1,h1,h2,h3⟩:=h
    exact⟨dc,p1,n1,k6 h1 (BD h1 hg5 (L3 (by simp[FT,pf]))) (BD h1 pl5 (by intro z;cases z)),k6 h2 (notins h2 (by intro _ _ _ z;cases z)) (BD h2 pl5 (by intro z;cases z)),k6 h3 (notins h3 (by intro _ _ _ z;cases z)) (BD h3 pl5 (by intro z;cases z))⟩
   have ncO:ol≠A.cl:=λz=>fO (.inr (.inr (.inr (.inr (.inr z)))))
   have ncL:hl≠A.cl:=λz=>fL (.inr (.inr (.inr (.inr (.inr z)))))
   have ht5:=s5 _ _ ht4
   have ho5:=s5 _ _ ho4
   have hh5:=s5 _ _ hh4
   refine q H6 ⟨k6 ht5 (notins ht5 (by intro _ _ _ z;cases z)) (BD ht5 pl5 (by intro z;cases z)),k6 ho5 (notins ho5 (by intro _ _ _ z;cases z)) ncO,hs,k6 hh5 (notins hh5 (by intro _ _ _ z;cases z)) ncL,Paired.mapP hp4 λx p e=> ?_⟩ B6 λy o e ny=> ?_
   ·have e5:=s5 _ _ e
    exact k6 e5 (notins e5 (by intro _ _ _ z;cases z)) (BD e5 pl5 (by intro z;cases z))
   ·exact k6 (s5 _ _ (sb4 _ _ e λz=>ny (.inl (.inr (.inr (.inr (.inr (.inl z)))))))) (λz=>ny (.inr z)) (λz=>ny (.inl (.inr (.inr (.inr (.inr (.inr z)))))))
  ·rcases z with z | z | z
   ·omega
   ·omega
   ·exact absurd (by rw[fS,B.pk.wd row (List.mem_of_getElem? er)]) z
theorem Yl(h:QC K a vs H Q E):VM K a (λ_=>E) (A9 Q) (start ["self","names","records","pieces","cells"] vs) H:=by
 obtain⟨p,dx,n,r,c,w,rfl,T,hp,b1,b2,b3,b4,b5,q⟩:=h
 push_cast[VM,↓Gz,↓Hb,↓Hc,↓Hd]
 refine⟨_,_,_,hp,T.cl,T.n1,by decide,_,_,_,AE,T.cl,T.n2,JF (by decide),_,_,_,AE,T.cl,T.n3,JF (n:=1000) (Nat.succ_lt_succ (JF (n:=999) (by decide))),_,_,_,AE,T.cl,T.n4,?_,?_⟩
 ·exact JF (n:=1000) (Nat.succ_lt_succ (JF (n:=999) (Nat.succ_lt_succ (JF (n:=998) (by decide)))))
 ·rw[Fx,HC,HC,HC]
  exact q _ ⟨⟨dx,AE⟩,b1,b2,b3,b4,b5⟩ λb o e hb=>by rw[AF hb];exact e
theorem Ym(h:G4 K a vs H Q E):VP K a (λ_=>E) (A9 Q) (start ["self","block","k"] vs) H:=by
 obtain⟨p,n,r,c,w,k,b,rfl,T,L,q⟩:=h
 obtain⟨dx,e⟩:=L.ob
 have:=L.h1
 have:=L.hw
 push_cast[VP,↓Hj]
 refine⟨_,_,_,e,T.cl,T.n4,_,L7,?_⟩
 push_cast[]
 refine⟨⟨by omega,by omega⟩,_,_,_,e,T.cl,T.n4,_,L7,?_⟩
 push_cast[]
 exact⟨by omega,by decide,q⟩
theorem Yp(h:GB K a vs H Q E):WH K a (λ_=>E) (A9 Q) (start ["self","k"] vs) H:=by
 obtain⟨p,n,r,c,w,k,rfl,T,L,q⟩:=h
 obtain⟨dx,e⟩:=L.ob
 push_cast[WH,↓Lj]
 exact⟨_,_,e,CB (by decide +kernel),p,n,r,c,w,k,0,rfl,T,L,q⟩
theorem Yq(h:FU K a vs H Q E):WI K a (λ_=>E) (A9 Q) (start ["self","k"] vs) H:=by
 obtain⟨p,n,r,c,w,k,rfl,T,L,q⟩:=h
 obtain⟨dx,e⟩:=L.ob
 push_cast[WI,↓Lk]
 exact⟨_,_,e,CB (by decide +kernel),_,_,_,e,T.cl,T.n1,_,P9,p,n,r,c,w,k,_,rfl,T,L,q⟩
theorem Yv(h:JH K a vs H Q E):WJ K a (λ_=>E) (A9 Q) (start ["self","k"] vs) H:=by
 obtain⟨p,n,r,c,w,k,rfl,T,L,q⟩:=h
 obtain⟨dx,e⟩:=L.ob
 push_cast[WJ,↓Ll]
 refine⟨_,_,e,CB (by decide +kernel),_,_,_,e,T.cl,T.n1,_,P9,_,_,_,e,T.cl,T.n2,_,NO,?_⟩
 push_cast[]
 exact⟨p,n,r,c,w,k,_,rfl,T,L,q⟩
theorem Yw(h:JI K a vs H Q E):WK K a (λ_=>E) (A9 Q) (start ["self","k"] vs) H:=by
 obtain⟨p,n,r,c,w,k,rfl,T,L,q⟩:=h
 obtain⟨dx,e⟩:=L.ob
 push_cast[WK,↓Lm]
 exact⟨_,_,e,CB (by decide +kernel),_,_,e,CB (by decide +kernel),p,n,r,c,w,rfl,T,L,p,n,r,c,w,k,_,rfl,T,L,q⟩
theorem Yx(h:HL K a vs H Q E):WL K a (λ_=>E) (A9 Q) (start ["self","k"] vs) H:=by
 obtain⟨p,n,r,c,w,k,rfl,T,L,q⟩:=h
 obtain⟨dx,e⟩:=L.ob
 push_cast[WL,↓Lp]
 refine⟨_,_,e,CB (by decide +kernel),_,_,e,CB (by decide +kernel),p,n,r,c,w,rfl,T,L,_,_,_,e,T.cl,T.n2,_,NO,?_⟩
 push_cast[]
 exact⟨p,n,r,c,w,k,_,rfl,T,L,q⟩
theorem Yy(h:KF K a vs H Q E):VO K a (λ_=>E) (A9 Q) (start ["self"] vs) H:=by
 obtain⟨p,n,r,c,w,rfl,T,L,q⟩:=h
 obtain⟨dx,e⟩:=L.ob
 push_cast[VO,↓Hh]
 refine⟨_,_,_,e,T.cl,T.n1,_,P9,_,_,_,e,T.cl,T.n2,_,NO,?_⟩
 push_cast[]
 refine⟨_,_,_,e,T.cl,T.n3,_,UV,?_⟩
 push_cast[]
 exact q
theorem Yz(h:JJ K a vs H Q E):WM K a (λ_=>E) (A9 Q) (start ["self"] vs) H:=by
 obtain⟨p,n,r,c,w,rfl,T,L,q⟩:=h
 obtain⟨dx,e⟩:=L.ob
 push_cast[WM,↓Lq]
 refine⟨_,_,e,CB (by decide +kernel),p,n,r,c,w,rfl,T,L,_,_,_,e,T.cl,T.n2,_,NO,?_⟩
 push_cast[]
 refine⟨_,_,_,e,T.cl,T.n3,_,UV,?_⟩
 push_cast[]
 exact q
theorem Zb(h:G5 K a vs H Q E):VN K a (λ_=>E) (A9 Q) (start ["self"] vs) H:=by
 obtain⟨p,n,r,c,w,rfl,T,L,q⟩:=h
 obtain⟨dx,e⟩:=L.ob
 obtain⟨_,b1,b2,b3,b4,b5⟩:=L
 push_cast[VN,↓Hg]
 refine⟨_,_,_,e,T.cl,T.n1,_,P9,_,_,_,e,T.cl,T.n4,_,L7,?_⟩
 push_cast[]
 refine⟨.inl ⟨by omega,by omega⟩,_,_,_,e,T.cl,T.n2,_,NO,_,_,_,e,T.cl,T.n4,_,L7,?_⟩
 push_cast[]
 refine⟨.inl ⟨by omega,by omega⟩,_,_,_,e,T.cl,T.n3,_,UV,_,_,_,e,T.cl,T.n4,_,L7,?_⟩
 push_cast[]
 exact⟨.inl ⟨by omega,by omega⟩,by decide,q⟩
theorem Zc(h:QD K a vs H Q E):WP K a (λ_=>E) (A9 Q) (start ["self"] vs) H:=by
 obtain⟨p,n,r,c,w,rfl,T,TP,L,q⟩:=h
 obtain⟨dx,e⟩:=L.ob
 have LL:=L
 obtain⟨_,b1,b2,b3,b4,b5⟩:=L
 push_cast[WP,↓Lx]
 refine⟨_,_,e,CB (by decide +kernel),p,n,r,c,w,rfl,T,LL,_,_,_,e,T.cl,T.n4,_,L7,λx dx' hx hdx hne=> ?_⟩
 have s3:Same H (upd (upd H dx' (.own x)) x (.ins (a "Plank") dx' [])):=(AO hdx).trans (AO (by rw[AF hne.symm];exact hx))
 refine⟨x,dx',n+r+c+r+c,w,by simp,TP,AE,by omega,b4,by omega,λcl H2 A8 P2 s4=>⟨rfl,q x cl H2 hx (s3.free A8) P2 λb o eb=>s4 _ _ (s3 _ _ eb) (BM eb hx)⟩⟩
theorem Zd{f:Nat->Bool}{m i:Nat}(hi:i<m)(h:f i=true)(hl:∀ j<i,f j=false):EL f m=i:=by
 unfold EL
 have:(List.range m).find? f=some i:=by
  rw[List.find?_eq_some_iff_append]
  refine⟨h,List.range i,(List.range (m - i - 1)).map (i+1+·),?_,λj hj=>by rw[hl j (List.mem_range.mp hj)];rfl⟩
  have e1:m=i+(1+(m - i - 1)):=by omega
  conv=>lhs;rw[e1]
  rw[List.range_add,List.range_add]
  simp[Nat.add_assoc,Function.comp_def]
 rw[this]
theorem Zg{f:Nat->Bool}{m:Nat}(hl:∀ j<m,f j=false):EL f m= -1:=by
 unfold EL
 have:(List.range m).find? f=none:=List.find?_eq_none.mpr λj hj=>by rw[hl j (List.mem_range.mp hj)];exact Bool.false_ne_true
 rw[this]
theorem Zh{n:Nat}{H:Hp}{v:V}{xs:List V}(hx:∀ z∈xs,QP z)(hv:GoodV n H v)(hf:GQ v=true):KU v xs=decide (v∈xs):=by
 rw[Bool.eq_iff_iff,decide_eq_true_iff]
 unfold KU
 rw[List.any_eq_true]
 have key:∀ z,QP z->(HG z v=true↔z=v):=λz hz=>by
  rcases hz with rfl | ⟨i,rfl⟩<;>(cases v<;>first | (simp[HG];done) | (cases n<;>exact hv.elim) | (simp[GQ]at hf))
 constructor
 ·rintro ⟨z,hz,e⟩
  rw[<-(key z (hx z hz)).mp e];exact hz
 ·intro h
  exact⟨v,h,(key v (hx v h)).mpr rfl⟩
def EU(H H':Hp):Prop:=∀ b xs,H b=some (.tup xs)->H' b=some (.tup xs)
theorem GoodV.keep{H H':Hp}(k:EU H H'):∀ {n:Nat} {v:V},GoodV n H v->GoodV n H' v
 | 0,_,h=>h
 | _+1,.int _,_=>trivial
 | _+1,.non,_=>trivial
 | _+1,.str _,h=>h
 | n+1,.ref p,⟨xs,h1,h2,h3⟩=>⟨xs,k _ _ h1,h2,λv hv=>(h3 v hv).keep k⟩
theorem Same.tk{H H':Hp}(s:Same H H'):EU H H':=λb xs e=>s _ _ e
theorem Zj{v:V}{vl:Addr}{xs:List V}(hg:GoodV 4 H v)(hv:H vl=some (.tup xs))(hx:∀ z∈xs,QP z)(q:Q (.bl (decide (v∈xs))) H):PM K v (.ref vl) H Q:=by
 have fx:xs.all GQ=true:=List.all_eq_true.mpr λz hz=>by rcases hx z hz with rfl | ⟨i,rfl⟩<;>rfl
 have flat:GQ v=true->PM K v (.ref vl) H Q:=λhf=>.inl ⟨vl,xs,rfl,.inr (SqT.of hv),hf,fx,by
  show Q (.bl (KU v xs)) H
  rw[Zh hx hg hf];exact q⟩
 cases v with
 | ref t =>
  obtain⟨ys,e,_⟩:=hg
  have:decide ((V.ref t)∈xs)=false:=decide_eq_false λhm=>by rcases hx _ hm with z | ⟨i,z⟩<;>cases z
  rw[this]at q
  exact .inr ⟨t,ys,vl,xs,rfl,SqT.of e,rfl,SqT.of hv,hx,q⟩
 | int i=>exact flat rfl
 | non=>exact flat rfl
 | str z=>exact flat rfl
 | _=>exact hg.elim
theorem Zk(h:JL K a vs H Q E):WW K a (λ_=>E) (A9 Q) (start ["hold","places","values","k","place"] vs) H:=by
 obtain⟨A,w,rows,n,cs,outs,pl,vl,ts,xs,f,m,rfl,T,TP,B,hp,hm,hm2,hv,hx,hf,q,qe⟩:=h
 obtain⟨dx,ho⟩:=B.bk.ob
 push_cast[WW,↓Ph]
 refine⟨⟨_,SqL.of hp⟩,eY (xs:=ts.map V.ref) (λi σ H'=>(Same H H'/\∀ j<i,f j=false)/\∃ x y,σ=[some (.ref A.b),some (.ref pl),some (.ref vl),x,y]) ⟨⟨Same.refl _,λj hj=>absurd hj (Nat.not_lt_zero _)⟩,_,_,rfl⟩ (λi σ H' _ ⟨⟨s,_⟩,_⟩=>SqL.of (s _ _ hp)) (λi x σ H' t hx' ⟨⟨s,lo⟩,x0,y0,ez⟩ ht=> ?_) (λσ H' ⟨⟨s,lo⟩,x0,y0,ez⟩=> ?_)⟩
 ·subst ez
  rw[List.getElem?_map]at hx'
  cases et:ts[i]? with
  | none=>rw[et]at hx';cases hx'
  | some tt =>
   rw[et]at hx'
   cases hx'
   obtain⟨bi,bj,v,e1,on,ev,gv,ef⟩:=hf i tt et
   have s2:=s.trans (AO (o:=.tup [.int (i:Int),.ref tt]) ht)
   push_cast[]
   refine⟨_,SqT.of AE,rfl,_,_,rfl,_,_,rfl,rfl,?_⟩
   revert s2
   generalize upd H' t (.tup [.int (i:Int),.ref tt])=H2
   intro s2
   push_cast[↓Pg,↓Pd]
   refine⟨_,_,s2 _ _ ho,DU (by decide +kernel),A,w,rows,n,cs,outs,tt,bi,bj,rfl,T,TP,B.same s2,s2 _ _ e1,λ_ v' H3 ev' s3=> ?_,λz=>absurd on z⟩
   rw[ev]at ev'
   cases ev'
   have s4:=s2.trans s3
   refine Zj (gv.keep s4.tk) (s4 _ _ hv) hx ?_
   rw[<-ef]
   push_cast[]
   cases hfi:f i with
   | true=>exact q i (Zd (by have:=(List.getElem?_eq_some_iff.mp et).1;omega) hfi lo) _ s4
   | false=>exact⟨s4,λj hj=>by
     rcases Nat.lt_or_ge j i with z | z
     ·exact lo j z
     ·rw[show j=i by omega];exact hfi⟩
 ·subst ez
  push_cast[↓Pj]
  rw[List.length_map,hm]at lo
  exact⟨by decide,qe (Zg lo) _ s⟩
theorem XW{m w:Nat}{B:Nat->Int}{te:TE}{cap:List Nat}{σ:St}{H:Hp}{Q:VK}(hm:m<=1000)(ht:∀ i H' Q',i<m->Same H H'->G0 (B i) (i % w:Nat) Q' H'->te (some (.int (0+(i:Int)))::EI cap σ) H' Q')
  (q:∀ (ts:List Addr) (H':Hp) (l:Addr),ts.length=m->Same H H'->(∀ k t,ts[k]? =some t->H' t=some (.tup [.int (B k),.int (k % w:Nat)]))->H' l=some (.lst (ts.map V.ref))->Q (.ref l) H'):IF (HD 0 m) (AN 0) DO te 1 cap σ H Q:=by
 refine NH (CM m (by omega)) (λi ys H'=>Same H H'/\∃ ts:List Addr,ys=ts.map V.ref/\ts.length=i/\∀ k t,ts[k]? =some t->H' t=some (.tup [.int (B k),.int (k % w:Nat)])) ⟨Same.refl _,[],rfl,rfl,λk t h=>by simp at h⟩ (λi ys H' hi hl hzz=> ?_) λys H' hl ⟨s,ts,e,el,h⟩ l hl'=> ?_
 ·obtain⟨s,ts,e,el,h⟩:=hzz
  refine ht i H' _ hi s λt htn=> ?_
  have st:=AO (o:=.tup [.int (B i),.int (i % w:Nat)]) htn
  refine⟨s.trans st,ts++[t],by rw[e,List.map_append];rfl,by simp[el],λk t' hk=> ?_⟩
  rcases Nat.lt_or_ge k ts.length with z | z
  ·rw[List.getElem?_append_left z]at hk
   exact st _ _ (h k t' hk)
  ·rw[List.getElem?_append_right z]at hk
   have hk0:k - ts.length=0:=by
    rcases Nat.eq_zero_or_pos (k - ts.length)with z | z
    ·exact z
    ·rw[List.getElem?_eq_none (by simp;omega)]at hk;cases hk
   rw[hk0]at hk
   cases hk
   have:k=i:=by omega
   subst this
   exact AE
 ·subst e
  have st:=AO (o:=.lst (ts.map V.ref)) hl'
  exact q ts _ l (by simpa using hl) (s.trans st) (λk t hk=>st _ _ (h k t hk)) AE
theorem qS{rows:List (List V)}{w i j:Nat}(hw:∀ r∈rows,r.length=w)(hi:i<rows.length)(hj:j<w)(cs:List Ch):∃ v,EF cs rows i j=some v:=by
 unfold EF
 cases e:D6 cs i j with
 | some k =>
  have:=P0 e
  exact⟨_,by show(cs[k]?).map _=_;rw[List.getElem?_eq_getElem this];rfl⟩
 | none =>
  have er:=List.getElem?_eq_getElem hi
  have hl:=hw _ (List.mem_of_getElem? er)
  exact⟨rows[i][j],by show(rows[(i:Int).toNat]?).bind (λr=>r[(j:Int).toNat]?)=_;rw[Int.toNat_natCast,Int.toNat_natCast,er];exact List.getElem?_eq_getElem (by omega)⟩
theorem Zl{n r c w kind k:Nat}(hk:kind<3)(h:k<AY n r c w kind):A5 n r c w kind k<n+r+c+r+c:=by
 unfold AY at h
 unfold A5
 have hd:k / w<(if kind=0 then n else if kind=1 then r else if kind=2 then c else if kind=3 then r else c):=Nat.div_lt_of_lt_mul (by rw[Nat.mul_comm];exact h)
 rcases(by omega:kind=0\/kind=1\/kind=2)with z | z | z<;>subst z<;>simp at hd ⊢ <;>omega
theorem qT{n r c w kind k:Nat}(h:k<AY n r c w kind):1<=w:=by
 unfold AY at h
 rcases Nat.eq_zero_or_pos w with z | z
 ·rw[z,Nat.mul_zero]at h;omega
 ·exact z
theorem RJ{n r c w kind:Nat}(h1:n<=6)(h2:r<=6)(h3:c<=6)(h4:w<=6):AY n r c w kind<=36:=by
 unfold AY
 have h:(if kind=0 then n else if kind=1 then r else if kind=2 then c else if kind=3 then r else c)<=6:=by
  split<;>(try split)<;>(try split)<;>(try split)<;>omega
 exact Nat.mul_le_mul h h4
def MO(kind:Nat):List V:=if kind=0 then [.non]else [.non,.int 0]
theorem Zm(kind:Nat)(v:V):decide (v∈MO kind)=JK kind v:=by
 unfold MO JK
 by_cases h:kind=0
 ·subst h;simp
 ·rw[if_neg h];simp[Nat.pos_of_ne_zero h]
theorem XX{kind:Nat}{A:BA}{n r c w:Nat}{rows:List (List V)}{nn:Nat}{cs:List Ch}{outs:Int->Bool}{ts:List Addr}{l:Addr}{H':Hp}(hk:kind<3)(T:TB K a)(TP:ED K a)(s:Same H H')(B:EE a H A w rows nn cs outs)(hM:rows.length=n+r+c+r+c)(h1:n<=6)(h2:r<=6)(h3:c<=6)(h4:w<=6)
  (gh:∀ i j v,EF cs rows i j=some v->GoodV 4 H v) (hts:ts.length=AY n r c w kind) (ht:∀ k t,ts[k]? =some t->H' t=some (.tup [.int (A5 n r c w kind k:Nat),.int (k % w:Nat)])) (el:H' l=some (.lst (ts.map V.ref)))
  (q:∀ k:Nat,EL (KH cs rows n r c w kind) (AY n r c w kind)=k->∀ H',Same H H'->Q (.int k) H') (qe:EL (KH cs rows n r c w kind) (AY n r c w kind)= -1->∀ H',Same H H'->E (.ref (a "NoRoom")) none H') :
  ∀ u,H' u=none->JL K a [.ref A.b,.ref l,.ref u] (upd H' u (.tup (MO kind))) Q E:=λu hu=>by
 have su:=AO (o:=.tup (MO kind)) hu
 have s2:=s.trans su
 refine⟨A,w,rows,nn,cs,outs,l,u,ts,MO kind,KH cs rows n r c w kind,AY n r c w kind,rfl,T,TP,B.same s2,su _ _ el,hts,by have:=RJ (kind:=kind) h1 h2 h3 h4;omega,AE,λz hz=> ?_,λk t hkt=> ?_,λk hk' H3 s3=>q k hk' H3 (s2.trans s3),λhk' H3 s3=>qe hk' H3 (s2.trans s3)⟩
 ·unfold MO at hz
  split at hz<;>simp at hz
  ·exact .inl hz
  ·rcases hz with z | z
   ·exact .inl z
   ·exact .inr ⟨0,z⟩
 ·have BK:k<AY n r c w kind:=by have:=(List.getElem?_eq_some_iff.mp hkt).1;omega
  have hb:=Zl hk BK
  have hw:=qT BK
  have hj:k % w<w:=Nat.mod_lt _ (by omega)
  obtain⟨v,ev⟩:=qS (λr' hr'=>B.pk.wd r' hr') (show A5 n r c w kind k<rows.length by omega) hj cs
  refine⟨_,_,v,su _ _ (ht k t hkt),⟨by omega,by omega,by omega,by omega⟩,ev,(gh _ _ _ ev).keep s2.tk,?_⟩
  unfold KH
  rw[ev,Zm]
theorem Zp(h:MB K a vs H Q E):W2 K a (λ_=>E) (A9 Q) (start ["layout","hold","places"] vs) H:=by
 obtain⟨p,b,rfl,A,n,r,c,w,rows,nn,cs,outs,rfl,T,TP,TL,L,h1,h2,h3,h4,B,hM,gh,q,qe⟩:=h
 obtain⟨dx,e⟩:=L.ob
 push_cast[W2,↓Px,↓Py]
 refine⟨_,_,e,CB (by decide +kernel),p,n,r,c,w,rfl,TL,L,λt ht=> ?_⟩
 have s1:=AO (o:=.tup [V.int ((n:Int) * w),V.int ((r:Int) * w),V.int ((c:Int) * w)]) ht
 refine DG AE (n:=0) rfl rfl ?_
 revert s1
 generalize upd H t (.tup [V.int ((n:Int) * w),V.int ((r:Int) * w),V.int ((c:Int) * w)])=H1
 intro s1
 have hk:=RJ (kind:=0) h1 h2 h3 h4
 have em:(n:Int) * w=(AY n r c w 0:Nat):=by unfold AY;simp
 rw[em]
 push_cast[]
 refine⟨by omega,by omega,XW (B:=λk=>(A5 n r c w 0 k:Nat)) (w:=w) (by omega) (λi H' Q' hi s' q'=> ?_) λts H' l hts s' htt el=> ?_⟩
 ·push_cast[EI]
  refine⟨_,_,s' _ _ (s1 _ _ e),CB (by decide +kernel),p,n,r,c,w,i,(by simp),TL,(L.same s1).same s',?_⟩
  unfold A5 at q'
  simpa using q'
 ·push_cast[]
  exact⟨by decide,XX (kind:=0) (by decide) T TP (s1.trans s') B hM h1 h2 h3 h4 gh hts htt el q qe⟩
theorem Zq(h:QR K a vs H Q E):W3 K a (λ_=>E) (A9 Q) (start ["layout","hold","marks"] vs) H:=by
 obtain⟨p,b,rfl,A,n,r,c,w,rows,nn,cs,outs,rfl,T,TP,TL,L,h1,h2,h3,h4,B,hM,gh,q,qe⟩:=h
 obtain⟨dx,e⟩:=L.ob
 push_cast[W3,↓Pz,↓Qb]
 refine⟨_,_,e,CB (by decide +kernel),p,n,r,c,w,rfl,TL,L,λt ht=> ?_⟩
 have s1:=AO (o:=.tup [V.int ((n:Int) * w),V.int ((r:Int) * w),V.int ((c:Int) * w)]) ht
 refine DG AE (n:=1) rfl rfl ?_
 revert s1
 generalize upd H t (.tup [V.int ((n:Int) * w),V.int ((r:Int) * w),V.int ((c:Int) * w)])=H1
 intro s1
 have hk:=RJ (kind:=1) h1 h2 h3 h4
 have em:(r:Int) * w=(AY n r c w 1:Nat):=by unfold AY;simp
 rw[em]
 push_cast[]
 refine⟨by omega,by omega,XW (B:=λk=>(A5 n r c w 1 k:Nat)) (w:=w) (by omega) (λi H' Q' hi s' q'=> ?_) λts H' l hts s' htt el=> ?_⟩
 ·push_cast[EI]
  refine⟨_,_,s' _ _ (s1 _ _ e),CB (by decide +kernel),p,n,r,c,w,i,(by simp),TL,(L.same s1).same s',?_⟩
  unfold A5 at q'
  simpa using q'
 ·push_cast[]
  exact⟨by decide,XX (kind:=1) (by decide) T TP (s1.trans s') B hM h1 h2 h3 h4 gh hts htt el q qe⟩
theorem Zv(h:QS K a vs H Q E):W4 K a (λ_=>E) (A9 Q) (start ["layout","hold","marks"] vs) H:=by
 obtain⟨p,b,rfl,A,n,r,c,w,rows,nn,cs,outs,rfl,T,TP,TL,L,h1,h2,h3,h4,B,hM,gh,q,qe⟩:=h
 obtain⟨dx,e⟩:=L.ob
 push_cast[W4,↓Qc,↓Qd]
 refine⟨_,_,e,CB (by decide +kernel),p,n,r,c,w,rfl,TL,L,λt ht=> ?_⟩
 have s1:=AO (o:=.tup [V.int ((n:Int) * w),V.int ((r:Int) * w),V.int ((c:Int) * w)]) ht
 refine DG AE (n:=2) rfl rfl ?_
 revert s1
 generalize upd H t (.tup [V.int ((n:Int) * w),V.int ((r:Int) * w),V.int ((c:Int) * w)])=H1
 intro s1
 have hk:=RJ (kind:=2) h1 h2 h3 h4
 have em:(c:Int) * w=(AY n r c w 2:Nat):=by unfold AY;simp
 rw[em]
 push_cast[]
 refine⟨by omega,by omega,XW (B:=λk=>(A5 n r c w 2 k:Nat)) (w:=w) (by omega) (λi H' Q' hi s' q'=> ?_) λts H' l hts s' htt el=> ?_⟩
 ·push_cast[EI]
  refine⟨_,_,s' _ _ (s1 _ _ e),CB (by decide +kernel),p,n,r,c,w,i,(by simp),TL,(L.same s1).same s',?_⟩
  unfold A5 at q'
  simpa using q'
 ·push_cast[]
  exact⟨by decide,XX (kind:=2) (by decide) T TP (s1.trans s') B hM h1 h2 h3 h4 gh hts htt el q qe⟩
theorem qU{cs:List Ch}{rows:List (List V)}(g:goodH H cs rows){i j:Int}{v:V}(h:EF cs rows i j=some v):GoodV 4 H v:=by
 unfold EF at h
 cases e:D6 cs i j with
 | some k =>
  rw[e]at h
  have h:(cs[k]?).map (·.val)=some v:=h
  cases ec:cs[k]? with
  | none=>rw[ec]at h;cases h
  | some c =>
   rw[ec]at h
   cases h
   exact g.2 c (List.mem_of_getElem? ec)
 | none =>
  rw[e]at h
  have h:(rows[i.toNat]?).bind (λr=>r[j.toNat]?)=some v:=h
  cases er:rows[i.toNat]? with
  | none=>rw[er]at h;cases h
  | some r =>
   rw[er]at h
   exact g.1 r (List.mem_of_getElem? er) v (List.mem_of_getElem? h)
theorem goodH.keep{H H':Hp}{cs:List Ch}{rows:List (List V)}(g:goodH H cs rows)(k:EU H H'):goodH H' cs rows:=⟨λr hr v hv=>(g.1 r hr v hv).keep k,λc hc=>(g.2 c hc).keep k⟩
theorem Zw{cs:List Ch}{rows:List (List V)}{i j:Int}{bi bj:Nat}{v:V}{nd:List Int}:EF (cs++[⟨bi,bj,v,nd⟩]) rows i j=if(bi:Int)=i/\(bj:Int)=j then some v else EF cs rows i j:=by
 unfold EF
 rw[UM]
 by_cases h:(bi:Int)=i/\(bj:Int)=j
 ·rw[if_pos h,if_pos h]
  simp
 ·rw[if_neg h,if_neg h]
  cases e:D6 cs i j with
  | none=>rfl
  | some k =>
   show((cs++[_])[k]?).map _=(cs[k]?).map _
   rw[List.getElem?_append_left (P0 e)]
theorem JO{G:Addr->Prop}{H H':Hp}(s:SameBut G H H')(g:∀ x,G x->D7 (H x)):EU H H':=λb xs e=>s _ _ e λz=>(g _ z).1 _ e
theorem qV{z:Str}{i:Int}{n:Nat}{c:Nat}{Q:VK}(hi:i=n)(hL:z.cps.toList.length<=1000)(hc:z.cps.toList[n]? =some c)(q:Q (.str ⟨#[c]⟩) H):CP K (.str z) (.int i) H Q:=by
 subst hi
 exact .inr (.inr ⟨z,n,c,rfl,rfl,Nat.le_trans (by simpa [Str.length]using hL) (CM _ (by omega)),OU hc,q⟩)
theorem Zx{c:Nat}:[c]<(Str.ofString " ").cps.toList↔c<32:=by
 rw[show(Str.ofString " ").cps.toList=[32] by decide +kernel,List.cons_lt_cons_iff]
 simp
theorem Zy{c:Nat}:(Str.ofString "~").cps.toList<[c]↔126<c:=by
 rw[show(Str.ofString "~").cps.toList=[126] by decide +kernel,List.cons_lt_cons_iff]
 simp
theorem Zz{c:Nat}:[c]<(Str.ofString "a").cps.toList↔c<97:=by
 rw[show(Str.ofString "a").cps.toList=[97] by decide +kernel,List.cons_lt_cons_iff]
 simp
theorem zaa{c:Nat}:(Str.ofString "z").cps.toList<[c]↔122<c:=by
 rw[show(Str.ofString "z").cps.toList=[122] by decide +kernel,List.cons_lt_cons_iff]
 simp
theorem zab(h:QT K a vs H Q E):VF K a (λ_=>E) (A9 Q) (start ["sign"] vs) H:=by
 obtain⟨c,rfl,q⟩:=h
 push_cast[VF,↓Gj,Zx,Zy]
 unfold UZ at q
 split
 ·rename_i h1
  split
  ·rename_i h2
   rw[show decide (32<=c)=true from decide_eq_true (by omega),show decide (c<=126)=true from decide_eq_true (by omega)]at q
   refine⟨rfl,?_⟩
   have e:(!decide (((#[c].getD 0 0:Nat):Int)=37))=decide (c≠37):=by
    rw[show(#[c]:Array Nat).getD 0 0=c from rfl,<-decide_not]
    exact decide_eq_decide.mpr (by omega)
   rw[e]
   simpa using q
  ·rename_i h2
   rw[show decide (c<=126)=false from decide_eq_false (by omega)]at q
   simpa using q
 ·rename_i h1
  rw[show decide (32<=c)=false from decide_eq_false (by omega)]at q
  simpa using q
theorem qW{z:Str}{f:Nat->Bool}{te:TE}{Q:VK}(hz:z.length<=1000)(ht:∀ c (Q':VK),Q' (.bl (f c)) H->te [some (.str ⟨#[c]⟩)] H Q')(q:∀ H',Same H H'->Q (.bl (z.cps.toList.all f)) H') :
  IF (NJ z) (AN 0) DO te 1 [] [some (.str z)] H λx H1=>NK K [x] H1 Q:=by
 have hs:z.cps.size=z.length:=rfl
 refine Am (CM _ (by omega)) (λi ys H'=>H'=H/\ys=(z.cps.toList.take i).map λc=>V.bl (f c)) ⟨rfl,by simp⟩ (λi c ys H' hc hl ⟨e1,e2⟩=> ?_) (λys H' hl ⟨e1,e2⟩ p hp=> ?_)
 ·subst e1
  refine ht c _ ⟨rfl,?_⟩
  have hc':z.cps.toList[i]? =some c:=by simpa using hc
  rw[List.take_add_one,hc',e2]
  simp
 ·subst e1
  have e3:ys=(z.cps.toList.map f).map V.bl:=by
   rw[e2,List.map_map,List.take_of_length_le (by simp)];rfl
  refine⟨p,z.cps.toList.map f,rfl,by rw[<-e3];exact SqL.of AE,?_⟩
  have:=q _ (AO (o:=.lst ys) hp)
  rw[List.all_map]
  exact this
theorem zac(h:QU K a vs H Q E):VG K a (λ_=>E) (A9 Q) (start ["thing"] vs) H:=by
 obtain⟨z,rfl,hz,q⟩:=h
 push_cast[VG,↓Gk]
 unfold BL at q
 refine⟨z.length,⟨CM _ (by omega),rfl⟩,?_⟩
 split
 ·rename_i h1
  rw[show decide (1<=z.length)=true from decide_eq_true (by omega),Bool.true_and]at q
  by_cases h2:z.length<=8
  ·rw[show decide (z.length<=8)=true from decide_eq_true h2,Bool.true_and]at q
   rw[if_pos (by omega)]
   refine qW hz (λc Q' q'=> ?_) q
   push_cast[Zz,zaa]
   unfold NQ at q'
   split
   ·rename_i h3
    rw[show decide (97<=c)=true from decide_eq_true (by omega),Bool.true_and]at q'
    rw[show(!decide (122<c))=decide (c<=122) by rw[<-decide_not];exact decide_eq_decide.mpr (by omega)]
    exact q'
   ·rename_i h3
    rw[show decide (97<=c)=false from decide_eq_false (by omega),Bool.false_and]at q'
    exact q'
  ·rw[show decide (z.length<=8)=false from decide_eq_false h2,Bool.false_and]at q
   rw[if_neg (by omega)]
   exact q _ (Same.refl _)
 ·rename_i h1
  rw[show decide (1<=z.length)=false from decide_eq_false (by omega),Bool.false_and,Bool.false_and]at q
  exact q _ (Same.refl _)
theorem zad(h:QW K a vs H Q E):WE K a (λ_=>E) (A9 Q) (start ["thing"] vs) H:=by
 obtain⟨z,rfl,hz,q⟩:=h
 push_cast[WE,↓Kv]
 unfold MC at q
 refine⟨z.length,⟨CM _ (by omega),rfl⟩,?_⟩
 split
 ·rename_i h1
  rw[show decide (1<=z.length)=true from decide_eq_true (by omega),Bool.true_and]at q
  by_cases h2:z.length<=40
  ·rw[show decide (z.length<=40)=true from decide_eq_true h2,Bool.true_and]at q
   rw[if_pos (by omega)]
   refine qW hz (λc Q' q'=> ?_) q
   push_cast[]
   exact⟨c,rfl,q'⟩
  ·rw[show decide (z.length<=40)=false from decide_eq_false h2,Bool.false_and]at q
   rw[if_neg (by omega)]
   exact q _ (Same.refl _)
 ·rename_i h1
  rw[show decide (1<=z.length)=false from decide_eq_false (by omega),Bool.false_and,Bool.false_and]at q
  exact q _ (Same.refl _)
theorem qX(x y:Str):(x++y).length=x.length+y.length:=PySem.strLen_append x y
theorem XY(x:Int){n:Nat}(h:1<=n):∃ b:Nat,x % (n:Int)=b/\b<n :=
  ⟨(x % (n:Int)).toNat,by have:=Int.emod_nonneg x (show(n:Int)≠0 by omega);omega,by
    have:=Int.emod_lt_of_pos x (show(0:Int)<n by omega)
    have:=Int.emod_nonneg x (show(n:Int)≠0 by omega);omega⟩
theorem zae{z:Str}{i:Int}{n:Nat}{Q:VK}(hi:i=n)(hn:n<z.length)(hz:z.length<=1000)(q:∀ c,Q (.str ⟨#[c]⟩) H):CP K (.str z) (.int i) H Q:=by
 subst hi
 have hn':n<z.cps.toList.length:=by simpa [Str.length]using hn
 exact .inr (.inr ⟨z,n,z.cps.toList[n],rfl,rfl,CM _ (by omega),OU (List.getElem?_eq_getElem hn'),q _⟩)
section
variable{lp b tk:Addr}
theorem G6:(sf lp b tk).lookup ("plan":Str)=some (V.ref lp):=by simp[sf]
theorem HP:(sf lp b tk).lookup ("book":Str)=some (V.ref b):=by
 simp[sf,List.lookup_cons,CO (a:="book") (b:="plan") (by decide +kernel)]
theorem XZ:(sf lp b tk).lookup ("taken_out":Str)=some (V.ref tk):=by
 simp[sf,List.lookup_cons,CO (a:="taken_out") (b:="plan") (by decide +kernel),CO (a:="taken_out") (b:="book") (by decide +kernel)]
theorem B8{x:Str}(h:(E3 x "plan" || E3 x "book" || E3 x "taken_out")=false):(sf lp b tk).lookup x=none:=by
 simp only[Bool.or_eq_false_iff]at h
 obtain⟨⟨h1,h2⟩,h3⟩:=h
 simp[sf,List.lookup_cons,CO h1,CO h2,CO h3]
theorem zaf:A7 "taken_out" (.ref tk) (A7 "book" (.ref b) (A7 "plan" (.ref lp) []))=sf lp b tk:=by
 repeat (first | rw[L5] | rw[L4 (by decide +kernel)])
 rfl
end
theorem zag{w k k':Nat}(h1:k / w=k' / w)(h2:k % w=k' % w):k=k':=by
 rw[<-Nat.div_add_mod k w,<-Nat.div_add_mod k' w,h1,h2]
theorem zah{f:Nat->Bool}{m k:Nat}(h:EL f m=k):k<m:=by
 unfold EL at h
 cases e:(List.range m).find? f with
 | none=>rw[e]at h;simp at h
 | some k' =>
  rw[e]at h
  have:=List.mem_range.mp (List.mem_of_find?_eq_some e)
  simp at h
  omega
theorem qY{z:Str}(h:BL z=true):PyData.strOk z=true:=by
 unfold BL at h
 rw[Bool.and_eq_true]at h
 have h:=h.2
 unfold PyData.strOk
 rw[<-Array.all_toList]
 rw[List.all_eq_true]at h ⊢
 intro c hc
 have:=h c hc
 simp only[NQ,Bool.and_eq_true,decide_eq_true_eq]at this ⊢
 omega
theorem RepC.keep{H H':Hp}(k:EU H H'):∀ {x:CV} {v:V},RepC H x v->RepC H' x v
 | .no,_,h=>h
 | .nm _ _,_,⟨t,e,et⟩=>⟨t,e,k _ _ et⟩
 | .mk _,_,h=>h
 | .rc _ _,_,⟨t,u,e,et,eu⟩=>⟨t,u,e,k _ _ et,k _ _ eu⟩
 | .tx _,_,h=>h
theorem LaidA.keep{n r c w:Nat}{H H':Hp}{cs:List Ch}{as:List AC}(k:EU H H')(h:LaidA n r c w H cs as):LaidA n r c w H' cs as:=by
 induction h with
 | nil=>exact .nil
 | snoc _ e1 e2 e3 e4 e5 e6 ih=>exact ih.snoc e1 e2 (e3.keep k) e4 e5 e6
theorem SM.same{H H':Hp}{S:SA}{n r c w:Nat}{rows:List (List V)}{nn:Nat}{cs:List Ch}{outs:Int->Bool}{tks:List (AH × V)}{M:Hs}(I:SM a H S n r c w rows nn cs outs tks M)(s:Same H H'):SM a H' S n r c w rows nn cs outs tks M:=by
 obtain⟨⟨dx,e1⟩,e2,e3,e4,e5,e6,e7,e8,e9,e10,e11,e12⟩:=I
 exact⟨⟨dx,s _ _ e1⟩,e2.same s,e3.same s,s _ _ e4,e5,e6,e7,e8,e9.keep s.tk,λkind k v h1 h2 hv=>(e10 kind k v h1 h2 hv).keep s.tk,e11,e12.keep s.tk⟩
theorem BookAt.ins1{C:Addr}{H H':Hp}{A:BA}{w:Nat}{rows:List (List V)}{n:Nat}{cs:List Ch}{outs:Int->Bool}{x C' dx:Addr}{fs:List (Str × V)}(B:BookAt a C H A w rows n cs outs)(s:SameBut (· =x) H H')(hx:H x=some (.ins C' dx fs))(hf:fs.length<=2):BookAt a C H' A w rows n cs outs:=by
 obtain⟨⟨⟨d1,e1⟩,⟨chs,e2,e3⟩,e4,e5,e6,⟨kvs,e7,e8⟩,⟨C4,e9,e10⟩,r1,r2,r3,r4,r5⟩,⟨⟨d2,f1⟩,⟨ts,f2,f3⟩,f4,f5,f6⟩,nb⟩:=B
 have o:∀ {y:Addr} {o:HO},H y=some o->(∀ C'' d'' ,o≠.ins C'' d'' fs)->H' y=some o:=λe h=>s _ _ e (BD e hx (h _ _))
 have oi:∀ {y:Addr} {C'' d'':Addr} {gs:List (Str × V)},H y=some (.ins C'' d'' gs)->2<gs.length->H' y=some (.ins C'' d'' gs):=λe h=>o e λ_ _ z=>by injection z with _ _ z;rw[z]at h;omega
 have ol:∀ {y:Addr} {o':HO},H y=some o'->(∀ C'' d'' gs,o'≠.ins C'' d'' gs)->H' y=some o':=λe h=>o e λ_ _=>h _ _ _
 exact⟨⟨⟨d1,oi e1 (by simp[bf])⟩,⟨chs,ol e2 (by intros;simp),Paired.mapP e3 λy c ⟨d,pl,nt,g1,g2,g3⟩=>⟨d,pl,nt,oi g1 (by simp[FT]),ol g2 (by intros;simp),ol g3 (by intros;simp)⟩⟩,ol e4 (by intros;simp),λi l h=>ol (e5 i l h) (by intros;simp),e6,⟨kvs,ol e7 (by intros;simp),e8⟩,⟨C4,ol e9 (by intros;simp),e10⟩,r1,r2,r3,r4,r5⟩,⟨⟨d2,oi f1 (by simp[pf])⟩,⟨ts,ol f2 (by intros;simp),Paired.mapP f3 λt r z=>ol z (by intros;simp)⟩,f4,f5,f6⟩,nb⟩
theorem zai(h:QY K a vs H Q E):WU K a (λ_=>E) (A9 Q) (start ["self","layout","plank"] vs) H:=by
 obtain⟨x,dx,lp,gp,cl,n,r,c,w,rows,nn,M,rfl,⟨T,TP,TL,TS⟩,hx,L,P,sz,g,hrp,hok,q⟩:=h
 push_cast[WU,↓Ny,↓Nz,↓Pb]
 refine⟨_,_,_,hx,TS.cl,TS.n1,by decide,?_⟩
 have e1:upd H x (.ins (a "Store") dx (A7 "plan" (.ref lp) [])) x=some (.ins (a "Store") dx (A7 "plan" (.ref lp) [])):=AE
 have s1:SameBut (· =x) H (upd H x (.ins (a "Store") dx (A7 "plan" (.ref lp) []))):=λy o e n=>by rw[AF n];exact e
 revert e1 s1
 generalize upd H x (.ins (a "Store") dx (A7 "plan" (.ref lp) []))=H1
 intro e1 s1
 have P1:PlankAt a H1 gp cl w rows nn:=by
  obtain⟨⟨dx',f1⟩,⟨ts,f2,f3⟩,r1,r2,r3⟩:=P
  exact⟨⟨dx',s1 _ _ f1 (BD f1 hx (L3 (by simp[pf])))⟩,⟨ts,s1 _ _ f2 (BD f2 hx (by intro z;cases z)),Paired.mapP f3 λt r z=>s1 _ _ z (BD z hx (by intro z;cases z))⟩,r1,r2,r3⟩
 have ncl:cl≠x:=by obtain⟨ts,z,_⟩:=P.ls;exact BD z hx (by intro z;cases z)
 refine Yb T TP P1 λA H2 eg ec off B s2=> ?_
 have hx2:=s2 _ _ e1
 refine⟨_,_,_,hx2,TS.cl,TS.n2,FI (n:=999) (by decide),λp hp=> ?_⟩
 have np:x≠p:=BM AE hp
 rw[AF np.symm]at hp
 refine⟨_,_,_,by rw[AF np,AE],TS.cl,TS.n3,FI (n:=999) (FI (n:=998) (by decide)),?_⟩
 rw[zaf]
 have s3:SameBut (· =x) H2 (upd (upd (upd H2 x (.ins (a "Store") dx (A7 "book" (.ref A.b) (A7 "plan" (.ref lp) [])))) p (.dK [])) x (.ins (a "Store") dx (sf lp A.b p))):=λy o e n=>by
  rw[AF n,AF (BM e hp),AF n];exact e
 have e3:upd (upd (upd H2 x (.ins (a "Store") dx (A7 "book" (.ref A.b) (A7 "plan" (.ref lp) [])))) p (.dK [])) x (.ins (a "Store") dx (sf lp A.b p)) x=some (.ins (a "Store") dx (sf lp A.b p)):=AE
 have p3:upd (upd (upd H2 x (.ins (a "Store") dx (A7 "book" (.ref A.b) (A7 "plan" (.ref lp) [])))) p (.dK [])) x (.ins (a "Store") dx (sf lp A.b p)) p=some (.dK []):=by rw[AF np.symm,AE]
 revert s3 e3 p3
 generalize upd (upd (upd H2 x (.ins (a "Store") dx (A7 "book" (.ref A.b) (A7 "plan" (.ref lp) [])))) p (.dK [])) x (.ins (a "Store") dx (sf lp A.b p))=H3
 intro s3 e3 p3
 have B3:=B.ins1 s3 hx2 (Nat.le_trans (M9 _ _ _) (by simp))
 have sb:SameBut (· =x) H H3:=(s1.trans (Same.sb s2)).trans s3
 have tk:EU H H3:=λb xs e=>sb _ _ e (BD e hx (by intro z;cases z))
 have hpH:H p=none:=s1.none (by rw[e1];intro z;cases z) (s2.free hp)
 obtain⟨dl,el⟩:=L.ob
 refine q ⟨A,x,lp,p⟩ H3 rfl rfl eg ec (λy o e=> ?_) hpH ⟨⟨dx,e3⟩,L.sb sb (BD el hx (L3 (by simp[lf]))),B3,p3,Nat.le_refl _,λz v h=>by simp[BJ]at h,B.off hp,sz,⟨λr hr v hv=>(g r hr v hv).keep tk,λc hc=>by cases hc⟩,λkind k v h1 h2 hv=>(hrp kind k v h1 h2 hv).keep tk,hok,.nil⟩ sb
 by_cases hy:y=x
 ·subst hy
  exact(off _ _ e1).imp id id
 ·exact off y o (s1 _ _ e hy)
section
variable{X:SX}{cs:List Ch}{tks:List (AH × V)}{M:Hs}
theorem X0{n r c w kind kind' k k':Nat}(h1:kind<5)(h2:kind'<5)(hk:k<AY n r c w kind)(hk':k'<AY n r c w kind')(e1:A5 n r c w kind k=A5 n r c w kind' k')(e2:k % w=k' % w):kind=kind'/\k=k':=by
 unfold AY at hk hk'
 unfold A5 at e1
 have d1:k / w<(if kind=0 then n else if kind=1 then r else if kind=2 then c else if kind=3 then r else c):=Nat.div_lt_of_lt_mul (by rw[Nat.mul_comm];exact hk)
 have d2:k' / w<(if kind'=0 then n else if kind'=1 then r else if kind'=2 then c else if kind'=3 then r else c):=Nat.div_lt_of_lt_mul (by rw[Nat.mul_comm];exact hk')
 have key:kind=kind'/\k / w=k' / w:=by
  generalize k / w=x at *
  generalize k' / w=y at *
  clear hk hk' e2
  rcases(by omega:kind=0\/kind=1\/kind=2\/kind=3\/kind=4)with z | z | z | z | z<;>rcases(by omega:kind'=0\/kind'=1\/kind'=2\/kind'=3\/kind'=4)with y | y | y | y | y<;>subst z<;>subst y<;>simp at d1 d2 e1 ⊢ <;>omega
 exact⟨key.1,zag key.2 e2⟩
theorem LaidA.newest{n r c w:Nat}{H:Hp}{cs:List Ch}{as:List AC}(h:LaidA n r c w H cs as){kind k:Nat}(h1:kind<5)(hk:k<AY n r c w kind):D6 cs (A5 n r c w kind k:Nat) (k % w:Nat)=D8 kind k as/\cs.length=as.length:=by
 induction h with
 | nil=>exact⟨rfl,rfl⟩
 | @snoc cs as ch x _ e1 e2 e3 e4 e5 e6 ih =>
  refine⟨?_,by rw[List.length_append,ih.2];rfl⟩
  rw[UM,ih.1,ih.2]
  show _=(if x.kind=kind/\x.k=k then some as.length else D8 kind k as)
  by_cases e:x.kind=kind/\x.k=k
  ·rw[if_pos e,if_pos ⟨by rw[e1,e.1,e.2],by rw[e2,e.2]⟩]
  ·rw[if_neg e,if_neg λz=>e (X0 e5 h1 e6 hk (by have:=z.1;rw[e1]at this;omega) (by have:=z.2;rw[e2]at this;omega))]
theorem SM.on(I:X.at a H cs tks M){kind k:Nat}(h1:kind<5)(hk:k<AY X.n X.r X.c X.w kind):A5 X.n X.r X.c X.w kind k<X.rows.length/\k % X.w<X.w:=by
 refine⟨?_,Nat.mod_lt _ (by have:=qT hk;omega)⟩
 rw[I.sz.2.2.2.2]
 unfold AY at hk
 unfold A5
 have hd:k / X.w<(if kind=0 then X.n else if kind=1 then X.r else if kind=2 then X.c else if kind=3 then X.r else X.c):=Nat.div_lt_of_lt_mul (by rw[Nat.mul_comm];exact hk)
 generalize k / X.w=x at *
 clear hk
 rcases(by omega:kind=0\/kind=1\/kind=2\/kind=3\/kind=4)with z | z | z | z | z<;>subst z<;>simp at hd ⊢ <;>omega
theorem SM.onPl(I:X.at a H cs tks M){kind k:Nat}(h1:kind<5)(hk:k<AY X.n X.r X.c X.w kind):onPl X.rows X.w (A5 X.n X.r X.c X.w kind k:Nat) (k % X.w:Nat):=by
 have:=I.on h1 hk
 exact⟨Int.natCast_nonneg _,by omega,Int.natCast_nonneg _,by omega⟩
theorem SM.val(I:X.at a H cs tks M){kind k:Nat}(h1:kind<5)(hk:k<AY X.n X.r X.c X.w kind):∃ v,EF cs X.rows (A5 X.n X.r X.c X.w kind k:Nat) (k % X.w:Nat)=some v/\RepC H (M kind k) v:=by
 obtain⟨b1,b2⟩:=I.on h1 hk
 obtain⟨v,ev⟩:=qS (λr' hr'=>I.bk.pk.wd r' hr') b1 b2 cs
 exact⟨v,ev,I.rp kind k v h1 hk ev⟩
theorem SM.snoc{H':Hp}{kind k:Nat}{v:V}{x:CV}{nd:List Int}{nd':List Nat}(hd:∀ y:Int,y∈nd↔(∃ j∈nd',y=(j:Nat))\/gG cs (A5 X.n X.r X.c X.w kind k:Nat) (k % X.w:Nat) y)(I:X.at a H cs tks M)(h1:kind<5)(hk:k<AY X.n X.r X.c X.w kind)(B:EE a H' X.S.A X.w X.rows X.nn (cs++[⟨A5 X.n X.r X.c X.w kind k,k % X.w,v,nd⟩]) X.outs)(s:SameBut X.S.A.F H H')(g:GoodV 4 H' v)(rx:RepC H' x v)(ox:EG kind x):X.at a H' (cs++[⟨A5 X.n X.r X.c X.w kind k,k % X.w,v,nd⟩]) tks (M.put kind k x nd'):=by
 have lo:∀ x,X.S.A.F x->D7 (H x):=λx hx=>I.bk.loose hx
 have tk:EU H H':=JO s lo
 obtain⟨⟨dx,e1⟩,e2,e3,e4,e5,e6,e7,e8,e9,e10,e11,e12⟩:=I
 obtain⟨dl,el⟩:=e2.ob
 refine⟨⟨dx,s _ _ e1 λz=>(lo _ z).2 _ _ _ e1⟩,e2.sb s λz=>(lo _ z).2 _ _ _ el,B,s _ _ e4 e7,by rw[List.length_append];omega,λz v h=> ?_,e7,e8,⟨(e9.keep tk).1,λc hc=> ?_⟩,λkind' k' v' h1' hk' hv=> ?_,λkind' k' h1' hk'=> ?_,(e12.keep tk).snoc rfl rfl rx (λy=>by rw[hd];unfold gG;rw[(e12.newest h1 hk).1]) h1 hk⟩
 ·obtain⟨k,ek,hk⟩:=e6 z v h
  exact⟨k,ek,by rw[List.length_append];omega⟩
 ·rcases List.mem_append.mp hc with y | y
  ·exact(e9.keep tk).2 c y
  ·rw[List.mem_singleton.mp y];exact g
 ·rw[Zw]at hv
  rw[Hs.put_at]
  by_cases hp:kind'=kind/\k'=k
  ·obtain⟨rfl,rfl⟩:=hp
   rw[if_pos ⟨rfl,rfl⟩]at hv ⊢
   cases hv
   exact rx
  ·rw[if_neg λy=>hp (by
    have:=X0 h1 h1' hk hk' (by omega) (by omega)
    exact⟨this.1.symm,this.2.symm⟩)]at hv
   rw[if_neg hp]
   exact(e10 kind' k' v' h1' hk' hv).keep tk
 ·rw[Hs.put_at]
  split
  ·rename_i y
   rw[y.1];exact ox
  ·exact e11 kind' k' h1' hk'
theorem HQ{kind k:Nat}{v:V}{x:CV}{u nl:Addr}{ns:List Int}(T4:C0 K a)(I:X.at a H cs tks M)(h1:kind<5)(hk:k<AY X.n X.r X.c X.w kind)(hu:H u=some (.tup [.int (A5 X.n X.r X.c X.w kind k:Nat),.int (k % X.w:Nat)]))(hn:H nl=some (.lst (ns.map V.int)))(hl:ns.length<=60)(hcs:cs.length<990)(kn:∀ x∈ns,known cs x)(g:GoodV 4 H v)(rx:RepC H x v)(ox:EG kind x)
  (q:∀ ch H',X.at a H' (cs++[ch]) tks (M.put kind k x (JM ns))->SameBut X.S.A.F H H'->Q (.int cs.length) H'):D1 K a [.ref X.S.A.b,.ref u,v,.ref nl] H Q E:=by
 obtain⟨T,TP,TL,TS⟩:=T4
 refine⟨X.S.A,X.w,X.rows,X.nn,cs,X.outs,u,nl,v,ns,_,_,rfl,T,TP,I.bk,hu,SqL.of hn,hl,hcs,λ_ _ nd H5 pw mem B5 OC=> ?_,λy=>absurd (I.onPl h1 hk) y,λ_ ⟨x,hx,hk⟩=>absurd (kn x hx) hk⟩
 rw[Int.toNat_natCast,Int.toNat_natCast]at B5
 have tk:=JO OC λx hx=>I.bk.loose hx
 refine q _ H5 (I.snoc (λy=> ?_) h1 hk B5 OC (g.keep tk) (rx.keep tk) ox) OC
 rw[mem]
 refine or_congr ⟨λh=>⟨y.toNat,List.mem_map.mpr ⟨y,h,rfl⟩,by have:=(kn y h).1;omega⟩,λhzz=> ?_⟩ Iff.rfl
 obtain⟨j,hj,e⟩:=hzz
 obtain⟨x,hx,rfl⟩:=List.mem_map.mp hj
 have:=(kn x hx).1
 rw[show y=x by omega]
 exact hx
end
def NmV(H:Hp)(v:V):Option (Str × Nat)->Prop
 | none=>v=.non
 | some (z,k)=>∃ t,v=.ref t/\H t=some (.tup [.str z,.int k])
theorem NmV.keep{H H':Hp}{v:V}{x:Option (Str × Nat)}(h:NmV H v x)(k:EU H H'):NmV H' v x:=by
 cases x with
 | none=>exact h
 | some p=>obtain⟨t,e,et⟩:=h;exact⟨t,e,k _ _ et⟩
theorem RepC.nmv{M:Hs}{k:Nat}{v:V}(h:RepC H (M 0 k) v)(ok:EG 0 (M 0 k)):NmV H v (GE M k):=by
 unfold GE
 cases e:M 0 k with
 | no=>rw[e]at h;exact h
 | nm z r=>rw[e]at h;exact h
 | mk i=>rw[e]at ok;exact ok.elim
 | rc m ps=>rw[e]at ok;exact ok.elim
 | tx z=>rw[e]at ok;exact ok.elim
theorem zaj(h:MD K a vs H Q E):WX K a (λ_=>E) (A9 Q) (start ["self"] vs) H:=by
 obtain⟨X,cs,tks,M,rfl,⟨T,TP,TL,TS⟩,I,q⟩:=h
 obtain⟨S,n,r,c,w,rows,nn,outs⟩:=X
 dsimp only at *
 have I0:(SX.mk S n r c w rows nn outs).at a H cs tks M:=I
 obtain⟨dx,ho⟩:=I.ob
 obtain⟨dl,el⟩:=I.ly.ob
 obtain⟨db,eb⟩:=I.bk.bk.ob
 have hz:=I.sz
 have hkm:n * w<=36:=Nat.mul_le_mul hz.1 hz.2.2.2.1
 push_cast[WX,↓Pk]
 refine⟨_,_,_,ho,TS.cl,TS.n1,_,G6,S.lp,rfl,_,_,el,CB (by decide +kernel),S.lp,n,r,c,w,rfl,TL,I.ly,λt ht=> ?_⟩
 have s1:=AO (o:=.tup [V.int ((n:Int) * w),V.int ((r:Int) * w),V.int ((c:Int) * w)]) ht
 refine DG AE (n:=0) rfl rfl ?_
 revert s1
 generalize upd H t (.tup [V.int ((n:Int) * w),V.int ((r:Int) * w),V.int ((c:Int) * w)])=H1
 intro s1
 have em:(n:Int) * w=(n * w:Nat):=by simp
 rw[em]
 push_cast[]
 refine⟨by omega,by omega,NH (CM _ (by omega)) (λi ys H'=>Same H H'/\ys.length=i/\∀ k v,ys[k]? =some v->EF cs rows (A5 n r c w 0 k:Nat) (k % w:Nat)=some v) ⟨s1,rfl,λk v h=>by simp at h⟩ (λi ys H' hi hl hzz=> ?_) (λys H' hl ⟨s,_,al⟩ p hp=> ?_)⟩
 ·obtain⟨s,_,al⟩:=hzz
  push_cast[EI]
  refine⟨_,_,_,s _ _ ho,TS.cl,TS.n2,_,HP,S.A.b,rfl,_,_,s _ _ eb,DU (by decide +kernel),_,_,_,s _ _ ho,TS.cl,TS.n1,_,G6,S.lp,rfl,_,_,s _ _ el,CB (by decide +kernel),S.lp,n,r,c,w,i,by simp,TL,I.ly.same s,λu hu=> ?_⟩
  have s2:=s.trans (AO (o:=.tup [.int (0+(i:Int) / w),.int ((i:Int) % w)]) hu)
  have hm0:i<AY n r c w 0:=by simpa [AY]using hi
  refine⟨S.A,w,rows,nn,cs,outs,u,(A5 n r c w 0 i:Nat),(i % w:Nat),rfl,T,TP,I.bk.same s2,by rw[AE];simp[A5],λ_ v H3 ev s3=>⟨s2.trans s3,by simp[hl],λk v' hk=> ?_⟩,λz=>absurd (SM.onPl I0 (kind:=0) (by decide) hm0) z⟩
  rcases Nat.lt_or_ge k ys.length with z | z
  ·rw[List.getElem?_append_left z]at hk;exact al k v' hk
  ·rw[List.getElem?_append_right z]at hk
   have:k=i:=by
    rcases Nat.eq_or_lt_of_le z with y | y
    ·omega
    ·rw[List.getElem?_eq_none (by simp;omega)]at hk;cases hk
   subst this
   rw[hl,Nat.sub_self]at hk
   cases hk
   exact ev
 ·have sp:=AO (o:=.lst ys) hp
  have s3:=s.trans sp
  refine q p ys _ s3 AE hl λk v hk=> ?_
  have hkl:=(List.getElem?_eq_some_iff.mp hk).1
  exact(I.rp 0 k v (by decide) (by simp[AY];omega) (al k v hk)).keep s3.tk
theorem zak{M:Hs}{m i:Nat}{z:Str}(hi:i<m)(h:(GE M i).any (λp=>decide (p.1=z))=true)(hl:∀ j<i,(GE M j).any (λp=>decide (p.1=z))=false):cellOf M m z=some i:=by
 unfold cellOf
 rw[List.find?_eq_some_iff_append]
 refine⟨h,List.range i,(List.range (m - i - 1)).map (i+1+·),?_,λj hj=>by rw[hl j (List.mem_range.mp hj)];rfl⟩
 have e1:m=i+(1+(m - i - 1)):=by omega
 conv=>lhs;rw[e1]
 rw[List.range_add,List.range_add]
 simp[Nat.add_assoc,Function.comp_def]
theorem zal{M:Hs}{m:Nat}{z:Str}(hl:∀ j<m,(GE M j).any (λp=>decide (p.1=z))=false):cellOf M m z=none:=by
 unfold cellOf
 exact List.find?_eq_none.mpr λj hj=>by rw[hl j (List.mem_range.mp hj)];exact Bool.false_ne_true
theorem zam(h:KI K a vs H Q E):W5 K a (λ_=>E) (A9 Q) (start ["self","name","cell","value"] vs) H:=by
 obtain⟨X,cs,tks,M,z,rfl,T4,I,q⟩:=h
 obtain⟨dx,ho⟩:=I.ob
 push_cast[W5,↓Qj]
 refine⟨_,_,ho,B8 (by decide +kernel),X,cs,tks,M,rfl,T4,I,λl xs H1 s1 el hl hx=> ?_⟩
 refine⟨l,rfl,⟨_,SqL.of el⟩,eY (xs:=xs) (λi σ H'=>(Same H H'/\Same H1 H'/\∀ j<i,(GE M j).any (λp=>decide (p.1=z))=false)/\∃ x y,σ=[some (.ref X.S.st),some (.str z),x,y]) ⟨⟨s1,Same.refl _,λj hj=>absurd hj (Nat.not_lt_zero _)⟩,_,_,rfl⟩ (λi σ H' _ ⟨⟨_,s,_⟩,_⟩=>SqL.of (s _ _ el)) (λi x σ H' t hxi ⟨⟨sH,s,lo⟩,y1,y2,ez⟩ ht=> ?_) (λσ H' ⟨⟨sH,s,lo⟩,y1,y2,ez⟩=> ?_)⟩
 ·subst ez
  have hi:=(List.getElem?_eq_some_iff.mp hxi).1
  have s2:=s.trans (AO (o:=.tup [.int (i:Int),x]) ht)
  have sH2:=sH.trans (AO (o:=.tup [.int (i:Int),x]) ht)
  have nx:=((hx i x hxi).nmv (I.ok 0 i (by decide) (by rw[hl]at hi;simpa [AY]using hi))).keep s2.tk
  push_cast[]
  refine⟨_,SqT.of AE,rfl,_,_,rfl,_,_,rfl,rfl,?_⟩
  revert s2 sH2 nx
  generalize upd H' t (.tup [.int (i:Int),x])=H2
  intro s2 sH2 nx
  have next:(GE M i).any (λp=>decide (p.1=z))=false->Same H H2/\Same H1 H2/\∀ j<i+1,(GE M j).any (λp=>decide (p.1=z))=false:=λh=>⟨sH2,s2,λj hj=>by
   rcases Nat.lt_or_ge j i with y | y
   ·exact lo j y
   ·rw[show j=i by omega];exact h⟩
  push_cast[↓Qh,↓Qg]
  cases en:GE M i with
  | none =>
   rw[en]at nx next
   rw[show x=.non from nx]
   push_cast[]
   exact next rfl
  | some p =>
   rw[en]at nx next
   obtain⟨u,rfl,eu⟩:=nx
   rw[if_pos (by simp)]
   refine DG eu (n:=0) rfl rfl ?_
   push_cast[]
   by_cases hz:p.1=z
   ·rw[if_pos hz]
    have:=q _ sH2
    rw[zak (i:=i) (by omega) (by rw[en];simpa using hz) lo]at this
    exact this
   ·rw[if_neg hz]
    exact next (by simpa using hz)
 ·subst ez
  push_cast[↓Qk]
  have:=q _ sH
  rw[zal (by rw[<-hl];exact lo)]at this
  exact this
theorem zan(h:ME K a vs H Q E):W9 K a (λ_=>E) (A9 Q) (start ["self","new","given"] vs) H:=by
 obtain⟨X,cs,tks,M,z,gl,zs,rfl,T4,I,eg,hl,hy,q,q1,q2⟩:=h
 obtain⟨dx,ho⟩:=I.ob
 push_cast[W9,↓Rc]
 refine .inl ⟨⟨_,SqL.of eg⟩,Ab (xs:=zs.map V.str) (CM _ (by rw[List.length_map];omega)) (λi ys H'=>Same H H'/\ys=((zs.take i).map BL).map V.bl) ⟨Same.refl _,rfl⟩ (λi ys H' _ ⟨s,_⟩=>SqL.of (s _ _ eg)) (λi x ys H' hxi hyl ⟨s,ey⟩=> ?_) (λys H' hyl ⟨s,ey⟩ p hp=> ?_)⟩
 ·rw[List.getElem?_map,Option.map_eq_some_iff]at hxi
  obtain⟨x',hx',rfl⟩:=hxi
  push_cast[EI]
  refine⟨x',rfl,hy x' (List.mem_of_getElem? hx'),λH2 s2=>⟨s.trans s2,?_⟩⟩
  rw[List.take_add_one,hx',ey]
  simp
 ·rw[List.length_map,List.take_length]at ey
  have sp:=AO (o:=.lst ys) hp
  have s2:=s.trans sp
  refine⟨p,zs.map BL,rfl,by rw[<-ey];exact SqL.of AE,?_⟩
  rw[List.all_map,Function.id_comp]
  revert s2
  generalize upd H' p (.lst ys)=H2
  intro s2
  cases hb:zs.all BL with
  | false =>
   push_cast[↓Rb]
   exact⟨by decide,q1 hb _ s2⟩
  | true =>
   push_cast[↓Rh]
   refine⟨_,_,s2 _ _ ho,B8 (by decide +kernel),X,cs,tks,M,z,rfl,T4,I.same s2,λH3 s3=> ?_⟩
   have s4:=s2.trans s3
   cases hc:cellOf M X.m0 z with
   | none =>
    push_cast[HN]
    exact q hb hc _ s4
   | some k =>
    push_cast[HN,↓Rg]
    exact⟨by decide,q2 hb ⟨k,hc⟩ _ s4⟩
theorem JP{S:SA}{dx db gp mm mi lt ou:Addr}{mth:Str}{P:V->Prop}(TS:QX K a)(ho:H S.st=some (.ins (a "Store") dx (sf S.lp S.A.b S.tk)))(eb:H S.A.b=some (.ins (a "Hold") db (bf gp mm mi lt ou)))(hm:(bf gp mm mi lt ou).lookup mth=none)(p:P (.ref S.A.b)) :
  ∃ x x1 x2,H S.st=some (.ins x x1 x2)/\Cls K x/\NoAttr K x "book"/\∃ v,x2.lookup ("book":Str)=some v/\∃ b,v=.ref b/\∃ y y1,H b=some (.ins (a "Hold") y y1)/\y1.lookup mth=none/\P v:=⟨_,_,_,ho,TS.cl,TS.n2,_,HP,_,rfl,_,_,eb,hm,p⟩
theorem IJ{S:SA}{dx dl:Addr}{n r c w:Int}{mth:Str}{P:V->Prop}(TS:QX K a)(ho:H S.st=some (.ins (a "Store") dx (sf S.lp S.A.b S.tk)))(el:H S.lp=some (.ins (a "Layout") dl (lf n r c w)))(hm:(lf n r c w).lookup mth=none)(p:P (.ref S.lp)) :
  ∃ x x1 x2,H S.st=some (.ins x x1 x2)/\Cls K x/\NoAttr K x "plan"/\∃ v,x2.lookup ("plan":Str)=some v/\∃ b,v=.ref b/\∃ y y1,H b=some (.ins (a "Layout") y y1)/\y1.lookup mth=none/\P v:=⟨_,_,_,ho,TS.cl,TS.n1,_,G6,_,rfl,_,_,el,hm,p⟩
section
variable{p:Addr}{n r c w k:Nat}
theorem qZ(TL:DZ K a)(L:LayAt a H p n r c w)(q:G0 (0+k / w) (k % w) Q H):GB K a [.ref p,.int k] H Q E:=⟨p,n,r,c,w,k,rfl,TL,L,q⟩
theorem MP(TL:DZ K a)(L:LayAt a H p n r c w)(q:G0 (n+k / w) (k % w) Q H):FU K a [.ref p,.int k] H Q E:=⟨p,n,r,c,w,k,rfl,TL,L,q⟩
theorem rA(TL:DZ K a)(L:LayAt a H p n r c w)(q:G0 (n+r+k / w) (k % w) Q H):JH K a [.ref p,.int k] H Q E:=⟨p,n,r,c,w,k,rfl,TL,L,q⟩
theorem rB(TL:DZ K a)(L:LayAt a H p n r c w)(q:G0 (n+r+c+k / w) (k % w) Q H):JI K a [.ref p,.int k] H Q E:=⟨p,n,r,c,w,k,rfl,TL,L,q⟩
theorem lPM(TL:DZ K a)(L:LayAt a H p n r c w)(q:G0 (n+r+c+r+k / w) (k % w) Q H):HL K a [.ref p,.int k] H Q E:=⟨p,n,r,c,w,k,rfl,TL,L,q⟩
end
theorem X1{f g:Nat->Bool}:∀ {l:List Nat},(∀ k∈l,f k=g k)->l.find? f=l.find? g
 | [],_=>rfl
 | k::l,h=>by
  rw[List.find?_cons,List.find?_cons,h k List.mem_cons_self,X1 λk' hk'=>h k' (List.mem_cons_of_mem _ hk')]
theorem zap{f g:Nat->Bool}{m:Nat}(h:∀ k<m,f k=g k):EL f m=EL g m:=by
 unfold EL
 rw[X1 λk hk=>h k (List.mem_range.mp hk)]
section
variable{X:SX}{cs:List Ch}{tks:List (AH × V)}{M:Hs}
theorem SM.free(I:X.at a H cs tks M){kind:Nat}(hk:kind<3):EL (KH cs X.rows X.n X.r X.c X.w kind) (AY X.n X.r X.c X.w kind)=GG M kind (AY X.n X.r X.c X.w kind):=zap λk hkm=>by
 obtain⟨v,ev,rv⟩:=I.val (by omega:kind<5) hkm
 have ok:=I.ok kind k (by omega) hkm
 unfold KH
 rw[ev]
 show JK kind v=FV kind (M kind k)
 cases e:M kind k with
 | no=>rw[e]at rv;rw[show v=.non from rv];simp[JK,FV]
 | nm z r=>rw[e]at rv;obtain⟨t,rfl,_⟩:=rv;simp[JK,FV]
 | mk i =>
  rw[e]at rv;rw[show v=.int i from rv]
  simp[JK,FV]
 | rc m ps=>rw[e]at rv;obtain⟨t,u,rfl,_⟩:=rv;simp[JK,FV]
 | tx z=>rw[e]at rv;rw[show v=.str z from rv];simp[JK,FV]
theorem zaq{m cell:Nat}{z:Str}(h:cellOf M m z=some cell):cell<m/\∃ k,M 0 cell=.nm z k:=by
 unfold cellOf at h
 have h1:=List.mem_range.mp (List.mem_of_find?_eq_some h)
 have h2:=List.find?_some h
 unfold GE at h2
 refine⟨h1,?_⟩
 cases e:M 0 cell with
 | nm z' k =>
  rw[e]at h2
  simp at h2
  exact⟨k,by rw[h2]⟩
 | _=>rw[e]at h2;simp at h2
theorem RK{kind:Nat}(T4:C0 K a)(I:X.at a H cs tks M)(hk:kind<3)(q:∀ k:Nat,GG M kind (AY X.n X.r X.c X.w kind)=k->k<AY X.n X.r X.c X.w kind->∀ H',Same H H'->Q (.int k) H')(qe:GG M kind (AY X.n X.r X.c X.w kind)= -1->EM a H "NoRoom" E):QQ kind K a X.S.lp X.S.A.b H Q E:=by
 obtain⟨T,TP,TL,TS⟩:=T4
 obtain⟨z1,z2,z3,z4,z5⟩:=I.sz
 refine⟨X.S.A,X.n,X.r,X.c,X.w,X.rows,X.nn,cs,X.outs,rfl,T,TP,TL,I.ly,z1,z2,z3,z4,I.bk,z5,λi j v hv=>qU I.gd hv,λk e H' s=> ?_,λe H' s=> ?_⟩
 ·rw[I.free hk]at e
  exact q k e (zah e) H' s
 ·rw[I.free hk]at e
  exact qe e H' s
end
theorem zar(h:FG K a vs H Q E):WY K a (λ_=>E) (A9 Q) (start ["self","record"] vs) H:=by
 obtain⟨X,cs,tks,M,rec,rfl,⟨T,TP,TL,TS⟩,I,hr,q⟩:=h
 obtain⟨dx,ho⟩:=I.ob
 obtain⟨dl,el⟩:=I.ly.ob
 obtain⟨db,eb⟩:=I.bk.bk.ob
 have hm:rec<AY X.n X.r X.c X.w 3:=by simpa [AY]using hr
 push_cast[WY,↓Pl]
 refine JP TS (ho) (eb) (DU (by decide +kernel)) (IJ TS (ho) (el) (CB (by decide +kernel)) (MP TL (I.ly) λu hu=> ?_))
 have s2:=AO (o:=.tup [.int (X.n+(rec:Int) / X.w),.int ((rec:Int) % X.w)]) hu
 refine⟨X.S.A,X.w,X.rows,X.nn,cs,X.outs,u,(A5 X.n X.r X.c X.w 3 rec:Nat),(rec % X.w:Nat),rfl,T,TP,I.bk.same s2,by rw[AE];simp[A5],λ_ v H3 ev s3=> ?_,λz=>absurd (I.onPl (kind:=3) (by decide) hm) z⟩
 have s4:=s2.trans s3
 exact q v H3 ((I.rp 3 rec v (by decide) hm ev).keep s4.tk) s4
theorem zas(h:F5 K a vs H Q E):XA K a (λ_=>E) (A9 Q) (start ["self","name","cell"] vs) H:=by
 obtain⟨X,cs,tks,M,z,rfl,T4,I,q,qe⟩:=h
 obtain⟨dx,ho⟩:=I.ob
 push_cast[XA,↓Rj]
 refine⟨_,_,ho,B8 (by decide +kernel),X,cs,tks,M,z,rfl,T4,I,λH1 s1=> ?_⟩
 push_cast[↓Rl]
 cases e:cellOf M X.m0 z with
 | none =>
  push_cast[HN,↓Rk]
  exact⟨by decide,qe e _ s1⟩
 | some cell =>
  push_cast[HN,↓Rm]
  obtain⟨hc,k,ek⟩:=zaq e
  refine⟨_,_,s1 _ _ ho,B8 (by decide +kernel),X,cs,tks,M,rfl,T4,I.same s1,λl xs H2 s2 el hl hx=> ?_⟩
  have A8:cell<xs.length:=by rw[hl];exact hc
  have ex:=List.getElem?_eq_getElem A8
  have rx:=hx cell _ ex
  rw[ek]at rx
  obtain⟨t,et,et2⟩:=rx
  exact FF (SqL.of el) rfl ex (by rw[et];exact DG et2 (n:=1) rfl rfl (q cell k e hc ek _ (s1.trans s2)))
theorem rC{X:SX}{cs:List Ch}{tks:List (AH × V)}{M:Hs}{cell rec need:Nat}{z:Str}{nl:Addr}{ns:List Int}{H2:Hp}(T4:C0 K a)(I:X.at a H cs tks M)(hc:cell<X.m0)(hcs:cs.length<980)(hz:PyData.strOk z=true)(s:Same H H2)(en:H2 nl=some (.lst (ns.map V.int)))(hl:ns.length<=60)(kn:∀ x∈ns,known cs x)
  (q:QZ X a H cs tks (M.put 0 cell (.nm z rec) (JM ns)) Q) :
  WZ K a (λ_=>E) (λ_=>E) (A9 Q) [some (.ref X.S.st),some (.int cell),some (.str z),some (.int rec),some (.int need),some (.ref nl)] H2:=by
 have T4':=T4
 obtain⟨T,TP,TL,TS⟩:=T4
 obtain⟨dx,ho⟩:=I.ob
 obtain⟨dl,el⟩:=I.ly.ob
 obtain⟨db,eb⟩:=I.bk.bk.ob
 have hm:cell<AY X.n X.r X.c X.w 0:=by simpa [AY]using hc
 push_cast[↓Pw]
 refine JP TS (s _ _ ho) (s _ _ eb) (DU (by decide +kernel)) (IJ TS (s _ _ ho) (s _ _ el) (CB (by decide +kernel)) (qZ TL (I.ly.same s) λu hu=> ?_))
 have s2:=s.trans (AO (o:=.tup [.int (0+(cell:Int) / X.w),.int ((cell:Int) % X.w)]) hu)
 have eu:upd H2 u (.tup [.int (0+(cell:Int) / X.w),.int ((cell:Int) % X.w)]) u=some (.tup [.int (A5 X.n X.r X.c X.w 0 cell:Nat),.int (cell % X.w:Nat)]):=by rw[AE];simp[A5]
 have en2:=AO (o:=.tup [.int (0+(cell:Int) / X.w),.int ((cell:Int) % X.w)]) hu _ _ en
 revert s2 eu en2
 generalize upd H2 u (.tup [.int (0+(cell:Int) / X.w),.int ((cell:Int) % X.w)])=H3
 intro s2 eu en2
 push_cast[]
 refine⟨by decide,λt ht=> ?_⟩
 have st:=AO (o:=.tup [V.str z,V.int rec]) ht
 have s4:=s2.trans st
 have et:upd H3 t (.tup [V.str z,V.int rec]) t=some (.tup [V.str z,V.int rec]):=AE
 refine HQ T4' (I.same s4) (kind:=0) (x:=.nm z rec) (by decide) hm (st _ _ eu) (st _ _ en2) hl (by omega) kn ⟨_,et,by simp,λv hv=> ?_⟩ ⟨t,rfl,et⟩ trivial λch H' I' sb=>q ch H' I' λb o e n=>sb _ _ (s4 _ _ e) n
 simp only[List.mem_cons,List.not_mem_nil,or_false]at hv
 rcases hv with rfl | rfl
 ·exact hz
 ·trivial
theorem zat(h:MF K a vs H Q E):W0 K a (λ_=>E) (A9 Q) (start ["self","cell","name","record","need","needs"] vs) H:=by
 obtain⟨X,cs,tks,M,cell,rec,need,z,rfl,T4,I,hc,hn,hcs,hz,q⟩:=h
 obtain⟨T,TP,TL,TS⟩:=T4
 obtain⟨dx,ho⟩:=I.ob
 push_cast[W0,↓Pm,↓Pq]
 refine⟨by decide,λnl hnl=> ?_⟩
 have s1:=AO (o:=.lst [V.int need]) hnl
 refine⟨_,_,_,s1 _ _ ho,TS.cl,TS.n3,_,XZ,X.S.tk,rfl,_,dS (s1 _ _ I.tk),?_⟩
 have e1:upd H nl (.lst [V.int need]) nl=some (.lst [V.int need]):=AE
 have kn:known cs (need:Int):=⟨by omega,by omega⟩
 cases hv:BJ tks (.inr z)with
 | none =>
  rw[show DW tks z=[] by unfold DW;rw[hv]]at q
  rw[if_neg (by simp)]
  exact rC (ns:=[(need:Int)]) ⟨T,TP,TL,TS⟩ I hc hcs hz s1 e1 (by simp) (λx hx=>by rw[List.mem_singleton.mp hx];exact kn) q
 | some v =>
  obtain⟨k,rfl,hk⟩:=I.tv z v hv
  rw[show DW tks z=[k] by unfold DW;rw[hv];rfl]at q
  rw[if_pos (by simp)]
  push_cast[↓Pp]
  refine⟨.inl ⟨rfl,_,SqL.of e1⟩,_,_,_,s1 _ _ ho,TS.cl,TS.n3,_,XZ,X.S.tk,rfl,_,NM (s1 _ _ I.tk) hv,nl,_,_,rfl,rfl,e1,(by show 1<sizeLine;decide),?_⟩
  rw[HC]
  refine rC (ns:=[(need:Int),(k:Int)]) ⟨T,TP,TL,TS⟩ I hc hcs hz (AO hnl) AE (by simp) (λx hx=> ?_) q
  simp only[List.mem_cons,List.not_mem_nil,or_false]at hx
  rcases hx with rfl | rfl
  ·exact kn
  ·exact⟨by omega,by omega⟩
theorem zau{n:Nat}{H:Hp}(ps:List Nat):∀ v∈BC ps,GoodV (n+1) H v:=λv hv=>by
 obtain⟨p,_,rfl⟩:=List.mem_map.mp hv
 trivial
theorem X2{H:Hp}{t u:Addr}{m:Nat}{ps:List Nat}(h1:H t=some (.tup [.int m,.ref u]))(h2:H u=some (.tup (BC ps)))(hl:ps.length<=100):GoodV 4 H (.ref t):=⟨_,h1,by simp,λv hv=>by
 simp only[List.mem_cons,List.not_mem_nil,or_false]at hv
 rcases hv with rfl | rfl
 ·trivial
 ·exact⟨_,h2,by simp[BC];exact hl,zau ps⟩⟩
theorem zav(h:KJ K a vs H Q E):W6 K a (λ_=>E) (A9 Q) (start ["self","record","more","needs","value"] vs) H:=by
 obtain⟨X,cs,tks,M,rec,m,m',more,ps,nl,ns,rfl,T4,I,hr,eM,hm',hps,en,hl,kn,hcs,q⟩:=h
 have T4':=T4
 obtain⟨T,TP,TL,TS⟩:=T4
 obtain⟨dx,ho⟩:=I.ob
 obtain⟨dl,el⟩:=I.ly.ob
 obtain⟨db,eb⟩:=I.bk.bk.ob
 have hm:rec<AY X.n X.r X.c X.w 3:=by simpa [AY]using hr
 push_cast[W6,↓Ql]
 refine⟨_,_,ho,B8 (by decide +kernel),X,cs,tks,M,rec,rfl,T4',I,hr,λv H1 rv s=> ?_⟩
 rw[eM]at rv
 obtain⟨t0,u0,rfl,E8,FY⟩:=rv
 push_cast[↓Qm]
 refine JP TS (s _ _ ho) (s _ _ eb) (DU (by decide +kernel)) (IJ TS (s _ _ ho) (s _ _ el) (CB (by decide +kernel)) (MP TL (I.ly.same s) λu hu=> ?_))
 have sa:=AO (o:=.tup [.int (X.n+(rec:Int) / X.w),.int ((rec:Int) % X.w)]) hu
 have eu:upd H1 u (.tup [.int (X.n+(rec:Int) / X.w),.int ((rec:Int) % X.w)]) u=some (.tup [.int (A5 X.n X.r X.c X.w 3 rec:Nat),.int (rec % X.w:Nat)]):=by rw[AE];simp[A5]
 revert sa eu
 generalize upd H1 u (.tup [.int (X.n+(rec:Int) / X.w),.int ((rec:Int) % X.w)])=H2
 intro sa eu
 refine DG (sa _ _ E8) (n:=0) rfl rfl ?_
 push_cast[]
 refine DG (sa _ _ E8) (n:=1) rfl rfl ⟨by decide,λt ht=> ?_⟩
 rw[hm']
 have st:=AO (o:=.tup [V.int m',V.ref u0]) ht
 have s4:=(s.trans sa).trans st
 have e1:upd H2 t (.tup [V.int m',V.ref u0]) t=some (.tup [V.int m',V.ref u0]):=AE
 have e2:=st _ _ (sa _ _ FY)
 exact HQ T4' (I.same s4) (kind:=3) (x:=.rc m' ps) (by decide) hm (st _ _ eu) (s4 _ _ en) hl (by omega) kn (X2 e1 e2 hps) ⟨t,u0,rfl,e1,e2⟩ trivial λch H' I' sb=>q ch H' I' λb o e n=>sb _ _ (s4 _ _ e) n
theorem zaw(h:MG K a vs H Q E):W7 K a (λ_=>E) (A9 Q) (start ["self","record","pieces","needs"] vs) H:=by
 obtain⟨X,cs,tks,M,rec,m,ps,ps',pl,nl,ns,rfl,T4,I,hr,eM,epl,hps,en,hl,kn,hcs,q⟩:=h
 have T4':=T4
 obtain⟨T,TP,TL,TS⟩:=T4
 obtain⟨dx,ho⟩:=I.ob
 obtain⟨dl,el⟩:=I.ly.ob
 obtain⟨db,eb⟩:=I.bk.bk.ob
 have hm:rec<AY X.n X.r X.c X.w 3:=by simpa [AY]using hr
 push_cast[W7,↓Qp]
 refine JP TS (ho) (eb) (DU (by decide +kernel)) (IJ TS (ho) (el) (CB (by decide +kernel)) (MP TL (I.ly) λu hu=> ?_))
 have sa:=AO (o:=.tup [.int (X.n+(rec:Int) / X.w),.int ((rec:Int) % X.w)]) hu
 have eu:upd H u (.tup [.int (X.n+(rec:Int) / X.w),.int ((rec:Int) % X.w)]) u=some (.tup [.int (A5 X.n X.r X.c X.w 3 rec:Nat),.int (rec % X.w:Nat)]):=by rw[AE];simp[A5]
 revert sa eu
 generalize upd H u (.tup [.int (X.n+(rec:Int) / X.w),.int ((rec:Int) % X.w)])=H2
 intro sa eu
 push_cast[]
 refine⟨_,_,sa _ _ ho,B8 (by decide +kernel),X,cs,tks,M,rec,rfl,T4',I.same sa,hr,λv H3 rv s3=> ?_⟩
 rw[eM]at rv
 obtain⟨t0,u0,rfl,E8,FY⟩:=rv
 refine DG E8 (n:=0) rfl rfl ?_
 push_cast[]
 refine⟨by decide,λt ht=> ?_⟩
 have st:=AO (o:=.tup [V.int m,V.ref pl]) ht
 have s4:=(sa.trans s3).trans st
 have e1:upd H3 t (.tup [V.int m,V.ref pl]) t=some (.tup [V.int m,V.ref pl]):=AE
 have e2:=s4 _ _ epl
 exact HQ T4' (I.same s4) (kind:=3) (x:=.rc m ps') (by decide) hm (st _ _ (s3 _ _ eu)) (s4 _ _ en) hl (by omega) kn (X2 e1 e2 hps) ⟨t,pl,rfl,e1,e2⟩ trivial λch H' I' sb=>q ch H' I' λb o e n=>sb _ _ (s4 _ _ e) n
theorem rD{α β γ :Type}{F: α -> β ->Prop}{G: α -> γ ->Prop}{f: β -> γ}:∀ {l:List α} {m:List β},Paired F l m->(∀ x y,F x y->G x (f y))->Paired G l (m.map f)
 | _,_,.nil,_=>.nil
 | _,_,.cons h t,k=>.cons (k _ _ h) (rD t k)
theorem X3{te:TE}{cap:List Nat}{σ:St}{b:Addr}{xs:List V}(hn:xs.length<=sizeLine)(Pv:Nat->List V->Hp->Prop)(h0:Pv 0 [] H)(hq:∀ i ys H,i<=xs.length->Pv i ys H->SqT K H b xs)
  (hs:∀ i x ys H,xs[i]? =some x->ys.length=i->Pv i ys H->te (some x::EI cap σ) H λy H2=>Pv (i+1) (ys++[y]) H2)
  (hd:∀ ys H,ys.length=xs.length->Pv xs.length ys H->∀ p,H p=none->Q (.ref p) (upd H p (.lst ys))) :
  IF (IT K b) (AN 0) DO te 1 cap σ H Q:=by
 refine⟨λi m σ' ys H=>m=xs.length - i/\i<=xs.length/\ys.length=i/\(∃ x0,σ'=x0::EI cap σ)/\Pv i ys H,⟨xs.length,by simp,Nat.zero_le _,rfl,⟨none,rfl⟩,h0⟩,?_⟩
 rintro i m σ' ys H ⟨rfl,hi,hl,⟨x0,rfl⟩,p⟩
 have q:=hq i ys H hi p
 by_cases BK:i<xs.length
 ·refine .inr ⟨⟨xs,xs[i],q,by simp[BK]⟩,by omega,λx H' y=> ?_⟩
  obtain⟨e,y⟩:=y
  subst e
  have hx:=y xs q
  simp only[AN,DO,if_true]
  refine⟨_,λy H4 q=>⟨xs.length - (i+1),by omega,rfl,BK,?_,⟨_,rfl⟩,q⟩,hs i x ys _ hx hl p⟩
  rw[List.length_append,List.length_singleton,hl]
 ·have e:i=xs.length:=by omega
  subst e
  exact .inl ⟨⟨xs,q,Nat.le_refl _⟩,hd ys H hl p⟩
section
variable{X:SX}{cs:List Ch}{tks:List (AH × V)}{M:Hs}
theorem SM.lput{l:Addr}{xs ys:List V}(I:X.at a H cs tks M)(e:H l=some (.lst xs))(f:¬ X.S.A.F l):X.at a (upd H l (.lst ys)) cs tks M:=by
 have s:SameBut (· =l) H (upd H l (.lst ys)):=λy o ey n=>by rw[AF n];exact ey
 have g:∀ x,x=l->D7 (H x):=λx hx=>by rw[hx];exact K7 e
 have tk:EU H (upd H l (.lst ys)):=JO s g
 obtain⟨⟨dx,e1⟩,e2,e3,e4,e5,e6,e7,e8,e9,e10,e11,e12⟩:=I
 obtain⟨dl,el⟩:=e2.ob
 exact⟨⟨dx,s _ _ e1 (BD e1 e (by intro z;cases z))⟩,e2.sb s (BD el e (by intro z;cases z)),e3.sb s g λx hx=>by rw[hx];exact f,s _ _ e4 (BD e4 e (by intro z;cases z)),e5,e6,e7,e8,e9.keep tk,λkind k v h1 h2 hv=>(e10 kind k v h1 h2 hv).keep tk,e11,e12.keep tk⟩
theorem SM.taken{z:Str}{k:Nat}(I:X.at a H cs tks M)(hk:k<cs.length)(hl:tks.length<cs.length):X.at a (upd H X.S.tk (.dK (B7 tks (.inr z) (.int k)))) cs (B7 tks (.inr z) (.int k)) M:=by
 have s:SameBut (· =X.S.tk) H (upd H X.S.tk (.dK (B7 tks (.inr z) (.int k)))):=λy o ey n=>by rw[AF n];exact ey
 have g:∀ x,x=X.S.tk->D7 (H x):=λx hx=>by rw[hx];exact K8 I.tk
 have tk:EU H (upd H X.S.tk (.dK (B7 tks (.inr z) (.int k)))):=JO s g
 obtain⟨⟨dx,e1⟩,e2,e3,e4,e5,e6,e7,e8,e9,e10,e11,e12⟩:=I
 obtain⟨dl,el⟩:=e2.ob
 refine⟨⟨dx,s _ _ e1 (BD e1 e4 (by intro z;cases z))⟩,e2.sb s (BD el e4 (by intro z;cases z)),e3.sb s g λx hx=>by rw[hx];exact e7,AE,Nat.le_trans (KY ..) (by omega),λy v h=> ?_,e7,e8,e9.keep tk,λkind k v h1 h2 hv=>(e10 kind k v h1 h2 hv).keep tk,e11,e12.keep tk⟩
 rw[KW]at h
 split at h
 ·cases h
  exact⟨k,rfl,hk⟩
 ·exact e6 y v h
end
theorem zax(h:MH K a vs H Q E):XB K a (λ_=>E) (A9 Q) (start ["self","name","needs","gone"] vs) H:=by
 obtain⟨X,cs,tks,M,cell,z,nl,ns,rfl,T4,I,ec,hc,en,hl,kn,hcs,q⟩:=h
 have T4':=T4
 obtain⟨T,TP,TL,TS⟩:=T4
 obtain⟨dx,ho⟩:=I.ob
 obtain⟨dl,el⟩:=I.ly.ob
 obtain⟨db,eb⟩:=I.bk.bk.ob
 have hm:cell<AY X.n X.r X.c X.w 0:=by simpa [AY]using hc
 push_cast[XB,↓Rp]
 refine⟨_,_,_,ho,TS.cl,TS.n2,_,HP,X.S.A.b,rfl,_,_,eb,DU (by decide +kernel),_,_,_,ho,TS.cl,TS.n1,_,G6,X.S.lp,rfl,_,_,el,CB (by decide +kernel),_,_,ho,B8 (by decide +kernel),X,cs,tks,M,z,rfl,T4',I,λH1 s1=> ?_⟩
 rw[ec]
 refine⟨X.S.lp,X.n,X.r,X.c,X.w,cell,rfl,TL,I.ly.same s1,λu hu=> ?_⟩
 have sa:=AO (o:=.tup [.int (0+(cell:Int) / X.w),.int ((cell:Int) % X.w)]) hu
 have eu:upd H1 u (.tup [.int (0+(cell:Int) / X.w),.int ((cell:Int) % X.w)]) u=some (.tup [.int (A5 X.n X.r X.c X.w 0 cell:Nat),.int (cell % X.w:Nat)]):=by rw[AE];simp[A5]
 have s2:=s1.trans sa
 revert eu s2
 generalize upd H1 u (.tup [.int (0+(cell:Int) / X.w),.int ((cell:Int) % X.w)])=H2
 intro eu s2
 refine HQ T4' (I.same s2) (kind:=0) (x:=.no) (by decide) hm eu (s2 _ _ en) hl (by omega) kn trivial rfl trivial λch H3 I3 sb=> ?_
 obtain⟨dx3,ho3⟩:=I3.ob
 push_cast[↓Rq,↓Rv]
 have tl:=I.tl
 refine⟨_,_,_,ho3,TS.cl,TS.n3,_,XZ,X.S.tk,rfl,_,pS I3.tk (by omega),?_⟩
 refine q ch _ (I3.taken (by simp) (by simp;omega)) λy o e n=> ?_
 rw[AF λy=>n (.inr y)]
 exact sb _ _ (s2 _ _ e) λy=>n (.inl y)
def drI(a:Ad)(X:SX)(cs:List Ch)(tks:List (AH × V))(M:Hs)(rec gone:Nat)(u0 ml:Addr)(pls:List (Nat × Nat))(H6:Hp)(i:Nat)(σ:St)(H':Hp):Prop:=(∃ ex,ex.length=i+1/\X.at a H' (cs++ex) tks ((pls.take i).foldl (λ(M:Hs) (y:Nat × Nat)=>M.put y.1 y.2 (.mk 0) [cs.length]) (M.put 3 rec .no [gone]))/\H' ml=some (.lst (BC ((List.range (i+1)).map (cs.length+·))))/\SameBut (λx=>X.S.A.F x\/x=ml) H6 H')/\∃ y6,σ=[some (.ref X.S.st),some (.int rec),some (.int gone),some (.ref u0),some (.int cs.length),some (.ref ml),y6]
theorem zaz(h:Q0 K a vs H Q E):W8 K a (λ_=>E) (A9 Q) (start ["self","record","gone","pieces","dropped","made","mark"] vs) H:=by
 obtain⟨X,cs,tks,M,rec,m,gone,ps,rfl,T4,I,hr,eM,hg,hps,CJ,hcs,q⟩:=h
 have T4':=T4
 obtain⟨T,TP,TL,TS⟩:=T4
 obtain⟨dx,ho⟩:=I.ob
 have hm:rec<AY X.n X.r X.c X.w 3:=by simpa [AY]using hr
 push_cast[W8,↓Qq]
 refine⟨_,_,ho,B8 (by decide +kernel),X,cs,tks,M,rec,rfl,T4',I,hr,λv H1 rv s=> ?_⟩
 rw[eM]at rv
 obtain⟨t0,u0,rfl,E8,FY⟩:=rv
 refine DG E8 (n:=1) rfl rfl ?_
 have I1:=I.same s
 obtain⟨dx1,ho1⟩:=I1.ob
 obtain⟨dl1,el1⟩:=I1.ly.ob
 obtain⟨db1,eb1⟩:=I1.bk.bk.ob
 push_cast[↓Qv]
 refine JP TS (ho1) (eb1) (DU (by decide +kernel)) (IJ TS (ho1) (el1) (CB (by decide +kernel)) (MP TL (I1.ly) λu hu=>⟨by decide,λnl hnl=> ?_⟩))
 have sa:=AO (o:=.tup [.int (X.n+(rec:Int) / X.w),.int ((rec:Int) % X.w)]) hu
 have sb:=AO (o:=.lst [V.int gone]) hnl
 have eu:=sb _ _ (show upd H1 u (.tup [.int (X.n+(rec:Int) / X.w),.int ((rec:Int) % X.w)]) u=some (.tup [.int (A5 X.n X.r X.c X.w 3 rec:Nat),.int (rec % X.w:Nat)]) by rw[AE];simp[A5])
 have en:upd (upd H1 u (.tup [.int (X.n+(rec:Int) / X.w),.int ((rec:Int) % X.w)])) nl (.lst [V.int gone]) nl=some (.lst ([(gone:Int)].map V.int)):=AE
 have s2:=sa.trans sb
 revert eu en s2
 generalize upd (upd H1 u (.tup [.int (X.n+(rec:Int) / X.w),.int ((rec:Int) % X.w)])) nl (.lst [V.int gone])=H2
 clear sa sb
 intro eu en s2
 refine HQ T4' (I1.same s2) (kind:=3) (x:=.no) (by decide) hm eu en (by simp) (by omega) (λx hx=>by rw[List.mem_singleton.mp hx];exact⟨by omega,by omega⟩) trivial rfl trivial λch H3 I3 OB=> ?_
 push_cast[↓Qw]
 refine⟨by decide,λml hml=> ?_⟩
 have k3:EU H2 H3:=JO OB λx hx=>(I1.same s2).bk.loose hx
 have fml:¬ X.S.A.F ml:=I3.bk.off hml
 have sm:=AO (o:=.lst [V.int cs.length]) hml
 have I4:=I3.same sm
 have eu4:=sm _ _ (k3 _ _ (s2 _ _ FY))
 have em4:upd H3 ml (.lst [V.int cs.length]) ml=some (.lst [V.int cs.length]):=AE
 have sb4:SameBut X.S.A.F H (upd H3 ml (.lst [V.int cs.length])):=λy o e n=>sm _ _ (OB _ _ (s2 _ _ (s _ _ e)) n)
 have hmlH:H ml=none:=by
  cases e:H ml with
  | none=>rfl
  | some o=>have:=OB _ _ (s2 _ _ (s _ _ e)) fml;rw[hml]at this;cases this
 revert I4 eu4 em4 sb4
 clear sm k3 en eu
 generalize upd H3 ml (.lst [V.int cs.length])=H4
 intro I4 eu4 em4 sb4
 obtain⟨dx4,ho4⟩:=I4.ob
 obtain⟨dl4,el4⟩:=I4.ly.ob
 have BU:(cs++[ch]).length=cs.length+1:=by simp
 push_cast[↓Qy]
 refine .inr ⟨⟨_,SqT.of eu4⟩,X3 (xs:=BC ps) (CM _ (by simp[BC];omega)) (λi ys H'=>Same H4 H'/\∃ us:List Addr,ys=us.map V.ref/\Paired (λu p=>H' u=some (.tup [.int (A5 X.n X.r X.c X.w 2 p:Nat),.int (p % X.w:Nat)])) us (ps.take i)) ⟨Same.refl _,[],rfl,.nil⟩ (λi ys H' _ ⟨s',_⟩=>SqT.of (s' _ _ eu4)) (λi x ys H' hx hyl hzz=> ?_) (λys H' hyl ⟨s',us,ey,pu⟩ lc hlc=> ?_)⟩
 ·obtain⟨s',us,ey,pu⟩:=hzz
  unfold BC at hx
  rw[List.getElem?_map,Option.map_eq_some_iff]at hx
  obtain⟨p,ep,rfl⟩:=hx
  push_cast[EI]
  refine⟨_,_,_,s' _ _ ho4,TS.cl,TS.n1,_,G6,X.S.lp,rfl,_,_,s' _ _ el4,CB (by decide +kernel),X.S.lp,X.n,X.r,X.c,X.w,p,rfl,TL,I4.ly.same s',λu' hu'=> ?_⟩
  have su:=AO (o:=.tup [.int (X.n+X.r+X.c+X.r+(p:Int) / X.w),.int ((p:Int) % X.w)]) hu'
  refine⟨s'.trans su,us++[u'],by rw[ey,List.map_append];rfl,?_⟩
  rw[List.take_add_one,ep]
  exact Paired.snoc (Paired.mapP pu λt r z=>su _ _ z) (by rw[AE];simp[A5])
 ·rw[show(BC ps).length=ps.length by simp[BC],List.take_length]at pu
  subst ey
  have sc:=AO (o:=.lst (us.map V.ref)) hlc
  have s5:=s'.trans sc
  refine IJ TS (s5 _ _ ho4) (s5 _ _ el4) (CB (by decide +kernel)) (rB TL (I4.ly.same s5) λur hur=>⟨by decide,λlr hlr=>.inl ?_⟩)
  have sd:=AO (o:=.tup [.int (X.n+X.r+X.c+(rec:Int) / X.w),.int ((rec:Int) % X.w)]) hur
  have se:=AO (o:=.lst [V.ref ur]) hlr
  refine⟨lc,lr,_,_,rfl,rfl,se _ _ (sd _ _ AE),AE,CM _ (by have:=pu.length;simp;omega),λl2 MV=> ?_⟩
  have sf':=AO (o:=.lst (us.map V.ref++[V.ref ur])) MV
  have sg:=(sd.trans se).trans sf'
  have er:upd (upd (upd (upd H' lc (.lst (us.map V.ref))) ur (.tup [.int (X.n+X.r+X.c+(rec:Int) / X.w),.int ((rec:Int) % X.w)])) lr (.lst [V.ref ur])) l2 (.lst (us.map V.ref++[V.ref ur])) ur=some (.tup [.int (A5 X.n X.r X.c X.w 1 rec:Nat),.int (rec % X.w:Nat)]):=(se.trans sf') _ _ (by rw[AE];simp[A5])
  have el2:upd (upd (upd (upd H' lc (.lst (us.map V.ref))) ur (.tup [.int (X.n+X.r+X.c+(rec:Int) / X.w),.int ((rec:Int) % X.w)])) lr (.lst [V.ref ur])) l2 (.lst (us.map V.ref++[V.ref ur])) l2=some (.lst ((us++[ur]).map V.ref)):=by rw[AE];simp
  have hl2F:¬ X.S.A.F l2:=by
   have:=((I4.same s5).same (sd.trans se)).bk.off MV
   exact this
  have nlm:l2≠ml:=(BM (se _ _ (sd _ _ (s5 _ _ em4))) MV).symm
  have s6:=s5.trans sg
  have PP:Paired (λu (y:Nat × Nat)=>upd (upd (upd (upd H' lc (.lst (us.map V.ref))) ur (.tup [.int (X.n+X.r+X.c+(rec:Int) / X.w),.int ((rec:Int) % X.w)])) lr (.lst [V.ref ur])) l2 (.lst (us.map V.ref++[V.ref ur])) u=some (.tup [.int (A5 X.n X.r X.c X.w y.1 y.2:Nat),.int (y.2 % X.w:Nat)])) (us++[ur]) (ps.map (λp=>(2,p))++[(1,rec)]) :=
   Paired.snoc (rD pu λu p z=>sg _ _ (sc _ _ z)) er
  revert s6 el2 PP
  clear er sg sf' se sd s5
  generalize upd (upd (upd (upd H' lc (.lst (us.map V.ref))) ur (.tup [.int (X.n+X.r+X.c+(rec:Int) / X.w),.int ((rec:Int) % X.w)])) lr (.lst [V.ref ur])) l2 (.lst (us.map V.ref++[V.ref ur]))=H6
  intro el2 s6 PP
  generalize us++[ur]=vs at el2 PP
  have hall:∀ y∈ps.map (λp=>(2,p))++[(1,rec)],(y.1=1\/y.1=2)/\y.2<AY X.n X.r X.c X.w y.1:=λy hy=>by
   rcases List.mem_append.mp hy with hy | hy
   ·obtain⟨p,hp,rfl⟩:=List.mem_map.mp hy
    exact⟨.inr rfl,by simpa [AY]using hps p hp⟩
   ·rw[List.mem_singleton.mp hy]
    exact⟨.inl rfl,by simpa [AY]using hr⟩
  have hyl:(ps.map (λp=>((2:Nat),p))++[(1,rec)]).length=ps.length+1:=by simp
  have hfin:(ps.map (λp=>(2,p))++[(1,rec)]).foldl (λ(M:Hs) (y:Nat × Nat)=>M.put y.1 y.2 (.mk 0) [cs.length]) (M.put 3 rec .no [gone])=((M.put 3 rec .no [gone]).unmark cs.length ps).put 1 rec (.mk 0) [cs.length]:=by
   rw[List.foldl_append,List.foldl_map];rfl
  revert hall hyl hfin PP
  generalize ps.map (λp=>((2:Nat),p))++[(1,rec)]=pls
  intro PP hall hyl hfin
  refine⟨l2,rfl,.inl ⟨⟨_,SqL.of el2⟩,K2 (xs:=vs.map V.ref) (drI a X cs tks M rec gone u0 ml pls H6)
   ⟨⟨[ch],rfl,I4.same s6,by rw[s6 _ _ em4];simp[BC,List.range_succ],λy o e _=>e⟩,_,rfl⟩ (λi σ H' _ ⟨⟨_,_,_,_,sb'⟩,_⟩=>SqL.of (sb' _ _ el2 ?_)) (λi x σ H7 hx ⟨⟨ex,OD,I7,em7,sb7⟩,y6,ez⟩=> ?_) (λσ H7 ⟨⟨ex,OD,I7,em7,sb7⟩,y6,ez⟩=> ?_)⟩⟩
  ·rintro (y | y)
   ·exact hl2F y
   ·exact nlm y
  ·subst ez
   have hi:=(List.getElem?_eq_some_iff.mp hx).1
   rw[List.length_map]at hi
   have hip:i<pls.length:=by rw[<-PP.length];exact hi
   have ey:=List.getElem?_eq_getElem hip
   obtain⟨u',eu',hu'⟩:=K3 PP ey
   rw[List.getElem?_map,eu']at hx
   cases hx
   obtain⟨hk12,hky⟩:=hall _ (List.mem_of_getElem? ey)
   have etk:pls.take (i+1)=pls.take i++[pls[i]]:=by rw[List.take_add_one,ey];rfl
   revert etk hk12 hky hu'
   generalize pls[i]=y
   intro hu' hk12 hky etk
   obtain⟨dx7,ho7⟩:=I7.ob
   obtain⟨db7,eb7⟩:=I7.bk.bk.ob
   push_cast[↓Qx]
   have k67:∀ b xs,H6 b=some (.tup xs)->H7 b=some (.tup xs):=λb xs e=>sb7 _ _ e λz=>z.elim (λz=>((I4.same s6).bk.loose z).1 _ e) λz=>by rw[z,s6 _ _ em4]at e;cases e
   refine⟨.inl ⟨rfl,_,SqL.of em7⟩,_,_,_,ho7,TS.cl,TS.n2,_,HP,X.S.A.b,rfl,_,_,eb7,DU (by decide +kernel),by decide,λn8 hn8=> ?_⟩
   have s8:=AO (o:=.lst [V.int cs.length]) hn8
   refine HQ (ns:=[(cs.length:Int)]) T4' (I7.same s8) (kind:=y.1) (x:=.mk 0) (by omega) hky (s8 _ _ (k67 _ _ hu')) AE (by simp) (by simp;omega) (λx hx=>by rw[List.mem_singleton.mp hx];exact⟨by omega,by simp;omega⟩) trivial rfl (by rcases hk12 with z | z<;>rw[z]<;>exact Nat.zero_le _) λch9 H9 I9 MW=> ?_
   have em9:=MW _ _ (s8 _ _ em7) fml
   refine⟨ml,_,_,rfl,rfl,em9,Nat.lt_of_lt_of_le (show(BC ((List.range (i+1)).map (cs.length+·))).length<1000 by simp[BC];omega) (by decide),?_⟩
   refine⟨⟨ex++[ch9],by simp[OD],by have:=I9.lput (ys:=BC ((List.range (i+1)).map (cs.length+·))++[V.int ((cs++ex).length:Nat)]) em9 fml;rw[etk,List.foldl_append,<-List.append_assoc];exact this,by rw[AE];simp[BC,List.range_succ,OD],λb o e n=> ?_⟩,_,rfl⟩
   rw[AF λz=>n (.inr z)]
   exact MW _ _ (s8 _ _ (sb7 _ _ e n)) λz=>n (.inl z)
  ·subst ez
   push_cast[↓Qz]
   have hvl:=PP.length
   rw[List.length_map,hvl,hyl]at OD em7
   rw[List.length_map,hvl,List.take_length,hfin]at I7
   refine q ex ml H7 hmlH em7 OD I7 λy o e n=> ?_
   exact sb7 _ _ (s6 _ _ (sb4 _ _ e n)) λy'=>y'.elim n λz=>by rw[z,hmlH]at e;cases e
theorem LD{X:SX}{cs:List Ch}{tks:List (AH × V)}{M:Hs}{H':Hp}{l:Addr}(I:X.at a H' cs tks M)(sb:SameBut (λx=>X.S.A.F x\/x=X.S.tk) H H')(hl:H' l=none):H l=none:=by
 cases e:H l with
 | none=>rfl
 | some o =>
  have:=sb _ _ e λz=>z.elim (I.bk.off hl) λz=>by rw[z,I.tk]at hl;cases hl
  rw[hl]at this
  cases this
theorem za0(h:Q1 K a vs H Q E):XC K a (λ_=>E) (A9 Q) (start ["self","name","record","cell","mark","stands"] vs) H:=by
 obtain⟨X,cs,tks,M,z,rfl,T4,I,hzl,hcs,q,q1,q2,q3⟩:=h
 have T4':=T4
 obtain⟨dx,ho⟩:=I.ob
 have hm1:AY X.n X.r X.c X.w 1=X.r * X.w:=by simp[AY]
 have hm0:AY X.n X.r X.c X.w 0=X.m0:=by simp[AY]
 have hm3:AY X.n X.r X.c X.w 3=X.r * X.w:=by simp[AY]
 push_cast[XC,↓Rw]
 refine⟨_,_,ho,B8 (by decide +kernel),by decide,λgl hgl=> ?_⟩
 have s1:=AO (o:=.lst [V.str z]) hgl
 refine⟨X,cs,tks,M,z,gl,[z],rfl,T4,I.same s1,AE,by simp,λy hy=>by rw[List.mem_singleton.mp hy];exact hzl,λhb hc H2 s2=> ?_,λhb H2 s2=>q1 (by simpa using hb) _ (s1.trans s2),λhb hc H2 s2=>q2 (by simpa using hb) hc _ (s1.trans s2)⟩
 have hb:BL z=true:=by simpa using hb
 have CW:=s1.trans s2
 clear s1 s2 hgl
 obtain⟨T,TP,TL,TS⟩:=T4
 push_cast[↓Rx]
 refine⟨_,_,_,CW _ _ ho,TS.cl,TS.n1,_,G6,_,_,_,CW _ _ ho,TS.cl,TS.n2,_,HP,X.S.lp,X.S.A.b,rfl,RK T4' (I.same CW) (by decide) (λrec er N9 H3 s3=> ?_) λer H3 s3=>q3 hb hc (.inl (by rw[<-hm1];exact er)) _ (CW.trans s3)⟩
 rw[hm1]at er N9
 have s13:=CW.trans s3
 clear CW s3
 push_cast[↓Ry]
 refine⟨_,_,_,s13 _ _ ho,TS.cl,TS.n1,_,G6,_,_,_,s13 _ _ ho,TS.cl,TS.n2,_,HP,X.S.lp,X.S.A.b,rfl,RK T4' (I.same s13) (by decide) (λcell ec A8 H4 s4=> ?_) λer H3 s3=>q3 hb hc (.inr (by rw[<-hm0];exact er)) _ (s13.trans s3)⟩
 rw[hm0]at ec A8
 have s14:=s13.trans s4
 have I4:=I.same s14
 clear s13 s4
 obtain⟨dx4,ho4⟩:=I4.ob
 obtain⟨dl4,el4⟩:=I4.ly.ob
 obtain⟨db4,eb4⟩:=I4.bk.bk.ob
 push_cast[↓Rz]
 refine JP TS (ho4) (eb4) (DU (by decide +kernel)) (IJ TS (ho4) (el4) (CB (by decide +kernel)) (rB TL (I4.ly) λu hu=>⟨by decide,λl0 hl0=> ?_⟩))
 have sa:=AO (o:=.tup [.int (X.n+X.r+X.c+(rec:Int) / X.w),.int ((rec:Int) % X.w)]) hu
 have sb:=AO (o:=.lst []) hl0
 have eu:=sb _ _ (show upd H4 u (.tup [.int (X.n+X.r+X.c+(rec:Int) / X.w),.int ((rec:Int) % X.w)]) u=some (.tup [.int (A5 X.n X.r X.c X.w 1 rec:Nat),.int (rec % X.w:Nat)]) by rw[AE];simp[A5])
 have el0:upd (upd H4 u (.tup [.int (X.n+X.r+X.c+(rec:Int) / X.w),.int ((rec:Int) % X.w)])) l0 (.lst []) l0=some (.lst (([]:List Int).map V.int)):=AE
 have s5:=sa.trans sb
 revert eu el0 s5
 clear sa sb
 generalize upd (upd H4 u (.tup [.int (X.n+X.r+X.c+(rec:Int) / X.w),.int ((rec:Int) % X.w)])) l0 (.lst [])=H5
 intro eu el0 s5
 refine HQ T4' (I4.same s5) (kind:=1) (x:=.mk 1) (by decide) (by rw[hm1];exact N9) eu el0 (by simp) (by omega) (λx hx=>by cases hx) trivial rfl (Nat.le_refl _) λc1 H6 I6 sb6=> ?_
 obtain⟨dx6,ho6⟩:=I6.ob
 obtain⟨dl6,el6⟩:=I6.ly.ob
 obtain⟨db6,eb6⟩:=I6.bk.bk.ob
 push_cast[↓Sb]
 refine JP TS (ho6) (eb6) (DU (by decide +kernel)) (IJ TS (ho6) (el6) (CB (by decide +kernel)) (MP TL (I6.ly) λu2 hu2=> ?_))
 push_cast[]
 refine⟨by decide,λe6 he6=>⟨by decide,λt6 ht6=>⟨by decide,λl6 hl6=> ?_⟩⟩⟩
 have sa:=AO (o:=.tup [.int (X.n+(rec:Int) / X.w),.int ((rec:Int) % X.w)]) hu2
 have sb:=AO (o:=.tup []) he6
 have sc:=AO (o:=.tup [.int 1,.ref e6]) ht6
 have sd:=AO (o:=.lst [.int cs.length]) hl6
 have s67:=((sa.trans sb).trans sc).trans sd
 have f1:=sd _ _ (sc _ _ (sb _ _ (show upd H6 u2 (.tup [.int (X.n+(rec:Int) / X.w),.int ((rec:Int) % X.w)]) u2=some (.tup [.int (A5 X.n X.r X.c X.w 3 rec:Nat),.int (rec % X.w:Nat)]) by rw[AE];simp[A5])))
 have f2:=sd _ _ (sc _ _ (AE (H:=upd H6 u2 (.tup [.int (X.n+(rec:Int) / X.w),.int ((rec:Int) % X.w)])) (a:=e6) (o:=.tup [])))
 have f3:=sd _ _ (AE (H:=upd (upd H6 u2 (.tup [.int (X.n+(rec:Int) / X.w),.int ((rec:Int) % X.w)])) e6 (.tup [])) (a:=t6) (o:=.tup [.int 1,.ref e6]))
 have f4:=AE (H:=upd (upd (upd H6 u2 (.tup [.int (X.n+(rec:Int) / X.w),.int ((rec:Int) % X.w)])) e6 (.tup [])) t6 (.tup [.int 1,.ref e6])) (a:=l6) (o:=.lst [.int cs.length])
 revert s67 f1 f2 f3 f4
 generalize upd (upd (upd (upd H6 u2 (.tup [.int (X.n+(rec:Int) / X.w),.int ((rec:Int) % X.w)])) e6 (.tup [])) t6 (.tup [.int 1,.ref e6])) l6 (.lst [.int cs.length])=H7
 clear sa sb sc sd
 intro s67 f1 f2 f3 f4
 refine HQ (ns:=[(cs.length:Int)]) T4' (I6.same s67) (kind:=3) (x:=.rc 1 []) (by decide) (by rw[hm3];exact N9) f1 f4 (by simp) (by simp;omega) (λx hx=>by rw[List.mem_singleton.mp hx];exact⟨by omega,by simp;omega⟩) (X2 (ps:=[]) f3 f2 (by simp)) ⟨t6,e6,rfl,f3,f2⟩ trivial λc2 H8 I8 sb8=> ?_
 obtain⟨dx8,ho8⟩:=I8.ob
 push_cast[↓Sc]
 have BU:(cs++[c1]).length=cs.length+1:=by simp
 rw[BU]
 refine⟨_,_,ho8,B8 (by decide +kernel),X,_,tks,_,cell,rec,cs.length+1,z,rfl,T4',I8,A8,by simp,by simp;omega,qY hb,λc3 H9 I9 MW=>⟨by decide,λl hl=> ?_⟩⟩
 have sl:=AO (o:=.lst [V.int cs.length,V.int (cs.length+1:Nat),V.int ((cs++[c1]++[c2]).length:Nat)]) hl
 have sbH:SameBut (λx=>X.S.A.F x\/x=X.S.tk) H H9:=λy o e n=>MW _ _ (sb8 _ _ (s67 _ _ (sb6 _ _ (s5 _ _ (s14 _ _ e)) λz=>n (.inl z))) λz=>n (.inl z)) λz=>n (.inl z)
 exact q hb hc rec cell er ec N9 A8 [c1,c2,c3] l _ rfl (LD I9 sbH hl) (by rw[AE];simp[BC,List.range_succ]) (by have:=I9.same sl;simpa using this) λy o e n=>sl _ _ (sbH _ _ e n)
theorem za1(h:MI K a vs H Q E):XD K a (λ_=>E) (A9 Q) (start ["self","old","new","record","cell","more"] vs) H:=by
 obtain⟨X,cs,tks,M,y,z,rfl,T4,I,hyl,hzl,hcs,q,q1,q2,q3,q4⟩:=h
 have T4':=T4
 obtain⟨dx,ho⟩:=I.ob
 have hm0:AY X.n X.r X.c X.w 0=X.m0:=by simp[AY]
 push_cast[XD,↓Sd]
 refine⟨_,_,ho,B8 (by decide +kernel),by decide,λgl hgl=> ?_⟩
 have s1:=AO (o:=.lst [V.str y,V.str z]) hgl
 refine⟨X,cs,tks,M,z,gl,[y,z],rfl,T4,I.same s1,AE,by simp,λx hx=> ?_,λhb hc H2 s2=> ?_,λhb H2 s2=>q1 (by simpa using hb) _ (s1.trans s2),λhb hc H2 s2=> ?_⟩
 ·simp only[List.mem_cons,List.not_mem_nil,or_false]at hx
  rcases hx with rfl | rfl
  ·exact hyl
  ·exact hzl
 ·have hb:BL y=true/\BL z=true:=by simpa using hb
  have CW:=s1.trans s2
  clear s1 s2 hgl
  obtain⟨T,TP,TL,TS⟩:=T4
  push_cast[↓Sg]
  refine⟨_,_,CW _ _ ho,B8 (by decide +kernel),X,cs,tks,M,y,rfl,T4',I.same CW,λold rec eo hol eM H3 s3=> ?_,λeo H3 s3=>q3 hb.1 hb.2 hc eo _ (CW.trans s3)⟩
  have s13:=CW.trans s3
  clear CW s3
  push_cast[↓Sh]
  refine⟨_,_,_,s13 _ _ ho,TS.cl,TS.n1,_,G6,_,_,_,s13 _ _ ho,TS.cl,TS.n2,_,HP,X.S.lp,X.S.A.b,rfl,RK T4' (I.same s13) (by decide) (λcell ec A8 H4 s4=> ?_) λer H3 s3=>q4 hb.1 hb.2 hc ⟨old,eo⟩ (by rw[<-hm0];exact er) _ (s13.trans s3)⟩
  rw[hm0]at ec A8
  obtain⟨hr,m,ps,eR,hps,q⟩:=q hb.1 hb.2 hc old rec cell eo hol eM
  have s14:=s13.trans s4
  have I4:=I.same s14
  push_cast[↓Sj]
  refine⟨_,_,s14 _ _ ho,B8 (by decide +kernel),by decide,λl0 hl0=> ?_⟩
  have s5:=AO (o:=.lst []) hl0
  refine⟨X,cs,tks,M,rec,m,m+1,1,ps,l0,[],rfl,T4',I4.same s5,hr,eR,by omega,hps,AE,by simp,(λx hx=>by cases hx),by omega,λc1 H6 I6 sb6=> ?_⟩
  obtain⟨dx6,ho6⟩:=I6.ob
  push_cast[↓Sk]
  refine⟨_,_,ho6,B8 (by decide +kernel),X,_,tks,_,cell,rec,cs.length,z,rfl,T4',I6,A8,by simp,by simp;omega,qY hb.2,λc2 H7 I7 sb7=>⟨by decide,λl hl=> ?_⟩⟩
  have sl:=AO (o:=.lst [V.int cs.length,V.int ((cs++[c1]).length:Nat)]) hl
  have sbH:SameBut (λx=>X.S.A.F x\/x=X.S.tk) H H7:=λy o e n=>sb7 _ _ (sb6 _ _ (s5 _ _ (s14 _ _ e)) λz=>n (.inl z)) λz=>n (.inl z)
  exact q ec A8 [c1,c2] l _ rfl (LD I7 sbH hl) (by rw[AE];simp[BC,List.range_succ]) (by have:=I7.same sl;simpa using this) λy o e n=>sl _ _ (sbH _ _ e n)
 ·have hb:BL y=true/\BL z=true:=by simpa using hb
  exact q2 hb.1 hb.2 hc _ (s1.trans s2)
theorem za2(n d:Nat):BC ((List.range (d+1)).map (n+·))=[V.int n]++BC ((List.range d).map (n+1+·)):=by
 rw[List.range_succ_eq_map]
 simp[BC,Nat.add_assoc,Nat.add_comm 1]
theorem za3(h:Q2 K a vs H Q E):XF K a (λ_=>E) (A9 Q) (start ["self","name","record","gone"] vs) H:=by
 obtain⟨X,cs,tks,M,z,rfl,T4,I,hcs,q,q1⟩:=h
 obtain⟨dx,ho⟩:=I.ob
 push_cast[XF,↓Sl]
 refine⟨_,_,ho,B8 (by decide +kernel),X,cs,tks,M,z,rfl,T4,I,λcell rec ec A8 eM H1 s1=> ?_,λeo H3 s3=>q1 eo _ s3⟩
 obtain⟨hr,m,ps,eR,hps,CJ,q2,q3⟩:=q cell rec ec A8 eM
 have I1:=I.same s1
 push_cast[↓Sm]
 refine⟨_,_,s1 _ _ ho,B8 (by decide +kernel),by decide,λl0 hl0=> ?_⟩
 have s2:=AO (o:=.lst []) hl0
 refine⟨X,cs,tks,M,cell,z,l0,[],rfl,T4,I1.same s2,ec,A8,AE,by simp,(λx hx=>by cases hx),by omega,λc1 H3 I3 OB=> ?_⟩
 obtain⟨dx3,ho3⟩:=I3.ob
 have sb:SameBut (λx=>X.S.A.F x\/x=X.S.tk) H H3:=λy o e n=>OB _ _ (s2 _ _ (s1 _ _ e)) n
 have eR':(M.put 0 cell .no (JM [])) 3 rec=.rc m ps:=by rw[Hs.put_at,if_neg (by omega)];exact eR
 push_cast[↓Sv]
 refine⟨_,_,ho3,B8 (by decide +kernel),X,_,_,_,rec,rfl,T4,I3,hr,λv H4 rv s4=> ?_⟩
 rw[eR']at rv
 obtain⟨t0,u0,rfl,E8,FY⟩:=rv
 have I4:=I3.same s4
 refine DG E8 (n:=0) rfl rfl ?_
 push_cast[]
 split
 ·rename_i hm
  push_cast[↓Sq]
  refine⟨_,_,s4 _ _ ho3,B8 (by decide +kernel),by decide,λl5 hl5=> ?_⟩
  have s5:=AO (o:=.lst [V.int cs.length]) hl5
  refine⟨X,_,_,_,rec,m,m - 1,-1,ps,l5,[(cs.length:Int)],rfl,T4,I4.same s5,hr,eR',by omega,by omega,AE,by simp,(λx hx=>by rw[List.mem_singleton.mp hx];exact⟨by omega,by simp;omega⟩),by simp;omega,λc2 H6 I6 sb6=>⟨by decide,λl hl=> ?_⟩⟩
  have sl:=AO (o:=.lst [V.int cs.length,V.int ((cs++[c1]).length:Nat)]) hl
  have sbH:SameBut (λx=>X.S.A.F x\/x=X.S.tk) H H6:=λy o e n=>sb6 _ _ (s5 _ _ (s4 _ _ (sb _ _ e n))) λz=>n (.inl z)
  exact q2 (by omega) [c1,c2] l _ rfl (LD I6 sbH hl) (by rw[AE];simp[BC,List.range_succ]) (by have:=I6.same sl;simpa using this) λy o e n=>sl _ _ (sbH _ _ e n)
 ·rename_i hm
  push_cast[↓Sw]
  refine⟨by decide,λl5 hl5=> ?_⟩
  have s5:=AO (o:=.lst [V.int cs.length]) hl5
  have I5:=I4.same s5
  refine⟨_,_,s5 _ _ (s4 _ _ ho3),B8 (by decide +kernel),X,_,_,_,rec,m,cs.length,ps,rfl,T4,I5,hr,eR',by simp,hps,CJ,by simp;omega,λex l H6 hl6 el6 hex I6 sb6=>.inl ?_⟩
  have f5:¬ X.S.A.F l5:=I4.bk.off hl5
  refine⟨l5,l,_,_,rfl,rfl,sb6 _ _ AE f5,el6,CM _ (by simp[BC];omega),λl7 hl7=> ?_⟩
  have sl:=AO (o:=.lst ([V.int cs.length]++BC ((List.range (ps.length+2)).map ((cs++[c1]).length+·)))) hl7
  have sbH:SameBut (λx=>X.S.A.F x\/x=X.S.tk) H H6:=λy o e n=>sb6 _ _ (s5 _ _ (s4 _ _ (sb _ _ e n))) λz=>n (.inl z)
  exact q3 (by omega) (c1::ex) l7 _ (by simp[hex]) (LD I6 sbH hl7) (by rw[AE,za2 cs.length (ps.length+2)];simp) (by have:=I6.same sl;simpa using this) λy o e n=>sl _ _ (sbH _ _ e n)
theorem cat_tup{b d:Addr}{xs ys:List V}(h1:H b=some (.tup xs))(h2:H d=some (.tup ys))(hy:ys≠[])(hl:xs.length+ys.length<=1000)(q:∀ p H',Same H H'->H' p=some (.tup (xs++ys))->Q (.ref p) H'):BS K (.ref b) (.ref d) H Q:=by
 rw[TY]
 by_cases hx:xs=[]
 ·subst hx
  exact .inr (.inr ⟨b,d,ys,rfl,rfl,SqT.of h1,SqT.of h2,q d H (Same.refl _) h2⟩)
 ·exact .inr (.inl ⟨b,d,xs,ys,rfl,rfl,SqT.of h1,SqT.of h2,hx,CM _ (by omega),λe=>absurd e hy,λ_ p hp=>q p _ (AO hp) AE⟩)
theorem za4(h:Q3 K a vs H Q E):XG K a (λ_=>E) (A9 Q) (start ["self","name","text","record","piece","mark","filled"] vs) H:=by
 obtain⟨X,cs,tks,M,z,t,rfl,T4,I,htl,hts,hcs,q,q1,q2,q3⟩:=h
 have T4':=T4
 obtain⟨dx,ho⟩:=I.ob
 have hm2:AY X.n X.r X.c X.w 2=X.c * X.w:=by simp[AY]
 have hm4:AY X.n X.r X.c X.w 4=X.c * X.w:=by simp[AY]
 push_cast[XG,↓Sx]
 refine⟨_,_,ho,B8 (by decide +kernel),X,cs,tks,M,z,rfl,T4,I,λcell rec ec A8 eM H1 s1=> ?_,λeo H3 s3=>q1 eo _ s3⟩
 obtain⟨T,TP,TL,TS⟩:=T4
 push_cast[↓Sz]
 refine⟨t,rfl,htl,λH2 s2=> ?_⟩
 have CW:=s1.trans s2
 cases hb:MC t with
 | false =>
  push_cast[↓Sy]
  exact⟨by decide,q2 ⟨cell,ec⟩ hb _ CW⟩
 | true =>
  push_cast[↓Tb]
  refine⟨_,_,_,CW _ _ ho,TS.cl,TS.n1,_,G6,_,_,_,CW _ _ ho,TS.cl,TS.n2,_,HP,X.S.lp,X.S.A.b,rfl,RK T4' (I.same CW) (by decide) (λp ep CJ H4 s4=> ?_) λer H3 s3=>q3 ⟨cell,ec⟩ hb (by rw[<-hm2];exact er) _ (CW.trans s3)⟩
  rw[hm2]at ep CJ
  obtain⟨hr,m,ps,eR,hps,q⟩:=q cell rec ec A8 eM hb p ep CJ
  have s14:=CW.trans s4
  have I4:=I.same s14
  clear s1 s2 CW s4
  obtain⟨dx4,ho4⟩:=I4.ob
  obtain⟨dl4,el4⟩:=I4.ly.ob
  obtain⟨db4,eb4⟩:=I4.bk.bk.ob
  push_cast[↓Tc]
  refine JP TS (ho4) (eb4) (DU (by decide +kernel)) (IJ TS (ho4) (el4) (CB (by decide +kernel)) (lPM TL (I4.ly) λu hu=>⟨by decide,λl0 hl0=> ?_⟩))
  have sa:=AO (o:=.tup [.int (X.n+X.r+X.c+X.r+(p:Int) / X.w),.int ((p:Int) % X.w)]) hu
  have sb:=AO (o:=.lst []) hl0
  have eu:=sb _ _ (show upd H4 u (.tup [.int (X.n+X.r+X.c+X.r+(p:Int) / X.w),.int ((p:Int) % X.w)]) u=some (.tup [.int (A5 X.n X.r X.c X.w 2 p:Nat),.int (p % X.w:Nat)]) by rw[AE];simp[A5])
  have el0:upd (upd H4 u (.tup [.int (X.n+X.r+X.c+X.r+(p:Int) / X.w),.int ((p:Int) % X.w)])) l0 (.lst []) l0=some (.lst (([]:List Int).map V.int)):=AE
  have s5:=sa.trans sb
  revert eu el0 s5
  clear sa sb
  generalize upd (upd H4 u (.tup [.int (X.n+X.r+X.c+X.r+(p:Int) / X.w),.int ((p:Int) % X.w)])) l0 (.lst [])=H5
  intro eu el0 s5
  refine HQ T4' (I4.same s5) (kind:=2) (x:=.mk 1) (by decide) (by rw[hm2];exact CJ) eu el0 (by simp) (by omega) (λx hx=>by cases hx) trivial rfl (Nat.le_refl _) λc1 H6 I6 sb6=> ?_
  obtain⟨dx6,ho6⟩:=I6.ob
  obtain⟨dl6,el6⟩:=I6.ly.ob
  obtain⟨db6,eb6⟩:=I6.bk.bk.ob
  push_cast[↓Td]
  refine JP TS (ho6) (eb6) (DU (by decide +kernel)) (IJ TS (ho6) (el6) (CB (by decide +kernel)) (rA TL (I6.ly) λu2 hu2=>⟨by decide,λl6 hl6=> ?_⟩))
  have sa:=AO (o:=.tup [.int (X.n+X.r+(p:Int) / X.w),.int ((p:Int) % X.w)]) hu2
  have sb:=AO (o:=.lst [.int cs.length]) hl6
  have f1:=sb _ _ (show upd H6 u2 (.tup [.int (X.n+X.r+(p:Int) / X.w),.int ((p:Int) % X.w)]) u2=some (.tup [.int (A5 X.n X.r X.c X.w 4 p:Nat),.int (p % X.w:Nat)]) by rw[AE];simp[A5])
  have f4:=AE (H:=upd H6 u2 (.tup [.int (X.n+X.r+(p:Int) / X.w),.int ((p:Int) % X.w)])) (a:=l6) (o:=.lst [.int cs.length])
  have s67:=sa.trans sb
  revert s67 f1 f4
  generalize upd (upd H6 u2 (.tup [.int (X.n+X.r+(p:Int) / X.w),.int ((p:Int) % X.w)])) l6 (.lst [.int cs.length])=H7
  clear sa sb
  intro f1 f4 s67
  refine HQ (ns:=[(cs.length:Int)]) T4' (I6.same s67) (kind:=4) (x:=.tx t) (by decide) (by rw[hm4];exact CJ) f1 f4 (by simp) (by simp;omega) (λx hx=>by rw[List.mem_singleton.mp hx];exact⟨by omega,by simp;omega⟩) hts rfl trivial λc2 H8 I8 sb8=> ?_
  obtain⟨dx8,ho8⟩:=I8.ob
  have eR':((M.put 2 p (.mk 1) (JM [])).put 4 p (.tx t) (JM [(cs.length:Int)])) 3 rec=.rc m ps:=by rw[Hs.put_at,if_neg (by omega),Hs.put_at,if_neg (by omega)];exact eR
  push_cast[↓Tg]
  refine⟨_,_,ho8,B8 (by decide +kernel),_,_,ho8,B8 (by decide +kernel),X,_,tks,_,rec,rfl,T4',I8,hr,λv H9 rv s9=> ?_⟩
  rw[eR']at rv
  obtain⟨t0,u0,rfl,E8,FY⟩:=rv
  have BU:(cs++[c1]).length=cs.length+1:=by simp
  refine DG E8 (n:=1) rfl rfl ⟨by decide,λt9 ht9=> ?_⟩
  have sa:=AO (o:=.tup [V.int p]) ht9
  refine cat_tup (sa _ _ FY) AE (by simp) (by simp[BC];omega) λpp H10 s10 epp=>⟨by decide,λl10 hl10=> ?_⟩
  have s11:=(s9.trans sa).trans s10
  have sc:=AO (o:=.lst [V.int ((cs++[c1]).length:Nat)]) hl10
  have CW:=s11.trans sc
  refine⟨X,_,tks,_,rec,m,ps,ps++[p],pp,l10,[((cs++[c1]).length:Int)],rfl,T4',I8.same CW,hr,eR',sc _ _ (by rw[epp];simp[BC]),by simp;omega,AE,by simp,(λx hx=>by rw[List.mem_singleton.mp hx];exact⟨by omega,by simp⟩),by simp;omega,λc3 H13 I13 sb13=>⟨by decide,λl hl=> ?_⟩⟩
  have sl:=AO (o:=.lst [V.int cs.length,V.int ((cs++[c1]).length:Nat),V.int ((cs++[c1]++[c2]).length:Nat)]) hl
  have sbH:SameBut (λx=>X.S.A.F x\/x=X.S.tk) H H13:=λy o e n=>sb13 _ _ (CW _ _ (sb8 _ _ (s67 _ _ (sb6 _ _ (s5 _ _ (s14 _ _ e)) λz=>n (.inl z))) λz=>n (.inl z))) λz=>n (.inl z)
  exact q [c1,c2,c3] l _ rfl (LD I13 sbH hl) (by rw[AE];simp[BC,List.range_succ]) (by have:=I13.same sl;simpa using this) λy o e n=>sl _ _ (sbH _ _ e n)
theorem za5(h:Q4 K a vs H Q E):XI K a (λ_=>E) (A9 Q) (start ["self","name","pieces"] vs) H:=by
 obtain⟨X,cs,tks,M,z,rfl,T4,I,q,q1⟩:=h
 have T4':=T4
 obtain⟨T,TP,TL,TS⟩:=T4
 obtain⟨dx,ho⟩:=I.ob
 obtain⟨dl,el⟩:=I.ly.ob
 obtain⟨db,eb⟩:=I.bk.bk.ob
 push_cast[XI,↓Tq]
 refine⟨_,_,ho,B8 (by decide +kernel),_,_,ho,B8 (by decide +kernel),X,cs,tks,M,z,rfl,T4',I,λcell rec ec A8 eM H1 s1=> ?_,λeo H3 s3=>q1 eo _ s3⟩
 obtain⟨hr,m,ps,eR,hps,ts,pt,q⟩:=q cell rec ec A8 eM
 refine⟨X,cs,tks,M,rec,rfl,T4',I.same s1,hr,λv H2 rv s2=> ?_⟩
 rw[eR]at rv
 obtain⟨t0,u0,rfl,E8,FY⟩:=rv
 refine DG E8 (n:=1) rfl rfl ?_
 have CW:=s1.trans s2
 push_cast[↓Tv]
 refine .inr ⟨⟨_,SqT.of FY⟩,X3 (xs:=BC ps) (CM _ (by simp[BC];omega)) (λi ys H'=>Same H2 H'/\ys=(ts.take i).map V.str) ⟨Same.refl _,rfl⟩ (λi ys H' _ ⟨s',_⟩=>SqT.of (s' _ _ FY)) (λi x ys H' hx hyl ⟨s',ey⟩=> ?_) (λys H' hyl ⟨s',ey⟩ lc hlc=> ?_)⟩
 ·unfold BC at hx
  rw[List.getElem?_map,Option.map_eq_some_iff]at hx
  obtain⟨p,ep,rfl⟩:=hx
  have hti:i<ts.length:=by have:=(List.getElem?_eq_some_iff.mp ep).1;have:=pt.length;omega
  have eti:=List.getElem?_eq_getElem hti
  obtain⟨p',ep',hpc,eP⟩:=K3 pt eti
  rw[ep]at ep'
  cases ep'
  have hm:p<AY X.n X.r X.c X.w 4:=by simpa [AY]using hpc
  have sH:=CW.trans s'
  have I':=I.same sH
  push_cast[EI]
  refine⟨_,_,_,sH _ _ ho,TS.cl,TS.n2,_,HP,X.S.A.b,rfl,_,_,sH _ _ eb,DU (by decide +kernel),_,_,_,sH _ _ ho,TS.cl,TS.n1,_,G6,X.S.lp,rfl,_,_,sH _ _ el,CB (by decide +kernel),X.S.lp,X.n,X.r,X.c,X.w,p,rfl,TL,I'.ly,λu' hu'=> ?_⟩
  have su:=AO (o:=.tup [.int (X.n+X.r+(p:Int) / X.w),.int ((p:Int) % X.w)]) hu'
  refine⟨X.S.A,X.w,X.rows,X.nn,cs,X.outs,u',(A5 X.n X.r X.c X.w 4 p:Nat),(p % X.w:Nat),rfl,T,TP,I'.bk.same su,by rw[AE];simp[A5],λ_ v H3 ev s3=> ?_,λz=>absurd (I.onPl (kind:=4) (by decide) hm) z⟩
  have rv:=I.rp 4 p v (by decide) hm ev
  rw[eP]at rv
  rw[show v=.str ts[i]from rv]
  refine⟨(s'.trans su).trans s3,?_⟩
  rw[List.take_add_one,eti,ey,List.map_append]
  rfl
 ·have hl:(BC ps).length=ts.length:=by rw[<-pt.length];simp[BC]
  rw[hl,List.take_length]at ey
  subst ey
  have sl:=AO (o:=.lst (ts.map V.str)) hlc
  exact q lc _ (CW.free (s'.free hlc)) ((CW.trans s').trans sl) AE
theorem za6{b d:Addr}{xs ys:List V}(h1:H b=some (.tup xs))(h2:H d=some (.tup ys))(hl:xs.length+ys.length<=1000)(q:∀ p H',Same H H'->H' p=some (.tup (xs++ys))->Q (.ref p) H'):BS K (.ref b) (.ref d) H Q:=by
 by_cases hy:ys=[]
 ·subst hy
  rw[TY]
  by_cases hx:xs=[]
  ·subst hx
   exact .inr (.inr ⟨b,d,[],rfl,rfl,SqT.of h1,SqT.of h2,q d H (Same.refl _) h2⟩)
  ·exact .inr (.inl ⟨b,d,xs,[],rfl,rfl,SqT.of h1,SqT.of h2,hx,CM _ (by omega),λ_=>q b H (Same.refl _) (by rw[h1];simp),λe=>absurd rfl e⟩)
 ·exact cat_tup h1 h2 hy hl q
theorem za7(h:Q5 K a vs H Q E):XH K a (λ_=>E) (A9 Q) (start ["self","name","at","record","pieces","without"] vs) H:=by
 obtain⟨X,cs,tks,M,z,x,rfl,T4,I,hcs,q,q1⟩:=h
 have T4':=T4
 obtain⟨dx,ho⟩:=I.ob
 push_cast[XH,↓Th]
 refine⟨_,_,ho,B8 (by decide +kernel),X,cs,tks,M,z,rfl,T4,I,λcell rec ec A8 eM H1 s1=> ?_,λeo H3 s3=>q1 eo _ s3⟩
 obtain⟨hr,m,ps,eR,hps,q2,q3⟩:=q cell rec ec A8 eM
 push_cast[↓Tj]
 refine⟨_,_,s1 _ _ ho,B8 (by decide +kernel),X,cs,tks,M,rec,rfl,T4,I.same s1,hr,λv H2 rv s2=> ?_⟩
 rw[eR]at rv
 obtain⟨t0,u0,rfl,E8,FY⟩:=rv
 refine DG E8 (n:=1) rfl rfl ?_
 have CW:=s1.trans s2
 push_cast[↓Tl,↓Tk]
 split
 ·rename_i h0
  refine⟨ps.length,.inr ⟨_,SqT.of FY,by simp[BC]⟩,?_⟩
  split
  ·exact⟨by decide,q2 (by omega) _ CW⟩
  ·obtain⟨k,rfl⟩:∃ k:Nat,x=k:=⟨x.toNat,by omega⟩
   have hk:k<ps.length:=by omega
   have ek:=List.getElem?_eq_getElem hk
   obtain⟨hp,q3⟩:=q3 k _ rfl ek
   push_cast[↓Tm]
   refine⟨_,_,CW _ _ ho,B8 (by decide +kernel),?_⟩
   have e1:HT.sIx (BC ps).length (BC ps).length (some (k:Int))=k:=by
    show(if(k:Int)<0 then((k:Int)+((BC ps).length:Int)).toNat else min (k:Int).toNat (BC ps).length)=_
    rw[if_neg (by omega)]
    simp[BC]
    omega
   have e2:HT.sIx (BC ps).length 0 (some ((k:Int)+1))=k+1:=by
    show(if((k:Int)+1)<0 then((k:Int)+1+((BC ps).length:Int)).toNat else min ((k:Int)+1).toNat (BC ps).length)=_
    rw[if_neg (by omega)]
    simp[BC]
    omega
   have hnl:(BC ps).length=ps.length:=by simp[BC]
   refine .inr ⟨u0,_,rfl,SqT.of FY,λy=>by rw[e1]at y;omega,λp1 RY=> ?_⟩
   have sa:=AO (o:=.tup (EY (BC ps) none (some (k:Int)))) RY
   refine .inr ⟨u0,_,rfl,SqT.of (sa _ _ FY),λy=>by rw[e2]at y;omega,λp2 IM=> ?_⟩
   have sb:=AO (o:=.tup (EY (BC ps) (some ((k:Int)+1)) none)) IM
   have c1:EY (BC ps) none (some (k:Int))=BC (ps.take k):=by rw[Ex _ (by omega),Int.toNat_natCast];simp[BC]
   have c2:EY (BC ps) (some ((k:Int)+1)) none=BC (ps.drop (k+1)):=by rw[Ey _ (by omega),show((k:Int)+1).toNat=k+1 by omega];simp[BC]
   rw[c1,c2]at sb
   rw[c1]at sa
   rw[c1,c2]
   have IL:(BC (ps.take k)).length+(BC (ps.drop (k+1))).length<=1000:=by simp[BC];omega
   refine za6 (sb _ _ AE) AE IL λpp H5 s5 epp=>⟨by decide,λl5 hl5=> ?_⟩
   have sc:=AO (o:=.lst []) hl5
   have s6:=(((CW.trans sa).trans sb).trans s5).trans sc
   have epp':H5 pp=some (.tup (BC (ps.eraseIdx k))):=by rw[epp,List.eraseIdx_eq_take_drop_succ];simp[BC]
   have hel:(ps.eraseIdx k).length<=100:=by rw[List.length_eraseIdx];split<;>omega
   refine⟨X,cs,tks,M,rec,m,ps,ps.eraseIdx k,pp,l5,[],rfl,T4',I.same s6,hr,eR,sc _ _ epp',hel,AE,by simp,(λx hx=>by cases hx),by omega,λc1' H7 I7 sb7=> ?_⟩
   obtain⟨T,TP,TL,TS⟩:=T4
   obtain⟨dx7,ho7⟩:=I7.ob
   obtain⟨dl7,el7⟩:=I7.ly.ob
   obtain⟨db7,eb7⟩:=I7.bk.bk.ob
   have k7:EU _ H7:=JO sb7 λx hx=>(I.same s6).bk.loose hx
   have eu7:=k7 _ _ ((((sa.trans sb).trans s5).trans sc) _ _ FY)
   push_cast[↓Tp]
   refine⟨_,_,_,ho7,TS.cl,TS.n2,_,HP,X.S.A.b,rfl,_,_,eb7,DU (by decide +kernel),_,_,_,ho7,TS.cl,TS.n1,_,G6,X.S.lp,rfl,_,_,el7,CB (by decide +kernel),DG eu7 (n:=k) rfl (by unfold BC;rw[List.getElem?_map,ek];rfl) ?_⟩
   refine⟨X.S.lp,X.n,X.r,X.c,X.w,ps[k],rfl,TL,I7.ly,λu hu=>⟨by decide,λl8 hl8=> ?_⟩⟩
   have hm2:AY X.n X.r X.c X.w 2=X.c * X.w:=by simp[AY]
   have sd:=AO (o:=.tup [.int (X.n+X.r+X.c+X.r+(ps[k]:Int) / X.w),.int ((ps[k]:Int) % X.w)]) hu
   have se:=AO (o:=.lst [.int cs.length]) hl8
   have f1:=se _ _ (show upd H7 u (.tup [.int (X.n+X.r+X.c+X.r+(ps[k]:Int) / X.w),.int ((ps[k]:Int) % X.w)]) u=some (.tup [.int (A5 X.n X.r X.c X.w 2 ps[k]:Nat),.int (ps[k] % X.w:Nat)]) by rw[AE];simp[A5])
   refine HQ (ns:=[(cs.length:Int)]) T4' (I7.same (sd.trans se)) (kind:=2) (x:=.mk 0) (by decide) (by rw[hm2];exact hp) f1 AE (by simp) (by simp;omega) (λx hx=>by rw[List.mem_singleton.mp hx];exact⟨by omega,by simp;omega⟩) trivial rfl (Nat.zero_le _) λc2' H9 I9 MW=>⟨by decide,λl hl=> ?_⟩
   have sl:=AO (o:=.lst [V.int cs.length,V.int ((cs++[c1']).length:Nat)]) hl
   have sbH:SameBut (λx=>X.S.A.F x\/x=X.S.tk) H H9:=λy o e n=>MW _ _ ((sd.trans se) _ _ (sb7 _ _ (s6 _ _ e) λz=>n (.inl z))) λz=>n (.inl z)
   exact q3 [c1',c2'] l _ rfl (LD I9 sbH hl) (by rw[AE];simp[BC,List.range_succ]) (by have:=I9.same sl;simpa using this) λy o e n=>sl _ _ (sbH _ _ e n)
 ·exact⟨by decide,q2 (by omega) _ CW⟩
theorem HR{f:Nat->Bool}{m k:Nat}(h:EL f m=k):f k=true:=by
 unfold EL at h
 cases e:(List.range m).find? f with
 | none=>rw[e]at h;simp at h
 | some k' =>
  rw[e]at h
  have:=List.find?_some e
  have:k'=k:=by simp at h;omega
  subst this
  assumption
theorem za8{M:Hs}{m cell rec:Nat}{x:CV}{y z:Str}{n1 n2:List Nat}(hyz:y≠z)(fc:FV 0 (M 0 cell)=true):cellOf ((M.put 3 rec x n1).put 0 cell (.nm z rec) n2) m y=cellOf M m y:=by
 unfold cellOf
 refine X1 λk _=> ?_
 unfold GE
 by_cases hk:k=cell
 ·subst hk
  rw[Hs.put_at,if_pos ⟨rfl,rfl⟩]
  cases e:M 0 k with
  | nm z' r'=>rw[e]at fc;simp[FV]at fc
  | _=>simp;exact λh=>hyz h.symm
 ·rw[Hs.put_at,if_neg (by omega),Hs.put_at,if_neg (by omega)]
theorem za9(h:Q6 K a vs H Q E):XJ K a (λ_=>E) (A9 Q) (start ["self","old","new","linked","record","gone"] vs) H:=by
 obtain⟨X,cs,tks,M,y,z,rfl,T4,I,hyl,hzl,hcs,q,q1,q2,q3,q4⟩:=h
 obtain⟨dx,ho⟩:=I.ob
 push_cast[XJ,↓Tw]
 refine⟨_,_,ho,B8 (by decide +kernel),X,cs,tks,M,y,z,rfl,T4,I,hyl,hzl,by omega,λhy hz hc old rec cell eo hol e0=> ?_,q1,q2,q3,q4⟩
 obtain⟨hr,m,ps,e3,hps,q⟩:=q hy hz hc old rec cell eo hol e0
 refine⟨hr,m,ps,e3,hps,λec A8 ex l1 H1 hex IL el1 I1 sb1=> ?_⟩
 have q:=q ec A8
 have hyz:y≠z:=λh=>by rw[h,hc]at eo;cases eo
 have fc:FV 0 (M 0 cell)=true:=HR ec
 have hco:old≠cell:=λh=>by rw[<-h,e0]at fc;simp[FV]at fc
 have ec1:cellOf ((M.put 3 rec (.rc (m+1) ps) []).put 0 cell (.nm z rec) (cs.length::DW tks z)) X.m0 y=some old:=by rw[za8 hyz fc];exact eo
 have e01:((M.put 3 rec (.rc (m+1) ps) []).put 0 cell (.nm z rec) (cs.length::DW tks z)) 0 old=.nm y rec:=by rw[Hs.put_at,if_neg (by omega),Hs.put_at,if_neg (by omega)];exact e0
 obtain⟨dx1,ho1⟩:=I1.ob
 have fl1:¬ X.S.A.F l1/\l1≠X.S.tk:=⟨λz=>by
  have:=I.bk.off IL
  exact this z,λz=>by rw[z,I.tk]at IL;cases IL⟩
 push_cast[↓Tx]
 refine⟨_,_,ho1,B8 (by decide +kernel),X,_,tks,_,y,rfl,T4,I1,λcell' k' ec' hc' eM' H2 s2=> ?_,λe=>by rw[ec1]at e;cases e⟩
 rw[ec1]at ec'
 cases ec'
 rw[e01]at eM'
 cases eM'
 have I2:=I1.same s2
 push_cast[↓Ty]
 refine⟨_,_,s2 _ _ ho1,B8 (by decide +kernel),FF (SqL.of (s2 _ _ el1)) (n:=1) (v:=.int (cs.length+1:Nat)) rfl (by simp[BC,List.range_succ]) ⟨by decide,λl3 hl3=> ?_⟩⟩
 have s3:=AO (o:=.lst [V.int (cs.length+1:Nat)]) hl3
 have I3:=I2.same s3
 have e33:((M.put 3 rec (.rc (m+1) ps) []).put 0 cell (.nm z rec) (cs.length::DW tks z)) 3 rec=.rc (m+1) ps:=by rw[Hs.put_at,if_neg (by omega),Hs.put_at,if_pos ⟨rfl,rfl⟩]
 refine⟨X,_,tks,_,old,y,l3,[((cs.length+1:Nat):Int)],rfl,T4,I3,ec1,hol,AE,by simp,(λx hx=>by rw[List.mem_singleton.mp hx];exact⟨by omega,by simp[hex]⟩),by simp[hex];omega,λc3 H4 I4 sb4=> ?_⟩
 obtain⟨dx4,ho4⟩:=I4.ob
 have BU:(cs++ex).length=cs.length+2:=by simp[hex]
 rw[BU]
 have el4:=sb4 _ _ (s3 _ _ (s2 _ _ el1)) λz=>z.elim fl1.1 fl1.2
 push_cast[↓Tz]
 refine⟨_,_,ho4,B8 (by decide +kernel),by decide,λl5 hl5=> ?_⟩
 have s5:=AO (o:=.lst [V.int (cs.length+2:Nat)]) hl5
 have e34:(((M.put 3 rec (.rc (m+1) ps) []).put 0 cell (.nm z rec) (cs.length::DW tks z)).put 0 old .no (JM [((cs.length+1:Nat):Int)])) 3 rec=.rc (m+1) ps:=by rw[Hs.put_at,if_neg (by omega)];exact e33
 refine⟨X,_,_,_,rec,m+1,m,-1,ps,l5,[((cs.length+2:Nat):Int)],rfl,T4,I4.same s5,hr,e34,by omega,hps,AE,by simp,(λx hx=>by rw[List.mem_singleton.mp hx];exact⟨by omega,by simp[hex]⟩),by simp[hex];omega,λc4 H6 I6 sb6=>⟨by decide,λl6 hl6=>.inl ?_⟩⟩
 have el6:=sb6 _ _ (s5 _ _ el4) fl1.1
 have s6:=AO (o:=.lst [V.int (cs.length+2:Nat),V.int ((cs++ex++[c3]).length:Nat)]) hl6
 refine⟨l1,l6,_,_,rfl,rfl,s6 _ _ el6,AE,CM _ (by simp[BC]),λl hl=> ?_⟩
 have sl:=AO (o:=.lst (BC ((List.range 2).map (cs.length+·))++[V.int (cs.length+2:Nat),V.int ((cs++ex++[c3]).length:Nat)])) hl
 have sbH:SameBut (λx=>X.S.A.F x\/x=X.S.tk) H (upd H6 l6 (.lst [V.int (cs.length+2:Nat),V.int ((cs++ex++[c3]).length:Nat)])):=λb o e n=>s6 _ _ (sb6 _ _ (s5 _ _ (sb4 _ _ (s3 _ _ (s2 _ _ (sb1 _ _ e n))) n)) λz=>n (.inl z))
 have h2:((cs.length:Int)+2).toNat=cs.length+2:=by omega
 exact q (ex++[c3]++[c4]) l _ (by simp[hex]) (LD (I6.same s6) sbH hl) (by rw[AE];simp[BC,List.range_succ,hex]) (by have:=(I6.same s6).same sl;simpa [List.append_assoc,hex,h2]using this) λb o e n=>sl _ _ (sbH _ _ e n)
theorem rE(C C':Nat->Bool)(hC:∀ j,C j=true->C' j=true)(kind k:Nat):∀ as:List AC,(∃ x,∀ M,sh M C' as kind k=x)\/((∀ M,sh M C' as kind k=M kind k)/\∀ M,sh M C as kind k=M kind k)
 | []=>.inr ⟨λ_=>rfl,λ_=>rfl⟩
 | b::r=>by
  have ih:=rE C C' hC kind k r
  by_cases e:kind=b.kind/\k=b.k
  ·obtain⟨rfl,rfl⟩:=e
   by_cases c:C' r.length=true
   ·exact .inl ⟨b.x,λM=>by rw[BY c,BN]⟩
   ·have c0:¬ C r.length=true:=λz=>c (hC _ z)
    rcases ih with⟨x,h⟩ | ⟨h1,h2⟩
    ·exact .inl ⟨x,λM=>by rw[DA c];exact h M⟩
    ·exact .inr ⟨λM=>by rw[DA c];exact h1 M,λM=>by rw[DA c0];exact h2 M⟩
  ·have far:∀ (D:Nat->Bool) (M:Md),sh M D (b::r) kind k=sh M D r kind k:=λD M=>by
    by_cases c:D r.length=true
    ·rw[BY c];exact if_neg e
    ·rw[DA c]
   rcases ih with⟨x,h⟩ | ⟨h1,h2⟩
   ·exact .inl ⟨x,λM=>by rw[far];exact h M⟩
   ·exact .inr ⟨λM=>by rw[far];exact h1 M,λM=>by rw[far];exact h2 M⟩
theorem zba{C C':Nat->Bool}(hC:∀ j,C j=true->C' j=true){M:Md}{as:List AC}{kind k:Nat}:sh (sh M C as) C' as kind k=sh M C' as kind k:=by
 rcases rE C C' hC kind k as with⟨x,h⟩ | ⟨h1,h2⟩
 ·rw[h,h]
 ·rw[h1,h1,h2]
theorem zbb{cs:List Ch}{ch:Ch}{O:Int->Bool}{b:Nat}{row:List V}:EJ (cs++[ch]) O b row=if ch.blk=b/\O cs.length=true then(EJ cs O b row).set ch.cell ch.val else EJ cs O b row:=by
 have ib:CN (cs++[ch]) b=if ch.blk=b then CN cs b++[cs.length]else CN cs b:=by simp[CN,GA]
 have st:∀ (l:List Nat) (row:List V),(∀ k∈l,k<cs.length)->l.foldl (F3 (cs++[ch]) O) row=l.foldl (F3 cs O) row:=by
  intro l
  induction l with
  | nil=>intro _ _;rfl
  | cons k l ih =>
   intro row h
   rw[List.foldl_cons,List.foldl_cons,ih _ λj hj=>h j (List.mem_cons_of_mem _ hj)]
   congr 1
   unfold F3
   rw[List.getElem?_append_left (h k List.mem_cons_self)]
 have lt:∀ k∈CN cs b,k<cs.length:=λk hk=>by
  obtain⟨c,e,_⟩:=US.mp hk
  exact(List.getElem?_eq_some_iff.mp e).1
 unfold EJ
 rw[ib]
 by_cases e:ch.blk=b
 ·rw[if_pos e,List.foldl_append,st _ _ lt]
  simp only[List.foldl_cons,List.foldl_nil]
  unfold F3
  rw[List.getElem?_append_right (Nat.le_refl _),Nat.sub_self]
  by_cases o:O cs.length=true
  ·rw[if_pos o,if_pos ⟨e,o⟩];rfl
  ·rw[if_neg o,if_neg λz=>o z.2]
 ·rw[if_neg e,if_neg λz=>e z.1,st _ _ lt]
section
variable{n r c w:Nat}{cs:List Ch}{as:List AC}
theorem LaidA.len(h:LaidA n r c w H cs as):cs.length=as.length:=by
 induction h with
 | nil=>rfl
 | snoc _ _ _ _ _ _ _ ih=>rw[List.length_append,ih];rfl
theorem LaidA.cut(h:LaidA n r c w H cs as){outs:Int->Bool}(hc:P8 cs outs):D9 (λj=>outs (j:Nat)) as:=by
 induction h with
 | nil=>trivial
 | @snoc cs as ch x l e1 e2 e3 e4 e5 e6 ih =>
  refine⟨ih λk c ec=>hc k c (by rw[List.getElem?_append_left (List.getElem?_eq_some_iff.mp ec).1];exact ec),λo=> ?_⟩
  have o:outs (cs.length:Nat)=true:=by rw[l.len];exact o
  have nd:=hc cs.length ch (by rw[List.getElem?_append_right (Nat.le_refl _),Nat.sub_self];rfl) o
  exact⟨λy hy=>nd _ ((e4 _).mpr (.inl ⟨y,hy,rfl⟩)),λj hj=>nd _ ((e4 _).mpr (.inr ⟨j,hj,rfl⟩))⟩
theorem LaidA.far(h:LaidA n r c w H cs as){C C':Int->Bool}{b:Nat}(hC:∀ (j:Nat) (ch:Ch),cs[j]? =some ch->ch.blk≠b->C' j=C j){M:Md}{kind k:Nat}(hb:A5 n r c w kind k≠b):sh M (λj=>C' (j:Nat)) as kind k=sh M (λj=>C (j:Nat)) as kind k:=by
 induction h with
 | nil=>rfl
 | @snoc cs as ch x l e1 e2 e3 e4 e5 e6 ih =>
  have ih:=ih λj c ec=>hC j c (by rw[List.getElem?_append_left (List.getElem?_eq_some_iff.mp ec).1];exact ec)
  by_cases e:kind=x.kind/\k=x.k
  ·have cc:=hC cs.length ch (by rw[List.getElem?_append_right (Nat.le_refl _),Nat.sub_self];rfl) (by rw[e1,<-e.1,<-e.2];exact hb)
   rw[l.len]at cc
   by_cases o:C as.length=true
   ·rw[BY (C:=λj=>C (j:Nat)) o,BY (C:=λj=>C' (j:Nat)) (cc.trans o),e.1,e.2,BN,BN]
   ·rw[DA (C:=λj=>C (j:Nat)) o,DA (C:=λj=>C' (j:Nat)) (by rw[cc];exact o)];exact ih
  ·have far:∀ D:Nat->Bool,sh M D (x::as) kind k=sh M D as kind k:=λD=>by
    by_cases o:D as.length=true
    ·rw[BY o];exact if_neg e
    ·rw[DA o]
   rw[far,far];exact ih
theorem LaidA.laid(h:LaidA n r c w H cs as){O:Int->Bool}{b:Nat}{row:List V}{S:Md}(hr:∀ kind k v,kind<5->k<AY n r c w kind->A5 n r c w kind k=b->row[k % w]? =some v->RepC H (S kind k) v):∀ kind k v,kind<5->k<AY n r c w kind->A5 n r c w kind k=b->(EJ cs O b row)[k % w]? =some v->RepC H (sh S (λj=>O (j:Nat)) as kind k) v:=by
 induction h with
 | nil=>exact hr
 | @snoc cs as ch x l e1 e2 e3 e4 e5 e6 ih =>
  intro kind k v h1 hk hb hv
  rw[zbb]at hv
  have ih:=ih kind k v h1 hk hb
  by_cases e:kind=x.kind/\k=x.k
  ·obtain⟨rfl,rfl⟩:=e
   rw[e1,hb]at hv
   by_cases o:O as.length=true
   ·rw[BY (C:=λj=>O (j:Nat)) o,BN]
    rw[if_pos ⟨rfl,by rw[l.len];exact o⟩,e2]at hv
    have hl:=(List.getElem?_eq_some_iff.mp hv).1
    rw[List.length_set]at hl
    rw[List.getElem?_set_self hl]at hv
    cases hv
    exact e3
   ·rw[DA (C:=λj=>O (j:Nat)) o]
    rw[if_neg λz=>o (by rw[<-l.len];exact z.2)]at hv
    exact ih hv
  ·have far:sh S (λj=>O (j:Nat)) (x::as) kind k=sh S (λj=>O (j:Nat)) as kind k:=by
    by_cases o:O as.length=true
    ·rw[BY (C:=λj=>O (j:Nat)) o];exact if_neg e
    ·rw[DA (C:=λj=>O (j:Nat)) o]
   rw[far]
   refine ih ?_
   split at hv
   ·rename_i z
    have:ch.cell≠k % w:=λy=>e (by
     have:=X0 (n:=n) (r:=r) (c:=c) (w:=w) h1 e5 hk e6 (by rw[hb,<-e1];exact z.1.symm) (by rw[<-y,e2])
     exact this)
    rw[List.getElem?_set_ne this]at hv
    exact hv
   ·exact hv
end
theorem RowsAre.keep{n r c w:Nat}{rows:List (List V)}{S:Md}{H':Hp}(h:RowsAre H n r c w rows S)(k:EU H H'):RowsAre H' n r c w rows S:=λkind i v h1 h2 h3=>(h kind i v h1 h2 h3).keep k
theorem RowsAre.write{n r c w b:Nat}{cs:List Ch}{as:List AC}{rows:List (List V)}{row:List V}{B:Md}{outs:Int->Bool}(h:RowsAre H n r c w rows (sh B (λj=>outs (j:Nat)) as))(l:LaidA n r c w H cs as)(er:rows[b]? =some row) :
  RowsAre H n r c w (rows.set b (EJ cs (E4 cs outs b) b row)) (sh B (λj=>E4 cs outs b (j:Nat)) as):=λkind k v h1 hk hv=>by
 have hb:=(List.getElem?_eq_some_iff.mp er).1
 have up:∀ j:Nat,outs j=true->E4 cs outs b j=true:=λj e=>by unfold E4;rw[e];rfl
 by_cases e:A5 n r c w kind k=b
 ·rw[e,List.getElem?_set_self hb]at hv
  have:=l.laid (O:=E4 cs outs b) (b:=b) (row:=row) (S:=sh B (λj=>outs (j:Nat)) as) (λkind k v h1 hk e hv=>h kind k v h1 hk (by rw[e,er];exact hv)) kind k v h1 hk e hv
  rw[zba (C:=λj=>outs (j:Nat)) (C':=λj=>E4 cs outs b (j:Nat)) up]at this
  exact this
 ·rw[List.getElem?_set_ne (λz=>e z.symm)]at hv
  rw[l.far (C:=outs) (C':=E4 cs outs b) (b:=b) (λj ch ej nb=> ?_) e]
  ·exact h kind k v h1 hk hv
  ·unfold E4
   have:(outcome cs outs (λ_=>false) b).out.any (λ(i:Nat)=>(j:Int) ==(i:Int))=false:=by
    rw[Bool.eq_false_iff]
    intro z
    obtain⟨i,hi,ei⟩:=List.any_eq_true.mp z
    have ei:i=j:=by have:=beq_iff_eq.mp ei;omega
    subst ei
    obtain⟨c',ec',eb⟩:=US.mp ((UT.2.1 i hi).2)
    rw[ej]at ec'
    cases ec'
    exact nb eb
   rw[this,Bool.or_false]
theorem zbc:∀ i:Fin 26,(Str.ofString "abcdefghijklmnopqrstuvwxyz").cps.toList[i.val]? =some (97+i.val):=by decide +kernel
theorem zbd{i:Int}{n:Nat}{Q:VK}(hi:i=n)(hn:n<26)(q:Q (.str ⟨#[97+n]⟩) H):CP K (.str (Str.ofString "abcdefghijklmnopqrstuvwxyz")) (.int i) H Q:=qV hi (by decide +kernel) (zbc ⟨n,hn⟩) q
theorem RL{x:Int}{Q:VK}(q:∀ n:Nat,n<26->Q (.str ⟨#[97+n]⟩) H):CP K (.str (Str.ofString "abcdefghijklmnopqrstuvwxyz")) (.int (x % 26)) H Q:=by
 obtain⟨b,eb,hb⟩:=XY x (n:=26) (by omega)
 rw[show((26:Nat):Int)=26 from rfl]at eb
 rw[eb]
 exact zbd rfl hb (q b hb)
theorem zbe(x y:Str):(x++y).cps.toList=x.cps.toList++y.cps.toList:=by
 show(x.cps++y.cps).toList=_
 simp
theorem RM(z:Str):z.cps.toList.length=z.length:=by simp[Str.length]
theorem zbf{z:Str}{k:Nat}(h:k<=z.length):(Txt.slice z none (some (k:Int))).cps.toList=z.cps.toList.take k:=by
 rw[eq_of_beq (slice_closes_to (x:=z) (j:=(k:Int)) ⟨by omega,by rw[RM];omega⟩)]
 simp
theorem zbg{z:Str}{k:Nat}(h:k<=z.length):(Txt.slice z (some (k:Int)) none).cps.toList=z.cps.toList.drop k:=by
 rw[eq_of_beq (slice_closes_from (x:=z) (i:=(k:Int)) ⟨by omega,by rw[RM];omega⟩)]
 have:((z.cps.toList.length:Int) - k).toNat=(z.cps.toList.drop k).length:=by rw[List.length_drop];omega
 simp only[Int.toNat_natCast,this,List.take_length]
def Lts(z:Str)(n:Nat):Prop:=z.cps.toList.length=n/\z.cps.toList.all NQ=true
theorem Lts.len{z:Str}{n:Nat}(h:Lts z n):z.length=n:=by rw[<-RM];exact h.1
theorem Lts.cat{x y:Str}{n m:Nat}(h:Lts x n)(h':Lts y m):Lts (x++y) (n+m):=by
 unfold Lts
 rw[zbe,List.length_append,List.all_append,h.1,h'.1,h.2,h'.2]
 exact⟨rfl,rfl⟩
theorem Lts.one{n:Nat}(h:n<26):Lts ⟨#[97+n]⟩ 1:=⟨rfl,by simp[NQ];omega⟩
theorem Lts.to{z:Str}{n k:Nat}(h:Lts z n)(hk:k<=n):Lts (Txt.slice z none (some (k:Int))) k:=by
 unfold Lts
 rw[zbf (by rw[h.len];exact hk)]
 refine⟨by rw[List.length_take,h.1];omega,?_⟩
 rw[List.all_eq_true]
 exact λc hc=>List.all_eq_true.mp h.2 c (List.mem_of_mem_take hc)
theorem Lts.from{z:Str}{n k:Nat}(h:Lts z n)(hk:k<=n):Lts (Txt.slice z (some (k:Int)) none) (n - k):=by
 unfold Lts
 rw[zbg (by rw[h.len];exact hk)]
 refine⟨by rw[List.length_drop,h.1],?_⟩
 rw[List.all_eq_true]
 exact λc hc=>List.all_eq_true.mp h.2 c (List.mem_of_mem_drop hc)
theorem Lts.name{z:Str}{n:Nat}(h:Lts z n)(h1:1<=n)(h8:n<=8):BL z=true:=by
 unfold BL
 rw[h.len,h.2]
 simp
 omega
theorem rF{z:Str}(h:BL z=true):Lts z z.length/\1<=z.length/\z.length<=8:=by
 unfold BL at h
 simp only[Bool.and_eq_true,decide_eq_true_eq]at h
 exact⟨⟨RM z,h.2⟩,h.1.1,h.1.2⟩
theorem zbh(h:Q7 K a vs H Q E):VR K a (λ_=>E) (A9 Q) (start ["cell","letters","base","rest","k","at","first","last","turned"] vs) H:=by
 obtain⟨x,rfl,q⟩:=h
 push_cast[VR,↓Hq,↓Hv,↓Hw,↓Hz]
 obtain⟨m,em,hm⟩:∃ m:Nat,1+x % 6=m/\1<=m/\m<=6:=⟨(1+x % 6).toNat,by omega,by omega⟩
 rw[em,Int.toNat_natCast]
 refine⟨⟨by decide,by decide⟩,by omega,by omega,NI (λi σ H'=>∃ (p:Str) (rest:Int),H'=H/\Lts p i/\∃ y,σ=[some (.int x),some (.str (Str.ofString "abcdefghijklmnopqrstuvwxyz")),some (.str p),some (.int rest),y,none,none,none,none]) ⟨Str.ofString "",_,rfl,⟨by decide +kernel,by decide +kernel⟩,_,rfl⟩ (λi σ H' hi hzz=> ?_) (λσ H' hzz=> ?_)⟩
 ·obtain⟨p,rest,e,hp,y,ez⟩:=hzz
  subst e ez
  push_cast[↓Hx,↓Hy]
  have:=hp.len
  refine⟨.inl ⟨by omega,by omega⟩,⟨by decide,by decide⟩,.inl ⟨by omega,by omega⟩,RL λn hn=> ?_⟩
  push_cast[]
  have h1:=(Lts.one hn).len
  exact⟨CM _ (by omega),⟨by decide,by decide⟩,.inl ⟨by omega,by omega⟩,_,hp.cat (Lts.one hn),rfl⟩
 ·obtain⟨p,rest,e,hp,y,ez⟩:=hzz
  subst e ez
  have CJ:=hp.len
  push_cast[↓Jb]
  refine⟨⟨by decide,by decide⟩,m,⟨CM _ (by omega),CJ.symm⟩,by omega,?_⟩
  obtain⟨at',eat,hat⟩:=XY (x / 7) (n:=m) (by omega)
  rw[eat]
  push_cast[↓Jc]
  refine⟨⟨by decide,by decide⟩,RL λn1 hn1=> ?_⟩
  push_cast[↓Jd]
  refine⟨⟨by decide,by decide⟩,⟨by decide,by decide⟩,RL λn2 hn2=> ?_⟩
  push_cast[↓Jg]
  refine⟨rfl,zae (n:=at') rfl (by omega) (by omega) λc=>⟨_,_,rfl,rfl,?_⟩⟩
  push_cast[]
  refine⟨⟨by decide,by decide⟩,RL λn3 hn3=> ?_⟩
  push_cast[↓Jh]
  have l1:=Lts.one hn1
  have l2:=Lts.one hn2
  have l3:=Lts.one hn3
  have lt:=hp.to (k:=at') (by omega)
  have lf:=hp.from (k:=at'+1) (by omega)
  have d1:=l1.len
  have d2:=l2.len
  have d3:=l3.len
  have d4:=lt.len
  have d5:=lf.len
  have ea:((at':Nat):Int)+1=((at'+1:Nat):Int):=by omega
  rw[ea]
  have e1:=hp.cat l2
  have e2:=l1.cat hp
  have e3:=(lt.cat l3).cat lf
  have e4:=(hp.cat l2).cat l1
  refine⟨CM _ (by omega),CM _ (by omega),CM _ (by omega),CM _ (by omega),CM _ (by omega),CM _ (by rw[qX];omega),CM _ (by omega),CM _ (by rw[qX];omega),by decide,λl hl=> ?_⟩
  refine q l [p,p++(⟨#[97+n2]⟩:Str),(⟨#[97+n1]⟩:Str)++p,Txt.slice p none (some (at':Int))++(⟨#[97+n3]⟩:Str)++Txt.slice p (some ((at'+1:Nat):Int)) none,p++(⟨#[97+n2]⟩:Str)++(⟨#[97+n1]⟩:Str)] _ hl (AO hl) (by rw[AE];rfl) rfl λz hz=> ?_
  simp only[List.mem_cons,List.not_mem_nil,or_false]at hz
  rcases hz with rfl | rfl | rfl | rfl | rfl
  ·exact hp.name (by omega) (by omega)
  ·exact e1.name (by omega) (by omega)
  ·exact e2.name (by omega) (by omega)
  ·exact e3.name (by omega) (by omega)
  ·exact e4.name (by omega) (by omega)
def NY:Str:=Str.ofString " !\"#$&'()*+,-./0123456789:;<=>?@ABCDEFGHIJKLMNOPQRSTUVWXYZ[\\]^_`"++Str.ofString "abcdefghijklmnopqrstuvwxyz{|}~"
theorem zbi:∀ i:Fin 94,∃ c,NY.cps.toList[i.val]? =some c/\c<1114112:=by
 have h:∀ i:Fin 94,NY.cps.toList[i.val]? =some (NY.cps.toList[i.val]!)/\NY.cps.toList[i.val]! <1114112:=by decide +kernel
 exact λi=>⟨_,(h i).1,(h i).2⟩
theorem zbj(h:Q9 K a vs H Q E):VX K a (λ_=>E) (A9 Q) (start ["cell"] vs) H:=by
 obtain⟨x,rfl,q⟩:=h
 push_cast[VX,↓Jx,↓Jy,↓Jz]
 refine⟨⟨by decide,by decide⟩,?_⟩
 split
 ·exact q _
 ·exact q _
theorem rG:∀ l:List Str,(∀ x∈l,x.length=1)->(l.map (·.length)).sum=l.length
 | [],_=>rfl
 | x::r,h=>by
  rw[List.map_cons,List.sum_cons,rG r λy hy=>h y (List.mem_cons_of_mem _ hy),h x List.mem_cons_self,List.length_cons]
  omega
theorem rH{g:Str}(hg:PyData.strOk g=true):∀ (l:List Str) (BZ:Array Nat),(BZ.all λx=>decide (x<1114112))=true->(∀ z∈l,PyData.strOk z=true)->((l.foldl (λBZ p=>BZ++g.cps++p.cps) BZ).all λx=>decide (x<1114112))=true
 | [],BZ,h,_=>h
 | z::l,BZ,h,hz=>by
  rw[List.foldl_cons]
  refine rH hg l _ ?_ λy hy=>hz y (List.mem_cons_of_mem _ hy)
  have h1:(g.cps.all λx=>decide (x<1114112))=true:=hg
  have h2:(z.cps.all λx=>decide (x<1114112))=true:=hz z List.mem_cons_self
  rw[Array.all_append,Array.all_append,h,h1,h2,Bool.true_and,Bool.true_and]
theorem zbk{g:Str}{l:List Str}(hg:PyData.strOk g=true)(h:∀ z∈l,PyData.strOk z=true):PyData.strOk (Txt.join g l)=true:=by
 unfold PyData.strOk Txt.join Builtin.Str.glued
 cases l with
 | nil=>show((Str.empty.cps).all λx=>decide (x<1114112))=true;decide +kernel
 | cons z l=>exact rH hg l z.cps (h z List.mem_cons_self) λy hy=>h y (List.mem_cons_of_mem _ hy)
theorem zbl(h:Q8 K a vs H Q E):VW K a (λ_=>E) (A9 Q) (start ["cell","signs","many","step","wide"] vs) H:=by
 obtain⟨x,rfl,q⟩:=h
 have tail:∀ m:Nat,m<=40->VT K a (λ_=>E) (λ_=>E) { nx:=AK (VU K a (λ_=>E) (λ_=>E)) (VV K a (λ_=>E) (λ_=>E)) (A9 Q),rt:=Q } [some (.int x),some (.str NY),some (.int m),none,none] H:=λm hm=>by
  push_cast[↓Jq,↓Jv,↓Jw]
  refine⟨⟨by decide,by decide⟩,⟨by decide,by decide⟩,rfl,by omega,by omega,?_⟩
  refine NH (CM _ (by omega)) (λi ys H'=>H'=H/\∃ zs:List Str,ys=zs.map V.str/\∀ z∈zs,z.length=1/\PyData.strOk z=true) ⟨rfl,[],rfl,by simp⟩ (λi ys H' hi hl hzz=> ?_) (λys H' hl ⟨e1,zs,e2,e3⟩ p hp=> ?_)
  ·obtain⟨e1,zs,e2,e3⟩:=hzz
   subst e1
   push_cast[EI]
   obtain⟨b,eb,hb⟩:=XY (x / 3+(1+x / 19 % 93) * ((0+(i:Int)) / (1+x / 7 % 3))) (n:=94) (by omega)
   obtain⟨c,hc,hco⟩:=zbi ⟨b,hb⟩
   have hd:(0+(i:Int)) / (1+x / 7 % 3)<=40/\0<=(0+(i:Int)) / (1+x / 7 % 3):=by
    have h1:0<1+x / 7 % 3:=by omega
    refine⟨?_,Int.ediv_nonneg (by omega) (by omega)⟩
    exact Int.le_trans (Int.ediv_le_self _ (by omega)) (by omega)
   refine⟨⟨by decide,by decide⟩,⟨by omega,by omega⟩,.inl ⟨by omega,by omega⟩,?_⟩
   rw[show((94:Nat):Int)=94 from rfl]at eb
   rw[eb]
   refine qV rfl (by decide +kernel) hc ⟨rfl,zs++[⟨#[c]⟩],by rw[e2,List.map_append];rfl,λz hz=> ?_⟩
   rcases List.mem_append.mp hz with hz | hz
   ·exact e3 z hz
   ·rw[List.mem_singleton.mp hz]
    exact⟨rfl,by simp[PyData.strOk];exact hco⟩
  ·subst e1
   have MV:zs.length=m:=by rw[<-hl,e2,List.length_map]
   refine⟨_,p,zs,rfl,rfl,by rw[<-e2];exact SqL.of AE,by decide,by rw[rG zs λz hz=>(e3 z hz).1];omega,q _ _ ?_ ?_ (AO hp)⟩
   ·rw[W.KT.join_ones zs λz hz=>(e3 z hz).1,MV];exact hm
   ·exact zbk (by decide +kernel) λz hz=>(e3 z hz).2
 push_cast[VW,↓Jj,↓Jk,↓Jl,↓Jp,↓Jm]
 refine⟨by decide +kernel,⟨by decide,by decide⟩,?_⟩
 split
 ·obtain⟨m,em,hm⟩:∃ m:Nat,40 - x / 40 % 2=m/\m<=40:=⟨(40 - x / 40 % 2).toNat,by omega,by omega⟩
  rw[em]
  exact⟨⟨by decide,by decide⟩,tail m hm⟩
 ·obtain⟨m,em,hm⟩:∃ m:Nat,1+x % 5=m/\m<=40:=⟨(1+x % 5).toNat,by omega,by omega⟩
  rw[em]
  exact tail m hm
theorem HS{c A B:Prop}[Decidable c](h:c)(x:A):if c then A else B:=by rw[if_pos h];exact x
theorem E7{c A B:Prop}[Decidable c](h:¬ c)(x:B):if c then A else B:=by rw[if_neg h];exact x
theorem rJ{M:Md}{C:Nat->Bool}{as:List AC}:∀ {es:List AC},(∀ j,as.length<=j->C j=false)->sh M C (es++as)=sh M C as
 | [],_=>rfl
 | e::es,h=>by
  rw[List.cons_append,DA (by rw[h _ (by simp)];exact Bool.false_ne_true)]
  exact rJ h
theorem X4{tks:List (AH × V)}{z:Str}{k:Nat}:LB (B7 tks (.inr z) (.int (k:Nat)))=EK (LB tks) z k:=by
 funext y
 unfold LB DW EK
 rw[KW]
 by_cases e:y=z
 ·subst e;rw[if_pos rfl,if_pos rfl];rfl
 ·rw[if_neg (λh=>e (Sum.inr.inj h)),if_neg e]
theorem RN{tks:List (AH × V)}{z:Str}{j:Nat}(h:LB tks z=some j):j∈DW tks z:=List.mem_of_mem_head? h
theorem LaidA.off{n r c w:Nat}{cs:List Ch}{as:List AC}(h:LaidA n r c w H cs as){C:Nat->Bool}{kind k:Nat}(hk:¬ k<AY n r c w kind):sh (λ_ _=>.no) C as kind k=.no:=by
 induction h with
 | nil=>rfl
 | @snoc cs as ch x l e1 e2 e3 e4 e5 e6 ih =>
  have e:¬ (kind=x.kind/\k=x.k):=λe=>hk (by rw[e.1,e.2];exact e6)
  by_cases c:C as.length=true
  ·rw[BY c];unfold Md.put;rw[if_neg e];exact ih
  ·rw[DA c];exact ih
section
variable{X:SX}{cs:List Ch}{tks:List (AH × V)}{M:Hs}
theorem C45.more{H':Hp}{ex:List Ch}{tks':List (AH × V)}{M':Hs}(I:C45 a H X cs tks M)(I':X.at a H' (cs++ex) tks' M')(sb:SameBut (λx=>X.S.A.F x\/x=X.S.tk) H H')(hH:∃ o,Hist X.m0 M'.b M'.as (LB tks') o)(hb:M'.b=M.b)(hs:∃ es,M'.as=es++M.as/\∀ x∈es,EG x.kind x.x):C45 a H' X (cs++ex) tks' M':=by
 obtain⟨es,he,ho⟩:=hs
 have tk:EU H H':=JO sb λx hx=>hx.elim (λh=>I.st.bk.loose h) λh=>by rw[h];exact K8 I.st.tk
 have out:∀ j:Nat,cs.length<=j->X.outs j=false:=λj hj=>by
  obtain⟨C4,e,hv,ks⟩:=I.st.bk.bk.out
  cases eo:X.outs j with
  | false=>rfl
  | true =>
   exfalso
   rw[<-hv,<-IY]at eo
   obtain⟨p,hp,ep⟩:=List.any_eq_true.mp eo
   have ep:p.1=.inl (j:Int):=by simpa using ep
   have:=ks.2 p hp
   rw[ep]at this
   obtain⟨k,e1,e2⟩:=this
   have:=Sum.inl.inj e1
   omega
 refine⟨I',hH,hb.trans I.b0,λk c ec o=> ?_,?_,I.few,λx hx=> ?_⟩
 ·by_cases hk:k<cs.length
  ·rw[List.getElem?_append_left hk]at ec
   exact I.cut k c ec o
  ·rw[out k (by omega)]at o;cases o
 ·rw[hb,he,rJ λj hj=>out j (by rw[I.st.la.len];exact hj)]
  exact I.rows.keep tk
 ·rw[he]at hx
  rcases List.mem_append.mp hx with h | h
  ·exact ho x h
  ·exact I.ok x h
theorem IK{m:Nat}{z:Str}(h:cellOf M m z=none):∀ j r,j<m->M 0 j≠.nm z r:=λj r hj e=>by
 have:=List.find?_eq_none.mp h j (List.mem_range.mpr hj)
 unfold GE at this
 rw[e]at this
 simp at this
theorem MQ{cell:Nat}(ok:EG 0 (M 0 cell))(h:FV 0 (M 0 cell)=true):M 0 cell=.no:=by
 cases e:M 0 cell with
 | no=>rfl
 | _=>rw[e]at h;simp[FV]at h
theorem RO{kind k:Nat}(h:FV kind (M kind k)=true):M kind k≠.mk 1:=λe=>by
 rw[e]at h
 simp[FV]at h
theorem C45.ps(I:C45 a H X cs tks M){r m:Nat}{ps:List Nat}(h:M 3 r=.rc m ps):(∀ p∈ps,p<X.c * X.w)/\ps.length<=12:=by
 obtain⟨o,hi⟩:=I.hi
 have lt:∀ p∈ps,p<X.c * X.w:=λp hp=>by
  have e:=(hi.now.pm r m ps h p hp).1
  rcases Nat.lt_or_ge p (X.c * X.w)with z | z
  ·exact z
  ·exfalso
   have:M 2 p=.no:=by
    show AW M.b M.as 2 p=.no
    rw[I.b0]
    have la:=I.st.la
    revert la
    generalize M.as=as
    intro la
    exact la.off λhk=>by simp[AY]at hk;omega
   rw[show AW M.b M.as 2 p=.no from this]at e
   cases e
 have:=List.Nodup.length_le_of_subset (hi.now.nd r m ps h) (l₂:=List.range (X.c * X.w)) λp hp=>List.mem_range.mpr (lt p hp)
 rw[List.length_range]at this
 have:=I.few
 exact⟨lt,by omega⟩
end
theorem RP{a b:Str}(h:E3 a b=false):a≠b:=λe=>by subst e;simp[E3]at h
theorem JQ{d:Nat}:∀ {ps:List Nat} {M:Hs},(M.unmark d ps).as=(ps.map λp=>(⟨2,p,.mk 0,[d]⟩:AC)).reverse++M.as/\(M.unmark d ps).b=M.b
 | [],_=>⟨rfl,rfl⟩
 | p::ps,M=>by
  have:=JQ (d:=d) (ps:=ps) (M:=M.put 2 p (.mk 0) [d])
  refine⟨?_,this.2⟩
  rw[List.map_cons,List.reverse_cons,List.append_assoc]
  exact this.1
theorem zbm(h:NR K a vs H Q E):XR K a (λ_=>E) (A9 Q) (start ["store","kind","one","other","cell","refused"] vs) H:=by
 obtain⟨X,cs,tks,M,gs,W,ev,g,kind,y,z,x,rfl,T4,TD,I,J,hcs,hk,hy,hz,q1,q⟩:=h
 obtain⟨dx,ho⟩:=I.st.ob
 obtain⟨ly,_,hy8⟩:=rF hy
 obtain⟨lz,_,hz8⟩:=rF hz
 obtain⟨o,hi⟩:=I.hi
 have len:=I.st.la.len
 have sd:=hi.now
 have few:=I.few
 have ok0:∀ {cell},cell<X.m0->EG 0 (M 0 cell):=λh=>I.st.ok 0 _ (by decide) (by simpa [AY]using h)
 have rl:∀ {k z rec},k<X.m0->M 0 k=.nm z rec->∃ m ps,rec<X.r * X.w/\M 3 rec=.rc m ps:=λ{k z rec} hk e=>by
  obtain⟨m,ps,e3⟩:=sd.nl k z rec hk e
  refine⟨m,ps,?_,e3⟩
  rcases Nat.lt_or_ge rec (X.r * X.w)with h | h
  ·exact h
  ·exfalso
   have e3':sh M.b (λ_=>true) M.as 3 rec=.rc m ps:=e3
   rw[I.b0,I.st.la.off (C:=λ_=>true) (kind:=3) (k:=rec) (λhk=>by simp[AY]at hk;omega)]at e3'
   cases e3'
 push_cast[XR,↓Ug,↓Vg]
 have inc3:∀ {rec m ps},M 3 rec=.rc m ps->∃ g,D0 M.as gs rec=some g:=λe=>(J.now e).imp λ_ h=>h.1
 have fin:∀ (v:String) (H':Hp),Str.ofString v≠Str.ofString ""->Same H H'->NX K a (λ_=>E) (λ_=>E) (A9 Q) [some (.ref X.S.st),some (.int kind),some (.str y),some (.str z),some (.int x),some (.str (Str.ofString v))] H':=λv H' hv s=>by
  push_cast[↓pW]
  exact q1 _ H' hv s
 have bad:∀ c:String,(c="NoName"\/c="Twice"\/c="NoPiece"\/c="NoRoom")->∀ H',Same H H'->JE (λcls=>PySem.W.exmOne K cls (.ref (a "NoName"))) (XQ K a (λ_=>E) λ_=>E) (JE (λcls=>PySem.W.exmOne K cls (.ref (a "Twice"))) (XO K a (λ_=>E) λ_=>E) (JE (λcls=>PySem.W.exmOne K cls (.ref (a "NoPiece"))) (XN K a (λ_=>E) λ_=>E) (JE (λcls=>PySem.W.exmOne K cls (.ref (a "NoRoom"))) (XM K a (λ_=>E) λ_=>E) TK))) (.ref (a c)) { nx:=NX K a (λ_=>E) (λ_=>E) (A9 Q),rt:=Q } [some (.ref X.S.st),some (.int kind),some (.str y),some (.str z),some (.int x),some (.str (Str.ofString ""))] H':=λc hc H' s=>by
  rcases hc with rfl | rfl | rfl | rfl
  ·refine .inl ⟨TD.n1,?_⟩
   push_cast[↓Vd]
   exact fin _ _ (RP (by decide +kernel)) s
  ·refine .inr ⟨TD.t1,.inl ⟨TD.t2,?_⟩⟩
   push_cast[↓Vc]
   exact fin _ _ (RP (by decide +kernel)) s
  ·refine .inr ⟨TD.p1,.inr ⟨TD.p2,.inl ⟨TD.p3,?_⟩⟩⟩
   push_cast[↓Vb]
   exact fin _ _ (RP (by decide +kernel)) s
  ·refine .inr ⟨TD.r1,.inr ⟨TD.r2,.inr ⟨TD.r3,.inl ⟨TD.r4,?_⟩⟩⟩⟩
   push_cast[↓Uz]
   exact fin _ _ (RP (by decide +kernel)) s
 have good:∀ {ex:List Ch} {tks':List (AH × V)} {M':Hs} {H':Hp} {d:Nat},ex.length=d->d<=15->X.at a H' (cs++ex) tks' M'->(∃ o,Hist X.m0 M'.b M'.as (LB tks') o)->M'.b=M.b->(∃ es,M'.as=es++M.as/\∀ x∈es,EG x.kind x.x)->SameBut (λx=>X.S.A.F x\/x=X.S.tk) H H'->(∃ gs',Pend X.m0 M'.b M'.as gs' W ev/\Dd kind y z g (Mad X.m0 M.b M.as gs) (Mad X.m0 M'.b M'.as gs'))->NX K a (λ_=>E) (λ_=>E) (A9 Q) [some (.ref X.S.st),some (.int kind),some (.str y),some (.str z),some (.int x),some (.str (Str.ofString ""))] H':=λ{ex tks' M' H' d} h1 h2 I' h3 h4 h5 sb ⟨gs',hp,hd⟩=>by
  push_cast[↓pW]
  exact q (cs++ex) tks' M' gs' H' (I.more I' sb h3 h4 h5) (by simp;omega) sb hp hd
 have noY:BL y=false->False:=λh=>by rw[hy]at h;cases h
 have noZ:(BL y && BL z)=false->False:=λh=>by rw[hy,hz]at h;cases h
 push_cast[↓Uy]
 by_cases k1:kind<2
 ·refine HS (by omega) ?_
  push_cast[↓Uh]
  refine⟨_,_,ho,B8 (by decide +kernel),X,cs,tks,M,y,rfl,T4,I.st,by omega,by omega,λ_ hc rec cell er ec hr A8 ex v H' hl _ _ I' sb=> ?_,λh=>(noY h).elim,λ_ ⟨k,hc⟩ H' s=>bad _ (.inr (.inl rfl)) H' s,λ_ hc h H' s=>bad _ (.inr (.inr (.inr rfl))) H' s⟩
  refine good hl (by omega) I' ?_ rfl ⟨[_,_,_],rfl,by simp[EG]⟩ sb ?_
  rotate_left
  ·obtain⟨p,d⟩:=J.make' hi g (z:=y) (nd:=(cs.length+1)::DW tks y) A8 (MQ (ok0 A8) (HR ec)) (RO (kind:=1) (HR er)) (by rw[len];simp)
   rw[<-len]at p d
   exact⟨_,p,.make k1 (λi ⟨k,r,hk,e,_⟩=>IK hc k r hk e) d⟩
  have:=hi.make (z:=y) (nd:=(cs.length+1)::DW tks y) A8 (MQ (ok0 A8) (HR ec)) (IK hc) (RO (kind:=1) (HR er)) (by rw[len];simp) λj h=>List.mem_cons_of_mem _ (RN h)
  rw[<-len]at this
  exact⟨_,this⟩
 refine E7 (by omega) ?_
 push_cast[↓Ux]
 by_cases k2:kind=2
 ·subst k2
  refine HS (by decide) ?_
  push_cast[↓Uj]
  refine⟨_,_,ho,B8 (by decide +kernel),X,cs,tks,M,y,z,rfl,T4,I.st,by omega,by omega,by omega,λ_ _ hc old rec cell eo hol e0=> ?_,λh=>(noZ h).elim,λ_ _ ⟨k,hc⟩ H' s=>bad _ (.inr (.inl rfl)) H' s,λ_ _ _ _ H' s=>bad _ (.inl rfl) H' s,λ_ _ _ _ _ H' s=>bad _ (.inr (.inr (.inr rfl))) H' s⟩
  obtain⟨m,ps,hr,e3⟩:=rl hol e0
  refine⟨hr,m,ps,e3,by have:=(I.ps e3).2;omega,λec A8 ex v H' hl _ _ I' sb=>good hl (by omega) I' ?_ rfl ⟨[_,_],rfl,by simp[EG]⟩ sb ?_⟩
  rotate_left
  ·obtain⟨j,hj⟩:=inc3 e3
   obtain⟨p,d⟩:=J.link' (z:=z) (nd:=cs.length::DW tks z) A8 (MQ (ok0 A8) (HR ec)) e3 hj (by rw[len];simp)
   exact⟨_,p,.link j rfl ⟨old,rec,hol,e0,hj⟩ (λi ⟨k,r,hk,e,_⟩=>IK hc k r hk e) d⟩
  have:=hi.link (z:=z) (nd:=cs.length::DW tks z) A8 (MQ (ok0 A8) (HR ec)) (IK hc) e3 (by rw[len];simp) λj h=>List.mem_cons_of_mem _ (RN h)
  exact⟨_,this⟩
 refine E7 (by omega) ?_
 push_cast[↓Uw]
 by_cases k3:kind=3
 ·subst k3
  refine HS (by decide) ?_
  push_cast[↓Uk]
  refine⟨_,_,ho,B8 (by decide +kernel),X,cs,tks,M,y,rfl,T4,I.st,by omega,λcell rec ec A8 e0=> ?_,λhc H' s=>bad _ (.inl rfl) H' s⟩
  obtain⟨m,ps,hr,e3⟩:=rl A8 e0
  obtain⟨p1,p2⟩:=I.ps e3
  refine⟨hr,m,ps,e3,p1,by omega,λhm ex v H' hl _ _ I' sb=>good hl (by omega) I' ?_ rfl ⟨[_,_],rfl,by simp[EG]⟩ sb ?_,λhm ex v H' hl _ _ I' sb=>good hl (by omega) I' ?_ ?_ ?_ sb ?_⟩
  ·obtain⟨m',rfl⟩:∃ m',m=m'+1:=⟨m - 1,by omega⟩
   have:=hi.unlead (nd:=[]) A8 e0 e3
   rw[<-len]at this
   rw[X4]
   exact⟨_,this⟩
  ·obtain⟨m',rfl⟩:∃ m',m=m'+1:=⟨m - 1,by omega⟩
   obtain⟨j,hj⟩:=inc3 e3
   obtain⟨p,d⟩:=J.unlead' sd (nd:=[]) (nd':=[cs.length]) A8 e0 e3 hj
   exact⟨_,p,.cut j rfl ⟨cell,rec,A8,e0,hj⟩ d⟩
  ·have:=hi.dropped (nd:=[]) A8 e0 e3 hm
   rw[<-len]at this
   rw[X4]
   refine⟨EK o y cs.length,?_⟩
   show Hist X.m0 (Hs.unmark _ _ _).b (⟨1,rec,.mk 0,[cs.length+1]⟩::(Hs.unmark _ _ _).as) _ _
   rw[JQ.1,JQ.2]
   exact this
  ·exact JQ.2
  ·refine⟨⟨1,rec,.mk 0,[cs.length+1]⟩::((ps.map λp=>(⟨2,p,.mk 0,[cs.length+1]⟩:AC)).reverse++[⟨3,rec,.no,[cs.length]⟩,⟨0,cell,.no,[]⟩]),?_,λx hx=> ?_⟩
   ·show⟨1,rec,.mk 0,[cs.length+1]⟩::(Hs.unmark _ _ _).as=_
    rw[JQ.1]
    simp[Hs.put]
   ·simp only[List.mem_cons,List.mem_append,List.mem_reverse,List.mem_map,List.not_mem_nil,or_false]at hx
    rcases hx with rfl | ⟨p,_,rfl⟩ | rfl | rfl<;>simp[EG]
  ·obtain⟨j,hj⟩:=inc3 e3
   obtain⟨p,d⟩:=J.dropped' sd (nd:=[]) A8 e0 e3 hj
   rw[<-len]at p d
   refine⟨0::(ps.map (λ_=>0)++j::0::gs),?_,.cut j rfl ⟨cell,rec,A8,e0,hj⟩ λx i=> ?_⟩
   ·show Pend X.m0 (Hs.unmark _ _ _).b (⟨1,rec,.mk 0,[cs.length+1]⟩::(Hs.unmark _ _ _).as) _ _ _
    rw[JQ.1,JQ.2]
    exact p
   ·show Mad X.m0 (Hs.unmark _ _ _).b (⟨1,rec,.mk 0,[cs.length+1]⟩::(Hs.unmark _ _ _).as) _ _ _↔_
    rw[JQ.1,JQ.2]
    exact d x i
 refine E7 (by omega) ?_
 push_cast[↓Uv]
 by_cases k4:kind<6
 ·refine HS (by omega) ?_
  push_cast[↓Ul]
  refine⟨_,_,ho,B8 (by decide +kernel),x,rfl,λt H1 tl tst s1=> ?_⟩
  refine⟨X,cs,tks,M,y,t,rfl,T4,I.st.same s1,by omega,tst,by omega,λcell rec ec A8 e0 _ p ep hp=> ?_,λhc H' s=>bad _ (.inl rfl) H' (s1.trans s),λ_ _ H' s=>bad _ (.inr (.inr (.inl rfl))) H' (s1.trans s),λ_ _ _ H' s=>bad _ (.inr (.inr (.inr rfl))) H' (s1.trans s)⟩
  obtain⟨m,ps,hr,e3⟩:=rl A8 e0
  have p2:=(I.ps e3).2
  refine⟨hr,m,ps,e3,by omega,λex v H' hl _ _ I' sb=>good hl (by omega) I' ?_ rfl ⟨[_,_,_],rfl,by simp[EG]⟩ (λb o e n=>sb _ _ (s1 _ _ e) n) ?_⟩
  rotate_left
  ·obtain⟨j,hj⟩:=inc3 e3
   obtain⟨p,d⟩:=J.put' hi (x:=t) A8 e0 (RO (kind:=2) (HR ep)) e3 hj
   rw[<-len]at p d
   exact⟨_,p,.same (by omega) (by omega) d⟩
  have:=hi.put (x:=t) (RO (kind:=2) (HR ep)) e3
  rw[<-len]at this
  exact⟨_,this⟩
 refine E7 (by omega) ?_
 push_cast[↓Uq]
 by_cases k6:kind=6
 ·subst k6
  refine HS (by decide) ?_
  push_cast[↓Um]
  refine⟨_,_,ho,B8 (by decide +kernel),x,rfl,λu=>⟨X,cs,tks,M,y,u,rfl,T4,I.st,by omega,λcell rec ec A8 e0=> ?_,λhc H' s=>bad _ (.inl rfl) H' s⟩⟩
  obtain⟨m,ps,hr,e3⟩:=rl A8 e0
  obtain⟨p1,p2⟩:=I.ps e3
  refine⟨hr,m,ps,e3,by omega,λhx H' s=>bad _ (.inr (.inr (.inl rfl))) H' s,λk p ek ep=>⟨p1 p (List.mem_of_getElem? ep),λex v H' hl _ _ I' sb=>good hl (by omega) I' ?_ rfl ⟨[_,_],rfl,by simp[EG]⟩ sb ?_⟩⟩
  rotate_left
  ·obtain⟨j,hj⟩:=inc3 e3
   obtain⟨q1,d⟩:=J.take' (p:=p) (i:=k) A8 e0 e3 hj
   rw[<-len]at q1 d
   exact⟨_,q1,.same (by omega) (by omega) d⟩
  have:=hi.take e3 ep
  rw[<-len]at this
  exact⟨_,this⟩
 refine E7 (by omega) ?_
 have k7:kind=7:=by omega
 subst k7
 push_cast[↓Up]
 refine⟨_,_,ho,B8 (by decide +kernel),X,cs,tks,M,y,z,rfl,T4,I.st,by omega,by omega,by omega,λ_ _ hc old rec cell eo hol e0=> ?_,λh=>(noZ h).elim,λ_ _ ⟨k,hc⟩ H' s=>bad _ (.inr (.inl rfl)) H' s,λ_ _ _ _ H' s=>bad _ (.inl rfl) H' s,λ_ _ _ _ _ H' s=>bad _ (.inr (.inr (.inr rfl))) H' s⟩
 obtain⟨m,ps,hr,e3⟩:=rl hol e0
 refine⟨hr,m,ps,e3,by have:=(I.ps e3).2;omega,λec A8 ex v H' hl _ _ I' sb=>good hl (by omega) I' ?_ rfl ⟨[_,_,_,_],rfl,by simp[EG]⟩ sb ?_⟩
 rotate_left
 ·obtain⟨j,hj⟩:=inc3 e3
  have f0:=MQ (ok0 A8) (HR ec)
  have l1:=hi.link (z:=z) (nd:=cs.length::DW tks z) A8 f0 (IK hc) e3 (by rw[len];simp) λj h=>List.mem_cons_of_mem _ (RN h)
  obtain⟨p,d⟩:=J.move' hi (z:=z) (nd:=cs.length::DW tks z) (nd1:=[cs.length+1]) (nd2:=[cs.length+2]) A8 f0 hol e0 (IK hc) e3 hj (by rw[len];simp) l1.now
  exact⟨_,p,.move j rfl ⟨old,rec,hol,e0,hj⟩ (λe=>IK hc old rec hol (e ▸ e0)) (λi ⟨k,r,hk,e,_⟩=>IK hc k r hk e) d⟩
 have f0:=MQ (ok0 A8) (HR ec)
 have noc:old≠cell:=λe=>by rw[e,f0]at e0;cases e0
 have l1:=hi.link (z:=z) (nd:=cs.length::DW tks z) A8 f0 (IK hc) e3 (by rw[len];simp) λj h=>List.mem_cons_of_mem _ (RN h)
 have l2:=l1.unlead (z:=y) (nd:=[cs.length+1]) (m:=m) (ps:=ps) hol (by rw[BE,CH noc,BE,BO (by simp)];exact e0) (by rw[BE,BO (by simp),BE,BN])
 have l3:(⟨0,cell,.nm z rec,cs.length::DW tks z⟩::⟨3,rec,.rc (m+1) ps,[]⟩::M.as:List AC).length=cs.length+2:=by rw[len];rfl
 rw[l3]at l2
 rw[X4]
 exact⟨_,l2⟩
theorem zbn{cs:List Ch}{O:Int->Bool}{b j:Nat}{row:List V}(hn:D6 cs (b:Nat) (j:Nat)=none):(EJ cs O b row)[j]? =row[j]? :=by
 rw[Fp,f7]
 cases el:IH cs ((CN cs b).filter λ(k:Nat)=>O k) j with
 | none=>simp
 | some c =>
  exfalso
  obtain⟨k,hk,ec,ecell,_⟩:=f8 el
  obtain⟨c',ec',eb⟩:=US.mp (List.mem_filter.mp hk).1
  rw[ec]at ec'
  cases ec'
  obtain⟨j0,c0,hn0,_⟩:=Fq ec
  rw[eb,ecell,hn]at hn0
  cases hn0
theorem zbo{cs:List Ch}{O:Int->Bool}{b:Nat}{row:List V}{v:V}(h:v∈EJ cs O b row):v∈row\/∃ c∈cs,v=c.val:=by
 unfold EJ at h
 revert h
 generalize CN cs b=l
 induction l generalizing row with
 | nil=>exact .inl
 | cons k l ih =>
  intro h
  rw[List.foldl_cons]at h
  rcases ih h with h | h
  ·unfold F3 at h
   split at h
   ·split at h
    ·rename_i c ec
     rcases List.mem_or_eq_of_mem_set h with h | h
     ·exact .inl h
     ·exact .inr ⟨c,List.mem_of_getElem? ec,h⟩
    ·exact .inl h
   ·exact .inl h
  ·exact .inr h
theorem zbp(h:MJ K a vs H Q E):WV K a (λ_=>E) (A9 Q) (start ["self","block"] vs) H:=by
 obtain⟨X,cs,tks,M,b,row,rfl,⟨T,TP,TL,TS⟩,I,er,q⟩:=h
 obtain⟨dx,ho⟩:=I.ob
 obtain⟨db,eb⟩:=I.bk.bk.ob
 obtain⟨dp,ep⟩:=I.bk.pk.ob
 have hb:=(List.getElem?_eq_some_iff.mp er).1
 push_cast[WV,↓Pc]
 refine⟨_,_,_,ho,TS.cl,TS.n2,_,HP,X.S.A.b,rfl,_,_,eb,DU (by decide +kernel),X.S.A,X.w,X.rows,X.nn,cs,X.outs,b,rfl,T,TP,I.bk,λb' row' t ol hl H' eb' er' _ _ _ _ B' sb=> ?_,λz=>by omega⟩
 obtain rfl:b=b':=by omega
 rw[er]at er'
 cases er'
 have lo:∀ x,X.S.A.F x->D7 (H x):=λx hx=>I.bk.loose hx
 have tk:EU H H':=λy ys e=>sb _ _ e λz=>z.elim (λz=>(lo _ z).1 _ e) λz=>by rw[z,ep]at e;cases e
 obtain⟨⟨dx,e1⟩,e2,e3,e4,e5,e6,e7,e8,e9,e10,e11,e12⟩:=I
 obtain⟨dl,el⟩:=e2.ob
 refine q t H' ⟨⟨dx,sb _ _ e1 λz=>z.elim (λz=>(lo _ z).2 _ _ _ e1) λz=> ?_⟩,e2.sb sb λz=>z.elim (λz=>(lo _ z).2 _ _ _ el) λz=> ?_,B',sb _ _ e4 λz=>z.elim e7 λz=> ?_,e5,e6,e7,⟨e8.1,e8.2.1,e8.2.2.1,e8.2.2.2.1,by show(X.rows.set b _).length=X.n+X.r+X.c+X.r+X.c;rw[List.length_set];exact e8.2.2.2.2⟩,⟨λq hq v hv=> ?_,(e9.keep tk).2⟩,λkind k v h1 hk hv=> ?_,e11,e12.keep tk⟩ sb
 ·rw[show X.S.st=X.S.A.gp from z,ep]at e1
  injection e1 with e1
  injection e1 with _ _ e1
  have:=congrArg (·.lookup ("plan":Str)) e1
  simp only[G6]at this
  rw[LZ _ _ _ (by decide +kernel) (by decide +kernel) (by decide +kernel)]at this
  cases this
 ·rw[show X.S.lp=X.S.A.gp from z,ep]at el
  injection el with el
  injection el with _ _ el
  exact absurd (congrArg List.length el) (by simp[pf,lf])
 ·rw[show X.S.tk=X.S.A.gp from z,ep]at e4;cases e4
 ·have g:=e9.keep tk
  rcases List.mem_or_eq_of_mem_set hq with hq | hq
  ·exact g.1 q hq v hv
  ·rw[hq]at hv
   rcases zbo hv with hv | ⟨c,hc,rfl⟩
   ·exact g.1 row (List.mem_of_getElem? er) v hv
   ·exact g.2 c hc
 ·have hv:EF cs (X.rows.set b (EJ cs (E4 cs X.outs b) b row)) (A5 X.n X.r X.c X.w kind k:Nat) (k % X.w:Nat)=some v:=hv
  refine(e10 kind k v h1 hk ?_).keep tk
  rw[<-hv]
  unfold EF
  cases en:D6 cs (A5 X.n X.r X.c X.w kind k:Nat) (k % X.w:Nat)with
  | some j=>rfl
  | none =>
   show(X.rows[((A5 X.n X.r X.c X.w kind k:Nat):Int).toNat]?).bind _=((X.rows.set b _)[((A5 X.n X.r X.c X.w kind k:Nat):Int).toNat]?).bind _
   rw[Int.toNat_natCast]
   by_cases e:A5 X.n X.r X.c X.w kind k=b
   ·rw[e]at en ⊢
    rw[er,List.getElem?_set_self hb]
    show row[_]? =(EJ cs _ b row)[_]?
    rw[Int.toNat_natCast,zbn en]
   ·rw[List.getElem?_set_ne (λz=>e z.symm)]
theorem C45.write{X:SX}{cs:List Ch}{tks:List (AH × V)}{M:Hs}{b:Nat}{row:List V}{H':Hp}(I:C45 a H X cs tks M)(er:X.rows[b]? =some row)(I':(X.wr cs b row).at a H' cs tks M)(sb:SameBut (λx=>X.S.A.F x\/x=X.S.A.gp) H H'):C45 a H' (X.wr cs b row) cs tks M:=by
 obtain⟨dp,ep⟩:=I.st.bk.pk.ob
 have tk:EU H H':=λy ys e=>sb _ _ e λz=>z.elim (λz=>(I.st.bk.loose z).1 _ e) λz=>by rw[z,ep]at e;cases e
 exact⟨I',I.hi,I.b0,Fw I.cut b,(I.rows.write I.st.la er).keep tk,I.few,I.ok⟩
theorem C45.snd{X:SX}{cs:List Ch}{tks:List (AH × V)}{M:Hs}(I:C45 a H X cs tks M):Snd X.m0 (sh M.b (λj=>X.outs (j:Nat)) M.as):=by
 obtain⟨o,hi⟩:=I.hi
 exact hi.sd _ (I.st.la.cut I.cut)
structure rK(H:Hp)(d:Addr)(rows:List (List V))(w b j:Nat)(kvs:List (List AH × V)):Prop where
 e:H d=some (.dT kvs)
 l:kvs.length<=b * w+j
 v:∀ x y:Nat,(x<b\/x=b/\y<j)->y<w->BJ kvs [.inl (x:Int),.inl (y:Int)]=(rows[x]?).bind λq=>q[y]?
theorem zbq(h:MK K a vs H Q E):WQ K a (λ_=>E) (A9 Q) (start ["layout","plank","there","block","values","k"] vs) H:=by
 obtain⟨ly,gp,cl,n,r,c,w,rows,m,rfl,TL,TP,L,P,rl,r30,w6,q⟩:=h
 obtain⟨dl,el⟩:=L.ob
 push_cast[WQ,↓Ly]
 intro d hd
 have s1:=AO (o:=.dT []) hd
 have e1:upd H d (.dT []) d=some (.dT []):=AE
 revert s1 e1
 generalize upd H d (.dT [])=H1
 intro s1 e1
 push_cast[↓Mg]
 refine⟨_,_,s1 _ _ el,CB (by decide +kernel),ly,n,r,c,w,rfl,TL,L.same s1,(n+r+c+r+c:Nat),by simp,by omega,by omega,?_⟩
 rw[Int.toNat_natCast,<-rl]
 refine NI (λi σ H'=>(Same H H'/\∃ kvs,rK H' d rows w i 0 kvs)/\∃ y3 y4 y5,σ=[some (.ref ly),some (.ref gp),some (.ref d),y3,y4,y5]) ⟨⟨s1,[],e1,Nat.zero_le _,λx y h=>by omega⟩,_,_,_,rfl⟩ (λi σ H' hi ⟨⟨s,kvs,T⟩,y3,y4,y5,es⟩=> ?_) (λσ H' ⟨⟨s,kvs,T⟩,y3,y4,y5,es⟩=> ?_)
 ·subst es
  have P':=P.same s
  obtain⟨dp,ep⟩:=P'.ob
  push_cast[↓Lz,Int.zero_add]
  refine⟨_,_,ep,XV _ _ _,gp,cl,w,rows,m,i,rfl,TP,P',λb' row eb er vl hvl=> ?_,λz=>by omega⟩
  obtain rfl:i=b':=by omega
  have rw1:=P'.wd row (List.mem_of_getElem? er)
  have s2:=AO (o:=.lst row) hvl
  have e2:upd H' vl (.lst row) vl=some (.lst row):=AE
  revert s2 e2
  generalize upd H' vl (.lst row)=H2
  intro s2 e2
  have ndv:vl≠d:=λz=>by rw[z,T.e]at hvl;cases hvl
  push_cast[↓Mc]
  refine⟨row.length,.inl ⟨_,SqL.of e2,rfl⟩,by omega,by omega,?_⟩
  rw[rw1]
  refine NI (λj σ H'=>(Same H H'/\H' vl=some (.lst row)/\∃ kvs,rK H' d rows w i j kvs)/\∃ y5,σ=[some (.ref ly),some (.ref gp),some (.ref d),some (.int i),some (.ref vl),y5]) ⟨⟨s.trans s2,e2,kvs,s2 _ _ T.e,T.l,T.v⟩,_,rfl⟩ (λj σ H3 hj ⟨⟨s3,ev,kv3,T3⟩,y5,es⟩=> ?_) (λσ H3 ⟨⟨s3,ev,kv3,T3⟩,y5,es⟩=> ?_)
  ·subst es
   have ej:=List.getElem?_eq_getElem (show j<row.length by omega)
   push_cast[↓Mb,Int.zero_add]
   refine FF (SqL.of ev) rfl ej ⟨by decide,λp hp=> ?_⟩
   have sp:=AO (o:=.tup [V.int (i:Int),V.int (j:Int)]) hp
   have l3:=T3.l
   have l4:i * w<=30 * 6:=Nat.mul_le_mul (by omega) w6
   refine⟨_,DPut.t (k:=[.inl (i:Int),.inl (j:Int)]) (sp _ _ T3.e) AE (CM _ (by omega)),λb o e=> ?_,?_,_,AE,?_,λx y hxy hy=> ?_⟩
   ·rw[AF (BM e hd)];exact sp _ _ (s3 _ _ e)
   ·rw[AF ndv];exact sp _ _ ev
   ·exact Nat.le_trans (KY ..) (by omega)
   ·rw[KW]
    by_cases z:x=i/\y=j
    ·obtain⟨rfl,rfl⟩:=z
     rw[if_pos rfl,er];exact ej.symm
    ·rw[if_neg λe=>z (by
      simp only[List.cons.injEq,Sum.inl.injEq,and_true]at e
      omega)]
     exact T3.v x y (by omega) hy
  ·subst es
   push_cast[]
   exact⟨s3,kv3,T3.e,by have:=T3.l;rw[Nat.add_mul];omega,λx y h hy=>T3.v x y (by omega) hy⟩
 ·subst es
  push_cast[↓Mh]
  exact q d kvs H' s T.e λb k hb hk=>T.v b k (.inl hb) hk
section
variable{ly d:Addr}{n r c w:Nat}{S:Md}
theorem There.same{H':Hp}(I:There K a H ly d n r c w S)(s:Same H H'):There K a H' ly d n r c w S:=by
 obtain⟨kvs,e,v⟩:=I.e
 exact⟨I.tl,I.la.same s,⟨kvs,s _ _ e,λkind k h1 h2=>by obtain⟨x,e1,e2⟩:=v kind k h1 h2;exact⟨x,e1,e2.keep s.tk⟩⟩,I.sd,I.ok,I.ps,I.rr,I.w1,I.w6,I.n6,I.r6,I.c6⟩
theorem There.get{kind k:Nat}{t:Addr}{H':Hp}{P:V->Prop}(I:There K a H ly d n r c w S)(s:Same H H')(h1:kind<5)(hk:k<AY n r c w kind)(et:H' t=some (.tup [.int (A5 n r c w kind k:Nat),.int (k % w:Nat)]))(q:∀ v,RepC H' (S kind k) v->P v):∃ v,DGet H' d (.ref t) (some v)/\P v:=by
 obtain⟨kvs,e,v⟩:=(I.same s).e
 obtain⟨x,e1,e2⟩:=v kind k h1 hk
 exact⟨x,Dk e et e1,q x e2⟩
end
theorem zbr{C:Nat->Bool}{as:List AC}(h:∀ x∈as,EG x.kind x.x)(kind k:Nat):EG kind (sh (λ_ _=>.no) C as kind k):=by
 induction as with
 | nil=>cases kind<;>trivial
 | cons x r ih =>
  have ih:=ih λy hy=>h y (List.mem_cons_of_mem _ hy)
  by_cases c:C r.length=true
  ·rw[BY c]
   unfold Md.put
   split
   ·rename_i z
    rw[z.1];exact h x List.mem_cons_self
   ·exact ih
  ·rw[DA c];exact ih
theorem C45.there{X:SX}{cs:List Ch}{tks:List (AH × V)}{M:Hs}{d:Addr}{kvs:List (List AH × V)}(I:C45 a H X cs tks M)(TL:DZ K a)(w1:1<=X.w)(ed:H d=some (.dT kvs))(hv:∀ b k:Nat,b<X.rows.length->k<X.w->BJ kvs [.inl (b:Int),.inl (k:Int)]=(X.rows[b]?).bind λq=>q[k]?) :
  There K a H X.S.lp d X.n X.r X.c X.w (sh M.b (λj=>X.outs (j:Nat)) M.as):=by
 have sd:=I.snd
 have out:∀ {kind k:Nat},¬ k<AY X.n X.r X.c X.w kind->sh M.b (λj=>X.outs (j:Nat)) M.as kind k=.no:=λh=>by rw[I.b0];exact I.st.la.off h
 obtain⟨z1,z2,z3,z4,z5⟩:=I.st.sz
 refine⟨TL,I.st.ly,⟨kvs,ed,λkind k h1 hk=> ?_⟩,sd,λkind k h1 hk=>by rw[I.b0];exact zbr I.ok kind k,λq m ps e=> ?_,λk z q hk e=> ?_,w1,z4,z1,z2,z3⟩
 ·obtain⟨b1,b2⟩:=I.st.on h1 hk
  have er:=List.getElem?_eq_getElem b1
  have wl:=I.st.bk.pk.wd _ (List.mem_of_getElem? er)
  obtain⟨v,ev⟩:∃ v,(X.rows[A5 X.n X.r X.c X.w kind k])[k % X.w]? =some v:=⟨_,List.getElem?_eq_getElem (by rw[wl];exact b2)⟩
  have e:(X.rows[A5 X.n X.r X.c X.w kind k]?).bind (λq=>q[k % X.w]?)=some v:=by rw[er];exact ev
  exact⟨v,by rw[hv _ _ b1 b2];exact e,I.rows kind k v h1 hk e⟩
 ·have lt:∀ p∈ps,p<X.c * X.w:=λp hp=>by
   have e2:=(sd.pm q m ps e p hp).1
   rcases Nat.lt_or_ge p (X.c * X.w)with z | z
   ·exact z
   ·rw[out (kind:=2) (k:=p) (λh=>by simp[AY]at h;omega)]at e2
    cases e2
  have:=List.Nodup.length_le_of_subset (sd.nd q m ps e) (l₂:=List.range (X.c * X.w)) λp hp=>List.mem_range.mpr (lt p hp)
  rw[List.length_range]at this
  have:=I.few
  exact⟨lt,by omega⟩
 ·obtain⟨m,ps,e3⟩:=sd.nl k z q hk e
  rcases Nat.lt_or_ge q (X.r * X.w)with z | z
  ·exact z
  ·rw[out (kind:=3) (k:=q) (λh=>by simp[AY]at h;omega)]at e3
   cases e3
section
variable{κ :Type}[DecidableEq κ]
theorem zbs{kvs:List (κ × V)}{k: κ}{v:V}(h:(kvs.map (·.1)).Nodup):((B7 kvs k v).map (·.1)).Nodup:=by
 cases e:BJ kvs k with
 | none =>
  rw[OW v e,List.map_append]
  refine List.nodup_append.mpr ⟨h,by simp,λx hx y hy z=> ?_⟩
  have:y=k:=by simpa using hy
  exact cY e (by rw[<-this,<-z];exact hx)
 | some w =>
  unfold B7
  split
  ·rw[List.map_map]
   rw[show((λx: κ × V=>x.1) ∘ λkv: κ × V=>if kv.1=k then(kv.1,v)else kv)=(·.1) by funext kv;simp only[Function.comp];split<;>rfl]
   exact h
  ·rename_i z
   rw[IY,e]at z
   simp at z
theorem zbt{kvs:List (κ × V)}(h:(kvs.map (·.1)).Nodup){i:Nat}{k: κ}{v:V}(e:kvs[i]? =some (k,v)):BJ kvs k=some v:=by
 induction kvs generalizing i with
 | nil=>simp at e
 | cons p r ih =>
  rw[List.map_cons,List.nodup_cons]at h
  cases i with
  | zero =>
   rw[List.getElem?_cons_zero]at e
   cases e
   exact FQ rfl
  | succ i =>
   rw[List.getElem?_cons_succ]at e
   have hm:k∈r.map (·.1):=List.mem_map.mpr ⟨_,List.mem_of_getElem? e,rfl⟩
   rw[FB λz=>h.1 (z ▸ hm)]
   exact ih h.2 e
theorem rM{k j: κ}:∀ {kvs:List (κ × V)},BJ (FA kvs k) j=if j=k then none else BJ kvs j
 | []=>by split<;>rfl
 | p::r=>by
  have ih:=rM (k:=k) (j:=j) (kvs:=r)
  by_cases e:p.1=k
  ·rw[c5 e,ih]
   by_cases z:j=k
   ·rw[if_pos z,if_pos z]
   ·rw[if_neg z,if_neg z,FB λ(y:p.1=j)=>z (y.symm.trans e)]
  ·rw[c7 e]
   by_cases z:p.1=j
   ·rw[FQ z,FQ z,if_neg λy=>e (z.trans y)]
   ·rw[FB z,FB z,ih]
end
section
variable{kl:List (AH × V)}{R R':Str->Nat->Prop}{zs:List Str}
theorem LedI.iff(I:LedI kl R zs)(h:∀ z i,R z i↔R' z i):LedI kl R' zs:=⟨λz i=>(h z i).symm.trans (I.v z i),I.ks,I.nd⟩
theorem LedI.len(I:LedI kl R zs):kl.length<=zs.length:=by
 have:=List.Nodup.length_le_of_subset I.nd (l₂:=zs.map Sum.inr) λk hk=>by
  obtain⟨kv,h,e⟩:=List.mem_map.mp hk
  obtain⟨z,i,rfl,hz⟩:=I.ks kv h
  exact List.mem_map.mpr ⟨z,hz,e⟩
 simpa using this
theorem LedI.put(I:LedI kl R zs){z:Str}{g:Nat}(hz:z∈zs)(hn:∀ i,¬ R z i):LedI (B7 kl (.inr z) (.int (g:Nat))) (λx i=>R x i\/(x=z/\i=g)) zs:=by
 refine⟨λx i=> ?_,λkv h=> ?_,zbs I.nd⟩
 ·rw[KW]
  by_cases e:x=z
  ·subst e
   rw[if_pos rfl]
   constructor
   ·rintro (h | ⟨_,rfl⟩)
    ·exact absurd h (hn i)
    ·rfl
   ·intro h
    have h:=V.int.inj (Option.some.inj h)
    exact .inr ⟨rfl,by omega⟩
  ·rw[if_neg λh=>e (Sum.inr.inj h),<-I.v]
   exact⟨λh=>h.elim id λh=>absurd h.1 e,.inl⟩
 ·unfold B7 at h
  split at h
  ·obtain⟨p,hp,e⟩:=List.mem_map.mp h
   split at e
   ·rename_i w
    exact⟨z,g,by rw[<-e,w],hz⟩
   ·exact e ▸ I.ks p hp
  ·rcases List.mem_append.mp h with h | h
   ·exact I.ks kv h
   ·exact⟨z,g,List.mem_singleton.mp h,hz⟩
theorem LedI.drop(I:LedI kl R zs){z:Str}:LedI (FA kl (.inr z)) (λx i=>R x i/\x≠z) zs:=by
 refine⟨λx i=> ?_,λkv h=>I.ks kv (c8 h),S9 I.nd⟩
 rw[rM]
 by_cases e:x=z
 ·subst e
  rw[if_pos rfl]
  exact⟨λh=>absurd rfl h.2,λh=>(by cases h)⟩
 ·rw[if_neg λh=>e (Sum.inr.inj h),<-I.v]
  exact⟨λh=>h.1,λh=>⟨h,e⟩⟩
end
theorem X5{p:Addr}{x:Nat}{Q:VK}(h:H p=some (.tup [.int 2,.int 7]))(q:Q (.bl (decide (x=2\/x=7))) H):PJ K (.int x) (.ref p) H Q:=by
 refine⟨p,_,rfl,.inr (SqT.of h),rfl,rfl,?_⟩
 have:KU (.int (x:Nat)) [.int 2,.int 7]=decide (x=2\/x=7):=by
  simp only[KU,List.any_cons,List.any_nil,Bool.or_false,HG]
  rw[Bool.eq_iff_iff]
  simp
  omega
 simp only[Bool.false_eq_true,if_false]
 rw[this]
 exact q
theorem zbu(h:NS K a vs H Q E):VZ K a (λ_=>E) (A9 Q) (start ["led","kind","one","other","made"] vs) H:=by
 obtain⟨ld,kl,A,B,zs,g,kind,y,z,m,rfl,e,I,kl5,hy,hz,D,hm,q⟩:=h
 have up:∀ {kl':List (AH × V)} {H':Hp},Same H H'->SameBut (· =ld) H (upd H' ld (.dK kl')):=λs b o e n=>by rw[AF n];exact s _ _ e
 push_cast[VZ,↓Kg]
 rcases D with⟨k1,no,d⟩ | ⟨j,rfl,ha,no,d⟩ | ⟨j,rfl,ha,d⟩ | ⟨k4,k7,d⟩ | ⟨j,rfl,ha,yz,no,d⟩
 ·refine HS (by omega) ?_
  push_cast[↓Kb]
  rw[hm k1]
  exact⟨_,pS e (by omega),q _ _ (up λ_ _ e=>e) AE ((I.put hy no).iff λx i=>(d x i).symm)⟩
 ·refine E7 (by decide) ?_
  push_cast[↓RC]
  refine E7 (by decide) ?_
  push_cast[↓VY]
  refine⟨by decide,λp hp=>X5 AE ?_⟩
  have s1:=AO (o:=.tup [V.int 2,V.int 7]) hp
  have e1:=s1 _ _ e
  revert s1 e1
  generalize upd H p (.tup [V.int 2,V.int 7])=H1
  intro s1 e1
  push_cast[]
  refine HS (by decide) ?_
  push_cast[↓jK]
  refine⟨_,NM e1 ((I.v y j).mp ha),_,pS e1 (by omega),?_⟩
  push_cast[↓jN]
  exact E7 (by decide) (q _ _ (up s1) AE ((I.put hz no).iff λx i=>(d x i).symm))
 ·refine E7 (by decide) ?_
  push_cast[↓RC]
  refine HS (by decide) ?_
  push_cast[↓Kc,NB]
  exact⟨.inl ⟨_,.inl e⟩,_,e,.inr y,rfl,⟨_,(I.v y j).mp ha⟩,q _ _ (up λ_ _ e=>e) AE (I.drop.iff λx i=>(d x i).symm)⟩
 ·refine E7 (by omega) ?_
  push_cast[↓RC]
  refine E7 (by omega) ?_
  push_cast[↓VY]
  refine⟨by decide,λp hp=>X5 AE ?_⟩
  have s1:=AO (o:=.tup [V.int 2,V.int 7]) hp
  have e1:=s1 _ _ e
  revert s1 e1
  generalize upd H p (.tup [V.int 2,V.int 7])=H1
  intro s1 e1
  push_cast[]
  exact E7 (by simp;omega) (q _ _ (Same.sb s1) e1 (I.iff λx i=>(d x i).symm))
 ·refine E7 (by decide) ?_
  push_cast[↓RC]
  refine E7 (by decide) ?_
  push_cast[↓VY]
  refine⟨by decide,λp hp=>X5 AE ?_⟩
  have s1:=AO (o:=.tup [V.int 2,V.int 7]) hp
  have e1:=s1 _ _ e
  revert s1 e1
  generalize upd H p (.tup [V.int 2,V.int 7])=H1
  intro s1 e1
  push_cast[]
  refine HS (by decide) ?_
  push_cast[↓jK]
  refine⟨_,NM e1 ((I.v y j).mp ha),_,pS e1 (by omega),?_⟩
  have I1:=I.put (g:=j) hz no
  push_cast[↓jN]
  refine HS (by decide) ?_
  push_cast[↓Kd,NB]
  refine⟨.inl ⟨_,.inl AE⟩,_,AE,.inr y,rfl,⟨_,(I1.v y j).mp (.inl ha)⟩,?_⟩
  rw[Ej]
  exact q _ _ (up s1) AE (I1.drop.iff λx i=>(d x i).symm)
section
variable{B:Addr->Prop}{er vr:Addr}{zs:List Str}{ad:Str->Option Addr}{EV:Str->List Nat}{as:List Addr}{VS:List (List (List Str))}{N:Nat}
theorem Lg.keep{H':Hp}(I:Lg B H er vr zs ad EV as VS N)(s:∀ x o,H x=some o->¬ B x->H' x=some o):Lg B H' er vr zs ad EV as VS N:=by
 obtain⟨⟨kvs,e1,e2⟩,ev,ei,ez,e0,el,em,be,ve,vn,v1,vk,vv,vb,vs,vl⟩:=I
 refine⟨⟨kvs,s _ _ e1 be,e2⟩,λz x e=> ?_,ei,ez,e0,el,em,be,s _ _ ve vb,vn,v1,vk,λi x W h1 h2=> ?_,vb,vs,vl⟩
 ·obtain⟨h1,h2,h3⟩:=ev z x e
  exact⟨s _ _ h1 h3,h2,h3⟩
 ·obtain⟨nb,bs,h3,h4⟩:=vv i x W h1 h2
  exact⟨nb,bs,s _ _ h3 nb,Paired.mapP h4 λb ts ⟨p1,p2,p3⟩=>⟨s _ _ p1 p2,p2,p3⟩⟩
theorem Lg.same{H':Hp}(I:Lg B H er vr zs ad EV as VS N)(s:Same H H'):Lg B H' er vr zs ad EV as VS N:=I.keep λx o e _=>s x o e
theorem Lg.le{N':Nat}(I:Lg B H er vr zs ad EV as VS N)(h:N<=N'):Lg B H er vr zs ad EV as VS N' :=
 ⟨I.ee,I.ev,I.ei,I.ez,I.e0,λz=>Nat.le_trans (I.el z) h,I.em,I.be,I.ve,I.vn,I.v1,I.vk,I.vv,I.vb,I.vs,Nat.le_trans I.vl.1 h,λW hW=>Nat.le_trans (I.vl.2 W hW) h⟩
theorem Lg.push{x:Addr}(I:Lg B H er vr zs ad EV as VS N)(hx:H x=none)(nb:¬ B x):Lg B (upd (upd H x (.lst [])) vr (.lst (as.map V.ref++[.ref x]))) er vr zs ad EV (as++[x]) (VS++[[]]) (N+1):=by
 obtain⟨⟨kvs,e1,e2⟩,ev,ei,ez,e0,el,em,be,ve,vn,v1,vk,vv,vb,vs,vl⟩:=I
 have nx:∀ {y o},H y=some o->y≠x:=λe=>BM e hx
 have far:∀ {y o},H y=some o->y≠vr->upd (upd H x (.lst [])) vr (.lst (as.map V.ref++[.ref x])) y=some o:=λe n=>by rw[AF n,AF (nx e)];exact e
 have xas:x∉as:=λh=>by
  obtain⟨i,hi⟩:=List.mem_iff_getElem?.mp h
  obtain⟨_,bs,h3,_⟩:=vv i x _ hi (List.getElem?_eq_getElem (by rw[<-vk];exact(List.getElem?_eq_some_iff.mp hi).1))
  rw[hx]at h3;cases h3
 have xvr:x≠vr:=λh=>by rw[h,ve]at hx;cases hx
 refine⟨⟨kvs,far e1 (BD e1 ve (by intro z;cases z)),e2⟩,λz y e=> ?_,ei,ez,e0,λz=>Nat.le_succ_of_le (el z),λz i hi=>by rw[List.length_append];exact Nat.lt_of_lt_of_le (em z i hi) (Nat.le_add_right _ _),be,?_,?_,?_,?_,λi y W h1 h2=> ?_,vb,λW hW=> ?_,by rw[List.length_append];exact Nat.succ_le_succ vl.1,λW hW=> ?_⟩
 ·obtain⟨h1,h2,h3⟩:=ev z y e
  exact⟨far h1 (BD h1 ve (by intro z;cases z)),h2,h3⟩
 ·rw[AE,List.map_append];rfl
 ·refine List.nodup_append.mpr ⟨vn,by simp,λp hp q hq z=>xas ?_⟩
  have:q=x:=by simpa using hq
  rw[<-this,<-z];exact hp
 ·rw[List.mem_append]
  exact λh=>h.elim v1 λh=>xvr (by simpa using h:vr=x).symm
 ·rw[List.length_append,List.length_append,vk];rfl
 ·by_cases hi:i<as.length
  ·rw[List.getElem?_append_left hi]at h1
   rw[List.getElem?_append_left (by rw[<-vk];exact hi)]at h2
   obtain⟨nb',bs,h3,h4⟩:=vv i y W h1 h2
   refine⟨nb',bs,far h3 λz=>v1 (z ▸ List.mem_of_getElem? h1),Paired.mapP h4 λb ts ⟨p1,p2,p3,p4⟩=>⟨far p1 p4,p2,λh=> ?_,p4⟩⟩
   rcases List.mem_append.mp h with h | h
   ·exact p3 h
   ·exact nx p1 (by simpa using h)
  ·have e:=(List.getElem?_eq_some_iff.mp h1).1
   rw[List.length_append]at e
   have:i=as.length:=by simp at e;omega
   subst this
   rw[List.getElem?_append_right (Nat.le_refl _),Nat.sub_self]at h1
   rw[vk,List.getElem?_append_right (Nat.le_refl _),Nat.sub_self]at h2
   cases h1
   cases h2
   exact⟨nb,[],by rw[AF xvr,AE];rfl,.nil⟩
 ·rcases List.mem_append.mp hW with h | h
  ·exact vs W h
  ·rw[List.mem_singleton.mp h];exact λts hts=>(by cases hts)
 ·rcases List.mem_append.mp hW with h | h
  ·exact Nat.le_succ_of_le (vl.2 W h)
  ·rw[List.mem_singleton.mp h];exact Nat.zero_le _
theorem Vof.push{g:Nat}{t:List CV}(h:Vof VS g t):Vof (VS++[[]]) g t:=by
 obtain⟨W,ts,h1,h2⟩:=h
 exact⟨W,ts,by rw[List.getElem?_append_left (List.getElem?_eq_some_iff.mp h1).1];exact h1,h2⟩
def G8(l:List Nat)(g:Nat):List Nat:=if g∈l then l else l++[g]
theorem zbv{l:List Nat}{g i:Nat}:i∈G8 l g↔i∈l\/i=g:=by
 unfold G8
 split
 ·rename_i h
  exact⟨.inl,λz=>z.elim id λz=>z ▸ h⟩
 ·simp
theorem X6{i:Nat}:∀ {l:List Nat},BJ (EA l) (.inl (i:Int))=if i∈l then some (.bl true)else none
 | []=>rfl
 | j::l=>by
  have ih:=X6 (i:=i) (l:=l)
  show BJ ((.inl (j:Int),V.bl true)::EA l) _=_
  by_cases e:j=i
  ·subst e
   rw[FQ rfl,if_pos (List.mem_cons_self ..)]
  ·rw[FB λz=>e (by have:=Sum.inl.inj z;omega),ih]
   by_cases h:i∈l
   ·rw[if_pos h,if_pos (List.mem_cons_of_mem _ h)]
   ·rw[if_neg h,if_neg λz=>(List.mem_cons.mp z).elim (λz=>e z.symm) h]
theorem zbw{l:List Nat}{g:Nat}:B7 (EA l) (.inl (g:Int)) (.bl true)=EA (G8 l g):=by
 unfold G8
 split
 ·rename_i h
  unfold B7
  rw[IY,X6,if_pos h]
  simp only[Option.isSome_some,if_true]
  conv=>rhs;rw[<-List.map_id (EA l)]
  refine List.map_congr_left λkv hkv=> ?_
  obtain⟨j,_,rfl⟩:=List.mem_map.mp hkv
  split<;>rfl
 ·rename_i h
  rw[OW _ (by rw[X6,if_neg h])]
  unfold EA
  rw[List.map_append]
  rfl
def KK(EV:Str->List Nat)(z:Str)(g:Nat):Str->List Nat:=λy=>if y=z then G8 (EV z) g else EV y
theorem RQ{z y:Str}{g i:Nat}:i∈KK EV z g y↔i∈EV y\/(y=z/\i=g):=by
 unfold KK
 split
 ·rename_i h
  subst h
  rw[zbv]
  simp
 ·rename_i h
  simp[h]
theorem Lg.mark{z:Str}{g:Nat}{x:Addr}(I:Lg B H er vr zs ad EV as VS N)(hx:ad z=some x)(hg:g<VS.length):Lg B (upd H x (.dK (EA (G8 (EV z) g)))) er vr zs ad (KK EV z g) as VS (N+1):=by
 obtain⟨⟨kvs,e1,e2⟩,ev,ei,ez,e0,el,em,be,ve,vn,v1,vk,vv,vb,vs,vl⟩:=I
 obtain⟨x1,x2,x3⟩:=ev z x hx
 have far:∀ {y:Addr} {xs:List V},H y=some (.lst xs)->upd H x (.dK (EA (G8 (EV z) g))) y=some (.lst xs):=λe=>by rw[AF (BD e x1 (by intro z;cases z))];exact e
 refine⟨⟨kvs,by rw[AF x2.symm];exact e1,e2⟩,λy w e=> ?_,ei,ez,λy e=> ?_,λy=> ?_,λy i hi=> ?_,be,far ve,vn,v1,vk,λi y W h1 h2=> ?_,vb,vs,Nat.le_succ_of_le vl.1,λW hW=>Nat.le_succ_of_le (vl.2 W hW)⟩
 ·obtain⟨h1,h2,h3⟩:=ev y w e
  refine⟨?_,h2,h3⟩
  by_cases c:y=z
  ·subst c
   rw[hx]at e
   cases e
   rw[AE]
   unfold KK
   rw[if_pos rfl]
  ·rw[AF λ(c':w=x)=>c (ei y z w e (by rw[c'];exact hx))]
   unfold KK
   rw[if_neg c]
   exact h1
 ·unfold KK
  rw[if_neg λc=>by rw[c,hx]at e;cases e]
  exact e0 y e
 ·unfold KK
  split
  ·unfold G8
   split
   ·exact Nat.le_succ_of_le (el z)
   ·rw[List.length_append];exact Nat.succ_le_succ (el z)
  ·exact Nat.le_succ_of_le (el y)
 ·rcases RQ.mp hi with h | ⟨_,rfl⟩
  ·exact em y i h
  ·exact hg
 ·obtain⟨nb,bs,h3,h4⟩:=vv i y W h1 h2
  exact⟨nb,bs,far h3,Paired.mapP h4 λb ts ⟨p1,p2⟩=>⟨far p1,p2⟩⟩
theorem Paired.snoc'{α β :Type}{F: α -> β ->Prop}{x: α}{y: β}:∀ {l:List α} {m:List β},Paired F l m->F x y->Paired F (l++[x]) (m++[y])
 | _,_,.nil,h=>.cons h .nil
 | _,_,.cons h t,h'=>.cons h (Paired.snoc' t h')
theorem Lg.app{g:Nat}{x l:Addr}{W:List (List Str)}{bs:List Addr}{ts:List Str}(I:Lg B H er vr zs ad EV as VS N)(hx:as[g]? =some x)(hW:VS[g]? =some W)(ex:H x=some (.lst (bs.map V.ref)))(pb:Paired (λ(b:Addr) (ts:List Str)=>H b=some (.lst (ts.map V.str))/\¬ B b/\b∉as/\b≠vr) bs W)
  (hl:H l=some (.lst (ts.map V.str))) (nl:¬ B l/\l∉as/\l≠vr) (hs:(∀ t∈ts,PyData.strOk t=true)/\ts.length<=100):Lg B (upd H x (.lst (bs.map V.ref++[.ref l]))) er vr zs ad EV as (VS.set g (W++[ts])) (N+1):=by
 obtain⟨⟨kvs,e1,e2⟩,ev,ei,ez,e0,el,em,be,ve,vn,v1,vk,vv,vb,vs,vl⟩:=I
 have hxm:=List.mem_of_getElem? hx
 have hg:g<VS.length:=(List.getElem?_eq_some_iff.mp hW).1
 have far:∀ {y:Addr} {o:HO},H y=some o->y≠x->upd H x (.lst (bs.map V.ref++[.ref l])) y=some o:=λe n=>by rw[AF n];exact e
 have nas:∀ {b:Addr},b∉as->b≠x:=λh e=>h (e ▸ hxm)
 refine⟨⟨kvs,far e1 (BD e1 ex (by intro z;cases z)),e2⟩,λz y e=> ?_,ei,ez,e0,λz=>Nat.le_succ_of_le (el z),λz i hi=>by rw[List.length_set];exact em z i hi,be,far ve (nas v1),vn,v1,by rw[List.length_set];exact vk,λi y W' h1 h2=> ?_,vb,λW' hW'=> ?_,by rw[List.length_set];exact Nat.le_succ_of_le vl.1,λW' hW'=> ?_⟩
 ·obtain⟨h1,h2,h3⟩:=ev z y e
  exact⟨far h1 (BD h1 ex (by intro z;cases z)),h2,h3⟩
 ·by_cases c:i=g
  ·subst c
   rw[hx]at h1
   cases h1
   rw[List.getElem?_set_self hg]at h2
   cases h2
   refine⟨(vv i x W hx hW).1,bs++[l],by rw[AE,List.map_append];rfl,?_⟩
   exact Paired.snoc' (Paired.mapP pb λb ts ⟨p1,p2,p3,p4⟩=>⟨far p1 (nas p3),p2,p3,p4⟩) ⟨far hl (nas nl.2.1),nl⟩
  ·rw[List.getElem?_set_ne (λz=>c z.symm)]at h2
   obtain⟨nb,bs',h3,h4⟩:=vv i y W' h1 h2
   have hyx:y≠x:=λz=>c ((List.getElem?_inj (i:=i) (j:=g) (List.getElem?_eq_some_iff.mp h1).1 vn).mp (by rw[h1,hx,z]))
   exact⟨nb,bs',far h3 hyx,Paired.mapP h4 λb ts ⟨p1,p2,p3,p4⟩=>⟨far p1 (nas p3),p2,p3,p4⟩⟩
 ·rcases List.mem_or_eq_of_mem_set hW' with h | h
  ·exact vs W' h
  ·rw[h]
   intro us hus
   rcases List.mem_append.mp hus with hu | hu
   ·exact vs W (List.mem_of_getElem? hW) us hu
   ·rw[List.mem_singleton.mp hu];exact hs
 ·rcases List.mem_or_eq_of_mem_set hW' with h | h
  ·exact Nat.le_succ_of_le (vl.2 W' h)
  ·rw[h,List.length_append];exact Nat.succ_le_succ (vl.2 W (List.mem_of_getElem? hW))
theorem Vof.app{g g':Nat}{W:List (List Str)}{ts:List Str}{t:List CV}(hW:VS[g]? =some W)(h:Vof VS g' t):Vof (VS.set g (W++[ts])) g' t:=by
 obtain⟨W',us,h1,h2,h3⟩:=h
 by_cases c:g'=g
 ·subst c
  rw[hW]at h1
  cases h1
  exact⟨_,us,List.getElem?_set_self (List.getElem?_eq_some_iff.mp hW).1,List.mem_append_left _ h2,h3⟩
 ·exact⟨W',us,by rw[List.getElem?_set_ne λz=>c z.symm];exact h1,h2,h3⟩
end
section
variable{X:SX}{cs:List Ch}{tks:List (AH × V)}{M:Hs}
theorem SM.sbG{G:Addr->Prop}{H':Hp}(I:X.at a H cs tks M)(s:SameBut G H H')(g:∀ x,G x->D7 (H x))(f:∀ x,G x->¬ X.S.A.F x/\x≠X.S.tk):X.at a H' cs tks M:=by
 have tk:EU H H':=JO s g
 obtain⟨⟨dx,e1⟩,e2,e3,e4,e5,e6,e7,e8,e9,e10,e11,e12⟩:=I
 obtain⟨dl,el⟩:=e2.ob
 exact⟨⟨dx,s _ _ e1 λz=>(g _ z).2 _ _ _ e1⟩,e2.sb s λz=>(g _ z).2 _ _ _ el,e3.sb s g λx hx=>(f x hx).1,s _ _ e4 λz=>(f _ z).2 rfl,e5,e6,e7,e8,e9.keep tk,λkind k v h1 h2 hv=>(e10 kind k v h1 h2 hv).keep tk,e11,e12.keep tk⟩
theorem C45.sbG{G:Addr->Prop}{H':Hp}(I:C45 a H X cs tks M)(s:SameBut G H H')(g:∀ x,G x->D7 (H x))(f:∀ x,G x->¬ X.S.A.F x/\x≠X.S.tk):C45 a H' X cs tks M:=⟨I.st.sbG s g f,I.hi,I.b0,I.cut,I.rows.keep (JO s g),I.few,I.ok⟩
theorem C45.same{H':Hp}(I:C45 a H X cs tks M)(s:Same H H'):C45 a H' X cs tks M:=⟨I.st.same s,I.hi,I.b0,I.cut,I.rows.keep s.tk,I.few,I.ok⟩
theorem C45.put1{l:Addr}{o:HO}(I:C45 a H X cs tks M)(g:D7 (H l))(f:¬ X.S.A.F l/\l≠X.S.tk):C45 a (upd H l o) X cs tks M:=I.sbG (G:=(· =l)) (λy o' e n=>by rw[AF n];exact e) (λx hx=>by rw[hx];exact g) λx hx=>by rw[hx];exact f
theorem zbx{a':Addr}{o:Obj}{u:HO}(h:H a'=some (.frz o u)):D7 (H a'):=⟨λxs e=>(by rw[h]at e;cases e),λC dx fs e=>(by rw[h]at e;cases e)⟩
theorem C45.rl(I:C45 a H X cs tks M){k rec:Nat}{z:Str}(hk:k<X.m0)(e:M 0 k=.nm z rec):∃ m ps,rec<X.r * X.w/\M 3 rec=.rc m ps:=by
 obtain⟨o,hi⟩:=I.hi
 obtain⟨m,ps,e3⟩:=hi.now.nl k z rec hk e
 refine⟨m,ps,?_,e3⟩
 rcases Nat.lt_or_ge rec (X.r * X.w)with h | h
 ·exact h
 ·exfalso
  have e3':sh M.b (λ_=>true) M.as 3 rec=.rc m ps:=e3
  rw[I.b0,I.st.la.off (C:=λ_=>true) (kind:=3) (k:=rec) (λhk=>by simp[AY]at hk;omega)]at e3'
  cases e3'
theorem C45.tx(I:C45 a H X cs tks M){rec m:Nat}{ps:List Nat}(e3:M 3 rec=.rc m ps):∃ ts:List Str,Paired (λp t=>p<X.c * X.w/\M 4 p=.tx t) ps ts/\CU M ps=ts.map CV.tx/\(∀ t∈ts,PyData.strOk t=true)/\ts.length<=100:=by
 obtain⟨o,hi⟩:=I.hi
 obtain⟨p1,p2⟩:=I.ps e3
 have h4:∀ p∈ps,∃ t,M 4 p=.tx t/\PyData.strOk t=true:=λp hp=>by
  obtain⟨t,e4⟩:=(hi.now.pm rec m ps e3 p hp).2
  obtain⟨v,hv,rv⟩:=I.st.val (kind:=4) (k:=p) (by decide) (by simpa [AY]using p1 p hp)
  rw[show M 4 p=.tx t from e4]at rv
  have gv:=qU I.st.gd hv
  rw[show v=.str t from rv]at gv
  exact⟨t,e4,gv⟩
 have:∀ l:List Nat,(∀ p∈l,p∈ps)->∃ ts:List Str,Paired (λp t=>p<X.c * X.w/\M 4 p=.tx t) l ts/\CU M l=ts.map CV.tx/\(∀ t∈ts,PyData.strOk t=true)/\ts.length=l.length:=by
  intro l
  induction l with
  | nil=>exact λ_=>⟨[],.nil,rfl,λt h=>(by cases h),rfl⟩
  | cons p l ih =>
   intro h
   obtain⟨ts,a1,a2,a3,a4⟩:=ih λq hq=>h q (List.mem_cons_of_mem _ hq)
   obtain⟨t,e4,st⟩:=h4 p (h p List.mem_cons_self)
   refine⟨t::ts,.cons ⟨p1 p (h p List.mem_cons_self),e4⟩ a1,?_,λu hu=> ?_,by simp[a4]⟩
   ·unfold CU at a2 ⊢
    rw[List.map_cons,List.map_cons,a2,e4]
   ·rcases List.mem_cons.mp hu with rfl | hu
    ·exact st
    ·exact a3 u hu
 obtain⟨ts,a1,a2,a3,a4⟩:=this ps λ_ h=>h
 exact⟨ts,a1,a2,a3,by omega⟩
end
structure SI(a:Ad)(H:Hp)(X:SX)(cs:List Ch)(tks:List (AH × V))(M:Hs)(ld er vr:Addr)(kl:List (AH × V))(o:Obj)(zs:List Str)(ad:Str->Option Addr)(EV:Str->List Nat)(as:List Addr)(VS:List (List (List Str)))(N i:Nat)(H':Hp):Prop where
 c:C45 a H' X cs tks M
 f:H' ld=some (.frz o (.dK kl))
 g:∃ EV' VS',Lg (E6 X.S ld) H' er vr zs ad EV' as VS' (N+2 * i)/\(∀ z,∀ i∈EV z,i∈EV' z)/\(∀ g t,Vof VS g t->Vof VS' g t)/\VS'.length=VS.length ∧
  ∀ j z (g:Nat),j<i->kl[j]? =some (.inr z,.int g)->g∈EV' z/\∀ k r m ps,k<X.m0->M 0 k=.nm z r->M 3 r=.rc m ps->Vof VS' g (CU M ps)
 s:SameBut (λx=>x=ld\/(∃ z,ad z=some x)\/x∈as) H H'
theorem zby(h:NT K a vs H Q E):XL K a (λ_=>E) (A9 Q) (start ["store","led","ever","versions","name"] vs) H:=by
 obtain⟨X,cs,tks,M,gs,ld,er,vr,kl,zs,ad,EV,as,VS,N,rfl,T4,I,eld,L,z5,G,hN,fl,hg,q⟩:=h
 have nldB:∀ {x},¬ E6 X.S ld x->¬ X.S.A.F x/\x≠X.S.tk:=λh=>⟨λz=>h (.inl z),λz=>h (.inr (.inl z))⟩
 have kl5:kl.length<=5:=Nat.le_trans L.len z5
 obtain⟨o',hi⟩:=I.hi
 push_cast[XL,↓Ud]
 refine⟨kl,eld,λo=> ?_⟩
 have s0:SameBut (· =ld) H (upd H ld (.frz o (.dK kl))):=λy u e n=>by rw[AF n];exact e
 have I0:SI a H X cs tks M ld er vr kl o zs ad EV as VS N 0 (upd H ld (.frz o (.dK kl))):=⟨I.put1 (K8 eld) ⟨fl.1,fl.2.1⟩,AE,⟨EV,VS,G.keep λx u e n=>s0 _ _ e λz=>n (.inr (.inr (.inr z))),λ_ _ h=>h,λ_ _ h=>h,rfl,λj z g h=>(by omega)⟩,λy u e n=>s0 _ _ e λz=>n (.inl z)⟩
 refine fE (λi σ H'=>SI a H X cs tks M ld er vr kl o zs ad EV as VS N i H'/\∃ y4,σ=[some (.ref X.S.st),some (.ref ld),some (.ref er),some (.ref vr),y4]) ⟨I0,_,rfl⟩ (λi σ H' _ ⟨J,_⟩=>J.f) (λi k v σ H' ek hzz=> ?_) (λσ H' hzz=> ?_)
 ·obtain⟨J,y4,es⟩:=hzz
  subst es
  obtain⟨z,g,ekv,hz⟩:=L.ks (k,v) (List.mem_of_getElem? ek)
  cases ekv
  have hv:=zbt L.nd ek
  have hM:=(L.v z g).mpr hv
  have hgl:=hg z g hM
  have hil:=(List.getElem?_eq_some_iff.mp ek).1
  obtain⟨EV1,VS1,G1,g1,g2,g3,g4⟩:=J.g
  obtain⟨x,hx⟩:=G1.ez z hz
  obtain⟨kve,ee,ev⟩:=G1.ee
  obtain⟨hx1,hx2,hx3⟩:=G1.ev z x hx
  have nx:x≠ld:=λe=>hx3 (.inr (.inr (.inr e)))
  push_cast[kV,↓Ub]
  refine⟨.ref x,NM ee (by rw[ev,hx];rfl),.int g,.inl ⟨kl,.inr z,.inr ⟨o,J.f⟩,rfl,hv.symm⟩,_,rfl,_,pI hx1 (by have:=G1.el z;unfold EA;rw[List.length_map];omega),?_⟩
  rw[zbw]
  have G2:=G1.mark (g:=g) hx (by rw[g3];exact hgl)
  have C2:=J.c.put1 (o:=.dK (EA (G8 (EV1 z) g))) (K8 hx1) (nldB hx3)
  have f2:upd H' x (.dK (EA (G8 (EV1 z) g))) ld=some (.frz o (.dK kl)):=by rw[AF nx.symm];exact J.f
  have s2:SameBut (λx=>x=ld\/(∃ z,ad z=some x)\/x∈as) H (upd H' x (.dK (EA (G8 (EV1 z) g)))):=λy u e n=>by rw[AF (show y≠x from λz'=>n (.inr (.inl ⟨z,by rw[z'];exact hx⟩)))];exact J.s _ _ e n
  revert G2 C2 f2 s2
  generalize upd H' x (.dK (EA (G8 (EV1 z) g)))=H2
  intro G2 C2 f2 s2
  obtain⟨k,r,hk,e0,hinc⟩:=hM
  obtain⟨m,ps,hr,e3⟩:=C2.rl hk e0
  obtain⟨ts,t1,t2,t3,t4⟩:=C2.tx e3
  obtain⟨dx,ho⟩:=C2.st.ob
  have hg1:g<VS1.length:=by rw[g3];exact hgl
  have eW:=List.getElem?_eq_getElem hg1
  have exa:=List.getElem?_eq_getElem (show g<as.length by rw[G2.vk];exact hg1)
  obtain⟨nb,bs,eb,pb⟩:=G2.vv g _ _ exa eW
  push_cast[↓Uc]
  refine⟨.int g,.inl ⟨kl,.inr z,.inr ⟨o,f2⟩,rfl,hv.symm⟩,FF (n:=g) (v:=.ref (as[g]'(by rw[G2.vk];exact hg1))) (SqL.of G2.ve) rfl (by rw[List.getElem?_map,exa];rfl) ⟨.inl ⟨rfl,_,SqL.of eb⟩,?_⟩⟩
  refine⟨_,_,ho,B8 (by decide +kernel),X,cs,tks,M,z,rfl,T4,C2.st,λcell rec ec hc e0'=> ?_,λhc=>absurd e0 (IK hc k r hk)⟩
  have ek1:=hi.now.un k cell z r rec hk hc e0 e0'
  subst ek1
  have er1:r=rec:=by have:=e0.symm.trans e0';cases this;rfl
  subst er1
  refine⟨hr,m,ps,e3,by have:=(C2.ps e3).2;omega,ts,t1,λl H3 hl s3 el=> ?_⟩
  have hlB:¬ E6 X.S ld l:=λz=>by
   rcases z with z | z | z | z
   ·exact C2.st.bk.off hl z
   ·rw[z,C2.st.tk]at hl;cases hl
   ·obtain⟨dp,ep⟩:=C2.st.bk.pk.ob
    rw[z,ep]at hl;cases hl
   ·rw[z,f2]at hl;cases hl
  have hla:l∉as:=λz=>by
   obtain⟨j,hj⟩:=List.mem_iff_getElem?.mp z
   obtain⟨_,_,h3,_⟩:=G2.vv j l _ hj (List.getElem?_eq_getElem (by rw[<-G2.vk];exact(List.getElem?_eq_some_iff.mp hj).1))
   rw[hl]at h3;cases h3
  have hlv:l≠vr:=λz=>by rw[z,G2.ve]at hl;cases hl
  have eb3:=s3 _ _ eb
  refine⟨_,_,_,rfl,rfl,eb3,CM _ (by have:=(G2.vl.2 _ (List.mem_of_getElem? eW));have:=pb.length;rw[List.length_map];omega),?_⟩
  have G3:=(G2.same s3).app exa eW eb3 (Paired.mapP pb λb us ⟨p1,p2⟩=>⟨s3 _ _ p1,p2⟩) el ⟨hlB,hla,hlv⟩ ⟨t3,t4⟩
  have hxm:=List.mem_of_getElem? exa
  refine⟨(C2.same s3).put1 (K7 eb3) (nldB nb),?_,⟨KK EV1 z g,VS1.set g (VS1[g]++[ts]),(by rw[show N+2 * (i+1)=N+2 * i+1+1 by omega];exact G3),λy j hj=>RQ.mpr (.inl (g1 y j hj)),λj t ht=>Vof.app eW (g2 j t ht),(by rw[List.length_set];exact g3),λj y g' hj ej=> ?_⟩,λy u e n=> ?_⟩
  ·rw[AF (BD (s3 _ _ f2) eb3 (by intro z;cases z))];exact s3 _ _ f2
  ·by_cases c:j=i
   ·subst c
    rw[ek]at ej
    cases ej
    refine⟨RQ.mpr (.inr ⟨rfl,rfl⟩),λk' r' m' ps' hk' e0' e3'=> ?_⟩
    have ek1:=hi.now.un k k' z r r' hk hk' e0 e0'
    subst ek1
    have er1:r=r':=by have:=e0.symm.trans e0';cases this;rfl
    subst er1
    have er2:ps=ps':=by have:=e3.symm.trans e3';cases this;rfl
    subst er2
    exact⟨_,ts,List.getElem?_set_self hg1,List.mem_append_right _ (by simp),t2⟩
   ·obtain⟨h1,h2⟩:=g4 j y g' (by omega) ej
    exact⟨RQ.mpr (.inl h1),λk' r' m' ps' hk' e0' e3'=>Vof.app eW (h2 k' r' m' ps' hk' e0' e3')⟩
  ·rw[AF (show y≠as[g]'(by rw[G2.vk];exact hg1)from λz=>n (.inr (.inr (by rw[z];exact hxm))))]
   exact s3 _ _ (s2 _ _ e n)
 ·obtain⟨J,y4,es⟩:=hzz
  subst es
  refine⟨J.f,?_⟩
  obtain⟨EV1,VS1,G1,g1,g2,g3,g4⟩:=J.g
  have s1:SameBut (· =ld) H' (upd H' ld (.dK kl)):=λy u e n=>by rw[AF n];exact e
  refine q EV1 VS1 _ (J.c.put1 (zbx J.f) ⟨fl.1,fl.2.1⟩) AE ((G1.keep λx u e n=>s1 _ _ e λz=>n (.inr (.inr (.inr z)))).le (by omega)) g1 g2 g3 (λk z r m ps g hk e0 e3 hinc=> ?_) λy u e n=> ?_
  ·have hv:=(L.v z g).mp ⟨k,r,hk,e0,hinc⟩
   obtain⟨⟨k',v'⟩,hm,ek,ev⟩:∃ p∈kl,p.1=.inr z/\p.2=.int (g:Nat):=by
    unfold BJ at hv
    obtain⟨p,hp,e⟩:=Option.map_eq_some_iff.mp hv
    exact⟨p,List.mem_of_find?_eq_some hp,by simpa using List.find?_some hp,e⟩
   cases ek
   cases ev
   obtain⟨j,hj⟩:=List.mem_iff_getElem?.mp hm
   obtain⟨h1,h2⟩:=g4 j z g (List.getElem?_eq_some_iff.mp hj).1 hj
   exact⟨h2 k r m ps hk e0 e3,h1⟩
  ·by_cases c:y=ld
   ·subst c
    rw[eld]at e
    rw[AE];exact e
   ·rw[AF c]
    exact J.s _ _ e λz=>z.elim c n
theorem rN:∀ {ts:List Str},(∀ t∈ts,PyData.strOk t=true)->PyData.canLayAll0 (ts.map PyData.str)=true
 | [],_=>rfl
 | t::ts,h=>by
  show(PyData.canLay0 (.str t) && PyData.canLayAll0 (ts.map PyData.str))=true
  rw[rN λu hu=>h u (List.mem_cons_of_mem _ hu),Bool.and_true]
  simpa [PyData.canLay0]using h t List.mem_cons_self
def HU(ts:List Str):PyData:=.list (ts.map PyData.str)
theorem X7{ts:List Str}(h:∀ t∈ts,PyData.strOk t=true):(HU ts).canLay0=true:=by
 unfold HU
 simpa [PyData.canLay0]using rN h
theorem rO:∀ {W:List (List Str)},(∀ ts∈W,∀ t∈ts,PyData.strOk t=true)->PyData.canLayAll0 (W.map HU)=true
 | [],_=>rfl
 | ts::W,h=>by
  show(PyData.canLay0 (HU ts) && PyData.canLayAll0 (W.map HU))=true
  rw[rO λu hu=>h u (List.mem_cons_of_mem _ hu),X7 (h ts List.mem_cons_self)]
  rfl
theorem rP:∀ ts:List Str,PyData.depthAll (ts.map PyData.str)<=2
 | []=>by simp[PyData.depthAll]
 | t::ts=>by
  have:=rP ts
  simp only[List.map_cons,PyData.depthAll,PyData.depth]
  omega
theorem rQ:∀ {ts:List Str},RepAll K H (ts.map V.str) (ts.map PyData.str)
 | []=>.nil
 | _::_=>.cons (.str _) rQ
theorem rR{b:Addr}{ts:List Str}(h:H b=some (.lst (ts.map V.str))):Rep K H (.ref b) (HU ts):=.lst (SqL.of h) rQ
theorem rS{P:Addr->Prop}:∀ {bs:List Addr} {W:List (List Str)},Paired (λ(b:Addr) (ts:List Str)=>H b=some (.lst (ts.map V.str))/\P b) bs W->RepAll K H (bs.map V.ref) (W.map HU)
 | _,_,.nil=>.nil
 | _,_,.cons h t=>.cons (rR h.1) (rS t)
theorem zbz(h:ML K a vs H Q E):WR K a (λ_=>E) (A9 Q) (start ["layout","there","ever","versions","k","cell","pieces","texts","found","made"] vs) H:=by
 obtain⟨ly,d,er,vr,n,r,c,w,S,B,zs,ad,EV,as,VS,N,rfl,I,G,hN,hT,q⟩:=h
 have TL:=I.tl
 have L:=I.la
 obtain⟨dl,el⟩:=L.ob
 have bnw:n * w<=36:=Nat.mul_le_mul I.n6 I.w6
 push_cast[WR,↓Mz]
 refine⟨_,_,el,CB (by decide +kernel),ly,n,r,c,w,rfl,TL,L,λt ht=> ?_⟩
 have s2:=AO (o:=.tup [V.int ((n:Int) * w),V.int ((r:Int) * w),V.int ((c:Int) * w)]) ht
 refine DG AE (n:=0) rfl rfl ?_
 revert s2
 generalize upd H t (.tup [V.int ((n:Int) * w),V.int ((r:Int) * w),V.int ((c:Int) * w)])=H2
 intro s2
 have em:(n:Int) * w=(n * w:Nat):=by simp
 rw[em]
 push_cast[]
 refine⟨by omega,by omega,?_⟩
 refine NI (λi σ H'=>Same H H'/\∃ y4 y5 y6 y7 y8 y9,σ=[some (.ref ly),some (.ref d),some (.ref er),some (.ref vr),y4,y5,y6,y7,y8,y9]) ⟨s2,_,_,_,_,_,_,rfl⟩ (λi σ H' hi hzz=> ?_) (λσ H' hzz=> ?_)
 ·obtain⟨s,y4,y5,y6,y7,y8,y9,es⟩:=hzz
  subst es
  push_cast[↓Mj,Int.zero_add]
  refine⟨_,_,s _ _ el,CB (by decide +kernel),qZ TL (L.same s) λu hu=> ?_⟩
  have su:=AO (o:=.tup [.int (0+(i:Int) / w),.int ((i:Int) % w)]) hu
  have eu:upd H' u (.tup [.int (0+(i:Int) / w),.int ((i:Int) % w)]) u=some (.tup [.int (A5 n r c w 0 i:Nat),.int (i % w:Nat)]):=by rw[AE];simp[A5]
  revert su eu
  generalize upd H' u (.tup [.int (0+(i:Int) / w),.int ((i:Int) % w)])=H3
  intro su eu
  have s3:=s.trans su
  have hk0:i<AY n r c w 0:=by simpa [AY]using hi
  refine I.get s3 (kind:=0) (by decide) hk0 eu λv rv=> ?_
  have ok0:=I.ok 0 i (by decide) hk0
  push_cast[↓My]
  cases e0:S 0 i with
  | no =>
   rw[e0]at rv
   rw[show v=.non from rv]
   push_cast[]
   exact s3
  | nm z q' =>
   rw[e0]at rv
   obtain⟨t0,rfl,E8⟩:=rv
   rw[if_pos (by simp)]
   obtain⟨m,ps,g,e3,hgE,W,ts,hW,hts,htx⟩:=hT i z q' hi e0
   obtain⟨pb,p12⟩:=I.ps q' m ps e3
   have hq':=I.rr i z q' hi e0
   push_cast[↓Ml]
   refine⟨_,_,s3 _ _ el,CB (by decide +kernel),DG E8 (n:=1) rfl rfl (MP TL (L.same s3) λu5 hu5=> ?_)⟩
   have s5:=AO (o:=.tup [.int (n+(q':Int) / w),.int ((q':Int) % w)]) hu5
   have e5:upd H3 u5 (.tup [.int (n+(q':Int) / w),.int ((q':Int) % w)]) u5=some (.tup [.int (A5 n r c w 3 q':Nat),.int (q' % w:Nat)]):=by rw[AE];simp[A5]
   revert s5 e5
   generalize upd H3 u5 (.tup [.int (n+(q':Int) / w),.int ((q':Int) % w)])=H5
   intro s5 e5
   have s35:=s3.trans s5
   refine I.get s35 (kind:=3) (by decide) (by simpa [AY]using hq') e5 λv3 rv3=> ?_
   rw[e3]at rv3
   obtain⟨t1,u1,rfl,et1,eu1⟩:=rv3
   refine DG et1 (n:=1) rfl rfl ?_
   have BU:ps.length=ts.length:=by
    have:=congrArg List.length htx
    simpa [CU]using this
   push_cast[↓Mm]
   refine .inr ⟨⟨_,SqT.of eu1⟩,X3 (xs:=BC ps) (CM _ (by simp[BC];omega)) (λi ys H'=>Same H5 H'/\ys=(ts.take i).map V.str) ⟨Same.refl _,rfl⟩ (λi ys H' _ ⟨s',_⟩=>SqT.of (s' _ _ eu1)) (λj x ys H' hx hyl ⟨s',ey⟩=> ?_) (λys H' hyl ⟨s',ey⟩ lc hlc=> ?_)⟩
   ·unfold BC at hx
    rw[List.getElem?_map,Option.map_eq_some_iff]at hx
    obtain⟨p,ep,rfl⟩:=hx
    have hj:j<ts.length:=by have:=(List.getElem?_eq_some_iff.mp ep).1;omega
    have etj:=List.getElem?_eq_getElem hj
    have e4:S 4 p=.tx ts[j]:=by
     have:=congrArg (·[j]?) htx
     unfold CU at this
     simp only[List.getElem?_map,ep,etj,Option.map_some,Option.some.injEq]at this
     exact this
    have sH:=s35.trans s'
    push_cast[EI]
    refine⟨_,_,sH _ _ el,CB (by decide +kernel),rA TL (L.same sH) λu6 hu6=> ?_⟩
    have s6:=AO (o:=.tup [.int (n+r+(p:Int) / w),.int ((p:Int) % w)]) hu6
    have e6:upd H' u6 (.tup [.int (n+r+(p:Int) / w),.int ((p:Int) % w)]) u6=some (.tup [.int (A5 n r c w 4 p:Nat),.int (p % w:Nat)]):=by rw[AE];simp[A5]
    revert s6 e6
    generalize upd H' u6 (.tup [.int (n+r+(p:Int) / w),.int ((p:Int) % w)])=H6
    intro s6 e6
    refine I.get (sH.trans s6) (kind:=4) (by decide) (by simpa [AY]using pb p (List.mem_of_getElem? ep)) e6 λv4 rv4=> ?_
    rw[e4]at rv4
    rw[show v4=.str ts[j]from rv4]
    refine⟨s'.trans s6,?_⟩
    rw[List.take_add_one,etj,ey,List.map_append]
    rfl
   ·have hl:(BC ps).length=ts.length:=by rw[<-BU];simp[BC]
    rw[hl,List.take_length]at ey
    subst ey
    have sl:=AO (o:=.lst (ts.map V.str)) hlc
    have elc:upd H' lc (.lst (ts.map V.str)) lc=some (.lst (ts.map V.str)):=AE
    revert sl elc
    generalize upd H' lc (.lst (ts.map V.str))=H7
    intro sl elc
    have s7:=(s35.trans s').trans sl
    have et7:=((s5.trans s').trans sl) _ _ E8
    have G7:=G.same s7
    obtain⟨kve,ee,ev⟩:=G7.ee
    obtain⟨x,hx⟩:∃ x,ad z=some x:=by
     cases e:ad z with
     | none=>rw[G7.e0 z e]at hgE;cases hgE
     | some x=>exact⟨x,rfl⟩
    obtain⟨hx1,hx2,hx3⟩:=G7.ev z x hx
    push_cast[↓Mp,↓Mv]
    refine⟨.inl ⟨_,.inl ee⟩,DG et7 (n:=0) rfl rfl λdn hdn=> ?_⟩
    have s8:=AO (o:=.dK []) hdn
    revert s8
    generalize upd H7 dn (.dK [])=H8
    intro s8
    refine⟨some (.ref x),NM (s8 _ _ ee) (by rw[ev,hx];rfl),x,rfl,EA (EV z),s8 _ _ hx1,λo=> ?_⟩
    have sx:SameBut (· =x) H8 (upd H8 x (.frz o (.dK (EA (EV z))))):=λy u e n=>by rw[AF n];exact e
    have ex:upd H8 x (.frz o (.dK (EA (EV z)))) x=some (.frz o (.dK (EA (EV z)))):=AE
    revert sx ex
    generalize upd H8 x (.frz o (.dK (EA (EV z))))=H9
    intro sx ex
    have nlx:∀ {y:Addr} {xs:List V},H7 y=some (.lst xs)->H9 y=some (.lst xs):=λe=>sx _ _ (s8 _ _ e) (BD e hx1 (by intro z;cases z))
    refine fE (λj σ H'=>(H'=H9/\∃ b:Bool,(g∈(EV z).take j->b=true)/\∃ y9,σ=[some (.ref ly),some (.ref d),some (.ref er),some (.ref vr),some (.int i),some (.ref t0),some (.ref u1),some (.ref lc),some (.bl b),y9])) ⟨rfl,false,λh=>by simp at h,_,rfl⟩ (λj σ H' _ ⟨e,_⟩=>by rw[e];exact ex) (λj k v σ H' ek hzz=> ?_) (λσ H' hzz=> ?_)
    ·obtain⟨e,b,hb,y9,es⟩:=hzz
     subst e es
     unfold EA at ek
     rw[List.getElem?_map,Option.map_eq_some_iff]at ek
     obtain⟨g',eg',ekv⟩:=ek
     cases ekv
     have hgm:=List.mem_of_getElem? eg'
     have hg':=G7.em z g' hgm
     have eW:=List.getElem?_eq_getElem hg'
     have exa:=List.getElem?_eq_getElem (show g'<as.length by rw[G7.vk];exact hg')
     obtain⟨nb,bs,eb,pb'⟩:=G7.vv g' _ _ exa eW
     push_cast[kV,↓Mq]
     split
     ·exact⟨true,λ_=>rfl,rfl⟩
     ·rename_i hbf
      have hst:=G7.vs _ (List.mem_of_getElem? eW)
      refine FF (n:=g') (v:=.ref (as[g']'(by rw[G7.vk];exact hg'))) (SqL.of (nlx G7.ve)) rfl (by rw[List.getElem?_map,exa];rfl) ?_
      refine⟨(VS[g']).map HU,HU ts,.lst (SqL.of (nlx eb)) (rS (P:=λb=>¬ B b/\b∉as/\b≠vr) (Paired.mapP pb' λb us ⟨p1,p2⟩=>⟨nlx p1,p2⟩)),rR (nlx elc),rO λus hus=>(hst us hus).1,X7 (G7.vs W (List.mem_of_getElem? hW) ts hts).1,?_,rfl,_,λhm=> ?_,rfl⟩
      ·have:=rP ts
       unfold HU
       simp only[PyData.depth]
       omega
      ·rw[List.take_add_one,eg']at hm
       rcases List.mem_append.mp hm with hm | hm
       ·exact absurd (hb hm) hbf
       ·have:g=g':=by simpa using hm
        subst this
        have:VS[g]=W:=by rw[hW]at eW;exact(Option.some.inj eW).symm
        rw[this]
        exact List.any_eq_true.mpr ⟨HU ts,List.mem_map.mpr ⟨ts,hts,rfl⟩,PySem.SeqAt.eqv_refl _ (X7 (G7.vs W (List.mem_of_getElem? hW) ts hts).1)⟩
    ·obtain⟨e,b,hb,y9,es⟩:=hzz
     subst e es
     push_cast[Ends.thaw,↓Mx]
     have hbt:b=true:=hb (by
      have:(EA (EV z)).length=(EV z).length:=List.length_map _
      rw[this,List.take_length];exact hgE)
     refine⟨ex,E7 (by rw[hbt];simp) λy o' e=> ?_⟩
     by_cases c:y=x
     ·subst c
      rw[AE,<-hx1]
      exact s7 _ _ e
     ·rw[AF c]
      exact sx _ _ (s8 _ _ (s7 _ _ e)) c
  | _=>rw[e0]at ok0;exact ok0.elim
 ·obtain⟨s,y4,y5,y6,y7,y8,y9,es⟩:=hzz
  subst es
  push_cast[↓Nb]
  exact q _ s
theorem zb0(ns:List Int):∃ ms:List Int,EY (ns.map V.int) (some 1) (some 64)=ms.map V.int/\ms.length<=ns.length - 1:=by
 refine⟨(ns.drop (HT.sIx ns.length 0 (some 1))).take (HT.sIx ns.length ns.length (some 64) - HT.sIx ns.length 0 (some 1)),?_,?_⟩
 ·unfold EY
  rw[List.length_map,<-List.map_drop,<-List.map_take]
 ·rw[List.length_take,List.length_drop]
  have:HT.sIx ns.length 0 (some 1)=min 1 ns.length:=by
   unfold HT.sIx
   simp
   try omega
  omega
structure S46(a:Ad)(H:Hp)(S:SA)(n r c w:Nat)(nl rr ld er vr:Addr)(zs:List Str)(ms:List Int)(i:Nat):Prop where
 c:∃ (X:SX) (cs:List Ch) (tks:List (AH × V)) (M:Hs) (gs:List Nat) (kl:List (AH × V)) (ad:Str->Option Addr) (EV:Str->List Nat) (as:List Addr) (VS:List (List (List Str))),X.S=S/\X.n=n/\X.r=r/\X.c=c/\X.w=w/\C45 a H X cs tks M/\cs.length<=15 * i/\Vers X.m0 M.b M.as gs (Vof VS) (λz g=>g∈EV z)/\H ld=some (.dK kl)/\LedI kl (Mad X.m0 M.b M.as gs) zs/\Lg (E6 S ld) H er vr zs ad EV as VS (12 * i)/\nl∉as/\rr∉as
 enl:H nl=some (.lst (zs.map V.str))
 err:H rr=some (.lst (ms.map V.int))
 f1:¬ E6 S ld nl/\nl≠vr
 f2:¬ E6 S ld rr/\rr≠vr
 f3:¬ S.A.F ld/\ld≠S.tk/\ld≠S.A.gp
 zl:zs.length=5
section
variable{S:SA}{n r c w i:Nat}{nl rr ld er vr:Addr}{zs:List Str}{ms:List Int}{P:V->Hp->Prop}
theorem S46.same{H':Hp}(J:S46 a H S n r c w nl rr ld er vr zs ms i)(s:Same H H'):S46 a H' S n r c w nl rr ld er vr zs ms i:=by
 obtain⟨⟨X,cs,tks,M,gs,kl,ad,EV,as,VS,a1,a2,a3,a4,a5,I,l,Ve,el,Ld,G,n1,n2⟩,e1,e2,f1,f2,f3,zl⟩:=J
 exact⟨⟨X,cs,tks,M,gs,kl,ad,EV,as,VS,a1,a2,a3,a4,a5,I.same s,l,Ve,s _ _ el,Ld,G.same s,n1,n2⟩,s _ _ e1,s _ _ e2,f1,f2,f3,zl⟩
theorem S46.obs(J:S46 a H S n r c w nl rr ld er vr zs ms i):(∃ dx,H S.st=some (.ins (a "Store") dx (sf S.lp S.A.b S.tk)))/\LayAt a H S.lp n r c w:=by
 obtain⟨⟨X,cs,tks,M,gs,kl,ad,EV,as,VS,rfl,rfl,rfl,rfl,rfl,I,_⟩,_⟩:=J
 exact⟨I.st.ob,I.st.ly⟩
theorem S46.up(J:S46 a H S n r c w nl rr ld er vr zs ms i):S46 a H S n r c w nl rr ld er vr zs ms (i+1):=by
 obtain⟨⟨X,cs,tks,M,gs,kl,ad,EV,as,VS,a1,a2,a3,a4,a5,I,l,Ve,el,Ld,G,n1,n2⟩,e1,e2,f1,f2,f3,zl⟩:=J
 exact⟨⟨X,cs,tks,M,gs,kl,ad,EV,as,VS,a1,a2,a3,a4,a5,I,by omega,Ve,el,Ld,G.le (by omega),n1,n2⟩,e1,e2,f1,f2,f3,zl⟩
theorem S46.go{b:Nat}(T4:C0 K a)(J:S46 a H S n r c w nl rr ld er vr zs ms i)(hb:b<n+r+c+r+c)(q:∀ t H',S46 a H' S n r c w nl rr ld er vr zs ms i->P (.ref t) H'):MJ K a [.ref S.st,.int (b:Nat)] H P E:=by
 obtain⟨⟨X,cs,tks,M,gs,kl,ad,EV,as,VS,rfl,rfl,rfl,rfl,rfl,I,l,Ve,el,Ld,G,n1,n2⟩,e1,e2,f1,f2,f3,zl⟩:=J
 have hr:b<X.rows.length:=by rw[I.st.sz.2.2.2.2];exact hb
 have er:=List.getElem?_eq_getElem hr
 refine⟨X,cs,tks,M,b,_,rfl,T4,I.st,er,λt H' I' sb=> ?_⟩
 have k:∀ x o,H x=some o->¬ E6 X.S ld x->H' x=some o:=λx o e h=>sb _ _ e λz=>h (z.elim .inl λz=>.inr (.inr (.inl z)))
 exact q t H' ⟨⟨X.wr cs b _,cs,tks,M,gs,kl,ad,EV,as,VS,rfl,rfl,rfl,rfl,rfl,I.write er I' sb,l,Ve,sb _ _ el (λz=>z.elim f3.1 f3.2.2),Ld,G.keep k,n1,n2⟩,k _ _ e1 f1.1,k _ _ e2 f2.1,f1,f2,f3,zl⟩
theorem S46.right(T4:C0 K a)(J:S46 a H S n r c w nl rr ld er vr zs ms i)(hl:i<=62)(w1:1<=w)(q:∀ H',S46 a H' S n r c w nl rr ld er vr zs ms i->P (.bl true) H'):MK K a [.ref S.lp,.ref S.A.gp] H (λv H1=>ML K a [.ref S.lp,v,.ref er,.ref vr] H1 P E) E:=by
 have J':=J
 obtain⟨⟨X,cs,tks,M,gs,kl,ad,EV,as,VS,rfl,rfl,rfl,rfl,rfl,I,l,Ve,el,Ld,G,n1,n2⟩,e1,e2,f1,f2,f3,zl⟩:=J
 obtain⟨z1,z2,z3,z4,z5⟩:=I.st.sz
 refine⟨X.S.lp,X.S.A.gp,X.S.A.cl,X.n,X.r,X.c,X.w,X.rows,X.nn,rfl,T4.2.2.1,T4.2.1,I.st.ly,I.st.bk.pk,z5,by omega,z4,λd kvs H1 s1 ed hv=> ?_⟩
 refine⟨X.S.lp,d,er,vr,X.n,X.r,X.c,X.w,_,_,zs,ad,EV,as,VS,12 * i,rfl,(I.same s1).there T4.2.2.1 w1 ed hv,G.same s1,by omega,λk z p hk e=> ?_,λH2 s2=>q H2 (J'.same (s1.trans s2))⟩
 have hC:=I.st.la.cut I.cut
 obtain⟨m,ps,e3⟩:=I.snd.nl k z p hk e
 obtain⟨g,hg,hv⟩:=Ve.va _ hC p m ps e3
 exact⟨m,ps,g,e3,Ve.vc _ hC k z p g hk e hg,hv⟩
structure W46(a:Ad)(H:Hp)(S:SA)(n r c w:Nat)(nl rr ld er vr:Addr)(zs:List Str)(ms:List Int)(i N:Nat)(f:Nat->(Str->Nat->Prop)->(Str->Nat->Prop)->Prop):Prop where
 c:∃ (X:SX) (cs:List Ch) (tks:List (AH × V)) (M:Hs) (gs:List Nat) (A:Str->Nat->Prop) (kl:List (AH × V)) (ad:Str->Option Addr) (EV:Str->List Nat) (as:List Addr) (VS:List (List (List Str))),X.S=S/\X.n=n/\X.r=r/\X.c=c/\X.w=w/\C45 a H X cs tks M/\cs.length<=15 * (i+1)/\Pend X.m0 M.b M.as gs (Vof VS) (λz g=>g∈EV z)/\H ld=some (.dK kl)/\LedI kl A zs/\f VS.length A (Mad X.m0 M.b M.as gs)/\Lg (E6 S ld) H er vr zs ad EV as VS N/\nl∉as/\rr∉as
 enl:H nl=some (.lst (zs.map V.str))
 err:H rr=some (.lst (ms.map V.int))
 f1:¬ E6 S ld nl/\nl≠vr
 f2:¬ E6 S ld rr/\rr≠vr
 f3:¬ S.A.F ld/\ld≠S.tk/\ld≠S.A.gp
 zl:zs.length=5
def fD(kind:Nat)(y z:Str)(N:Nat)(A B:Str->Nat->Prop):Prop:=(∀ z g,A z g->g<N)/\Dd kind y z N A B
def fF(kind:Nat)(y z:Str)(g N:Nat)(A B:Str->Nat->Prop):Prop:=Dd kind y z g A B/\(kind<2->g+1=N)/\∀ z g,B z g->g<N
def fG(N:Nat)(A B:Str->Nat->Prop):Prop:=(∀ z i,A z i↔B z i)/\∀ z g,B z g->g<N
theorem Dd.lt{kind g N:Nat}{y z:Str}{A B:Str->Nat->Prop}(d:Dd kind y z g A B)(h:∀ z i,A z i->i<N)(hk:kind<2->g<N):∀ z i,B z i->i<N:=λx i hB=>by
 rcases d with⟨k1,no,d⟩ | ⟨j,_,ha,no,d⟩ | ⟨j,_,ha,d⟩ | ⟨k4,k7,d⟩ | ⟨j,_,ha,yz,no,d⟩
 ·rcases(d x i).mp hB with h' | ⟨_,rfl⟩
  ·exact h x i h'
  ·exact hk k1
 ·rcases(d x i).mp hB with h' | ⟨_,rfl⟩
  ·exact h x i h'
  ·exact h y i ha
 ·exact h x i ((d x i).mp hB).1
 ·exact h x i ((d x i).mp hB)
 ·rcases((d x i).mp hB).1 with h' | ⟨_,rfl⟩
  ·exact h x i h'
  ·exact h y i ha
theorem Pend.up{m0:Nat}{M0:Md}{as:List AC}{gs:List Nat}{V V':Nat->List CV->Prop}{ev:Str->Nat->Prop}(h:Pend m0 M0 as gs V ev)(hV:∀ g t,V g t->V' g t):Pend m0 M0 as gs V' ev:=λW ev' h1 h2 F=>h W ev' (λg t x=>h1 g t (hV g t x)) h2 F
theorem W46.push{kind:Nat}{y z:Str}{x:Addr}(J:W46 a H S n r c w nl rr ld er vr zs ms i (12 * i) (fD kind y z))(hx:H x=none):∃ (as:List Addr) (g:Nat),H vr=some (.lst (as.map V.ref))/\as.length<=12 * i/\W46 a (upd (upd H x (.lst [])) vr (.lst (as.map V.ref++[.ref x]))) S n r c w nl rr ld er vr zs ms i (12 * i+1) (fF kind y z g)/\as.length=g/\(as.map V.ref++[V.ref x]).length=g+1:=by
 obtain⟨⟨X,cs,tks,M,gs,A,kl,ad,EV,as,VS,rfl,rfl,rfl,rfl,rfl,I,l,pe,el,Ld,⟨hA,hd⟩,G,n1,n2⟩,e1,e2,f1,f2,f3,zl⟩:=J
 have lx:D7 (H x):=⟨λxs e=>(by rw[hx]at e;cases e),λC dx fs e=>(by rw[hx]at e;cases e)⟩
 have bx:¬ E6 X.S ld x:=λz=>by
  rcases z with z | z | z | z
  ·exact I.st.bk.off hx z
  ·rw[z,I.st.tk]at hx;cases hx
  ·obtain⟨dp,ep⟩:=I.st.bk.pk.ob
   rw[z,ep]at hx;cases hx
  ·rw[z,el]at hx;cases hx
 have nx:∀ {y o},H y=some o->y≠x:=λe=>BM e hx
 have far:∀ {y o},H y=some o->y≠vr->upd (upd H x (.lst [])) vr (.lst (as.map V.ref++[.ref x])) y=some o:=λe n=>by rw[AF n,AF (nx e)];exact e
 have C1:=I.same (AO (o:=.lst []) hx)
 have ev1:=(AO (o:=.lst []) hx) _ _ G.ve
 have C2:=C1.put1 (o:=.lst (as.map V.ref++[.ref x])) (K7 ev1) ⟨λz=>G.vb (.inl z),λz=>G.vb (.inr (.inl z))⟩
 refine⟨as,VS.length,G.ve,by rw[G.vk];exact G.vl.1,⟨⟨X,cs,tks,M,gs,A,kl,ad,EV,as++[x],VS++[[]],rfl,rfl,rfl,rfl,rfl,C2,l,pe.up λg t h=>h.push,far el (BD el G.ve (by intro z;cases z)),Ld,⟨hd,λ_=>by rw[List.length_append];rfl,hd.lt (λz i h=>by rw[List.length_append];exact Nat.lt_succ_of_lt (hA z i h)) λ_=>by rw[List.length_append];exact Nat.lt_succ_self _⟩,?_,?_,?_⟩,far e1 f1.2,far e2 f2.2,f1,f2,f3,zl⟩,G.vk,by simp[G.vk]⟩
 ·exact G.push hx bx
 ·rw[List.mem_append]
  exact λh=>h.elim n1 λh=>nx e1 (by simpa using h)
 ·rw[List.mem_append]
  exact λh=>h.elim n2 λh=>nx e2 (by simpa using h)
theorem W46.skip{kind:Nat}{y z:Str}(J:W46 a H S n r c w nl rr ld er vr zs ms i (12 * i) (fD kind y z))(hk:¬ kind<2):∃ g,W46 a H S n r c w nl rr ld er vr zs ms i (12 * i+1) (fF kind y z g):=by
 obtain⟨⟨X,cs,tks,M,gs,A,kl,ad,EV,as,VS,rfl,rfl,rfl,rfl,rfl,I,l,pe,el,Ld,⟨hA,hd⟩,G,n1,n2⟩,e1,e2,f1,f2,f3,zl⟩:=J
 exact⟨VS.length,⟨X,cs,tks,M,gs,A,kl,ad,EV,as,VS,rfl,rfl,rfl,rfl,rfl,I,l,pe,el,Ld,⟨hd,λh=>absurd h hk,hd.lt hA λh=>absurd h hk⟩,G.le (by omega),n1,n2⟩,e1,e2,f1,f2,f3,zl⟩
theorem W46.vers{f:Nat->(Str->Nat->Prop)->(Str->Nat->Prop)->Prop}{N:Nat}(J:W46 a H S n r c w nl rr ld er vr zs ms i N f):∃ as:List Addr,H vr=some (.lst (as.map V.ref))/\as.length<=N/\∃ A B,f as.length A B:=by
 obtain⟨⟨X,cs,tks,M,gs,A,kl,ad,EV,as,VS,rfl,rfl,rfl,rfl,rfl,I,l,pe,el,Ld,hf,G,n1,n2⟩,e1,e2,f1,f2,f3,zl⟩:=J
 exact⟨as,G.ve,by rw[G.vk];exact G.vl.1,_,_,by rw[G.vk];exact hf⟩
theorem W46.follow{kind g:Nat}{y z:Str}{m:Int}(J:W46 a H S n r c w nl rr ld er vr zs ms i (12 * i+1) (fF kind y z g))(hy:y∈zs)(hz:z∈zs)(hm:kind<2->m=g)(q:∀ H',W46 a H' S n r c w nl rr ld er vr zs ms i (12 * i+1) fG->P .non H'):NS K a [.ref ld,.int (kind:Nat),.str y,.str z,.int m] H P E:=by
 obtain⟨⟨X,cs,tks,M,gs,A,kl,ad,EV,as,VS,rfl,rfl,rfl,rfl,rfl,I,l,pe,el,Ld,⟨hd,hg,hB⟩,G,n1,n2⟩,e1,e2,f1,f2,f3,zl⟩:=J
 refine⟨ld,kl,A,_,zs,g,kind,y,z,m,rfl,el,Ld,by have:=Ld.len;omega,hy,hz,hd,hm,λkl' H' sb el' Ld'=>q H' ?_⟩
 have k:∀ x o,H x=some o->¬ E6 X.S ld x->H' x=some o:=λx o e h=>sb _ _ e λz=>h (.inr (.inr (.inr z)))
 exact⟨⟨X,cs,tks,M,gs,_,kl',ad,EV,as,VS,rfl,rfl,rfl,rfl,rfl,I.sbG sb (λx hx=>by rw[hx];exact K8 el) (λx hx=>by rw[hx];exact⟨f3.1,f3.2.1⟩),l,pe,el',Ld',⟨λ_ _=>Iff.rfl,hB⟩,G.keep k,n1,n2⟩,k _ _ e1 f1.1,k _ _ e2 f2.1,f1,f2,f3,zl⟩
theorem W46.see(T4:C0 K a)(J:W46 a H S n r c w nl rr ld er vr zs ms i (12 * i+1) fG)(hl:i<=61)(q:∀ H',S46 a H' S n r c w nl rr ld er vr zs ms (i+1)->P .non H'):NT K a [.ref S.st,.ref ld,.ref er,.ref vr] H P E:=by
 obtain⟨⟨X,cs,tks,M,gs,A,kl,ad,EV,as,VS,rfl,rfl,rfl,rfl,rfl,I,l,pe,el,Ld,⟨hd,hB⟩,G,n1,n2⟩,e1,e2,f1,f2,f3,zl⟩:=J
 refine⟨X,cs,tks,M,gs,ld,er,vr,kl,zs,ad,EV,as,VS,12 * i+1,rfl,T4,I,el,Ld.iff hd,by omega,G,by omega,f3,hB,λEV' VS' H' I' el' G' g1 g2 g3 F sb=>q H' ?_⟩
 have k:∀ x (xs:List V),H x=some (.lst xs)->x∉as->H' x=some (.lst xs):=λx xs e h=>sb _ _ e λz=>z.elim (λ⟨z,hz⟩=>by rw[(G.ev z x hz).1]at e;cases e) h
 exact⟨⟨X,cs,tks,M,gs,kl,ad,EV',as,VS',rfl,rfl,rfl,rfl,rfl,I',l,pe _ _ g2 g1 F,el',Ld.iff hd,G'.le (by omega),n1,n2⟩,k _ _ e1 n1,k _ _ e2 n2,f1,f2,f3,zl⟩
theorem rT{D:Ends}{s gp:Addr}{y1 y7 y13:Option V}{kind g:Nat}{y z:Str}(T4:C0 K a)(J:W46 a H S n r c w nl rr ld er vr zs ms i (12 * i+1) (fF kind y z g))(hl:i<=61)(hy:y∈zs)(hz:z∈zs)(hD:∀ H',S46 a H' S n r c w nl rr ld er vr zs ms (i+1)->D.nx [some (.ref s),y1,some (.ref S.lp),some (.ref gp),some (.ref S.st),some (.ref nl),some (.ref er),y7,some (.ref ld),some (.ref vr),some (.int (kind:Nat)),some (.str y),some (.str z),y13] H') :
  AK (XS K a (λ_=>E) λ_=>E) (XT K a (λ_=>E) λ_=>E) D [some (.ref s),y1,some (.ref S.lp),some (.ref gp),some (.ref S.st),some (.ref nl),some (.ref er),y7,some (.ref ld),some (.ref vr),some (.int (kind:Nat)),some (.str y),some (.str z),y13] H:=by
 obtain⟨as,ev,hle,A,B,hf⟩:=J.vers
 push_cast[↓Wm]
 refine⟨_,.inl ⟨_,SqL.of ev,rfl⟩,J.follow hy hz (λh=> ?_) λH' J'=> ?_⟩
 ·have:=hf.2.1 h
  rw[List.length_map]
  omega
 ·push_cast[↓Wp]
  exact J'.see T4 hl λH'' J''=>hD H'' J''
theorem S46.deed{kind:Nat}{y z:Str}{x:Int}(T4:C0 K a)(TDk:TD K a)(J:S46 a H S n r c w nl rr ld er vr zs ms i)(hl:i<=61)(hk:kind<8)(hy:BL y=true)(hz:BL z=true)(q0:∀ v H',v≠Str.ofString ""->S46 a H' S n r c w nl rr ld er vr zs ms i->P (.str v) H')(q:∀ H',W46 a H' S n r c w nl rr ld er vr zs ms i (12 * i) (fD kind y z)->P (.str (Str.ofString "")) H'):NR K a [.ref S.st,.int (kind:Nat),.str y,.str z,.int x] H P E:=by
 have J':=J
 obtain⟨⟨X,cs,tks,M,gs,kl,ad,EV,as,VS,rfl,rfl,rfl,rfl,rfl,I,l,Ve,el,Ld,G,n1,n2⟩,e1,e2,f1,f2,f3,zl⟩:=J
 refine⟨X,cs,tks,M,gs,Vof VS,_,VS.length,kind,y,z,x,rfl,T4,TDk,I,Ve,by omega,hk,hy,hz,λv H' hv s=>q0 v H' hv (J'.same s),λcs' tks' M' gs' H' I' l' sb p d=>q H' ?_⟩
 have k:∀ x o,H x=some o->¬ E6 X.S ld x->H' x=some o:=λx o e h=>sb _ _ e λz=>h (z.elim .inl λz=>.inr (.inl z))
 refine⟨⟨X,cs',tks',M',gs',_,kl,ad,EV,as,VS,rfl,rfl,rfl,rfl,rfl,I',by omega,p,sb _ _ el (λz=>z.elim f3.1 f3.2.1),Ld,⟨λx g hzz=> ?_,d⟩,G.keep k,n1,n2⟩,k _ _ e1 f1.1,k _ _ e2 f2.1,f1,f2,f3,zl⟩
 obtain⟨k,rc,hk,e0,hg⟩:=hzz
 obtain⟨o,hi⟩:=I.hi
 obtain⟨m,ps,e3⟩:=hi.now.nl k x rc hk e0
 obtain⟨g',hg',W,ts,hW,_⟩:=Ve.now e3
 have:g'=g:=Option.some.inj (hg'.symm.trans hg)
 rw[<-this]
 exact(List.getElem?_eq_some_iff.mp hW).1
end
structure Ev0(H6 H':Hp)(er:Addr)(zs:List Str)(i:Nat):Prop where
 fr:H6 er=none
 e:∃ (kvs:List (AH × V)) (ad:Str->Option Addr),H' er=some (.dK kvs)/\kvs.length<=i/\(∀ z,BJ kvs (.inr z)=(ad z).map V.ref)/\(∀ z x,ad z=some x->H' x=some (.dK [])/\x≠er/\H6 x=none)/\(∀ z z' x,ad z=some x->ad z'=some x->z=z')/\∀ z∈zs.take i,∃ x,ad z=some x
theorem Ev0.start{H6 H':Hp}{er:Addr}{zs:List Str}(h:H6 er=none)(e:H' er=some (.dK [])):Ev0 H6 H' er zs 0:=⟨h,[],λ_=>none,e,Nat.le_refl _,λ_=>rfl,λ_ _ h=>(by cases h),λ_ _ _ h=>(by cases h),λz h=>(by simp at h)⟩
theorem Ev0.dict{H6 H':Hp}{er:Addr}{zs:List Str}{i:Nat}(J:Ev0 H6 H' er zs i):∃ kvs:List (AH × V),H' er=some (.dK kvs)/\kvs.length<=i:=by
 obtain⟨kvs,ad,e1,e2,_⟩:=J.e
 exact⟨kvs,e1,e2⟩
def X8(ad:Str->Option Addr)(z:Str)(x:Addr):Str->Option Addr:=λy=>if y=z then some x else ad y
theorem Ev0.put{H6 H':Hp}{er x:Addr}{zs:List Str}{z:Str}{i:Nat}{kvs:List (AH × V)}(J:Ev0 H6 H' er zs i)(sH:Same H6 H')(ez:zs[i]? =some z)(hx:H' x=none)(ee:H' er=some (.dK kvs)):Ev0 H6 (upd (upd H' x (.dK [])) er (.dK (B7 kvs (.inr z) (.ref x)))) er zs (i+1):=by
 obtain⟨h0,kvs',ad,e1,e2,e3,e4,e5,e6⟩:=J
 rw[ee]at e1
 cases e1
 have nxe:x≠er:=λc=>by rw[c,ee]at hx;cases hx
 have nx:∀ y w,ad y=some w->w≠x:=λy w h c=>by rw[<-c,(e4 y w h).1]at hx;cases hx
 have pos:∀ {y},y=z->X8 ad z x y=some x:=λh=>if_pos h
 have neg:∀ {y},y≠z->X8 ad z x y=ad y:=λh=>if_neg h
 refine⟨h0,_,X8 ad z x,AE,Nat.le_trans (KY ..) (Nat.succ_le_succ e2),λy=> ?_,λy w h=> ?_,λy y' w h h'=> ?_,λy hy=> ?_⟩
 ·rw[KW]
  by_cases c:y=z
  ·rw[if_pos (by rw[c]),pos c];rfl
  ·rw[if_neg λh=>c (Sum.inr.inj h),neg c];exact e3 y
 ·by_cases c:y=z
  ·rw[pos c]at h
   cases h
   exact⟨by rw[AF nxe,AE],nxe,sH.free hx⟩
  ·rw[neg c]at h
   obtain⟨a1,a2,a3⟩:=e4 y w h
   exact⟨by rw[AF a2,AF (nx y w h)];exact a1,a2,a3⟩
 ·by_cases c:y=z<;>by_cases c':y'=z
  ·rw[c,c']
  ·rw[pos c]at h
   rw[neg c']at h'
   cases h
   exact absurd rfl (nx y' _ h')
  ·rw[neg c]at h
   rw[pos c']at h'
   cases h'
   exact absurd rfl (nx y _ h)
  ·rw[neg c]at h
   rw[neg c']at h'
   exact e5 y y' w h h'
 ·rw[List.take_add_one,ez]at hy
  rcases List.mem_append.mp hy with hy | hy
  ·obtain⟨w,hw⟩:=e6 y hy
   by_cases c:y=z
   ·exact⟨x,pos c⟩
   ·exact⟨w,by rw[neg c];exact hw⟩
  ·exact⟨x,pos (by simpa using hy)⟩
theorem Ev0.done{H6 H' H9:Hp}{er vr ld:Addr}{zs:List Str}{B:Addr->Prop}(J:Ev0 H6 H' er zs (zs.map V.str).length)(s:Same H' H9)(e9:H9 vr=some (.lst []))(nB:∀ y,H6 y=none->y≠ld->¬ B y)(hld:H' ld=none)(vB:¬ B vr):∃ ad,Lg B H9 er vr zs ad (λ_=>[]) [] [] 0:=by
 obtain⟨h0,kvs,ad,e1,e2,e3,e4,e5,e6⟩:=J
 rw[List.length_map,List.take_length]at e6
 refine⟨ad,⟨kvs,s _ _ e1,e3⟩,λz x h=> ?_,e5,e6,λ_ _=>rfl,λ_=>Nat.le_refl _,λ_ _ h=>(by cases h),nB er h0 (λc=>by rw[<-c,e1]at hld;cases hld),e9,List.nodup_nil,by simp,rfl,λi x W h=>(by simp at h),vB,λW h=>(by cases h),Nat.le_refl _,λW h=>(by cases h)⟩
 obtain⟨a1,a2,a3⟩:=e4 z x h
 exact⟨s _ _ a1,a2,nB x a3 λc=>by rw[<-c,a1]at hld;cases hld⟩
theorem zb1(h:gH K a vs H Q E):XU K a (λ_=>E) (A9 Q) (start ["script","cell","layout","plank","store","names","ever","name","led","versions","kind","one","other","block"] vs) H:=by
 obtain⟨s,ns,rfl,T4,TDk,hs,hl,q⟩:=h
 have T4':=T4
 obtain⟨T,TP,TL,TS⟩:=T4
 push_cast[XU,↓Vh,↓Fz]
 refine⟨ns,0,rfl,hs,by omega,?_⟩
 generalize K9 ns 0=x
 obtain⟨n,en,hn⟩:∃ n:Nat,1+x % 3=n/\1<=n/\n<=3:=⟨(1+x % 3).toNat,by omega,by omega⟩
 obtain⟨r,er,hr⟩:∃ n:Nat,1+x / 3 % 3=n/\1<=n/\n<=3:=⟨(1+x / 3 % 3).toNat,by omega,by omega⟩
 obtain⟨c,ec,hc⟩:∃ n:Nat,1+x / 9 % 3=n/\1<=n/\n<=3:=⟨(1+x / 9 % 3).toNat,by omega,by omega⟩
 obtain⟨w,ew,hw⟩:∃ n:Nat,1+x / 27 % 4=n/\1<=n/\n<=4:=⟨(1+x / 27 % 4).toNat,by omega,by omega⟩
 push_cast[↓Vj,en,er,ec,ew]
 refine⟨⟨by decide,by decide⟩,⟨by decide,by decide⟩,⟨by decide,by decide⟩,λlp dl hlp hdl ndl=> ?_⟩
 have s0:Same H (upd (upd H dl (.own lp)) lp (.ins (a "Layout") dl [])):=(AO hdl).trans (AO (by rw[AF ndl.symm];exact hlp))
 refine⟨lp,dl,n,r,c,w,rfl,TL,AE,by omega,by omega,by omega,hw.1,by omega,λH2 L2 sb2=>⟨rfl,?_⟩⟩
 have s2:Same H H2:=λy o e=>sb2 _ _ (s0 _ _ e) (BM e hlp)
 clear s0 sb2 hlp hdl ndl
 replace hs:=s2.seq hs
 clear s2
 obtain⟨dl2,el⟩:=L2.ob
 push_cast[↓Vk]
 refine⟨_,_,el,CB (by decide +kernel),lp,n,r,c,w,rfl,TL,TP,L2,λgp cl H3 hgp A8 P3 s3=> ?_⟩
 push_cast[↓Vl]
 intro st dst hst hdst ndst
 have s4:Same H3 (upd (upd H3 dst (.own st)) st (.ins (a "Store") dst [])):=(AO hdst).trans (AO (by rw[AF ndst.symm];exact hst))
 have hN:∀ r'∈List.replicate (n+r+c+r+c) (List.replicate w V.non),∀ v∈r',v=.non:=λr' hr' v hv=>by
  rw[List.eq_of_mem_replicate hr']at hv
  exact List.eq_of_mem_replicate hv
 have hB:∀ {kind k:Nat} {v:V},((List.replicate (n+r+c+r+c) (List.replicate w V.non))[A5 n r c w kind k]?).bind (λq=>q[k % w]?)=some v->v=.non:=λhv=>by
  obtain⟨r',er',ev⟩:=Option.bind_eq_some_iff.mp hv
  exact hN r' (List.mem_of_getElem? er') _ (List.mem_of_getElem? ev)
 refine⟨st,dst,lp,gp,cl,n,r,c,w,_,0,λ_ _=>.no,rfl,T4',AE,(L2.same s3).same s4,P3.same s4,⟨by omega,by omega,by omega,by omega,by simp⟩,(λr' hr' v hv=>by rw[hN r' hr' v hv];trivial),λkind k v h1 hk hv=> ?_,λ_ _ _ _=>trivial,λS H5 e1 e2 e3 e4 off htk I OC=>⟨rfl,?_⟩⟩
 ·unfold EF at hv
  have:D6 [] (A5 n r c w kind k:Nat) (k % w:Nat)=none:=rfl
  rw[this]at hv
  exact hB hv
 subst e1 e2
 have s35:Same H3 H5:=λy o e=>OC _ _ (s4 _ _ e) (BM e hst)
 have s25:Same H2 H5:=s3.trans s35
 have fw:c * w<=12:=Nat.le_trans (Nat.mul_le_mul hc.2 hw.2) (by decide)
 obtain⟨X,eX⟩:∃ X:SX,X=⟨S,n,r,c,w,List.replicate (n+r+c+r+c) (List.replicate w V.non),0,λ_=>false⟩:=⟨_,rfl⟩
 have I5:C45 a H5 X [] [] ⟨λ_ _=>.no,[]⟩:=by
  subst eX
  refine⟨I,⟨λ_=>none,λC _=>⟨λ_ _ _ _ e=>(by cases e),λ_ _ _ e=>(by cases e),λ_ _ _ e=>(by cases e),λ_ _ _ e=>(by cases e),λ_ _ _ e=>(by cases e),λ_ _ _ _ _ _ _ e=>(by cases e),λ_ _ _ _ _ _ _ e=>(by cases e)⟩,λ_ _ _ _ e=>(by cases e),λ_ _=>rfl,λ_ _ _ _ _ _ _=>Iff.rfl⟩,rfl,λk c e=>(by simp at e),λkind k v h1 hk hv=>hB hv,fw,λx hx=>(by cases hx)⟩
 push_cast[↓Vm]
 refine⟨⟨by decide,by decide⟩,_,rfl,λnl zs H6 hnl s6 enl hzl hzn=> ?_⟩
 obtain⟨ms,ems,hms⟩:=zb0 ns
 have egp:∃ dp fs,H5 gp=some (.ins (a "Plank") dp fs):=by
  obtain⟨dp,e⟩:=I.bk.pk.ob
  exact⟨_,_,e3 ▸ e⟩
 obtain⟨dgp,fgp,egp⟩:=egp
 have offB:∀ {x:Addr},H5 x=none->¬ S.A.F x/\x≠S.tk/\x≠S.A.gp:=λhx=>⟨I.bk.off hx,λz=>(by rw[z,I.tk]at hx;cases hx),λz=>(by rw[z,e3,egp]at hx;cases hx)⟩
 push_cast[↓Vp]
 intro er her
 have s7:=AO (o:=.dK []) her
 have e7:upd H6 er (.dK []) er=some (.dK []):=AE
 revert s7 e7
 generalize upd H6 er (.dK [])=H7
 intro s7 e7
 push_cast[↓Vv]
 refine .inl ⟨⟨_,SqL.of (s7 _ _ enl)⟩,K2 (xs:=zs.map V.str) (λi σ H'=>(Same H6 H'/\Ev0 H6 H' er zs i)/\∃ y7,σ=[some (.ref s),some (.int x),some (.ref S.lp),some (.ref gp),some (.ref S.st),some (.ref nl),some (.ref er),y7,none,none,none,none,none,none]) ⟨⟨s7,Ev0.start her e7⟩,_,rfl⟩ (λi σ H' _ ⟨⟨sH,_⟩,_⟩=>SqL.of (sH _ _ enl)) (λi v σ H' ev ⟨⟨sH,J0⟩,y7,es⟩=> ?_) (λσ H' ⟨⟨sH,J0⟩,y7,es⟩=> ?_)⟩
 ·subst es
  rw[List.getElem?_map,Option.map_eq_some_iff]at ev
  obtain⟨z,ez,rfl⟩:=ev
  have hi:=(List.getElem?_eq_some_iff.mp ez).1
  push_cast[↓Vq]
  intro xd hxd
  obtain⟨kvs,ee,hle⟩:=J0.dict
  have sx:=AO (o:=.dK []) hxd
  refine⟨_,pS (sx _ _ ee) (by omega),λb o e=> ?_,J0.put sH ez hxd ee⟩
  rw[AF (BM e J0.fr)]
  exact sx _ _ (sH _ _ e)
 subst es
 push_cast[↓Vw,↓Vx]
 intro ld hld
 have s8:=AO (o:=.dK []) hld
 have e8:upd H' ld (.dK []) ld=some (.dK []):=AE
 revert s8 e8
 generalize upd H' ld (.dK [])=H8
 intro s8 e8
 refine⟨by decide,λvr hvr=> ?_⟩
 have s9:=AO (o:=.lst []) hvr
 have e9:upd H8 vr (.lst []) vr=some (.lst []):=AE
 revert s9 e9
 generalize upd H8 vr (.lst [])=H9
 intro s9 e9
 have RX:=(sH.trans s8).trans s9
 have h5:∀ {y:Addr},H6 y=none->H5 y=none:=λh=>s6.free h
 have J9:∀ (rr:Addr) (H10:Hp),H9 rr=none->Same H9 H10->H10 rr=some (.lst (ms.map V.int))->S46 a H10 S n r c w nl rr ld er vr zs ms 0:=λrr H10 hrr s10 err=>by
  have hv6:=sH.free (s8.free hvr)
  have hl6:=sH.free hld
  have hr6:=RX.free hrr
  have nB:∀ {y:Addr},H5 y=none->y≠ld->¬ E6 S ld y:=λh n z=>by
   obtain⟨o1,o2,o3⟩:=offB h
   rcases z with z | z | z | z
   ·exact o1 z
   ·exact o2 z
   ·exact o3 z
   ·exact n z
  obtain⟨ad,G⟩:=J0.done (B:=E6 S ld) (s8.trans s9) e9 (λy h6 n=>nB (h5 h6) n) hld (nB (h5 hv6) λz=>by rw[z,e8]at hvr;cases hvr)
  refine⟨⟨X,[],[],⟨λ_ _=>.no,[]⟩,[],[],ad,λ_=>[],[],[],by rw[eX],by rw[eX],by rw[eX],by rw[eX],by rw[eX],I5.same ((s6.trans RX).trans s10),Nat.zero_le _,⟨rfl,λ_ _ _ _ _ e=>(by cases e),λ_ _ _ _ _ e=>(by cases e),λ_ _ _ _ _ _ _ e=>(by cases e)⟩,s10 _ _ (s9 _ _ e8),⟨λz i=>⟨λ⟨_,_,_,e,_⟩=>(by cases e),λe=>(by cases e)⟩,λ_ h=>(by cases h),by simp⟩,G.same s10,by simp,by simp⟩,s10 _ _ (RX _ _ enl),err,⟨nB hnl λz=> ?_,λz=> ?_⟩,⟨nB (h5 hr6) λz=> ?_,λz=> ?_⟩,offB (h5 hl6),hzl⟩
  ·rw[<-z,sH _ _ enl]at hld;cases hld
  ·rw[<-z,s8 _ _ (sH _ _ enl)]at hvr;cases hvr
  ·rw[z,s9 _ _ e8]at hrr;cases hrr
  ·rw[z,e9]at hrr;cases hrr
 push_cast[↓Wv]
 refine Ez (RX.seq (s6.seq (s25.seq hs))) λrr hrr=> ?_
 rw[ems]
 have s10:=AO (o:=.lst (ms.map V.int)) hrr
 have J10:=J9 rr _ hrr s10 AE
 have e10:upd H9 rr (.lst (ms.map V.int)) rr=some (.lst (ms.map V.int)):=AE
 revert J10 e10
 generalize upd H9 rr (.lst (ms.map V.int))=H10
 intro J10 e10
 refine⟨rr,rfl,.inl ⟨⟨_,SqL.of e10⟩,K2 (xs:=ms.map V.int) (λi σ H'=>S46 a H' S n r c w nl rr ld er vr zs ms i/\∃ y1 y7 y10 y11 y12 y13,σ=[some (.ref s),y1,some (.ref S.lp),some (.ref gp),some (.ref S.st),some (.ref nl),some (.ref er),y7,some (.ref ld),some (.ref vr),y10,y11,y12,y13]) ⟨J10,_,_,_,_,_,_,rfl⟩ (λi σ H' _ ⟨J,_⟩=>SqL.of J.err) (λi v σ H' ev hzz=> ?_) (λσ H' hzz=> ?_)⟩⟩
 ·obtain⟨J,y1,y7,y10,y11,y12,y13,es⟩:=hzz
  subst es
  rw[List.getElem?_map,Option.map_eq_some_iff]at ev
  obtain⟨y,ey,rfl⟩:=ev
  have hi:=(List.getElem?_eq_some_iff.mp ey).1
  obtain⟨⟨dxs,ho⟩,L'⟩:=J.obs
  obtain⟨dl',el'⟩:=L'.ob
  push_cast[↓Wd]
  split
  ·push_cast[↓Vy]
   obtain⟨b,eb,hb⟩:∃ b:Nat,y / 3 % ((n+r+c+r+c:Nat):Int)=b/\b<n+r+c+r+c:=⟨(y / 3 % ((n+r+c+r+c:Nat):Int)).toNat,by
    have:=Int.emod_nonneg (y / 3) (show((n+r+c+r+c:Nat):Int)≠0 by omega)
    omega,by
    have:=Int.emod_lt_of_pos (y / 3) (show 0<((n+r+c+r+c:Nat):Int) by omega)
    have:=Int.emod_nonneg (y / 3) (show((n+r+c+r+c:Nat):Int)≠0 by omega)
    omega⟩
   refine⟨_,_,ho,B8 (by decide +kernel),⟨by decide,by decide⟩,_,_,el',CB (by decide +kernel),S.lp,n,r,c,w,rfl,TL,L',?_⟩
   simp only[dO]
   refine⟨by omega,?_⟩
   rw[show((n:Int)+r+c+r+c)=((n+r+c+r+c:Nat):Int) by omega,eb]
   refine J.go T4' hb λt H11 J11=> ?_
   push_cast[↓Wb]
   rw[<-e3]
   refine J11.right T4' (by omega) hw.1 λH12 J12=> ?_
   push_cast[↓Wc]
   exact J12.up
  ·push_cast[↓Wg,↓Wh,↓Wj]
   have nm:∀ {i:Int} {H9:Hp} {QV:VK},H9 nl=some (.lst (zs.map V.str))->(∀ z∈zs,BL z=true->QV (.str z) H9)->CP K (.ref nl) (.int (i % 5)) H9 QV:=λ{i H9 QV} e9 qv=>by
    have h5:(i % 5).toNat<zs.length:=by omega
    refine FF (n:=(i % 5).toNat) (v:=.str (zs[(i % 5).toNat]'h5)) (SqL.of e9) (by omega) ?_ (qv _ (List.getElem_mem h5) (hzn _ (List.getElem_mem h5)))
    rw[List.getElem?_map,List.getElem?_eq_getElem h5]
    rfl
   refine⟨⟨by decide,by decide⟩,⟨by decide,by decide⟩,nm J.enl λz1 hm1 hz1=>⟨⟨by decide,by decide⟩,nm J.enl λz2 hm2 hz2=> ?_⟩⟩
   obtain⟨kk,ek,hk⟩:∃ b:Nat,y / 3 % 8=b/\b<8:=⟨(y / 3 % 8).toNat,by omega,by omega⟩
   rw[ek]
   push_cast[↓Wq]
   refine⟨⟨by decide,by decide⟩,J.deed T4' TDk (by omega) hk hz1 hz2 (λv H11 hv J11=> ?_) λH11 W=> ?_⟩
   ·push_cast[]
    exact E7 hv J11.up
   ·push_cast[]
    push_cast[↓Wl]
    by_cases hk2:kk<2
    ·refine HS (by omega) ?_
     push_cast[↓Wk]
     obtain⟨as0,ev0,hle0,_⟩:=W.vers
     refine⟨.inl ⟨rfl,_,SqL.of ev0⟩,by decide,λx1 hx1=> ?_⟩
     obtain⟨as,g,ev1,hle,W1,hg,_⟩:=W.push hx1
     refine⟨_,_,_,rfl,rfl,(AO (o:=.lst []) hx1) _ _ ev1,CM _ (by rw[List.length_map];omega),?_⟩
     exact rT T4' W1 (by omega) hm1 hm2 λH' J'=>⟨J',_,_,_,_,_,_,rfl⟩
    ·refine E7 (by omega) ?_
     obtain⟨g,W1⟩:=W.skip hk2
     exact rT T4' W1 (by omega) hm1 hm2 λH' J'=>⟨J',_,_,_,_,_,_,rfl⟩
 ·obtain⟨J,y1,y7,y10,y11,y12,y13,es⟩:=hzz
  subst es
  obtain⟨⟨dxs,ho⟩,L'⟩:=J.obs
  obtain⟨dl',el'⟩:=L'.ob
  push_cast[]
  push_cast[↓Wz]
  refine⟨_,_,el',CB (by decide +kernel),S.lp,n,r,c,w,rfl,TL,L',(n+r+c+r+c:Nat),by simp,by omega,by omega,?_⟩
  rw[Int.toNat_natCast]
  refine NI (λj σ H'=>S46 a H' S n r c w nl rr ld er vr zs ms (ms.map V.int).length/\∃ y13,σ=[some (.ref s),y1,some (.ref S.lp),some (.ref gp),some (.ref S.st),some (.ref nl),some (.ref er),y7,some (.ref ld),some (.ref vr),y10,y11,y12,y13]) ⟨J,_,rfl⟩ (λj σ H8 hj hzz=> ?_) (λσ H8 hzz=> ?_)
  ·obtain⟨J8,y13,es⟩:=hzz
   subst es
   obtain⟨⟨dxs,ho⟩,L8⟩:=J8.obs
   push_cast[↓Ww,Int.zero_add]
   refine⟨_,_,ho,B8 (by decide +kernel),J8.go T4' hj λt H11 J11=> ?_⟩
   push_cast[↓Wy]
   rw[<-e3]
   refine J11.right T4' (by rw[List.length_map];omega) hw.1 λH12 J12=> ?_
   push_cast[]
   exact J12
  ·obtain⟨J8,y13,es⟩:=hzz
   subst es
   push_cast[↓Xb]
   exact q _
end
end L2
namespace L2
def BG(i:Nat):Stmt:=PySem.Challenge.pw_holdback_k46_whole_texts_of_some_moment.main.body.getD i (.Pass ⟨0,0,0,0⟩)
structure Txt(K:W.Frag)(mg:Str->Option Value)(a:Ad):Prop where
 zfu:Cls K (a "Change")
 DS:Cls K (a "Hold")
 B9:Cls K (a "Layout")
 IP:Cls K (a "Plank")
 B0:Cls K (a "Store")
 zfv:GV mg "MOST_LETTERS" (.int 8)
 zfw:GV mg "MOST_PIECE_SIGNS" (.int 40)
 aT:mg "NoBlock"=some (.ref (a "NoBlock"))
 zf7:GV mg "NoBlock" (.ref (a "NoBlock"))
 aW:Exc K (a "NoBlock")
 zfy:mg "NoChange"=some (.ref (a "NoChange"))
 zf8:GV mg "NoChange" (.ref (a "NoChange"))
 zfz:Exc K (a "NoChange")
 aU:mg "NoName"=some (.ref (a "NoName"))
 zf9:GV mg "NoName" (.ref (a "NoName"))
 sT:Exc K (a "NoName")
 aV:mg "NoPiece"=some (.ref (a "NoPiece"))
 zga:GV mg "NoPiece" (.ref (a "NoPiece"))
 sU:Exc K (a "NoPiece")
 sR:mg "NoRoom"=some (.ref (a "NoRoom"))
 zgb:GV mg "NoRoom" (.ref (a "NoRoom"))
 zf0:Exc K (a "NoRoom")
 zfx:GV mg "PERCENT" (.int 37)
 sS:mg "Twice"=some (.ref (a "Twice"))
 zgc:GV mg "Twice" (.ref (a "Twice"))
 zf1:Exc K (a "Twice")
 aQ:mg "all"=none
 zfs:mg "dict"=none
 sO:mg "enumerate"=none
 HA:mg "len"=none
 aR:mg "list"=none
 zft:mg "ord"=none
 HB:mg "range"=none
 sP:mg "set"=none
 sQ:mg "sorted"=none
 aS:mg "tuple"=none
section
variable(P:Program)(w:World){K:W.Frag}{mg:Str->Option Value}(base:Heap){a:Ad}{f:Addr}{fd:FuncData}
seal wpAny
abbrev X9:Stmt:=BQ (BG 10) 0
theorem zb2:FnScope ["self","place","value","needs"] ["self","place","value","needs"] (A1 X9):=.go
theorem zb3(T:Txt K mg a) (F:Fun K "__init__" "Change.__init__" X9 f fd) :
  FP P w K mg base 1 f fd ["self","place","value","needs"] (QF K a) :=
 F.okL (U2 K a) zb2 Xp λ_ _ _ _ _ E hr hx=>(AM (EN (AB 0) (AB 1) rfl) (AM (EN (AB 0) (AB 2) rfl) (AL (EN (AB 0) (AB 3) rfl))))
abbrev YA:Stmt:=BQ (BG 11) 10
theorem rV:FnScope ["self","numbers","number"] ["self","numbers"] (A1 YA):=.go
theorem zb4(T:Txt K mg a) (F:Fun K "ask_for_changes" "Book.ask_for_changes" YA f fd) :
  FP P w K mg base 1 f fd ["self","numbers"] (QJ K a) :=
 F.okL (U3 K a) rV Xy λ_ _ _ _ _ E hr hx=>(AL (FN hx.po rfl (GW (AB 1)) (CT 2 rV.nd) (AL (CC (HZ (M7 F9 IE AQ (AB 2) (EX GU rfl T.HA (by rfl) (AI (AZ (AB 0) rfl))))) (AL (IC hx T.zfz rfl T.zfy (AI DJ))) CZ))))
abbrev YB:Stmt:=BG 12
theorem zb5:FnScope ["needs","ahead"] ["needs","ahead"] (A1 YB):=.go
theorem zb6(T:Txt K mg a) (F:Fun K "needs_with" "needs_with" YB f fd) :
  FP P w K mg base 1 f fd ["needs","ahead"] (QH K a) :=
 F.okL (RB K a) zb5 Xv λ_ _ _ _ _ E hr hx=>(AM (CC (DC OP (AB 1) FL (DL _)) (AL (BH (JY TW rfl T.aS (by rfl) (AI (eK rfl rfl T.sQ rfl T.sP (AB 0)))))) CZ) (AL (BH (JY TW rfl T.aS (by rfl) (AI (eK rfl rfl T.sQ rfl T.sP (AV CA (JY TV rfl T.aR (by rfl) (AI (AB 0))) (CL (AI (AB 1))))))))))
abbrev YC:Stmt:=BQ (BG 14) 2
theorem rW:FnScope ["self","number","gone","need"] ["self","number","gone"] (A1 YC):=.go
theorem zb7(T:Txt K mg a) (F:Fun K "lack_of" "Hold.lack_of" YC f fd) :
  FP P w K mg base 1 f fd ["self","number","gone"] (QK K a) :=
 F.okL (U8 K a) rW Yd λ_ _ _ _ _ E hr hx=>(AM (FN hx.po rfl (GW (AZ (CD CF (AZ (AB 0) rfl) (AB 1) (λ_ _=>rfl)) rfl)) (CT 3 rW.nd) (AL (CC (PW.pt (R5 (LH (OY (DN hr) (AB 3) (AZ (AB 0) rfl)) (by with_unfolding_all rfl)) (R4 (LH (OY (DN hr) (AB 3) (AB 2)) (by with_unfolding_all rfl))))) (AL (BH (AB 3))) CZ))) (AL (BH FL)))
abbrev YD:Stmt:=BQ (BG 14) 3
theorem YE:FnScope ["self","values","block","laid","number"] ["self","values","block"] (A1 YD):=.go
theorem zb8(T:Txt K mg a) (F:Fun K "laid_over" "Hold.laid_over" YD f fd) :
  FP P w K mg base 1 f fd ["self","values","block"] (QM K a) :=
 F.okL (VE K a) YE Yj λ_ _ _ _ _ E hr hx=>(AM (BB 3 YE.nd (JY TV rfl T.aR (by rfl) (AI (AB 1)))) (AM (FN hx.po rfl (GW (CD CF (AZ (AB 0) rfl) (AB 2) (λ_ _=>rfl))) (CT 4 YE.nd) (AL (CC (LH (cU (DN hr) (AB 4) (AZ (AB 0) rfl)) (by with_unfolding_all rfl)) (AL (bD (AZ (CD CF (AZ (AB 0) rfl) (AB 4) (λ_ _=>rfl)) rfl) (bC (AB 3) (CD CF (AZ (CD CF (AZ (AB 0) rfl) (AB 4) (λ_ _=>rfl)) rfl) AQ (λ_ _=>rfl)) dM))) CZ))) (AL (BH (AB 3)))))
abbrev YF:Stmt:=BG 17
theorem zb9:FnScope ["sign"] ["sign"] (A1 YF):=.go
theorem zca(T:Txt K mg a) (F:Fun K "is_sign" "is_sign" YF f fd) :
  FP P w K mg base 1 f fd ["sign"] (QT K a) :=
 F.okL (VF K a) zb9 zab λ_ _ _ _ _ E hr hx=>(AL (BH (R7 (OQ F9 F9 DJ (AB 0) DJ) (OG (bM (dH hr.units) (EX Aj rfl T.zft (by rfl) (AI (AB 0))) (TJ T.zfx rfl) (DL _))))))
abbrev YG:Stmt:=BG 21
theorem rX:FnScope ["thing"] ["thing"] (A1 YG):=.go
theorem rY:(["sign"]:List Str).Nodup:=by decide +kernel
theorem zcb(T:Txt K mg a) (F:Fun K "is_name" "is_name" YG f fd) :
  FP P w K mg base 1 f fd ["thing"] (QU K a) :=
 F.okL (VG K a) rX zac λ_ _ _ _ _ E hr hx=>(AL (BH (R7 (OQ F9 F9 AQ (EX GU rfl T.HA (by rfl) (AI (AB 0))) (TJ T.zfv rfl)) (OG (EX (T2 rfl) rfl T.aQ (by rfl) (AI (JD (tn:=["sign"]) (cn:=[]) (cap:=[]) rX.cp rfl (dY (AB 0)) (λ_ _ _ _ _ _=>(CT 0 rY)) (λ_ _ _ _ _ _=>F7) (λ_ _ _ _ _ _=>(OQ F9 F9 DJ (AB 0) DJ)))))))))
abbrev YH:Stmt:=BQ (BG 30) 0
theorem rZ:FnScope ["self","blocks","cells"] ["self","blocks","cells"] (A1 YH):=.go
theorem zcc:(["block","cells"]:List Str).Nodup:=by decide +kernel
theorem zcd(T:Txt K mg a) (F:Fun K "__init__" "Plank.__init__" YH f fd) :
  FP P w K mg base 1 f fd ["self","blocks","cells"] (PU K a) :=
 F.okL (VH K a) rZ Xd λ_ _ _ _ _ E hr hx=>(AM (EN (AB 0) (JD (tn:=["block"]) (cn:=["cells"]) (cap:=[2]) rZ.cp rfl (GK rfl T.HB (AI (AB 1))) (λ_ _ _ _ _ _=>(CT 0 zcc)) (λ_ _ _ _ _ _=>F7) (λ_ _ _ _ _ _=>(AV KA (E9 (AI FL)) (AB 1)))) rfl) (AM (EN (AB 0) (AB 2) rfl) (AL (EN (AB 0) AQ rfl))))
abbrev YI:Stmt:=BQ (BG 30) 1
theorem zce:FnScope ["self"] ["self"] (A1 YI):=.go
theorem zcf(T:Txt K mg a) (F:Fun K "blocks" "Plank.blocks" YI f fd) :
  FP P w K mg base 1 f fd ["self"] (L0 K a) :=
 F.okL (VI K a) zce Xg λ_ _ _ _ _ E hr hx=>(AL (BH (EX GU rfl T.HA (by rfl) (AI (AZ (AB 0) rfl)))))
abbrev YJ:Stmt:=BQ (BG 30) 2
theorem zcg:FnScope ["self"] ["self"] (A1 YJ):=.go
theorem zch(T:Txt K mg a) (F:Fun K "cells" "Plank.cells" YJ f fd) :
  FP P w K mg base 1 f fd ["self"] (PY K a) :=
 F.okL (VJ K a) zcg Xh λ_ _ _ _ _ E hr hx=>(AL (BH (AZ (AB 0) rfl)))
abbrev YK:Stmt:=BQ (BG 30) 6
theorem zci:FnScope ["self","block"] ["self","block"] (A1 YK):=.go
theorem zcj(T:Txt K mg a) (F:Fun K "ask_for_block" "Plank.ask_for_block" YK f fd) :
  FP P w K mg base 1 f fd ["self","block"] (KD K a) :=
 F.okL (VL K a) zci Xj λ_ _ _ _ _ E hr hx=>(AL (CC (HZ (M7 F9 IE AQ (AB 1) (EX GU rfl T.HA (by rfl) (AI (AZ (AB 0) rfl))))) (AL (IC hx T.aW rfl T.aT (AI DJ))) CZ))
abbrev YL:Stmt:=BQ (BG 32) 0
theorem zck:FnScope ["self","names","records","pieces","cells"] ["self","names","records","pieces","cells"] (A1 YL):=.go
theorem zcl(T:Txt K mg a) (F:Fun K "__init__" "Layout.__init__" YL f fd) :
  FP P w K mg base 1 f fd ["self","names","records","pieces","cells"] (QC K a) :=
 F.okL (VM K a) zck Yl λ_ _ _ _ _ E hr hx=>(AM (EN (AB 0) (AB 1) rfl) (AM (EN (AB 0) (AB 2) rfl) (AM (EN (AB 0) (AB 3) rfl) (AL (EN (AB 0) (AB 4) rfl)))))
abbrev YM:Stmt:=BQ (BG 32) 6
theorem zcm:FnScope ["self"] ["self"] (A1 YM):=.go
theorem zcn(T:Txt K mg a) (F:Fun K "counts" "Layout.counts" YM f fd) :
  FP P w K mg base 1 f fd ["self"] (G5 K a) :=
 F.okL (VN K a) zcm Zb λ_ _ _ _ _ E hr hx=>(AL (BH (E9 (DR (AV KA (AZ (AB 0) rfl) (AZ (AB 0) rfl)) (AV KA (AZ (AB 0) rfl) (AZ (AB 0) rfl)) (AV KA (AZ (AB 0) rfl) (AZ (AB 0) rfl))))))
abbrev YN:Stmt:=BQ (BG 32) 9
theorem zco:FnScope ["self"] ["self"] (A1 YN):=.go
theorem zcp(T:Txt K mg a) (F:Fun K "blocks_ahead_of_marks" "Layout.blocks_ahead_of_marks" YN f fd) :
  FP P w K mg base 1 f fd ["self"] (KF K a) :=
 F.okL (VO K a) zco Yy λ_ _ _ _ _ E hr hx=>(AL (BH (AV CA (AV CA (AZ (AB 0) rfl) (AZ (AB 0) rfl)) (AZ (AB 0) rfl))))
abbrev YO:Stmt:=BQ (BG 32) 10
theorem zcq:FnScope ["self","block","k"] ["self","block","k"] (A1 YO):=.go
theorem zcr(T:Txt K mg a) (F:Fun K "place_from" "Layout.place_from" YO f fd) :
  FP P w K mg base 1 f fd ["self","block","k"] (G4 K a) :=
 F.okL (VP K a) zcq Ym λ_ _ _ _ _ E hr hx=>(AL (BH (E9 (BT (AV CA (AB 1) (AV DK (AB 2) (AZ (AB 0) rfl))) (AV C7 (AB 2) (AZ (AB 0) rfl))))))
abbrev YQ:Stmt:=BG 34
theorem zcs:FnScope ["script","k"] ["script","k"] (A1 YQ):=.go
theorem zct(T:Txt K mg a) (F:Fun K "_law_cell_at" "_law_cell_at" YQ f fd) :
  FP P w K mg base 1 f fd ["script","k"] (L9 K a) :=
 F.okL (VQ K a) zcs Xc λ_ _ _ _ _ E hr hx=>(AM (CC (DC IE (AB 1) (EX GU rfl T.HA (by rfl) (AI (AB 0))) (DL _)) (AL (BH (CD CF (AB 0) (AB 1) (λ_ _=>rfl)))) CZ) (AL (BH AQ)))
abbrev YR:Stmt:=BG 35
theorem HV:FnScope ["cell","letters","base","rest","k","at","first","last","turned"] ["cell"] (A1 YR):=.go
theorem zcu(T:Txt K mg a) (F:Fun K "_law_names" "_law_names" YR f fd) :
  FP P w K mg base 1 f fd ["cell"] (Q7 K a) :=
 F.okL (VR K a) HV zbh λ_ _ _ _ _ E hr hx=>(AM (BB 1 HV.nd DJ) (AM (BB 2 HV.nd DJ) (AM (BB 3 HV.nd (AV DK (AB 0) AQ)) (AM (FN hx.po rfl (GK rfl T.HB (AI (AV CA AQ (AV C7 (AB 0) AQ)))) (CT 4 HV.nd) (AM (BB 2 HV.nd (AV CA (AB 2) (CD CF (AB 1) (AV C7 (AV CA (AB 3) (AV KA (AV KA AQ (AB 4)) (AV C7 (AV DK (AB 3) AQ) AQ))) AQ) (λ_ _=>rfl)))) (AL (BB 3 HV.nd (AV CA (AV DK (AB 3) AQ) (AV KA AQ (AB 4))))))) (AM (BB 5 HV.nd (AV C7 (AV DK (AB 0) AQ) (EX GU rfl T.HA (by rfl) (AI (AB 2))))) (AM (BB 6 HV.nd (CD CF (AB 1) (AV C7 (AV DK (AB 0) AQ) AQ) (λ_ _=>rfl))) (AM (BB 7 HV.nd (CD CF (AB 1) (AV C7 (AV CA (AV CA (AV DK (AB 0) AQ) AQ) (AV C7 (AV DK (AB 0) AQ) AQ)) AQ) (λ_ _=>rfl))) (AM (BB 8 HV.nd (CD CF (AB 1) (AV C7 (AV CA (AV CA (IA PySem.F.plainAttrs_str PySem.F.slot_str_find PySem.F.type_str_find Ed (AB 1) (AI (CD CF (AB 2) (AB 5) (λ_ _=>rfl)))) AQ) (AV C7 (AV DK (AB 0) AQ) AQ)) AQ) (λ_ _=>rfl))) (AL (BH (CL (IV (AB 2) (JG (AV CA (AB 2) (AB 7)) (AV CA (AB 6) (AB 2)) (AV CA (AV CA (NA NG (AB 2) OT (LP (AB 5))) (AB 8)) (NA NG (AB 2) (LP (AV CA (AB 5) AQ)) OT)) (AV CA (AV CA (AB 2) (AB 7)) (AB 6)))))))))))))))
abbrev YS:Stmt:=BG 36
theorem KL:FnScope ["cell","signs","many","step","wide"] ["cell"] (A1 YS):=.go
theorem zcv:(["j","signs","cell","step","wide"]:List Str).Nodup:=by decide +kernel
theorem zcw(T:Txt K mg a) (F:Fun K "_law_text" "_law_text" YS f fd) :
  FP P w K mg base 1 f fd ["cell"] (Q8 K a) :=
 F.okL (VW K a) KL zbl λ_ _ _ _ _ E hr hx=>(AM (M5 (i:=1) KL.nd rfl (Or.inr rfl) DJ) (AM (M5 (i:=1) KL.nd rfl (Or.inr rfl) (AV CA (AB 1) DJ)) (AM (BB 2 KL.nd (AV CA AQ (AV C7 (AB 0) AQ))) (AM (CC (DC (ID hr.units) (AV C7 (AV DK (AB 0) AQ) AQ) AQ (DL _)) (AL (BB 2 KL.nd (AV OO AQ (AV C7 (AV DK (AB 0) AQ) AQ)))) CZ) (AM (M5 (i:=3) KL.nd rfl (Or.inr rfl) (AV CA AQ (AV C7 (AV DK (AB 0) AQ) AQ))) (AM (M5 (i:=4) KL.nd rfl (Or.inr rfl) (AV CA AQ (AV C7 (AV DK (AB 0) AQ) AQ))) (AL (BH (IA PySem.F.plainAttrs_str PySem.F.slot_str_join PySem.F.type_str_join Dv DJ (AI (JD (tn:=["j"]) (cn:=["signs","cell" ,"step" ,"wide" ]) (cap:=[1,0,3,4]) KL.cp rfl (GK rfl T.HB (AI (AB 2))) (λ_ _ _ _ _ _=>(CT 0 zcv)) (λ_ _ _ _ _ _=>F7) (λ_ _ _ _ _ _=>(CD CF (AB 1) (AV C7 (AV CA (AV DK (AB 2) AQ) (AV KA (AB 3) (AV DK (AB 0) (AB 4)))) AQ) (λ_ _=>rfl))))))))))))))
abbrev YT:Stmt:=BG 37
theorem zcx:FnScope ["cell"] ["cell"] (A1 YT):=.go
theorem zcy(T:Txt K mg a) (F:Fun K "_law_at" "_law_at" YT f fd) :
  FP P w K mg base 1 f fd ["cell"] (Q9 K a) :=
 F.okL (VX K a) zcx zbj λ_ _ _ _ _ E hr hx=>(AM (CC (DC (ID hr.units) (AV C7 (AV DK (AB 0) AQ) AQ) AQ (DL _)) (AL (BH (AV OO (AV C7 (AB 0) AQ) AQ))) CZ) (AL (BH (AV OO (AV C7 (AB 0) AQ) AQ))))
abbrev YU:Stmt:=BG 40
theorem zcz:FnScope ["led","kind","one","other","made"] ["led","kind","one","other","made"] (A1 YU):=.go
theorem zc0(T:Txt K mg a) (F:Fun K "_law_followed" "_law_followed" YU f fd) :
  FP P w K mg base 1 f fd ["led","kind","one","other","made"] (NS K a) :=
 F.okL (VZ K a) zcz zbu λ_ _ _ _ _ E hr hx=>(AL (CC (DC IE (AB 1) AQ (DL _)) (AL (JA (DN hr) (AB 0) (AB 2) (AB 4) rfl)) (AL (CC (DC (ID hr.units) (AB 1) AQ (DL _)) (AL (C9 (cW (AB 0) (AB 2) ⟨rfl,rfl,rfl,rfl⟩))) (AL (CC (DC (eO hr.units) (AB 1) (E9 (BT AQ AQ)) (by with_unfolding_all rfl)) (AM (JA (DN hr) (AB 0) (AB 3) (J6 (DN hr) (AB 0) (AB 2) (λ_ _=>rfl)) rfl) (AL (CC (DC (ID hr.units) (AB 1) AQ (DL _)) (AL (C9 (cW (AB 0) (AB 2) ⟨rfl,rfl,rfl,rfl⟩))) CZ))) CZ))))))
abbrev YV:Stmt:=BQ (BG 11) 0
theorem r8:FnScope ["self","plank"] ["self","plank"] (A1 YV):=.go
theorem zc1:(["block"]:List Str).Nodup:=by decide +kernel
theorem zc2(T:Txt K mg a)(aH:AU P w K mg base (a "Plank") 1 "blocks" ["self"] (L0 K a))(F:Fun K "__init__" "Book.__init__" YV f fd) :
  FP P w K mg base 2 f fd ["self","plank"] (NP K a) :=
 F.okL (V0 K a) r8 Xq λ_ _ _ _ _ E hr hx=>(AM (EN (AB 0) (AB 1) rfl) (AM (EN (AB 0) (CL FO) rfl) (AM (EN (AB 0) (JD (tn:=["block"]) (cn:=[]) (cap:=[]) r8.cp rfl (GK rfl T.HB (AI (ES (AB 1) T.IP aH hr hx))) (λ_ _ _ _ _ _=>(CT 0 zc1)) (λ_ _ _ _ _ _=>F7) (λ_ _ _ _ _ _=>(CL FO))) rfl) (AM (EN (AB 0) cV rfl) (AL (EN (AB 0) K0 rfl))))))
abbrev YW:Stmt:=BQ (BG 11) 9
theorem zc3:FnScope ["self","place"] ["self","place"] (A1 YW):=.go
theorem zc4(T:Txt K mg a)(zfe:AU P w K mg base (a "Plank") 1 "cells" ["self"] (PY K a))(aH:AU P w K mg base (a "Plank") 1 "blocks" ["self"] (L0 K a))(F:Fun K "ask_for_place" "Book.ask_for_place" YW f fd) :
  FP P w K mg base 2 f fd ["self","place"] (QI K a) :=
 F.okL (V1 K a) zc3 Xw λ_ _ _ _ _ E hr hx=>(AL (CC (PW.pt (tQ (HZ (M7 F9 IE AQ (GZ (AB 1)) (ES (AZ (AB 0) rfl) T.IP aH hr hx))) (tP (HZ (M7 F9 IE AQ (GZ (AB 1)) (ES (AZ (AB 0) rfl) T.IP zfe hr hx)))))) (AL (IC hx T.aW rfl T.aT (AI DJ))) CZ))
abbrev YX:Stmt:=BQ (BG 14) 1
theorem MR:FnScope ["self","block","taken","gone","out","held","number","lack"] ["self","block","taken"] (A1 YX):=.go
theorem zc5(T:Txt K mg a)(ze9:AU P w K mg base (a "Hold") 1 "lack_of" ["self","number","gone"] (QK K a))(F:Fun K "outcome" "Hold.outcome" YX f fd) :
  FP P w K mg base 2 f fd ["self","block","taken"] (QL K a) :=
 F.okL (WD K a) MR Yh λ_ _ _ _ _ E hr hx=>(AM (BB 3 MR.nd (JY Cp rfl T.zfs (by rfl) (AI (AB 2)))) (AM (BB 4 MR.nd (CL FO)) (AM (BB 5 MR.nd (CL FO)) (AM (FN hx.po rfl (GW (CD CF (AZ (AB 0) rfl) (AB 1) (λ_ _=>rfl))) (CT 6 MR.nd) (AL (CC (PW.pt (R5 (LH (OY (DN hr) (AB 6) (AZ (AB 0) rfl)) (by with_unfolding_all rfl)) (R4 (LH (OY (DN hr) (AB 6) (AB 3)) (by with_unfolding_all rfl))))) (AM (BB 7 MR.nd (A6 (AB 0) T.DS ze9 hr hx (BT (AB 6) (AB 3)))) (AL (CC (DC OP (AB 7) FL (DL _)) (AM (JA (DN hr) (AB 3) (AB 6) IR rfl) (AL (C9 (IA PySem.F.plainAttrs_list PySem.F.slot_list_append PySem.F.type_list_append J3 (AB 4) (AI (AB 6)))))) (AL (C9 (IA PySem.F.plainAttrs_list PySem.F.slot_list_append PySem.F.type_list_append J3 (AB 5) (AI (E9 (BT (AB 6) (AB 7)))))))))) CZ))) (AL (BH (E9 (BT (AB 4) (AB 5)))))))))
abbrev YY:Stmt:=BG 22
theorem sA:FnScope ["thing"] ["thing"] (A1 YY):=.go
theorem zc6(T:Txt K mg a)(zey:DT P w K mg base (1) "is_sign" ["sign"] (QT K a))(F:Fun K "is_piece" "is_piece" YY f fd) :
  FP P w K mg base 2 f fd ["thing"] (QW K a) :=
 F.okL (WE K a) sA zad λ_ _ _ _ _ E hr hx=>(AL (BH (R7 (OQ F9 F9 AQ (EX GU rfl T.HA (by rfl) (AI (AB 0))) (TJ T.zfw rfl)) (OG (EX (T2 rfl) rfl T.aQ (by rfl) (AI (JD (tn:=["sign"]) (cn:=[]) (cap:=[]) sA.cp rfl (dY (AB 0)) (λ_ _ _ _ _ _=>(CT 0 rY)) (λ_ _ _ _ _ _=>F7) (λ_ _ _ _ _ _=>(NC zey hr.m HI rfl (AI (AB 0)))))))))))
abbrev YZ:Stmt:=BQ (BG 30) 4
theorem zc7:FnScope ["self","block"] ["self","block"] (A1 YZ):=.go
theorem zc8(T:Txt K mg a)(aG:AU P w K mg base (a "Plank") 1 "ask_for_block" ["self","block"] (KD K a))(F:Fun K "read" "Plank.read" YZ f fd) :
  FP P w K mg base 2 f fd ["self","block"] (KE K a) :=
 F.okL (WF K a) zc7 Xk λ_ _ _ _ _ E hr hx=>(AM (C9 (A6 (AB 0) T.IP aG hr hx (AI (AB 1)))) (AL (BH (JY TV rfl T.aR (by rfl) (AI (CD CF (AZ (AB 0) rfl) (AB 1) (λ_ _=>rfl)))))))
abbrev Y0:Stmt:=BQ (BG 30) 5
theorem zc9:FnScope ["self","block","values"] ["self","block","values"] (A1 Y0):=.go
theorem zda(T:Txt K mg a)(aG:AU P w K mg base (a "Plank") 1 "ask_for_block" ["self","block"] (KD K a))(F:Fun K "write" "Plank.write" Y0 f fd) :
  FP P w K mg base 2 f fd ["self","block","values"] (PZ K a) :=
 F.okL (WG K a) zc9 Xl λ_ _ _ _ _ E hr hx=>(AM (C9 (A6 (AB 0) T.IP aG hr hx (AI (AB 1)))) (AM (CC (DC (dH hr.units) (EX GU rfl T.HA (by rfl) (AI (AB 2))) (AZ (AB 0) rfl) (DL _)) (AL (IC hx T.aW rfl T.aT (AI DJ))) CZ) (AM (bD (JY TW rfl T.aS (by rfl) (AI (AB 2))) (bC (AZ (AB 0) rfl) (AB 1) dM)) (AL (uZ (AB 0) AQ u3)))))
abbrev Y1:Stmt:=BQ (BG 32) 1
theorem zdb:FnScope ["self","k"] ["self","k"] (A1 Y1):=.go
theorem zdc(T:Txt K mg a)(JU:AU P w K mg base (a "Layout") 1 "place_from" ["self","block","k"] (G4 K a))(F:Fun K "name_at" "Layout.name_at" Y1 f fd) :
  FP P w K mg base 2 f fd ["self","k"] (GB K a) :=
 F.okL (WH K a) zdb Yp λ_ _ _ _ _ E hr hx=>(AL (BH (A6 (AB 0) T.B9 JU hr hx (BT AQ (AB 1)))))
abbrev Y2:Stmt:=BQ (BG 32) 2
theorem zdd:FnScope ["self","k"] ["self","k"] (A1 Y2):=.go
theorem zde(T:Txt K mg a)(JU:AU P w K mg base (a "Layout") 1 "place_from" ["self","block","k"] (G4 K a))(F:Fun K "record_at" "Layout.record_at" Y2 f fd) :
  FP P w K mg base 2 f fd ["self","k"] (FU K a) :=
 F.okL (WI K a) zdd Yq λ_ _ _ _ _ E hr hx=>(AL (BH (A6 (AB 0) T.B9 JU hr hx (BT (AZ (AB 0) rfl) (AB 1)))))
abbrev Y3:Stmt:=BQ (BG 32) 3
theorem zdf:FnScope ["self","k"] ["self","k"] (A1 Y3):=.go
theorem zdg(T:Txt K mg a)(JU:AU P w K mg base (a "Layout") 1 "place_from" ["self","block","k"] (G4 K a))(F:Fun K "piece_at" "Layout.piece_at" Y3 f fd) :
  FP P w K mg base 2 f fd ["self","k"] (JH K a) :=
 F.okL (WJ K a) zdf Yv λ_ _ _ _ _ E hr hx=>(AL (BH (A6 (AB 0) T.B9 JU hr hx (BT (AV CA (AZ (AB 0) rfl) (AZ (AB 0) rfl)) (AB 1)))))
abbrev Y4:Stmt:=BQ (BG 32) 4
theorem zdh:FnScope ["self","k"] ["self","k"] (A1 Y4):=.go
theorem zdi(T:Txt K mg a)(N3:AU P w K mg base (a "Layout") 1 "blocks_ahead_of_marks" ["self"] (KF K a))(JU:AU P w K mg base (a "Layout") 1 "place_from" ["self","block","k"] (G4 K a))(F:Fun K "record_mark" "Layout.record_mark" Y4 f fd) :
  FP P w K mg base 2 f fd ["self","k"] (JI K a) :=
 F.okL (WK K a) zdh Yw λ_ _ _ _ _ E hr hx=>(AL (BH (A6 (AB 0) T.B9 JU hr hx (BT (ES (AB 0) T.B9 N3 hr hx) (AB 1)))))
abbrev Y5:Stmt:=BQ (BG 32) 5
theorem zdj:FnScope ["self","k"] ["self","k"] (A1 Y5):=.go
theorem zdk(T:Txt K mg a)(N3:AU P w K mg base (a "Layout") 1 "blocks_ahead_of_marks" ["self"] (KF K a))(JU:AU P w K mg base (a "Layout") 1 "place_from" ["self","block","k"] (G4 K a))(F:Fun K "piece_mark" "Layout.piece_mark" Y5 f fd) :
  FP P w K mg base 2 f fd ["self","k"] (HL K a) :=
 F.okL (WL K a) zdj Yx λ_ _ _ _ _ E hr hx=>(AL (BH (A6 (AB 0) T.B9 JU hr hx (BT (AV CA (ES (AB 0) T.B9 N3 hr hx) (AZ (AB 0) rfl)) (AB 1)))))
abbrev Y6:Stmt:=BQ (BG 32) 7
theorem zdl:FnScope ["self"] ["self"] (A1 Y6):=.go
theorem zdm(T:Txt K mg a)(N3:AU P w K mg base (a "Layout") 1 "blocks_ahead_of_marks" ["self"] (KF K a))(F:Fun K "blocks" "Layout.blocks" Y6 f fd) :
  FP P w K mg base 2 f fd ["self"] (JJ K a) :=
 F.okL (WM K a) zdl Yz λ_ _ _ _ _ E hr hx=>(AL (BH (AV CA (AV CA (ES (AB 0) T.B9 N3 hr hx) (AZ (AB 0) rfl)) (AZ (AB 0) rfl))))
abbrev Y7:Stmt:=BQ (BG 11) 3
theorem zdn:FnScope ["self","place"] ["self","place"] (A1 Y7):=.go
theorem zdo(T:Txt K mg a)(ze8:AU P w K mg base (a "Hold") 2 "ask_for_place" ["self","place"] (QI K a))(F:Fun K "newest" "Book.newest" Y7 f fd) :
  FP P w K mg base 3 f fd ["self","place"] (MA K a) :=
 F.okL (WN K a) zdn Xx λ_ _ _ _ _ E hr hx=>(AM (C9 (A6 (AB 0) T.DS ze8 hr hx (AI (AB 1)))) (AL (BH (wM (DN hr) (AZ (AB 0) rfl) (AB 1) ⟨rfl,rfl,rfl,rfl⟩))))
abbrev Y8:Stmt:=BQ (BG 14) 0
theorem RR:FnScope ["self","block","values","told","number"] ["self","block"] (A1 Y8):=.go
theorem zdp(T:Txt K mg a)(N6:AU P w K mg base (a "Plank") 2 "read" ["self","block"] (KE K a))(zfb:AU P w K mg base (a "Hold") 2 "outcome" ["self","block","taken"] (QL K a))(zfa:AU P w K mg base (a "Hold") 1 "laid_over" ["self","values","block"] (QM K a))(zff:AU P w K mg base (a "Plank") 2 "write" ["self","block","values"] (PZ K a))(F:Fun K "write" "Hold.write" Y8 f fd) :
  FP P w K mg base 3 f fd ["self","block"] (QN K a) :=
 F.okL (WO K a) RR Yk λ_ _ _ _ _ E hr hx=>(AM (BB 2 RR.nd (A6 (AZ (AB 0) rfl) T.IP N6 hr hx (AI (AB 1)))) (AM (BB 3 RR.nd (A6 (AB 0) T.DS zfb hr hx (BT (AB 1) K0))) (AM (FN hx.po rfl (GW (GZ (AB 3))) (CT 4 RR.nd) (AL (JA (DN hr) (AZ (AB 0) rfl) (AB 4) IR rfl))) (AM (C9 (A6 (AZ (AB 0) rfl) T.IP zff hr hx (BT (AB 1) (A6 (AB 0) T.DS zfa hr hx (BT (AB 2) (AB 1)))))) (AL (BH (AB 3)))))))
abbrev Y9:Stmt:=BQ (BG 32) 8
theorem zdq:FnScope ["self"] ["self"] (A1 Y9):=.go
theorem zdr(T:Txt K mg a)(MU:AU P w K mg base (a "Layout") 2 "blocks" ["self"] (JJ K a))(zfq:K1 P w K mg base (a "Plank") 1 "Plank" ["self","blocks","cells"] (PU K a))(F:Fun K "plank" "Layout.plank" Y9 f fd) :
  FP P w K mg base 3 f fd ["self"] (QD K a) :=
 F.okL (WP K a) zdq Zc λ_ _ _ _ _ E hr hx=>(AL (BH (ND zfq hr.m hx.passes rfl (BT (ES (AB 0) T.B9 MU hr hx) (AZ (AB 0) rfl)))))
abbrev ZA:Stmt:=BG 39
theorem NZ:FnScope ["layout","plank","there","block","values","k"] ["layout","plank"] (A1 ZA):=.go
theorem zds(T:Txt K mg a)(MU:AU P w K mg base (a "Layout") 2 "blocks" ["self"] (JJ K a))(N6:AU P w K mg base (a "Plank") 2 "read" ["self","block"] (KE K a))(F:Fun K "_law_plank" "_law_plank" ZA f fd) :
  FP P w K mg base 3 f fd ["layout","plank"] (MK K a) :=
 F.okL (WQ K a) NZ zbq λ_ _ _ _ _ E hr hx=>(AM (BB 2 NZ.nd cV) (AM (FN hx.po rfl (GK rfl T.HB (AI (ES (AB 0) T.B9 MU hr hx))) (CT 3 NZ.nd) (AM (BB 4 NZ.nd (A6 (AB 1) T.IP N6 hr hx (AI (AB 3)))) (AL (FN hx.po rfl (GK rfl T.HB (AI (EX GU rfl T.HA (by rfl) (AI (AB 4))))) (CT 5 NZ.nd) (AL (JA (DN hr) (AB 2) (E9 (BT (AB 3) (AB 5))) (CD CF (AB 4) (AB 5) (λ_ _=>rfl)) rfl)))))) (AL (BH (AB 2)))))
abbrev ZB:Stmt:=BG 42
theorem JR:FnScope ["layout","there","ever","versions","k","cell","pieces","texts","found","made"] ["layout","there","ever","versions"] (A1 ZB):=.go
theorem zdt:(["p","there","layout"]:List Str).Nodup:=by decide +kernel
theorem zdu(T:Txt K mg a)(JS:AU P w K mg base (a "Layout") 1 "counts" ["self"] (G5 K a))(JT:AU P w K mg base (a "Layout") 2 "name_at" ["self","k"] (GB K a))(HW:AU P w K mg base (a "Layout") 2 "record_at" ["self","k"] (FU K a))(N4:AU P w K mg base (a "Layout") 2 "piece_at" ["self","k"] (JH K a))(F:Fun K "_law_there" "_law_there" ZB f fd) :
  FP P w K mg base 3 f fd ["layout","there","ever","versions"] (ML K a) :=
 F.okL (WR K a) JR zbz λ_ _ _ _ _ E hr hx=>(AM (FN hx.po rfl (GK rfl T.HB (AI (CD CF (ES (AB 0) T.B9 JS hr hx) AQ (λ_ _=>rfl)))) (CT 4 JR.nd) (AM (BB 5 JR.nd (J6 (DN hr) (AB 1) (A6 (AB 0) T.B9 JT hr hx (AI (AB 4))) (λ_ _=>rfl))) (AL (CC (DC SH (AB 5) FL (DL _)) (AM (BB 6 JR.nd (CD CF (J6 (DN hr) (AB 1) (A6 (AB 0) T.B9 HW hr hx (AI (GZ (AB 5)))) (λ_ _=>rfl)) AQ (λ_ _=>rfl))) (AM (O1 (i:=7) (tn:=["p"]) (cn:=["there","layout" ]) (cap:=[1,0]) JR.cp rfl JR.nd rfl rfl (GW (AB 6)) (λ_ _ _ _ _ _=>(CT 0 zdt)) (λ_ _ _ _ _ _=>F7) (λ_ _ _ _ _ _=>(J6 (DN hr) (AB 1) (FD (AB 2) T.B9 N4 hr.m HI (AI (AB 0))) (λ_ _=>rfl)))) (AM (BB 8 JR.nd IR) (AM (fH hx.po rfl (wN (DN hr) (AB 2) (GZ (AB 5)) K0 ⟨rfl,rfl,rfl,rfl⟩) (CT 9 JR.nd) (AL (BB 8 JR.nd (tR (AB 8) (OG (bM (Em hr.units) (AB 7) (CD CF (AB 3) (AB 9) (λ_ _=>rfl)) (by with_unfolding_all rfl))))))) (AL (CC (HZ (M8 (AB 8) (λ_=>rfl))) (AL (BH IR)) CZ)))))) CZ)))) (AL (BH IR)))
abbrev ZC:Stmt:=BQ (BG 11) 1
theorem ZD:FnScope ["self","place","value","needs","ahead","number"] ["self","place","value","needs"] (A1 ZC):=.go
theorem zdv(T:Txt K mg a)(aF:AU P w K mg base (a "Hold") 3 "newest" ["self","place"] (MA K a))(ze7:AU P w K mg base (a "Hold") 1 "ask_for_changes" ["self","numbers"] (QJ K a))(ze6:DT P w K mg base (1) "needs_with" ["needs","ahead"] (QH K a))(zfn:K1 P w K mg base (a "Change") 1 "Change" ["self","place","value","needs"] (QF K a))(F:Fun K "change" "Book.change" ZC f fd) :
  FP P w K mg base 4 f fd ["self","place","value","needs"] (D1 K a) :=
 F.okL (WS K a) ZD Xz λ_ _ _ _ _ E hr hx=>(AM (BB 4 ZD.nd (A6 (AB 0) T.DS aF hr hx (AI (AB 1)))) (AM (C9 (A6 (AB 0) T.DS ze7 hr hx (AI (AB 3)))) (AM (BB 5 ZD.nd (EX GU rfl T.HA (by rfl) (AI (AZ (AB 0) rfl)))) (AM (C9 (IA PySem.F.plainAttrs_list PySem.F.slot_list_append PySem.F.type_list_append J3 (AZ (AB 0) rfl) (AI (ND zfn hr.m hx.passes rfl (DR (AB 1) (AB 2) (ER ze6 hr hx (BT (AB 3) (AB 4)))))))) (AM (C9 (IA PySem.F.plainAttrs_list PySem.F.slot_list_append PySem.F.type_list_append J3 (CD CF (AZ (AB 0) rfl) (GZ (AB 1)) (λ_ _=>rfl)) (AI (AB 5)))) (AM (JA (DN hr) (AZ (AB 0) rfl) (AB 1) (AB 5) rfl) (AL (BH (AB 5)))))))))
abbrev ZE:Stmt:=BQ (BG 11) 2
theorem sB:FnScope ["self","place","number"] ["self","place"] (A1 ZE):=.go
theorem zdw(T:Txt K mg a)(aF:AU P w K mg base (a "Hold") 3 "newest" ["self","place"] (MA K a))(N6:AU P w K mg base (a "Plank") 2 "read" ["self","block"] (KE K a))(F:Fun K "in_hand" "Book.in_hand" ZE f fd) :
  FP P w K mg base 4 f fd ["self","place"] (II K a) :=
 F.okL (WT K a) sB Yc λ_ _ _ _ _ E hr hx=>(AM (BB 2 sB.nd (A6 (AB 0) T.DS aF hr hx (AI (AB 1)))) (AM (CC (DC OP (AB 2) FL (DL _)) (AL (BH (CD CF (A6 (AZ (AB 0) rfl) T.IP N6 hr hx (AI (GZ (AB 1)))) (GZ (AB 1)) (λ_ _=>rfl)))) CZ) (AL (BH (AZ (CD CF (AZ (AB 0) rfl) (AB 2) (λ_ _=>rfl)) rfl)))))
abbrev ZF:Stmt:=BQ (BG 28) 0
theorem zdx:FnScope ["self","layout","plank"] ["self","layout","plank"] (A1 ZF):=.go
theorem zdy(T:Txt K mg a)(zfo:K1 P w K mg base (a "Hold") 2 "Hold" ["self","plank"] (NP K a))(F:Fun K "__init__" "Store.__init__" ZF f fd) :
  FP P w K mg base 4 f fd ["self","layout","plank"] (QY K a) :=
 F.okL (WU K a) zdx zai λ_ _ _ _ _ E hr hx=>(AM (EN (AB 0) (AB 1) rfl) (AM (EN (AB 0) (ND zfo hr.m hx.passes rfl (AI (AB 2))) rfl) (AL (EN (AB 0) K0 rfl))))
abbrev ZG:Stmt:=BQ (BG 28) 10
theorem zdz:FnScope ["self","block"] ["self","block"] (A1 ZG):=.go
theorem zd0(T:Txt K mg a)(zfc:AU P w K mg base (a "Hold") 3 "write" ["self","block"] (QN K a))(F:Fun K "write" "Store.write" ZG f fd) :
  FP P w K mg base 4 f fd ["self","block"] (MJ K a) :=
 F.okL (WV K a) zdz zbp λ_ _ _ _ _ E hr hx=>(AL (BH (A6 (AZ (AB 0) rfl) T.DS zfc hr hx (AI (AB 1)))))
abbrev ZH:Stmt:=BG 26
theorem ZI:FnScope ["hold","places","values","k","place"] ["hold","places","values"] (A1 ZH):=.go
theorem zd1(T:Txt K mg a)(LE:AU P w K mg base (a "Hold") 4 "in_hand" ["self","place"] (II K a))(F:Fun K "lowest_with" "lowest_with" ZH f fd) :
  FP P w K mg base 5 f fd ["hold","places","values"] (JL K a) :=
 F.okL (WW K a) ZI Zk λ_ _ _ _ _ E hr hx=>(AM (FN hx.po rfl (eV rfl T.sO (AI (AB 1))) (bB rfl (OK (CT 3 ZI.nd) (OK (CT 4 ZI.nd) bA))) (AL (CC (DC (Ec hr.units) (A6 (AB 0) T.DS LE hr hx (AI (AB 4))) (AB 2) (by with_unfolding_all rfl)) (AL (BH (AB 3))) CZ))) (AL (IC hx T.zf0 rfl T.sR (AI DJ))))
abbrev ZJ:Stmt:=BQ (BG 28) 16
theorem sC:FnScope ["self"] ["self"] (A1 ZJ):=.go
theorem zd2:(["k","self"]:List Str).Nodup:=by decide +kernel
theorem zd3(T:Txt K mg a)(JS:AU P w K mg base (a "Layout") 1 "counts" ["self"] (G5 K a))(JT:AU P w K mg base (a "Layout") 2 "name_at" ["self","k"] (GB K a))(LE:AU P w K mg base (a "Hold") 4 "in_hand" ["self","place"] (II K a))(F:Fun K "name_cells" "Store.name_cells" ZJ f fd) :
  FP P w K mg base 5 f fd ["self"] (MD K a) :=
 F.okL (WX K a) sC zaj λ_ _ _ _ _ E hr hx=>(AL (BH (JD (tn:=["k"]) (cn:=["self"]) (cap:=[0]) sC.cp rfl (GK rfl T.HB (AI (CD CF (ES (AZ (AB 0) rfl) T.B9 JS hr hx) AQ (λ_ _=>rfl)))) (λ_ _ _ _ _ _=>(CT 0 zd2)) (λ_ _ _ _ _ _=>F7) (λ_ _ _ _ _ _=>(FD (AZ (AB 1) rfl) T.DS LE hr.m HI (AI (FD (AZ (AB 1) rfl) T.B9 JT hr.m HI (AI (AB 0)))))))))
abbrev ZK:Stmt:=BQ (BG 28) 17
theorem zd4:FnScope ["self","record"] ["self","record"] (A1 ZK):=.go
theorem zd5(T:Txt K mg a)(HW:AU P w K mg base (a "Layout") 2 "record_at" ["self","k"] (FU K a))(LE:AU P w K mg base (a "Hold") 4 "in_hand" ["self","place"] (II K a))(F:Fun K "standing" "Store.standing" ZK f fd) :
  FP P w K mg base 5 f fd ["self","record"] (FG K a) :=
 F.okL (WY K a) zd4 zar λ_ _ _ _ _ E hr hx=>(AL (BH (A6 (AZ (AB 0) rfl) T.DS LE hr hx (AI (A6 (AZ (AB 0) rfl) T.B9 HW hr hx (AI (AB 1)))))))
abbrev ZL:Stmt:=BQ (BG 28) 18
theorem sD:FnScope ["self","cell","name","record","need","needs"] ["self","cell","name","record","need"] (A1 ZL):=.go
theorem zd6(T:Txt K mg a)(JT:AU P w K mg base (a "Layout") 2 "name_at" ["self","k"] (GB K a))(EW:AU P w K mg base (a "Hold") 4 "change" ["self","place","value","needs"] (D1 K a))(F:Fun K "fill_cell" "Store.fill_cell" ZL f fd) :
  FP P w K mg base 5 f fd ["self","cell","name","record","need"] (MF K a) :=
 F.okL (W0 K a) sD zat λ_ _ _ _ _ E hr hx=>(AM (BB 5 sD.nd (CL (AI (AB 4)))) (AM (CC (LH (cU (DN hr) (AB 2) (AZ (AB 0) rfl)) (by with_unfolding_all rfl)) (AL (C9 (IA PySem.F.plainAttrs_list PySem.F.slot_list_append PySem.F.type_list_append J3 (AB 5) (AI (J6 (DN hr) (AZ (AB 0) rfl) (AB 2) (λ_ _=>rfl)))))) CZ) (AL (BH (A6 (AZ (AB 0) rfl) T.DS EW hr hx (DR (A6 (AZ (AB 0) rfl) T.B9 JT hr hx (AI (AB 1))) (E9 (BT (AB 2) (AB 3))) (AB 5)))))))
abbrev ZM:Stmt:=BG 23
theorem ZN:FnScope ["layout","hold","places"] ["layout","hold"] (A1 ZM):=.go
theorem ZO:(["k","layout"]:List Str).Nodup:=by decide +kernel
theorem zd7(T:Txt K mg a)(JS:AU P w K mg base (a "Layout") 1 "counts" ["self"] (G5 K a))(JT:AU P w K mg base (a "Layout") 2 "name_at" ["self","k"] (GB K a))(N2:DT P w K mg base (5) "lowest_with" ["hold","places","values"] (JL K a))(F:Fun K "free_name" "free_name" ZM f fd) :
  FP P w K mg base 6 f fd ["layout","hold"] (MB K a) :=
 F.okL (W2 K a) ZN Zp λ_ _ _ _ _ E hr hx=>(AM (O1 (i:=2) (tn:=["k"]) (cn:=["layout"]) (cap:=[0]) ZN.cp rfl ZN.nd rfl rfl (GK rfl T.HB (AI (CD CF (ES (AB 0) T.B9 JS hr hx) AQ (λ_ _=>rfl)))) (λ_ _ _ _ _ _=>(CT 0 ZO)) (λ_ _ _ _ _ _=>F7) (λ_ _ _ _ _ _=>(FD (AB 1) T.B9 JT hr.m HI (AI (AB 0))))) (AL (BH (ER N2 hr hx (DR (AB 1) (AB 2) (E9 (AI FL)))))))
abbrev ZP:Stmt:=BG 24
theorem ZQ:FnScope ["layout","hold","marks"] ["layout","hold"] (A1 ZP):=.go
theorem zd8(T:Txt K mg a)(JS:AU P w K mg base (a "Layout") 1 "counts" ["self"] (G5 K a))(N5:AU P w K mg base (a "Layout") 2 "record_mark" ["self","k"] (JI K a))(N2:DT P w K mg base (5) "lowest_with" ["hold","places","values"] (JL K a))(F:Fun K "free_record" "free_record" ZP f fd) :
  FP P w K mg base 6 f fd ["layout","hold"] (QR K a) :=
 F.okL (W3 K a) ZQ Zq λ_ _ _ _ _ E hr hx=>(AM (O1 (i:=2) (tn:=["k"]) (cn:=["layout"]) (cap:=[0]) ZQ.cp rfl ZQ.nd rfl rfl (GK rfl T.HB (AI (CD CF (ES (AB 0) T.B9 JS hr hx) AQ (λ_ _=>rfl)))) (λ_ _ _ _ _ _=>(CT 0 ZO)) (λ_ _ _ _ _ _=>F7) (λ_ _ _ _ _ _=>(FD (AB 1) T.B9 N5 hr.m HI (AI (AB 0))))) (AL (BH (ER N2 hr hx (DR (AB 1) (AB 2) (E9 (BT FL AQ)))))))
abbrev ZR:Stmt:=BG 25
theorem ZS:FnScope ["layout","hold","marks"] ["layout","hold"] (A1 ZR):=.go
theorem zd9(T:Txt K mg a)(JS:AU P w K mg base (a "Layout") 1 "counts" ["self"] (G5 K a))(LF:AU P w K mg base (a "Layout") 2 "piece_mark" ["self","k"] (HL K a))(N2:DT P w K mg base (5) "lowest_with" ["hold","places","values"] (JL K a))(F:Fun K "free_piece" "free_piece" ZR f fd) :
  FP P w K mg base 6 f fd ["layout","hold"] (QS K a) :=
 F.okL (W4 K a) ZS Zv λ_ _ _ _ _ E hr hx=>(AM (O1 (i:=2) (tn:=["k"]) (cn:=["layout"]) (cap:=[0]) ZS.cp rfl ZS.nd rfl rfl (GK rfl T.HB (AI (CD CF (ES (AB 0) T.B9 JS hr hx) AQ (λ_ _=>rfl)))) (λ_ _ _ _ _ _=>(CT 0 ZO)) (λ_ _ _ _ _ _=>F7) (λ_ _ _ _ _ _=>(FD (AB 1) T.B9 LF hr.m HI (AI (AB 0))))) (AL (BH (ER N2 hr hx (DR (AB 1) (AB 2) (E9 (BT FL AQ)))))))
abbrev ZT:Stmt:=BQ (BG 28) 15
theorem ZU:FnScope ["self","name","cell","value"] ["self","name"] (A1 ZT):=.go
theorem zea(T:Txt K mg a)(aM:AU P w K mg base (a "Store") 5 "name_cells" ["self"] (MD K a))(F:Fun K "cell_of" "Store.cell_of" ZT f fd) :
  FP P w K mg base 6 f fd ["self","name"] (KI K a) :=
 F.okL (W5 K a) ZU zam λ_ _ _ _ _ E hr hx=>(AM (FN hx.po rfl (eV rfl T.sO (AI (ES (AB 0) T.B0 aM hr hx))) (bB rfl (OK (CT 2 ZU.nd) (OK (CT 3 ZU.nd) bA))) (AL (CC (PW.pt (R5 (DC SH (AB 3) FL (DL _)) (R4 (DC (ID hr.units) (GZ (AB 3)) (AB 1) (DL _))))) (AL (BH (AB 2))) CZ))) (AL (BH FL)))
abbrev ZV:Stmt:=BQ (BG 28) 20
theorem sE:FnScope ["self","record","more","needs","value"] ["self","record","more","needs"] (A1 ZV):=.go
theorem zeb(T:Txt K mg a)(GI:AU P w K mg base (a "Store") 5 "standing" ["self","record"] (FG K a))(HW:AU P w K mg base (a "Layout") 2 "record_at" ["self","k"] (FU K a))(EW:AU P w K mg base (a "Hold") 4 "change" ["self","place","value","needs"] (D1 K a))(F:Fun K "recount" "Store.recount" ZV f fd) :
  FP P w K mg base 6 f fd ["self","record","more","needs"] (KJ K a) :=
 F.okL (W6 K a) sE zav λ_ _ _ _ _ E hr hx=>(AM (BB 4 sE.nd (A6 (AB 0) T.B0 GI hr hx (AI (AB 1)))) (AL (BH (A6 (AZ (AB 0) rfl) T.DS EW hr hx (DR (A6 (AZ (AB 0) rfl) T.B9 HW hr hx (AI (AB 1))) (E9 (BT (AV CA (GZ (AB 4)) (AB 2)) (GZ (AB 4)))) (AB 3))))))
abbrev ZW:Stmt:=BQ (BG 28) 21
theorem zec:FnScope ["self","record","pieces","needs"] ["self","record","pieces","needs"] (A1 ZW):=.go
theorem zed(T:Txt K mg a)(GI:AU P w K mg base (a "Store") 5 "standing" ["self","record"] (FG K a))(HW:AU P w K mg base (a "Layout") 2 "record_at" ["self","k"] (FU K a))(EW:AU P w K mg base (a "Hold") 4 "change" ["self","place","value","needs"] (D1 K a))(F:Fun K "regroup" "Store.regroup" ZW f fd) :
  FP P w K mg base 6 f fd ["self","record","pieces","needs"] (MG K a) :=
 F.okL (W7 K a) zec zaw λ_ _ _ _ _ E hr hx=>(AL (BH (A6 (AZ (AB 0) rfl) T.DS EW hr hx (DR (A6 (AZ (AB 0) rfl) T.B9 HW hr hx (AI (AB 1))) (E9 (BT (CD CF (A6 (AB 0) T.B0 GI hr hx (AI (AB 1))) AQ (λ_ _=>rfl)) (AB 2))) (AB 3)))))
abbrev ZX:Stmt:=BQ (BG 28) 22
theorem MS:FnScope ["self","record","gone","pieces","dropped","made","mark"] ["self","record","gone"] (A1 ZX):=.go
theorem sF:(["piece","self"]:List Str).Nodup:=by decide +kernel
theorem zee(T:Txt K mg a)(GI:AU P w K mg base (a "Store") 5 "standing" ["self","record"] (FG K a))(HW:AU P w K mg base (a "Layout") 2 "record_at" ["self","k"] (FU K a))(EW:AU P w K mg base (a "Hold") 4 "change" ["self","place","value","needs"] (D1 K a))(LF:AU P w K mg base (a "Layout") 2 "piece_mark" ["self","k"] (HL K a))(N5:AU P w K mg base (a "Layout") 2 "record_mark" ["self","k"] (JI K a))(F:Fun K "drop_record" "Store.drop_record" ZX f fd) :
  FP P w K mg base 6 f fd ["self","record","gone"] (Q0 K a) :=
 F.okL (W8 K a) MS zaz λ_ _ _ _ _ E hr hx=>(AM (BB 3 MS.nd (CD CF (A6 (AB 0) T.B0 GI hr hx (AI (AB 1))) AQ (λ_ _=>rfl))) (AM (BB 4 MS.nd (A6 (AZ (AB 0) rfl) T.DS EW hr hx (DR (A6 (AZ (AB 0) rfl) T.B9 HW hr hx (AI (AB 1))) FL (CL (AI (AB 2)))))) (AM (BB 5 MS.nd (CL (AI (AB 4)))) (AM (FN hx.po rfl (GW (AV CA (JD (tn:=["piece"]) (cn:=["self"]) (cap:=[0]) MS.cp rfl (GW (AB 3)) (λ_ _ _ _ _ _=>(CT 0 sF)) (λ_ _ _ _ _ _=>F7) (λ_ _ _ _ _ _=>(FD (AZ (AB 1) rfl) T.B9 LF hr.m HI (AI (AB 0))))) (CL (AI (A6 (AZ (AB 0) rfl) T.B9 N5 hr hx (AI (AB 1))))))) (CT 6 MS.nd) (AL (C9 (IA PySem.F.plainAttrs_list PySem.F.slot_list_append PySem.F.type_list_append J3 (AB 5) (AI (A6 (AZ (AB 0) rfl) T.DS EW hr hx (DR (AB 6) AQ (CL (AI (AB 4)))))))))) (AL (BH (AB 5)))))))
abbrev ZY:Stmt:=BQ (BG 28) 13
theorem sG:FnScope ["self","new","given"] ["self","new","given"] (A1 ZY):=.go
theorem zef:(["text"]:List Str).Nodup:=by decide +kernel
theorem zeg(T:Txt K mg a)(zew:DT P w K mg base (1) "is_name" ["thing"] (QU K a))(N7:AU P w K mg base (a "Store") 6 "cell_of" ["self","name"] (KI K a))(F:Fun K "ask_for_new_name" "Store.ask_for_new_name" ZY f fd) :
  FP P w K mg base 7 f fd ["self","new","given"] (ME K a) :=
 F.okL (W9 K a) sG zan λ_ _ _ _ _ E hr hx=>(AM (CC (HZ (M8 (EX (T2 rfl) rfl T.aQ (by rfl) (AI (JD (tn:=["text"]) (cn:=[]) (cap:=[]) sG.cp rfl (GW (AB 2)) (λ_ _ _ _ _ _=>(CT 0 zef)) (λ_ _ _ _ _ _=>F7) (λ_ _ _ _ _ _=>(NC zew hr.m HI rfl (AI (AB 0))))))) (λ_=>rfl))) (AL (IC hx T.sT rfl T.aU (AI DJ))) CZ) (AL (CC (DC SH (A6 (AB 0) T.B0 N7 hr hx (AI (AB 1))) FL (DL _)) (AL (IC hx T.zf1 rfl T.sS (AI DJ))) CZ)))
abbrev ZZ:Stmt:=BQ (BG 28) 14
theorem sI:FnScope ["self","name","cell"] ["self","name"] (A1 ZZ):=.go
theorem zeh(T:Txt K mg a)(N7:AU P w K mg base (a "Store") 6 "cell_of" ["self","name"] (KI K a))(aM:AU P w K mg base (a "Store") 5 "name_cells" ["self"] (MD K a))(F:Fun K "record_of" "Store.record_of" ZZ f fd) :
  FP P w K mg base 7 f fd ["self","name"] (F5 K a) :=
 F.okL (XA K a) sI zas λ_ _ _ _ _ E hr hx=>(AM (BB 2 sI.nd (A6 (AB 0) T.B0 N7 hr hx (AI (AB 1)))) (AM (CC (DC OP (AB 2) FL (DL _)) (AL (IC hx T.sT rfl T.aU (AI DJ))) CZ) (AL (BH (CD CF (CD CF (ES (AB 0) T.B0 aM hr hx) (AB 2) (λ_ _=>rfl)) AQ (λ_ _=>rfl))))))
abbrev Z0:Stmt:=BQ (BG 28) 19
theorem sJ:FnScope ["self","name","needs","gone"] ["self","name","needs"] (A1 Z0):=.go
theorem zei(T:Txt K mg a)(N7:AU P w K mg base (a "Store") 6 "cell_of" ["self","name"] (KI K a))(JT:AU P w K mg base (a "Layout") 2 "name_at" ["self","k"] (GB K a))(EW:AU P w K mg base (a "Hold") 4 "change" ["self","place","value","needs"] (D1 K a))(F:Fun K "empty_cell" "Store.empty_cell" Z0 f fd) :
  FP P w K mg base 7 f fd ["self","name","needs"] (MH K a) :=
 F.okL (XB K a) sJ zax λ_ _ _ _ _ E hr hx=>(AM (BB 3 sJ.nd (A6 (AZ (AB 0) rfl) T.DS EW hr hx (DR (A6 (AZ (AB 0) rfl) T.B9 JT hr hx (AI (A6 (AB 0) T.B0 N7 hr hx (AI (AB 1))))) FL (AB 2)))) (AM (JA (DN hr) (AZ (AB 0) rfl) (AB 1) (AB 3) rfl) (AL (BH (AB 3)))))
abbrev Z1:Stmt:=BQ (BG 28) 1
theorem N0:FnScope ["self","name","record","cell","mark","stands"] ["self","name"] (A1 Z1):=.go
theorem zej(T:Txt K mg a)(aI:AU P w K mg base (a "Store") 7 "ask_for_new_name" ["self","new","given"] (ME K a))(zev:DT P w K mg base (6) "free_record" ["layout","hold"] (QR K a))(aE:DT P w K mg base (6) "free_name" ["layout","hold"] (MB K a))(N5:AU P w K mg base (a "Layout") 2 "record_mark" ["self","k"] (JI K a))(EW:AU P w K mg base (a "Hold") 4 "change" ["self","place","value","needs"] (D1 K a))(HW:AU P w K mg base (a "Layout") 2 "record_at" ["self","k"] (FU K a))(aK:AU P w K mg base (a "Store") 5 "fill_cell" ["self","cell","name","record","need"] (MF K a))(F:Fun K "make" "Store.make" Z1 f fd) :
  FP P w K mg base 8 f fd ["self","name"] (Q1 K a) :=
 F.okL (XC K a) N0 za0 λ_ _ _ _ _ E hr hx=>(AM (C9 (A6 (AB 0) T.B0 aI hr hx (BT (AB 1) (CL (AI (AB 1)))))) (AM (BB 2 N0.nd (ER zev hr hx (BT (AZ (AB 0) rfl) (AZ (AB 0) rfl)))) (AM (BB 3 N0.nd (ER aE hr hx (BT (AZ (AB 0) rfl) (AZ (AB 0) rfl)))) (AM (BB 4 N0.nd (A6 (AZ (AB 0) rfl) T.DS EW hr hx (DR (A6 (AZ (AB 0) rfl) T.B9 N5 hr hx (AI (AB 2))) AQ (CL FO)))) (AM (BB 5 N0.nd (A6 (AZ (AB 0) rfl) T.DS EW hr hx (DR (A6 (AZ (AB 0) rfl) T.B9 HW hr hx (AI (AB 2))) (E9 (BT AQ (E9 FO))) (CL (AI (AB 4)))))) (AL (BH (CL (DR (AB 4) (AB 5) (A6 (AB 0) T.B0 aK hr hx (JG (AB 3) (AB 1) (AB 2) (AB 5))))))))))))
abbrev Z2:Stmt:=BQ (BG 28) 2
theorem RS:FnScope ["self","old","new","record","cell","more"] ["self","old","new"] (A1 Z2):=.go
theorem zek(T:Txt K mg a)(aI:AU P w K mg base (a "Store") 7 "ask_for_new_name" ["self","new","given"] (ME K a))(HX:AU P w K mg base (a "Store") 7 "record_of" ["self","name"] (F5 K a))(aE:DT P w K mg base (6) "free_name" ["layout","hold"] (MB K a))(N8:AU P w K mg base (a "Store") 6 "recount" ["self","record","more","needs"] (KJ K a))(aK:AU P w K mg base (a "Store") 5 "fill_cell" ["self","cell","name","record","need"] (MF K a))(F:Fun K "link" "Store.link" Z2 f fd) :
  FP P w K mg base 8 f fd ["self","old","new"] (MI K a) :=
 F.okL (XD K a) RS za1 λ_ _ _ _ _ E hr hx=>(AM (C9 (A6 (AB 0) T.B0 aI hr hx (BT (AB 2) (CL (BT (AB 1) (AB 2)))))) (AM (BB 3 RS.nd (A6 (AB 0) T.B0 HX hr hx (AI (AB 1)))) (AM (BB 4 RS.nd (ER aE hr hx (BT (AZ (AB 0) rfl) (AZ (AB 0) rfl)))) (AM (BB 5 RS.nd (A6 (AB 0) T.B0 N8 hr hx (DR (AB 3) AQ (CL FO)))) (AL (BH (CL (BT (AB 5) (A6 (AB 0) T.B0 aK hr hx (JG (AB 4) (AB 2) (AB 3) (AB 5)))))))))))
abbrev Z3:Stmt:=BQ (BG 28) 3
theorem Z4:FnScope ["self","name","record","gone"] ["self","name"] (A1 Z3):=.go
theorem zel(T:Txt K mg a)(HX:AU P w K mg base (a "Store") 7 "record_of" ["self","name"] (F5 K a))(aJ:AU P w K mg base (a "Store") 7 "empty_cell" ["self","name","needs"] (MH K a))(GI:AU P w K mg base (a "Store") 5 "standing" ["self","record"] (FG K a))(N8:AU P w K mg base (a "Store") 6 "recount" ["self","record","more","needs"] (KJ K a))(zfh:AU P w K mg base (a "Store") 6 "drop_record" ["self","record","gone"] (Q0 K a))(F:Fun K "cut" "Store.cut" Z3 f fd) :
  FP P w K mg base 8 f fd ["self","name"] (Q2 K a) :=
 F.okL (XF K a) Z4 za3 λ_ _ _ _ _ E hr hx=>(AM (BB 2 Z4.nd (A6 (AB 0) T.B0 HX hr hx (AI (AB 1)))) (AM (BB 3 Z4.nd (A6 (AB 0) T.B0 aJ hr hx (BT (AB 1) (CL FO)))) (AM (CC (DC xK (CD CF (A6 (AB 0) T.B0 GI hr hx (AI (AB 2))) AQ (λ_ _=>rfl)) AQ (DL _)) (AL (BH (CL (BT (AB 3) (A6 (AB 0) T.B0 N8 hr hx (DR (AB 2) (bE bH AQ) (CL (AI (AB 3))))))))) CZ) (AL (BH (AV CA (CL (AI (AB 3))) (A6 (AB 0) T.B0 zfh hr hx (BT (AB 2) (AB 3)))))))))
abbrev Z5:Stmt:=BQ (BG 28) 4
theorem N1:FnScope ["self","name","text","record","piece","mark","filled"] ["self","name","text"] (A1 Z5):=.go
theorem zem(T:Txt K mg a)(HX:AU P w K mg base (a "Store") 7 "record_of" ["self","name"] (F5 K a))(zex:DT P w K mg base (2) "is_piece" ["thing"] (QW K a))(zeu:DT P w K mg base (6) "free_piece" ["layout","hold"] (QS K a))(LF:AU P w K mg base (a "Layout") 2 "piece_mark" ["self","k"] (HL K a))(EW:AU P w K mg base (a "Hold") 4 "change" ["self","place","value","needs"] (D1 K a))(N4:AU P w K mg base (a "Layout") 2 "piece_at" ["self","k"] (JH K a))(GI:AU P w K mg base (a "Store") 5 "standing" ["self","record"] (FG K a))(aN:AU P w K mg base (a "Store") 6 "regroup" ["self","record","pieces","needs"] (MG K a))(F:Fun K "put" "Store.put" Z5 f fd) :
  FP P w K mg base 8 f fd ["self","name","text"] (Q3 K a) :=
 F.okL (XG K a) N1 za4 λ_ _ _ _ _ E hr hx=>(AM (BB 3 N1.nd (A6 (AB 0) T.B0 HX hr hx (AI (AB 1)))) (AM (CC (HZ (M8 (ER zex hr hx (AI (AB 2))) (λ_=>rfl))) (AL (IC hx T.sU rfl T.aV (AI DJ))) CZ) (AM (BB 4 N1.nd (ER zeu hr hx (BT (AZ (AB 0) rfl) (AZ (AB 0) rfl)))) (AM (BB 5 N1.nd (A6 (AZ (AB 0) rfl) T.DS EW hr hx (DR (A6 (AZ (AB 0) rfl) T.B9 LF hr hx (AI (AB 4))) AQ (CL FO)))) (AM (BB 6 N1.nd (A6 (AZ (AB 0) rfl) T.DS EW hr hx (DR (A6 (AZ (AB 0) rfl) T.B9 N4 hr hx (AI (AB 4))) (AB 2) (CL (AI (AB 5)))))) (AL (BH (CL (DR (AB 5) (AB 6) (A6 (AB 0) T.B0 aN hr hx (DR (AB 3) (AV CA (CD CF (A6 (AB 0) T.B0 GI hr hx (AI (AB 3))) AQ (λ_ _=>rfl)) (E9 (AI (AB 4)))) (CL (AI (AB 6))))))))))))))
abbrev Z6:Stmt:=BQ (BG 28) 5
theorem RU:FnScope ["self","name","at","record","pieces","without"] ["self","name","at"] (A1 Z6):=.go
theorem zen(T:Txt K mg a)(HX:AU P w K mg base (a "Store") 7 "record_of" ["self","name"] (F5 K a))(GI:AU P w K mg base (a "Store") 5 "standing" ["self","record"] (FG K a))(aN:AU P w K mg base (a "Store") 6 "regroup" ["self","record","pieces","needs"] (MG K a))(LF:AU P w K mg base (a "Layout") 2 "piece_mark" ["self","k"] (HL K a))(EW:AU P w K mg base (a "Hold") 4 "change" ["self","place","value","needs"] (D1 K a))(F:Fun K "take" "Store.take" Z6 f fd) :
  FP P w K mg base 8 f fd ["self","name","at"] (Q5 K a) :=
 F.okL (XH K a) RU za7 λ_ _ _ _ _ E hr hx=>(AM (BB 3 RU.nd (A6 (AB 0) T.B0 HX hr hx (AI (AB 1)))) (AM (BB 4 RU.nd (CD CF (A6 (AB 0) T.B0 GI hr hx (AI (AB 3))) AQ (λ_ _=>rfl))) (AM (CC (HZ (M7 F9 IE AQ (AB 2) (EX GU rfl T.HA (by rfl) (AI (AB 4))))) (AL (IC hx T.sU rfl T.aV (AI DJ))) CZ) (AM (BB 5 RU.nd (A6 (AB 0) T.B0 aN hr hx (DR (AB 3) (AV CA (NA NG (AB 4) OT (LP (AB 2))) (NA NG (AB 4) (LP (AV CA (AB 2) AQ)) OT)) (CL FO)))) (AL (BH (CL (BT (AB 5) (A6 (AZ (AB 0) rfl) T.DS EW hr hx (DR (A6 (AZ (AB 0) rfl) T.B9 LF hr hx (AI (CD CF (AB 4) (AB 2) (λ_ _=>rfl)))) AQ (CL (AI (AB 5)))))))))))))
abbrev Z7:Stmt:=BQ (BG 28) 8
theorem Z8:FnScope ["self","name","pieces"] ["self","name"] (A1 Z7):=.go
theorem zeo(T:Txt K mg a)(HX:AU P w K mg base (a "Store") 7 "record_of" ["self","name"] (F5 K a))(GI:AU P w K mg base (a "Store") 5 "standing" ["self","record"] (FG K a))(N4:AU P w K mg base (a "Layout") 2 "piece_at" ["self","k"] (JH K a))(LE:AU P w K mg base (a "Hold") 4 "in_hand" ["self","place"] (II K a))(F:Fun K "texts" "Store.texts" Z7 f fd) :
  FP P w K mg base 8 f fd ["self","name"] (Q4 K a) :=
 F.okL (XI K a) Z8 za5 λ_ _ _ _ _ E hr hx=>(AM (BB 2 Z8.nd (CD CF (A6 (AB 0) T.B0 GI hr hx (AI (A6 (AB 0) T.B0 HX hr hx (AI (AB 1))))) AQ (λ_ _=>rfl))) (AL (BH (JD (tn:=["piece"]) (cn:=["self"]) (cap:=[0]) Z8.cp rfl (GW (AB 2)) (λ_ _ _ _ _ _=>(CT 0 sF)) (λ_ _ _ _ _ _=>F7) (λ_ _ _ _ _ _=>(FD (AZ (AB 1) rfl) T.DS LE hr.m HI (AI (FD (AZ (AB 1) rfl) T.B9 N4 hr.m HI (AI (AB 0))))))))))
abbrev Z9:Stmt:=BQ (BG 28) 6
theorem RV:FnScope ["self","old","new","linked","record","gone"] ["self","old","new"] (A1 Z9):=.go
theorem zep(T:Txt K mg a)(aL:AU P w K mg base (a "Store") 8 "link" ["self","old","new"] (MI K a))(HX:AU P w K mg base (a "Store") 7 "record_of" ["self","name"] (F5 K a))(aJ:AU P w K mg base (a "Store") 7 "empty_cell" ["self","name","needs"] (MH K a))(N8:AU P w K mg base (a "Store") 6 "recount" ["self","record","more","needs"] (KJ K a))(F:Fun K "move" "Store.move" Z9 f fd) :
  FP P w K mg base 9 f fd ["self","old","new"] (Q6 K a) :=
 F.okL (XJ K a) RV za9 λ_ _ _ _ _ E hr hx=>(AM (BB 3 RV.nd (A6 (AB 0) T.B0 aL hr hx (BT (AB 1) (AB 2)))) (AM (BB 4 RV.nd (A6 (AB 0) T.B0 HX hr hx (AI (AB 1)))) (AM (BB 5 RV.nd (A6 (AB 0) T.B0 aJ hr hx (BT (AB 1) (CL (AI (GZ (AB 3))))))) (AL (BH (AV CA (AB 3) (CL (BT (AB 5) (A6 (AB 0) T.B0 N8 hr hx (DR (AB 4) (bE bH AQ) (CL (AI (AB 5)))))))))))))
abbrev aA:Stmt:=BG 41
theorem sK:FnScope ["store","led","ever","versions","name"] ["store","led","ever","versions"] (A1 aA):=.go
theorem zeq(T:Txt K mg a)(zfm:AU P w K mg base (a "Store") 8 "texts" ["self","name"] (Q4 K a))(F:Fun K "_law_seen" "_law_seen" aA f fd) :
  FP P w K mg base 9 f fd ["store","led","ever","versions"] (NT K a) :=
 F.okL (XL K a) sK zby λ_ _ _ _ _ E hr hx=>(AL (fH hx.po rfl (AB 1) (CT 4 sK.nd) (AM (JA (DN hr) (J6 (DN hr) (AB 2) (AB 4) (λ_ _=>rfl)) (J6 (DN hr) (AB 1) (AB 4) (λ_ _=>rfl)) IR rfl) (AL (C9 (IA PySem.F.plainAttrs_list PySem.F.slot_list_append PySem.F.type_list_append J3 (CD CF (AB 3) (J6 (DN hr) (AB 1) (AB 4) (λ_ _=>rfl)) (λ_ _=>rfl)) (AI (A6 (AB 0) T.B0 zfm hr hx (AI (AB 4))))))))))
abbrev aB:Stmt:=BG 38
theorem MT:FnScope ["store","kind","one","other","cell","refused"] ["store","kind","one","other","cell"] (A1 aB):=.go
theorem zer(T:Txt K mg a)(zfi:AU P w K mg base (a "Store") 8 "make" ["self","name"] (Q1 K a))(aL:AU P w K mg base (a "Store") 8 "link" ["self","old","new"] (MI K a))(zfg:AU P w K mg base (a "Store") 8 "cut" ["self","name"] (Q2 K a))(ze5:DT P w K mg base (1) "_law_text" ["cell"] (Q8 K a))(zfk:AU P w K mg base (a "Store") 8 "put" ["self","name","text"] (Q3 K a))(zez:DT P w K mg base (1) "_law_at" ["cell"] (Q9 K a))(zfl:AU P w K mg base (a "Store") 8 "take" ["self","name","at"] (Q5 K a))(zfj:AU P w K mg base (a "Store") 9 "move" ["self","old","new"] (Q6 K a))(F:Fun K "_law_done" "_law_done" aB f fd) :
  FP P w K mg base 10 f fd ["store","kind","one","other","cell"] (NR K a) :=
 F.okL (XR K a) MT zbm λ_ _ _ _ _ E hr hx=>(AM (BB 5 MT.nd DJ) (AM (w5 rfl rfl rfl rfl (λE1 _ _ hx1=>(AL (CC (DC IE (AB 1) AQ (DL _)) (AL (C9 (FD (AB 0) T.B0 zfi hr.m hx1.passes (AI (AB 2))))) (AL (CC (DC (ID hr.units) (AB 1) AQ (DL _)) (AL (C9 (FD (AB 0) T.B0 aL hr.m hx1.passes (BT (AB 2) (AB 3))))) (AL (CC (DC (ID hr.units) (AB 1) AQ (DL _)) (AL (C9 (FD (AB 0) T.B0 zfg hr.m hx1.passes (AI (AB 2))))) (AL (CC (DC IE (AB 1) AQ (DL _)) (AL (C9 (FD (AB 0) T.B0 zfk hr.m hx1.passes (BT (AB 2) (NC ze5 hr.m hx1.passes rfl (AI (AB 4))))))) (AL (CC (DC (ID hr.units) (AB 1) AQ (DL _)) (AL (C9 (FD (AB 0) T.B0 zfl hr.m hx1.passes (BT (AB 2) (NC zez hr.m hx1.passes rfl (AI (AB 4))))))) (AL (C9 (FD (AB 0) T.B0 zfj hr.m hx1.passes (BT (AB 2) (AB 3)))))))))))))))) (O3 (O2 rfl T.aU) (λ_=>(AL (BB 5 MT.nd DJ))) (O3 (O2 rfl T.sS) (λ_=>(AL (BB 5 MT.nd DJ))) (O3 (O2 rfl T.aV) (λ_=>(AL (BB 5 MT.nd DJ))) (O3 (O2 rfl T.sR) (λ_=>(AL (BB 5 MT.nd DJ))) wX))))) (AL (BH (AB 5)))))
abbrev aC:Stmt:=BG 43
theorem FX:FnScope ["script","cell","layout","plank","store","names","ever","name","led","versions","kind","one","other","block"] ["script"] (A1 aC):=.go
theorem zes(T:Txt K mg a)(ze0:DT P w K mg base (1) "_law_cell_at" ["script","k"] (L9 K a))(zfp:K1 P w K mg base (a "Layout") 1 "Layout" ["self","names","records","pieces","cells"] (QC K a))(zfd:AU P w K mg base (a "Layout") 3 "plank" ["self"] (QD K a))(zfr:K1 P w K mg base (a "Store") 4 "Store" ["self","layout","plank"] (QY K a))(ze3:DT P w K mg base (1) "_law_names" ["cell"] (Q7 K a))(MU:AU P w K mg base (a "Layout") 2 "blocks" ["self"] (JJ K a))(sN:AU P w K mg base (a "Store") 4 "write" ["self","block"] (MJ K a))(sL:DT P w K mg base (3) "_law_plank" ["layout","plank"] (MK K a))(sM:DT P w K mg base (3) "_law_there" ["layout","there","ever","versions"] (ML K a))(ze1:DT P w K mg base (10) "_law_done" ["store","kind","one","other","cell"] (NR K a))(ze2:DT P w K mg base (1) "_law_followed" ["led","kind","one","other","made"] (NS K a))(ze4:DT P w K mg base (9) "_law_seen" ["store","led","ever","versions"] (NT K a))(F:Fun K "law" "law" aC f fd) :
  FP P w K mg base 11 f fd ["script"] (gH K a) :=
 F.okL (XU K a) FX zb1 λ_ _ _ _ _ E hr hx=>(AM (BB 1 FX.nd (ER ze0 hr hx (BT (AB 0) AQ))) (AM (BB 2 FX.nd (ND zfp hr.m hx.passes rfl (JG (AV CA AQ (AV C7 (AB 1) AQ)) (AV CA AQ (AV C7 (AV DK (AB 1) AQ) AQ)) (AV CA AQ (AV C7 (AV DK (AB 1) AQ) AQ)) (AV CA AQ (AV C7 (AV DK (AB 1) AQ) AQ))))) (AM (BB 3 FX.nd (ES (AB 2) T.B9 zfd hr hx)) (AM (BB 4 FX.nd (ND zfr hr.m hx.passes rfl (BT (AB 2) (AB 3)))) (AM (BB 5 FX.nd (ER ze3 hr hx (AI (AV DK (AB 1) AQ)))) (AM (BB 6 FX.nd K0) (AM (FN hx.po rfl (GW (AB 5)) (CT 7 FX.nd) (AL (JA (DN hr) (AB 6) (AB 7) K0 rfl))) (AM (BB 8 FX.nd K0) (AM (BB 9 FX.nd (CL FO)) (AM (FN hx.po rfl (GW (NA NG (AB 0) (LP AQ) (LP AQ))) (CT 1 FX.nd) (AM (CC (DC (ID hr.units) (AV C7 (AB 1) AQ) AQ (DL _)) (AM (C9 (A6 (AB 4) T.B0 sN hr hx (AI (AV C7 (AV DK (AB 1) AQ) (ES (AB 2) T.B9 MU hr hx))))) (AM (CC (HZ (M8 (ER sM hr hx (JG (AB 2) (ER sL hr hx (BT (AB 2) (AB 3))) (AB 6) (AB 9))) (λ_=>rfl))) (AL (BH IR)) CZ) (AL tT))) CZ) (AM (BB 10 FX.nd (AV C7 (AV DK (AB 1) AQ) AQ)) (AM (BB 11 FX.nd (CD CF (AB 5) (AV C7 (AV DK (AB 1) AQ) AQ) (λ_ _=>rfl))) (AM (BB 12 FX.nd (CD CF (AB 5) (AV C7 (AV DK (AB 1) AQ) AQ) (λ_ _=>rfl))) (AL (CC (DC (ID hr.units) (ER ze1 hr hx (IV (AB 4) (JG (AB 10) (AB 11) (AB 12) (AV DK (AB 1) AQ)))) DJ (DL _)) (AM (CC (DC IE (AB 10) AQ (DL _)) (AL (C9 (IA PySem.F.plainAttrs_list PySem.F.slot_list_append PySem.F.type_list_append J3 (AB 9) (AI (CL FO))))) CZ) (AM (C9 (ER ze2 hr hx (IV (AB 8) (JG (AB 10) (AB 11) (AB 12) (AV OO (EX GU rfl T.HA (by rfl) (AI (AB 9))) AQ))))) (AL (C9 (ER ze4 hr hx (JG (AB 4) (AB 8) (AB 6) (AB 9))))))) CZ))))))) (AM (FN hx.po rfl (GK rfl T.HB (AI (ES (AB 2) T.B9 MU hr hx))) (CT 13 FX.nd) (AM (C9 (A6 (AB 4) T.B0 sN hr hx (AI (AB 13)))) (AL (CC (HZ (M8 (ER sM hr hx (JG (AB 2) (ER sL hr hx (BT (AB 2) (AB 3))) (AB 6) (AB 9))) (λ_=>rfl))) (AL (BH IR)) CZ)))) (AL (BH IR)))))))))))))
end
end L2
namespace L2
theorem zet(q39 q3a q3b q3c q3d q3e q3f q3g q3h q3i q3j:Addr):∃ a:Ad,a "NoBlock"=q39/\a "NoChange"=q3a/\a "NoRoom"=q3b/\a "NoName"=q3c/\a "Twice"=q3d/\a "NoPiece"=q3e/\a "Change"=q3f/\a "Hold"=q3g/\a "Store"=q3h/\a "Plank"=q3i/\a "Layout"=q3j :=
 ⟨λs=>if s="NoBlock" then q39 else if s="NoChange" then q3a else if s="NoRoom" then q3b else if s="NoName" then q3c else if s="Twice" then q3d else if s="NoPiece" then q3e else if s="Change" then q3f else if s="Hold" then q3g else if s="Store" then q3h else if s="Plank" then q3i else if s="Layout" then q3j else 0,by simp⟩
def aD(K:W.Frag):Sp:=λvs H Q _=>∃ (s:Addr) (ns:List Int),vs=[.ref s]/\SqL K H s (ns.map V.int)/\ns.length<=63/\∀ H',Q (.bl true) H'
theorem all_mk{l:W.OpenLaw}{w:World}{K:W.Frag}{h:Heap}{mg:Str->Option Value}{fa:Addr}{q39 q3a q3b q3c q3d q3e q3f q3g q3h q3i q3j:Addr}{tk_MOST_LETTERS:Tok}{tk_MOST_PIECE_SIGNS:Tok}{tk_PERCENT:Tok}(X:K.In h)(G:h.Ns mainGlobals mg)(hfa:mg "law"=some (.ref fa))
  (q0:GX K q39 "NoBlock")
  (q1:GX K q3a "NoChange")
  (q2:GX K q3b "NoRoom")
  (q3:GX K q3c "NoName")
  (q4:GX K q3d "Twice")
  (q5:GX K q3e "NoPiece")
  (q6:GC K q3f "Change")
  (q7:GC K q3g "Hold")
  (q8:GC K q3h "Store")
  (q9:GC K q3i "Plank")
  (qa:GC K q3j "Layout")
  (qb:W.nsIn K mainGlobals "MOST_LETTERS"=some (some (.int 8 tk_MOST_LETTERS)))
  (qc:W.nsIn K mainGlobals "MOST_PIECE_SIGNS"=some (some (.int 40 tk_MOST_PIECE_SIGNS)))
  (qd:W.nsIn K mainGlobals "PERCENT"=some (some (.int 37 tk_PERCENT)))
  (qe:W.nsIn K mainGlobals "all"=some none)
  (qf:W.nsIn K mainGlobals "dict"=some none)
  (qg:W.nsIn K mainGlobals "enumerate"=some none)
  (qh:W.nsIn K mainGlobals "len"=some none)
  (qi:W.nsIn K mainGlobals "list"=some none)
  (qj:W.nsIn K mainGlobals "ord"=some none)
  (qk:W.nsIn K mainGlobals "range"=some none)
  (ql:W.nsIn K mainGlobals "set"=some none)
  (qm:W.nsIn K mainGlobals "sorted"=some none)
  (qn:W.nsIn K mainGlobals "tuple"=some none)
  (qo:GF K "law" aC)
  (qp:GM K q3i "blocks" "Plank.blocks" YI)
  (qq:GM K q3i "cells" "Plank.cells" YJ)
  (qr:GM K q3g "lack_of" "Hold.lack_of" YC)
  (qs:GF K "is_sign" YF)
  (qt:GM K q3i "ask_for_block" "Plank.ask_for_block" YK)
  (qu:GM K q3j "place_from" "Layout.place_from" YO)
  (qv:GM K q3j "blocks_ahead_of_marks" "Layout.blocks_ahead_of_marks" YN)
  (qw:GM K q3g "ask_for_place" "Book.ask_for_place" YW)
  (qx:GM K q3i "read" "Plank.read" YZ)
  (qy:GM K q3g "outcome" "Hold.outcome" YX)
  (qz:GM K q3g "laid_over" "Hold.laid_over" YD)
  (q10:GM K q3i "write" "Plank.write" Y0)
  (q11:GM K q3j "blocks" "Layout.blocks" Y6)
  (q12:GN K q3i "Plank" "Plank.__init__" YH)
  (q13:GM K q3j "counts" "Layout.counts" YM)
  (q14:GM K q3j "name_at" "Layout.name_at" Y1)
  (q15:GM K q3j "record_at" "Layout.record_at" Y2)
  (q16:GM K q3j "piece_at" "Layout.piece_at" Y3)
  (q17:GM K q3g "newest" "Book.newest" Y7)
  (q18:GM K q3g "ask_for_changes" "Book.ask_for_changes" YA)
  (q19:GF K "needs_with" YB)
  (q1a:GN K q3f "Change" "Change.__init__" X9)
  (q1b:GN K q3g "Hold" "Book.__init__" YV)
  (q1c:GM K q3g "write" "Hold.write" Y8)
  (q1d:GM K q3g "in_hand" "Book.in_hand" ZE)
  (q1e:GM K q3g "change" "Book.change" ZC)
  (q1f:GF K "lowest_with" ZH)
  (q1g:GM K q3j "record_mark" "Layout.record_mark" Y4)
  (q1h:GM K q3j "piece_mark" "Layout.piece_mark" Y5)
  (q1i:GM K q3h "name_cells" "Store.name_cells" ZJ)
  (q1j:GM K q3h "standing" "Store.standing" ZK)
  (q1k:GF K "is_name" YG)
  (q1l:GM K q3h "cell_of" "Store.cell_of" ZT)
  (q1m:GM K q3h "ask_for_new_name" "Store.ask_for_new_name" ZY)
  (q1n:GF K "free_record" ZP)
  (q1o:GF K "free_name" ZM)
  (q1p:GM K q3h "fill_cell" "Store.fill_cell" ZL)
  (q1q:GM K q3h "record_of" "Store.record_of" ZZ)
  (q1r:GM K q3h "recount" "Store.recount" ZV)
  (q1s:GM K q3h "empty_cell" "Store.empty_cell" Z0)
  (q1t:GM K q3h "drop_record" "Store.drop_record" ZX)
  (q1u:GF K "is_piece" YY)
  (q1v:GF K "free_piece" ZR)
  (q1w:GM K q3h "regroup" "Store.regroup" ZW)
  (q1x:GM K q3h "link" "Store.link" Z2)
  (q1y:GM K q3h "texts" "Store.texts" Z7)
  (q1z:GM K q3h "make" "Store.make" Z1)
  (q20:GM K q3h "cut" "Store.cut" Z3)
  (q21:GF K "_law_text" YS)
  (q22:GM K q3h "put" "Store.put" Z5)
  (q23:GF K "_law_at" YT)
  (q24:GM K q3h "take" "Store.take" Z6)
  (q25:GM K q3h "move" "Store.move" Z9)
  (q26:GF K "_law_cell_at" YQ)
  (q27:GN K q3j "Layout" "Layout.__init__" YL)
  (q28:GM K q3j "plank" "Layout.plank" Y9)
  (q29:GN K q3h "Store" "Store.__init__" ZF)
  (q2a:GF K "_law_names" YR)
  (q2b:GM K q3h "write" "Store.write" ZG)
  (q2c:GF K "_law_plank" ZA)
  (q2d:GF K "_law_there" ZB)
  (q2e:GF K "_law_done" aB)
  (q2f:GF K "_law_followed" YU)
  (q2g:GF K "_law_seen" aA)
  (q2h:W.findIn K (.ref q3i) "contents"=some none)
  (q2i:W.findIn K (.ref q3i) "width"=some none)
  (q2j:W.findIn K (.ref q3i) "written"=some none)
  (q2k:W.findIn K (.ref q3g) "ground"=some none)
  (q2l:W.findIn K (.ref q3g) "made"=some none)
  (q2m:W.findIn K (.ref q3g) "made_in"=some none)
  (q2n:W.findIn K (.ref q3g) "latest"=some none)
  (q2o:W.findIn K (.ref q3g) "outs"=some none)
  (q2p:W.findIn K (.ref q3f) "place"=some none)
  (q2q:W.findIn K (.ref q3f) "value"=some none)
  (q2r:W.findIn K (.ref q3f) "needs"=some none)
  (q2s:W.findIn K (.ref q3j) "name_blocks"=some none)
  (q2t:W.findIn K (.ref q3j) "record_blocks"=some none)
  (q2u:W.findIn K (.ref q3j) "piece_blocks"=some none)
  (q2v:W.findIn K (.ref q3j) "width"=some none)
  (q2w:W.findIn K (.ref q3h) "plan"=some none)
  (q2x:W.findIn K (.ref q3h) "book"=some none)
  (q2y:W.findIn K (.ref q3h) "taken_out"=some none)
  (q2z:W.exmOne K (.ref q3c) (.ref q3c)=some true)
  (q30:W.exmOne K (.ref q3d) (.ref q3c)=some false)
  (q31:W.exmOne K (.ref q3d) (.ref q3d)=some true)
  (q32:W.exmOne K (.ref q3e) (.ref q3c)=some false)
  (q33:W.exmOne K (.ref q3e) (.ref q3d)=some false)
  (q34:W.exmOne K (.ref q3e) (.ref q3e)=some true)
  (q35:W.exmOne K (.ref q3b) (.ref q3c)=some false)
  (q36:W.exmOne K (.ref q3b) (.ref q3d)=some false)
  (q37:W.exmOne K (.ref q3b) (.ref q3e)=some false)
  (q38:W.exmOne K (.ref q3b) (.ref q3b)=some true) :
  ∃ fd:FuncData,(∀ (s:Shared) (v:Value),BindsTo s fd ⟨[v],[]⟩ [("script",v)])/\∀ base:Heap,K.In base->base.Ns mainGlobals mg->FnOk l.prog w K mg base (D5 l.prog w) 11 fa fd ["script"] (aD K):=by
 obtain⟨a,rfl,rfl,rfl,rfl,rfl,rfl,rfl,rfl,rfl,rfl,rfl⟩:=zet q39 q3a q3b q3c q3d q3e q3f q3g q3h q3i q3j
 have T:Txt K mg a:=⟨q6.c,q7.c,qa.c,q9.c,q8.c,⟨_,W.mg_of X G qb,_,rfl⟩,⟨_,W.mg_of X G qc,_,rfl⟩,W.mg_of X G q0.ac,⟨_,W.mg_of X G q0.ac,rfl⟩,⟨q0.ex⟩,W.mg_of X G q1.ac,⟨_,W.mg_of X G q1.ac,rfl⟩,⟨q1.ex⟩,W.mg_of X G q3.ac,⟨_,W.mg_of X G q3.ac,rfl⟩,⟨q3.ex⟩,W.mg_of X G q5.ac,⟨_,W.mg_of X G q5.ac,rfl⟩,⟨q5.ex⟩,W.mg_of X G q2.ac,⟨_,W.mg_of X G q2.ac,rfl⟩,⟨q2.ex⟩,⟨_,W.mg_of X G qd,_,rfl⟩,W.mg_of X G q4.ac,⟨_,W.mg_of X G q4.ac,rfl⟩,⟨q4.ex⟩,W.mg_none_of X G qe,W.mg_none_of X G qf,W.mg_none_of X G qg,W.mg_none_of X G qh,W.mg_none_of X G qi,W.mg_none_of X G qj,W.mg_none_of X G qk,W.mg_none_of X G ql,W.mg_none_of X G qm,W.mg_none_of X G qn⟩
 have TPk:ED K a:=⟨T.IP,q2h,q2i,q2j⟩
 have TBk:fR K (a "Hold") (a "Change"):=⟨T.DS,q2k,q2l,q2m,q2n,q2o,T.zfu,q2p,q2q,q2r⟩
 have TLy:DZ K a:=⟨T.B9,q2s,q2t,q2u,q2v⟩
 have TSt:QX K a:=⟨T.B0,q2w,q2x,q2y⟩
 have TRm:TD K a:=⟨q2z,q30,q31,q32,q33,q34,q35,q36,q37,q38⟩
 obtain⟨fd,hb,F⟩:=qo.law X G hfa (λ_ _ _ _ _ _ _ _=>.of_eq rfl)
 refine⟨fd,hb,λbase _ _=> ?_⟩
 have q45:=q1a.cal X G (zb3 l.prog w base T)
 have q43:=q18.cal (zb4 l.prog w base T)
 have q44:=q19.cal X G (zb6 l.prog w base T)
 have q3m:=qr.cal (zb7 l.prog w base T)
 have q3u:=qz.cal (zb8 l.prog w base T)
 have q3n:=qs.cal X G (zca l.prog w base T)
 have q4f:=q1k.cal X G (zcb l.prog w base T)
 have q3x:=q12.cal X G (zcd l.prog w base T)
 have q3k:=qp.cal (zcf l.prog w base T)
 have q3l:=qq.cal (zch l.prog w base T)
 have q3o:=qt.cal (zcj l.prog w base T)
 have q52:=q27.cal X G (zcl l.prog w base T)
 have q3y:=q13.cal (zcn l.prog w base T)
 have q3q:=qv.cal (zcp l.prog w base T)
 have q3p:=qu.cal (zcr l.prog w base T)
 have q51:=q26.cal X G (zct l.prog w base T)
 have q55:=q2a.cal X G (zcu l.prog w base T)
 have q4w:=q21.cal X G (zcw l.prog w base T)
 have q4y:=q23.cal X G (zcy l.prog w base T)
 have q5a:=q2f.cal X G (zc0 l.prog w base T)
 have q46:=q1b.cal X G (zc2 l.prog w base T q3k)
 have q3r:=qw.cal (zc4 l.prog w base T q3l q3k)
 have q3t:=qy.cal (zc5 l.prog w base T q3m)
 have q4p:=q1u.cal X G (zc6 l.prog w base T q3n)
 have q3s:=qx.cal (zc8 l.prog w base T q3o)
 have q3v:=q10.cal (zda l.prog w base T q3o)
 have q3z:=q14.cal (zdc l.prog w base T q3p)
 have q40:=q15.cal (zde l.prog w base T q3p)
 have q41:=q16.cal (zdg l.prog w base T q3p)
 have q4b:=q1g.cal (zdi l.prog w base T q3q q3p)
 have q4c:=q1h.cal (zdk l.prog w base T q3q q3p)
 have q3w:=q11.cal (zdm l.prog w base T q3q)
 have q42:=q17.cal (zdo l.prog w base T q3r)
 have q47:=q1c.cal (zdp l.prog w base T q3s q3t q3u q3v)
 have q53:=q28.cal (zdr l.prog w base T q3w q3x)
 have q57:=q2c.cal X G (zds l.prog w base T q3w q3s)
 have q58:=q2d.cal X G (zdu l.prog w base T q3y q3z q40 q41)
 have q49:=q1e.cal (zdv l.prog w base T q42 q43 q44 q45)
 have q48:=q1d.cal (zdw l.prog w base T q42 q3s)
 have q54:=q29.cal X G (zdy l.prog w base T q46)
 have q56:=q2b.cal (zd0 l.prog w base T q47)
 have q4a:=q1f.cal X G (zd1 l.prog w base T q48)
 have q4d:=q1i.cal (zd3 l.prog w base T q3y q3z q48)
 have q4e:=q1j.cal (zd5 l.prog w base T q40 q48)
 have q4k:=q1p.cal (zd6 l.prog w base T q3z q49)
 have q4j:=q1o.cal X G (zd7 l.prog w base T q3y q3z q4a)
 have q4i:=q1n.cal X G (zd8 l.prog w base T q3y q4b q4a)
 have q4q:=q1v.cal X G (zd9 l.prog w base T q3y q4c q4a)
 have q4g:=q1l.cal (zea l.prog w base T q4d)
 have q4m:=q1r.cal (zeb l.prog w base T q4e q40 q49)
 have q4r:=q1w.cal (zed l.prog w base T q4e q40 q49)
 have q4o:=q1t.cal (zee l.prog w base T q4e q40 q49 q4c q4b)
 have q4h:=q1m.cal (zeg l.prog w base T q4f q4g)
 have q4l:=q1q.cal (zeh l.prog w base T q4g q4d)
 have q4n:=q1s.cal (zei l.prog w base T q4g q3z q49)
 have q4u:=q1z.cal (zej l.prog w base T q4h q4i q4j q4b q49 q40 q4k)
 have q4s:=q1x.cal (zek l.prog w base T q4h q4l q4j q4m q4k)
 have q4v:=q20.cal (zel l.prog w base T q4l q4n q4e q4m q4o)
 have q4x:=q22.cal (zem l.prog w base T q4l q4p q4q q4c q49 q41 q4e q4r)
 have q4z:=q24.cal (zen l.prog w base T q4l q4e q4r q4c q49)
 have q4t:=q1y.cal (zeo l.prog w base T q4l q4e q41 q48)
 have q50:=q25.cal (zep l.prog w base T q4s q4l q4n q4m)
 have q5b:=q2g.cal X G (zeq l.prog w base T q4t)
 have q59:=q2e.cal X G (zer l.prog w base T q4u q4s q4v q4w q4x q4y q4z q50)
 exact(zes l.prog w base T q51 q52 q53 q54 q55 q3w q56 q57 q58 q59 q5a q5b F).imp (λvs H Q E ⟨s,ns,e,hs,hn,q⟩=>⟨s,ns,e,⟨TBk,TPk,TLy,TSt⟩,TRm,hs,hn,q⟩)
theorem walk{l:W.OpenLaw}{q:Program}{loose:List Str}{XP:(Str->Option Value)->Heap->Prop}{YP:World->Heap->Prop}{d:DefRec}{K:Params->W.Frag}(hn:l.most=some 63)(hdf:d.params.defaults=[])
  (hY:∀ (w:World) (h:Heap),YP w h->(K w.params).In h)
  (F:∀ (w:World) (mg:Str->Option Value) (fa:Addr) (h:Heap),(K w.params).In h->h.Ns mainGlobals mg->mg d.name=some (.ref fa) →
   ∃ fd:FuncData,(∀ (s:Shared) (u:Value),BindsTo s fd ⟨[u],[]⟩ [("script",u)])/\∀ base:Heap,(K w.params).In base->base.Ns mainGlobals mg->FnOk l.prog w (K w.params) mg base (D5 l.prog w) 11 fa fd ["script"] (aD (K w.params))) :
  W.WalkO q loose XP YP l.row.toRowW d [] (λf vs=>PySem.call f vs) :=
 L2.walk_of (n:=63) (k:=11) (x:="script") (CX:=λw=>D5 l.prog w) (sp:=λw=>aD (K w.params)) hn (by decide) hdf ⟨rfl,by decide,by decide⟩ hY F (λ_ _ a ns hl _ hS=>⟨a,ns,rfl,hS,hl,λ_=>rfl⟩) λ_ _ _ _ _ z=>dG z
end L2
namespace PySem.W.Fast
def tw17696420169837819268:=()
def tw8188819003565654458:=()
def tw14364781447978692413:=()
def tw7301345579583472165:=()
def tw15563827023960412909:=()
def tw9349783831006382510:=()
def tw4720724521488382266:=()
def tw12734504448201190541:=()
def tw12056522781757067374:=()
def tw17839306081419691313:=()
def tw4791216615675679303:=()
def tw5856148448096825187:=()
def tw16640800388675059807:=()
def tw9677507859194020760:=()
def tw15701615427184114187:=()
def tw9838402191109490109:=()
def tw9134676073432253606:=()
def tw7059130124342064177:=()
def tw11714247149913603952:=()
def tw14168822701107659018:=()
def tw12373734936040255217:=()
def tw3661328556330008343:=()
def tw6335674528369891860:=()
def tw5432425374050854079:=()
def tw8995034018151628019:=()
def tw10721077763596718067:=()
def tw17173884010183020719:=()
def tw8613043325955355690:=()
def tw3147077020263296030:=()
def tw7177355743058769688:=()
def tw14648297089531511500:=()
def tw6357495980249751455:=()
def tw16108511627297155955:=()
def tw2413899686353318631:=()
def tw1379041226574654376:=()
def tw11423675713005040546:=()
def tw641766708136469579:=()
def tw11285086562537528662:=()
def tw13649529053016200535:=()
def tw7081903243028277459:=()
def tw17887522355191146208:=()
def tw7832729819884105997:=()
def tw8948215129691894829:=()
def tw15636997900697977533:=()
def tw14926261585101009056:=()
def tw7524010828359198018:=()
def tw13368736215945141660:=()
def tw2007285867149906549:=()
def tw11490057765277384757:=()
def tw3543302418149094761:=()
def tw7659448596430183161:=()
def tw15300702617812641804:=()
def tw17984352831472275501:=()
def tw9144264667664185196:=()
def tw6819696639279934510:=()
def tw2851049016304262771:=()
def tw16685199806543769306:=()
def tw16565529006248299100:=()
def tw17873702056470321143:=()
def tw8499105909113354551:=()
def tw5883835723071228172:=()
def tw12525173120696479245:=()
def tw11060960984109118258:=()
def tw915587935543479326:=()
def tw1050923257623086492:=()
def tw1536373981972700992:=()
def tw13715573463861950302:=()
def tw7280695488152032358:=()
def tw17648395382250614249:=()
def tw7183549705829547691:=()
def tw16177663970477336369:=()
def tw16162352706321537663:=()
def tw2207827048751888560:=()
def tw9659046086249936031:=()
def tw4039186766764651346:=()
def tw8989850615191541398:=()
def tw16157334851845365279:=()
def tw12929656653517050360:=()
def tw7110343670066416814:=()
def tw1935174918503514049:=()
def tw13664997703743316079:=()
def tw11815153645142742952:=()
def tw3657134997388958687:=()
def tw8285552059482640306:=()
def tw18119723230293672141:=()
def tw8525659195927841728:=()
def tw3162316908986063394:=()
def tw10816409041457176982:=()
def tw13693692671289716382:=()
def tw16296221542887218142:=()
def tw8296160541996111318:=()
def tw3555388414251045940:=()
def tw17056781594478347702:=()
def tw9050294983507377083:=()
def tw6257177494710675673:=()
def tw6930195423841640998:=()
def tw10816453665985009587:=()
def tw7299451587278904363:=()
def tw13167102970449482259:=()
def tw15601564197843001709:=()
def tw16041923881637456057:=()
def tw4979328498822729485:=()
def tw13662137318652194946:=()
def tw8435525114289643038:=()
def tw5444530565130846771:=()
def tw6363671256425173308:=()
def tw3872056533006912370:=()
def tw1970371187638638801:=()
def tw16125120617006924975:=()
def tw7463437225333427038:=()
def tw7790375910664177334:=()
def tw8373055578346647088:=()
def tw12641641466523718427:=()
def tw10702014167052203214:=()
def tw8336161930986770891:=()
def tw16187451785478299436:=()
def tw8543444847789713592:=()
def tw2587030824460795799:=()
def tw6909626695990739105:=()
def tw6328726332468264656:=()
def tw4962660849168175595:=()
def tw3351034489009167742:=()
def tw4023118480524626581:=()
def tw1595494971381673878:=()
def tw10921699574788651961:=()
def tw12269363803250614362:=()
def tw4548667245331422856:=()
def tw14061408648384761756:=()
def tw6701532064290940370:=()
def tw16439145955239508062:=()
def tw1392604024958242385:=()
def tw1876272566812713875:=()
def tw3591638844310365549:=()
def tw15811828384056636291:=()
def tw15070070082113510755:=()
def tw10240125833407372170:=()
def tw15920943348595369306:=()
def tw14399954260540253082:=()
def tw17165100946630579:=()
def tw13878953578688554936:=()
def tw15196217776436265797:=()
def tw12659038191743408176:=()
def tw930591142095993633:=()
def tw10214943202995051039:=()
def tw8534196614167272777:=()
def tw17487667212417053152:=()
def tw2591485821902438067:=()
def tw10264523346859461666:=()
def tw6496878061452024755:=()
def tw15847339456833927219:=()
def tw8772435561612943399:=()
def tw1928805167330867790:=()
def tw10317847248792857529:=()
def tw5742587226138990291:=()
def tw13019179246656774810:=()
def tw3892349311714779001:=()
def tw1855187417290282986:=()
def tw2548104857675879836:=()
def tw13562125860367873082:=()
def tw9753804966209416507:=()
def tw7992323494188354864:=()
def tw16920055574135582340:=()
def tw7145948592418051601:=()
def tw13233975029713797513:=()
def tw405331722574909931:=()
def tw7679014777488501540:=()
def tw12821165944264769969:=()
def tw18233136726729177395:=()
def tw4360110629897219363:=()
def tw17334542528040408785:=()
def tw16280436111647259355:=()
def tw17307137598475449583:=()
def tw1977280961292091329:=()
def tw1634960847633096014:=()
def tw16872077767585473517:=()
def tw17463755251659249130:=()
def tw4852702891948034739:=()
def tw1395938587814155891:=()
def tw5838172343210831540:=()
def tw11588013870981273097:=()
def tw8753472705655643289:=()
def tw5111808442130298838:=()
def tw665582347720799145:=()
def tw1288186455575201866:=()
def tw14578710307116955551:=()
def tw11680545602472548236:=()
def tw9667256711332379978:=()
def tw7063413908577957983:=()
def tw13278993194694778963:=()
def tw17479582339168463674:=()
def tw7895205445582835636:=()
def tw5120775211646963710:=()
def tw18030066607570514202:=()
def tw10126562293942598379:=()
def tw15537200191947932944:=()
def tw2710183999687665769:=()
def tw549587232162377136:=()
def tw16484438355605275584:=()
def tw5497854104150502009:=()
def tw13951413877005488078:=()
def tw11420781547413827361:=()
def tw15212585228804624676:=()
def tw13716245262354133138:=()
def tw2935750697174819765:=()
def tw5941817760383111264:=()
def tw14673440113436139533:=()
def tw13730847177198104999:=()
def tw5052252710701326758:=()
def tw16716320120855096651:=()
def tw8176453669702969308:=()
def tw2484216062906396826:=()
def tw869455106980070122:=()
def tw8642908492530006424:=()
def tw14033263720359227672:=()
def tw16457050542967839594:=()
def tw1299475968078476975:=()
def tw9210178160143545678:=()
def tw3980895892788093177:=()
def tw1896369282573705532:=()
def tw15795001464522012068:=()
def tw2008974152808718407:=()
def tw15560710105303967981:=()
def tw10897646306739219257:=()
def tw2968107524235733962:=()
def tw12271065749149208482:=()
def tw13078638280688047472:=()
def tw5087181410256394256:=()
def tw5944709257154651562:=()
def tw2207083359966292313:=()
def tw11914408719278342316:=()
def tw10311814818660817279:=()
def tw497061955075534036:=()
def tw15949257943472144131:=()
def tw1973031626791590126:=()
def tw18248609290528442523:=()
def tw2971465242693881107:=()
def tw14539294591244176303:=()
def tw17136546863524252292:=()
def tw13153985742166261587:=()
def tw6493280307614360909:=()
def tw11233053903176677223:=()
def tw14675282928071431884:=()
def tw17028505547089121808:=()
def tw12277696144748113985:=()
def tw926724566893279954:=()
def tw16238916438014088242:=()
def tw5944237121553247075:=()
def tw13799640979519181941:=()
def tw6555742985339421820:=()
def tw16118913729742308368:=()
def tw8598620894848248984:=()
def tw7837976871964163375:=()
def tw4112789001453156737:=()
def tw2586887681897188239:=()
def tw6130606596494340439:=()
def tw2803540153138175969:=()
def tw18173417021660023283:=()
def tw2595029742018797636:=()
def tw2113216775186615558:=()
def tw6555653316824233410:=()
def tw8827421003674663981:=()
def tw51732354914437704:=()
def tw7048991680146320979:=()
def tw5216867408539903684:=()
def tw5751677300830488554:=()
def tw13344372068066505045:=()
def tw10070027562927510117:=()
def tw14686237885555443975:=()
def tw8045514854255296661:=()
def tw14105610098201245638:=()
def tw733817467510685:=()
def tw5125009091707130293:=()
def tw17156252723760596183:=()
def tw6557818451621260827:=()
def tw11460814915686661935:=()
def tw6954724704492153080:=()
def tw7389609088434381546:=()
def tw16500912117633037257:=()
def tw4833522664060074035:=()
def tw7687202984042128235:=()
def tw3727814762876883242:=()
def tw17546119930430058568:=()
def tw12004600635087079356:=()
def tw15233073338141665392:=()
def tw15732787613402977161:=()
def tw16549783686546253330:=()
def tw17027722276491388138:=()
def tw3282625627875746261:=()
def tw12615869722565462237:=()
def tw5026328438653311550:=()
def tw7564554358476274409:=()
def tw11606233176430929466:=()
def tw136701778664821718:=()
def tw2101934759049490683:=()
def tw13903965590445472647:=()
def tw14695310873757212127:=()
def tw8773870298488207489:=()
def tw10609319598184533930:=()
def tw2542748892491614135:=()
def tw6727814385077152561:=()
def tw17387609663891680588:=()
def tw14993729505269854360:=()
def tw5428108001158364092:=()
def tw2690649461720760213:=()
def tw11256771470399023971:=()
def tw5607081270637288420:=()
def tw12205887086917670133:=()
def tw12912003865418456731:=()
def tw929612991136920126:=()
def tw8349344485181019619:=()
def tw6559469552672869176:=()
def tw3835721862025640357:=()
def tw8404738163973857672:=()
def tw3395381719649196314:=()
def tw6810073490413973896:=()
def tw10765572194512492604:=()
def tw9131627751782247948:=()
def tw11728872130473786815:=()
def tw4361544810250516599:=()
def tw17447963002747126621:=()
def tw17989802839106608325:=()
def tw7740826738894333736:=()
def tw4817643188439989207:=()
def tw3933861444461684875:=()
def tw13967678218856025113:=()
def tw1550961619809205456:=()
def tw2508302189570224936:=()
def tw12695841797812149736:=()
def tw1801053801723675212:=()
def tw13066936581679866932:=()
def tw2665717665629967429:=()
def tw8939670722717100749:=()
def tw14087781726576208932:=()
def tw14748098505823462375:=()
def tw10869799779886085838:=()
def tw9833131365350720055:=()
def tw10314866656328043123:=()
def tw4074813034910227008:=()
def tw13868537049988899148:=()
def tw15164302024989644329:=()
def tw8936576351311059787:=()
def tw3287942249417386534:=()
def tw5647668501779637841:=()
def tw246389016385959418:=()
def tw11271287581338258483:=()
def tw17654022979175067392:=()
def tw11758141352083696349:=()
def tw7509085920661096450:=()
def tw11452420566606950404:=()
def tw7743920711046532639:=()
def tw7128558281739423196:=()
def tw4406382876771961220:=()
def tw14430695026236145115:=()
def tw5657570103752324334:=()
def tw17199633153117549919:=()
def tw7952361882875797376:=()
def tw10973145467946802755:=()
def tw5883378910385667169:=()
def tw6612845460805473637:=()
def tw8769442428226309960:=()
def tw13088436164935396820:=()
def tw17895125778736295758:=()
def tw11454609951503649790:=()
def tw16705143538279523461:=()
def tw18408502104743222145:=()
def tw392272549576307430:=()
def tw4511697304447642675:=()
def tw3599558293703992827:=()
def tw5897466130249839116:=()
def tw6220921542751996263:=()
def tw9957502972392846723:=()
def tw2220356625177542753:=()
def tw4448945144437440781:=()
def tw10363491047606058704:=()
def tw14878929538905989186:=()
def tw10775734066944411018:=()
def tw1788229316053982445:=()
def tw16796103943268552353:=()
def tw390704662610622642:=()
def tw264768543735640592:=()
def tw3913236340403932209:=()
def tw17454432325055008678:=()
def tw14559828412104297657:=()
def tw13935879862435170:=()
def tw6530855258899011808:=()
def tw14532009367147339923:=()
def tw3392615037700582597:=()
def tw6923983949718193835:=()
def tw18108357077142241623:=()
def tw16161542496532249350:=()
def tw14171731533038045715:=()
def tw13647335719264386831:=()
def tw9327798776600808787:=()
def tw1671244485486423032:=()
def tw13066044942616311379:=()
def tw11364189283735805141:=()
def tw9493184480367081465:=()
def tw4465356041452650340:=()
def tw9105083061144104946:=()
def tw3402282217603296052:=()
def tw6830787296969773298:=()
def tw6248279194305029825:=()
def tw7777954135924527064:=()
def tw16314117177170581669:=()
def tw3256529387616016693:=()
def tw16440401830119796435:=()
def tw12182467918417818142:=()
def tw10923672427323757001:=()
def tw8305434050860993795:=()
def tw13574036639735536884:=()
def tw5321935852281371010:=()
def tw6495483799226243805:=()
def tw3241098674368137206:=()
def tw430058631568857903:=()
def tw6526735953855445348:=()
def tw5763477028711273928:=()
def tw11450032949855815605:=()
def tw3214283890057169655:=()
def tw1669371693825049084:=()
def tw1914449975085184595:=()
def tw4470414295179182104:=()
def tw12818408112743590432:=()
def tw17822530695735163722:=()
def tw2715845033365847020:=()
def tw17389978804413595954:=()
def tw12161816226774579644:=()
def tw17852781141230173942:=()
def tw16229291782768753729:=()
def tw8640791275856246641:=()
def tw11860408981241994532:=()
def tw9957118263179680048:=()
def tw1557869874655423782:=()
def tw9353726604404120408:=()
def tw13219002023455554236:=()
def tw13199046248400862659:=()
def tw16629761803296706462:=()
def tw4684922686120831255:=()
def tw2370680658801432672:=()
def tw13970593631949581612:=()
def tw2821490955398844750:=()
def tw10408824702824225957:=()
def tw4972223849676349094:=()
def tw5735740130539324225:=()
end PySem.W.Fast
open PySem PySem.W PyProof.Rows
set_option Elab.async false
set_option maxRecDepth 100000 in
set_option maxHeartbeats 0 in
theorem PySem.Challenge.cw_holdback_k46_whole_texts_of_some_moment_holds : PySem.Challenge.rw_holdback_k46_whole_texts_of_some_moment.Holds := by
 w_on;o_law;k_head;(case hw=>w_witness2)
 k_fill
 refine L2.walk (l:=PySem.Challenge.rw_holdback_k46_whole_texts_of_some_moment) rfl rfl (λw h Y=>PySem.W.kIn_of Y) ?F
 case F =>
  intro w mg fa h KX G hmg
  refine' L2.all_mk KX G hmg ?q0 ?q1 ?q2 ?q3 ?q4 ?q5 ?q6 ?q7 ?q8 ?q9 ?qa ?qb ?qc ?qd ?qe ?qf ?qg ?qh ?qi ?qj ?qk ?ql ?qm ?qn ?qo ?qp ?qq ?qr ?qs ?qt ?qu ?qv ?qw ?qx ?qy ?qz ?q10 ?q11 ?q12 ?q13 ?q14 ?q15 ?q16 ?q17 ?q18 ?q19 ?q1a ?q1b ?q1c ?q1d ?q1e ?q1f ?q1g ?q1h ?q1i ?q1j ?q1k ?q1l ?q1m ?q1n ?q1o ?q1p ?q1q ?q1r ?q1s ?q1t ?q1u ?q1v ?q1w ?q1x ?q1y ?q1z ?q20 ?q21 ?q22 ?q23 ?q24 ?q25 ?q26 ?q27 ?q28 ?q29 ?q2a ?q2b ?q2c ?q2d ?q2e ?q2f ?q2g ?q2h ?q2i ?q2j ?q2k ?q2l ?q2m ?q2n ?q2o ?q2p ?q2q ?q2r ?q2s ?q2t ?q2u ?q2v ?q2w ?q2x ?q2y ?q2z ?q30 ?q31 ?q32 ?q33 ?q34 ?q35 ?q36 ?q37 ?q38
  case q6 | q7 | q8 | q9 | qa=>(apply L2.gc;(case a=>k_is);(case l=>k_is);(case c=>k_is);(case k=>k_is);(case i=>k_is))
  case q0 | q1 | q2 | q3 | q4 | q5=>(apply L2.GX.mk;(case ac=>k_is);(case ex=>k_exc))
  case qb | qc | qd | qe | qf | qg | qh | qi | qj | qk | ql | qm | qn | q2h | q2i | q2j | q2k | q2l | q2m | q2n | q2o | q2p | q2q | q2r | q2s | q2t | q2u | q2v | q2w | q2x | q2y=>k_is
  case qo | qs | q19 | q1f | q1k | q1n | q1o | q1u | q1v | q21 | q23 | q26 | q2a | q2c | q2d | q2e | q2f | q2g=>(apply L2.gf;(case a=>k_is);(case l=>k_is);(case c=>k_is);(case k=>k_is))
  case qp | qq | qr | qt | qu | qv | qw | qx | qy | qz | q10 | q11 | q13 | q14 | q15 | q16 | q17 | q18 | q1c | q1d | q1e | q1g | q1h | q1i | q1j | q1l | q1m | q1p | q1q | q1r | q1s | q1t | q1w | q1x | q1y | q1z | q20 | q22 | q24 | q25 | q28 | q2b=>(apply L2.gm;(case a=>k_is);(case l=>k_is);(case c=>k_is);(case k=>k_is);(case i=>k_is))
  case q12 | q1a | q1b | q27 | q29=>(apply L2.gn;(case a=>k_is);(case l=>k_is);(case c=>k_is);(case k=>k_is);(case i=>k_is);(case m=>k_is);(case n=>k_is);(case s=>k_is))
  case q2z | q30 | q31 | q32 | q33 | q34 | q35 | q36 | q37 | q38=>kts_exm
