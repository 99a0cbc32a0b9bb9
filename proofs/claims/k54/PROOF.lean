import PyProof.Rows.All
import Wide.All
import OpenK.AllK
import Wide.FinOn
import Lean
import PyProof.EqAt
import PyProof.EqKinds
import PyProof.TupleCall
import PyProof.SetScanFacts
import PyProof.Rows.SetFrom
import PyProof.Rows.SortWalk
import PyProof.CollectWalk
import PyProof.DictWalks
import PySem.Challenge.RW_holdback_k54_not_sound_refused
set_option linter.all false
set_option maxRecDepth 100000
set_option maxHeartbeats 8000000
open PySem PySem.Spec PyProof.Rows
set_option Elab.async false
namespace L2
abbrev AX:=Sum Int Str
def KL:AX->Value->Bool
 | .inl k,v=>Value.isInt k v
 | .inr x,v=>Value.isStrOf x v
def p8(w:World):AX->Int
 | .inl k=>hashInt k
 | .inr x=>hashStr w x
theorem HA:∀ {k:AX} {v:Value},KL k v=true->(∃ i t,k=Sum.inl i/\v=Value.int i t)\/(∃ x t,k=Sum.inr x/\v=Value.str x t)
 | .inl i,v,h=>by
  obtain⟨t,e⟩:=Value.isInt_shape (k:=i) (v:=v) h
  exact .inl ⟨i,t,rfl,e⟩
 | .inr x,v,h=>by
  obtain⟨t,e⟩:=Value.isStrOf_shape (x:=x) (v:=v) h
  exact .inr ⟨x,t,rfl,e⟩
theorem p9(i:Int)(t:Tok):KL (.inl i) (.int i t)=true:=by simp[KL,Value.isInt]
theorem qA(x:Str)(t:Tok):KL (.inr x) (.str x t)=true:=by simp[KL,Value.isStrOf]
theorem qB(a b:Int):decide ((Sum.inl a:AX)=Sum.inl b)=(a == b):=by
 by_cases e:a=b
 ·subst e;simp
 ·have h:¬ (Sum.inl a:AX)=Sum.inl b:=λq=>e (Sum.inl.inj q)
  rw[decide_eq_false h]
  exact(beq_eq_false_iff_ne.mpr e).symm
theorem qC(a b:Str):decide ((Sum.inr a:AX)=Sum.inr b)=decide (a=b):=by
 by_cases e:a=b
 ·subst e;simp
 ·have h:¬ (Sum.inr a:AX)=Sum.inr b:=λq=>e (Sum.inr.inj q)
  rw[decide_eq_false h,decide_eq_false e]
theorem qD(a:Int)(b:Str):decide ((Sum.inl a:AX)=Sum.inr b)=false:=decide_eq_false (λq=>nomatch q)
theorem qE(a:Str)(b:Int):decide ((Sum.inr a:AX)=Sum.inl b)=false:=decide_eq_false (λq=>nomatch q)
def DN(prog:Program)(w:World):PySem.KeyKind prog w AX where
 is:=KL
 hash:=p8 w
 inj:=λv a b ha hb=>by
  rcases HA ha with⟨i,t,rfl,rfl⟩ | ⟨x,t,rfl,rfl⟩
  ·rcases HA hb with⟨j,u,rfl,e⟩ | ⟨y,u,rfl,e⟩
   ·injection e with e1 _;rw[e1]
   ·exact nomatch e
  ·rcases HA hb with⟨j,u,rfl,e⟩ | ⟨y,u,rfl,e⟩
   ·exact nomatch e
   ·injection e with e1 _;rw[e1]
 byValue:=λk v h=>by
  rcases HA h with⟨i,t,rfl,rfl⟩ | ⟨x,t,rfl,rfl⟩<;>rfl
 pyHash:=λhv h=>by
  rcases HA hv with⟨i,t,rfl,rfl⟩ | ⟨x,t,rfl,rfl⟩
  ·exact wpAny_pyHash_int h
  ·exact wpAny_pyHash_str h
 eqBool:=λhu hv h=>by
  rcases HA hu with⟨i,t,rfl,rfl⟩ | ⟨x,t,rfl,rfl⟩
  ·rcases HA hv with⟨j,u,rfl,rfl⟩ | ⟨y,u,rfl,rfl⟩
   ·rw[qB]at h;exact wpAny_eqBool_int h
   ·rw[qD]at h;exact SeqAt.EqAt.int_str i t y u _ _ _ _ h
  ·rcases HA hv with⟨j,u,rfl,rfl⟩ | ⟨y,u,rfl,rfl⟩
   ·rw[qE]at h;exact SeqAt.EqAt.str_int x t j u _ _ _ _ h
   ·rw[qC]at h;exact wpAny_eqBool_str h
 «strs» :=λk x t v h=>by
  rcases HA h with⟨i,u,rfl,e⟩ | ⟨y,u,rfl,e⟩
  ·exact nomatch e
  ·injection e with e1 _
   subst e1
   cases v<;>rfl
theorem qF(prog:Program)(w:World)(i:Int)(t:Tok):(DN prog w).is (.inl i) (.int i t)=true:=p9 i t
theorem qG(prog:Program)(w:World)(x:Str)(t:Tok):(DN prog w).is (.inr x) (.str x t)=true:=qA x t
end L2
namespace L2
inductive V where
 | non | bl (b:Bool) | int (i:Int) | str (x:Str) | byt (b:Array UInt8) | flt (b:UInt64) | ref (a:Addr) | ty (n:String)
 deriving DecidableEq
def RelV:V->Value->Prop
 | .non,u=>u=Value.none
 | .bl b,u=>u=Value.bool b
 | .int i,u=>∃ t,u=Value.int i t
 | .str x,u=>∃ t,u=Value.str x t
 | .byt b,u=>∃ t,u=Value.bytes b t
 | .flt b,u=>∃ t,u=Value.float b t
 | .ref a,u=>u=Value.ref a
 | .ty n,u=>u=Value.type n
abbrev Vals:List V->List Value->Prop:=Paired RelV
theorem Vals.length{xs:List V}{us:List Value}(r:Vals xs us):xs.length=us.length:=Paired.length r
theorem Vals.get:∀ {xs:List V} {us:List Value} {i:Nat} {x:V},Vals xs us->xs[i]? =some x->∃ u,us[i]? =some u/\RelV x u
 | _,_,_,_,.nil,e=>by simp at e
 | _,_,0,_,.cons r _,e=>by simp at e;subst e;exact⟨_,rfl,r⟩
 | _,_,i+1,x,.cons _ t,e=>by
  obtain⟨u,h1,h2⟩:=Vals.get (i:=i) (x:=x) t (by simpa using e)
  exact⟨u,by simpa using h1,h2⟩
theorem Vals.set{x:V}{u:Value}(r:RelV x u):∀ {xs:List V} {us:List Value} (i:Nat),Vals xs us->Vals (xs.set i x) (us.set i u)
 | _,_,_,.nil=>.nil
 | _,_,0,.cons _ t=>.cons r t
 | _,_,i+1,.cons q t=>.cons q (Vals.set r i t)
theorem Vals.append:∀ {xs ys:List V} {us ws:List Value},Vals xs us->Vals ys ws->Vals (xs++ys) (us++ws)
 | _,_,_,_,.nil,s=>s
 | _,_,_,_,.cons r t,s=>.cons r (Vals.append t s)
theorem Vals.take:∀ {xs:List V} {us:List Value} (n:Nat),Vals xs us->Vals (xs.take n) (us.take n)
 | _,_,0,_=>.nil
 | _,_,_+1,.nil=>.nil
 | _,_,n+1,.cons r t=>.cons r (Vals.take n t)
theorem Vals.drop:∀ {xs:List V} {us:List Value} (n:Nat),Vals xs us->Vals (xs.drop n) (us.drop n)
 | _,_,0,r=>r
 | _,_,_+1,.nil=>.nil
 | _,_,n+1,.cons _ t=>Vals.drop n t
theorem Vals.none_of:∀ {xs:List V} {us:List Value} {i:Nat},Vals xs us->xs[i]? =none->us[i]? =none:=λ{xs us i} r e=>by
 have h1:=r.length
 have h2:xs.length<=i:=List.getElem?_eq_none_iff.mp e
 exact List.getElem?_eq_none_iff.mpr (by omega)
def RelO:Option V->Option Value->Prop
 | some v,some u=>RelV v u
 | none,none=>True
 | _,_=>False
def KV{κ :Type}:List (κ × V)->List (κ × Value)->Prop:=Paired λ(p: κ × V) (q: κ × Value)=>p.1=q.1/\RelV p.2 q.2
def kV:AX->V
 | .inl i=>.int i
 | .inr x=>.str x
inductive HO where
 /-- a list -/
 | lst (xs:List V)
 /-- a tuple (never changes) -/
 | tup (xs:List V)
 /-- a dict whose keys are ints and texts;one whose keys are tuples of ints and texts (the empty one is both) -/
 | dK (kvs:List (AX × V)) | dT (kvs:List (List AX × V))
 /-- a set of ints: its members,its size -/
 | set (S:Int->Bool) (n:Nat)
 /-- an instance of the class at C,its dict at dx,its attributes -/
 | ins (C dx:Addr) (fs:List (Str × V))
 /-- the dict of the instance at x -/
 | own (x:Addr)
 /-- the dict of an exception -/
 | xd (fs:List (Str × V))
 /-- a bound method,f of x -/
 | met (f x:Addr)
 /-- a range object lo,lo+1,.. below hi -/
 | rng (lo hi:Int)
 /-- a thing that is known to the object (the script;a dict while a loop walks it): read,never written while it is so -/
 | frz (o:Obj) (u:HO)
 /-- a code object's table -/
 | tbl (ps:Array Value)
 /-- any other thing,by what is true of its one object (a def of one's own: SetO a S n:=HO.ext λh=>..) -/
 | ext (φ :Heap->Prop)
abbrev Hp:=Addr->Option HO
def upd(H:Hp)(a:Addr)(o:HO):Hp:=λb=>if b=a then some o else H b
theorem AM{H:Hp}{a:Addr}{o:HO}:upd H a o a=some o:=by unfold upd;rw[if_pos rfl]
theorem AQ{H:Hp}{a b:Addr}{o:HO}(h:b≠a):upd H a o b=H b:=by unfold upd;rw[if_neg h]
theorem LX{H:Hp}{a:Addr}{o u:HO}:upd (upd H a o) a u=upd H a u:=by
 funext b;unfold upd;split<;>rfl
theorem DA{H:Hp}{a b:Addr}{o u:HO}(h:H a=some o)(h':H b=some u)(d:o≠u):a≠b:=by
 intro e;subst e;rw[h]at h';exact d (Option.some.inj h')
theorem BT{H:Hp}{a b:Addr}{o:HO}(h:H a=some o)(h':H b=none):a≠b:=by
 intro e;subst e;rw[h]at h';cases h'
section
variable(P:Program)(w:World)
def ObjOk(H:Hp)(h:Heap)(a:Addr):HO->Prop
 | .lst xs=>xs.length<=sizeLine/\∃ (its:List Value) (n:Nat),Vals xs its/\h.get? a=some { cls:=.type "list",data:=.seq its.toArray n }
 | .tup xs=>xs.length<=sizeLine/\∃ its:List Value,Vals xs its/\IsTup h a its.toArray
 | .dK kvs=>kvs.length<=sizeLine/\(a == sysModules)=false/\∃ vs,KV kvs vs/\h.DictOf (DN P w) a vs
 | .dT kvs=>kvs.length<=sizeLine/\(a == sysModules)=false/\∃ xs:List (List AX × Addr × Value),
   Paired (λ(p:List AX × V) (q:List AX × Addr × Value)=>p.1=q.1/\H q.2.1=some (.tup (p.1.map kV))/\RelV p.2 q.2.2) kvs xs ∧
   ∃ o es ep,h.get? a=some o/\o.ExactDict/\o.data=.dict es ep/\es.toList=xs.map (entryOfKey (tupleKind (DN P w)))/\(xs.map (·.1)).Nodup
 | .set S n=>h.SetOf (intKind P w) a S n
 | .ins C dx fs=>H dx=some (.own a)/\fs.length<=1000/\dx≠a/\h.get? a=some (W.instObj C dx) ∧
   ∃ mA,h.Ns1 dx mA/\(∀ f,RelO (fs.lookup f) (mA f))/\PySem.Within mA (fs.map (·.1))
 | .own _=>∃ o,h.get? a=some o
 | .xd fs=>∃ mA,h.Ns1 a mA/\∀ f,RelO (fs.lookup f) (mA f)
 | .rng lo hi=>∃ t u v,h.get? a=some { cls:=.type "range",data:=.fields #[.int lo t,.int hi u,.int 1 v] }
 | .frz o u=>h.get? a=some o/\ObjOk H h a u
 | .tbl ps=>h.get? a=some { cls:=.none,data:=.fields ps }
 | .met f x=>h.get? a=some (W.methodObj (.ref f) (.ref x))
 | .ext φ => φ h/\(∃ o,h.get? a=some o)/\∀ h1 h2:Heap,φ h1->(∀ o,h1.get? a=some o->h2.get? a=some o)-> φ h2
def HOk(H:Hp)(h:Heap):Prop:=∀ a o,H a=some o->ObjOk P w H h a o
end
section
variable{P:Program}{w:World}{H H':Hp}{h h':Heap}{a:Addr}{o:HO}
theorem ObjOk.lt(x:ObjOk P w H h a o):a<h.objs.size:=by
 cases o with
 | lst xs=>obtain⟨_,_,_,_,e⟩:=x;exact Heap.lt_size e
 | tup xs=>obtain⟨_,_,_,p⟩:=x;exact p.lt
 | dK kvs=>obtain⟨_,_,_,_,o,_,_,e,_⟩:=x;exact Heap.lt_size e
 | dT kvs=>obtain⟨_,_,_,_,o,_,_,e,_⟩:=x;exact Heap.lt_size e
 | set S n=>obtain⟨o,_,_,_,e,_⟩:=x;exact Heap.lt_size e
 | ins C dx fs=>obtain⟨_,_,_,e,_⟩:=x;exact Heap.lt_size e
 | own y=>obtain⟨_,e⟩:=x;exact Heap.lt_size e
 | xd fs=>obtain⟨_,⟨_,_,_,e,_⟩,_⟩:=x;exact Heap.lt_size e
 | rng lo hi=>obtain⟨_,_,_,e⟩:=x;exact Heap.lt_size e
 | frz ob u=>obtain⟨e,_⟩:=x;exact Heap.lt_size e
 | tbl ps=>exact Heap.lt_size (show h.get? a=some _ from x)
 | met f y=>exact Heap.lt_size (show h.get? a=some _ from x)
 | ext φ =>obtain⟨_,⟨_,e⟩,_⟩:=x;exact Heap.lt_size e
theorem Paired.mapP{α β :Type}{F G: α -> β ->Prop}:∀ {l₁:List α} {l₂:List β},Paired F l₁ l₂->(∀ a b,F a b->G a b)->Paired G l₁ l₂
 | _,_,.nil,_=>.nil
 | _,_,.cons r t,f=>.cons (f _ _ r) (Paired.mapP t f)
theorem ObjOk.stay(x:ObjOk P w H h a o)(k:∀ b u,(b=a\/H b=some (.own a))->h.get? b=some u->h'.get? b=some u)
  (ho:∀ b,H b=some (.own a)->H' b=some (.own a)) (ht:∀ b xs,H b=some (.tup xs)->H' b=some (.tup xs)):ObjOk P w H' h' a o:=by
 induction o with
 | lst xs=>obtain⟨z,its,n,r,e⟩:=x;exact⟨z,its,n,r,k _ _ (.inl rfl) e⟩
 | tup xs=>obtain⟨z,its,r,ob,e,c⟩:=x;exact⟨z,its,r,ob,k _ _ (.inl rfl) e,c⟩
 | dK kvs=>obtain⟨z,y,vs,r,ob,es,ep,e,c⟩:=x;exact⟨z,y,vs,r,ob,es,ep,k _ _ (.inl rfl) e,c⟩
 | dT kvs =>
  obtain⟨z,y,xs,r,ob,es,ep,e,c⟩:=x
  exact⟨z,y,xs,Paired.mapP r λp q z=>⟨z.1,ht _ _ z.2.1,z.2.2⟩,ob,es,ep,k _ _ (.inl rfl) e,c⟩
 | set S n=>obtain⟨ob,es,ep,t,e,c⟩:=x;exact⟨ob,es,ep,t,k _ _ (.inl rfl) e,c⟩
 | ins C dx fs =>
  obtain⟨d,z,ne,e,mA,⟨od,es,ep,e2,c⟩,r⟩:=x
  exact⟨ho _ d,z,ne,k _ _ (.inl rfl) e,mA,⟨od,es,ep,k _ _ (.inr d) e2,c⟩,r⟩
 | own y=>obtain⟨ob,e⟩:=x;exact⟨ob,k _ _ (.inl rfl) e⟩
 | xd fs=>obtain⟨mA,⟨od,es,ep,e,c⟩,r⟩:=x;exact⟨mA,⟨od,es,ep,k _ _ (.inl rfl) e,c⟩,r⟩
 | rng lo hi=>obtain⟨t,u,v,e⟩:=x;exact⟨t,u,v,k _ _ (.inl rfl) e⟩
 | frz ob u ih=>obtain⟨e,q⟩:=x;exact⟨k _ _ (.inl rfl) e,ih q⟩
 | tbl ps =>
  have e:h.get? a=some { cls:=.none,data:=.fields ps }:=x
  show h'.get? a=some { cls:=.none,data:=.fields ps }
  exact k a _ (.inl rfl) e
 | met f y =>
  have e:h.get? a=some (W.methodObj (.ref f) (.ref y)):=x
  show h'.get? a=some (W.methodObj (.ref f) (.ref y))
  exact k a _ (.inl rfl) e
 | ext φ =>obtain⟨p,⟨o,e⟩,st⟩:=x;exact⟨st _ _ p λo q=>k _ _ (.inl rfl) q,⟨o,k _ _ (.inl rfl) e⟩,st⟩
theorem HOk.lt(x:HOk P w H h)(e:H a=some o):a<h.objs.size:=(x a o e).lt
theorem HOk.fresh(x:HOk P w H h)(e:h.objs.size<=a):H a=none:=by
 cases q:H a with
 | none=>rfl
 | some u=>exact absurd (Nat.lt_of_lt_of_le (x.lt q) e) (Nat.lt_irrefl _)
theorem HOk.kept(x:HOk P w H h)(k:∀ b u,h.get? b=some u->h'.get? b=some u):HOk P w H h':=λa o e =>
 (x a o e).stay (λb u _ q=>k b u q) (λ_ q=>q) λ_ _ q=>q
theorem HOk.laid(x:HOk P w H h)(k:∀ b u,h.get? b=some u->h'.get? b=some u)(hp:h.objs.size<=a)(new:ObjOk P w (upd H a o) h' a o):HOk P w (upd H a o) h':=λb u e=>by
 have hn:=x.fresh hp
 by_cases hb:b=a
 ·subst hb;rw[AM]at e;cases e;exact new
 ·rw[AQ hb]at e
  exact(x b u e).stay (λc v _ q=>k c v q) (λc q=>by rw[AQ (BT q hn)];exact q) λc xs q=>by rw[AQ (BT q hn)];exact q
end
def Rd(H:Hp)(a:Addr)(u:HO):Prop:=H a=some u\/∃ o,H a=some (.frz o u)
theorem Rd.of{H:Hp}{a:Addr}{u:HO}(h:H a=some u):Rd H a u:=.inl h
theorem Rd.ok{P:Program}{w:World}{H:Hp}{h:Heap}{a:Addr}{u:HO}(r:Rd H a u)(x:HOk P w H h):ObjOk P w H h a u:=by
 rcases r with r | ⟨o,r⟩
 ·exact x a u r
 ·obtain⟨_,q⟩:=x a _ r
  exact q
def LY:Option HO->Prop
 | some (.lst _)=>True
 | some (.dK _)=>True
 | some (.dT _)=>True
 | some (.set _ _)=>True
 | some (.ins _ _ _)=>True
 | some (.ext _)=>True
 | _=>False
section
variable{P:Program}{w:World}{H:Hp}{h h':Heap}{x e:Addr}{o':HO}
theorem HOk.write(ok:HOk P w H h)(mu:LY (H x))(he:e=x\/H e=some (.own x))(k:∀ b u,b≠e->h.get? b=some u->h'.get? b=some u)(heo:∃ u,h'.get? e=some u)
  (new:ObjOk P w (upd H x o') h' x o'):HOk P w (upd H x o') h':=λb u q=>by
 have nown:∀ c y,H c=some (.own y)->c≠x:=λc y r z=>by subst z;rw[r]at mu;exact mu
 have ntup:∀ c xs,H c=some (.tup xs)->c≠x:=λc xs r z=>by subst z;rw[r]at mu;exact mu
 by_cases hb:b=x
 ·subst hb;rw[AM]at q;cases q;exact new
 ·rw[AQ hb]at q
  by_cases hbe:b=e
  ·have q':H b=some (.own x):=by
    rcases he with z | z
    ·exact absurd (hbe.trans z) hb
    ·rw[hbe];exact z
   rw[q]at q';cases q'
   obtain⟨v,hv⟩:=heo
   exact⟨v,by rw[hbe];exact hv⟩
  ·refine(ok b u q).stay (λc v hc r=>k c v ?_ r) (λc r=>by rw[AQ (nown c b r)];exact r) λc xs r=>by rw[AQ (ntup c xs r)];exact r
   rcases hc with rfl | hc
   ·exact hbe
   ·rintro rfl
    rcases he with z | z
    ·exact nown c b hc z
    ·rw[hc]at z;cases z;exact hb rfl
end
structure Un(fs ex:List Addr)(H H':Hp)(h h':Heap):Prop where
 keep:∀ b o,h.get? b=some o->H b=none->b∉fs->b∉ex->h'.get? b=some o
 slot:∀ b o,h.get? b=some o->H b=none->b∈fs->b∉ex->∃ sl,h'.get? b=some { o with slots:=sl }
 free:∀ b o,h.get? b=some o->H b=none->b∉ex->H' b=none
 there:∀ b o,h.get? b=some o->b∉ex->∃ o',h'.get? b=some o'
 tups:∀ b xs,H b=some (.tup xs)->H' b=some (.tup xs)
 frzs:∀ b o u,H b=some (.frz o u)->H' b=some (.frz o u)
 tbls:∀ b ps,H b=some (.tbl ps)->∃ more,H' b=some (.tbl (ps++more))
section
variable{fs fs' ex ex':List Addr}{H H1 H2:Hp}{h h1 h2 h':Heap}{a x e:Addr}{o:HO}
theorem Un.any(u:Un fs ex H H1 h h1){b:Addr}{ob:Obj}(q:h.get? b=some ob)(n:H b=none)(hx:b∉ex):∃ sl,h1.get? b=some { ob with slots:=sl }:=by
 by_cases hb:b∈fs
 ·exact u.slot b ob q n hb hx
 ·exact⟨ob.slots,u.keep b ob q n hb hx⟩
theorem Un.trans(a:Un fs ex H H1 h h1)(b:Un fs ex H1 H2 h1 h2):Un fs ex H H2 h h2 where
 keep:=λc ob q n hc hx=>b.keep c ob (a.keep c ob q n hc hx) (a.free c ob q n hx) hc hx
 slot:=λc ob q n hc hx=>by
  obtain⟨sl,e1⟩:=a.slot c ob q n hc hx
  obtain⟨sl',e2⟩:=b.slot c _ e1 (a.free c ob q n hx) hc hx
  exact⟨sl',e2⟩
 free:=λc ob q n hx=>by
  obtain⟨o',e1⟩:=a.there c ob q hx
  exact b.free c o' e1 (a.free c ob q n hx) hx
 there:=λc ob q hx=>by
  obtain⟨o',e1⟩:=a.there c ob q hx
  exact b.there c o' e1 hx
 tups:=λc xs q=>b.tups c xs (a.tups c xs q)
 frzs:=λc ob xs q=>b.frzs c ob xs (a.frzs c ob xs q)
 tbls:=λc ps q=>by
  obtain⟨m1,e1⟩:=a.tbls c ps q
  obtain⟨m2,e2⟩:=b.tbls c _ e1
  exact⟨m1++m2,by rw[e2,Array.append_assoc]⟩
theorem Un.kept(k:∀ b u,h.get? b=some u->h'.get? b=some u):Un fs ex H H h h' :=
 ⟨λb ob q _ _ _=>k b ob q,λb ob q _ _ _=>⟨ob.slots,k b ob q⟩,λ_ _ _ n _=>n,λb ob q _=>⟨ob,k b ob q⟩,λ_ _ q=>q,λ_ _ _ q=>q,λ_ ps q=>⟨#[],by rw[q];simp⟩⟩
theorem Un.refl:Un fs ex H H h h:=Un.kept λ_ _ q=>q
theorem Un.laid(k:∀ b u,h.get? b=some u->h'.get? b=some u)(hp:h.objs.size<=a)(hn:H a=none):Un fs ex H (upd H a o) h h' where
 keep:=λb u q _ _ _=>k b u q
 slot:=λb u q _ _ _=>⟨u.slots,k b u q⟩
 free:=λb u q n _=>by rw[AQ (Nat.ne_of_lt (Nat.lt_of_lt_of_le (Heap.lt_size q) hp))];exact n
 there:=λb u q _=>⟨u,k b u q⟩
 tups:=λb xs q=>by rw[AQ (BT q hn)];exact q
 frzs:=λb u xs q=>by rw[AQ (BT q hn)];exact q
 tbls:=λb ps q=>⟨#[],by rw[AQ (BT q hn),q];simp⟩
theorem Un.write(mu:LY (H x))(he:e=x\/H e=some (.own x))(k:∀ b u,b≠e->h.get? b=some u->h'.get? b=some u)(heo:∃ u,h'.get? e=some u):Un fs ex H (upd H x o) h h':=by
 have hx:∀ b,H b=none->b≠x:=λb n z=>by subst z;rw[n]at mu;exact mu
 have hb:∀ b,H b=none->b≠e:=λb n z=>by
  subst z
  rcases he with r | r
  ·exact hx b n r
  ·rw[n]at r;cases r
 have hm:∀ b u,H b=some u->¬ LY (some u)->b≠x:=λb u q nm z=>by subst z;rw[q]at mu;exact nm mu
 refine⟨λb u q n _ _=>k b u (hb b n) q,λb u q n _ _=>⟨u.slots,k b u (hb b n) q⟩,λb u q n _=>by rw[AQ (hx b n)];exact n,λb u q _=> ?_,
  λb xs q=>by rw[AQ (hm b _ q λz=>z)];exact q,λb u xs q=>by rw[AQ (hm b _ q λz=>z)];exact q,λb ps q=>⟨#[],by rw[AQ (hm b _ q λz=>z),q];simp⟩⟩
 by_cases hbe:b=e
 ·subst hbe;exact heo
 ·exact⟨u,k b u hbe q⟩
theorem Un.mono(u:Un fs ex H H1 h h1)(hs:∀ b∈fs,b∈fs')(hx:∀ b∈ex,b∈ex'):Un fs' ex' H H1 h h1 :=
 ⟨λb ob q n hb he=>u.keep b ob q n (λz=>hb (hs b z)) λz=>he (hx b z),λ_ _ q n _ he=>u.any q n λz=>he (hx _ z),λb ob q n he=>u.free b ob q n λz=>he (hx b z),λb ob q he=>u.there b ob q λz=>he (hx b z),u.tups,u.frzs,u.tbls⟩
end
def OF(h:Heap)(H:Hp):List Addr:=(List.range h.objs.size).filter λa=>(H a).isSome
def HB(h:Heap)(H:Hp):Heap:=W.hideAll h (OF h H)
theorem qH(h:Heap)(H:Hp):(HB h H).objs.size=h.objs.size:=W.hideAll_size _ _
theorem qI{h:Heap}{H:Hp}{b:Addr}{o:Obj}(e:h.get? b=some o)(n:H b=none):(HB h H).get? b=some o :=
 W.hideAll_get _ e λhm=>by
  have q:(H b).isSome=true:=(List.mem_filter.mp hm).2
  rw[n]at q;simp at q
theorem qJ{h:Heap}{H:Hp}{b:Addr}{o:Obj}(e:(HB h H).get? b=some o):h.get? b=some o/\H b=none:=by
 have e':h.get? b=some o:=W.of_hideAll (OF h H) e
 refine⟨e',?_⟩
 cases q:H b with
 | none=>rfl
 | some x =>
  have hm:b∈OF h H:=List.mem_filter.mpr ⟨List.mem_range.mpr (Heap.lt_size e'),by simp[q]⟩
  have z:(HB h H).get? b=none:=W.hideAll_none (OF h H) hm
  rw[z]at e;cases e
def qK(g h:Heap)(L:Addr):List (Addr × Obj):=(List.range h.objs.size).filterMap λa=>if a=L\/(g.get? a).isSome=true then none else(h.get? a).map λo=>(a,o)
def CT(g h:Heap)(L d:Addr):List (Addr × Obj):=(qK g h L).filter λp=>decide (p.1≠d)
end L2
namespace L2
structure Mod(K:W.Frag)(mg:Str->Option Value)(base:Heap):Prop where
 kin:K.In base
 glob:base.Ns mainGlobals mg
 blt:∃ mb,base.Ns builtinsNs mb/\∀ x:Str,x≠"__name__"->mb x=bootBuiltins x
 nolimit:base.NoLimit
structure Cx where
 prog:Program
 w:World
 K:W.Frag
 mg:Str->Option Value
 base:Heap
 A:Around
 N:List Str
 s₀:Shared
 H₀:Hp
 env:Env
 outer:List Env
 stack:List Env
 ex:List Addr
 fn:Str->Bool
 calm:Bool
 pn:List (Addr × Obj)
 xe:Value->Shared->Prop
def DO(l:List Env):List Addr:=l.filterMap (·.frame)
abbrev Cx.fs(X:Cx):List Addr:=DO X.outer
def OG(sc:Scope)(x:Str):Prop:=sc.names.lookup x=some .local\/sc.names.lookup x=some .cell\/sc.names.lookup x=some .free
def KM(sc:Scope)(x:Str):Prop:=sc.names.lookup x=some .local\/sc.names.lookup x=some .cell
def qL(env:Env)(h:Heap)(m:Str->Option Value)(x:Str)(u:Value):Prop :=
 (env.kindOf x=some .local/\m x=some u)\/((env.kindOf x=some .cell\/env.kindOf x=some .free)/\∃ c,env.cells.lookup x=some c/\h.IsCell c (some u))
structure Cx.Ok(X:Cx):Prop where
 mod:Mod X.K X.mg X.base
 kind:X.env.scope.kind=.function
 glob:X.env.globals=mainGlobals
 blt:X.env.builtins=builtinsNs
 above:X.s₀.heap.objs.size<=X.env.locals
 inj:∀ x y c,X.env.cells.lookup x=some c->X.env.cells.lookup y=some c->x=y
 has:∀ x,(X.env.kindOf x=some .cell\/X.env.kindOf x=some .free)->∃ c,X.env.cells.lookup x=some c
 cab:∀ x c,X.fn x=true->X.env.cells.lookup x=some c->X.s₀.heap.objs.size<=c
 hd:X.calm=true->X.A.handled=none
 frames:X.A.frames=some X.stack
 stk:X.stack=X.outer\/(X.stack=X.env::X.outer/\X.env.frame=some X.env.locals)
 exf:∀ b∈X.ex,b≠X.env.locals/\∀ x c,X.env.cells.lookup x=some c->c≠b
 bs:∀ b o,X.base.get? b=some o->X.s₀.heap.get? b=some o/\X.H₀ b=none
 bsz:X.base.objs.size<=X.s₀.heap.objs.size
 noex:∀ b o,X.base.get? b=some o->b∉X.ex
 exfs:∀ b∈X.ex,b∉X.fs
 funs:X.s₀.heap.FunFrames X.base X.outer
 frf:∀ b∈X.fs,X.H₀ b=none
structure Inv(X:Cx)(pins:List (Addr × Obj))(σ:List (Option V))(H:Hp)(s:Shared):Prop where
 ok:X.Ok
 os:s.os=X.s₀.os
 bare:AllBare s.gens
 base:Un X.fs X.ex X.H₀ H X.s₀.heap s.heap
 loc:∃ m,s.heap.Ns X.env.locals m/\∀ (i:Nat) (x:Str) (v:V),X.N[i]? =some x->σ[i]? =some (some v)->OG X.env.scope x->∃ u,RelV v u/\qL X.env s.heap m x u
 cell:∀ x c,X.env.cells.lookup x=some c->∃ v,s.heap.IsCell c v
 free:H X.env.locals=none
 freeC:∀ x c,X.env.cells.lookup x=some c->H c=none
 pin:∀ p∈X.pn++pins,s.heap.get? p.1=some p.2/\H p.1=none/\p.1≠X.env.locals/\p.1∉X.fs/\∀ v,p.2.data≠.cell v
 hok:HOk X.prog X.w H s.heap
 len:σ.length=X.N.length
section
variable{X:Cx}{pins:List (Addr × Obj)}{σ:List (Option V)}{H H':Hp}{s:Shared}{h':Heap}
theorem Cx.Ok.nofr(ok:X.Ok){b:Addr}{o:Obj}(e:X.base.get? b=some o):b∉X.fs:=λhb=>by
 have:=(ok.funs.mem hb).1
 rw[e]at this;cases this
theorem Inv.bs(I:Inv X pins σ H s):∀ b o,X.base.get? b=some o->s.heap.get? b=some o/\H b=none:=λb o e =>
 ⟨I.base.keep b o (I.ok.bs b o e).1 (I.ok.bs b o e).2 (I.ok.nofr e) (I.ok.noex b o e),I.base.free b o (I.ok.bs b o e).1 (I.ok.bs b o e).2 (I.ok.noex b o e)⟩
theorem Inv.bk(I:Inv X pins σ H s):∀ b o,X.base.get? b=some o->s.heap.get? b=some o:=λb o e=>(I.bs b o e).1
theorem Inv.mod(I:Inv X pins σ H s):Mod X.K X.mg X.base:=I.ok.mod
theorem Inv.kIn(I:Inv X pins σ H s):X.K.In s.heap:=I.ok.mod.kin.keeps I.bk
theorem Inv.nolimit(I:Inv X pins σ H s):s.heap.NoLimit:=I.ok.mod.nolimit.keeps I.bk
theorem Inv.fr(I:Inv X pins σ H s):∃ m,Fr X.base X.env.locals s.heap m :=
 let ⟨m,hn,_⟩:=I.loc
 ⟨m,hn,I.bk,Nat.le_trans I.ok.bsz I.ok.above⟩
theorem Inv.lt(I:Inv X pins σ H s):X.env.locals<s.heap.objs.size:=let ⟨_,hn,_⟩:=I.loc;hn.lt
theorem Inv.sz(I:Inv X pins σ H s):X.s₀.heap.objs.size<=s.heap.objs.size:=Nat.le_trans I.ok.above (Nat.le_of_lt I.lt)
theorem Inv.nofs(I:Inv X pins σ H s){a:Addr}(h:s.heap.objs.size<=a):a∉X.fs:=λhb=>by
 obtain⟨_,o,ho,_⟩:=I.ok.funs.mem hb
 exact absurd (Nat.lt_of_lt_of_le (Heap.lt_size ho) (Nat.le_trans I.sz h)) (Nat.lt_irrefl _)
theorem Inv.cne(I:Inv X pins σ H s):∀ x c,X.env.cells.lookup x=some c->c≠X.env.locals:=λx c e z=>by
 obtain⟨v,o,ho,hd⟩:=I.cell x c e
 obtain⟨m,⟨o',es,ep,ho',hd',_⟩,_⟩:=I.loc
 rw[z,ho']at ho;cases ho;rw[hd']at hd;cases hd
theorem Inv.funs(I:Inv X pins σ H s):s.heap.FunFrames X.base X.outer:=by
 have all:∀ (l:List Env),(∀ b∈DO l,b∈X.fs)->X.s₀.heap.FunFrames X.base l->s.heap.FunFrames X.base l:=by
  intro l
  induction l with
  | nil=>intro _ _;trivial
  | cons env r ih =>
   intro hs hl
   obtain⟨hk,⟨L,o,hf,hn,ho,hd⟩,hr⟩:=hl
   have hL:L∈X.fs:=hs L (by unfold DO;rw[List.filterMap_cons,hf];exact List.mem_cons_self)
   obtain⟨sl,e⟩:=I.base.slot L o ho (I.ok.frf L hL) hL λz=>I.ok.exfs L z hL
   exact⟨hk,⟨L,_,hf,hn,e,hd⟩,ih (λb hb=>hs b (by unfold DO;rw[List.filterMap_cons,hf];exact List.mem_cons_of_mem _ hb)) hr⟩
 exact all X.outer (λ_ hb=>hb) I.ok.funs
theorem Inv.stack(I:Inv X pins σ H s):s.heap.FunFrames X.base X.stack:=by
 rcases I.ok.stk with e | ⟨e,hf⟩
 ·rw[e];exact I.funs
 ·rw[e]
  obtain⟨m,hn,_⟩:=I.loc
  refine .cons (by rw[I.ok.kind];decide) hf hn ?_ I.funs
  exact Heap.get?_none_of_le (Nat.le_trans I.ok.bsz I.ok.above)
theorem Inv.stkSub(I:Inv X pins σ H s):∀ b∈DO X.stack,b∈X.env.locals::X.fs:=λb hb=>by
 rcases I.ok.stk with e | ⟨e,hf⟩
 ·rw[e]at hb;exact List.mem_cons_of_mem _ hb
 ·rw[e]at hb
  unfold DO at hb
  rw[List.filterMap_cons,hf]at hb
  exact hb
theorem Inv.stkFree(I:Inv X pins σ H s):∀ b∈DO X.stack,H b=none:=λb hb=>by
 rcases List.mem_cons.mp (I.stkSub b hb)with e | hb
 ·rw[e];exact I.free
 ·obtain⟨_,o,ho,_⟩:=I.ok.funs.mem hb
  exact I.base.free b o ho (I.ok.frf b hb) λz=>I.ok.exfs b z hb
theorem Inv.step{g':Array GenState}{t':Nat}{d':Drawn}{ch:List Addr}(I:Inv X pins σ H s)
  (hch:∀ b∈ch,(b∈X.ex\/X.s₀.heap.objs.size<=b)/\b≠X.env.locals/\(∀ x c,X.env.cells.lookup x=some c->c≠b)/\∀ p∈X.pn++pins,p.1≠b)
  (keep:∀ b o,b≠X.env.locals->b∉X.fs->b∉ch->s.heap.get? b=some o->H b=none->h'.get? b=some o)
  (slot:∀ b o,b≠X.env.locals->b∈X.fs->b∉ch->s.heap.get? b=some o->H b=none->∃ sl,h'.get? b=some { o with slots:=sl }) (free:∀ b o,b∉ch->s.heap.get? b=some o->H b=none->H' b=none)
  (there:∀ b o,b∉ch->s.heap.get? b=some o->∃ o',h'.get? b=some o')
  (tups:∀ b xs,H b=some (.tup xs)->H' b=some (.tup xs)) (frzs:∀ b o u,H b=some (.frz o u)->H' b=some (.frz o u)) (tbls:∀ b ps,H b=some (.tbl ps)->∃ more,H' b=some (.tbl (ps++more)))
  (ns:∀ m,s.heap.Ns X.env.locals m->h'.Ns X.env.locals m) (hok:HOk X.prog X.w H' h') (hg:AllBare g') :
  Inv X pins σ H' { s with heap:=h',gens:=g',drawn:=d',toks:=t' }:=by
 have neL:∀ b o,X.s₀.heap.get? b=some o->b≠X.env.locals:=λb o e=>Nat.ne_of_lt (Nat.lt_of_lt_of_le (Heap.lt_size e) I.ok.above)
 have neC:∀ b o,X.s₀.heap.get? b=some o->b∉X.ex->b∉ch:=λb o e hx hb=>by
  rcases(hch b hb).1 with z | z
  ·exact hx z
  ·exact absurd (Nat.lt_of_lt_of_le (Heap.lt_size e) z) (Nat.lt_irrefl _)
 have cellK:∀ x c,X.env.cells.lookup x=some c->∀ v,s.heap.IsCell c v->h'.IsCell c v:=λx c e v ⟨o,ho,hd⟩=>by
  have nch:c∉ch:=λz=>(hch c z).2.2.1 x c e rfl
  by_cases hc:c∈X.fs
  ·obtain⟨sl,q⟩:=slot c o (I.cne x c e) hc nch ho (I.freeC x c e)
   exact⟨_,q,hd⟩
  ·exact⟨o,keep c o (I.cne x c e) hc nch ho (I.freeC x c e),hd⟩
 refine⟨I.ok,I.os,hg,⟨λb o e n hb hx=> ?_,λb o e n hb hx=> ?_,λb o e n hx=> ?_,λb o e hx=> ?_,λb xs e=>tups b xs (I.base.tups b xs e),λb o xs e=>frzs b o xs (I.base.frzs b o xs e),λb ps e=> ?_⟩,?_,λx c e=> ?_,?_,λx c e=> ?_,λp hp=> ?_,hok,I.len⟩
 ·exact keep b o (neL b o e) hb (neC b o e hx) (I.base.keep b o e n hb hx) (I.base.free b o e n hx)
 ·obtain⟨sl,e1⟩:=I.base.slot b o e n hb hx
  obtain⟨sl',e2⟩:=slot b _ (neL b o e) hb (neC b o e hx) e1 (I.base.free b o e n hx)
  exact⟨sl',e2⟩
 ·obtain⟨o',e1⟩:=I.base.there b o e hx
  exact free b o' (neC b o e hx) e1 (I.base.free b o e n hx)
 ·obtain⟨o',e1⟩:=I.base.there b o e hx
  exact there b o' (neC b o e hx) e1
 ·obtain⟨m1,e1⟩:=I.base.tbls b ps e
  obtain⟨m2,e2⟩:=tbls b _ e1
  exact⟨m1++m2,by rw[e2,Array.append_assoc]⟩
 ·obtain⟨m,hn,hl⟩:=I.loc
  refine⟨m,ns m hn,λi x v e1 e2 e3=> ?_⟩
  obtain⟨u,r,l⟩:=hl i x v e1 e2 e3
  refine⟨u,r,?_⟩
  rcases l with l | ⟨k,c,e,z⟩
  ·exact .inl l
  ·exact .inr ⟨k,c,e,cellK x c e _ z⟩
 ·obtain⟨v,z⟩:=I.cell x c e
  exact⟨v,cellK x c e v z⟩
 ·obtain⟨m,⟨o,_,_,ho,_⟩,_⟩:=I.loc
  exact free _ o (λz=>(hch _ z).2.1 rfl) ho I.free
 ·obtain⟨v,o,ho,hd⟩:=I.cell x c e
  exact free c o (λz=>(hch c z).2.2.1 x c e rfl) ho (I.freeC x c e)
 ·obtain⟨e,n,ne,nf,d⟩:=I.pin p hp
  have nch:p.1∉ch:=λz=>(hch p.1 z).2.2.2 p hp rfl
  exact⟨keep p.1 p.2 ne nf nch e n,free p.1 p.2 nch e n,ne,nf,d⟩
theorem Inv.un{t':Nat}(I:Inv X pins σ H s)(u:Un X.fs [] H H' s.heap h')(hok:HOk X.prog X.w H' h'):Inv X pins σ H' { s with heap:=h',toks:=t' }:=by
 obtain⟨m,⟨o,es,ep,ho,r⟩,_⟩:=id I.loc
 obtain⟨sl,hL⟩:=u.any ho I.free (by simp)
 exact I.step (g':=s.gens) (d':=s.drawn) (ch:=[]) (λ_ z=>nomatch z) (λb o _ hb _ e n=>u.keep b o e n hb (by simp)) (λb o _ hb _ e n=>u.slot b o e n hb (by simp)) (λb o _ e n=>u.free b o e n (by simp)) (λb o _ e=>u.there b o e (by simp)) u.tups u.frzs u.tbls (λm' hm=>by
  obtain⟨o',es',ep',ho',r'⟩:=hm
  rw[ho]at ho';cases ho'
  exact⟨_,es',ep',hL,r'⟩) hok I.bare
theorem Inv.call{g':Array GenState}{t':Nat}{d':Drawn}{ch:List Addr}(I:Inv X pins σ H s)(u:Un (DO X.stack) ch H H' s.heap h')(hok:HOk X.prog X.w H' h')(hg:AllBare g')
  (hch:∀ b∈ch,(b∈X.ex\/X.s₀.heap.objs.size<=b)/\b≠X.env.locals/\(∀ x c,X.env.cells.lookup x=some c->c≠b)/\∀ p∈X.pn++pins,p.1≠b) :
  Inv X pins σ H' { s with heap:=h',gens:=g',drawn:=d',toks:=t' }:=by
 obtain⟨m,⟨o,es,ep,ho,r⟩,_⟩:=id I.loc
 obtain⟨sl,hL⟩:=u.any ho I.free λz=>(hch _ z).2.1 rfl
 exact I.step (ch:=ch) hch (λb o hL hb hc e n=>u.keep b o e n (λz=>(List.mem_cons.mp (I.stkSub b z)).elim hL hb) hc) (λb o _ _ hc e n=>u.any e n hc) (λb o hc e n=>u.free b o e n hc) (λb o hc e=>u.there b o e hc) u.tups u.frzs u.tbls (λm' hm=>by
  obtain⟨o',es',ep',ho',r'⟩:=hm
  rw[ho]at ho';cases ho'
  exact⟨_,es',ep',hL,r'⟩) hok hg
theorem Inv.turned{t':Nat}{it:Addr}(I:Inv X pins σ H s)(k:∀ b o,b≠it->s.heap.get? b=some o->h'.get? b=some o)(hn:H it=none)(hL:it≠X.env.locals)
  (h1:it∈X.ex\/X.s₀.heap.objs.size<=it) (h2:∀ x c,X.env.cells.lookup x=some c->c≠it) (h3:∀ p∈X.pn++pins,p.1≠it):Inv X pins σ H { s with heap:=h',toks:=t' }:=by
 have nit:∀ b u,H b=some u->b≠it:=λb u e z=>by rw[z,hn]at e;cases e
 refine I.step (g':=s.gens) (d':=s.drawn) (ch:=[it]) (λb hb=> ?_) (λb o _ _ hc e _=>k b o (λz=>hc (by simp[z])) e) (λb o _ _ hc e _=>⟨o.slots,k b o (λz=>hc (by simp[z])) e⟩) (λ_ _ _ _ n=>n)
  (λb o hc e=>⟨o,k b o (λz=>hc (by simp[z])) e⟩) (λ_ _ e=>e) (λ_ _ _ e=>e) (λb ps e=>⟨#[],by rw[e];simp⟩) (λm hm=> ?_) (λb u e=> ?_) I.bare
 ·have e:b=it:=by simpa using hb
  subst e
  exact⟨h1,hL,h2,h3⟩
 ·obtain⟨o,es,ep,ho,r⟩:=hm
  exact⟨o,es,ep,k _ o (Ne.symm hL) ho,r⟩
 ·refine(I.hok b u e).stay (λc v hc q=>k c v ?_ q) (λ_ q=>q) λ_ _ q=>q
  rcases hc with z | z
  ·rw[z];exact nit b u e
  ·exact nit c _ z
theorem Inv.tok(I:Inv X pins σ H s)(t:Nat):Inv X pins σ H { s with toks:=t }:=I.un (h':=s.heap) (t':=t) Un.refl I.hok
theorem Inv.kept{t':Nat}(I:Inv X pins σ H s)(k:∀ b u,s.heap.get? b=some u->h'.get? b=some u):Inv X pins σ H { s with heap:=h',toks:=t' }:=I.un (Un.kept k) (I.hok.kept k)
theorem Inv.laid{a:Addr}{o:HO}{t':Nat}(I:Inv X pins σ H s)(k:∀ b u,s.heap.get? b=some u->h'.get? b=some u)(hp:s.heap.objs.size<=a)(new:ObjOk X.prog X.w (upd H a o) h' a o) :
  Inv X pins σ (upd H a o) { s with heap:=h',toks:=t' }:=I.un (Un.laid k hp (I.hok.fresh hp)) (I.hok.laid k hp new)
theorem Inv.write{x e:Addr}{o:HO}{t':Nat}(I:Inv X pins σ H s)(mu:LY (H x))(he:e=x\/H e=some (.own x))(k:∀ b u,b≠e->s.heap.get? b=some u->h'.get? b=some u)(heo:∃ u,h'.get? e=some u)
  (new:ObjOk X.prog X.w (upd H x o) h' x o):Inv X pins σ (upd H x o) { s with heap:=h',toks:=t' }:=I.un (Un.write mu he k heo) (I.hok.write mu he k heo new)
theorem Inv.pins_of{pins':List (Addr × Obj)}(I:Inv X pins σ H s)(h:∀ p∈pins',s.heap.get? p.1=some p.2/\H p.1=none/\p.1≠X.env.locals/\p.1∉X.fs/\∀ v,p.2.data≠.cell v):Inv X pins' σ H s :=
 ⟨I.ok,I.os,I.bare,I.base,I.loc,I.cell,I.free,I.freeC,λp hp=>(List.mem_append.mp hp).elim (λz=>I.pin p (List.mem_append_left _ z)) (h p),I.hok,I.len⟩
theorem Q6{N:List Str}(hN:N.Nodup){i j:Nat}{x:Str}(a:N[i]? =some x)(b:N[j]? =some x):i=j:=by
 obtain⟨h1,e1⟩:=List.getElem?_eq_some_iff.mp a
 obtain⟨h2,e2⟩:=List.getElem?_eq_some_iff.mp b
 exact(List.getElem_inj hN).mp (e1.trans e2.symm)
theorem Y3{M:Model}{A:Around}{E:Value->Shared->Prop}{i:Nat}{x:Str}{v:V}{u:Value}{Q:Unit->Shared->Prop}(I:Inv X pins σ H s)(hN:X.N.Nodup)(hi:X.N[i]? =some x)(hx:KM X.env.scope x)(r:RelV v u)
  (h:∀ s',Inv X pins (σ.set i (some v)) H s'->(∃ a,Heap.SameBut a s.heap s'.heap/\(a=X.env.locals\/X.env.cells.lookup x=some a))->Q () s') (hf:X.fn x=true\/X.env.scope.names.lookup x=some .local:=by first | exact .inl rfl | exact .inr rfl | assumption):wpAny M A (storeName X.env x u) Q E s:=by
 obtain⟨m,hn,hl⟩:=id I.loc
 have hcls:(X.env.scope.kind == .class || (X.env.scope.kind == .module && X.env.locals != X.env.globals))=false:=by rw[I.ok.kind];rfl
 have hiσ:i<σ.length:=by rw[I.len];exact(List.getElem?_eq_some_iff.mp hi).1
 have cne:=I.cne
 have tracked:∀ {a:Addr} {h':Heap},(∃ o,s.heap.get? a=some o/\H a=none)->Heap.SameBut a s.heap h'->HOk X.prog X.w H h':=λ{a h'} ha hs b ob e=>by
  obtain⟨_,_,hfree⟩:=ha
  refine(I.hok b ob e).stay (λc w' hc q=>(hs.2 c ?_).trans q) (λ_ q=>q) λ_ _ q=>q
  rintro rfl
  rcases hc with rfl | hc
  ·rw[hfree]at e;cases e
  ·rw[hfree]at hc;cases hc
 rcases hx with hk | hk
 ·refine wpAny_storeName_local hk hn (λh' hn' hs=> ?_) hcls
  obtain⟨oL,_,_,hoL,_⟩:=id hn
  refine h _ ⟨I.ok,I.os,I.bare,⟨λb o e n hb hx=> ?_,λb o e n hb hx=> ?_,I.base.free,λb o e hx=> ?_,I.base.tups,I.base.frzs,I.base.tbls⟩,⟨_,hn',λj y v' e1 e2 e3=> ?_⟩,λy c e=> ?_,I.free,I.freeC,λp hp=> ?_,tracked ⟨oL,hoL,I.free⟩ hs,by simpa using I.len⟩ ⟨_,hs,.inl rfl⟩
  ·exact(hs.2 b (Nat.ne_of_lt (Nat.lt_of_lt_of_le (Heap.lt_size e) I.ok.above))).trans (I.base.keep b o e n hb hx)
  ·obtain⟨sl,e1⟩:=I.base.slot b o e n hb hx
   exact⟨sl,(hs.2 b (Nat.ne_of_lt (Nat.lt_of_lt_of_le (Heap.lt_size e) I.ok.above))).trans e1⟩
  ·obtain⟨o',e1⟩:=I.base.there b o e hx
   exact⟨o',(hs.2 b (Nat.ne_of_lt (Nat.lt_of_lt_of_le (Heap.lt_size e) I.ok.above))).trans e1⟩
  ·by_cases hj:j=i
   ·subst hj
    rw[hi]at e1;cases e1
    rw[List.getElem?_set_self hiσ]at e2
    cases e2
    exact⟨u,r,.inl ⟨hk,by simp⟩⟩
   ·rw[List.getElem?_set_ne (Ne.symm hj)]at e2
    obtain⟨u',r',q⟩:=hl j y v' e1 e2 e3
    refine⟨u',r',?_⟩
    rcases q with⟨k,e⟩ | ⟨k,c,e,z⟩
    ·refine .inl ⟨k,?_⟩
     have:y≠x:=λe=>hj (Q6 hN e1 (e ▸ hi))
     simp[this,e]
    ·exact .inr ⟨k,c,e,z.sameBut hs (cne y c e)⟩
  ·obtain⟨w',z⟩:=I.cell y c e
   exact⟨w',z.sameBut hs (cne y c e)⟩
  ·obtain⟨e,n,ne,nf,d⟩:=I.pin p hp
   exact⟨(hs.2 p.1 ne).trans e,n,ne,nf,d⟩
 ·have hfn:X.fn x=true:=by
   rcases hf with z | z
   ·exact z
   ·rw[z]at hk;cases hk
  obtain⟨c,hc⟩:=I.ok.has x (.inl hk)
  obtain⟨w',z⟩:=I.cell x c hc
  refine wpAny_storeName_cell I.ok.kind hk hc z (λh' hc' hs=> ?_)
  obtain⟨oc,hoc,hocd⟩:=id z
  refine h { s with heap:=h' } ⟨I.ok,I.os,I.bare,⟨λb o e n hb hx=> ?_,λb o e n hb hx=> ?_,I.base.free,λb o e hx=> ?_,I.base.tups,I.base.frzs,I.base.tbls⟩,⟨m,hn.sameBut hs (Ne.symm (cne x c hc)),λj y v' e1 e2 e3=> ?_⟩,λy c' e=> ?_,I.free,I.freeC,λp hp=> ?_,tracked ⟨oc,hoc,I.freeC x c hc⟩ hs,by simpa using I.len⟩ ⟨c,hs,.inr hc⟩
  ·exact(hs.2 b (Nat.ne_of_lt (Nat.lt_of_lt_of_le (Heap.lt_size e) (I.ok.cab x c hfn hc)))).trans (I.base.keep b o e n hb hx)
  ·obtain⟨sl,e1⟩:=I.base.slot b o e n hb hx
   exact⟨sl,(hs.2 b (Nat.ne_of_lt (Nat.lt_of_lt_of_le (Heap.lt_size e) (I.ok.cab x c hfn hc)))).trans e1⟩
  ·obtain⟨o',e1⟩:=I.base.there b o e hx
   exact⟨o',(hs.2 b (Nat.ne_of_lt (Nat.lt_of_lt_of_le (Heap.lt_size e) (I.ok.cab x c hfn hc)))).trans e1⟩
  ·by_cases hj:j=i
   ·subst hj
    rw[hi]at e1;cases e1
    rw[List.getElem?_set_self hiσ]at e2
    cases e2
    exact⟨u,r,.inr ⟨.inl hk,c,hc,hc'⟩⟩
   ·rw[List.getElem?_set_ne (Ne.symm hj)]at e2
    obtain⟨u',r',q⟩:=hl j y v' e1 e2 e3
    refine⟨u',r',?_⟩
    rcases q with q | ⟨k,c',e,z'⟩
    ·exact .inl q
    ·refine .inr ⟨k,c',e,z'.sameBut hs ?_⟩
     rintro rfl
     exact hj (Q6 hN e1 (I.ok.inj _ _ _ e hc ▸ hi))
  ·by_cases hcc:c'=c
   ·subst hcc;exact⟨_,hc'⟩
   ·obtain⟨w2,z2⟩:=I.cell y c' e
    exact⟨w2,z2.sameBut hs hcc⟩
  ·obtain⟨e,n,ne,nf,d⟩:=I.pin p hp
   refine⟨(hs.2 p.1 ?_).trans e,n,ne,nf,d⟩
   intro q
   rw[q,hoc]at e
   have q':oc=p.2:=Option.some.inj e
   exact d w' (by rw[<-q'];exact hocd)
theorem OH{M:Model}{A:Around}{E:Value->Shared->Prop}{i:Nat}{x:Str}{v:V}{u:Value}{Q:Unit->Shared->Prop}(I:Inv X pins σ H s)(hN:X.N.Nodup)(hi:X.N[i]? =some x)(hx:KM X.env.scope x)(r:RelV v u)
  (h:∀ s',Inv X pins (σ.set i (some v)) H s'->Q () s') (hf:X.fn x=true\/X.env.scope.names.lookup x=some .local:=by first | exact .inl rfl | exact .inr rfl | assumption):wpAny M A (storeName X.env x u) Q E s :=
 Y3 I hN hi hx r (λs' I' _=>h s' I') hf
theorem Inv.call'{s':Shared}{ch:List Addr}(I:Inv X pins σ H s)(ho:s'.os=s.os)(u:Un (DO X.stack) ch H H' s.heap s'.heap)(hok:HOk X.prog X.w H' s'.heap)(hg:AllBare s'.gens)
  (hch:∀ b∈ch,(b∈X.ex\/X.s₀.heap.objs.size<=b)/\b≠X.env.locals/\(∀ x c,X.env.cells.lookup x=some c->c≠b)/\∀ p∈X.pn++pins,p.1≠b):Inv X pins σ H' s':=by
 obtain⟨h',g',d',t',o'⟩:=s'
 have e:o'=s.os:=ho
 subst e
 exact I.call (g':=g') (t':=t') (d':=d') u hok hg hch
end
abbrev XK:=Value->Option Addr->Hp->Prop
abbrev St:=List (Option V)
abbrev VK:=V->Hp->Prop
abbrev TE:=St->Hp->VK->Prop
abbrev TT:=St->Hp->(Bool->Hp->Prop)->Prop
abbrev TA:=St->Hp->(List V->Hp->Prop)->Prop
structure Ends where
 nx:St->Hp->Prop
 rt:VK
 bk:St->Hp->Prop:=λ_ _=>False
 ct:St->Hp->Prop:=λ_ _=>False
abbrev TS:=Ends->St->Hp->Prop
def EP(X:Cx)(pins:List (Addr × Obj))(σ:St)(Q:VK)(u:Value)(s':Shared):Prop:=∃ v H',Inv X pins σ H' s'/\RelV v u/\Q v H'
def TP(X:Cx)(pins:List (Addr × Obj))(σ:St)(Q:Bool->Hp->Prop)(b:Bool)(s':Shared):Prop:=∃ H',Inv X pins σ H' s'/\Q b H'
def AP(X:Cx)(pins:List (Addr × Obj))(σ:St)(Q:List V->Hp->Prop)(us:List Value)(s':Shared):Prop:=∃ vs H',Inv X pins σ H' s'/\Vals vs us/\Q vs H'
def SP(X:Cx)(pins:List (Addr × Obj))(D:Ends)(f:Flow)(s':Shared):Prop :=
 match f with
 | .next=>∃ σ' H',Inv X pins σ' H' s'/\D.nx σ' H'
 | .brk=>∃ σ' H',Inv X pins σ' H' s'/\D.bk σ' H'
 | .cont=>∃ σ' H',Inv X pins σ' H' s'/\D.ct σ' H'
 | .ret u=>∃ v σ' H',Inv X pins σ' H' s'/\RelV v u/\D.rt v H'
def PE(X:Cx)(e:Expr)(t:TE):Prop :=
 ∀ (pins:List (Addr × Obj)) (s:Shared) (σ:St) (H:Hp) (Q:VK),Inv X pins σ H s->t σ H Q->wpAny (model X.prog X.w) X.A (eval e X.env) (EP X pins σ Q) X.xe s
def PT(X:Cx)(e:Expr)(t:TT):Prop :=
 ∀ (pins:List (Addr × Obj)) (s:Shared) (σ:St) (H:Hp) (Q:Bool->Hp->Prop),Inv X pins σ H s->t σ H Q->wpAny (model X.prog X.w) X.A (isTrue e X.env (eval e X.env)) (TP X pins σ Q) X.xe s
def PW(X:Cx)(e:Expr)(t:TT):Prop :=
 ∀ (whole:Sem Value) (pins:List (Addr × Obj)) (s:Shared) (σ:St) (H:Hp) (Q:Bool->Hp->Prop),Inv X pins σ H s->t σ H Q->wpAny (model X.prog X.w) X.A (isTrue e X.env whole) (TP X pins σ Q) X.xe s
theorem PW.pt{X:Cx}{e:Expr}{t:TT}(h:PW X e t):PT X e t:=h _
def PA(X:Cx)(es:List Expr)(t:TA):Prop :=
 ∀ (pos:Pos) (pins:List (Addr × Obj)) (s:Shared) (σ:St) (H:Hp) (Q:List V->Hp->Prop),Inv X pins σ H s->t σ H Q->wpAny (model X.prog X.w) X.A (spliced (backTo pos (starEach es X.env))) (AP X pins σ Q) X.xe s
def PS(X:Cx)(st:Stmt)(t:TS):Prop :=
 ∀ (pins:List (Addr × Obj)) (s:Shared) (σ:St) (H:Hp) (D:Ends),Inv X pins σ H s->t D σ H->wpAny (model X.prog X.w) X.A (exec st X.env) (SP X pins D) X.xe s
def PSs(X:Cx)(st:List Stmt)(t:TS):Prop :=
 ∀ (pins:List (Addr × Obj)) (s:Shared) (σ:St) (H:Hp) (D:Ends),Inv X pins σ H s->t D σ H->wpAny (model X.prog X.w) X.A (execs st X.env) (SP X pins D) X.xe s
theorem AW{α :Type}{t:Sem α}{Q Q': α ->Shared->Prop}{M:Model}{A:Around}{E:Value->Shared->Prop}{s:Shared}(h:wpAny M A t Q E s)(hQ:∀ a s,Q a s->Q' a s):wpAny M A t Q' E s:=wpAny_mono h hQ λ_ _ x=>x
end L2
namespace L2
section
variable{X:Cx}
def OI(i:Nat):TE:=λσ H Q=>∃ v,σ[i]? =some (some v)/\Q v H
def tC(v:V):TE:=λ_ H Q=>Q v H
theorem Y4{i:Nat}{x:Str}{pos:Pos}(hN:X.N[i]? =some x)(hv:OG X.env.scope x)(hd:(x ==("__debug__":Str))=false:=by decide)(hcd:(x ==("__classdict__":Str))=false:=by decide):PE X (.Name x pos) (OI i):=by
 intro pins s σ H Q I h
 obtain⟨v,e,h⟩:=h
 obtain⟨m,hn,hl⟩:=I.loc
 obtain⟨u,r,l⟩:=hl i x v hN e hv
 have fin:EP X pins σ Q u s:=⟨v,H,I,r,h⟩
 rcases l with⟨hk,hm⟩ | ⟨hk,c,hc,hcell⟩
 ·exact wpAny_Name (wpAny_loadName_local I.ok.kind hk hn hm fin) hd
 ·rcases hk with hk | hk
  ·exact wpAny_Name (wpAny_loadName_cell I.ok.kind hk hc hcell fin) hd
  ·exact wpAny_Name (wpAny_loadName_free I.ok.kind hk hc hcell fin hcd) hd
theorem AN{i j pos}:PE X (.Constant (.int i) j pos) (tC (.int i)):=λ_ _ _ H _ I h=>wpAny_Constant_int ⟨.int i,H,I.tok _,⟨_,rfl⟩,h⟩
theorem JA{b j pos}:PE X (.Constant (.bool b) j pos) (tC (.bl b)):=λ_ _ _ H _ I h=>Constant_bool ⟨.bl b,H,I,rfl,h⟩
theorem CY{j pos}:PE X (.Constant .none j pos) (tC .non):=λ_ _ _ H _ I h=>Constant_none ⟨.non,H,I,rfl,h⟩
theorem B3{x j pos}:PE X (.Constant (.str x) j pos) (tC (.str x)):=λ_ _ _ H _ I h=>Calls.Constant_str ⟨.str x,H,I.tok _,⟨_,rfl⟩,h⟩
def Gl(X:Cx)(x:Str):Prop:=X.env.kindOf x=some .globalImplicit
theorem LZ{E:Value->Shared->Prop}{pins:List (Addr × Obj)}{s:Shared}{σ:St}{H:Hp}{x:Str}{u:Value}{pos:Pos}{Q:Value->Shared->Prop}(I:Inv X pins σ H s)(hg:Gl X x)(hm:X.mg x=some u)(h:Q u s)
  (hd:(x ==("__debug__":Str))=false:=by decide):wpAny (model X.prog X.w) X.A (eval (.Name x pos) X.env) Q E s :=
 Calls.Name_function_global I.ok.kind hg (Calls.loadGlobal_global (by rw[I.ok.glob];exact I.mod.glob.keeps I.bk) hm h) hd
theorem KN{E:Value->Shared->Prop}{pins:List (Addr × Obj)}{s:Shared}{σ:St}{H:Hp}{x:Str}{u:Value}{pos:Pos}{Q:Value->Shared->Prop}(I:Inv X pins σ H s)(hg:Gl X x)(hm:X.mg x=none)(hv:bootBuiltins x=some u)(h:Q u s)
  (hn:x≠"__name__":=by decide) (hd:(x ==("__debug__":Str))=false:=by decide):wpAny (model X.prog X.w) X.A (eval (.Name x pos) X.env) Q E s:=by
 obtain⟨mb,h1,h2⟩:=I.mod.blt
 exact Calls.Name_function_global I.ok.kind hg (Calls.loadGlobal_builtin (by rw[I.ok.glob];exact I.mod.glob.keeps I.bk) hm (by rw[I.ok.blt];exact h1.keeps I.bk) ((h2 x hn).trans hv) h) hd
theorem qM{x:Str}{v:V}{u:Value}{pos:Pos}(hg:Gl X x)(hm:X.mg x=some u)(r:RelV v u)(hd:(x ==("__debug__":Str))=false:=by decide):PE X (.Name x pos) (tC v) :=
 λ_ _ _ H _ I h=>LZ I hg hm ⟨v,H,I,r,h⟩ hd
theorem qN{x:Str}{v:V}{u:Value}{pos:Pos}(hg:Gl X x)(hm:X.mg x=none)(hv:bootBuiltins x=some u)(r:RelV v u)(hn:x≠"__name__":=by decide)(hd:(x ==("__debug__":Str))=false:=by decide):PE X (.Name x pos) (tC v) :=
 λ_ _ _ H _ I h=>KN I hg hm hv ⟨v,H,I,r,h⟩ hn hd
variable{a b:Expr}{ta tb:TE}{pos:Pos}
def PC(X:Cx)(op:CmpOp)(a b:Expr)(t:TE):Prop :=
 ∀ (pins:List (Addr × Obj)) (s:Shared) (σ:St) (H:Hp) (Q:VK),Inv X pins σ H s->t σ H Q →
  wpAny (model X.prog X.w) X.A (eval a X.env) (λv s₁=>wpAny (model X.prog X.w) X.A (eval b X.env) (λu s₂=>wpAny (model X.prog X.w) X.A (compareOp op v u) (EP X pins σ Q) X.xe s₂) X.xe s₁) X.xe s
theorem qO(b:Expr){op:CmpOp}(h:op≠.In)(h2:op≠.NotIn):behindInMarks op b=false:=by
 have e1:(op == CmpOp.In)=false:=by cases op<;>first | rfl | exact absurd rfl h
 have e2:(op == CmpOp.NotIn)=false:=by cases op<;>first | rfl | exact absurd rfl h2
 cases b<;>simp[behindInMarks,e1,e2]
def tB(t:TE):TT:=λσ H Q=>t σ H λx H1=>∃ c,x=.bl c/\Q c H1
theorem qP{op:CmpOp}{t:TE}(h:PC X op a b t)(h1:behindInMarks op b=false:=by first | exact qO _ (by decide) (by decide) | rfl):PT X (.Compare a [op] [b] pos) (tB t):=by
 intro pins s σ H Q I hw
 refine wpAny_isTrue_Compare1 (AW (h pins s σ H _ I hw) λv s1 h1=>AW h1 λu s2 h2=>AW h2 λc s3 ⟨x,H1,I1,r1,q1⟩=> ?_) h1
 obtain⟨d,rfl,q⟩:=q1
 cases r1
 exact wpAny_truthy_bool ⟨H1,I1,q⟩
variable{tA tB':TT}{CT:List Expr}
def FZ(t u:TT):TT:=λσ H Q=>t σ H λc H1=>if c=true then u σ H1 Q else Q false H1
def JB(t u:TT):TT:=λσ H Q=>t σ H λc H1=>if c=true then Q true H1 else u σ H1 Q
def KO(t:TT):TT:=λσ H Q=>t σ H λc H1=>Q (!c) H1
theorem HC(ha:PT X a tA):PW X (.BoolOp .And [a] pos) tA:=by
 intro wh pins s σ H Q I h
 refine isTrue_and (AW (ha pins s σ H Q I h) λc s1 e=> ?_)
 cases c with
 | true=>exact isTrue_and_nil e
 | false=>exact e
theorem L4(ha:PT X a tA):PW X (.BoolOp .Or [a] pos) tA:=by
 intro wh pins s σ H Q I h
 refine isTrue_or (AW (ha pins s σ H Q I h) λc s1 e=> ?_)
 cases c with
 | false=>exact isTrue_or_nil e
 | true=>exact e
theorem HD(ha:PT X a tA)(hb:PW X (.BoolOp .And (b::CT) pos) tB'):PW X (.BoolOp .And (a::b::CT) pos) (FZ tA tB'):=by
 intro wh pins s σ H Q I h
 refine isTrue_and (AW (ha pins s σ H _ I h) λc s1 ⟨H1,I1,q1⟩=> ?_)
 cases c with
 | true=>exact hb wh pins s1 σ H1 Q I1 q1
 | false=>exact⟨H1,I1,q1⟩
theorem L7(ha:PT X a tA)(hb:PW X (.BoolOp .Or (b::CT) pos) tB'):PW X (.BoolOp .Or (a::b::CT) pos) (JB tA tB'):=by
 intro wh pins s σ H Q I h
 refine isTrue_or (AW (ha pins s σ H _ I h) λc s1 ⟨H1,I1,q1⟩=> ?_)
 cases c with
 | true=>exact⟨H1,I1,q1⟩
 | false=>exact hb wh pins s1 σ H1 Q I1 q1
theorem OJ(ha:PT X a tA):PT X (.UnaryOp .Not a pos) (KO tA):=by
 intro pins s σ H Q I h
 exact isTrue_not (ha pins s σ H (λc H1=>Q (!c) H1) I h)
def OK(ta tb:TE):TE:=λσ H Q=>ta σ H λx H1=>∃ c,x=.bl c/\if c=true then tb σ H1 Q else Q (.bl false) H1
def qQ(ta tb:TE):TE:=λσ H Q=>ta σ H λx H1=>∃ c,x=.bl c/\if c=true then Q (.bl true) H1 else tb σ H1 Q
theorem Y5{op}{t:TE}(h:PE X a t):PE X (.BoolOp op [a] pos) t:=λpins s σ H Q I hw=>BoolOp_one (h pins s σ H Q I hw)
theorem Y6(ha:PE X a ta)(hb:PE X (.BoolOp .And (b::CT) pos) tb):PE X (.BoolOp .And (a::b::CT) pos) (OK ta tb):=by
 intro pins s σ H Q I h
 refine BoolOp_and (AW (ha pins s σ H _ I h) λv s1 ⟨x,H1,I1,r1,q1⟩=> ?_)
 obtain⟨c,rfl,q1⟩:=q1
 cases r1
 refine wpAny_truthy_bool ?_
 cases c with
 | true=>exact hb pins s1 σ H1 Q I1 q1
 | false=>exact⟨.bl false,H1,I1,rfl,q1⟩
def Q7(t:TT)(ta tb:TE):TE:=λσ H Q=>t σ H λc H1=>if c=true then ta σ H1 Q else tb σ H1 Q
theorem qR{c:Expr}(hc:PT X c tA)(ha:PE X a ta)(hb:PE X b tb):PE X (.IfExp c a b pos) (Q7 tA ta tb):=by
 intro pins s σ H Q I h
 refine wpAny_IfExp (AW (hc pins s σ H _ I h) λd s1 ⟨H1,I1,q1⟩=> ?_)
 cases d with
 | true=>exact ha pins s1 σ H1 Q I1 q1
 | false=>exact hb pins s1 σ H1 Q I1 q1
end
end L2
namespace L2
def SqL(K:W.Frag)(H:Hp)(a:Addr)(xs:List V):Prop :=
 Rd H a (.lst xs) ∨
  ∃ (o:Obj) (its:Array Value) (n:Nat),K.lookup a=some o/\o.cls=.type "list"/\o.dict=none/\o.data=.seq its n/\its.size<=sizeLine/\Vals xs its.toList
def SqT(K:W.Frag)(H:Hp)(a:Addr)(xs:List V):Prop :=
 Rd H a (.tup xs) ∨
  ∃ (o:Obj) (its:Array Value) (n:Nat),K.lookup a=some o/\o.cls=.type "tuple"/\o.data=.seq its n/\its.size<=sizeLine/\Vals xs its.toList
def qS:Value->Option V
 | .none=>some .non
 | .bool b=>some (.bl b)
 | .int i _=>some (.int i)
 | .str x _=>some (.str x)
 | .bytes b _=>some (.byt b)
 | .float b _=>some (.flt b)
 | .ref a=>some (.ref a)
 | .type n=>some (.ty n)
 | _=>none
theorem RelV.abs{x:V}{u:Value}(r:RelV x u):qS u=some x:=by
 cases x with
 | non=>cases r;rfl
 | bl _=>cases r;rfl
 | int _=>obtain⟨t,rfl⟩:=r;rfl
 | str _=>obtain⟨t,rfl⟩:=r;rfl
 | byt _=>obtain⟨t,rfl⟩:=r;rfl
 | flt _=>obtain⟨t,rfl⟩:=r;rfl
 | ref _=>cases r;rfl
 | ty _=>cases r;rfl
theorem RelV.inj{x y:V}{u:Value}(r:RelV x u)(q:RelV y u):x=y:=Option.some.inj (r.abs.symm.trans q.abs)
theorem Vals.inj:∀ {xs ys:List V} {us:List Value},Vals xs us->Vals ys us->xs=ys
 | _,_,_,.nil,.nil=>rfl
 | _,_,_,.cons r t,.cons r' t'=>by rw[r.inj r',Vals.inj t t']
section
variable{X:Cx}{pins:List (Addr × Obj)}{σ:St}{H:Hp}{s:Shared}{a:Addr}{xs ys:List V}
theorem SqL.of{K:W.Frag}(h:H a=some (.lst xs)):SqL K H a xs:=.inl (.inl h)
theorem SqT.of{K:W.Frag}(h:H a=some (.tup xs)):SqT K H a xs:=.inl (.inl h)
theorem Inv.list(I:Inv X pins σ H s)(h:SqL X.K H a xs):∃ its:List Value,Vals xs its/\PlainL s.heap a its.toArray/\xs.length<=sizeLine:=by
 rcases h with h | ⟨o,its,n,hk,hc,hd,hs,hz,r⟩
 ·obtain⟨z,its,n,r,e⟩:=h.ok I.hok
  exact⟨its,r,⟨_,n,e,rfl,rfl,rfl⟩,z⟩
 ·refine⟨its.toList,r,⟨o,n,I.kIn a o hk,hc,hd,by simpa using hs⟩,?_⟩
  have e:=r.length
  simp only[Array.length_toList]at e
  omega
theorem Inv.tuple(I:Inv X pins σ H s)(h:SqT X.K H a xs):∃ its:List Value,Vals xs its/\IsTup s.heap a its.toArray/\xs.length<=sizeLine:=by
 rcases h with h | ⟨o,its,n,hk,hc,hs,hz,r⟩
 ·obtain⟨z,its,r,p⟩:=h.ok I.hok
  exact⟨its,r,p,z⟩
 ·refine⟨its.toList,r,⟨o,I.kIn a o hk,hc,n,by simpa using hs⟩,?_⟩
  have e:=r.length
  simp only[Array.length_toList]at e
  omega
theorem Inv.list_inj(I:Inv X pins σ H s)(h:SqL X.K H a xs)(h':SqL X.K H a ys):xs=ys:=by
 obtain⟨its,r,⟨o,n,e,_,_,d⟩,_⟩:=I.list h
 obtain⟨its',r',⟨o',n',e',_,_,d'⟩,_⟩:=I.list h'
 rw[e]at e';cases e'
 rw[d]at d'
 injection d' with d1 _
 have:its=its':=by simpa using congrArg Array.toList d1
 subst this
 exact r.inj r'
theorem Inv.tuple_inj(I:Inv X pins σ H s)(h:SqT X.K H a xs)(h':SqT X.K H a ys):xs=ys:=by
 obtain⟨its,r,⟨o,e,_,n,d⟩,_⟩:=I.tuple h
 obtain⟨its',r',⟨o',e',_,n',d'⟩,_⟩:=I.tuple h'
 rw[e]at e';cases e'
 rw[d]at d'
 injection d' with d1 _
 have:its=its':=by simpa using congrArg Array.toList d1
 subst this
 exact r.inj r'
end
abbrev Cx.wish(X:Cx)(E:Value->Shared->Prop):Cx:={ X with xe:=E }
abbrev Cx.nox(X:Cx):Cx:=X.wish λ_ _=>False
theorem Cx.Ok.wish{X:Cx}(ok:X.Ok)(E:Value->Shared->Prop):(X.wish E).Ok :=
 ⟨ok.mod,ok.kind,ok.glob,ok.blt,ok.above,ok.inj,ok.has,ok.cab,ok.hd,ok.frames,ok.stk,ok.exf,ok.bs,ok.bsz,ok.noex,ok.exfs,ok.funs,ok.frf⟩
theorem Cx.Ok.unwish{X:Cx}{E:Value->Shared->Prop}(ok:(X.wish E).Ok):X.Ok :=
 ⟨ok.mod,ok.kind,ok.glob,ok.blt,ok.above,ok.inj,ok.has,ok.cab,ok.hd,ok.frames,ok.stk,ok.exf,ok.bs,ok.bsz,ok.noex,ok.exfs,ok.funs,ok.frf⟩
section
variable{X:Cx}{pins:List (Addr × Obj)}{σ:St}{H:Hp}{s:Shared}{E:Value->Shared->Prop}
theorem Inv.wish(I:Inv X pins σ H s)(E:Value->Shared->Prop):Inv (X.wish E) pins σ H s:=⟨I.ok.wish E,I.os,I.bare,I.base,I.loc,I.cell,I.free,I.freeC,I.pin,I.hok,I.len⟩
theorem Inv.unwish(I:Inv (X.wish E) pins σ H s):Inv X pins σ H s:=⟨I.ok.unwish,I.os,I.bare,I.base,I.loc,I.cell,I.free,I.freeC,I.pin,I.hok,I.len⟩
theorem SP.unwish{D:Ends}{f:Flow}{s':Shared}(h:SP (X.wish E) pins D f s'):SP X pins D f s':=by
 cases f with
 | next=>obtain⟨σ',H',I,q⟩:=h;exact⟨σ',H',I.unwish,q⟩
 | brk=>obtain⟨σ',H',I,q⟩:=h;exact⟨σ',H',I.unwish,q⟩
 | cont=>obtain⟨σ',H',I,q⟩:=h;exact⟨σ',H',I.unwish,q⟩
 | ret u=>obtain⟨v,σ',H',I,r,q⟩:=h;exact⟨v,σ',H',I.unwish,r,q⟩
theorem PE.nox{e:Expr}{t:TE}(h:PE X.nox e t):PE X e t:=λpins s σ H Q I hw =>
 wpAny_mono (h pins s σ H Q (I.wish _) hw) (λ_ _ ⟨v,H',I',r,q⟩=>⟨v,H',I'.unwish,r,q⟩) λ_ _ z=>False.elim z
theorem PT.nox{e:Expr}{t:TT}(h:PT X.nox e t):PT X e t:=λpins s σ H Q I hw =>
 wpAny_mono (h pins s σ H Q (I.wish _) hw) (λ_ _ ⟨H',I',q⟩=>⟨H',I'.unwish,q⟩) λ_ _ z=>False.elim z
theorem PSs.nox{st:List Stmt}{t:TS}(h:PSs X.nox st t):PSs X st t:=λpins s σ H D I hw =>
 wpAny_mono (h pins s σ H D (I.wish _) hw) (λ_ _ q=>q.unwish) λ_ _ z=>False.elim z
end
section
variable{X:Cx}{st:Stmt}{CT:List Stmt}{t u:TS}{e:Expr}{te:TE}{pos:Pos}
def CD:TS:=λD σ H=>D.nx σ H
def AK(t u:TS):TS:=λD σ H=>t { D with nx:=u D } σ H
theorem CH:PSs X [] CD:=λ_ _ σ H _ I h=>wpAny_execs_nil ⟨σ,H,I,h⟩
theorem AL(h1:PS X st t)(h2:PSs X CT u):PSs X (st::CT) (AK t u):=by
 intro pins s σ H D I h
 refine wpAny_execs_cons (AW (h1 pins s σ H { D with nx:=u D } I h) λf s1 q=> ?_)
 cases f with
 | next =>
  obtain⟨σ',H',I',q⟩:=q
  exact h2 pins s1 σ' H' D I' q
 | ret v=>exact q
 | brk=>exact q
 | cont=>exact q
theorem AV(h1:PS X st t):PSs X [st] t:=by
 intro pins s σ H D I h
 refine wpAny_execs_cons (AW (h1 pins s σ H D I h) λf s1 q=> ?_)
 cases f with
 | next=>exact wpAny_execs_nil q
 | ret v=>exact q
 | brk=>exact q
 | cont=>exact q
def qT:TS:=λD σ H=>D.bk σ H
def qU:TS:=λD σ H=>D.ct σ H
theorem Inv.quiet{pins:List (Addr × Obj)}{σ:St}{H:Hp}{s:Shared}(I:Inv X pins σ H s):interactive X.env=false:=by simp[interactive,I.ok.kind]
def C0(te:TE):TS:=λD σ H=>te σ H λ_ H1=>D.nx σ H1
theorem DB(he:PE X e te)(hs:swapsWith e none pos.line X.env=pure false:=by rfl):PS X (.Expr e pos) (C0 te):=by
 intro pins s σ H D I h
 exact wpAny_Expr_any (AW (he pins s σ H _ I h) λv s1 ⟨x,H1,I1,r1,q1⟩=>⟨σ,H1,I1,q1⟩) I.quiet hs
def BB(te:TE):TS:=λD σ H=>te σ H D.rt
theorem BD(he:PE X e te):PS X (.Return (some e) pos) (BB te):=by
 intro pins s σ H D I h
 exact wpAny_Return_some (AW (he pins s σ H _ I h) λv s1 ⟨x,H1,I1,r1,q1⟩=>⟨x,σ,H1,I1,r1,q1⟩)
def Q8:TS:=λD _ H=>D.rt .non H
theorem qV:PS X (.Return none pos) Q8:=λ_ _ σ H _ I h=>wpAny_Return_none ⟨.non,σ,H,I,rfl,h⟩
def B0(c:TT)(t u:TS):TS:=λD σ H=>c σ H λb H1=>if b=true then t D σ H1 else u D σ H1
theorem B6{c:Expr}{a b:List Stmt}{tc:TT}(hc:PT X c tc)(ha:PSs X a t)(hb:PSs X b u):PS X (.If c a b pos) (B0 tc t u):=by
 intro pins s σ H D I h
 refine wpAny_If (AW (hc pins s σ H _ I h) λd s1 ⟨H1,I1,q1⟩=> ?_)
 cases d with
 | true=>exact ha pins s1 σ H1 D I1 q1
 | false=>exact hb pins s1 σ H1 D I1 q1
end
abbrev TG:=V->St->Hp->(St->Hp->Prop)->Prop
abbrev IA:=List V->St->Hp->(St->Hp->Prop)->Prop
def PG(X:Cx)(target:Expr)(t:TG):Prop :=
 ∀ (pins:List (Addr × Obj)) (s:Shared) (σ:St) (H:Hp) (v:V) (u:Value) (Q:St->Hp->Prop),Inv X pins σ H s->RelV v u->t v σ H Q →
  wpAny (model X.prog X.w) X.A (assign target X.env u) (λ_ s'=>∃ σ' H',Inv X pins σ' H' s'/\Q σ' H') X.xe s
def OL(X:Cx)(ts:List Expr)(t:IA):Prop :=
 ∀ (pins:List (Addr × Obj)) (s:Shared) (σ:St) (H:Hp) (vs:List V) (us:List Value) (Q:St->Hp->Prop),Inv X pins σ H s->Vals vs us->t vs σ H Q →
  wpAny (model X.prog X.w) X.A (assignInOrder ((assignEach ts X.env).map (·.2)) us) (λ_ s'=>∃ σ' H',Inv X pins σ' H' s'/\Q σ' H') X.xe s
abbrev OM:=V->V->V->Hp->(Hp->Prop)->Prop
def Q9(X:Cx)(t:OM):Prop :=
 ∀ (pins:List (Addr × Obj)) (s:Shared) (σ:St) (H:Hp) (o i v:V) (ov iv u:Value) (Q:Hp->Prop),Inv X pins σ H s->RelV o ov->RelV i iv->RelV v u->t o i v H Q →
  wpAny (model X.prog X.w) X.A (setItem ov iv u) (λ_ s'=>∃ H',Inv X pins σ H' s'/\Q H') X.xe s
abbrev ON:=V->V->Hp->VK->Prop
section
variable{X:Cx}{pos:Pos}
def AJ(i:Nat):TG:=λv σ H Q=>Q (σ.set i (some v)) H
theorem Y7{i:Nat}{x:Str}(hN:X.N.Nodup)(hi:X.N[i]? =some x)(hx:KM X.env.scope x)(hf:X.fn x=true\/X.env.scope.names.lookup x=some .local:=by first | exact .inl rfl | exact .inr rfl | assumption):PG X (.Name x pos) (AJ i):=by
 intro pins s σ H v u Q I r h
 exact wpAny_assign_Name (OH I hN hi hx r (λs' I'=>⟨_,H,I',h⟩) hf)
def E3:IA:=λvs σ H Q=>vs=[]/\Q σ H
def DG(t:TG)(u:IA):IA:=λvs σ H Q=>∃ v r,vs=v::r/\t v σ H λσ' H'=>u r σ' H' Q
theorem HE:OL X [] E3:=by
 intro pins s σ H vs us Q I r h
 obtain⟨e,h⟩:=h
 subst e
 cases r
 exact assignInOrder_nil ⟨σ,H,I,h⟩
theorem D6{e:Expr}{es:List Expr}{t:TG}{u:IA}(h1:PG X e t)(h2:OL X es u)
  (hs:(assignEach (e::es) X.env).map (·.2)=assign e X.env::(assignEach es X.env).map (·.2):=by rfl):OL X (e::es) (DG t u):=by
 intro pins s σ H vs us Q I r h
 obtain⟨v,vr,e1,h⟩:=h
 subst e1
 cases r with
 | cons r rr =>
  rw[hs]
  refine assignInOrder_cons (AW (h1 pins s σ H _ _ _ I r h) λ_ s1 ⟨σ1,H1,I1,q1⟩=> ?_)
  exact h2 pins s1 σ1 H1 _ _ Q I1 rr q1
def E4(K:W.Frag)(n:Nat)(t:IA):TG:=λv σ H Q=>∃ a xs,v=.ref a/\SqT K H a xs/\xs.length=n/\t xs σ H Q
theorem HF{es:List Expr}{k:Nat}{t:IA}{n:Nat}(hc:X.calm=true)(h:OL X es t)
  (hn:(assignEach es X.env).length=n:=by rfl) (hst:(assignEach es X.env).findIdx? (·.1)=none:=by rfl):PG X (.Tuple es k pos) (E4 X.K n t):=by
 intro pins s σ H v u Q I r hw
 obtain⟨a,xs,e1,hq,hl,hw⟩:=hw
 subst e1
 cases r
 obtain⟨its,rv,ht,hz⟩:=I.tuple hq
 refine assign_Tuple_tuple (I.ok.hd hc) ht (by simp[hn,<-hl,rv.length]) hst λh' hx=> ?_
 have I1:Inv X pins σ H { s with heap:=h' }:=I.kept (t':=s.toks) λb o e=>hx b o (Nat.ne_of_lt (Heap.lt_size e)) e
 exact h pins _ σ H xs _ Q I1 (by simpa using rv) hw
def DC(to ti:TE)(t:OM):TG:=λv σ H Q=>to σ H λo H1=>ti σ H1 λi H2=>t o i v H2 λH3=>Q σ H3
theorem DK{o i:Expr}{to ti:TE}{t:OM}(ho:PE X o to)(hi:PE X i ti)(hs:Q9 X t)
  (ha:∀ v,assign (.Subscript o i pos) X.env v=(do
   let ov ← holding [v] (eval o X.env)
   let iv ← holding [v,ov] (eval i X.env)
   standAt pos
   holding [v,ov,iv] (setItem ov iv v)
   release [v,ov,iv] []):=by intro _;rfl):PG X (.Subscript o i pos) (DC to ti t):=by
 intro pins s σ H v u Q I r h
 rw[ha]
 refine wpAny_bind (wpAny_holding (AW (ho pins s σ H _ I h) λov s1 ⟨x,H1,I1,r1,q1⟩=> ?_))
 refine wpAny_bind (wpAny_holding (AW (hi pins s1 σ H1 _ I1 q1) λiv s2 ⟨y,H2,I2,r2,q2⟩=> ?_))
 refine wpAny_bind (wpAny_standAt (wpAny_bind (wpAny_holding (AW (hs pins s2 σ H2 x y v ov iv u _ I2 r1 r2 r q2) λ_ s3 ⟨H3,I3,q3⟩=> ?_))))
 exact wpAny_release ⟨σ,H3,I3,q3⟩
def AR(te:TE)(g:TG):TS:=λD σ H=>te σ H λx H1=>g x σ H1 D.nx
theorem DL{tg e:Expr}{te:TE}{g:TG}(he:PE X e te)(hg:PG X tg g)(hs:swapsWithSole [tg] e pos.line X.env=pure false:=by rfl)(hw:swappedStores [tg] e X.env=pure none:=by rfl)
  (h1:(assignEach [tg] X.env).map (·.2)=[assign tg X.env]:=by rfl):PS X (.Assign [tg] e pos) (AR te g):=by
 intro pins s σ H D I h
 refine wpAny_Assign_stores (AW (he pins s σ H _ I h) λv s1 ⟨x,H1,I1,r1,q1⟩=> ?_) hs hw
 rw[h1]
 exact AW (hg pins s1 σ H1 x v _ I1 r1 q1) λ_ s2 q=>q
theorem FH{i:Nat}{x:Str}{e:Expr}{te:TE}{pos':Pos}(hN:X.N.Nodup)(hi:X.N[i]? =some x)(hx:KM X.env.scope x)(he:PE X e te)(hs:swapsWith e (some (.Name x pos')) pos.line X.env=pure false:=by rfl)(hf:X.fn x=true\/X.env.scope.names.lookup x=some .local:=by first | exact .inl rfl | exact .inr rfl | assumption) :
  PS X (.Assign [.Name x pos'] e pos) (AR te (AJ i)):=by
 intro pins s σ H D I h
 refine wpAny_Assign_Name (AW (he pins s σ H _ I h) λv s1 ⟨y,H1,I1,r1,q1⟩=> ?_) hs
 exact OH I1 hN hi hx r1 (λs2 I2=>⟨_,H1,I2,q1⟩) hf
def qW(i:Nat)(te:TE)(ti:ON):TS:=λD σ H=>∃ x,σ[i]? =some (some x)/\te σ H λy H1=>ti x y H1 λz H2=>D.nx (σ.set i (some z)) H2
def RA(f:Int->Int->Int):ON:=λx y H Q=>∃ i j,x=.int i/\y=.int j/\Q (.int (f i j)) H
end
section
variable{X:Cx}{pos:Pos}
end
structure It where
 go:Nat->Hp->Prop
 yld:Nat->Hp->V->Hp->Prop
 stop:Nat->Hp->Prop
def FpOk(X:Cx)(pins:List (Addr × Obj))(H:Hp)(b:Addr):Prop :=
 H b=none/\b≠X.env.locals/\b∉X.fs/\(b∈X.ex\/X.s₀.heap.objs.size<=b)/\(∀ x c,X.env.cells.lookup x=some c->c≠b)/\∀ p∈X.pn++pins,p.1≠b
theorem Inv.fpOk{X:Cx}{pins:List (Addr × Obj)}{σ:St}{H H':Hp}{s:Shared}{b:Addr}(I:Inv X pins σ H s)(hb:s.heap.objs.size<=b)(hn:H' b=none):FpOk X pins H' b:=by
 refine⟨hn,Nat.ne_of_gt (Nat.lt_of_lt_of_le I.lt hb),I.nofs hb,.inr (Nat.le_trans I.sz hb),λx c e z=> ?_,λp hp z=> ?_⟩
 ·obtain⟨v,q⟩:=I.cell x c e
  exact absurd (Nat.lt_of_lt_of_le q.lt (by rw[z];exact hb)) (Nat.lt_irrefl _)
 ·exact absurd (Nat.lt_of_lt_of_le (Heap.lt_size (I.pin p hp).1) (by rw[z];exact hb)) (Nat.lt_irrefl _)
structure JC(P:Program)(w:World)(K:W.Frag)(tg:Expr)(J:It)(fp:List Addr)(it:Addr)(tn:Nat->Heap->Prop):Prop where
 mem:it∈fp
 obj:∀ i h,tn i h->∀ b∈fp,∃ o,h.get? b=some o/\∀ v,o.data≠.cell v
 keep:∀ i h h',tn i h->(∀ b∈fp,∀ o,h.get? b=some o->h'.get? b=some o)->tn i h'
 item:∀ (X:Cx),X.prog=P->X.w=w->X.K=K->X.calm=true->∀ (i:Nat) (pins:List (Addr × Obj)) (s:Shared) (σ:St) (H:Hp) (E:Value->Shared->Prop),Inv X pins σ H s->(∀ b∈fp,FpOk X pins H b)->tn i s.heap->J.go i H →
  wpAny (model P w) X.A (pyNext (.ref it)) (λr s1=>∃ u,r=some u ∧
   wpAny (model P w) X.A (letOwnedTupleGo tg (.ref it) u) (λ_ s2=>∃ x H',Inv X pins σ H' s2/\RelV x u/\J.yld i H x H'/\tn (i+1) s2.heap/\∀ b∈fp,H' b=none) E s1) E s
 done:∀ (X:Cx),X.prog=P->X.w=w->X.K=K->X.calm=true->∀ (i:Nat) (pins:List (Addr × Obj)) (s:Shared) (σ:St) (H:Hp) (E:Value->Shared->Prop),Inv X pins σ H s->(∀ b∈fp,FpOk X pins H b)->tn i s.heap->J.stop i H →
  wpAny (model P w) X.A (pyNext (.ref it)) (λr s1=>r=none/\Inv X pins σ H s1) E s
 self:∀ (A:Around) (i:Nat) (s:Shared) (Q:Value->Shared->Prop) (E:Value->Shared->Prop),tn i s.heap->Q (.ref it) s->wpAny (model P w) A (pyIter (.ref it)) Q E s
abbrev TI:=St->Hp->(It->Hp->Prop)->Prop
def RB(X:Cx)(pins:List (Addr × Obj))(σ:St)(tg:Expr)(R:It->Hp->Prop)(itv:Value)(s2:Shared):Prop :=
 ∃ (it:Addr) (fp:List Addr) (tn:Nat->Heap->Prop) (J:It) (H':Hp),itv=.ref it/\Inv X pins σ H' s2/\JC X.prog X.w X.K tg J fp it tn/\tn 0 s2.heap/\(∀ b∈fp,FpOk X pins H' b)/\R J H'
def PI(X:Cx)(tg iter:Expr)(wi:TI):Prop :=
 ∀ (pins:List (Addr × Obj)) (s:Shared) (σ:St) (H:Hp) (R:It->Hp->Prop),Inv X pins σ H s->wi σ H R →
  wpAny (model X.prog X.w) X.A (eval iter X.env) (λv s1=>wpAny (model X.prog X.w) X.A (pyIter v) (RB X pins σ tg R) X.xe s1) X.xe s
theorem OO{M:Model}{A:Around}{E:Value->Shared->Prop}{s:Shared}{tg:Expr}{it:Addr}{u:Value}{o:Obj}{n:String}{vs:Array Value}{Q:Unit->Shared->Prop}(ho:s.heap.get? it=some o)(hc:o.cls=.type n)(hd:o.data=.fields vs)
    (hn:["enumerate","zip","dict_itemiterator","dict_reverseitemiterator","odict_iterator","itertools.zip_longest","itertools.pairwise"].contains n=false) (hQ:Q () s):wpAny M A (letOwnedTupleGo tg (.ref it) u) Q E s:=by
  unfold letOwnedTupleGo
  cases tg<;>first
    | exact wpAny_pure hQ
    | (cases u<;>first
        | exact wpAny_pure hQ
        | (refine wpAny_bind (wpAny_load ho ?_)
           rw[hc,hd]
           show wpAny M A (if(["enumerate","zip","dict_itemiterator","dict_reverseitemiterator","odict_iterator","itertools.zip_longest","itertools.pairwise"].contains n && vs[0]? == some (rawInt _))=true then _ else _) Q E s
           rw[if_neg (by intro h;rw[hn,Bool.false_and]at h;cases h)]
           exact wpAny_pure hQ))
def FI(K:W.Frag)(a:Addr):It :=
 ⟨λi H=>∃ xs x,SqL K H a xs/\xs[i]? =some x,λi H x H'=>H'=H/\∀ xs,SqL K H a xs->xs[i]? =some x,λi H=>∃ xs,SqL K H a xs/\xs.length<=i⟩
def L8(K:W.Frag)(a:Addr):It :=
 ⟨λi H=>∃ xs x,SqT K H a xs/\xs[i]? =some x,λi H x H'=>H'=H/\∀ xs,SqT K H a xs->xs[i]? =some x,λi H=>∃ xs,SqT K H a xs/\xs.length<=i⟩
def DZ(lo:Int)(n:Nat):It:=⟨λi _=>i<n,λi H x H'=>H'=H/\x=.int (lo+i),λi _=>n<=i⟩
theorem qX{P:Program}{w:World}{K:W.Frag}{tg:Expr}(a it:Addr):JC P w K tg (FI K a) [it] it (λi h=>h.IsListIter it a i) where
 mem:=by simp
 obj:=λi h st b hb=>by
  have e:b=it:=by simpa using hb
  subst e
  obtain⟨o,e,c,d⟩:=st
  exact⟨o,e,λv z=>by rw[d]at z;cases z⟩
 keep:=λi h h' st k=>st.at λo e=>k it (by simp) o e
 item:=by
  intro X hP hw hK hc i pins s σ H E I hf st hg
  subst hP hw hK
  obtain⟨xs,x,hq,hx⟩:=hg
  obtain⟨its,rv,p,hz⟩:=I.list hq
  obtain⟨u,hu,ru⟩:=rv.get hx
  obtain⟨f0,f1,f2,f3,f4,f5⟩:=hf it (by simp)
  refine wpAny_pyNext_list_item st p.isList (x:=u) (by simpa using hu) λh' st' sb=> ?_
  have I1:Inv X pins σ H { s with heap:=h' }:=I.turned (t':=s.toks) (λb o hb e=>(sb.2 b hb).trans e) f0 f1 f3 f4 f5
  obtain⟨o,e,c,d⟩:=id st'
  exact⟨u,rfl,OO (s:={ s with heap:=h' }) e c d (by decide) ⟨x,H,I1,ru,⟨rfl,λys hy=>by rw[I.list_inj hy hq];exact hx⟩,st',λb hb=>(hf b hb).1⟩⟩
 done:=by
  intro X hP hw hK hc i pins s σ H E I hf st hg
  subst hP hw hK
  obtain⟨xs,hq,hx⟩:=hg
  obtain⟨its,rv,p,hz⟩:=I.list hq
  obtain⟨f0,f1,f2,f3,f4,f5⟩:=hf it (by simp)
  have hl:=rv.length
  exact wpAny_pyNext_list_end (I.ok.hd hc) st p.isList (by simp;omega) λh' eb=>⟨rfl,I.turned (t':=s.toks) (λb o hb e=>eb b o hb e) f0 f1 f3 f4 f5⟩
 self:=λ_ _ _ _ _ st h=>wpAny_pyIter_listiter st h
theorem qY{P:Program}{w:World}{K:W.Frag}{tg:Expr}(a it:Addr):JC P w K tg (L8 K a) [it] it (λi h=>h.IsTupleIter it a i) where
 mem:=by simp
 obj:=λi h st b hb=>by
  have e:b=it:=by simpa using hb
  subst e
  obtain⟨o,e,c,d⟩:=st
  exact⟨o,e,λv z=>by rw[d]at z;cases z⟩
 keep:=λi h h' st k=>st.at λo e=>k it (by simp) o e
 item:=by
  intro X hP hw hK hc i pins s σ H E I hf st hg
  subst hP hw hK
  obtain⟨xs,x,hq,hx⟩:=hg
  obtain⟨its,rv,p,hz⟩:=I.tuple hq
  obtain⟨u,hu,ru⟩:=rv.get hx
  obtain⟨f0,f1,f2,f3,f4,f5⟩:=hf it (by simp)
  refine wpAny_pyNext_tuple_item st (show s.heap.IsTuple a its.toArray from p) (x:=u) (by simpa using hu) λh' st' sb=> ?_
  have I1:Inv X pins σ H { s with heap:=h' }:=I.turned (t':=s.toks) (λb o hb e=>(sb.2 b hb).trans e) f0 f1 f3 f4 f5
  obtain⟨o,e,c,d⟩:=id st'
  exact⟨u,rfl,OO (s:={ s with heap:=h' }) e c d (by decide) ⟨x,H,I1,ru,⟨rfl,λys hy=>by rw[I.tuple_inj hy hq];exact hx⟩,st',λb hb=>(hf b hb).1⟩⟩
 done:=by
  intro X hP hw hK hc i pins s σ H E I hf st hg
  subst hP hw hK
  obtain⟨xs,hq,hx⟩:=hg
  obtain⟨its,rv,p,hz⟩:=I.tuple hq
  obtain⟨f0,f1,f2,f3,f4,f5⟩:=hf it (by simp)
  have hl:=rv.length
  exact wpAny_pyNext_tuple_end (I.ok.hd hc) st (show s.heap.IsTuple a its.toArray from p) (by simp;omega) λh' eb=>⟨rfl,I.turned (t':=s.toks) (λb o hb e=>eb b o hb e) f0 f1 f3 f4 f5⟩
 self:=λ_ _ _ _ _ st h=>wpAny_pyIter_tupleiter st h
theorem qZ{P:Program}{w:World}{K:PySem.W.Frag}{tg:Expr}(it:Addr)(lo:Int)(n:Nat):JC P w K tg (DZ lo n) [it] it (λi h=>IsRangeIter h it (lo+(i:Nat) * 1) ((n:Int) - (i:Nat)) 1) where
 mem:=by simp
 obj:=λi h st b hb=>by
  have e:b=it:=by simpa using hb
  subst e
  exact⟨_,st,λv z=>by
   have z':Data.fields _=Data.cell v:=z
   cases z'⟩
 keep:=λi h h' st k=>k it (by simp) _ st
 item:=by
  intro X hP hw hK hc i pins s σ H E I hf st hg
  subst hP hw hK
  obtain⟨f0,f1,f2,f3,f4,f5⟩:=hf it (by simp)
  have W:=Walks.range (prog:=X.prog) (w:=X.w) (I.ok.hd hc) it lo 1 n
  refine W.item i s _ _ hg st λv h' tk hv st' kk=> ?_
  obtain⟨t,rfl⟩:=hv
  have I1:Inv X pins σ H { s with heap:=h',toks:=tk }:=I.turned (λb o hb e=>kk b o (by simpa using hb) e) f0 f1 f3 f4 f5
  refine⟨_,rfl,OO (s:={ s with heap:=h',toks:=tk }) (n:="range_iterator") st' rfl rfl (by decide) ⟨.int (lo+i),H,I1,⟨t,?_⟩,⟨rfl,rfl⟩,st',λb hb=>(hf b hb).1⟩⟩
  rw[Int.mul_one]
 done:=by
  intro X hP hw hK hc i pins s σ H E I hf st hg
  subst hP hw hK
  obtain⟨f0,f1,f2,f3,f4,f5⟩:=hf it (by simp)
  exact wpAny_pyNext_range_end (I.ok.hd hc) st (by have:n<=i:=hg;omega) λh' eb=>⟨rfl,I.turned (t':=s.toks) (λb o hb e=>eb b o hb e) f0 f1 f3 f4 f5⟩
 self:=λ_ _ _ _ _ st h=>wpAny_pyIter_rangeiter st h
end L2
namespace L2
section
variable{X:Cx}{tg:Expr}
theorem rA{pins:List (Addr × Obj)}{σ:St}{H:Hp}{s:Shared}{R:It->Hp->Prop}{E:Value->Shared->Prop}{lo hi:Int}{t u v:Tok}{tk:Nat}(I:Inv X pins σ H s)(h1: -(2 ^ 62)<=lo)(h2:lo<2 ^ 62)(h3: -(2 ^ 62)<=hi)(h4:hi<2 ^ 62)
  (q:R (DZ lo (hi - lo).toNat) H):wpAny (model X.prog X.w) X.A (pyIter (.ref s.heap.objs.size)) (RB X pins σ tg R) E { s with heap:=s.heap.push { cls:=.type "range",data:=.fields #[.int lo t,.int hi u,.int 1 v] },toks:=tk }:=by
 refine wpAny_pyIter_range (IsRange.new ..) (small_one h1 h2 h3 h4) ?_
 have I1:Inv X pins σ H { s with heap:=s.heap.push { cls:=.type "range",data:=.fields #[.int lo t,.int hi u,.int 1 v] },toks:=tk }:=I.kept λb o e=>Heap.get?_push_of_some _ e
 refine⟨(s.heap.push { cls:=.type "range",data:=.fields #[.int lo t,.int hi u,.int 1 v] }).objs.size,[(s.heap.push { cls:=.type "range",data:=.fields #[.int lo t,.int hi u,.int 1 v] }).objs.size],_,_,H,rfl,
  I1.kept (t':=tk) λb o e=>Heap.get?_push_of_some _ e,qZ _ lo (hi - lo).toNat,?_,λb hb=> ?_,q⟩
 ·have e1:lo+((0:Nat):Int) * 1=lo:=by simp
  have e2:(((hi - lo).toNat:Nat):Int) - ((0:Nat):Int)=Builtin.Range.rangeSize lo hi 1:=by rw[rangeSize_one];split<;>omega
  show IsRangeIter _ _ (lo+((0:Nat):Int) * 1) ((((hi - lo).toNat:Nat):Int) - ((0:Nat):Int)) 1
  rw[e1,e2]
  exact Heap.get?_push_size _ rfl
 ·have e:b=(s.heap.push { cls:=.type "range",data:=.fields #[.int lo t,.int hi u,.int 1 v] }).objs.size:=by simpa using hb
  subst e
  exact I1.fpOk (Nat.le_refl _) (I1.hok.fresh (Nat.le_refl _))
def CU(ta:TA):TI:=λσ H R=>ta σ H λvs H1=>∃ j:Int,vs=[.int j]/\ -(2 ^ 62)<=j/\j<2 ^ 62/\R (DZ 0 j.toNat) H1
def Y8(ta:TA):TI:=λσ H R=>ta σ H λvs H1=>∃ i j:Int,vs=[.int i,.int j]/\(-(2 ^ 62)<=i/\i<2 ^ 62/\ -(2 ^ 62)<=j/\j<2 ^ 62)/\R (DZ i (j - i).toNat) H1
theorem C3{a:Expr}{ta:TA}{p pos:Pos}(hg:Gl X "range")(hm:X.mg "range"=none)(ha:PA X [a] ta)(hs:starEach [a] X.env=[(false,eval a X.env)]:=by rfl):PI X tg (.Call (.Name "range" p) [a] [] pos) (CU ta):=by
 intro pins s σ H R I h
 refine Call_ (KN I hg hm boot_range (PyProof.Rows.callWith_type1 (AW (ha pos pins s σ H _ I h) λus s1 ⟨vs,H1,I1,r1,q1⟩=> ?_) hs rfl))
 obtain⟨j,e,q1,q2,q⟩:=q1
 subst e
 cases r1 with
 | cons r rr =>
  cases rr
  obtain⟨t,rfl⟩:=r
  exact call_range_1 (rA I1 (by omega) (by omega) q1 q2 (by simpa using q))
def DV(wi:TI)(g:TG)(tb:TS):TS:=λD σ H=>wi σ H λJ H1=>∃ W:Nat->Nat->St->Hp->Prop,(∃ m,W 0 m σ H1)/\∀ i m σ H,W i m σ H →
 (J.stop i H/\D.nx σ H)\/(J.go i H/\∃ N:St->Hp->Prop,(∀ σ' H',N σ' H'->∃ m',m'<m/\W (i+1) m' σ' H')/\∀ x H',J.yld i H x H'->g x σ H' λσ2 H2=>tb { D with nx:=N,ct:=N,bk:=D.nx } σ2 H2)
def L9(fp:List Addr)(h:Heap):List (Addr × Obj):=fp.filterMap λb=>(h.get? b).map λo=>(b,o)
theorem OP{fp:List Addr}{h:Heap}{b:Addr}{o:Obj}(hb:b∈fp)(e:h.get? b=some o):(b,o)∈L9 fp h:=List.mem_filterMap.mpr ⟨b,hb,by rw[e];rfl⟩
theorem rB{fp:List Addr}{h:Heap}{p:Addr × Obj}(hp:p∈L9 fp h):p.1∈fp/\h.get? p.1=some p.2:=by
 obtain⟨b,hb,e⟩:=List.mem_filterMap.mp hp
 cases q:h.get? b with
 | none=>rw[q]at e;cases e
 | some o =>
  rw[q]at e
  have e':(b,o)=p:=Option.some.inj e
  subst e'
  exact⟨hb,q⟩
theorem Inv.pinned{pins:List (Addr × Obj)}{σ:St}{H:Hp}{s:Shared}{fp:List Addr}(I:Inv X pins σ H s)(hf:∀ b∈fp,FpOk X pins H b)(ho:∀ b∈fp,∃ o,s.heap.get? b=some o/\∀ v,o.data≠.cell v):Inv X (pins++L9 fp s.heap) σ H s :=
 I.pins_of λp hp=>(List.mem_append.mp hp).elim (λz=>I.pin p (List.mem_append_right _ z)) λz=>by
  obtain⟨hb,e⟩:=rB z
  obtain⟨f0,f1,f2,_⟩:=hf p.1 hb
  obtain⟨o,e',d⟩:=ho p.1 hb
  rw[e]at e';cases e'
  exact⟨e,f0,f1,f2,d⟩
theorem Inv.unpinned{pins pl:List (Addr × Obj)}{σ:St}{H:Hp}{s:Shared}(I:Inv X (pins++pl) σ H s):Inv X pins σ H s:=I.pins_of λp hp=>I.pin p (List.mem_append_right _ (List.mem_append_left _ hp))
theorem ET{iter:Expr}{body:List Stmt}{wi:TI}{g:TG}{tb:TS}{pos:Pos}(hp:PassesOwn (model X.prog X.w) X.A X.env X.xe)(hc:X.calm=true)(hi:PI X tg iter wi)(hg:PG X tg g)(hb:PSs X body tb)
  (hs:∀ x,foldedSetIterable iter X.env x=pure x:=by intro _;rfl):PS X (.For tg iter body [] pos) (DV wi g tb):=by
 intro pins s σ H D I h
 refine wpAny_For (AW (hi pins s σ H _ I h) λv s1 h1=>AW h1 λitv s2 h2=> ?_) hs
 obtain⟨it,fp,tn,J,H2,e,I2,T,st2,f2,W,⟨m0,w0⟩,turn⟩:=h2
 subst e
 have stat:∀ {H':Hp},(∀ b∈fp,H' b=none)->∀ b∈fp,FpOk X pins H' b:=λhn b hb=>⟨hn b hb,(f2 b hb).2⟩
 refine codeAny_forLoop_any (λn s'=>∃ i σ' H',Inv X pins σ' H' s'/\tn i s'.heap/\(∀ b∈fp,H' b=none)/\W i n σ' H') ?_ m0 ⟨0,σ,H2,I2,st2,λb hb=>(f2 b hb).1,w0⟩
 rintro n s3 ⟨i,σ3,H3,I3,st3,fr3,w3⟩
 rcases turn i n σ3 H3 w3 with⟨stop,qn⟩ | ⟨go,N,hN,step⟩
 ·refine wpAny_passesOwn hp (AW (T.done X rfl rfl rfl hc i pins s3 σ3 H3 X.xe I3 (stat fr3) st3 stop) λr s4 ⟨hr,I4⟩=> ?_)
  subst hr
  exact wpAny_execs_nil ⟨σ3,H3,I4,qn⟩
 ·refine wpAny_passesOwn hp (AW (T.item X rfl rfl rfl hc i pins s3 σ3 H3 X.xe I3 (stat fr3) st3 go) λr s4 ⟨u,hr,h4⟩=> ?_)
  subst hr
  refine wpAny_passesOwn hp (AW h4 λ_ s5 ⟨x,H5,I5,r5,y5,st5,fr5⟩=> ?_)
  have I5':=I5.pinned (stat fr5) (T.obj _ _ st5)
  refine wpAny_passesOwn hp (AW (hg _ s5 σ3 H5 x u _ I5' r5 (step x H5 y5)) λ_ s6 ⟨σ6,H6,I6,q6⟩=> ?_)
  refine wpAny_passesOwn hp (AW (hb _ s6 σ6 H6 _ I6 q6) λf s7 q7=> ?_)
  have again:∀ {σ7:St} {H7:Hp},Inv X (pins++L9 fp s5.heap) σ7 H7 s7->N σ7 H7->∃ m,m<n/\∃ i σ' H',Inv X pins σ' H' s7/\tn i s7.heap/\(∀ b∈fp,H' b=none)/\W i m σ' H':=λ{σ7 H7} I7 n7=>by
   obtain⟨m',hm,w7⟩:=hN σ7 H7 n7
   refine⟨m',hm,i+1,σ7,H7,I7.unpinned,T.keep _ _ _ st5 λb hb o e=>(I7.pin (b,o) (List.mem_append_right _ (List.mem_append_right _ (OP hb e)))).1,λb hb=> ?_,w7⟩
   obtain⟨o,e,d⟩:=T.obj _ _ st5 b hb
   exact(I7.pin (b,o) (List.mem_append_right _ (List.mem_append_right _ (OP hb e)))).2.1
  cases f with
  | next=>obtain⟨σ7,H7,I7,n7⟩:=q7;exact again I7 n7
  | cont=>obtain⟨σ7,H7,I7,n7⟩:=q7;exact again I7 n7
  | brk=>obtain⟨σ7,H7,I7,q7⟩:=q7;exact⟨σ7,H7,I7.unpinned,q7⟩
  | ret v=>obtain⟨x7,σ7,H7,I7,r7,q7⟩:=q7;exact⟨x7,σ7,H7,I7.unpinned,r7,q7⟩
end
theorem rC{K:PySem.W.Frag}{a:Addr}{xs:List V}{g:TG}{tb:TS}{D:Ends}{σ:St}{H:Hp}(Pv:Nat->St->Hp->Prop)(h0:Pv 0 σ H)(hl:∀ i σ H,i<=xs.length->Pv i σ H->SqL K H a xs)
  (hs:∀ i x σ H,xs[i]? =some x->Pv i σ H->g x σ H λσ2 H2=>tb { D with nx:=Pv (i+1),ct:=Pv (i+1),bk:=D.nx } σ2 H2) (hd:∀ σ H,Pv xs.length σ H->D.nx σ H) :
  ∃ W:Nat->Nat->St->Hp->Prop,(∃ m,W 0 m σ H)/\∀ i m σ H,W i m σ H →
   ((FI K a).stop i H/\D.nx σ H)\/((FI K a).go i H/\∃ N:St->Hp->Prop,(∀ σ' H',N σ' H'->∃ m',m'<m/\W (i+1) m' σ' H')/\∀ x H',(FI K a).yld i H x H'->g x σ H' λσ2 H2=>tb { D with nx:=N,ct:=N,bk:=D.nx } σ2 H2):=by
 refine⟨λi m σ H=>m=xs.length - i/\i<=xs.length/\Pv i σ H,⟨xs.length,by simp,Nat.zero_le _,h0⟩,?_⟩
 rintro i m σ H ⟨rfl,hi,p⟩
 have q:=hl i σ H hi p
 by_cases hlt:i<xs.length
 ·refine .inr ⟨⟨xs,xs[i],q,by simp[hlt]⟩,Pv (i+1),λσ' H' p'=>⟨xs.length - (i+1),by omega,rfl,hlt,p'⟩,λx H' y=> ?_⟩
  obtain⟨e,y⟩:=y
  subst e
  exact hs i x σ _ (y xs q) p
 ·have e:i=xs.length:=by omega
  subst e
  exact .inl ⟨⟨xs,q,Nat.le_refl _⟩,hd σ H p⟩
theorem rD{lo:Int}{n:Nat}{g:TG}{tb:TS}{D:Ends}{σ:St}{H:Hp}(Pv:Nat->St->Hp->Prop)(h0:Pv 0 σ H)
  (hs:∀ i σ H,i<n->Pv i σ H->g (.int (lo+i)) σ H λσ2 H2=>tb { D with nx:=Pv (i+1),ct:=Pv (i+1),bk:=D.nx } σ2 H2) (hd:∀ σ H,Pv n σ H->D.nx σ H) :
  ∃ W:Nat->Nat->St->Hp->Prop,(∃ m,W 0 m σ H)/\∀ i m σ H,W i m σ H →
   ((DZ lo n).stop i H/\D.nx σ H)\/((DZ lo n).go i H/\∃ N:St->Hp->Prop,(∀ σ' H',N σ' H'->∃ m',m'<m/\W (i+1) m' σ' H')/\∀ x H',(DZ lo n).yld i H x H'->g x σ H' λσ2 H2=>tb { D with nx:=N,ct:=N,bk:=D.nx } σ2 H2):=by
 refine⟨λi m σ H=>m=n - i/\i<=n/\Pv i σ H,⟨n,by simp,Nat.zero_le _,h0⟩,?_⟩
 rintro i m σ H ⟨rfl,hi,p⟩
 by_cases hlt:i<n
 ·refine .inr ⟨hlt,Pv (i+1),λσ' H' p'=>⟨n - (i+1),by omega,rfl,hlt,p'⟩,λx H' y=> ?_⟩
  obtain⟨e,y⟩:=y
  subst e y
  exact hs i σ _ hlt p
 ·have e:i=n:=by omega
  subst e
  exact .inl ⟨Nat.le_refl _,hd σ H p⟩
end L2
namespace L2
abbrev R2:=V->V->Hp->VK->Prop
def OpR(X:Cx)(f:Value->Value->Sem Value)(r:R2):Prop :=
 ∀ (pins:List (Addr × Obj)) (s:Shared) (σ:St) (H:Hp) (x y:V) (v u:Value) (Q:VK),Inv X pins σ H s->RelV x v->RelV y u->r x y H Q →
  wpAny (model X.prog X.w) X.A (f v u) (EP X pins σ Q) X.xe s
def CallR(X:Cx)(f:Value)(r:List V->Hp->VK->Prop):Prop :=
 ∀ (pins:List (Addr × Obj)) (s:Shared) (σ:St) (H:Hp) (xs:List V) (us:List Value) (Q:VK),Inv X pins σ H s->Vals xs us->r xs H Q →
  wpAny (model X.prog X.w) X.A (call f us) (EP X pins σ Q) X.xe s
def rE(X:Cx)(r:V->Hp->(Bool->Hp->Prop)->Prop):Prop :=
 ∀ (pins:List (Addr × Obj)) (s:Shared) (σ:St) (H:Hp) (x:V) (v:Value) (Q:Bool->Hp->Prop),Inv X pins σ H s->RelV x v->r x H Q →
  wpAny (model X.prog X.w) X.A (truthy v) (TP X pins σ Q) X.xe s
def AC(r:R2)(ta tb:TE):TE:=λσ H Q=>ta σ H λx H1=>tb σ H1 λy H2=>r x y H2 Q
def rF(r:V->Hp->VK->Prop)(ta:TE):TE:=λσ H Q=>ta σ H λx H1=>r x H1 Q
def rI(C:Int->Int->Prop)(g:Int->Int->V):R2:=λx y H Q=>∃ i j,x=.int i/\y=.int j/\C i j/\Q (g i j) H
def F5(g:Int->Int->V):R2:=λx y H Q=>∃ i j,x=.int i/\y=.int j/\Q (g i j) H
def rU(g:Int->V):V->Hp->VK->Prop:=λx H Q=>∃ i,x=.int i/\Q (g i) H
section
variable{X:Cx}{a b c:Expr}{ta tb tc:TE}{pos:Pos}
theorem RC(ha:PE X a ta)(hb:PE X b tb){pins:List (Addr × Obj)}{s:Shared}{σ:St}{H:Hp}{R:V->V->Hp->Prop}(I:Inv X pins σ H s)
  (h:ta σ H λx H1=>tb σ H1 λy H2=>R x y H2) {Q:Value->Shared->Prop} {f:Value->Value->Sem Value}
  (hf:∀ v u s2 x y H2,Inv X pins σ H2 s2->RelV x v->RelV y u->R x y H2->wpAny (model X.prog X.w) X.A (f v u) Q X.xe s2) :
  wpAny (model X.prog X.w) X.A (eval a X.env) (λv s₁=>wpAny (model X.prog X.w) X.A (eval b X.env) (λu s₂=>wpAny (model X.prog X.w) X.A (f v u) Q X.xe s₂) X.xe s₁) X.xe s:=by
 refine AW (ha pins s σ H _ I h) λv s1 ⟨x,H1,I1,r1,q1⟩=> ?_
 refine AW (hb pins s1 σ H1 _ I1 q1) λu s2 ⟨y,H2,I2,r2,q2⟩=> ?_
 exact hf v u s2 x y H2 I2 r1 r2 q2
theorem AO{op:Operator}{r:R2}(ho:OpR X (binaryOp op) r)(ha:PE X a ta)(hb:PE X b tb):PE X (.BinOp a op b pos) (AC r ta tb):=by
 intro pins s σ H Q I h
 exact wpAny_BinOp (RC ha hb I h λv u s2 x y H2 I2 rx ry q=>ho pins s2 σ H2 x y v u Q I2 rx ry q)
theorem OQ{f:Value->Value->Sem Value}{C:Int->Int->Prop}{g:Int->Int->Int}
  (rule:∀ (i j:Int) (t u:Tok) (s:Shared) (Q:Value->Shared->Prop) (E:Value->Shared->Prop),C i j->Q (.int (g i j) s.toks) { s with toks:=s.toks+1 }->wpAny (model X.prog X.w) X.A (f (.int i t) (.int j u)) Q E s) :
  OpR X f (rI C λi j=>.int (g i j)):=by
 intro pins s σ H x y v u Q I rx ry h
 obtain⟨i,j,rfl,rfl,hc,q⟩:=h
 obtain⟨t,rfl⟩:=rx
 obtain⟨t',rfl⟩:=ry
 exact rule i j t t' s _ _ hc ⟨.int (g i j),H,I.tok _,⟨_,rfl⟩,q⟩
theorem Y9{f:Value->Value->Sem Value}{g:Int->Int->Int}
  (rule:∀ (i j:Int) (t u:Tok) (s:Shared) (Q:Value->Shared->Prop) (E:Value->Shared->Prop),Q (.int (g i j) s.toks) { s with toks:=s.toks+1 }->wpAny (model X.prog X.w) X.A (f (.int i t) (.int j u)) Q E s) :
  OpR X f (F5 λi j=>.int (g i j)):=by
 intro pins s σ H x y v u Q I rx ry h
 obtain⟨i,j,rfl,rfl,q⟩:=h
 obtain⟨t,rfl⟩:=rx
 obtain⟨t',rfl⟩:=ry
 exact rule i j t t' s _ _ ⟨.int (g i j),H,I.tok _,⟨_,rfl⟩,q⟩
theorem OR{f:Value->Value->Sem Value}{g:Int->Int->Bool}
  (rule:∀ (i j:Int) (t u:Tok) (s:Shared) (Q:Value->Shared->Prop) (E:Value->Shared->Prop),Q (.bool (g i j)) s->wpAny (model X.prog X.w) X.A (f (.int i t) (.int j u)) Q E s) :
  OpR X f (F5 λi j=>.bl (g i j)):=by
 intro pins s σ H x y v u Q I rx ry h
 obtain⟨i,j,rfl,rfl,q⟩:=h
 obtain⟨t,rfl⟩:=rx
 obtain⟨t',rfl⟩:=ry
 exact rule i j t t' s _ _ ⟨.bl (g i j),H,I,rfl,q⟩
def ZA(i j:Int):Prop:=0<j/\j<1073741824
def ZB(i j:Int):Prop:=0<=j/\j<=1000000/\i.natAbs<2 ^ 64
def CMul(i j:Int):Prop:=(-(2 ^ 64)<i/\i<2 ^ 64)\/(-(2 ^ 64)<j/\j<2 ^ 64)
theorem CMul.ok{i j:Int}(h:CMul i j):IntMulOk i j:=by
 rcases h with⟨h1,h2⟩ | ⟨h1,h2⟩
 ·exact .of_left (intBits_le_64 h1 h2)
 ·exact .of_right (intBits_le_64 h1 h2)
theorem rG:OpR X (binaryOp .Add) (F5 λi j=>.int (i+j)):=Y9 λ_ _ _ _ _ _ _ q=>add_int q
theorem OS:OpR X (binaryOp .Sub) (F5 λi j=>.int (i - j)):=Y9 λ_ _ _ _ _ _ _ q=>sub_int q
theorem rH:OpR X (binaryOp .Mult) (rI CMul λi j=>.int (i * j)):=OQ λ_ _ _ _ _ _ _ hc q=>mul_int q hc.ok
theorem FJ:OpR X (binaryOp .FloorDiv) (rI ZA λi j=>.int (i / j)):=OQ λi j _ _ _ _ _ hc q=>by
 have h1:(0:Int)<j:=hc.1
 have h2:j<1073741824:=hc.2
 exact floordiv_int (by omega) (by rw[Int.fdiv_eq_ediv_of_nonneg i (by omega)];exact q) (.inl (PyProof.noPylong_small (by omega)))
theorem BP:OpR X (binaryOp .Mod) (rI (λ_ j=>0<j) λi j=>.int (i % j)):=OQ λi j _ _ _ _ _ hc q=>by
 have h1:(0:Int)<j:=hc
 exact mod_int' (by omega) (by rw[Int.fmod_eq_emod_of_nonneg i (by omega)];exact q)
theorem rJ:OpR X (binaryOp .Pow) (rI ZB λi j=>.int (i ^ j.toNat)):=OQ λ_ _ _ _ _ _ _ hc q=>pow_int_small hc.1 hc.2.1 hc.2.2 q
end
def DW:V->V->Bool
 | .non,.non=>true | .non,.int _=>true | .int _,.non=>true | .non,.bl _=>true | .bl _,.non=>true | .non,.str _=>true | .str _,.non=>true
 | .int _,.int _=>true | .bl _,.bl _=>true | .str _,.str _=>true | .byt _,.byt _=>true
 | .int _,.str _=>true | .str _,.int _=>true | .bl _,.str _=>true | .str _,.bl _=>true
 | _,_=>false
def rK:R2:=λx y H Q=>DW x y=true/\Q (.bl (decide (x=y))) H
def rM:R2:=λx y H Q=>DW x y=true/\Q (.bl (!decide (x=y))) H
theorem ZC{i j:Int}:decide (V.int i=V.int j)=(i == j):=by
 rw[Bool.eq_iff_iff]
 simp
theorem ZD{i j:Bool}:decide (V.bl i=V.bl j)=(i == j):=by
 rw[Bool.eq_iff_iff]
 simp
theorem ZE{i j:Str}:decide (V.str i=V.str j)=(i == j):=by
 rw[Bool.eq_iff_iff]
 simp
theorem ZF{i j:Array UInt8}:decide (V.byt i=V.byt j)=(i.toList == j.toList):=by
 rw[Bool.eq_iff_iff]
 cases i
 cases j
 simp
section
variable{X:Cx}{a b c:Expr}{ta tb tc:TE}{pos:Pos}
theorem CQ{pins:List (Addr × Obj)}{σ:St}{H:Hp}{s:Shared}{Q:VK}{k k':Bool}(I:Inv X pins σ H s)(q:Q (.bl k) H)(e:k=k'):EP X pins σ Q (.bool k') s:=by
 subst e
 exact⟨.bl k,H,I,rfl,q⟩
theorem rN:OpR X (compareOp .Eq) rK:=by
 intro pins s σ H x y v u Q I rx ry h
 obtain⟨hs,q⟩:=h
 cases x with
 | non =>
  cases rx
  cases y with
  | non=>cases ry;exact PySem.EqNone.eq_none_none (CQ I q (by simp))
  | bl j=>cases ry;exact PySem.EqNone.eq_none_bool (CQ I q (by simp))
  | int j=>obtain⟨t',rfl⟩:=ry;exact PySem.EqNone.eq_none_int (CQ I q (by simp))
  | str j=>obtain⟨t',rfl⟩:=ry;exact PySem.EqNone.eq_none_str (CQ I q (by simp))
  | _=>exact absurd (show false=true from hs) Bool.false_ne_true
 | bl i =>
  cases rx
  cases y with
  | non=>cases ry;exact PySem.EqNone.eq_bool_none (CQ I q (by simp))
  | bl j=>cases ry;exact eq_bool (CQ I q ZD)
  | str j=>obtain⟨t',rfl⟩:=ry;exact PySem.EqMixed.eq_bool_str (CQ I q (by simp))
  | _=>exact absurd (show false=true from hs) Bool.false_ne_true
 | int i =>
  obtain⟨t,rfl⟩:=rx
  cases y with
  | non=>cases ry;exact PySem.EqNone.eq_int_none (CQ I q (by simp))
  | int j=>obtain⟨t',rfl⟩:=ry;exact eq_int (CQ I q ZC)
  | str j=>obtain⟨t',rfl⟩:=ry;exact PySem.EqMixed.eq_int_str (CQ I q (by simp))
  | _=>exact absurd (show false=true from hs) Bool.false_ne_true
 | str i =>
  obtain⟨t,rfl⟩:=rx
  cases y with
  | non=>cases ry;exact PySem.EqNone.eq_str_none (CQ I q (by simp))
  | bl j=>cases ry;exact PySem.EqMixed.eq_str_bool (CQ I q (by simp))
  | int j=>obtain⟨t',rfl⟩:=ry;exact PySem.EqMixed.eq_str_int (CQ I q (by simp))
  | str j=>obtain⟨t',rfl⟩:=ry;exact eq_str (CQ I q ZE)
  | _=>exact absurd (show false=true from hs) Bool.false_ne_true
 | byt i =>
  obtain⟨t,rfl⟩:=rx
  cases y with
  | byt j=>obtain⟨t',rfl⟩:=ry;exact W.eq_bytes (CQ I q ZF)
  | _=>exact absurd (show false=true from hs) Bool.false_ne_true
 | _=>cases y<;>exact absurd (show false=true from hs) Bool.false_ne_true
theorem rO:OpR X (compareOp .NotEq) rM:=by
 intro pins s σ H x y v u Q I rx ry h
 obtain⟨hs,q⟩:=h
 cases x with
 | non =>
  cases rx
  cases y with
  | non=>cases ry;exact PySem.EqNone.ne_none_none (CQ I q (by simp))
  | bl j=>cases ry;exact PySem.EqNone.ne_none_bool (CQ I q (by simp))
  | int j=>obtain⟨t',rfl⟩:=ry;exact PySem.EqNone.ne_none_int (CQ I q (by simp))
  | str j=>obtain⟨t',rfl⟩:=ry;exact PySem.EqNone.ne_none_str (CQ I q (by simp))
  | _=>exact absurd (show false=true from hs) Bool.false_ne_true
 | bl i =>
  cases rx
  cases y with
  | non=>cases ry;exact PySem.EqNone.ne_bool_none (CQ I q (by simp))
  | bl j=>cases ry;exact ne_bool (CQ I q (congrArg not ZD))
  | str j=>obtain⟨t',rfl⟩:=ry;exact PySem.EqMixed.ne_bool_str (CQ I q (by simp))
  | _=>exact absurd (show false=true from hs) Bool.false_ne_true
 | int i =>
  obtain⟨t,rfl⟩:=rx
  cases y with
  | non=>cases ry;exact PySem.EqNone.ne_int_none (CQ I q (by simp))
  | int j=>obtain⟨t',rfl⟩:=ry;exact ne_int (CQ I q (congrArg not ZC))
  | str j=>obtain⟨t',rfl⟩:=ry;exact PySem.EqMixed.ne_int_str (CQ I q (by simp))
  | _=>exact absurd (show false=true from hs) Bool.false_ne_true
 | str i =>
  obtain⟨t,rfl⟩:=rx
  cases y with
  | non=>cases ry;exact PySem.EqNone.ne_str_none (CQ I q (by simp))
  | bl j=>cases ry;exact PySem.EqMixed.ne_str_bool (CQ I q (by simp))
  | int j=>obtain⟨t',rfl⟩:=ry;exact PySem.EqMixed.ne_str_int (CQ I q (by simp))
  | str j=>obtain⟨t',rfl⟩:=ry;exact ne_str (CQ I q (congrArg not ZE))
  | _=>exact absurd (show false=true from hs) Bool.false_ne_true
 | byt i =>
  obtain⟨t,rfl⟩:=rx
  cases y with
  | byt j=>obtain⟨t',rfl⟩:=ry;exact W.ne_bytes (CQ I q (congrArg not ZF))
  | _=>exact absurd (show false=true from hs) Bool.false_ne_true
 | _=>cases y<;>exact absurd (show false=true from hs) Bool.false_ne_true
theorem rP:OpR X (compareOp .Lt) (F5 λi j=>.bl (decide (i<j))):=OR λ_ _ _ _ _ _ _ q=>lt_int q
theorem rQ:OpR X (compareOp .LtE) (F5 λi j=>.bl (decide (i<=j))):=OR λ_ _ _ _ _ _ _ q=>le_int q
theorem rR:OpR X (compareOp .Gt) (F5 λi j=>.bl (decide (j<i))):=OR λ_ _ _ _ _ _ _ q=>gt_int q
theorem rS:OpR X (compareOp .GtE) (F5 λi j=>.bl (decide (j<=i))):=OR λ_ _ _ _ _ _ _ q=>ge_int q
theorem GS:OpR X (compareOp .Is) (λx y H Q=>y=.non/\Q (.bl (decide (x=.non))) H):=by
 intro pins s σ H x y v u Q I rx ry h
 obtain⟨rfl,q⟩:=h
 cases ry
 refine is_none_gen (CQ I q ?_)
 cases x<;>first
  | (cases rx;rfl)
  | (obtain⟨t,rfl⟩:=rx;rfl)
theorem HG:OpR X (compareOp .IsNot) (λx y H Q=>y=.non/\Q (.bl (!decide (x=.non))) H):=by
 intro pins s σ H x y v u Q I rx ry h
 obtain⟨rfl,q⟩:=h
 cases ry
 refine isnot_none_gen (CQ I q ?_)
 cases x<;>first
  | (cases rx;rfl)
  | (obtain⟨t,rfl⟩:=rx;rfl)
theorem OpR.or{f:Value->Value->Sem Value}{r r':R2}(h:OpR X f r)(h':OpR X f r'):OpR X f (λx y H Q=>r x y H Q\/r' x y H Q):=by
 intro pins s σ H x y v u Q I rx ry q
 rcases q with q | q
 ·exact h pins s σ H x y v u Q I rx ry q
 ·exact h' pins s σ H x y v u Q I rx ry q
theorem A1(b:Expr){op:CmpOp}(h:op≠.In:=by decide)(h2:op≠.NotIn:=by decide):behindInMarks op b=false:=by
 have e1:(op == CmpOp.In)=false:=by cases op<;>first | rfl | exact absurd rfl h
 have e2:(op == CmpOp.NotIn)=false:=by cases op<;>first | rfl | exact absurd rfl h2
 cases b<;>simp[behindInMarks,e1,e2]
theorem MA{op:CmpOp}{r:R2}(ho:OpR X (compareOp op) r)(ha:PE X a ta)(hb:PE X b tb)(hm:behindInMarks op b=false):PE X (.Compare a [op] [b] pos) (AC r ta tb):=by
 intro pins s σ H Q I h
 exact wpAny_Compare1 (RC ha hb I h λv u s2 x y H2 I2 rx ry q=>ho pins s2 σ H2 x y v u Q I2 rx ry q) hm
def A4(t:TE):TT:=λσ H Q=>t σ H λx H'=>∃ k,x=.bl k/\Q k H'
theorem A7{op:CmpOp}{r:R2}(ho:OpR X (compareOp op) r)(ha:PE X a ta)(hb:PE X b tb)(hm:behindInMarks op b=false):PT X (.Compare a [op] [b] pos) (A4 (AC r ta tb)):=by
 intro pins s σ H Q I h
 refine wpAny_isTrue_Compare1 (AW (ha pins s σ H _ I h) λv s1 ⟨x,H1,I1,r1,q1⟩=>AW (hb pins s1 σ H1 _ I1 q1) λu s2 ⟨y,H2,I2,r2,q2⟩ =>
  AW (ho pins s2 σ H2 x y v u _ I2 r1 r2 q2) λc s3 ⟨z,H3,I3,r3,k,e,q3⟩=> ?_) hm
 subst e
 cases r3
 exact wpAny_truthy_bool ⟨H3,I3,q3⟩
def RD(r r':R2)(ta tb tc:TE):TE:=λσ H Q=>ta σ H λx H1=>tb σ H1 λy H2=>r x y H2 λz H3=>∃ k,z=.bl k ∧
 (if k=true then tc σ H3 λw' H4=>r' y w' H4 Q else Q (.bl false) H3)
theorem rT{op op':CmpOp}{r r':R2}(ho:OpR X (compareOp op) r)(ho':OpR X (compareOp op') r')(ha:PE X a ta)(hb:PE X b tb)(hc:PE X c tc)
  (hm:lastMarks [op,op'] [b,c]=false:=by with_unfolding_all rfl):PT X (.Compare a [op,op'] [b,c] pos) (A4 (RD r r' ta tb tc)):=by
 intro pins s σ H Q I h
 refine isTrue_chain (AW (ha pins s σ H _ I h) λv s1 ⟨x,H1,I1,r1,q1⟩=>test_link (AW (hb pins s1 σ H1 _ I1 q1) λu s2 ⟨y,H2,I2,r2,q2⟩ =>
  AW (ho pins s2 σ H2 x y v u _ I2 r1 r2 q2) λd s3 ⟨z,H3,I3,r3,k,e,q3⟩=> ?_)) hm
 subst e
 cases r3
 refine wpAny_truthy_bool ?_
 cases k with
 | false =>
  obtain⟨k',e',q'⟩:=q3
  cases e'
  exact ite_ff ⟨H3,I3,q'⟩
 | true =>
  refine ite_tt (test_last (AW (hc pins s3 σ H3 _ I3 q3) λw' s4 ⟨z',H4,I4,r4,q4⟩=>AW (ho' pins s4 σ H4 y z' u w' _ I4 r2 r4 q4) λd' s5 ⟨z2,H5,I5,r5,k2,e2,q5⟩=> ?_))
  subst e2
  cases r5
  exact wpAny_truthy_bool ⟨H5,I5,q5⟩
def FL(K:W.Frag)(x:V)(H:Hp)(k:Bool):Prop :=
 match x with
 | .non=>k=false
 | .bl b=>k=b
 | .int i=>k=(i != 0)
 | .str y=>y.length<=sizeLine/\k=((y.length:Int) != 0)
 | .byt y=>y.size<=sizeLine/\k=((y.size:Int) != 0)
 | .ref p=>(∃ xs,SqL K H p xs/\k= !xs.isEmpty)\/(∃ xs,SqT K H p xs/\k= !xs.isEmpty)\/∃ kvs,H p=some (.dK kvs)/\k= !kvs.isEmpty
 | _=>False
theorem rV{κ :Type}{kvs:List (κ × V)}{vs:List (κ × Value)}(r:KV kvs vs):(!vs.isEmpty)= !kvs.isEmpty:=by
 cases r<;>rfl
theorem ZG{xs:List V}{its:List Value}(r:Vals xs its):(!its.toArray.isEmpty)= !xs.isEmpty:=by
 cases r<;>simp
theorem JD:(sizeLine:Nat)<2 ^ 63:=by rw[sizeLine_eq];decide
theorem ZH:rE X (λx H Q=>∃ k,FL X.K x H k/\Q k H):=by
 intro pins s σ H x v Q I rx h
 obtain⟨k,e,q⟩:=h
 have hl:=JD
 have hs:sizeLine=16777216:=sizeLine_eq
 cases x with
 | non =>
  cases rx
  have e':k=false:=e
  subst e'
  exact truthy_none ⟨H,I,q⟩
 | bl b =>
  cases rx
  have e':k=b:=e
  subst e'
  exact wpAny_truthy_bool ⟨H,I,q⟩
 | int i =>
  obtain⟨t,rfl⟩:=rx
  have e':k=(i != 0):=e
  subst e'
  exact PySem.P.truthy_int ⟨H,I,q⟩
 | str y =>
  obtain⟨t,rfl⟩:=rx
  obtain⟨hy,e'⟩:y.length<=sizeLine/\k=((y.length:Int) != 0):=e
  subst e'
  exact PySem.P.truthy_str (by omega) ⟨H,I.tok _,q⟩
 | byt y =>
  obtain⟨t,rfl⟩:=rx
  obtain⟨hy,e'⟩:y.size<=sizeLine/\k=((y.size:Int) != 0):=e
  subst e'
  exact W.truthy_bytes (by omega) ⟨H,I.tok _,q⟩
 | ref p =>
  cases rx
  have e':(∃ xs,SqL X.K H p xs/\k= !xs.isEmpty)\/(∃ xs,SqT X.K H p xs/\k= !xs.isEmpty)\/∃ kvs,H p=some (.dK kvs)/\k= !kvs.isEmpty:=e
  rcases e' with⟨xs,hx,e'⟩ | ⟨xs,hx,e'⟩ | ⟨kvs,hx,e'⟩
  ·subst e'
   obtain⟨its,r,pl,hz⟩:=I.list hx
   have hlen:=r.length
   exact wpAny_truthy_list pl.isList (by simp only[List.size_toArray];omega) ⟨H,I.tok _,by rw[ZG r];exact q⟩
  ·subst e'
   obtain⟨its,r,pl,hz⟩:=I.tuple hx
   have hlen:=r.length
   exact truthy_tuple pl (by simp only[List.size_toArray];omega) ⟨H,I.tok _,by rw[ZG r];exact q⟩
  ·subst e'
   obtain⟨hz,hS,vs,r,m⟩:kvs.length<=sizeLine/\(p == sysModules)=false/\∃ vs,KV kvs vs/\s.heap.DictOf (DN X.prog X.w) p vs:=I.hok p _ hx
   have hlen:kvs.length=vs.length:=Paired.length r
   exact wpAny_truthy_dict hS m (by omega) ⟨H,I.tok _,by rw[rV r];exact q⟩
 | _=>exact(show False from e).elim
theorem MB(ha:PE X a ta)(he:∀ whole,isTrue a X.env whole=(do let v ← whole;standAt a.pos;holding [v] (truthy v))) :
  PT X a (λσ H Q=>ta σ H λx H'=>∃ k,FL X.K x H' k/\Q k H'):=by
 intro pins s σ H Q I h
 exact isTrue_plain (AW (ha pins s σ H _ I h) λv s1 ⟨x,H1,I1,r1,q1⟩=>ZH pins s1 σ H1 x v Q I1 r1 q1) (he _)
theorem rW:OpR X (binaryOp .Add) (λx y H Q=>∃ i j,x=.str i/\y=.str j/\i.length+j.length<=sizeLine/\Q (.str (i++j)) H):=by
 intro pins s σ H x y v u Q I rx ry h
 obtain⟨i,j,rfl,rfl,hz,q⟩:=h
 obtain⟨t,rfl⟩:=rx
 obtain⟨t',rfl⟩:=ry
 exact add_str (λt' tk=>⟨.str (i++j),H,I.tok _,⟨_,rfl⟩,q⟩) hz
theorem JE{x:V}{us:List Value}(r:Vals [x] us):∃ u,us=[u]/\RelV x u:=by
 cases r with
 | cons r1 r2=>cases r2;exact⟨_,rfl,r1⟩
theorem rX{x y:V}{us:List Value}(r:Vals [x,y] us):∃ u w',us=[u,w']/\RelV x u/\RelV y w':=by
 cases r with
 | cons r1 r2 =>
  cases r2 with
  | cons r3 r4=>cases r4;exact⟨_,_,rfl,r1,r3⟩
theorem rY(hc:X.calm=true):CallR X (.builtin "max") (λxs H Q=>∃ i j,xs=[.int i,.int j]/\Q (.int (if j > i then j else i)) H):=by
 intro pins s σ H xs us Q I r h
 obtain⟨i,j,rfl,q⟩:=h
 obtain⟨u,w',rfl,⟨t,rfl⟩,⟨t',rfl⟩⟩:=rX r
 refine max_two_ints (I.ok.hd hc) λh' tk k=>⟨_,H,I.kept k,?_,q⟩
 by_cases hj:j > i
 ·rw[if_pos hj,if_pos hj];exact⟨_,rfl⟩
 ·rw[if_neg hj,if_neg hj];exact⟨_,rfl⟩
theorem RE:CallR X (.type "int") (λxs H Q=>(∃ i,xs=[.int i]/\Q (.int i) H)\/∃ k,xs=[.bl k]/\Q (.int (if k then 1 else 0)) H):=by
 intro pins s σ H xs us Q I r h
 rcases h with⟨i,rfl,q⟩ | ⟨k,rfl,q⟩
 ·obtain⟨u,rfl,t,rfl⟩:=JE r
  exact call_int_int ⟨.int i,H,I,⟨_,rfl⟩,q⟩
 ·obtain⟨u,rfl,r1⟩:=JE r
  cases r1
  exact call_int_bool ⟨.int (if k then 1 else 0),H,I.tok _,⟨_,rfl⟩,q⟩
def KP(K:W.Frag)(x:V)(H:Hp)(n:Nat):Prop :=
 match x with
 | .str y=>y.length<=sizeLine/\n=y.length
 | .byt y=>y.size<=sizeLine/\n=y.size
 | .ref p=>(∃ xs,SqL K H p xs/\n=xs.length)\/∃ xs,SqT K H p xs/\n=xs.length
 | _=>False
theorem rZ:CallR X (.builtin "len") (λxs H Q=>∃ x n,xs=[x]/\KP X.K x H n/\Q (.int n) H):=by
 intro pins s σ H xs us Q I r h
 obtain⟨x,n,rfl,e,q⟩:=h
 obtain⟨u,rfl,rx⟩:=JE r
 have hl:=JD
 have hs:sizeLine=16777216:=sizeLine_eq
 cases x with
 | str y =>
  obtain⟨t,rfl⟩:=rx
  obtain⟨hy,e'⟩:y.length<=sizeLine/\n=y.length:=e
  subst e'
  exact len_str (by omega) ⟨.int _,H,I.tok _,⟨_,rfl⟩,q⟩
 | byt y =>
  obtain⟨t,rfl⟩:=rx
  obtain⟨hy,e'⟩:y.size<=sizeLine/\n=y.size:=e
  subst e'
  exact W.len_bytes (by omega) ⟨.int _,H,I.tok _,⟨_,rfl⟩,q⟩
 | ref p =>
  cases rx
  have e':(∃ xs,SqL X.K H p xs/\n=xs.length)\/∃ xs,SqT X.K H p xs/\n=xs.length:=e
  rcases e' with⟨xs,hx,e'⟩ | ⟨xs,hx,e'⟩
  ·subst e'
   obtain⟨its,r',pl,hz⟩:=I.list hx
   have hlen:=r'.length
   exact Calls.call_len_list pl.isList (by simp only[List.size_toArray];omega) ⟨.int xs.length,H,I.tok _,⟨_,by simp only[List.size_toArray];rw[hlen]⟩,q⟩
  ·subst e'
   obtain⟨its,r',pl,hz⟩:=I.tuple hx
   have hlen:=r'.length
   exact len_tuple pl (by simp only[List.size_toArray];omega) ⟨.int xs.length,H,I.tok _,⟨_,by simp only[List.size_toArray];rw[hlen]⟩,q⟩
 | _=>exact(show False from e).elim
end
end L2
namespace L2
structure ObjM(h:Heap)(x dx C:Addr)(mA:Str->Option Value):Prop where
 obj:h.get? x=some (W.instObj C dx)
 ns:h.Ns1 dx mA
 ne:dx≠x
theorem r8{h:Heap}{dx:Addr}{mA:Str->Option Value}(n:h.Ns1 dx mA):∃ od,h.get? dx=some od/\∀ name,W.lookIn name od=some (mA name):=by
 obtain⟨o,es,ep,ho,hd,hk,_,hm⟩:=n
 refine⟨o,ho,λname=> ?_⟩
 have e:=hm name
 unfold nsFind findBy at e
 rw[<-Array.find?_toList]at e
 unfold W.lookIn
 rw[hd]
 dsimp only
 split
 ·rename_i y q
  rw[q]at e
  exact congrArg some e
 ·rename_i q
  rw[q]at e
  have a:es.toList.any (·.refKey)=false:=by
   rw[List.any_eq_false]
   intro y hy
   obtain⟨z,t,hkey⟩:=hk y (Array.mem_toList_iff.mp hy)
   simp[DictEntry.refKey,hkey]
  have a':¬ es.toList.any (·.refKey)=true:=by rw[a];exact Bool.false_ne_true
  rw[if_neg a']
  exact congrArg some e
theorem ObjM.look{h:Heap}{x dx C:Addr}{mA:Str->Option Value}(I:ObjM h x dx C mA):∃ od,W.InstAt h x (W.instObj C dx) C (some od)/\∀ name,W.lookIn name od=some (mA name) :=
 let ⟨od,ho,hl⟩:=r8 I.ns
 ⟨od,⟨I.obj,rfl,rfl,ho⟩,hl⟩
section
variable{prog:Program}{w:World}{A:Around}{E:Value->Shared->Prop}{s:Shared}{K:W.Frag}{x dx C f:Addr}{mA:Str->Option Value}{name:Str}{v:Value}
theorem sA{expr:Bool}{Q:Value->Shared->Prop}(X:K.In s.heap)(I:ObjM s.heap x dx C mA)(hg:W.plainGet K C name=true)(hh:W.hasDictIn K C=true)
  (ha:W.findIn K (.ref C) name=some none) (hv:mA name=some v) (hv':W.handedIn v=true) (h:Q v { s with toks:=s.toks+1 }) :
  wpAny (model prog w) A (getAttr (.ref x) name expr) Q E s:=by
 obtain⟨od,J,hl⟩:=I.look
 exact W.get_value X J (W.plainGet_of hg).1 (W.findObj_own hh ha rfl (by rw[hl,hv])) hv' h
theorem sB{pl:Sem Bool}{Q:Value × List Value->Shared->Prop}(X:K.In s.heap)(I:ObjM s.heap x dx C mA)(hg:W.plainGet K C name=true)
  (hf:W.findIn K (.ref C) name=some (some (.ref f))) (ht:W.isFn K (.ref f)=true) (hv:mA name=none) (h:Q (.ref f,[.ref x]) s) :
  wpAny (model prog w) A (getMethod (.ref x) name pl) Q E s:=by
 obtain⟨od,J,hl⟩:=I.look
 exact W.method_fn X J (W.plainGet_of hg).1 (W.plainGet_of hg).2 hf (beq_iff_eq.mp ht) (by show(W.lookIn name od).map (·.isSome)=some false;rw[hl,hv];rfl) h
theorem sC{ns:List Str}{Q:Unit->Shared->Prop}(X:K.In s.heap)(I:ObjM s.heap x dx C mA)
  (hs:W.findIn K (.ref C) "__setattr__"=some (some (.builtin "object.__setattr__"))) (hp:W.plainOver K C=true) (ht:W.takerIn K C name=some none) (hh:W.hasDictIn K C=true)
  (hw:PySem.Within mA ns) (hsz:ns.length<=sizeLine)
  (h:∀ h',ObjM h' x dx C (λy=>if y=name then some v else mA y)->Heap.SameBut dx s.heap h'->Q () { s with heap:=h',toks:=s.toks+2 }) :
  wpAny (model prog w) A (setAttr (.ref x) name v) Q E s:=by
 obtain⟨od,J,hl⟩:=I.look
 refine W.set_plain X J hs (W.osa_open (s:={ s with toks:=s.toks+1 }) (r:=none) X J hp ht λb=> ?_)
 obtain⟨cd,hc,hd'⟩:=W.any_some hh
 have hx:s.heap.get? x=some ⟨.ref C,some dx,.plain,#[]⟩:=I.obj
 refine wpAny_bind (wpAny_pure (wpAny_bind (wpAny_bind (wpAny_loadPart hx (wpAny_bind (W.Looks.here (s:={ s with toks:=s.toks+1 }) (W.looks_clsIn X hc) ?_))))))
 rw[hd']
 refine wpAny_pure (a:=some dx) (wpAny_bind (wpAny_pure (wpAny_bind ?_)))
 refine wpAny_nsSet1 (s:={ s with toks:=s.toks+1 }) I.ns λh' hn2 hs2=> ?_
 obtain⟨oD,esD,epD,hoD,hdD,hcD⟩:=hn2.count (PySem.Within.cons name v hw)
 refine wpAny_bind (wpAny_lookBehind hoD (by rw[hdD];exact pastItsLine_dict (Nat.le_trans hcD (by rw[List.length_cons];omega))) ?_)
 exact wpAny_pure (h _ ⟨(hs2.2 _ (Ne.symm I.ne)).trans I.obj,hn2,I.ne⟩ hs2)
theorem sD{R:Result->Shared->Prop}{vs:List Value}{kw:List (Str × Value)}(X:K.In s.heap)(hm:W.makesIn K C=true)
  (hi:W.findIn K (.ref C) "__init__"=some (some (.ref f))) (hf:W.typeIn K (.ref f)=some (.type "function"))
  (h:codeAny (model prog w) (A.under (.builtin "type.__call__" ⟨.ref C::vs,kw⟩)) (.call (.ref f) ⟨.ref (s.heap.objs.size+1)::vs,kw⟩) (W.InitBack (s.heap.objs.size+1) R)
   { s with heap:=(s.heap.push W.emptyDict).push (W.instObj C s.heap.objs.size) }) :
  codeAny (model prog w) A (.call (.ref C) ⟨vs,kw⟩) R s:=by
 obtain⟨hh,g,d,t,os⟩:=s
 exact W.make_core (W.makes_of X hm) (W.looks_findIn X hi) (λself=>W.bind_fn X self hf) (.inl rfl) h
end
def BU(f:Str)(v:V):List (Str × V)->List (Str × V)
 | []=>[(f,v)]
 | (g,x)::r=>if g=f then(g,v)::r else(g,x)::BU f v r
theorem ZI(f g:Str)(v:V):∀ fs:List (Str × V),(BU f v fs).lookup g=if g=f then some v else fs.lookup g
 | []=>by
  show List.lookup g [(f,v)]=_
  by_cases h:g=f
  ·have hb:(g == f)=true:=beq_iff_eq.mpr h
   simp only[List.lookup,hb,if_pos h]
  ·have hb:(g == f)=false:=beq_eq_false_iff_ne.mpr h
   simp only[List.lookup,hb,if_neg h]
 | (k,x)::r=>by
  have ih:=ZI f g v r
  rw[show BU f v ((k,x)::r)=(if k=f then(k,v)::r else(k,x)::BU f v r)from rfl]
  by_cases hk:k=f
  ·rw[if_pos hk]
   by_cases h:g=k
   ·have hb:(g == k)=true:=beq_iff_eq.mpr h
    simp only[List.lookup,hb,if_pos (h.trans hk)]
   ·have hb:(g == k)=false:=beq_eq_false_iff_ne.mpr h
    simp only[List.lookup,hb,if_neg (λe:g=f=>h (e.trans hk.symm))]
  ·rw[if_neg hk]
   by_cases h:g=k
   ·have hb:(g == k)=true:=beq_iff_eq.mpr h
    simp only[List.lookup,hb,if_neg (λe:g=f=>hk (h.symm.trans e))]
   ·have hb:(g == k)=false:=beq_eq_false_iff_ne.mpr h
    simp only[List.lookup,hb]
    exact ih
theorem RF(f:Str)(v:V):∀ fs:List (Str × V),f∈(BU f v fs).map (·.1)/\∀ g,g∈fs.map (·.1)->g∈(BU f v fs).map (·.1)
 | []=>⟨by simp[BU],λg h=>by simp at h⟩
 | (k,x)::r=>by
  obtain⟨i1,i2⟩:=RF f v r
  rw[show BU f v ((k,x)::r)=(if k=f then(k,v)::r else(k,x)::BU f v r)from rfl]
  by_cases hk:k=f
  ·rw[if_pos hk]
   subst hk
   exact⟨by simp,λg h=>by simpa using h⟩
  ·rw[if_neg hk]
   refine⟨?_,λg h=> ?_⟩
   ·rw[List.map_cons]
    exact List.mem_cons_of_mem _ i1
   ·rw[List.map_cons]at h ⊢
    rcases List.mem_cons.mp h with e | e
    ·exact List.mem_cons.mpr (.inl e)
    ·exact List.mem_cons_of_mem _ (i2 g e)
theorem RG(f:Str)(v:V):∀ fs:List (Str × V),(BU f v fs).length<=fs.length+1
 | []=>by simp[BU]
 | (k,x)::r=>by
  have ih:=RG f v r
  rw[show BU f v ((k,x)::r)=(if k=f then(k,v)::r else(k,x)::BU f v r)from rfl]
  by_cases hk:k=f
  ·rw[if_pos hk,List.length_cons,List.length_cons];omega
  ·rw[if_neg hk,List.length_cons,List.length_cons];omega
theorem RelO.some_of{v:V}{o:Option Value}(r:RelO (some v) o):∃ u,o=some u/\RelV v u:=by
 cases o with
 | none=>exact(show False from r).elim
 | some u=>exact⟨u,rfl,r⟩
theorem RelO.none_of{o:Option Value}(r:RelO none o):o=none:=by
 cases o with
 | none=>rfl
 | some u=>exact(show False from r).elim
theorem sE{v:V}{u:Value}(r:RelV v u):W.handedIn u=true:=by
 cases v with
 | non=>cases (show u=Value.none from r);rfl
 | bl b=>cases (show u=Value.bool b from r);rfl
 | int i=>obtain⟨t,e⟩:=(show ∃ t,u=Value.int i t from r);cases e;rfl
 | str x=>obtain⟨t,e⟩:=(show ∃ t,u=Value.str x t from r);cases e;rfl
 | byt b=>obtain⟨t,e⟩:=(show ∃ t,u=Value.bytes b t from r);cases e;rfl
 | flt b=>obtain⟨t,e⟩:=(show ∃ t,u=Value.float b t from r);cases e;rfl
 | ref a=>cases (show u=Value.ref a from r);rfl
 | ty n=>cases (show u=Value.type n from r);rfl
section
variable{P:Program}{w:World}{H H':Hp}{h h':Heap}{a C dx:Addr}{fs fs':List (Str × V)}
theorem OT(hok:HOk P w H h)(e:H a=some (.ins C dx fs)):∃ mA,ObjM h a dx C mA/\(∀ f,RelO (fs.lookup f) (mA f))/\PySem.Within mA (fs.map (·.1))/\fs.length<=1000/\H dx=some (.own a):=by
 obtain⟨d,z,ne,ob,mA,n,r,q⟩:=(show ObjOk P w H h a (.ins C dx fs)from hok a _ e)
 exact⟨mA,⟨ob,n,ne⟩,r,q,z,d⟩
end
structure Cls(K:W.Frag)(C:Addr):Prop where
 pg:W.plainGet K C Str.empty=true
 hd:W.hasDictIn K C=true
 po:W.plainOver K C=true
 sa:W.findIn K (.ref C) "__setattr__"=some (some (.builtin "object.__setattr__"))
theorem Cls.get{K:W.Frag}{C:Addr}(c:Cls K C)(f:Str):W.plainGet K C f=true:=c.pg
def NoAttr(K:W.Frag)(C:Addr)(f:Str):Prop:=W.findIn K (.ref C) f=some none
theorem NoAttr.taker{K:W.Frag}{C:Addr}{f:Str}(n:NoAttr K C f):W.takerIn K C f=some none:=by
 unfold W.takerIn
 rw[show W.findIn K (.ref C) f=some none from n]
 rfl
structure Con(K:W.Frag)(C:Addr)(f:Str)(v:V)(u:Value):Prop where
 at_:W.findIn K (.ref C) f=some (some u)
 rel:RelV v u
 get:W.specialIn K u "__get__"=some none
 cp:W.copiedNames.contains f=false
structure OU(K:W.Frag)(C:Addr)(m:Str)(f:Addr):Prop where
 at_:W.findIn K (.ref C) m=some (some (.ref f))
 fn:W.isFn K (.ref f)=true
 kp:W.keepIn K (.ref f)=true
section
variable{X:Cx}{pins:List (Addr × Obj)}{σ:St}{H:Hp}{s:Shared}{a C dx:Addr}{fs:List (Str × V)}{f:Str}{v:V}{A:Around}{E:Value->Shared->Prop}
theorem ZJ{b:Bool}{Q:Value->Shared->Prop}(I:Inv X pins σ H s)(e:H a=some (.ins C dx fs))(c:Cls X.K C)(n:NoAttr X.K C f)(l:fs.lookup f=some v)
  (h:∀ u s',Inv X pins σ H s'->RelV v u->Q u s'):wpAny (model X.prog X.w) A (getAttr (.ref a) f b) Q E s:=by
 obtain⟨mA,O,r,_,_,_⟩:=OT I.hok e
 obtain⟨u,hu,ru⟩:=RelO.some_of (v:=v) (o:=mA f) (by rw[<-l];exact r f)
 exact sA I.kIn O (c.get f) c.hd n hu (sE ru) (h u _ (I.tok _) ru)
theorem ZK{m:Str}{g:Addr}{pl:Sem Bool}{Q:Value × List Value->Shared->Prop}(I:Inv X pins σ H s)(e:H a=some (.ins C dx fs))(c:Cls X.K C)(k:OU X.K C m g)(l:fs.lookup m=none)
  (h:Q (.ref g,[.ref a]) s):wpAny (model X.prog X.w) A (getMethod (.ref a) m pl) Q E s:=by
 obtain⟨mA,O,r,_,_,_⟩:=OT I.hok e
 have hn:mA m=none:=RelO.none_of (by rw[<-l];exact r m)
 exact sB I.kIn O (c.get m) k.at_ k.fn hn h
theorem ZL{y:V}{u:Value}{Q:Unit->Shared->Prop}(I:Inv X pins σ H s)(e:H a=some (.ins C dx fs))(c:Cls X.K C)(n:NoAttr X.K C f)(hl:fs.length<1000)(ry:RelV y u)
  (h:∀ s',Inv X pins σ (upd H a (.ins C dx (BU f y fs))) s'->Q () s'):wpAny (model X.prog X.w) A (setAttr (.ref a) f u) Q E s:=by
 obtain⟨mA,O,r,wi,_,ho⟩:=OT I.hok e
 have hz:(fs.map (·.1)).length<=sizeLine:=by rw[List.length_map,sizeLine_eq];omega
 refine sC I.kIn O c.sa c.po n.taker c.hd wi hz λh' O' sb=>h _ ?_
 have hd:∃ o,h'.get? dx=some o:=let ⟨o,_,_,e',_⟩:=O'.ns;⟨o,e'⟩
 refine I.write (x:=a) (e:=dx) (by rw[e];exact True.intro) (.inr ho) (λb q hb z=>(sb.2 b hb).trans z) hd ?_
 refine⟨by rw[AQ O.ne];exact ho,?_,O.ne,O'.obj,_,O'.ns,λg=> ?_,λg hg=> ?_⟩
 ·have:=RG f y fs;omega
 ·show RelO ((BU f y fs).lookup g) (if g=f then some u else mA g)
  rw[ZI]
  by_cases q:g=f
  ·rw[if_pos q,if_pos q];exact ry
  ·rw[if_neg q,if_neg q];exact r g
 ·by_cases q:g=f
  ·rw[q];exact(RF f y fs).1
  ·refine(RF f y fs).2 g (wi g λz=>hg ?_)
   show(if g=f then some u else mA g)=none
   rw[if_neg q];exact z
theorem Inv.made(I:Inv X pins σ H s):Inv X pins σ (upd (upd H s.heap.objs.size (.own (s.heap.objs.size+1))) (s.heap.objs.size+1) (.ins C s.heap.objs.size []))
  { s with heap:=(s.heap.push W.emptyDict).push (W.instObj C s.heap.objs.size) }:=by
 have e1:(s.heap.push W.emptyDict).get? s.heap.objs.size=some W.emptyDict:=Heap.get?_push_size s.heap rfl
 have e2:((s.heap.push W.emptyDict).push (W.instObj C s.heap.objs.size)).get? (s.heap.objs.size+1)=some (W.instObj C s.heap.objs.size):=by
  have:=Heap.get?_push_size (s.heap.push W.emptyDict) (o:=W.instObj C s.heap.objs.size) rfl
  rwa [Heap.size_push]at this
 have e3:(s.heap.push W.emptyDict).Ns s.heap.objs.size (λ_=>none):=⟨W.emptyDict,#[],_,e1,rfl,(λe he=>absurd he (by simp)),λ_=>rfl⟩
 have I1:=I.laid (a:=s.heap.objs.size) (o:=.own (s.heap.objs.size+1)) (h':=s.heap.push W.emptyDict) (t':=s.toks) (λb u q=>Heap.get?_push_of_some _ q) (Nat.le_refl _) ⟨_,e1⟩
 refine I1.laid (a:=s.heap.objs.size+1) (o:=.ins C s.heap.objs.size []) (t':=s.toks) (λb u q=>Heap.get?_push_of_some _ q) (Nat.le_of_eq (Heap.size_push _ _)) ?_
 have ne:s.heap.objs.size≠s.heap.objs.size+1:=Nat.ne_of_lt (Nat.lt_succ_self _)
 refine⟨by rw[AQ ne,AM],Nat.zero_le _,ne,e2,λ_=>none,(Heap.Ns1.of_empty e3).at λo q=>Heap.get?_push_of_some _ q,λ_=>True.intro,λy hy=>absurd rfl hy⟩
theorem sF{prog:Program}{w:World}{env:Env}{e:Expr}{f:Str}{pos:Pos}{s:Shared}{Q:Value->Shared->Prop}(hb:attributeBase e f env (eval e env)=eval e env)
  (h:wpAny (model prog w) A (eval e env) (λo s₁=>wpAny (model prog w) A (getAttr o f true) Q E s₁) E s):wpAny (model prog w) A (eval (.Attribute e f pos) env) Q E s :=
 Attribute_any_ h (by rw[arm_eval_Attribute,hb])
end
def BW(K:W.Frag)(ta:TE)(f:Str):TE:=λσ H Q=>ta σ H λx H1=>∃ a C dx fs v,x=.ref a/\H1 a=some (.ins C dx fs)/\Cls K C/\NoAttr K C f/\fs.lookup f=some v/\Q v H1
def EB(K:W.Frag)(ta tv:TE)(f:Str):TS:=λD σ H=>tv σ H λy H1=>ta σ H1 λx H2=>∃ a C dx fs,x=.ref a/\H2 a=some (.ins C dx fs)/\Cls K C/\NoAttr K C f/\fs.length<1000 ∧
 D.nx σ (upd H2 a (.ins C dx (BU f y fs)))
def RH(X:Cx)(op:Operator)(rd:V->V->Hp->VK->Prop):Prop :=
 ∀ (pins:List (Addr × Obj)) (s:Shared) (σ:St) (H:Hp) (x y:V) (u v:Value) (Q:VK),Inv X pins σ H s->RelV x u->RelV y v->rd x y H Q->wpAny (model X.prog X.w) X.A (inplaceOp op u v) (EP X pins σ Q) X.xe s
def RI(K:W.Frag)(ta tv:TE)(rd:V->V->Hp->VK->Prop)(f:Str):TS:=λD σ H=>ta σ H λx H1=>∃ a C dx fs v,x=.ref a/\H1 a=some (.ins C dx fs)/\Cls K C/\NoAttr K C f/\fs.lookup f=some v ∧
 tv σ H1 λy H2=>rd v y H2 λz H3=>∃ dx' fs',H3 a=some (.ins C dx' fs')/\fs'.length<1000/\D.nx σ (upd H3 a (.ins C dx' (BU f z fs')))
section
variable{X:Cx}{o e value:Expr}{f:Str}{pos pos' tpos:Pos}{ta tv:TE}
theorem BY(he:PE X e ta)(hb:attributeBase e f X.env (eval e X.env)=eval e X.env):PE X (.Attribute e f pos) (BW X.K ta f):=by
 intro pins s σ H Q I h
 refine sF hb (AW (he pins s σ H _ I h) λu s1 ⟨x,H1,I1,rx,a,C,dx,fs,v,ex,ea,c,n,l,q⟩=> ?_)
 subst ex
 obtain rfl:u=Value.ref a:=rx
 exact ZJ I1 ea c n l λu' s2 I2 ru=>⟨v,H1,I2,ru,q⟩
theorem EL(ha:PE X o ta)(hv:PE X value tv)(hs:swapsWith value (some (.Attribute o f pos')) pos.line X.env=pure false):PS X (.Assign [.Attribute o f pos'] value pos) (EB X.K ta tv f):=by
 intro pins s σ H D I h
 refine plainObj_wpAny_Assign_Attribute (AW (hv pins s σ H _ I h) λu s1 ⟨y,H1,I1,ry,q⟩=>AW (ha pins s1 σ H1 _ I1 q) λov s2 ⟨x,H2,I2,rx,a,C,dx,fs,ex,ea,c,n,l,q2⟩=> ?_) hs
 subst ex
 obtain rfl:ov=Value.ref a:=rx
 exact ZL I2 ea c n l ry λs3 I3=>⟨σ,_,I3,q2⟩
theorem sG{op:Operator}{rd:V->V->Hp->VK->Prop}(ha:PE X o ta)(hv:PE X value tv)(hop:RH X op rd):PS X (.AugAssign (.Attribute o f tpos) op value pos) (RI X.K ta tv rd f):=by
 intro pins s σ H D I h
 refine wpAny_AugAssign_AttributeAny (AW (ha pins s σ H _ I h) λov s1 ⟨x,H1,I1,rx,a,C,dx,fs,v,ex,ea,c,n,l,q⟩=> ?_)
 subst ex
 obtain rfl:ov=Value.ref a:=rx
 refine ZJ I1 ea c n l λu s2 I2 ru=>AW (hv pins s2 σ H1 _ I2 q) λw3 s3 ⟨y,H2,I3,ry,q3⟩=>AW (hop pins s3 σ H2 v y u w3 _ I3 ru ry q3) λw4 s4 ⟨z,H3,I4,rz,dx',fs',ea',l',q4⟩=> ?_
 exact ZL I4 ea' c n l' rz λs5 I5=>⟨σ,_,I5,q4⟩
def MC:V->V->Hp->VK->Prop:=λx y H Q=>∃ i j,x=.int i/\y=.int j/\Q (.int (i+j)) H
theorem ZM:RH X .Add MC:=by
 rintro pins s σ H x y u v Q I rx ry ⟨i,j,rfl,rfl,q⟩
 obtain⟨t,rfl⟩:=(show ∃ t,u=Value.int i t from rx)
 obtain⟨t',rfl⟩:=(show ∃ t',v=Value.int j t' from ry)
 exact PyProof.Rows.iadd_int ⟨.int (i+j),H,I.tok _,⟨_,rfl⟩,q⟩
end
section
variable{X:Cx}{pins:List (Addr × Obj)}{σ:St}{H:Hp}{s:Shared}{A:Around}{E:Value->Shared->Prop}{Q:Value->Shared->Prop}{c:Value}{b:Bool}
inductive FM(K:W.Frag)(H:Hp):V->Value->Prop where
 | non:FM K H .non (.type "NoneType")
 | bl (x:Bool):FM K H (.bl x) (.type "bool")
 | int (i:Int):FM K H (.int i) (.type "int")
 | str (x:Str):FM K H (.str x) (.type "str")
 | flt (x:UInt64):FM K H (.flt x) (.type "float")
 | lst {a:Addr} {xs:List V} (e:H a=some (.lst xs)):FM K H (.ref a) (.type "list")
 | frz {a:Addr} {o:Obj} {xs:List V} (e:H a=some (.frz o (.lst xs))):FM K H (.ref a) (.type "list")
 | tup {a:Addr} {xs:List V} (e:H a=some (.tup xs)):FM K H (.ref a) (.type "tuple")
 | dK {a:Addr} {kvs:List (AX × V)} (e:H a=some (.dK kvs)):FM K H (.ref a) (.type "dict")
 | dT {a:Addr} {kvs:List (List AX × V)} (e:H a=some (.dT kvs)):FM K H (.ref a) (.type "dict")
 | ins {a C dx:Addr} {fs:List (Str × V)} (e:H a=some (.ins C dx fs)) (cl:Cls K C) (ha:W.findIn K (.ref C) "__class__"=some (some (.builtin "object.__class__")))
   (hn:W.specialIn K (.builtin "object.__class__") "__get__"=some (some (.builtin "getset_descriptor.__get__"))) (htk:W.takesIn K (.builtin "object.__class__")=some true)
   (hm:W.mroIn K C (.type "object")=some true):FM K H (.ref a) (.ref C)
end
end L2
namespace L2
structure Room(k:Nat)(A:Around):Prop where
 hd:A.handled=none
 dp:A.depth+3 * k+5<recursionLimit
 un:A.units+16 * k+200<cLine
theorem Room.mono{j k:Nat}{A:Around}(r:Room k A)(h:j<=k):Room j A:=⟨r.hd,by have:=r.dp;omega,by have:=r.un;omega⟩
theorem Room.deeper{k:Nat}{A:Around}(r:Room (k+1) A)(env:Env):Room k (A.deeper env) :=
 ⟨r.hd,by have:=r.dp;show A.depth+1+3 * k+5<_;omega,by have:=r.un;show A.units+3+16 * k+200<_;omega⟩
theorem Room.in1{k:Nat}{A:Around}(r:Room (k+1) A):Room k A.in1 :=
 ⟨r.hd,by have:=r.dp;show A.depth+3 * k+5<_;omega,by have:=r.un;show A.units+1+16 * k+200<_;omega⟩
theorem sH{A:Around}{C:Addr}{us:List Value}{kw:List (Str × Value)}:(A.under (.builtin "type.__call__" ⟨.ref C::us,kw⟩)).depth=A.depth+1:=by
 first | rfl | simp[Around.under,Code.weight,Code.isCreation,Code.isGuard,Code.isCaller,Code.frames,Code.isFrame,guardIds]
theorem sI{A:Around}{C:Addr}{us:List Value}{kw:List (Str × Value)}:(A.under (.builtin "type.__call__" ⟨.ref C::us,kw⟩)).units=A.units+1:=by
 first | rfl | simp[Around.under,Code.cUnits,Code.frames,Code.isFrame]
theorem Room.make{k:Nat}{A:Around}(r:Room (k+1) A)(C:Addr)(us:List Value)(kw:List (Str × Value)):Room k (A.under (.builtin "type.__call__" ⟨.ref C::us,kw⟩)) :=
 ⟨r.hd,by have:=r.dp;rw[sH];omega,by have:=r.un;rw[sI];omega⟩
theorem Room.depth{k:Nat}{A:Around}(r:Room k A):A.depth<recursionLimit:=by have:=r.dp;omega
theorem Room.units{k:Nat}{A:Around}(r:Room k A):A.units+64<cLine:=by have:=r.un;omega
def AG:TA:=λ_ H Q=>Q [] H
def AD(ta:TE)(tr:TA):TA:=λσ H Q=>ta σ H λx H1=>tr σ H1 λxs H2=>Q (x::xs) H2
section
variable{X:Cx}{e:Expr}{es:List Expr}{te:TE}{t:TA}{pos:Pos}
theorem AH:PA X [] AG:=λ_ _ _ _ H Q I h=>Calls.spliced_nil ⟨[],H,I,.nil,h⟩
theorem AE(ha:PE X e te)(hr:PA X es t)(hs:starEach (e::es) X.env=(false,eval e X.env)::starEach es X.env:=by rfl):PA X (e::es) (AD te t):=by
 intro pos pins s σ H Q I h
 rw[hs]
 show wpAny _ _ (spliced ((false,eval e X.env)::backTo pos (starEach es X.env))) _ _ s
 refine Calls.spliced_cons (AW (ha pins s σ H _ I h) λu s1 ⟨x,H1,I1,r1,q1⟩=> ?_)
 exact AW (hr pos pins s1 σ H1 _ I1 q1) λus s2 ⟨xs,H2,I2,r2,q2⟩=>⟨x::xs,H2,I2,.cons r1 r2,q2⟩
def B4(t:TA):TE:=λσ H Q=>t σ H λxs H1=>xs.length<=sizeLine/\∀ p,H1 p=none->Q (.ref p) (upd H1 p (.tup xs))
def CI(t:TA):TE:=λσ H Q=>t σ H λxs H1=>xs.length<=sizeLine/\∀ p,H1 p=none->Q (.ref p) (upd H1 p (.lst xs))
theorem CB{x1}(h:PA X es t):PE X (.Tuple es x1 pos) (B4 t):=by
 intro pins s σ H Q I hq
 refine wpAny_Tuple_spliced (AW (h pos pins s σ H _ I hq) λus s1 ⟨xs,H1,I1,r,z,q⟩=>⟨by rw[<-r.length];exact z,?_⟩)
 have hf:H1 s1.heap.objs.size=none:=I1.hok.fresh (Nat.le_refl _)
 refine⟨.ref s1.heap.objs.size,upd H1 s1.heap.objs.size (.tup xs),I1.laid (t':=s1.toks) (λb u e=>Heap.get?_push_of_some _ e) (Nat.le_refl _) ?_,rfl,q _ hf⟩
 exact⟨z,us,r,⟨_,Heap.get?_push_size _ rfl,rfl,_,rfl⟩⟩
theorem CO(h:PA X es t):PE X (.List es pos) (CI t):=by
 intro pins s σ H Q I hq
 refine wpAny_List_spliced (AW (h pos pins s σ H _ I hq) λus s1 ⟨xs,H1,I1,r,z,q⟩=>⟨by rw[<-r.length];exact z,?_⟩)
 have hf:H1 s1.heap.objs.size=none:=I1.hok.fresh (Nat.le_refl _)
 refine⟨.ref s1.heap.objs.size,upd H1 s1.heap.objs.size (.lst xs),I1.laid (t':=s1.toks) (λb u e=>Heap.get?_push_of_some _ e) (Nat.le_refl _) ?_,rfl,q _ hf⟩
 exact⟨z,us,0,r,Heap.get?_push_size _ rfl⟩
end
abbrev Sp:=List V->Hp->VK->XK->Prop
abbrev EU:=List Env->Hp->Shared->XK->Value->Shared->Prop
structure Env0(P:Program)(w:World)(K:W.Frag)(mg:Str->Option Value)(base:Heap)(A:Around)(outer:List Env)(s:Shared)(H:Hp):Prop where
 frames:A.frames=some outer
 mod:Mod K mg base
 bs:∀ b o,base.get? b=some o->s.heap.get? b=some o/\H b=none
 bsz:base.objs.size<=s.heap.objs.size
 funs:s.heap.FunFrames base outer
 frf:∀ b∈DO outer,H b=none
 hok:HOk P w H s.heap
 bare:AllBare s.gens
def CE(outer:List Env)(P:Program)(w:World)(H:Hp)(s:Shared)(Q:VK)(u:Value)(s':Shared):Prop :=
 ∃ v H',s'.os=s.os/\AllBare s'.gens/\Un (DO outer) [] H H' s.heap s'.heap/\HOk P w H' s'.heap/\RelV v u/\Q v H'
def CR(CX:EU)(outer:List Env)(P:Program)(w:World)(H:Hp)(s:Shared)(Q:VK)(E:XK)(r:Result)(s':Shared):Prop :=
 match r with
 | .ok (.ret u)=>CE outer P w H s Q u s'
 | .ok _=>False
 | .error e=>CX outer H s E e s'
structure FnOk(P:Program)(w:World)(K:W.Frag)(mg:Str->Option Value)(base:Heap)(CX:EU)(k:Nat)(f:Addr)(fd:FuncData)(ps:List Str)(sp:Sp):Prop where
 len:∀ vs H Q E,sp vs H Q E->vs.length=ps.length
 run:∀ (A:Around) (outer:List Env) (s:Shared) (H:Hp) (args:Args) (us:List Value) (vs:List V) (Q:VK) (E:XK),Room k A->Env0 P w K mg base A outer s H->BindsTo s fd args (ps.zip us)->Vals vs us->sp vs H Q E →
  codeAny (model P w) A (.call (.ref f) args) (CR CX outer P w H s Q E) s
theorem FnOk.mono{P:Program}{w:World}{K:W.Frag}{mg:Str->Option Value}{base:Heap}{CX:EU}{j k:Nat}{f:Addr}{fd:FuncData}{ps:List Str}{sp:Sp}(F:FnOk P w K mg base CX j f fd ps sp)(h:j<=k) :
  FnOk P w K mg base CX k f fd ps sp:=⟨F.len,λA outer s H args us vs Q E hr=>F.run A outer s H args us vs Q E (hr.mono h)⟩
theorem FnOk.imp{P:Program}{w:World}{K:W.Frag}{mg:Str->Option Value}{base:Heap}{CX:EU}{k:Nat}{f:Addr}{fd:FuncData}{ps:List Str}{sp sp':Sp}(F:FnOk P w K mg base CX k f fd ps sp)
  (h:∀ vs H Q E,sp' vs H Q E->sp vs H Q E):FnOk P w K mg base CX k f fd ps sp' :=
 ⟨λvs H Q E q=>F.len vs H Q E (h _ _ _ _ q),λA outer s H args us vs Q E hr he hb hv hs=>F.run A outer s H args us vs Q E hr he hb hv (h _ _ _ _ hs)⟩
theorem Env0.make{P:Program}{w:World}{K:W.Frag}{mg:Str->Option Value}{base:Heap}{A:Around}{outer:List Env}{s:Shared}{H:Hp}(e:Env0 P w K mg base A outer s H)(C:Addr)(us:List Value)(kw:List (Str × Value)) :
  Env0 P w K mg base (A.under (.builtin "type.__call__" ⟨.ref C::us,kw⟩)) outer s H:=⟨by first | exact e.frames | (simpa [Around.under,Code.envs,Code.isFrame,pushEnvs]using e.frames),e.mod,e.bs,e.bsz,e.funs,e.frf,e.hok,e.bare⟩
theorem Env0.in1{P:Program}{w:World}{K:W.Frag}{mg:Str->Option Value}{base:Heap}{A:Around}{outer:List Env}{s:Shared}{H:Hp}(e:Env0 P w K mg base A outer s H) :
  Env0 P w K mg base A.in1 outer s H:=⟨e.frames,e.mod,e.bs,e.bsz,e.funs,e.frf,e.hok,e.bare⟩
section
variable{X:Cx}{pins:List (Addr × Obj)}{σ:St}{H:Hp}{s s':Shared}
theorem Inv.env0(I:Inv X pins σ H s):Env0 X.prog X.w X.K X.mg X.base X.A X.stack s H :=
 ⟨I.ok.frames,I.ok.mod,I.bs,Nat.le_trans I.ok.bsz I.sz,I.stack,I.stkFree,I.hok,I.bare⟩
theorem Inv.after{Q:VK}{u:Value}(I:Inv X pins σ H s)(h:CE X.stack X.prog X.w H s Q u s'):EP X pins σ Q u s':=by
 obtain⟨v,H',os,bare,un,hok,r,q⟩:=h
 obtain⟨hh,g,d,t,os'⟩:=s'
 obtain rfl:os'=s.os:=os
 exact⟨v,H',I.call (h':=hh) (g':=g) (d':=d) (t':=t) (ch:=[]) un hok bare (λb z=>absurd z (by simp)),r,q⟩
end
def A8(sp:Sp)(dvs:List V)(E:St->XK)(t:TA):TE:=λσ H Q=>t σ H λvs H1=>sp (vs++dvs) H1 Q (E σ)
def BR(C:Addr)(m:Str)(sp:Sp)(dvs:List V)(E:St->XK)(ta:TE)(t:TA):TE:=λσ H Q=>ta σ H λx H1=>∃ a dx fs,x=.ref a/\H1 a=some (.ins C dx fs)/\fs.lookup m=none ∧
 t σ H1 λvs H2=>sp (x::(vs++dvs)) H2 Q (E σ)
def JF(C:Addr)(sp:Sp)(dvs:List V)(E:St->XK)(t:TA):TE:=λσ H Q=>t σ H λvs H1=>∀ x dx,H1 x=none->H1 dx=none->dx≠x →
 sp (.ref x::(vs++dvs)) (upd (upd H1 dx (.own x)) x (.ins C dx [])) (λv H2=>v=.non/\Q (.ref x) H2) (E σ)
def Binds(K:W.Frag)(fd:FuncData)(ps:List Str)(ds:List Value):Prop :=
 ∀ (s:Shared) (us:List Value),K.In s.heap->(us++ds).length=ps.length->BindsTo s fd ⟨us,[]⟩ (ps.zip (us++ds))
theorem Binds.all{K:W.Frag}{fd:FuncData}{ps:List Str}(h:∀ us:List Value,us.length=ps.length->bindArgs fd ⟨us,[]⟩=pure (ps.zip us)):Binds K fd ps []:=λs us _ hl=>by
 rw[List.append_nil]at hl ⊢
 exact .of_eq (h us hl)
def FN(CX:EU)(X:Cx)(E:St->XK):Prop:=∀ (pins:List (Addr × Obj)) (σ:St) (H:Hp) (s:Shared) (e:Value) (s':Shared),Inv X pins σ H s->CX X.stack H s (E σ) e s'->X.xe e s'
section
variable{X:Cx}{CX:EU}{k:Nat}{f C:Addr}{fd:FuncData}{ps:List Str}{sp:Sp}{dvs:List V}{ds:List Value}{E:St->XK}{x m:Str}{p pos apos:Pos}{e o:Expr}{es:List Expr}{ta:TE}{t:TA}
theorem RJ{pins:List (Addr × Obj)}{σ:St}{H:Hp}{s:Shared}{Q:VK}{us:List Value}{vs:List V}(F:FnOk X.prog X.w X.K X.mg X.base CX k f fd ps sp)(hr:Room k X.A)(hb:Binds X.K fd ps ds)(hd:Vals dvs ds)(hx:FN CX X E)
  (I:Inv X pins σ H s) (r:Vals vs us) (h:sp (vs++dvs) H Q (E σ)):wpAny (model X.prog X.w) X.A (call (.ref f) us) (EP X pins σ Q) X.xe s:=by
 have r2:Vals (vs++dvs) (us++ds):=r.append hd
 have hl:(us++ds).length=ps.length:=by rw[<-r2.length];exact F.len _ _ _ _ h
 refine wpAny_call (codeAny_mono (F.run X.A X.stack s H ⟨us,[]⟩ (us++ds) (vs++dvs) Q (E σ) hr I.env0 (hb s us I.kIn hl) r2 h) λr s' hq=> ?_)
 cases r with
 | error e=>exact hx pins σ H s e s' I hq
 | ok fl =>
  cases fl with
  | ret u=>exact I.after hq
  | next=>exact False.elim hq
  | brk=>exact False.elim hq
  | cont=>exact False.elim hq
theorem sJ(F:FnOk X.prog X.w X.K X.mg X.base CX k f fd ps sp)(hr:Room k X.A)(hg:Gl X x)(hm:X.mg x=some (.ref f))(hk:W.keepIn X.K (.ref f)=true)(hb:Binds X.K fd ps ds)(hd:Vals dvs ds)(hx:FN CX X E)
  (ha:PA X (e::es) t) (hdb:(x ==("__debug__":Str))=false:=by decide) (he:starEach (e::es) X.env=(false,eval e X.env)::starEach es X.env:=by rfl) (hpl:(backTo pos (starEach es X.env)).any (·.1)=false:=by rfl) :
  PE X (.Call (.Name x p) (e::es) [] pos) (A8 sp dvs E t):=by
 intro pins s σ H Q I h
 refine wpAny_Call_Name_kw (LZ I hg hm ?_ hdb)
 refine W.callWith_K (h₀:=X.base) I.ok.mod.kin hk (AW (ha pos pins s σ H _ I h) λus s1 ⟨vs,H1,I1,r,q⟩=>⟨I1.kIn,?_⟩) he hpl
 exact RJ F hr hb hd hx I1 r q
theorem sK{pl:Sem Bool}(he:PE X o ta)(c:Cls X.K C)(hm:OU X.K C m f)(F:FnOk X.prog X.w X.K X.mg X.base CX k f fd ps sp)(hr:Room k X.A)(hb:Binds X.K fd ps ds)(hd:Vals dvs ds)(hx:FN CX X E)(ha:PA X (e::es) t)
  (hst:starEach (e::es) X.env=(false,eval e X.env)::starEach es X.env:=by rfl) (hpl:(backTo pos (starEach es X.env)).any (·.1)=false:=by rfl)
  (ht:eval (.Call (.Attribute o m apos) (e::es) [] pos) X.env=(do
   let ov ← eval o X.env
   standAt apos.atName
   let (f,first) ← holding [ov] (getMethod ov m pl)
   callWith pos f first (backTo pos (starEach (e::es) X.env)) (backToKw pos (keywordEach [] X.env))):=by rfl) :
  PE X (.Call (.Attribute o m apos) (e::es) [] pos) (BR C m sp dvs E ta t):=by
 intro pins s σ H Q I h
 refine W.methodCall_KW (pl:=pl) (AW (he pins s σ H _ I h) λu s1 ⟨x,H1,I1,rx,a,dx,fs,ex,ea,l,q⟩=> ?_) ht
 subst ex
 obtain rfl:u=Value.ref a:=rx
 refine ZK I1 ea c hm l ?_
 refine W.callWith_K (first:=[.ref a]) (h₀:=X.base) I.ok.mod.kin hm.kp (AW (ha pos pins s1 σ H1 _ I1 q) λus s2 ⟨vs,H2,I2,r,q2⟩=>⟨I2.kIn,?_⟩) hst hpl
 exact RJ (us:=.ref a::us) (vs:=.ref a::vs) F hr hb hd hx I2 (.cons rfl r) q2
theorem sL{pl:Sem Bool}(he:PE X o ta)(c:Cls X.K C)(hm:OU X.K C m f)(F:FnOk X.prog X.w X.K X.mg X.base CX k f fd ps sp)(hr:Room k X.A)(hb:Binds X.K fd ps ds)(hd:Vals dvs ds)(hx:FN CX X E)
  (ht:eval (.Call (.Attribute o m apos) [] [] pos) X.env=(do
   let ov ← eval o X.env
   standAt apos.atName
   let (f,first) ← holding [ov] (getMethod ov m pl)
   callWith pos f first (backTo pos (starEach [] X.env)) (backToKw pos (keywordEach [] X.env))):=by rfl) :
  PE X (.Call (.Attribute o m apos) [] [] pos) (BR C m sp dvs E ta AG):=by
 intro pins s σ H Q I h
 refine W.methodCall_KW (pl:=pl) (AW (he pins s σ H _ I h) λu s1 ⟨x,H1,I1,rx,a,dx,fs,ex,ea,l,q⟩=> ?_) ht
 subst ex
 obtain rfl:u=Value.ref a:=rx
 refine ZK I1 ea c hm l ?_
 exact W.callWith_K0 (first:=[.ref a]) I1.kIn hm.kp (RJ (us:=[.ref a]) (vs:=[.ref a]) F hr hb hd hx I1 (.cons rfl .nil) q)
structure Mk(K:W.Frag)(C f:Addr):Prop where
 makes:W.makesIn K C=true
 init:W.findIn K (.ref C) "__init__"=some (some (.ref f))
 fn:W.isFn K (.ref f)=true
 kp:W.keepIn K (.ref C)=true
theorem sM{pins:List (Addr × Obj)}{σ:St}{H:Hp}{s:Shared}{Q:VK}{us:List Value}{vs:List V}(M:Mk X.K C f)(F:FnOk X.prog X.w X.K X.mg X.base CX k f fd ps sp)(hr:Room (k+1) X.A)(hb:Binds X.K fd ps ds)(hd:Vals dvs ds)
  (hx:FN CX X E) (I:Inv X pins σ H s) (r:Vals vs us)
  (h:∀ x dx,H x=none->H dx=none->dx≠x->sp (.ref x::(vs++dvs)) (upd (upd H dx (.own x)) x (.ins C dx [])) (λv H2=>v=.non/\Q (.ref x) H2) (E σ)) :
  wpAny (model X.prog X.w) X.A (call (.ref C) us) (EP X pins σ Q) X.xe s:=by
 have hq:=h (s.heap.objs.size+1) s.heap.objs.size (I.hok.fresh (Nat.le_succ _)) (I.hok.fresh (Nat.le_refl _)) (Nat.ne_of_lt (Nat.lt_succ_self _))
 have I2:=Inv.made (C:=C) I
 have r2:Vals (V.ref (s.heap.objs.size+1)::(vs++dvs)) (Value.ref (s.heap.objs.size+1)::(us++ds)):=.cons rfl (r.append hd)
 have hl:(Value.ref (s.heap.objs.size+1)::us++ds).length=ps.length:=by
  have e:=r2.length
  rw[F.len _ _ _ _ hq]at e
  exact e.symm
 refine wpAny_call (sD (f:=f) I.kIn M.makes M.init (beq_iff_eq.mp M.fn) (codeAny_mono (F.run _ X.stack _ _ ⟨Value.ref (s.heap.objs.size+1)::us,[]⟩ (Value.ref (s.heap.objs.size+1)::(us++ds)) _ _ (E σ) (hr.make C us [])
  (I2.env0.make C us []) (hb _ (Value.ref (s.heap.objs.size+1)::us) I2.kIn hl) r2 hq) λr s' hq'=> ?_))
 cases r with
 | error e=>exact hx pins σ _ _ e s' I2 hq'
 | ok fl =>
  cases fl with
  | ret u =>
   obtain⟨v,H',I3,rv,ev,q3⟩:=I2.after hq'
   subst ev
   exact⟨rv,⟨V.ref (s.heap.objs.size+1),H',I3,rfl,q3⟩⟩
  | next=>exact False.elim hq'
  | brk=>exact False.elim hq'
  | cont=>exact False.elim hq'
theorem sO(M:Mk X.K C f)(F:FnOk X.prog X.w X.K X.mg X.base CX k f fd ps sp)(hr:Room (k+1) X.A)(hg:Gl X x)(hm:X.mg x=some (.ref C))(hb:Binds X.K fd ps ds)(hd:Vals dvs ds)(hx:FN CX X E)
  (ha:PA X (e::es) t) (hdb:(x ==("__debug__":Str))=false:=by decide) (he:starEach (e::es) X.env=(false,eval e X.env)::starEach es X.env:=by rfl) (hpl:(backTo pos (starEach es X.env)).any (·.1)=false:=by rfl) :
  PE X (.Call (.Name x p) (e::es) [] pos) (JF C sp dvs E t):=by
 intro pins s σ H Q I h
 refine wpAny_Call_Name_kw (LZ I hg hm ?_ hdb)
 refine W.callWith_K (h₀:=X.base) I.ok.mod.kin M.kp (AW (ha pos pins s σ H _ I h) λus s1 ⟨vs,H1,I1,r,q⟩=>⟨I1.kIn,?_⟩) he hpl
 exact sM M F hr hb hd hx I1 r q
end
section
variable{X:Cx}{CX:EU}{k:Nat}{f C:Addr}{fd:FuncData}{ps ks:List Str}{sp:Sp}{E:St->XK}{x m:Str}{p pos apos kpos:Pos}{e o:Expr}{es:List Expr}{kws:List Keyword}{te ta:TE}{t tk:TA}{nm:Option Str}
structure zis(K:W.Frag)(fd:FuncData)(ps ks:List Str)(g:List Value->List Value->List Value)(gV:List V->List V->List V):Prop where
 to:∀ (s:Shared) (us ws:List Value),K.In s.heap->(g us ws).length=ps.length->BindsTo s fd ⟨us,ks.zip ws⟩ (ps.zip (g us ws))
 rel:∀ {vs:List V} {us:List Value} {zs:List V} {ws:List Value},Vals vs us->Vals zs ws->Vals (gV vs zs) (g us ws)
variable{g:List Value->List Value->List Value}{gV:List V->List V->List V}
end
structure FnScope(N P:List Str)(sc:Scope):Prop where
 kind:sc.kind=.function
 co:sc.isCoroutine=false
 gen:sc.isGenerator=false
 nd:N.Nodup
 pre:N.take P.length=P
 par:∀ x∈P,sc.names.lookup x=some .local\/sc.names.lookup x=some .cell
 nofree:∀ y∈sc.names,y.2≠.free
theorem ZN{kindOf:Str->Option NameKind}{x:Str}:∀ {binds:List (Str × Value)} {m:Str->Option Value},(∀ v,(x,v)∉binds)->bindL kindOf binds m x=m x
 | [],_,_=>rfl
 | (n,v)::r,m,h=>by
  unfold bindL
  rw[ZN λw hw=>h w (List.mem_cons_of_mem _ hw)]
  split
  ·have:x≠n:=by rintro rfl;exact h v List.mem_cons_self
   simp[this]
  ·rfl
theorem ZO{kindOf:Str->Option NameKind}{x:Str}:∀ {binds:List (Str × Value)} {m:Str->Option Value},(∀ v,(x,v)∉binds)->bindC kindOf binds m x=m x
 | [],_,_=>rfl
 | (n,v)::r,m,h=>by
  unfold bindC
  rw[ZO λw hw=>h w (List.mem_cons_of_mem _ hw)]
  split
  ·rfl
  ·have:x≠n:=by rintro rfl;exact h v List.mem_cons_self
   simp[this]
theorem ZP{kindOf:Str->Option NameKind}{x:Str}{v:Value}:∀ {P:List Str} {vs:List Value} {i:Nat} {m:Str->Option Value},P.Nodup->P[i]? =some x->vs[i]? =some v->kindOf x=some .local →
  bindL kindOf (P.zip vs) m x=some v
 | [],_,_,_,_,h,_,_=>by simp at h
 | _::_,[],_,_,_,_,h,_=>by simp at h
 | p::P,w::vs,0,m,nd,h1,h2,hk=>by
  simp at h1 h2;subst h1;subst h2
  show bindL kindOf ((p,w)::P.zip vs) m p=_
  unfold bindL
  rw[ZN λv hv=>(List.nodup_cons.mp nd).1 (List.of_mem_zip hv).1,if_pos hk]
  simp
 | p::P,w::vs,i+1,m,nd,h1,h2,hk=>by
  show bindL kindOf ((p,w)::P.zip vs) m x=_
  unfold bindL
  exact ZP (i:=i) (List.nodup_cons.mp nd).2 (by simpa using h1) (by simpa using h2) hk
theorem ZQ{kindOf:Str->Option NameKind}{x:Str}{v:Value}:∀ {P:List Str} {vs:List Value} {i:Nat} {m:Str->Option Value},P.Nodup->P[i]? =some x->vs[i]? =some v->kindOf x≠some .local →
  bindC kindOf (P.zip vs) m x=some v
 | [],_,_,_,_,h,_,_=>by simp at h
 | _::_,[],_,_,_,_,h,_=>by simp at h
 | p::P,w::vs,0,m,nd,h1,h2,hk=>by
  simp at h1 h2;subst h1;subst h2
  show bindC kindOf ((p,w)::P.zip vs) m p=_
  unfold bindC
  rw[ZO λv hv=>(List.nodup_cons.mp nd).1 (List.of_mem_zip hv).1,if_neg hk]
  simp
 | p::P,w::vs,i+1,m,nd,h1,h2,hk=>by
  show bindC kindOf ((p,w)::P.zip vs) m x=_
  unfold bindC
  exact ZQ (i:=i) (List.nodup_cons.mp nd).2 (by simpa using h1) (by simpa using h2) hk
def A5(N:List Str)(vs:List V):St:=vs.map some++List.replicate (N.length - vs.length) none
def GT(CX:EU)(P:Program)(w:World)(K:W.Frag)(mg:Str->Option Value)(base:Heap)(N:List Str)(qual:Str)(scope:Scope)(f:Addr)(cd:Value)(A:Around)(outer:List Env)(s:Shared)(H:Hp)(E:XK):Cx where
 prog:=P
 w:=w
 K:=K
 mg:=mg
 base:=base
 A:=A.deeper (envOfC qual scope s.heap.objs.size f cd)
 N:=N
 s₀:=s
 H₀:=H
 env:=envOfC qual scope s.heap.objs.size f cd
 outer:=outer
 stack:=envOfC qual scope s.heap.objs.size f cd::outer
 ex:=[]
 calm:=true
 fn:=λ_=>true
 pn:=[]
 xe:=λe s'=>wpAny (model P w) (A.deeper (envOfC qual scope s.heap.objs.size f cd)) (leaving (envOfC qual scope s.heap.objs.size f cd) e) (λ_ s''=>CX outer H s E e s'') (λe' s''=>CX outer H s E e' s'') s'
theorem ZR{sc:Scope}{n:Nat}{x:Str}(h:sc.names.lookup x=some .cell):∃ c,(cellsFrom n sc.names []).lookup x=some c:=by
 have q:=W.cellsFrom_some sc.names n [] (.inl h)
 exact Option.isSome_iff_exists.mp q
theorem sP{CX:EU}{P:Program}{w:World}{K:W.Frag}{mg:Str->Option Value}{base:Heap}{N ps:List Str}{qual:Str}{scope:Scope}{f:Addr}{cd:Value}{A:Around}{outer:List Env}{s s1:Shared}{H:Hp}{E:XK}{us:List Value}{vs:List V}
  (S:FnScope N ps scope) (hd:A.handled=none) (e0:Env0 P w K mg base A outer s H) (hl:vs.length=ps.length) (r:Vals vs us)
  (x:InCallC s s.heap.objs.size (bindL (envOfC qual scope s.heap.objs.size f cd).kindOf (ps.zip us) λ_=>none) (cellsFrom (s.heap.objs.size+1) scope.names []) (bindC (envOfC qual scope s.heap.objs.size f cd).kindOf (ps.zip us) λ_=>none) s1) :
  Inv (GT CX P w K mg base N qual scope f cd A outer s H E) [] (A5 N vs) H s1:=by
 have hpl:ps.length<=N.length:=by have:=congrArg List.length S.pre;rw[List.length_take]at this;omega
 obtain⟨h1,tk,rfl,hk⟩:=x.done
 have noA:∀ b:Addr,b∉(GT CX P w K mg base N qual scope f cd A outer s H E).ex:=λb z=>absurd (show b∈([]:List Addr)from z) (by simp)
 refine⟨⟨e0.mod,S.kind,rfl,rfl,Nat.le_refl _,λy z c h1 h2=> ?_,λy hy=> ?_,λy c _ h=> ?_,λ_=>hd,Around.frames_deeper e0.frames,.inr ⟨rfl,rfl⟩,λb z=>absurd z (noA b),e0.bs,e0.bsz,λb _ _=>noA b,λb z=>absurd z (noA b),e0.funs,e0.frf⟩,
  rfl,e0.bare,Un.kept hk,⟨_,x.toInCall.ns,λi y v h1 h2 h3=> ?_⟩,λy c h=>⟨_,x.cell y c h⟩,e0.hok.fresh (Nat.le_refl _),λy c h=> ?_,λp hp=>absurd (show p∈([]:List (Addr × Obj))from hp) (by simp),e0.hok.kept hk,?_⟩
 ·exact name_of_addr x.apart (PySem.mem_of_lookup h1) (PySem.mem_of_lookup h2)
 ·have hy:scope.names.lookup y=some .cell\/scope.names.lookup y=some .free:=hy
  rcases hy with hy | hy
  ·exact ZR hy
  ·exact absurd rfl (S.nofree _ (PySem.mem_of_lookup hy))
 ·exact Nat.le_of_lt (x.above y c (PySem.mem_of_lookup h))
 ·have hi:i<vs.length:=by
   unfold A5 at h2
   by_cases hi:i<vs.length
   ·exact hi
   ·rw[List.getElem?_append_right (by simpa using hi)]at h2
    rw[List.getElem?_replicate]at h2
    split at h2<;>cases h2
  have ha:vs[i]? =some v:=by
   unfold A5 at h2
   rw[List.getElem?_append_left (by simpa using hi),List.getElem?_map]at h2
   cases e:vs[i]? with
   | none=>rw[e]at h2;cases h2
   | some a=>rw[e]at h2;cases h2;rfl
  obtain⟨u,hu,rv⟩:=r.get ha
  have hp:ps[i]? =some y:=by
   rw[<-S.pre,List.getElem?_take_of_lt (by omega)];exact h1
  have ndP:ps.Nodup:=by rw[<-S.pre];exact S.nd.sublist (List.take_sublist _ _)
  refine⟨u,rv,?_⟩
  rcases S.par y (List.mem_of_getElem? hp)with k | k
  ·exact .inl ⟨k,ZP ndP hp hu k⟩
  ·obtain⟨c,e⟩:=ZR (n:=s.heap.objs.size+1) k
   refine .inr ⟨.inl k,c,e,?_⟩
   have q:=x.cell y c e
   rw[ZQ ndP hp hu (by show scope.names.lookup y≠_;rw[k];decide)]at q
   exact q
 ·exact e0.hok.fresh (Nat.le_of_lt (x.above y c (PySem.mem_of_lookup h)))
 ·unfold A5
  show _=N.length
  rw[List.length_append,List.length_map,List.length_replicate]
  omega
theorem ZS{CX:EU}{P:Program}{w:World}{K:W.Frag}{mg:Str->Option Value}{base:Heap}{k:Nat}{f:Addr}{name qual:Str}{params:Arguments}{body:List Stmt}{scope:Scope}{dV kV doc pm cdv ct oc:Value}{an od:Option Addr}
  {osl:Array (Option Value)} {N ps:List Str} {sp:Sp} (lk:K.lookup f=some ⟨oc,od,.func (W.fnOf name qual params body scope dV kV doc pm an cdv ct),osl⟩) (hcd:W.codeIn K cdv qual=true) (S:FnScope N ps scope)
  (len:∀ vs H Q E,sp vs H Q E->vs.length=ps.length)
  (hbody:∀ (A:Around) (outer:List Env) (s:Shared) (H:Hp) (vs:List V) (Q:VK) (E:XK),Room k (A.deeper (envOfC qual scope s.heap.objs.size f cdv))->sp vs H Q E →
   ∃ t,PSs (GT CX P w K mg base N qual scope f cdv A outer s H E) body t/\t { nx:=λ_ H'=>Q .non H',rt:=Q } (A5 N vs) H) :
  FnOk P w K mg base CX (k+1) f (W.fnOf name qual params body scope dV kV doc pm an cdv ct) ps sp:=by
 refine⟨len,λA outer s H args us vs Q E hr e0 hb r hsp=> ?_⟩
 have hl:=len _ _ _ _ hsp
 have KX:K.In s.heap:=e0.mod.kin.keeps λb o e=>(e0.bs b o e).1
 have lim:s.heap.NoLimit:=e0.mod.nolimit.keeps λb o e=>(e0.bs b o e).1
 have hkind:∀ y∈ps.zip us,scope.names.lookup y.1=some .local\/(scope.names.lookup y.1=some .cell/\((cellsFrom (s.heap.objs.size+1) scope.names []).lookup y.1).isSome=true):=λ⟨n,v⟩ hy=>by
  rcases S.par n (List.of_mem_zip hy).1 with q | q
  ·exact .inl q
  ·exact .inr ⟨q,W.cellsFrom_some _ _ _ (.inl q)⟩
 refine codeAny_call_function hr.depth (KX _ _ lk) rfl S.co S.gen rfl (W.codeRec_of KX hcd) (hb _ _ _ _ ?_)
 refine wpAny_newFunctionEnv_cells S.kind hkind λenv he s1 x=> ?_
 subst he
 refine⟨lim.keeps x.toInCall.keep,codeAny_func ?_⟩
 obtain⟨t,ht,hq⟩:=hbody A outer s H vs Q E (hr.deeper _) hsp
 have I:Inv (GT CX P w K mg base N qual scope f cdv A outer s H E) [] (A5 N vs) H s1:=sP S hr.hd e0 hl r x
 refine wpAny_mono (ht [] s1 (A5 N vs) H _ I hq) (λfl s' hs=> ?_) λe s' hs=>hs
 have fin:∀ {σ':St} {H':Hp} {v:V} {u:Value},Inv (GT CX P w K mg base N qual scope f cdv A outer s H E) [] σ' H' s'->RelV v u->Q v H'->CE outer P w H s Q u s' :=
  λ{σ' H' v u} J rv q=>⟨v,H',J.os,J.bare,J.base,J.hok,rv,q⟩
 cases fl with
 | ret u =>
  obtain⟨v,σ',H',J,rv,q⟩:=hs
  exact fin J rv q
 | next =>
  obtain⟨σ',H',J,q⟩:=hs
  exact fin (v:=V.non) (u:=Value.none) J rfl q
 | brk =>
  obtain⟨_,_,_,q⟩:=hs
  exact False.elim q
 | cont =>
  obtain⟨_,_,_,q⟩:=hs
  exact False.elim q
end L2
namespace L2
section
variable{X:Cx}{x:Str}{p pos:Pos}{e:Expr}{es:List Expr}{t:TA}{id T:String}{r:List V->Hp->VK->Prop}
def BM(r:List V->Hp->VK->Prop)(t:TA):TE:=λσ H Q=>t σ H λvs H1=>r vs H1 Q
theorem B7(hc:CallR X (.builtin id) r)(hg:Gl X x)(hm:X.mg x=none)(hv:bootBuiltins x=some (.builtin id))(ha:PA X (e::es) t)(hn:x≠"__name__":=by decide)(hdb:(x ==("__debug__":Str))=false:=by decide)
  (he:starEach (e::es) X.env=(false,eval e X.env)::starEach es X.env:=by rfl) (hpl:(backTo pos (starEach es X.env)).any (·.1)=false:=by rfl):PE X (.Call (.Name x p) (e::es) [] pos) (BM r t):=by
 intro pins s σ H Q I h
 refine wpAny_Call_Name_kw (KN I hg hm hv ?_ hn hdb)
 exact PyProof.Rows.callWith_builtin1 (AW (ha pos pins s σ H _ I h) λus s1 ⟨vs,H1,I1,r1,q1⟩=>hc pins s1 σ H1 vs us Q I1 r1 q1) he hpl
theorem HH(hc:CallR X (.type T) r)(hg:Gl X x)(hm:X.mg x=none)(hv:bootBuiltins x=some (.type T))(ha:PA X (e::es) t)(hn:x≠"__name__":=by decide)(hdb:(x ==("__debug__":Str))=false:=by decide)
  (he:starEach (e::es) X.env=(false,eval e X.env)::starEach es X.env:=by rfl) (hpl:(backTo pos (starEach es X.env)).any (·.1)=false:=by rfl):PE X (.Call (.Name x p) (e::es) [] pos) (BM r t):=by
 intro pins s σ H Q I h
 refine wpAny_Call_Name_kw (KN I hg hm hv ?_ hn hdb)
 exact PyProof.Rows.callWith_type1 (AW (ha pos pins s σ H _ I h) λus s1 ⟨vs,H1,I1,r1,q1⟩=>hc pins s1 σ H1 vs us Q I1 r1 q1) he hpl
end
end L2
namespace HT
open PySem PyProof.Rows
section
open PySem.SeqAt
open PySem.AutoSeq1 (wpAny_loadPart')
open PySem.MeetsSeq PySem.MeetsSeq2 PySem.MeetsSeq3
end
section
variable{prog:Program}{w:World}{A:Around}{E:Value->Shared->Prop}{s:Shared}
theorem cat_tup{t b:Addr}{vs ws:List Value}{Q:Value->Shared->Prop}(ht:IsTup s.heap t vs.toArray)(hb:IsTup s.heap b ws.toArray)(hv:vs≠[])
  (h1:ws=[]->Q (.ref t) s) (h2:ws≠[]->Q (.ref s.heap.objs.size) { s with heap:=s.heap.push { cls:=.type "tuple",data:=.seq (vs++ws).toArray } })
  (hsz:vs.length+ws.length<=sizeLine):wpAny (model prog w) A (binaryOp .Add (.ref t) (.ref b)) Q E s:=by
 obtain⟨⟨cls,dd,data,sl⟩,ho,hc,n,hd⟩:=id ht
 obtain⟨⟨cls2,dd2,data2,sl2⟩,ho2,hc2,n2,hd2⟩:=id hb
 simp only at hc hd hc2 hd2
 subst hc hd hc2 hd2
 have e:vs.toArray++ws.toArray=(vs++ws).toArray:=by simp
 by_cases hw:ws=[]
 ·exact concat_meets ⟨_,ho,rfl⟩ ⟨_,ho2,rfl⟩ noFill_tuple_add seq_tuple_add PySem.F.slot_tuple_add PySem.F.entry_tuple_add (PySem.F.args_tuple_add_2 _ _)
   (tuple_addW1 t b vs.toArray ws.toArray n n2 dd dd2 sl sl2 (by simpa using hv) (by simp[hw])) ⟨ho,ho2,h1 hw⟩
 ·refine concat_meets ⟨_,ho,rfl⟩ ⟨_,ho2,rfl⟩ noFill_tuple_add seq_tuple_add PySem.F.slot_tuple_add PySem.F.entry_tuple_add (PySem.F.args_tuple_add_2 _ _)
   (tuple_addW2 t b vs.toArray ws.toArray n n2 dd dd2 sl sl2 (by simpa using hv) (by simpa using hw) (by rw[List.size_toArray,List.size_toArray];exact hsz)) ⟨ho,ho2,?_⟩
  rw[e]
  exact h2 hw
def sIx(n d:Nat):Option Int->Nat
 | none=>d
 | some v=>if v<0 then(v+(n:Int)).toNat else min v.toNat n
theorem sIx_nat(n d k:Nat):sIx n d (some (k:Int))=min k n:=by
 show(if(k:Int)<0 then((k:Int)+(n:Int)).toNat else min (k:Int).toNat n)=min k n
 rw[if_neg (by omega),Int.toNat_natCast]
theorem sQ(n d:Nat)(hd:d<=n)(o:Option Int):sIx n d o<=n:=by
 cases o with
 | none=>exact hd
 | some v =>
  show(if v<0 then(v+(n:Int)).toNat else min v.toNat n)<=n
  by_cases hv:v<0
  ·rw[if_pos hv];omega
  ·rw[if_neg hv];exact Nat.min_le_right _ _
theorem ZT(v:Int)(n d:Nat):(if v<0 then max (v+(n:Int)) 0 else min v (n:Int))=((sIx n d (some v):Nat):Int):=by
 show(if v<0 then max (v+(n:Int)) 0 else min v (n:Int))=(((if v<0 then(v+(n:Int)).toNat else min v.toNat n):Nat):Int)
 by_cases hv:v<0
 ·simp only[if_pos hv];omega
 ·simp only[if_neg hv];omega
theorem sR(lo hi:Option Int)(n:Nat):Builtin.Slice.sliceAdjust lo hi 1 (n:Int)=(((sIx n 0 lo:Nat):Int),((sIx n n hi:Nat):Int)):=by
 have h1:¬ ((1:Int)<0):=by omega
 unfold Builtin.Slice.sliceAdjust
 simp only[h1,if_false]
 refine Prod.ext ?_ ?_
 ·cases lo with
  | none=>rfl
  | some v=>exact ZT v n 0
 ·cases hi with
  | none=>rfl
  | some v=>exact ZT v n n
theorem sT(i j:Nat):Builtin.Slice.slicePlaces (i:Int) (j:Int) 1=j - i:=by
 unfold Builtin.Slice.slicePlaces
 have h1:(1:Int) > 0:=by omega
 simp only[h1,if_true,Int.ediv_one]
 split<;>omega
theorem ZU{v:Value}{o:Option Int}{Q:Option Int->Shared->Prop}(p:IsPart v o)(h:Q o s):wpAny (model prog w) A (Builtin.Slice.slicePartIndex v) Q E s:=by
 cases p with
 | none=>exact slicePart_none h
 | int i t=>exact slicePart_int h
theorem sU{sl:Addr}{vl vu:Value}{lo hi:Option Int}{n:Nat}{Q:Int × Int × Nat->Shared->Prop}(hs:s.heap.IsSliceOf sl vl vu .none)(pl:IsPart vl lo)(pu:IsPart vu hi)
  (h:Q (((sIx n 0 lo:Nat):Int),1,sIx n n hi - sIx n 0 lo) s):wpAny (model prog w) A (Builtin.Slice.sliceApplied (.ref sl) (pure (n:Int))) Q E s:=by
 obtain⟨os,hos,hcs,hds⟩:=id hs
 unfold Builtin.Slice.sliceApplied Builtin.Slice.sliceFields
 refine wpAny_bind (wpAny_bind (wpAny_field hos hds (x:=vl) rfl (wpAny_bind (wpAny_field hos hds (x:=vu) rfl (wpAny_bind (wpAny_field hos hds (x:=.none) rfl (wpAny_pure ?_)))))))
 refine wpAny_bind (slicePart_none ?_)
 show wpAny _ _ (if((1:Int) == 0)=true then _ else _) _ _ s
 rw[if_neg (by decide)]
 refine wpAny_bind (ZU pl (wpAny_bind (ZU pu (wpAny_bind (wpAny_pure ?_)))))
 show wpAny _ _ (match Builtin.Slice.sliceAdjust lo hi 1 (n:Int)with | (lo,hi)=>pure (lo,(1:Int),Builtin.Slice.slicePlaces lo hi 1)) _ _ s
 rw[sR lo hi n]
 show wpAny _ _ (pure (((sIx n 0 lo:Nat):Int),(1:Int),Builtin.Slice.slicePlaces ((sIx n 0 lo:Nat):Int) ((sIx n n hi:Nat):Int) 1)) _ _ s
 rw[sT]
 exact wpAny_pure h
theorem sV(xs:Array Value)(i k:Nat):((List.range k).filterMap λ(m:Nat)=>xs[((i:Int)+(m:Int) * 1).toNat]?).toArray=((xs.toList.drop i).take k).toArray:=by
 have e:(λ(m:Nat)=>xs[((i:Int)+(m:Int) * 1).toNat]?)=λm=>xs[i+m]? :=by
  funext m
  have:((i:Int)+(m:Int) * 1).toNat=i+m:=by omega
  rw[this]
 rw[e]
 have:=pick_run xs i k
 rw[List.filterMap_map]at this
 have e2:((λx=>xs[x]?) ∘ λx=>i+x)=λm=>xs[i+m]? :=rfl
 rw[e2]at this
 rw[this]
theorem getItem_tuple_cut{t sl:Addr}{items:Array Value}{vl vu:Value}{lo hi:Option Int}{Q:Value->Shared->Prop}(ht:IsTup s.heap t items)(hs:s.heap.IsSliceOf sl vl vu .none)(pl:IsPart vl lo)(pu:IsPart vu hi)
  (hw:¬ (sIx items.size 0 lo=0/\sIx items.size items.size hi=items.size))
  (h:Q (.ref s.heap.objs.size) { s with heap:=s.heap.push { cls:=.type "tuple",data:=.seq ((items.toList.drop (sIx items.size 0 lo)).take (sIx items.size items.size hi - sIx items.size 0 lo)).toArray } })
  (hsz:items.size<=sizeLine):wpAny (model prog w) A (getItem (.ref t) (.ref sl)) Q E s:=by
 have htake:sizeOk (.seq ((items.toList.drop (sIx items.size 0 lo)).take (sIx items.size items.size hi - sIx items.size 0 lo)).toArray):=by
  show((items.toList.drop (sIx items.size 0 lo)).take (sIx items.size items.size hi - sIx items.size 0 lo)).toArray.size<=sizeLine
  rw[List.size_toArray,List.length_take,List.length_drop,Array.length_toList]
  omega
 have hj:sIx items.size items.size hi<=items.size:=sQ _ _ (Nat.le_refl _) hi
 obtain⟨os,hos,hcs,hds⟩:=id hs
 have hTs:s.TypeIs (.ref sl) "slice":=⟨os,hos,hcs⟩
 unfold getItem
 try with_reducible refine wpAny_holding ?_
 first | refine wpAny_bind (wpAny_pure ?_) | skip
 refine wpAny_bind (wpAny_sequenceKey ht.typeIs (by decide) ?_)
 refine wpAny_bind (wpAny_callSpecial?_slot (name:=Str.ofString "__getitem__") ht.typeIs PyProof.Rows.slot_tuple_getitem
  (wpAny_call_entry PyProof.Rows.slot_tuple_getitem ht.typeIs entry_tuple_getitem ?_ (args_tuple_getitem _ _)))
 show wpAny _ _ (Builtin.Tuple.tupleItemsOf (.ref t) >>= _) _ _ s
 refine wpAny_bind (tupleItemsOf_ ht ?_)
 refine wpAny_bind (wpAny_typeOf hTs ?_)
 rw[if_pos (by decide)]
 refine wpAny_bind (sU hs pl pu ?_)
 have hno:¬ ((((sIx items.size 0 lo:Nat):Int) == 0 && (1:Int) == 1 && (sIx items.size items.size hi - sIx items.size 0 lo) == items.size)=true):=by
  intro q
  rw[Bool.and_eq_true,Bool.and_eq_true]at q
  have q1:((sIx items.size 0 lo:Nat):Int)=0:=eq_of_beq q.1.1
  have q2:sIx items.size items.size hi - sIx items.size 0 lo=items.size:=eq_of_beq q.2
  exact hw ⟨by omega,by omega⟩
 show wpAny _ _ (if(((sIx items.size 0 lo:Nat):Int) == 0 && (1:Int) == 1 && (sIx items.size items.size hi - sIx items.size 0 lo) == items.size)=true then _ else _) _ _ s
 rw[if_neg hno,sV]
 first
  | exact wpAny_bind (m:=Builtin.Tuple.tupleExact _) (wpAny_newObj_type (wpAny_pure ⟨_,rfl,wpAny_pure h⟩) htake)
  | exact wpAny_bind (m:=Builtin.Tuple.tupleExact _) (wpAny_newObj_type (wpAny_bind (wpAny_pure (wpAny_pure ⟨_,rfl,wpAny_pure h⟩))) htake)
  | exact wpAny_bind (wpAny_bind (m:=Builtin.Tuple.tupleExact _) (wpAny_newObj_type (wpAny_pure (wpAny_pure ⟨_,rfl,wpAny_pure h⟩)) htake))
  | exact wpAny_bind (wpAny_bind (m:=Builtin.Tuple.tupleExact _) (wpAny_newObj_type (wpAny_pure ⟨_,rfl,wpAny_pure h⟩) htake))
end
end HT
namespace L2
abbrev TO:=St->Hp->(Option Int->Hp->Prop)->Prop
def PO(X:Cx)(e:Option Expr)(t:TO):Prop :=
 ∀ (pins:List (Addr × Obj)) (s:Shared) (σ:St) (H:Hp) (Q:Option Int->Hp->Prop),Inv X pins σ H s->t σ H Q →
  wpAny (model X.prog X.w) X.A (evalPart e X.env) (λu s'=>∃ o H',Inv X pins σ H' s'/\IsPart u o/\Q o H') X.xe s
def OV:TO:=λ_ H Q=>Q none H
def IB(t:TE):TO:=λσ H Q=>t σ H λx H1=>∃ i,x=.int i/\Q (some i) H1
section
variable{X:Cx}{e:Expr}{te:TE}{lo hi:Option Expr}{tl th:TO}{pos p2:Pos}
theorem ZV:PO X none OV:=by
 intro pins s σ H Q I h
 rw[evalPart_none]
 exact wpAny_pure ⟨none,H,I,.none,h⟩
theorem KQ(h:PE X e te):PO X (some e) (IB te):=by
 intro pins s σ H Q I hw
 rw[evalPart_some]
 refine AW (h pins s σ H _ I hw) λu s1 ⟨x,H1,I1,r1,q1⟩=> ?_
 obtain⟨i,rfl,q⟩:=q1
 obtain⟨t,rfl⟩:=r1
 exact⟨some i,H1,I1,.int i t,q⟩
def SlR(X:Cx)(r:V->Option Int->Option Int->Hp->VK->Prop):Prop :=
 ∀ (pins:List (Addr × Obj)) (s:Shared) (σ:St) (H:Hp) (x:V) (v vl vu:Value) (lo hi:Option Int) (sl:Addr) (Q:VK),Inv X pins σ H s->RelV x v->s.heap.IsSliceOf sl vl vu .none->IsPart vl lo->IsPart vu hi->r x lo hi H Q →
  ∃ T id,typeLookup (.type T) "__getitem__"=pure (some (.builtin id))/\s.TypeIs v T/\wpAny (model X.prog X.w) X.A (getItem v (.ref sl)) (EP X pins σ Q) X.xe s
theorem SlR.or{r r':V->Option Int->Option Int->Hp->VK->Prop}(h:SlR X r)(h':SlR X r'):SlR X (λx lo hi H Q=>r x lo hi H Q\/r' x lo hi H Q):=by
 intro pins s σ H x v vl vu lo hi sl Q I rx hs pl pu q
 rcases q with q | q
 ·exact h pins s σ H x v vl vu lo hi sl Q I rx hs pl pu q
 ·exact h' pins s σ H x v vl vu lo hi sl Q I rx hs pl pu q
def KR(r:V->Option Int->Option Int->Hp->VK->Prop)(te:TE)(tl th:TO):TE:=λσ H Q=>te σ H λx H1=>tl σ H1 λl H2=>th σ H2 λu H3=>r x l u H3 Q
theorem OW{r:V->Option Int->Option Int->Hp->VK->Prop}(hr:SlR X r)(he:PE X e te)(hl:PO X lo tl)(hu:PO X hi th):PE X (.Subscript e (.Slice lo hi none p2) pos) (KR r te tl th):=by
 intro pins s σ H Q I h
 refine Subscript_ (AW (he pins s σ H _ I h) λv s1 ⟨x,H1,I1,r1,q1⟩=> ?_)
 refine wpAny_Slice (AW (hl pins s1 σ H1 _ I1 q1) λvl s2 ⟨l,H2,I2,pl,q2⟩=>AW (hu pins s2 σ H2 _ I2 q2) λvu s3 ⟨u,H3,I3,pu,q3⟩=> ?_)
 rw[evalPart_none]
 refine wpAny_pure ?_
 have I4:Inv X pins σ H3 { s3 with heap:=s3.heap.push { cls:=.type "slice",data:=.fields #[vl,vu,.none] } }:=I3.kept (t':=s3.toks) λb ob q=>Heap.get?_push_of_some _ q
 obtain⟨T,id,hT,ht,hg⟩:=hr pins { s3 with heap:=s3.heap.push { cls:=.type "slice",data:=.fields #[vl,vu,.none] } } σ H3 x v vl vu l u s3.heap.objs.size Q I4 r1 (Heap.IsSliceOf.new ..) pl pu q3
 show wpAny (model X.prog X.w) X.A (subscriptTail e (.Slice lo hi none p2) v (.ref s3.heap.objs.size)) (EP X pins σ Q) X.xe { s3 with heap:=s3.heap.push { cls:=.type "slice",data:=.fields #[vl,vu,.none] } }
 exact tail_any (ops:=[.ref s3.heap.objs.size,v]) ht hT hg (by with_unfolding_all rfl)
def EJ(xs:List V)(lo hi:Option Int):List V:=(xs.drop (HT.sIx xs.length 0 lo)).take (HT.sIx xs.length xs.length hi - HT.sIx xs.length 0 lo)
theorem ZW(xs:List V)(lo hi:Option Int):(EJ xs lo hi).length<=xs.length:=by
 unfold EJ
 rw[List.length_take,List.length_drop]
 omega
def ZX(K:W.Frag):V->Option Int->Option Int->Hp->VK->Prop:=λx lo hi H Q=>∃ a xs,x=.ref a/\SqT K H a xs ∧
 ¬ (HT.sIx xs.length 0 lo=0/\HT.sIx xs.length xs.length hi=xs.length)/\∀ p,H p=none->Q (.ref p) (upd H p (.tup (EJ xs lo hi)))
theorem sW:SlR X (ZX X.K):=by
 intro pins s σ H x v vl vu lo hi sl Q I rx hs pl pu h
 obtain⟨a,xs,rfl,hx,hw,q⟩:=h
 cases rx
 obtain⟨its,r,ht,hz⟩:=I.tuple hx
 have hlen:its.toArray.size=xs.length:=by rw[List.size_toArray];exact r.length.symm
 refine⟨"tuple",_,PyProof.Rows.slot_tuple_getitem.lookup,ht.typeIs,?_⟩
 refine HT.getItem_tuple_cut ht hs pl pu (by rw[hlen];exact hw) ?_ (by rw[hlen];exact hz)
 rw[hlen]
 refine⟨.ref s.heap.objs.size,_,I.laid (t':=s.toks) (o:=.tup (EJ xs lo hi)) (λb ob q=>Heap.get?_push_of_some _ q) (Nat.le_refl _) ?_,rfl,q _ (I.hok.fresh (Nat.le_refl _))⟩
 exact⟨Nat.le_trans (ZW xs lo hi) hz,_,(r.drop (HT.sIx xs.length 0 lo)).take (HT.sIx xs.length xs.length hi - HT.sIx xs.length 0 lo),IsTup.new _ _⟩
def RK(K:W.Frag):R2:=λx y H Q=>∃ a b xs ys,x=.ref a/\y=.ref b/\SqT K H a xs/\SqT K H b ys/\xs≠[]/\xs.length+ys.length<=sizeLine ∧
 (ys=[]->Q (.ref a) H)/\(ys≠[]->∀ p,H p=none->Q (.ref p) (upd H p (.tup (xs++ys))))
theorem Vals.nil_iff{xs:List V}{us:List Value}(r:Vals xs us):us=[]↔xs=[]:=by
 cases r with
 | nil=>simp
 | cons _ _=>simp
theorem sX:OpR X (binaryOp .Add) (RK X.K):=by
 intro pins s σ H x y v u Q I rx ry h
 obtain⟨a,b,xs,ys,rfl,rfl,ha,hb,hx,hz,q1,q2⟩:=h
 cases rx
 cases ry
 obtain⟨its,r1,p1,_⟩:=I.tuple ha
 obtain⟨its2,r2,p2,_⟩:=I.tuple hb
 refine HT.cat_tup p1 p2 (λz=>hx (r1.nil_iff.mp z)) (λz=>⟨.ref a,H,I,rfl,q1 (r2.nil_iff.mp z)⟩) (λz=> ?_) (by rw[<-r1.length,<-r2.length];exact hz)
 refine⟨.ref s.heap.objs.size,_,I.laid (t':=s.toks) (o:=.tup (xs++ys)) (λb ob q=>Heap.get?_push_of_some _ q) (Nat.le_refl _) ?_,rfl,q2 (λw=>z (r2.nil_iff.mpr w)) _ (I.hok.fresh (Nat.le_refl _))⟩
 exact⟨by rw[List.length_append];exact hz,_,r1.append r2,IsTup.new _ _⟩
end
end L2
namespace L2
def GU(n:Nat)(i:Int):Option Nat:=if 0<=i then(if i<n then some i.toNat else none)else if -(n:Int)<=i then some (i+n).toNat else none
def JG{α :Type}(xs:List α)(i:Int):Option α :=(GU xs.length i).bind λj=>xs[j]?
theorem ZY{n:Nat}{i:Int}{j:Nat}(h:GU n i=some j):seqIndex? i n=some j/\j<n/\ -(n:Int)<=i/\i<n:=by
 unfold GU at h
 by_cases h0:0<=i
 ·rw[if_pos h0]at h
  by_cases h1:i<n
  ·rw[if_pos h1]at h
   have e:i.toNat=j:=Option.some.inj h
   exact⟨by rw[seqIndex_of h0 h1,e],by omega,by omega,h1⟩
  ·rw[if_neg h1]at h;cases h
 ·rw[if_neg h0]at h
  by_cases h1: -(n:Int)<=i
  ·rw[if_pos h1]at h
   have e:(i+n).toNat=j:=Option.some.inj h
   exact⟨by rw[seqIndex_neg (by omega) h1,e],by omega,h1,by omega⟩
  ·rw[if_neg h1]at h;cases h
theorem RM{α :Type}{xs:List α}{i:Int}{v: α}(h:JG xs i=some v):∃ j,seqIndex? i xs.length=some j/\xs[j]? =some v/\j<xs.length/\ -(xs.length:Int)<=i/\i<xs.length:=by
 unfold JG at h
 cases e:GU xs.length i with
 | none=>rw[e]at h;cases h
 | some j =>
  rw[e]at h
  obtain⟨h1,h2,h3,h4⟩:=ZY e
  exact⟨j,h1,h,h2,h3,h4⟩
theorem RN{α :Type}{xs:List α}{j:Nat}{v: α}(h:xs[j]? =some v):JG xs (j:Int)=some v:=by
 have hj:j<xs.length:=(List.getElem?_eq_some_iff.mp h).1
 have e:GU xs.length (j:Int)=some j:=by
  unfold GU
  rw[if_pos (by omega),if_pos (by omega)];simp
 unfold JG;rw[e];exact h
def sY(b:Expr):Prop:=∀ o i,subscripted b false o i=operate [o,i] (getItem o i)
def IxR(X:Cx)(r:R2):Prop :=
 ∀ (value slice:Expr) (pins:List (Addr × Obj)) (s:Shared) (σ:St) (H:Hp) (x y:V) (v u:Value) (Q:VK),Inv X pins σ H s->RelV x v->RelV y u->r x y H Q →
  subscripted slice false v u=operate [v,u] (getItem v u)->wpAny (model X.prog X.w) X.A (subscriptTail value slice v u) (EP X pins σ Q) X.xe s
def MtR(X:Cx)(id:String)(r:V->List V->Hp->VK->Prop):Prop :=
 ∀ (pins:List (Addr × Obj)) (s:Shared) (σ:St) (H:Hp) (x:V) (xs:List V) (v:Value) (us:List Value) (Q:VK),Inv X pins σ H s->RelV x v->Vals xs us->r x xs H Q →
  wpAny (model X.prog X.w) X.A (call (.builtin id) (v::us)) (EP X pins σ Q) X.xe s
section
variable{X:Cx}{a b:Expr}{ta tb:TE}{pos:Pos}
theorem IxR.or{r r':R2}(h:IxR X r)(h':IxR X r'):IxR X (λx y H Q=>r x y H Q\/r' x y H Q):=by
 intro value slice pins s σ H x y v u Q I rx ry q hs
 rcases q with q | q
 ·exact h value slice pins s σ H x y v u Q I rx ry q hs
 ·exact h' value slice pins s σ H x y v u Q I rx ry q hs
theorem MtR.or{id:String}{r r':V->List V->Hp->VK->Prop}(h:MtR X id r)(h':MtR X id r'):MtR X id (λx xs H Q=>r x xs H Q\/r' x xs H Q):=by
 intro pins s σ H x xs v us Q I rx rs q
 rcases q with q | q
 ·exact h pins s σ H x xs v us Q I rx rs q
 ·exact h' pins s σ H x xs v us Q I rx rs q
theorem AY{r:R2}(hr:IxR X r)(ha:PE X a ta)(hb:PE X b tb)(hs:sY b):PE X (.Subscript a b pos) (AC r ta tb):=by
 intro pins s σ H Q I h
 exact Subscript_ (RC ha hb I h λv u s2 x y H2 I2 rx ry q=>hr a b pins s2 σ H2 x y v u Q I2 rx ry q (hs _ _))
def ZZ(K:W.Frag):R2:=λx y H Q=>∃ p xs i v,x=.ref p/\y=.int i/\SqL K H p xs/\JG xs i=some v/\Q v H
def Z0(K:W.Frag):R2:=λx y H Q=>∃ p xs i v,x=.ref p/\y=.int i/\SqT K H p xs/\JG xs i=some v/\Q v H
def Z1:R2:=λx y H Q=>∃ z i c,x=.str z/\y=.int i/\z.length<=sizeLine/\JG z.cps.toList i=some c/\Q (.str ⟨#[c]⟩) H
theorem sZ:IxR X (ZZ X.K):=by
 intro value slice pins s σ H x y v u Q I rx ry h hs
 obtain⟨p,xs,i,z,rfl,rfl,hq,he,q⟩:=h
 cases rx
 obtain⟨t,rfl⟩:=ry
 obtain⟨its,r,pl,hz⟩:=I.list hq
 obtain⟨j,h1,h2,h3,h4,h5⟩:=RM he
 obtain⟨w,ew,rw'⟩:=r.get h2
 have hl:=r.length
 have hn:=JD
 have fin:EP X pins σ Q w s:=⟨z,H,I,rw',q⟩
 by_cases h0:0<=i
 ·have hj:i.toNat=j:=by
   rw[seqIndex_of h0 h5]at h1
   exact Option.some.inj h1
  exact item_listR pl.isList h0 (by omega) (by rw[hj];simpa using ew) fin hs
 ·have hj:(i+(its.toArray.size:Int)).toNat=j:=by
   rw[seqIndex_neg (by omega) h4]at h1
   rw[List.size_toArray,<-hl]
   exact Option.some.inj h1
  exact subscriptTail_builtinR (x:=w) pl.isList.typeIs slot_list_getitem.lookup
   (wpAny_getItem_list_neg (Q:=λr s'=>r=w/\EP X pins σ Q r s') pl.isList (by omega) (by rw[List.size_toArray]<;>omega) (by omega) (by rw[hj];simpa using ew) ⟨rfl,fin⟩) hs
theorem tD:IxR X (Z0 X.K):=by
 intro value slice pins s σ H x y v u Q I rx ry h hs
 obtain⟨p,xs,i,z,rfl,rfl,hq,he,q⟩:=h
 cases rx
 obtain⟨t,rfl⟩:=ry
 obtain⟨its,r,pl,hz⟩:=I.tuple hq
 obtain⟨j,h1,h2,h3,h4,h5⟩:=RM he
 obtain⟨w,ew,rw'⟩:=r.get h2
 have hl:=r.length
 have hn:=JD
 have fin:EP X pins σ Q w s:=⟨z,H,I,rw',q⟩
 exact subscriptTail_builtinR (x:=w) pl.typeIs slot_tuple_getitem.lookup
  (getItem_tuple (j:=j) (Q:=λr s'=>r=w/\EP X pins σ Q r s') pl (by omega) (by omega) (by rw[List.size_toArray,<-hl];exact h1) (by simpa using ew) ⟨rfl,fin⟩) hs
theorem tE:IxR X Z1:=by
 intro value slice pins s σ H x y v u Q I rx ry h hs
 obtain⟨z,i,c,rfl,rfl,hz,he,q⟩:=h
 obtain⟨t,rfl⟩:=rx
 obtain⟨t',rfl⟩:=ry
 obtain⟨j,h1,h2,h3,h4,h5⟩:=RM he
 have hl:z.cps.toList.length=z.length:=by simp[Str.length]
 rw[hl]at h1 h4 h5
 have hn:=JD
 exact tail_any (typeIs_str s z t) slot_str_getitem.lookup (getItem_str (c:=c) (by
  have e1:decide (i< -(2 ^ 63:Int))=false:=decide_eq_false (by omega)
  have e2:decide (i ≥ 2 ^ 63)=false:=decide_eq_false (by omega)
  rw[e1,e2,Bool.or_false]) (by rw[h1];simpa using h2) ⟨.str ⟨#[c]⟩,H,I.tok _,⟨_,rfl⟩,q⟩) hs
def Z2(K:W.Frag):R2:=λx y H Q=>ZZ K x y H Q\/Z0 K x y H Q\/Z1 x y H Q
theorem tF:IxR X (Z2 X.K):=sZ.or (tD.or tE)
theorem tG(its:List Value)(n j:Nat)(u:Value):Obj.mapSeq (·.setIfInBounds j u) { cls:=.type "list",data:=.seq its.toArray n }={ cls:=.type "list",data:=.seq (its.set j u).toArray n }:=by
 simp[Obj.mapSeq]
theorem Inv.lst{pins:List (Addr × Obj)}{σ:St}{H:Hp}{s:Shared}{p:Addr}{xs:List V}(I:Inv X pins σ H s)(h:H p=some (.lst xs)) :
  ∃ (its:List Value) (n:Nat),Vals xs its/\s.heap.get? p=some { cls:=.type "list",data:=.seq its.toArray n }/\xs.length<=sizeLine:=by
 obtain⟨z,its,n,r,e⟩:=I.hok p _ h
 exact⟨its,n,r,e,z⟩
theorem Inv.lstUpd{pins:List (Addr × Obj)}{σ:St}{H:Hp}{s:Shared}{p:Addr}{xs ys:List V}{its its':List Value}{n n':Nat}{f:Obj->Obj}(I:Inv X pins σ H s)(h:H p=some (.lst xs))
  (ho:s.heap.get? p=some { cls:=.type "list",data:=.seq its.toArray n }) (hf:f { cls:=.type "list",data:=.seq its.toArray n }={ cls:=.type "list",data:=.seq its'.toArray n' }) (r:Vals ys its') (hz:ys.length<=sizeLine) (t:Nat) :
  Inv X pins σ (upd H p (.lst ys)) { s with heap:=s.heap.update p f,toks:=t }:=by
 have e:(s.heap.update p f).get? p=some { cls:=.type "list",data:=.seq its'.toArray n' }:=by
  rw[Heap.get?_update_self f ho (by rw[hf]<;>rfl),hf]
 refine I.write (x:=p) (e:=p) (by rw[h];trivial) (.inl rfl) (λb u hb q=>(Heap.get?_update_other _ _ (Ne.symm hb)).trans q) ⟨_,e⟩ ?_
 exact⟨hz,its',n',r,e⟩
def Z3:V->V->V->Hp->(Hp->Prop)->Prop:=λo i v H Q=>∃ p xs k j,o=.ref p/\i=.int k/\H p=some (.lst xs)/\GU xs.length k=some j/\Q (upd H p (.lst (xs.set j v)))
theorem tH:Q9 X Z3:=by
 intro pins s σ H o i v ov iv u Q I ro ri rv h
 obtain⟨p,xs,k,j,rfl,rfl,hp,hj,q⟩:=h
 cases ro
 obtain⟨t,rfl⟩:=ri
 obtain⟨its,n,r,ho,hz⟩:=I.lst hp
 obtain⟨h1,h2,h3,h4⟩:=ZY hj
 have hl:=r.length
 have hn:=JD
 have I':Inv X pins σ (upd H p (.lst (xs.set j v))) { s with heap:=s.heap.update p (Obj.mapSeq (·.setIfInBounds j u)) } :=
  I.lstUpd hp ho (tG its n j u) (r.set rv j) (by rw[List.length_set];exact hz) s.toks
 by_cases h0:0<=k
 ·have hk:k.toNat=j:=by
   rw[seqIndex_of h0 h4]at h1
   exact Option.some.inj h1
  exact W.ki_setAt ho h0 (by omega) (by rw[List.size_toArray,<-hl];exact h4) (by rw[hk];exact⟨_,I',q⟩)
 ·have hk:(k+(its.toArray.size:Int)).toNat=j:=by
   rw[seqIndex_neg (by omega) h3]at h1
   rw[List.size_toArray,<-hl]
   exact Option.some.inj h1
  exact W.ki_setBack ho (by omega) (by rw[List.size_toArray,<-hl];exact h3) (by omega) (by rw[hk];exact⟨_,I',q⟩)
theorem tI(lo hi:Option Int)(n:Nat):(sliceBounds lo hi none n).1=((HT.sIx n 0 lo:Nat):Int)/\(sliceBounds lo hi none n).2.1=((HT.sIx n n hi:Nat):Int)/\(sliceBounds lo hi none n).2.2=1:=by
 refine⟨?_,?_,rfl⟩
 ·cases lo with
  | none=>simp[sliceBounds,HT.sIx]
  | some i =>
   simp only[sliceBounds,HT.sIx,Option.getD_none,show(1:Int) > 0 by decide,if_true]
   by_cases h:i<0
   ·simp only[h,if_true]<;>omega
   ·simp only[h,if_false]<;>omega
 ·cases hi with
  | none=>simp[sliceBounds,HT.sIx]
  | some i =>
   simp only[sliceBounds,HT.sIx,Option.getD_none,show(1:Int) > 0 by decide,if_true]
   by_cases h:i<0
   ·simp only[h,if_true]<;>omega
   ·simp only[h,if_false]<;>omega
theorem tJ(its:List Value)(lo hi:Option Int):slicePick its.toArray lo hi none=((its.drop (HT.sIx its.length 0 lo)).take (HT.sIx its.length its.length hi - HT.sIx its.length 0 lo)).toArray:=by
 obtain⟨h1,h2,h3⟩:=tI lo hi its.toArray.size
 unfold slicePick
 rw[h1,h2,h3]
 simp only[sliceRange_one,pick_run,List.size_toArray]<;>rfl
def Z4(K:W.Frag):V->Option Int->Option Int->Hp->VK->Prop:=λx lo hi H Q=>∃ a xs,x=.ref a/\SqL K H a xs/\∀ p,H p=none->Q (.ref p) (upd H p (.lst (EJ xs lo hi)))
theorem tK:SlR X (Z4 X.K):=by
 intro pins s σ H x v vl vu lo hi sl Q I rx hs pl pu h
 obtain⟨a,xs,rfl,hx,q⟩:=h
 cases rx
 obtain⟨its,r,ht,hz⟩:=I.list hx
 have hlen:=r.length
 refine⟨"list",_,slot_list_getitem.lookup,ht.isList.typeIs,?_⟩
 refine wpAny_getItem_list_slice ht.isList hs pl pu .none (by simp) ?_ (by rw[List.size_toArray]<;>omega)
 rw[tJ,<-hlen]
 refine⟨.ref s.heap.objs.size,_,I.laid (t':=s.toks) (o:=.lst (EJ xs lo hi)) (λb ob q=>Heap.get?_push_of_some _ q) (Nat.le_refl _) ?_,rfl,q _ (I.hok.fresh (Nat.le_refl _))⟩
 exact⟨Nat.le_trans (ZW xs lo hi) hz,_,0,(r.drop (HT.sIx xs.length 0 lo)).take (HT.sIx xs.length xs.length hi - HT.sIx xs.length 0 lo),Heap.get?_push_size _ rfl⟩
def IC:V->Bool
 | .non=>true
 | .bl _=>true
 | .int _=>true
 | .str _=>true
 | _=>false
def GW:V->V->Bool
 | .non,.non=>true
 | .bl a,.bl b=>a == b
 | .bl a,.int b=>(if a then 1 else 0) == b
 | .int a,.bl b=>a ==(if b then 1 else 0)
 | .int a,.int b=>a == b
 | .str a,.str b=>a == b
 | _,_=>false
theorem tL{A:Around}{s:Shared}{y x:V}{u v:Value}(ry:RelV y u)(rx:RelV x v)(fy:IC y=true)(fx:IC x=true):SeqAt.EqAt A s u v (GW y x):=by
 cases y with
 | non =>
  cases ry
  cases x with
  | non=>cases rx;exact SeqAt.EqAt.same _
  | bl b=>cases rx;exact SeqAt.EqAt.none_bool b
  | int b=>obtain⟨t,rfl⟩:=rx;exact SeqAt.EqAt.none_int b t
  | str b=>obtain⟨t,rfl⟩:=rx;exact SeqAt.EqAt.none_str b t
  | _=>exact absurd (show false=true from fx) Bool.false_ne_true
 | bl a =>
  cases ry
  cases x with
  | non=>cases rx;exact SeqAt.EqAt.bool_none a
  | bl b=>cases rx;exact SeqAt.EqAt.bool_bool a b
  | int b=>obtain⟨t,rfl⟩:=rx;exact SeqAt.EqAt.bool_int a b t
  | str b=>obtain⟨t,rfl⟩:=rx;exact SeqAt.EqAt.bool_str a b t
  | _=>exact absurd (show false=true from fx) Bool.false_ne_true
 | int a =>
  obtain⟨t',rfl⟩:=ry
  cases x with
  | non=>cases rx;exact SeqAt.EqAt.int_none a t'
  | bl b=>cases rx;exact SeqAt.EqAt.int_bool a t' b
  | int b=>obtain⟨t,rfl⟩:=rx;exact SeqAt.EqAt.int_int a t' b t
  | str b=>obtain⟨t,rfl⟩:=rx;exact SeqAt.EqAt.int_str a t' b t
  | _=>exact absurd (show false=true from fx) Bool.false_ne_true
 | str a =>
  obtain⟨t',rfl⟩:=ry
  cases x with
  | non=>cases rx;exact SeqAt.EqAt.str_none a t'
  | bl b=>cases rx;exact SeqAt.EqAt.str_bool a t' b
  | int b=>obtain⟨t,rfl⟩:=rx;exact SeqAt.EqAt.str_int a t' b t
  | str b=>obtain⟨t,rfl⟩:=rx;exact SeqAt.EqAt.str_str a t' b t
  | _=>exact absurd (show false=true from fx) Bool.false_ne_true
 | _=>exact absurd (show false=true from fy) Bool.false_ne_true
def HI(x:V)(u:Value):Bool:=match u with
 | .none=>GW .non x
 | .bool b=>GW (.bl b) x
 | .int i _=>GW (.int i) x
 | .str z _=>GW (.str z) x
 | _=>false
theorem Z5{x y:V}{u:Value}(r:RelV y u)(f:IC y=true):HI x u=GW y x:=by
 cases y with
 | non=>cases r;rfl
 | bl b=>cases r;rfl
 | int i=>obtain⟨t,rfl⟩:=r;rfl
 | str z=>obtain⟨t,rfl⟩:=r;rfl
 | _=>exact absurd (show false=true from f) Bool.false_ne_true
theorem RO{x:V}:∀ {xs:List V} {us:List Value},Vals xs us->xs.all IC=true->us.any (HI x)=xs.any λy=>GW y x
 | _,_,.nil,_=>rfl
 | y::xs,u::us,.cons r t,f=>by
  rw[List.all_cons,Bool.and_eq_true]at f
  rw[List.any_cons,List.any_cons,Z5 r f.1,RO t f.2]
theorem RP{A:Around}{s:Shared}{x:V}{v:Value}(rx:RelV x v)(fx:IC x=true):∀ {xs:List V} {us:List Value},Vals xs us->xs.all IC=true->∀ u∈us,SeqAt.EqAt A s u v (HI x u)
 | _,_,.nil,_=>λu hu=>by cases hu
 | y::xs,u::us,.cons r t,f=>λu' hu=>by
  rw[List.all_cons,Bool.and_eq_true]at f
  rcases List.mem_cons.mp hu with rfl | hu
  ·rw[Z5 r f.1];exact tL r rx f.1 fx
  ·exact RP rx fx t f.2 u' hu
def OX(x:V)(xs:List V):Bool:=xs.any λy=>GW y x
def Z6(K:W.Frag)(neg:Bool):R2:=λx y H Q=>∃ p xs,y=.ref p/\(SqL K H p xs\/SqT K H p xs)/\IC x=true/\xs.all IC=true/\Q (.bl (if neg then !OX x xs else OX x xs)) H
theorem tM:OpR X (compareOp .In) (Z6 X.K false):=by
 intro pins s σ H x y v u Q I rx ry h
 obtain⟨p,xs,rfl,hq,fx,fs,q⟩:=h
 cases ry
 rcases hq with hq | hq
 ·obtain⟨its,r,pl,hz⟩:=I.list hq
  refine SeqAt.in_listAt (HI x) pl.isList (λw hw=>RP rx fx r fs w (by simpa using hw)) ⟨.bl _,H,I,rfl,?_⟩
  rw[show its.toArray.any (HI x)=its.any (HI x) by simp,RO r fs]
  exact q
 ·obtain⟨its,r,pl,hz⟩:=I.tuple hq
  refine SeqAt.in_tupleAt (HI x) pl (λw hw=>RP rx fx r fs w (by simpa using hw)) ⟨.bl _,H,I,rfl,?_⟩
  rw[show its.toArray.any (HI x)=its.any (HI x) by simp,RO r fs]
  exact q
theorem CallR.or{f:Value}{r r':List V->Hp->VK->Prop}(h:CallR X f r)(h':CallR X f r'):CallR X f (λxs H Q=>r xs H Q\/r' xs H Q):=by
 intro pins s σ H xs us Q I rs q
 rcases q with q | q
 ·exact h pins s σ H xs us Q I rs q
 ·exact h' pins s σ H xs us Q I rs q
theorem tN:CallR X (.type "list") (λxs H Q=>∃ p ys,xs=[.ref p]/\(SqL X.K H p ys\/SqT X.K H p ys)/\∀ l,H l=none->Q (.ref l) (upd H l (.lst ys))):=by
 intro pins s σ H xs us Q I r h
 obtain⟨p,ys,rfl,hq,q⟩:=h
 obtain⟨u,rfl,rx⟩:=JE r
 cases rx
 have fin:∀ (its:List Value),Vals ys its->ys.length<=sizeLine->∀ (h':Heap) (c':Nat),(∀ b o',s.heap.get? b=some o'->h'.get? b=some o') →
   h'.get? s.heap.objs.size=some { cls:=.type "list",dict:=none,data:=.seq its.toArray c',slots:= #[] }->EP X pins σ Q (.ref s.heap.objs.size) { s with heap:=h' }:=λits r' hz h' c' kp e =>
  ⟨.ref s.heap.objs.size,_,I.laid (t':=s.toks) kp (Nat.le_refl _) (show ObjOk X.prog X.w _ h' _ (.lst ys)from⟨hz,its,c',r',e⟩),rfl,q _ (I.hok.fresh (Nat.le_refl _))⟩
 rcases hq with hq | hq
 ·obtain⟨its,r',pl,hz⟩:=I.list hq
  have hlen:=r'.length
  obtain⟨o,ho,hc,n,hd⟩:=pl.isList
  exact call_list_seq p (.inl rfl) ho hc hd (λh' c' kp e=>fin its r' hz h' c' kp e) (by simp only[List.size_toArray]<;>omega)
 ·obtain⟨its,r',pl,hz⟩:=I.tuple hq
  have hlen:=r'.length
  obtain⟨o,ho,hc,n,hd⟩:=pl
  exact call_list_seq p (.inr rfl) ho hc hd (λh' c' kp e=>fin its r' hz h' c' kp e) (by simp only[List.size_toArray]<;>omega)
theorem tO:CallR X (.type "tuple") (λxs H Q=>∃ p ys,xs=[.ref p]/\((SqL X.K H p ys/\∀ l,H l=none->Q (.ref l) (upd H l (.tup ys)))\/(SqT X.K H p ys/\Q (.ref p) H))):=by
 intro pins s σ H xs us Q I r h
 obtain⟨p,ys,rfl,h⟩:=h
 obtain⟨u,rfl,rx⟩:=JE r
 cases rx
 rcases h with⟨hq,q⟩ | ⟨hq,q⟩
 ·obtain⟨its,r',pl,hz⟩:=I.list hq
  have hlen:=r'.length
  refine call_tuple_list pl.isList (λh' kp=> ?_) (by simp only[List.size_toArray]<;>omega)
  have I1:Inv X pins σ H { s with heap:=h' }:=I.kept (t':=s.toks) kp
  have I2:Inv X pins σ (upd H h'.objs.size (.tup ys)) { s with heap:=h'.push { cls:=.type "tuple",data:=.seq its.toArray } } :=
   I1.laid (t':=s.toks) (λb o e=>Heap.get?_push_of_some _ e) (Nat.le_refl _) (show ObjOk X.prog X.w _ _ _ (.tup ys)from⟨hz,its,r',IsTup.new _ _⟩)
  exact⟨.ref h'.objs.size,_,I2,rfl,q _ (I1.hok.fresh (Nat.le_refl _))⟩
 ·obtain⟨its,r',pl,hz⟩:=I.tuple hq
  exact call_tuple_same pl ⟨.ref p,H,I,rfl,q⟩
def MD(K:W.Frag)(T:String)(x:V)(H:Hp):Prop:=match x with
 | .str _=>T="str"
 | .int _=>T="int"
 | .ref p=>(T="list"/\∃ xs,SqL K H p xs)\/(T="tuple"/\∃ o,K.lookup p=some o/\o.cls=.type "tuple"/\o.dict=none) ∨
   (T="dict"/\((∃ kvs,H p=some (.dK kvs))\/∃ kvs,H p=some (.dT kvs)))\/(T="set"/\∃ S n,H p=some (.set S n))
 | _=>False
theorem tP{pins:List (Addr × Obj)}{σ:St}{H:Hp}{s:Shared}{T:String}{x:V}{v:Value}(I:Inv X pins σ H s)(r:RelV x v)(ty:MD X.K T x H) :
  s.TypeIs v T/\∀ a,v=.ref a->∃ ob,s.heap.get? a=some ob/\ob.dict=none:=by
 cases x with
 | str z =>
  obtain⟨t,rfl⟩:=r
  cases (show T="str" from ty)
  exact⟨typeIs_str s z t,λ_ e=>nomatch e⟩
 | int i =>
  obtain⟨t,rfl⟩:=r
  cases (show T="int" from ty)
  exact⟨typeIs_int s i t,λ_ e=>nomatch e⟩
 | ref p =>
  cases r
  rcases ty with⟨rfl,xs,hq⟩ | ⟨rfl,o,hk,hc,hd⟩ | ⟨rfl,hk⟩ | ⟨rfl,S,n,hk⟩
  ·obtain⟨its,_,pl,_⟩:=I.list hq
   refine⟨pl.isList.typeIs,λa e=> ?_⟩
   cases e
   obtain⟨o,n,e,c,hd,_⟩:=pl
   exact⟨o,e,hd⟩
  ·refine⟨⟨o,I.kIn p o hk,hc⟩,λa e=> ?_⟩
   cases e
   exact⟨o,I.kIn _ o hk,hd⟩
  ·have z:∃ o,s.heap.get? p=some o/\o.ExactDict:=by
    rcases hk with⟨kvs,hk⟩ | ⟨kvs,hk⟩
    ·obtain⟨_,_,_,_,o,_,_,e,ex,_⟩:=I.hok p _ hk
     exact⟨o,e,ex⟩
    ·obtain⟨_,_,_,_,o,_,_,e,ex,_⟩:=I.hok p _ hk
     exact⟨o,e,ex⟩
   obtain⟨o,e,ex⟩:=z
   refine⟨⟨o,e,ex.1⟩,λa e2=> ?_⟩
   cases e2
   exact⟨o,e,ex.2.1⟩
  ·obtain⟨o,_,_,_,e,ex,_⟩:=I.hok p _ hk
   refine⟨⟨o,e,ex.1⟩,λa e2=> ?_⟩
   cases e2
   exact⟨o,e,ex.2.1⟩
 | _=>exact False.elim ty
def tQ(K:W.Frag)(T:String)(r:V->List V->Hp->VK->Prop)(to:TE):TE:=λσ H Q=>to σ H λx H1=>MD K T x H1/\r x [] H1 Q
def EV(K:W.Frag)(T:String)(r:V->List V->Hp->VK->Prop)(to:TE)(t:TA):TE:=λσ H Q=>to σ H λx H1=>MD K T x H1/\t σ H1 λxs H2=>r x xs H2 Q
variable{o e:Expr}{es:List Expr}{to:TE}{t:TA}{name:Str}{apos cpos:Pos}{T id:String}{r:V->List V->Hp->VK->Prop}
theorem FO(pa:PlainAttrs T)(slot:Slot T name id)(hty:typeOf (.builtin id)=pure (.type "method_descriptor"))(hm:MtR X id r)(ho:PE X o to)(ha:PA X (e::es) t)
  (hbase:attributeBase o name X.env (eval o X.env)=eval o X.env:=by rfl)
  (hfew:((backTo cpos (starEach (e::es) X.env)).all (λx=> !x.1) && (backToKw cpos (keywordEach [] X.env)).all (λx=>x.1.isSome)
   && decide ((e::es).length+([]:List Keyword).length+(if([]:List Keyword).isEmpty then 0 else 1)<30))=true:=by rfl)
  (hline:(apos.endLine == cpos.line)=true:=by rfl) (hs:starEach (e::es) X.env=(false,eval e X.env)::starEach es X.env:=by rfl) (hplain:(backTo cpos (starEach es X.env)).any (·.1)=false:=by rfl) :
  PE X (.Call (.Attribute o name apos) (e::es) [] cpos) (EV X.K T r to t):=by
 intro pins s σ H Q I h
 refine wpAny_Call_method_late hbase hfew hline rfl (AW (ho pins s σ H _ I h) λv s1 ⟨x,H1,I1,r1,ty,q1⟩=> ?_)
 obtain⟨h1,h2⟩:=tP I1 r1 ty
 refine⟨T,id,pa,slot,hty,h1,h2,?_⟩
 have hA:=ha cpos pins s1 σ H1 _ I1 q1
 rw[hs]at hA ⊢
 refine Calls.callWith_builtin (by show(false || (backTo cpos (starEach es X.env)).any (·.1))=false;rw[hplain]<;>rfl) (Calls.evalArgs_plain ?_)
 exact AW hA λus s2 ⟨vs,H2,I2,r2,q2⟩=>hm pins s2 σ H2 x vs v us Q I2 r1 r2 q2
end
end L2
namespace L2
def OY(X:Cx)(id:String)(r:V->List V->Hp->VK->Prop):Prop :=
 ∀ (pins:List (Addr × Obj)) (s:Shared) (σ:St) (H:Hp) (x:V) (xs:List V) (v:Value) (us:List Value) (Q:VK),Inv X pins σ H s->RelV x v->Vals xs us->r x xs H Q →
  wpAny (model X.prog X.w) X.A (call (.builtin id) (v::us)) (EP X pins σ Q) X.xe s
theorem Vals.one:∀ {x:V} {us:List Value},Vals [x] us->∃ u,us=[u]/\RelV x u
 | _,_,.cons r .nil=>⟨_,rfl,r⟩
theorem Vals.two:∀ {x y:V} {us:List Value},Vals [x,y] us->∃ u v,us=[u,v]/\RelV x u/\RelV y v
 | _,_,_,.cons r (.cons q .nil)=>⟨_,_,rfl,r,q⟩
theorem Vals.zero:∀ {us:List Value},Vals [] us->us=[]
 | _,.nil=>rfl
theorem Vals.eraseIdx:∀ {xs:List V} {us:List Value} (i:Nat),Vals xs us->Vals (xs.eraseIdx i) (us.eraseIdx i)
 | _,_,_,.nil=>.nil
 | _,_,0,.cons _ t=>t
 | _,_,i+1,.cons r t=>.cons r (Vals.eraseIdx i t)
theorem Vals.reverse{xs:List V}{us:List Value}(h:Vals xs us):Vals xs.reverse us.reverse:=by
 induction h with
 | nil=>exact .nil
 | cons r t ih=>rw[List.reverse_cons,List.reverse_cons];exact Vals.append ih (.cons r .nil)
theorem Vals.rep{xs:List V}{us:List Value}(h:Vals xs us):∀ k:Nat,Vals (List.replicate k xs).flatten (List.replicate k us).flatten
 | 0=>.nil
 | k+1=>by
  rw[List.replicate_succ,List.replicate_succ,List.flatten_cons,List.flatten_cons]
  exact Vals.append h (Vals.rep h k)
theorem OZ(its:List Value):∀ (k:Nat) (acc:List Value),
  List.foldl (λx1 x2=>x1++x2) acc.toArray (List.replicate k its.toArray)=(acc++(List.replicate k its).flatten).toArray
 | 0,acc=>by simp
 | k+1,acc=>by
  have e:acc.toArray++its.toArray=(acc++its).toArray:=by simp
  have e2:(acc++its)++(List.replicate k its).flatten=acc++(List.replicate (k+1) its).flatten:=by
   rw[List.replicate_succ,List.flatten_cons,List.append_assoc]
  rw[<-e2,<-OZ its k (acc++its),<-e,List.replicate_succ,List.foldl_cons]
section
variable{X:Cx}{pins:List (Addr × Obj)}{σ:St}{H:Hp}{s:Shared}{l b:Addr}{xs ys zs:List V}
theorem Inv.lset{its its':List Value}{n:Nat}{f:Array Value->Array Value}{t':Nat}(I:Inv X pins σ H s)(hH:H l=some (.lst xs))
  (e:s.heap.get? l=some { cls:=.type "list",data:=.seq its.toArray n }) (hf:f its.toArray=its'.toArray) (hv:Vals ys its') (hz:ys.length<=sizeLine) :
  Inv X pins σ (upd H l (.lst ys)) { s with heap:=s.heap.update l (Obj.mapSeq f),toks:=t' }:=by
 have q:=PySem.IsL.update e f
 rw[hf]at q
 refine I.write (x:=l) (e:=l) (by rw[hH];exact trivial) (.inl rfl) (λb' u hb hu=>(Heap.get?_update_other s.heap (Obj.mapSeq f) (Ne.symm hb)).trans hu) ⟨_,q⟩ ?_
 exact⟨hz,its',_,hv,q⟩
theorem Inv.lnew{its:List Value}{t':Nat}(I:Inv X pins σ H s)(hv:Vals ys its)(hz:ys.length<=sizeLine) :
  Inv X pins σ (upd H s.heap.objs.size (.lst ys)) { s with heap:=s.heap.push { cls:=.type "list",data:=.seq its.toArray },toks:=t' } :=
 I.laid (λ_ _ q=>Heap.get?_push_of_some _ q) (Nat.le_refl _) ⟨hz,its,0,hv,Heap.get?_push_size _ rfl⟩
theorem Inv.fresh(I:Inv X pins σ H s):H s.heap.objs.size=none:=I.hok.fresh (Nat.le_refl _)
theorem Inv.lstM(I:Inv X pins σ H s)(hH:H l=some (.lst xs)):xs.length<=sizeLine/\∃ (its:List Value) (n:Nat),Vals xs its/\xs.length=its.length/\s.heap.get? l=some { cls:=.type "list",data:=.seq its.toArray n }:=by
 obtain⟨z,its,n,r,e⟩:=I.hok l _ hH
 exact⟨z,its,n,r,r.length,e⟩
theorem RQ{n:Nat}(h:n<=sizeLine):Builtin.List.listTooLong n=false:=by
 unfold Builtin.List.listTooLong
 exact decide_eq_false (by omega)
end
section
variable{X:Cx}
def RR:V->List V->Hp->VK->Prop:=λx vs H Q=>∃ l xs y,x=.ref l/\vs=[y]/\H l=some (.lst xs)/\xs.length<sizeLine/\Q .non (upd H l (.lst (xs++[y])))
theorem ID:OY X "list.append" RR:=by
 intro pins s σ H x vs v us Q I rx rv h
 obtain⟨l,xs,y,rfl,rfl,hH,hz,q⟩:=h
 cases rx
 obtain⟨u,rfl,ru⟩:=rv.one
 obtain⟨z,its,n,r,hl,e⟩:=I.lstM hH
 refine call_meets F.slot_list_append ⟨_,e,rfl⟩ F.entry_list_append (F.args_list_append_2 _ _) (PySem.list_append l its.toArray n u (by rw[List.size_toArray];omega)) ⟨e,?_⟩
 refine⟨.non,_,I.lset (its':=its++[u]) hH e (by simp) (r.append (.cons ru .nil)) ?_,rfl,q⟩
 rw[List.length_append,List.length_singleton]
 omega
def Z7:V->List V->Hp->VK->Prop:=λx vs H Q=>∃ l b xs zs,x=.ref l/\vs=[.ref b]/\H l=some (.lst xs)/\H b=some (.lst zs)/\xs.length+zs.length<=sizeLine/\Q .non (upd H l (.lst (xs++zs)))
theorem tR:OY X "list.extend" Z7:=by
 intro pins s σ H x vs v us Q I rx rv h
 obtain⟨l,b,xs,zs,rfl,rfl,hH,hB,hz,q⟩:=h
 cases rx
 obtain⟨u,rfl,ru⟩:=rv.one
 cases ru
 obtain⟨z,its,n,r,hl,e⟩:=I.lstM hH
 obtain⟨z2,its2,n2,r2,hl2,e2⟩:=I.lstM hB
 have hsz:its.toArray.size+its2.toArray.size<=sizeLine:=by rw[List.size_toArray,List.size_toArray];omega
 have hlong:¬ (!its.toArray.isEmpty && Builtin.List.listTooLong (its.toArray.size+its2.toArray.size))=true:=by
  rw[RQ hsz,Bool.and_false]
  exact Bool.false_ne_true
 refine call_meets F.slot_list_extend ⟨_,e,rfl⟩ F.entry_list_extend (F.args_list_extend_2 _ _)
  (AutoSeq1.list_extend_list_list_0 l its.toArray n b its2.toArray n2 hlong (by rw[List.size_toArray];omega) (by omega)) ⟨e,e2,?_⟩
 refine⟨.non,_,I.lset (its':=its++its2) hH e (by simp) (r.append r2) ?_,rfl,q⟩
 rw[List.length_append]
 omega
def RS:R2:=λx y H Q=>∃ l b xs zs,x=.ref l/\y=.ref b/\H l=some (.lst xs)/\H b=some (.lst zs)/\xs.length+zs.length<=sizeLine/\∀ p,H p=none->Q (.ref p) (upd H p (.lst (xs++zs)))
theorem tS:OpR X (binaryOp .Add) RS:=by
 intro pins s σ H x y v u Q I rx ry h
 obtain⟨l,b,xs,zs,rfl,rfl,hH,hB,hz,q⟩:=h
 cases rx
 cases ry
 obtain⟨z,its,n,r,hl,e⟩:=I.lstM hH
 obtain⟨z2,its2,n2,r2,hl2,e2⟩:=I.lstM hB
 refine PySem.P.add_list e e2 ?_ (by rw[List.size_toArray,List.size_toArray];omega)
 have ea:its.toArray++its2.toArray=(its++its2).toArray:=by simp
 rw[ea]
 exact⟨.ref _,_,I.lnew (t':=s.toks) (r.append r2) (by rw[List.length_append];omega),rfl,q _ I.fresh⟩
def RU:R2:=λx y H Q=>∃ l k xs,x=.ref l/\y=.int k/\H l=some (.lst xs)/\ -(2 ^ 63)<=k/\k<2 ^ 63/\xs.length * k.toNat<=sizeLine ∧
 ∀ p,H p=none->Q (.ref p) (upd H p (.lst (List.replicate k.toNat xs).flatten))
theorem Z8{α :Type}(xs:List α)(k:Nat):(List.replicate k xs).flatten.length=k * xs.length:=by
 induction k with
 | zero=>simp
 | succ k ih=>rw[List.replicate_succ,List.flatten_cons,List.length_append,ih,Nat.succ_mul,Nat.add_comm]
theorem tT:OpR X (binaryOp .Mult) RU:=by
 intro pins s σ H x y v u Q I rx ry h
 obtain⟨l,k,xs,rfl,rfl,hH,h1,h2,hz,q⟩:=h
 cases rx
 obtain⟨t,rfl⟩:=ry
 obtain⟨z,its,n,r,hl,e⟩:=I.lstM hH
 have hlen:its.toArray.size * k.toNat<=sizeLine:=by rw[List.size_toArray,<-hl];exact hz
 have hcap:¬ its.toArray.size * k.toNat >(2 ^ 63 - 1) / 8:=by
  have:(sizeLine:Nat)<=(2 ^ 63 - 1) / 8:=by decide
  omega
 have hfit:¬ (!Builtin.List.listFitsIndex k)=true:=by
  rw[fitsIndex_both h1 h2]
  exact Bool.false_ne_true
 have hlong:¬ Builtin.List.listTooLong (its.toArray.size * k.toNat)=true:=by
  rw[RQ hlen]
  exact Bool.false_ne_true
 have hnew:List.foldl (λx1 x2=>x1++x2) #[] (List.replicate (if its.toArray.isEmpty=true then 0 else k.toNat) its.toArray)=(List.replicate k.toNat its).flatten.toArray:=by
  have f0:∀ m:Nat,List.foldl (λx1 x2=>x1++x2) #[] (List.replicate m its.toArray)=(List.replicate m its).flatten.toArray:=λm=>by
   have:=OZ its m []
   rw[List.nil_append]at this
   exact this
  rw[f0]
  cases its with
  | nil=>simp
  | cons a r'=>rw[if_neg (by simp)]
 refine wpAny_binaryOp_repeat_ref (T:="list") (U:="int") (by decide) ⟨_,e,rfl⟩ (λs'=>typeIs_int s' k t) noFill_list_mul F.fills_int_mul F.slot_int_rmul repeat_list F.slot_int_index.lookup
  (call_meets F.slot_int_rmul (typeIs_int s k t) F.entry_int_rmul (F.args_int_rmul_2 _ _) (int___rmul___int_list k t l its.toArray n)
   ⟨e,rfl,⟨_,e,rfl⟩,call_meets F.slot_list_mul ⟨_,e,rfl⟩ F.entry_list_mul (F.args_list_mul_2 _ _) (AutoListH.list___mul___list_int_3 l its.toArray n k t hfit hcap hlong) ⟨e,?_⟩⟩)
 rw[hnew]
 exact⟨.ref _,_,I.lnew (t':=s.toks) (r.rep k.toNat) (by rw[Z8,Nat.mul_comm];exact hz),rfl,q _ I.fresh⟩
end
section
variable{prog:Program}{w:World}{A:Around}{E:Value->Shared->Prop}{s:Shared}
set_option maxRecDepth 100000 in
end
section
variable{X:Cx}
end
end L2
namespace L2
section
variable{κ :Type}[DecidableEq κ]
def B8(kvs:List (κ × V))(k: κ):Option V:=(kvs.find? λkv=>decide (kv.1=k)).map (·.2)
def CF(kvs:List (κ × V))(k: κ)(v:V):List (κ × V) :=
 if(kvs.any λkv=>decide (kv.1=k))=true then kvs.map (λkv=>if kv.1=k then(kv.1,v)else kv)else kvs++[(k,v)]
def Z9(kvs:List (κ × V))(k: κ):List (κ × V):=kvs.filter λkv=>decide (kv.1≠k)
theorem GA{p: κ × V}{r:List (κ × V)}{k: κ}(e:p.1=k):B8 (p::r) k=some p.2:=by simp[B8,List.find?_cons,e]
theorem GB{p: κ × V}{r:List (κ × V)}{k: κ}(e:¬ p.1=k):B8 (p::r) k=B8 r k:=by simp[B8,List.find?_cons,e]
theorem KS(k: κ):∀ kvs:List (κ × V),(kvs.any λkv=>decide (kv.1=k))=(B8 kvs k).isSome
 | []=>rfl
 | p::r=>by
  rw[List.any_cons]
  by_cases e:p.1=k
  ·simp only[GA e,decide_eq_true e,Bool.true_or,Option.isSome_some]
  ·rw[GB e,decide_eq_false e,Bool.false_or];exact KS k r
theorem aA(k j: κ)(y:V):∀ kvs:List (κ × V),B8 (kvs.map λkv=>if kv.1=k then(kv.1,y)else kv) j=(B8 kvs j).map λx=>if j=k then y else x
 | []=>rfl
 | p::r=>by
  have ih:=aA k j y r
  rw[List.map_cons]
  by_cases h:p.1=k
  ·rw[if_pos h]
   by_cases e:p.1=j
   ·rw[GA (p:=(p.1,y)) e,GA e,Option.map_some,if_pos (e.symm.trans h)]
   ·rw[GB (p:=(p.1,y)) e,GB e,ih]
  ·rw[if_neg h]
   by_cases e:p.1=j
   ·rw[GA (p:=p) e,GA e,Option.map_some,if_neg (λz=>h (e.trans z))]
   ·rw[GB (p:=p) e,GB e,ih]
theorem aB(k j: κ)(y:V):∀ kvs:List (κ × V),B8 kvs k=none->B8 (kvs++[(k,y)]) j=if j=k then some y else B8 kvs j
 | [],_=>by
  by_cases e:k=j
  ·rw[if_pos e.symm];exact GA (p:=(k,y)) e
  ·rw[if_neg (λz=>e z.symm)];exact GB (p:=(k,y)) e
 | p::r,hn=>by
  rw[List.cons_append]
  have hk:¬ p.1=k:=λz=>by rw[GA z]at hn;cases hn
  rw[GB hk]at hn
  have ih:=aB k j y r hn
  by_cases e:p.1=j
  ·rw[GA e,GA e,if_neg (λz=>hk (e.trans z))]
  ·rw[GB e,GB e,ih]
theorem O0(kvs:List (κ × V))(k j: κ)(y:V):B8 (CF kvs k y) j=if j=k then some y else B8 kvs j:=by
 unfold CF
 by_cases a:(kvs.any λkv=>decide (kv.1=k))=true
 ·rw[if_pos a,aA]
  rw[KS]at a
  by_cases e:j=k
  ·obtain⟨x,hx⟩:=Option.isSome_iff_exists.mp a
   rw[if_pos e,e,hx,Option.map_some,if_pos rfl]
  ·rw[if_neg e]
   cases B8 kvs j with
   | none=>rfl
   | some x=>rw[Option.map_some,if_neg e]
 ·rw[if_neg a]
  refine aB k j y kvs ?_
  rw[KS]at a
  cases q:B8 kvs k with
  | none=>rfl
  | some x=>rw[q]at a;exact(a rfl).elim
theorem ME(kvs:List (κ × V))(k: κ)(v:V):(CF kvs k v).length<=kvs.length+1:=by
 unfold CF
 split
 ·rw[List.length_map];omega
 ·rw[List.length_append,List.length_cons,List.length_nil];omega
theorem aC{kvs:List (κ × V)}{k: κ}(v:V)(h:B8 kvs k=none):CF kvs k v=kvs++[(k,v)]:=by
 unfold CF
 rw[KS,h]
 exact if_neg (by decide)
theorem RelO.isSome_eq{o:Option V}{u:Option Value}(r:RelO o u):o.isSome=u.isSome:=by
 cases o with
 | none=>cases u with
  | none=>rfl
  | some _=>exact(show False from r).elim
 | some _=>cases u with
  | none=>exact(show False from r).elim
  | some _=>rfl
theorem RelO.getD{o:Option V}{u:Option Value}{d:V}{d':Value}(r:RelO o u)(rd:RelV d d'):RelV (o.getD d) (u.getD d'):=by
 cases o with
 | none=>cases u with
  | none=>exact rd
  | some _=>exact(show False from r).elim
 | some _=>cases u with
  | none=>exact(show False from r).elim
  | some _=>exact r
theorem KV.val{kvs:List (κ × V)}{vs:List (κ × Value)}(r:KV kvs vs)(k: κ):RelO (B8 kvs k) (valueAt vs k):=by
 unfold KV at r
 induction r with
 | nil=>exact True.intro
 | @cons p q ps qs h t ih =>
  obtain⟨h1,h2⟩:=h
  by_cases e:p.1=k
  ·have e':q.1=k:=h1.symm.trans e
   have b:valueAt (q::qs) k=some q.2:=by simp[valueAt,List.find?_cons,e']
   rw[GA e,b];exact h2
  ·have e':¬ q.1=k:=λz=>e (h1.trans z)
   have b:valueAt (q::qs) k=valueAt qs k:=by simp[valueAt,List.find?_cons,e']
   rw[GB e,b];exact ih
theorem KV.any{kvs:List (κ × V)}{vs:List (κ × Value)}(r:KV kvs vs)(k: κ):(kvs.any λkv=>decide (kv.1=k))=vs.any λkv=>decide (kv.1=k):=by
 unfold KV at r
 induction r with
 | nil=>rfl
 | cons h t ih=>rw[List.any_cons,List.any_cons,ih,h.1]
theorem KV.repl{kvs:List (κ × V)}{vs:List (κ × Value)}(r:KV kvs vs)(k: κ){y:V}{u:Value}(ry:RelV y u) :
  KV (kvs.map λkv=>if kv.1=k then(kv.1,y)else kv) (vs.map λkv=>if kv.1=k then(kv.1,u)else kv):=by
 unfold KV at r ⊢
 induction r with
 | nil=>exact .nil
 | @cons p q ps qs h t ih =>
  rw[List.map_cons,List.map_cons]
  refine .cons ?_ ih
  obtain⟨h1,h2⟩:=h
  by_cases e:p.1=k
  ·rw[if_pos e,if_pos (h1.symm.trans e)];exact⟨h1,ry⟩
  ·rw[if_neg e,if_neg (λz=>e (h1.trans z))];exact⟨h1,h2⟩
theorem KV.put{kvs:List (κ × V)}{vs:List (κ × Value)}(r:KV kvs vs)(k: κ){y:V}{u:Value}(ry:RelV y u):KV (CF kvs k y) (stored vs k u):=by
 unfold CF stored
 rw[r.any k]
 by_cases e:(vs.any λkv=>decide (kv.1=k))=true
 ·rw[if_pos e,if_pos e];exact r.repl k ry
 ·rw[if_neg e,if_neg e];exact Paired.snoc r ⟨rfl,ry⟩
theorem KV.drop{kvs:List (κ × V)}{vs:List (κ × Value)}(r:KV kvs vs)(k: κ):KV (Z9 kvs k) (without vs k):=by
 unfold KV at r ⊢
 unfold Z9 without
 induction r with
 | nil=>exact .nil
 | @cons p q ps qs h t ih =>
  obtain⟨h1,h2⟩:=h
  rw[List.filter_cons,List.filter_cons]
  by_cases e:p.1=k
  ·have a:¬ decide (p.1≠k)=true:=by simp[e]
   have b:¬ decide (q.1≠k)=true:=by simp[h1.symm.trans e]
   rw[if_neg a,if_neg b];exact ih
  ·have e':¬ q.1=k:=λz=>e (h1.trans z)
   have a:decide (p.1≠k)=true:=by simp[e]
   have b:decide (q.1≠k)=true:=by simp[e']
   rw[if_pos a,if_pos b];exact .cons ⟨h1,h2⟩ ih
theorem KV.keys{kvs:List (κ × V)}{vs:List (κ × Value)}(r:KV kvs vs):kvs.map (·.1)=vs.map (·.1):=by
 unfold KV at r
 induction r with
 | nil=>rfl
 | cons h t ih=>rw[List.map_cons,List.map_cons,ih,h.1]
theorem KV.length{kvs:List (κ × V)}{vs:List (κ × Value)}(r:KV kvs vs):kvs.length=vs.length:=Paired.length r
end
theorem O1{P:Program}{w:World}{k:AX}{u:Value}(r:RelV (kV k) u):(DN P w).is k u=true:=by
 cases k with
 | inl i=>obtain⟨t,e⟩:=(show ∃ t,u=Value.int i t from r);subst e;exact qF P w i t
 | inr x=>obtain⟨t,e⟩:=(show ∃ t,u=Value.str x t from r);subst e;exact qG P w x t
theorem aD{P:Program}{w:World}:∀ {ks:List AX} {us:List Value},Vals (ks.map kV) us->ItemsAre (DN P w) ks us
 | [],_,r=>by rw[List.map_nil]at r;cases r;exact .nil
 | k::ks,_,r=>by
  rw[List.map_cons]at r
  cases r with
  | cons h t=>exact .cons (O1 h) (aD t)
abbrev KT(H:Hp):List (List AX × V)->List (List AX × Addr × Value)->Prop:=Paired λp q=>p.1=q.1/\H q.2.1=some (.tup (p.1.map kV))/\RelV p.2 q.2.2
theorem KT.val{H:Hp}{kvs:List (List AX × V)}{xs:List (List AX × Addr × Value)}(r:KT H kvs xs)(k:List AX):RelO (B8 kvs k) ((atKey xs k).map (·.2)):=by
 induction r with
 | nil=>exact True.intro
 | @cons p q ps qs h t ih =>
  obtain⟨h1,_,h2⟩:=h
  by_cases e:p.1=k
  ·have e':q.1=k:=h1.symm.trans e
   have b:atKey (q::qs) k=some q.2:=by simp[atKey,List.find?_cons,e']
   rw[GA e,b];exact h2
  ·have e':¬ q.1=k:=λz=>e (h1.trans z)
   have b:atKey (q::qs) k=atKey qs k:=by simp[atKey,List.find?_cons,e']
   rw[GB e,b];exact ih
theorem KT.repl{H:Hp}{kvs:List (List AX × V)}{xs:List (List AX × Addr × Value)}(r:KT H kvs xs)(k:List AX){y:V}{u:Value}(ry:RelV y u) :
  KT H (kvs.map λkv=>if kv.1=k then(kv.1,y)else kv) (xs.map (putAt k u)):=by
 induction r with
 | nil=>exact .nil
 | @cons p q ps qs h t ih =>
  rw[List.map_cons,List.map_cons]
  refine .cons ?_ ih
  obtain⟨h1,h2,h3⟩:=h
  unfold putAt
  by_cases e:p.1=k
  ·rw[if_pos e,if_pos (h1.symm.trans e)];exact⟨h1,h2,ry⟩
  ·rw[if_neg e,if_neg (λz=>e (h1.trans z))];exact⟨h1,h2,h3⟩
theorem KT.put{H:Hp}{kvs:List (List AX × V)}{xs:List (List AX × Addr × Value)}(r:KT H kvs xs)(k:List AX){b:Addr}{y:V}{u:Value}(hb:H b=some (.tup (k.map kV)))(ry:RelV y u) :
  KT H (CF kvs k y) (storedH xs k b u):=by
 have e:(kvs.any λkv=>decide (kv.1=k))=(atKey xs k).isSome:=by
  rw[KS,(r.val k).isSome_eq,Option.isSome_map]
 unfold CF storedH
 rw[e]
 by_cases q:(atKey xs k).isSome=true
 ·rw[if_pos q,if_pos q];exact r.repl k ry
 ·rw[if_neg q,if_neg q];exact Paired.snoc r ⟨rfl,hb,ry⟩
theorem KT.keeps{H H':Hp}{kvs:List (List AX × V)}{xs:List (List AX × Addr × Value)}(r:KT H kvs xs)(ht:∀ b ys,H b=some (.tup ys)->H' b=some (.tup ys)):KT H' kvs xs :=
 Paired.mapP r λ_ _ z=>⟨z.1,ht _ _ z.2.1,z.2.2⟩
section
variable{P:Program}{w:World}{H:Hp}{h:Heap}{a:Addr}
theorem aE{u:HO}(ok:HOk P w H h)(e:Rd H a u):ObjOk P w H h a u:=e.ok ok
theorem O2{kvs:List (AX × V)}(ok:HOk P w H h)(e:Rd H a (.dK kvs)):kvs.length<=sizeLine/\(a == sysModules)=false/\∃ vs,KV kvs vs/\h.DictOf (DN P w) a vs :=
 show ObjOk P w H h a (.dK kvs)from aE ok e
theorem tU{kvs:List (AX × V)}(ok:HOk P w H h)(e:H a=some (.dK kvs)):kvs.length<=sizeLine/\(a == sysModules)=false/\∃ vs,KV kvs vs/\h.DictOf (DN P w) a vs:=O2 ok (.inl e)
theorem MF{ks:List AX}(ok:HOk P w H h)(e:H a=some (.tup (ks.map kV))):(tupleKind (DN P w)).is h ks a:=by
 obtain⟨_,its,r,o,h1,h2,n,h3⟩:=(show ObjOk P w H h a (.tup (ks.map kV))from ok a _ e)
 exact⟨o,its.toArray,n,h1,h2,h3,by simpa using aD r⟩
theorem O3{kvs:List (List AX × V)}(ok:HOk P w H h)(e:Rd H a (.dT kvs)):kvs.length<=sizeLine/\(a == sysModules)=false ∧
  ∃ xs,KT H kvs xs/\h.DictOfH (tupleKind (DN P w)) a xs:=by
 obtain⟨z,y,xs,r,o,es,ep,h1,h2,h3,h4,h5⟩:=(show ObjOk P w H h a (.dT kvs)from aE ok e)
 refine⟨z,y,xs,r,o,es,ep,h1,h2,h3,h4,λx hx=> ?_,h5⟩
 have all:∀ {l:List (List AX × V)} {m:List (List AX × Addr × Value)},KT H l m->∀ x∈m,(tupleKind (DN P w)).is h x.1 x.2.1:=by
  intro l m q
  induction q with
  | nil=>intro x hx;exact nomatch hx
  | @cons p q ps qs hq t ih =>
   intro x hx
   rcases List.mem_cons.mp hx with e | hx
   ·subst e
    exact MF ok (by rw[<-hq.1];exact hq.2.1)
   ·exact ih x hx
 exact all r x hx
theorem O4{kvs:List (List AX × V)}(ok:HOk P w H h)(e:H a=some (.dT kvs)):kvs.length<=sizeLine/\(a == sysModules)=false ∧
  ∃ xs,KT H kvs xs/\h.DictOfH (tupleKind (DN P w)) a xs:=O3 ok (.inl e)
end
def DGet(H:Hp)(a:Addr)(y:V)(r:Option V):Prop :=
 (∃ kvs k,Rd H a (.dK kvs)/\y=kV k/\r=B8 kvs k)\/∃ kvs k b,Rd H a (.dT kvs)/\y=.ref b/\H b=some (.tup (k.map kV))/\r=B8 kvs k
def DPut(H:Hp)(a:Addr)(y v:V)(H':Hp):Prop :=
 (∃ kvs k,H a=some (.dK kvs)/\y=kV k/\kvs.length<sizeLine/\H'=upd H a (.dK (CF kvs k v))) ∨
 ∃ kvs k b,H a=some (.dT kvs)/\y=.ref b/\H b=some (.tup (k.map kV))/\kvs.length<sizeLine/\H'=upd H a (.dT (CF kvs k v))
theorem DGet.k{H:Hp}{a:Addr}{kvs:List (AX × V)}{k:AX}(e:H a=some (.dK kvs)):DGet H a (kV k) (B8 kvs k):=.inl ⟨kvs,k,.inl e,rfl,rfl⟩
theorem DGet.t{H:Hp}{a b:Addr}{kvs:List (List AX × V)}{k:List AX}(e:H a=some (.dT kvs))(eb:H b=some (.tup (k.map kV))):DGet H a (.ref b) (B8 kvs k):=.inr ⟨kvs,k,b,.inl e,rfl,eb,rfl⟩
theorem DPut.k{H:Hp}{a:Addr}{kvs:List (AX × V)}{k:AX}{v:V}(e:H a=some (.dK kvs))(hl:kvs.length<sizeLine):DPut H a (kV k) v (upd H a (.dK (CF kvs k v))):=.inl ⟨kvs,k,e,rfl,hl,rfl⟩
theorem DPut.t{H:Hp}{a b:Addr}{kvs:List (List AX × V)}{k:List AX}{v:V}(e:H a=some (.dT kvs))(eb:H b=some (.tup (k.map kV)))(hl:kvs.length<sizeLine) :
  DPut H a (.ref b) v (upd H a (.dT (CF kvs k v))):=.inr ⟨kvs,k,b,e,rfl,eb,hl,rfl⟩
section
variable{X:Cx}{pins:List (Addr × Obj)}{σ:St}{H:Hp}{s:Shared}{a:Addr}{y v:V}{u r:Value}{o:Option V}{A:Around}{E:Value->Shared->Prop}
theorem Inv.big(I:Inv X pins σ H s):sysModules<s.heap.objs.size:=by
 have h:mainGlobals<s.heap.objs.size:=(I.mod.glob.keeps I.bk).lt
 exact Nat.lt_trans (by decide) h
theorem tV{Q:Value->Shared->Prop}(hu:A.units+1<cLine)(I:Inv X pins σ H s)(g:DGet H a y o)(ry:RelV y u)(h:∀ s',Inv X pins σ H s'->Q (.bool o.isSome) s') :
  wpAny (model X.prog X.w) A (compareOp .In u (.ref a)) Q E s:=by
 rcases g with⟨kvs,k,e,ey,l⟩ | ⟨kvs,k,b,e,ey,eb,l⟩
 ·subst ey
  obtain⟨z,hd,vs,rel,dd⟩:=O2 I.hok e
  refine wpAny_in_of (O1 ry) hd dd.mapOf ?_
  rw[<-(rel.val k).isSome_eq,<-l]
  exact h _ (I.tok _)
 ·subst ey
  cases (show u=Value.ref b from ry)
  obtain⟨z,hd,xs,rel,dd⟩:=O3 I.hok e
  refine wpAny_in_heap (tupleKind_room_in1 hu) (MF I.hok eb) hd dd ?_
  have q:=(rel.val k).isSome_eq
  rw[Option.isSome_map]at q
  rw[<-q,<-l]
  exact h _ (I.tok _)
theorem O5{h':Heap}{t':Nat}{ob:HO}(I:Inv X pins σ H s)(mu:LY (H a))(hs:Heap.SameBut a s.heap h')(he:∃ q,h'.get? a=some q)(new:ObjOk X.prog X.w (upd H a ob) h' a ob) :
  Inv X pins σ (upd H a ob) { s with heap:=h',toks:=t' } :=
 I.write (x:=a) (e:=a) mu (.inl rfl) (λb q hb z=>(hs.2 b hb).trans z) he new
theorem tW{P:Program}{w:World}{H':Hp}{h':Heap}{kvs:List (AX × V)}{vs:List (AX × Value)}(z:kvs.length<=sizeLine)(hd:(a == sysModules)=false)(rel:KV kvs vs)(dd:h'.DictOf (DN P w) a vs) :
  ObjOk P w H' h' a (.dK kvs):=⟨z,hd,vs,rel,dd⟩
theorem tX{H':Hp}{Q:Unit->Shared->Prop}(hu:A.units+1<cLine)(I:Inv X pins σ H s)(g:DPut H a y v H')(ry:RelV y u)(rv:RelV v r)(h:∀ s',Inv X pins σ H' s'->Q () s') :
  wpAny (model X.prog X.w) A (setItem (.ref a) u r) Q E s:=by
 rcases g with⟨kvs,k,e,ey,l,eH⟩ | ⟨kvs,k,b,e,ey,eb,l,eH⟩
 ·subst ey eH
  obtain⟨z,hd,vs,rel,dd⟩:=tU I.hok e
  have hz:vs.length<=sizeLine:=by rw[<-rel.length];exact z
  have hl:(CF kvs k v).length<=sizeLine:=by have:=ME kvs k v;omega
  refine wpAny_setItem_pairs (hsz:=hz) (O1 ry) dd λh' dd' hs=>h _ ?_
  have he:∃ q,h'.get? a=some q:=let ⟨q,_,_,hq,_⟩:=dd';⟨q,hq⟩
  exact O5 I (by rw[e];exact True.intro) hs he (tW hl hd (rel.put k rv) dd')
 ·subst ey eH
  cases (show u=Value.ref b from ry)
  obtain⟨z,hd,xs,rel,dd⟩:=O4 I.hok e
  have hz:xs.length<=sizeLine:=by rw[<-Paired.length rel];exact z
  have hl:(CF kvs k v).length<=sizeLine:=by have:=ME kvs k v;omega
  refine wpAny_setItem_heap (hsz:=hz) (tupleKind_room_in1 hu) (MF I.hok eb) dd λh' dd' hs=>h _ ?_
  obtain⟨q,es,ep,hq,h2,h3,h4,_,h5⟩:=dd'
  refine O5 I (by rw[e];exact True.intro) hs ⟨q,hq⟩ ⟨hl,hd,_,(rel.put k eb rv).keeps λc ys ec=> ?_,q,es,ep,hq,h2,h3,h4,h5⟩
  rw[AQ (DA ec e (λz=>nomatch z))]
  exact ec
end
section
variable{X:Cx}{pins:List (Addr × Obj)}{σ:St}{H:Hp}{s:Shared}{a:Addr}{kvs:List (AX × V)}{k:AX}{u:Value}{A:Around}{E:Value->Shared->Prop}
end
def tY(td ty:TE):TE:=λσ H Q=>td σ H λx H1=>ty σ H1 λy H2=>∃ a v,x=.ref a/\DGet H2 a y (some v)/\Q v H2
def RV(ty td:TE):TE:=λσ H Q=>ty σ H λy H1=>td σ H1 λx H2=>∃ a o,x=.ref a/\DGet H2 a y o/\Q (.bl o.isSome) H2
def tZ(ty td:TE):TE:=λσ H Q=>ty σ H λy H1=>td σ H1 λx H2=>∃ a o,x=.ref a/\DGet H2 a y o/\Q (.bl (!o.isSome)) H2
def RW(td ty tv:TE):TS:=λD σ H=>tv σ H λv H1=>td σ H1 λx H2=>ty σ H2 λy H3=>∃ a H4,x=.ref a/\DPut H3 a y v H4/\D.nx σ H4
section
variable{X:Cx}{o i e value:Expr}{pos pos' tpos:Pos}{td ty tv:TE}
theorem t0(hu:X.A.units+1<cLine)(hi:PE X i ty)(ho:PE X o td):PC X .In i o (RV ty td):=by
 intro pins s σ H Q I h
 refine AW (hi pins s σ H _ I h) λiv s1 ⟨y,H1,I1,ry,q1⟩=>AW (ho pins s1 σ H1 _ I1 q1) λu s2 ⟨x,H2,I2,rx,a,ov,ex,g,q2⟩=> ?_
 subst ex
 obtain rfl:u=Value.ref a:=rx
 exact tV hu I2 g ry λs3 I3=>⟨.bl ov.isSome,H2,I3,rfl,q2⟩
theorem t5(hu:X.A.units+1<cLine)(ho:PE X o td)(hi:PE X i ty)(hv:PE X value tv)(hs:swapsWith value (some (.Subscript o i pos')) pos.line X.env=pure false) :
  PS X (.Assign [.Subscript o i pos'] value pos) (RW td ty tv):=by
 intro pins s σ H D I h
 refine wpAny_Assign_Subscript (AW (hv pins s σ H _ I h) λr s1 ⟨v,H1,I1,rv,q1⟩=>AW (ho pins s1 σ H1 _ I1 q1) λu s2 ⟨x,H2,I2,rx,q2⟩=>AW (hi pins s2 σ H2 _ I2 q2) λiv s3 ⟨y,H3,I3,ry,a,H4,ex,g,q3⟩=> ?_) hs
 subst ex
 obtain rfl:u=Value.ref a:=rx
 exact tX hu I3 g ry rv λs4 I4=>⟨σ,H4,I4,q3⟩
end
theorem t7{P:Program}{w:World}{H:Hp}(h:Heap)(hb:sysModules<h.objs.size):ObjOk P w H (h.push { cls:=.type "dict",data:=.dict #[] }) h.objs.size (.dK []) :=
 ⟨Nat.zero_le _,beq_eq_false_iff_ne.mpr (Ne.symm (Nat.ne_of_lt hb)),[],.nil,Heap.DictOf.new h⟩
theorem aF{P:Program}{w:World}{H:Hp}(h:Heap)(hb:sysModules<h.objs.size):ObjOk P w H (h.push { cls:=.type "dict",data:=.dict #[] }) h.objs.size (.dT []) :=
 ⟨Nat.zero_le _,beq_eq_false_iff_ne.mpr (Ne.symm (Nat.ne_of_lt hb)),[],.nil,_,#[],0,Heap.get?_push_size _ rfl,⟨rfl,rfl,rfl⟩,rfl,rfl,List.nodup_nil⟩
def RX:TE:=λ_ H Q=>∀ p,H p=none->Q (.ref p) (upd H p (.dK []))
def RY:TE:=λ_ H Q=>∀ p,H p=none->Q (.ref p) (upd H p (.dT []))
section
variable{X:Cx}{pos:Pos}
theorem t9:PE X (.Dict [] [] pos) RX:=λpins s σ H Q I h =>
 wpAny_Dict_empty ⟨.ref s.heap.objs.size,_,I.laid (a:=s.heap.objs.size) (o:=.dK []) (t':=s.toks) (λ_ _ q=>Heap.get?_push_of_some _ q) (Nat.le_refl _) (t7 s.heap I.big),rfl,h _ (I.hok.fresh (Nat.le_refl _))⟩
theorem uA:PE X (.Dict [] [] pos) RY:=λpins s σ H Q I h =>
 wpAny_Dict_empty ⟨.ref s.heap.objs.size,_,I.laid (a:=s.heap.objs.size) (o:=.dT []) (t':=s.toks) (λ_ _ q=>Heap.get?_push_of_some _ q) (Nat.le_refl _) (aF s.heap I.big),rfl,h _ (I.hok.fresh (Nat.le_refl _))⟩
end
def JH:List (TE × TE)->St->Hp->(List (V × V)->Hp->Prop)->Prop
 | [],_,H,Q=>Q [] H
 | (tk,tv)::r,σ,H,Q=>tk σ H λx H1=>tv σ H1 λy H2=>JH r σ H2 λps H3=>Q ((x,y)::ps) H3
abbrev VV:List (V × V)->List (Value × Value)->Prop:=Paired λp q=>RelV p.1 q.1/\RelV p.2 q.2
def O6(X:Cx)(pos:Pos)(keys:List (Option Expr))(values:List Expr)(trs:List (TE × TE)):Prop :=
 ∀ (pins:List (Addr × Obj)) (s:Shared) (σ:St) (H:Hp) (Q:List (V × V)->Hp->Prop),Inv X pins σ H s->JH trs σ H Q →
  wpAny (model X.prog X.w) X.A (evalPairs (pairTrees keys values X.env pos)) (λvs s'=>∃ ps H',Inv X pins σ H' s'/\VV ps vs/\Q ps H') X.xe s
theorem O7{X:Cx}{pos:Pos}:O6 X pos [] [] []:=λpins s σ H Q I h=>pairTrees_nil_walk ⟨[],H,I,.nil,h⟩
theorem MG{X:Cx}{pos:Pos}{k v:Expr}{ks:List (Option Expr)}{vs:List Expr}{tk tv:TE}{trs:List (TE × TE)}(hk:PE X k tk)(hv:PE X v tv)(hr:O6 X pos ks vs trs) :
  O6 X pos (some k::ks) (v::vs) ((tk,tv)::trs):=λpins s σ H Q I h =>
 pairTrees_cons_walk (AW (hk pins s σ H _ I h) λu s1 ⟨x,H1,I1,rx,q1⟩=>AW (hv pins s1 σ H1 _ I1 q1) λw2 s2 ⟨y,H2,I2,ry,q2⟩ =>
  AW (hr pins s2 σ H2 _ I2 q2) λws s3 ⟨ps,H3,I3,rel,q3⟩=>⟨(x,y)::ps,H3,I3,.cons ⟨rx,ry⟩ rel,q3⟩)
def uB(kvs more:List (AX × V)):List (AX × V):=more.foldl (λacc kv=>CF acc kv.1 kv.2) kvs
theorem KV.merge:∀ {more:List (AX × V)} {rs:List (AX × Value)} {kvs:List (AX × V)} {vs:List (AX × Value)},KV more rs->KV kvs vs->KV (uB kvs more) (merged vs rs):=by
 intro more rs kvs vs r
 unfold KV at r
 induction r generalizing kvs vs with
 | nil=>intro q;exact q
 | @cons p q ps qs h t ih =>
  intro r0
  have e:KV (CF kvs p.1 p.2) (stored vs q.1 q.2):=by
   have:=r0.put p.1 h.2
   rw[<-h.1];exact this
  exact ih e
structure M1(X:Cx)(o:Expr)(m:Str)(apos:Pos)(e:Expr)(cpos:Pos):Prop where
 base:attributeBase o m X.env (eval o X.env)=eval o X.env
 few:((backTo cpos (starEach [e] X.env)).all (λx=> !x.1) && (backToKw cpos (keywordEach [] X.env)).all (λx=>x.1.isSome)
  && decide (([e]:List Expr).length+([]:List Keyword).length+(if([]:List Keyword).isEmpty then 0 else 1)<30))=true
 line:(apos.endLine == cpos.line)=true
 trees:backTo cpos (starEach [e] X.env)=[(false,eval e X.env)]
structure M2(X:Cx)(o:Expr)(m:Str)(apos:Pos)(e f:Expr)(cpos:Pos):Prop where
 base:attributeBase o m X.env (eval o X.env)=eval o X.env
 few:((backTo cpos (starEach [e,f] X.env)).all (λx=> !x.1) && (backToKw cpos (keywordEach [] X.env)).all (λx=>x.1.isSome)
  && decide (([e,f]:List Expr).length+([]:List Keyword).length+(if([]:List Keyword).isEmpty then 0 else 1)<30))=true
 line:(apos.endLine == cpos.line)=true
 trees:backTo cpos (starEach [e,f] X.env)=[(false,eval e X.env),(false,eval f X.env)]
def MH(H:Hp)(a:Addr):Prop:=(∃ kvs,Rd H a (.dK kvs))\/∃ kvs,Rd H a (.dT kvs)
theorem uC{X:Cx}{pins:List (Addr × Obj)}{σ:St}{H:Hp}{s:Shared}{a:Addr}(I:Inv X pins σ H s)(d:MH H a) :
  s.TypeIs (.ref a) "dict"/\(∀ b,Value.ref a=.ref b->∃ ob,s.heap.get? b=some ob/\ob.dict=none)/\(a == sysModules)=false:=by
 rcases d with⟨kvs,e⟩ | ⟨kvs,e⟩
 ·obtain⟨_,hd,vs,_,dd⟩:=O2 I.hok e
  refine⟨dd.typeIs,λb q=> ?_,hd⟩
  cases q
  obtain⟨ob,_,_,h1,h2,_⟩:=dd
  exact⟨ob,h1,h2.2.1⟩
 ·obtain⟨_,hd,xs,_,dd⟩:=O3 I.hok e
  refine⟨dd.typeIs,λb q=> ?_,hd⟩
  cases q
  obtain⟨ob,_,_,h1,h2,_⟩:=dd
  exact⟨ob,h1,h2.2.1⟩
section
variable{X:Cx}{pins:List (Addr × Obj)}{σ:St}{H:Hp}{s:Shared}{a:Addr}{y d:V}{u r:Value}{o:Option V}{A:Around}{E:Value->Shared->Prop}
theorem uD{Q:Value->Shared->Prop}(hu:A.units+1<cLine)(I:Inv X pins σ H s)(g:DGet H a y o)(ry:RelV y u)(rd:RelV d r)(h:∀ w' s',Inv X pins σ H s'->RelV (o.getD d) w'->Q w' s') :
  wpAny (model X.prog X.w) A (call (.builtin "dict.get") [.ref a,u,r]) Q E s:=by
 rcases g with⟨kvs,k,e,ey,l⟩ | ⟨kvs,k,b,e,ey,eb,l⟩
 ·subst ey
  obtain⟨z,hd,vs,rel,dd⟩:=O2 I.hok e
  refine call_meetsIn PySem.F.slot_dict_get dd.typeIs PySem.F.entry_dict_get (PySem.F.args_dict_get_3 _ _ _) (meets_dict_get_default (DN X.prog X.w) a (O1 ry) hd r) ⟨_,dd.mapOf,h _ _ (I.tok _) ?_⟩
  rw[l]
  exact(rel.val k).getD rd
 ·subst ey
  cases (show u=Value.ref b from ry)
  obtain⟨z,hd,xs,rel,dd⟩:=O3 I.hok e
  refine call_meetsIn PySem.F.slot_dict_get dd.typeIs PySem.F.entry_dict_get (PySem.F.args_dict_get_3 _ _ _) (meetsH_dict_get_default (tupleKind (DN X.prog X.w)) a b hd r) ⟨tupleKind_room_in1 hu,k,xs,MF I.hok eb,dd,h _ _ (I.tok _) ?_⟩
  rw[l]
  exact(rel.val k).getD rd
end
def uE(td ty:TE):TE:=λσ H Q=>td σ H λx H1=>∃ a,x=.ref a/\MH H1 a/\ty σ H1 λy H2=>∃ o,DGet H2 a y o/\Q (o.getD .non) H2
def RZ(td ty tx:TE):TE:=λσ H Q=>td σ H λx H1=>∃ a,x=.ref a/\MH H1 a/\ty σ H1 λy H2=>tx σ H2 λz H3=>∃ o,DGet H3 a y o/\Q (o.getD z) H3
section
variable{X:Cx}{o e f:Expr}{apos cpos:Pos}{td ty tx:TE}
theorem uF(hu:X.A.units+1<cLine)(ho:PE X o td)(he:PE X e ty)(hf:PE X f tx)(m:M2 X o "get" apos e f cpos):PE X (.Call (.Attribute o "get" apos) [e,f] [] cpos) (RZ td ty tx):=by
 intro pins s σ H Q I h
 refine wpAny_Call_method m.base m.few m.line PySem.F.plainAttrs_dict PySem.F.slot_dict_get PySem.F.type_dict_get (AW (ho pins s σ H _ I h) λu s1 ⟨x,H1,I1,rx,a,ex,d,q1⟩=> ?_)
 subst ex
 obtain rfl:u=Value.ref a:=rx
 obtain⟨t1,t2,_⟩:=uC I1 d
 refine⟨t1,t2,?_⟩
 rw[m.trees]
 refine Calls.callWith_builtin rfl (Calls.evalArgs_plain (Calls.spliced_cons (AW (he pins s1 σ H1 _ I1 q1) λiv s2 ⟨y,H2,I2,ry,q2⟩ =>
  Calls.spliced_cons (AW (hf pins s2 σ H2 _ I2 q2) λfv s3 ⟨z,H3,I3,rz,ov,g,q3⟩=>Calls.spliced_nil ?_))))
 exact uD hu I3 g ry rz λw' s4 I4 rw'=>⟨_,H3,I4,rw',q3⟩
end
section
variable{X:Cx}{pins:List (Addr × Obj)}{σ:St}{H:Hp}{s:Shared}{a:Addr}{kvs:List (AX × V)}{A:Around}{E:Value->Shared->Prop}
end
section
variable{X:Cx}{pins:List (Addr × Obj)}{σ:St}{H:Hp}{s:Shared}{a:Addr}{y:V}{u:Value}{A:Around}{E:Value->Shared->Prop}
end
end L2
namespace Att
open PySem PySem.W PySem.Calls PyProof.Rows
theorem uG{P:Params}{h:Heap}:∀ (ns:List Int) (vs:List Value),WellAll P h vs (ns.map WData.int)->IntsAre vs ns:=by
 intro ns
 induction ns with
 | nil =>
  intro vs w
  rw[List.map_nil]at w
  cases w
  exact .nil
 | cons n ns ih =>
  intro vs w
  rw[List.map_cons]at w
  cases w with
  | cons a b =>
   cases a
   exact .cons _ _ (ih _ b)
theorem uH{l:OpenLaw}{n:Nat}(hn:l.most=some n){P:Params}{h:Heap}{args:List WData}{vals:List Value}
  (hpre:l.row.toRowW.claim.pre args=true) (hwl:WellAll P h vals args) :
  ∃ a vs ns,vals=[Value.ref a]/\args=[WData.list (ns.map WData.int)]/\h.get? a=some { cls:=.type "list",data:=.seq vs.toArray }/\IntsAre vs ns/\ns.length<=n:=by
 have hsh:WShape.hasAll [] args [.list .int]=true:=(pre_splitW hpre).1
 have hc:l.pre.holds [] { args:=args }=true:=(pre_splitW hpre).2
 obtain⟨d,r,rfl,h1,h2⟩:=hasAllW_cons hsh
 obtain rfl:=hasAllW_nil h2
 obtain⟨xs,rfl,h3⟩:=hasW_list h1
 obtain⟨ns,rfl⟩:=items_int h3
 have hlen:ns.length<=n:=by
  unfold OpenLaw.pre at hc
  have h4:(WTm.not (.lt (.lit (.int (n:Int))) (.len (.arg 0)))).holds [] { args:=[.list (ns.map .int)] }=true:=by
   have h4:=(holds_andW hc).1
   rw[hn]at h4
   exact h4
  have h5:=condW_of h4 (w_not (w_lt w_lit (w_len_list (w_arg rfl))))
  rw[List.length_map]at h5
  refine Nat.le_of_not_lt λq=> ?_
  have q':(n:Int)<((ns.length:Nat):Int):=by omega
  first
   | (rw[decide_eq_true q']at h5;exact absurd h5 (by decide))
   | (simp at h5;omega)
 cases hwl with
 | cons w1 w2 =>
  cases w2
  cases w1 with
  | list ho hall=>exact⟨_,_,ns,rfl,rfl,ho,uG ns _ hall,hlen⟩
theorem uI(l:OpenLaw)(args:List WData):l.row.toRowW.claim.post args (.bool true) args=true :=
 postW_of (r:=l.row.toRowW) (X:=(true == true))
  (show WShape.has [] (.bool true) .bool=true by first | rfl | decide | simp[WShape.has,WShape.arms,WShape.armsAll])
  (show(WTm.eq .res (.lit (.bool true))).value [] { args:=args,res:=some (.bool true),after:=args }=some (.bool (true == true))from w_eq_bool (w_res rfl) w_lit) rfl
theorem attach_call{l:OpenLaw}{n:Nat}{q:Program}{loose:List Str}{XP:(Str->Option Value)->Heap->Prop}{YP:World->Heap->Prop}{d:DefRec}
  (hn:l.most=some n) (hdf:d.params.defaults=[])
  (call:∀ (w:World) (s₀ s₁:Shared) (mg mb:Str->Option Value) (fa:Addr) (o:Obj) (pm cd doc:Value) (a:Addr) (vs:List Value) (ns:List Int),
   Ground q loose [] XP w s₀ mg mb s₁.heap->YP w s₁.heap →
   s₁.heap.get? fa=some o->o.data=.func (docDef d.name d.params d.body d.scope pm cd doc)->s₁.heap.CodeRec cd d.name->mg d.name=some (.ref fa) →
   s₁.heap.get? a=some { cls:=.type "list",data:=.seq vs.toArray }->IntsAre vs ns->ns.length<=n->s₁.gens= #[] →
   codeAny (model l.prog w) callerA (.call (.ref fa) ⟨[.ref a],[]⟩) (λr s'=>r=.ok (.ret (.bool true))/\OldK s₁.heap s'.heap/\s'.os=s₁.os/\AllBare s'.gens) s₁) :
  WalkO q loose XP YP l.row.toRowW d [] (λf vs=>PySem.call f vs):=by
 intro w s₀ s₁ mg mb G Y fa o pm cd doc dV kV ho hd hcd hD hmg hg args vals as hpre hlay hrd hwl hlo
 obtain rfl:dV=.none:=Dflts.none hD hdf
 obtain rfl:kV=.none:=Dflts.noKw hD
 obtain⟨a,vs,ns,rfl,rfl,hobj,hints,hlen⟩:=uH hn hpre hwl
 refine enter_call (codeAny_mono (call w s₀ s₁ mg mb fa o pm cd doc a vs ns G Y ho (fd_plain hd) hcd hmg hobj hints hlen hg) λr s' hq=> ?_)
 obtain⟨rfl,h2,h3,h4⟩:=hq
 exact⟨.inl ⟨.bool true,.bool true,[],rfl,λ_=>rfl,.bool true,uI l _,λ_=>⟨List.Pairwise.nil,λ_ hm=>(nomatch hm)⟩⟩,h2,h3,h4⟩
section
variable{prog:Program}{w:World}{A:Around}{E:Value->Shared->Prop}{s:Shared}{K:Frag}
def zit(h:Heap)(L d:Addr):List (Addr × Obj):=(List.range h.objs.size).filterMap λa=>if a=L\/a=d then none else(h.get? a).map λo=>(a,o)
end
end Att
namespace L2
theorem R0:∀ {vs:List Value} {ns:List Int},IntsAre vs ns->Vals (ns.map V.int) vs
 | _,_,.nil=>.nil
 | _,_,.cons n t h=>.cons ⟨t,rfl⟩ (R0 h)
def R3(H:Hp):Prop:=∀ b,H b=none\/∃ o xs,H b=some (.frz o (.lst xs))
theorem uJ {P:Program} {w:World} {K:W.Frag} {mg mb:Str->Option Value} {CX:EU} {k:Nat} {fa a:Addr} {fd:FuncData} {x:Str} {sp:Sp} {s₁:Shared} {vs:List Value} {ns:List Int}
    (KX:K.In s₁.heap) (hns:s₁.heap.Ns mainGlobals mg) (hb:s₁.heap.Ns builtinsNs mb) (hbb:∀ x:Str,x≠"__name__"->mb x=bootBuiltins x) (hlim:s₁.heap.NoLimit) (hg:s₁.gens= #[])
    (ha:s₁.heap.get? a=some { cls:=.type "list",data:=.seq vs.toArray }) (hi:IntsAre vs ns) (hl:ns.length<=sizeLine) (hr:Room k callerA)
    (F:∀ base:Heap,K.In base->base.Ns mainGlobals mg->FnOk P w K mg base CX k fa fd [x] sp) (hbind:∀ (s:Shared) (u:Value),BindsTo s fd ⟨[u],[]⟩ [(x,u)])
    (hsp:∀ H:Hp,R3 H->SqL K H a (ns.map V.int)->sp [.ref a] H (λv _=>v=.bl true) λ_ _ _=>False)
    (hCX:∀ H e s',CX [] H s₁ (λ_ _ _=>False) e s'->False) :
    codeAny (model P w) callerA (.call (.ref fa) ⟨[.ref a],[]⟩) (λr s'=>r=.ok (.ret (.bool true))/\OldK s₁.heap s'.heap/\s'.os=s₁.os/\AllBare s'.gens) s₁:=by
  have rv:=R0 hi
  have lenV:=hi.length
  have core:∀ H:Hp,R3 H->SqL K H a (ns.map V.int)->HOk P w H s₁.heap->(∀ b,H b≠none->b=a)->(H a≠none->K.lookup a=none) →
      codeAny (model P w) callerA (.call (.ref fa) ⟨[.ref a],[]⟩) (λr s'=>r=.ok (.ret (.bool true))/\OldK s₁.heap s'.heap/\s'.os=s₁.os/\AllBare s'.gens) s₁:=by
    intro H hO hS hok hA hK
    have base_of:∀ {b:Addr} {o:Obj},s₁.heap.get? b=some o->H b=none->(HB s₁.heap H).get? b=some o:=λe n=>qI e n
    have noA:∀ {b:Addr} {o:Obj} {es:Array DictEntry} {ep:Nat},s₁.heap.get? b=some o->o.data=.dict es ep->H b=none:=λ{b o es ep} e d=>by
      cases q:H b with
      | none=>rfl
      | some u =>
        have e':b=a:=hA b (by rw[q];simp)
        subst e'
        rw[ha]at e;cases e
        have d':Data.seq vs.toArray _=Data.dict es ep:=d
        cases d'
    have nsK:∀ {b:Addr} {m:Str->Option Value},s₁.heap.Ns b m->(HB s₁.heap H).Ns b m:=λ{b m} ⟨o,es,ep,e,d,r⟩=>⟨o,es,ep,base_of e (noA e d),d,r⟩
    have hKb:K.In (HB s₁.heap H):=λb o e=>base_of (KX b o e) (by
      cases q:H b with
      | none=>rfl
      | some u =>
        have e':b=a:=hA b (by rw[q];simp)
        subst e'
        rw[hK (by rw[q];simp)]at e;cases e)
    have hM:Mod K mg (HB s₁.heap H):=⟨hKb,nsK hns,⟨mb,nsK hb,hbb⟩,let ⟨mc,h1,h2⟩:=hlim;⟨mc,nsK h1,h2⟩⟩
    have e0:Env0 P w K mg (HB s₁.heap H) callerA [] s₁ H:=⟨rfl,hM,λb o e=>qJ e,Nat.le_of_eq (qH _ _),trivial,λb hb=>absurd (show b∈([]:List Addr)from hb) (by simp),hok,.of_eq hg⟩
    refine codeAny_mono ((F _ hKb (nsK hns)).run callerA [] s₁ H ⟨[.ref a],[]⟩ [.ref a] [.ref a] _ _ hr e0 (hbind s₁ (.ref a)) (.cons rfl .nil) (hsp H hO hS)) λr s' h=> ?_
    cases r with
    | error e=>exact(hCX H e s' h).elim
    | ok fl =>
      cases fl with
      | next=>exact False.elim h
      | brk=>exact False.elim h
      | cont=>exact False.elim h
      | ret u =>
        obtain⟨v,H',os,bare,un,hok',r',q⟩:=h
        have q':v=.bl true:=q
        subst q'
        obtain rfl:u=Value.bool true:=r'
        refine⟨rfl,OldK.of_keep λb o e=> ?_,os,bare⟩
        cases q:H b with
        | none=>exact un.keep b o e q (by intro z;exact absurd (show b∈([]:List Addr)from z) (by simp)) (by simp)
        | some u =>
          rcases hO b with z | ⟨ob,xs,z⟩
          ·rw[q]at z;cases z
          · have z2:=un.frzs b ob _ z
            obtain⟨e1,_⟩:=hok b _ z
            obtain⟨e2,_⟩:=hok' b _ z2
            rw[e]at e1;cases e1
            exact e2
  cases hk:K.lookup a with
  | some o =>
    have e:=KX a o hk
    rw[ha]at e
    cases e
    refine core (λ_=>none) (λ_=>.inl rfl) (.inr ⟨_,vs.toArray,_,hk,rfl,rfl,rfl,by rw[List.size_toArray,lenV];exact hl,by simpa using rv⟩) (λb u z=>by have z':(none:Option HO)=some u:=z;cases z') (λb z=>absurd rfl z) λz=>absurd rfl z
  | none =>
    refine core (λb=>if b=a then some (.frz { cls:=.type "list",data:=.seq vs.toArray } (.lst (ns.map V.int)))else none) (λb=> ?_) (.inl (.inr ⟨{ cls:=.type "list",data:=.seq vs.toArray },if_pos rfl⟩)) (λb u z=> ?_) (λb z=> ?_) λ_=>hk
    · by_cases hb:b=a
      ·exact .inr ⟨_,_,if_pos hb⟩
      ·exact .inl (if_neg hb)
    · by_cases hb:b=a
      · have z':=(if_pos hb).symm.trans z
        cases z'
        subst hb
        exact⟨ha,by rw[List.length_map];exact hl,vs,_,rv,ha⟩
      · have z':=(if_neg hb).symm.trans z
        cases z'
    · by_cases hb:b=a
      ·exact hb
      ·exact absurd (if_neg hb) z
end L2
namespace L2
abbrev KOf{K:W.Frag}{h:Heap}(_:K.In h):W.Frag:=K
theorem walk_of{l:W.OpenLaw}{n k:Nat}{q:Program}{loose:List Str}{XP:(Str->Option Value)->Heap->Prop}{YP:World->Heap->Prop}{d:DefRec}{K:Params->W.Frag}{CX:World->EU}{sp:World->Sp}{x:Str}
  (hn:l.most=some n) (hn2:n<=sizeLine) (hdf:d.params.defaults=[]) (hr:Room k callerA)
  (hY:∀ (w:World) (h:Heap),YP w h->(K w.params).In h)
  (F:∀ (w:World) (mg:Str->Option Value) (fa:Addr) (h:Heap),(K w.params).In h->h.Ns mainGlobals mg->mg d.name=some (.ref fa) →
   ∃ fd:FuncData,(∀ (s:Shared) (u:Value),BindsTo s fd ⟨[u],[]⟩ [(x,u)]) ∧
    ∀ base:Heap,(K w.params).In base->base.Ns mainGlobals mg->FnOk l.prog w (K w.params) mg base (CX w) k fa fd [x] (sp w))
  (hsp:∀ (w:World) (H:Hp) (a:Addr) (ns:List Int),ns.length<=n->R3 H->SqL (K w.params) H a (ns.map V.int)->sp w [.ref a] H (λv _=>v=.bl true) λ_ _ _=>False)
  (hCX:∀ (w:World) (H:Hp) (s:Shared) (e:Value) (s':Shared),CX w [] H s (λ_ _ _=>False) e s'->False) :
  W.WalkO q loose XP YP l.row.toRowW d [] (λf vs=>PySem.call f vs):=by
 refine Att.attach_call hn hdf λw s₀ s₁ mg mb fa o pm cd doc a vs ns G Y ho hd hcd hmg hobj hints hlen hg=> ?_
 have KX:=hY w _ Y
 obtain⟨fd,hb,hF⟩:=F w mg fa _ KX G.T.g hmg
 exact uJ KX G.T.g G.T.b G.T.builtins G.T.nolimit hg hobj hints (Nat.le_trans hlen hn2) hr hF hb (λH hO hS=>hsp w H a ns hlen hO hS) λH e s'=>hCX w H s₁ e s'
end L2
namespace L2
def DP(s:Stmt)(j:Nat):Stmt:=match s with
 | .ClassDef _ _ _ body _ _ _ _ _ _ _=>body.getD j (.Pass ⟨0,0,0,0⟩)
 | _=>.Pass ⟨0,0,0,0⟩
def HJ(s:Stmt):Arguments:=match s with
 | .FunctionDef _ a _ _ _ _ _ _ _ _=>a
 | _=>{ posonlyargs:=[],args:=[],vararg:=none,kwonlyargs:=[],kw_defaults:=[],kwarg:=none,defaults:=[] }
def FQ(s:Stmt):List Stmt:=match s with
 | .FunctionDef _ _ b _ _ _ _ _ _ _=>b
 | _=>[]
def A0(s:Stmt):Scope:=match s with
 | .FunctionDef _ _ _ _ _ _ sc _ _ _=>sc
 | _=>{ kind:=.function,names:=[],isGenerator:=false,isCoroutine:=false }
abbrev aG:EU:=λ_ _ _ _ _ _=>False
abbrev E0:XK:=λ_ _ _=>False
structure Fun(K:W.Frag)(x qual:Str)(st:Stmt)(f:Addr)(fd:FuncData):Prop where
 ex:∃ (oc:Value) (od:Option Addr) (kV doc pm:Value) (an:Option Addr) (cdv ct:Value) (osl:Array (Option Value)),
  fd=W.fnOf x qual (HJ st) (FQ st) (A0 st) .none kV doc pm an cdv ct/\K.lookup f=some ⟨oc,od,.func fd,osl⟩/\W.codeIn K cdv qual=true
 kp:W.keepIn K (.ref f)=true
section
variable{P:Program}{w:World}{K:W.Frag}{mg:Str->Option Value}{base:Heap}
theorem Fun.ok{x qual:Str}{st:Stmt}{f:Addr}{fd:FuncData}{N ps:List Str}{k:Nat}{sp:Sp}(F:Fun K x qual st f fd)(S:FnScope N ps (A0 st))(len:∀ vs H Q E,sp vs H Q E->vs.length=ps.length)
  (hbody:∀ (cdv:Value) (A:Around) (outer:List Env) (s:Shared) (H:Hp) (vs:List V) (Q:VK) (E:XK),Room k (A.deeper (envOfC qual (A0 st) s.heap.objs.size f cdv))->sp vs H Q E →
   ∃ t,PSs (GT aG P w K mg base N qual (A0 st) f cdv A outer s H E).nox (FQ st) t/\t { nx:=λ_ H'=>Q .non H',rt:=Q } (A5 N vs) H):FnOk P w K mg base aG (k+1) f fd ps sp:=by
 obtain⟨oc,od,kV,doc,pm,an,cdv,ct,osl,rfl,lk,hcd⟩:=F.ex
 refine ZS lk hcd S len λA outer s H vs Q E hr hsp=> ?_
 obtain⟨t,h,q⟩:=hbody cdv A outer s H vs Q E hr hsp
 exact⟨t,h.nox,q⟩
theorem Fun.binds{x qual:Str}{st:Stmt}{f:Addr}{fd:FuncData}{ps:List Str}(F:Fun K x qual st f fd)
  (h:∀ (kV doc pm:Value) (an:Option Addr) (cdv ct:Value) (us:List Value),us.length=ps.length->bindArgs (W.fnOf x qual (HJ st) (FQ st) (A0 st) .none kV doc pm an cdv ct) ⟨us,[]⟩=pure (ps.zip us)):Binds K fd ps []:=by
 obtain⟨oc,od,kV,doc,pm,an,cdv,ct,osl,rfl,lk,hcd⟩:=F.ex
 exact .all (h kV doc pm an cdv ct)
theorem aH{x qual:Str}{st:Stmt}{f:Addr}{oc:Value}{od an:Option Addr}{osl:Array (Option Value)}{kV doc pm cdv ct:Value}(l:K.lookup f=some ⟨oc,od,.func (W.fnOf x qual (HJ st) (FQ st) (A0 st) .none kV doc pm an cdv ct),osl⟩)
  (c:W.codeIn K cdv qual=true) (k:W.keepIn K (.ref f)=true):Fun K x qual st f (W.fnOf x qual (HJ st) (FQ st) (A0 st) .none kV doc pm an cdv ct):=⟨⟨oc,od,kV,doc,pm,an,cdv,ct,osl,rfl,l,c⟩,k⟩
end
theorem IE{A:Around}{k:Nat}(hr:Room k A):A.units+1<cLine:=Nat.lt_of_le_of_lt (Nat.add_le_add_left (by decide:1<=64) _) hr.units
section
variable{X:Cx}
theorem pv(i:Nat){x:Str}{pos:Pos}(hN:X.N[i]? =some x:=by rfl)(hv:OG X.env.scope x:=by first | exact Or.inl rfl | exact Or.inr (Or.inl rfl) | exact Or.inr (Or.inr rfl))(hd:(x ==("__debug__":Str))=false:=by decide)
  (hcd:(x ==("__classdict__":Str))=false:=by decide):PE X (.Name x pos) (OI i):=Y4 hN hv hd hcd
end
def Same(H H':Hp):Prop:=∀ b o,H b=some o->H' b=some o
theorem Same.refl(H:Hp):Same H H:=λ_ _ h=>h
theorem Same.trans{H H1 H2:Hp}(a:Same H H1)(b:Same H1 H2):Same H H2:=λc o h=>b c o (a c o h)
theorem Same.free{H H':Hp}(e:Same H H'){l:Addr}(h:H' l=Option.none):H l=Option.none:=by
 cases q:H l with
 | none=>rfl
 | some o =>
  rw[e l o q]at h
  cases h
theorem Same.seq{K:W.Frag}{H H':Hp}{a:Addr}{xs:List V}(e:Same H H')(h:SqL K H a xs):SqL K H' a xs:=by
 rcases h with(h | ⟨o,h⟩) | h
 ·exact .inl (.inl (e _ _ h))
 ·exact .inl (.inr ⟨o,e _ _ h⟩)
 ·exact .inr h
section
variable{κ :Type}[DecidableEq κ]
theorem uK{kvs:List (κ × V)}{k: κ}(h:B8 kvs k=none):¬ k∈kvs.map (·.1):=by
 intro m
 obtain⟨p,hp,e⟩:=List.mem_map.mp m
 have q:(kvs.any λkv=>decide (kv.1=k))=true:=List.any_eq_true.mpr ⟨p,hp,decide_eq_true e⟩
 rw[KS,h]at q
 exact absurd q (by simp)
theorem aI:∀ {l:List κ} {k: κ},l.Nodup->¬ k∈l->(l++[k]).Nodup
 | [],k,_,_=>by simp
 | a::r,k,h,hk=>by
  obtain⟨h1,h2⟩:=List.nodup_cons.mp h
  show(a::(r++[k])).Nodup
  refine List.nodup_cons.mpr ⟨λm=> ?_,aI h2 λm=>hk (List.mem_cons.mpr (Or.inr m))⟩
  rcases List.mem_append.mp m with q | q
  ·exact h1 q
  ·exact hk (List.mem_cons.mpr (Or.inl (List.mem_singleton.mp q).symm))
theorem uL{kvs:List (κ × V)}{k: κ}(v:V)(hn:(kvs.map (·.1)).Nodup)(h:B8 kvs k=none):((CF kvs k v).map (·.1)).Nodup:=by
 rw[aC v h,List.map_append]
 exact aI hn (uK h)
end
end L2
namespace L2
theorem R4{env:Env}:∀ (names:List (Str × NameKind)) (cs:List (Str × Addr)),
  (∀ x∈names,x.2=.free->∃ c,env.cells.lookup x.1=some c)->(∀ x c,cs.lookup x=some c->env.cells.lookup x=some c) →
  ∃ cl,(forIn names cs λx r=>(if(x.2 == NameKind.free)=true then do let a ← cellOf env x.1;pure (ForInStep.yield ((x.1,a)::r))else pure (ForInStep.yield r):Sem (ForInStep (List (Str × Addr)))))=pure cl ∧
   (∀ x c,cl.lookup x=some c->env.cells.lookup x=some c)/\(∀ x,(cs.lookup x).isSome=true->(cl.lookup x).isSome=true) ∧
   ∀ x∈names,x.2=.free->(cl.lookup x.1).isSome=true
 | [],cs,_,h=>⟨cs,rfl,h,λ_ z=>z,λ_ z=>nomatch z⟩
 | (n,k)::r,cs,hf,h=>by
  by_cases hk:k=.free
  ·subst hk
   obtain⟨c,hc⟩:=hf (n,.free) List.mem_cons_self rfl
   obtain⟨cl,e,h1,h2,h3⟩:=R4 r ((n,c)::cs) (λx hx=>hf x (List.mem_cons_of_mem _ hx)) (λx c' hx=>by
    by_cases hxn:x=n
    ·subst hxn;simp only[List.lookup_cons,beq_self_eq_true]at hx;cases hx;exact hc
    ·have:(x == n)=false:=beq_eq_false_iff_ne.mpr hxn
     simp only[List.lookup_cons,this]at hx;exact h x c' hx)
   refine⟨cl,?_,h1,λx hx=>h2 x ?_,λx hx hxf=> ?_⟩
   ·rw[List.forIn_cons]
    show((if(NameKind.free == NameKind.free)=true then _ else _) >>= _)=_
    rw[if_pos (show(NameKind.free == NameKind.free)=true from rfl)]
    unfold cellOf
    show(((match env.cells.lookup n with | some a=>pure a | none=>_) >>= _) >>= _)=_
    rw[hc]
    exact e
   ·by_cases hxn:x=n
    ·subst hxn;simp
    ·have:(x == n)=false:=beq_eq_false_iff_ne.mpr hxn
     simp only[List.lookup_cons,this];exact hx
   ·rcases List.mem_cons.mp hx with rfl | hx
    ·exact h2 n (by simp)
    ·exact h3 x hx hxf
  ·obtain⟨cl,e,h1,h2,h3⟩:=R4 r cs (λx hx=>hf x (List.mem_cons_of_mem _ hx)) h
   refine⟨cl,?_,h1,h2,λx hx hxf=> ?_⟩
   ·rw[List.forIn_cons]
    have hb:(k == NameKind.free)=false:=by simpa using hk
    show((if(k == NameKind.free)=true then _ else _) >>= _)=_
    rw[if_neg (by simp[hb])]
    exact e
   ·rcases List.mem_cons.mp hx with rfl | hx
    ·exact absurd hxf hk
    ·exact h3 x hx hxf
theorem aJ{env:Env}{scope:Scope}(hf:∀ x∈scope.names,x.2=.free->∃ c,env.cells.lookup x.1=some c) :
  ∃ cl,closureFor scope env=pure cl/\(∀ x c,cl.lookup x=some c->env.cells.lookup x=some c)/\∀ x∈scope.names,x.2=.free->(cl.lookup x.1).isSome=true:=by
 obtain⟨cl,e,h1,_,h3⟩:=R4 (env:=env) scope.names [] hf (λx c h=>by simp at h)
 refine⟨cl,?_,h1,h3⟩
 unfold closureFor
 show(forIn scope.names ([]:List (Str × Addr)) _ >>= _)=_
 have:(forIn scope.names ([]:List (Str × Addr)) λx r=>(if(x.2 == NameKind.free)=true then do let a ← cellOf env x.1;pure (ForInStep.yield ((x.1,a)::r))else pure (ForInStep.yield r):Sem (ForInStep (List (Str × Addr))))) >>=(λr=>(pure r:Sem _))=(pure cl:Sem _):=by rw[e];rfl
 exact this
theorem aK{env:Env}:∀ {names:List (Str × NameKind)} {x:Str},names.lookup x=some .free →
  (names.map λ(n,k)=>if(k == NameKind.free && env.scope.kind == .function && env.kindOf n == some .cell)then(n,NameKind.cell)else(n,k)).lookup x=some .cell ∨
  (names.map λ(n,k)=>if(k == NameKind.free && env.scope.kind == .function && env.kindOf n == some .cell)then(n,NameKind.cell)else(n,k)).lookup x=some .free
 | [],_,h=>by simp at h
 | (n,k)::r,x,h=>by
  by_cases hx:x=n
  ·subst hx
   simp only[List.lookup_cons,beq_self_eq_true]at h
   cases h
   show List.lookup x ((if _ then(x,NameKind.cell)else(x,NameKind.free))::_)=_\/List.lookup x ((if _ then(x,NameKind.cell)else(x,NameKind.free))::_)=_
   split
   ·exact .inl (by simp)
   ·exact .inr (by simp)
  ·have hb:(x == n)=false:=beq_eq_false_iff_ne.mpr hx
   simp only[List.lookup_cons,hb]at h
   have ih:=aK (env:=env) h
   show List.lookup x ((if _ then(n,NameKind.cell)else(n,k))::_)=_\/List.lookup x ((if _ then(n,NameKind.cell)else(n,k))::_)=_
   split<;>(simp only[List.lookup_cons,hb];exact ih)
theorem aL{env:Env}:∀ {names:List (Str × NameKind)} {x:Str},
  ((names.map λ(n,k)=>if(k == NameKind.free && env.scope.kind == .function && env.kindOf n == some .cell)then(n,NameKind.cell)else(n,k)).lookup x=some .cell ∨
  (names.map λ(n,k)=>if(k == NameKind.free && env.scope.kind == .function && env.kindOf n == some .cell)then(n,NameKind.cell)else(n,k)).lookup x=some .free)->(x,NameKind.free)∈names\/(x,NameKind.cell)∈names
 | [],_,h=>by simp at h
 | (n,k)::r,x,h=>by
  by_cases hx:x=n
  ·subst hx
   have h:List.lookup x ((if(k == NameKind.free && env.scope.kind == .function && env.kindOf x == some .cell)=true then(x,NameKind.cell)else(x,k))::_)=some .cell\/List.lookup x ((if(k == NameKind.free && env.scope.kind == .function && env.kindOf x == some .cell)=true then(x,NameKind.cell)else(x,k))::_)=some .free:=h
   split at h
   ·rename_i hc
    rw[Bool.and_eq_true,Bool.and_eq_true]at hc
    have:k=.free:=by simpa using hc.1.1
    subst this
    exact .inl List.mem_cons_self
   ·simp only[List.lookup_cons,beq_self_eq_true]at h
    rcases h with h | h
    ·cases h;exact .inr List.mem_cons_self
    ·cases h;exact .inl List.mem_cons_self
  ·have hb:(x == n)=false:=beq_eq_false_iff_ne.mpr hx
   have h:List.lookup x ((if(k == NameKind.free && env.scope.kind == .function && env.kindOf n == some .cell)=true then(n,NameKind.cell)else(n,k))::_)=some .cell\/List.lookup x ((if(k == NameKind.free && env.scope.kind == .function && env.kindOf n == some .cell)=true then(n,NameKind.cell)else(n,k))::_)=some .free:=h
   have h':=h
   split at h'
   all_goals
    simp only[List.lookup_cons,hb]at h'
    exact(aL h').imp (List.mem_cons_of_mem _) (List.mem_cons_of_mem _)
theorem EC{a b:Addr}{n:Nat}(h:a<n)(h2:n<=b):a≠b:=Nat.ne_of_lt (Nat.lt_of_lt_of_le h h2)
def Cx.block(X:Cx)(pins:List (Addr × Obj))(s:Shared)(H:Hp)(Nc:List Str)(scope:Scope)(cl:List (Str × Addr))(C:Addr)(fp:List Addr):Cx where
 prog:=X.prog
 w:=X.w
 K:=X.K
 mg:=X.mg
 base:=X.base
 A:=X.A
 N:=Nc
 s₀:=s
 H₀:=H
 env:=compEnvC scope cl C X.env
 outer:=X.stack
 stack:=X.stack
 ex:=fp
 fn:=λ_=>false
 calm:=X.calm
 pn:=X.pn++pins
 xe:=λ_ _=>False
structure KU(X:Cx)(scope:Scope)(tn cn:List Str)(cap:List Nat):Prop where
 kind:scope.kind=.function
 nocell:∀ y∈scope.names,y.2≠.cell
 names:∀ y∈scope.names,y.2=.local->scope.names.lookup y.1=some .local
 free:∀ y∈scope.names,y.2=.free->X.env.kindOf y.1=some .cell\/X.env.kindOf y.1=some .free
 drawn:∀ x∈cn,scope.names.lookup x=some .free
 caps:cap.map (λi=>X.N[i]?)=cn.map some
def HK(k:Nat)(cap:List Nat)(σ:St):St:=List.replicate k none++cap.map λi=>(σ[i]?).join
theorem HOk.track{P:Program}{w:World}{H:Hp}{h:Heap}{a:Addr}{o:HO}(x:HOk P w H h)(hn:H a=none)(new:ObjOk P w (upd H a o) h a o):HOk P w (upd H a o) h:=λb u e=>by
 by_cases hb:b=a
 ·subst hb;rw[AM]at e;cases e;exact new
 ·rw[AQ hb]at e
  refine(x b u e).stay (λ_ _ _ q=>q) (λc q=> ?_) λc xs q=> ?_
  ·rw[AQ (BT q hn)];exact q
  ·rw[AQ (BT q hn)];exact q
section
variable{X:Cx}{pins:List (Addr × Obj)}{σ:St}{H:Hp}{s:Shared}
theorem Inv.pinlt(I:Inv X pins σ H s){p:Addr × Obj}(hp:p∈X.pn++pins):p.1<s.heap.objs.size:=Heap.lt_size (I.pin p hp).1
theorem Inv.stkne(I:Inv X pins σ H s){b:Addr}(h1:b≠X.env.locals)(h2:b∉X.fs):b∉DO X.stack:=λz=>(List.mem_cons.mp (I.stkSub b z)).elim h1 h2
theorem Inv.stklt(I:Inv X pins σ H s){b:Addr}(h:b∈DO X.stack):b<s.heap.objs.size:=by
 obtain⟨_,o,ho,_⟩:=I.stack.mem h
 exact Heap.lt_size ho
theorem Inv.block{scope:Scope}{tn cn:List Str}{cap:List Nat}{cl:List (Str × Addr)}{C:Addr}{fp:List Addr}{pins':List (Addr × Obj)}{s1:Shared}(I:Inv X pins σ H s)(S:KU X scope tn cn cap)
  (hcl:∀ x c,cl.lookup x=some c->X.env.cells.lookup x=some c) (hcl2:∀ x∈scope.names,x.2=.free->(cl.lookup x.1).isSome=true)
  (hf:∀ b∈fp,FpOk X pins H b) (hfl:∀ b∈fp,b<s.heap.objs.size) (hC:s.heap.objs.size<=C) (k:∀ b o,s.heap.get? b=some o->s1.heap.get? b=some o)
  (hos:s1.os=s.os) (hg:s1.gens=s.gens) (hns:∃ m,s1.heap.Ns C m)
  (hp:∀ p∈pins',s1.heap.get? p.1=some p.2/\H p.1=none/\p.1≠C/\p.1∉DO X.stack/\∀ v,p.2.data≠.cell v) :
  Inv (X.block pins s H (tn++cn) scope cl C fp) pins' (HK tn.length cap σ) H s1:=by
 have ok:(X.block pins s H (tn++cn) scope cl C fp).Ok:=by
  refine⟨I.ok.mod,S.kind,I.ok.glob,I.ok.blt,hC,λx y c h1 h2=>I.ok.inj x y c (hcl x c h1) (hcl y c h2),λx hx=> ?_,λx c z _=>(by cases z),I.ok.hd,I.ok.frames,.inl rfl,λb hb=>⟨?_,λx c e=>(hf b hb).2.2.2.2.1 x c (hcl x c e)⟩,I.bs,Nat.le_trans I.ok.bsz I.sz,λb o e hb=> ?_,λb hb=>I.stkne (hf b hb).2.1 (hf b hb).2.2.1,I.stack,I.stkFree⟩
  ·rcases aL (env:=X.env) hx with z | z
   ·exact Option.isSome_iff_exists.mp (hcl2 _ z rfl)
   ·exact absurd rfl (S.nocell _ z)
  ·exact Nat.ne_of_lt (Nat.lt_of_lt_of_le (hfl b hb) hC)
  ·rcases(hf b hb).2.2.2.1 with z | z
   ·exact I.ok.noex b o e z
   ·have h1:b<X.base.objs.size:=Heap.lt_size e
    exact absurd (Nat.lt_of_lt_of_le h1 (Nat.le_trans I.ok.bsz z)) (Nat.lt_irrefl _)
 refine⟨ok,hos,by rw[hg];exact I.bare,Un.kept k,?_,λx c e=> ?_,I.hok.fresh hC,λx c e=>I.freeC x c (hcl x c e),λp hp'=> ?_,I.hok.kept k,?_⟩
 ·obtain⟨m,hm⟩:=hns
  refine⟨m,hm,λi x v h1 h2 h3=> ?_⟩
  have hi:tn.length<=i:=by
   rcases Nat.lt_or_ge i tn.length with z | z
   ·unfold HK at h2
    rw[List.getElem?_append_left (by simpa using z),List.getElem?_replicate]at h2
    split at h2<;>cases h2
   ·exact z
  unfold HK at h2
  rw[List.getElem?_append_right (by simpa using hi),List.length_replicate,List.getElem?_map]at h2
  have h1':cn[i - tn.length]? =some x:=by
   have:(tn++cn)[i]? =some x:=h1
   rwa [List.getElem?_append_right hi]at this
  cases hq:cap[i - tn.length]? with
  | none=>rw[hq]at h2;cases h2
  | some j =>
   rw[hq]at h2
   have hj:X.N[j]? =some x:=by
    have:=congrArg (λl=>l[i - tn.length]?) S.caps
    simp only[List.getElem?_map,hq,h1',Option.map_some]at this
    exact Option.some.inj this
   have hv:σ[j]? =some (some v):=by
    cases hs:σ[j]? with
    | none=>simp[hs]at h2
    | some y=>simp only[Option.map_some,hs,Option.join_some]at h2;cases h2;rfl
   have hxf:(x,NameKind.free)∈scope.names:=PySem.mem_of_lookup (S.drawn x (List.mem_of_getElem? h1'))
   have hk:=S.free _ hxf rfl
   obtain⟨m0,_,hl0⟩:=I.loc
   obtain⟨u,r,q⟩:=hl0 j x v hj hv (hk.elim (λz=>.inr (.inl z)) λz=>.inr (.inr z))
   refine⟨u,r,.inr ⟨aK (S.drawn x (List.mem_of_getElem? h1')),?_⟩⟩
   rcases q with⟨kl,_⟩ | ⟨_,c,hc,z⟩
   ·have kl':X.env.kindOf x=some .local:=kl
    rcases hk with hk | hk<;>(rw[kl']at hk;cases hk)
   ·obtain⟨c',hc'⟩:=Option.isSome_iff_exists.mp (hcl2 _ hxf rfl)
    have:=hcl _ _ hc'
    rw[hc]at this
    cases this
    exact⟨c,hc',z.keeps k⟩
 ·obtain⟨v,z⟩:=I.cell x c (hcl x c e)
  exact⟨v,z.keeps k⟩
 ·rcases List.mem_append.mp hp' with z | z
  ·obtain⟨e,n,ne,nf,d⟩:=I.pin p z
   exact⟨k _ _ e,n,Nat.ne_of_lt (Nat.lt_of_lt_of_le (Heap.lt_size e) hC),I.stkne ne nf,d⟩
  ·exact hp p z
 ·unfold HK
  show _=(tn++cn).length
  have:=congrArg List.length S.caps
  simp only[List.length_map]at this
  simp[this]
end
def CZ:TT:=λ_ H Q=>Q true H
def MI(X:Cx)(ifs:List Expr)(t:TT):Prop :=
 ∀ (pins:List (Addr × Obj)) (s:Shared) (σ:St) (H:Hp) (Q:Bool->Hp->Prop),Inv X pins σ H s->t σ H Q →
  wpAny (model X.prog X.w) X.A (forIn ifs true λc r=>if r=true then do let ok ← isTrue c X.env (eval c X.env);pure (ForInStep.yield ok)else pure (ForInStep.yield r)) (TP X pins σ Q) X.xe s
theorem ED{X:Cx}:MI X [] CZ:=λpins s σ H Q I h=>wpAny_tests_nil ⟨H,I,h⟩
theorem C5{X:Cx}{c:Expr}{t:TT}(h:PT X c t):MI X [c] t:=λpins s σ H Q I q=>wpAny_tests_one (h pins s σ H Q I q)
theorem uM {prog:Program} {w:World} {A:Around} {R:Result->Shared->Prop} {s:Shared} {elt target iter:Expr} {ifs:List Expr} {scope:Scope} {pos:Pos} {it acc:Value} {env:Env} (Jn:Nat->Shared->Prop)
    (turn:∀ n s,Jn n s->wpAny (model prog w) A (pyNext it) (λr s₁=>match r with
      | none=>R (.ok .next) s₁
      | some v=>wpAny (model prog w) A (letOwnedTupleGo target it v) (λ_ s₂=>wpAny (model prog w) A (assign target env v) (λ_ s₃ =>
          wpAny (model prog w) A (forIn ifs true λc r=>if r=true then do let ok ← isTrue c env (eval c env);pure (ForInStep.yield ok)else pure (ForInStep.yield r)) (λok s₄ =>
            if ok=true then wpAny (model prog w) A (eval elt env) (λx s₅ =>
              wpAny (model prog w) A (call (.builtin "list.append") [acc,x]) (λ_ s₆=>∃ m,m<n/\Jn m s₆) (λ_ _=>False) s₅) (λ_ _=>False) s₄
            else ∃ m,m<n/\Jn m s₄) (λ_ _=>False) s₃) (λ_ _=>False) s₂) (λ_ _=>False) s₁) (λ_ _=>False) s)
    (n:Nat) (h:Jn n s):codeAny (model prog w) A (.compLoop (.ListComp elt [⟨target,iter,ifs,0⟩] scope pos) 0 it acc env) R s:=by
  refine codeAny_loop rfl Jn (λn' s' hJ=> ?_) n h
  show wpAny _ A ((compTurn (.ListComp elt [⟨target,iter,ifs,0⟩] scope pos) 0 it acc env).onRaise (λx'=>do noteFrame x' env;theTreesLotGoes x')) _ _ s'
  refine wpAny_noted (wpAny_noRaise ?_)
  rw[compTurn_list]
  refine wpAny_bind (wpAny_standAt (wpAny_bind (AW (turn n' s' hJ) λr s₁ h₁=> ?_)))
  cases r with
  | none=>exact wpAny_pure h₁
  | some v =>
    refine wpAny_bind (AW h₁ λ_ s₂ h₂=> ?_)
    refine wpAny_bind (AW h₂ λ_ s₃ h₃=>wpAny_bind (AW h₃ λok s₄ h₄=> ?_))
    cases ok with
    | false=>exact wpAny_pure ⟨rfl,h₄⟩
    | true=>exact wpAny_bind (wpAny_bind (AW h₄ λx' s₅ h₅=>wpAny_bind (AW h₅ λ_ s₆ h₆=>wpAny_pure (wpAny_pure ⟨rfl,h₆⟩))))
def BN(wi:TI)(g:TG)(tt:TT)(te:TE)(k:Nat)(cap:List Nat):TE:=λσ H Q=>wi σ H λJ H1 =>
 ∃ W:Nat->Nat->St->List V->Hp->Prop,(∃ m,W 0 m (HK k cap σ) [] H1)/\∀ i m σ' ys H,W i m σ' ys H →
  (J.stop i H/\∀ p,H p=none->Q (.ref p) (upd H p (.lst ys))) ∨
  (J.go i H/\ys.length<sizeLine/\∀ x H',J.yld i H x H'->g x σ' H' λσ2 H2=>tt σ2 H2 λb H3 =>
   if b=true then ∃ N:VK,(∀ y H4,N y H4->∃ m',m'<m/\W (i+1) m' σ2 (ys++[y]) H4)/\te σ2 H3 N else ∃ m',m'<m/\W (i+1) m' σ2 ys H3)
structure CompDone(X:Cx)(fp:List Addr)(H:Hp)(s:Shared)(Q:VK)(acc:Value)(C:Addr)(r:Result)(s':Shared):Prop where
 ok:r=.ok .next
 ex:∃ (D:Addr) (ys:List V) (its:List Value) (n:Nat) (H':Hp),acc=.ref D/\Vals ys its/\ys.length<=sizeLine/\s'.heap.get? D=some { cls:=.type "list",data:=.seq its.toArray n }/\s.heap.objs.size<=D/\D≠C/\H' D=none/\H' C=none ∧
  (∃ m,s'.heap.Ns C m)/\Un (DO X.stack) fp H H' s.heap s'.heap/\HOk X.prog X.w H' s'.heap/\∀ p,H' p=none->Q (.ref p) (upd H' p (.lst ys))
 ge:s.heap.objs.size<=C
 os:s'.os=s.os
 bare:AllBare s'.gens
section
variable{X:Cx}{pins:List (Addr × Obj)}{σ:St}{H:Hp}{s:Shared}
theorem aM {tg iter elt:Expr} {ifs:List Expr} {scope:Scope} {pos:Pos} {g:TG} {tt:TT} {te:TE} {tn cn:List Str} {cap:List Nat} {cl:List (Str × Addr)} {it:Addr} {fp:List Addr} {tn':Nat->Heap->Prop} {J:It} {Q:VK} {E:Value->Shared->Prop}
    (I:Inv X pins σ H s) (S:KU X scope tn cn cap) (hc:X.calm=true)
    (hcl:∀ x c,cl.lookup x=some c->X.env.cells.lookup x=some c) (hcl2:∀ x∈scope.names,x.2=.free->(cl.lookup x.1).isSome=true)
    (T:JC X.prog X.w X.K tg J fp it tn') (st:tn' 0 s.heap) (hf:∀ b∈fp,FpOk X pins H b)
    (hg:∀ C,PG (X.block pins s H (tn++cn) scope cl C fp) tg g) (ht:∀ C,MI (X.block pins s H (tn++cn) scope cl C fp) ifs tt) (he:∀ C,PE (X.block pins s H (tn++cn) scope cl C fp) elt te)
    (W:Nat->Nat->St->List V->Hp->Prop) {m0:Nat} (w0:W 0 m0 (HK tn.length cap σ) [] H)
    (step:∀ i m σ' ys H,W i m σ' ys H →
      (J.stop i H/\∀ p,H p=none->Q (.ref p) (upd H p (.lst ys))) ∨
      (J.go i H/\ys.length<sizeLine/\∀ x H',J.yld i H x H'->g x σ' H' λσ2 H2=>tt σ2 H2 λb H3 =>
        if b=true then ∃ N:VK,(∀ y H4,N y H4->∃ m',m'<m/\W (i+1) m' σ2 (ys++[y]) H4)/\te σ2 H3 N else ∃ m',m'<m/\W (i+1) m' σ2 ys H3)) :
    wpAny (model X.prog X.w) X.A (newList []) (λacc s₃=>wpAny (model X.prog X.w) X.A (newFunctionEnv scope X.env.globals cl [] X.env.qual none .none (some X.env)) (λcenv s₄ =>
      codeAny (model X.prog X.w) X.A (.compStart (.ListComp elt [⟨tg,iter,ifs,0⟩] scope pos) 0 (.ref it) acc { cenv with scope:=relabel scope X.env }) (CompDone X fp H s Q acc cenv.locals) s₄) E s₃) E s:=by
  refine wpAny_newObj_type (wpAny_newFunctionEnv S.nocell (by intro y hy;simp at hy) (λh₁ hns₁ hsb₁=> ?_) S.kind)
  dsimp only at hns₁ hsb₁ ⊢
  generalize hH2:s.heap.push { cls:=.type "list",dict:=none,data:=.seq ([]:List Value).toArray }=H2 at hns₁ hsb₁ ⊢
  have hCs:H2.objs.size=s.heap.objs.size+1:=by rw[<-hH2,Heap.size_push]
  generalize hCe:H2.objs.size=C at hns₁ hsb₁ ⊢
  have hC:C=s.heap.objs.size+1:=hCe.symm.trans hCs
  generalize hD:s.heap.objs.size=D at *
  have hDC:D≠C:=by rw[hC];exact Nat.ne_of_lt (Nat.lt_succ_self _)
  have old:∀ b o,s.heap.get? b=some o->h₁.get? b=some o:=λb o e=>by
    have hb:b<D:=by rw[<-hD];exact Heap.lt_size e
    have hbC:b≠C:=EC hb (by rw[hC];exact Nat.le_succ _)
    exact hsb₁.extBut b o hbC (Heap.get?_push_of_some _ (hH2 ▸ Heap.get?_push_of_some _ e))
  have hDo:h₁.get? D=some { cls:=.type "list",data:=.seq ([]:List Value).toArray }:=by
    refine hsb₁.extBut _ _ hDC (Heap.get?_push_of_some _ ?_)
    rw[<-hH2,<-hD]
    exact Heap.get?_push_size _ rfl
  have hfl:∀ b∈fp,b<s.heap.objs.size:=λb hb=>by
    obtain⟨o,e,_⟩:=T.obj 0 _ st b hb
    exact Heap.lt_size e
  have hDn:H D=none:=by rw[<-hD];exact I.hok.fresh (Nat.le_refl _)
  have hDs:D∉DO X.stack:=λz=>EC (I.stklt z) (Nat.le_of_eq hD) rfl
  have I0:Inv (X.block pins s H (tn++cn) scope cl C fp) [(D,{ cls:=.type "list",data:=.seq ([]:List Value).toArray 0 })] (HK tn.length cap σ) H { s with heap:=h₁,toks:=s.toks+([]:List (Str × Value)).length } :=
    I.block S hcl hcl2 hf hfl (by omega) old rfl rfl ⟨_,hns₁⟩ λp hp=>by
      rw[List.mem_singleton]at hp
      subst hp
      exact⟨hDo,hDn,hDC,hDs,λv z=>nomatch z⟩
  have fpok:∀ {H':Hp} {o:Obj},(∀ b∈fp,H' b=none)->∀ b∈fp,FpOk (X.block pins s H (tn++cn) scope cl C fp) [(D,o)] H' b:=λ{H' o} hn b hb=>by
    obtain⟨_,f1,f2,f3,f4,f5⟩:=hf b hb
    have hbl:=hfl b hb
    refine⟨hn b hb,?_,I.stkne f1 f2,.inl hb,λx c e=>f4 x c (hcl x c e),λp hp=> ?_⟩
    ·exact EC hbl (by rw[hD,hC];exact Nat.le_succ _)
    · rcases List.mem_append.mp hp with z | z
      ·exact f5 p z
      ·rw[List.mem_singleton]at z;subst z;exact Ne.symm (EC hbl (Nat.le_of_eq hD))
  have st1:tn' 0 h₁:=T.keep _ _ _ st λb _ o e=>old b o e
  have loop:∀ s₃:Shared,s₃={ s with heap:=h₁,toks:=s.toks+([]:List (Str × Value)).length } →
      codeAny (model X.prog X.w) X.A (.compLoop (.ListComp elt [⟨tg,iter,ifs,0⟩] scope pos) 0 (.ref it) (.ref D) (compEnvC scope cl C X.env)) (CompDone X fp H s Q (.ref D) C) s₃:=by
    rintro s₃ rfl
    refine uM (λn s'=>∃ i σ' ys its nn H',Inv (X.block pins s H (tn++cn) scope cl C fp) [(D,{ cls:=.type "list",data:=.seq (its:List Value).toArray nn })] σ' H' s'/\tn' i s'.heap/\(∀ b∈fp,H' b=none)/\Vals ys its/\ys.length<=sizeLine/\W i n σ' ys H') ?_ m0
      ⟨0,_,[],[],0,H,I0,st1,λb hb=>(hf b hb).1,.nil,Nat.zero_le _,w0⟩
    rintro n s4 ⟨i,σ4,ys,its,nn,H4,I4,st4,fr4,r4,l4,w4⟩
    rcases step i n σ4 ys H4 w4 with⟨stop,qn⟩ | ⟨go,hlt,next⟩
    · refine AW (T.done (X.block pins s H (tn++cn) scope cl C fp) rfl rfl rfl hc i _ s4 σ4 H4 _ I4 (fpok fr4) st4 stop) λr s5 ⟨hr,I5⟩=> ?_
      subst hr
      have hp:=I5.pin (D,_) (List.mem_append_right _ List.mem_cons_self)
      obtain⟨m5,hm5,_⟩:=I5.loc
      exact⟨rfl,⟨D,ys,its,nn,H4,rfl,r4,l4,hp.1,by omega,hDC,hp.2.1,I5.free,⟨m5,hm5⟩,I5.base,I5.hok,qn⟩,by omega,I5.os,I5.bare⟩
    · refine AW (T.item (X.block pins s H (tn++cn) scope cl C fp) rfl rfl rfl hc i _ s4 σ4 H4 _ I4 (fpok fr4) st4 go) λr s5 ⟨u,hr,h5⟩=> ?_
      subst hr
      refine AW h5 λ_ s6 ⟨x,H6,I6,r6,y6,st6,fr6⟩=> ?_
      have I6':=I6.pinned (fpok fr6) (T.obj _ _ st6)
      refine AW (hg C _ s6 σ4 H6 x u _ I6' r6 (next x H6 y6)) λ_ s7 ⟨σ7,H7,I7,q7⟩=> ?_
      refine AW (ht C _ s7 σ7 H7 _ I7 q7) λok s8 ⟨H8,I8,q8⟩=> ?_
      have keepst:∀ {σ9:St} {H9:Hp} {s9:Shared},Inv (X.block pins s H (tn++cn) scope cl C fp) ([(D,{ cls:=.type "list",data:=.seq its.toArray nn })]++L9 fp s6.heap) σ9 H9 s9->(∀ b∈fp,∀ o,s6.heap.get? b=some o->s9.heap.get? b=some o)/\∀ b∈fp,H9 b=none:=λ{σ9 H9 s9} I9=>by
        refine⟨λb hb o e=>(I9.pin (b,o) (List.mem_append_right _ (List.mem_append_right _ (OP hb e)))).1,λb hb=> ?_⟩
        obtain⟨o,e,_⟩:=T.obj _ _ st6 b hb
        exact(I9.pin (b,o) (List.mem_append_right _ (List.mem_append_right _ (OP hb e)))).2.1
      cases ok with
      | false =>
        obtain⟨m',hm',w'⟩:=q8
        obtain⟨k1,k2⟩:=keepst I8
        exact⟨m',hm',i+1,σ7,ys,its,nn,H8,I8.unpinned,T.keep _ _ _ st6 k1,k2,r4,l4,w'⟩
      | true =>
        obtain⟨Nw,hN,q8⟩:=q8
        refine AW (he C _ s8 σ7 H8 Nw I8 q8) λv s9 ⟨y,H9,I9,r9,n9⟩=> ?_
        obtain⟨m',hm',w'⟩:=hN y H9 n9
        obtain⟨k1,k2⟩:=keepst I9
        have hp:=I9.pin (D,_) (List.mem_append_right _ (List.mem_append_left _ List.mem_cons_self))
        have e:=hp.1
        have hlen:=r4.length
        refine call_meets F.slot_list_append ⟨_,e,rfl⟩ F.entry_list_append (F.args_list_append_2 _ _) (PySem.list_append D its.toArray nn v (by rw[List.size_toArray];omega)) ⟨e,?_⟩
        have q:=PySem.IsL.update e (λxs=>xs.push v)
        have Ia:Inv (X.block pins s H (tn++cn) scope cl C fp) [] σ7 H9 s9:=I9.pins_of λp hp=>nomatch hp
        have Ib:=Ia.turned (h':=s9.heap.update D (Obj.mapSeq (·.push v))) (t':=s9.toks) (it:=D) (λb o hb eb=>(Heap.get?_update_other _ _ (Ne.symm hb)).trans eb) hp.2.1 hDC (.inr (by show s.heap.objs.size<=D;omega))
          (λx c ec z=>by
            obtain⟨vv,zc⟩:=I.cell x c (hcl x c ec)
            exact EC zc.lt (Nat.le_of_eq hD) z)
          (λp hp'=>by
            rw[List.append_nil]at hp'
            exact EC (I.pinlt hp') (Nat.le_of_eq hD))
        have q':(s9.heap.update D (Obj.mapSeq (·.push v))).get? D=some { cls:=.type "list",data:=.seq (its++[v]).toArray (nn+1) }:=by
          rw[if_neg (by simp)]at q
          rw[<-List.push_toArray]
          exact q
        refine⟨m',hm',i+1,σ7,ys++[y],its++[v],nn+1,H9,Ib.pins_of (λp hp'=> ?_),T.keep _ _ _ st6 λb hb o eb=> ?_,k2,r4.append (.cons r9 .nil),?_,w'⟩
        · rw[List.mem_singleton]at hp'
          subst hp'
          exact⟨q',hp.2.1,hDC,hDs,λv' z=>nomatch z⟩
        · have hbl:=hfl b hb
          exact(Heap.get?_update_other _ _ (Ne.symm (EC hbl (Nat.le_of_eq hD)))).trans (k1 b hb o eb)
        · rw[List.length_append,List.length_singleton]
          omega
  exact codeAny_compStart_list (loop _ rfl) (T.self _ 0 _ _ _ st1 (loop _ rfl))
theorem CompDone.inv{Q:VK}{acc:Value}{C:Addr}{r:Result}{s':Shared}{fp:List Addr}(I:Inv X pins σ H s)(hf:∀ b∈fp,FpOk X pins H b)(h:CompDone X fp H s Q acc C r s') :
  ∃ D H',acc=.ref D/\Inv X pins σ H' s'/\Q (.ref D) H'/\H' C=none/\∃ m,s'.heap.Ns C m:=by
 obtain⟨_,⟨D,ys,its,n,H',rfl,r4,l4,e,hD,hDC,hDn,hCn,hm,u,ok,q⟩,hC,os,bare⟩:=h
 have lt:∀ b o,s.heap.get? b=some o->b≠D:=λb o eb=>EC (Heap.lt_size eb) hD
 have ltH:∀ b o,H b=some o->b≠D:=λb o eb=>EC (I.hok.lt eb) hD
 refine⟨D,upd H' D (.lst ys),rfl,I.call' (ch:=fp) os ⟨u.keep,u.slot,λb o eb n' hx=> ?_,u.there,λb xs eb=> ?_,λb o x eb=> ?_,λb ps eb=> ?_⟩ (ok.track hDn ⟨l4,its,n,r4,e⟩) bare (λb hb=> ?_),q D hDn,?_,hm⟩
 ·rw[AQ (lt b o eb)];exact u.free b o eb n' hx
 ·rw[AQ (ltH b _ eb)];exact u.tups b xs eb
 ·rw[AQ (ltH b _ eb)];exact u.frzs b o x eb
 ·rw[AQ (ltH b _ eb)];exact u.tbls b ps eb
 ·obtain⟨_,f1,f2,f3,f4,f5⟩:=hf b hb
  exact⟨f3,f1,f4,f5⟩
 ·rw[AQ (Ne.symm hDC)];exact hCn
theorem Inv.letgo{C:Addr}{h':Heap}{s1:Shared}{σ1:St}{H1:Hp}(I:Inv X pins σ H s)(hC:s.heap.objs.size<=C)(I1:Inv X pins σ1 H1 s1)(hn:H1 C=none)(hs:Heap.SameBut C s1.heap h'):Inv X pins σ1 H1 { s1 with heap:=h' }:=by
 refine I1.turned (t':=s1.toks) (it:=C) (λb o hb e=>(hs.2 b hb).trans e) hn (λz=> ?_) (.inr ?_) (λx c e z=> ?_) λp hp z=> ?_
 ·exact EC I.lt hC z.symm
 ·exact Nat.le_trans I.sz hC
 ·obtain⟨v,zc⟩:=I.cell x c e
  exact EC zc.lt hC z
 ·exact EC (I.pinlt hp) hC z
variable{tg iter elt:Expr}{ifs:List Expr}{scope:Scope}{pos:Pos}{wi:TI}{g:TG}{tt:TT}{te:TE}{tn cn:List Str}{cap:List Nat}
theorem DD(S:KU X scope tn cn cap)(hc:X.calm=true)(hi:PI X tg iter wi)
  (hg:∀ pins s H cl C fp,PG (X.block pins s H (tn++cn) scope cl C fp) tg g) (ht:∀ pins s H cl C fp,MI (X.block pins s H (tn++cn) scope cl C fp) ifs tt) (he:∀ pins s H cl C fp,PE (X.block pins s H (tn++cn) scope cl C fp) elt te)
  (hs:∀ x,foldedSetIterable iter X.env x=pure x:=by intro _;rfl):PE X (.ListComp elt [⟨tg,iter,ifs,0⟩] scope pos) (BN wi g tt te tn.length cap):=by
 intro pins s σ H Q I h
 obtain⟨cl,ecl,hcl,hcl2⟩:=aJ (env:=X.env) (scope:=scope) λx hx hxf=>I.ok.has x.1 (S.free x hx hxf)
 rw[eval_ListComp]
 refine wpAny_comprehension_free (use:=none) rfl hs ecl S.kind S.names (AW (hi pins s σ H _ I h) λv s1 h1=>AW h1 λitv s2 h2=> ?_)
 obtain⟨it,fp,tn',J,H2,e,I2,T,st2,f2,W,⟨m0,w0⟩,turn⟩:=h2
 subst e
 refine AW (aM I2 S hc hcl hcl2 T st2 f2 (λC=>hg _ _ _ _ C _) (λC=>ht _ _ _ _ C _) (λC=>he _ _ _ _ C _) W w0 turn) λacc s3 h3=>AW h3 λcenv s4 h4=>codeAny_mono h4 λr s5 h5=> ?_
 have hr:=h5.ok
 subst hr
 obtain⟨D,H',rfl,I5,q5,hCn,m,hm⟩:=h5.inv I2 f2
 exact⟨m,hm,λh' hs'=>⟨.ref D,H',I2.letgo h5.ge I5 hCn hs',rfl,q5⟩⟩
theorem D7{i:Nat}{x:Str}{px spos:Pos}(S:KU X scope tn cn cap)(hc:X.calm=true)(hN:X.N.Nodup)(hi':X.N[i]? =some x)(hx:X.env.scope.names.lookup x=some .local)(hi:PI X tg iter wi)
  (hg:∀ pins s H cl C fp,PG (X.block pins s H (tn++cn) scope cl C fp) tg g) (ht:∀ pins s H cl C fp,MI (X.block pins s H (tn++cn) scope cl C fp) ifs tt) (he:∀ pins s H cl C fp,PE (X.block pins s H (tn++cn) scope cl C fp) elt te)
  (hsw:swapsWith (.ListComp elt [⟨tg,iter,ifs,0⟩] scope pos) (some (.Name x px)) spos.line X.env=pure true:=by rfl)
  (hs:∀ x,foldedSetIterable iter X.env x=pure x:=by intro _;rfl):PS X (.Assign [.Name x px] (.ListComp elt [⟨tg,iter,ifs,0⟩] scope pos) spos) (AR (BN wi g tt te tn.length cap) (AJ i)):=by
 intro pins s σ H D I h
 obtain⟨cl,ecl,hcl,hcl2⟩:=aJ (env:=X.env) (scope:=scope) λx hx hxf=>I.ok.has x.1 (S.free x hx hxf)
 rw[exec_Assign_Name_used _ _ _ _ hsw]
 refine wpAny_bind (wpAny_standAt (wpAny_bind ?_))
 unfold evalThenUse
 refine wpAny_bind ?_
 refine wpAny_comprehension_free (use:=some (assign (.Name x px) X.env)) rfl hs ecl S.kind S.names (AW (hi pins s σ H _ I h) λv s1 h1=>AW h1 λitv s2 h2=> ?_)
 obtain⟨it,fp,tn',J,H2,e,I2,T,st2,f2,W,⟨m0,w0⟩,turn⟩:=h2
 subst e
 refine AW (aM (Q:=λx' H1=>AJ i x' σ H1 D.nx) I2 S hc hcl hcl2 T st2 f2 (λC=>hg _ _ _ _ C _) (λC=>ht _ _ _ _ C _) (λC=>he _ _ _ _ C _) W w0 turn) λacc s3 h3=>AW h3 λcenv s4 h4=>codeAny_mono h4 λr s5 h5=> ?_
 have hr:=h5.ok
 subst hr
 obtain⟨Da,H',rfl,I5,q5,hCn,m,hm⟩:=h5.inv I2 f2
 show wpAny _ _ (assign (.Name x px) X.env (.ref Da)) _ _ s5
 refine wpAny_assign_Name (Y3 I5 hN hi' (.inl hx) (show RelV (.ref Da) (.ref Da)from rfl) (λs6 I6 ⟨a,hsb,ha⟩=> ?_) (.inr hx))
 refine⟨m,hm.sameBut hsb ?_,λh' hs'=> ?_⟩
 ·rcases ha with z | z
  ·exact Ne.symm (z ▸ EC I2.lt h5.ge)
  ·obtain⟨vv,zc⟩:=I2.cell x a z
   exact Ne.symm (EC zc.lt h5.ge)
 ·exact wpAny_pure (wpAny_pure ⟨σ.set i (some (.ref Da)),H',I2.letgo h5.ge I6 hCn hs',q5⟩)
end
end L2
namespace L2
theorem ObjOk.there{P:Program}{w:World}{H:Hp}{h:Heap}{a:Addr}{o:HO}(x:ObjOk P w H h a o):∃ ob,h.get? a=some ob:=by
 cases o with
 | lst xs=>obtain⟨_,_,_,_,e⟩:=x;exact⟨_,e⟩
 | tup xs=>obtain⟨_,_,_,ob,e,_⟩:=x;exact⟨_,e⟩
 | dK kvs=>obtain⟨_,_,_,_,ob,_,_,e,_⟩:=x;exact⟨_,e⟩
 | dT kvs=>obtain⟨_,_,_,_,ob,_,_,e,_⟩:=x;exact⟨_,e⟩
 | set S n=>obtain⟨ob,_,_,_,e,_⟩:=x;exact⟨_,e⟩
 | ins C dx fs=>obtain⟨_,_,_,e,_⟩:=x;exact⟨_,e⟩
 | own y=>exact x
 | xd fs=>obtain⟨_,⟨ob,_,_,e,_⟩,_⟩:=x;exact⟨_,e⟩
 | rng lo hi=>obtain⟨_,_,_,e⟩:=x;exact⟨_,e⟩
 | frz ob u=>obtain⟨e,_⟩:=x;exact⟨_,e⟩
 | tbl ps=>exact⟨_,show h.get? a=some _ from x⟩
 | met f y=>exact⟨_,show h.get? a=some _ from x⟩
 | ext φ =>exact x.2.1
theorem HOk.nh{P:Program}{w:World}{H:Hp}{h:Heap}{a:Addr}(x:HOk P w H h)(e:h.get? a=none):H a=none:=by
 cases q:H a with
 | none=>rfl
 | some o =>
  obtain⟨ob,e'⟩:=(x a o q).there
  rw[e]at e';cases e'
section
variable{X:Cx}{pins:List (Addr × Obj)}{σ:St}{H H':Hp}{s:Shared}{h':Heap}
theorem Inv.stepN{g':Array GenState}{t':Nat}{d':Drawn}{ch:List Addr}(I:Inv X pins σ H s)
  (hch:∀ b∈ch,(b∈X.ex\/X.s₀.heap.get? b=none)/\b≠X.env.locals/\(∀ x c,X.env.cells.lookup x=some c->c≠b)/\∀ p∈X.pn++pins,p.1≠b)
  (keep:∀ b o,b≠X.env.locals->b∉X.fs->b∉ch->s.heap.get? b=some o->H b=none->h'.get? b=some o)
  (slot:∀ b o,b≠X.env.locals->b∈X.fs->b∉ch->s.heap.get? b=some o->H b=none->∃ sl,h'.get? b=some { o with slots:=sl }) (free:∀ b o,b∉ch->s.heap.get? b=some o->H b=none->H' b=none)
  (there:∀ b o,b∉ch->s.heap.get? b=some o->∃ o',h'.get? b=some o')
  (tups:∀ b xs,H b=some (.tup xs)->H' b=some (.tup xs)) (frzs:∀ b o u,H b=some (.frz o u)->H' b=some (.frz o u)) (tbls:∀ b ps,H b=some (.tbl ps)->∃ more,H' b=some (.tbl (ps++more)))
  (ns:∀ m,s.heap.Ns X.env.locals m->h'.Ns X.env.locals m) (hok:HOk X.prog X.w H' h') (hg:AllBare g') :
  Inv X pins σ H' { s with heap:=h',gens:=g',drawn:=d',toks:=t' }:=by
 have neL:∀ b o,X.s₀.heap.get? b=some o->b≠X.env.locals:=λb o e=>Nat.ne_of_lt (Nat.lt_of_lt_of_le (Heap.lt_size e) I.ok.above)
 have neC:∀ b o,X.s₀.heap.get? b=some o->b∉X.ex->b∉ch:=λb o e hx hb=>by
  rcases(hch b hb).1 with z | z
  ·exact hx z
  ·rw[e]at z;cases z
 have cellK:∀ x c,X.env.cells.lookup x=some c->∀ v,s.heap.IsCell c v->h'.IsCell c v:=λx c e v ⟨o,ho,hd⟩=>by
  have nch:c∉ch:=λz=>(hch c z).2.2.1 x c e rfl
  by_cases hc:c∈X.fs
  ·obtain⟨sl,q⟩:=slot c o (I.cne x c e) hc nch ho (I.freeC x c e)
   exact⟨_,q,hd⟩
  ·exact⟨o,keep c o (I.cne x c e) hc nch ho (I.freeC x c e),hd⟩
 refine⟨I.ok,I.os,hg,⟨λb o e n hb hx=> ?_,λb o e n hb hx=> ?_,λb o e n hx=> ?_,λb o e hx=> ?_,λb xs e=>tups b xs (I.base.tups b xs e),λb o xs e=>frzs b o xs (I.base.frzs b o xs e),λb ps e=> ?_⟩,?_,λx c e=> ?_,?_,λx c e=> ?_,λp hp=> ?_,hok,I.len⟩
 ·exact keep b o (neL b o e) hb (neC b o e hx) (I.base.keep b o e n hb hx) (I.base.free b o e n hx)
 ·obtain⟨sl,e1⟩:=I.base.slot b o e n hb hx
  obtain⟨sl',e2⟩:=slot b _ (neL b o e) hb (neC b o e hx) e1 (I.base.free b o e n hx)
  exact⟨sl',e2⟩
 ·obtain⟨o',e1⟩:=I.base.there b o e hx
  exact free b o' (neC b o e hx) e1 (I.base.free b o e n hx)
 ·obtain⟨o',e1⟩:=I.base.there b o e hx
  exact there b o' (neC b o e hx) e1
 ·obtain⟨m1,e1⟩:=I.base.tbls b ps e
  obtain⟨m2,e2⟩:=tbls b _ e1
  exact⟨m1++m2,by rw[e2,Array.append_assoc]⟩
 ·obtain⟨m,hn,hl⟩:=I.loc
  refine⟨m,ns m hn,λi x v e1 e2 e3=> ?_⟩
  obtain⟨u,r,l⟩:=hl i x v e1 e2 e3
  refine⟨u,r,?_⟩
  rcases l with l | ⟨k,c,e,z⟩
  ·exact .inl l
  ·exact .inr ⟨k,c,e,cellK x c e _ z⟩
 ·obtain⟨v,z⟩:=I.cell x c e
  exact⟨v,cellK x c e v z⟩
 ·obtain⟨m,⟨o,_,_,ho,_⟩,_⟩:=I.loc
  exact free _ o (λz=>(hch _ z).2.1 rfl) ho I.free
 ·obtain⟨v,o,ho,hd⟩:=I.cell x c e
  exact free c o (λz=>(hch c z).2.2.1 x c e rfl) ho (I.freeC x c e)
 ·obtain⟨e,n,ne,nf,d⟩:=I.pin p hp
  have nch:p.1∉ch:=λz=>(hch p.1 z).2.2.2 p hp rfl
  exact⟨keep p.1 p.2 ne nf nch e n,free p.1 p.2 nch e n,ne,nf,d⟩
end
structure Fly(bad:Addr->Prop)(H:Hp)(h:Heap)(e:Addr)(cls:Value):Prop where
 nb:¬ bad e
 free:H e=none
 ex:∃ (oe:Obj) (vs:Array Value),h.get? e=some oe/\oe.cls=cls/\oe.dict=none/\oe.data=.fields vs/\(vs[1]? =some .none ∨
  ∃ (T:Addr) (oT:Obj) (ts:Array Value),vs[1]? =some (.ref T)/\¬ bad T/\H T=none/\T≠e/\h.get? T=some oT/\oT.data=.fields ts/\ts[3]? =some .none)
theorem Fly.mono{bad bad':Addr->Prop}{H:Hp}{h:Heap}{e:Addr}{cls:Value}(F:Fly bad H h e cls)(k:∀ a,bad' a->bad a):Fly bad' H h e cls:=by
 obtain⟨nb,fr,oe,vs,h1,h2,h3,h4,h5⟩:=F
 refine⟨λz=>nb (k _ z),fr,oe,vs,h1,h2,h3,h4,?_⟩
 rcases h5 with z | ⟨T,oT,ts,a,b,c⟩
 ·exact .inl z
 ·exact .inr ⟨T,oT,ts,a,λz=>b (k _ z),c⟩
section
variable{M:Model}{A:Around}{E:Value->Shared->Prop}{s:Shared}
theorem aN{base:Heap}{env:Env}{outer:List Env}{L e:Addr}{oe:Obj}{vs:Array Value}{hd:Value}{nx:Bool}{Q:Unit->Shared->Prop}
  (hfr:A.frames=some (env::outer)) (hl:s.heap.FunFrames base (env::outer)) (hf:env.frame=some L) (he:s.heap.get? e=some oe) (hdt:oe.data=.fields vs) (hsz:1<vs.size)
  (h:∀ h' T oT ts,(∀ b o,s.heap.get? b=some o->b≠e->b∉DO (env::outer)->h'.get? b=some o)->(∀ b o,s.heap.get? b=some o->b≠e->∃ sl,h'.get? b=some { o with slots:=sl }) →
   h'.get? e=some (oe.mapFields (·.setIfInBounds 1 (.ref T)))->s.heap.objs.size<=T->h'.get? T=some oT->oT.data=.fields ts->ts[3]? =some (rawInt L)->Q () { s with heap:=h' }) :
  wpAny M A (do let a ← frameOf env;let pl ← entryPlaceOf L nx;let b ← EntryCells.newEntry hd a .none (rawInt L) .none pl;setField (.ref e) 1 b) Q E s:=by
 have hne:e∉(env::outer).filterMap (·.frame):=λz=>by
  obtain⟨_,o,ho,hn⟩:=hl.mem z
  rw[he]at ho;cases ho
  exact hn vs hdt
 refine wpAny_bind (wpAny_frameOf_fun hfr hl hf λh1 hs1=> ?_)
 refine wpAny_bind (wpAny_entryPlaceOf λpl hpl=> ?_)
 unfold EntryCells.newEntry newFields
 refine wpAny_bind (wpAny_newObj_type ?_ (hpl.sizeOk5 _ _ _ _ _))
 have he1:h1.get? e=some oe:=(hs1.2.1 e hne).trans he
 refine wpAny_setField (Heap.get?_push_of_some _ he1) hdt hsz ?_
 have hTe:h1.objs.size≠e:=Nat.ne_of_gt (Heap.lt_size he1)
 have hd3:=Obj.data_mapFields hdt (·.setIfInBounds 1 (Value.ref h1.objs.size))
 have keep:∀ b o,b≠e->h1.get? b=some o->((h1.push { cls:=.type "traceback",dict:=none,data:=.fields ([hd,.ref L,.none,rawInt L,.none]++(if pl.isEmpty then List.replicate 6 Value.none else pl)).toArray }).update e (Obj.mapFields (·.setIfInBounds 1 (Value.ref h1.objs.size)))).get? b=some o:=λb o hb e1=>by
  rw[Heap.get?_update_other _ _ (Ne.symm hb)]
  exact Heap.get?_push_of_some _ e1
 refine h _ h1.objs.size _ _ (λb o e1 hb hnf=>keep b o hb ((hs1.2.1 b hnf).trans e1)) (λb o e1 hb=> ?_) (Heap.get?_update_self _ (Heap.get?_push_of_some _ he1) (Obj.isFreed_of_fields hd3)) (by rw[hs1.1];exact Nat.le_refl _)
  ((Heap.get?_update_other _ _ (Ne.symm hTe)).trans (Heap.get?_push_size _ rfl)) rfl ?_
 ·obtain⟨sl,e2⟩:=hs1.2.2 b o e1
  exact⟨sl,keep b _ hb e2⟩
 ·first | (simp;done) | (rcases hpl with rfl | ⟨_,_,_,_,_,_,_,rfl⟩<;>simp)
structure R5(fr:List Addr)(bad:Addr->Prop)(H:Hp)(e:Addr)(cls:Value)(h h':Heap):Prop where
 ch:∃ ch:List Addr,(∀ b∈ch,¬ bad b/\H b=none/\∃ o vs,h.get? b=some o/\o.data=.fields vs)/\(∀ b o,h.get? b=some o->b∉ch->b∉fr->h'.get? b=some o) ∧
  (∀ b o,h.get? b=some o->b∉ch->∃ sl,h'.get? b=some { o with slots:=sl })
 fly:Fly bad H h' e cls
theorem aO{A2:Around}{E2:Value->Shared->Prop}{base:Heap}{env:Env}{outer:List Env}{L e:Addr}{cls:Value}{bad:Addr->Prop}{H:Hp}{Q:Unit->Shared->Prop}
  (hfr:A.frames=some (env::outer)) (hl:s.heap.FunFrames base (env::outer)) (hf:env.frame=some L) (F:Fly bad H s.heap e cls) (hb:∀ a,s.heap.objs.size<=a->¬ bad a) (hH:∀ a,s.heap.objs.size<=a->H a=none)
  (h:∀ h',R5 (DO (env::outer)) bad H e cls s.heap h'->Q () { s with heap:=h' }) :
  wpAny M A (noteFrame (.ref e) env) (λ_ s2=>wpAny M A2 (setFlight (.ref e) none) Q E2 s2) E s:=by
 obtain⟨nb,fr,oe,vs,he,hcls,hdict,hd,htb⟩:=F
 have CT:∀ (s1:Shared) (ch:List Addr) (h':Heap) (T:Addr) (oT:Obj) (ts:Array Value) (oe1:Obj),(∀ b o,s.heap.get? b=some o->s1.heap.get? b=some o\/b∈ch)->s1.heap.objs.size=s.heap.objs.size->e∈ch->(∀ b∈ch,¬ bad b/\H b=none/\∃ o vs,s.heap.get? b=some o/\o.data=.fields vs) →
   oe1.cls=cls->oe1.dict=none->oe1.data=.fields vs->1<vs.size →
   (∀ b o,s1.heap.get? b=some o->b≠e->b∉DO (env::outer)->h'.get? b=some o)->(∀ b o,s1.heap.get? b=some o->b≠e->∃ sl,h'.get? b=some { o with slots:=sl }) →
   h'.get? e=some (oe1.mapFields (·.setIfInBounds 1 (.ref T)))->s1.heap.objs.size<=T->h'.get? T=some oT->oT.data=.fields ts->ts[3]? =some (rawInt L)->wpAny M A2 (setFlight (.ref e) none) Q E2 { s with heap:=h' }:=by
  intro s1 ch h' T oT ts oe1 hk1 hsz hech hch hcls1 hdict1 hd1 hv k1 k2 e1 hT e2 hdT h3
  have hT':s.heap.objs.size<=T:=hsz ▸ hT
  have hTe:T≠e:=Ne.symm (EC (Heap.lt_size he) hT')
  have hde:=Obj.data_mapFields hd1 (·.setIfInBounds 1 (Value.ref T))
  unfold setFlight
  refine wpAny_bind (wpAny_field e1 hde (x:=.ref T) (by simp[hv]) ?_)
  rw[if_pos (show(Value.ref T != Value.none)=true from by simp)]
  have hs3:3<ts.size:=(Array.getElem?_eq_some_iff.mp h3).1
  refine wpAny_setField e2 hdT hs3 (h _ ?_)
  have oth:∀ b,b≠T->(h'.update T (Obj.mapFields (·.setIfInBounds 3 ((none:Option Addr).elim Value.none λf=>rawInt f)))).get? b=h'.get? b:=λb hb'=>Heap.get?_update_other _ _ (Ne.symm hb')
  have ltT:∀ b o,s.heap.get? b=some o->b≠T:=λb o eb=>EC (Heap.lt_size eb) hT'
  refine⟨⟨ch,hch,λb o eb hbc hbf=> ?_,λb o eb hbc=> ?_⟩,nb,fr,_,_,(oth e (Ne.symm hTe)).trans e1,(Obj.cls_mapFields _ _).trans hcls1,?_,hde,.inr ⟨T,_,_,by simp[hv],hb T hT',hH T hT',hTe,Heap.get?_update_self _ e2 (Obj.isFreed_of_fields (Obj.data_mapFields hdT _)),Obj.data_mapFields hdT _,by simp[hs3]⟩⟩
  ·rw[oth b (ltT b o eb)]
   rcases hk1 b o eb with z | z
   ·exact k1 b o z (λz'=>hbc (z' ▸ hech)) hbf
   ·exact absurd z hbc
  ·rw[oth b (ltT b o eb)]
   rcases hk1 b o eb with z | z
   ·exact k2 b o z (λz'=>hbc (z' ▸ hech))
   ·exact absurd z hbc
  ·obtain⟨c1,c2,c3,c4⟩:=oe1
   dsimp only at hd1
   subst hd1
   exact hdict1
 unfold noteFrame
 simp only[hf]
 rcases htb with h1 | ⟨T0,oT0,ts0,h1,nbT,frT,neT,eT,dT,h3⟩
 ·have hv:1<vs.size:=(Array.getElem?_eq_some_iff.mp h1).1
  refine wpAny_bind (wpAny_field he hd h1 ?_)
  rw[if_neg (by decide)]
  refine aN hfr hl hf he hd hv λh' T oT ts k1 k2 e1 hT e2 hdT h3=> ?_
  exact CT s [e] h' T oT ts oe (λb o eb=>.inl eb) rfl (by simp) (λb hb'=>by rw[List.mem_singleton]at hb';subst hb';exact⟨nb,fr,oe,vs,he,hd⟩) hcls hdict hd hv k1 k2 e1 hT e2 hdT h3
 ·have hv:1<vs.size:=(Array.getElem?_eq_some_iff.mp h1).1
  refine wpAny_bind (wpAny_field he hd h1 ?_)
  rw[if_pos (show(Value.ref T0 != Value.none)=true from by simp)]
  refine wpAny_bind (wpAny_field eT dT h3 ?_)
  rw[if_neg (show ¬ ((Value.none == rawInt L)=true)from by simp[rawInt])]
  refine wpAny_bind (wpAny_setField eT dT (Array.getElem?_eq_some_iff.mp h3).1 ?_)
  have oth:∀ b,b≠T0->(s.heap.update T0 (Obj.mapFields (·.setIfInBounds 3 Value.none))).get? b=s.heap.get? b:=λb hb'=>Heap.get?_update_other _ _ (Ne.symm hb')
  have nf:∀ b o,s.heap.get? b=some o->(∀ vs,o.data≠.fields vs)->b≠T0:=λb o eb hn z=>by rw[z,eT]at eb;cases eb;exact hn ts0 dT
  refine aN hfr (hl.of_keeps λb o eb hn=>⟨o,(oth b (nf b o eb hn)).trans eb,rfl⟩) hf ((oth e (Ne.symm neT)).trans he) hd hv λh' T oT ts k1 k2 e1 hT e2 hdT h3'=> ?_
  exact CT { s with heap:=s.heap.update T0 (Obj.mapFields (·.setIfInBounds 3 Value.none)) } [e,T0] h' T oT ts oe
   (λb o eb=>by
    by_cases z:b=T0
    ·exact .inr (by simp[z])
    ·exact .inl ((oth b z).trans eb))
   (Heap.size_after_update ..) (by simp)
   (λb hb'=>by
    rcases List.mem_cons.mp hb' with z | z
    ·subst z;exact⟨nb,fr,oe,vs,he,hd⟩
    ·rw[List.mem_singleton]at z;subst z;exact⟨nbT,frT,oT0,ts0,eT,dT⟩)
   hcls hdict hd hv k1 k2 e1 hT e2 hdT h3'
end
def Cx.bad(X:Cx)(pins:List (Addr × Obj)):Addr->Prop:=λa=>X.s₀.heap.get? a≠none\/∃ p∈X.pn++pins,p.1=a
structure XOk(X:Cx)(E:St->XK):Prop where
 po:PassesOwn (model X.prog X.w) X.A X.env X.xe
 ex:X.ex=[]
 calm:X.calm=true
 go:∀ (pins:List (Addr × Obj)) (σ:St) (H:Hp) (s:Shared) (e:Addr) (cls:Value),Inv X pins σ H s->Fly (X.bad pins) H s.heap e cls->E σ cls none H->X.xe (.ref e) s
section
variable{X:Cx}{pins:List (Addr × Obj)}{σ:St}{H:Hp}{s:Shared}
theorem Inv.notbad(I:Inv X pins σ H s)(hx:X.ex=[]){a:Addr}(h:s.heap.get? a=none):¬ X.bad pins a:=λz=>by
 rcases z with z | ⟨p,hp,rfl⟩
 ·cases q:X.s₀.heap.get? a with
  | none=>exact z q
  | some o =>
   obtain⟨o',e⟩:=I.base.there a o q (by rw[hx];simp)
   rw[h]at e;cases e
 ·have:=(I.pin p hp).1
  rw[h]at this;cases this
theorem aP{h:Heap}{a:Addr}(z:h.objs.size<=a):h.get? a=none:=by
 cases q:h.get? a with
 | none=>rfl
 | some o=>exact absurd (Nat.lt_of_lt_of_le (Heap.lt_size q) z) (Nat.lt_irrefl _)
theorem Inv.noted{e:Addr}{cls:Value}{h':Heap}(I:Inv X pins σ H s)(N:R5 (DO X.stack) (X.bad pins) H e cls s.heap h'):Inv X pins σ H { s with heap:=h' }:=by
 obtain⟨⟨ch,hch,k1,k2⟩,_⟩:=N
 obtain⟨mL,⟨oL,esL,epL,hoL,dL,rL⟩,_⟩:=id I.loc
 have chne:∀ b∈ch,∀ o,s.heap.get? b=some o->∃ vs,o.data=.fields vs:=λb hb o eb=>by
  obtain⟨_,_,o',vs,e',d⟩:=hch b hb
  rw[eb]at e';cases e'
  exact⟨vs,d⟩
 have hL:X.env.locals∉ch:=λz=>by
  obtain⟨vs,d⟩:=chne _ z _ hoL
  rw[dL]at d;cases d
 refine I.stepN (g':=s.gens) (t':=s.toks) (d':=s.drawn) (ch:=ch) (λb hb=>⟨.inr ?_,λz=>hL (z ▸ hb),λx c ec z=> ?_,λp hp z=>(hch b hb).1 (.inr ⟨p,hp,z⟩)⟩)
  (λb o hbL hbf hbc eb _=>k1 b o eb hbc λz=>(List.mem_cons.mp (I.stkSub b z)).elim hbL hbf) (λb o _ _ hbc eb _=>k2 b o eb hbc) (λ_ _ _ _ n=>n) (λb o hbc eb=> ?_) (λ_ _ q=>q) (λ_ _ _ q=>q) (λb ps q=>⟨#[],by rw[q];simp⟩) (λm hm=> ?_) (λb o eb=> ?_) I.bare
 ·cases q:X.s₀.heap.get? b with
  | none=>rfl
  | some o=>exact absurd (.inl (by rw[q];simp)) (hch b hb).1
 ·obtain⟨v,oc,hoc,hd⟩:=I.cell x c ec
  obtain⟨vs,d⟩:=chne c (z ▸ hb) oc hoc
  rw[hd]at d;cases d
 ·obtain⟨sl,q⟩:=k2 b o eb hbc
  exact⟨_,q⟩
 ·obtain⟨o',es',ep',ho',r'⟩:=hm
  rw[hoL]at ho';cases ho'
  obtain⟨sl,q⟩:=k2 _ _ hoL hL
  exact⟨_,es',ep',q,r'⟩
 ·refine(I.hok b o eb).stay (λc u hc q=>k1 c u q ?_ ?_) (λ_ q=>q) λ_ _ q=>q
  ·intro z
   have fr:=(hch c z).2.1
   rcases hc with rfl | hc
   ·rw[eb]at fr;cases fr
   ·rw[hc]at fr;cases fr
  ·intro z
   have fr:=I.stkFree c z
   rcases hc with rfl | hc
   ·rw[eb]at fr;cases fr
   ·rw[hc]at fr;cases fr
def D0(P:Program)(w:World):EU:=λouter H s E e s'=>∃ (ea:Addr) (cls:Value) (H':Hp),e=.ref ea/\s'.os=s.os/\AllBare s'.gens/\Un (DO outer) [] H H' s.heap s'.heap/\HOk P w H' s'.heap/\Fly (λa=>s.heap.get? a≠none) H' s'.heap ea cls/\E cls none H'
theorem aQ{P:Program}{w:World}{outer:List Env}{H:Hp}{s:Shared}{e:Value}{s':Shared}(h:D0 P w outer H s (λ_ _ _=>False) e s'):False:=by
 obtain⟨_,_,_,_,_,_,_,_,_,f⟩:=h
 exact f
theorem XOk.passes{E:St->XK}(x:XOk X E):FN (D0 X.prog X.w) X E:=λpins σ H s e s' I h=>by
 obtain⟨ea,cls,H',rfl,os,bare,un,hok,F,q⟩:=h
 refine x.go pins σ H' s' ea cls (I.call' (ch:=[]) os un hok bare λb z=>absurd z (by simp)) (F.mono λa z=> ?_) q
 rcases z with z | ⟨p,hp,rfl⟩
 ·cases q0:X.s₀.heap.get? a with
  | none=>exact absurd q0 z
  | some o =>
   obtain⟨o',e⟩:=I.base.there a o q0 (by rw[x.ex];simp)
   rw[e];simp
 ·rw[(I.pin p hp).1];simp
theorem HL{P:Program}{w:World}:FN (D0 P w) X (λ_=>E0):=λ_ _ _ _ _ _ _ h=>(aQ h).elim
end
theorem uN{P:Program}{w:World}{K:W.Frag}{mg:Str->Option Value}{base:Heap}{N:List Str}{qual:Str}{scope:Scope}{f:Addr}{cd:Value}{A:Around}{outer:List Env}{s:Shared}{H:Hp}{E:XK} :
  XOk (GT (D0 P w) P w K mg base N qual scope f cd A outer s H E) (λ_=>E) where
 po:=PassesOwn.leaving
 ex:=rfl
 calm:=rfl
 go:=λpins σ H' s' e cls I F q=>by
  have hfr:(A.deeper (envOfC qual scope s.heap.objs.size f cd)).frames=some (envOfC qual scope s.heap.objs.size f cd::outer):=I.ok.frames
  show wpAny _ _ (leaving _ _) _ _ _
  unfold leaving
  refine wpAny_bind (aO hfr I.stack rfl F (λa z=>I.notbad rfl (aP z)) (λa z=>I.hok.fresh z) λh' N=> ?_)
  have I':=I.noted N
  exact⟨e,cls,H',rfl,I'.os,I'.bare,I'.base,I'.hok,N.fly.mono λa z=>.inl z,q⟩
structure Exc(K:W.Frag)(C:Addr):Prop where
 ex:W.excIn K C [.type "ValueError",.type "Exception",.type "BaseException",.type "object"] "ValueError.__new__"=true
theorem Exc.obj{K:W.Frag}{C:Addr}{h:Heap}(x:Exc K C)(X:K.In h):∃ (tl:List Value) (N:Addr) (nm q:Str) (bs:List Value) (hdct:Bool) (sn:List Str) (sub:List Value) (ab:Bool) (col:Option Bool) (dd:Option Addr) (k0 k1 k2 k3 k5:Option Value) (mN:Str->Option Value),
  h.get? C=some (excClassObj nm q C N bs tl hdct sn sub ab col dd k0 k1 k2 k3 k5 "ValueError.__new__")/\h.Ns N mN/\mN "__init__"=none/\OwnTail h [.type "ValueError",.type "Exception",.type "BaseException",.type "object"] tl:=by
 have q:=x.ex
 unfold W.excIn at q
 split at q
 ·rename_i dd cd sl ho
  split at q
  ·rename_i C' bm k0 k1 k2 k3 n k5 hm hs
   simp only[Bool.and_eq_true,beq_iff_eq,Bool.not_eq_true']at q
   obtain⟨⟨⟨⟨⟨rfl,rfl⟩,hdel⟩,ht⟩,hok⟩,hni⟩:=q
   obtain⟨nm,bs,mro,ns,qn,hd,sn,sub,ab,col,del⟩:=cd
   dsimp only at hm hdel hok hni
   subst hm hdel
   obtain⟨l⟩:=sl
   simp only at hs
   subst hs
   exact⟨bm,ns,nm,qn,bs,hd,sn,sub,ab,col,dd,k0,k1,k2,k3,k5,_,X _ _ ho,.of_isNs (W.isNs_of_in X hok),W.nsMap_none_of_in X hok hni,W.tail_of_in X ht⟩
  ·cases q
 ·cases q
def MJ(C:Addr)(E:St->XK)(t:TA):TS:=λ_ σ H=>t σ H λvs H1=>vs.length<=sizeLine/\E σ (.ref C) none H1
section
variable{X:Cx}{E:St->XK}{C:Addr}{x:Str}{np cpos pos:Pos}{e:Expr}{es:List Expr}{t:TA}
theorem R6(hx:XOk X E)(c:Exc X.K C)(hg:Gl X x)(hm:X.mg x=some (.ref C))(ha:PA X (e::es) t)(hdb:(x ==("__debug__":Str))=false:=by decide)
  (he:starEach (e::es) X.env=(false,eval e X.env)::starEach es X.env:=by rfl) (hpl:(backTo cpos (starEach es X.env)).any (·.1)=false:=by rfl) :
  PS X (.Raise (some (.Call (.Name x np) (e::es) [] cpos)) none pos) (MJ C E t):=by
 intro pins s σ H D I h
 obtain⟨tl,N,nm,q,bs,hdct,sn,sub,ab,col,dd,k0,k1,k2,k3,k5,mN,hC,hN,hni,T⟩:=c.obj I.mod.kin
 have hpl2:(backTo cpos (starEach (e::es) X.env)).any (·.1)=false:=by
  rw[he]
  show(false || (backTo cpos (starEach es X.env)).any (·.1))=false
  rw[hpl];rfl
 refine wpAny_Raise_call_subT (C:=C) (nm:=nm) (q:=q) (N:=N) (bs:=bs) (bm:=tl) (hdct:=hdct) (sn:=sn) (sub:=sub) (ab:=ab) (col:=col) (dd:=dd) (k0:=k0) (k1:=k1) (k2:=k2) (k3:=k3) (k5:=k5)
  PySem.F.excBase_ValueError (mN:=mN) (T.hasType PySem.F.excBase_ValueError.hasBase) (I.ok.hd hx.calm) hpl2 hni (LZ I hg hm ⟨rfl,?_⟩ hdb)
 have hq:=ha cpos pins s σ H _ I h
 rw[he]at hq ⊢
 refine Calls.evalArgs_plain (AW hq λus s1 ⟨vs,H1,I1,r,hz,q1⟩=>⟨rfl,?_,I1.bk _ _ hC,hN.keeps I1.bk,T.keeps I1.bk,λh' ea hM=> ?_⟩)
 ·show us.length<=_
  rw[<-r.length];exact hz
 ·have I2:Inv X pins σ H1 { s1 with heap:=h' }:=I1.kept (t':=s1.toks) hM.keeps
  obtain⟨tt,h1,h2,h3⟩:=hM.there
  refine hx.go pins σ H1 _ ea (.ref C) I2 ⟨λz=>I1.notbad hx.ex hM.new z,I1.hok.nh hM.new,_,_,h1,rfl,rfl,rfl,.inl rfl⟩ q1
end
end L2
namespace L2
section
variable(P:Program)(w:World)(K:W.Frag)(mg:Str->Option Value)(base:Heap)
structure BH(k:Nat)(x:Str)(ps:List Str)(sp:Sp):Prop where
 ex:∃ (f:Addr) (fd:FuncData),FnOk P w K mg base (D0 P w) k f fd ps sp/\mg x=some (.ref f)/\W.keepIn K (.ref f)=true/\Binds K fd ps []
structure B9(C:Addr)(k:Nat)(m:Str)(ps:List Str)(sp:Sp):Prop where
 ex:∃ (f:Addr) (fd:FuncData),FnOk P w K mg base (D0 P w) k f fd ps sp/\OU K C m f/\Binds K fd ps []
structure KW(C:Addr)(k:Nat)(x:Str)(ps:List Str)(sp:Sp):Prop where
 ex:∃ (f:Addr) (fd:FuncData),FnOk P w K mg base (D0 P w) k f fd ps sp/\Mk K C f/\mg x=some (.ref C)/\Binds K fd ps []
end
section
variable{X:Cx}{E:St->XK}{k:Nat}{x m:Str}{ps:List Str}{sp:Sp}{C:Addr}{p pos apos:Pos}{e o:Expr}{es:List Expr}{ta:TE}{t:TA}
theorem BC(c:BH X.prog X.w X.K X.mg X.base k x ps sp)(hr:Room k X.A)(hp:FN (D0 X.prog X.w) X E)(hg:Gl X x)(ha:PA X (e::es) t)(hdb:(x ==("__debug__":Str))=false:=by decide)
  (he:starEach (e::es) X.env=(false,eval e X.env)::starEach es X.env:=by rfl) (hpl:(backTo pos (starEach es X.env)).any (·.1)=false:=by rfl):PE X (.Call (.Name x p) (e::es) [] pos) (A8 sp [] E t):=by
 obtain⟨f,fd,F,hm,hk,hb⟩:=c.ex
 exact sJ F hr hg hm hk hb .nil hp ha hdb he hpl
theorem C6{pl:Sem Bool}(he:PE X o ta)(cl:Cls X.K C)(c:B9 X.prog X.w X.K X.mg X.base C k m ps sp)(hr:Room k X.A)(hp:FN (D0 X.prog X.w) X E)(ha:PA X (e::es) t)
  (hst:starEach (e::es) X.env=(false,eval e X.env)::starEach es X.env:=by rfl) (hpl:(backTo pos (starEach es X.env)).any (·.1)=false:=by rfl)
  (ht:eval (.Call (.Attribute o m apos) (e::es) [] pos) X.env=(do
   let ov ← eval o X.env
   standAt apos.atName
   let (f,first) ← holding [ov] (getMethod ov m pl)
   callWith pos f first (backTo pos (starEach (e::es) X.env)) (backToKw pos (keywordEach [] X.env))):=by rfl):PE X (.Call (.Attribute o m apos) (e::es) [] pos) (BR C m sp [] E ta t):=by
 obtain⟨f,fd,F,hm,hb⟩:=c.ex
 exact sK he cl hm F hr hb .nil hp ha hst hpl ht
theorem EE{pl:Sem Bool}(he:PE X o ta)(cl:Cls X.K C)(c:B9 X.prog X.w X.K X.mg X.base C k m ps sp)(hr:Room k X.A)(hp:FN (D0 X.prog X.w) X E)
  (ht:eval (.Call (.Attribute o m apos) [] [] pos) X.env=(do
   let ov ← eval o X.env
   standAt apos.atName
   let (f,first) ← holding [ov] (getMethod ov m pl)
   callWith pos f first (backTo pos (starEach [] X.env)) (backToKw pos (keywordEach [] X.env))):=by rfl):PE X (.Call (.Attribute o m apos) [] [] pos) (BR C m sp [] E ta AG):=by
 obtain⟨f,fd,F,hm,hb⟩:=c.ex
 exact sL he cl hm F hr hb .nil hp ht
theorem O8(c:KW X.prog X.w X.K X.mg X.base C k x ps sp)(hr:Room (k+1) X.A)(hp:FN (D0 X.prog X.w) X E)(hg:Gl X x)(ha:PA X (e::es) t)(hdb:(x ==("__debug__":Str))=false:=by decide)
  (he:starEach (e::es) X.env=(false,eval e X.env)::starEach es X.env:=by rfl) (hpl:(backTo pos (starEach es X.env)).any (·.1)=false:=by rfl):PE X (.Call (.Name x p) (e::es) [] pos) (JF C sp [] E t):=by
 obtain⟨f,fd,F,M,hm,hb⟩:=c.ex
 exact sO M F hr hg hm hb .nil hp ha hdb he hpl
end
theorem Fun.okE{P:Program}{w:World}{K:W.Frag}{mg:Str->Option Value}{base:Heap}{x qual:Str}{st:Stmt}{f:Addr}{fd:FuncData}{N ps:List Str}{k:Nat}{sp:Sp}(F:Fun K x qual st f fd)(S:FnScope N ps (A0 st))(len:∀ vs H Q E,sp vs H Q E->vs.length=ps.length)
  (hbody:∀ (cdv:Value) (A:Around) (outer:List Env) (s:Shared) (H:Hp) (vs:List V) (Q:VK) (E:XK),Room k (A.deeper (envOfC qual (A0 st) s.heap.objs.size f cdv))->sp vs H Q E →
   ∃ t,PSs (GT (D0 P w) P w K mg base N qual (A0 st) f cdv A outer s H E) (FQ st) t/\t { nx:=λ_ H'=>Q .non H',rt:=Q } (A5 N vs) H):FnOk P w K mg base (D0 P w) (k+1) f fd ps sp:=by
 obtain⟨oc,od,kV,doc,pm,an,cdv,ct,osl,rfl,l,c⟩:=F.ex
 exact ZS l c S len λA outer s H vs Q E hr h=>hbody cdv A outer s H vs Q E hr h
def GV(mg:Str->Option Value)(x:Str)(v:V):Prop:=∃ u,mg x=some u/\RelV v u
theorem IF{X:Cx}{x:Str}{v:V}{pos:Pos}(g:GV X.mg x v)(hg:Gl X x)(hd:(x ==("__debug__":Str))=false:=by decide):PE X (.Name x pos) (tC v):=by
 obtain⟨u,hm,r⟩:=g
 exact qM hg hm r hd
theorem aR{α :Type}(p: α ->Bool):∀ (l:List α) (i:Nat),(∀ x,l[i]? =some x->p x=false)->(l.eraseIdx i).find? p=l.find? p
 | [],_,_=>rfl
 | x::r,0,h=>by
  have:p x=false:=h x rfl
  simp[List.eraseIdx,List.find?,this]
 | x::r,i+1,h=>by
  rw[List.eraseIdx_cons_succ]
  simp only[List.find?_cons]
  rw[aR p r i λy hy=>h y (by simpa using hy)]
theorem uO{v:Value}{x y:Str}(h:v.isStr x=true)(hxy:y≠x):v.isStr y=false:=by
 cases v with
 | str z t =>
  have e:z=x:=by simpa [Value.isStr]using h
  subst e
  simp only[Value.isStr]
  exact beq_eq_false_iff_ne.mpr (Ne.symm hxy)
 | _=>simp[Value.isStr]at h
theorem uP{M:Model}{A:Around}{E:Value->Shared->Prop}{s:Shared}{a:Addr}{m:Str->Option Value}{name:Str}{Q:Bool->Shared->Prop}(hn:s.heap.Ns a m)
  (hQ:∀ h' m',h'.Ns a m'->(∀ y,y≠name->m' y=m y)->Heap.SameBut a s.heap h'->Q (m name).isSome { s with heap:=h' }):wpAny M A (nsDel a name) Q E s:=by
 obtain⟨o,es,ep,ho,hd,hk,hm⟩:=id hn
 have hno:es.any (·.refKey)=false:=by
  rw[Array.any_eq_false'];intro e' he';obtain⟨n',t',h'⟩:=hk e' he';simp[DictEntry.refKey,h']
 have hiff:(m name).isSome=es.any (·.key.isStr name):=by
  rw[<-hm name]
  simp only[nsFind,findBy,Option.isSome_map]
  obtain⟨l⟩:=es
  rw[Bool.eq_iff_iff]
  simp[List.find?_isSome]
 have hhas:nsHas name o=pure (es.any (·.key.isStr name)):=by
  rw[nsHas_eq];unfold nsHasByArray;rw[hd]
  show(if(es.any λx=>x.key.isStr name)=true then _ else _)=_
  generalize (es.any λx=>x.key.isStr name)=b'
  cases b'<;>simp[hno]
 unfold nsDel
 refine wpAny_bind (wpAny_loadPart ho ?_)
 rw[hhas]
 refine wpAny_bind (wpAny_pure ?_)
 rw[<-hiff]
 cases hmn:(m name).isSome
 ·have z:=hQ s.heap m hn (λ_ _=>rfl) (.refl ..)
  rw[hmn]at z
  exact wpAny_pure z
 ·refine wpAny_bind (wpAny_updatePart ho (wpAny_pure ?_))
  have key:∃ m',(s.heap.update a (Obj.dropName name)).Ns a m'/\∀ y,y≠name->m' y=m y:=by
   obtain⟨cl,d,dt,sl⟩:=o
   obtain rfl:dt=.dict es ep:=hd
   cases hi:es.findIdx? (·.key.isStr name)with
   | some i =>
    refine⟨_,⟨_,_,ep+1,Heap.get?_update_self _ ho (by simp only[Obj.dropName_eq,Obj.dropNameByArray,hi]<;>rfl),(by simp only[Obj.dropName_eq,Obj.dropNameByArray,hi]<;>rfl),hk.erase i,λ_=>rfl⟩,λy hy=> ?_⟩
    rw[<-hm y]
    unfold nsFind findBy
    obtain⟨l⟩:=es
    congr 1
    have hi':l.findIdx? (·.key.isStr name)=some i:=by simpa using hi
    obtain⟨hlt,hp,_⟩:=List.findIdx?_eq_some_iff_getElem.mp hi'
    show Array.find? _ (Array.eraseIdxIfInBounds ⟨l⟩ i)=_
    rw[<-Array.find?_toList,<-Array.find?_toList]
    have:(Array.eraseIdxIfInBounds ⟨l⟩ i).toList=l.eraseIdx i:=by
     rw[Array.eraseIdxIfInBounds_eq]
     split
     ·simp
     ·rename_i hz;exact absurd hlt (by simpa using hz)
    rw[this]
    refine aR _ l i λx hx=> ?_
    rw[List.getElem?_eq_getElem hlt]at hx
    cases hx
    exact uO hp hy
   | none=>exact⟨m,⟨_,_,ep,Heap.get?_update_self _ ho (by simp only[Obj.dropName_eq,Obj.dropNameByArray,hi]<;>rfl),(by simp only[Obj.dropName_eq,Obj.dropNameByArray,hi]<;>rfl),hk,hm⟩,λ_ _=>rfl⟩
  obtain⟨m',hm',hy⟩:=key
  have z:=hQ _ m' hm' hy (Heap.SameBut.update ..)
  rw[hmn]at z
  exact z
theorem O9{X:Cx}{pins:List (Addr × Obj)}{σ:St}{H:Hp}{s:Shared}{A:Around}{E:Value->Shared->Prop}{i:Nat}{n:Str}{pos:Pos}{Q:Unit->Shared->Prop}(I:Inv X pins σ H s)(hN:X.N.Nodup)(hi:X.N[i]? =some n)(hl:X.env.scope.names.lookup n=some .local)
  (h:∀ s',Inv X pins (σ.set i none) H s'->Q () s'):wpAny (model X.prog X.w) A (do bindName X.env n .none;unbindBehindTheSuite X.env n pos) Q E s:=by
 have hp:(X.env.scope.kind == .class || (X.env.scope.kind == .module && X.env.locals != X.env.globals))=false:=by rw[I.ok.kind];rfl
 have hk:X.env.kindOf n=some .local:=hl
 have hiσ:i<σ.length:=by rw[I.len];exact(List.getElem?_eq_some_iff.mp hi).1
 refine wpAny_bind (wpAny_bindName (OH I hN hi (.inl hl) (show RelV .non Value.none from rfl) (λs1 I1=> ?_) (.inr hl)))
 unfold unbindBehindTheSuite
 refine wpAny_onRaise ?_
 unfold unbindName
 refine wpAny_bind (wpAny_point (wpAny_bind ?_))
 unfold deleteName
 simp only[hk,hp]
 rw[if_neg (by decide)]
 obtain⟨m,hn,hloc⟩:=id I1.loc
 have hmn:∃ u,m n=some u:=by
  obtain⟨u,_,l⟩:=hloc i n .non hi (by rw[List.getElem?_set_self hiσ]) (.inl hl)
  rcases l with⟨_,e⟩ | ⟨z,_⟩
  ·exact⟨u,e⟩
  ·rw[hk]at z;rcases z with z | z<;>cases z
 refine wpAny_bind (uP hn λh' m' hn' hy hs=> ?_)
 obtain⟨u,hu⟩:=hmn
 rw[hu]
 simp only[Option.isSome_some,Bool.not_true,Bool.false_eq_true,if_false]
 refine wpAny_pure (wpAny_point (h _ ?_))
 have nL:∀ b o,X.s₀.heap.get? b=some o->b≠X.env.locals:=λb o e=>EC (Heap.lt_size e) I1.ok.above
 refine⟨I1.ok,I1.os,I1.bare,⟨λb o e n' hb hx=>(hs.2 b (nL b o e)).trans (I1.base.keep b o e n' hb hx),λb o e n' hb hx=> ?_,I1.base.free,λb o e hx=> ?_,I1.base.tups,I1.base.frzs,I1.base.tbls⟩,⟨m',hn',λj y v e1 e2 e3=> ?_⟩,λx c e=> ?_,I1.free,I1.freeC,λp hp'=> ?_,λb o e=> ?_,?_⟩
 ·obtain⟨sl,q⟩:=I1.base.slot b o e n' hb hx
  exact⟨sl,(hs.2 b (nL b o e)).trans q⟩
 ·obtain⟨o',q⟩:=I1.base.there b o e hx
  exact⟨o',(hs.2 b (nL b o e)).trans q⟩
 ·have hj:j≠i:=λz=>by
   subst z
   rw[List.getElem?_set_self hiσ]at e2
   cases e2
  rw[List.getElem?_set_ne (Ne.symm hj)]at e2
  obtain⟨u',r',l⟩:=hloc j y v e1 (by rw[List.getElem?_set_ne (Ne.symm hj)];exact e2) e3
  refine⟨u',r',?_⟩
  rcases l with⟨z,e⟩ | ⟨z,c,e,q⟩
  ·exact .inl ⟨z,by rw[hy y λz=>hj (Q6 hN e1 (z ▸ hi))];exact e⟩
  ·exact .inr ⟨z,c,e,q.sameBut hs (I1.cne y c e)⟩
 ·obtain⟨v,q⟩:=I1.cell x c e
  exact⟨v,q.sameBut hs (I1.cne x c e)⟩
 ·obtain⟨q1,q2,q3,q4⟩:=I1.pin p hp'
  exact⟨(hs.2 _ q3).trans q1,q2,q3,q4⟩
 ·refine(I1.hok b o e).stay (λc u' hc q=>(hs.2 c ?_).trans q) (λ_ q=>q) λ_ _ q=>q
  intro z
  have fr:=I1.free
  rw[<-z]at fr
  rcases hc with rfl | hc
  ·rw[e]at fr;cases fr
  ·rw[hc]at fr;cases fr
 ·rw[List.length_set];exact I.len
abbrev Cx.tri(X:Cx)(pn:List (Addr × Obj))(xe:Value->Shared->Prop):Cx:={ X with pn:=pn,xe:=xe }
abbrev Cx.hand(X:Cx)(e:Addr):Cx:={ X with A:=X.A.mark (some (.ref e)),calm:=false,xe:=λ_ _=>False }
section
variable{X:Cx}{pins:List (Addr × Obj)}{σ:St}{H:Hp}{s:Shared}
theorem Cx.Ok.tri{pn:List (Addr × Obj)}{xe:Value->Shared->Prop}(ok:X.Ok):(X.tri pn xe).Ok :=
 ⟨ok.mod,ok.kind,ok.glob,ok.blt,ok.above,ok.inj,ok.has,ok.cab,ok.hd,ok.frames,ok.stk,ok.exf,ok.bs,ok.bsz,ok.noex,ok.exfs,ok.funs,ok.frf⟩
theorem Inv.tri{xe:Value->Shared->Prop}(I:Inv X pins σ H s):Inv (X.tri (X.pn++pins) xe) [] σ H s :=
 ⟨I.ok.tri,I.os,I.bare,I.base,I.loc,I.cell,I.free,I.freeC,λp hp=>I.pin p (by simpa using hp),I.hok,I.len⟩
theorem Cx.Ok.untri{pn:List (Addr × Obj)}{xe:Value->Shared->Prop}(ok:(X.tri pn xe).Ok):X.Ok :=
 ⟨ok.mod,ok.kind,ok.glob,ok.blt,ok.above,ok.inj,ok.has,ok.cab,ok.hd,ok.frames,ok.stk,ok.exf,ok.bs,ok.bsz,ok.noex,ok.exfs,ok.funs,ok.frf⟩
theorem Inv.untri{pl:List (Addr × Obj)}{xe:Value->Shared->Prop}(I:Inv (X.tri (X.pn++pins) xe) pl σ H s):Inv X pins σ H s :=
 ⟨I.ok.untri,I.os,I.bare,I.base,I.loc,I.cell,I.free,I.freeC,λp hp=>I.pin p (List.mem_append_left _ hp),I.hok,I.len⟩
theorem Cx.Ok.hand{e:Addr}(ok:X.Ok):(X.hand e).Ok :=
 ⟨ok.mod,ok.kind,ok.glob,ok.blt,ok.above,ok.inj,ok.has,ok.cab,(λz=>nomatch z),ok.frames,ok.stk,ok.exf,ok.bs,ok.bsz,ok.noex,ok.exfs,ok.funs,ok.frf⟩
theorem Inv.hand{e:Addr}(I:Inv X pins σ H s):Inv (X.hand e) pins σ H s:=⟨I.ok.hand,I.os,I.bare,I.base,I.loc,I.cell,I.free,I.freeC,I.pin,I.hok,I.len⟩
theorem Inv.unhand{e:Addr}(ok:X.Ok)(I:Inv (X.hand e) pins σ H s):Inv X pins σ H s:=⟨ok,I.os,I.bare,I.base,I.loc,I.cell,I.free,I.freeC,I.pin,I.hok,I.len⟩
end
def FR(e:Addr)(cls:Value):Heap->Prop:=λh=>∃ oe vs,h.get? e=some oe/\oe.cls=cls/\oe.dict=none/\oe.data=.fields vs
abbrev TH:=Value->Ends->St->Hp->Prop
def aS:TH:=λ_ _ _ _=>False
def Ends.drop(D:Ends)(i:Nat):Ends:={ nx:=λσ H=>D.nx (σ.set i none) H,rt:=D.rt,bk:=λσ H=>D.bk (σ.set i none) H,ct:=λσ H=>D.ct (σ.set i none) H }
def aT(p:Value->Option Bool)(i:Nat)(ts:TS)(CT:TH):TH:=λcls D σ H =>
 (p cls=some true/\∀ e,H e=none->ts (D.drop i) (σ.set i (some (.ref e))) (upd H e (.ext (FR e cls))))\/(p cls=some false/\CT cls D σ H)
def PH(X:Cx)(hs:List ExceptHandler)(th:TH):Prop :=
 ∀ (pins:List (Addr × Obj)) (s:Shared) (σ:St) (H:Hp) (D:Ends) (e:Addr) (cls:Value),X.ex=[]->Inv X pins σ H s->Fly (X.bad pins) H s.heap e cls->th cls D σ H →
  wpAny (model X.prog X.w) X.A (handleBy (.ref e) X.env hs) (SP X pins D) X.xe s
def PX(X:Cx)(t:Expr)(p:Value->Option Bool):Prop :=
 ∀ (pins:List (Addr × Obj)) (s:Shared) (σ:St) (H:Hp) (e:Addr) (cls:Value) (b:Bool) (Q:Bool->Shared->Prop) (E:Value->Shared->Prop),Inv X pins σ H s->Fly (X.bad pins) H s.heap e cls->p cls=some b →
  (∀ s',Inv X pins σ H s'->Fly (X.bad pins) H s'.heap e cls->Q b s')->wpAny (model X.prog X.w) (X.A.mark (some (.ref e))) (eval t X.env) (λc s1=>wpAny (model X.prog X.w) (X.A.mark (some (.ref e))) (excMatches (.ref e) c) Q E s1) E s
def R7(tb:(St->XK)->TS)(th:TH):TS:=λD σ H=>tb (λσ' cls _ H'=>th cls D σ' H') D σ H
section
variable{X:Cx}{hs:List ExceptHandler}{h₀:ExceptHandler}{th:TH}{body:List Stmt}{tb:(St->XK)->TS}{pos:Pos}
theorem uQ:PH X [] aS:=λ_ _ _ _ _ _ _ _ _ _ h=>h.elim
theorem uR{bad:Addr->Prop}{H:Hp}{h:Heap}{e:Addr}{cls:Value}{M:Model}(F:Fly bad H h e cls):W.Looks M h (typeOf (.ref e)) cls:=by
 obtain⟨_,_,oe,vs,h1,h2,_⟩:=F
 subst h2
 exact(W.Looks.ld h1).andThen .now
theorem uS{x:Str}{np:Pos}{C:Value}(hg:Gl X x)(hm:X.mg x=some C)(hd:(x ==("__debug__":Str))=false:=by decide):PX X (.Name x np) (λcls=>W.exmOne X.K cls C):=by
 intro pins s σ H e cls b Q E I F hp h
 have I2:Inv (X.hand e) pins σ H s:=I.hand
 refine LZ (X:=X.hand e) I2 hg hm ?_ hd
 exact W.exm_one I.kIn (uR F) hp _ _ _ s (λ_ _ z=>z) (h s I F)
theorem uT{M:Model}{A:Around}{E:Value->Shared->Prop}{s:Shared}{bad:Addr->Prop}{H:Hp}{fr:List Addr}{e:Addr}{cls:Value}{Q:Unit->Shared->Prop}(F:Fly bad H s.heap e cls)
  (h:∀ h',R5 fr bad H e cls s.heap h'->Q () { s with heap:=h' }):wpAny M A (setFlight (.ref e) none) Q E s:=by
 have F0:=F
 obtain⟨nb,frr,oe,vs,he,hcls,hdict,hd,htb⟩:=F
 unfold setFlight
 rcases htb with h1 | ⟨T,oT,ts,h1,nbT,frT,neT,eT,dT,h3⟩
 ·refine wpAny_bind (wpAny_field he hd h1 ?_)
  rw[if_neg (by decide)]
  exact wpAny_pure (h s.heap ⟨⟨[],(λb hb=>nomatch hb),λb o eb _ _=>eb,λb o eb _=>⟨o.slots,eb⟩⟩,F0⟩)
 ·refine wpAny_bind (wpAny_field he hd h1 ?_)
  rw[if_pos (show(Value.ref T != Value.none)=true from by simp)]
  have hs3:3<ts.size:=(Array.getElem?_eq_some_iff.mp h3).1
  refine wpAny_setField eT dT hs3 (h _ ?_)
  have oth:∀ b,b≠T->(s.heap.update T (Obj.mapFields (·.setIfInBounds 3 ((none:Option Addr).elim Value.none λf=>rawInt f)))).get? b=s.heap.get? b:=λb hb'=>Heap.get?_update_other _ _ (Ne.symm hb')
  refine⟨⟨[T],λb hb=> ?_,λb o eb hb _=>(oth b λz=>hb (by simp[z])).trans eb,λb o eb hb=>⟨o.slots,(oth b λz=>hb (by simp[z])).trans eb⟩⟩,nb,frr,oe,vs,(oth e (Ne.symm neT)).trans he,hcls,hdict,hd,.inr ⟨T,_,_,h1,nbT,frT,neT,Heap.get?_update_self _ eT (Obj.isFreed_of_fields (Obj.data_mapFields dT _)),Obj.data_mapFields dT _,by simp[hs3]⟩⟩
  rw[List.mem_singleton]at hb
  subst hb
  exact⟨nbT,frT,oT,ts,eT,dT⟩
theorem SP.unhand{pins:List (Addr × Obj)}{D:Ends}{e:Addr}{f:Flow}{s:Shared}(ok:X.Ok)(h:SP (X.hand e) pins D f s):SP X pins D f s:=by
 cases f with
 | next=>obtain⟨σ1,H1,I1,q⟩:=h;exact⟨σ1,H1,I1.unhand ok,q⟩
 | brk=>obtain⟨σ1,H1,I1,q⟩:=h;exact⟨σ1,H1,I1.unhand ok,q⟩
 | cont=>obtain⟨σ1,H1,I1,q⟩:=h;exact⟨σ1,H1,I1.unhand ok,q⟩
 | ret u=>obtain⟨v,σ1,H1,I1,r,q⟩:=h;exact⟨v,σ1,H1,I1.unhand ok,r,q⟩
theorem uU{t:Expr}{n:Str}{i:Nat}{b₀:Stmt}{suite:List Stmt}{hp:Pos}{p:Value->Option Bool}{ts:TS}{CT:List ExceptHandler}{tr:TH}(hN:X.N.Nodup)(hi:X.N[i]? =some n)(hl:X.env.scope.names.lookup n=some .local)(ht:PX X t p)
  (hsu:∀ e,PSs (X.hand e) (b₀::suite) ts) (hr:PH X CT tr):PH X (.ExceptHandler (some t) (some n) (b₀::suite) hp::CT) (aT p i ts tr):=by
 intro pins s σ H D e cls hx I F h
 have hmain:∃ b,p cls=some b/\(b=true->∀ e,H e=none->ts (D.drop i) (σ.set i (some (.ref e))) (upd H e (.ext (FR e cls))))/\(b=false->tr cls D σ H):=by
  rcases h with⟨h1,h2⟩ | ⟨h1,h2⟩
  ·exact⟨true,h1,λ_=>h2,λz=>nomatch z⟩
  ·exact⟨false,h1,(λz=>nomatch z),λ_=>h2⟩
 obtain⟨b,hp',hT,hF⟩:=hmain
 refine wpAny_handleBy_cons (codeAny_handlers_test (ht pins s σ H e cls b _ _ I F hp' λs' I' F'=> ?_)) (by intro z;cases z)
 cases b with
 | false=>exact hr pins s' σ H D e cls hx I' F' (hF rfl)
 | true =>
  refine codeAny_handlers_suite_as (uT (fr:=DO X.stack) F' λh' N=> ?_)
  have I2:=I'.noted N
  obtain⟨nb,fr,oe,vs,he,hcls,hdict,hd,_⟩:=N.fly
  have I3:Inv X pins σ (upd H e (.ext (FR e cls))) { s' with heap:=h' }:=by
   have hs0:X.s₀.heap.get? e=none:=by
    cases q:X.s₀.heap.get? e with
    | none=>rfl
    | some o=>exact absurd (.inl (by rw[q];simp)) nb
   have ltH:∀ b o,H b=some o->b≠e:=λb o eb z=>by rw[z,fr]at eb;cases eb
   refine⟨I2.ok,I2.os,I2.bare,⟨I2.base.keep,I2.base.slot,λb o eb n' hx'=> ?_,I2.base.there,λb xs eb=> ?_,λb o u eb=> ?_,λb ps eb=> ?_⟩,I2.loc,I2.cell,?_,λx c ec=> ?_,λp hp=> ?_,I2.hok.track fr ?_,I2.len⟩
   ·rw[AQ (λz=>by rw[z,hs0]at eb;cases eb)];exact I2.base.free b o eb n' hx'
   ·rw[AQ (ltH _ _ (I2.base.tups b xs eb))];exact I2.base.tups b xs eb
   ·rw[AQ (ltH _ _ (I2.base.frzs b o u eb))];exact I2.base.frzs b o u eb
   ·obtain⟨m,q⟩:=I2.base.tbls b ps eb
    exact⟨m,by rw[AQ (ltH _ _ q)];exact q⟩
   ·obtain⟨m,⟨oL,es,ep,hoL,dL,_⟩,_⟩:=I2.loc
    rw[AQ (λz=>by rw[z]at hoL;rw[show h'.get? e=some oe from he]at hoL;cases hoL;rw[hd]at dL;cases dL)]
    exact I2.free
   ·obtain⟨v,oc,hoc,hdc⟩:=I2.cell x c ec
    rw[AQ (λz=>by rw[z]at hoc;rw[show h'.get? e=some oe from he]at hoc;cases hoc;rw[hd]at hdc;cases hdc)]
    exact I2.freeC x c ec
   ·obtain⟨q1,q2,q3⟩:=I2.pin p hp
    refine⟨q1,?_,q3⟩
    rw[AQ (λz=>nb (.inr ⟨p,hp,z⟩))];exact q2
   ·refine⟨⟨oe,vs,he,hcls,hdict,hd⟩,⟨oe,he⟩,λh1 h2 hq k=> ?_⟩
    obtain⟨o1,v1,z1,z2⟩:=hq
    exact⟨o1,v1,k _ z1,z2⟩
  refine OH I3 hN hi (.inl hl) (show RelV (.ref e) (.ref e)from rfl) (λs4 I4=> ?_) (.inr hl)
  refine wpAny_mono (hsu e pins s4 _ _ (D.drop i) I4.hand (hT rfl e fr)) (λf s5 h5=> ?_) λ_ _ z=>z.elim
  have h6:=h5.unhand I.ok
  show wpAny _ _ (do bindName X.env n .none;unbindBehindTheSuite X.env n hp) _ _ _
  cases f with
  | next =>
   obtain⟨σ1,H1,I1,q⟩:=h6
   exact O9 I1 hN hi hl λs7 I7=>⟨_,H1,I7,q⟩
  | brk =>
   obtain⟨σ1,H1,I1,q⟩:=h6
   exact O9 I1 hN hi hl λs7 I7=>⟨_,H1,I7,q⟩
  | cont =>
   obtain⟨σ1,H1,I1,q⟩:=h6
   exact O9 I1 hN hi hl λs7 I7=>⟨_,H1,I7,q⟩
  | ret u =>
   obtain⟨v,σ1,H1,I1,r,q⟩:=h6
   exact O9 I1 hN hi hl λs7 I7=>⟨v,_,H1,I7,r,q⟩
theorem uV(hx:X.ex=[])(hcalm:X.calm=true)(hst:X.stack=X.env::X.outer)(hfr:X.env.frame=some X.env.locals)(hb:∀ (E:St->XK) (pn:List (Addr × Obj)) (xe:Value->Shared->Prop),XOk (X.tri pn xe) E->PSs (X.tri pn xe) body (tb E))(hh:PH X (h₀::hs) th) :
  PS X (.Try body (h₀::hs) [] [] pos) (R7 tb th):=by
 intro pins s σ H D I h
 refine wpAny_Try_except ?_
 let xe:Value->Shared->Prop:=λe s₁=>wpAny (model X.prog X.w) X.A (noteFrame e X.env) (λ_ s₂=>wpAny (model X.prog X.w) X.A (setFlight e none) (λ_ s₃=>wpAny (model X.prog X.w) X.A (handleBy e X.env (h₀::hs)) (SP X pins D) X.xe s₃) X.xe s₂) X.xe s₁
 have xok:XOk (X.tri (X.pn++pins) xe) (λσ' cls _ H'=>th cls D σ' H'):=by
  refine⟨PassesOwn.looking,hx,hcalm,λpl σ' H' s' e cls I' F' q=> ?_⟩
  have Iu:=I'.untri
  refine aO (hst ▸ Iu.ok.frames) (hst ▸ Iu.stack) hfr F' (λa z=>I'.notbad hx (aP z)) (λa z=>I'.hok.fresh z) λh' N=> ?_
  rw[<-hst]at N
  have I2:Inv (X.tri (X.pn++pins) xe) pl σ' H' { s' with heap:=h' }:=I'.noted N
  exact hh pins _ σ' H' D e cls hx I2.untri (N.fly.mono λa z=>by
   rcases z with z | ⟨p,hp,z⟩
   ·exact .inl z
   ·exact .inr ⟨p,List.mem_append_left _ hp,z⟩) q
 refine wpAny_mono (hb _ _ xe xok [] s σ H D I.tri h) (λf s1 hs1=> ?_) λ_ _ z=>z
 cases f with
 | next =>
  obtain⟨σ1,H1,I1,q⟩:=hs1
  exact wpAny_execs_nil ⟨σ1,H1,I1.untri,q⟩
 | brk=>obtain⟨σ1,H1,I1,q⟩:=hs1;exact⟨σ1,H1,I1.untri,q⟩
 | cont=>obtain⟨σ1,H1,I1,q⟩:=hs1;exact⟨σ1,H1,I1.untri,q⟩
 | ret u=>obtain⟨v,σ1,H1,I1,r,q⟩:=hs1;exact⟨v,σ1,H1,I1.untri,r,q⟩
end
end L2
namespace L2
mutual
inductive Rep(K:W.Frag)(H:Hp):V->PyData->Prop
 | non:Rep K H .non .none
 | bl (b:Bool):Rep K H (.bl b) (.bool b)
 | int (i:Int):Rep K H (.int i) (.int i)
 | str (x:Str):Rep K H (.str x) (.str x)
 | lst {a:Addr} {xs:List V} {ds:List PyData}:SqL K H a xs->RepAll K H xs ds->Rep K H (.ref a) (.list ds)
 | tup {a:Addr} {xs:List V} {ds:List PyData}:SqT K H a xs->RepAll K H xs ds->Rep K H (.ref a) (.tuple ds)
inductive RepAll(K:W.Frag)(H:Hp):List V->List PyData->Prop
 | nil:RepAll K H [] []
 | cons {v:V} {d:PyData} {vs:List V} {ds:List PyData}:Rep K H v d->RepAll K H vs ds->RepAll K H (v::vs) (d::ds)
end
section
variable{X:Cx}{pins:List (Addr × Obj)}{σ:St}{H:Hp}{s:Shared}
mutual
theorem Rep.reads(I:Inv X pins σ H s):∀ {v:V} {d:PyData} {u:Value},Rep X.K H v d->RelV v u->∃ as,Reads s.heap u d as
 | _,_,_,.non,r=>by cases (show _=Value.none from r);exact⟨_,.none⟩
 | _,_,_,.bl b,r=>by cases (show _=Value.bool b from r);exact⟨_,.bool b⟩
 | _,_,_,.int i,r=>by obtain⟨t,e⟩:=(show ∃ t,_=Value.int i t from r);cases e;exact⟨_,.int i t⟩
 | _,_,_,.str x,r=>by obtain⟨t,e⟩:=(show ∃ t,_=Value.str x t from r);cases e;exact⟨_,.str x t⟩
 | _,_,_,.lst (a:=a) h hr,r=>by
  cases (show _=Value.ref a from r)
  obtain⟨its,rv,p,_⟩:=I.list h
  obtain⟨as,q⟩:=RepAll.reads I hr rv
  obtain⟨o,e1,e2,n,e3⟩:=p.isList
  exact⟨_,.list e1 e2 e3 q⟩
 | _,_,_,.tup (a:=a) h hr,r=>by
  cases (show _=Value.ref a from r)
  obtain⟨its,rv,p,_⟩:=I.tuple h
  obtain⟨as,q⟩:=RepAll.reads I hr rv
  obtain⟨o,e1,e2,n,e3⟩:=p
  exact⟨_,.tuple e1 e2 e3 q⟩
theorem RepAll.reads(I:Inv X pins σ H s):∀ {vs:List V} {ds:List PyData} {us:List Value},RepAll X.K H vs ds->Vals vs us->∃ as,ReadsAll s.heap us ds as
 | _,_,_,.nil,.nil=>⟨_,.nil⟩
 | _,_,_,.cons h hr,.cons r rr=>by
  obtain⟨as,q⟩:=Rep.reads I h r
  obtain⟨bs,q2⟩:=RepAll.reads I hr rr
  exact⟨_,.cons q q2⟩
end
end
abbrev shp(d:PyData):Prop:=PySem.SeqAt.shaped d=true
def BL(K:W.Frag):R2:=λx y H Q=>if DW x y=true then Q (.bl (decide (x=y))) H else ∃ d e,Rep K H x d/\Rep K H y e/\shp d/\shp e/\Q (.bl (PyData.eqv d e)) H
def CJ(K:W.Frag):R2:=λx y H Q=>if DW x y=true then Q (.bl (!decide (x=y))) H else ∃ d e,Rep K H x d/\Rep K H y e/\shp d/\shp e/\Q (.bl (!PyData.eqv d e)) H
section
variable{X:Cx}
theorem CK(hu:X.A.units+64<cLine):OpR X (compareOp .Eq) (BL X.K):=by
 intro pins s σ H x y v u Q I rx ry h
 unfold BL at h
 split at h
 ·rename_i hs
  exact rN pins s σ H x y v u Q I rx ry ⟨hs,h⟩
 ·obtain⟨d,e,rd,re,sd,se,q⟩:=h
  obtain⟨as,ra⟩:=rd.reads I rx
  obtain⟨bs,rb⟩:=re.reads I ry
  exact eq_dataH ra rb sd se hu ⟨.bl _,H,I,rfl,q⟩
theorem FS(hu:X.A.units+64<cLine):OpR X (compareOp .NotEq) (CJ X.K):=by
 intro pins s σ H x y v u Q I rx ry h
 unfold CJ at h
 split at h
 ·rename_i hs
  exact rO pins s σ H x y v u Q I rx ry ⟨hs,h⟩
 ·obtain⟨d,e,rd,re,sd,se,q⟩:=h
  obtain⟨as,ra⟩:=rd.reads I rx
  obtain⟨bs,rb⟩:=re.reads I ry
  exact ne_dataH ra rb sd se hu ⟨.bl _,H,I,rfl,q⟩
def R8(K:W.Frag):R2:=λx y H Q=>∃ a b ys,x=.ref a/\y=.ref b/\SqT K H a []/\SqT K H b ys/\Q (.ref b) H
theorem uW:OpR X (binaryOp .Add) (R8 X.K):=by
 intro pins s σ H x y v u Q I rx ry h
 obtain⟨a,b,ys,rfl,rfl,ha,hb,q⟩:=h
 cases rx
 cases ry
 obtain⟨its,r1,⟨⟨c1,c2,c3,c4⟩,e1,e2,n1,e3⟩,_⟩:=I.tuple ha
 obtain⟨its2,r2,⟨⟨d1,d2,d3,d4⟩,f1,f2,n2,f3⟩,_⟩:=I.tuple hb
 obtain rfl:c1=_:=e2
 obtain rfl:c3=_:=e3
 obtain rfl:d1=_:=f2
 obtain rfl:d3=_:=f3
 cases r1
 exact concat_meets ⟨_,e1,rfl⟩ ⟨_,f1,rfl⟩ noFill_tuple_add seq_tuple_add PySem.F.slot_tuple_add PySem.F.entry_tuple_add (PySem.F.args_tuple_add_2 _ _) (tuple_addW0 a b #[] its2.toArray n1 n2 c2 d2 c4 d4 rfl) ⟨e1,f1,.ref b,H,I,rfl,q⟩
def BE(K:W.Frag):R2:=λx y H Q=>match x,y with
 | .int i,.int j=>Q (.int (i+j)) H
 | .str i,.str j=>i.length+j.length<=sizeLine/\Q (.str (i++j)) H
 | .ref _,.ref _=>RS x y H Q\/RK K x y H Q\/R8 K x y H Q
 | _,_=>False
theorem BK:OpR X (binaryOp .Add) (BE X.K):=by
 intro pins s σ H x y v u Q I rx ry h
 cases x<;>cases y<;>simp only[BE]at h
 ·exact rG pins s σ H _ _ v u Q I rx ry ⟨_,_,rfl,rfl,h⟩
 ·exact rW pins s σ H _ _ v u Q I rx ry ⟨_,_,rfl,rfl,h⟩
 ·rcases h with h | h
  ·exact tS pins s σ H _ _ v u Q I rx ry h
  rcases h with h | h
  ·exact sX pins s σ H _ _ v u Q I rx ry h
  ·exact uW pins s σ H _ _ v u Q I rx ry h
def IG:R2:=λx y H Q=>match x,y with
 | .int i,.int j=>Q (.bl (decide (i<j))) H
 | .str i,.str j=>Q (.bl (decide (i.cps.toList<j.cps.toList))) H
 | _,_=>False
def MK:R2:=λx y H Q=>match x,y with
 | .int i,.int j=>Q (.bl (decide (i<=j))) H
 | .str i,.str j=>Q (.bl (!decide (j.cps.toList<i.cps.toList))) H
 | _,_=>False
end
end L2
namespace L2
theorem uX:fillsNumberSlot (.type "tuple") "mul"=pure false :=
 PySem.fillsNumberSlot_seq (id:="tuple.__mul__") (r:=some (.builtin "tuple.__rmul__")) F.slot_tuple_mul.lookup (by decide +kernel) F.slot_tuple_rmul.lookup (by decide +kernel)
theorem uY:seqRepeat? (.type "tuple")=pure (some (.builtin "tuple.__mul__")):=by
 unfold seqRepeat?
 rw[PySem.seqSlot_of (T:="tuple") (name:="__mul__") (id:="tuple.__mul__") F.slot_tuple_mul.lookup (by decide +kernel),PySem.seqSlot_of (T:="tuple") (name:="__rmul__") (id:="tuple.__rmul__") F.slot_tuple_rmul.lookup (by decide +kernel)]
 rfl
theorem uZ(a:Int)(t:Tok)(l:Addr)(items:Array Value)(dd:Option Addr)(n:Nat)(sl:Array (Option Value)) :
  Meets (Builtin.«int.__rmul__» ⟨[.int a t,.ref l],[]⟩) (λ_ R s=>s.heap.get? l=some ⟨.type "tuple",dd,.seq items n,sl⟩/\R (.ok (.ret Value.notImplemented)) s) :=
 .of_wp λprog w A R s h=>by obtain⟨hp,g,d,tk,os⟩:=s;obtain⟨hl,h⟩:=h;wp_walk;exact⟨_,rfl,h⟩
theorem u0(l:Addr)(items:Array Value)(dd:Option Addr)(n:Nat)(sl:Array (Option Value))(x:Int)(u:Tok)(h1:1<x)(h2:x<2 ^ 63)(hne:items.isEmpty=false)(hz:items.size * x.toNat<=sizeLine) :
  Meets (Builtin.«tuple.__mul__» ⟨[.ref l,.int x u],[]⟩) (λ_ R s=>s.heap.get? l=some ⟨.type "tuple",dd,.seq items n,sl⟩ ∧
   R (.ok (.ret (Value.ref s.heap.objs.size))) { s with heap:=s.heap.push { cls:=Value.type "tuple",data:=Data.seq (List.foldl (λx1 x2=>x1++x2) #[] (List.replicate x.toNat items)) } }) :=
 .of_wp λprog w A R s h=>by
  obtain⟨hp,g,d,tk,os⟩:=s;obtain⟨hl,h⟩:=h
  have hsl:(sizeLine:Nat)<=(2 ^ 63 - 1) / 8:=by decide
  have hlen:(List.foldl (λx1 x2=>x1++x2) #[] (List.replicate x.toNat items)).size<=sizeLine:=by
   have:=OZ items.toList x.toNat []
   simp only[List.nil_append,Array.toArray_toList]at this
   rw[this]
   simp only[List.size_toArray,List.length_flatten,List.map_replicate,List.sum_replicate_nat,Array.length_toList]
   rw[Nat.mul_comm];exact hz
  have hx:∃ N:Nat,(items.size:Int) * x=(N:Int)/\N<=sizeLine:=⟨items.size * x.toNat,by rw[Int.natCast_mul,Int.toNat_of_nonneg (by omega)],hz⟩
  obtain⟨N,hx,hN⟩:=hx
  unfold Builtin.«tuple.__mul__»
  wp_walk
  refine wpAny_ite_false (by simp;omega) ?_
  wp_walk
  refine wpAny_ite_false (by simp only[hne,Bool.false_or];simp;omega) ?_
  refine wpAny_ite_false (by simp only[hne,Bool.or_false];simp;omega) ?_
  refine wpAny_ite_false (by rw[hx];exact decide_eq_false (by omega)) ?_
  refine wpAny_ite_false (by rw[hx];unfold Builtin.Tuple.tupleTooMany;simp;omega) ?_
  wp_walk
  exact⟨_,rfl,h⟩
theorem vA(l:Addr)(items:Array Value)(dd:Option Addr)(n:Nat)(sl:Array (Option Value))(u:Tok) :
  Meets (Builtin.«tuple.__mul__» ⟨[.ref l,.int 1 u],[]⟩) (λ_ R s=>s.heap.get? l=some ⟨.type "tuple",dd,.seq items n,sl⟩/\R (.ok (.ret (Value.ref l))) s) :=
 .of_wp λprog w A R s h=>by
  obtain⟨hp,g,d,tk,os⟩:=s;obtain⟨hl,h⟩:=h
  unfold Builtin.«tuple.__mul__»
  wp_walk
  exact⟨_,rfl,h⟩
def R9(K:W.Frag):R2:=λx y H Q=>∃ a k xs,x=.ref a/\y=.int k/\SqT K H a xs/\xs≠[]/\1<=k/\k<2 ^ 63/\xs.length * k.toNat<=sizeLine ∧
 (k=1->Q (.ref a) H)/\(k≠1->∀ p,H p=none->Q (.ref p) (upd H p (.tup (List.replicate k.toNat xs).flatten)))
section
variable{X:Cx}
theorem Inv.tnew{pins:List (Addr × Obj)}{σ:St}{H:Hp}{s:Shared}{ys:List V}{its:List Value}(I:Inv X pins σ H s)(hv:Vals ys its)(hz:ys.length<=sizeLine) :
  Inv X pins σ (upd H s.heap.objs.size (.tup ys)) { s with heap:=s.heap.push { cls:=.type "tuple",data:=.seq its.toArray } } :=
 I.laid (t':=s.toks) (λ_ _ q=>Heap.get?_push_of_some _ q) (Nat.le_refl _) ⟨hz,its,hv,_,Heap.get?_push_size _ rfl,rfl,0,rfl⟩
theorem vB:OpR X (binaryOp .Mult) (R9 X.K):=by
 intro pins s σ H x y v u Q I rx ry h
 obtain⟨a,k,xs,rfl,rfl,hx,hne,h1,h2,hz,q1,q2⟩:=h
 cases rx
 obtain⟨t,rfl⟩:=ry
 obtain⟨its,r,⟨⟨c1,c2,c3,c4⟩,e1,e2,n,e3⟩,_⟩:=I.tuple hx
 obtain rfl:c1=_:=e2
 obtain rfl:c3=_:=e3
 have hl:=r.length
 have he:its.toArray.isEmpty=false:=by
  cases its with
  | nil=>exact absurd (List.length_eq_zero_iff.mp hl) hne
  | cons b t=>rfl
 refine wpAny_binaryOp_repeat_ref (T:="tuple") (U:="int") (by decide) ⟨_,e1,rfl⟩ (λs'=>typeIs_int s' k t) uX F.fills_int_mul F.slot_int_rmul uY F.slot_int_index.lookup
  (call_meets F.slot_int_rmul (typeIs_int s k t) F.entry_int_rmul (F.args_int_rmul_2 _ _) (uZ k t a its.toArray c2 n c4) ⟨e1,rfl,⟨_,e1,rfl⟩,?_⟩)
 by_cases hk:k=1
 ·subst hk
  exact call_meets F.slot_tuple_mul ⟨_,e1,rfl⟩ F.entry_tuple_mul (F.args_tuple_mul_2 _ _) (vA a its.toArray c2 n c4 t) ⟨e1,.ref a,H,I,rfl,q1 rfl⟩
 ·refine call_meets F.slot_tuple_mul ⟨_,e1,rfl⟩ F.entry_tuple_mul (F.args_tuple_mul_2 _ _) (u0 a its.toArray c2 n c4 k t (by omega) h2 he (by rw[List.size_toArray,<-hl];exact hz)) ⟨e1,?_⟩
  have f0:=OZ its k.toNat []
  rw[List.nil_append]at f0
  rw[f0]
  exact⟨.ref _,_,I.tnew (r.rep k.toNat) (by rw[Z8,Nat.mul_comm];exact hz),rfl,q2 hk _ I.fresh⟩
abbrev ML:R2:=F5 λi j=>.int (i - j)
abbrev BO:R2:=rI (λ_ j=>0<j) λi j=>.int (i % j)
abbrev E5:R2:=rI ZA λi j=>.int (i / j)
abbrev aU:R2:=rI ZB λi j=>.int (i ^ j.toNat)
abbrev vC:V->Hp->VK->Prop:=rU λi=>.int (-i)
abbrev vD:ON:=RA λi j=>i+j
def IH(z:Str)(k:Int):Str:=if k<1 then Str.empty else if(k == 1 || z.length == 0)=true then z else⟨(List.replicate k.toNat z.cps).foldl (· ++·) #[]⟩
theorem vE(z:Str)(k:Nat):(Str.mk ((List.replicate k z.cps).foldl (· ++·) #[])).length=k * z.length:=by
 have e:∀ (m:Nat) (acc:Array Nat),((List.replicate m z.cps).foldl (· ++·) acc).size=acc.size+m * z.cps.size:=λm=>by
  induction m with
  | zero=>intro acc;simp
  | succ m ih=>intro acc;rw[List.replicate_succ,List.foldl_cons,ih,Array.size_append,Nat.succ_mul];omega
 have:=e k #[]
 simpa [Str.length]using this
def vF:R2:=λx y H Q=>∃ z k,x=.str z/\y=.int k/\0<=k/\k<=1000/\z.length<=1000/\Q (.str (IH z k)) H
theorem vG:OpR X (binaryOp .Mult) vF:=by
 intro pins s σ H x y v u Q I rx ry h
 obtain⟨z,k,rfl,rfl,h1,h2,h3,q⟩:=h
 obtain⟨t,rfl⟩:=rx
 obtain⟨t',rfl⟩:=ry
 refine PySem.P.mul_str (by simp;omega) (λa _=> ?_) (λa _=> ?_) ?_
 ·have:(1000:Int)<=(2 ^ 63 - 1) / k:=(Int.le_ediv_iff_mul_le (by omega)).mpr (by omega)
  omega
 ·have h4:z.length * k.toNat<=1000 * 1000:=Nat.mul_le_mul h3 (by omega)
  have h5:(1000 * 1000:Nat)<=sizeLine:=by decide
  unfold Builtin.Str.tooLong
  exact decide_eq_false (by omega)
 ·unfold IH at q
  split
  ·rename_i c
   rw[if_pos c]at q
   exact⟨by show(0:Nat)<=sizeLine;omega,.str _,H,I.tok _,⟨_,rfl⟩,q⟩
  ·rename_i c
   rw[if_neg c]at q
   split
   ·rename_i d
    rw[if_pos d]at q
    exact⟨.str _,H,I,⟨_,rfl⟩,q⟩
   ·rename_i d
    rw[if_neg d]at q
    exact⟨by rw[vE];have:=Nat.mul_le_mul (show k.toNat<=1000 by omega) h3;show _<=2 ^ 24;omega,.str _,H,I.tok _,⟨_,rfl⟩,q⟩
def DX(K:W.Frag):R2:=λx y H Q=>match x,y with
 | .int i,.int j=>CMul i j/\Q (.int (i * j)) H
 | .str z,.int k=>0<=k/\k<=1000/\z.length<=1000/\Q (.str (IH z k)) H
 | .ref _,.int _=>RU x y H Q\/R9 K x y H Q
 | _,_=>False
theorem EW:OpR X (binaryOp .Mult) (DX X.K):=by
 intro pins s σ H x y v u Q I rx ry h
 cases x<;>cases y<;>simp only[DX]at h
 ·exact rH pins s σ H _ _ v u Q I rx ry ⟨_,_,rfl,rfl,h⟩
 ·exact vG pins s σ H _ _ v u Q I rx ry ⟨_,_,rfl,rfl,h⟩
 ·rcases h with h | h
  ·exact tT pins s σ H _ _ v u Q I rx ry h
  ·exact vB pins s σ H _ _ v u Q I rx ry h
def GD:R2:=λx y H Q=>match x,y with
 | .int i,.int j=>Q (.bl (decide (j<i))) H
 | _,_=>False
def PB:R2:=λx y H Q=>match x,y with
 | .int i,.int j=>Q (.bl (decide (j<=i))) H
 | _,_=>False
theorem PD:OpR X (compareOp .Lt) IG:=by
 intro pins s σ H x y v u Q I rx ry h
 cases x<;>cases y<;>simp only[IG]at h
 ·exact rP pins s σ H _ _ v u Q I rx ry ⟨_,_,rfl,rfl,h⟩
 ·obtain⟨t,rfl⟩:=rx
  obtain⟨t',rfl⟩:=ry
  exact PySem.P.lt_str ⟨.bl _,H,I,rfl,h⟩
theorem vH:OpR X (compareOp .LtE) MK:=by
 intro pins s σ H x y v u Q I rx ry h
 cases x<;>cases y<;>simp only[MK]at h
 ·exact rQ pins s σ H _ _ v u Q I rx ry ⟨_,_,rfl,rfl,h⟩
 ·obtain⟨t,rfl⟩:=rx
  obtain⟨t',rfl⟩:=ry
  exact PySem.P.le_str ⟨.bl _,H,I,rfl,h⟩
theorem II:OpR X (compareOp .Gt) GD:=by
 intro pins s σ H x y v u Q I rx ry h
 cases x<;>cases y<;>simp only[GD]at h
 exact rR pins s σ H _ _ v u Q I rx ry ⟨_,_,rfl,rfl,h⟩
theorem vI:OpR X (compareOp .GtE) PB:=by
 intro pins s σ H x y v u Q I rx ry h
 cases x<;>cases y<;>simp only[PB]at h
 exact rS pins s σ H _ _ v u Q I rx ry ⟨_,_,rfl,rfl,h⟩
abbrev FT:R2:=λx y H Q=>y=.non/\Q (.bl (decide (x=.non))) H
abbrev GE:R2:=λx y H Q=>y=.non/\Q (.bl (!decide (x=.non))) H
variable{a:Expr}{ta:TE}{tA:TT}{pos:Pos}
abbrev KY(K:W.Frag)(ta:TE):TT:=λσ H Q=>ta σ H λx H'=>∃ k,FL K x H' k/\Q k H'
def AI(K:W.Frag):R2:=Z2 K
theorem AZ:IxR X (AI X.K):=tF
def vJ:V->Option Int->Option Int->Hp->VK->Prop:=λx lo hi H Q=>∃ z,x=.str z/\z.length<=sizeLine/\Q (.str (Txt.slice z lo hi)) H
theorem aV{v:Value}{lo:Option Int}(p:IsPart v lo):∃ l:Option (Int × Tok),v=partValue l/\l.map (·.1)=lo:=by
 cases p with
 | none=>exact⟨none,rfl,rfl⟩
 | int i t=>exact⟨some (i,t),rfl,rfl⟩
theorem vK:SlR X vJ:=by
 intro pins s σ H x v vl vu lo hi sl Q I rx hs pl pu h
 obtain⟨z,rfl,hz,q⟩:=h
 obtain⟨t,rfl⟩:=rx
 obtain⟨l,rfl,rfl⟩:=aV pl
 obtain⟨u,rfl,rfl⟩:=aV pu
 refine⟨"str",_,PySem.F.slot_str_getitem.lookup,typeIs_str _ _ _,?_⟩
 exact wpAny_getItem_str_slice (l:=l) (u:=u) (st:=none) hs rfl (post_val_or_str ⟨Nat.le_trans (Txt.slice_le z _ _) hz,λt' k=>⟨.str _,H,I.tok k,⟨t',rfl⟩,q⟩⟩)
def JI(K:W.Frag):V->Option Int->Option Int->Hp->VK->Prop:=λx lo hi H Q=>match x with
 | .str z=>z.length<=sizeLine/\Q (.str (Txt.slice z lo hi)) H
 | _=>Z4 K x lo hi H Q\/ZX K x lo hi H Q
theorem PJ:SlR X (JI X.K):=by
 intro pins s σ H x v vl vu lo hi sl Q I rx hs pl pu h
 cases x<;>first
  | exact vK pins s σ H _ v vl vu lo hi sl Q I rx hs pl pu ⟨_,rfl,h⟩
  | exact(SlR.or tK sW) pins s σ H _ v vl vu lo hi sl Q I rx hs pl pu h
abbrev CN:V->V->V->Hp->(Hp->Prop)->Prop:=Z3
theorem DH:Q9 X CN:=tH
def DE(K:W.Frag)(tl:TE):TI:=λσ H R=>tl σ H λx H1=>∃ a,x=.ref a/\(((∃ xs,SqL K H1 a xs)/\R (FI K a) H1)\/((∃ xs,SqT K H1 a xs)/\R (L8 K a) H1))
theorem PI.or{tg it:Expr}{w1 w2:TI}(h1:PI X tg it w1)(h2:PI X tg it w2):PI X tg it (λσ H R=>w1 σ H R\/w2 σ H R):=λpins s σ H R I h=>h.elim (h1 pins s σ H R I) (h2 pins s σ H R I)
def CC(K:W.Frag):List V->Hp->VK->Prop:=λxs H Q=>∃ x n,xs=[x]/\KP K x H n/\Q (.int n) H
theorem CL:CallR X (.builtin "len") (CC X.K):=rZ
def JJ(K:W.Frag):List V->Hp->VK->Prop:=λxs H Q=>∃ p ys,xs=[.ref p]/\(SqL K H p ys\/SqT K H p ys)/\∀ l,H l=none->Q (.ref l) (upd H l (.lst ys))
theorem PK:CallR X (.type "list") (JJ X.K):=tN
def MM(K:W.Frag):List V->Hp->VK->Prop:=λxs H Q=>∃ p ys,xs=[.ref p]/\((SqL K H p ys/\∀ l,H l=none->Q (.ref l) (upd H l (.tup ys)))\/(SqT K H p ys/\Q (.ref p) H))
theorem aW:CallR X (.type "tuple") (MM X.K):=tO
def JK(K:W.Frag):List V->Hp->VK->Prop:=λxs H Q=>(∃ i,xs=[.int i]/\Q (.int i) H)\/∃ k,xs=[.bl k]/\Q (.int (if k then 1 else 0)) H
abbrev IJ:=RR
abbrev vL:=Z7
end
end L2
namespace L2
section
variable{X:Cx}{tg a:Expr}{ta:TE}{pos:Pos}
theorem DQ{l:Expr}{tl:TE}(hl:PE X l tl):PI X tg l (DE X.K tl):=by
 intro pins s σ H R I h
 refine AW (hl pins s σ H _ I h) λv s1 ⟨x,H1,I1,r1,q1⟩=> ?_
 obtain⟨a,e,q1⟩:=q1
 subst e
 cases r1
 have fp1:∀ b∈[s1.heap.objs.size],FpOk X pins H1 b:=λb hb=>by
  have e:b=s1.heap.objs.size:=by simpa using hb
  subst e
  exact I1.fpOk (Nat.le_refl _) (I1.hok.fresh (Nat.le_refl _))
 rcases q1 with⟨⟨xs,hq⟩,q⟩ | ⟨⟨xs,hq⟩,q⟩
 ·obtain⟨its,rv,p,hz⟩:=I1.list hq
  refine wpAny_pyIter_list p.isList ?_
  exact⟨s1.heap.objs.size,[s1.heap.objs.size],_,_,H1,rfl,I1.kept (t':=s1.toks) λb o e=>Heap.get?_push_of_some _ e,qX a _,⟨_,Heap.get?_push_size _ rfl,rfl,rfl⟩,fp1,q⟩
 ·obtain⟨its,rv,p,hz⟩:=I1.tuple hq
  refine wpAny_pyIter_tuple (show s1.heap.IsTuple a its.toArray from p) ?_
  exact⟨s1.heap.objs.size,[s1.heap.objs.size],_,_,H1,rfl,I1.kept (t':=s1.toks) λb o e=>Heap.get?_push_of_some _ e,qY a _,⟨_,Heap.get?_push_size _ rfl,rfl,rfl⟩,fp1,q⟩
def SA(K:W.Frag)(ta:TE):TE:=λσ H Q=>ta σ H λx H1=>∃ k,FL K x H1 k/\Q (.bl (!k)) H1
theorem vM(ha:PE X a ta):PE X (.UnaryOp .Not a pos) (SA X.K ta):=by
 intro pins s σ H Q I h
 refine UnaryOp_ (AW (ha pins s σ H _ I h) λv s1 ⟨x,H1,I1,r1,k,t1,q1⟩=> ?_)
 exact not_of (AW (ZH pins s1 σ H1 x v (λc H2=>c=k/\H2=H1) I1 r1 ⟨k,t1,rfl,rfl⟩) λc s2 ⟨H2,I2,e1,e2⟩=>by
  subst e1;subst e2;exact⟨.bl (!c),_,I2,rfl,q1⟩)
end
def SB(scope outer:Scope)(N cn:List Str)(cap:List Nat):Bool :=
 scope.kind == .function && scope.names.all (λy=>y.2 != .cell) && scope.names.all (λy=>y.2 != .local || scope.names.lookup y.1 == some .local) &&
 scope.names.all (λy=>y.2 != .free || outer.names.lookup y.1 == some .cell || outer.names.lookup y.1 == some .free) && cn.all (λx=>scope.names.lookup x == some .free) && (cap.map (λi=>N[i]?) == cn.map some)
theorem vN{X:Cx}{scope outer:Scope}{N tn cn:List Str}{cap:List Nat}(h1:X.env.scope=outer)(h2:X.N=N)(h:SB scope outer N cn cap=true):KU X scope tn cn cap:=by
 unfold SB at h
 simp only[Bool.and_eq_true,List.all_eq_true,Bool.or_eq_true,bne_iff_ne,beq_iff_eq]at h
 obtain⟨⟨⟨⟨⟨k1,k2⟩,k3⟩,k4⟩,k5⟩,k6⟩:=h
 refine⟨k1,k2,λy hy hl=>(k3 y hy).resolve_left λz=>z hl,λy hy hf=> ?_,k5,by rw[h2];exact k6⟩
 have z:=k4 y hy
 show X.env.scope.names.lookup y.1=_\/X.env.scope.names.lookup y.1=_
 rw[h1]
 rcases z with(z | z) | z
 ·exact absurd hf z
 ·exact .inl z
 ·exact .inr z
structure MN(K:W.Frag)(C:Addr):Prop where
 ga:W.findIn K (.ref C) "__getattribute__"=some (some (.builtin "BaseException.__getattribute__"))
 gt:W.findIn K (.ref C) "__getattr__"=some none
 be:W.mroIn K C (.type "BaseException")=some true
 cl:W.isClsIn K C=true
 ha:W.findIn K (.ref C) "__class__"=some (some (.builtin "object.__class__"))
 hn:W.specialIn K (.builtin "object.__class__") "__get__"=some (some (.builtin "getset_descriptor.__get__"))
 tk:W.takesIn K (.builtin "object.__class__")=some true
 mr:W.mroIn K C (.type "object")=some true
theorem vO{K:W.Frag}{C:Addr}{od:Option Obj}{name:Str}{a g:Value}(hc:(W.clsIn K C).isSome=true)(ha:W.findIn K (.ref C) name=some (some a))(hg:W.specialIn K a "__get__"=some (some g))(ht:W.takesIn K a=some true) :
  W.findObj K C od name=some (.bind g a):=by
 obtain⟨cd,hc⟩:=Option.isSome_iff_exists.mp hc
 unfold W.findObj
 rw[hc,Option.bind_some,ha,Option.bind_some]
 simp[hg,ht]
theorem vP{K:W.Frag}{M:Model}{A:Around}{E:Value->Shared->Prop}{Q:Unit->Shared->Prop}{s:Shared}{x D:Addr}{ox:Obj}{nm:Value}(c:MN K D)(X:K.In s.heap)(I:W.InstAt s.heap x ox D none)(k:Q () s) :
  wpAny M A (checkBuiltinCall "BaseException.__getattribute__" ⟨[.ref x,nm],[]⟩) Q E s:=by
 have e1:builtinKind "BaseException.__getattribute__"=some .slot:=by decide +kernel
 have e2:splitId "BaseException.__getattribute__"=some ("BaseException","__getattribute__"):=by decide +kernel
 have L:W.Looks M s.heap (isInstance (.ref x) (.type "BaseException")) true:=(I.type (M:=M)).andThen (W.looks_mroIn (M:=M) X c.be)
 have ar:=PySem.F.args_bexc_ga (.ref x) nm
 obtain⟨hh,g,d,t,os⟩:=s
 simp only[checkBuiltinCall,e1,e2]
 refine wpAny_bind (L.at ?_)
 simp only[Bool.not_true,Bool.false_eq_true,if_false]
 cases hs:Manifest.signature? "BaseException.__getattribute__" with
 | none=>exact wpAny_pure k
 | some sig =>
  simp only[argsOk,hs]at ar
  have z:Bind.checkArgs "BaseException.__getattribute__" sig ⟨[.ref x,nm],[]⟩=pure ():=ar
  show wpAny M A (Bind.checkArgs "BaseException.__getattribute__" sig ⟨[.ref x,nm],[]⟩) Q E _
  rw[z];exact wpAny_pure k
theorem vQ{K:W.Frag}{prog:Program}{w:World}{A:Around}{E:Value->Shared->Prop}{Q:Option Value->Shared->Prop}{s:Shared}{x D:Addr}{ox:Obj}(c:MN K D)(X:K.In s.heap)(I:W.InstAt s.heap x ox D none)
  (k:Q (some (.ref D)) { s with toks:=s.toks+1 }):wpAny (model prog w) A (getAttr? (.ref x) "__class__") Q E s:=by
 obtain⟨hh,g,d,t,os⟩:=s
 have L0:=I.type (M:=model prog w)
 have L1:=W.looks_findIn (M:=model prog w) X c.ga
 have L2:=W.looks_findIn (M:=model prog w) X c.gt
 have L3:=W.looks_find (M:=model prog w) X I (vO (name:="__class__") c.cl c.ha c.hn c.tk)
 unfold getAttr? getAttrBy? getAttrBy
 refine wpAny_bind (wpAny_mkText (wpAny_bind (wpAny_attempt (wpAny_holding (wpAny_bind (L0.at (wpAny_bind (L1.at ?_))))))))
 show wpAny _ _ (getAttrByItsOwn _ _ _ _ _ _) _ _ _
 unfold getAttrByItsOwn
 refine wpAny_bind (L2.at (wpAny_bind (wpAny_attempt (wpAny_holding ?_))))
 show wpAny _ _ (boundAndCalled _ _ _) _ _ _
 unfold boundAndCalled
 rw[PySem.F.attr_ValueError.ga.bind (.ref x)]
 refine wpAny_bind (wpAny_pure (wpAny_call (codeAny_call_builtin PySem.F.attr_ValueError.ga.plain PySem.F.entry_bexc_ga (vP c X I ?_))))
 refine wpAny_bind (wpAny_pure (wpAny_bind (wpAny_pure (wpAny_bind (L0.at (wpAny_bind (L3.at ?_)))))))
 show wpAny _ _ (holding [_] (call _ _) >>= ret) _ _ _
 refine wpAny_bind (wpAny_holding (wpAny_call (W.class_get (ox:=ox) (od:=none) X I c.mr (wpAny_pure ?_))))
 exact W.handed_on rfl (wpAny_pure k)
theorem vR{K:W.Frag}{x D:Addr}(c:MN K D):W.KitX K (.ref x) (.ref D) (FR x (.ref D)):=by
 have inst:∀ {h:Heap},FR x (.ref D) h->∃ ox,W.InstAt h x ox D none:=λ{h} ⟨oe,vs,e1,e2,e3,e4⟩=>by
  refine⟨oe,e1,e2,?_,?_⟩
  ·unfold W.notCls;rw[e4]
  ·rw[e3];trivial
 have cls:∃ cd,W.clsIn K D=some cd:=Option.isSome_iff_exists.mp c.cl
 refine⟨λM h _ p=>(inst p).elim λ_ I=>I.type,λM h X p=> ?_,λh tp dd its n sl X htp=> ?_,λ{prog w A E Q s} X p k=> ?_⟩
 ·obtain⟨cd,hc⟩:=cls
  unfold W.clsIn at hc
  split at hc
  ·rename_i c' d' cd' sl' ho
   intro A' Q' E' s' k q
   unfold isType loadHead
   exact wpAny_bind (wpAny_loadPart (k _ _ (X _ _ ho)) (wpAny_pure q))
  ·cases hc
 ·obtain⟨cd,hc⟩:=cls
  refine Bool.eq_false_iff.mpr λq=> ?_
  have e:D=tp:=Value.ref.inj (beq_iff_eq.mp q)
  subst e
  unfold W.clsIn at hc
  split at hc
  ·rename_i c' d' cd' sl' ho
   have z:=(X _ _ ho).symm.trans htp
   cases z
  ·cases hc
 ·obtain⟨ox,I⟩:=inst p
  exact vQ c X I k
def TyX(K:W.Frag)(H:Hp)(x:V)(t:Value):Prop:=FM K H x t\/∃ a C,x=.ref a/\t=.ref C/\H a=some (.ext (FR a (.ref C)))/\MN K C
inductive ClsV:V->Value->Prop
 | own (C:Addr):ClsV (.ref C) (.ref C)
 | ty (n:String):ClsV (.ty n) (.type n)
theorem ClsV.rel{y:V}{c u:Value}(h:ClsV y c)(r:RelV y u):u=c:=by
 cases h<;>exact r
theorem aX:∀ {ys:List V} {cs us:List Value},Paired ClsV ys cs->Vals ys us->us=cs
 | _,_,_,.nil,.nil=>rfl
 | _,_,_,.cons h t,.cons r rr=>by rw[h.rel r,aX t rr]
def KZ(K:W.Frag):List V->Hp->VK->Prop:=λxs H Q=>∃ x y t b,xs=[x,y]/\TyX K H x t ∧
 ((∃ c,ClsV y c/\W.kitOne K t c=some b)\/∃ p ys cs,y=.ref p/\SqT K H p ys/\Paired ClsV ys cs/\W.kitAny K t cs=some b)/\Q (.bl b) H
section
variable{X:Cx}
theorem TyX.kit{pins:List (Addr × Obj)}{σ:St}{H:Hp}{s:Shared}{x:V}{t u:Value}(I:Inv X pins σ H s)(h:TyX X.K H x t)(r:RelV x u):∃ φ :Heap->Prop,W.KitX X.K u t φ /\ φ s.heap/\u≠.builtin "__main__.__loader__#opaque":=by
 rcases h with h | ⟨a,C,rfl,rfl,e,c⟩
 ·cases h with
  | non=>cases (show u=Value.none from r);exact⟨_,W.kitx_none,trivial,λz=>nomatch z⟩
  | bl y=>cases (show u=Value.bool y from r);exact⟨_,W.kitx_bool,trivial,λz=>nomatch z⟩
  | int i=>obtain⟨t,q⟩:=(show ∃ t,u=Value.int i t from r);cases q;exact⟨_,W.kitx_int,trivial,λz=>nomatch z⟩
  | str y=>obtain⟨t,q⟩:=(show ∃ t,u=Value.str y t from r);cases q;exact⟨_,W.kitx_str,trivial,λz=>nomatch z⟩
  | flt y=>obtain⟨t,q⟩:=(show ∃ t,u=Value.float y t from r);cases q;exact⟨_,W.kitx_float,trivial,λz=>nomatch z⟩
  | @lst a xs ea =>
   cases (show u=Value.ref a from r)
   obtain⟨_,_,n,_,h1⟩:=(show ObjOk X.prog X.w H s.heap a (.lst xs)from I.hok a _ ea)
   exact⟨_,W.kitx_list,⟨_,h1,rfl⟩,λz=>nomatch z⟩
  | @frz a ob xs ea =>
   cases (show u=Value.ref a from r)
   obtain⟨_,_,_,n,_,h1⟩:=(show ObjOk X.prog X.w H s.heap a (.frz ob (.lst xs))from I.hok a _ ea)
   exact⟨_,W.kitx_list,⟨_,h1,rfl⟩,λz=>nomatch z⟩
  | @tup a xs ea =>
   cases (show u=Value.ref a from r)
   obtain⟨_,_,_,p⟩:=(show ObjOk X.prog X.w H s.heap a (.tup xs)from I.hok a _ ea)
   obtain⟨o,h1,h2,_⟩:=p
   exact⟨_,W.kitx_tuple,⟨o,h1,h2⟩,λz=>nomatch z⟩
  | @dK a kvs ea =>
   cases (show u=Value.ref a from r)
   obtain⟨_,_,vs,_,p⟩:=(show ObjOk X.prog X.w H s.heap a (.dK kvs)from I.hok a _ ea)
   obtain⟨o,es,ep,h1,h2,_⟩:=p
   exact⟨_,W.kitx_dict,⟨o,h1,h2.1⟩,λz=>nomatch z⟩
  | @dT a kvs ea =>
   cases (show u=Value.ref a from r)
   obtain⟨_,_,xs,_,o,es,ep,h1,h2,_⟩:=(show ObjOk X.prog X.w H s.heap a (.dT kvs)from I.hok a _ ea)
   exact⟨_,W.kitx_dict,⟨o,h1,h2.1⟩,λz=>nomatch z⟩
  | @ins a C dx fs ea cl ha hn htk hm =>
   cases (show u=Value.ref a from r)
   obtain⟨mA,O,_⟩:=OT I.hok ea
   obtain⟨od,J,_⟩:=O.look
   exact⟨_,W.kitx_own (cl.get _) cl.hd ha hn htk hm,J,λz=>nomatch z⟩
 ·cases (show u=Value.ref a from r)
  have p:FR a (.ref C) s.heap:=(show ObjOk X.prog X.w H s.heap a (.ext (FR a (.ref C)))from I.hok a _ e).1
  exact⟨_,vR c,p,λz=>nomatch z⟩
theorem SC:CallR X (.builtin "isinstance") (KZ X.K):=by
 intro pins s σ H xs us Q I r h
 obtain⟨x,y,t,b,rfl,ty,hc,q⟩:=h
 obtain⟨u,v,rfl,rx,ry⟩:=Vals.two r
 obtain⟨φ,Z,p,ne⟩:=ty.kit I rx
 rcases hc with⟨c,hy,e⟩ | ⟨pt,ys,cs,rfl,hs,hcs,e⟩
 ·have:=hy.rel ry
  subst this
  exact W.kia_one Z I.kIn p e ne λtk=>⟨.bl b,H,I.tok tk,rfl,q⟩
 ·cases (show v=Value.ref pt from ry)
  obtain⟨its,rv,⟨⟨c1,c2,c3,c4⟩,e1,e2,n,e3⟩,_⟩:=I.tuple hs
  obtain rfl:c1=_:=e2
  obtain rfl:c3=_:=e3
  have:=aX hcs rv
  subst this
  exact W.kia_tup Z I.kIn p e1 e ne λtk=>⟨.bl b,H,I.tok tk,rfl,q⟩
end
end L2
namespace L2
def DR(J:It)(g:TG)(tt:TT)(te:TE)(k:Nat)(cap:List Nat)(σ:St)(H1:Hp)(Q:VK):Prop :=
 ∃ W:Nat->Nat->St->List V->Hp->Prop,(∃ m,W 0 m (HK k cap σ) [] H1)/\∀ i m σ' ys H,W i m σ' ys H →
  (J.stop i H/\∀ p,H p=none->Q (.ref p) (upd H p (.lst ys))) ∨
  (J.go i H/\ys.length<sizeLine/\∀ x H',J.yld i H x H'->g x σ' H' λσ2 H2=>tt σ2 H2 λb H3 =>
   if b=true then ∃ N:VK,(∀ y H4,N y H4->∃ m',m'<m/\W (i+1) m' σ2 (ys++[y]) H4)/\te σ2 H3 N else ∃ m',m'<m/\W (i+1) m' σ2 ys H3)
def GG(J:It)(g:TG)(tb:TS)(D:Ends)(σ:St)(H1:Hp):Prop :=
 ∃ W:Nat->Nat->St->Hp->Prop,(∃ m,W 0 m σ H1)/\∀ i m σ H,W i m σ H →
  (J.stop i H/\D.nx σ H)\/(J.go i H/\∃ N:St->Hp->Prop,(∀ σ' H',N σ' H'->∃ m',m'<m/\W (i+1) m' σ' H')/\∀ x H',J.yld i H x H'->g x σ H' λσ2 H2=>tb { D with nx:=N,ct:=N,bk:=D.nx } σ2 H2)
section
variable{K:W.Frag}{ta tb tc to ti tv tl:TE}{tt tA tB' tu:TT}{s1 s2:TS}{r r':R2}{σ:St}{H:Hp}{Q:VK}{D:Ends}{QB:Bool->Hp->Prop}{as:TA}{g:TG}{gs:IA}{te:TE}{k i:Nat}{cap:List Nat}{f m:Str}{C:Addr}{sp:Sp}{dvs:List V}{E:St->XK}{v:V}{vs:List V}{QA:List V->Hp->Prop}{QG:St->Hp->Prop}{QO:Option Int->Hp->Prop}
theorem vS:AK s1 s2 D σ H=(s1 { D with nx:=s2 D } σ H):=rfl
theorem vT:CD D σ H=(D.nx σ H):=rfl
theorem vU:qT D σ H=(D.bk σ H):=rfl
theorem vV:qU D σ H=(D.ct σ H):=rfl
theorem vW:AR ta g D σ H=(ta σ H λx H1=>g x σ H1 D.nx):=rfl
theorem vX:C0 ta D σ H=(ta σ H λ_ H1=>D.nx σ H1):=rfl
theorem vY:BB ta D σ H=(ta σ H D.rt):=rfl
theorem vZ:Q8 D σ H=(D.rt .non H):=rfl
theorem v6:B0 tt s1 s2 D σ H=(tt σ H λb H1=>if b=true then s1 D σ H1 else s2 D σ H1):=rfl
theorem v7:tC v σ H Q=(Q v H):=rfl
theorem v8:AC r ta tb σ H Q=(ta σ H λx H1=>tb σ H1 λy H2=>r x y H2 Q):=rfl
theorem v9:A4 ta σ H QB=(ta σ H λx H'=>∃ k,x=.bl k/\QB k H'):=rfl
theorem wA:RD r r' ta tb tc σ H Q=(ta σ H λx H1=>tb σ H1 λy H2=>r x y H2 λz H3=>∃ k,z=.bl k/\(if k=true then tc σ H3 λw' H4=>r' y w' H4 Q else Q (.bl false) H3)):=rfl
theorem wB:KO tt σ H QB=(tt σ H λc H1=>QB (!c) H1):=rfl
theorem wC:FZ tt tu σ H QB=(tt σ H λc H1=>if c=true then tu σ H1 QB else QB false H1):=rfl
theorem wD:JB tt tu σ H QB=(tt σ H λc H1=>if c=true then QB true H1 else tu σ H1 QB):=rfl
theorem wE:OK ta tb σ H Q=(ta σ H λx H1=>∃ c,x=.bl c/\if c=true then tb σ H1 Q else Q (.bl false) H1):=rfl
theorem wF:qQ ta tb σ H Q=(ta σ H λx H1=>∃ c,x=.bl c/\if c=true then Q (.bl true) H1 else tb σ H1 Q):=rfl
theorem wG:SA K ta σ H Q=(ta σ H λx H1=>∃ k,FL K x H1 k/\Q (.bl (!k)) H1):=rfl
theorem wH:KY K ta σ H QB=(ta σ H λx H'=>∃ k,FL K x H' k/\QB k H'):=rfl
theorem wI:Q7 tt ta tb σ H Q=(tt σ H λc H1=>if c=true then ta σ H1 Q else tb σ H1 Q):=rfl
theorem wJ:AG σ H QA=(QA [] H):=rfl
theorem wK:AD ta as σ H QA=(ta σ H λx H1=>as σ H1 λxs H2=>QA (x::xs) H2):=rfl
theorem wL:B4 as σ H Q=(as σ H λxs H1=>xs.length<=sizeLine/\∀ p,H1 p=none->Q (.ref p) (upd H1 p (.tup xs))):=rfl
theorem wM:CI as σ H Q=(as σ H λxs H1=>xs.length<=sizeLine/\∀ p,H1 p=none->Q (.ref p) (upd H1 p (.lst xs))):=rfl
theorem wN:A8 sp dvs E as σ H Q=(as σ H λvs H1=>sp (vs++dvs) H1 Q (E σ)):=rfl
theorem wO:BR C m sp dvs E ta as σ H Q=(ta σ H λx H1=>∃ a dx fs,x=.ref a/\H1 a=some (.ins C dx fs)/\fs.lookup m=none/\as σ H1 λvs H2=>sp (x::(vs++dvs)) H2 Q (E σ)):=rfl
theorem wP:JF C sp dvs E as σ H Q=(as σ H λvs H1=>∀ x dx,H1 x=none->H1 dx=none->dx≠x->sp (.ref x::(vs++dvs)) (upd (upd H1 dx (.own x)) x (.ins C dx [])) (λv H2=>v=.non/\Q (.ref x) H2) (E σ)):=rfl
theorem wQ:BW K ta f σ H Q=(ta σ H λx H1=>∃ a C dx fs v,x=.ref a/\H1 a=some (.ins C dx fs)/\Cls K C/\NoAttr K C f/\fs.lookup f=some v/\Q v H1):=rfl
theorem wR:EB K ta tv f D σ H=(tv σ H λy H1=>ta σ H1 λx H2=>∃ a C dx fs,x=.ref a/\H2 a=some (.ins C dx fs)/\Cls K C/\NoAttr K C f/\fs.length<1000/\D.nx σ (upd H2 a (.ins C dx (BU f y fs)))):=rfl
theorem wS{ru:V->Hp->VK->Prop}:rF ru ta σ H Q=ta σ H λx H1=>ru x H1 Q:=rfl
theorem wT{rc:List V->Hp->VK->Prop}:BM rc as σ H Q=as σ H λvs H1=>rc vs H1 Q:=rfl
theorem wU:MJ C E as D σ H=(as σ H λvs H1=>vs.length<=sizeLine/\E σ (.ref C) none H1):=rfl
theorem wV{sb:(St->XK)->TS}{th:TH}:R7 sb th D σ H=sb (λσ' cls _ H'=>th cls D σ' H') D σ H:=rfl
theorem wW:AJ i v σ H QG=(QG (σ.set i (some v)) H):=rfl
theorem wX{rs:OM}:DC to ti rs v σ H QG=to σ H λo H1=>ti σ H1 λi H2=>rs o i v H2 λH3=>QG σ H3:=rfl
theorem wY:E4 K k gs v σ H QG=(∃ a xs,v=.ref a/\SqT K H a xs/\xs.length=k/\gs xs σ H QG):=rfl
theorem wZ:E3 vs σ H QG=((vs=[]/\QG σ H)):=rfl
theorem xA:DG g gs vs σ H QG=(∃ v r,vs=v::r/\g v σ H λσ' H'=>gs r σ' H' QG):=rfl
theorem xB{rs:V->Option Int->Option Int->Hp->VK->Prop}{ol oh:TO}:KR rs ta ol oh σ H Q=ta σ H λx H1=>ol σ H1 λl H2=>oh σ H2 λu H3=>rs x l u H3 Q:=rfl
theorem xC:OV σ H QO=(QO none H):=rfl
theorem xD:IB ta σ H QO=(ta σ H λx H1=>∃ i,x=.int i/\QO (some i) H1):=rfl
theorem xE{T:String}{rm:V->List V->Hp->VK->Prop}:EV K T rm ta as σ H Q=ta σ H λx H1=>MD K T x H1/\as σ H1 λxs H2=>rm x xs H2 Q:=rfl
theorem xF{T:String}{rm:V->List V->Hp->VK->Prop}:tQ K T rm ta σ H Q=ta σ H λx H1=>MD K T x H1/\rm x [] H1 Q:=rfl
theorem xG{tip:ON}:qW i ta tip D σ H=∃ x,σ[i]? =some (some x)/\ta σ H λy H1=>tip x y H1 λz H2=>D.nx (σ.set i (some z)) H2:=rfl
theorem xH:CZ σ H QB=(QB true H):=rfl
theorem xI:BN (CU as) g tt te k cap σ H Q=(as σ H λvs H1=>∃ j:Int,vs=[.int j]/\ -(2 ^ 62)<=j/\j<2 ^ 62/\DR (DZ 0 j.toNat) g tt te k cap σ H1 Q):=rfl
theorem xJ:BN (Y8 as) g tt te k cap σ H Q=(as σ H λvs H1=>∃ i j:Int,vs=[.int i,.int j]/\(-(2 ^ 62)<=i/\i<2 ^ 62/\ -(2 ^ 62)<=j/\j<2 ^ 62)/\DR (DZ i (j - i).toNat) g tt te k cap σ H1 Q):=rfl
theorem xK:BN (DE K tl) g tt te k cap σ H Q=(tl σ H λx H1=>∃ a,x=.ref a/\(((∃ xs,SqL K H1 a xs)/\DR (FI K a) g tt te k cap σ H1 Q)\/((∃ xs,SqT K H1 a xs)/\DR (L8 K a) g tt te k cap σ H1 Q))):=rfl
theorem xL:DV (CU as) g s1 D σ H=(as σ H λvs H1=>∃ j:Int,vs=[.int j]/\ -(2 ^ 62)<=j/\j<2 ^ 62/\GG (DZ 0 j.toNat) g s1 D σ H1):=rfl
theorem xM:DV (Y8 as) g s1 D σ H=(as σ H λvs H1=>∃ i j:Int,vs=[.int i,.int j]/\(-(2 ^ 62)<=i/\i<2 ^ 62/\ -(2 ^ 62)<=j/\j<2 ^ 62)/\GG (DZ i (j - i).toNat) g s1 D σ H1):=rfl
theorem xN:DV (DE K tl) g s1 D σ H=(tl σ H λx H1=>∃ a,x=.ref a/\(((∃ xs,SqL K H1 a xs)/\GG (FI K a) g s1 D σ H1)\/((∃ xs,SqT K H1 a xs)/\GG (L8 K a) g s1 D σ H1))):=rfl
theorem xO{rd:V->V->Hp->VK->Prop}:RI K ta tv rd f D σ H=(ta σ H λx H1=>∃ a C dx fs v,x=.ref a/\H1 a=some (.ins C dx fs)/\Cls K C/\NoAttr K C f/\fs.lookup f=some v/\tv σ H1 λy H2=>rd v y H2 λz H3=>∃ dx' fs',H3 a=some (.ins C dx' fs')/\fs'.length<1000/\D.nx σ (upd H3 a (.ins C dx' (BU f z fs')))):=rfl
end
end L2
namespace L2
section
variable{K:W.Frag}{σ:St}{H:Hp}{Q:VK}{P:Bool->Prop}{PI':Int->Prop}{PV:V->Prop}{QB:Bool->Hp->Prop}{v:V}{x:Option V}{i j:Int}{n:Nat}{b b':Bool}{s s':Str}{p q:Addr}{f:Int->Int->V}{C:Int->Int->Prop}
def AA(i:Nat):TE:=λσ H Q=>match σ[i]? with
 | some (some v)=>Q v H
 | _=>False
theorem aY:AA 0 (some v::σ) H Q=Q v H:=rfl
theorem xP:AA (n+1) (x::σ) H Q=AA n σ H Q:=rfl
theorem xQ(i:Nat):AA i=OI i:=by
 funext σ H Q
 unfold AA OI
 cases σ[i]? with
 | none=>simp
 | some o=>cases o<;>simp
theorem xR{P:Bool->Prop}:(∃ k,V.bl b=V.bl k/\P k)=P b:=by simp
theorem xS{P:Int->Prop}:(∃ k,V.int i=V.int k/\P k)=P i:=by simp
theorem xT{P:Addr->Prop}:(∃ k,V.ref p=V.ref k/\P k)=P p:=by simp
theorem xU{P:Bool->Prop}:(∃ k,FL K (.bl b) H k/\P k)=P b:=by simp[FL]
theorem xV{P:Bool->Prop}:(∃ k,FL K (.int i) H k/\P k)=P (i != 0):=by simp[FL]
theorem xW{P:Bool->Prop}:(∃ k,FL K .non H k/\P k)=P false:=by simp[FL]
theorem xX:BE K (.int i) (.int j) H Q=Q (.int (i+j)) H:=rfl
theorem xY:BE K (.str s) (.str s') H Q=(s.length+s'.length<=sizeLine/\Q (.str (s++s')) H):=rfl
theorem aZ:BE K (.ref p) (.ref q) H Q=(RS (.ref p) (.ref q) H Q\/RK K (.ref p) (.ref q) H Q\/R8 K (.ref p) (.ref q) H Q):=rfl
theorem xZ{x y:Str}:MK (.str x) (.str y) H Q=Q (.bl (!decide (y.cps.toList<x.cps.toList))) H:=rfl
theorem x6{x y:Str}:IG (.str x) (.str y) H Q=Q (.bl (decide (x.cps.toList<y.cps.toList))) H:=rfl
theorem x8{x:Str}{lo hi:Option Int}:JI K (.str x) lo hi H Q=(x.length<=sizeLine/\Q (.str (Txt.slice x lo hi)) H):=rfl
theorem x9:DX K (.int i) (.int j) H Q=(CMul i j/\Q (.int (i * j)) H):=rfl
theorem yA{z:Str}{j:Int}:DX K (.str z) (.int j) H Q=(0<=j/\j<=1000/\z.length<=1000/\Q (.str (IH z j)) H):=rfl
theorem yB:DX K (.ref p) (.int j) H Q=(RU (.ref p) (.int j) H Q\/R9 K (.ref p) (.int j) H Q):=rfl
theorem yC:F5 f (.int i) (.int j) H Q=Q (f i j) H:=by simp[F5]
theorem yD:rI C f (.int i) (.int j) H Q=(C i j/\Q (f i j) H):=by simp[rI]
theorem yE{g:Int->V}:rU g (.int i) H Q=Q (g i) H:=by simp[rU]
theorem yF:IG (.int i) (.int j) H Q=Q (.bl (decide (i<j))) H:=rfl
theorem yG:MK (.int i) (.int j) H Q=Q (.bl (decide (i<=j))) H:=rfl
theorem yH:GD (.int i) (.int j) H Q=Q (.bl (decide (j<i))) H:=rfl
theorem yI:PB (.int i) (.int j) H Q=Q (.bl (decide (j<=i))) H:=rfl
theorem bA:BL K (.int i) (.int j) H Q=Q (.bl (decide (i=j))) H:=by simp[BL,DW]
theorem yJ:BL K (.str s) (.str s') H Q=Q (.bl (decide (s=s'))) H:=by simp[BL,DW]
theorem yK:BL K (.bl b) (.bl b') H Q=Q (.bl (decide (b=b'))) H:=by simp[BL,DW]
theorem bB:BL K .non (.int j) H Q=Q (.bl false) H:=by simp[BL,DW]
theorem yL:BL K (.int j) .non H Q=Q (.bl false) H:=by simp[BL,DW]
theorem yM:BL K .non .non H Q=Q (.bl true) H:=by simp[BL,DW]
theorem bC:CJ K (.int i) (.int j) H Q=Q (.bl (!decide (i=j))) H:=by simp[CJ,DW]
theorem yN:CJ K (.str s) (.str s') H Q=Q (.bl (!decide (s=s'))) H:=by simp[CJ,DW]
theorem yO:CJ K (.bl b) (.bl b') H Q=Q (.bl (!decide (b=b'))) H:=by simp[CJ,DW]
theorem bD:CJ K .non (.int j) H Q=Q (.bl true) H:=by simp[CJ,DW]
theorem yP:CJ K (.int j) .non H Q=Q (.bl true) H:=by simp[CJ,DW]
theorem yQ:CJ K .non .non H Q=Q (.bl false) H:=by simp[CJ,DW]
theorem yR:FT v .non H Q=Q (.bl (decide (v=.non))) H:=by simp[FT]
theorem yS:GE v .non H Q=Q (.bl (!decide (v=.non))) H:=by simp[GE]
theorem yT{g:Int->Int->Int}:RA g (.int i) (.int j) H Q=Q (.int (g i j)) H:=by simp[RA]
theorem yU:MC (.int i) (.int j) H Q=Q (.int (i+j)) H:=by simp[MC]
theorem yV:CC K [v] H Q=∃ n:Nat,KP K v H n/\Q (.int n) H:=by simp[CC]
theorem yW:JK K [.bl b] H Q=Q (.int (if b then 1 else 0)) H:=by simp[JK]
theorem yX:JK K [.int i] H Q=Q (.int i) H:=by simp[JK]
theorem bE:JJ K [.ref p] H Q=∃ ys,(SqL K H p ys\/SqT K H p ys)/\∀ l,H l=none->Q (.ref l) (upd H l (.lst ys)):=by simp[JJ]
theorem yY:MM K [.ref p] H Q=∃ ys,((SqL K H p ys/\∀ l,H l=none->Q (.ref l) (upd H l (.tup ys)))\/(SqT K H p ys/\Q (.ref p) H)):=by simp[MM]
end
theorem AB{X:Cx}(i:Nat){x:Str}{pos:Pos}(hN:X.N[i]? =some x:=by rfl)(hv:OG X.env.scope x:=by first | exact Or.inl rfl | exact Or.inr (Or.inl rfl) | exact Or.inr (Or.inr rfl))(hd:(x ==("__debug__":Str))=false:=by decide)
  (hcd:(x ==("__classdict__":Str))=false:=by decide):PE X (.Name x pos) (AA i):=by
 rw[xQ]
 exact Y4 hN hv hd hcd
end L2
namespace L2
abbrev A6(Q:VK):Ends:={ nx:=λ_ H'=>Q .non H',rt:=Q }
abbrev BI(cap:List Nat)(σ:St):St:=cap.map λi=>(σ[i]?).join
section
variable{K:W.Frag}{te:TE}{cap:List Nat}{σ:St}{H:Hp}{Q:VK}
theorem K0{lo:Int}{n:Nat}(hn:n<=sizeLine)(Pv:Nat->List V->Hp->Prop)(h0:Pv 0 [] H)(hs:∀ i ys H,i<n->ys.length=i->Pv i ys H->te (some (.int (lo+i))::BI cap σ) H λy H2=>Pv (i+1) (ys++[y]) H2)
  (hd:∀ ys H,ys.length=n->Pv n ys H->∀ p,H p=none->Q (.ref p) (upd H p (.lst ys))) :
  DR (DZ lo n) (AJ 0) CZ te 1 cap σ H Q:=by
 refine⟨λi m σ' ys H=>m=n - i/\i<=n/\ys.length=i/\(∃ x0,σ'=x0::BI cap σ)/\Pv i ys H,⟨n,by simp,Nat.zero_le _,rfl,⟨none,rfl⟩,h0⟩,?_⟩
 rintro i m σ' ys H ⟨rfl,hi,hl,⟨x0,rfl⟩,p⟩
 by_cases hlt:i<n
 ·refine .inr ⟨hlt,by omega,λx H' y=> ?_⟩
  obtain⟨e,y⟩:=y
  subst e y
  simp only[AJ,CZ,if_true]
  refine⟨_,λy H4 q=>⟨n - (i+1),by omega,rfl,hlt,?_,⟨_,rfl⟩,q⟩,hs i ys _ hlt hl p⟩
  rw[List.length_append,List.length_singleton,hl]
 ·have e:i=n:=by omega
  subst e
  exact .inl ⟨Nat.le_refl _,hd ys H hl p⟩
theorem bF{b:Addr}{xs:List V}(hn:xs.length<=sizeLine)(Pv:Nat->List V->Hp->Prop)(h0:Pv 0 [] H)(hq:∀ i ys H,i<=xs.length->Pv i ys H->SqL K H b xs)
  (hs:∀ i x ys H,xs[i]? =some x->ys.length=i->Pv i ys H->te (some x::BI cap σ) H λy H2=>Pv (i+1) (ys++[y]) H2)
  (hd:∀ ys H,ys.length=xs.length->Pv xs.length ys H->∀ p,H p=none->Q (.ref p) (upd H p (.lst ys))) :
  DR (FI K b) (AJ 0) CZ te 1 cap σ H Q:=by
 refine⟨λi m σ' ys H=>m=xs.length - i/\i<=xs.length/\ys.length=i/\(∃ x0,σ'=x0::BI cap σ)/\Pv i ys H,⟨xs.length,by simp,Nat.zero_le _,rfl,⟨none,rfl⟩,h0⟩,?_⟩
 rintro i m σ' ys H ⟨rfl,hi,hl,⟨x0,rfl⟩,p⟩
 have q:=hq i ys H hi p
 by_cases hlt:i<xs.length
 ·refine .inr ⟨⟨xs,xs[i],q,by simp[hlt]⟩,by omega,λx H' y=> ?_⟩
  obtain⟨e,y⟩:=y
  subst e
  have hx:=y xs q
  simp only[AJ,CZ,if_true]
  refine⟨_,λy H4 q=>⟨xs.length - (i+1),by omega,rfl,hlt,?_,⟨_,rfl⟩,q⟩,hs i x ys _ hx hl p⟩
  rw[List.length_append,List.length_singleton,hl]
 ·have e:i=xs.length:=by omega
  subst e
  exact .inl ⟨⟨xs,q,Nat.le_refl _⟩,hd ys H hl p⟩
theorem yZ{lo:Int}{n:Nat}(hn:n<=sizeLine)(f:Nat->V)(hs:∀ i,i<n->∀ Q':VK,Q' (f i) H->te (some (.int (lo+i))::BI cap σ) H Q')
  (hd:∀ p,H p=none->Q (.ref p) (upd H p (.lst ((List.range n).map f)))) :
  DR (DZ lo n) (AJ 0) CZ te 1 cap σ H Q:=by
 refine K0 hn (λi ys H'=>H'=H/\ys=(List.range i).map f) ⟨rfl,rfl⟩ (λi ys H' hi hl ⟨e1,e2⟩=> ?_) (λys H' hl ⟨e1,e2⟩=> ?_)
 ·subst e1
  refine hs i hi _ ⟨rfl,?_⟩
  rw[e2,List.range_succ,List.map_append];rfl
 ·subst e1;subst e2;exact hd
theorem JL{b:Addr}{xs:List V}{g:TG}{tb:TS}{D:Ends}(Pv:Nat->St->Hp->Prop)(h0:Pv 0 σ H)(hl:∀ i σ H,i<=xs.length->Pv i σ H->SqL K H b xs)
  (hs:∀ i x σ H,xs[i]? =some x->Pv i σ H->g x σ H λσ2 H2=>tb { D with nx:=Pv (i+1),ct:=Pv (i+1),bk:=D.nx } σ2 H2) (hd:∀ σ H,Pv xs.length σ H->D.nx σ H):GG (FI K b) g tb D σ H:=rC Pv h0 hl hs hd
theorem MO{lo:Int}{n:Nat}{g:TG}{tb:TS}{D:Ends}(Pv:Nat->St->Hp->Prop)(h0:Pv 0 σ H)
  (hs:∀ i σ H,i<n->Pv i σ H->g (.int (lo+i)) σ H λσ2 H2=>tb { D with nx:=Pv (i+1),ct:=Pv (i+1),bk:=D.nx } σ2 H2) (hd:∀ σ H,Pv n σ H->D.nx σ H):GG (DZ lo n) g tb D σ H:=rD Pv h0 hs hd
end
theorem bG{K:W.Frag}{H:Hp}{x y:V}{t c:Value}{b:Bool}{Q:VK}(ty:TyX K H x t)(cv:ClsV y c)(k:W.kitOne K t c=some b)(q:Q (.bl b) H):KZ K [x,y] H Q:=⟨x,y,t,b,rfl,ty,.inl ⟨c,cv,k⟩,q⟩
theorem zA{K:W.Frag}{H:Hp}{x:V}{p:Addr}{ys:List V}{cs:List Value}{t:Value}{b:Bool}{Q:VK}(ty:TyX K H x t)(hs:SqT K H p ys)(hc:Paired ClsV ys cs)(k:W.kitAny K t cs=some b)(q:Q (.bl b) H):KZ K [x,.ref p] H Q:=⟨x,.ref p,t,b,rfl,ty,.inr ⟨p,ys,cs,rfl,hs,hc,k⟩,q⟩
theorem AS{H:Hp}{p:Addr}{o:HO}(h:H p=none):Same H (upd H p o):=λb u e=>by rw[AQ (BT e h)];exact e
theorem MP{α β :Type}{F: α -> β ->Prop}:∀ {l:List α} {m:List β} {i:Nat} {y: β},Paired F l m->m[i]? =some y->∃ x,l[i]? =some x/\F x y
 | _,_,_,_,.nil,e=>by simp at e
 | _,_,0,_,.cons r _,e=>by simp at e;subst e;exact⟨_,rfl,r⟩
 | _,_,i+1,y,.cons _ t,e=>by
  obtain⟨u,h1,h2⟩:=MP (i:=i) (y:=y) t (by simpa using e)
  exact⟨u,by simpa using h1,h2⟩
theorem SD{α β :Type}{F: α -> β ->Prop}{x: α}{y: β}(r:F x y):∀ {l:List α} {m:List β} (i:Nat),Paired F l m->Paired F (l.set i x) (m.set i y)
 | _,_,_,.nil=>.nil
 | _,_,0,.cons _ t=>.cons r t
 | _,_,i+1,.cons q t=>.cons q (SD r i t)
theorem BV{K:W.Frag}{H:Hp}{p:Addr}{xs:List V}{i:Int}{n:Nat}{v:V}{Q:VK}(h:SqL K H p xs)(hi:i=n)(hx:xs[n]? =some v)(q:Q v H):AI K (.ref p) (.int i) H Q :=
 .inl ⟨p,xs,i,v,rfl,rfl,h,hi ▸ RN hx,q⟩
theorem small(n:Nat)(h:n<=100000):n<=sizeLine:=Nat.le_trans h (by decide)
theorem bH{α :Type}(x: α):∀ w:Nat,(List.replicate w [x]).flatten=List.replicate w x
 | 0=>rfl
 | w+1=>by rw[List.replicate_succ,List.flatten_cons,bH x w];rfl
theorem HM{f:Str}{v:V}{fs:List (Str × V)}{n:Nat}(h:fs.length+1<n):(BU f v fs).length<n:=Nat.lt_of_le_of_lt (RG f v fs) h
theorem bI{d:PyData}(h:shp d):PyData.eqv d d=true:=PySem.SeqAt.eqv_refl d (PySem.SeqAt.canLay_of_shaped h)
end L2
namespace L2
def ItK(k:Bool)(h:Heap)(j a:Addr)(i:Nat):Prop:=if k then h.IsListIter j a i else h.IsTupleIter j a i
def SeqK(k:Bool)(h:Heap)(a:Addr)(xs:Array Value):Prop:=if k then h.IsList a xs else h.IsTuple a xs
theorem ItK.up{k:Bool}{h h':Heap}{j a:Addr}{i:Nat}(x:ItK k h j a i)(q:∀ o,h.get? j=some o->h'.get? j=some o):ItK k h' j a i:=by
 cases k<;>exact(let ⟨o,e,r⟩:=x;⟨o,q o e,r⟩)
theorem SeqK.up{k:Bool}{h h':Heap}{a:Addr}{xs:Array Value}(x:SeqK k h a xs)(q:∀ o,h.get? a=some o->h'.get? a=some o):SeqK k h' a xs:=by
 cases k<;>exact(let ⟨o,e,r⟩:=x;⟨o,q o e,r⟩)
theorem ItK.ob{k:Bool}{h:Heap}{j a:Addr}{i:Nat}(x:ItK k h j a i):∃ o,h.get? j=some o/\o.data=.fields #[.ref a,.int i 0]:=by
 cases k<;>exact(let ⟨o,e,_,r⟩:=x;⟨o,e,r⟩)
section
variable{P:Program}{w:World}{A:Around}{E:Value->Shared->Prop}{s:Shared}
theorem zB{j t:Addr}{i:Nat}{its:Array Value}{Q:Value->Shared->Prop}(z:A.handled=none)(c:s.heap.IsTupleIter j t i)(d:s.heap.IsTuple t its)(e:its[i]? =none)
  (q:∀ h' x,Heap.ExtBut j s.heap h'->(∃ o,h'.get? x=some o/\o.cls=.type "StopIteration")->E (.ref x) { s with heap:=h' }):wpAny (model P w) A (Builtin.SmallTypes.nextOf (.ref j)) Q E s:=by
 obtain⟨oj,e1,e2,e3⟩:=id c
 obtain⟨ot,f1,_,n,f2⟩:=d
 unfold Builtin.SmallTypes.nextOf
 refine wpAny_bind (wpAny_callSpecial?_slot (name:=Str.ofString "__next__") c.typeIs F.slot_tuple_iterator_next (wpAny_call_entry F.slot_tuple_iterator_next c.typeIs F.entry_tuple_iterator_next ?_ (F.args_tuple_iterator_next_1 _)))
 show wpAny (model P w) _ (field (.ref j) 0 >>= _) _ _ s
 refine wpAny_bind (wpAny_field e1 e3 (x:=.ref t) rfl ?_)
 show wpAny (model P w) _ (field (.ref j) 1 >>= _) _ _ s
 refine wpAny_bind (wpAny_field e1 e3 (x:=.int i 0) rfl ?_)
 show wpAny (model P w) _ (seqItems? (.ref t) >>= _) _ _ s
 refine wpAny_bind (wpAny_seqItems f1 f2 ?_)
 simp only[Int.toNat_natCast,e]
 refine wpAny_bind (wpAny_rule (wpAny_bind (wpAny_setField e1 e3 (by simp) ?_)))
 show wpAny (model P w) _ (newExc (.type "StopIteration") [] >>= _) _ _ _
 refine wpAny_bind ?_
 simp only[newExc,newTuple]
 refine wpAny_bind (wpAny_newObj_type (wpAny_bind (m:=firstArgMember _ _) (wpAny_of_eq (a:=Value.none) (by first | rfl | (simp only[firstArgMember];rfl)) (wpAny_newObj_type ?_ (by size_fits)))) (by size_fits))
 simp only[raiseNew]
 refine wpAny_bind (wpAny_handled ?_)
 rw[show A.in1.handled=none from z]
 exact wpAny_bind (wpAny_pure (wpAny_throw (q _ _ (((Heap.SameBut.update ..).extBut.push _).push _) ⟨_,Heap.get?_push_size _ rfl,rfl⟩)))
theorem zC{k:Bool}{j t:Addr}{i:Nat}{its:Array Value}{Q:Value->Shared->Prop}(z:A.handled=none)(c:ItK k s.heap j t i)(d:SeqK k s.heap t its)(e:its[i]? =none)
  (q:∀ h' x,Heap.ExtBut j s.heap h'->(∃ o,h'.get? x=some o/\o.cls=.type "StopIteration")->E (.ref x) { s with heap:=h' }):wpAny (model P w) A (Builtin.SmallTypes.nextOf (.ref j)) Q E s:=by
 cases k
 ·exact zB z c d e q
 ·exact wpAny_nextOf_list_end z c d e q
end
section
variable{P:Program}{w:World}{A:Around}{E:Value->Shared->Prop}{s:Shared}
end
theorem Inv.turnedS{X:Cx}{pins:List (Addr × Obj)}{σ:St}{H:Hp}{s:Shared}{h':Heap}{t':Nat}{fp:List Addr}(I:Inv X pins σ H s)(k:∀ b o,b∉fp->s.heap.get? b=some o->h'.get? b=some o)(hf:∀ b∈fp,FpOk X pins H b):Inv X pins σ H { s with heap:=h',toks:=t' }:=by
 have nit:∀ b u,H b=some u->b∉fp:=λb u e z=>by rw[(hf b z).1]at e;cases e
 refine I.step (g':=s.gens) (d':=s.drawn) (ch:=fp) (λb hb=> ?_) (λb o _ _ hc e _=>k b o hc e) (λb o _ _ hc e _=>⟨o.slots,k b o hc e⟩) (λ_ _ _ _ n=>n)
  (λb o hc e=>⟨o,k b o hc e⟩) (λ_ _ e=>e) (λ_ _ _ e=>e) (λb ps e=>⟨#[],by rw[e];simp⟩) (λm hm=> ?_) (λb u e=> ?_) I.bare
 ·obtain⟨_,f1,_,f3,f4,f5⟩:=hf b hb
  exact⟨f3,f1,f4,f5⟩
 ·obtain⟨o,es,ep,ho,r⟩:=hm
  exact⟨o,es,ep,k _ o (λz=>(hf _ z).2.1 rfl) ho,r⟩
 ·refine(I.hok b u e).stay (λc v hc q=>k c v ?_ q) (λ_ q=>q) λ_ _ q=>q
  rcases hc with z | z
  ·rw[z];exact nit b u e
  ·exact nit c _ z
def SqB(K:W.Frag)(k:Bool)(H:Hp)(a:Addr)(xs:List V):Prop:=if k then SqL K H a xs else SqT K H a xs
theorem Inv.seqK{X:Cx}{pins:List (Addr × Obj)}{σ:St}{H:Hp}{s:Shared}{k:Bool}{a:Addr}{xs:List V}(I:Inv X pins σ H s)(q:SqB X.K k H a xs):∃ its,Vals xs its/\SeqK k s.heap a its.toArray:=by
 cases k
 ·obtain⟨its,rv,p,_⟩:=I.tuple q
  exact⟨its,rv,p⟩
 ·obtain⟨its,rv,p,_⟩:=I.list q
  exact⟨its,rv,p.isList⟩
theorem Inv.seqK_inj{X:Cx}{pins:List (Addr × Obj)}{σ:St}{H:Hp}{s:Shared}{k:Bool}{a:Addr}{xs ys:List V}(I:Inv X pins σ H s)(p:SqB X.K k H a xs)(q:SqB X.K k H a ys):xs=ys:=by
 cases k
 ·exact I.tuple_inj p q
 ·exact I.list_inj p q
theorem SeqK.lt{k:Bool}{h:Heap}{a:Addr}{xs:Array Value}(x:SeqK k h a xs):a<h.objs.size:=by
 cases k<;>exact(let ⟨_,e,_⟩:=x;Heap.lt_size e)
theorem SeqK.nit{k:Bool}{h:Heap}{a b:Addr}{xs:Array Value}(x:SeqK k h a xs){o:Obj}(e:h.get? b=some o)(n:∀ its m,o.data≠.seq its m):a≠b:=by
 intro z
 subst z
 cases k<;>(obtain⟨o',e',_,m,d⟩:=x;rw[e]at e';cases e';exact n _ _ d)
def ZipSt(k k':Bool)(z l l':Addr)(f:Value)(i:Nat)(h:Heap)(T U j j':Addr):Prop :=
 IsZip h z T U f/\IsPair h T (.ref j) (.ref j')/\(∃ a b,IsPair h U a b)/\ItK k h j l i/\ItK k' h j' l' i
structure Five(z T U j j':Addr):Prop where
 a1:T≠z
 a2:U≠z
 a3:j≠z
 a4:j'≠z
 a5:T≠U
 a6:T≠j
 a7:T≠j'
 a8:U≠j
 a9:U≠j'
 a10:j≠j'
theorem SqB.off{X:Cx}{pins:List (Addr × Obj)}{σ:St}{H:Hp}{s:Shared}{k:Bool}{m b:Addr}{zs:List V}(I:Inv X pins σ H s)(q:SqB X.K k H m zs)(f:FpOk X pins H b):m≠b:=by
 intro e
 subst e
 obtain⟨f0,_,_,f3,_⟩:=f
 have no:∀ o,X.K.lookup m=some o->False:=λo hk=>by
  have e:=I.mod.kin m o hk
  rcases f3 with z | z
  ·exact I.ok.noex _ _ e z
  ·exact absurd (Heap.lt_size (I.ok.bs _ _ e).1) (Nat.not_lt.mpr z)
 have nr:∀ u,Rd H m u->False:=λu r=>by
  rcases r with r | ⟨o,r⟩<;>(rw[f0]at r;cases r)
 cases k
 ·rcases q with q | ⟨o,_,_,hk,_⟩
  ·exact nr _ q
  ·exact no o hk
 ·rcases q with q | ⟨o,_,_,hk,_⟩
  ·exact nr _ q
  ·exact no o hk
theorem FpOk.upd{X:Cx}{pins:List (Addr × Obj)}{H:Hp}{a b:Addr}{o:HO}(f:FpOk X pins H b)(n:b≠a):FpOk X pins (upd H a o) b:=⟨(AQ n).trans f.1,f.2⟩
theorem ZipSt.lt{k k':Bool}{z l l' T U j j':Addr}{f:Value}{i:Nat}{h:Heap}(q:ZipSt k k' z l l' f i h T U j j'):∀ b∈[z,T,U,j,j'],b<h.objs.size:=by
 obtain⟨h1,h2,⟨a,b',h3⟩,h4,h5⟩:=q
 obtain⟨o4,e4,_⟩:=h4.ob
 obtain⟨o5,e5,_⟩:=h5.ob
 intro b hb
 simp only[List.mem_cons,List.not_mem_nil,or_false]at hb
 rcases hb with rfl | rfl | rfl | rfl | rfl
 ·exact Heap.lt_size h1
 ·exact Heap.lt_size h2
 ·exact Heap.lt_size h3
 ·exact Heap.lt_size e4
 ·exact Heap.lt_size e5
theorem Five.apart{z T U j j' l l':Addr}(D:Five z T U j j')(n:∀ b∈[z,T,U,j,j'],l≠b)(n':∀ b∈[z,T,U,j,j'],l'≠b):ZipApart z T U j j' l l' :=
 ⟨D.a1,D.a2,D.a3,D.a4,D.a5,D.a6,D.a7,D.a8,D.a9,D.a10,n _ (by simp),n _ (by simp),n _ (by simp),n _ (by simp),n' _ (by simp),n' _ (by simp),n' _ (by simp),n' _ (by simp)⟩
section
variable{X:Cx}{tg:Expr}
end
theorem Fun.none{P:Program}{w:World}{K:W.Frag}{mg:Str->Option Value}{base:Heap}{x qual:Str}{st:Stmt}{f:Addr}{fd:FuncData}{N ps:List Str}{k:Nat}{sp:Sp}(F:Fun K x qual st f fd)(S:FnScope N ps (A0 st))(no:∀ vs H Q E,sp vs H Q E->False):FnOk P w K mg base (D0 P w) (k+1) f fd ps sp :=
 F.okE S (λvs H Q E h=>(no vs H Q E h).elim) λ_ _ _ _ H vs Q E _ h=>(no vs H Q E h).elim
end L2
namespace L2
def bJ(z:Str):It:=⟨λi _=>i<z.cps.size,λi H x H'=>H'=H/\∃ c,z.cps[i]? =some c/\x=.str ⟨#[c]⟩,λi _=>z.cps.size<=i⟩
def zD(tl:TE):TI:=λσ H R=>tl σ H λx H1=>∃ z,x=.str z/\R (bJ z) H1
section
variable{X:Cx}{tg:Expr}
def bK(K:W.Frag):List V->Hp->VK->Prop:=λxs H Q=>∃ x,xs=[.str x]/\x.length=1/\Q (.int (x.cps.getD 0 0:Nat)) H
def SE(K:W.Frag):List V->Hp->VK->Prop:=λxs H Q=>∃ i j,xs=[.int i,.int j]/\Q (.int (if j > i then j else i)) H
theorem zE(hc:X.calm=true):CallR X (.builtin "max") (SE X.K):=rY hc
end
theorem zF{K:W.Frag}{x:Str}{H:Hp}{Q:VK}:bK K [.str x] H Q=(x.length=1/\Q (.int (x.cps.getD 0 0:Nat)) H):=by simp[bK]
theorem zG{K:W.Frag}{i j:Int}{H:Hp}{Q:VK}:SE K [.int i,.int j] H Q=Q (.int (if j > i then j else i)) H:=propext ⟨λ⟨_,_,e,q⟩=>by cases e;exact q,λq=>⟨_,_,rfl,q⟩⟩
section
variable{P:Program}{w:World}{A:Around}{E:Value->Shared->Prop}{s:Shared}
end
section
variable{X:Cx}
def bL(k:Nat):List V:=(List.range k).map λ(i:Nat)=>V.int (i:Int)
end
theorem zH{tl:TE}{g:TG}{tt:TT}{te:TE}{k:Nat}{cap:List Nat}{σ:St}{H:Hp}{Q:VK}:BN (zD tl) g tt te k cap σ H Q=(tl σ H λx H1=>∃ z,x=.str z/\DR (bJ z) g tt te k cap σ H1 Q):=rfl
end L2
namespace L2
open PySem
abbrev bN(l:List Nat):Prop:=l.Pairwise (· <·)
structure Below(xs:Array Nat)(j r:Nat):Prop where
 le:r<=xs.size
 lo:∀ i v,i<r->xs.toList[i]? =some v->v<j
 hi:∀ i v,r<=i->xs.toList[i]? =some v->j<=v
theorem Below.uniq{xs:Array Nat}{j r r':Nat}(a:Below xs j r)(b:Below xs j r'):r=r':=by
 rcases Nat.lt_trichotomy r r' with h | h | h
 ·have hs:r<xs.size:=Nat.lt_of_lt_of_le h b.le
  have e:xs.toList[r]? =some (xs[r]):=by simp[hs]
  have:=b.lo _ _ h e
  have:=a.hi _ _ (Nat.le_refl _) e
  omega
 ·exact h
 ·have hs:r'<xs.size:=Nat.lt_of_lt_of_le h a.le
  have e:xs.toList[r']? =some (xs[r']):=by simp[hs]
  have:=a.lo _ _ h e
  have:=b.hi _ _ (Nat.le_refl _) e
  omega
def NotIn(t:SetTable)(j:Nat):Prop:=t.place[SetTable.below t.place j]? ≠some j
theorem zI(n:Nat):bN (Array.range n).toList:=by
 rw[Array.toList_range]
 exact List.pairwise_lt_range
structure Led(led:Bool)(t:SetTable):Prop where
 rise:bN t.place.toList
 led:t.led=led
theorem Led.standIn{led:Bool}{t:SetTable}(h:t.led=led)(n:Nat):Led led (t.standIn n):=⟨zI n,h⟩
theorem Led.or{led:Bool}{t:SetTable}(h:Led led t)(n:Nat):Led led (t.orStandIn n):=by
 unfold SetTable.orStandIn
 split
 ·exact h
 ·exact .standIn h.led n
theorem Led.fresh(led:Bool):Led led (.fresh 0 0 led):=⟨List.Pairwise.nil,rfl⟩
end L2
namespace L2
open PySem PyProof.Rows
def leads(w:World):Bool:= !w.params.followText "set-order"
def iv:Value->Int
 | .int n _=>n
 | _=>0
def IntSet(P:Program)(w:World)(h:Heap)(a:Addr)(ms:List Int):Prop :=
 ∃ (o:Obj) (es:Array (Int × Value)) (ep:Nat) (t:SetTable),h.get? a=some o/\o.ExactSet/\o.data=.set es ep t/\ElemsOf (intKind P w) es.toList ∧
  List.Perm (es.toList.map λe=>iv e.2) ms/\es.size<scanBound/\t.fits es.size=true/\Led (leads w) t
section
variable{P:Program}{w:World}{A:Around}{E:Value->Shared->Prop}{s:Shared}
theorem IntSet.at{h h':Heap}{a:Addr}{ms:List Int}(x:IntSet P w h a ms)(k:∀ o,h.get? a=some o->h'.get? a=some o):IntSet P w h' a ms:=by
 obtain⟨o,es,ep,t,ho,r⟩:=x
 exact⟨o,es,ep,t,k _ ho,r⟩
end
section
variable{P:Program}{w:World}{A:Around}{R:Result->Shared->Prop}{I:Addr}{fp wr:List Addr}{G:Array GenState->Array GenState->Prop}{n:Nat}{T:Nat->Value->Prop}{St:Nat->Shared->Prop}
end
section
variable{P:Program}{w:World}{A:Around}{E:Value->Shared->Prop}{s:Shared}
end
end L2
namespace L2
open PySem PyProof.Rows
section
variable{P:Program}{w:World}{A:Around}{E:Value->Shared->Prop}{s:Shared}
end
end L2
namespace L2
open PySem PyProof.Rows
structure ziv(P:Program)(w:World)(A:Around)(h h1:Heap)(a I:Addr)(ms:List Int):Prop where
 ex:∃ (fp:List Addr) (ord:List Value) (ks:List Int) (St:Nat->Heap->Prop),(∀ b∈fp,b=a\/h.objs.size<=b)/\Walks P w A I fp [I] ord.length (λi v=>ord[i]? =some v) St/\St 0 h1/\IntsAre ord ks/\ks.Perm ms
 new:h.objs.size<=I
section
variable{P:Program}{w:World}{A:Around}{E:Value->Shared->Prop}{s:Shared}
end
end L2
namespace L2
open PySem PyProof.Rows
section
variable{P:Program}{w:World}{A:Around}{E:Value->Shared->Prop}{s:Shared}
end
end L2
namespace L2
section
variable{X:Cx}
theorem Inv.drawn{pins:List (Addr × Obj)}{σ:St}{H:Hp}{s:Shared}(I:Inv X pins σ H s)(d):Inv X pins σ H { s with drawn:=d } :=
 { ok:=I.ok,os:=I.os,bare:=I.bare,base:=I.base,loc:=I.loc,cell:=I.cell,free:=I.free,freeC:=I.freeC,pin:=I.pin,hok:=I.hok,len:=I.len }
theorem bO:∀ {ns:List Int} {us:List Value},Vals (ns.map V.int) us->IntsAre us ns
 | [],_,.nil=>.nil
 | n::r,_,.cons h t=>by
  obtain⟨tk,rfl⟩:=h
  exact .cons _ _ (bO t)
def zJ(K:W.Frag)(te:TE):TE:=λσ H Q=>te σ H λx H1=>∃ (p:Addr) (ns:List Int),x=.ref p/\SqL K H1 p (ns.map V.int)/\ns.length<64 ∧
 ∀ (a:Addr) (o:HO) (D:Addr) (ks:List Int),H1 a=none->upd H1 a o D=none->ks.Pairwise (· <·)->(∀ x,x∈ks↔x∈ns)->ks.length<=ns.length->Q (.ref D) (upd (upd H1 a o) D (.lst (ks.map V.int)))
def clo(te:TE):TE:=λσ H Q=>∃ C:VK,te σ H C/\∀ x H1,C x H1->Q x H1
theorem PE.clo{e:Expr}{te:TE}(h:PE X e te):PE X e (clo te):=λpins s σ H Q I ⟨C,q,m⟩=>AW (h pins s σ H C I q) λv s' ⟨x,H1,I1,r1,q1⟩=>⟨x,H1,I1,r1,m _ _ q1⟩
end
end L2
namespace L2
def bP(K:W.Frag)(a:Addr)(n:Nat):It :=
 ⟨λi H=>i<n/\∃ xs,SqL K H a xs/\xs.length=n,λi H x H'=>H'=H/\∀ xs,SqL K H a xs->xs[n - 1 - i]? =some x,λi _=>n<=i⟩
def zK(K:W.Frag)(ta:TA):TI:=λσ H R=>ta σ H λvs H1=>∃ a xs,vs=[.ref a]/\SqL K H1 a xs/\R (bP K a xs.length) H1
section
variable{X:Cx}{tg:Expr}
def zL(K:W.Frag)(te:TE)(ts:TO):TE:=λσ H Q=>te σ H λx H1=>ts σ H1 λk H2=>k=some (-1)/\∃ a xs,x=.ref a/\SqL K H2 a xs/\∀ p,H2 p=none->Q (.ref p) (upd H2 p (.lst xs.reverse))
theorem zM{K:W.Frag}{te:TE}{ts:TO}{σ:St}{H:Hp}{Q:VK}:zL K te ts σ H Q=(te σ H λx H1=>ts σ H1 λk H2=>k=some (-1)/\∃ a xs,x=.ref a/\SqL K H2 a xs/\∀ p,H2 p=none->Q (.ref p) (upd H2 p (.lst xs.reverse))):=rfl
def zN(ta:TA):TE:=λσ H Q=>ta σ H λvs H1=>∃ k:Nat,vs=[.int k]/\k<=100000/\∀ p,H1 p=none->Q (.ref p) (upd H1 p (.lst (bL k)))
theorem zO{ta:TA}{σ:St}{H:Hp}{Q:VK}:zN ta σ H Q=(ta σ H λvs H1=>∃ k:Nat,vs=[.int k]/\k<=100000/\∀ p,H1 p=none->Q (.ref p) (upd H1 p (.lst (bL k)))):=rfl
def bQ(K:W.Frag):List V->Hp->VK->Prop:=λxs H Q=>∃ (p:Addr) (kvs:List (AX × V)),xs=[.ref p]/\H p=some (.dK kvs)/\∀ l,H l=none->Q (.ref l) (upd H l (.dK kvs))
theorem zP{K:W.Frag}{p:Addr}{H:Hp}{Q:VK}:bQ K [.ref p] H Q=∃ kvs,H p=some (.dK kvs)/\∀ l,H l=none->Q (.ref l) (upd H l (.dK kvs)):=by simp[bQ]
end
theorem zQ{K:W.Frag}{as:TA}{g:TG}{s1:TS}{D:Ends}{σ:St}{H:Hp}:DV (zK K as) g s1 D σ H=(as σ H λvs H1=>∃ a xs,vs=[.ref a]/\SqL K H1 a xs/\GG (bP K a xs.length) g s1 D σ H1):=rfl
section
variable{K:W.Frag}{tt:TT}{cap:List Nat}{σ:St}{H:Hp}{Q:VK}
theorem HN{n:Nat}(p:Nat->Bool)(hn:n<=sizeLine)(ht:∀ i,i<n->∀ QB:Bool->Hp->Prop,QB (p i) H->tt (some (.int (i:Int))::BI cap σ) H QB)
  (hd:∀ q,H q=none->Q (.ref q) (upd H q (.lst (((List.range n).filter p).map λ(i:Nat)=>V.int i)))):DR (DZ 0 n) (AJ 0) tt (AA 0) 1 cap σ H Q:=by
 refine⟨λi m σ' ys H'=>m=n - i/\i<=n/\H'=H/\(∃ x0,σ'=x0::BI cap σ)/\ys=((List.range i).filter p).map λ(i:Nat)=>V.int i,⟨n,by simp,Nat.zero_le _,rfl,⟨none,rfl⟩,rfl⟩,?_⟩
 rintro i m σ' ys H' ⟨rfl,hi,rfl,⟨x0,rfl⟩,rfl⟩
 by_cases hlt:i<n
 ·refine .inr ⟨hlt,?_,λx H2 y=> ?_⟩
  ·rw[List.length_map]
   have:=List.length_filter_le p (List.range i)
   rw[List.length_range]at this
   omega
  ·obtain⟨e,y⟩:=y
   subst e y
   rw[Int.zero_add]
   simp only[AJ,List.set_cons_zero]
   refine ht i hlt _ ?_
   cases hp:p i with
   | true =>
    rw[if_pos rfl]
    refine⟨λv H4=>v=.int i/\H4=H2,λy H4 ⟨e1,e2⟩=>⟨n - (i+1),by omega,rfl,hlt,e2,⟨_,rfl⟩,?_⟩,?_⟩
    ·rw[e1,List.range_succ,List.filter_append,List.map_append]
     simp[hp]
    ·simp[AA]
   | false =>
    rw[if_neg Bool.false_ne_true]
    refine⟨n - (i+1),by omega,rfl,hlt,rfl,⟨_,rfl⟩,?_⟩
    rw[List.range_succ,List.filter_append,List.map_append]
    simp[hp]
 ·have e:i=n:=by omega
  subst e
  exact .inl ⟨Nat.le_refl _,hd⟩
end
section
variable{K:W.Frag}{td ty tv te:TE}{D:Ends}{σ:St}{H:Hp}{Q:VK}{QB:Bool->Hp->Prop}
theorem zR:tY td ty σ H Q=(td σ H λx H1=>ty σ H1 λy H2=>∃ a v,x=.ref a/\DGet H2 a y (some v)/\Q v H2):=rfl
theorem zS:RV ty td σ H Q=(ty σ H λy H1=>td σ H1 λx H2=>∃ a o,x=.ref a/\DGet H2 a y o/\Q (.bl o.isSome) H2):=rfl
theorem zT:tZ ty td σ H Q=(ty σ H λy H1=>td σ H1 λx H2=>∃ a o,x=.ref a/\DGet H2 a y o/\Q (.bl (!o.isSome)) H2):=rfl
theorem zU:RW td ty tv D σ H=(tv σ H λv H1=>td σ H1 λx H2=>ty σ H2 λy H3=>∃ a H4,x=.ref a/\DPut H3 a y v H4/\D.nx σ H4):=rfl
theorem zV:uE td ty σ H Q=(td σ H λx H1=>∃ a,x=.ref a/\MH H1 a/\ty σ H1 λy H2=>∃ o,DGet H2 a y o/\Q (o.getD .non) H2):=rfl
theorem zW:RX σ H Q=(∀ p,H p=none->Q (.ref p) (upd H p (.dK []))):=rfl
theorem zX:RY σ H Q=(∀ p,H p=none->Q (.ref p) (upd H p (.dT []))):=rfl
theorem zY:tB te σ H QB=(te σ H λx H1=>∃ c,x=.bl c/\QB c H1):=rfl
theorem zZ:zJ K te σ H Q=(te σ H λx H1=>∃ (p:Addr) (ns:List Int),x=.ref p/\SqL K H1 p (ns.map V.int)/\ns.length<64 ∧
 ∀ (a:Addr) (o:HO) (D:Addr) (ks:List Int),H1 a=none->upd H1 a o D=none->ks.Pairwise (· <·)->(∀ x,x∈ks↔x∈ns)->ks.length<=ns.length->Q (.ref D) (upd (upd H1 a o) D (.lst (ks.map V.int)))):=rfl
variable{a b:Addr}{i j:Int}{z:Str}{kvs:List (AX × V)}{kvt:List (List AX × V)}{v:V}
theorem dS(e:H a=some (.dK kvs)):DGet H a (.str z) (B8 kvs (.inr z)):=DGet.k (k:=.inr z) e
theorem pS(e:H a=some (.dK kvs))(hl:kvs.length<100000):DPut H a (.str z) v (upd H a (.dK (CF kvs (.inr z) v))):=DPut.k (k:=.inr z) e (Nat.lt_of_lt_of_le hl (by decide))
end
end L2
namespace L2
section
variable{X:Cx}
abbrev SF(K:W.Frag):R2:=Z6 K false
theorem z0(hu:X.A.units+64<cLine):OpR X (compareOp .In) (SF X.K):=tM
end
theorem SqT.same{K:W.Frag}{H H':Hp}{a:Addr}{xs:List V}(e:Same H H')(h:SqT K H a xs):SqT K H' a xs:=by
 rcases h with(h | ⟨o,h⟩) | h
 ·exact .inl (.inl (e _ _ h))
 ·exact .inl (.inr ⟨o,e _ _ h⟩)
 ·exact .inr h
mutual
theorem Rep.same{K:W.Frag}{H H':Hp}(s:Same H H'):∀ {v:V} {d:PyData},Rep K H v d->Rep K H' v d
 | _,_,.non=>.non
 | _,_,.bl b=>.bl b
 | _,_,.int i=>.int i
 | _,_,.str x=>.str x
 | _,_,.lst h r=>.lst (s.seq h) (RepAll.same s r)
 | _,_,.tup h r=>.tup (SqT.same s h) (RepAll.same s r)
theorem RepAll.same{K:W.Frag}{H H':Hp}(s:Same H H'):∀ {vs:List V} {ds:List PyData},RepAll K H vs ds->RepAll K H' vs ds
 | _,_,.nil=>.nil
 | _,_,.cons h r=>.cons (Rep.same s h) (RepAll.same s r)
end
def Dat(K:W.Frag)(H:Hp)(n:Nat)(v:V)(d:PyData):Prop:=Rep K H v d/\d.canLay0=true/\d.depth<=n
section
variable{K:W.Frag}{H:Hp}{n:Nat}{Q:VK}
theorem Dat.int(i:Int):Dat K H n (.int i) (.int i):=⟨.int i,rfl,Nat.zero_le _⟩
theorem Dat.non:Dat K H n .non .none:=⟨.non,rfl,Nat.zero_le _⟩
theorem SG:∀ {xs:List V} {ds:List PyData},Paired (Dat K H n) xs ds->RepAll K H xs ds/\PyData.canLayAll0 ds=true/\PyData.depthAll ds<=n
 | _,_,.nil=>⟨.nil,rfl,Nat.zero_le _⟩
 | _,_,.cons h t=>by
  obtain⟨a1,a2,a3⟩:=SG t
  refine⟨.cons h.1 a1,?_,?_⟩
  ·simp[PyData.canLayAll0,h.2.1,a2]
  ·simp only[PyData.depthAll];exact Nat.max_le.mpr ⟨h.2.2,a3⟩
theorem Dat.lst{p:Addr}{xs:List V}{ds:List PyData}(h:SqL K H p xs)(hs:Paired (Dat K H n) xs ds):Dat K H (n+1) (.ref p) (.list ds):=by
 obtain⟨a1,a2,a3⟩:=SG hs
 exact⟨.lst h a1,by simpa [PyData.canLay0]using a2,by simpa [PyData.depth]using a3⟩
theorem Dat.tup{p:Addr}{xs:List V}{ds:List PyData}(h:SqT K H p xs)(hs:Paired (Dat K H n) xs ds):Dat K H (n+1) (.ref p) (.tuple ds):=by
 obtain⟨a1,a2,a3⟩:=SG hs
 exact⟨.tup h a1,by simpa [PyData.canLay0]using a2,by simpa [PyData.depth]using a3⟩
theorem Dat.shp{v:V}{d:PyData}(h:Dat K H n v d)(hn:n<=64):shp d:=by
 unfold L2.shp PySem.SeqAt.shaped
 rw[h.2.1]
 simpa using Nat.le_trans h.2.2 hn
theorem SH:∀ (l:List Int),Paired (Dat K H n) (l.map V.int) (l.map PyData.int)
 | []=>.nil
 | x::r=>.cons (.int x) (SH r)
theorem z6{p q:Addr}{d:PyData}(hn:n<=64)(h1:Dat K H n (.ref p) d)(h2:Dat K H n (.ref q) d)(hq:Q (.bl true) H):BL K (.ref p) (.ref q) H Q:=by
 unfold BL
 rw[if_neg (by simp[DW])]
 refine⟨_,_,h1.1,h2.1,h1.shp hn,h1.shp hn,?_⟩
 rw[bI (h1.shp hn)]
 exact hq
theorem z7{p q:Addr}{d:PyData}(hn:n<=64)(h1:Dat K H n (.ref p) d)(h2:Dat K H n (.ref q) d)(hq:Q (.bl false) H):CJ K (.ref p) (.ref q) H Q:=by
 unfold CJ
 rw[if_neg (by simp[DW])]
 refine⟨_,_,h1.1,h2.1,h1.shp hn,h1.shp hn,?_⟩
 rw[bI (h1.shp hn)]
 exact hq
theorem z8{p q:Addr}{xs:List V}{ds:List PyData}(hn:n<=63)(h1:SqL K H p xs)(hd:Paired (Dat K H n) xs ds)(h2:SqL K H q [])(hq:Q (.bl (!decide (xs=[]))) H):CJ K (.ref p) (.ref q) H Q:=by
 unfold CJ
 rw[if_neg (by simp[DW])]
 have e1:=Dat.lst h1 hd
 have e2:Dat K H 1 (.ref q) (.list []):=Dat.lst h2 .nil
 refine⟨_,_,e1.1,e2.1,e1.shp (by omega),e2.shp (by omega),?_⟩
 cases hd with
 | nil=>exact hq
 | cons _ _=>exact hq
theorem z9{p q:Addr}{xs:List V}{ds:List PyData}(hn:n<=63)(h1:SqL K H p xs)(hd:Paired (Dat K H n) xs ds)(h2:SqL K H q [])(hq:Q (.bl (decide (xs=[]))) H):BL K (.ref p) (.ref q) H Q:=by
 unfold BL
 rw[if_neg (by simp[DW])]
 have e1:=Dat.lst h1 hd
 have e2:Dat K H 1 (.ref q) (.list []):=Dat.lst h2 .nil
 refine⟨_,_,e1.1,e2.1,e1.shp (by omega),e2.shp (by omega),?_⟩
 cases hd with
 | nil=>exact hq
 | cons _ _=>exact hq
end
end L2
namespace L2
end L2
namespace L2
section
variable{prog:Program}{w:World}{A:Around}{E:Value->Shared->Prop}{s:Shared}{d it:Addr}{od:Obj}{es:Array DictEntry}{ep i:Nat}
end
end L2
namespace L2
theorem bR:∀ {ys:List Str} {us:List Value},Vals (ys.map V.str) us->StrsAre us ys
 | [],_,.nil=>.nil
 | y::r,_,.cons h t=>by
  obtain⟨tk,rfl⟩:=h
  exact .cons _ _ (bR t)
section
variable{X:Cx}
def bS(K:W.Frag):V->List V->Hp->VK->Prop:=λx vs H Q=>∃ (z:Str) (p:Addr) (ys:List Str),x=.str z/\vs=[.ref p]/\SqL K H p (ys.map V.str)/\z.length<=16/\(ys.map (·.length)).sum+ys.length<=1048576/\Q (.str (Txt.join z ys)) H
theorem Ab:MtR X "str.join" (bS X.K):=by
 intro pins s σ H x vs v us Q I rx rv h
 obtain⟨z,p,ys,rfl,rfl,hp,hz,hw,q⟩:=h
 obtain⟨t,rfl⟩:=rx
 obtain⟨u,rfl,ru⟩:=rv.one
 cases ru
 obtain⟨its,r,pl,hz'⟩:=I.list hp
 exact join_listW pl.isList (bR r) hz hw λt' k=>⟨.str _,H,I.tok k,⟨t',rfl⟩,q⟩
end
section
variable{K:W.Frag}{tt:TT}{te:TE}{cap:List Nat}{σ:St}{H:Hp}{Q:VK}
end
end L2
namespace L2
section
variable{X:Cx}{tg:Expr}
end
section
variable{K:W.Frag}{tt:TT}{cap:List Nat}{σ:St}{H:Hp}{Q:VK}
def ziw(lo:Int)(n:Nat):List Int:=(List.range n).map λ(i:Nat)=>lo - (i:Int)
end
def SI(n i:Nat)(P:Prop):Prop:=∃ m',m'<n - i/\m'=n - (i+1)/\i+1<=n/\P
theorem Ac{n i:Nat}{P:Prop}(h:i<n)(p:P):SI n i P:=⟨_,by omega,rfl,h,p⟩
theorem Ag{K:W.Frag}{g:TG}{tt:TT}{te:TE}{k:Nat}{cap:List Nat}{σ:St}{H:Hp}{Q:VK}{b:Addr}{xs:List V}(hn:xs.length<=sizeLine)(Pv:Nat->St->List V->Hp->Prop)(h0:Pv 0 (HK k cap σ) [] H)(hq:∀ i σ' ys H,Pv i σ' ys H->SqL K H b xs/\ys.length<=i)
  (hs:∀ i x σ' ys H,i<xs.length->xs[i]? =some x->Pv i σ' ys H->g x σ' H λσ2 H2=>tt σ2 H2 λc H3=>if c=true then ∃ N:VK,(∀ y H4,N y H4->SI xs.length i (Pv (i+1) σ2 (ys++[y]) H4))/\te σ2 H3 N else SI xs.length i (Pv (i+1) σ2 ys H3))
  (hd:∀ σ' ys H,Pv xs.length σ' ys H->∀ p,H p=none->Q (.ref p) (upd H p (.lst ys))):DR (FI K b) g tt te k cap σ H Q:=by
 refine⟨λi m σ' ys H=>m=xs.length - i/\i<=xs.length/\Pv i σ' ys H,⟨xs.length,by simp,Nat.zero_le _,h0⟩,?_⟩
 rintro i m σ' ys H ⟨rfl,hi,p⟩
 obtain⟨q,hl⟩:=hq i σ' ys H p
 by_cases hlt:i<xs.length
 ·refine .inr ⟨⟨xs,xs[i],q,by simp[hlt]⟩,by omega,λx H' y=> ?_⟩
  obtain⟨e,y⟩:=y
  subst e
  exact hs i x σ' ys _ hlt (y xs q) p
 ·have e:i=xs.length:=by omega
  subst e
  exact .inl ⟨⟨xs,q,Nat.le_refl _⟩,hd σ' ys H p⟩
section
variable{P:Program}{w:World}{A:Around}{E:Value->Shared->Prop}{s:Shared}
end
section
variable{X:Cx}
end
end L2
namespace L2
section
variable{P:Program}{w:World}{A:Around}{E:Value->Shared->Prop}{s:Shared}
theorem Ah{e it l:Addr}{i:Nat}{items:Array Value}{x old:Value}{Q:Option Value->Shared->Prop}(he:IsEnum s.heap e it i old)(hi:s.heap.IsListIter it l i)(hl:s.heap.IsList l items)(ex:items[i]? =some x)(ne:e≠it)
  (q:∀ h',IsEnumOut h' e it (i+1) x s.heap.objs.size->h'.IsListIter it l (i+1)->h'.get? s.heap.objs.size=some { cls:=Value.type "tuple",data:=Data.seq #[Value.int i s.toks,x] }->(∀ b o,b≠e->b≠it->s.heap.get? b=some o->h'.get? b=some o) →
   Q (some (.ref s.heap.objs.size)) { s with heap:=h',toks:=s.toks+1 }):wpAny (model P w) A (pyNext (.ref e)) Q E s:=by
 have ty:s.TypeIs (.ref e) "enumerate":=⟨_,he,rfl⟩
 unfold pyNext
 exact wpAny_bind (wpAny_attempt (wpAny_callSpecial?_slot (name:=Str.ofString "__next__") ty F.slot_enumerate_next (wpAny_call_entry F.slot_enumerate_next ty F.entry_enumerate_next
  (enumerate_next_item he hi hl ex ne λh' a1 a2 a3 _ a4=>wpAny_pure (q h' a1 a2 a3 a4)) (F.args_enumerate_next_1 _))))
theorem Aj{e it l:Addr}{i:Nat}{items:Array Value}{old:Value}{Q:Fin->Shared->Prop}(hh:A.handled=none)(he:IsEnum s.heap e it i old)(hi:s.heap.IsListIter it l i)(hl:s.heap.IsList l items)(ex:items[i]? =none)
  (q:∀ h' x,Heap.ExtBut it s.heap h'->(∃ o,h'.get? x=some o/\o.cls=.type "StopIteration")->E (.ref x) { s with heap:=h' }):wpAny (model P w) A (Builtin.«enumerate.__next__» ⟨[.ref e],[]⟩) Q E s:=by
 show wpAny (model P w) A (field (.ref e) 2 >>= _) _ _ s
 refine wpAny_bind (wpAny_field he rfl (x:=.ref it) rfl ?_)
 exact wpAny_bind (zC (k:=true) hh hi hl ex q)
theorem Ak{e it l:Addr}{i:Nat}{items:Array Value}{old:Value}{Q:Option Value->Shared->Prop}(hh:A.handled=none)(he:IsEnum s.heap e it i old)(hi:s.heap.IsListIter it l i)(hl:s.heap.IsList l items)(ex:items[i]? =none)
  (q:∀ h',Heap.ExtBut it s.heap h'->Q none { s with heap:=h' }):wpAny (model P w) A (pyNext (.ref e)) Q E s:=by
 have ty:s.TypeIs (.ref e) "enumerate":=⟨_,he,rfl⟩
 unfold pyNext
 refine wpAny_bind (wpAny_attempt (wpAny_callSpecial?_slot (name:=Str.ofString "__next__") ty F.slot_enumerate_next (wpAny_call_entry F.slot_enumerate_next ty F.entry_enumerate_next (Aj hh he hi hl ex λh' x kk ⟨o,e1,e2⟩=> ?_) (F.args_enumerate_next_1 _))))
 exact wpAny_bind (wpAny_isInstance (T:="StopIteration") (b:=true) ⟨o,e1,e2⟩ isSubtype_stop (wpAny_pure (q _ kk)))
end
def JM(K:W.Frag)(a:Addr):It :=
  ⟨λi H=>∃ xs x,SqL K H a xs/\xs[i]? =some x,
   λi H v H'=>∃ t,H t=none/\v=.ref t/\∃ x,H'=upd H t (.tup [.int (i:Int),x])/\∀ xs,SqL K H a xs->xs[i]? =some x,
   λi H=>∃ xs,SqL K H a xs/\xs.length<=i⟩
def EnSt(e it l:Addr)(i:Nat)(h:Heap):Prop:=(∃ old,IsEnum h e it i old)/\h.IsListIter it l i
theorem EnSt.lt{e it l:Addr}{i:Nat}{h:Heap}(q:EnSt e it l i h):∀ b∈[e,it],b<h.objs.size:=by
 obtain⟨⟨old,h1⟩,o,h2,_⟩:=q
 intro b hb
 simp only[List.mem_cons,List.not_mem_nil,or_false]at hb
 rcases hb with rfl | rfl
 ·exact Heap.lt_size h1
 ·exact Heap.lt_size h2
theorem Al{P:Program}{w:World}{K:W.Frag}{elts:List Expr}{kn:Nat}{pos:Pos}{e it l:Addr}(ne:e≠it) :
  JC P w K (.Tuple elts kn pos) (JM K l) [e,it] e (λi h=>EnSt e it l i h) where
 mem:=by simp
 obj:=λi h st b hb=>by
  obtain⟨⟨old,h1⟩,h2⟩:=st
  obtain⟨o4,e4,d4⟩:=ItK.ob (k:=true) h2
  simp only[List.mem_cons,List.not_mem_nil,or_false]at hb
  rcases hb with rfl | rfl
  ·exact⟨_,h1,λv q=>by cases q⟩
  ·exact⟨_,e4,λv q=>by rw[d4]at q;cases q⟩
 keep:=λi h h' ⟨⟨old,h1⟩,h2⟩ q=>⟨⟨old,q e (by simp) _ h1⟩,ItK.up (k:=true) h2 λo x=>q it (by simp) o x⟩
 item:=by
  intro X hP hw hK hc i pins s σ H E I hf st hg
  subst hP hw hK
  obtain⟨xs,x,hx,ex⟩:=hg
  obtain⟨its,rv,d1⟩:=I.seqK (k:=true) hx
  obtain⟨u,hu,ru⟩:=rv.get ex
  have lt:=EnSt.lt st
  obtain⟨⟨old,h1⟩,h2⟩:=st
  refine Ah h1 h2 d1 (x:=u) (by simpa using hu) ne λh' g1 g2 g3 kk=>⟨_,rfl,?_⟩
  refine wpAny_letOwnedTupleGo_enum g1 λh2' z2 sb=> ?_
  have I1:=I.tnew (ys:=[.int (i:Int),x]) (its:=[Value.int (i:Int) s.toks,u]) (.cons (show RelV (.int (i:Int)) (Value.int (i:Int) s.toks)from⟨s.toks,rfl⟩) (.cons ru .nil)) (by show 2<=sizeLine;decide)
  have f':∀ b∈[e,it],b≠s.heap.objs.size:=λb hb=>Nat.ne_of_lt (lt b hb)
  have nz:s.heap.objs.size≠e:=(f' e (by simp)).symm
  have I2:Inv X pins σ (upd H s.heap.objs.size (.tup [.int (i:Int),x])) { s with heap:=h2',toks:=s.toks+1 }:=by
   refine Inv.turnedS (s:={ s with heap:=s.heap.push { cls:=Value.type "tuple",data:=Data.seq #[Value.int i s.toks,u] } }) (t':=s.toks+1) (fp:=[e,it]) I1 (λb o hb eo=> ?_) λb hb=>(hf b hb).upd (f' b hb)
   simp only[List.mem_cons,List.not_mem_nil,or_false,not_or]at hb
   rcases Heap.get?_push_cases eo with⟨e1,e2⟩ | e1
   ·subst e1 e2
    exact sb.extBut _ _ nz g3
   ·exact sb.extBut _ _ hb.1 (kk _ _ hb.1 hb.2 e1)
  exact⟨.ref s.heap.objs.size,_,I2,rfl,⟨s.heap.objs.size,I.fresh,rfl,x,rfl,λys' q=>by rw[I.seqK_inj (k:=true) q hx];exact ex⟩,
   ⟨⟨_,z2⟩,ItK.up (k:=true) g2 λo x=>sb.extBut _ _ ne.symm x⟩,λb hb=>((hf b hb).upd (f' b hb)).1⟩
 done:=by
  intro X hP hw hK hc i pins s σ H E I hf st hg
  subst hP hw hK
  obtain⟨xs,hx,en⟩:=hg
  obtain⟨its,rv,d1⟩:=I.seqK (k:=true) hx
  obtain⟨⟨old,h1⟩,h2⟩:=st
  have e1:=rv.length
  refine Ak (I.ok.hd hc) h1 h2 d1 (by simp;omega) λh' kk=>⟨rfl,I.turnedS (t':=s.toks) (fp:=[e,it]) (λb o hb eo=> ?_) hf⟩
  simp only[List.mem_cons,List.not_mem_nil,or_false,not_or]at hb
  exact kk _ _ hb.2 eo
 self:=λ_ _ _ _ _ st h=>by
  obtain⟨⟨old,h1⟩,_⟩:=st
  exact wpAny_pyIter_enum h1 h
section
variable{X:Cx}
def GH(K:W.Frag)(ta:TA):TI:=λσ H R=>ta σ H λvs H1=>∃ a:Addr,vs=[.ref a]/\(∃ xs,SqL K H1 a xs)/\R (JM K a) H1
theorem IK{a:Expr}{ta:TA}{p pos p2:Pos}{elts:List Expr}{kn:Nat}(hg:Gl X "enumerate")(hm:X.mg "enumerate"=none)(ha:PA X [a] ta)(hs:starEach [a] X.env=[(false,eval a X.env)]:=by rfl) :
  PI X (.Tuple elts kn p2) (.Call (.Name "enumerate" p) [a] [] pos) (GH X.K ta):=by
 intro pins s σ H R I h
 refine Call_ (KN I hg hm boot_enumerate (PyProof.Rows.callWith_type1 (AW (ha pos pins s σ H _ I h) λus s1 ⟨vs,H1,I1,r1,q1⟩=> ?_) (by rw[hs];rfl) (by rfl)))
 obtain⟨l,e,⟨xs,hx⟩,q⟩:=q1
 subst e
 obtain⟨u,rfl,rx⟩:=JE r1
 cases rx
 obtain⟨its,rv,d1⟩:=I1.seqK (k:=true) hx
 refine call_enumerate_list d1 λh' z1 z2 sz kk=>wpAny_pyIter_enum z1 ?_
 have I2:Inv X pins σ H1 { s1 with heap:=h' }:=I1.kept (t':=s1.toks) kk
 refine⟨_,[s1.heap.objs.size+1,s1.heap.objs.size],_,_,H1,rfl,I2,Al (Nat.ne_of_gt (by omega)),⟨⟨_,z1⟩,z2⟩,λb hb=>I1.fpOk ?_ (I1.hok.fresh ?_),q⟩
 all_goals
  simp only[List.mem_cons,List.not_mem_nil,or_false]at hb
  rcases hb with rfl | rfl<;>omega
end
theorem Am{K:W.Frag}{as:TA}{g:TG}{s1:TS}{D:Ends}{σ:St}{H:Hp}:DV (GH K as) g s1 D σ H=(as σ H λvs H1=>∃ a:Addr,vs=[.ref a]/\(∃ xs,SqL K H1 a xs)/\GG (JM K a) g s1 D σ H1):=rfl
theorem Ap{K:W.Frag}{σ:St}{H:Hp}{a:Addr}{xs:List V}{g:TG}{tb:TS}{D:Ends}(Pv:Nat->St->Hp->Prop)(h0:Pv 0 σ H)(ha:∀ i σ H,i<=xs.length->Pv i σ H->SqL K H a xs)
  (hs:∀ i x σ H t,xs[i]? =some x->Pv i σ H->H t=none->g (.ref t) σ (upd H t (.tup [.int (i:Int),x])) λσ2 H2=>tb { D with nx:=Pv (i+1),ct:=Pv (i+1),bk:=D.nx } σ2 H2) (hd:∀ σ H,Pv xs.length σ H->D.nx σ H):GG (JM K a) g tb D σ H:=by
 refine⟨λi m σ H=>i+m=xs.length/\Pv i σ H,⟨xs.length,by omega,h0⟩,λi m σ H ⟨e,p⟩=> ?_⟩
 have h1:=ha i σ H (by omega) p
 by_cases hi:i<xs.length
 ·refine .inr ⟨⟨xs,xs[i],h1,List.getElem?_eq_getElem hi⟩,Pv (i+1),λσ' H' q=>⟨m - 1,by omega,by omega,q⟩,λv H' ⟨t,ht,e,x,e',q1⟩=> ?_⟩
  subst e e'
  exact hs i x σ H t (q1 _ h1) p ht
 ·have e:i=xs.length:=by omega
  subst e
  exact .inl ⟨⟨xs,h1,Nat.le_refl _⟩,hd _ _ p⟩
end L2
namespace L2
section
variable{X:Cx}
def bT(K:W.Frag):List V->Hp->VK->Prop:=λxs H Q=>∃ (p:Addr) (ns:List Int),xs=[.ref p]/\SqL K H p (ns.map V.int)/\ns.length<64 ∧
  ∀ (D:Addr) (ks:List Int),H D=none->ks.Perm ns->ks.Pairwise (· <=·)->Q (.ref D) (upd H D (.lst (ks.map V.int)))
theorem Aq(hc:X.calm=true):CallR X (.builtin "sorted") (bT X.K):=by
 intro pins s σ H xs us Q I r h
 obtain⟨p,ns,rfl,hp,hn,q⟩:=h
 obtain⟨u,rfl,rx⟩:=JE r
 cases rx
 obtain⟨its,rv,pl,hz⟩:=I.list hp
 have hi:=bO rv
 refine sorted_ints pl.isList hi (by rw[hi.length];exact hn) λout ks ho pk hr=> ?_
 obtain⟨c,g⟩:=sortedAll_at s.heap its out
 have hD:s.heap.objs.size<=s.heap.objs.size+1:=Nat.le_succ _
 refine⟨.ref _,_,I.laid (t':=s.toks) (λb o e=>sortedAll_old e) hD ?_,rfl,q _ ks (I.hok.fresh hD) pk hr⟩
 have hl:ks.length<64:=by rw[pk.length_eq];exact hn
 exact⟨by rw[List.length_map,sizeLine_eq];omega,out.toList,c,R0 ho,g⟩
def Av(K:W.Frag):List V->Hp->VK->Prop:=λxs H Q=>∃ i j,xs=[.int i,.int j]/\Q (.int (if j<i then j else i)) H
theorem Aw{K:W.Frag}{i j:Int}{H:Hp}{Q:VK}:Av K [.int i,.int j] H Q=Q (.int (if j<i then j else i)) H:=propext ⟨λ⟨_,_,e,q⟩=>by cases e;exact q,λq=>⟨_,_,rfl,q⟩⟩
end
end L2
namespace L2
section
variable{P:Program}{w:World}{A:Around}{E:Value->Shared->Prop}{s:Shared}
end
section
variable{X:Cx}
end
end L2
namespace L2
section
variable{X:Cx}{pins:List (Addr × Obj)}{σ:St}{H:Hp}{s:Shared}
variable{tg iter elt:Expr}{ifs:List Expr}{scope:Scope}{pos:Pos}{td:TE}{g:TG}{tt:TT}{te:TE}{tn cn:List Str}{cap:List Nat}
end
end L2
namespace L2
theorem FnScope.go{N P:List Str}{sc:Scope}(h1:sc.kind=.function:=by exact rfl)(h2:sc.isCoroutine=false:=by exact rfl)(h3:sc.isGenerator=false:=by exact rfl)(h4:N.Nodup:=by decide +kernel)(h5:N.take P.length=P:=by exact rfl)(h6:∀ x∈P,sc.names.lookup x=some .local\/sc.names.lookup x=some .cell:=by decide +kernel)(h7:∀ y∈sc.names,y.2≠.free:=by decide +kernel):FnScope N P sc:=⟨h1,h2,h3,h4,h5,h6,h7⟩
theorem Room.m{j k:Nat}{A:Around}(r:Room k A)(h:j<=k:=by decide):Room j A:=r.mono h
abbrev FP(P:Program)(w:World)(K:W.Frag)(mg:Str->Option Value)(base:Heap)(k:Nat)(f:Addr)(fd:FuncData)(ps:List Str)(sp:Sp):Prop:=FnOk P w K mg base (D0 P w) k f fd ps sp
theorem Fun.okF{P:Program}{w:World}{K:W.Frag}{mg:Str->Option Value}{base:Heap}{x qual:Str}{st:Stmt}{f:Addr}{fd:FuncData}{N ps:List Str}{k:Nat}{sp:Sp}(F:Fun K x qual st f fd)(rd:(St->XK)->TS)(S:FnScope N ps (A0 st))(len:∀ {vs H Q E},sp vs H Q E->vs.length=ps.length)
  (ok:∀ {vs H Q E},sp vs H Q E->rd (λ_=>E) { nx:=λ_ H'=>Q .non H',rt:=Q } (A5 N vs) H)
  (hb:∀ (cdv:Value) (A:Around) (outer:List Env) (s:Shared) (H:Hp) (E:XK),Room k (A.deeper (envOfC qual (A0 st) s.heap.objs.size f cdv))->XOk (GT (D0 P w) P w K mg base N qual (A0 st) f cdv A outer s H E) (λ_=>E) →
   PSs (GT (D0 P w) P w K mg base N qual (A0 st) f cdv A outer s H E) (FQ st) (rd λ_=>E)):FP P w K mg base (k+1) f fd ps sp :=
 F.okE S (λ_ _ _ _=>len) λcdv A outer s H _ _ E hr h=>⟨_,hb cdv A outer s H E hr uN,ok h⟩
section
variable{X:Cx}{pos:Pos}
theorem A9(i:Nat){x:Str}{e:Expr}{te:TE}{pos':Pos}(hN:X.N.Nodup)(he:PE X e te)(hi:X.N[i]? =some x:=by exact rfl)(hx:KM X.env.scope x:=by exact Or.inl rfl)(hs:swapsWith e (some (.Name x pos')) pos.line X.env=pure false:=by rfl)(hf:X.fn x=true\/X.env.scope.names.lookup x=some .local:=by first | exact .inl rfl | exact .inr rfl | assumption) :
  PS X (.Assign [.Name x pos'] e pos) (AR te (AJ i)):=FH hN hi hx he hs hf
theorem BF(i:Nat){x:Str}(hN:X.N.Nodup)(hi:X.N[i]? =some x:=by exact rfl)(hx:KM X.env.scope x:=by exact Or.inl rfl)(hf:X.fn x=true\/X.env.scope.names.lookup x=some .local:=by first | exact .inl rfl | exact .inr rfl | assumption):PG X (.Name x pos) (AJ i):=Y7 hN hi hx hf
end
end L2
namespace L2
section
variable{X:Cx}{pos:Pos}
theorem AT{a:Expr}{ta:TE}{i:Int}{j pos'}(ha:PE X a ta):PE X (.Subscript a (.Constant (.int i) j pos') pos) (AC (AI X.K) ta (tC (.int i))):=AY AZ ha AN (λ_ _=>rfl)
theorem FnScope.cp{scope outer:Scope}{N P tn cn:List Str}{cap:List Nat}(_:FnScope N P outer)(h:SB scope outer N cn cap=true:=by decide +kernel)(h1:X.env.scope=outer:=by exact rfl)(h2:X.N=N:=by exact rfl):KU X scope tn cn cap:=vN h1 h2 h
end
theorem Ax{α :Type}{P:List α ->Prop}(h:P []):∀ us:List α,us.length=0->P us
 | [],_=>h
theorem SJ{α :Type}{P:List α ->Prop}(h:∀ a,P [a]):∀ us:List α,us.length=1->P us
 | [a],_=>h a
theorem SK{α :Type}{P:List α ->Prop}(h:∀ a b,P [a,b]):∀ us:List α,us.length=2->P us
 | [a,b],_=>h a b
theorem SL{α :Type}{P:List α ->Prop}(h:∀ a b c,P [a,b,c]):∀ us:List α,us.length=3->P us
 | [a,b,c],_=>h a b c
theorem SM{α :Type}{P:List α ->Prop}(h:∀ a b c d,P [a,b,c,d]):∀ us:List α,us.length=4->P us
 | [a,b,c,d],_=>h a b c d
theorem SN{α :Type}{P:List α ->Prop}(h:∀ a b c d e,P [a,b,c,d,e]):∀ us:List α,us.length=5->P us
 | [a,b,c,d,e],_=>h a b c d e
theorem SO{α :Type}{P:List α ->Prop}(h:∀ a b c d e f,P [a,b,c,d,e,f]):∀ us:List α,us.length=6->P us
 | [a,b,c,d,e,f],_=>h a b c d e f
theorem SQ{α :Type}{P:List α ->Prop}(h:∀ a b c d e f g,P [a,b,c,d,e,f,g]):∀ us:List α,us.length=7->P us
 | [a,b,c,d,e,f,g],_=>h a b c d e f g
def SR(x qual:Str)(st:Stmt)(ps:List Str):Prop:=∀ (kV doc pm:Value) (an:Option Addr) (cdv ct:Value) (us:List Value),us.length=ps.length->bindArgs (W.fnOf x qual (HJ st) (FQ st) (A0 st) .none kV doc pm an cdv ct) ⟨us,[]⟩=pure (ps.zip us)
structure GF(K:W.Frag)(x:Str)(st:Stmt):Prop where
 ex:∃ (f:Addr) (fd:FuncData),W.nsIn K mainGlobals x=some (some (.ref f))/\Fun K x x st f fd
structure GM(K:W.Frag)(C:Addr)(m q:Str)(st:Stmt):Prop where
 ex:∃ (f:Addr) (fd:FuncData),W.findIn K (.ref C) m=some (some (.ref f))/\W.isFn K (.ref f)=true/\Fun K m q st f fd
structure GC(K:W.Frag)(C:Addr)(x:Str):Prop where
 ac:W.nsIn K mainGlobals x=some (some (.ref C))
 c:Cls K C
structure GN(K:W.Frag)(C:Addr)(x q:Str)(st:Stmt):Prop where
 m:GM K C "__init__" q st
 mks:W.makesIn K C=true
 kc:W.keepIn K (.ref C)=true
 ac:W.nsIn K mainGlobals x=some (some (.ref C))
structure GX(K:W.Frag)(C:Addr)(x:Str):Prop where
 ac:W.nsIn K mainGlobals x=some (some (.ref C))
 ex:W.excIn K C [.type "ValueError",.type "Exception",.type "BaseException",.type "object"] "ValueError.__new__"=true
section
variable{K:W.Frag}{x q:Str}{st:Stmt}{C f:Addr}{oc:Value}{od an:Option Addr}{osl:Array (Option Value)}{kV doc pm cdv ct:Value}
theorem gf(a:W.nsIn K mainGlobals x=some (some (.ref f)))(l:K.lookup f=some ⟨oc,od,.func (W.fnOf x x (HJ st) (FQ st) (A0 st) .none kV doc pm an cdv ct),osl⟩)
  (c:W.codeIn K cdv x=true) (k:W.keepIn K (.ref f)=true):GF K x st:=⟨_,_,a,aH l c k⟩
theorem gm(a:W.findIn K (.ref C) x=some (some (.ref f)))(l:K.lookup f=some ⟨oc,od,.func (W.fnOf x q (HJ st) (FQ st) (A0 st) .none kV doc pm an cdv ct),osl⟩)
  (c:W.codeIn K cdv q=true) (k:W.keepIn K (.ref f)=true) (i:W.isFn K (.ref f)=true):GM K C x q st:=⟨_,_,a,i,aH l c k⟩
theorem gn{y:Str}(a:W.findIn K (.ref C) "__init__"=some (some (.ref f)))(l:K.lookup f=some ⟨oc,od,.func (W.fnOf "__init__" q (HJ st) (FQ st) (A0 st) .none kV doc pm an cdv ct),osl⟩)
  (c:W.codeIn K cdv q=true) (k:W.keepIn K (.ref f)=true) (i:W.isFn K (.ref f)=true) (m:W.makesIn K C=true) (n:W.keepIn K (.ref C)=true) (s:W.nsIn K mainGlobals y=some (some (.ref C))):GN K C y q st:=⟨gm a l c k i,m,n,s⟩
theorem gc(a:W.nsIn K mainGlobals x=some (some (.ref C)))(l:W.plainGet K C Str.empty=true)(c:W.hasDictIn K C=true)(k:W.plainOver K C=true)(i:W.findIn K (.ref C) "__setattr__"=some (some (.builtin "object.__setattr__"))):GC K C x:=⟨a,l,c,k,i⟩
end
section
variable{P:Program}{w:World}{K:W.Frag}{h:Heap}{mg:Str->Option Value}{base:Heap}{x q:Str}{st:Stmt}{C:Addr}{k:Nat}{ps:List Str}{sp:Sp}
theorem GF.cal(g:GF K x st)(X:K.In h)(G:h.Ns mainGlobals mg)(ok:∀ {f fd},Fun K x x st f fd->FP P w K mg base k f fd ps sp)
  (b:SR x x st ps:=by intro _ _ _ _ _ _;first | exact SJ λ_=>rfl | exact SK λ_ _=>rfl | exact SL λ_ _ _=>rfl | exact SM λ_ _ _ _=>rfl | exact SN λ_ _ _ _ _=>rfl | exact Ax rfl | exact SO λ_ _ _ _ _ _=>rfl | exact SQ λ_ _ _ _ _ _ _=>rfl):BH P w K mg base k x ps sp:=by
 obtain⟨f,fd,a,F⟩:=g.ex
 exact⟨f,fd,ok F,W.mg_of X G a,F.kp,F.binds b⟩
theorem GM.cal(g:GM K C x q st)(ok:∀ {f fd},Fun K x q st f fd->FP P w K mg base k f fd ps sp)
  (b:SR x q st ps:=by intro _ _ _ _ _ _;first | exact SJ λ_=>rfl | exact SK λ_ _=>rfl | exact SL λ_ _ _=>rfl | exact SM λ_ _ _ _=>rfl | exact SN λ_ _ _ _ _=>rfl | exact SO λ_ _ _ _ _ _=>rfl | exact SQ λ_ _ _ _ _ _ _=>rfl):B9 P w K mg base C k x ps sp:=by
 obtain⟨f,fd,a,i,F⟩:=g.ex
 exact⟨f,fd,ok F,⟨a,i,F.kp⟩,F.binds b⟩
theorem GN.cal(g:GN K C x q st)(X:K.In h)(G:h.Ns mainGlobals mg)(ok:∀ {f fd},Fun K "__init__" q st f fd->FP P w K mg base k f fd ps sp)
  (b:SR "__init__" q st ps:=by intro _ _ _ _ _ _;first | exact SJ λ_=>rfl | exact SK λ_ _=>rfl | exact SL λ_ _ _=>rfl | exact SM λ_ _ _ _=>rfl | exact SN λ_ _ _ _ _=>rfl | exact SO λ_ _ _ _ _ _=>rfl | exact SQ λ_ _ _ _ _ _ _=>rfl):KW P w K mg base C k x ps sp:=by
 obtain⟨f,fd,a,i,F⟩:=g.m.ex
 exact⟨f,fd,ok F,⟨g.mks,a,i,g.kc⟩,W.mg_of X G g.ac,F.binds b⟩
theorem GF.law{fa:Addr}(g:GF K x st)(X:K.In h)(G:h.Ns mainGlobals mg)(hfa:mg x=some (.ref fa))
  (b:∀ (kV doc pm:Value) (an:Option Addr) (cdv ct:Value) (s:Shared) (v:Value),BindsTo s (W.fnOf x x (HJ st) (FQ st) (A0 st) .none kV doc pm an cdv ct) ⟨[v],[]⟩ [("script",v)]) :
  ∃ fd:FuncData,(∀ (s:Shared) (v:Value),BindsTo s fd ⟨[v],[]⟩ [("script",v)])/\Fun K x x st fa fd:=by
 obtain⟨f,fd,a,F⟩:=g.ex
 have e:=hfa.symm.trans (W.mg_of X G a)
 cases e
 obtain⟨oc,od,kV,doc,pm,an,cdv,ct,osl,rfl,lk,hcd⟩:=F.ex
 exact⟨_,b kV doc pm an cdv ct,F⟩
end
end L2
namespace L2
def SS(K:W.Frag)(to ti tv:TE)(rd:V->V->Hp->VK->Prop):TS:=λD σ H=>to σ H λx H1=>ti σ H1 λy H2=>∃ p xs,∃ n:Nat,∃ v,x=.ref p/\y=.int n/\SqL K H2 p xs/\xs[n]? =some v/\tv σ H2 λz H3=>rd v z H3 λu H4=>CN (.ref p) (.int n) u H4 λH5=>D.nx σ H5
theorem Ay{K:W.Frag}{to ti tv:TE}{rd:V->V->Hp->VK->Prop}{D:Ends}{σ:St}{H:Hp}:SS K to ti tv rd D σ H=(to σ H λx H1=>ti σ H1 λy H2=>∃ p xs,∃ n:Nat,∃ v,x=.ref p/\y=.int n/\SqL K H2 p xs/\xs[n]? =some v/\tv σ H2 λz H3=>rd v z H3 λu H4=>CN (.ref p) (.int n) u H4 λH5=>D.nx σ H5):=rfl
section
variable{X:Cx}{o i value:Expr}{td ty tv:TE}{tpos pos:Pos}
theorem Az{op:Operator}{rd:V->V->Hp->VK->Prop}(ho:PE X o td)(hi:PE X i ty)(hv:PE X value tv)(hop:RH X op rd)
  (ha:∀ ov iv new,augStore i ov iv new=(do holding [new,ov,iv] (setItem ov iv new);release [new,ov,iv] [];pure .next):=by intros;rfl):PS X (.AugAssign (.Subscript o i tpos) op value pos) (SS X.K td ty tv rd):=by
 intro pins s σ H D I h
 refine wpAny_AugAssign_SubscriptAny (AW (ho pins s σ H _ I h) λu s1 ⟨x,H1,I1,rx,q1⟩=>AW (hi pins s1 σ H1 _ I1 q1) λiv s2 ⟨y,H2,I2,ry,p,xs,n,v,ex,ey,hq,hx,q2⟩=> ?_) ha
 subst ex ey
 obtain rfl:u=Value.ref p:=rx
 have ry':=ry
 obtain⟨t,rfl⟩:=ry
 obtain⟨its,r,pl,hz⟩:=I2.list hq
 obtain⟨w,ew,rw'⟩:=r.get hx
 have hl:=r.length
 have hn:=JD
 have hlt:=(List.getElem?_eq_some_iff.mp hx).1
 refine wpAny_getItem_list pl.isList (by omega) (by omega) (x:=w) (by simpa using ew) ?_
 refine AW (hv pins s2 σ H2 _ I2 q2) λw2 s4 ⟨y2,H3,I4,ry2,q3⟩=>AW (hop pins s4 σ H3 v y2 w w2 _ I4 rw' ry2 q3) λw3 s5 ⟨z,H4,I5,rz,q4⟩=> ?_
 exact AW (DH pins s5 σ H4 (.ref p) (.int n) z _ _ _ _ I5 rfl ry' rz q4) λ_ s6 ⟨H5,I6,q5⟩=>⟨σ,H5,I6,q5⟩
end
theorem Bb(l:Addr)(items:Array Value)(n:Nat)(b:Addr)(items2:Array Value)(n2:Nat)(d:Option Addr)(sl:Array (Option Value))(hs0:¬(!items.isEmpty && Builtin.List.listTooLong (items.size+items2.size))=true)(hs1:items.size<=sizeLine)(hs2:items.size+items2.size<=sizeLine+1) :
  Meets (Builtin.«list.extend» ⟨[.ref l,.ref b],[]⟩) (λ_ R s=>s.heap.get? l=some { cls:=.type "list",dict:=none,data:=.seq items n,slots:= #[] }/\s.heap.get? b=some { cls:=.type "tuple",dict:=d,data:=.seq items2 n2,slots:=sl }/\R (.ok (.ret Value.none)) { s with heap:=s.heap.update l (Obj.mapSeq λx=>x++items2),toks:=s.toks }) :=
 .of_wp λprog w A R s h=>by
  obtain⟨hp,g,d,tk,os⟩:=s;obtain⟨hl,hb,h⟩:=h;have f1:=AutoSeq1.idx_int;have f2:=AutoSeq1.sub_tuple_tuple;have f3:=AutoSeq1.sub_list_list;have f4:=AutoSeq1.sub_tuple_list;have f5:=AutoSeq1.sub_list_tuple;
  have hz':(items++items2).size<=sizeLine+1:=by rw[Array.size_append];exact hs2
  wp_walk using (wpAny_updateSeq hl rfl (hz:=hs1) (_hz':=hz')),AutoSeq1.wpAny_loadPart' hl,AutoSeq1.wpAny_loadPart' hb;exact⟨_,rfl,h⟩
def bU(K:W.Frag):V->List V->Hp->VK->Prop:=λx vs H Q=>∃ l b xs zs,x=.ref l/\vs=[.ref b]/\H l=some (.lst xs)/\SqT K H b zs/\xs.length+zs.length<=sizeLine/\Q .non (upd H l (.lst (xs++zs)))
theorem Bc{X:Cx}:OY X "list.extend" (bU X.K):=by
 intro pins s σ H x vs v us Q I rx rv h
 obtain⟨l,b,xs,zs,rfl,rfl,hH,hB,hz,q⟩:=h
 cases rx
 obtain⟨u,rfl,ru⟩:=rv.one
 cases ru
 obtain⟨z,its,n,r,hl,e⟩:=I.lstM hH
 obtain⟨its2,r2,⟨o,e2,hc,n2,hd⟩,hz2⟩:=I.tuple hB
 have hl2:=r2.length
 obtain⟨oc,od,odat,osl⟩:=o
 have hc:oc=.type "tuple":=hc
 have hd:odat=.seq its2.toArray n2:=hd
 subst hc hd
 have hsz:its.toArray.size+its2.toArray.size<=sizeLine:=by rw[List.size_toArray,List.size_toArray];omega
 have hlong:¬ (!its.toArray.isEmpty && Builtin.List.listTooLong (its.toArray.size+its2.toArray.size))=true:=by
  rw[RQ hsz,Bool.and_false]
  exact Bool.false_ne_true
 refine call_meets F.slot_list_extend ⟨_,e,rfl⟩ F.entry_list_extend (F.args_list_extend_2 _ _)
  (Bb l its.toArray n b its2.toArray n2 _ _ hlong (by rw[List.size_toArray];omega) (by omega)) ⟨e,e2,?_⟩
 refine⟨.non,_,I.lset (its':=its++its2) hH e (by simp) (r.append r2) ?_,rfl,q⟩
 rw[List.length_append]
 omega
def K1(c:Int)(n:Nat):It:=⟨λi _=>i<n,λi H x H'=>H'=H/\x=.int ((i:Nat) * c),λi _=>n<=i⟩
theorem Bd{P:Program}{w:World}{K:PySem.W.Frag}{tg:Expr}(it:Addr)(c:Int)(n:Nat):JC P w K tg (K1 c n) [it] it (λi h=>IsRangeIter h it (0+(i:Nat) * c) ((n:Int) - (i:Nat)) c) where
 mem:=by simp
 obj:=λi h st b hb=>by
  have e:b=it:=by simpa using hb
  subst e
  exact⟨_,st,λv z=>by
   have z':Data.fields _=Data.cell v:=z
   cases z'⟩
 keep:=λi h h' st k=>k it (by simp) _ st
 item:=by
  intro X hP hw hK hc i pins s σ H E I hf st hg
  subst hP hw hK
  obtain⟨f0,f1,f2,f3,f4,f5⟩:=hf it (by simp)
  have W:=Walks.range (prog:=X.prog) (w:=X.w) (I.ok.hd hc) it 0 c n
  refine W.item i s _ _ hg st λv h' tk hv st' kk=> ?_
  obtain⟨t,rfl⟩:=hv
  have I1:Inv X pins σ H { s with heap:=h',toks:=tk }:=I.turned (λb o hb e=>kk b o (by simpa using hb) e) f0 f1 f3 f4 f5
  refine⟨_,rfl,OO (s:={ s with heap:=h',toks:=tk }) (n:="range_iterator") st' rfl rfl (by decide) ⟨.int ((i:Nat) * c),H,I1,⟨t,?_⟩,⟨rfl,rfl⟩,st',λb hb=>(hf b hb).1⟩⟩
  rw[Int.zero_add]
 done:=by
  intro X hP hw hK hc i pins s σ H E I hf st hg
  subst hP hw hK
  obtain⟨f0,f1,f2,f3,f4,f5⟩:=hf it (by simp)
  exact wpAny_pyNext_range_end (I.ok.hd hc) st (by have:n<=i:=hg;omega) λh' eb=>⟨rfl,I.turned (t':=s.toks) (λb o hb e=>eb b o hb e) f0 f1 f3 f4 f5⟩
 self:=λ_ _ _ _ _ st h=>wpAny_pyIter_rangeiter st h
theorem bV{m c:Nat}(hc:1<=c):Builtin.Range.rangeSize 0 ((m * c:Nat):Int) c=m:=by
 unfold Builtin.Range.rangeSize
 rw[if_pos (show(c:Int) > 0 by omega)]
 by_cases h:m=0
 ·subst h;simp
 ·have h1:0<m * c:=Nat.mul_pos (by omega) (by omega)
  rw[if_pos (by omega)]
  have:((m * c:Nat):Int) - 0 - 1=((m * c - 1:Nat):Int):=by omega
  rw[this,<-Int.natCast_ediv]
  have e:(m * c - 1) / c=m - 1:=by
   rw[Nat.div_eq_iff (by omega)]
   have:=Nat.sub_mul m 1 c
   have h2:c<=m * c:=Nat.le_mul_of_pos_left c (by omega)
   constructor<;>omega
  rw[e]
  omega
theorem Bg{m c:Nat}(hc:1<=c)(hc':c<100000)(hm:m * c<100000):Builtin.Range.small 0 ((m * c:Nat):Int) c=true:=by
 have hm':m<=m * c:=Nat.le_mul_of_pos_right m (by omega)
 unfold Builtin.Range.small
 rw[bV hc]
 simp only[Builtin.Range.rangeFitsLong,Bool.and_eq_true,Bool.or_eq_true,decide_eq_true_eq,beq_iff_eq]
 refine⟨by omega,.inr ?_⟩
 rw[if_pos (show(c:Int) > 0 by omega)]
 simp only[Bool.and_eq_true,decide_eq_true_eq]
 omega
section
variable{X:Cx}{tg:Expr}
theorem Bh{pins:List (Addr × Obj)}{σ:St}{H:Hp}{s:Shared}{R:It->Hp->Prop}{E:Value->Shared->Prop}{m c:Nat}{t u v:Tok}{tk:Nat}(I:Inv X pins σ H s)(h1:1<=c)(h2:c<100000)(h3:m * c<100000)
  (q:R (K1 c m) H):wpAny (model X.prog X.w) X.A (pyIter (.ref s.heap.objs.size)) (RB X pins σ tg R) E { s with heap:=s.heap.push { cls:=.type "range",data:=.fields #[.int 0 t,.int ((m * c:Nat):Int) u,.int c v] },toks:=tk }:=by
 refine wpAny_pyIter_range (IsRange.new ..) (Bg h1 h2 h3) ?_
 have I1:Inv X pins σ H { s with heap:=s.heap.push { cls:=.type "range",data:=.fields #[.int 0 t,.int ((m * c:Nat):Int) u,.int c v] },toks:=tk }:=I.kept λb o e=>Heap.get?_push_of_some _ e
 refine⟨(s.heap.push { cls:=.type "range",data:=.fields #[.int 0 t,.int ((m * c:Nat):Int) u,.int c v] }).objs.size,[(s.heap.push { cls:=.type "range",data:=.fields #[.int 0 t,.int ((m * c:Nat):Int) u,.int c v] }).objs.size],_,_,H,rfl,
  I1.kept (t':=tk) λb o e=>Heap.get?_push_of_some _ e,Bd _ c m,?_,λb hb=> ?_,q⟩
 ·have e1:(0:Int)+((0:Nat):Int) * (c:Int)=0:=by simp
  have e2:(m:Int) - ((0:Nat):Int)=Builtin.Range.rangeSize 0 ((m * c:Nat):Int) c:=by rw[bV h1];omega
  show IsRangeIter _ _ (0+((0:Nat):Int) * (c:Int)) ((m:Int) - ((0:Nat):Int)) c
  rw[e1,e2]
  exact Heap.get?_push_size _ rfl
 ·have e:b=(s.heap.push { cls:=.type "range",data:=.fields #[.int 0 t,.int ((m * c:Nat):Int) u,.int c v] }).objs.size:=by simpa using hb
  subst e
  exact I1.fpOk (Nat.le_refl _) (I1.hok.fresh (Nat.le_refl _))
def PL(ta:TA):TI:=λσ H R=>ta σ H λvs H1=>∃ m c:Nat,vs=[.int 0,.int ((m * c:Nat):Int),.int c]/\(1<=c/\c<100000/\m * c<100000)/\R (K1 c m) H1
theorem Bj{a b c:Expr}{ta:TA}{p pos:Pos}(hg:Gl X "range")(hm:X.mg "range"=none)(ha:PA X [a,b,c] ta)(hs:starEach [a,b,c] X.env=[(false,eval a X.env),(false,eval b X.env),(false,eval c X.env)]:=by rfl)(hs2:starEach [b,c] X.env=[(false,eval b X.env),(false,eval c X.env)]:=by rfl) :
  PI X tg (.Call (.Name "range" p) [a,b,c] [] pos) (PL ta):=by
 intro pins s σ H R I h
 refine Call_ (KN I hg hm boot_range (PyProof.Rows.callWith_type1 (AW (ha pos pins s σ H _ I h) λus s1 ⟨vs,H1,I1,r1,q1⟩=> ?_) (by rw[hs,hs2]) (by rw[hs2];rfl)))
 obtain⟨m,c,e,⟨q1,q2,q3⟩,q⟩:=q1
 subst e
 cases r1 with
 | cons r rr =>
  cases rr with
  | cons r' rr =>
   cases rr with
   | cons r2 rr =>
    cases rr
    obtain⟨t,rfl⟩:=r
    obtain⟨t',rfl⟩:=r'
    obtain⟨t2,rfl⟩:=r2
    exact call_range_3 (by omega) (Bh I1 q1 q2 q3 q) (Or.inl (PyProof.noPylong_small (by omega)))
end
section
variable{K:W.Frag}{g:TG}{tt:TT}{te:TE}{k:Nat}{cap:List Nat}{σ:St}{H:Hp}{Q:VK}
theorem Bk{as:TA}:BN (PL as) g tt te k cap σ H Q=(as σ H λvs H1=>∃ m c:Nat,vs=[.int 0,.int ((m * c:Nat):Int),.int c]/\(1<=c/\c<100000/\m * c<100000)/\DR (K1 c m) g tt te k cap σ H1 Q):=rfl
theorem Bl{as:TA}:BN (GH K as) g tt te k cap σ H Q=(as σ H λvs H1=>∃ a:Addr,vs=[.ref a]/\(∃ xs,SqL K H1 a xs)/\DR (JM K a) g tt te k cap σ H1 Q):=rfl
theorem bW{b:Addr}{xs:List V}(p:Nat->Bool)(hn:xs.length<=sizeLine)(Pv:Nat->List V->Hp->Prop)(h0:Pv 0 [] H)(hq:∀ i ys H,i<=xs.length->Pv i ys H->SqL K H b xs/\ys.length<=i)
  (ht:∀ i x ys H,xs[i]? =some x->Pv i ys H->∀ QB:Bool->Hp->Prop,QB (p i) H->tt (some x::BI cap σ) H QB)
  (hs:∀ i x ys H,xs[i]? =some x->p i=true->Pv i ys H->te (some x::BI cap σ) H λy H3=>Pv (i+1) (ys++[y]) H3)
  (hf:∀ i x ys H,xs[i]? =some x->p i=false->Pv i ys H->Pv (i+1) ys H)
  (hd:∀ ys H,Pv xs.length ys H->∀ q,H q=none->Q (.ref q) (upd H q (.lst ys))):DR (FI K b) (AJ 0) tt te 1 cap σ H Q:=by
 refine⟨λi m σ' ys H=>m=xs.length - i/\i<=xs.length/\(∃ x0,σ'=x0::BI cap σ)/\Pv i ys H,⟨xs.length,by simp,Nat.zero_le _,⟨none,rfl⟩,h0⟩,?_⟩
 rintro i m σ' ys H ⟨rfl,hi,⟨x0,rfl⟩,P⟩
 obtain⟨q,hl⟩:=hq i ys H hi P
 by_cases hlt:i<xs.length
 ·refine .inr ⟨⟨xs,xs[i],q,by simp[hlt]⟩,by omega,λx H' y=> ?_⟩
  obtain⟨e,y⟩:=y
  subst e
  have ex:=y xs q
  refine ht i x ys _ ex P _ ?_
  cases hp:p i with
  | true =>
   rw[if_pos rfl]
   exact⟨_,λy H4 q=>⟨_,by omega,rfl,hlt,⟨_,rfl⟩,q⟩,hs i x ys _ ex hp P⟩
  | false =>
   rw[if_neg Bool.false_ne_true]
   exact⟨_,by omega,rfl,hlt,⟨_,rfl⟩,hf i x ys _ ex hp P⟩
 ·have e:i=xs.length:=by omega
  subst e
  exact .inl ⟨⟨xs,q,Nat.le_refl _⟩,hd ys H P⟩
theorem Bm{n:Nat}(p:Nat->Bool)(hn:n<=sizeLine)(Pv:Nat->List V->Hp->Prop)(h0:Pv 0 [] H)(hq:∀ i ys H,i<=n->Pv i ys H->ys.length<=i)
  (ht:∀ i ys H,i<n->Pv i ys H->∀ QB:Bool->Hp->Prop,QB (p i) H->tt (some (.int (i:Int))::BI cap σ) H QB)
  (hs:∀ i ys H,i<n->p i=true->Pv i ys H->te (some (.int (i:Int))::BI cap σ) H λy H3=>Pv (i+1) (ys++[y]) H3)
  (hf:∀ i ys H,i<n->p i=false->Pv i ys H->Pv (i+1) ys H)
  (hd:∀ ys H,Pv n ys H->∀ q,H q=none->Q (.ref q) (upd H q (.lst ys))):DR (DZ 0 n) (AJ 0) tt te 1 cap σ H Q:=by
 refine⟨λi m σ' ys H=>m=n - i/\i<=n/\(∃ x0,σ'=x0::BI cap σ)/\Pv i ys H,⟨n,by simp,Nat.zero_le _,⟨none,rfl⟩,h0⟩,?_⟩
 rintro i m σ' ys H ⟨rfl,hi,⟨x0,rfl⟩,P⟩
 have hl:=hq i ys H hi P
 by_cases hlt:i<n
 ·refine .inr ⟨hlt,by omega,λx H' y=> ?_⟩
  obtain⟨e,y⟩:=y
  subst e y
  rw[Int.zero_add]
  refine ht i ys _ hlt P _ ?_
  cases hp:p i with
  | true =>
   rw[if_pos rfl]
   exact⟨_,λy H4 q=>⟨_,by omega,rfl,hlt,⟨_,rfl⟩,q⟩,hs i ys _ hlt hp P⟩
  | false =>
   rw[if_neg Bool.false_ne_true]
   exact⟨_,by omega,rfl,hlt,⟨_,rfl⟩,hf i ys _ hlt hp P⟩
 ·have e:i=n:=by omega
  subst e
  exact .inl ⟨Nat.le_refl _,hd ys H P⟩
theorem ST{b:Addr}{xs:List V}(p:Nat->Bool)(hn:xs.length<=sizeLine)(Pv:Nat->List V->Hp->Prop)(h0:Pv 0 [] H)(hq:∀ i ys H,i<=xs.length->Pv i ys H->SqL K H b xs/\ys.length<=i)
  (hu:∀ i ys H t o,Pv i ys H->H t=none->Pv i ys (upd H t o))
  (ht:∀ i x ys H,xs[i]? =some x->Pv i ys H->∀ QB:Bool->Hp->Prop,QB (p i) H->tt (some (.int (i:Int))::some x::BI cap σ) H QB)
  (hs:∀ i x ys H,xs[i]? =some x->p i=true->Pv i ys H->te (some (.int (i:Int))::some x::BI cap σ) H λy H3=>Pv (i+1) (ys++[y]) H3)
  (hf:∀ i x ys H,xs[i]? =some x->p i=false->Pv i ys H->Pv (i+1) ys H)
  (hd:∀ ys H,Pv xs.length ys H->∀ q,H q=none->Q (.ref q) (upd H q (.lst ys))):DR (JM K b) (E4 K 2 (DG (AJ 0) (DG (AJ 1) E3))) tt te 2 cap σ H Q:=by
 refine⟨λi m σ' ys H=>m=xs.length - i/\i<=xs.length/\(∃ x0 x1,σ'=x0::x1::BI cap σ)/\Pv i ys H,⟨xs.length,by simp,Nat.zero_le _,⟨none,none,rfl⟩,h0⟩,?_⟩
 rintro i m σ' ys H ⟨rfl,hi,⟨x0,x1,rfl⟩,P⟩
 obtain⟨q,hl⟩:=hq i ys H hi P
 by_cases hlt:i<xs.length
 ·refine .inr ⟨⟨xs,xs[i],q,by simp[hlt]⟩,by omega,λv H' ⟨t,ht0,e,x,e',q1⟩=> ?_⟩
  subst e e'
  have ex:=q1 xs q
  refine⟨t,[.int (i:Int),x],rfl,SqT.of AM,rfl,?_⟩
  have P':=hu i ys H t (.tup [.int (i:Int),x]) P ht0
  refine⟨_,_,rfl,⟨_,_,rfl,⟨rfl,?_⟩⟩⟩
  refine ht i x ys _ ex P' _ ?_
  cases hp:p i with
  | true =>
   rw[if_pos rfl]
   exact⟨_,λy H4 q=>⟨_,by omega,rfl,hlt,⟨_,_,rfl⟩,q⟩,hs i x ys _ ex hp P'⟩
  | false =>
   rw[if_neg Bool.false_ne_true]
   exact⟨_,by omega,rfl,hlt,⟨_,_,rfl⟩,hf i x ys _ ex hp P'⟩
 ·have e:i=xs.length:=by omega
  subst e
  exact .inl ⟨⟨xs,q,Nat.le_refl _⟩,hd ys H P⟩
end
end L2
namespace L2
section
variable{prog:Program}{w:World}{K:Type}[DecidableEq K]{knd:HeapKind prog w K}{A:Around}{E:Value->Shared->Prop}{s:Shared}
theorem Bp{d a:Addr}{xs:List (K × Addr × Value)}{k:K}{v:Value}{Q:Unit->Shared->Prop}(hu:knd.room A)(hkey:knd.is s.heap k a)(hm:s.heap.DictOfH knd d xs)
  (hQ:∀ h',h'.DictOfH knd d (storedH xs k a v)->Heap.SameBut d s.heap h'->Q () { s with heap:=h' }) (hsz:xs.length<=sizeLine) :
  wpAny (model prog w) A (dictSetHashed d (.ref a) (knd.hash k) v) Q E s:=by
 obtain⟨o,es,ep,ho,hc,hd,he,his,hn⟩:=hm
 have keep:∀ {f:Obj->Obj} {x:K × Addr × Value},x∈xs->knd.is (s.heap.update d f) x.1 x.2.1:=λhx=>knd.keeps (his _ hx) ho hd (Heap.SameBut.update ..)
 unfold dictSetHashed
 try with_reducible refine wpAny_holding ?_
 refine wpAny_bind (wpAny_dictFind_heap hu hkey ho hd he his hn (λhno=> ?_) λj p hj=> ?_)
 ·have e1:=storedH_new (atKey_none_of_get hno) a v
  refine wpAny_bind (wpAny_rule (wpAny_updateDictKeys (hz:=by have e:=size_of_entries he;omega) ho hd (hQ _ ?_ (Heap.SameBut.update ..))))
  rw[e1]
  refine⟨_,_,ep+1,Heap.get?_update_self _ ho (Obj.isFreed_of_dict (Obj.data_mapDictKeys hd _)),hc.mapDictKeys _,Obj.data_mapDictKeys hd _,by simp[he,entryOfKey],λx hx=> ?_,?_⟩
  ·rcases List.mem_append.mp hx with hx | hx
   ·exact keep hx
   ·cases List.mem_singleton.mp hx
    exact knd.keeps hkey ho hd (Heap.SameBut.update ..)
  ·rw[List.map_append,List.nodup_append]
   refine⟨hn,by simp,λx hx y hy e=>not_mem_keys_of_get hno ?_⟩
   rw[show k=y from(List.mem_singleton.mp hy).symm,<-e]
   exact hx
 ·have e1:=storedH_old (atKey_of_get hn hj) a v
  refine wpAny_bind (wpAny_rule (wpAny_bind (wpAny_updateDict ho hd (wpAny_point (hQ _ ?_ (Heap.SameBut.update ..))))))
  rw[e1]
  refine⟨_,_,ep,Heap.get?_update_self _ ho (Obj.isFreed_of_dict (Obj.data_mapDict hd _)),hc.mapDict _,Obj.data_mapDict hd _,?_,λx hx=> ?_,by rw[keys_map_putAt];exact hn⟩
  ·have:=modify_map_putAt (entryOfKey knd) (λe:DictEntry=>{ e with val:=v }) k v (λ_ _=>rfl) hn hj
   rw[<-he]at this
   obtain⟨l⟩:=es
   simpa using this
  ·obtain⟨y,hy,rfl⟩:=List.mem_map.mp hx
   unfold putAt
   have kk:=λf=>keep (f:=f) hy
   split
   ·exact kk _
   ·exact kk _
def GY(xs ys:List (K × Addr × Value)):List (K × Addr × Value):=ys.foldl (λacc y=>storedH acc y.1 y.2.1 y.2.2) xs
theorem Bq(xs:List (K × Addr × Value))(k:K)(a:Addr)(v:Value):(storedH xs k a v).length<=xs.length+1:=by
 unfold storedH
 split
 ·rw[List.length_map];omega
 ·rw[List.length_append];exact Nat.le_refl _
theorem bX:∀ (ys xs:List (K × Addr × Value)),(GY xs ys).length<=xs.length+ys.length
 | [],xs=>Nat.le_refl _
 | y::ys,xs=>by
  have h1:=bX ys (storedH xs y.1 y.2.1 y.2.2)
  have h2:=Bq xs y.1 y.2.1 y.2.2
  show(GY (storedH xs y.1 y.2.1 y.2.2) ys).length<=_
  rw[List.length_cons];omega
theorem Bv{xs ys:List (K × Addr × Value)}{i:Nat}{y:K × Addr × Value}(h:ys[i]? =some y):GY xs (ys.take (i+1))=storedH (GY xs (ys.take i)) y.1 y.2.1 y.2.2:=by
 have:ys.take (i+1)=ys.take i++[y]:=by rw[List.take_add_one,h];rfl
 unfold GY
 rw[this,List.foldl_append]
 rfl
theorem Bw{a:Addr}{o:Obj}{Q:Bool->Shared->Prop}(ho:s.heap.get? a=some o)(hc:o.cls=.type "tuple")(h:Q false s):wpAny (model prog w) A (Builtin.Dict.quietEq (.ref a)) Q E s:=by
 unfold Builtin.Dict.quietEq
 refine wpAny_bind (wpAny_specialOf ⟨o,ho,hc⟩ F.slot_tuple_eq.lookup (wpAny_pure ?_))
 exact h
def PN(knd:HeapKind prog w K)(ys:List (K × Addr × Value)):Prop:=(ys.map λy=>knd.hash y.1).Nodup
theorem Bx{id:String}{d:Addr}{o:Obj}{es ep}{ys:List (K × Addr × Value)}{Q:Array DictEntry->Shared->Prop}(ho:s.heap.get? d=some o)(hd:o.data=.dict es ep)(he:es.toList=ys.map (entryOfKey knd))(ht:∀ y∈ys,∃ ob,s.heap.get? y.2.1=some ob/\ob.cls=.type "tuple")(ap:PN knd ys)(h:Q es s) :
  wpAny (model prog w) A (Builtin.Dict.entriesForEmpty id d) Q E s:=by
 unfold Builtin.Dict.entriesForEmpty
 refine wpAny_bind (wpAny_dictEntries ho hd ?_)
 have one:∀ e∈es.toList,(es.filter (·.hash == e.hash)).size<=1:=λe hm=>by
  rw[<-Array.length_toList,Array.toList_filter,he,List.filter_map,List.length_map]
  rw[he]at hm
  obtain⟨y,hy,rfl⟩:=List.mem_map.mp hm
  have:(ys.filter ((λx:DictEntry=>x.hash ==(entryOfKey knd y).hash) ∘ entryOfKey knd)).length=(ys.map λy=>knd.hash y.1).count (knd.hash y.1):=by
   rw[List.count_eq_countP,List.countP_map,List.countP_eq_length_filter]
   rfl
  rw[this]
  exact List.nodup_iff_count.mp ap _
 refine wpAny_bind ?_
 rw[<-Array.forIn_toList]
 refine wpAny_forIn_list _ (λCT _ s'=>s'=s/\∀ e∈CT,e∈es.toList) _ ?_ ?_ _ _ ⟨rfl,λe h=>h⟩
 ·rintro e CT b s' ⟨rfl,hall⟩
  have hm:=hall e List.mem_cons_self
  have hm':=hm
  rw[he]at hm'
  obtain⟨y,hy,ey⟩:=List.mem_map.mp hm'
  obtain⟨ob,h1,h2⟩:=ht y hy
  have ek:e.key=.ref y.2.1:=by rw[<-ey];rfl
  rw[ek]
  refine wpAny_bind (Bw h1 h2 ?_)
  simp only[Bool.not_false,if_true]
  rw[if_neg (by have:=one e hm;omega)]
  exact wpAny_pure ⟨rfl,λe' h'=>hall e' (List.mem_cons_of_mem _ h')⟩
 ·rintro b s' ⟨rfl,_⟩
  exact wpAny_pure h
theorem By{nm:String}{d o:Addr}{xs ys:List (K × Addr × Value)}{Q:Unit->Shared->Prop}(hu:knd.room A)(hdo:d≠o)(hoS:(o == sysModules)=false)
  (hd:s.heap.DictOfH knd d xs) (ho:s.heap.DictOfH knd o ys) (ht:∀ y∈ys,∃ ob,s.heap.get? y.2.1=some ob/\ob.cls=.type "tuple") (ap:xs=[]->PN knd ys)
  (hQ:∀ h',(h'.DictOfH knd d (GY xs ys)\/(xs=[]/\h'.DictOfH knd d ys))->Heap.SameBut d s.heap h'->Q () { s with heap:=h' })
  (hsz:xs.length+ys.length<=sizeLine) :
  wpAny (model prog w) A (Builtin.Dict.mergeDict nm d o) Q E s:=by
 obtain⟨od,esd,epd,hod,hcd,hdd,hed,hisd,hnd⟩:=id hd
 obtain⟨oo,eso,epo,hoo,hco,hdo',heo,hiso,hno⟩:=id ho
 have szo:=size_of_entries heo
 unfold Builtin.Dict.mergeDict
 rw[if_neg (by simpa using hdo)]
 unfold Builtin.Dict.showsAll
 rw[if_neg (by rw[hoS];exact Bool.false_ne_true)]
 refine wpAny_bind (wpAny_pure ?_)
 refine wpAny_bind (wpAny_dictEntries hoo hdo' ?_)
 dsimp only
 split
 any_goals (refine wpAny_bind (wpAny_dictEntries hod hdd ?_);split)
 ·rename_i hemp
  have hxs:xs=[]:=by
   have h0:esd= #[]:=Array.isEmpty_iff.mp hemp
   rw[h0]at hed
   exact List.map_eq_nil_iff.mp hed.symm
  refine wpAny_bind (Bx (knd:=knd) hoo hdo' heo ht (ap hxs) ?_)
  split
  ·have hto:eso.size<=sizeLine+1:=by omega
   refine wpAny_bind (wpAny_updateDictKeysTo hod hdd (wpAny_pure (hQ _ (.inr ⟨hxs,_,_,epd+1,Heap.get?_update_self _ hod (Obj.isFreed_of_dict (Obj.data_mapDictKeys hdd _)),hcd.mapDictKeys _,
    Obj.data_mapDictKeys hdd _,heo,λx hx=>knd.keeps (hiso x hx) hod hdd (Heap.SameBut.update ..),hno⟩) (Heap.SameBut.update ..))) hto)
  ·rename_i hne
   have h0:eso= #[]:=Array.isEmpty_iff.mp (by simpa using hne)
   have hm0:ys=[]:=List.length_eq_zero_iff.mp (by rw[<-szo,h0];rfl)
   subst hm0
   exact wpAny_pure (hQ _ (.inl hd) (Heap.SameBut.refl _ _))
 all_goals
  refine wpAny_bind (wpAny_dictEpoch hoo hdo' (wpAny_bind (wpAny_dictEntries hoo hdo' (wpAny_bind ?_))))
  rw[Std.Legacy.Range.forIn_eq_forIn_range']
  simp only[Std.Legacy.Range.size,Nat.sub_zero,Nat.add_sub_cancel,Nat.div_one]
  refine wpAny_forIn_list _
   (λCT _ s'=>∃ h' i,s'={ s with heap:=h' }/\CT=List.range' i (eso.size - i)/\i<=eso.size/\h'.DictOfH knd d (GY xs (ys.take i))/\Heap.SameBut d s.heap h')
   _ ?_ ?_ _ _ ⟨s.heap,0,rfl,by simp,Nat.zero_le _,hd,Heap.SameBut.refl _ _⟩
  ·rintro x CT b s' ⟨h',i,rfl,hr,hi,hd',hs'⟩
   have hlt:i<eso.size:=by
    rcases Nat.lt_or_ge i eso.size with h | h
    ·exact h
    ·rw[Nat.sub_eq_zero_of_le h]at hr;simp at hr
   obtain⟨rfl,hrest⟩:x=i/\CT=List.range' (i+1) (eso.size - (i+1)):=by
    rw[show eso.size - i=(eso.size - (i+1))+1 by omega,List.range'_succ]at hr
    injection hr with h1 h2
    exact⟨h1,h2⟩
   have hoo':h'.get? o=some oo:=(hs'.2 o (Ne.symm hdo)).trans hoo
   obtain⟨y,hy⟩:∃ y,ys[x]? =some y:=⟨ys[x]'(by omega),List.getElem?_eq_getElem _⟩
   have hk:knd.is h' y.1 y.2.1:=knd.keeps (hiso y (List.mem_of_getElem? hy)) hod hdd hs'
   refine wpAny_bind (wpAny_dictEntries hoo' hdo' ?_)
   rw[entry_at heo x,hy]
   have hmx:(GY xs (ys.take x)).length<=sizeLine:=by
    have e1:=bX (ys.take x) xs
    have e2:(ys.take x).length<=ys.length:=by rw[List.length_take];omega
    omega
   refine wpAny_bind (wpAny_holding (Bp (s:={ s with heap:=h' }) hu hk hd' (λh2 hd2 hs2=> ?_) hmx))
   have hoo2:h2.get? o=some oo:=(hs2.2 o (Ne.symm hdo)).trans hoo'
   refine wpAny_bind (wpAny_dictEpoch hoo2 hdo' ?_)
   rw[if_neg (by simp)]
   exact wpAny_pure ⟨h2,x+1,rfl,hrest,hlt,by rw[Bv hy];exact hd2,hs'.trans hs2⟩
  ·rintro b s' ⟨h',i,rfl,hr,hi,hd',hs'⟩
   have hin:i=eso.size:=by
    rcases Nat.lt_or_ge i eso.size with h | h
    ·rw[show eso.size - i=(eso.size - (i+1))+1 by omega,List.range'_succ]at hr;exact nomatch hr
    ·exact Nat.le_antisymm hi h
   refine wpAny_pure (hQ h' (.inl ?_) hs')
   rw[hin,szo,List.take_length]at hd';exact hd'
theorem Bz(knd:HeapKind prog w K)(d o:Addr)(hdo:d≠o)(hoS:(o == sysModules)=false) :
  MeetsIn prog w (Builtin.«dict.update» ⟨[.ref d,.ref o],[]⟩) (λA R s=>knd.room A.in1/\∃ xs ys,s.heap.DictOfH knd d xs/\s.heap.DictOfH knd o ys/\(∀ y∈ys,∃ ob,s.heap.get? y.2.1=some ob/\ob.cls=.type "tuple")/\(xs=[]->PN knd ys)/\xs.length+ys.length<=sizeLine ∧
   ∀ h',(h'.DictOfH knd d (GY xs ys)\/(xs=[]/\h'.DictOfH knd d ys))->Heap.SameBut d s.heap h'->R (.ok (.ret .none)) { s with heap:=h' }) :=
 .of_wp λA R s ⟨hu,xs,ys,hd,ho,ht,ap,hsz,h⟩=>by
  unfold Builtin.«dict.update» Builtin.Dict.selfAndRest
  refine wpAny_bind (wpAny_bind (wpAny_notOrdered_dict hd.typeIs ?_))
  show wpAny _ _ (pure (d,[Value.ref o])) _ _ s
  refine wpAny_pure ?_
  show wpAny _ _ (Builtin.Dict.updateFrom "dict.update" d (.ref o) [] .none) _ _ s
  unfold Builtin.Dict.updateFrom
  refine wpAny_bind (wpAny_typeOf ho.typeIs ?_)
  rw[if_neg (by decide)]
  unfold Builtin.Dict.merge Builtin.Dict.readDirectly
  refine wpAny_bind (wpAny_bind (wpAny_bind (wpAny_isInstance ho.typeIs isSubtype_dict_dict ?_)))
  simp only[Bool.not_true,Bool.false_eq_true,if_false]
  refine wpAny_bind (wpAny_specialOf ho.typeIs F.slot_dict_iter.lookup (wpAny_pure ?_))
  simp only[beq_self_eq_true,if_true]
  refine wpAny_bind (wpAny_pure (By hu hdo hoS hd ho ht ap (λh' hd' hs'=> ?_) hsz))
  show wpAny _ _ (Builtin.Dict.addKeywords d [] >>= _) _ _ _
  exact wpAny_bind (wpAny_pure (wpAny_pure ⟨.none,rfl,h h' hd' hs'⟩))
end
def DS(kvs more:List (List AX × V)):List (List AX × V):=more.foldl (λacc kv=>CF acc kv.1 kv.2) kvs
theorem KT.merge{H:Hp}:∀ {more:List (List AX × V)} {ys:List (List AX × Addr × Value)} {kvs:List (List AX × V)} {xs:List (List AX × Addr × Value)},KT H more ys->KT H kvs xs->KT H (DS kvs more) (GY xs ys):=by
 intro more ys kvs xs r
 unfold KT at r
 induction r generalizing kvs xs with
 | nil=>intro q;exact q
 | @cons p q ps qs h t ih =>
  intro r0
  have e:KT H (CF kvs p.1 p.2) (storedH xs q.1 q.2.1 q.2.2):=by
   have:=r0.put p.1 h.2.1 h.2.2
   rw[<-h.1];exact this
  exact ih e
theorem SU:∀ (more kvs:List (List AX × V)),(DS kvs more).length<=kvs.length+more.length
 | [],kvs=>Nat.le_refl _
 | p::r,kvs=>by
  have h1:=SU r (CF kvs p.1 p.2)
  have h2:=ME kvs p.1 p.2
  show(DS (CF kvs p.1 p.2) r).length<=_
  rw[List.length_cons];omega
theorem SV:∀ (more acc:List (List AX × V)),((acc++more).map (·.1)).Nodup->DS acc more=acc++more
 | [],acc,_=>by simp[DS]
 | p::r,acc,h=>by
  have e:CF acc p.1 p.2=acc++[p]:=by
   unfold CF
   rw[if_neg]
   rw[List.any_eq_true]
   rintro ⟨x,hx,he⟩
   rw[List.map_append,List.nodup_append]at h
   exact h.2.2 x.1 (List.mem_map.mpr ⟨x,hx,rfl⟩) p.1 (by simp) (of_decide_eq_true he)
  show DS (CF acc p.1 p.2) r=_
  rw[e,SV r (acc++[p]) (by rw[List.append_assoc];exact h),List.append_assoc]
  rfl
theorem KT.keys{H:Hp}{kvs:List (List AX × V)}{xs:List (List AX × Addr × Value)}(r:KT H kvs xs):kvs.map (·.1)=xs.map (·.1):=by
 unfold KT at r
 induction r with
 | nil=>rfl
 | cons h t ih=>rw[List.map_cons,List.map_cons,ih,h.1]
def MQ(more:List (List AX × V)):Prop:=∀ (P:Program) (w:World),((more.map (·.1)).map (tupleKind (DN P w)).hash).Nodup
def bY:V->List V->Hp->VK->Prop:=λx vs H Q=>∃ d o kvs more,x=.ref d/\vs=[.ref o]/\d≠o/\H d=some (.dT kvs)/\H o=some (.dT more)/\(kvs=[]->MQ more)/\kvs.length+more.length<=sizeLine/\Q .non (upd H d (.dT (DS kvs more)))
theorem Cb{X:Cx}(hu:X.A.units+1<cLine):OY X "dict.update" bY:=by
 intro pins s σ H x vs v us Q I rx rv h
 obtain⟨d,o,kvs,more,rfl,rfl,hdo,hH,hO,ap,hz,q⟩:=h
 cases rx
 obtain⟨u,rfl,ru⟩:=rv.one
 cases ru
 obtain⟨z1,hd1,xs,rel1,dd1⟩:=O4 I.hok hH
 obtain⟨z2,hd2,ys,rel2,dd2⟩:=O4 I.hok hO
 have l1:kvs.length=xs.length:=Paired.length rel1
 have l2:more.length=ys.length:=Paired.length rel2
 have nd:(more.map (·.1)).Nodup:=by
  obtain⟨_,_,_,_,_,_,_,_,hn⟩:=dd2
  rw[rel2.keys];exact hn
 refine call_meetsIn PySem.F.slot_dict_update dd1.typeIs PySem.F.entry_dict_update (PySem.F.args_dict_update_2 _ _) (Bz (tupleKind (DN X.prog X.w)) d o hdo hd2) ⟨tupleKind_room_in1 hu,xs,ys,dd1,dd2,λy hy=> ?_,λe=> ?_,by omega,λh' dd hs=> ?_⟩
 ·obtain⟨_,_,_,_,_,_,_,his,_⟩:=dd2
  obtain⟨ob,_,_,h1,h2,_⟩:=his y hy
  exact⟨ob,h1,h2⟩
 ·have:=ap (List.length_eq_zero_iff.mp (by rw[l1,e];rfl)) X.prog X.w
  unfold PN
  rw[rel2.keys,List.map_map]at this
  exact this
 ·have hl:(DS kvs more).length<=sizeLine:=by have:=SU more kvs;omega
  have tk:∀ {kvs':List (List AX × V)} {xs':List (List AX × Addr × Value)},KT H kvs' xs'->KT (upd H d (.dT (DS kvs more))) kvs' xs':=λr=>r.keeps λc ys ec=>by
   rw[AQ (DA ec hH (λz=>nomatch z))]
   exact ec
  have fin:∀ {xs'},KT H (DS kvs more) xs'->h'.DictOfH (tupleKind (DN X.prog X.w)) d xs'->EP X pins σ Q .none { s with heap:=h' }:=λ{xs'} r dd'=>by
   obtain⟨ob,es,ep,hq,h2,h3,h4,_,h5⟩:=dd'
   exact⟨.non,_,O5 (ob:=.dT (DS kvs more)) I (by rw[hH];exact True.intro) hs ⟨ob,hq⟩ ⟨hl,hd1,_,tk r,ob,es,ep,hq,h2,h3,h4,h5⟩,rfl,q⟩
  rcases dd with dd | ⟨e,dd⟩
  ·exact fin (rel2.merge rel1) dd
  ·have e0:kvs=[]:=List.length_eq_zero_iff.mp (by rw[l1,e];rfl)
   refine fin ?_ dd
   rw[e0,SV more [] nd]
   exact rel2
def PP(H:Hp)(ps:List (V × V))(kvs:List (List AX × V)):Prop:=Paired (λ(q:V × V) (kv:List AX × V)=>(∃ b,q.1=.ref b/\H b=some (.tup (kv.1.map kV)))/\q.2=kv.2) ps kvs
theorem Cc{H:Hp}{p:Addr}{o o':HO}:upd (upd H p o) p o'=upd H p o':=by
 funext x
 by_cases e:x=p
 ·rw[e,AM,AM]
 ·rw[AQ e,AQ e,AQ e]
theorem Cd{H:Hp}{p:Addr}{o:HO}(h:H p=some o):upd H p o=H:=by
 funext x
 by_cases e:x=p
 ·rw[e,AM,h]
 ·rw[AQ e]
theorem Cg{X:Cx}{pins:List (Addr × Obj)}{σ:St}{d:Addr}{E:Value->Shared->Prop}(hu:X.A.units+1<cLine):∀ (ws:List (Value × Value)) (ps:List (V × V)) (kvs acc:List (List AX × V)) (s:Shared) (H:Hp) (Q:PUnit->Shared->Prop),Inv X pins σ H s->H d=some (.dT acc)->VV ps ws->PP H ps kvs->acc.length+kvs.length<=sizeLine →
  (∀ s',Inv X pins σ (upd H d (.dT (DS acc kvs))) s'->Q PUnit.unit s')->wpAny (model X.prog X.w) X.A (storeAll d ws) Q E s:=by
 intro ws
 induction ws with
 | nil =>
  intro ps kvs acc s H Q I e rel kr hz h
  cases rel
  cases kr
  unfold storeAll
  rw[List.forIn_nil]
  refine wpAny_pure (h s ?_)
  show Inv X pins σ (upd H d (.dT acc)) s
  rw[Cd e]
  exact I
 | cons x ws ih =>
  intro ps kvs acc s H Q I e rel kr hz h
  cases rel with
  | @cons p _ ps _ rp rel =>
   cases kr with
   | @cons _ kv _ kvs hk kr =>
    obtain⟨⟨b,eb,hb⟩,ev⟩:=hk
    obtain⟨u,v⟩:=x
    have r1:RelV p.1 u:=rp.1
    have r2:RelV p.2 v:=rp.2
    rw[eb]at r1
    cases (show u=Value.ref b from r1)
    rw[ev]at r2
    rw[List.length_cons]at hz
    obtain⟨z,hd,xs,rl,dd⟩:=O4 I.hok e
    have hx:xs.length<=sizeLine:=by rw[<-Paired.length rl];exact z
    have hl:(CF acc kv.1 kv.2).length<=acc.length+1:=ME acc kv.1 kv.2
    unfold storeAll
    rw[List.forIn_cons]
    refine wpAny_bind (wpAny_bind (wpAny_dictSet_heap (hsz:=hx) (knd:=tupleKind (DN X.prog X.w)) (show X.A.units<cLine by omega) (MF I.hok hb) dd λh' dd' hs=>wpAny_pure ?_))
    have tk:∀ {o':HO} {c:Addr} {ys:List V},H c=some (.tup ys)->upd H d o' c=some (.tup ys):=λec=>by
     rw[AQ (DA ec e (λz=>nomatch z))]
     exact ec
    obtain⟨q,es,ep,hq,h2,h3,h4,_,h5⟩:=dd'
    have I':Inv X pins σ (upd H d (.dT (CF acc kv.1 kv.2))) { s with heap:=h',toks:=s.toks+(tupleKind (DN X.prog X.w)).draws kv.1 } :=
     O5 (ob:=.dT (CF acc kv.1 kv.2)) I (by rw[e];exact True.intro) hs ⟨q,hq⟩ ⟨by omega,hd,_,(rl.put kv.1 hb r2).keeps λc ys ec=>tk ec,q,es,ep,hq,h2,h3,h4,h5⟩
    refine ih ps kvs (CF acc kv.1 kv.2) _ _ Q I' AM rel (Paired.mapP kr λq kv' ⟨⟨b',e1,e2⟩,e3⟩=>⟨⟨b',e1,tk e2⟩,e3⟩) (by omega) λs' i=>h s' ?_
    rw[Cc]at i
    exact i
def K2(trs:List (TE × TE)):TE:=λσ H Q=>∀ p,H p=none->JH trs σ (upd H p (.dT [])) λps H2=>H2 p=some (.dT [])/\∃ kvs:List (List AX × V),PP H2 ps kvs/\kvs.length<=15/\Q (.ref p) (upd H2 p (.dT (DS [] kvs)))
theorem PQ{X:Cx}{pos:Pos}{keys:List (Option Expr)}{values:List Expr}{trs:List (TE × TE)}(hu:X.A.units+1<cLine)(h:O6 X pos keys values trs)(hall:keys.all (·.isSome)=true)(hl:keys.length=values.length)(h0:keys≠[])
  (h15:keys.length<=15):PE X (.Dict keys values pos) (K2 trs):=by
 intro pins s σ H Q I q
 have hn:=I.hok.fresh (Nat.le_refl s.heap.objs.size)
 have I1:=I.laid (a:=s.heap.objs.size) (o:=.dT []) (h':=s.heap.push { cls:=.type "dict",data:=.dict #[] }) (t':=s.toks) (λ_ _ q=>Heap.get?_push_of_some _ q) (Nat.le_refl _) (aF s.heap I.big)
 refine wpAny_Dict_any hall hl h0 h15 (AW (h pins _ σ _ _ I1 (q _ hn)) λws s2 ⟨ps,H2,I2,rel,e,kvs,kr,lk,q2⟩=> ?_)
 refine Cg hu ws ps kvs [] s2 H2 _ I2 e rel kr ?_ λs' i=>⟨.ref s.heap.objs.size,_,i,rfl,q2⟩
 rw[sizeLine_eq,List.length_nil];omega
theorem Cj{trs:List (TE × TE)}{σ:St}{H:Hp}{Q:VK}:K2 trs σ H Q=∀ p,H p=none->JH trs σ (upd H p (.dT [])) λps H2=>H2 p=some (.dT [])/\∃ kvs:List (List AX × V),PP H2 ps kvs/\kvs.length<=15/\Q (.ref p) (upd H2 p (.dT (DS [] kvs))):=rfl
theorem Ck{td ty tx:TE}{σ:St}{H:Hp}{Q:VK}:RZ td ty tx σ H Q=(td σ H λx H1=>∃ a,x=.ref a/\MH H1 a/\ty σ H1 λy H2=>tx σ H2 λz H3=>∃ o,DGet H3 a y o/\Q (o.getD z) H3):=rfl
theorem Cl{σ:St}{H:Hp}{QP:List (V × V)->Hp->Prop}:JH [] σ H QP=QP [] H:=rfl
theorem Cm{tk tv:TE}{r:List (TE × TE)}{σ:St}{H:Hp}{QP:List (V × V)->Hp->Prop}:JH ((tk,tv)::r) σ H QP=(tk σ H λx H1=>tv σ H1 λy H2=>JH r σ H2 λps H3=>QP ((x,y)::ps) H3):=rfl
end L2
namespace L2
abbrev Ad:=String->Addr
def SameBut(F:Addr->Prop)(H H':Hp):Prop:=∀ b o,H b=some o->¬ F b->H' b=some o
structure EF(K:W.Frag)(a:Ad):Prop where
 cl:Cls K (a "Plank")
 nC:NoAttr K (a "Plank") "contents"
 nW:NoAttr K (a "Plank") "width"
 nN:NoAttr K (a "Plank") "written"
def pf(cl:Addr)(w n:Int):List (Str × V):=[("contents",.ref cl),("width",.int w),("written",.int n)]
theorem bZ:¬ ("contents":Str)="width":=by decide +kernel
theorem SW:¬ ("contents":Str)="written":=by decide +kernel
theorem SX:¬ ("width":Str)="written":=by decide +kernel
theorem PU(cl:Addr)(w n:Int):(pf cl w n).lookup ("contents":Str)=some (V.ref cl):=by simp[pf]
theorem Cp(cl:Addr)(w n:Int):(pf cl w n).lookup ("width":Str)=some (V.int w):=by
 have h:(("width":Str) == "contents")=false:=beq_eq_false_iff_ne.mpr (Ne.symm bZ)
 simp[pf,List.lookup_cons,h]
theorem b0(cl:Addr)(w n:Int):(pf cl w n).lookup ("written":Str)=some (V.int n):=by
 have h:(("written":Str) == "contents")=false:=beq_eq_false_iff_ne.mpr (Ne.symm SW)
 have h2:(("written":Str) == "width")=false:=beq_eq_false_iff_ne.mpr (Ne.symm SX)
 simp[pf,List.lookup_cons,h,h2]
theorem Cq(cl:Addr)(w n:Int):BU "written" (.int n) (BU "width" (.int w) (BU "contents" (.ref cl) []))=pf cl w n:=by
 simp only[BU,pf]
 rw[if_neg bZ]
 simp only[BU]
 rw[if_neg SW,if_neg SX]
theorem Cv(cl:Addr)(w n m:Int):BU "written" (.int m) (pf cl w n)=pf cl w m:=by
 simp only[BU,pf]
 rw[if_neg SW,if_neg SX]
 simp
theorem MR(cl:Addr)(w n:Int){m:Str}(h1:¬ m="contents")(h2:¬ m="width")(h3:¬ m="written"):(pf cl w n).lookup m=none:=by
 have e1:=beq_eq_false_iff_ne.mpr h1
 have e2:=beq_eq_false_iff_ne.mpr h2
 have e3:=beq_eq_false_iff_ne.mpr h3
 simp[pf,List.lookup_cons,e1,e2,e3]
structure PlankAt(a:Ad)(H:Hp)(p cl:Addr)(w:Nat)(rows:List (List V))(n:Nat):Prop where
 ob:∃ dx,H p=some (.ins (a "Plank") dx (pf cl w n))
 ls:∃ ts:List Addr,H cl=some (.lst (ts.map V.ref))/\Paired (λt r=>H t=some (.tup r)) ts rows
 wd:∀ r∈rows,r.length=w
 sz:rows.length<=1000
 sw:w<=1000
theorem PlankAt.ne{a:Ad}{H:Hp}{p cl:Addr}{w:Nat}{rows:List (List V)}{n:Nat}(P:PlankAt a H p cl w rows n):p≠cl:=by
 obtain⟨⟨dx,h1⟩,⟨ts,h2,_⟩,_⟩:=P
 exact DA h1 h2 (by intro z;cases z)
theorem PlankAt.keep{a:Ad}{H H':Hp}{p cl:Addr}{w:Nat}{rows:List (List V)}{n:Nat}(P:PlankAt a H p cl w rows n)(h1:H' p=H p)(h2:H' cl=H cl)(h3:∀ b xs,H b=some (.tup xs)->H' b=some (.tup xs)):PlankAt a H' p cl w rows n:=by
 obtain⟨⟨dx,e1⟩,⟨ts,e2,e3⟩,r1,r2,r3⟩:=P
 exact⟨⟨dx,h1.trans e1⟩,⟨ts,h2.trans e2,Paired.mapP e3 λt r q=>h3 t r q⟩,r1,r2,r3⟩
theorem PlankAt.same{a:Ad}{H H':Hp}{p cl:Addr}{w:Nat}{rows:List (List V)}{n:Nat}(P:PlankAt a H p cl w rows n)(s:Same H H'):PlankAt a H' p cl w rows n:=by
 obtain⟨⟨dx,e1⟩,⟨ts,e2,e3⟩,r1,r2,r3⟩:=P
 exact⟨⟨dx,s _ _ e1⟩,⟨ts,s _ _ e2,Paired.mapP e3 λt r q=>s _ _ q⟩,r1,r2,r3⟩
def MS(K:W.Frag)(a:Ad):Sp:=λvs H Q _=>∃ (p dx:Addr) (m w:Nat),vs=[.ref p,.int m,.int w]/\EF K a/\H p=some (.ins (a "Plank") dx [])/\m<=1000/\1<=w/\w<=1000 ∧
 ∀ cl H',H cl=none->PlankAt a H' p cl w (List.replicate m (List.replicate w .non)) 0->SameBut (· =p) H H'->Q .non H'
def IL(K:W.Frag)(a:Ad):Sp:=λvs H Q _=>∃ p cl w rows n,vs=[.ref p]/\EF K a/\PlankAt a H p cl w rows n/\Q (.int rows.length) H
def K3(K:W.Frag)(a:Ad):Sp:=λvs H Q _=>∃ (p cl:Addr) (w:Nat) (rows:List (List V)) (n:Nat),vs=[.ref p]/\EF K a/\PlankAt a H p cl w rows n/\Q (.int n) H
def HP(K:W.Frag)(a:Ad):Sp:=λvs H Q E=>∃ (p cl:Addr) (w:Nat) (rows:List (List V)) (n:Nat) (b:Int),vs=[.ref p,.int b]/\EF K a/\PlankAt a H p cl w rows n ∧
 (0<=b->b<rows.length->Q .non H)/\(b<0\/rows.length<=b->E (.ref (a "NoBlock")) none H)
def E6(K:W.Frag)(a:Ad):Sp:=λvs H Q E=>∃ (p cl:Addr) (w:Nat) (rows:List (List V)) (n:Nat) (b:Int),vs=[.ref p,.int b]/\EF K a/\PlankAt a H p cl w rows n ∧
 (∀ (i:Nat) row,b=i->rows[i]? =some row->∀ l,H l=none->Q (.ref l) (upd H l (.lst row)))/\(b<0\/rows.length<=b->E (.ref (a "NoBlock")) none H)
def JN(K:W.Frag)(a:Ad):Sp:=λvs H Q E=>∃ (p cl:Addr) (w:Nat) (rows:List (List V)) (n:Nat) (b:Int) (v:Addr) (xs:List V),vs=[.ref p,.int b,.ref v]/\EF K a/\PlankAt a H p cl w rows n/\SqL K H v xs/\xs.length<=2000 ∧
 (∀ (i:Nat),b=i->i<rows.length->xs.length=w->∀ H',PlankAt a H' p cl w (rows.set i xs) (n+1)->SameBut (λx=>x=p\/x=cl) H H'->Q .non H') ∧
 (b<0\/rows.length<=b\/xs.length≠w->E (.ref (a "NoBlock")) none H)
end L2
namespace L2
theorem BX{K:W.Frag}{H:Hp}{p:Addr}{xs:List V}{i:Int}{n:Nat}{v:V}{Q:VK}(h:H p=some (.tup xs))(hi:i=n)(hx:xs[n]? =some v)(q:Q v H):AI K (.ref p) (.int i) H Q :=
 .inr (.inl ⟨p,xs,i,v,rfl,rfl,SqT.of h,by rw[hi];exact RN hx,q⟩)
theorem SY{K:W.Frag}{H:Hp}{p:Addr}{xs:List V}{lo hi:Option Int}{Q:VK}(h:SqL K H p xs)(q:∀ r,H r=none->Q (.ref r) (upd H r (.lst (EJ xs lo hi)))):JI K (.ref p) lo hi H Q:=.inl ⟨p,xs,rfl,h,q⟩
theorem SameBut.refl{F:Addr->Prop}(H:Hp):SameBut F H H:=λ_ _ e _=>e
theorem SameBut.trans{F:Addr->Prop}{H H' H2:Hp}(s:SameBut F H H')(t:SameBut F H' H2):SameBut F H H2:=λb o e n=>t _ _ (s _ _ e n) n
theorem SameBut.wide{F G:Addr->Prop}{H H':Hp}(s:SameBut F H H')(i:∀ x,F x->G x):SameBut G H H':=λb o e n=>s _ _ e λz=>n (i _ z)
theorem Same.sb{F:Addr->Prop}{H H':Hp}(s:Same H H'):SameBut F H H':=λb o e _=>s b o e
theorem SqL.on{K:W.Frag}{H H':Hp}{x:Addr}{xs:List V}(h:SqL K H x xs)(k:∀ o,H x=some o->H' x=some o):SqL K H' x xs:=by
 rcases h with(h | ⟨o,h⟩) | h
 ·exact .inl (.inl (k _ h))
 ·exact .inl (.inr ⟨o,k _ h⟩)
 ·exact .inr h
theorem SqL.sb{K:W.Frag}{F:Addr->Prop}{H H':Hp}{x:Addr}{xs:List V}(h:SqL K H x xs)(s:SameBut F H H')(f:∀ o,H x=some o->¬ F x):SqL K H' x xs:=by
 rcases h with(h | ⟨o,h⟩) | h
 ·exact .inl (.inl (s _ _ h (f _ h)))
 ·exact .inl (.inr ⟨o,s _ _ h (f _ h)⟩)
 ·exact .inr h
theorem SameBut.upd{F:Addr->Prop}{H H':Hp}{p:Addr}{o:HO}(s:SameBut F H H')(h:F p\/H p=none):SameBut F H (upd H' p o):=λb u e n=>by
 have:b≠p:=by
  rcases h with h | h
  ·exact λz=>n (z ▸ h)
  ·exact BT e h
 rw[AQ this];exact s _ _ e n
structure Ch where
 blk:Nat
 cell:Nat
 val:V
 nd:List Int
def b6:List Ch->Int->Int->Option Nat
 | [],_,_=>none
 | c::r,i,j=>if(c.blk:Int)=i/\(c.cell:Int)=j then some r.length else b6 r i j
def b7(cs:List Ch)(i j:Int):Option Nat:=b6 cs.reverse i j
def SZ:List Ch->Nat->List Nat
 | [],_=>[]
 | c::r,b=>if c.blk=b then SZ r b++[r.length]else SZ r b
def Cw(cs:List Ch)(b:Nat):List Nat:=SZ cs.reverse b
def Cy(pl:Addr)(v:V)(nt:Addr):List (Str × V):=[("place",.ref pl),("value",v),("needs",.ref nt)]
def bf(gp m mi lt ou:Addr):List (Str × V):=[("ground",.ref gp),("made",.ref m),("made_in",.ref mi),("latest",.ref lt),("outs",.ref ou)]
def EM(a b:Str):Bool:=a == b
section
variable{pl nt gp m mi lt ou:Addr}{v:V}
theorem BJ{a b:Str}(h:EM a b=false):(a == b)=false:=h
theorem CV{f g:Str}{x y:V}{r:List (Str × V)}(h:EM g f=false):BU f y ((g,x)::r)=(g,x)::BU f y r:=by
 have:¬ g=f:=λe=>by rw[e]at h;simp[EM]at h
 simp[BU,this]
theorem b8{f:Str}{y:V}:BU f y []=[(f,y)]:=rfl
end
structure zix(K:W.Frag)(C D:Addr):Prop where
 cl:Cls K C
 nG:NoAttr K C "ground"
 nM:NoAttr K C "made"
 nI:NoAttr K C "made_in"
 nL:NoAttr K C "latest"
 nO:NoAttr K C "outs"
 cc:Cls K D
 nP:NoAttr K D "place"
 nV:NoAttr K D "value"
 nN:NoAttr K D "needs"
def ChAt(D:Addr)(H:Hp)(x:Addr)(c:Ch):Prop:=∃ dx pl nt,H x=some (.ins D dx (Cy pl c.val nt))/\H pl=some (.tup [.int c.blk,.int c.cell])/\H nt=some (.tup (c.nd.map V.int))
structure BA where
 b:Addr
 gp:Addr
 m:Addr
 mi:Addr
 lt:Addr
 ou:Addr
 ls:List Addr
 cl:Addr
def BA.F(A:BA)(x:Addr):Prop:=x=A.m\/x=A.mi\/x∈A.ls\/x=A.lt\/x=A.ou\/x=A.cl
def KeysOk(kvo:List (AX × V))(n:Nat):Prop:=(kvo.map (·.1)).Nodup/\∀ p∈kvo,∃ x:Nat,p.1=Sum.inl (x:Int)/\x<n
theorem KeysOk.mono{kvo:List (AX × V)}{n m:Nat}(h:KeysOk kvo n)(hm:n<=m):KeysOk kvo m:=⟨h.1,λp hp=>by obtain⟨x,e,hx⟩:=h.2 p hp;exact⟨x,e,by omega⟩⟩
theorem KeysOk.len{kvo:List (AX × V)}{n:Nat}(h:KeysOk kvo n):kvo.length<=n:=by
 have:=List.Nodup.length_le_of_subset (l₂:=(List.range n).map λ(k:Nat)=>(Sum.inl (k:Int):AX)) h.1 λk hk=>by
  obtain⟨p,hp,rfl⟩:=List.mem_map.mp hk
  obtain⟨x,e,hx⟩:=h.2 p hp
  rw[e]
  exact List.mem_map.mpr ⟨x,List.mem_range.mpr hx,rfl⟩
 simpa using this
theorem KeysOk.put{kvo:List (AX × V)}{n:Nat}(h:KeysOk kvo n){k:Nat}(hk:k<n)(hn:B8 kvo (.inl (k:Int))=none)(v:V):KeysOk (CF kvo (.inl (k:Int)) v) n:=by
 refine⟨uL v h.1 hn,λp hp=> ?_⟩
 rw[aC v hn]at hp
 rcases List.mem_append.mp hp with hp | hp
 ·exact h.2 p hp
 ·rw[List.mem_singleton.mp hp];exact⟨k,rfl,hk⟩
structure BookIn(C D:Addr)(H:Hp)(A:BA)(w:Nat)(cs:List Ch)(outs:Int->Bool):Prop where
 ob:∃ dx,H A.b=some (.ins C dx (bf A.gp A.m A.mi A.lt A.ou))
 made:∃ chs:List Addr,H A.m=some (.lst (chs.map V.ref))/\Paired (ChAt D H) chs cs
 mil:H A.mi=some (.lst (A.ls.map V.ref))
 mic:∀ (i:Nat) l,A.ls[i]? =some l->H l=some (.lst ((Cw cs i).map λ(k:Nat)=>V.int k))
 nd:A.ls.Nodup
 lat:∃ kvs,H A.lt=some (.dT kvs)/\(∀ i j:Int,B8 kvs [.inl i,.inl j]=(b7 cs i j).map λ(k:Nat)=>V.int k)/\kvs.length<=cs.length
 out:∃ kvo,H A.ou=some (.dK kvo)/\(∀ k:Int,(B8 kvo (.inl k)).isSome=outs k)/\KeysOk kvo cs.length
 sz:cs.length<=990
 inn:∀ c∈cs,c.blk<A.ls.length/\c.cell<w
 need:∀ (k:Nat) c,cs[k]? =some c->(∀ x∈c.nd,0<=x/\x<k)/\c.nd.Pairwise (· <·)/\c.nd.length<=100
 ap:A.m≠A.mi/\A.m∉A.ls/\A.mi∉A.ls/\A.cl≠A.m/\A.cl≠A.mi/\A.cl∉A.ls
 chn:∀ (k:Nat) c,cs[k]? =some c->∀ j,b7 (cs.take k) c.blk c.cell=some j->(j:Int)∈c.nd
structure BookAt(a:Ad)(C:Addr)(H:Hp)(A:BA)(w:Nat)(rows:List (List V))(n:Nat)(cs:List Ch)(outs:Int->Bool):Prop where
 bk:BookIn C (a "Change") H A w cs outs
 pk:PlankAt a H A.gp A.cl w rows n
 nb:A.ls.length=rows.length
def IM(o:Option HO):Prop:=(∀ xs,o≠some (.tup xs))/\∀ C dx fs,o≠some (.ins C dx fs)
theorem ChAt.sb{D:Addr}{G:Addr->Prop}{H H':Hp}(s:SameBut G H H')(g:∀ x,G x->IM (H x)){x:Addr}{c:Ch}(h:ChAt D H x c):ChAt D H' x c:=by
 obtain⟨dx,pl,nt,e1,e2,e3⟩:=h
 exact⟨dx,pl,nt,s _ _ e1 λz=>(g _ z).2 _ _ _ e1,s _ _ e2 λz=>(g _ z).1 _ e2,s _ _ e3 λz=>(g _ z).1 _ e3⟩
theorem BookIn.sb{C D:Addr}{G:Addr->Prop}{H H':Hp}{A:BA}{w:Nat}{cs:List Ch}{outs:Int->Bool}(B:BookIn C D H A w cs outs)(s:SameBut G H H')(g:∀ x,G x->IM (H x))(f:∀ x,G x->¬ A.F x):BookIn C D H' A w cs outs:=by
 obtain⟨⟨dx,e1⟩,⟨chs,e2,e3⟩,e4,e5,e6,⟨kvs,e7,e8⟩,⟨kvo,e9,e10⟩,r1,r2,r3,r4,r5⟩:=B
 refine⟨⟨dx,s _ _ e1 λz=>(g _ z).2 _ _ _ e1⟩,⟨chs,s _ _ e2 λz=>f _ z (.inl rfl),Paired.mapP e3 λx c h=>h.sb s g⟩,s _ _ e4 λz=>f _ z (.inr (.inl rfl)),λi l h=>s _ _ (e5 i l h) λz=>f _ z (.inr (.inr (.inl (List.mem_of_getElem? h)))),e6,
  ⟨kvs,s _ _ e7 λz=>f _ z (.inr (.inr (.inr (.inl rfl)))),e8⟩,⟨kvo,s _ _ e9 λz=>f _ z (.inr (.inr (.inr (.inr (.inl rfl))))),e10⟩,r1,r2,r3,r4,r5⟩
theorem PlankAt.sbL{a:Ad}{G:Addr->Prop}{H H':Hp}{p cl:Addr}{w:Nat}{rows:List (List V)}{n:Nat}(P:PlankAt a H p cl w rows n)(s:SameBut G H H')(g:∀ x,G x->IM (H x))(h:¬ G cl):PlankAt a H' p cl w rows n:=by
 obtain⟨⟨dx,e1⟩,⟨ts,e2,e3⟩,r1,r2,r3⟩:=P
 exact⟨⟨dx,s _ _ e1 λz=>(g _ z).2 _ _ _ e1⟩,⟨ts,s _ _ e2 h,Paired.mapP e3 λt r q=>s _ _ q λz=>(g _ z).1 _ q⟩,r1,r2,r3⟩
theorem BookAt.sb{a:Ad}{C:Addr}{G:Addr->Prop}{H H':Hp}{A:BA}{w:Nat}{rows:List (List V)}{n:Nat}{cs:List Ch}{outs:Int->Bool}(B:BookAt a C H A w rows n cs outs)(s:SameBut G H H')(g:∀ x,G x->IM (H x))(f:∀ x,G x->¬ A.F x):BookAt a C H' A w rows n cs outs :=
 ⟨B.bk.sb s g f,B.pk.sbL s g λz=>f _ z (.inr (.inr (.inr (.inr (.inr rfl))))),B.nb⟩
theorem BookAt.same{a:Ad}{C:Addr}{H H':Hp}{A:BA}{w:Nat}{rows:List (List V)}{n:Nat}{cs:List Ch}{outs:Int->Bool}(B:BookAt a C H A w rows n cs outs)(s:Same H H'):BookAt a C H' A w rows n cs outs :=
 B.sb (G:=λ_=>False) (Same.sb s) (λ_ z=>z.elim) λ_ z=>z.elim
theorem BookAt.off{a:Ad}{C:Addr}{H:Hp}{A:BA}{w:Nat}{rows:List (List V)}{n:Nat}{cs:List Ch}{outs:Int->Bool}(B:BookAt a C H A w rows n cs outs){x:Addr}(h:H x=none):¬ A.F x:=by
 obtain⟨⟨_,⟨chs,e2,_⟩,e4,e5,_,⟨kvs,e7,_⟩,⟨kvo,e9,_⟩,_⟩,⟨_,⟨ts,e11,_⟩,_⟩,_⟩:=B
 rintro (z | z | z | z | z | z)
 ·rw[z,e2]at h;cases h
 ·rw[z,e4]at h;cases h
 ·obtain⟨i,hi,e⟩:=List.getElem_of_mem z
  have:=e5 i x (by rw[<-e];exact List.getElem?_eq_getElem hi)
  rw[this]at h;cases h
 ·rw[z,e7]at h;cases h
 ·rw[z,e9]at h;cases h
 ·rw[z,e11]at h;cases h
theorem GZ{α :Type}{l:List α}{x: α}(h:x∈l):∃ i:Nat,l[i]? =some x:=by
 obtain⟨i,hi,e⟩:=List.getElem_of_mem h
 exact⟨i,by rw[<-e];exact List.getElem?_eq_getElem hi⟩
theorem PY{H:Hp}{x:Addr}{xs:List V}(h:H x=some (.lst xs)):IM (H x):=by
 rw[h];exact⟨λ_ z=>(by cases z),λ_ _ _ z=>(by cases z)⟩
theorem Cz{H:Hp}{x:Addr}{xs:List (AX × V)}(h:H x=some (.dK xs)):IM (H x):=by
 rw[h];exact⟨λ_ z=>(by cases z),λ_ _ _ z=>(by cases z)⟩
theorem Db{H:Hp}{x:Addr}{xs:List (List AX × V)}(h:H x=some (.dT xs)):IM (H x):=by
 rw[h];exact⟨λ_ z=>(by cases z),λ_ _ _ z=>(by cases z)⟩
theorem BookAt.loose{a:Ad}{C:Addr}{H:Hp}{A:BA}{w:Nat}{rows:List (List V)}{n:Nat}{cs:List Ch}{outs:Int->Bool}(B:BookAt a C H A w rows n cs outs){x:Addr}(h:A.F x):IM (H x):=by
 obtain⟨⟨_,⟨chs,e2,_⟩,e4,e5,_,⟨kvs,e7,_⟩,⟨kvo,e9,_⟩,_⟩,⟨_,⟨ts,e11,_⟩,_⟩,_⟩:=B
 rcases h with z | z | z | z | z | z
 ·exact PY (z ▸ e2)
 ·exact PY (z ▸ e4)
 ·obtain⟨i,e⟩:=GZ z
  exact PY (e5 i x e)
 ·exact Db (z ▸ e7)
 ·exact Cz (z ▸ e9)
 ·exact PY (z ▸ e11)
structure ziy(cs:List Ch)(outs:Int->Bool)(ns:List Int)(R:Int->Bool):Prop where
 all:∀ x∈ns,R x=true
 up:∀ (k:Nat) (c:Ch),cs[k]? =some c->outs k=false->R k=true->∀ y∈c.nd,R y=true
 only:∀ x,R x=true->x∈ns\/∃ (k:Nat) (c:Ch),cs[k]? =some c/\outs k=false/\R k=true/\x∈c.nd
end L2
namespace L2
structure EG(K:W.Frag)(a:Ad):Prop where
 cl:Cls K (a "Layout")
 n1:NoAttr K (a "Layout") "name_blocks"
 n2:NoAttr K (a "Layout") "record_blocks"
 n3:NoAttr K (a "Layout") "piece_blocks"
 n4:NoAttr K (a "Layout") "width"
section
variable{n r c w:Int}
def lf(n r c w:Int):List (Str × V):=[("name_blocks",.int n),("record_blocks",.int r),("piece_blocks",.int c),("width",.int w)]
theorem PZ:(lf n r c w).lookup ("name_blocks":Str)=some (V.int n):=by simp[lf]
theorem MT:(lf n r c w).lookup ("record_blocks":Str)=some (V.int r):=by
 simp[lf,List.lookup_cons,BJ (a:="record_blocks") (b:="name_blocks") (by decide +kernel)]
theorem S0:(lf n r c w).lookup ("piece_blocks":Str)=some (V.int c):=by
 simp[lf,List.lookup_cons,BJ (a:="piece_blocks") (b:="name_blocks") (by decide +kernel),BJ (a:="piece_blocks") (b:="record_blocks") (by decide +kernel)]
theorem K4:(lf n r c w).lookup ("width":Str)=some (V.int w):=by
 simp[lf,List.lookup_cons,BJ (a:="width") (b:="name_blocks") (by decide +kernel),BJ (a:="width") (b:="record_blocks") (by decide +kernel),BJ (a:="width") (b:="piece_blocks") (by decide +kernel)]
theorem DY{x:Str}(h:(EM x "name_blocks" || EM x "record_blocks" || EM x "piece_blocks" || EM x "width")=false):(lf n r c w).lookup x=none:=by
 simp only[Bool.or_eq_false_iff]at h
 obtain⟨⟨⟨h1,h2⟩,h3⟩,h4⟩:=h
 simp[lf,List.lookup_cons,BJ h1,BJ h2,BJ h3,BJ h4]
theorem Dc:BU "width" (.int w) (BU "piece_blocks" (.int c) (BU "record_blocks" (.int r) (BU "name_blocks" (.int n) [])))=lf n r c w:=by
 repeat (first | rw[b8] | rw[CV (by decide +kernel)])
 rfl
end
structure LayAt(a:Ad)(H:Hp)(p:Addr)(n r c w:Nat):Prop where
 ob:∃ dx,H p=some (.ins (a "Layout") dx (lf n r c w))
 hn:n<=100
 hr:r<=100
 hc:c<=100
 h1:1<=w
 hw:w<=100
theorem LayAt.same{a:Ad}{H H':Hp}{p:Addr}{n r c w:Nat}(L:LayAt a H p n r c w)(s:Same H H'):LayAt a H' p n r c w:=by
 obtain⟨⟨dx,e⟩,z1,z2,z3,z4,z5⟩:=L
 exact⟨⟨dx,s _ _ e⟩,z1,z2,z3,z4,z5⟩
theorem LayAt.sb{a:Ad}{F:Addr->Prop}{H H':Hp}{p:Addr}{n r c w:Nat}(L:LayAt a H p n r c w)(s:SameBut F H H')(f:¬ F p):LayAt a H' p n r c w:=by
 obtain⟨⟨dx,e⟩,z1,z2,z3,z4,z5⟩:=L
 exact⟨⟨dx,s _ _ e f⟩,z1,z2,z3,z4,z5⟩
def K5(K:W.Frag)(a:Ad):Sp:=λvs H Q _=>∃ (p dx:Addr) (n r c w:Nat),vs=[.ref p,.int n,.int r,.int c,.int w]/\EG K a/\H p=some (.ins (a "Layout") dx [])/\n<=100/\r<=100/\c<=100/\1<=w/\w<=100 ∧
 ∀ H',LayAt a H' p n r c w->SameBut (· =p) H H'->Q .non H'
def IN(x y:Int)(Q:VK)(H:Hp):Prop:=∀ t,H t=none->Q (.ref t) (upd H t (.tup [.int x,.int y]))
def E7(K:W.Frag)(a:Ad):Sp:=λvs H Q _=>∃ (p:Addr) (n r c w k:Nat) (b:Int),vs=[.ref p,.int b,.int k]/\EG K a/\LayAt a H p n r c w/\IN (b+k / w) (k % w) Q H
def MU(K:W.Frag)(a:Ad):Sp:=λvs H Q _=>∃ (p:Addr) (n r c w k:Nat),vs=[.ref p,.int k]/\EG K a/\LayAt a H p n r c w/\IN (0+k / w) (k % w) Q H
def IP(K:W.Frag)(a:Ad):Sp:=λvs H Q _=>∃ (p:Addr) (n r c w k:Nat),vs=[.ref p,.int k]/\EG K a/\LayAt a H p n r c w/\IN (n+k / w) (k % w) Q H
def MV(K:W.Frag)(a:Ad):Sp:=λvs H Q _=>∃ (p:Addr) (n r c w k:Nat),vs=[.ref p,.int k]/\EG K a/\LayAt a H p n r c w/\IN (n+r+k / w) (k % w) Q H
def IQ(K:W.Frag)(a:Ad):Sp:=λvs H Q _=>∃ (p:Addr) (n r c w k:Nat),vs=[.ref p,.int k]/\EG K a/\LayAt a H p n r c w/\IN (n+r+c+k / w) (k % w) Q H
def JO(K:W.Frag)(a:Ad):Sp:=λvs H Q _=>∃ (p:Addr) (n r c w k:Nat),vs=[.ref p,.int k]/\EG K a/\LayAt a H p n r c w/\IN (n+r+c+r+k / w) (k % w) Q H
def HQ(K:W.Frag)(a:Ad):Sp:=λvs H Q _=>∃ (p:Addr) (n r c w:Nat),vs=[.ref p]/\EG K a/\LayAt a H p n r c w/\Q (.int (n+r+c)) H
def MW(K:W.Frag)(a:Ad):Sp:=λvs H Q _=>∃ (p:Addr) (n r c w:Nat),vs=[.ref p]/\EG K a/\LayAt a H p n r c w/\Q (.int (n+r+c+r+c)) H
def MX(K:W.Frag)(a:Ad):Sp:=λvs H Q _=>∃ (p:Addr) (n r c w:Nat),vs=[.ref p]/\EG K a/\LayAt a H p n r c w/\∀ t,H t=none->Q (.ref t) (upd H t (.tup [.int (n * w),.int (r * w),.int (c * w)]))
def MY(K:W.Frag)(a:Ad):Sp:=λvs H Q _=>∃ (p:Addr) (n r c w:Nat),vs=[.ref p]/\EG K a/\EF K a/\LayAt a H p n r c w ∧
 ∀ x cl H',H x=none->H cl=none->PlankAt a H' x cl w (List.replicate (n+r+c+r+c) (List.replicate w .non)) 0->Same H H'->Q (.ref x) H'
end L2
namespace L2
def K6(ns:List Int)(k:Nat):Int:=ns.getD k 0
def HR(K:W.Frag)(a:Ad):Sp:=λvs H Q _=>∃ (s:Addr) (ns:List Int) (k:Nat),vs=[.ref s,.int k]/\SqL K H s (ns.map V.int)/\ns.length<=1000/\Q (.int (K6 ns k)) H
theorem S1{K:W.Frag}{a:Ad}{s:Addr}{k:Int}{H:Hp}{Q:VK}{E:XK}:HR K a [.ref s,.int k] H Q E=∃ (ns:List Int) (n:Nat),k=n/\SqL K H s (ns.map V.int)/\ns.length<=1000/\Q (.int (K6 ns n)) H:=by simp[HR,and_assoc]
def GoodV:Nat->Hp->V->Prop
 | 0,_,_=>False
 | _+1,_,.int _=>True
 | _+1,_,.non=>True
 | _+1,_,.str z=>PyData.strOk z=true
 | n+1,H,.ref p=>∃ xs,H p=some (.tup xs)/\xs.length<=100/\∀ v∈xs,GoodV n H v
 | _,_,_=>False
def good7(H:Hp)(rows:List (List V)):Prop:=∀ r∈rows,∀ v∈r,GoodV 7 H v
def AU(l:List Nat):List V:=l.map λ(k:Nat)=>V.int k
abbrev GI:=Option (Str × Nat)
abbrev EN:=Option (Int × List Nat)
structure Vw where
 nm:List GI
 rc:List EN
 pc:List (Option Str)
 rm:List (Option Int)
 pm:List (Option Int)
def AF{α :Type}(l:List (Option α))(k:Nat):Option α :=(l[k]?).join
def E8:EN->List Nat
 | none=>[]
 | some (_,ps)=>ps
def BZ(nm:List GI):List Nat:=nm.filterMap λc=>c.map (·.2)
def CS(rc:List EN):List Nat:=rc.flatMap E8
def led(vw:Vw)(r:Nat):Nat:=(BZ vw.nm).count r
def CG(vw:Vw)(p:Nat):Nat:=(CS vw.rc).count p
def G0(vw:Vw):List EN:=((List.range vw.rc.length).filter λr=>decide (0<led vw r)).map (AF vw.rc)
def EH(vw:Vw)(p:Nat):Nat:=(CS (G0 vw)).count p
def B1(n:Nat)(p:Nat->Bool)(f:Nat->List V):List (List V):=((List.range n).filter p).map f
def EI(vw:Vw)(k:Nat):Bool:=match AF vw.nm k with
 | none=>false
 | some c=>(AF vw.rc c.2).isNone
def EO(vw:Vw)(k:Nat):Bool:=match AF vw.nm k with
 | none=>false
 | some c=>(List.range k).any λj=>match AF vw.nm j with
  | none=>false
  | some d=>decide (d.1=c.1)
def EQ(vw:Vw)(r:Nat):Bool:=match AF vw.rc r with
 | none=>false
 | some c=>decide (c.1<(led vw r:Int))
def D4(vw:Vw)(r:Nat):Bool:=match AF vw.rc r with
 | none=>false
 | some c=>decide (0<led vw r) && decide ((led vw r:Int)<c.1)
def FU(vw:Vw):List (List V):=B1 vw.nm.length (EI vw) (λk=>[.str "lost",.int k])++B1 vw.nm.length (EO vw) (λk=>[.str "twice",.int k])
def E9(vw:Vw):List (List V):=B1 vw.pc.length (λp=>decide (1<CG vw p)) (λp=>[.str "shared",.int p])++B1 vw.pc.length (λp=>decide (0<CG vw p) && (AF vw.pc p).isNone) (λp=>[.str "empty",.int p])++B1 vw.rc.length (EQ vw) (λr=>[.str "few",.int r])
def FV(vw:Vw):List (List V):=B1 vw.rc.length (λr=>decide (0<led vw r) && !decide (AF vw.rm r=some 1)) (λr=>[.str "free",.str "record",.int r])++B1 vw.pc.length (λp=>decide (0<CG vw p) && !decide (AF vw.pm p=some 1)) (λp=>[.str "free",.str "piece",.int p])
def faults(vw:Vw):List (List V):=FU vw++E9 vw++FV vw
def JP(vw:Vw):List (List V):=B1 vw.rc.length (D4 vw) (λr=>[.str "many",.int r,.int (led vw r)])++B1 vw.rc.length (λr=>(AF vw.rc r).isSome && decide (led vw r=0)) (λr=>[.str "left",.str "record",.int r])
def JQ(vw:Vw):List (List V):=B1 vw.pc.length (λp=>decide (AF vw.pm p=some 1) && decide (EH vw p=0)) (λp=>[.str "left",.str "piece",.int p])
def JR(vw:Vw):List (List V):=B1 vw.rc.length (λr=>decide (AF vw.rm r=some 1) && (AF vw.rc r).isNone) (λr=>[.str "marked",.int r])
def G1(vw:Vw):List (List V):=JP vw++JQ vw++JR vw
structure D8(vw:Vw):Prop where
 n1:∀ c,some c∈vw.nm->c.2<vw.rc.length/\PyData.strOk c.1=true
 n2:∀ c,some c∈vw.rc->(∀ p∈c.2,p<vw.pc.length)/\c.2.length<=10
 n3:∀ s,some s∈vw.pc->PyData.strOk s=true
 l1:vw.rm.length=vw.rc.length
 l2:vw.pm.length=vw.pc.length
 bn:vw.nm.length<=100
 br:vw.rc.length<=100
 bp:vw.pc.length<=100
def NmV(H:Hp)(v:V):GI->Prop
 | none=>v=.non
 | some c=>∃ p,v=.ref p/\H p=some (.tup [.str c.1,.int c.2])
def RcV(H:Hp)(v:V):EN->Prop
 | none=>v=.non
 | some c=>∃ p q,v=.ref p/\H p=some (.tup [.int c.1,.ref q])/\H q=some (.tup (AU c.2))
def PcV(_:Hp)(v:V):Option Str->Prop
 | none=>v=.non
 | some s=>v=.str s
def MkV(_:Hp)(v:V):Option Int->Prop
 | none=>v=.non
 | some i=>v=.int i
def LstAt{α :Type}(R:Hp->V-> α ->Prop)(H:Hp)(p:Addr)(cs:List α):Prop:=∃ vs,H p=some (.lst vs)/\Paired (R H) vs cs
def FindsL(H:Hp)(l:Addr)(fs:List (List V)):Prop:=∃ ps:List Addr,H l=some (.lst (ps.map V.ref))/\Paired (λp f=>H p=some (.tup f)) ps fs
structure TV(K:W.Frag)(a:Ad):Prop where
 cl:Cls K (a "View")
 n1:NoAttr K (a "View") "name_values"
 n2:NoAttr K (a "View") "record_values"
 n3:NoAttr K (a "View") "piece_values"
 n4:NoAttr K (a "View") "record_marks"
 n5:NoAttr K (a "View") "piece_marks"
 n6:NoAttr K (a "View") "leads"
 n7:NoAttr K (a "View") "namings"
 n8:NoAttr K (a "View") "reached"
def b9(a:Ad)(H:Hp)(x:Addr)(f:Str)(v:V):Prop:=∃ dx fs,H x=some (.ins (a "View") dx fs)/\fs.lookup f=some v
structure VA where
 n:Addr
 r:Addr
 p:Addr
 rm:Addr
 pm:Addr
 ld:Addr
 ng:Addr
 rh:Addr
def vf(A:VA):List (Str × V):=[("name_values",.ref A.n),("record_values",.ref A.r),("piece_values",.ref A.p),("record_marks",.ref A.rm),("piece_marks",.ref A.pm),("leads",.ref A.ld),("namings",.ref A.ng),("reached",.ref A.rh)]
structure ViewAt(a:Ad)(H:Hp)(x:Addr)(A:VA)(vw:Vw):Prop where
 ob:∃ dx,H x=some (.ins (a "View") dx (vf A))
 n:LstAt NmV H A.n vw.nm
 r:LstAt RcV H A.r vw.rc
 p:LstAt PcV H A.p vw.pc
 rm:LstAt MkV H A.rm vw.rm
 pm:LstAt MkV H A.pm vw.pm
 ld:H A.ld=some (.lst (AU ((List.range vw.rc.length).map (led vw))))
 ng:H A.ng=some (.lst (AU ((List.range vw.pc.length).map (CG vw))))
 rh:H A.rh=some (.lst (AU ((List.range vw.pc.length).map (EH vw))))
 ok:D8 vw
structure PlV(H:Hp)(rows:List (List V))(n r c w:Nat)(vw:Vw):Prop where
 vs:∃ v1 v2 v3 v4 v5:List V,rows.flatten=v1++v2++v3++v4++v5/\Paired (NmV H) v1 vw.nm/\Paired (RcV H) v2 vw.rc/\Paired (PcV H) v3 vw.pc/\Paired (MkV H) v4 vw.rm/\Paired (MkV H) v5 vw.pm
 ln:vw.nm.length=n * w
 lr:vw.rc.length=r * w
 lp:vw.pc.length=c * w
 ok:D8 vw
def newL(vs:List V)(H:Hp)(Q:VK):Prop:=∀ l H',H l=none->Same H H'->H' l=some (.lst vs)->Q (.ref l) H'
def newF(fs:List (List V))(H:Hp)(Q:VK):Prop:=∀ l H',H l=none->Same H H'->FindsL H' l fs->Q (.ref l) H'
def IR(rows:List (List V))(b j:Nat):V:=(((rows[b]?).bind (·[j]?)).getD .non)
def G2(K:W.Frag)(a:Ad):Sp:=λvs H Q _=>∃ (gp cl pl:Addr) (w:Nat) (rows:List (List V)) (m:Nat) (ts:List Addr) (ps:List (Nat × Nat)),vs=[.ref gp,.ref pl]/\EF K a/\PlankAt a H gp cl w rows m/\H pl=some (.lst (ts.map V.ref))/\Paired (λt (ij:Nat × Nat)=>H t=some (.tup [.int ij.1,.int ij.2])) ts ps/\(∀ ij∈ps,ij.1<rows.length/\ij.2<w)/\ps.length<=1000 ∧
 newL (ps.map λij=>IR rows ij.1 ij.2) H Q
def JS(K:W.Frag)(a:Ad):Sp:=λvs H Q _=>∃ (many:Nat) (nl:Addr) (ks:List Nat),vs=[.int many,.ref nl]/\H nl=some (.lst (AU ks))/\(∀ k∈ks,k<many)/\many<=1000/\ks.length<=10000/\newL (AU ((List.range many).map λk=>ks.count k)) H Q
def K7(K:W.Frag)(a:Ad):Sp:=λvs H Q _=>∃ (rl:Addr) (cs:List EN),vs=[.ref rl]/\LstAt RcV H rl cs/\cs.length<=100/\(∀ c,some c∈cs->c.2.length<=10)/\newL (AU (CS cs)) H Q
def MZ(K:W.Frag)(a:Ad):Sp:=λvs H Q _=>∃ (x ar al:Addr) (vw:Vw),vs=[.ref x]/\TV K a/\b9 a H x "record_values" (.ref ar)/\b9 a H x "leads" (.ref al)/\LstAt RcV H ar vw.rc/\H al=some (.lst (AU ((List.range vw.rc.length).map (led vw))))/\vw.rc.length<=100/\∀ l H',H l=none->Same H H'->LstAt RcV H' l (G0 vw)->Q (.ref l) H'
def JT(K:W.Frag)(a:Ad):Sp:=λvs H Q _=>∃ (x:Addr) (A:VA) (vw:Vw),vs=[.ref x]/\TV K a/\ViewAt a H x A vw/\newL (AU ((List.range vw.rc.length).filter λr=>(AF vw.rc r).isSome)) H Q
def IS(K:W.Frag)(a:Ad):Sp:=λvs H Q _=>∃ (x:Addr) (A:VA) (vw:Vw),vs=[.ref x]/\TV K a/\ViewAt a H x A vw/\newL (AU ((List.range vw.pc.length).filter λp=>decide (0<CG vw p))) H Q
def JU(K:W.Frag)(a:Ad):Sp:=λvs H Q _=>∃ (x:Addr) (A:VA) (vw:Vw) (r:Nat) (c:Int × List Nat),vs=[.ref x,.int r]/\TV K a/\ViewAt a H x A vw/\AF vw.rc r=some c/\Q (.int c.1) H
def IT(f:Vw->List (List V))(K:W.Frag)(a:Ad):Sp:=λvs H Q _=>∃ (x:Addr) (A:VA) (vw:Vw),vs=[.ref x]/\TV K a/\ViewAt a H x A vw/\newF (f vw) H Q
def M0(K:W.Frag)(a:Ad):Sp:=IT FU K a
def M3(K:W.Frag)(a:Ad):Sp:=IT E9 K a
def M4(K:W.Frag)(a:Ad):Sp:=IT FV K a
def JV(K:W.Frag)(a:Ad):Sp:=IT faults K a
def M5(K:W.Frag)(a:Ad):Sp:=IT JP K a
def M6(K:W.Frag)(a:Ad):Sp:=IT JQ K a
def M7(K:W.Frag)(a:Ad):Sp:=IT JR K a
def M8(K:W.Frag)(a:Ad):Sp:=IT G1 K a
def IU(K:W.Frag)(a:Ad):Sp:=λvs H Q _=>∃ (x dx ly gp cl:Addr) (n r c w:Nat) (rows:List (List V)) (m:Nat) (vw:Vw),vs=[.ref x,.ref ly,.ref gp]/\TV K a/\EG K a/\EF K a/\H x=some (.ins (a "View") dx [])/\LayAt a H ly n r c w/\PlankAt a H gp cl w rows m/\rows.length=n+r+c+r+c/\PlV H rows n r c w vw ∧
 ∀ (A:VA) (H':Hp),ViewAt a H' x A vw->SameBut (· =x) H H'->Q .non H'
def Ground(K:W.Frag)(a:Ad)(H:Hp)(ly gp:Addr)(vw:Vw):Prop:=∃ (cl:Addr) (n r c w:Nat) (rows:List (List V)) (m:Nat),TV K a/\EG K a/\EF K a/\LayAt a H ly n r c w/\PlankAt a H gp cl w rows m/\rows.length=n+r+c+r+c/\PlV H rows n r c w vw
def M9(K:W.Frag)(a:Ad):Sp:=λvs H Q _=>∃ (ly gp:Addr) (vw:Vw),vs=[.ref ly,.ref gp]/\Ground K a H ly gp vw/\newF (faults vw++G1 vw) H Q
def NA(K:W.Frag)(a:Ad):Sp:=λvs H Q _=>∃ (ly gp:Addr) (vw:Vw),vs=[.ref ly,.ref gp]/\Ground K a H ly gp vw/\∀ H',Same H H'->Q (.bl (decide (faults vw=[]))) H'
def FA(K:W.Frag)(a:Ad):Sp:=λvs H Q _=>∃ (c:Int) (m:Nat),vs=[.int c,.int m]/\m<=100/\∀ l (xs:List Int) H',H l=none->Same H H'->H' l=some (.lst (xs.map V.int))->xs.length=m->(∀ x∈xs,0<=x/\x<2000000000)->Q (.ref l) H'
def JW(K:W.Frag)(a:Ad):Sp:=λvs H Q _=>∃ x:Int,vs=[.int x]/\∀ (z:Str) H',PyData.strOk z=true->Same H H'->Q (.str z) H'
def NB(K:W.Frag)(a:Ad):Sp:=λvs H Q _=>∃ x:Int,vs=[.int x]/\∀ (t:Addr) (n r c w:Nat) H',Same H H'->H' t=some (.tup [.int n,.int r,.int c,.int w])->1<=n->n<=6->1<=r->r<=6->1<=c->c<=6->1<=w->w<=6->Q (.ref t) H'
def NC(vw:Vw)(p:Nat):Prop:=∀ r c,0<led vw r->AF vw.rc r=some c->p∉c.2
structure Clean(vw:Vw)(lf:List Nat)(zs:List Str):Prop where
 nm:∀ k c,AF vw.nm k=some c->∃ j,j<(BZ vw.nm).length/\zs[j]? =some c.1
 ds:∀ j k c d,j<k->AF vw.nm j=some c->AF vw.nm k=some d->c.1≠d.1
 ls:∀ k c,AF vw.nm k=some c->(AF vw.rc c.2).isSome=true
 fw:∀ r c,AF vw.rc r=some c->(led vw r:Int)<=c.1
 s1:∀ r c,AF vw.rc r=some c->c.2.Nodup
 s2:∀ r r' c c',r≠r'->AF vw.rc r=some c->AF vw.rc r'=some c'->∀ p∈c.2,p∉c'.2
 em:∀ r c,AF vw.rc r=some c->∀ p∈c.2,(AF vw.pc p).isSome=true/\AF vw.pm p=some 1
 fr:∀ r,0<led vw r->AF vw.rm r=some 1
 nd:lf.Nodup
 lm:∀ p,p∈lf↔(AF vw.pm p=some 1/\NC vw p)
 p3:∀ r c,AF vw.rc r=some c->c.2.length<=3
def FOk(fs:List (List V)):Prop:=∀ f∈fs,f.length<=10/\1<=f.length/\∀ v∈f,(∃ i,v=.int i)\/∃ s,v=.str s/\PyData.strOk s=true
structure LW where
 v:Addr
 a0:Addr
 a1:Addr
 a2:Addr
 a3:Addr
 a4:Addr
 a5:Addr
def LW.L(A:LW):List Addr:=[A.a0,A.a1,A.a2,A.a3,A.a4,A.a5]
structure LWAt(H:Hp)(A:LW)(vw:Vw)(lf:List Nat):Prop where
 ob:H A.v=some (.lst [.ref A.a0,.ref A.a1,.ref A.a2,.ref A.a3,.ref A.a4,.ref A.a5])
 n:LstAt NmV H A.a0 vw.nm
 r:LstAt RcV H A.a1 vw.rc
 p:LstAt PcV H A.a2 vw.pc
 rm:LstAt MkV H A.a3 vw.rm
 pm:LstAt MkV H A.a4 vw.pm
 l:H A.a5=some (.lst (AU lf))
 ok:D8 vw
 nd:A.L.Nodup
 nv:A.v∉A.L
def EX(vw:Vw)(n r c:Nat):Prop:=vw.nm.length=n/\vw.rc.length=r/\vw.pc.length=c
def ND(K:W.Frag)(a:Ad):Sp:=λvs H Q _=>∃ (c:Int) (m:Nat),vs=[.int c,.int m]/\m<=36/\∀ l (zs:List Str) H',H l=none->Same H H'->H' l=some (.lst (zs.map V.str))->zs.length=m->zs.Nodup->(∀ z∈zs,PyData.strOk z=true)->Q (.ref l) H'
structure NamesAt(H:Hp)(A:LW)(nl:Addr)(zs:List Str):Prop where
 e:H nl=some (.lst (zs.map V.str))
 l:zs.length=36
 d:zs.Nodup
 s:∀ z∈zs,PyData.strOk z=true
 n:nl∉A.L
structure IntsAt(H:Hp)(A:LW)(xl:Addr)(xs:List Int)(m:Nat):Prop where
 e:H xl=some (.lst (xs.map V.int))
 l:xs.length=m
 b:∀ x∈xs,0<=x/\x<2000000000
 n:xl∉A.L
def P0(f:Vw->List Nat)(K:W.Frag)(a:Ad):Sp:=λvs H Q _=>∃ (A:LW) (vw:Vw) (lf:List Nat),vs=[.ref A.v]/\LWAt H A vw lf/\newL (AU (f vw)) H Q
def Dd(vw:Vw):List Nat:=(List.range vw.rc.length).map (led vw)
def D3(vw:Vw):List Nat:=(List.range vw.nm.length).filter λk=>(AF vw.nm k).isNone
def freeR(vw:Vw):List Nat:=(List.range vw.rc.length).filter λr=>(AF vw.rc r).isNone && (AF vw.rm r).isNone
def freeP(vw:Vw):List Nat:=(List.range vw.pc.length).filter λp=>(AF vw.pc p).isNone && (AF vw.pm p).isNone
def HS(K:W.Frag)(a:Ad):Sp:=P0 Dd K a
def FB(K:W.Frag)(a:Ad):Sp:=P0 D3 K a
def JX(K:W.Frag)(a:Ad):Sp:=P0 freeR K a
def JY(K:W.Frag)(a:Ad):Sp:=P0 freeP K a
def NE(K:W.Frag)(a:Ad):Sp:=λvs H Q _=>∃ (A:LW) (vw:Vw) (lf l0:List Nat) (zs:List Str) (xl:Addr) (xs:List Int) (many n r c:Nat),vs=[.ref A.v,.ref xl,.int many]/\LWAt H A vw lf/\Clean vw l0 zs/\IntsAt H A xl xs 3/\many<=3/\EX vw n r c ∧
 ∀ (t:Addr) (tk:List Nat) (vw':Vw) (H':Hp),LWAt H' A vw' lf->Clean vw' (l0++tk) zs->vw'.nm=vw.nm->vw'.rc=vw.rc->vw'.rm=vw.rm->EX vw' n r c->(∀ p∈tk,(AF vw'.pc p).isSome=true/\p<c)->(∀ p∈tk,∀ r c,AF vw'.rc r=some c->p∉c.2)->tk.length<=3->H' t=some (.tup (AU tk))->SameBut (· ∈A.L) H H'->Q (.ref t) H'
def JZ(K:W.Frag)(a:Ad):Sp:=λvs H Q _=>∃ (A:LW) (vw:Vw) (lf l0:List Nat) (zs:List Str) (nl:Addr) (r:Nat) (c:Int × List Nat) (num:Int) (n' r' c':Nat),vs=[.ref A.v,.ref nl,.int r,.int num]/\LWAt H A vw lf/\Clean vw l0 zs/\NamesAt H A nl zs/\EX vw n' r' c'/\n'<=36/\D3 vw≠[]/\AF vw.rc r=some c/\(led vw r:Int)+1<=c.1/\AF vw.rm r=some 1 ∧
 ∀ (vw':Vw) (H':Hp),LWAt H' A vw' lf->Clean vw' (l0.filter λp=>decide (p∉c.2)) zs->EX vw' n' r' c'->SameBut (· ∈A.L) H H'->Q .non H'
def S2(A:LW)(zs:List Str)(n r c:Nat)(H:Hp)(Q:VK):Prop:=∀ (vw':Vw) (lf':List Nat) (H':Hp),LWAt H' A vw' lf'->Clean vw' lf' zs->EX vw' n r c->SameBut (· ∈A.L) H H'->Q .non H'
def K8(K:W.Frag)(a:Ad):Sp:=λvs H Q _=>∃ (A:LW) (vw:Vw) (lf:List Nat) (zs:List Str) (nl xl:Addr) (xs:List Int) (wn:Bool) (n r c:Nat),vs=[.ref A.v,.ref nl,.ref xl,.bl wn]/\LWAt H A vw lf/\Clean vw lf zs/\NamesAt H A nl zs/\IntsAt H A xl xs 7/\EX vw n r c/\n<=36/\c<=36/\S2 A zs n r c H Q
def NF(K:W.Frag)(a:Ad):Sp:=λvs H Q _=>∃ (A:LW) (vw:Vw) (lf:List Nat) (zs:List Str) (nl xl:Addr) (xs:List Int) (n r c:Nat),vs=[.ref A.v,.ref nl,.ref xl]/\LWAt H A vw lf/\Clean vw lf zs/\NamesAt H A nl zs/\IntsAt H A xl xs 7/\EX vw n r c/\n<=36/\S2 A zs n r c H Q
def NG(K:W.Frag)(a:Ad):Sp:=λvs H Q _=>∃ (A:LW) (vw:Vw) (lf:List Nat) (zs:List Str) (k:Int) (xl:Addr) (xs:List Int) (n r c:Nat),vs=[.ref A.v,.int k,.ref xl]/\LWAt H A vw lf/\Clean vw lf zs/\IntsAt H A xl xs 7/\EX vw n r c/\c<=36/\S2 A zs n r c H Q
def NH(K:W.Frag)(a:Ad):Sp:=λvs H Q _=>∃ (s z nl:Addr) (ns:List Int) (zs:List Str) (n r c w:Nat),vs=[.ref s,.ref z,.ref nl]/\H s=some (.lst (ns.map V.int))/\ns.length<=63/\H z=some (.tup [.int n,.int r,.int c,.int w])/\1<=n/\n<=6/\1<=r/\r<=6/\1<=c/\c<=6/\1<=w/\w<=6/\H nl=some (.lst (zs.map V.str))/\zs.length=36/\zs.Nodup/\(∀ z∈zs,PyData.strOk z=true) ∧
 ∀ (A:LW) (vw:Vw) (lf:List Nat) (H':Hp),Same H H'->LWAt H' A vw lf->Clean vw lf zs->EX vw (n * w) (r * w) (c * w)->H A.v=none->(∀ x∈A.L,H x=none)->Q (.ref A.v) H'
def NI(K:W.Frag)(a:Ad):Sp:=λvs H Q _=>∃ (A:LW) (vw:Vw) (lf:List Nat) (zs:List Str),vs=[.ref A.v]/\LWAt H A vw lf/\Clean vw lf zs/\vw.pc.length<=36/\newF (G1 vw) H Q
def NJ(K:W.Frag)(a:Ad):Sp:=λvs H Q _=>∃ (A:LW) (vw:Vw) (lf:List Nat),vs=[.ref A.v]/\LWAt H A vw lf/\∀ (A':LW) (H':Hp),Same H H'->LWAt H' A' vw lf->H A'.v=none->(∀ x∈A'.L,H x=none)->Q (.ref A'.v) H'
def Dg(A:LW)(n r c:Nat)(H:Hp)(Q:VK):Prop:=(∀ H',SameBut (· ∈A.L) H H'->Q .non H')/\∀ (t:Addr) (f:List V) (vw':Vw) (lf:List Nat) (H':Hp),H' t=some (.tup f)->LWAt H' A vw' lf->faults vw'=[f]->EX vw' n r c->SameBut (· ∈A.L) H H'->Q (.ref t) H'
def K9(K:W.Frag)(a:Ad):Sp:=λvs H Q _=>∃ (A:LW) (vw:Vw) (lf:List Nat) (zs:List Str) (nl xl:Addr) (xs:List Int) (n r c:Nat),vs=[.ref A.v,.ref nl,.ref xl]/\LWAt H A vw lf/\Clean vw lf zs/\NamesAt H A nl zs/\IntsAt H A xl xs 3/\EX vw n r c/\n<=36/\1<=n/\1<=r/\1<=c/\Dg A n r c H Q
def EY(K:W.Frag)(a:Ad):Sp:=K9 K a
def NK(K:W.Frag)(a:Ad):Sp:=K9 K a
def NL(K:W.Frag)(a:Ad):Sp:=K9 K a
def NM(K:W.Frag)(a:Ad):Sp:=K9 K a
def NN(K:W.Frag)(a:Ad):Sp:=K9 K a
def LA(K:W.Frag)(a:Ad):Sp:=λvs H Q _=>∃ (gp cl:Addr) (A:LW) (vw:Vw) (lf:List Nat) (n r c w:Nat) (rows:List (List V)) (m:Nat),vs=[.ref gp,.ref A.v,.int w]/\EF K a/\PlankAt a H gp cl w rows m/\rows.length=n+r+c+r+c/\LWAt H A vw lf/\EX vw (n * w) (r * w) (c * w)/\1<=w/\w<=6/\n<=6/\r<=6/\c<=6/\cl∉A.L/\cl≠A.v ∧
 ∀ (rows':List (List V)) (H':Hp),PlankAt a H' gp cl w rows' (m+(n+r+c+r+c))->rows'.length=n+r+c+r+c->PlV H' rows' n r c w vw->SameBut (λx=>x=gp\/x=cl) H H'->Q .non H'
def DT(vw:Vw)(r:Nat):EN:=match AF vw.rc r with
 | none=>none
 | some c=>if led vw r=0 then none else some ((led vw r:Int),c.2)
def G3(vw:Vw)(r:Nat):Option Int:=match AF vw.rc r with
 | none=>if AF vw.rm r=some 1 then some 0 else AF vw.rm r
 | some _=>if led vw r=0 then some 0 else AF vw.rm r
def HU(vw:Vw)(p:Nat):Option Int:=if AF vw.pm p=some 1/\EH vw p=0 then some 0 else AF vw.pm p
def mended(vw:Vw):Vw:=⟨vw.nm,(List.range vw.rc.length).map (DT vw),vw.pc,(List.range vw.rc.length).map (G3 vw),(List.range vw.pc.length).map (HU vw)⟩
inductive Cel where
 | nm (c:GI)
 | rc (c:EN)
 | pc (c:Option Str)
 | mk (c:Option Int)
deriving DecidableEq
def CelV(H:Hp)(v:V):Cel->Prop
 | .nm c=>NmV H v c
 | .rc c=>RcV H v c
 | .pc c=>PcV H v c
 | .mk c=>MkV H v c
def Cel.kind:Cel->Nat
 | .nm _=>0
 | .rc _=>1
 | .pc _=>2
 | .mk _=>3
def Cel.ok:Cel->Prop
 | .nm (some c)=>PyData.strOk c.1=true
 | .pc (some s)=>PyData.strOk s=true
 | _=>True
def D5(vw:Vw):List Cel:=vw.nm.map .nm++vw.rc.map .rc++vw.pc.map .pc++vw.rm.map .mk++vw.pm.map .mk
def CW(w:Nat)(cs:List Cel)(b:Nat):List Cel:=(cs.drop (b * w)).take w
def LB(w n:Nat)(cs cs':List Cel):Nat:=((List.range n).filter λb=> !decide (CW w cs b=CW w cs' b)).length
inductive Lv where
 | many (r:Nat)
 | leftR (r:Nat)
 | leftP (p:Nat)
 | marked (r:Nat)
def D9(vw:Vw):List Lv:=((List.range vw.rc.length).filter (D4 vw)).map .many++((List.range vw.rc.length).filter λr=>(AF vw.rc r).isSome && decide (led vw r=0)).map .leftR++((List.range vw.pc.length).filter λp=>decide (AF vw.pm p=some 1) && decide (EH vw p=0)).map .leftP++((List.range vw.rc.length).filter λr=>decide (AF vw.rm r=some 1) && (AF vw.rc r).isNone).map .marked
def cA(vw:Vw):Lv->List V
 | .many r=>[.str "many",.int r,.int (led vw r)]
 | .leftR r=>[.str "left",.str "record",.int r]
 | .leftP p=>[.str "left",.str "piece",.int p]
 | .marked r=>[.str "marked",.int r]
def EA(vw:Vw)(n r c w:Nat):Lv->List (Nat × Cel)
 | .many k=>[(n * w+k,.rc (DT vw k))]
 | .leftR k=>[(n * w+k,.rc none),((n+r+c) * w+k,.mk (some 0))]
 | .leftP k=>[((n+r+c+r) * w+k,.mk (some 0))]
 | .marked k=>[((n+r+c) * w+k,.mk (some 0))]
def pk(w f:Nat):List AX:=[.inl ((f / w:Nat):Int),.inl ((f % w:Nat):Int)]
structure Site(K:W.Frag)(a:Ad)(H:Hp)(ly gp cl:Addr)(n r c w:Nat)(rows:List (List V))(m:Nat)(vw:Vw):Prop where
 tv:TV K a
 tl:EG K a
 tp:EF K a
 la:LayAt a H ly n r c w
 pl:PlankAt a H gp cl w rows m
 rl:rows.length=n+r+c+r+c
 pv:PlV H rows n r c w vw
 w1:1<=w
 w6:w<=6
 n6:n<=6
 r6:r<=6
 c6:c<=6
def NO(K:W.Frag)(a:Ad):Sp:=λvs H Q _=>∃ (ly gp cl fd:Addr) (n r c w:Nat) (rows:List (List V)) (m:Nat) (vw:Vw) (lv:Lv),vs=[.ref ly,.ref gp,.ref fd]/\Site K a H ly gp cl n r c w rows m vw/\lv∈D9 vw/\H fd=some (.tup (cA vw lv)) ∧
 ∀ (dl:Addr) (more:List (List AX × V)) (H':Hp),H dl=none->Same H H'->H' dl=some (.dT more)->Paired (λ(kv:List AX × V) (fx:Nat × Cel)=>kv.1=pk w fx.1/\CelV H' kv.2 fx.2) more (EA vw n r c w lv)->MQ more->Q (.ref dl) H'
def NP(K:W.Frag)(a:Ad):Sp:=λvs H Q _=>∃ (gp cl dl:Addr) (w:Nat) (rows:List (List V)) (m:Nat) (kvs:List (List AX × V)) (cs cs':List Cel),vs=[.ref gp,.ref dl]/\EF K a/\PlankAt a H gp cl w rows m/\rows.length<=30/\1<=w/\w<=6/\H dl=some (.dT kvs)/\Paired (CelV H) rows.flatten cs/\cs'.map Cel.kind=cs.map Cel.kind/\(∀ c∈cs,c.ok)/\(∀ c∈cs',c.ok) ∧
 (∀ (f:Nat) (c c':Cel),cs[f]? =some c->cs'[f]? =some c'->(B8 kvs (pk w f)=none/\c'=c)\/∃ v,B8 kvs (pk w f)=some v/\CelV H v c') ∧
 ∀ (rows':List (List V)) (H':Hp),PlankAt a H' gp cl w rows' (m+LB w rows.length cs cs')->rows'.length=rows.length->Paired (CelV H') rows'.flatten cs'->SameBut (λx=>x=gp\/x=cl) H H'->Q .non H'
def cB(K:W.Frag)(a:Ad):Sp:=λvs H Q _=>∃ (ly gp cl:Addr) (n r c w:Nat) (rows:List (List V)) (m:Nat) (vw:Vw),vs=[.ref ly,.ref gp]/\Site K a H ly gp cl n r c w rows m vw/\faults vw=[] ∧
 ∀ (fo:Addr) (rows':List (List V)) (H':Hp),H fo=none->FindsL H' fo (G1 vw)->PlankAt a H' gp cl w rows' (m+LB w rows.length (D5 vw) (D5 (mended vw)))->rows'.length=n+r+c+r+c->PlV H' rows' n r c w (mended vw)->SameBut (λx=>x=gp\/x=cl) H H'->Q (.ref fo) H'
structure ziz(H:Hp)(R:Addr)(ra:List Addr)(w:Nat)(cs:List Cel)(M:Nat):Prop where
 e:H R=some (.lst (ra.map V.ref))
 p:Paired (λl b=>∃ xs,H l=some (.lst xs)/\Paired (CelV H) xs (CW w cs b)) ra (List.range M)
def J0(K:W.Frag)(a:Ad):Sp:=λvs H Q E=>cB K a vs H Q E\/∃ (ly gp cl:Addr) (n r c w:Nat) (rows:List (List V)) (m:Nat) (vw:Vw),vs=[.ref ly,.ref gp]/\Site K a H ly gp cl n r c w rows m vw/\faults vw≠[]/\∀ H',Same H H'->E (.ref (a "NotSound")) none H'
structure S3(K:W.Frag)(a:Ad):Prop where
 hit:W.exmOne K (.ref (a "NotSound")) (.ref (a "HoldError"))=some true
 ec:MN K (a "NotSound")
 i1:W.kitOne K (.ref (a "NotSound")) (.ref (a "NotSound"))=some true
 iv:W.kitOne K (.ref (a "NotSound")) (.type "ValueError")=some true
 no:W.kitAny K (.ref (a "NotSound")) [.ref (a "NoBlock"),.ref (a "NoChange"),.ref (a "NoName"),.ref (a "NoPiece"),.ref (a "NoRoom"),.ref (a "NoRow"),.ref (a "Twice")]=some false
def LC(K:W.Frag)(a:Ad):Sp:=λvs H Q _=>∃ (ly gp cl:Addr) (n r c w:Nat) (rows:List (List V)) (m:Nat) (vw:Vw),vs=[.ref ly,.ref gp]/\S3 K a/\Site K a H ly gp cl n r c w rows m vw/\faults vw≠[]/\∀ H',Same H H'->Q (.bl true) H'
def S5(K:W.Frag)(a:Ad):Sp:=λvs H Q _=>∃ (s:Addr) (ns:List Int),vs=[.ref s]/\TV K a/\EG K a/\EF K a/\S3 K a/\SqL K H s (ns.map V.int)/\ns.length<=63/\∀ H',Q (.bl true) H'
end L2
namespace L2
abbrev FK:=W.Frag
abbrev XE:=St->XK
abbrev RT:=FK->Ad->XE->XE->TS
theorem A3{f g:RT}(h:∀ K a E E1,f K a E E1=g K a E E1){K a E E1 D σ H}:f K a E E1 D σ H=g K a E E1 D σ H:=by rw[h]
section
variable{K:FK}{a:Ad}{n:Nat}{E E1:XE}{D:Ends}{σ:St}{H:Hp}
def cC:RT:=λK a E E1=>(BB (BN (GH K (AD (BW K (AA 0) "record_values") AG)) (E4 K 2 (DG (AJ 0) (DG (AJ 1) E3))) (A4 (AC GD (AC (AI K) (BW K (AA 2) "leads") (AA 0)) (tC (.int 0)))) (AA 1) 2 [0]))
theorem Dh:type_of%(@A3 _ _ cC.eq_1):=rfl
def S6(K:FK)(a:Ad)(E:XE):TS:=(cC K a E E)
def cD:RT:=λK a E E1=>(BB (BN (GH K (AD (BW K (AA 0) "record_values") AG)) (E4 K 2 (DG (AJ 0) (DG (AJ 1) E3))) (A4 (AC GE (AA 1) (tC .non))) (AA 0) 2 []))
theorem Dj:type_of%(@A3 _ _ cD.eq_1):=rfl
def S7(K:FK)(a:Ad)(E:XE):TS:=(cD K a E E)
def cE:RT:=λK a E E1=>(BB (BN (GH K (AD (BW K (AA 0) "namings") AG)) (E4 K 2 (DG (AJ 0) (DG (AJ 1) E3))) (A4 (AC GD (AA 1) (tC (.int 0)))) (AA 0) 2 []))
theorem Dk:type_of%(@A3 _ _ cE.eq_1):=rfl
def S8(K:FK)(a:Ad)(E:XE):TS:=(cE K a E E)
def cF:RT:=λK a E E1=>(BB (AC (AI K) (AC (AI K) (BW K (AA 0) "record_values") (AA 1)) (tC (.int 0))))
theorem Dl:type_of%(@A3 _ _ cF.eq_1):=rfl
def S9(K:FK)(a:Ad)(E:XE):TS:=(cF K a E E)
def cG:RT:=λK a E E1=>(AR (CI AG) (AJ 1))
theorem Dm:type_of%(@A3 _ _ cG.eq_1):=rfl
def cH:RT:=λK a E E1=>(AR (CI AG) (AJ 2))
theorem Dp:type_of%(@A3 _ _ cH.eq_1):=rfl
def cI:RT:=λK a E E1=>(AR RX (AJ 3))
theorem Dq:type_of%(@A3 _ _ cI.eq_1):=rfl
def cJ:RT:=λK a E E1=>(C0 (EV K "list" IJ (AA 1) (AD (B4 (AD (tC (.str "lost")) (AD (AA 4) AG))) AG)))
theorem Dv:type_of%(@A3 _ _ cJ.eq_1):=rfl
def cK:RT:=λK a E E1=>(B0 (A4 (AC FT (AC (AI K) (BW K (AA 0) "record_values") (AC (AI K) (AA 5) (tC (.int 1)))) (tC .non))) (cJ K a E E) CD)
theorem Dw:type_of%(@A3 _ _ cK.eq_1):=rfl
def cL:RT:=λK a E E1=>(C0 (EV K "list" IJ (AA 2) (AD (B4 (AD (tC (.str "twice")) (AD (AA 4) AG))) AG)))
theorem Dx:type_of%(@A3 _ _ cL.eq_1):=rfl
def TB:RT:=λK a E E1=>(B0 (tB (RV (AC (AI K) (AA 5) (tC (.int 0))) (AA 3))) (cL K a E E) CD)
theorem Dy:type_of%(@A3 _ _ TB.eq_1):=rfl
def P7:RT:=λK a E E1=>(RW (AA 3) (AC (AI K) (AA 5) (tC (.int 0))) (tC (.bl true)))
theorem Dz:type_of%(@A3 _ _ P7.eq_1):=rfl
def cM:RT:=λK a E E1=>(B0 (A4 (AC GE (AA 5) (tC .non))) (AK (cK K a E E) (AK (TB K a E E) (P7 K a E E))) CD)
theorem Eb:type_of%(@A3 _ _ cM.eq_1):=rfl
def cN:RT:=λK a E E1=>(DV (GH K (AD (BW K (AA 0) "name_values") AG)) (E4 K 2 (DG (AJ 4) (DG (AJ 5) E3))) (cM K a E E))
theorem Ec:type_of%(@A3 _ _ cN.eq_1):=rfl
def P8:RT:=λK a E E1=>(BB (AC (BE K) (AA 1) (AA 2)))
theorem Ed:type_of%(@A3 _ _ P8.eq_1):=rfl
def TC(K:FK)(a:Ad)(E:XE):TS:=(AK (cG K a E E) (AK (cH K a E E) (AK (cI K a E E) (AK (cN K a E E) (P8 K a E E)))))
def cO:RT:=λK a E E1=>(AR (BN (GH K (AD (BW K (AA 0) "piece_marks") AG)) (E4 K 2 (DG (AJ 0) (DG (AJ 1) E3))) (A4 (AC (BL K) (AA 1) (tC (.int 1)))) (AA 0) 2 []) (AJ 1))
theorem Eg:type_of%(@A3 _ _ cO.eq_1):=rfl
def cP:RT:=λK a E E1=>(BB (BN (DE K (AA 1)) (AJ 0) (A4 (AC (BL K) (AC (AI K) (BW K (AA 1) "reached") (AA 0)) (tC (.int 0)))) (B4 (AD (tC (.str "left")) (AD (tC (.str "piece")) (AD (AA 0) AG)))) 1 [0]))
theorem Eh:type_of%(@A3 _ _ cP.eq_1):=rfl
def TD(K:FK)(a:Ad)(E:XE):TS:=(AK (cO K a E E) (cP K a E E))
def cQ:RT:=λK a E E1=>(AR (BN (GH K (AD (BW K (AA 0) "record_marks") AG)) (E4 K 2 (DG (AJ 0) (DG (AJ 1) E3))) (A4 (AC (BL K) (AA 1) (tC (.int 1)))) (AA 0) 2 []) (AJ 1))
theorem Ej:type_of%(@A3 _ _ cQ.eq_1):=rfl
def cR:RT:=λK a E E1=>(BB (BN (DE K (AA 1)) (AJ 0) (A4 (AC FT (AC (AI K) (BW K (AA 1) "record_values") (AA 0)) (tC .non))) (B4 (AD (tC (.str "marked")) (AD (AA 0) AG))) 1 [0]))
theorem Ek:type_of%(@A3 _ _ cR.eq_1):=rfl
def TF(K:FK)(a:Ad)(E:XE):TS:=(AK (cQ K a E E) (cR K a E E))
def cS:RT:=λK a E E1=>(AR (BN (CU (AD (AA 0) AG)) (AJ 0) CZ (tC (.int 0)) 1 []) (AJ 2))
theorem El:type_of%(@A3 _ _ cS.eq_1):=rfl
def cT:RT:=λK a E E1=>(SS K (AA 2) (AA 3) (tC (.int 1)) MC)
theorem Em:type_of%(@A3 _ _ cT.eq_1):=rfl
def cU:RT:=λK a E E1=>(DV (DE K (AA 1)) (AJ 3) (cT K a E E))
theorem Ep:type_of%(@A3 _ _ cU.eq_1):=rfl
def cV:RT:=λK a E E1=>(BB (AA 2))
theorem Ev:type_of%(@A3 _ _ cV.eq_1):=rfl
def TJ(K:FK)(a:Ad)(E:XE):TS:=(AK (cS K a E E) (AK (cU K a E E) (cV K a E E)))
def cW:RT:=λK a E E1=>(AR (CI AG) (AJ 1))
theorem Ew:type_of%(@A3 _ _ cW.eq_1):=rfl
def cX:RT:=λK a E E1=>(C0 (EV K "list" (bU K) (AA 1) (AD (AC (AI K) (AA 2) (tC (.int 1))) AG)))
theorem Ex:type_of%(@A3 _ _ cX.eq_1):=rfl
def cY:RT:=λK a E E1=>(B0 (A4 (AC GE (AA 2) (tC .non))) (cX K a E E) CD)
theorem Ey:type_of%(@A3 _ _ cY.eq_1):=rfl
def cZ:RT:=λK a E E1=>(DV (DE K (AA 0)) (AJ 2) (cY K a E E))
theorem Ez:type_of%(@A3 _ _ cZ.eq_1):=rfl
def c5:RT:=λK a E E1=>(BB (AA 1))
theorem Fb:type_of%(@A3 _ _ c5.eq_1):=rfl
def TK(K:FK)(a:Ad)(E:XE):TS:=(AK (cW K a E E) (AK (cZ K a E E) (c5 K a E E)))
def c7:RT:=λK a E E1=>(EB K (AA 0) (BN (CU (AD (AA 1) AG)) (AJ 0) CZ (AC (DX K) (B4 (AD (tC .non) AG)) (AA 1)) 1 [2]) "contents")
theorem Fc:type_of%(@A3 _ _ c7.eq_1):=rfl
def c8:RT:=λK a E E1=>(EB K (AA 0) (AA 2) "width")
theorem Fd:type_of%(@A3 _ _ c8.eq_1):=rfl
def c9:RT:=λK a E E1=>(EB K (AA 0) (tC (.int 0)) "written")
theorem Fg:type_of%(@A3 _ _ c9.eq_1):=rfl
def TM(K:FK)(a:Ad)(E:XE):TS:=(AK (c7 K a E E) (AK (c8 K a E E) (c9 K a E E)))
def dA:RT:=λK a E E1=>(BB (BM (CC K) (AD (BW K (AA 0) "contents") AG)))
theorem Fh:type_of%(@A3 _ _ dA.eq_1):=rfl
def TN(K:FK)(a:Ad)(E:XE):TS:=(dA K a E E)
def dB:RT:=λK a E E1=>(BB (BW K (AA 0) "written"))
theorem Fj:type_of%(@A3 _ _ dB.eq_1):=rfl
def TQ(K:FK)(a:Ad)(E:XE):TS:=(dB K a E E)
def dC:RT:=λK a E E1=>(MJ (a "NoBlock") E (AD (tC (.str "there is no such block")) AG))
theorem Fk:type_of%(@A3 _ _ dC.eq_1):=rfl
def dD:RT:=λK a E E1=>(B0 (KO (A4 (RD MK IG (tC (.int 0)) (AA 1) (BM (CC K) (AD (BW K (AA 0) "contents") AG))))) (dC K a E E) CD)
theorem Fl:type_of%(@A3 _ _ dD.eq_1):=rfl
def TR(K:FK)(a:Ad)(E:XE):TS:=(dD K a E E)
def dE:RT:=λK a E E1=>(EB K (AA 0) (AA 1) "name_blocks")
theorem Fm:type_of%(@A3 _ _ dE.eq_1):=rfl
def dF:RT:=λK a E E1=>(EB K (AA 0) (AA 2) "record_blocks")
theorem Fp:type_of%(@A3 _ _ dF.eq_1):=rfl
def dG:RT:=λK a E E1=>(EB K (AA 0) (AA 3) "piece_blocks")
theorem Fq:type_of%(@A3 _ _ dG.eq_1):=rfl
def dH:RT:=λK a E E1=>(EB K (AA 0) (AA 4) "width")
theorem Fv:type_of%(@A3 _ _ dH.eq_1):=rfl
def TU(K:FK)(a:Ad)(E:XE):TS:=(AK (dE K a E E) (AK (dF K a E E) (AK (dG K a E E) (dH K a E E))))
def dI:RT:=λK a E E1=>(BB (B4 (AD (AC (DX K) (BW K (AA 0) "name_blocks") (BW K (AA 0) "width")) (AD (AC (DX K) (BW K (AA 0) "record_blocks") (BW K (AA 0) "width")) (AD (AC (DX K) (BW K (AA 0) "piece_blocks") (BW K (AA 0) "width")) AG)))))
theorem Fw:type_of%(@A3 _ _ dI.eq_1):=rfl
def TX(K:FK)(a:Ad)(E:XE):TS:=(dI K a E E)
def dJ:RT:=λK a E E1=>(BB (AC (BE K) (AC (BE K) (BW K (AA 0) "name_blocks") (BW K (AA 0) "record_blocks")) (BW K (AA 0) "piece_blocks")))
theorem Fx:type_of%(@A3 _ _ dJ.eq_1):=rfl
def TY(K:FK)(a:Ad)(E:XE):TS:=(dJ K a E E)
def dM:RT:=λK a E E1=>(BB (B4 (AD (AC (BE K) (AA 1) (AC E5 (AA 2) (BW K (AA 0) "width"))) (AD (AC BO (AA 2) (BW K (AA 0) "width")) AG))))
theorem Fy:type_of%(@A3 _ _ dM.eq_1):=rfl
def TZ(K:FK)(a:Ad)(E:XE):TS:=(dM K a E E)
def dN:RT:=λK a E E1=>(BB (AC (AI K) (AA 0) (AA 1)))
theorem Fz:type_of%(@A3 _ _ dN.eq_1):=rfl
def dO:RT:=λK a E E1=>(B0 (A4 (AC IG (AA 1) (BM (CC K) (AD (AA 0) AG)))) (dN K a E E) CD)
theorem Gb:type_of%(@A3 _ _ dO.eq_1):=rfl
def dP:RT:=λK a E E1=>(BB (tC (.int 0)))
theorem Gc:type_of%(@A3 _ _ dP.eq_1):=rfl
def T1(K:FK)(a:Ad)(E:XE):TS:=(AK (dO K a E E) (dP K a E E))
def dQ:RT:=λK a E E1=>(AR (AC (BE K) (AC BO (AA 0) (tC (.int 920419823))) (tC (.int 5))) (AJ 2))
theorem Gd:type_of%(@A3 _ _ dQ.eq_1):=rfl
def dR:RT:=λK a E E1=>(AR (AC (BE K) (AC BO (AC E5 (AA 0) (tC (.int 920419823))) (tC (.int 899809363))) (tC (.int 3))) (AJ 3))
theorem Gg:type_of%(@A3 _ _ dR.eq_1):=rfl
def dU:RT:=λK a E E1=>(AR (CI AG) (AJ 4))
theorem Gh:type_of%(@A3 _ _ dU.eq_1):=rfl
def dW:RT:=λK a E E1=>(AR (AC BO (AC (BE K) (AC (DX K) (AA 2) (tC (.int 70001))) (AA 3)) (tC (.int 920419823))) (AJ 2))
theorem Gj:type_of%(@A3 _ _ dW.eq_1):=rfl
def dX:RT:=λK a E E1=>(AR (AC BO (AC (BE K) (AC (BE K) (AC (DX K) (AA 3) (tC (.int 60013))) (AC (DX K) (AA 2) (AA 2))) (AA 5)) (tC (.int 899809363))) (AJ 3))
theorem Gk:type_of%(@A3 _ _ dX.eq_1):=rfl
def dY:RT:=λK a E E1=>(C0 (EV K "list" IJ (AA 4) (AD (AC (BE K) (AA 2) (AA 3)) AG)))
theorem Gm:type_of%(@A3 _ _ dY.eq_1):=rfl
def dZ:RT:=λK a E E1=>(DV (CU (AD (AA 1) AG)) (AJ 5) (AK (dW K a E E) (AK (dX K a E E) (dY K a E E))))
theorem Gp:type_of%(@A3 _ _ dZ.eq_1):=rfl
def d0:RT:=λK a E E1=>(BB (AA 4))
theorem Gq:type_of%(@A3 _ _ d0.eq_1):=rfl
def T2(K:FK)(a:Ad)(E:XE):TS:=(AK (dQ K a E E) (AK (dR K a E E) (AK (dU K a E E) (AK (dZ K a E E) (d0 K a E E)))))
def d6:RT:=λK a E E1=>(AR (AC (DX K) (CI (AD (tC (.int 0)) AG)) (BM (CC K) (AD (AC (AI K) (AA 0) (tC (.int 1))) AG))) (AJ 1))
theorem Gv:type_of%(@A3 _ _ d6.eq_1):=rfl
def d7:RT:=λK a E E1=>(AR (AC (BE K) (AC (AI K) (AA 1) (AC (AI K) (AA 2) (tC (.int 1)))) (tC (.int 1))) (DC (AA 1) (AC (AI K) (AA 2) (tC (.int 1))) CN))
theorem Gw:type_of%(@A3 _ _ d7.eq_1):=rfl
def d8:RT:=λK a E E1=>(B0 (A4 (AC GE (AA 2) (tC .non))) (d7 K a E E) CD)
theorem Gx:type_of%(@A3 _ _ d8.eq_1):=rfl
def d9:RT:=λK a E E1=>(DV (DE K (AC (AI K) (AA 0) (tC (.int 0)))) (AJ 2) (d8 K a E E))
theorem Gy:type_of%(@A3 _ _ d9.eq_1):=rfl
def eA:RT:=λK a E E1=>(BB (AA 1))
theorem Gz:type_of%(@A3 _ _ eA.eq_1):=rfl
def T3(K:FK)(a:Ad)(E:XE):TS:=(AK (d6 K a E E) (AK (d9 K a E E) (eA K a E E)))
def eB:RT:=λK a E E1=>(BB (BN (CU (AD (BM (CC K) (AD (AC (AI K) (AA 0) (tC (.int 0))) AG)) AG)) (AJ 0) (A4 (AC FT (AC (AI K) (AC (AI K) (AA 1) (tC (.int 0))) (AA 0)) (tC .non))) (AA 0) 1 [0]))
theorem Hb:type_of%(@A3 _ _ eB.eq_1):=rfl
def T4(K:FK)(a:Ad)(E:XE):TS:=(eB K a E E)
def eC:RT:=λK a E E1=>(BB (BN (CU (AD (BM (CC K) (AD (AC (AI K) (AA 0) (tC (.int 1))) AG)) AG)) (AJ 0) (FZ (A4 (AC FT (AC (AI K) (AC (AI K) (AA 1) (tC (.int 1))) (AA 0)) (tC .non))) (A4 (AC FT (AC (AI K) (AC (AI K) (AA 1) (tC (.int 3))) (AA 0)) (tC .non)))) (AA 0) 1 [0]))
theorem Hc:type_of%(@A3 _ _ eC.eq_1):=rfl
def T5(K:FK)(a:Ad)(E:XE):TS:=(eC K a E E)
def eD:RT:=λK a E E1=>(BB (BN (CU (AD (BM (CC K) (AD (AC (AI K) (AA 0) (tC (.int 2))) AG)) AG)) (AJ 0) (FZ (A4 (AC FT (AC (AI K) (AC (AI K) (AA 1) (tC (.int 2))) (AA 0)) (tC .non))) (A4 (AC FT (AC (AI K) (AC (AI K) (AA 1) (tC (.int 4))) (AA 0)) (tC .non)))) (AA 0) 1 [0]))
theorem Hd:type_of%(@A3 _ _ eD.eq_1):=rfl
def T6(K:FK)(a:Ad)(E:XE):TS:=(eD K a E E)
def eE:RT:=λK a E E1=>(BB (BN (DE K (AA 0)) (AJ 0) CZ (BM (JJ K) (AD (AA 0) AG)) 1 []))
theorem Hg:type_of%(@A3 _ _ eE.eq_1):=rfl
def T7(K:FK)(a:Ad)(E:XE):TS:=(eE K a E E)
def eF:RT:=λK a E E1=>(AR (BN (DE K (BR (a "View") "pieces_named" (IS K a) [] E (AA 0) AG)) (AJ 0) (A4 (AC GD (AC (AI K) (BW K (AA 1) "namings") (AA 0)) (tC (.int 1)))) (B4 (AD (tC (.str "shared")) (AD (AA 0) AG))) 1 [0]) (AJ 1))
theorem Hh:type_of%(@A3 _ _ eF.eq_1):=rfl
def eG:RT:=λK a E E1=>(AR (BN (DE K (BR (a "View") "pieces_named" (IS K a) [] E (AA 0) AG)) (AJ 0) (A4 (AC FT (AC (AI K) (BW K (AA 1) "piece_values") (AA 0)) (tC .non))) (B4 (AD (tC (.str "empty")) (AD (AA 0) AG))) 1 [0]) (AJ 2))
theorem Hj:type_of%(@A3 _ _ eG.eq_1):=rfl
def eI:RT:=λK a E E1=>(AR (BN (DE K (BR (a "View") "records_standing" (JT K a) [] E (AA 0) AG)) (AJ 0) (A4 (AC IG (BR (a "View") "count_of" (JU K a) [] (λ_=>E0) (AA 1) (AD (AA 0) AG)) (AC (AI K) (BW K (AA 1) "leads") (AA 0)))) (B4 (AD (tC (.str "few")) (AD (AA 0) AG))) 1 [0]) (AJ 3))
theorem Hk:type_of%(@A3 _ _ eI.eq_1):=rfl
def eJ:RT:=λK a E E1=>(BB (AC (BE K) (AC (BE K) (AA 1) (AA 2)) (AA 3)))
theorem Hl:type_of%(@A3 _ _ eJ.eq_1):=rfl
def T8(K:FK)(a:Ad)(E:XE):TS:=(AK (eF K a E E) (AK (eG K a E E) (AK (eI K a E E) (eJ K a E E))))
def eK:RT:=λK a E E1=>(AR (BN (GH K (AD (BW K (AA 0) "leads") AG)) (E4 K 2 (DG (AJ 0) (DG (AJ 1) E3))) (A4 (AC GD (AA 1) (tC (.int 0)))) (AA 0) 2 []) (AJ 1))
theorem Hm:type_of%(@A3 _ _ eK.eq_1):=rfl
def eL:RT:=λK a E E1=>(AR (BN (DE K (AA 1)) (AJ 0) (A4 (AC (CJ K) (AC (AI K) (BW K (AA 1) "record_marks") (AA 0)) (tC (.int 1)))) (B4 (AD (tC (.str "free")) (AD (tC (.str "record")) (AD (AA 0) AG)))) 1 [0]) (AJ 2))
theorem Hq:type_of%(@A3 _ _ eL.eq_1):=rfl
def eM:RT:=λK a E E1=>(AR (BN (DE K (BR (a "View") "pieces_named" (IS K a) [] E (AA 0) AG)) (AJ 0) (A4 (AC (CJ K) (AC (AI K) (BW K (AA 1) "piece_marks") (AA 0)) (tC (.int 1)))) (B4 (AD (tC (.str "free")) (AD (tC (.str "piece")) (AD (AA 0) AG)))) 1 [0]) (AJ 3))
theorem Hv:type_of%(@A3 _ _ eM.eq_1):=rfl
def eN:RT:=λK a E E1=>(BB (AC (BE K) (AA 2) (AA 3)))
theorem Hw:type_of%(@A3 _ _ eN.eq_1):=rfl
def T9(K:FK)(a:Ad)(E:XE):TS:=(AK (eK K a E E) (AK (eL K a E E) (AK (eM K a E E) (eN K a E E))))
def eO:RT:=λK a E E1=>(AR (CI AG) (AJ 1))
theorem Hx:type_of%(@A3 _ _ eO.eq_1):=rfl
def eP:RT:=λK a E E1=>(AR (CI AG) (AJ 2))
theorem Hy:type_of%(@A3 _ _ eP.eq_1):=rfl
def eQ:RT:=λK a E E1=>(AR (AC (AI K) (BW K (AA 0) "leads") (AA 3)) (AJ 4))
theorem Hz:type_of%(@A3 _ _ eQ.eq_1):=rfl
def eR:RT:=λK a E E1=>(C0 (EV K "list" IJ (AA 2) (AD (B4 (AD (tC (.str "left")) (AD (tC (.str "record")) (AD (AA 3) AG)))) AG)))
theorem Jb:type_of%(@A3 _ _ eR.eq_1):=rfl
def eS:RT:=λK a E E1=>(C0 (EV K "list" IJ (AA 1) (AD (B4 (AD (tC (.str "many")) (AD (AA 3) (AD (AA 4) AG)))) AG)))
theorem Jc:type_of%(@A3 _ _ eS.eq_1):=rfl
def eU:RT:=λK a E E1=>(B0 (A4 (AC GD (BR (a "View") "count_of" (JU K a) [] E (AA 0) (AD (AA 3) AG)) (AA 4))) (eS K a E E) CD)
theorem Jd:type_of%(@A3 _ _ eU.eq_1):=rfl
def eV:RT:=λK a E E1=>(B0 (A4 (AC (BL K) (AA 4) (tC (.int 0)))) (eR K a E E) (eU K a E E))
theorem Jg:type_of%(@A3 _ _ eV.eq_1):=rfl
def eW:RT:=λK a E E1=>(DV (DE K (BR (a "View") "records_standing" (JT K a) [] E (AA 0) AG)) (AJ 3) (AK (eQ K a E E) (eV K a E E)))
theorem Jh:type_of%(@A3 _ _ eW.eq_1):=rfl
def eX:RT:=λK a E E1=>(BB (AC (BE K) (AA 1) (AA 2)))
theorem Jj:type_of%(@A3 _ _ eX.eq_1):=rfl
def UA(K:FK)(a:Ad)(E:XE):TS:=(AK (eO K a E E) (AK (eP K a E E) (AK (eW K a E E) (eX K a E E))))
def eY:RT:=λK a E E1=>(C0 (BR (a "Plank") "ask_for_block" (HP K a) [] E (AA 0) (AD (AA 1) AG)))
theorem Jk:type_of%(@A3 _ _ eY.eq_1):=rfl
def eZ:RT:=λK a E E1=>(BB (BM (JJ K) (AD (AC (AI K) (BW K (AA 0) "contents") (AA 1)) AG)))
theorem Jl:type_of%(@A3 _ _ eZ.eq_1):=rfl
def UB(K:FK)(a:Ad)(E:XE):TS:=(AK (eY K a E E) (eZ K a E E))
def fB:RT:=λK a E E1=>(C0 (BR (a "Plank") "ask_for_block" (HP K a) [] E (AA 0) (AD (AA 1) AG)))
theorem Jm:type_of%(@A3 _ _ fB.eq_1):=rfl
def fC:RT:=λK a E E1=>(MJ (a "NoBlock") E (AD (tC (.str "the list is not as long as a block")) AG))
theorem Jp:type_of%(@A3 _ _ fC.eq_1):=rfl
def fD:RT:=λK a E E1=>(B0 (A4 (AC (CJ K) (BM (CC K) (AD (AA 2) AG)) (BW K (AA 0) "width"))) (fC K a E E) CD)
theorem Jq:type_of%(@A3 _ _ fD.eq_1):=rfl
def fE:RT:=λK a E E1=>(AR (BM (MM K) (AD (AA 2) AG)) (DC (BW K (AA 0) "contents") (AA 1) CN))
theorem Jv:type_of%(@A3 _ _ fE.eq_1):=rfl
def fF:RT:=λK a E E1=>(RI K (AA 0) (tC (.int 1)) MC "written")
theorem Jw:type_of%(@A3 _ _ fF.eq_1):=rfl
def UC(K:FK)(a:Ad)(E:XE):TS:=(AK (fB K a E E) (AK (fD K a E E) (AK (fE K a E E) (fF K a E E))))
def fG:RT:=λK a E E1=>(BB (BR (a "Layout") "place_from" (E7 K a) [] E (AA 0) (AD (tC (.int 0)) (AD (AA 1) AG))))
theorem Jx:type_of%(@A3 _ _ fG.eq_1):=rfl
def UD(K:FK)(a:Ad)(E:XE):TS:=(fG K a E E)
def fH:RT:=λK a E E1=>(BB (BR (a "Layout") "place_from" (E7 K a) [] E (AA 0) (AD (BW K (AA 0) "name_blocks") (AD (AA 1) AG))))
theorem Jy:type_of%(@A3 _ _ fH.eq_1):=rfl
def UE(K:FK)(a:Ad)(E:XE):TS:=(fH K a E E)
def fI:RT:=λK a E E1=>(BB (BR (a "Layout") "place_from" (E7 K a) [] E (AA 0) (AD (AC (BE K) (BW K (AA 0) "name_blocks") (BW K (AA 0) "record_blocks")) (AD (AA 1) AG))))
theorem Jz:type_of%(@A3 _ _ fI.eq_1):=rfl
def UF(K:FK)(a:Ad)(E:XE):TS:=(fI K a E E)
def fJ:RT:=λK a E E1=>(BB (BR (a "Layout") "place_from" (E7 K a) [] E (AA 0) (AD (BR (a "Layout") "blocks_ahead_of_marks" (HQ K a) [] E (AA 0) AG) (AD (AA 1) AG))))
theorem Kb:type_of%(@A3 _ _ fJ.eq_1):=rfl
def UG(K:FK)(a:Ad)(E:XE):TS:=(fJ K a E E)
def fK:RT:=λK a E E1=>(BB (BR (a "Layout") "place_from" (E7 K a) [] E (AA 0) (AD (AC (BE K) (BR (a "Layout") "blocks_ahead_of_marks" (HQ K a) [] E (AA 0) AG) (BW K (AA 0) "record_blocks")) (AD (AA 1) AG))))
theorem Kc:type_of%(@A3 _ _ fK.eq_1):=rfl
def UH(K:FK)(a:Ad)(E:XE):TS:=(fK K a E E)
def fL:RT:=λK a E E1=>(BB (AC (BE K) (AC (BE K) (BR (a "Layout") "blocks_ahead_of_marks" (HQ K a) [] E (AA 0) AG) (BW K (AA 0) "record_blocks")) (BW K (AA 0) "piece_blocks")))
theorem Kd:type_of%(@A3 _ _ fL.eq_1):=rfl
def UI(K:FK)(a:Ad)(E:XE):TS:=(fL K a E E)
def fM:RT:=λK a E E1=>(AR (tC (.str "abcdefghijklmnopqrstuvwxyz")) (AJ 2))
theorem Kg:type_of%(@A3 _ _ fM.eq_1):=rfl
def fN:RT:=λK a E E1=>(AR (A8 (FA K a) [] E (AD (AC E5 (AA 0) (tC (.int 2))) (AD (tC (.int 12)) AG))) (AJ 3))
theorem Kh:type_of%(@A3 _ _ fN.eq_1):=rfl
def fO:RT:=λK a E E1=>(BB (BN (CU (AD (AA 1) AG)) (AJ 0) CZ (AC (DX K) (AC (AI K) (AA 1) (AC BO (AC (BE K) (AC (AI K) (AA 2) (tC (.int 0))) (AC E5 (AA 0) (tC (.int 8)))) (tC (.int 26)))) (AC (BE K) (tC (.int 1)) (AC BO (AA 0) (tC (.int 8))))) 1 [2,3]))
theorem Kj:type_of%(@A3 _ _ fO.eq_1):=rfl
def fP:RT:=λK a E E1=>(B0 (A4 (AC (BL K) (AC BO (AA 0) (tC (.int 2))) (tC (.int 1)))) (fO K a E E) CD)
theorem Kk:type_of%(@A3 _ _ fP.eq_1):=rfl
def fQ:RT:=λK a E E1=>(AR (AC (BE K) (tC (.int 2)) (AC BO (AC (AI K) (AA 3) (tC (.int 0))) (tC (.int 7)))) (AJ 4))
theorem Kl:type_of%(@A3 _ _ fQ.eq_1):=rfl
def fR:RT:=λK a E E1=>(AR (AC BO (AC (AI K) (AA 3) (tC (.int 1))) (AA 4)) (AJ 5))
theorem Km:type_of%(@A3 _ _ fR.eq_1):=rfl
def fS:RT:=λK a E E1=>(AR (AC BO (AC (BE K) (AC (BE K) (AA 5) (tC (.int 1))) (AC BO (AC (AI K) (AA 3) (tC (.int 2))) (AC ML (AA 4) (tC (.int 1))))) (AA 4)) (AJ 6))
theorem Kp:type_of%(@A3 _ _ fS.eq_1):=rfl
def fT:RT:=λK a E E1=>(AR (CI AG) (AJ 7))
theorem Kq:type_of%(@A3 _ _ fT.eq_1):=rfl
def fU:RT:=λK a E E1=>(AR (tC (.str "")) (AJ 9))
theorem Kv:type_of%(@A3 _ _ fU.eq_1):=rfl
def fV:RT:=λK a E E1=>(AR (AC (BE K) (AC (DX K) (AA 8) (BM (JK K) (AD (AC (BL K) (AA 10) (AA 5)) AG))) (AC (DX K) (AC E5 (AA 8) (tC (.int 26))) (BM (JK K) (AD (AC (BL K) (AA 10) (AA 6)) AG)))) (AJ 11))
theorem Kw:type_of%(@A3 _ _ fV.eq_1):=rfl
def fW:RT:=λK a E E1=>(AR (AC (BE K) (AA 9) (AC (AI K) (AA 2) (AC BO (AC (BE K) (AC (AI K) (AA 3) (AC (BE K) (tC (.int 3)) (AA 10))) (AA 11)) (tC (.int 26))))) (AJ 9))
theorem Kx:type_of%(@A3 _ _ fW.eq_1):=rfl
def fX:RT:=λK a E E1=>(DV (CU (AD (AA 4) AG)) (AJ 10) (AK (fV K a E E) (fW K a E E)))
theorem Ky:type_of%(@A3 _ _ fX.eq_1):=rfl
def fY:RT:=λK a E E1=>(C0 (EV K "list" IJ (AA 7) (AD (AA 9) AG)))
theorem Kz:type_of%(@A3 _ _ fY.eq_1):=rfl
def fZ:RT:=λK a E E1=>(DV (CU (AD (AA 1) AG)) (AJ 8) (AK (fU K a E E) (AK (fX K a E E) (fY K a E E))))
theorem Lb:type_of%(@A3 _ _ fZ.eq_1):=rfl
def f8:RT:=λK a E E1=>(BB (AA 7))
theorem Lc:type_of%(@A3 _ _ f8.eq_1):=rfl
def UJ(K:FK)(a:Ad)(E:XE):TS:=(AK (fM K a E E) (AK (fN K a E E) (AK (fP K a E E) (AK (fQ K a E E) (AK (fR K a E E) (AK (fS K a E E) (AK (fT K a E E) (AK (fZ K a E E) (f8 K a E E)))))))))
def f9:RT:=λK a E E1=>(AR (tC (.str " !\"#$&'()*+,-./0123456789:;<=>?@ABCDEFGHIJKLMNOPQRSTUVWXYZ[\\]^_`")) (AJ 1))
theorem Ld:type_of%(@A3 _ _ f9.eq_1):=rfl
def gA:RT:=λK a E E1=>(AR (AC (BE K) (AA 1) (tC (.str "abcdefghijklmnopqrstuvwxyz{|}~"))) (AJ 1))
theorem Lg:type_of%(@A3 _ _ gA.eq_1):=rfl
def gB:RT:=λK a E E1=>(AR (A8 (FA K a) [] E (AD (AA 0) (AD (tC (.int 3)) AG))) (AJ 2))
theorem Lh:type_of%(@A3 _ _ gB.eq_1):=rfl
def gC:RT:=λK a E E1=>(AR (AC (BE K) (tC (.int 1)) (AC BO (AC (AI K) (AA 2) (tC (.int 0))) (tC (.int 6)))) (AJ 3))
theorem Lj:type_of%(@A3 _ _ gC.eq_1):=rfl
def gD:RT:=λK a E E1=>(AR (tC (.int 40)) (AJ 3))
theorem Ll:type_of%(@A3 _ _ gD.eq_1):=rfl
def gE:RT:=λK a E E1=>(B0 (A4 (AC (BL K) (AC BO (AC E5 (AC (AI K) (AA 2) (tC (.int 0))) (tC (.int 6))) (tC (.int 8))) (tC (.int 0)))) (gD K a E E) CD)
theorem Lm:type_of%(@A3 _ _ gE.eq_1):=rfl
def UK:RT:=λK a E E1=>(BB (EV K "str" (bS K) (tC (.str "")) (AD (BN (CU (AD (AA 3) AG)) (AJ 0) CZ (AC (AI K) (AA 1) (AC BO (AC (BE K) (AC (AI K) (AA 2) (tC (.int 1))) (AC (DX K) (AA 0) (AC (AI K) (AA 2) (tC (.int 2))))) (tC (.int 94)))) 1 [1,2]) AG)))
theorem Lp:type_of%(@A3 _ _ UK.eq_1):=rfl
def UL(K:FK)(a:Ad)(E:XE):TS:=(AK (f9 K a E E) (AK (gA K a E E) (AK (gB K a E E) (AK (gC K a E E) (AK (gE K a E E) (UK K a E E))))))
def gF:RT:=λK a E E1=>(AR (A8 (FA K a) [] E (AD (AC E5 (AA 0) (tC (.int 48))) (AD (tC (.int 3)) AG))) (AJ 1))
theorem Lq:type_of%(@A3 _ _ gF.eq_1):=rfl
def gG:RT:=λK a E E1=>(AR (Q7 (A4 (AC (BL K) (AC BO (AC E5 (AA 0) (tC (.int 6))) (tC (.int 8))) (tC (.int 3)))) (tC (.int 6)) (tC (.int 3))) (AJ 2))
theorem Lw:type_of%(@A3 _ _ gG.eq_1):=rfl
def UM:RT:=λK a E E1=>(BB (B4 (AD (AC (BE K) (tC (.int 1)) (AC BO (AC (AI K) (AA 1) (tC (.int 0))) (AA 2))) (AD (AC (BE K) (tC (.int 1)) (AC BO (AC (AI K) (AA 1) (tC (.int 1))) (AA 2))) (AD (AC (BE K) (tC (.int 1)) (AC BO (AC (AI K) (AA 1) (tC (.int 2))) (AA 2))) (AD (AC (BE K) (tC (.int 1)) (AC BO (AA 0) (tC (.int 6)))) AG))))))
theorem Lx:type_of%(@A3 _ _ UM.eq_1):=rfl
def UN(K:FK)(a:Ad)(E:XE):TS:=(AK (gF K a E E) (AK (gG K a E E) (UM K a E E)))
def gH:RT:=λK a E E1=>(AR (A8 (FB K a) [] E (AD (AA 0) AG)) (AJ 4))
theorem Ly:type_of%(@A3 _ _ gH.eq_1):=rfl
def gI:RT:=λK a E E1=>(AR (AC (AI K) (AA 1) (AC ML (BM (CC K) (AD (AC (AI K) (AA 0) (tC (.int 0))) AG)) (BM (CC K) (AD (AA 4) AG)))) (AJ 5))
theorem Lz:type_of%(@A3 _ _ gI.eq_1):=rfl
def gJ:RT:=λK a E E1=>(AR (B4 (AD (AA 5) (AD (AA 2) AG))) (DC (AC (AI K) (AA 0) (tC (.int 0))) (AC (AI K) (AA 4) (AC BO (AA 3) (BM (CC K) (AD (AA 4) AG)))) CN))
theorem Mb:type_of%(@A3 _ _ gJ.eq_1):=rfl
def UO(K:FK)(a:Ad)(E:XE):TS:=(AK (gH K a E E) (AK (gI K a E E) (gJ K a E E)))
def gK:RT:=λK a E E1=>(AR (A8 (HS K a) [] E (AD (AA 0) AG)) (AJ 1))
theorem Mc:type_of%(@A3 _ _ gK.eq_1):=rfl
def gL:RT:=λK a E E1=>(AR (BN (CU (AD (BM (CC K) (AD (AA 1) AG)) AG)) (AJ 0) (A4 (AC GE (AC (AI K) (AC (AI K) (AA 1) (tC (.int 1))) (AA 0)) (tC .non))) (AA 0) 1 [0]) (AJ 2))
theorem Md:type_of%(@A3 _ _ gL.eq_1):=rfl
def gM:RT:=λK a E E1=>(AR (BN (DE K (AA 2)) (AJ 0) (FZ (A4 (AC GD (AC (AI K) (AA 1) (AA 0)) (tC (.int 0)))) (A4 (AC GD (AC (AI K) (AC (AI K) (AC (AI K) (AA 2) (tC (.int 1))) (AA 0)) (tC (.int 0))) (AC (AI K) (AA 1) (AA 0))))) (B4 (AD (tC (.str "many")) (AD (AA 0) (AD (AC (AI K) (AA 1) (AA 0)) AG)))) 1 [1,0]) (AJ 3))
theorem Mg:type_of%(@A3 _ _ gM.eq_1):=rfl
def gN:RT:=λK a E E1=>(AR (AC (BE K) (AA 3) (BN (DE K (AA 2)) (AJ 0) (A4 (AC (BL K) (AC (AI K) (AA 1) (AA 0)) (tC (.int 0)))) (B4 (AD (tC (.str "left")) (AD (tC (.str "record")) (AD (AA 0) AG)))) 1 [1])) (AJ 3))
theorem Mh:type_of%(@A3 _ _ gN.eq_1):=rfl
def gO:RT:=λK a E E1=>(AR (AC (BE K) (AA 3) (BN (DE K (BM (bT K) (AD (AC (AI K) (AA 0) (tC (.int 5))) AG))) (AJ 0) CZ (B4 (AD (tC (.str "left")) (AD (tC (.str "piece")) (AD (AA 0) AG)))) 1 [])) (AJ 3))
theorem Mj:type_of%(@A3 _ _ gO.eq_1):=rfl
def gP:RT:=λK a E E1=>(BB (AC (BE K) (AA 3) (BN (CU (AD (BM (CC K) (AD (AA 1) AG)) AG)) (AJ 0) (FZ (A4 (AC (BL K) (AC (AI K) (AC (AI K) (AA 1) (tC (.int 3))) (AA 0)) (tC (.int 1)))) (A4 (AC FT (AC (AI K) (AC (AI K) (AA 1) (tC (.int 1))) (AA 0)) (tC .non)))) (B4 (AD (tC (.str "marked")) (AD (AA 0) AG))) 1 [0])))
theorem Ml:type_of%(@A3 _ _ gP.eq_1):=rfl
def UP(K:FK)(a:Ad)(E:XE):TS:=(AK (gK K a E E) (AK (gL K a E E) (AK (gM K a E E) (AK (gN K a E E) (AK (gO K a E E) (gP K a E E))))))
def gQ:RT:=λK a E E1=>(AR (A8 (FB K a) [] E (AD (AA 0) AG)) (AJ 3))
theorem Mm:type_of%(@A3 _ _ gQ.eq_1):=rfl
def gR:RT:=λK a E E1=>(AR (BN (CU (AD (BM (CC K) (AD (AC (AI K) (AA 0) (tC (.int 1))) AG)) AG)) (AJ 0) (A4 (AC FT (AC (AI K) (AC (AI K) (AA 1) (tC (.int 1))) (AA 0)) (tC .non))) (AA 0) 1 [0]) (AJ 4))
theorem Mp:type_of%(@A3 _ _ gR.eq_1):=rfl
def gS:RT:=λK a E E1=>(BB (tC .non))
theorem gT:type_of%(@A3 _ _ gS.eq_1):=rfl
def gU:RT:=λK a E E1=>(B0 (JB (A4 (AC (BL K) (AA 3) (CI AG))) (A4 (AC (BL K) (AA 4) (CI AG)))) (gS K a E E) CD)
theorem Mq:type_of%(@A3 _ _ gU.eq_1):=rfl
def gW:RT:=λK a E E1=>(AR (AC (AI K) (AA 3) (AC BO (AC (AI K) (AA 2) (tC (.int 1))) (BM (CC K) (AD (AA 3) AG)))) (AJ 5))
theorem Mv:type_of%(@A3 _ _ gW.eq_1):=rfl
def gX:RT:=λK a E E1=>(AR (AC (AI K) (AA 4) (AC BO (AC (AI K) (AA 2) (tC (.int 2))) (BM (CC K) (AD (AA 4) AG)))) (AJ 6))
theorem Mw:type_of%(@A3 _ _ gX.eq_1):=rfl
def gY:RT:=λK a E E1=>(AR (B4 (AD (AC (AI K) (AA 1) (AC ML (BM (CC K) (AD (AC (AI K) (AA 0) (tC (.int 0))) AG)) (BM (CC K) (AD (AA 3) AG)))) (AD (AA 6) AG))) (DC (AC (AI K) (AA 0) (tC (.int 0))) (AA 5) CN))
theorem Mx:type_of%(@A3 _ _ gY.eq_1):=rfl
def gZ:RT:=λK a E E1=>(AR (tC (.int 1)) (DC (AC (AI K) (AA 0) (tC (.int 3))) (AA 6) CN))
theorem My:type_of%(@A3 _ _ gZ.eq_1):=rfl
def g6:RT:=λK a E E1=>(BB (B4 (AD (tC (.str "lost")) (AD (AA 5) AG))))
theorem Mz:type_of%(@A3 _ _ g6.eq_1):=rfl
def UQ(K:FK)(a:Ad)(E:XE):TS:=(AK (gQ K a E E) (AK (gR K a E E) (AK (gU K a E E) (AK (gW K a E E) (AK (gX K a E E) (AK (gY K a E E) (AK (gZ K a E E) (g6 K a E E))))))))
def g7:RT:=λK a E E1=>(BB (AC (BE K) (AC (BE K) (A8 (M0 K a) [] E (AD (AA 0) AG)) (A8 (M3 K a) [] E (AD (AA 0) AG))) (A8 (M4 K a) [] E (AD (AA 0) AG))))
theorem Nb:type_of%(@A3 _ _ g7.eq_1):=rfl
def UR(K:FK)(a:Ad)(E:XE):TS:=(g7 K a E E)
def g8:RT:=λK a E E1=>(BB (AC (BE K) (AC (BE K) (A8 (M5 K a) [] E (AD (AA 0) AG)) (A8 (M6 K a) [] E (AD (AA 0) AG))) (A8 (M7 K a) [] E (AD (AA 0) AG))))
theorem Nd:type_of%(@A3 _ _ g8.eq_1):=rfl
def US(K:FK)(a:Ad)(E:XE):TS:=(g8 K a E E)
def g9:RT:=λK a E E1=>(BB (BN (DE K (AA 1)) (E4 K 2 (DG (AJ 0) (DG (AJ 1) E3))) CZ (AC (AI K) (BR (a "Plank") "read" (E6 K a) [] (λ_=>E0) (AA 2) (AD (AA 0) AG)) (AA 1)) 2 [0]))
theorem Ng:type_of%(@A3 _ _ g9.eq_1):=rfl
def UT(K:FK)(a:Ad)(E:XE):TS:=(g9 K a E E)
def hE:RT:=λK a E E1=>(AR (BR (a "Layout") "record_at" (IP K a) [] E (AA 0) (AD (AC (AI K) (AA 2) (tC (.int 1))) AG)) (AJ 3))
theorem Nh:type_of%(@A3 _ _ hE.eq_1):=rfl
def hG:RT:=λK a E E1=>(BB (K2 [((AA 3),(B4 (AD (AC (AI K) (AA 2) (tC (.int 2))) (AD (AC (AI K) (AC (AI K) (BR (a "Plank") "read" (E6 K a) [] E (AA 1) (AD (AC (AI K) (AA 3) (tC (.int 0))) AG)) (AC (AI K) (AA 3) (tC (.int 1)))) (tC (.int 1))) AG))))]))
theorem Nj:type_of%(@A3 _ _ hG.eq_1):=rfl
def hI:RT:=λK a E E1=>(B0 (A4 (AC (BL K) (AC (AI K) (AA 2) (tC (.int 0))) (tC (.str "many")))) (AK (hE K a E E) (hG K a E E)) CD)
theorem P9:type_of%(@A3 _ _ hI.eq_1):=rfl
def hR:RT:=λK a E E1=>(BB (K2 [((BR (a "Layout") "record_mark" (IQ K a) [] E (AA 0) (AD (AC (AI K) (AA 2) (tC (.int 1))) AG)),(tC (.int 0)))]))
theorem Nk:type_of%(@A3 _ _ hR.eq_1):=rfl
def hU:RT:=λK a E E1=>(B0 (A4 (AC (BL K) (AC (AI K) (AA 2) (tC (.int 0))) (tC (.str "marked")))) (hR K a E E) CD)
theorem UU:type_of%(@A3 _ _ hU.eq_1):=rfl
def hV:RT:=λK a E E1=>(BB (K2 [((BR (a "Layout") "record_at" (IP K a) [] E (AA 0) (AD (AC (AI K) (AA 2) (tC (.int 2))) AG)),(tC .non)),((BR (a "Layout") "record_mark" (IQ K a) [] E (AA 0) (AD (AC (AI K) (AA 2) (tC (.int 2))) AG)),(tC (.int 0)))]))
theorem Nl:type_of%(@A3 _ _ hV.eq_1):=rfl
def hW:RT:=λK a E E1=>(B0 (A4 (AC (BL K) (AC (AI K) (AA 2) (tC (.int 1))) (tC (.str "record")))) (hV K a E E) CD)
theorem hX:type_of%(@A3 _ _ hW.eq_1):=rfl
def hZ:RT:=λK a E E1=>(BB (K2 [((BR (a "Layout") "piece_mark" (JO K a) [] E (AA 0) (AD (AC (AI K) (AA 2) (tC (.int 2))) AG)),(tC (.int 0)))]))
theorem Nm:type_of%(@A3 _ _ hZ.eq_1):=rfl
def LD(K:FK)(a:Ad)(E:XE):TS:=(AK (hI K a E E) (AK (hU K a E E) (AK (hW K a E E) (hZ K a E E))))
def h9:RT:=λK a E E1=>(AR (BR (a "Plank") "read" (E6 K a) [] E (AA 0) (AD (AA 2) AG)) (AJ 3))
theorem Np:type_of%(@A3 _ _ h9.eq_1):=rfl
def iA:RT:=λK a E E1=>(AR (BN (GH K (AD (AA 3) AG)) (E4 K 2 (DG (AJ 0) (DG (AJ 1) E3))) CZ (RZ (AA 2) (B4 (AD (AA 3) (AD (AA 0) AG))) (AA 1)) 2 [1,2]) (AJ 4))
theorem Nq:type_of%(@A3 _ _ iA.eq_1):=rfl
def iB:RT:=λK a E E1=>(C0 (BR (a "Plank") "write" (JN K a) [] E (AA 0) (AD (AA 2) (AD (AA 4) AG))))
theorem Nv:type_of%(@A3 _ _ iB.eq_1):=rfl
def iC:RT:=λK a E E1=>(B0 (A4 (AC (CJ K) (AA 4) (AA 3))) (iB K a E E) CD)
theorem Nx:type_of%(@A3 _ _ iC.eq_1):=rfl
def iD:RT:=λK a E E1=>(DV (CU (AD (BR (a "Plank") "blocks" (IL K a) [] E (AA 0) AG) AG)) (AJ 2) (AK (h9 K a E E) (AK (iA K a E E) (iC K a E E))))
theorem Ny:type_of%(@A3 _ _ iD.eq_1):=rfl
def UV(K:FK)(a:Ad)(E:XE):TS:=(iD K a E E)
def iE:RT:=λK a E E1=>(BB (JF (a "Plank") (MS K a) [] E (AD (BR (a "Layout") "blocks" (MW K a) [] E (AA 0) AG) (AD (BW K (AA 0) "width") AG))))
theorem Nz:type_of%(@A3 _ _ iE.eq_1):=rfl
def UW(K:FK)(a:Ad)(E:XE):TS:=(iE K a E E)
def iF:RT:=λK a E E1=>(AR (CI AG) (AJ 3))
theorem Pb:type_of%(@A3 _ _ iF.eq_1):=rfl
def iG:RT:=λK a E E1=>(AR (A8 (JY K a) [] E (AD (AA 0) AG)) (AJ 5))
theorem Pc:type_of%(@A3 _ _ iG.eq_1):=rfl
def iH:RT:=λK a E E1=>(AR (AC (AI K) (AA 5) (AC BO (AC (AI K) (AA 1) (AA 4)) (BM (CC K) (AD (AA 5) AG)))) (AJ 6))
theorem Pd:type_of%(@A3 _ _ iH.eq_1):=rfl
def iI:RT:=λK a E E1=>(AR (A8 (JW K a) [] E (AD (AC E5 (AC (AI K) (AA 1) (AA 4)) (tC (.int 7))) AG)) (DC (AC (AI K) (AA 0) (tC (.int 2))) (AA 6) CN))
theorem Pg:type_of%(@A3 _ _ iI.eq_1):=rfl
def iJ:RT:=λK a E E1=>(AR (tC (.int 1)) (DC (AC (AI K) (AA 0) (tC (.int 4))) (AA 6) CN))
theorem Ph:type_of%(@A3 _ _ iJ.eq_1):=rfl
def iK:RT:=λK a E E1=>(C0 (EV K "list" IJ (AA 3) (AD (AA 6) AG)))
theorem Pj:type_of%(@A3 _ _ iK.eq_1):=rfl
def iL:RT:=λK a E E1=>(B0 (A4 (AC (CJ K) (AA 5) (CI AG))) (AK (iH K a E E) (AK (iI K a E E) (AK (iJ K a E E) (iK K a E E)))) CD)
theorem Pk:type_of%(@A3 _ _ iL.eq_1):=rfl
def iM:RT:=λK a E E1=>(DV (CU (AD (AA 2) AG)) (AJ 4) (AK (iG K a E E) (iL K a E E)))
theorem Pl:type_of%(@A3 _ _ iM.eq_1):=rfl
def iN:RT:=λK a E E1=>(BB (BM (MM K) (AD (AA 3) AG)))
theorem Pm:type_of%(@A3 _ _ iN.eq_1):=rfl
def UX(K:FK)(a:Ad)(E:XE):TS:=(AK (iF K a E E) (AK (iM K a E E) (iN K a E E)))
def iO:RT:=λK a E E1=>(AR (A8 (HS K a) [] E (AD (AA 0) AG)) (AJ 3))
theorem Pp:type_of%(@A3 _ _ iO.eq_1):=rfl
def iP:RT:=λK a E E1=>(AR (BN (CU (AD (BM (CC K) (AD (AA 3) AG)) AG)) (AJ 0) (A4 (AC GD (AC (AI K) (AA 1) (AA 0)) (tC (.int 0)))) (AA 0) 1 [3]) (AJ 4))
theorem Pq:type_of%(@A3 _ _ iP.eq_1):=rfl
def iQ:RT:=λK a E E1=>(AR (AC (AI K) (AA 4) (AC BO (AC (AI K) (AA 2) (tC (.int 0))) (BM (CC K) (AD (AA 4) AG)))) (AJ 5))
theorem Pw:type_of%(@A3 _ _ iQ.eq_1):=rfl
def iR:RT:=λK a E E1=>(AR (B4 (AD (AC (BE K) (AC (AI K) (AC (AI K) (AC (AI K) (AA 0) (tC (.int 1))) (AA 5)) (tC (.int 0))) (tC (.int 1))) (AD (AC (AI K) (AC (AI K) (AC (AI K) (AA 0) (tC (.int 1))) (AA 5)) (tC (.int 1))) AG))) (DC (AC (AI K) (AA 0) (tC (.int 1))) (AA 5) CN))
theorem Px:type_of%(@A3 _ _ iR.eq_1):=rfl
def iS:RT:=λK a E E1=>(C0 (A8 (JZ K a) [] E (AD (AA 0) (AD (AA 1) (AD (AA 5) (AD (AC (AI K) (AA 2) (tC (.int 1))) AG))))))
theorem Py:type_of%(@A3 _ _ iS.eq_1):=rfl
def iT:RT:=λK a E E1=>(B0 (FZ (A4 (AC (CJ K) (AA 4) (CI AG))) (A4 (AC (CJ K) (A8 (FB K a) [] E (AD (AA 0) AG)) (CI AG)))) (AK (iQ K a E E) (AK (iR K a E E) (iS K a E E))) CD)
theorem Pz:type_of%(@A3 _ _ iT.eq_1):=rfl
def UY(K:FK)(a:Ad)(E:XE):TS:=(AK (iO K a E E) (AK (iP K a E E) (iT K a E E)))
def iU:RT:=λK a E E1=>(AR (A8 (JX K a) [] E (AD (AA 0) AG)) (AJ 3))
theorem Qb:type_of%(@A3 _ _ iU.eq_1):=rfl
def iV:RT:=λK a E E1=>(AR (A8 (JY K a) [] E (AD (AA 0) AG)) (AJ 4))
theorem Qc:type_of%(@A3 _ _ iV.eq_1):=rfl
def iW:RT:=λK a E E1=>(AR (tC (.int 1)) (DC (AC (AI K) (AA 0) (tC (.int 3))) (AC (AI K) (AA 3) (AC BO (AC (AI K) (AA 2) (tC (.int 0))) (BM (CC K) (AD (AA 3) AG)))) CN))
theorem Qd:type_of%(@A3 _ _ iW.eq_1):=rfl
def iX:RT:=λK a E E1=>(B0 (FZ (A4 (AC (BL K) (AA 1) (tC (.int 6)))) (A4 (AC (CJ K) (AA 3) (CI AG)))) (iW K a E E) CD)
theorem Qg:type_of%(@A3 _ _ iX.eq_1):=rfl
def iY:RT:=λK a E E1=>(AR (AC (AI K) (AA 4) (AC BO (AC (AI K) (AA 2) (tC (.int 0))) (BM (CC K) (AD (AA 4) AG)))) (AJ 5))
theorem Qh:type_of%(@A3 _ _ iY.eq_1):=rfl
def iZ:RT:=λK a E E1=>(AR (tC (.int 1)) (DC (AC (AI K) (AA 0) (tC (.int 4))) (AA 5) CN))
theorem Qj:type_of%(@A3 _ _ iZ.eq_1):=rfl
def i0:RT:=λK a E E1=>(C0 (EV K "list" IJ (AC (AI K) (AA 0) (tC (.int 5))) (AD (AA 5) AG)))
theorem Qk:type_of%(@A3 _ _ i0.eq_1):=rfl
def UZ:RT:=λK a E E1=>(B0 (FZ (A4 (AC (BL K) (AA 1) (tC (.int 5)))) (A4 (AC (CJ K) (AA 4) (CI AG)))) (AK (iY K a E E) (AK (iZ K a E E) (i0 K a E E))) CD)
theorem i3:type_of%(@A3 _ _ UZ.eq_1):=rfl
def i4:RT:=λK a E E1=>(AR (AC (AI K) (AA 4) (AC BO (AC (AI K) (AA 2) (tC (.int 0))) (BM (CC K) (AD (AA 4) AG)))) (AJ 5))
theorem Ql:type_of%(@A3 _ _ i4.eq_1):=rfl
def i5:RT:=λK a E E1=>(AR (A8 (JW K a) [] E (AD (AC (AI K) (AA 2) (tC (.int 1))) AG)) (DC (AC (AI K) (AA 0) (tC (.int 2))) (AA 5) CN))
theorem Qm:type_of%(@A3 _ _ i5.eq_1):=rfl
def i6:RT:=λK a E E1=>(AR (AC (AI K) (CI (AD (tC (.int 0)) (AD (tC .non) AG))) (AC BO (AC (AI K) (AA 2) (tC (.int 2))) (tC (.int 2)))) (DC (AC (AI K) (AA 0) (tC (.int 4))) (AA 5) CN))
theorem Qp:type_of%(@A3 _ _ i6.eq_1):=rfl
def NQ:RT:=λK a E E1=>(B0 (FZ (A4 (AC (BL K) (AA 1) (tC (.int 7)))) (A4 (AC (CJ K) (AA 4) (CI AG)))) (AK (i4 K a E E) (AK (i5 K a E E) (i6 K a E E))) CD)
theorem i7:type_of%(@A3 _ _ NQ.eq_1):=rfl
def U0(K:FK)(a:Ad)(E:XE):TS:=(AK (iU K a E E) (AK (iV K a E E) (AK (iX K a E E) (AK (UZ K a E E) (NQ K a E E)))))
def i8:RT:=λK a E E1=>(AR (A8 (FB K a) [] E (AD (AA 0) AG)) (AJ 3))
theorem Qq:type_of%(@A3 _ _ i8.eq_1):=rfl
def i9:RT:=λK a E E1=>(AR (BN (CU (AD (BM (CC K) (AD (AC (AI K) (AA 0) (tC (.int 0))) AG)) AG)) (AJ 0) (A4 (AC GE (AC (AI K) (AC (AI K) (AA 1) (tC (.int 0))) (AA 0)) (tC .non))) (AA 0) 1 [0]) (AJ 4))
theorem Qv:type_of%(@A3 _ _ i9.eq_1):=rfl
def jA:RT:=λK a E E1=>(BB (A8 (EY K a) [] E (AD (AA 0) (AD (AA 1) (AD (AA 2) AG)))))
theorem jB:type_of%(@A3 _ _ jA.eq_1):=rfl
def jC:RT:=λK a E E1=>(B0 (JB (A4 (AC (BL K) (AA 3) (CI AG))) (A4 (AC (BL K) (AA 4) (CI AG)))) (jA K a E E) CD)
theorem Qw:type_of%(@A3 _ _ jC.eq_1):=rfl
def jD:RT:=λK a E E1=>(AR (AC (AI K) (AA 3) (AC BO (AC (AI K) (AA 2) (tC (.int 1))) (BM (CC K) (AD (AA 3) AG)))) (AJ 5))
theorem Qx:type_of%(@A3 _ _ jD.eq_1):=rfl
def jE:RT:=λK a E E1=>(AR (AC (AI K) (AA 4) (AC BO (AC (AI K) (AA 2) (tC (.int 2))) (BM (CC K) (AD (AA 4) AG)))) (AJ 6))
theorem Qy:type_of%(@A3 _ _ jE.eq_1):=rfl
def jF:RT:=λK a E E1=>(AR (AC (AI K) (AC (AI K) (AC (AI K) (AA 0) (tC (.int 0))) (AA 6)) (tC (.int 1))) (AJ 7))
theorem Qz:type_of%(@A3 _ _ jF.eq_1):=rfl
def jG:RT:=λK a E E1=>(AR (AC (AI K) (AC (AI K) (AA 0) (tC (.int 0))) (AA 6)) (DC (AC (AI K) (AA 0) (tC (.int 0))) (AA 5) CN))
theorem Rb:type_of%(@A3 _ _ jG.eq_1):=rfl
def jH:RT:=λK a E E1=>(AR (B4 (AD (AC (BE K) (AC (AI K) (AC (AI K) (AC (AI K) (AA 0) (tC (.int 1))) (AA 7)) (tC (.int 0))) (tC (.int 1))) (AD (AC (AI K) (AC (AI K) (AC (AI K) (AA 0) (tC (.int 1))) (AA 7)) (tC (.int 1))) AG))) (DC (AC (AI K) (AA 0) (tC (.int 1))) (AA 7) CN))
theorem Rc:type_of%(@A3 _ _ jH.eq_1):=rfl
def jI:RT:=λK a E E1=>(BB (B4 (AD (tC (.str "twice")) (AD (BM (SE K) (AD (AA 6) (AD (AA 5) AG))) AG))))
theorem Rg:type_of%(@A3 _ _ jI.eq_1):=rfl
def U1(K:FK)(a:Ad)(E:XE):TS:=(AK (i8 K a E E) (AK (i9 K a E E) (AK (jC K a E E) (AK (jD K a E E) (AK (jE K a E E) (AK (jF K a E E) (AK (jG K a E E) (AK (jH K a E E) (jI K a E E)))))))))
def jJ:RT:=λK a E E1=>(AR (BN (CU (AD (BM (CC K) (AD (AC (AI K) (AA 0) (tC (.int 1))) AG)) AG)) (AJ 0) (A4 (AC GE (AC (AI K) (AC (AI K) (AA 1) (tC (.int 1))) (AA 0)) (tC .non))) (AA 0) 1 [0]) (AJ 3))
theorem Rh:type_of%(@A3 _ _ jJ.eq_1):=rfl
def jK:RT:=λK a E E1=>(AR (CI AG) (AJ 4))
theorem Rj:type_of%(@A3 _ _ jK.eq_1):=rfl
def jL:RT:=λK a E E1=>(AR (AC (BE K) (AA 4) (BM (JJ K) (AD (AC (AI K) (AC (AI K) (AC (AI K) (AA 0) (tC (.int 1))) (AA 5)) (tC (.int 1))) AG))) (AJ 4))
theorem Rk:type_of%(@A3 _ _ jL.eq_1):=rfl
def jM:RT:=λK a E E1=>(DV (DE K (AA 3)) (AJ 5) (jL K a E E))
theorem Rl:type_of%(@A3 _ _ jM.eq_1):=rfl
def jN:RT:=λK a E E1=>(BB (A8 (EY K a) [] E (AD (AA 0) (AD (AA 1) (AD (AA 2) AG)))))
theorem Rm:type_of%(@A3 _ _ jN.eq_1):=rfl
def jO:RT:=λK a E E1=>(B0 (A4 (AC (BL K) (AA 4) (CI AG))) (jN K a E E) CD)
theorem Rp:type_of%(@A3 _ _ jO.eq_1):=rfl
def jP:RT:=λK a E E1=>(AR (AC (AI K) (AA 4) (AC BO (AC (AI K) (AA 2) (tC (.int 1))) (BM (CC K) (AD (AA 4) AG)))) (AJ 6))
theorem Rq:type_of%(@A3 _ _ jP.eq_1):=rfl
def jQ:RT:=λK a E E1=>(AR (AC (AI K) (AA 3) (AC BO (AC (AI K) (AA 2) (tC (.int 2))) (BM (CC K) (AD (AA 3) AG)))) (AJ 5))
theorem Rv:type_of%(@A3 _ _ jQ.eq_1):=rfl
def jR:RT:=λK a E E1=>(AR (B4 (AD (AC (AI K) (AC (AI K) (AC (AI K) (AA 0) (tC (.int 1))) (AA 5)) (tC (.int 0))) (AD (AC (BE K) (AC (AI K) (AC (AI K) (AC (AI K) (AA 0) (tC (.int 1))) (AA 5)) (tC (.int 1))) (B4 (AD (AA 6) AG))) AG))) (DC (AC (AI K) (AA 0) (tC (.int 1))) (AA 5) CN))
theorem Rw:type_of%(@A3 _ _ jR.eq_1):=rfl
def jS:RT:=λK a E E1=>(BB (B4 (AD (tC (.str "shared")) (AD (AA 6) AG))))
theorem Rx:type_of%(@A3 _ _ jS.eq_1):=rfl
def jT:RT:=λK a E E1=>(B0 (A4 (AC (BL K) (AC BO (AC (AI K) (AA 2) (tC (.int 0))) (tC (.int 7))) (tC (.int 2)))) (AK (jQ K a E E) (AK (jR K a E E) (jS K a E E))) CD)
theorem Ry:type_of%(@A3 _ _ jT.eq_1):=rfl
def jU:RT:=λK a E E1=>(AR (tC .non) (DC (AC (AI K) (AA 0) (tC (.int 2))) (AA 6) CN))
theorem Rz:type_of%(@A3 _ _ jU.eq_1):=rfl
def jV:RT:=λK a E E1=>(BB (B4 (AD (tC (.str "empty")) (AD (AA 6) AG))))
theorem Sb:type_of%(@A3 _ _ jV.eq_1):=rfl
def jW:RT:=λK a E E1=>(B0 (A4 (AC (BL K) (AC BO (AC (AI K) (AA 2) (tC (.int 0))) (tC (.int 7))) (tC (.int 3)))) (AK (jU K a E E) (jV K a E E)) CD)
theorem Sc:type_of%(@A3 _ _ jW.eq_1):=rfl
def jX:RT:=λK a E E1=>(AR (AC (AI K) (CI (AD (tC (.int 0)) (AD (tC .non) AG))) (AC BO (AC (AI K) (AA 2) (tC (.int 2))) (tC (.int 2)))) (DC (AC (AI K) (AA 0) (tC (.int 4))) (AA 6) CN))
theorem Sd:type_of%(@A3 _ _ jX.eq_1):=rfl
def jY:RT:=λK a E E1=>(BB (B4 (AD (tC (.str "free")) (AD (tC (.str "piece")) (AD (AA 6) AG)))))
theorem Sg:type_of%(@A3 _ _ jY.eq_1):=rfl
def U2(K:FK)(a:Ad)(E:XE):TS:=(AK (jJ K a E E) (AK (jK K a E E) (AK (jM K a E E) (AK (jO K a E E) (AK (jP K a E E) (AK (jT K a E E) (AK (jW K a E E) (AK (jX K a E E) (jY K a E E)))))))))
def jZ:RT:=λK a E E1=>(AR (A8 (HS K a) [] E (AD (AA 0) AG)) (AJ 3))
theorem Sh:type_of%(@A3 _ _ jZ.eq_1):=rfl
def j0:RT:=λK a E E1=>(AR (AC (BE K) (tC (.int 1)) (BM (JK K) (AD (AC (BL K) (AC BO (AC (AI K) (AA 2) (tC (.int 0))) (tC (.int 7))) (tC (.int 4))) AG))) (AJ 4))
theorem Sj:type_of%(@A3 _ _ j0.eq_1):=rfl
def j3:RT:=λK a E E1=>(AR (BN (CU (AD (BM (CC K) (AD (AA 3) AG)) AG)) (AJ 0) (A4 (AC PB (AC (AI K) (AA 1) (AA 0)) (AA 2))) (AA 0) 1 [3,4]) (AJ 5))
theorem Sk:type_of%(@A3 _ _ j3.eq_1):=rfl
def j4:RT:=λK a E E1=>(BB (A8 (EY K a) [] E (AD (AA 0) (AD (AA 1) (AD (AA 2) AG)))))
theorem Sl:type_of%(@A3 _ _ j4.eq_1):=rfl
def j5:RT:=λK a E E1=>(B0 (A4 (AC (BL K) (AA 5) (CI AG))) (j4 K a E E) CD)
theorem Sm:type_of%(@A3 _ _ j5.eq_1):=rfl
def j6:RT:=λK a E E1=>(AR (AC (AI K) (AA 5) (AC BO (AC (AI K) (AA 2) (tC (.int 1))) (BM (CC K) (AD (AA 5) AG)))) (AJ 6))
theorem Sq:type_of%(@A3 _ _ j6.eq_1):=rfl
def j7:RT:=λK a E E1=>(AR (B4 (AD (tC (.int 1)) (AD (AC (AI K) (AC (AI K) (AC (AI K) (AA 0) (tC (.int 1))) (AA 6)) (tC (.int 1))) AG))) (DC (AC (AI K) (AA 0) (tC (.int 1))) (AA 6) CN))
theorem Sv:type_of%(@A3 _ _ j7.eq_1):=rfl
def j8:RT:=λK a E E1=>(BB (B4 (AD (tC (.str "few")) (AD (AA 6) AG))))
theorem Sw:type_of%(@A3 _ _ j8.eq_1):=rfl
def j9:RT:=λK a E E1=>(B0 (A4 (AC (BL K) (AA 4) (tC (.int 2)))) (AK (j7 K a E E) (j8 K a E E)) CD)
theorem Sx:type_of%(@A3 _ _ j9.eq_1):=rfl
def kA:RT:=λK a E E1=>(AR (AC (AI K) (CI (AD (tC (.int 0)) (AD (tC .non) AG))) (AC BO (AC (AI K) (AA 2) (tC (.int 2))) (tC (.int 2)))) (DC (AC (AI K) (AA 0) (tC (.int 3))) (AA 6) CN))
theorem Sy:type_of%(@A3 _ _ kA.eq_1):=rfl
def kB:RT:=λK a E E1=>(BB (B4 (AD (tC (.str "free")) (AD (tC (.str "record")) (AD (AA 6) AG)))))
theorem Sz:type_of%(@A3 _ _ kB.eq_1):=rfl
def U3(K:FK)(a:Ad)(E:XE):TS:=(AK (jZ K a E E) (AK (j0 K a E E) (AK (j3 K a E E) (AK (j5 K a E E) (AK (j6 K a E E) (AK (j9 K a E E) (AK (kA K a E E) (kB K a E E))))))))
def kC:RT:=λK a E E1=>(AR (AC (BE K) (AC (BE K) (AC (BE K) (AC (BE K) (AC (AI K) (AA 1) (tC (.int 0))) (AC (AI K) (AA 1) (tC (.int 1)))) (AC (AI K) (AA 1) (tC (.int 2)))) (AC (AI K) (AA 1) (tC (.int 3)))) (AC (AI K) (AA 1) (tC (.int 4)))) (AJ 3))
theorem Tb:type_of%(@A3 _ _ kC.eq_1):=rfl
def kD:RT:=λK a E E1=>(C0 (BR (a "Plank") "write" (JN K a) [] E (AA 0) (AD (AC E5 (AA 4) (AA 2)) (AD (KR (JI K) (AA 3) (IB (AA 4)) (IB (AC (BE K) (AA 4) (AA 2)))) AG))))
theorem Tc:type_of%(@A3 _ _ kD.eq_1):=rfl
def kE:RT:=λK a E E1=>(DV (PL (AD (tC (.int 0)) (AD (BM (CC K) (AD (AA 3) AG)) (AD (AA 2) AG)))) (AJ 4) (kD K a E E))
theorem Td:type_of%(@A3 _ _ kE.eq_1):=rfl
def U4(K:FK)(a:Ad)(E:XE):TS:=(AK (kC K a E E) (kE K a E E))
def kF:RT:=λK a E E1=>(AR (BR (a "Layout") "counts" (MX K a) [] E (AA 1) AG) (AJ 3))
theorem Tg:type_of%(@A3 _ _ kF.eq_1):=rfl
def kG:RT:=λK a E E1=>(AR (AC (AI K) (AA 3) (tC (.int 1))) (AJ 4))
theorem Th:type_of%(@A3 _ _ kG.eq_1):=rfl
def kH:RT:=λK a E E1=>(AR (AC (AI K) (AA 3) (tC (.int 2))) (AJ 5))
theorem Tj:type_of%(@A3 _ _ kH.eq_1):=rfl
def kI:RT:=λK a E E1=>(EB K (AA 0) (A8 (G2 K a) [] E (AD (AA 2) (AD (BN (CU (AD (AC (AI K) (AA 3) (tC (.int 0))) AG)) (AJ 0) CZ (BR (a "Layout") "name_at" (MU K a) [] (λ_=>E0) (AA 1) (AD (AA 0) AG)) 1 [1]) AG))) "name_values")
theorem Tk:type_of%(@A3 _ _ kI.eq_1):=rfl
def kJ:RT:=λK a E E1=>(EB K (AA 0) (A8 (G2 K a) [] E (AD (AA 2) (AD (BN (CU (AD (AA 4) AG)) (AJ 0) CZ (BR (a "Layout") "record_at" (IP K a) [] (λ_=>E0) (AA 1) (AD (AA 0) AG)) 1 [1]) AG))) "record_values")
theorem Tl:type_of%(@A3 _ _ kJ.eq_1):=rfl
def kK:RT:=λK a E E1=>(EB K (AA 0) (A8 (G2 K a) [] E (AD (AA 2) (AD (BN (CU (AD (AA 5) AG)) (AJ 0) CZ (BR (a "Layout") "piece_at" (MV K a) [] (λ_=>E0) (AA 1) (AD (AA 0) AG)) 1 [1]) AG))) "piece_values")
theorem Tm:type_of%(@A3 _ _ kK.eq_1):=rfl
def kL:RT:=λK a E E1=>(EB K (AA 0) (A8 (G2 K a) [] E (AD (AA 2) (AD (BN (CU (AD (AA 4) AG)) (AJ 0) CZ (BR (a "Layout") "record_mark" (IQ K a) [] (λ_=>E0) (AA 1) (AD (AA 0) AG)) 1 [1]) AG))) "record_marks")
theorem Tp:type_of%(@A3 _ _ kL.eq_1):=rfl
def kM:RT:=λK a E E1=>(EB K (AA 0) (A8 (G2 K a) [] E (AD (AA 2) (AD (BN (CU (AD (AA 5) AG)) (AJ 0) CZ (BR (a "Layout") "piece_mark" (JO K a) [] (λ_=>E0) (AA 1) (AD (AA 0) AG)) 1 [1]) AG))) "piece_marks")
theorem Tq:type_of%(@A3 _ _ kM.eq_1):=rfl
def kN:RT:=λK a E E1=>(EB K (AA 0) (A8 (JS K a) [] E (AD (AA 4) (AD (BN (DE K (BW K (AA 0) "name_values")) (AJ 0) (A4 (AC GE (AA 0) (tC .non))) (AC (AI K) (AA 0) (tC (.int 1))) 1 []) AG))) "leads")
theorem Tv:type_of%(@A3 _ _ kN.eq_1):=rfl
def kO:RT:=λK a E E1=>(EB K (AA 0) (A8 (JS K a) [] E (AD (AA 5) (AD (A8 (K7 K a) [] E (AD (BW K (AA 0) "record_values") AG)) AG))) "namings")
theorem Tw:type_of%(@A3 _ _ kO.eq_1):=rfl
def kP:RT:=λK a E E1=>(EB K (AA 0) (A8 (JS K a) [] E (AD (AA 5) (AD (A8 (K7 K a) [] E (AD (BR (a "View") "records_led_to" (MZ K a) [] E (AA 0) AG) AG)) AG))) "reached")
theorem Tx:type_of%(@A3 _ _ kP.eq_1):=rfl
def U5(K:FK)(a:Ad)(E:XE):TS:=(AK (kF K a E E) (AK (kG K a E E) (AK (kH K a E E) (AK (kI K a E E) (AK (kJ K a E E) (AK (kK K a E E) (AK (kL K a E E) (AK (kM K a E E) (AK (kN K a E E) (AK (kO K a E E) (kP K a E E)))))))))))
def kQ:RT:=λK a E E1=>(AR (A8 (JX K a) [] E (AD (AA 0) AG)) (AJ 4))
theorem Ty:type_of%(@A3 _ _ kQ.eq_1):=rfl
def kR:RT:=λK a E E1=>Q8
theorem kS:type_of%(@A3 _ _ kR.eq_1):=rfl
def kT:RT:=λK a E E1=>(B0 (JB (A4 (AC (BL K) (AA 4) (CI AG))) (FZ (KY K (AA 3)) (A4 (AC (BL K) (A8 (FB K a) [] E (AD (AA 0) AG)) (CI AG))))) (kR K a E E) CD)
theorem Tz:type_of%(@A3 _ _ kT.eq_1):=rfl
def U6:RT:=λK a E E1=>(AR (AC (AI K) (AA 4) (AC BO (AC (AI K) (AA 2) (tC (.int 0))) (BM (CC K) (AD (AA 4) AG)))) (AJ 5))
theorem Ub:type_of%(@A3 _ _ U6.eq_1):=rfl
def U7:RT:=λK a E E1=>(AR (A8 (NE K a) [] E (AD (AA 0) (AD (KR (JI K) (AA 2) (IB (tC (.int 4))) (IB (tC (.int 7)))) (AD (AC BO (AC (AI K) (AA 2) (tC (.int 1))) (tC (.int 4))) AG)))) (AJ 6))
theorem Uc:type_of%(@A3 _ _ U7.eq_1):=rfl
def kU:RT:=λK a E E1=>(AR (B4 (AD (AC (BE K) (tC (.int 1)) (AC (AI K) (CI (AD (tC (.int 0)) (AD (tC (.int 0)) (AD (tC (.int 1)) (AD (tC (.int 2)) (AD (AC ML (AC aU (tC (.int 10)) (tC (.int 30))) (tC (.int 40))) AG)))))) (AC BO (AC (AI K) (AA 2) (tC (.int 2))) (tC (.int 5))))) (AD (AA 6) AG))) (DC (AC (AI K) (AA 0) (tC (.int 1))) (AA 5) CN))
theorem Ud:type_of%(@A3 _ _ kU.eq_1):=rfl
def U8:RT:=λK a E E1=>(AR (tC (.int 1)) (DC (AC (AI K) (AA 0) (tC (.int 3))) (AA 5) CN))
theorem Ug:type_of%(@A3 _ _ U8.eq_1):=rfl
def U9:RT:=λK a E E1=>(C0 (A8 (JZ K a) [] E (AD (AA 0) (AD (AA 1) (AD (AA 5) (AD (AC (AI K) (AA 2) (tC (.int 3))) AG))))))
theorem Uh:type_of%(@A3 _ _ U9.eq_1):=rfl
def kW:RT:=λK a E E1=>(AR (B4 (AD (AC (BE K) (tC (.int 1)) (AC BO (AC (AI K) (AA 2) (tC (.int 2))) (tC (.int 3)))) (AD (AA 6) AG))) (DC (AC (AI K) (AA 0) (tC (.int 1))) (AA 5) CN))
theorem Uj:type_of%(@A3 _ _ kW.eq_1):=rfl
def kX:RT:=λK a E E1=>(AR (AC (AI K) (CI (AD (tC (.int 1)) (AD (tC (.int 1)) (AD (tC (.int 0)) (AD (tC .non) AG))))) (AC BO (AC E5 (AC (AI K) (AA 2) (tC (.int 2))) (tC (.int 3))) (tC (.int 4)))) (DC (AC (AI K) (AA 0) (tC (.int 3))) (AA 5) CN))
theorem Uk:type_of%(@A3 _ _ kX.eq_1):=rfl
def VB:RT:=λK a E E1=>(C0 (EV K "list" vL (AC (AI K) (AA 0) (tC (.int 5))) (AD (BM (JJ K) (AD (AA 6) AG)) AG)))
theorem Ul:type_of%(@A3 _ _ VB.eq_1):=rfl
def VC:RT:=λK a E E1=>(B0 (KY K (AA 3)) (AK (kU K a E E) (AK (U8 K a E E) (U9 K a E E))) (AK (kW K a E E) (AK (kX K a E E) (VB K a E E))))
theorem Um:type_of%(@A3 _ _ VC.eq_1):=rfl
def VD(K:FK)(a:Ad)(E:XE):TS:=(AK (kQ K a E E) (AK (kT K a E E) (AK (U6 K a E E) (AK (U7 K a E E) (VC K a E E)))))
def kY:RT:=λK a E E1=>(AR (AC BO (AC (AI K) (AA 2) (tC (.int 0))) (tC (.int 7))) (AJ 3))
theorem Up:type_of%(@A3 _ _ kY.eq_1):=rfl
def kZ:RT:=λK a E E1=>(BB (A8 (EY K a) [] E (AD (AA 0) (AD (AA 1) (AD (AA 2) AG)))))
theorem Uq:type_of%(@A3 _ _ kZ.eq_1):=rfl
def k7:RT:=λK a E E1=>(B0 (A4 (AC (BL K) (AA 3) (tC (.int 0)))) (kZ K a E E) CD)
theorem Uv:type_of%(@A3 _ _ k7.eq_1):=rfl
def k8:RT:=λK a E E1=>(BB (A8 (NK K a) [] E (AD (AA 0) (AD (AA 1) (AD (AA 2) AG)))))
theorem Uw:type_of%(@A3 _ _ k8.eq_1):=rfl
def k9:RT:=λK a E E1=>(B0 (A4 (AC (BL K) (AA 3) (tC (.int 1)))) (k8 K a E E) CD)
theorem Ux:type_of%(@A3 _ _ k9.eq_1):=rfl
def lA:RT:=λK a E E1=>(BB (A8 (NL K a) [] E (AD (AA 0) (AD (AA 1) (AD (AA 2) AG)))))
theorem Uy:type_of%(@A3 _ _ lA.eq_1):=rfl
def lB:RT:=λK a E E1=>(B0 (A4 (AC (SF K) (AA 3) (B4 (AD (tC (.int 2)) (AD (tC (.int 3)) (AD (tC (.int 6)) AG)))))) (lA K a E E) CD)
theorem Uz:type_of%(@A3 _ _ lB.eq_1):=rfl
def lC:RT:=λK a E E1=>(BB (A8 (NM K a) [] E (AD (AA 0) (AD (AA 1) (AD (AA 2) AG)))))
theorem Vb:type_of%(@A3 _ _ lC.eq_1):=rfl
def VE(K:FK)(a:Ad)(E:XE):TS:=(AK (kY K a E E) (AK (k7 K a E E) (AK (k9 K a E E) (AK (lB K a E E) (lC K a E E)))))
def lD:RT:=λK a E E1=>(AR (BN (DE K (KR (JI K) (AA 1) OV (IB (tC (.int 3))))) (AJ 0) CZ (AC (DX K) (AA 0) (AC (AI K) (AA 1) (tC (.int 3)))) 1 [1]) (AJ 3))
theorem Vc:type_of%(@A3 _ _ lD.eq_1):=rfl
def lE:RT:=λK a E E1=>(AR (AC (BE K) (BN (DE K (CI (AD (tC (.int 0)) (AD (tC (.int 1)) (AD (tC (.int 2)) (AD (tC (.int 1)) (AD (tC (.int 2)) AG))))))) (AJ 0) CZ (AC (DX K) (CI (AD (tC .non) AG)) (AC (AI K) (AA 1) (AA 0))) 1 [3]) (CI (AD (CI AG) AG))) (AJ 4))
theorem Vd:type_of%(@A3 _ _ lE.eq_1):=rfl
def lF:RT:=λK a E E1=>(AR (A8 (FA K a) [] E (AD (AC E5 (AA 5) (tC (.int 8))) (AD (tC (.int 7)) AG))) (AJ 6))
theorem Vg:type_of%(@A3 _ _ lF.eq_1):=rfl
def lG:RT:=λK a E E1=>(C0 (A8 (K8 K a) [] E (AD (AA 4) (AD (AA 2) (AD (AA 6) (AD (tC (.bl true)) AG))))))
theorem Vh:type_of%(@A3 _ _ lG.eq_1):=rfl
def lH:RT:=λK a E E1=>(C0 (A8 (NF K a) [] E (AD (AA 4) (AD (AA 2) (AD (AA 6) AG)))))
theorem Vj:type_of%(@A3 _ _ lH.eq_1):=rfl
def lI:RT:=λK a E E1=>(C0 (A8 (K8 K a) [] E (AD (AA 4) (AD (AA 2) (AD (AA 6) (AD (tC (.bl false)) AG))))))
theorem Vk:type_of%(@A3 _ _ lI.eq_1):=rfl
def lJ:RT:=λK a E E1=>(C0 (A8 (NG K a) [] E (AD (AA 4) (AD (AC BO (AA 5) (tC (.int 8))) (AD (AA 6) AG)))))
theorem Vl:type_of%(@A3 _ _ lJ.eq_1):=rfl
def lK:RT:=λK a E E1=>(B0 (A4 (AC (BL K) (AC BO (AA 5) (tC (.int 8))) (tC (.int 4)))) (lI K a E E) (lJ K a E E))
theorem Vm:type_of%(@A3 _ _ lK.eq_1):=rfl
def lL:RT:=λK a E E1=>(B0 (A4 (AC (BL K) (AC BO (AA 5) (tC (.int 8))) (tC (.int 3)))) (lH K a E E) (lK K a E E))
theorem Vp:type_of%(@A3 _ _ lL.eq_1):=rfl
def lM:RT:=λK a E E1=>(B0 (A4 (AC IG (AC BO (AA 5) (tC (.int 8))) (tC (.int 3)))) (lG K a E E) (lL K a E E))
theorem Vq:type_of%(@A3 _ _ lM.eq_1):=rfl
def lN:RT:=λK a E E1=>(DV (DE K (AA 0)) (AJ 5) (AK (lF K a E E) (lM K a E E)))
theorem Vv:type_of%(@A3 _ _ lN.eq_1):=rfl
def lO:RT:=λK a E E1=>(BB (AA 4))
theorem Vx:type_of%(@A3 _ _ lO.eq_1):=rfl
def VF(K:FK)(a:Ad)(E:XE):TS:=(AK (lD K a E E) (AK (lE K a E E) (AK (lN K a E E) (lO K a E E))))
def lP:RT:=λK a E E1=>(AR (JF (a "View") (IU K a) [] E (AD (AA 0) (AD (AA 1) AG))) (AJ 2))
theorem Vy:type_of%(@A3 _ _ lP.eq_1):=rfl
def lQ:RT:=λK a E E1=>(BB (AC (BE K) (A8 (JV K a) [] E (AD (AA 2) AG)) (A8 (M8 K a) [] E (AD (AA 2) AG))))
theorem Vz:type_of%(@A3 _ _ lQ.eq_1):=rfl
def VG(K:FK)(a:Ad)(E:XE):TS:=(AK (lP K a E E) (lQ K a E E))
def lR:RT:=λK a E E1=>(BB (AC (BL K) (BM (CC K) (AD (A8 (JV K a) [] E (AD (JF (a "View") (IU K a) [] E (AD (AA 0) (AD (AA 1) AG))) AG)) AG)) (tC (.int 0))))
theorem Wb:type_of%(@A3 _ _ lR.eq_1):=rfl
def VH(K:FK)(a:Ad)(E:XE):TS:=(lR K a E E)
def lS:RT:=λK a E E1=>(MJ (a "NotSound") E (AD (tC (.str "the plank has faults")) AG))
theorem Wc:type_of%(@A3 _ _ lS.eq_1):=rfl
def lT:RT:=λK a E E1=>(B0 (KO (KY K (A8 (NA K a) [] E (AD (AA 0) (AD (AA 1) AG))))) (lS K a E E) CD)
theorem lU:type_of%(@A3 _ _ lT.eq_1):=rfl
def lV:RT:=λK a E E1=>(AR (A8 (M9 K a) [] E (AD (AA 0) (AD (AA 1) AG))) (AJ 2))
theorem Wd:type_of%(@A3 _ _ lV.eq_1):=rfl
def lW:RT:=λK a E E1=>(AR RY (AJ 3))
theorem Wg:type_of%(@A3 _ _ lW.eq_1):=rfl
def lX:RT:=λK a E E1=>(C0 (EV K "dict" bY (AA 3) (AD (A8 (NO K a) [] E (AD (AA 0) (AD (AA 1) (AD (AA 4) AG)))) AG)))
theorem Wh:type_of%(@A3 _ _ lX.eq_1):=rfl
def lY:RT:=λK a E E1=>(DV (DE K (AA 2)) (AJ 4) (lX K a E E))
theorem Wj:type_of%(@A3 _ _ lY.eq_1):=rfl
def lZ:RT:=λK a E E1=>(C0 (A8 (NP K a) [] E (AD (AA 1) (AD (AA 3) AG))))
theorem Wk:type_of%(@A3 _ _ lZ.eq_1):=rfl
def l8:RT:=λK a E E1=>(BB (AA 2))
theorem Wl:type_of%(@A3 _ _ l8.eq_1):=rfl
def NR(K:FK)(a:Ad)(E:XE):TS:=(AK (lT K a E E) (AK (lV K a E E) (AK (lW K a E E) (AK (lY K a E E) (AK (lZ K a E E) (l8 K a E E))))))
def l9:RT:=λK a E E1=>(AR (tC (.bl false)) (AJ 2))
theorem Wm:type_of%(@A3 _ _ l9.eq_1):=rfl
def mB:RT:=λK a E E1=>(AR (tC (.bl false)) (AJ 3))
theorem Wp:type_of%(@A3 _ _ mB.eq_1):=rfl
def mC:RT:=λK a E E1=>(C0 (A8 (J0 K a) [] E1 (AD (AA 0) (AD (AA 1) AG))))
theorem Wq:type_of%(@A3 _ _ mC.eq_1):=rfl
def mD:RT:=λK a E E1=>(AR (OK (BM (KZ K) (AD (AA 4) (AD (tC (.ref (a "NotSound"))) AG))) (BM (KZ K) (AD (AA 4) (AD (tC (.ty "ValueError")) AG)))) (AJ 2))
theorem Wv:type_of%(@A3 _ _ mD.eq_1):=rfl
def mE:RT:=λK a E E1=>(AR (BM (KZ K) (AD (AA 4) (AD (B4 (AD (tC (.ref (a "NoBlock"))) (AD (tC (.ref (a "NoChange"))) (AD (tC (.ref (a "NoName"))) (AD (tC (.ref (a "NoPiece"))) (AD (tC (.ref (a "NoRoom"))) (AD (tC (.ref (a "NoRow"))) (AD (tC (.ref (a "Twice"))) AG)))))))) AG))) (AJ 3))
theorem Ww:type_of%(@A3 _ _ mE.eq_1):=rfl
def mF:RT:=λK a E E1=>(R7 (λE1=>(mC K a E E1)) (aT (λcls=>W.exmOne K cls (.ref (a "HoldError"))) 4 (AK (mD K a E E) (mE K a E E)) aS))
theorem Wx:type_of%(@A3 _ _ mF.eq_1):=rfl
def mG:RT:=λK a E E1=>(BB (OK (AA 2) (SA K (AA 3))))
theorem Wy:type_of%(@A3 _ _ mG.eq_1):=rfl
def VJ(K:FK)(a:Ad)(E:XE):TS:=(AK (l9 K a E E) (AK (mB K a E E) (AK (mF K a E E) (mG K a E E))))
def mH:RT:=λK a E E1=>(AR (A8 (NB K a) [] E (AD (A8 (HR K a) [] E (AD (AA 0) (AD (tC (.int 0)) AG))) AG)) (AJ 1))
theorem Wz:type_of%(@A3 _ _ mH.eq_1):=rfl
def mI:RT:=λK a E E1=>(AR (A8 (ND K a) [] E (AD (A8 (HR K a) [] E (AD (AA 0) (AD (tC (.int 1)) AG))) (AD (tC (.int 36)) AG))) (AJ 2))
theorem Xb:type_of%(@A3 _ _ mI.eq_1):=rfl
def mJ:RT:=λK a E E1=>(AR (A8 (NH K a) [] E (AD (KR (JI K) (AA 0) (IB (tC (.int 3))) OV) (AD (AA 1) (AD (AA 2) AG)))) (AJ 3))
theorem Xc:type_of%(@A3 _ _ mJ.eq_1):=rfl
def mK:RT:=λK a E E1=>(AR (JF (a "Layout") (K5 K a) [] E (AD (AC (AI K) (AA 1) (tC (.int 0))) (AD (AC (AI K) (AA 1) (tC (.int 1))) (AD (AC (AI K) (AA 1) (tC (.int 2))) (AD (AC (AI K) (AA 1) (tC (.int 3))) AG))))) (AJ 4))
theorem Xd:type_of%(@A3 _ _ mK.eq_1):=rfl
def mM:RT:=λK a E E1=>(AR (BR (a "Layout") "plank" (MY K a) [] E (AA 4) AG) (AJ 5))
theorem Xg:type_of%(@A3 _ _ mM.eq_1):=rfl
def mO:RT:=λK a E E1=>(AR (A8 (NJ K a) [] E (AD (AA 3) AG)) (AJ 6))
theorem Xh:type_of%(@A3 _ _ mO.eq_1):=rfl
def mP:RT:=λK a E E1=>(AR (A8 (NN K a) [] E (AD (AA 6) (AD (AA 2) (AD (A8 (FA K a) [] E (AD (A8 (HR K a) [] E (AD (AA 0) (AD (tC (.int 2)) AG))) (AD (tC (.int 3)) AG))) AG)))) (AJ 7))
theorem Xj:type_of%(@A3 _ _ mP.eq_1):=rfl
def mQ:RT:=λK a E E1=>(C0 (A8 (LA K a) [] E (AD (AA 5) (AD (AA 6) (AD (AC (AI K) (AA 1) (tC (.int 3))) AG)))))
theorem Xk:type_of%(@A3 _ _ mQ.eq_1):=rfl
def mR:RT:=λK a E E1=>(AR (BN (CU (AD (BR (a "Plank") "blocks" (IL K a) [] E (AA 5) AG) AG)) (AJ 0) CZ (BR (a "Plank") "read" (E6 K a) [] (λ_=>E0) (AA 1) (AD (AA 0) AG)) 1 [5]) (AJ 8))
theorem Xl:type_of%(@A3 _ _ mR.eq_1):=rfl
def mS:RT:=λK a E E1=>(AR (BR (a "Plank") "writings" (K3 K a) [] E (AA 5) AG) (AJ 9))
theorem Xm:type_of%(@A3 _ _ mS.eq_1):=rfl
def Xp:RT:=λK a E E1=>(BB (tC (.bl false)))
def mT:RT:=λK a E E1=>(B0 (JB (KO (KY K (A8 (LC K a) [] E (AD (AA 4) (AD (AA 5) AG))))) (KO (KY K (A8 (LC K a) [] E (AD (AA 4) (AD (AA 5) AG)))))) (Xp K a E E) CD)
theorem Xq:type_of%(@A3 _ _ mT.eq_1):=rfl
def Xv:RT:=λK a E E1=>(BB (tC (.bl false)))
def mU:RT:=λK a E E1=>(B0 (JB (A4 (AC (CJ K) (BN (CU (AD (BR (a "Plank") "blocks" (IL K a) [] E (AA 5) AG) AG)) (AJ 0) CZ (BR (a "Plank") "read" (E6 K a) [] (λ_=>E0) (AA 1) (AD (AA 0) AG)) 1 [5]) (AA 8))) (A4 (AC (CJ K) (BR (a "Plank") "writings" (K3 K a) [] E (AA 5) AG) (AA 9)))) (Xv K a E E) CD)
theorem Xw:type_of%(@A3 _ _ mU.eq_1):=rfl
def mV:RT:=λK a E E1=>(B0 (A4 (AC GE (AA 7) (tC .non))) (AK (mQ K a E E) (AK (mR K a E E) (AK (mS K a E E) (AK (mT K a E E) (mU K a E E))))) CD)
theorem mW:type_of%(@A3 _ _ mV.eq_1):=rfl
def VL:RT:=λK a E E1=>(C0 (A8 (LA K a) [] E (AD (AA 5) (AD (AA 3) (AD (AC (AI K) (AA 1) (tC (.int 3))) AG)))))
theorem Xx:type_of%(@A3 _ _ VL.eq_1):=rfl
def VM:RT:=λK a E E1=>(BB (AC (BL K) (A8 (J0 K a) [] E (AD (AA 4) (AD (AA 5) AG))) (A8 (NI K a) [] E (AD (AA 3) AG))))
theorem Xy:type_of%(@A3 _ _ VM.eq_1):=rfl
def VN(K:FK)(a:Ad)(E:XE):TS:=(AK (mH K a E E) (AK (mI K a E E) (AK (mJ K a E E) (AK (mK K a E E) (AK (mM K a E E) (AK (mO K a E E) (AK (mP K a E E) (AK (mV K a E E) (AK (VL K a E E) (VM K a E E))))))))))
end
end L2
namespace L2
local macro_rules
 | `(tactic| push_cast[$ls,*])=>`(tactic| simp only[↓vS,↓vT,↓vU,↓vV,↓vW,↓vX,↓vY,↓vZ,↓v6,↓v7,↓v8,↓v9,↓wA,↓wB,↓wC,↓wD,↓wE,↓wF,↓wG,↓wH,↓wI,↓wJ,↓wK,↓wL,↓wM,↓wN,↓wO,↓wP,↓wQ,↓wR,↓wS,↓wT,↓wU,↓wV,↓wW,↓wX,↓wY,↓wZ,↓xA,↓xB,↓xC,↓xD,↓xE,↓xF,↓xG,↓xH,↓xI,↓xJ,↓xK,↓xL,↓xM,↓xN,↓xO,
     ↓aY,↓xP,↓xR,↓xS,↓xT,↓xU,↓xV,↓xW,↓xX,↓xY,↓aZ,↓x9,↓yB,↓yA,↓yC,↓yD,↓yE,↓yF,↓yG,↓x6,↓xZ,↓x8,↓yH,↓yI,↓bA,↓yJ,↓yK,↓bB,↓yL,↓yM,↓bC,↓yN,↓yO,↓bD,↓yP,↓yQ,↓yR,↓yS,↓yT,↓yU,↓yV,↓yW,↓yX,↓bE,↓yY,
     ML,BO,E5,aU,vC,vD,Ends.drop,A5,List.map_cons,List.map_nil,List.length_cons,List.length_nil,List.reduceReplicate,Nat.reduceAdd,Nat.reduceSub,Nat.zero_add,List.cons_append,List.nil_append,List.append_nil,List.getElem?_cons_zero,List.getElem?_cons_succ,Option.some.injEq,Option.join_some,List.set_cons_zero,List.set_cons_succ,
     V.int.injEq,V.ref.injEq,V.bl.injEq,V.str.injEq,List.cons.injEq,and_true,true_and,exists_eq_left',exists_eq_left,exists_eq',exists_eq,exists_and_left,exists_and_right,reduceCtorEq,false_and,and_false,or_false,false_or,exists_false,decide_eq_true_eq,Bool.not_eq_true',Bool.not_eq_true,decide_eq_false_iff_not,eq_self_iff_true,if_true,Bool.false_eq_true,if_false,ite_true,Bool.true_eq_false,forall_const,and_assoc,Int.reduceToNat,Int.reduceLT,Int.reduceLE,Int.reduceEq,Nat.reduceLeDiff,Int.toNat_natCast,not_true_eq_false,not_false_eq_true,Bool.not_false,Bool.not_true,↓zR,↓zS,↓zT,↓zU,↓zV,↓zW,↓zX,↓zY,↓zZ,↓zQ,↓zP,↓zM,↓zO,↓zG,↓Am,↓Bl,↓Bk,↓Ay,↓Cj,↓Ck,↓Cl,↓Cm,↓Aw,↓zH,↓zF,$ls,*])
section
variable{K:W.Frag}{a:Ad}{vs:List V}{H:Hp}{Q:VK}{E:XK}
theorem Xz(h:MS K a vs H Q E):TM K a (λ_=>E) (A6 Q) (A5 ["self","blocks","cells"] vs) H:=by
 obtain⟨p,dx,m,w,rfl,T,hp,hm,h1,h2,q⟩:=h
 push_cast[TM,↓Fc,↓Fd,↓Fg]
 refine⟨by omega,by omega,?_⟩
 refine K0 (small m (by omega)) (λi ys H'=>Same H H'/\∃ ts:List Addr,ys=ts.map V.ref/\Paired (λt r=>H' t=some (.tup r)) ts (List.replicate i (List.replicate w .non))) ⟨Same.refl _,[],rfl,.nil⟩ (λi ys H' hi hl ⟨s,ts,e,P⟩=> ?_) (λys H' hl ⟨s,ts,e,P⟩ cl hcl=> ?_)
 ·push_cast[BI,Option.join_some,Int.zero_add]
  refine⟨by decide,λt ht=>.inr ?_⟩
  have fin:∀ (t':Addr) (H2:Hp),Same H' H2->H2 t'=some (.tup (List.replicate w .non))->Same H H2/\∃ ts':List Addr,ys++[V.ref t']=ts'.map V.ref/\Paired (λt r=>H2 t=some (.tup r)) ts' (List.replicate (i+1) (List.replicate w .non)):=λt' H2 s2 e2=>by
   refine⟨s.trans s2,ts++[t'],by rw[e,List.map_append];rfl,?_⟩
   rw[List.replicate_succ']
   exact Paired.snoc (Paired.mapP P λt r z=>s2 _ _ z) e2
  have s1:Same H' (upd H' t (.tup [V.non])):=λb o z=>by rw[AQ (BT z ht)];exact z
  refine⟨t,w,[.non],rfl,rfl,SqT.of AM,by simp,by omega,by omega,small _ (by simp;omega),λe1=> ?_,λe1 u hu=> ?_⟩
  ·have e1:w=1:=by omega
   refine fin t _ s1 ?_
   rw[AM,e1];rfl
  ·rw[Int.toNat_natCast,bH]
   exact fin u _ (s1.trans λb o z=>by rw[AQ (BT z hu)];exact z) AM
 ·have npc:p≠cl:=BT (s _ _ hp) hcl
  have e1:upd H' cl (HO.lst ys) p=some (HO.ins (a "Plank") dx []):=by rw[AQ npc];exact s _ _ hp
  refine⟨_,_,_,e1,T.cl,T.nC,by decide,_,_,_,AM,T.cl,T.nW,HM (by decide),_,_,_,AM,T.cl,T.nN,HM (n:=1000) (Nat.succ_lt_succ (HM (n:=999) (by decide))),?_⟩
  rw[Cq,LX,LX]
  refine q cl _ (s.free hcl) ⟨⟨dx,AM⟩,⟨ts,by rw[AQ npc.symm,AM,e],?_⟩,λr hr=> ?_,by simpa using hm,h2⟩ λb o eb hb=> ?_
  ·refine Paired.mapP P λt r z=> ?_
   rw[AQ (DA z (s _ _ hp) (by intro z';cases z')),AQ (BT z hcl)]
   exact z
  ·rw[List.eq_of_mem_replicate hr,List.length_replicate]
  ·rw[AQ hb,AQ (BT (s _ _ eb) hcl)]
   exact s _ _ eb
theorem Yb(h:IL K a vs H Q E):TN K a (λ_=>E) (A6 Q) (A5 ["self"] vs) H:=by
 obtain⟨p,cl,w,rows,n,rfl,T,P,q⟩:=h
 obtain⟨dx,h1⟩:=P.ob
 obtain⟨ts,h2,h3⟩:=P.ls
 push_cast[TN,↓Fh]
 refine⟨_,_,_,h1,T.cl,T.nC,_,PU _ _ _,rows.length,.inl ⟨_,SqL.of h2,?_⟩,q⟩
 rw[List.length_map,h3.length]
theorem Yc(h:HP K a vs H Q E):TR K a (λ_=>E) (A6 Q) (A5 ["self","block"] vs) H:=by
 obtain⟨p,cl,w,rows,n,b,rfl,T,P,q,qe⟩:=h
 obtain⟨dx,h1⟩:=P.ob
 obtain⟨ts,h2,h3⟩:=P.ls
 push_cast[TR,↓Fk,↓Fl]
 have hl:rows.length=(ts.map V.ref).length:=by rw[List.length_map,h3.length]
 split
 ·rename_i h0
  refine⟨_,_,_,h1,T.cl,T.nC,_,PU _ _ _,rows.length,.inl ⟨_,SqL.of h2,hl⟩,?_⟩
  split
  ·exact⟨by decide,qe (by omega)⟩
  ·exact q h0 (by omega)
 ·exact⟨by decide,qe (by omega)⟩
theorem mX(cl:Addr)(w n:Int):(pf cl w n).lookup ("ask_for_block":Str)=none:=MR _ _ _ (by decide +kernel) (by decide +kernel) (by decide +kernel)
theorem Yd(h:E6 K a vs H Q E):UB K a (λ_=>E) (A6 Q) (A5 ["self","block"] vs) H:=by
 obtain⟨p,cl,w,rows,n,b,rfl,T,P,q,qe⟩:=h
 obtain⟨dx,h1⟩:=P.ob
 obtain⟨ts,h2,h3⟩:=P.ls
 push_cast[UB,↓Jk,↓Jl,HP]
 refine⟨_,_,h1,mX _ _ _,T,cl,w,rows,⟨n,P⟩,λh0 hb=>⟨_,_,_,h1,T.cl,T.nC,_,PU _ _ _,?_⟩,qe⟩
 obtain⟨i,rfl⟩:∃ i:Nat,b=i:=⟨b.toNat,by omega⟩
 have hi:i<rows.length:=by omega
 obtain⟨t,et,ht⟩:=MP h3 (List.getElem?_eq_getElem hi)
 refine BV (SqL.of h2) rfl (v:=.ref t) (by rw[List.getElem?_map,et];rfl) ?_
 rw[bE]
 exact⟨_,.inr (SqT.of ht),q i _ rfl (List.getElem?_eq_getElem hi)⟩
theorem Yg(h:JN K a vs H Q E):UC K a (λ_=>E) (A6 Q) (A5 ["self","block","values"] vs) H:=by
 obtain⟨p,cl,w,rows,n,b,v,xs,rfl,T,P,hv,hx,q,qe⟩:=h
 obtain⟨dx,h1⟩:=P.ob
 obtain⟨ts,h2,h3⟩:=P.ls
 have npc:=P.ne
 push_cast[UC,↓Jm,↓Jp,↓Jq,↓Jv,↓Jw,HP]
 refine⟨_,_,h1,mX _ _ _,T,cl,w,rows,⟨n,P⟩,λh0 hb=>⟨xs.length,.inl ⟨_,hv,rfl⟩,_,_,_,h1,T.cl,T.nW,_,Cp _ _ _,?_⟩,λz=>qe (z.imp id .inl)⟩
 obtain⟨i,rfl⟩:∃ i:Nat,b=i:=⟨b.toNat,by omega⟩
 have hi:i<rows.length:=by omega
 push_cast[]
 split
 ·exact⟨by decide,qe (.inr (.inr (by omega)))⟩
 ·rename_i hw
  have hw:xs.length=w:=by omega
  refine⟨xs,.inl ⟨hv,λt ht=> ?_⟩⟩
  have ntp:p≠t:=BT h1 ht
  have ntc:cl≠t:=BT h2 ht
  refine⟨_,_,_,by rw[AQ ntp];exact h1,T.cl,T.nC,_,PU _ _ _,?_⟩
  refine⟨cl,ts.map V.ref,(i:Int),i,rfl,rfl,by rw[AQ ntc];exact h2,?_,?_⟩
  ·unfold GU
   rw[if_pos (by omega),if_pos (by rw[List.length_map,h3.length];omega),Int.toNat_natCast]
  ·refine⟨_,_,_,by rw[AQ npc,AQ ntp];exact h1,T.cl,T.nN,_,b0 _ _ _,?_⟩
   push_cast[]
   refine⟨_,_,by rw[AQ npc,AQ ntp];exact h1,by show 3<1000;decide,?_⟩
   rw[Cv]
   refine q i rfl hi hw _ ⟨⟨dx,AM⟩,⟨ts.set i t,?_,?_⟩,λr hr=> ?_,by rw[List.length_set];exact P.sz,P.sw⟩ λx o ex hxn=> ?_
   ·rw[AQ npc.symm,AM,List.map_set]
   ·have keep:∀ u r,H u=some (.tup r)->upd (upd (upd H t (.tup xs)) cl (.lst ((ts.map V.ref).set i (.ref t)))) p (.ins (a "Plank") dx (pf cl w ((n:Int)+1))) u=some (.tup r):=λu r hu=>by
     rw[AQ (DA hu h1 (by intro z;cases z)),AQ (DA hu h2 (by intro z;cases z)),AQ (BT hu ht)]
     exact hu
    refine SD ?_ i (Paired.mapP h3 keep)
    rw[AQ ntp.symm,AQ ntc.symm,AM]
   ·rcases List.mem_or_eq_of_mem_set hr with z | z
    ·exact P.wd r z
    ·rw[z];exact hw
   ·have hxn:x≠p/\x≠cl:=⟨λz=>hxn (.inl z),λz=>hxn (.inr z)⟩
    rw[AQ hxn.1,AQ hxn.2,AQ (BT ex ht)]
    exact ex
theorem QC(cl:Addr)(w n:Int):(pf cl w n).lookup ("read":Str)=none:=MR _ _ _ (by decide +kernel) (by decide +kernel) (by decide +kernel)
theorem mY(cl:Addr)(w n:Int):(pf cl w n).lookup ("write":Str)=none:=MR _ _ _ (by decide +kernel) (by decide +kernel) (by decide +kernel)
theorem mZ(cl:Addr)(w n:Int):(pf cl w n).lookup ("writings":Str)=none:=MR _ _ _ (by decide +kernel) (by decide +kernel) (by decide +kernel)
theorem Yh(h:MS K a vs H Q E):vs.length=3:=by
 obtain⟨_,_,_,_,rfl,_⟩:=h
 rfl
theorem Yj(h:IL K a vs H Q E):vs.length=1:=by
 obtain⟨_,_,_,_,_,rfl,_⟩:=h
 rfl
theorem Yk(h:HP K a vs H Q E):vs.length=2:=by
 obtain⟨_,_,_,_,_,_,rfl,_⟩:=h
 rfl
theorem Yl(h:E6 K a vs H Q E):vs.length=2:=by
 obtain⟨_,_,_,_,_,_,rfl,_⟩:=h
 rfl
theorem Ym(h:JN K a vs H Q E):vs.length=3:=by
 obtain⟨_,_,_,_,_,_,_,_,rfl,_⟩:=h
 rfl
theorem Yp(h:K3 K a vs H Q E):TQ K a (λ_=>E) (A6 Q) (A5 ["self"] vs) H:=by
 obtain⟨p,cl,w,rows,n,rfl,T,P,q⟩:=h
 obtain⟨dx,h1⟩:=P.ob
 push_cast[TQ,↓Fj]
 exact⟨_,_,_,h1,T.cl,T.nN,_,b0 _ _ _,q⟩
theorem Yq(h:K3 K a vs H Q E):vs.length=1:=by
 obtain⟨_,_,_,_,_,rfl,_⟩:=h
 rfl
theorem Yv(h:HR K a vs H Q E):T1 K a (λ_=>E) (A6 Q) (A5 ["script","k"] vs) H:=by
 obtain⟨s,ns,k,rfl,hs,hl,q⟩:=h
 push_cast[T1,↓Fz,↓Gb,↓Gc]
 refine⟨ns.length,?_,?_⟩
 ·exact .inl ⟨_,hs,(List.length_map _).symm⟩
 split
 ·rename_i hk
  have hk:k<ns.length:=by omega
  refine BV hs rfl (v:=.int (K6 ns k)) ?_ q
  unfold K6
  rw[List.getElem?_map,List.getElem?_eq_getElem hk]
  simp[List.getD,hk]
 ·rename_i hk
  have:K6 ns k=0:=by
   unfold K6
   rw[List.getD_eq_getElem?_getD,List.getElem?_eq_none (by omega)];rfl
  rw[this]at q
  exact q
theorem Yw(h:HR K a vs H Q E):vs.length=2:=by
 obtain⟨_,_,_,rfl,_⟩:=h
 rfl
theorem Yx(h:K5 K a vs H Q E):TU K a (λ_=>E) (A6 Q) (A5 ["self","names","records","pieces","cells"] vs) H:=by
 obtain⟨p,dx,n,r,c,w,rfl,T,hp,b1,b2,b3,b4,b5,q⟩:=h
 push_cast[TU,↓Fm,↓Fp,↓Fq,↓Fv]
 refine⟨_,_,_,hp,T.cl,T.n1,by decide,_,_,_,AM,T.cl,T.n2,HM (by decide),_,_,_,AM,T.cl,T.n3,HM (n:=1000) (Nat.succ_lt_succ (HM (n:=999) (by decide))),_,_,_,AM,T.cl,T.n4,?_,?_⟩
 ·exact HM (n:=1000) (Nat.succ_lt_succ (HM (n:=999) (Nat.succ_lt_succ (HM (n:=998) (by decide)))))
 ·rw[Dc,LX,LX,LX]
  exact q _ ⟨⟨dx,AM⟩,b1,b2,b3,b4,b5⟩ λb o e hb=>by rw[AQ hb];exact e
theorem Yy(h:E7 K a vs H Q E):TZ K a (λ_=>E) (A6 Q) (A5 ["self","block","k"] vs) H:=by
 obtain⟨p,n,r,c,w,k,b,rfl,T,L,q⟩:=h
 obtain⟨dx,e⟩:=L.ob
 have:=L.h1
 have:=L.hw
 push_cast[TZ,↓Fy]
 refine⟨_,_,_,e,T.cl,T.n4,_,K4,?_⟩
 push_cast[]
 refine⟨⟨by omega,by omega⟩,_,_,_,e,T.cl,T.n4,_,K4,?_⟩
 push_cast[]
 exact⟨by omega,by decide,q⟩
theorem Yz(h:MU K a vs H Q E):UD K a (λ_=>E) (A6 Q) (A5 ["self","k"] vs) H:=by
 obtain⟨p,n,r,c,w,k,rfl,T,L,q⟩:=h
 obtain⟨dx,e⟩:=L.ob
 push_cast[UD,↓Jx]
 exact⟨_,_,e,DY (by decide +kernel),p,n,r,c,w,k,0,rfl,T,L,q⟩
theorem Zb(h:IP K a vs H Q E):UE K a (λ_=>E) (A6 Q) (A5 ["self","k"] vs) H:=by
 obtain⟨p,n,r,c,w,k,rfl,T,L,q⟩:=h
 obtain⟨dx,e⟩:=L.ob
 push_cast[UE,↓Jy]
 exact⟨_,_,e,DY (by decide +kernel),_,_,_,e,T.cl,T.n1,_,PZ,p,n,r,c,w,k,_,rfl,T,L,q⟩
theorem Zc(h:MV K a vs H Q E):UF K a (λ_=>E) (A6 Q) (A5 ["self","k"] vs) H:=by
 obtain⟨p,n,r,c,w,k,rfl,T,L,q⟩:=h
 obtain⟨dx,e⟩:=L.ob
 push_cast[UF,↓Jz]
 refine⟨_,_,e,DY (by decide +kernel),_,_,_,e,T.cl,T.n1,_,PZ,_,_,_,e,T.cl,T.n2,_,MT,?_⟩
 push_cast[]
 exact⟨p,n,r,c,w,k,_,rfl,T,L,q⟩
theorem Zd(h:IQ K a vs H Q E):UG K a (λ_=>E) (A6 Q) (A5 ["self","k"] vs) H:=by
 obtain⟨p,n,r,c,w,k,rfl,T,L,q⟩:=h
 obtain⟨dx,e⟩:=L.ob
 push_cast[UG,↓Kb]
 exact⟨_,_,e,DY (by decide +kernel),_,_,e,DY (by decide +kernel),p,n,r,c,w,rfl,T,L,p,n,r,c,w,k,_,rfl,T,L,q⟩
theorem Zg(h:JO K a vs H Q E):UH K a (λ_=>E) (A6 Q) (A5 ["self","k"] vs) H:=by
 obtain⟨p,n,r,c,w,k,rfl,T,L,q⟩:=h
 obtain⟨dx,e⟩:=L.ob
 push_cast[UH,↓Kc]
 refine⟨_,_,e,DY (by decide +kernel),_,_,e,DY (by decide +kernel),p,n,r,c,w,rfl,T,L,_,_,_,e,T.cl,T.n2,_,MT,?_⟩
 push_cast[]
 exact⟨p,n,r,c,w,k,_,rfl,T,L,q⟩
theorem Zh(h:HQ K a vs H Q E):TY K a (λ_=>E) (A6 Q) (A5 ["self"] vs) H:=by
 obtain⟨p,n,r,c,w,rfl,T,L,q⟩:=h
 obtain⟨dx,e⟩:=L.ob
 push_cast[TY,↓Fx]
 refine⟨_,_,_,e,T.cl,T.n1,_,PZ,_,_,_,e,T.cl,T.n2,_,MT,?_⟩
 push_cast[]
 refine⟨_,_,_,e,T.cl,T.n3,_,S0,?_⟩
 push_cast[]
 exact q
theorem Zj(h:MW K a vs H Q E):UI K a (λ_=>E) (A6 Q) (A5 ["self"] vs) H:=by
 obtain⟨p,n,r,c,w,rfl,T,L,q⟩:=h
 obtain⟨dx,e⟩:=L.ob
 push_cast[UI,↓Kd]
 refine⟨_,_,e,DY (by decide +kernel),p,n,r,c,w,rfl,T,L,_,_,_,e,T.cl,T.n2,_,MT,?_⟩
 push_cast[]
 refine⟨_,_,_,e,T.cl,T.n3,_,S0,?_⟩
 push_cast[]
 exact q
theorem Zk(h:MX K a vs H Q E):TX K a (λ_=>E) (A6 Q) (A5 ["self"] vs) H:=by
 obtain⟨p,n,r,c,w,rfl,T,L,q⟩:=h
 obtain⟨dx,e⟩:=L.ob
 obtain⟨_,b1,b2,b3,b4,b5⟩:=L
 push_cast[TX,↓Fw]
 refine⟨_,_,_,e,T.cl,T.n1,_,PZ,_,_,_,e,T.cl,T.n4,_,K4,?_⟩
 push_cast[]
 refine⟨.inl ⟨by omega,by omega⟩,_,_,_,e,T.cl,T.n2,_,MT,_,_,_,e,T.cl,T.n4,_,K4,?_⟩
 push_cast[]
 refine⟨.inl ⟨by omega,by omega⟩,_,_,_,e,T.cl,T.n3,_,S0,_,_,_,e,T.cl,T.n4,_,K4,?_⟩
 push_cast[]
 exact⟨.inl ⟨by omega,by omega⟩,by decide,q⟩
theorem Zl(h:MY K a vs H Q E):UW K a (λ_=>E) (A6 Q) (A5 ["self"] vs) H:=by
 obtain⟨p,n,r,c,w,rfl,T,TP,L,q⟩:=h
 obtain⟨dx,e⟩:=L.ob
 have LL:=L
 obtain⟨_,b1,b2,b3,b4,b5⟩:=L
 push_cast[UW,↓Nz]
 refine⟨_,_,e,DY (by decide +kernel),p,n,r,c,w,rfl,T,LL,_,_,_,e,T.cl,T.n4,_,K4,λx dx' hx hdx hne=> ?_⟩
 have s3:Same H (upd (upd H dx' (.own x)) x (.ins (a "Plank") dx' [])):=(AS hdx).trans (AS (by rw[AQ hne.symm];exact hx))
 refine⟨x,dx',n+r+c+r+c,w,by simp,TP,AM,by omega,b4,by omega,λcl H2 hcl P2 s4=>⟨rfl,q x cl H2 hx (s3.free hcl) P2 λb o eb=>s4 _ _ (s3 _ _ eb) (BT eb hx)⟩⟩
theorem Zm(h:K5 K a vs H Q E):vs.length=5:=by
 obtain⟨_,_,_,_,_,_,rfl,_⟩:=h
 rfl
theorem Zp(h:E7 K a vs H Q E):vs.length=3:=by
 obtain⟨_,_,_,_,_,_,_,rfl,_⟩:=h
 rfl
theorem Zq(h:MU K a vs H Q E):vs.length=2:=by
 obtain⟨_,_,_,_,_,_,rfl,_⟩:=h
 rfl
theorem Zv(h:IP K a vs H Q E):vs.length=2:=by
 obtain⟨_,_,_,_,_,_,rfl,_⟩:=h
 rfl
theorem Zw(h:MV K a vs H Q E):vs.length=2:=by
 obtain⟨_,_,_,_,_,_,rfl,_⟩:=h
 rfl
theorem Zx(h:IQ K a vs H Q E):vs.length=2:=by
 obtain⟨_,_,_,_,_,_,rfl,_⟩:=h
 rfl
theorem Zy(h:JO K a vs H Q E):vs.length=2:=by
 obtain⟨_,_,_,_,_,_,rfl,_⟩:=h
 rfl
theorem Zz(h:HQ K a vs H Q E):vs.length=1:=by
 obtain⟨_,_,_,_,_,rfl,_⟩:=h
 rfl
theorem zaa(h:MW K a vs H Q E):vs.length=1:=by
 obtain⟨_,_,_,_,_,rfl,_⟩:=h
 rfl
theorem zab(h:MX K a vs H Q E):vs.length=1:=by
 obtain⟨_,_,_,_,_,rfl,_⟩:=h
 rfl
theorem zac(h:MY K a vs H Q E):vs.length=1:=by
 obtain⟨_,_,_,_,_,rfl,_⟩:=h
 rfl
theorem m7:∀ {n:Nat} {v:V},GoodV n H v->∃ d,Dat K H n v d
 | _+1,.int i,_=>⟨_,Dat.int i⟩
 | _+1,.non,_=>⟨_,Dat.non⟩
 | _+1,.str z,h=>⟨.str z,.str z,h,Nat.zero_le _⟩
 | n+1,.ref p,⟨xs,h1,h2,h3⟩=>by
  have:∀ (l:List V),(∀ v∈l,GoodV n H v)->∃ ds,Paired (Dat K H n) l ds:=λl=>by
   induction l with
   | nil=>exact λ_=>⟨[],.nil⟩
   | cons x r ih =>
    intro h
    obtain⟨d,hd⟩:=m7 (h x (List.mem_cons_self ..))
    obtain⟨ds,hds⟩:=ih λv hv=>h v (List.mem_cons_of_mem _ hv)
    exact⟨d::ds,.cons hd hds⟩
  obtain⟨ds,hds⟩:=this xs h3
  exact⟨_,Dat.tup (SqT.of h1) hds⟩
theorem zad{n:Nat}{l:List V}(h:∀ v∈l,GoodV n H v):∃ ds,Paired (Dat K H n) l ds:=by
 induction l with
 | nil=>exact⟨[],.nil⟩
 | cons x r ih =>
  obtain⟨d,hd⟩:=m7 (K:=K) (h x (List.mem_cons_self ..))
  obtain⟨ds,hds⟩:=ih λv hv=>h v (List.mem_cons_of_mem _ hv)
  exact⟨d::ds,.cons hd hds⟩
def CP(H H':Hp):Prop:=∀ b xs,H b=some (.tup xs)->H' b=some (.tup xs)
theorem GoodV.keep{H H':Hp}(k:CP H H'):∀ {n:Nat} {v:V},GoodV n H v->GoodV n H' v
 | 0,_,h=>h
 | _+1,.int _,_=>trivial
 | _+1,.non,_=>trivial
 | _+1,.str _,h=>h
 | n+1,.ref p,⟨xs,h1,h2,h3⟩=>⟨xs,k _ _ h1,h2,λv hv=>(h3 v hv).keep k⟩
theorem GoodV.up{H:Hp}:∀ {n:Nat} {v:V},GoodV n H v->GoodV (n+1) H v
 | 0,_,h=>h.elim
 | _+1,.int _,_=>trivial
 | _+1,.non,_=>trivial
 | _+1,.str _,h=>h
 | n+1,.ref p,⟨xs,h1,h2,h3⟩=>⟨xs,h1,h2,λv hv=>(h3 v hv).up⟩
theorem Same.tk{H H':Hp}(s:Same H H'):CP H H':=λb xs e=>s _ _ e
theorem good7.keep{H H':Hp}{rows:List (List V)}(g:good7 H rows)(k:CP H H'):good7 H' rows:=λr hr v hv=>(g r hr v hv).keep k
theorem B2{c A B:Prop}[Decidable c](h:c)(x:A):if c then A else B:=by rw[if_pos h];exact x
theorem BQ{c A B:Prop}[Decidable c](h:¬ c)(x:B):if c then A else B:=by rw[if_neg h];exact x
theorem NmV.keep{H':Hp}{v:V}{c:GI}(k:CP H H')(h:NmV H v c):NmV H' v c:=by
 cases c with
 | none=>exact h
 | some c=>obtain⟨p,e,h1⟩:=h;exact⟨p,e,k _ _ h1⟩
theorem RcV.keep{H':Hp}{v:V}{c:EN}(k:CP H H')(h:RcV H v c):RcV H' v c:=by
 cases c with
 | none=>exact h
 | some c=>obtain⟨p,q,e,h1,h2⟩:=h;exact⟨p,q,e,k _ _ h1,k _ _ h2⟩
theorem PcV.keep{H':Hp}{v:V}{c:Option Str}(_:CP H H')(h:PcV H v c):PcV H' v c:=by
 cases c<;>exact h
theorem MkV.keep{H':Hp}{v:V}{c:Option Int}(_:CP H H')(h:MkV H v c):MkV H' v c:=by
 cases c<;>exact h
theorem LstAt.keep{α :Type}{R:Hp->V-> α ->Prop}{H':Hp}{p:Addr}{cs:List α}(h:LstAt R H p cs)(kr:∀ v c,R H v c->R H' v c)(kp:∀ o,H p=some o->H' p=some o):LstAt R H' p cs:=by
 obtain⟨vs,e,P⟩:=h
 exact⟨vs,kp _ e,Paired.mapP P λv c=>kr v c⟩
theorem FindsL.same{H':Hp}{l:Addr}{fs:List (List V)}(h:FindsL H l fs)(s:Same H H'):FindsL H' l fs:=by
 obtain⟨ps,e,P⟩:=h
 exact⟨ps,s _ _ e,Paired.mapP P λp f e=>s _ _ e⟩
theorem ViewAt.same{H':Hp}{x:Addr}{A:VA}{vw:Vw}(h:ViewAt a H x A vw)(s:Same H H'):ViewAt a H' x A vw:=by
 obtain⟨⟨dx,e⟩,h1,h2,h3,h4,h5,h6,h7,h8,ok⟩:=h
 exact⟨⟨dx,s _ _ e⟩,h1.keep (λv c=>NmV.keep s.tk) (λo=>s _ _),h2.keep (λv c=>RcV.keep s.tk) (λo=>s _ _),h3.keep (λv c=>PcV.keep s.tk) (λo=>s _ _),h4.keep (λv c=>MkV.keep s.tk) (λo=>s _ _),h5.keep (λv c=>MkV.keep s.tk) (λo=>s _ _),s _ _ h6,s _ _ h7,s _ _ h8,ok⟩
theorem LstAt.at{α :Type}{R:Hp->V->Option α ->Prop}{p:Addr}{cs:List (Option α)}{k:Nat}(h:LstAt R H p cs)(hk:k<cs.length):∃ vs v,H p=some (.lst vs)/\vs.length=cs.length/\vs[k]? =some v/\R H v (AF cs k):=by
 obtain⟨vs,e,P⟩:=h
 obtain⟨v,ev,hr⟩:=MP P (List.getElem?_eq_getElem hk)
 refine⟨vs,v,e,P.length,ev,?_⟩
 unfold AF
 rw[List.getElem?_eq_getElem hk]
 exact hr
theorem LE{l:List Nat}{k:Nat}{m:Nat}(h:l[k]? =some m):(AU l)[k]? =some (.int m):=by
 unfold AU
 rw[List.getElem?_map,h]
 rfl
theorem HV{n k:Nat}{f:Nat->Nat}(h:k<n):((List.range n).map f)[k]? =some (f k):=by
 rw[List.getElem?_map,List.getElem?_range h]
 rfl
theorem GJ{p:Addr}{n k:Nat}{f:Nat->Nat}{Q:VK}(h:H p=some (.lst (AU ((List.range n).map f))))(hk:k<n)(q:Q (.int (f k)) H):AI K (.ref p) (.int k) H Q :=
 BV (SqL.of h) (n:=k) rfl (LE (HV hk)) q
theorem zae{A:VA}:(vf A).lookup ("name_values":Str)=some (V.ref A.n):=by simp[vf]
theorem QD{A:VA}:(vf A).lookup ("record_values":Str)=some (V.ref A.r):=by
 simp[vf,List.lookup_cons,BJ (a:="record_values") (b:="name_values") (by decide +kernel)]
theorem zaf{A:VA}:(vf A).lookup ("piece_values":Str)=some (V.ref A.p):=by
 simp[vf,List.lookup_cons,BJ (a:="piece_values") (b:="name_values") (by decide +kernel),BJ (a:="piece_values") (b:="record_values") (by decide +kernel)]
theorem m8{A:VA}:(vf A).lookup ("record_marks":Str)=some (V.ref A.rm):=by
 simp[vf,List.lookup_cons,BJ (a:="record_marks") (b:="name_values") (by decide +kernel),BJ (a:="record_marks") (b:="record_values") (by decide +kernel),BJ (a:="record_marks") (b:="piece_values") (by decide +kernel)]
theorem m9{A:VA}:(vf A).lookup ("piece_marks":Str)=some (V.ref A.pm):=by
 simp[vf,List.lookup_cons,BJ (a:="piece_marks") (b:="name_values") (by decide +kernel),BJ (a:="piece_marks") (b:="record_values") (by decide +kernel),BJ (a:="piece_marks") (b:="piece_values") (by decide +kernel),BJ (a:="piece_marks") (b:="record_marks") (by decide +kernel)]
theorem VO{A:VA}:(vf A).lookup ("leads":Str)=some (V.ref A.ld):=by
 simp[vf,List.lookup_cons,BJ (a:="leads") (b:="name_values") (by decide +kernel),BJ (a:="leads") (b:="record_values") (by decide +kernel),BJ (a:="leads") (b:="piece_values") (by decide +kernel),BJ (a:="leads") (b:="record_marks") (by decide +kernel),BJ (a:="leads") (b:="piece_marks") (by decide +kernel)]
theorem nB{A:VA}:(vf A).lookup ("namings":Str)=some (V.ref A.ng):=by
 simp[vf,List.lookup_cons,BJ (a:="namings") (b:="name_values") (by decide +kernel),BJ (a:="namings") (b:="record_values") (by decide +kernel),BJ (a:="namings") (b:="piece_values") (by decide +kernel),BJ (a:="namings") (b:="record_marks") (by decide +kernel),BJ (a:="namings") (b:="piece_marks") (by decide +kernel),BJ (a:="namings") (b:="leads") (by decide +kernel)]
theorem zag{A:VA}:(vf A).lookup ("reached":Str)=some (V.ref A.rh):=by
 simp[vf,List.lookup_cons,BJ (a:="reached") (b:="name_values") (by decide +kernel),BJ (a:="reached") (b:="record_values") (by decide +kernel),BJ (a:="reached") (b:="piece_values") (by decide +kernel),BJ (a:="reached") (b:="record_marks") (by decide +kernel),BJ (a:="reached") (b:="piece_marks") (by decide +kernel),BJ (a:="reached") (b:="leads") (by decide +kernel),BJ (a:="reached") (b:="namings") (by decide +kernel)]
theorem J1{A:VA}{x:Str}(h:(EM x "name_values" || EM x "record_values" || EM x "piece_values" || EM x "record_marks" || EM x "piece_marks" || EM x "leads" || EM x "namings" || EM x "reached")=false):(vf A).lookup x=none:=by
 simp only[Bool.or_eq_false_iff]at h
 obtain⟨⟨⟨⟨⟨⟨⟨h1,h2⟩,h3⟩,h4⟩,h5⟩,h6⟩,h7⟩,h8⟩:=h
 simp[vf,List.lookup_cons,BJ h1,BJ h2,BJ h3,BJ h4,BJ h5,BJ h6,BJ h7,BJ h8]
section
variable{tt:TT}{te:TE}{cap:List Nat}{σ:St}
theorem FC{H0 H':Hp}{l:Addr}{o:HO}(s:Same H0 H')(h:H' l=none):Same H0 (upd H' l o):=s.trans (AS h)
def FnW(H:Hp)(is:List Nat)(p:Nat->Bool)(f:Nat->List V)(i:Nat)(ys:List V)(H':Hp):Prop:=Same H H'/\∃ ps:List Addr,ys=ps.map V.ref/\Paired (λq g=>H' q=some (.tup g)) ps (((is.take i).filter p).map f)
theorem ER{α :Type}{l:List α}{i:Nat}{x: α}(h:l[i]? =some x):l.take (i+1)=l.take i++[x]:=by
 obtain⟨g1,g2⟩:=List.getElem?_eq_some_iff.mp h
 rw[<-g2,List.take_append_getElem]
theorem FnW.yes{is:List Nat}{p:Nat->Bool}{f:Nat->List V}{i k:Nat}{ys:List V}{H':Hp}{t:Addr}(h:FnW H is p f i ys H')(hk:is[i]? =some k)(hp:p k=true)(ht:H' t=none):FnW H is p f (i+1) (ys++[.ref t]) (upd H' t (.tup (f k))):=by
 obtain⟨s,ps,e,P⟩:=h
 refine⟨FC s ht,ps++[t],by rw[e,List.map_append];rfl,?_⟩
 rw[ER hk,List.filter_append,List.map_append]
 have:([k].filter p).map f=[f k]:=by simp[hp]
 rw[this]
 exact Paired.snoc (Paired.mapP P λq g e=>AS ht _ _ e) AM
theorem FnW.no{is:List Nat}{p:Nat->Bool}{f:Nat->List V}{i k:Nat}{ys:List V}{H':Hp}(h:FnW H is p f i ys H')(hk:is[i]? =some k)(hp:p k=false):FnW H is p f (i+1) ys H':=by
 obtain⟨s,ps,e,P⟩:=h
 refine⟨s,ps,e,?_⟩
 rw[ER hk,List.filter_append,List.map_append]
 have:([k].filter p).map f=[]:=by simp[hp]
 rw[this,List.append_nil]
 exact P
theorem FnW.len{is:List Nat}{p:Nat->Bool}{f:Nat->List V}{i:Nat}{ys:List V}{H':Hp}(h:FnW H is p f i ys H'):ys.length<=i:=by
 obtain⟨s,ps,e,P⟩:=h
 rw[e,List.length_map,P.length,List.length_map]
 exact Nat.le_trans (List.length_filter_le ..) (by rw[List.length_take];omega)
theorem FnW.fin{is:List Nat}{p:Nat->Bool}{f:Nat->List V}{ys:List V}{H':Hp}{l:Addr}(h:FnW H is p f is.length ys H')(hl:H' l=none):H l=none/\Same H (upd H' l (.lst ys))/\FindsL (upd H' l (.lst ys)) l ((is.filter p).map f):=by
 obtain⟨s,ps,e,P⟩:=h
 rw[List.take_length]at P
 subst e
 exact⟨s.free hl,FC s hl,ps,AM,Paired.mapP P λq g e=>AS hl _ _ e⟩
theorem G4{b:Addr}{is:List Nat}(p:Nat->Bool)(f:Nat->List V)(hb:H b=some (.lst (AU is)))(hn:is.length<=1000)
  (ht:∀ k∈is,∀ H',Same H H'->∀ QB:Bool->Hp->Prop,QB (p k) H'->tt (some (.int (k:Int))::BI cap σ) H' QB)
  (he:∀ k∈is,p k=true->∀ H' (Q':VK),Same H H'->(∀ t,H' t=none->Q' (.ref t) (upd H' t (.tup (f k))))->te (some (.int (k:Int))::BI cap σ) H' Q') (hd:newF ((is.filter p).map f) H Q):DR (FI K b) (AJ 0) tt te 1 cap σ H Q:=by
 have hl:(AU is).length=is.length:=by simp[AU]
 have at':∀ {i:Nat} {x:V},(AU is)[i]? =some x->∃ k,is[i]? =some k/\x=.int k:=λe=>by
  unfold AU at e
  rw[List.getElem?_map,Option.map_eq_some_iff]at e
  obtain⟨k,h1,h2⟩:=e
  exact⟨k,h1,h2.symm⟩
 refine bW (xs:=AU is) (λi=>match is[i]? with
  | some k=>p k
  | none=>false) (small _ (by omega)) (FnW H is p f) ⟨Same.refl _,[],rfl,.nil⟩ (λi ys H' _ h=>⟨SqL.of (h.1 _ _ hb),h.len⟩) (λi x ys H' hx h QB qb=> ?_) (λi x ys H' hx hp h=> ?_) (λi x ys H' hx hp h=> ?_) (λys H' h q hq=> ?_)
 ·obtain⟨k,ek,rfl⟩:=at' hx
  simp only[ek]at qb
  exact ht k (List.mem_of_getElem? ek) H' h.1 QB qb
 ·obtain⟨k,ek,rfl⟩:=at' hx
  simp only[ek]at hp
  exact he k (List.mem_of_getElem? ek) hp H' _ h.1 λt ht0=>h.yes ek hp ht0
 ·obtain⟨k,ek,rfl⟩:=at' hx
  simp only[ek]at hp
  exact h.no ek hp
 ·rw[hl]at h
  obtain⟨h1,h2,h3⟩:=h.fin hq
  exact hd q _ h1 h2 h3
theorem zah{n:Nat}(p:Nat->Bool)(f:Nat->List V)(hn:n<=1000)
  (ht:∀ k,k<n->∀ H',Same H H'->∀ QB:Bool->Hp->Prop,QB (p k) H'->tt (some (.int (k:Int))::BI cap σ) H' QB)
  (he:∀ k,k<n->p k=true->∀ H' (Q':VK),Same H H'->(∀ t,H' t=none->Q' (.ref t) (upd H' t (.tup (f k))))->te (some (.int (k:Int))::BI cap σ) H' Q') (hd:newF (B1 n p f) H Q):DR (DZ 0 n) (AJ 0) tt te 1 cap σ H Q:=by
 refine Bm (n:=n) p (small _ (by omega)) (FnW H (List.range n) p f) ⟨Same.refl _,[],rfl,.nil⟩ (λi ys H' _ h=>h.len) (λi ys H' hi h QB qb=>ht i hi H' h.1 QB qb) (λi ys H' hi hp h=>he i hi hp H' _ h.1 λt ht0=>h.yes (List.getElem?_range hi) hp ht0) (λi ys H' hi hp h=>h.no (List.getElem?_range hi) hp) (λys H' h q hq=> ?_)
 have h:FnW H (List.range n) p f (List.range n).length ys H':=by rw[List.length_range];exact h
 obtain⟨h1,h2,h3⟩:=h.fin hq
 exact hd q _ h1 h2 h3
theorem NS{b:Addr}{xs:List V}(p:Nat->Bool)(hb:H b=some (.lst xs))(hn:xs.length<=1000)
  (ht:∀ i x,xs[i]? =some x->∀ H',Same H H'->∀ QB:Bool->Hp->Prop,QB (p i) H'->tt (some (.int (i:Int))::some x::BI cap σ) H' QB) (hd:newL (AU ((List.range xs.length).filter p)) H Q):DR (JM K b) (E4 K 2 (DG (AJ 0) (DG (AJ 1) E3))) tt (AA 0) 2 cap σ H Q:=by
 refine ST (xs:=xs) p (small _ (by omega)) (λi ys H'=>Same H H'/\ys=AU ((List.range i).filter p)) ⟨Same.refl _,rfl⟩ (λi ys H' _ ⟨s,e⟩=>⟨SqL.of (s _ _ hb),?_⟩) (λi ys H' t o ⟨s,e⟩ h=>⟨FC s h,e⟩) (λi x ys H' hx ⟨s,e⟩ QB qb=>ht i x hx H' s QB qb) (λi x ys H' hx hp ⟨s,e⟩=>by rw[aY];exact⟨s,by rw[e];unfold AU;rw[List.range_succ,List.filter_append,List.map_append];simp[hp]⟩) (λi x ys H' hx hp ⟨s,e⟩=>⟨s,?_⟩) (λys H' ⟨s,e⟩ q hq=> ?_)
 ·rw[e]
  unfold AU
  rw[List.length_map]
  exact Nat.le_trans (List.length_filter_le ..) (by rw[List.length_range];omega)
 ·rw[e]
  unfold AU
  rw[List.range_succ,List.filter_append,List.map_append]
  simp[hp]
 ·subst e
  exact hd q _ (s.free hq) (FC s hq) AM
end
theorem ViewAt.rl{x:Addr}{A:VA}{vw:Vw}(h:ViewAt a H x A vw):∃ vs,H A.r=some (.lst vs)/\vs.length=vw.rc.length:=by
 obtain⟨vs,e,P⟩:=h.r
 exact⟨vs,e,P.length⟩
theorem IV{v:V}{c:EN}(h:RcV H v c):decide (v=.non)=c.isNone:=by
 cases c with
 | none=>rw[show v=.non from h];rfl
 | some c=>obtain⟨p,q,rfl,_⟩:=h;rfl
theorem VP{v:V}{c:GI}(h:NmV H v c):decide (v=.non)=c.isNone:=by
 cases c with
 | none=>rw[show v=.non from h];rfl
 | some c=>obtain⟨p,rfl,_⟩:=h;rfl
theorem nD{v:V}{c:Option Str}(h:PcV H v c):decide (v=.non)=c.isNone:=by
 cases c with
 | none=>rw[show v=.non from h];rfl
 | some c=>rw[show v=.str c from h];rfl
theorem zai(h:JU K a vs H Q E):S9 K a (λ_=>E) (A6 Q) (A5 ["self","record"] vs) H:=by
 obtain⟨x,A,vw,r,c,rfl,T,I,hc,q⟩:=h
 obtain⟨dx,e⟩:=I.ob
 have hr:r<vw.rc.length:=by
  unfold AF at hc
  cases e2:vw.rc[r]? with
  | none=>rw[e2]at hc;cases hc
  | some _=>exact(List.getElem?_eq_some_iff.mp e2).1
 obtain⟨us,v,e1,hl,ev,hv⟩:=I.r.at hr
 rw[hc]at hv
 obtain⟨p,q',rfl,h1,h2⟩:=hv
 push_cast[S9,↓Dl]
 exact⟨_,_,_,e,T.cl,T.n2,_,QD,BV (SqL.of e1) (n:=r) rfl ev (BX h1 (n:=0) rfl rfl q)⟩
theorem zaj(h:JU K a vs H Q E):vs.length=2:=by
 obtain⟨_,_,_,_,_,rfl,_⟩:=h
 rfl
theorem zak(h:JT K a vs H Q E):S7 K a (λ_=>E) (A6 Q) (A5 ["self"] vs) H:=by
 obtain⟨x,A,vw,rfl,T,I,q⟩:=h
 obtain⟨dx,e⟩:=I.ob
 obtain⟨us,e1,P⟩:=I.r
 have br:=I.ok.br
 have hl:=P.length
 push_cast[S7,↓Dj]
 refine⟨_,_,_,e,T.cl,T.n2,_,QD,A.r,rfl,⟨_,SqL.of e1⟩,NS (λr=>(AF vw.rc r).isSome) e1 (by omega) (λi v hv H' s QB qb=> ?_) ?_⟩
 ·have hi:=(List.getElem?_eq_some_iff.mp hv).1
  obtain⟨us',v',e1',_,ev,hr⟩:=I.r.at (k:=i) (by omega)
  rw[e1]at e1';cases e1'
  rw[hv]at ev;cases ev
  push_cast[]
  rw[IV hr]
  simpa using qb
 ·rw[hl];exact q
theorem zal(h:JT K a vs H Q E):vs.length=1:=by
 obtain⟨_,_,_,rfl,_⟩:=h
 rfl
theorem QE(n:Nat):decide ((0:Int)<(n:Int))=decide (0<n):=by simp
theorem zam(n:Nat):decide ((1:Int)<(n:Int))=decide (1<n):=by
 rw[decide_eq_decide];omega
theorem nE(n:Nat):decide ((n:Int)=(0:Int))=decide (n=0):=by simp
theorem B5(l:List Nat):(AU l).length=l.length:=by simp[AU]
theorem GK(n:Nat)(f:Nat->Nat):((List.range n).map f).length=n:=by simp
theorem zan(h:IS K a vs H Q E):S8 K a (λ_=>E) (A6 Q) (A5 ["self"] vs) H:=by
 obtain⟨x,A,vw,rfl,T,I,q⟩:=h
 obtain⟨dx,e⟩:=I.ob
 have bp:=I.ok.bp
 have e1:=I.ng
 push_cast[S8,↓Dk]
 refine⟨_,_,_,e,T.cl,T.n7,_,nB,A.ng,rfl,⟨_,SqL.of e1⟩,NS (λp=>decide (0<CG vw p)) e1 (by rw[B5,GK];omega) (λi v hv H' s QB qb=> ?_) ?_⟩
 ·have hi:=(List.getElem?_eq_some_iff.mp hv).1
  rw[B5,GK]at hi
  rw[LE (HV hi)]at hv
  cases hv
  push_cast[]
  rw[QE]
  exact qb
 ·rw[B5,GK];exact q
theorem zao(h:IS K a vs H Q E):vs.length=1:=by
 obtain⟨_,_,_,rfl,_⟩:=h
 rfl
theorem zap(h:MZ K a vs H Q E):S6 K a (λ_=>E) (A6 Q) (A5 ["self"] vs) H:=by
 obtain⟨x,ar,al,vw,rfl,T,⟨dx,fs,e,l1⟩,⟨dx',fs',e',l2⟩,hr,hal,br,q⟩:=h
 rw[e]at e'
 cases e'
 have hr':=hr
 obtain⟨us,e1,P⟩:=hr
 have hl:=P.length
 push_cast[S6,↓Dh]
 refine⟨_,_,_,e,T.cl,T.n2,_,l1,ar,rfl,⟨_,SqL.of e1⟩,?_⟩
 refine ST (xs:=us) (λr=>decide (0<led vw r)) (small _ (by omega)) (λi ys H'=>Same H H'/\Paired (RcV H') ys (((List.range i).filter λr=>decide (0<led vw r)).map (AF vw.rc))) ⟨Same.refl _,.nil⟩ (λi ys H' _ ⟨s,e⟩=>⟨SqL.of (s _ _ e1),?_⟩) (λi ys H' t o ⟨s,P'⟩ h=>⟨FC s h,Paired.mapP P' λv c=>RcV.keep (AS h).tk⟩) (λi v ys H' hv ⟨s,P'⟩ QB qb=> ?_) (λi v ys H' hv hp ⟨s,P'⟩=> ?_) (λi v ys H' hv hp ⟨s,P'⟩=>⟨s,?_⟩) (λys H' ⟨s,P'⟩ p hp=> ?_)
 ·rw[e.length,List.length_map]
  exact Nat.le_trans (List.length_filter_le ..) (by rw[List.length_range];omega)
 ·have hi:=(List.getElem?_eq_some_iff.mp hv).1
  push_cast[BI]
  refine⟨_,_,_,s _ _ e,T.cl,T.n6,_,l2,GJ (s _ _ hal) (by omega) ?_⟩
  push_cast[]
  rw[QE]
  exact qb
 ·have hi:=(List.getElem?_eq_some_iff.mp hv).1
  obtain⟨us',v',e1',_,ev,hrv⟩:=hr'.at (k:=i) (by omega)
  rw[e1]at e1';cases e1'
  rw[hv]at ev;cases ev
  push_cast[]
  refine⟨s,?_⟩
  rw[List.range_succ,List.filter_append,List.map_append]
  have:(([i].filter λr=>decide (0<led vw r)).map (AF vw.rc))=[AF vw.rc i]:=by simp[hp]
  rw[this]
  exact Paired.snoc P' (RcV.keep s.tk hrv)
 ·rw[List.range_succ,List.filter_append,List.map_append]
  have:(([i].filter λr=>decide (0<led vw r)).map (AF vw.rc))=[]:=by simp[hp]
  rw[this,List.append_nil]
  exact P'
 ·rw[hl]at P'
  exact q p _ (s.free hp) (FC s hp) ⟨ys,AM,Paired.mapP P' λv c=>RcV.keep (AS hp).tk⟩
theorem zaq(h:MZ K a vs H Q E):vs.length=1:=by
 obtain⟨_,_,_,_,rfl,_⟩:=h
 rfl
theorem VQ{H0:Hp}{v:V}{c:Option Int}{Q:VK}(h:MkV H0 v c)(q:Q (.bl (decide (c=some 1))) H):BL K v (.int 1) H Q:=by
 cases c with
 | none =>
  rw[show v=.non from h,bB]
  simpa using q
 | some j =>
  rw[show v=.int j from h,bA]
  simpa using q
theorem nF{H0:Hp}{v:V}{c:Option Int}{Q:VK}(h:MkV H0 v c)(q:Q (.bl (!decide (c=some 1))) H):CJ K v (.int 1) H Q:=by
 cases c with
 | none =>
  rw[show v=.non from h,bD]
  simpa using q
 | some j =>
  rw[show v=.int j from h,bC]
  simpa using q
theorem FW{n:Nat}{p q r:Nat->Bool}{f:Nat->List V}(h:∀ k,k<n->(p k && q k)=r k):(((List.range n).filter p).filter q).map f=B1 n r f:=by
 unfold B1
 rw[List.filter_filter]
 congr 1
 refine List.filter_congr λk hk=> ?_
 rw[Bool.and_comm]
 exact h k (List.mem_range.mp hk)
theorem GL{n:Nat}{p:Nat->Bool}(h:n<=100):((List.range n).filter p).length<=1000:=Nat.le_trans (List.length_filter_le ..) (by rw[List.length_range];omega)
theorem DM{n k:Nat}{p:Nat->Bool}(h:k∈(List.range n).filter p):k<n/\p k=true:=by
 obtain⟨h1,h2⟩:=List.mem_filter.mp h
 exact⟨List.mem_range.mp h1,h2⟩
theorem newF.of{fs:List (List V)}{H1:Hp}(q:newF fs H Q)(s:Same H H1):newF fs H1 Q:=λl H' hl s' F=>q l H' (s.free hl) (s.trans s') F
theorem newL.of{xs:List V}{H1:Hp}(q:newL xs H Q)(s:Same H H1):newL xs H1 Q:=λl H' hl s' F=>q l H' (s.free hl) (s.trans s') F
theorem zar(h:M6 K a vs H Q E):TD K a (λ_=>E) (A6 Q) (A5 ["view","marked"] vs) H:=by
 obtain⟨x,A,vw,rfl,T,I,q⟩:=h
 obtain⟨dx,e⟩:=I.ob
 obtain⟨us,e1,P⟩:=I.pm
 have bp:=I.ok.bp
 have l2:=I.ok.l2
 have hl:=P.length
 push_cast[TD,↓Eg]
 refine⟨_,_,_,e,T.cl,T.n5,_,m9,A.pm,rfl,⟨_,SqL.of e1⟩,NS (λp=>decide (AF vw.pm p=some 1)) e1 (by omega) (λi v hv H' s QB qb=> ?_) λl H1 hl1 s1 el=> ?_⟩
 ·have hi:=(List.getElem?_eq_some_iff.mp hv).1
  obtain⟨us',v',e1',_,ev,hr⟩:=I.pm.at (k:=i) (by omega)
  rw[e1]at e1';cases e1'
  rw[hv]at ev;cases ev
  push_cast[]
  exact VQ hr ⟨_,rfl,qb⟩
 ·rw[hl,l2]at el
  push_cast[↓Eh]
  refine .inl ⟨⟨_,SqL.of el⟩,G4 (λp=>decide (EH vw p=0)) (λp=>[.str "left",.str "piece",.int p]) el (GL bp) (λk hk H' s QB qb=> ?_) (λk hk hp H' Q' s q'=> ?_) ?_⟩
  ·obtain⟨hk,_⟩:=DM hk
   have s':=s1.trans s
   push_cast[BI]
   refine⟨_,_,_,s' _ _ e,T.cl,T.n8,_,zag,GJ (s' _ _ I.rh) hk ?_⟩
   push_cast[]
   rw[nE]
   exact qb
  ·push_cast[]
   exact⟨by decide,q'⟩
  ·rw[FW λk _=>rfl]
   exact q.of s1
theorem zas(h:M6 K a vs H Q E):vs.length=1:=by
 obtain⟨_,_,_,rfl,_⟩:=h
 rfl
theorem zat(h:M7 K a vs H Q E):TF K a (λ_=>E) (A6 Q) (A5 ["view","marked"] vs) H:=by
 obtain⟨x,A,vw,rfl,T,I,q⟩:=h
 obtain⟨dx,e⟩:=I.ob
 obtain⟨us,e1,P⟩:=I.rm
 have bp:=I.ok.br
 have l2:=I.ok.l1
 have hl:=P.length
 push_cast[TF,↓Ej]
 refine⟨_,_,_,e,T.cl,T.n4,_,m8,A.rm,rfl,⟨_,SqL.of e1⟩,NS (λp=>decide (AF vw.rm p=some 1)) e1 (by omega) (λi v hv H' s QB qb=> ?_) λl H1 hl1 s1 el=> ?_⟩
 ·have hi:=(List.getElem?_eq_some_iff.mp hv).1
  obtain⟨us',v',e1',_,ev,hr⟩:=I.rm.at (k:=i) (by omega)
  rw[e1]at e1';cases e1'
  rw[hv]at ev;cases ev
  push_cast[]
  exact VQ hr ⟨_,rfl,qb⟩
 ·rw[hl,l2]at el
  push_cast[↓Ek]
  refine .inl ⟨⟨_,SqL.of el⟩,G4 (λr=>(AF vw.rc r).isNone) (λr=>[.str "marked",.int r]) el (GL bp) (λk hk H' s QB qb=> ?_) (λk hk hp H' Q' s q'=> ?_) ?_⟩
  ·obtain⟨hk,_⟩:=DM hk
   have s':=s1.trans s
   have I':=I.same s'
   obtain⟨us',v',e1',_,ev,hr⟩:=I'.r.at hk
   push_cast[BI]
   refine⟨_,_,_,s' _ _ e,T.cl,T.n2,_,QD,BV (SqL.of e1') (n:=k) rfl ev ?_⟩
   push_cast[]
   rw[IV hr]
   exact qb
  ·push_cast[]
   exact⟨by decide,q'⟩
  ·rw[FW λk _=>rfl]
   exact q.of s1
theorem zau(h:M7 K a vs H Q E):vs.length=1:=by
 obtain⟨_,_,_,rfl,_⟩:=h
 rfl
theorem J5{α β :Type}{F: α -> β ->Prop}:∀ {l l':List α} {m m':List β},Paired F l m->Paired F l' m'->Paired F (l++l') (m++m')
 | _,_,_,_,.nil,h=>h
 | _,_,_,_,.cons x r,h=>.cons x (J5 r h)
theorem DF{n:Nat}{p:Nat->Bool}{f:Nat->List V}(h:n<=100):(B1 n p f).length<=100:=by
 unfold B1
 rw[List.length_map]
 exact Nat.le_trans (List.length_filter_le ..) (by rw[List.length_range];exact h)
theorem FD{l1 l2:Addr}{f1 f2:List (List V)}{Q:VK}(h1:FindsL H l1 f1)(h2:FindsL H l2 f2)(hn:f1.length+f2.length<=10000)(q:newF (f1++f2) H Q):BE K (.ref l1) (.ref l2) H Q:=by
 obtain⟨p1,e1,P1⟩:=h1
 obtain⟨p2,e2,P2⟩:=h2
 refine .inl ⟨l1,l2,_,_,rfl,rfl,e1,e2,small _ (by rw[List.length_map,List.length_map,P1.length,P2.length];omega),λp hp=> ?_⟩
 exact q p _ hp (AS hp) ⟨p1++p2,by rw[AM,List.map_append],Paired.mapP (J5 P1 P2) λx f e=>AS hp _ _ e⟩
theorem NT{vw:Vw}(ok:D8 vw):(FU vw).length<=200/\(E9 vw).length<=300/\(FV vw).length<=200/\(JP vw).length<=200/\(JQ vw).length<=100/\(JR vw).length<=100:=by
 have i1:=@DF
 unfold FU E9 FV JP JQ JR
 simp only[List.length_append]
 have a1:=DF (p:=EI vw) (f:=λk=>[.str "lost",.int k]) ok.bn
 have a2:=DF (p:=EO vw) (f:=λk=>[.str "twice",.int k]) ok.bn
 have a3:=DF (p:=λp=>decide (1<CG vw p)) (f:=λp=>[.str "shared",.int p]) ok.bp
 have a4:=DF (p:=λp=>decide (0<CG vw p) && (AF vw.pc p).isNone) (f:=λp=>[.str "empty",.int p]) ok.bp
 have a5:=DF (p:=EQ vw) (f:=λr=>[.str "few",.int r]) ok.br
 have a6:=DF (p:=λr=>decide (0<led vw r) && !decide (AF vw.rm r=some 1)) (f:=λr=>[.str "free",.str "record",.int r]) ok.br
 have a7:=DF (p:=λp=>decide (0<CG vw p) && !decide (AF vw.pm p=some 1)) (f:=λp=>[.str "free",.str "piece",.int p]) ok.bp
 have a8:=DF (p:=D4 vw) (f:=λr=>[.str "many",.int r,.int (led vw r)]) ok.br
 have a9:=DF (p:=λr=>(AF vw.rc r).isSome && decide (led vw r=0)) (f:=λr=>[.str "left",.str "record",.int r]) ok.br
 have b1:=DF (p:=λp=>decide (AF vw.pm p=some 1) && decide (EH vw p=0)) (f:=λp=>[.str "left",.str "piece",.int p]) ok.bp
 have b2:=DF (p:=λr=>decide (AF vw.rm r=some 1) && (AF vw.rc r).isNone) (f:=λr=>[.str "marked",.int r]) ok.br
 omega
theorem zav(h:JV K a vs H Q E):UR K a (λ_=>E) (A6 Q) (A5 ["view"] vs) H:=by
 obtain⟨x,A,vw,rfl,T,I,q⟩:=h
 obtain⟨n1,n2,n3,_⟩:=NT I.ok
 push_cast[UR,↓Nb]
 refine⟨x,A,vw,rfl,T,I,λl1 H1 h1 s1 F1=>⟨x,A,vw,rfl,T,I.same s1,λl2 H2 h2 s2 F2=>FD (F1.same s2) F2 (by omega) λl3 H3 h3 s3 F3=>⟨x,A,vw,rfl,T,I.same ((s1.trans s2).trans s3),λl4 H4 h4 s4 F4=>FD (F3.same s4) F4 (by simp only[List.length_append];omega) ?_⟩⟩⟩
 exact q.of (((s1.trans s2).trans s3).trans s4)
theorem zaw(h:JV K a vs H Q E):vs.length=1:=by
 obtain⟨_,_,_,rfl,_⟩:=h
 rfl
theorem zax(h:M8 K a vs H Q E):US K a (λ_=>E) (A6 Q) (A5 ["view"] vs) H:=by
 obtain⟨x,A,vw,rfl,T,I,q⟩:=h
 obtain⟨_,_,_,n1,n2,n3⟩:=NT I.ok
 push_cast[US,↓Nd]
 refine⟨x,A,vw,rfl,T,I,λl1 H1 h1 s1 F1=>⟨x,A,vw,rfl,T,I.same s1,λl2 H2 h2 s2 F2=>FD (F1.same s2) F2 (by omega) λl3 H3 h3 s3 F3=>⟨x,A,vw,rfl,T,I.same ((s1.trans s2).trans s3),λl4 H4 h4 s4 F4=>FD (F3.same s4) F4 (by simp only[List.length_append];omega) ?_⟩⟩⟩
 exact q.of (((s1.trans s2).trans s3).trans s4)
theorem zay(h:M8 K a vs H Q E):vs.length=1:=by
 obtain⟨_,_,_,rfl,_⟩:=h
 rfl
theorem zaz(h:M4 K a vs H Q E):T9 K a (λ_=>E) (A6 Q) (A5 ["view","led_to","records","pieces"] vs) H:=by
 obtain⟨x,A,vw,rfl,T,I,q⟩:=h
 obtain⟨dx,e⟩:=I.ob
 have br:=I.ok.br
 have bp:=I.ok.bp
 push_cast[T9,↓Hm]
 refine⟨_,_,_,e,T.cl,T.n6,_,VO,A.ld,rfl,⟨_,SqL.of I.ld⟩,NS (λp=>decide (0<led vw p)) I.ld (by rw[B5,GK];omega) (λi v hv H' s QB qb=> ?_) λl H1 hl1 s1 el=> ?_⟩
 ·have hi:=(List.getElem?_eq_some_iff.mp hv).1
  rw[B5,GK]at hi
  rw[LE (HV hi)]at hv
  cases hv
  push_cast[]
  rw[QE]
  exact qb
 ·rw[B5,GK]at el
  push_cast[↓Hq]
  refine .inl ⟨⟨_,SqL.of el⟩,G4 (λr=> !decide (AF vw.rm r=some 1)) (λr=>[.str "free",.str "record",.int r]) el (GL br) (λk hk H' s QB qb=> ?_) (λk hk hp H' Q' s q'=> ?_) ?_⟩
  ·obtain⟨hk,_⟩:=DM hk
   have s':=s1.trans s
   have I':=I.same s'
   obtain⟨us',v',e1',_,ev,hr⟩:=I'.rm.at (k:=k) (by rw[I.ok.l1];exact hk)
   push_cast[BI]
   refine⟨_,_,_,s' _ _ e,T.cl,T.n4,_,m8,BV (SqL.of e1') (n:=k) rfl ev ?_⟩
   exact nF hr ⟨_,rfl,qb⟩
  ·push_cast[]
   exact⟨by decide,q'⟩
  rw[FW λk _=>rfl]
  intro l2 H2 hl2 s2 F2
  have I2:=I.same (s1.trans s2)
  obtain⟨dx2,e2⟩:=I2.ob
  push_cast[↓Hv]
  refine⟨_,_,e2,J1 (by decide +kernel),x,A,vw,rfl,T,I2,λl3 H3 hl3 s3 el3=>⟨l3,rfl,.inl ⟨⟨_,SqL.of el3⟩,G4 (λp=> !decide (AF vw.pm p=some 1)) (λp=>[.str "free",.str "piece",.int p]) el3 (GL bp) (λk hk H' s QB qb=> ?_) (λk hk hp H' Q' s q'=> ?_) ?_⟩⟩⟩
  ·obtain⟨hk,_⟩:=DM hk
   have I':=(I2.same s3).same s
   obtain⟨dx',e'⟩:=I'.ob
   obtain⟨us',v',e1',_,ev,hr⟩:=I'.pm.at (k:=k) (by rw[I.ok.l2];exact hk)
   push_cast[BI]
   refine⟨_,_,_,e',T.cl,T.n5,_,m9,BV (SqL.of e1') (n:=k) rfl ev ?_⟩
   exact nF hr ⟨_,rfl,qb⟩
  ·push_cast[]
   exact⟨by decide,q'⟩
  rw[FW λk _=>rfl]
  intro l4 H4 hl4 s4 F4
  push_cast[↓Hw]
  have n1:=DF (p:=λr=>decide (0<led vw r) && !decide (AF vw.rm r=some 1)) (f:=λr=>[.str "free",.str "record",.int r]) br
  have n2:=DF (p:=λp=>decide (0<CG vw p) && !decide (AF vw.pm p=some 1)) (f:=λp=>[.str "free",.str "piece",.int p]) bp
  exact FD (F2.same (s3.trans s4)) F4 (by omega) (q.of (((s1.trans s2).trans s3).trans s4))
theorem za0(h:M4 K a vs H Q E):vs.length=1:=by
 obtain⟨_,_,_,rfl,_⟩:=h
 rfl
theorem za1(h:M3 K a vs H Q E):T8 K a (λ_=>E) (A6 Q) (A5 ["view","shared","empty","few"] vs) H:=by
 obtain⟨x,A,vw,rfl,T,I,q⟩:=h
 obtain⟨dx,e⟩:=I.ob
 have br:=I.ok.br
 have bp:=I.ok.bp
 push_cast[T8,↓Hh]
 refine⟨_,_,e,J1 (by decide +kernel),x,A,vw,rfl,T,I,λl1 H1 hl1 s1 el1=>⟨l1,rfl,.inl ⟨⟨_,SqL.of el1⟩,G4 (λp=>decide (1<CG vw p)) (λp=>[.str "shared",.int p]) el1 (GL bp) (λk hk H' s QB qb=> ?_) (λk hk hp H' Q' s q'=> ?_) ?_⟩⟩⟩
 ·obtain⟨hk,_⟩:=DM hk
  have I':=(I.same s1).same s
  obtain⟨dx',e'⟩:=I'.ob
  push_cast[BI]
  refine⟨_,_,_,e',T.cl,T.n7,_,nB,GJ I'.ng hk ?_⟩
  push_cast[]
  rw[zam]
  exact qb
 ·push_cast[]
  exact⟨by decide,q'⟩
 rw[FW (r:=λp=>decide (1<CG vw p)) λk _=>by
  by_cases h:1<CG vw k
  ·simp[h];omega
  ·simp[h]]
 intro l2 H2 hl2 s2 F2
 have I2:=I.same (s1.trans s2)
 obtain⟨dx2,e2⟩:=I2.ob
 push_cast[↓Hj]
 refine⟨_,_,e2,J1 (by decide +kernel),x,A,vw,rfl,T,I2,λl3 H3 hl3 s3 el3=>⟨l3,rfl,.inl ⟨⟨_,SqL.of el3⟩,G4 (λp=>(AF vw.pc p).isNone) (λp=>[.str "empty",.int p]) el3 (GL bp) (λk hk H' s QB qb=> ?_) (λk hk hp H' Q' s q'=> ?_) ?_⟩⟩⟩
 ·obtain⟨hk,_⟩:=DM hk
  have I':=(I2.same s3).same s
  obtain⟨dx',e'⟩:=I'.ob
  obtain⟨us',v',e1',_,ev,hr⟩:=I'.p.at hk
  push_cast[BI]
  refine⟨_,_,_,e',T.cl,T.n3,_,zaf,BV (SqL.of e1') (n:=k) rfl ev ?_⟩
  push_cast[]
  rw[nD hr]
  exact qb
 ·push_cast[]
  exact⟨by decide,q'⟩
 rw[FW λk _=>rfl]
 intro l4 H4 hl4 s4 F4
 have I4:=(I2.same s3).same s4
 obtain⟨dx4,e4⟩:=I4.ob
 push_cast[↓Hk]
 refine⟨_,_,e4,J1 (by decide +kernel),x,A,vw,rfl,T,I4,λl5 H5 hl5 s5 el5=>⟨l5,rfl,.inl ⟨⟨_,SqL.of el5⟩,G4 (EQ vw) (λr=>[.str "few",.int r]) el5 (GL br) (λk hk H' s QB qb=> ?_) (λk hk hp H' Q' s q'=> ?_) ?_⟩⟩⟩
 ·obtain⟨hk,hs⟩:=DM hk
  obtain⟨c,hc⟩:=Option.isSome_iff_exists.mp hs
  have I':=(I4.same s5).same s
  obtain⟨dx',e'⟩:=I'.ob
  push_cast[BI]
  refine⟨_,_,e',J1 (by decide +kernel),x,A,vw,k,c,rfl,T,I',hc,_,_,_,e',T.cl,T.n6,_,VO,GJ I'.ld hk ?_⟩
  push_cast[]
  unfold EQ at qb
  rw[hc]at qb
  exact qb
 ·push_cast[]
  exact⟨by decide,q'⟩
 rw[FW (r:=EQ vw) λk _=>by
  unfold EQ
  cases AF vw.rc k<;>simp]
 intro l6 H6 hl6 s6 F6
 push_cast[↓Hl]
 have n1:=DF (p:=λp=>decide (1<CG vw p)) (f:=λp=>[.str "shared",.int p]) bp
 have n2:=DF (p:=λp=>decide (0<CG vw p) && (AF vw.pc p).isNone) (f:=λp=>[.str "empty",.int p]) bp
 have n3:=DF (p:=EQ vw) (f:=λr=>[.str "few",.int r]) br
 have s26:=((s3.trans s4).trans s5).trans s6
 refine FD (F2.same s26) (F4.same (s5.trans s6)) (by omega) λl7 H7 hl7 s7 F7=>FD F7 (F6.same s7) (by simp only[List.length_append];omega) ?_
 exact q.of (((s1.trans s2).trans s26).trans s7)
theorem za2(h:M3 K a vs H Q E):vs.length=1:=by
 obtain⟨_,_,_,rfl,_⟩:=h
 rfl
def TwoL(H:Hp)(l1 l2:Addr)(f1 f2:List (List V))(H':Hp):Prop:=SameBut (λy=>y=l1\/y=l2) H H'/\FindsL H' l1 f1/\FindsL H' l2 f2/\l1≠l2
theorem TwoL.same{l1 l2:Addr}{f1 f2:List (List V)}{H1 H2:Hp}(h:TwoL H l1 l2 f1 f2 H1)(s:Same H1 H2):TwoL H l1 l2 f1 f2 H2:=⟨h.1.trans s.sb,h.2.1.same s,h.2.2.1.same s,h.2.2.2⟩
theorem za3{l1 l2 t:Addr}{f1 f2:List (List V)}{f:List V}{H':Hp}(h:TwoL H l1 l2 f1 f2 H')(ht:H' t=some (.tup f)):TwoL H l1 l2 (f1++[f]) f2 (upd H' l1 (.lst (((h.2.1).choose++[t]).map V.ref))):=by
 obtain⟨s,F1,F2,n⟩:=h
 have e1:=F1.choose_spec.1
 have P1:=F1.choose_spec.2
 have k:∀ {y:Addr} {g:List V},H' y=some (.tup g)->upd H' l1 (.lst ((F1.choose++[t]).map V.ref)) y=some (.tup g):=λe=>by rw[AQ (DA e e1 (by intro z;cases z))];exact e
 refine⟨λy o e ny=>by rw[AQ λz=>ny (.inl z)];exact s _ _ e ny,⟨_,AM,Paired.snoc (Paired.mapP P1 λq g e=>k e) (k ht)⟩,?_,n⟩
 obtain⟨p2,e2,P2⟩:=F2
 exact⟨p2,by rw[AQ n.symm];exact e2,Paired.mapP P2 λq g e=>k e⟩
theorem TwoL.flip{l1 l2:Addr}{f1 f2:List (List V)}{H':Hp}(h:TwoL H l1 l2 f1 f2 H'):TwoL H l2 l1 f2 f1 H':=⟨h.1.wide λ_=>Or.symm,h.2.2.1,h.2.1,h.2.2.2.symm⟩
theorem QF{l1 l2 t:Addr}{f1 f2:List (List V)}{f:List V}{H':Hp}{Q:VK}(h:TwoL H l1 l2 f1 f2 H')(hn:f1.length<=1000)(ht:H' t=some (.tup f))(q:∀ H2,TwoL H l1 l2 (f1++[f]) f2 H2->Q .non H2):RR (.ref l1) [.ref t] H' Q:=by
 have e1:=h.2.1.choose_spec.1
 have P1:=h.2.1.choose_spec.2
 refine⟨l1,_,_,rfl,rfl,e1,Nat.lt_of_lt_of_le (show(h.2.1.choose.map V.ref).length<10000 by rw[List.length_map,P1.length];omega) (by decide),?_⟩
 have:=q _ (za3 h ht)
 rw[List.map_append]at this
 exact this
theorem nH{n:Nat}{p:Nat->Bool}{f:Nat->List V}:B1 (n+1) p f=if p n=true then B1 n p f++[f n]else B1 n p f:=by
 unfold B1
 rw[List.range_succ,List.filter_append,List.map_append]
 split
 ·rename_i h;simp[h]
 ·rename_i h;simp[h]
def FX(is:List Nat)(p:Nat->Bool)(f:Nat->List V)(i:Nat):List (List V):=((is.take i).filter p).map f
theorem nJ{is:List Nat}{p:Nat->Bool}{f:Nat->List V}{i k:Nat}(h:is[i]? =some k):FX is p f (i+1)=if p k=true then FX is p f i++[f k]else FX is p f i:=by
 unfold FX
 rw[ER h,List.filter_append,List.map_append]
 split
 ·rename_i h;simp[h]
 ·rename_i h;simp[h]
theorem nK{is:List Nat}{p:Nat->Bool}{f:Nat->List V}{i:Nat}(h:is.length<=1000):(FX is p f i).length<=1000:=by
 unfold FX
 rw[List.length_map]
 exact Nat.le_trans (List.length_filter_le ..) (by rw[List.length_take];omega)
theorem ViewAt.two{x:Addr}{A:VA}{vw:Vw}{l1 l2:Addr}{f1 f2:List (List V)}{H0 H':Hp}(I:ViewAt a H0 x A vw)(s0:Same H0 H)(n1:H0 l1=none)(n2:H0 l2=none)(W:TwoL H l1 l2 f1 f2 H'):ViewAt a H' x A vw :=
 I.same λy o e=>W.1 _ _ (s0 _ _ e) λz=>by
  rcases z with z | z
  ·rw[z,n1]at e;cases e
  ·rw[z,n2]at e;cases e
theorem za4(h:M5 K a vs H Q E):UA K a (λ_=>E) (A6 Q) (A5 ["view","many","left","record","leads"] vs) H:=by
 obtain⟨x,A,vw,rfl,T,I,q⟩:=h
 have br:=I.ok.br
 push_cast[UA,↓Hx,↓Hy]
 refine⟨by decide,λl1 hl1=>⟨by decide,λl2 hl2=> ?_⟩⟩
 have n12:l1≠l2:=BT AM hl2
 have s2:Same H (upd (upd H l1 (.lst [])) l2 (.lst [])):=(AS hl1).trans (AS hl2)
 have k1:FindsL (upd (upd H l1 (.lst [])) l2 (.lst [])) l1 []:=⟨[],by rw[AQ n12,AM];rfl,.nil⟩
 have k2:FindsL (upd (upd H l1 (.lst [])) l2 (.lst [])) l2 []:=⟨[],AM,.nil⟩
 have f2:H l2=none:=(AS hl1).free hl2
 revert s2 k1 k2
 generalize upd (upd H l1 (.lst [])) l2 (.lst [])=H2
 intro s2 k1 k2
 have I2:=I.same s2
 obtain⟨dx2,e2⟩:=I2.ob
 push_cast[↓Jh]
 refine⟨_,_,e2,J1 (by decide +kernel),x,A,vw,rfl,T,I2,λl3 H3 hl3 s3 el3=>⟨l3,rfl,.inl ⟨⟨_,SqL.of el3⟩,?_⟩⟩⟩
 have m1:l1≠l3:=λz=>by
  obtain⟨ps,e,_⟩:=k1
  rw[z,hl3]at e;cases e
 have m2:l2≠l3:=λz=>by
  obtain⟨ps,e,_⟩:=k2
  rw[z,hl3]at e;cases e
 have s03:=s2.trans s3
 let is:=(List.range vw.rc.length).filter λr=>(AF vw.rc r).isSome
 have hil:is.length<=1000:=GL br
 refine JL (xs:=AU is) (λi σ H'=>TwoL H3 l1 l2 (FX is (D4 vw) (λr=>[.str "many",.int r,.int (led vw r)]) i) (FX is (λr=>decide (led vw r=0)) (λr=>[.str "left",.str "record",.int r]) i) H'/\∃ y3 y4,σ=[some (.ref x),some (.ref l1),some (.ref l2),y3,y4]) ⟨⟨SameBut.refl _,k1.same s3,k2.same s3,n12⟩,_,_,rfl⟩ (λi σ H' _ ⟨W,_⟩=>SqL.of (W.1 _ _ el3 λz=>z.elim (λz=>m1 z.symm) λz=>m2 z.symm)) (λi v σ H' hx ⟨W,y3,y4,eσ⟩=> ?_) (λσ H' ⟨W,y3,y4,eσ⟩=> ?_)
 ·subst eσ
  unfold AU at hx
  rw[List.getElem?_map,Option.map_eq_some_iff]at hx
  obtain⟨k,hk',rfl⟩:=hx
  obtain⟨hk,hsm⟩:=DM (List.mem_of_getElem? hk')
  obtain⟨c,hc⟩:=Option.isSome_iff_exists.mp hsm
  have I':=I.two s03 hl1 f2 W
  obtain⟨dx',e'⟩:=I'.ob
  push_cast[↓Hz]
  refine⟨_,_,_,e',T.cl,T.n6,_,VO,GJ I'.ld hk ?_⟩
  push_cast[↓Jg]
  have im:D4 vw k=(decide (0<led vw k) && decide ((led vw k:Int)<c.1)):=by unfold D4;rw[hc]
  rw[nJ hk',nJ hk',im]
  by_cases h0:led vw k=0
  ·refine B2 (by omega) ?_
   push_cast[↓Jb]
   obtain⟨ps2,ep2,_⟩:=W.2.2.1
   refine⟨.inl ⟨rfl,_,SqL.of ep2⟩,by decide,λt ht=>QF (W.same (AS ht)).flip (nK hil) AM λH4 W4=> ?_⟩
   have h0':¬ 0<led vw k:=by omega
   rw[decide_eq_false h0',Bool.false_and,if_neg Bool.false_ne_true,if_pos h0]
   exact W4.flip
  ·refine BQ (by omega) ?_
   push_cast[↓Jd]
   refine⟨_,_,e',J1 (by decide +kernel),x,A,vw,k,c,rfl,T,I',hc,?_⟩
   push_cast[]
   by_cases h1:(led vw k:Int)<c.1
   ·refine B2 h1 ?_
    push_cast[↓Jc]
    obtain⟨ps2,ep2,_⟩:=W.2.1
    refine⟨.inl ⟨rfl,_,SqL.of ep2⟩,by decide,λt ht=>QF (W.same (AS ht)) (nK hil) AM λH4 W4=> ?_⟩
    rw[decide_eq_true (show 0<led vw k by omega),decide_eq_true h1,Bool.and_true,if_pos rfl,if_neg h0]
    exact W4
   ·refine BQ h1 ?_
    rw[decide_eq_false h1,Bool.and_false,if_neg Bool.false_ne_true,if_neg h0]
    exact W
 ·subst eσ
  push_cast[↓Jj]
  rw[B5]at W
  have g1:FX is (D4 vw) (λr=>[.str "many",.int r,.int (led vw r)]) is.length=B1 vw.rc.length (D4 vw) (λr=>[.str "many",.int r,.int (led vw r)]):=by
   unfold FX
   rw[List.take_length]
   exact FW λk _=>by
    unfold D4
    cases AF vw.rc k<;>simp
  have g2:FX is (λr=>decide (led vw r=0)) (λr=>[.str "left",.str "record",.int r]) is.length=B1 vw.rc.length (λr=>(AF vw.rc r).isSome && decide (led vw r=0)) (λr=>[.str "left",.str "record",.int r]):=by
   unfold FX
   rw[List.take_length]
   exact FW λk _=>rfl
  rw[g1,g2]at W
  have n1:=DF (p:=D4 vw) (f:=λr=>[.str "many",.int r,.int (led vw r)]) br
  have n2:=DF (p:=λr=>(AF vw.rc r).isSome && decide (led vw r=0)) (f:=λr=>[.str "left",.str "record",.int r]) br
  exact FD W.2.1 W.2.2.1 (by omega) (q.of λy o e=>W.1 _ _ (s03 _ _ e) λz=>by
   rcases z with z | z
   ·rw[z,hl1]at e;cases e
   ·rw[z,f2]at e;cases e)
theorem za5(h:M5 K a vs H Q E):vs.length=1:=by
 obtain⟨_,_,_,rfl,_⟩:=h
 rfl
def LF(vw:Vw)(i:Nat)(s:Str):Bool:=(List.range i).any λj=>match AF vw.nm j with
  | none=>false
  | some d=>decide (d.1=s)
structure NmW(H3:Hp)(vw:Vw)(l1 l2 sn:Addr)(i:Nat)(lo tw:List (List V))(j:Nat)(H':Hp):Prop where
 s:SameBut (λy=>y=l1\/y=l2\/y=sn) H3 H'
 f1:FindsL H' l1 lo
 f2:FindsL H' l2 tw
 d:∃ kvs:List (AX × V),H' sn=some (.dK kvs)/\(∀ s:Str,(B8 kvs (.inr s)).isSome=LF vw j s)/\kvs.length<=j
theorem NmW.two{H3:Hp}{vw:Vw}{l1 l2 sn:Addr}{i j:Nat}{lo tw lo' tw':List (List V)}{H' H2:Hp}(h:NmW H3 vw l1 l2 sn i lo tw j H')(n1:sn≠l1)(n2:sn≠l2)(W:TwoL H' l1 l2 lo' tw' H2):NmW H3 vw l1 l2 sn i lo' tw' j H2:=by
 obtain⟨kvs,e,r⟩:=h.d
 exact⟨h.s.trans (W.1.wide λy z=>z.elim .inl λz=>.inr (.inl z)),W.2.1,W.2.2.1,⟨kvs,W.1 _ _ e λz=>z.elim n1 n2,r⟩⟩
theorem NmW.same{H3:Hp}{vw:Vw}{l1 l2 sn:Addr}{i j:Nat}{lo tw:List (List V)}{H' H2:Hp}(h:NmW H3 vw l1 l2 sn i lo tw j H')(s:Same H' H2):NmW H3 vw l1 l2 sn i lo tw j H2:=by
 obtain⟨kvs,e,r⟩:=h.d
 exact⟨h.s.trans s.sb,h.f1.same s,h.f2.same s,⟨kvs,s _ _ e,r⟩⟩
theorem za6(h:M0 K a vs H Q E):TC K a (λ_=>E) (A6 Q) (A5 ["view","lost","twice","seen","k","value"] vs) H:=by
  obtain⟨x,A,vw,rfl,T,I,q⟩:=h
  have bn:=I.ok.bn
  push_cast[TC,↓Dm,↓Dp,↓Dq]
  refine⟨by decide,λl1 hl1=>⟨by decide,λl2 hl2 sn hsn=> ?_⟩⟩
  have n12:l1≠l2:=BT AM hl2
  have s2:Same H (upd (upd H l1 (.lst [])) l2 (.lst [])):=(AS hl1).trans (AS hl2)
  have k1:FindsL (upd (upd H l1 (.lst [])) l2 (.lst [])) l1 []:=⟨[],by rw[AQ n12,AM];rfl,.nil⟩
  have k2:FindsL (upd (upd H l1 (.lst [])) l2 (.lst [])) l2 []:=⟨[],AM,.nil⟩
  have f2:H l2=none:=(AS hl1).free hl2
  revert hsn s2 k1 k2
  generalize upd (upd H l1 (.lst [])) l2 (.lst [])=H2
  intro hsn s2 k1 k2
  have fsn:=s2.free hsn
  have s3:=AS (o:=.dK []) hsn
  have e3:upd H2 sn (.dK []) sn=some (.dK []):=AM
  revert s3 e3
  generalize upd H2 sn (.dK [])=H3
  intro s3 e3
  have s03:=s2.trans s3
  have I3:=I.same s03
  obtain⟨dx3,ob3⟩:=I3.ob
  obtain⟨us,en,P⟩:=I3.n
  have hl:=P.length
  push_cast[↓Ec]
  refine⟨_,_,_,ob3,T.cl,T.n1,_,zae,A.n,rfl,⟨_,SqL.of en⟩,?_⟩
  have m1:sn≠l1:=λz=>by
    obtain⟨ps,e,_⟩:=k1
    rw[<-z,hsn]at e;cases e
  have m2:sn≠l2:=λz=>by
    obtain⟨ps,e,_⟩:=k2
    rw[<-z,hsn]at e;cases e
  have vi:∀ {H':Hp} {i j:Nat} {lo tw:List (List V)},NmW H3 vw l1 l2 sn i lo tw j H'->ViewAt a H' x A vw:=λh=>I.same λy o e=>h.s _ _ (s03 _ _ e) λz=>by
    rcases z with z | z | z
    ·rw[z,hl1]at e;cases e
    ·rw[z,f2]at e;cases e
    ·rw[z,fsn]at e;cases e
  have nA:A.n≠l1/\A.n≠l2/\A.n≠sn:=by
    obtain⟨us',e0,_⟩:=I.n
    exact⟨λz=>(by rw[z,hl1]at e0;cases e0),λz=>(by rw[z,f2]at e0;cases e0),λz=>(by rw[z,fsn]at e0;cases e0)⟩
  let LO:=λi=>B1 i (EI vw) (λk=>[.str "lost",.int k])
  let TW:=λi=>B1 i (EO vw) (λk=>[.str "twice",.int k])
  refine Ap (xs:=us) (λi σ H'=>NmW H3 vw l1 l2 sn i (LO i) (TW i) i H'/\∃ y4 y5,σ=[some (.ref x),some (.ref l1),some (.ref l2),some (.ref sn),y4,y5]) ⟨⟨SameBut.refl _,k1.same s3,k2.same s3,[],e3,λ_=>rfl,Nat.le_refl _⟩,_,_,rfl⟩ (λi σ H' _ ⟨W,_⟩=>SqL.of (W.s _ _ en λz=>z.elim nA.1 λz=>z.elim nA.2.1 nA.2.2)) (λi v σ H' t hx ⟨W0,y4,y5,eσ⟩ ht=> ?_) (λσ H' ⟨W,y4,y5,eσ⟩=> ?_)
  · subst eσ
    have hi:=(List.getElem?_eq_some_iff.mp hx).1
    push_cast[]
    refine⟨_,SqT.of AM,rfl,_,_,rfl,_,_,rfl,rfl,?_⟩
    have W:=W0.same (AS (o:=.tup [.int (i:Int),v]) ht)
    revert W
    generalize upd H' t (.tup [.int (i:Int),v])=H4
    intro W
    clear W0
    have I4:=vi W
    obtain⟨dx4,ob4⟩:=I4.ob
    obtain⟨us',v',e1',_,ev,hr⟩:=I4.n.at (k:=i) (by omega)
    rw[W.s _ _ en (λz=>z.elim nA.1 λz=>z.elim nA.2.1 nA.2.2)]at e1';cases e1'
    rw[hx]at ev;cases ev
    have bi:i<=100:=by omega
    have hLO:LO (i+1)=if EI vw i=true then LO i++[[.str "lost",.int i]]else LO i:=nH
    have hTW:TW (i+1)=if EO vw i=true then TW i++[[.str "twice",.int i]]else TW i:=nH
    have n1:(LO i).length<=100:=DF bi
    have n2:(TW i).length<=100:=DF bi
    have sS:∀ s:Str,LF vw (i+1) s=(LF vw i s || match AF vw.nm i with
      | none=>false
      | some d=>decide (d.1=s)):=λs=>by
      unfold LF
      rw[List.range_succ,List.any_append]
      simp
    push_cast[↓Eb]
    cases hc:AF vw.nm i with
    | none =>
      rw[hc]at hr
      refine BQ (λz=>z hr) ?_
      have z1:EI vw i=false:=by unfold EI;rw[hc]
      have z2:EO vw i=false:=by unfold EO;rw[hc]
      rw[hLO,hTW,z1,z2,if_neg Bool.false_ne_true,if_neg Bool.false_ne_true]
      obtain⟨kvs,ek,hv,hkl⟩:=W.d
      exact⟨W.s,W.f1,W.f2,kvs,ek,λs=>by rw[hv,sS,hc,Bool.or_false],by omega⟩
    | some c =>
      rw[hc]at hr
      obtain⟨p,rfl,hp⟩:=hr
      refine B2 (by simp) ?_
      have hm:some c∈vw.nm:=by
        unfold AF at hc
        cases e2:vw.nm[i]? with
        | none=>rw[e2]at hc;cases hc
        | some y =>
          rw[e2]at hc
          have hc:y=some c:=hc
          exact hc ▸ List.mem_of_getElem? e2
      have hcr:=(I.ok.n1 c hm).1
      have z1:EI vw i=(AF vw.rc c.2).isNone:=by unfold EI;rw[hc]
      have z2:EO vw i=LF vw i c.1:=by unfold EO LF;simp only[hc]<;>rfl
      have tail:∀ {H5:Hp},NmW H3 vw l1 l2 sn i (LO (i+1)) (TW i) i H5->H5 p=some (.tup [.str c.1,.int c.2])->AK (TB K a (λ_=>E) (λ_=>E)) (P7 K a (λ_=>E) (λ_=>E)) { nx:=λσ H'=>NmW H3 vw l1 l2 sn (i+1) (LO (i+1)) (TW (i+1)) (i+1) H'/\∃ y4 y5,σ=[some (V.ref x),some (V.ref l1),some (V.ref l2),some (V.ref sn),y4,y5],rt:=Q,bk:=P8 K a (λx=>E) (λx=>E) (A6 Q),ct:=λσ H'=>NmW H3 vw l1 l2 sn (i+1) (LO (i+1)) (TW (i+1)) (i+1) H'/\∃ y4 y5,σ=[some (V.ref x),some (V.ref l1),some (V.ref l2),some (V.ref sn),y4,y5] } [some (V.ref x),some (V.ref l1),some (V.ref l2),some (V.ref sn),some (V.int ↑i),some (V.ref p)] H5:=λ{H5} W5 hp5=>by
        have last:∀ {H6:Hp},NmW H3 vw l1 l2 sn i (LO (i+1)) (TW (i+1)) i H6->H6 p=some (.tup [.str c.1,.int c.2])->P7 K a (λ_=>E) (λ_=>E) { nx:=λσ H'=>NmW H3 vw l1 l2 sn (i+1) (LO (i+1)) (TW (i+1)) (i+1) H'/\∃ y4 y5,σ=[some (V.ref x),some (V.ref l1),some (V.ref l2),some (V.ref sn),y4,y5],rt:=Q,bk:=P8 K a (λx=>E) (λx=>E) (A6 Q),ct:=λσ H'=>NmW H3 vw l1 l2 sn (i+1) (LO (i+1)) (TW (i+1)) (i+1) H'/\∃ y4 y5,σ=[some (V.ref x),some (V.ref l1),some (V.ref l2),some (V.ref sn),y4,y5] } [some (V.ref x),some (V.ref l1),some (V.ref l2),some (V.ref sn),some (V.int ↑i),some (V.ref p)] H6:=λ{H6} W6 hp6=>by
          obtain⟨kvs,ek,hv,hkl⟩:=W6.d
          push_cast[↓Dz]
          refine BX hp6 (n:=0) rfl rfl ⟨_,pS ek (by omega),?_⟩
          have s7:SameBut (· =sn) H6 (upd H6 sn (.dK (CF kvs (.inr c.1) (.bl true)))):=λy o e ny=>by rw[AQ ny];exact e
          obtain⟨q1,g1,P1⟩:=W6.f1
          obtain⟨q2,g2,P2⟩:=W6.f2
          have kt:∀ {y:Addr} {g:List V},H6 y=some (.tup g)->upd H6 sn (.dK (CF kvs (.inr c.1) (.bl true))) y=some (.tup g):=λe=>s7 _ _ e (DA e ek (by intro z;cases z))
          refine⟨W6.s.trans (s7.wide λy z=>.inr (.inr z)),⟨q1,s7 _ _ g1 m1.symm,Paired.mapP P1 λq g e=>kt e⟩,⟨q2,s7 _ _ g2 m2.symm,Paired.mapP P2 λq g e=>kt e⟩,_,AM,λs=> ?_,?_⟩
          · rw[O0,sS,hc,<-hv]
            by_cases z:s=c.1
            ·subst z;simp
            · rw[if_neg (by simpa using z)]
              have:decide (c.1=s)=false:=by simpa using λu=>z (Eq.symm u)
              simp only[this,Bool.or_false]
          · have:=ME kvs (.inr c.1) (.bl true)
            omega
        obtain⟨kvs,ek,hv,hkl⟩:=W5.d
        push_cast[↓Dy]
        refine BX hp5 (n:=0) rfl rfl ⟨_,dS ek,?_⟩
        rw[hv,<-z2]
        cases hz:EO vw i with
        | true =>
          refine B2 rfl ?_
          push_cast[↓Dx]
          obtain⟨ps2,ep2,_⟩:=W5.f2
          refine⟨.inl ⟨rfl,_,SqL.of ep2⟩,by decide,λt2 ht2=> ?_⟩
          have W5':=W5.same (AS (o:=.tup [V.str (Str.ofString "twice"),V.int ↑i]) ht2)
          refine QF (H:=upd H5 t2 (.tup [V.str (Str.ofString "twice"),V.int ↑i])) (l2:=l1) (f2:=LO (i+1)) ⟨SameBut.refl _,W5'.f2,W5'.f1,n12.symm⟩ (by omega) AM λH6 W6=> ?_
          have W7:=W5'.two m1 m2 W6.flip
          rw[show TW i++[[V.str (Str.ofString "twice"),V.int ↑i]]=TW (i+1) by rw[hTW,hz,if_pos rfl]]at W7
          exact last W7 (W6.1 _ _ (AS ht2 _ _ hp5) λz=>by
            rcases z with z | z
            · obtain⟨ps,e,_⟩:=W5.f2
              rw[<-z,hp5]at e;cases e
            · obtain⟨ps,e,_⟩:=W5.f1
              rw[<-z,hp5]at e;cases e)
        | false =>
          refine BQ Bool.false_ne_true ?_
          rw[show TW i=TW (i+1) by rw[hTW,hz,if_neg Bool.false_ne_true]]at W5
          exact last W5 hp5
      obtain⟨us2,v2,e2,_,ev2,hr2⟩:=I4.r.at hcr
      push_cast[↓Dw]
      refine⟨_,_,_,ob4,T.cl,T.n2,_,QD,BX hp (n:=1) rfl rfl (BV (SqL.of e2) (n:=c.2) rfl ev2 ?_)⟩
      push_cast[]
      have hv2:=IV hr2
      by_cases hz:v2=.non
      · refine B2 hz ?_
        have hz':EI vw i=true:=by rw[z1,<-hv2];simpa using hz
        push_cast[↓Dv]
        obtain⟨ps2,ep2,_⟩:=W.f1
        refine⟨.inl ⟨rfl,_,SqL.of ep2⟩,by decide,λt2 ht2=> ?_⟩
        have W5':=W.same (AS (o:=.tup [V.str (Str.ofString "lost"),V.int ↑i]) ht2)
        refine QF (H:=upd H4 t2 (.tup [V.str (Str.ofString "lost"),V.int ↑i])) (l2:=l2) (f2:=TW i) ⟨SameBut.refl _,W5'.f1,W5'.f2,n12⟩ (by omega) AM λH6 W6=> ?_
        have W7:=W5'.two m1 m2 W6
        rw[show LO i++[[V.str (Str.ofString "lost"),V.int ↑i]]=LO (i+1) by rw[hLO,hz',if_pos rfl]]at W7
        exact tail W7 (W6.1 _ _ (AS ht2 _ _ hp) λz=>by
            rcases z with z | z
            · obtain⟨ps,e,_⟩:=W.f1
              rw[<-z,hp]at e;cases e
            · obtain⟨ps,e,_⟩:=W.f2
              rw[<-z,hp]at e;cases e)
      · refine BQ hz ?_
        have hz':EI vw i=false:=by rw[z1,<-hv2];simpa using hz
        rw[show LO i=LO (i+1) by rw[hLO,hz',if_neg Bool.false_ne_true]]at W
        exact tail W hp
  · subst eσ
    push_cast[↓Ed]
    rw[hl]at W
    exact FD W.f1 W.f2 (by have:=DF (p:=EI vw) (f:=λk=>[.str "lost",.int k]) bn;have:=DF (p:=EO vw) (f:=λk=>[.str "twice",.int k]) bn;show(B1 _ _ _).length+(B1 _ _ _).length<=_;omega) (q.of λy o e=>W.s _ _ (s03 _ _ e) λz=>by
      rcases z with z | z | z
      ·rw[z,hl1]at e;cases e
      ·rw[z,f2]at e;cases e
      ·rw[z,fsn]at e;cases e)
theorem za7(h:M0 K a vs H Q E):vs.length=1:=by
 obtain⟨_,_,_,rfl,_⟩:=h
 rfl
theorem J6{n b:Nat}(h:b<n):GU n (b:Int)=some b:=by
 unfold GU
 rw[if_pos (by omega),if_pos (by omega),Int.toNat_natCast]
theorem EK{α β :Type}{F: α -> β ->Prop}:∀ {l:List α} {m:List β} {i:Nat} {x: α},Paired F l m->l[i]? =some x->∃ y,m[i]? =some y/\F x y
 | _,_,_,_,.nil,h=>by simp at h
 | _,_,0,_,.cons h _,e=>by cases e;exact⟨_,rfl,h⟩
 | _,_,i+1,_,.cons _ r,e=>by
  obtain⟨y,h1,h2⟩:=EK (i:=i) r (by simpa using e)
  exact⟨y,by simpa using h1,h2⟩
theorem za8(h:G2 K a vs H Q E):UT K a (λ_=>E) (A6 Q) (A5 ["plank","places"] vs) H:=by
 obtain⟨gp,cl,pl,w,rows,m,ts,ps,rfl,TP,P,hpl,Pt,hin,hn,q⟩:=h
 have hl:=Pt.length
 push_cast[UT,↓Ng]
 refine .inl ⟨⟨_,SqL.of hpl⟩,Ag (xs:=ts.map V.ref) (small _ (by rw[List.length_map];omega)) (λi σ' ys H'=>Same H H'/\ys=(ps.take i).map (λij=>IR rows ij.1 ij.2)/\∃ y0 y1,σ'=[y0,y1,some (.ref gp)]) ⟨Same.refl _,rfl,none,none,rfl⟩ (λi σ' ys H' ⟨s,e,_⟩=>⟨SqL.of (s _ _ hpl),by rw[e,List.length_map,List.length_take];omega⟩) (λi x σ' ys H' hi hx ⟨s,e,y0,y1,eσ⟩=> ?_) (λσ' ys H' ⟨s,e,_⟩ p hp=> ?_)⟩
 ·subst eσ
  rw[List.length_map]at hi
  rw[List.getElem?_map,Option.map_eq_some_iff]at hx
  obtain⟨t,ht,rfl⟩:=hx
  obtain⟨ij,eij,et⟩:=EK Pt ht
  have hb:=hin ij (List.mem_of_getElem? eij)
  have P':=P.same s
  obtain⟨dp,hob⟩:=P'.ob
  push_cast[]
  refine⟨_,SqT.of (s _ _ et),rfl,_,_,rfl,_,_,rfl,rfl,?_⟩
  refine⟨λy H4=>Same H H4/\y=IR rows ij.1 ij.2,λy H4 ⟨s4,ey⟩=>Ac (by rw[List.length_map];exact hi) ⟨s4,?_⟩,_,_,hob,QC _ _ _,gp,cl,w,rows,m,ij.1,rfl,TP,P',λb' row eb er l1 hl1=> ?_,λz=>by omega⟩
  ·rw[ey,e,ER eij,List.map_append]
   rfl
  ·obtain rfl:ij.1=b':=by omega
   have hw:=P.wd row (List.mem_of_getElem? er)
   have ej:=List.getElem?_eq_getElem (l:=row) (i:=ij.2) (by omega)
   refine BV (SqL.of AM) (n:=ij.2) rfl ej ⟨FC s hl1,?_⟩
   unfold IR
   rw[er]
   show _=(row[ij.2]?).getD .non
   rw[ej];rfl
 ·rw[List.length_map,hl,List.take_length]at e
  subst e
  exact q p _ (s.free hp) (FC s hp) AM
theorem za9(h:G2 K a vs H Q E):vs.length=2:=by
 obtain⟨_,_,_,_,_,_,_,_,rfl,_⟩:=h
 rfl
theorem zba(h:JS K a vs H Q E):TJ K a (λ_=>E) (A6 Q) (A5 ["many","numbers","counts","number"] vs) H:=by
 obtain⟨many,nl,ks,rfl,hnl,hks,hm,hkn,q⟩:=h
 push_cast[TJ,↓El]
 refine⟨by omega,by omega,yZ (small many (by omega)) (λ_=>V.int 0) (λj hj Q' q'=>q') λl hl=> ?_⟩
 have e0:(List.range many).map (λ_=>V.int 0)=AU ((List.range many).map λk=>([]:List Nat).count k):=by
  unfold AU
  rw[List.map_map]
  rfl
 rw[e0]
 have s1:=AS (o:=.lst (AU ((List.range many).map λk=>([]:List Nat).count k))) hl
 have e1:upd H l (.lst (AU ((List.range many).map λk=>([]:List Nat).count k))) l=some (.lst (AU ((List.range many).map λk=>([]:List Nat).count k))):=AM
 have nll:nl≠l:=BT hnl hl
 revert s1 e1
 generalize upd H l (.lst (AU ((List.range many).map λk=>([]:List Nat).count k)))=H1
 intro s1 e1
 push_cast[↓Ep]
 refine .inl ⟨⟨_,SqL.of (s1 _ _ hnl)⟩,JL (xs:=AU ks) (λi σ H'=>(Same H H'/\H' l=some (.lst (AU ((List.range many).map λk=>(ks.take i).count k))))/\∃ y,σ=[some (.int many),some (.ref nl),some (.ref l),y]) ⟨⟨s1,e1⟩,_,rfl⟩ (λi σ H' _ ⟨⟨s,_⟩,_⟩=>SqL.of (s _ _ hnl)) (λi v σ H' hx ⟨⟨s,e⟩,y,eσ⟩=> ?_) (λσ H' ⟨⟨s,e⟩,y,eσ⟩=> ?_)⟩
 ·subst eσ
  unfold AU at hx
  rw[List.getElem?_map,Option.map_eq_some_iff]at hx
  obtain⟨k,hk',rfl⟩:=hx
  have hk:=hks k (List.mem_of_getElem? hk')
  push_cast[↓Em]
  refine⟨_,k,rfl,SqL.of e,_,LE (HV hk),?_⟩
  push_cast[]
  refine⟨l,_,_,k,rfl,rfl,e,J6 (by rw[B5,GK];exact hk),λy o e=>by rw[AQ (BT e hl)];exact s _ _ e,?_⟩
  rw[AM]
  congr 2
  unfold AU
  refine List.ext_getElem? λj=> ?_
  by_cases hj:j<many
  ·rw[List.getElem?_map,HV hj,ER hk',List.count_append]
   by_cases z:k=j
   ·subst z
    rw[List.getElem?_set_self (by simpa using hj)]
    simp
   ·rw[List.getElem?_set_ne z,List.getElem?_map,HV hj]
    have:List.count j [k]=0:=by simp[z]
    rw[this]
    rfl
  ·rw[List.getElem?_eq_none (by simp;omega),List.getElem?_eq_none (by simp;omega)]
 ·subst eσ
  rw[B5,List.take_length]at e
  push_cast[↓Ev]
  exact q l _ hl s e
theorem zbb(h:JS K a vs H Q E):vs.length=2:=by
 obtain⟨_,_,_,rfl,_⟩:=h
 rfl
theorem zbc(h:K7 K a vs H Q E):TK K a (λ_=>E) (A6 Q) (A5 ["records","pieces","value"] vs) H:=by
 obtain⟨rl,cs,rfl,⟨us,hrl,P⟩,hcs,hp,q⟩:=h
 have hl:=P.length
 push_cast[TK,↓Ew]
 refine⟨by decide,λl hl0=> ?_⟩
 have s1:=AS (o:=.lst []) hl0
 have e1:upd H l (.lst []) l=some (.lst (AU (CS []))):=AM
 revert s1 e1
 generalize upd H l (.lst [])=H1
 intro s1 e1
 have pl:∀ i,(CS (cs.take i)).length<=i * 10:=λi=>by
  induction i with
  | zero=>exact Nat.le_refl _
  | succ i ih =>
   cases e:cs[i]? with
   | none =>
    rw[List.take_of_length_le (by have:=List.getElem?_eq_none_iff.mp e;omega)]
    rw[List.take_of_length_le (by have:=List.getElem?_eq_none_iff.mp e;omega)]at ih
    omega
   | some c =>
    rw[ER e]
    unfold CS at ih ⊢
    rw[List.flatMap_append,List.length_append]
    have:(List.flatMap E8 [c]).length<=10:=by
     cases c with
     | none=>simp[E8]
     | some c =>
      simp[E8]
      exact hp c (List.mem_of_getElem? e)
    omega
 push_cast[↓Ez]
 refine .inl ⟨⟨_,SqL.of (s1 _ _ hrl)⟩,JL (xs:=us) (λi σ H'=>(Same H H'/\H' l=some (.lst (AU (CS (cs.take i)))))/\∃ y,σ=[some (.ref rl),some (.ref l),y]) ⟨⟨s1,e1⟩,_,rfl⟩ (λi σ H' _ ⟨⟨s,_⟩,_⟩=>SqL.of (s _ _ hrl)) (λi v σ H' hx ⟨⟨s,e⟩,y,eσ⟩=> ?_) (λσ H' ⟨⟨s,e⟩,y,eσ⟩=> ?_)⟩
 ·subst eσ
  obtain⟨c,ec,hr⟩:=EK P hx
  have hi:=(List.getElem?_eq_some_iff.mp hx).1
  have pli:=pl i
  have ep:CS (cs.take (i+1))=CS (cs.take i)++E8 c:=by
   rw[ER ec]
   unfold CS
   rw[List.flatMap_append]
   simp
  rw[ep]
  push_cast[↓Ey]
  cases c with
  | none =>
   refine BQ (λz=>z hr) ?_
   rw[show E8 none=[]from rfl,List.append_nil]
   exact⟨s,e⟩
  | some c =>
   obtain⟨p,t,rfl,h1,h2⟩:=hr
   refine B2 (by simp) ?_
   push_cast[↓Ex]
   have hc:=hp c (List.mem_of_getElem? ec)
   refine⟨.inl ⟨rfl,_,SqL.of e⟩,BX (s _ _ h1) (n:=1) rfl rfl ⟨l,t,_,_,rfl,rfl,e,SqT.of (s _ _ h2),small _ (by rw[B5,B5];omega),?_⟩⟩
   refine⟨λy o e=>by rw[AQ (BT e hl0)];exact s _ _ e,?_⟩
   rw[AM]
   unfold AU
   rw[List.map_append]
   rfl
 ·subst eσ
  rw[hl,List.take_length]at e
  push_cast[↓Fb]
  exact q l _ hl0 s e
theorem zbd(h:K7 K a vs H Q E):vs.length=1:=by
 obtain⟨_,_,rfl,_⟩:=h
 rfl
theorem VR{w:Nat}:∀ {rows:List (List V)} {b j:Nat},(∀ r∈rows,r.length=w)->b<rows.length->j<w->rows.flatten[b * w+j]? =(rows[b]?).bind (·[j]?)
 | [],b,j,_,hb,_=>by simp at hb
 | r::rs,0,j,h,_,hj=>by
  have hr:=h r List.mem_cons_self
  rw[Nat.zero_mul,Nat.zero_add,List.flatten_cons,List.getElem?_append_left (by omega)]
  rfl
 | r::rs,b+1,j,h,hb,hj=>by
  have hr:=h r List.mem_cons_self
  rw[List.flatten_cons,List.getElem?_append_right (by rw[hr,Nat.succ_mul];omega)]
  have e:(b+1) * w+j - r.length=b * w+j:=by rw[hr,Nat.succ_mul];omega
  rw[e,VR (λr hr=>h r (List.mem_cons_of_mem _ hr)) (by simpa using hb) hj]
  rfl
theorem nQ{w:Nat}{rows:List (List V)}{b k n:Nat}(h:∀ r∈rows,r.length=w)(hw:1<=w)(hk:k<n * w)(hb:b+n<=rows.length):(rows.flatten[b * w+k]?)=some (IR rows (b+k / w) (k % w))/\b+k / w<rows.length/\k % w<w:=by
 have h1:k / w<n:=Nat.div_lt_of_lt_mul (by rw[Nat.mul_comm];exact hk)
 have h2:k % w<w:=Nat.mod_lt _ (by omega)
 refine⟨?_,by omega,h2⟩
 have e:b * w+k=(b+k / w) * w+k % w:=by
  rw[Nat.add_mul,Nat.add_assoc,Nat.div_add_mod']
 rw[e,VR h (by omega) h2]
 unfold IR
 have hb':b+k / w<rows.length:=by omega
 rw[List.getElem?_eq_getElem hb']
 have hr:=h _ (List.getElem_mem hb')
 show(rows[b+k / w])[k % w]? =some (((rows[b+k / w])[k % w]?).getD .non)
 rw[List.getElem?_eq_getElem (by omega)]
 rfl
theorem zbe{w:Nat}{rows:List (List V)}{b n:Nat}{pre vs post:List V}(h:∀ r∈rows,r.length=w)(hw:1<=w)(hb:b+n<=rows.length)(e:rows.flatten=pre++vs++post)(hp:pre.length=b * w)(hv:vs.length=n * w):(List.range (n * w)).map (λk=>IR rows (b+k / w) (k % w))=vs:=by
 refine List.ext_getElem? λk=> ?_
 by_cases hk:k<n * w
 ·rw[List.getElem?_map,List.getElem?_range hk]
  have:=(nQ h hw hk hb).1
  show some _=_
  rw[<-this,e,List.append_assoc,List.getElem?_append_right (by omega),List.getElem?_append_left (by omega)]
  congr 1
  omega
 ·rw[List.getElem?_eq_none (by simp;omega),List.getElem?_eq_none (by omega)]
theorem zbf{N b w:Nat}{te:TE}{cap:List Nat}{σ:St}(hn:N<=1000)
  (he:∀ k,k<N->∀ H' (Q':VK),Same H H'->(∀ t,H' t=none->Q' (.ref t) (upd H' t (.tup [.int ((b+k / w:Nat):Int),.int ((k % w:Nat):Int)])))->te (some (.int (k:Int))::BI cap σ) H' Q')
  (hd:∀ (pl:Addr) (ts:List Addr) (H':Hp),H pl=none->Same H H'->H' pl=some (.lst (ts.map V.ref))->Paired (λt (ij:Nat × Nat)=>H' t=some (.tup [.int ij.1,.int ij.2])) ts ((List.range N).map λk=>(b+k / w,k % w))->Q (.ref pl) H'):DR (DZ 0 N) (AJ 0) CZ te 1 cap σ H Q:=by
 refine K0 (small _ (by omega)) (λi ys H'=>Same H H'/\∃ ts:List Addr,ys=ts.map V.ref/\Paired (λt (ij:Nat × Nat)=>H' t=some (.tup [.int ij.1,.int ij.2])) ts ((List.range i).map λk=>(b+k / w,k % w))) ⟨Same.refl _,[],rfl,.nil⟩ (λi ys H' hi _ ⟨s,ts,e,P⟩=> ?_) (λys H' _ ⟨s,ts,e,P⟩ p hp=> ?_)
 ·rw[Int.zero_add]
  refine he i hi H' _ s λt ht=>⟨FC s ht,ts++[t],by rw[e,List.map_append];rfl,?_⟩
  rw[List.range_succ,List.map_append]
  exact Paired.snoc (Paired.mapP P λt ij e=>AS ht _ _ e) AM
 ·subst e
  exact hd p ts _ (s.free hp) (FC s hp) AM (Paired.mapP P λt ij e=>AS hp _ _ e)
theorem NU{n b w m:Nat}{gp cl:Addr}{rows:List (List V)}{te:TE}{cap:List Nat}{σ:St}{QV:VK}{pre us post:List V}(TP:EF K a)(P:PlankAt a H gp cl w rows m)(hw:1<=w)(hnw:n * w<=1000)(hb:b+n<=rows.length)(e:rows.flatten=pre++us++post)(hp:pre.length=b * w)(hv:us.length=n * w)
  (he:∀ k,k<n * w->∀ H' (Q':VK),Same H H'->(∀ t,H' t=none->Q' (.ref t) (upd H' t (.tup [.int ((b+k / w:Nat):Int),.int ((k % w:Nat):Int)])))->te (some (.int (k:Int))::BI cap σ) H' Q')
  (q:newL us H QV):DR (DZ 0 (n * w)) (AJ 0) CZ te 1 cap σ H (λv H2=>G2 K a [.ref gp,v] H2 QV E):=by
 refine zbf hnw he λpl ts H' hpl s epl Pt=> ?_
 refine⟨gp,cl,pl,w,rows,m,ts,_,rfl,TP,P.same s,epl,Pt,λij hij=> ?_,by rw[List.length_map,List.length_range];exact hnw,?_⟩
 ·obtain⟨k,hk,rfl⟩:=List.mem_map.mp hij
  exact(nQ P.wd hw (List.mem_range.mp hk) hb).2
 ·rw[List.map_map]
  have:=zbe P.wd hw hb e hp hv
  rw[show((List.range (n * w)).map ((λij:Nat × Nat=>IR rows ij.1 ij.2) ∘ λk=>(b+k / w,k % w)))=us from this]
  exact q.of s
section
variable{u1 u2 u3 u4 u5 u6:V}{CT:List (Str × V)}
theorem zbg:(("name_values",u1)::CT:List (Str × V)).lookup ("name_values":Str)=some u1:=by simp
theorem nR:(("name_values",u1)::("record_values",u2)::CT:List (Str × V)).lookup ("record_values":Str)=some u2:=by
 simp[List.lookup_cons,BJ (a:="record_values") (b:="name_values") (by decide +kernel)]
theorem zbh:(("name_values",u1)::("record_values",u2)::("piece_values",u3)::("record_marks",u4)::("piece_marks",u5)::("leads",u6)::CT:List (Str × V)).lookup ("leads":Str)=some u6:=by
 simp[List.lookup_cons,BJ (a:="leads") (b:="name_values") (by decide +kernel),BJ (a:="leads") (b:="record_values") (by decide +kernel),BJ (a:="leads") (b:="piece_values") (by decide +kernel),BJ (a:="leads") (b:="record_marks") (by decide +kernel),BJ (a:="leads") (b:="piece_marks") (by decide +kernel)]
end
structure VI(a:Ad)(H H':Hp)(x dx:Addr)(fs:List (Str × V)):Prop where
 ob:H' x=some (.ins (a "View") dx fs)
 s:SameBut (· =x) H H'
theorem VI.put{H1 H2:Hp}{x dx l:Addr}{fs fs':List (Str × V)}{f:Str}(I:VI a H H1 x dx fs)(s:Same H1 H2)(e:BU f (.ref l) fs=fs'):VI a H (upd H2 x (.ins (a "View") dx (BU f (.ref l) fs))) x dx fs'/\SameBut (· =x) H1 (upd H2 x (.ins (a "View") dx (BU f (.ref l) fs)))/\SameBut (· =x) H2 (upd H2 x (.ins (a "View") dx (BU f (.ref l) fs))):=by
 have s2:SameBut (· =x) H2 (upd H2 x (.ins (a "View") dx (BU f (.ref l) fs))):=λy o e ny=>by rw[AQ ny];exact e
 exact⟨⟨by rw[AM,e],(I.s.trans s.sb).trans s2⟩,s.sb.trans s2,s2⟩
theorem NV{b k w:Nat}{z:Int}{Q:VK}(hz:z=b)(q:∀ t,H t=none->Q (.ref t) (upd H t (.tup [.int ((b+k / w:Nat):Int),.int ((k % w:Nat):Int)]))):IN (z+(k:Int) / (w:Int)) ((k:Int) % (w:Int)) Q H:=by
 unfold IN
 have e1:z+(k:Int) / (w:Int)=((b+k / w:Nat):Int):=by rw[hz];simp
 have e2:(k:Int) % (w:Int)=((k % w:Nat):Int):=by simp
 rw[e1,e2]
 exact q
theorem PlankAt.off{H1:Hp}{gp cl x dx C:Addr}{w m:Nat}{rows:List (List V)}{fs:List (Str × V)}(P:PlankAt a H gp cl w rows m)(hx:H x=some (.ins C dx fs))(n1:gp≠x)(s:SameBut (· =x) H H1):PlankAt a H1 gp cl w rows m:=by
 obtain⟨⟨dp,e1⟩,⟨ts,e2,e3⟩,r1,r2,r3⟩:=P
 exact⟨⟨dp,s _ _ e1 n1⟩,⟨ts,s _ _ e2 (DA e2 hx (by intro z;cases z)),Paired.mapP e3 λt r e=>s _ _ e (DA e hx (by intro z;cases z))⟩,r1,r2,r3⟩
theorem zbi(h:IU K a vs H Q E):U5 K a (λ_=>E) (A6 Q) (A5 ["self","layout","plank","counts","records","pieces"] vs) H:=by
 obtain⟨x,dx,ly,gp,cl,n,r,c,w,rows,m,vw,rfl,T,TL,TP,hx,L,P,hrl,⟨⟨v1,v2,v3,v4,v5,ef,P1,P2,P3,P4,P5⟩,ln,lr,lp,ok⟩,q⟩:=h
 obtain⟨dl,hly⟩:=L.ob
 obtain⟨_,b1,b2,b3,b4,b5⟩:=id L
 have q1:=P1.length
 have q2:=P2.length
 have q3:=P3.length
 have q4:=P4.length
 have q5:=P5.length
 have ok1:=ok.l1
 have ok2:=ok.l2
 have bn:=ok.bn
 have br:=ok.br
 have bp:=ok.bp
 push_cast[U5,↓Tg,↓Th,↓Tj]
 refine⟨_,_,hly,DY (by decide +kernel),ly,n,r,c,w,rfl,TL,L,λt ht=> ?_⟩
 have s1:=AS (o:=.tup [.int ((n:Int) * w),.int ((r:Int) * w),.int ((c:Int) * w)]) ht
 have et:upd H t (.tup [.int ((n:Int) * w),.int ((r:Int) * w),.int ((c:Int) * w)]) t=some (.tup [.int ((n:Int) * w),.int ((r:Int) * w),.int ((c:Int) * w)]):=AM
 revert s1 et
 generalize upd H t (.tup [.int ((n:Int) * w),.int ((r:Int) * w),.int ((c:Int) * w)])=H1
 intro s1 et
 refine BX et (n:=1) rfl rfl (BX et (n:=2) rfl rfl ?_)
 push_cast[↓Tk]
 refine BX et (n:=0) rfl rfl ?_
 have cn:∀ k:Nat,((k:Int) * w)=((k * w:Nat):Int):=λk=>by simp
 have nw:n * w<=100:=by omega
 have rw':r * w<=100:=by omega
 have cw:c * w<=100:=by omega
 have ngx:gp≠x:=λz=>by
  obtain⟨dp,e⟩:=P.ob
  rw[z,hx]at e
  have e:=(HO.ins.inj (Option.some.inj e)).2.2
  simp[pf]at e
 have nlx:ly≠x:=λz=>by
  rw[z,hx]at hly
  have hly:=(HO.ins.inj (Option.some.inj hly)).2.2
  simp[lf]at hly
 have nli:∀ {y:Addr} {us:List V} {H':Hp} {fs:List (Str × V)},H' y=some (.lst us)->VI a H H' x dx fs->y≠x:=λe I z=>by
  rw[z,I.ob]at e;cases e
 have L':∀ {H':Hp},SameBut (· =x) H H'->LayAt a H' ly n r c w:=λs=>L.sb s nlx
 have P':∀ {H':Hp},SameBut (· =x) H H'->PlankAt a H' gp cl w rows m:=λs=>P.off hx ngx s
 have V1:VI a H H1 x dx []:=⟨s1 _ _ hx,s1.sb⟩
 rw[cn n,cn r,cn c]
 refine⟨_,rfl,by omega,by omega,?_⟩
 rw[Int.toNat_natCast]
 refine NU (n:=n) (b:=0) (us:=v1) (pre:=[]) (post:=v2++v3++v4++v5) TP (P' V1.s) b4 (by omega) (by omega) (by rw[ef];simp) (by simp) (by omega) (λk hk H' Q' s q'=> ?_) λan H2 han s2 ean=> ?_
 ·have Lk:=L' (V1.s.trans s.sb)
  obtain⟨dl',hly'⟩:=Lk.ob
  push_cast[BI]
  exact⟨_,_,hly',DY (by decide +kernel),ly,n,r,c,w,k,rfl,TL,Lk,NV (by simp) q'⟩
 obtain⟨V2,w2,u2⟩:=V1.put (f:="name_values") (l:=an) s2 b8
 refine⟨_,_,_,s2 _ _ V1.ob,T.cl,T.n1,by decide,?_⟩
 have ean2:=u2 _ _ ean (nli (fs:=[]) ean ⟨s2 _ _ V1.ob,V1.s.trans s2.sb⟩)
 revert V2 w2 ean2
 generalize upd H2 x (.ins (a "View") dx (BU "name_values" (.ref an) []))=H3
 intro V2 w2 ean2
 clear u2
 push_cast[↓Tl]
 refine⟨by omega,by omega,?_⟩
 refine NU (n:=r) (b:=n) (us:=v2) (pre:=v1) (post:=v3++v4++v5) TP (P' V2.s) b4 (by omega) (by omega) (by simp[ef]) (by first | (simp only[List.length_append,Nat.add_mul];omega) | omega) (by omega) (λk hk H' Q' s q'=> ?_) λar H4 har s4 ear=> ?_
 ·have Lk:=L' (V2.s.trans s.sb)
  obtain⟨dl',hly'⟩:=Lk.ob
  push_cast[BI]
  exact⟨_,_,hly',DY (by decide +kernel),ly,n,r,c,w,k,rfl,TL,Lk,NV (by simp) q'⟩
 obtain⟨V3,w3,u3⟩:=V2.put (f:="record_values") (l:=ar) (fs':=[("name_values",.ref an),("record_values",.ref ar)]) s4 (by rw[CV (by decide +kernel)];rfl)
 refine⟨_,_,_,s4 _ _ V2.ob,T.cl,T.n2,by simp,?_⟩
 have ear2:=u3 _ _ ear (nli ear ⟨s4 _ _ V2.ob,V2.s.trans s4.sb⟩)
 replace ean2:=w3 _ _ ean2 (nli ean2 V2)
 revert V3 w3 ean2 ear2
 generalize upd H4 x (.ins (a "View") dx (BU "record_values" (.ref ar) [("name_values",.ref an)]))=H5
 intro V3 w3 ear2 ean2
 clear u3
 push_cast[↓Tm]
 refine⟨by omega,by omega,?_⟩
 refine NU (n:=c) (b:=n+r) (us:=v3) (pre:=v1++v2) (post:=v4++v5) TP (P' V3.s) b4 (by omega) (by omega) (by simp[ef]) (by first | (simp only[List.length_append,Nat.add_mul];omega) | omega) (by omega) (λk hk H' Q' s q'=> ?_) λap H6 hap s6 eap=> ?_
 ·have Lk:=L' (V3.s.trans s.sb)
  obtain⟨dl',hly'⟩:=Lk.ob
  push_cast[BI]
  exact⟨_,_,hly',DY (by decide +kernel),ly,n,r,c,w,k,rfl,TL,Lk,NV (by simp) q'⟩
 obtain⟨V4,w4,u4⟩:=V3.put (f:="piece_values") (l:=ap) (fs':=[("name_values",.ref an),("record_values",.ref ar),("piece_values",.ref ap)]) s6 (by rw[CV (by decide +kernel)];rw[CV (by decide +kernel)];rfl)
 refine⟨_,_,_,s6 _ _ V3.ob,T.cl,T.n3,by simp,?_⟩
 have eap2:=u4 _ _ eap (nli eap ⟨s6 _ _ V3.ob,V3.s.trans s6.sb⟩)
 replace ean2:=w4 _ _ ean2 (nli ean2 V3)
 replace ear2:=w4 _ _ ear2 (nli ear2 V3)
 revert V4 w4 ean2 ear2 eap2
 generalize upd H6 x (.ins (a "View") dx (BU "piece_values" (.ref ap) [("name_values",.ref an),("record_values",.ref ar)]))=H7
 intro V4 w4 eap2 ean2 ear2
 clear u4
 push_cast[↓Tp]
 refine⟨by omega,by omega,?_⟩
 refine NU (n:=r) (b:=n+r+c) (us:=v4) (pre:=v1++v2++v3) (post:=v5) TP (P' V4.s) b4 (by omega) (by omega) (by simp[ef]) (by first | (simp only[List.length_append,Nat.add_mul];omega) | omega) (by omega) (λk hk H' Q' s q'=> ?_) λam H8 ham s8 eam=> ?_
 ·have Lk:=L' (V4.s.trans s.sb)
  obtain⟨dl',hly'⟩:=Lk.ob
  push_cast[BI]
  exact⟨_,_,hly',DY (by decide +kernel),ly,n,r,c,w,k,rfl,TL,Lk,NV (by simp) q'⟩
 obtain⟨V5,w5,u5⟩:=V4.put (f:="record_marks") (l:=am) (fs':=[("name_values",.ref an),("record_values",.ref ar),("piece_values",.ref ap),("record_marks",.ref am)]) s8 (by rw[CV (by decide +kernel)];rw[CV (by decide +kernel)];rw[CV (by decide +kernel)];rfl)
 refine⟨_,_,_,s8 _ _ V4.ob,T.cl,T.n4,by simp,?_⟩
 have eam2:=u5 _ _ eam (nli eam ⟨s8 _ _ V4.ob,V4.s.trans s8.sb⟩)
 replace ean2:=w5 _ _ ean2 (nli ean2 V4)
 replace ear2:=w5 _ _ ear2 (nli ear2 V4)
 replace eap2:=w5 _ _ eap2 (nli eap2 V4)
 revert V5 w5 ean2 ear2 eap2 eam2
 generalize upd H8 x (.ins (a "View") dx (BU "record_marks" (.ref am) [("name_values",.ref an),("record_values",.ref ar),("piece_values",.ref ap)]))=H9
 intro V5 w5 eam2 ean2 ear2 eap2
 clear u5
 push_cast[↓Tq]
 refine⟨by omega,by omega,?_⟩
 refine NU (n:=c) (b:=n+r+c+r) (us:=v5) (pre:=v1++v2++v3++v4) (post:=[]) TP (P' V5.s) b4 (by omega) (by omega) (by simp[ef]) (by first | (simp only[List.length_append,Nat.add_mul];omega) | omega) (by omega) (λk hk H' Q' s q'=> ?_) λaq H10 haq s10 eaq=> ?_
 ·have Lk:=L' (V5.s.trans s.sb)
  obtain⟨dl',hly'⟩:=Lk.ob
  push_cast[BI]
  exact⟨_,_,hly',DY (by decide +kernel),ly,n,r,c,w,k,rfl,TL,Lk,NV (by simp) q'⟩
 obtain⟨V6,w6,u6⟩:=V5.put (f:="piece_marks") (l:=aq) (fs':=[("name_values",.ref an),("record_values",.ref ar),("piece_values",.ref ap),("record_marks",.ref am),("piece_marks",.ref aq)]) s10 (by rw[CV (by decide +kernel)];rw[CV (by decide +kernel)];rw[CV (by decide +kernel)];rw[CV (by decide +kernel)];rfl)
 refine⟨_,_,_,s10 _ _ V5.ob,T.cl,T.n5,by simp,?_⟩
 have eaq2:=u6 _ _ eaq (nli eaq ⟨s10 _ _ V5.ob,V5.s.trans s10.sb⟩)
 replace ean2:=w6 _ _ ean2 (nli ean2 V5)
 replace ear2:=w6 _ _ ear2 (nli ear2 V5)
 replace eap2:=w6 _ _ eap2 (nli eap2 V5)
 replace eam2:=w6 _ _ eam2 (nli eam2 V5)
 revert V6 w6 ean2 ear2 eap2 eam2 eaq2
 generalize upd H10 x (.ins (a "View") dx (BU "piece_marks" (.ref aq) [("name_values",.ref an),("record_values",.ref ar),("piece_values",.ref ap),("record_marks",.ref am)]))=H11
 intro V6 w6 eaq2 ean2 ear2 eap2 eam2
 clear u6
 push_cast[↓Tv]
 have P1':Paired (NmV H11) v1 vw.nm:=Paired.mapP P1 λv c=>NmV.keep λy xs e=>V6.s _ _ e (DA e hx (by intro z;cases z))
 have P2':Paired (RcV H11) v2 vw.rc:=Paired.mapP P2 λv c=>RcV.keep λy xs e=>V6.s _ _ e (DA e hx (by intro z;cases z))
 refine⟨_,_,_,V6.ob,T.cl,T.n1,_,zbg,an,rfl,.inl ⟨⟨_,SqL.of ean2⟩,?_⟩⟩
 refine bW (xs:=v1) (λi=>(AF vw.nm i).isSome) (small _ (by omega)) (λi ys H'=>H'=H11/\ys=AU (BZ (vw.nm.take i))) ⟨rfl,rfl⟩ (λi ys H' _ ⟨e,e'⟩=>⟨e ▸ SqL.of ean2,?_⟩) (λi v ys H' hv ⟨e,e'⟩ QB qb=> ?_) (λi v ys H' hv hp ⟨e,e'⟩=> ?_) (λi v ys H' hv hp ⟨e,e'⟩=>⟨e,?_⟩) (λys H' ⟨e,e'⟩ p hp=> ?_)
 ·rw[e',B5]
  unfold BZ
  exact Nat.le_trans (List.length_filterMap_le ..) (by rw[List.length_take];omega)
 ·subst e
  obtain⟨c',ec,hr⟩:=EK P1' hv
  push_cast[]
  rw[VP hr]
  unfold AF at qb
  rw[ec]at qb
  simpa using qb
 ·subst e
  obtain⟨c',ec,hr⟩:=EK P1' hv
  have:c'.isSome=true:=by
   unfold AF at hp
   rw[ec]at hp
   exact hp
  obtain⟨cc,rfl⟩:=Option.isSome_iff_exists.mp this
  obtain⟨p,rfl,hp'⟩:=hr
  push_cast[]
  refine BX hp' (n:=1) rfl rfl ⟨rfl,?_⟩
  rw[e',ER ec]
  unfold BZ AU
  rw[List.filterMap_append,List.map_append]
  rfl
 ·obtain⟨c',ec,hr⟩:=EK P1' hv
  have:c'=none:=by
   unfold AF at hp
   rw[ec]at hp
   cases c' with
   | none=>rfl
   | some _=>cases hp
  subst this
  rw[e',ER ec]
  unfold BZ AU
  rw[List.filterMap_append,List.map_append]
  simp
 subst e
 rw[q1,List.take_length]at e'
 subst e'
 have s12:=AS (o:=.lst (AU (BZ vw.nm))) hp
 have e12:upd H' p (.lst (AU (BZ vw.nm))) p=some (.lst (AU (BZ vw.nm))):=AM
 revert s12 e12
 generalize upd H' p (.lst (AU (BZ vw.nm)))=H12
 intro s12 e12
 have hll:(BZ vw.nm).length<=100:=Nat.le_trans (List.length_filterMap_le ..) bn
 refine⟨r * w,p,BZ vw.nm,rfl,e12,λk hk=> ?_,by omega,by omega,λal H13 hal s13 eal=> ?_⟩
 ·unfold BZ at hk
  obtain⟨cc,h1,h2⟩:=List.mem_filterMap.mp hk
  rw[Option.map_eq_some_iff]at h2
  obtain⟨c2,rfl,rfl⟩:=h2
  rw[<-lr]
  exact(ok.n1 c2 h1).1
 obtain⟨V7,w7,u7⟩:=V6.put (f:="leads") (l:=al) (fs':=[("name_values",.ref an),("record_values",.ref ar),("piece_values",.ref ap),("record_marks",.ref am),("piece_marks",.ref aq),("leads",.ref al)]) (s12.trans s13) (by rw[CV (by decide +kernel)];rw[CV (by decide +kernel)];rw[CV (by decide +kernel)];rw[CV (by decide +kernel)];rw[CV (by decide +kernel)];rfl)
 refine⟨_,_,_,(s12.trans s13) _ _ V6.ob,T.cl,T.n6,by simp,?_⟩
 have eal2:=u7 _ _ eal (nli eal ⟨(s12.trans s13) _ _ V6.ob,V6.s.trans (s12.trans s13).sb⟩)
 replace ean2:=w7 _ _ ean2 (nli ean2 V6)
 replace ear2:=w7 _ _ ear2 (nli ear2 V6)
 replace eap2:=w7 _ _ eap2 (nli eap2 V6)
 replace eam2:=w7 _ _ eam2 (nli eam2 V6)
 replace eaq2:=w7 _ _ eaq2 (nli eaq2 V6)
 revert V7 w7 eal2 ean2 ear2 eap2 eam2 eaq2
 generalize upd H13 x (.ins (a "View") dx (BU "leads" (.ref al) [("name_values",.ref an),("record_values",.ref ar),("piece_values",.ref ap),("record_marks",.ref am),("piece_marks",.ref aq)]))=H14
 intro V7 w7 eal2 ean2 ear2 eap2 eam2 eaq2
 clear u7
 have tkx:∀ {H':Hp} {fs:List (Str × V)},VI a H H' x dx fs->CP H H':=λI y xs e=>I.s _ _ e (DA e hx (by intro z;cases z))
 have rcs:∀ {H':Hp} {fs:List (Str × V)},VI a H H' x dx fs->H' ar=some (.lst v2)->LstAt RcV H' ar vw.rc:=λI e=>⟨v2,e,Paired.mapP P2 λv c=>RcV.keep (tkx I)⟩
 have n10:∀ cc,some cc∈vw.rc->cc.2.length<=10:=λcc h=>(ok.n2 cc h).2
 have pb:∀ (l:List EN),l.length<=100->(∀ cc,some cc∈l->cc.2.length<=10)->(CS l).length<=1000:=λl hl h=>by
  have:(CS l).length<=l.length * 10:=by
   clear hl
   induction l with
   | nil=>simp[CS]
   | cons y l ih =>
    have ih:=ih λcc hc=>h cc (List.mem_cons_of_mem _ hc)
    unfold CS at ih ⊢
    rw[List.flatMap_cons,List.length_append,List.length_cons]
    have:(E8 y).length<=10:=by
     cases y with
     | none=>simp[E8]
     | some c=>exact h c List.mem_cons_self
    omega
  omega
 push_cast[↓Tw]
 refine⟨_,_,_,V7.ob,T.cl,T.n2,_,nR,ar,vw.rc,rfl,rcs V7 ear2,br,n10,λpl H15 hpl s15 epl=>⟨c * w,pl,CS vw.rc,rfl,epl,λk hk=> ?_,by omega,by have:=pb _ br n10;omega,λag H16 hag s16 eag=> ?_⟩⟩
 ·unfold CS at hk
  obtain⟨cc,h1,h2⟩:=List.mem_flatMap.mp hk
  cases cc with
  | none=>cases h2
  | some cc =>
   rw[<-lp]
   exact(ok.n2 cc h1).1 k h2
 obtain⟨V8,w8,u8⟩:=V7.put (f:="namings") (l:=ag) (fs':=[("name_values",.ref an),("record_values",.ref ar),("piece_values",.ref ap),("record_marks",.ref am),("piece_marks",.ref aq),("leads",.ref al),("namings",.ref ag)]) (s15.trans s16) (by rw[CV (by decide +kernel)];rw[CV (by decide +kernel)];rw[CV (by decide +kernel)];rw[CV (by decide +kernel)];rw[CV (by decide +kernel)];rw[CV (by decide +kernel)];rfl)
 refine⟨_,_,_,(s15.trans s16) _ _ V7.ob,T.cl,T.n7,by simp,?_⟩
 have eag2:=u8 _ _ eag (nli eag ⟨(s15.trans s16) _ _ V7.ob,V7.s.trans (s15.trans s16).sb⟩)
 replace eal2:=w8 _ _ eal2 (nli eal2 V7)
 replace ean2:=w8 _ _ ean2 (nli ean2 V7)
 replace ear2:=w8 _ _ ear2 (nli ear2 V7)
 replace eap2:=w8 _ _ eap2 (nli eap2 V7)
 replace eam2:=w8 _ _ eam2 (nli eam2 V7)
 replace eaq2:=w8 _ _ eaq2 (nli eaq2 V7)
 revert V8 w8 eag2 eal2 ean2 ear2 eap2 eam2 eaq2
 generalize upd H16 x (.ins (a "View") dx (BU "namings" (.ref ag) [("name_values",.ref an),("record_values",.ref ar),("piece_values",.ref ap),("record_marks",.ref am),("piece_marks",.ref aq),("leads",.ref al)]))=H17
 intro V8 w8 eag2 eal2 ean2 ear2 eap2 eam2 eaq2
 clear u8
 have hal':H17 al=some (.lst (AU ((List.range vw.rc.length).map (led vw)))):=by rw[lr];exact eal2
 have ltm:∀ cc,some cc∈G0 vw->some cc∈vw.rc:=λcc h=>by
  unfold G0 at h
  obtain⟨k,_,hk⟩:=List.mem_map.mp h
  unfold AF at hk
  cases e:vw.rc[k]? with
  | none=>rw[e]at hk;cases hk
  | some y =>
   rw[e]at hk
   have hk:y=some cc:=hk
   exact hk ▸ List.mem_of_getElem? e
 have ltl:(G0 vw).length<=100:=by
  unfold G0
  rw[List.length_map]
  exact Nat.le_trans (List.length_filter_le ..) (by rw[List.length_range];exact br)
 push_cast[↓Tx]
 refine⟨_,_,V8.ob,?_,x,ar,al,vw,rfl,T,⟨_,_,V8.ob,nR⟩,⟨_,_,V8.ob,zbh⟩,rcs V8 ear2,hal',br,λlt H18 hlt s18 elt=>⟨lt,G0 vw,rfl,elt,ltl,λcc h=>n10 cc (ltm cc h),λpl2 H19 hpl2 s19 epl2=>⟨c * w,pl2,CS (G0 vw),rfl,epl2,λk hk=> ?_,by omega,by have:=pb _ ltl (λcc h=>n10 cc (ltm cc h));omega,λah H20 hah s20 eah=> ?_⟩⟩⟩
 ·simp[List.lookup_cons,BJ (a:="records_led_to") (b:="name_values") (by decide +kernel),BJ (a:="records_led_to") (b:="record_values") (by decide +kernel),BJ (a:="records_led_to") (b:="piece_values") (by decide +kernel),BJ (a:="records_led_to") (b:="record_marks") (by decide +kernel),BJ (a:="records_led_to") (b:="piece_marks") (by decide +kernel),BJ (a:="records_led_to") (b:="leads") (by decide +kernel),BJ (a:="records_led_to") (b:="namings") (by decide +kernel)]
 ·unfold CS at hk
  obtain⟨cc,h1,h2⟩:=List.mem_flatMap.mp hk
  cases cc with
  | none=>cases h2
  | some cc =>
   rw[<-lp]
   exact(ok.n2 cc (ltm cc h1)).1 k h2
 have s1720:=(s18.trans s19).trans s20
 obtain⟨V9,w9,u9⟩:=V8.put (f:="reached") (l:=ah) (fs':=vf ⟨an,ar,ap,am,aq,al,ag,ah⟩) s1720 (by rw[CV (by decide +kernel)];rw[CV (by decide +kernel)];rw[CV (by decide +kernel)];rw[CV (by decide +kernel)];rw[CV (by decide +kernel)];rw[CV (by decide +kernel)];rw[CV (by decide +kernel)];rfl)
 refine⟨_,_,_,s1720 _ _ V8.ob,T.cl,T.n8,by simp,?_⟩
 have eah2:=u9 _ _ eah (nli eah ⟨s1720 _ _ V8.ob,V8.s.trans s1720.sb⟩)
 replace eag2:=w9 _ _ eag2 (nli eag2 V8)
 replace eal2:=w9 _ _ eal2 (nli eal2 V8)
 replace ean2:=w9 _ _ ean2 (nli ean2 V8)
 replace ear2:=w9 _ _ ear2 (nli ear2 V8)
 replace eap2:=w9 _ _ eap2 (nli eap2 V8)
 replace eam2:=w9 _ _ eam2 (nli eam2 V8)
 replace eaq2:=w9 _ _ eaq2 (nli eaq2 V8)
 have tk:=tkx V9
 refine q ⟨an,ar,ap,am,aq,al,ag,ah⟩ _ ⟨⟨dx,V9.ob⟩,⟨v1,ean2,Paired.mapP P1 λv c=>NmV.keep tk⟩,⟨v2,ear2,Paired.mapP P2 λv c=>RcV.keep tk⟩,⟨v3,eap2,Paired.mapP P3 λv c=>PcV.keep tk⟩,⟨v4,eam2,Paired.mapP P4 λv c=>MkV.keep tk⟩,⟨v5,eaq2,Paired.mapP P5 λv c=>MkV.keep tk⟩,by rw[lr];exact eal2,by rw[lp];exact eag2,by rw[lp];exact eah2,ok⟩ V9.s
theorem zbj(h:IU K a vs H Q E):vs.length=3:=by
 obtain⟨_,_,_,_,_,_,_,_,_,_,_,_,rfl,_⟩:=h
 rfl
theorem PlV.same{H':Hp}{rows:List (List V)}{n r c w:Nat}{vw:Vw}(h:PlV H rows n r c w vw)(tk:CP H H'):PlV H' rows n r c w vw:=by
 obtain⟨⟨v1,v2,v3,v4,v5,ef,P1,P2,P3,P4,P5⟩,x1,x2,x3,x4⟩:=h
 exact⟨⟨v1,v2,v3,v4,v5,ef,Paired.mapP P1 λv c=>NmV.keep tk,Paired.mapP P2 λv c=>RcV.keep tk,Paired.mapP P3 λv c=>PcV.keep tk,Paired.mapP P4 λv c=>MkV.keep tk,Paired.mapP P5 λv c=>MkV.keep tk⟩,x1,x2,x3,x4⟩
theorem Ground.same{H':Hp}{ly gp:Addr}{vw:Vw}(g:Ground K a H ly gp vw)(s:Same H H'):Ground K a H' ly gp vw:=by
 obtain⟨cl,n,r,c,w,rows,m,T,TL,TP,L,P,hr,pv⟩:=g
 exact⟨cl,n,r,c,w,rows,m,T,TL,TP,L.same s,P.same s,hr,pv.same s.tk⟩
theorem Ground.ok{ly gp:Addr}{vw:Vw}(g:Ground K a H ly gp vw):D8 vw:=by
 obtain⟨cl,n,r,c,w,rows,m,T,TL,TP,L,P,hr,pv⟩:=g
 exact pv.ok
theorem nS{ly gp:Addr}{vw:Vw}{Q:Addr->Hp->Prop}(g:Ground K a H ly gp vw)(q:TV K a->∀ x A H2,ViewAt a H2 x A vw->Same H H2->Q x H2) :
  ∀ x dx,H x=none->H dx=none->dx≠x->IU K a [.ref x,.ref ly,.ref gp] (upd (upd H dx (.own x)) x (.ins (a "View") dx [])) (λv H2=>v=.non/\Q x H2) E:=λx dx hx hdx nd=>by
 have s0:Same H (upd (upd H dx (.own x)) x (.ins (a "View") dx [])):=(AS hdx).trans (AS (by rw[AQ nd.symm];exact hx))
 obtain⟨cl,n,r,c,w,rows,m,T,TL,TP,L,P,hr,pv⟩:=g
 exact⟨x,dx,ly,gp,cl,n,r,c,w,rows,m,vw,rfl,T,TL,TP,AM,L.same s0,P.same s0,hr,pv.same s0.tk,λA H' I s=>⟨rfl,q T x A H' I λy o e=>s _ _ (s0 _ _ e) (BT e hx)⟩⟩
theorem zbk(h:M9 K a vs H Q E):VG K a (λ_=>E) (A6 Q) (A5 ["layout","plank","view"] vs) H:=by
 obtain⟨ly,gp,vw,rfl,g,q⟩:=h
 obtain⟨n1,n2,n3,n4,n5,n6⟩:=NT g.ok
 push_cast[VG,↓Vy]
 refine nS g λT x A H1 I s1=> ?_
 push_cast[↓Vz]
 refine⟨x,A,vw,rfl,T,I,λl1 H2 h2 s2 F2=>⟨x,A,vw,rfl,T,I.same s2,λl2 H3 h3 s3 F3=>FD (F2.same s3) F3 ?_ (q.of ((s1.trans s2).trans s3))⟩⟩
 unfold faults G1
 simp only[List.length_append]
 omega
theorem zbl(h:M9 K a vs H Q E):vs.length=2:=by
 obtain⟨_,_,_,rfl,_⟩:=h
 rfl
theorem zbm(h:NA K a vs H Q E):VH K a (λ_=>E) (A6 Q) (A5 ["layout","plank"] vs) H:=by
 obtain⟨ly,gp,vw,rfl,g,q⟩:=h
 push_cast[VH,↓Wb]
 refine nS g λT x A H1 I s1=>⟨x,A,vw,rfl,T,I,λl1 H2 h2 s2 F2=> ?_⟩
 obtain⟨ps,e,P⟩:=F2
 refine⟨(faults vw).length,.inl ⟨_,SqL.of e,by rw[List.length_map,P.length]⟩,?_⟩
 have:=q H2 (s1.trans s2)
 have e2:decide (((faults vw).length:Int)=0)=decide (faults vw=[]):=by
  rw[decide_eq_decide]
  constructor
  ·intro h;exact List.length_eq_zero_iff.mp (by omega)
  ·intro h;rw[h];rfl
 rw[e2]
 exact this
theorem zbn(h:NA K a vs H Q E):vs.length=2:=by
 obtain⟨_,_,_,rfl,_⟩:=h
 rfl
theorem G5(x:Int){n:Nat}(h:1<=n):∃ b:Nat,x % (n:Int)=b/\b<n :=
  ⟨(x % (n:Int)).toNat,by have:=Int.emod_nonneg x (show(n:Int)≠0 by omega);omega,by
    have:=Int.emod_lt_of_pos x (show(0:Int)<n by omega)
    have:=Int.emod_nonneg x (show(n:Int)≠0 by omega);omega⟩
theorem nT{z:Str}{i:Int}{n:Nat}{c:Nat}{Q:VK}(hi:i=n)(hL:z.cps.toList.length<=1000)(hc:z.cps.toList[n]? =some c)(q:Q (.str ⟨#[c]⟩) H):AI K (.str z) (.int i) H Q:=by
 subst hi
 exact .inr (.inr ⟨z,n,c,rfl,rfl,Nat.le_trans (by simpa [Str.length]using hL) (small _ (by omega)),RN hc,q⟩)
theorem zbo:∀ i:Fin 26,(Str.ofString "abcdefghijklmnopqrstuvwxyz").cps.toList[i.val]? =some (97+i.val):=by decide +kernel
theorem zbp{i:Int}{n:Nat}{Q:VK}(hi:i=n)(hn:n<26)(q:Q (.str ⟨#[97+n]⟩) H):AI K (.str (Str.ofString "abcdefghijklmnopqrstuvwxyz")) (.int i) H Q:=nT hi (by decide +kernel) (zbo ⟨n,hn⟩) q
def NW:Str:=Str.ofString " !\"#$&'()*+,-./0123456789:;<=>?@ABCDEFGHIJKLMNOPQRSTUVWXYZ[\\]^_`"++Str.ofString "abcdefghijklmnopqrstuvwxyz{|}~"
theorem zbq:∀ i:Fin 94,∃ c,NW.cps.toList[i.val]? =some c/\c<1114112:=by
 have h:∀ i:Fin 94,NW.cps.toList[i.val]? =some (NW.cps.toList[i.val]!)/\NW.cps.toList[i.val]! <1114112:=by decide +kernel
 exact λi=>⟨_,(h i).1,(h i).2⟩
theorem nU:∀ l:List Str,(∀ x∈l,x.length=1)->(l.map (·.length)).sum=l.length
 | [],_=>rfl
 | x::r,h=>by
  rw[List.map_cons,List.sum_cons,nU r λy hy=>h y (List.mem_cons_of_mem _ hy),h x List.mem_cons_self,List.length_cons]
  omega
theorem nX{g:Str}(hg:PyData.strOk g=true):∀ (l:List Str) (acc:Array Nat),(acc.all λx=>decide (x<1114112))=true->(∀ z∈l,PyData.strOk z=true)->((l.foldl (λacc p=>acc++g.cps++p.cps) acc).all λx=>decide (x<1114112))=true
 | [],acc,h,_=>h
 | z::l,acc,h,hz=>by
  rw[List.foldl_cons]
  refine nX hg l _ ?_ λy hy=>hz y (List.mem_cons_of_mem _ hy)
  have h1:(g.cps.all λx=>decide (x<1114112))=true:=hg
  have h2:(z.cps.all λx=>decide (x<1114112))=true:=hz z List.mem_cons_self
  rw[Array.all_append,Array.all_append,h,h1,h2,Bool.true_and,Bool.true_and]
theorem zbr{g:Str}{l:List Str}(hg:PyData.strOk g=true)(h:∀ z∈l,PyData.strOk z=true):PyData.strOk (Txt.join g l)=true:=by
 unfold PyData.strOk Txt.join Builtin.Str.glued
 cases l with
 | nil=>show((Str.empty.cps).all λx=>decide (x<1114112))=true;decide +kernel
 | cons z l=>exact nX hg l z.cps (h z List.mem_cons_self) λy hy=>h y (List.mem_cons_of_mem _ hy)
theorem zbs{n:Nat}{k:Int}(hn:n<26)(h0:0<=k)(h1:k<10):PyData.strOk (IH ⟨#[97+n]⟩ k)=true:=by
 have:∀ (n:Fin 26) (k:Fin 10),PyData.strOk (IH ⟨#[97+n.val]⟩ (k.val:Int))=true:=by decide +kernel
 have:=this ⟨n,hn⟩ ⟨k.toNat,by omega⟩
 rwa [show(((⟨k.toNat,by omega⟩:Fin 10).val:Nat):Int)=k from by simp;omega]at this
theorem GO{p:Addr}{xs:List Int}{k:Nat}{Q:VK}(h:H p=some (.lst (xs.map V.int)))(hk:k<xs.length)(q:∀ x∈xs,Q (.int x) H):AI K (.ref p) (.int k) H Q :=
 BV (SqL.of h) (n:=k) rfl (by rw[List.getElem?_map,List.getElem?_eq_getElem hk];rfl) (q _ (List.getElem_mem hk))
theorem zbt(h:FA K a vs H Q E):T2 K a (λ_=>E) (A6 Q) (A5 ["cell","many","here","there","found","k"] vs) H:=by
 obtain⟨c,m,rfl,hm,q⟩:=h
 push_cast[T2,↓Gd,↓Gg,↓Gh]
 refine⟨⟨by decide,by decide⟩,by decide,λl hl=> ?_⟩
 have a1:0<=c % 920419823+5/\c % 920419823+5<1000000000:=by omega
 have a2:0<=c / 920419823 % 899809363+3/\c / 920419823 % 899809363+3<1000000000:=by omega
 generalize c % 920419823+5=here at a1 ⊢
 generalize c / 920419823 % 899809363+3=there at a2 ⊢
 have s1:=AS (o:=.lst []) hl
 have e1:upd H l (.lst []) l=some (.lst []):=AM
 revert s1 e1
 generalize upd H l (.lst [])=H1
 intro s1 e1
 push_cast[↓Gp]
 refine⟨by omega,by omega,MO (λi σ H'=>∃ (xs:List Int) (here there:Int),Same H H'/\H' l=some (.lst (xs.map V.int))/\xs.length=i/\(∀ x∈xs,0<=x/\x<2000000000)/\(0<=here/\here<1000000000)/\(0<=there/\there<1000000000)/\∃ y,σ=[some (.int c),some (.int m),some (.int here),some (.int there),some (.ref l),y]) ⟨[],here,there,s1,e1,rfl,by simp,a1,a2,_,rfl⟩ (λi σ H' hi ⟨xs,he,th,s,e,hxl,hx,b1,b2,y,eσ⟩=> ?_) (λσ H' ⟨xs,he,th,s,e,hxl,hx,b1,b2,y,eσ⟩=> ?_)⟩
 ·subst eσ
  push_cast[↓Gj,↓Gk,↓Gm]
  have c1:0<=(he * 70001+th) % 920419823/\(he * 70001+th) % 920419823<920419823:=by omega
  generalize (he * 70001+th) % 920419823=h2 at c1 ⊢
  generalize h2 * h2=sq
  refine⟨.inl ⟨by omega,by omega⟩,.inl ⟨by omega,by omega⟩,.inl ⟨by omega,by omega⟩,.inl ⟨rfl,_,SqL.of e⟩,l,_,_,rfl,rfl,e,Nat.lt_of_lt_of_le (show(xs.map V.int).length<1000 by rw[List.length_map];omega) (by decide),λy o e=>by rw[AQ (BT e hl)];exact s _ _ e,xs++[h2+(th * 60013+sq+(0+(i:Int))) % 899809363],by rw[AM,List.map_append];rfl,by simp[hxl],λx hxm=> ?_,h2,by omega,by omega,_,?_,?_,rfl,rfl⟩
  ·rcases List.mem_append.mp hxm with h | h
   ·exact hx x h
   ·rw[List.mem_singleton.mp h];omega
  ·omega
  ·omega
 ·subst eσ
  push_cast[↓Gq]
  exact q l xs H' hl s e hxl hx
theorem zbu(h:FA K a vs H Q E):vs.length=2:=by
 obtain⟨_,_,rfl,_⟩:=h
 rfl
theorem zbv(h:NB K a vs H Q E):UN K a (λ_=>E) (A6 Q) (A5 ["cell","xs","most"] vs) H:=by
 obtain⟨x,rfl,q⟩:=h
 push_cast[UN,↓Lq]
 refine⟨⟨by decide,by decide⟩,x / 48,3,rfl,by omega,λl xs H1 hl s1 el hxl hx=> ?_⟩
 have tail:∀ m:Int,3<=m->m<=6->UM K a (λ_=>E) (λ_=>E) (A6 Q) [some (.int x),some (.ref l),some (.int m)] H1:=λm m1 m2=>by
  have md:∀ y:Int,0<=y % m/\y % m<m:=λy=>⟨Int.emod_nonneg _ (by omega),Int.emod_lt_of_pos _ (by omega)⟩
  push_cast[↓Lx]
  refine GO (k:=0) el (by omega) λy1 _=> ?_
  push_cast[]
  refine⟨by omega,GO (k:=1) el (by omega) λy2 _=> ?_⟩
  push_cast[]
  refine⟨by omega,GO (k:=2) el (by omega) λy3 _=> ?_⟩
  push_cast[]
  refine⟨by omega,by decide,λt ht=> ?_⟩
  have d1:=md y1
  have d2:=md y2
  have d3:=md y3
  obtain⟨n,en⟩:∃ n:Nat,1+y1 % m=n:=⟨(1+y1 % m).toNat,by omega⟩
  obtain⟨r,er⟩:∃ n:Nat,1+y2 % m=n:=⟨(1+y2 % m).toNat,by omega⟩
  obtain⟨c,ec⟩:∃ n:Nat,1+y3 % m=n:=⟨(1+y3 % m).toNat,by omega⟩
  obtain⟨w,ew⟩:∃ n:Nat,1+x % 6=n:=⟨(1+x % 6).toNat,by omega⟩
  have bb:(1<=n/\n<=6)/\(1<=r/\r<=6)/\(1<=c/\c<=6)/\1<=w/\w<=6:=by omega
  rw[en,er,ec,ew]
  exact q t n r c w _ (s1.trans (AS ht)) AM bb.1.1 bb.1.2 bb.2.1.1 bb.2.1.2 bb.2.2.1.1 bb.2.2.1.2 bb.2.2.2.1 bb.2.2.2.2
 push_cast[↓Lw]
 refine⟨⟨by decide,by decide⟩,?_⟩
 split
 ·exact tail 6 (by omega) (by omega)
 ·exact tail 3 (by omega) (by omega)
theorem zbw(h:NB K a vs H Q E):vs.length=1:=by
 obtain⟨_,rfl,_⟩:=h
 rfl
theorem zbx(h:JW K a vs H Q E):UL K a (λ_=>E) (A6 Q) (A5 ["cell","signs","xs","size"] vs) H:=by
 obtain⟨x,rfl,q⟩:=h
 push_cast[UL,↓Ld,↓Lg,↓Lh]
 refine⟨by decide +kernel,x,3,rfl,by omega,λl xs H1 hl s1 el hxl hx=> ?_⟩
 have tail:∀ m:Nat,m<=40->UK K a (λ_=>E) (λ_=>E) (A6 Q) [some (.int x),some (.str NW),some (.ref l),some (.int m)] H1:=λm hm=>by
  push_cast[↓Lp]
  refine⟨rfl,by omega,by omega,?_⟩
  refine K0 (small _ (by omega)) (λi ys H'=>H'=H1/\∃ zs:List Str,ys=zs.map V.str/\∀ z∈zs,z.length=1/\PyData.strOk z=true) ⟨rfl,[],rfl,by simp⟩ (λi ys H' hi hl ⟨e1,zs,e2,e3⟩=> ?_) (λys H' hl' ⟨e1,zs,e2,e3⟩ p hp=> ?_)
  ·subst e1
   push_cast[BI]
   refine GO (k:=1) el (by omega) λy1 _=>GO (k:=2) el (by omega) λy2 hy2=> ?_
   have b2:=hx y2 hy2
   push_cast[]
   obtain⟨b,eb,hb⟩:=G5 (y1+(0+(i:Int)) * y2) (n:=94) (by omega)
   obtain⟨c,hc,hco⟩:=zbq ⟨b,hb⟩
   refine⟨.inl ⟨by omega,by omega⟩,?_⟩
   rw[show((94:Nat):Int)=94 from rfl]at eb
   rw[eb]
   refine nT rfl (by decide +kernel) hc ⟨rfl,zs++[⟨#[c]⟩],by rw[e2,List.map_append];rfl,λz hz=> ?_⟩
   rcases List.mem_append.mp hz with hz | hz
   ·exact e3 z hz
   ·rw[List.mem_singleton.mp hz]
    exact⟨rfl,by simp[PyData.strOk];exact hco⟩
  ·subst e1
   have hl2:zs.length=m:=by rw[<-hl',e2,List.length_map]
   refine⟨_,p,zs,rfl,rfl,by rw[<-e2];exact SqL.of AM,by decide,by rw[nU zs λz hz=>(e3 z hz).1];omega,q _ _ ?_ (s1.trans (AS hp))⟩
   exact zbr (by decide +kernel) λz hz=>(e3 z hz).2
 push_cast[↓Lj]
 refine GO (k:=0) el (by omega) λy1 hy1=> ?_
 have hb:=hx y1 hy1
 push_cast[↓Lm]
 refine GO (k:=0) el (by omega) λy2 hy2=> ?_
 push_cast[]
 refine⟨⟨by decide,by decide⟩,?_⟩
 split
 ·push_cast[↓Ll]
  exact tail 40 (by omega)
 ·obtain⟨m,em⟩:∃ m:Nat,1+y1 % 6=m:=⟨(1+y1 % 6).toNat,by omega⟩
  rw[em]
  exact tail m (by omega)
theorem zby(h:JW K a vs H Q E):vs.length=1:=by
 obtain⟨_,rfl,_⟩:=h
 rfl
def DI(w:Nat)(xs:List V)(i:Nat):List V:=(xs.drop (i * w)).take w
theorem nY{w:Nat}:∀ {M:Nat} {xs:List V},xs.length=M * w->((List.range M).map (DI w xs)).flatten=xs
 | 0,xs,h=>by
  have:xs=[]:=List.length_eq_zero_iff.mp (by omega)
  rw[this];rfl
 | M+1,xs,h=>by
  rw[List.range_succ_eq_map,List.map_cons,List.flatten_cons,List.map_map]
  have e:∀ i,DI w xs (i+1)=DI w (xs.drop w) i:=λi=>by
   unfold DI
   rw[List.drop_drop]
   congr 2
   rw[Nat.succ_mul];omega
  have e2:(List.range M).map (DI w xs ∘ Nat.succ)=(List.range M).map (DI w (xs.drop w)):=List.map_congr_left λi _=>e i
  rw[e2,nY (xs:=xs.drop w) (by rw[List.length_drop,h,Nat.succ_mul];omega)]
  unfold DI
  rw[Nat.zero_mul,List.drop_zero,List.take_append_drop]
theorem zbz{w M i:Nat}{xs:List V}(h:xs.length=M * w)(hi:i<M):(DI w xs i).length=w:=by
 unfold DI
 rw[List.length_take,List.length_drop,h]
 have:(i+1) * w<=M * w:=Nat.mul_le_mul_right w hi
 rw[Nat.succ_mul]at this
 omega
theorem LG{l1 l2:Addr}{x1 x2:List V}{Q:VK}(e1:H l1=some (.lst x1))(e2:H l2=some (.lst x2))(hn:x1.length+x2.length<=10000)(q:newL (x1++x2) H Q):BE K (.ref l1) (.ref l2) H Q :=
 .inl ⟨l1,l2,_,_,rfl,rfl,e1,e2,small _ (by omega),λp hp=>q p _ hp (AS hp) AM⟩
theorem zb0{te:TE}{cap:List Nat}{σ:St}{b:Addr}{xs:List V}(hn:xs.length<=sizeLine)(Pv:Nat->List V->Hp->Prop)(h0:Pv 0 [] H)(hq:∀ i ys H,i<=xs.length->Pv i ys H->SqT K H b xs)
  (hs:∀ i x ys H,xs[i]? =some x->ys.length=i->Pv i ys H->te (some x::BI cap σ) H λy H2=>Pv (i+1) (ys++[y]) H2)
  (hd:∀ ys H,ys.length=xs.length->Pv xs.length ys H->∀ p,H p=none->Q (.ref p) (upd H p (.lst ys))) :
  DR (L8 K b) (AJ 0) CZ te 1 cap σ H Q:=by
 refine⟨λi m σ' ys H=>m=xs.length - i/\i<=xs.length/\ys.length=i/\(∃ x0,σ'=x0::BI cap σ)/\Pv i ys H,⟨xs.length,by simp,Nat.zero_le _,rfl,⟨none,rfl⟩,h0⟩,?_⟩
 rintro i m σ' ys H ⟨rfl,hi,hl,⟨x0,rfl⟩,p⟩
 have q:=hq i ys H hi p
 by_cases hlt:i<xs.length
 ·refine .inr ⟨⟨xs,xs[i],q,by simp[hlt]⟩,by omega,λx H' y=> ?_⟩
  obtain⟨e,y⟩:=y
  subst e
  exact⟨_,λy H4 q=>⟨_,by omega,rfl,hlt,by simp[hl],⟨_,rfl⟩,q⟩,hs i x ys _ (y xs q) hl p⟩
 ·have e:i=xs.length:=by omega
  subst e
  exact .inl ⟨⟨xs,q,Nat.le_refl _⟩,hd ys H hl p⟩
theorem zb1(k:Nat):(List.replicate k [V.non]).flatten=List.replicate k V.non:=by
 induction k with
 | zero=>rfl
 | succ k ih=>rw[List.replicate_succ,List.flatten_cons,ih];rfl
theorem zb2{p:Addr}{k:Nat}{Q:VK}(e:H p=some (.lst [V.non]))(hk:k<=1000)(q:newL (List.replicate k V.non) H Q):DX K (.ref p) (.int k) H Q:=by
 refine .inl ⟨p,k,_,rfl,rfl,e,by omega,by omega,small _ (by simp;omega),λl hl=> ?_⟩
 rw[Int.toNat_natCast,zb1]
 exact q l _ hl (AS hl) AM
theorem LH{α β :Type}{F: α -> β ->Prop}{x: α}{y: β}(h:F x y):∀ n,Paired F (List.replicate n x) (List.replicate n y)
 | 0=>.nil
 | n+1=>.cons h (LH h n)
def G6(n:Nat)(ks:List Nat):List V:=AU ((List.range n).map λk=>ks.count k)
theorem zb3{n k:Nat}{ks:List Nat}(hk:k<n):(G6 n ks).set k (.int ((ks.count k:Int)+1))=G6 n (ks++[k]):=by
 unfold G6 AU
 refine List.ext_getElem? λj=> ?_
 by_cases hj:j<n
 ·rw[List.getElem?_map,HV hj,List.count_append]
  by_cases z:k=j
  ·subst z
   rw[List.getElem?_set_self (by simpa using hj)]
   simp
  ·rw[List.getElem?_set_ne z,List.getElem?_map,HV hj]
   have:List.count j [k]=0:=by simp[z]
   rw[this]
   rfl
 ·rw[List.getElem?_eq_none (by simp;omega),List.getElem?_eq_none (by simp;omega)]
theorem zb4{n k:Nat}{ks:List Nat}(hk:k<n):(G6 n ks)[k]? =some (.int (ks.count k:Nat)):=LE (HV hk)
theorem zb5(n:Nat)(ks:List Nat):(G6 n ks).length=n:=by unfold G6;rw[B5,GK]
theorem zb6(k:Nat):(List.replicate k [V.int 0]).flatten=G6 k []:=by
 unfold G6 AU
 rw[List.map_map]
 induction k with
 | zero=>rfl
 | succ k ih =>
  rw[List.replicate_succ',List.flatten_append,ih,List.range_succ,List.map_append]
  rfl
theorem zb7{p:Addr}{k:Nat}{Q:VK}(e:H p=some (.lst [V.int 0]))(hk:k<=1000)(q:newL (G6 k []) H Q):DX K (.ref p) (.int k) H Q:=by
 refine .inl ⟨p,k,_,rfl,rfl,e,by omega,by omega,small _ (by simp;omega),λl hl=> ?_⟩
 rw[Int.toNat_natCast,zb6]
 exact q l _ hl (AS hl) AM
theorem QH(l:List Nat):AU l=(l.map λ(k:Nat)=>(k:Int)).map V.int:=by
 unfold AU
 rw[List.map_map]
 rfl
theorem IW{p e0:Addr}{l:List Nat}(h1:H p=some (.lst (AU l)))(h2:H e0=some (.lst []))(q:Q (.bl (decide (l=[]))) H):BL K (.ref p) (.ref e0) H Q:=by
 refine z9 (n:=1) (by decide) (SqL.of h1) (by rw[QH];exact SH _) (SqL.of h2) ?_
 have:decide (AU l=[])=decide (l=[]):=by
  unfold AU
  rw[decide_eq_decide,List.map_eq_nil_iff]
 rw[this]
 exact q
theorem zb8{t:Addr}{ps:List Nat}{p:Nat}(ht:H t=some (.tup (AU ps)))(q:Q (.bl (decide (p∈ps))) H):SF K (.int p) (.ref t) H Q:=by
 refine⟨t,_,rfl,.inr (SqT.of ht),rfl,?_,?_⟩
 ·rw[List.all_eq_true]
  intro v hv
  obtain⟨i,_,rfl⟩:=List.mem_map.mp hv
  rfl
 ·rw[if_neg Bool.false_ne_true]
  have:OX (.int p) (AU ps)=decide (p∈ps):=by
   rw[Bool.eq_iff_iff]
   unfold OX AU
   rw[List.any_eq_true,decide_eq_true_eq]
   constructor
   ·rintro ⟨v,hv,he⟩
    obtain⟨k,hk,rfl⟩:=List.mem_map.mp hv
    simp[GW]at he
    have he:k=p:=by omega
    exact he ▸ hk
   ·intro h
    exact⟨_,List.mem_map.mpr ⟨p,h,rfl⟩,by simp[GW]⟩
  rw[this]
  exact q
theorem zb9{f:List V}(h:∀ v∈f,(∃ i,v=.int i)\/∃ s,v=.str s/\PyData.strOk s=true):∃ ds,Paired (Dat K H 1) f ds:=by
 induction f with
 | nil=>exact⟨[],.nil⟩
 | cons x r ih =>
  obtain⟨ds,hd⟩:=ih λv hv=>h v (List.mem_cons_of_mem _ hv)
  rcases h x List.mem_cons_self with⟨i,rfl⟩ | ⟨s,rfl,hs⟩
  ·exact⟨_,.cons (Dat.int i) hd⟩
  ·exact⟨_,.cons (⟨.str s,hs,Nat.zero_le _⟩:Dat K H 1 (.str s) (.str s)) hd⟩
theorem zca{l1 l2:Addr}{fs:List (List V)}(h1:FindsL H l1 fs)(h2:FindsL H l2 fs)(ok:FOk fs):∃ d,Dat K H 3 (.ref l1) d/\Dat K H 3 (.ref l2) d:=by
 have:∃ ds:List PyData,∀ ps:List Addr,Paired (λp f=>H p=some (.tup f)) ps fs->Paired (Dat K H 2) (ps.map V.ref) ds:=by
  clear h1 h2
  induction fs with
  | nil=>exact⟨[],λps P=>by cases P;exact .nil⟩
  | cons f r ih =>
   obtain⟨ds,hd⟩:=ih λg hg=>ok g (List.mem_cons_of_mem _ hg)
   obtain⟨d,hf⟩:=zb9 (K:=K) (H:=H) (ok f List.mem_cons_self).2.2
   refine⟨.tuple d::ds,λps P=> ?_⟩
   cases P with
   | cons e P=>exact .cons (Dat.tup (n:=1) (SqT.of e) hf) (hd _ P)
 obtain⟨ds,hd⟩:=this
 obtain⟨p1,e1,P1⟩:=h1
 obtain⟨p2,e2,P2⟩:=h2
 exact⟨.list ds,Dat.lst (n:=2) (SqL.of e1) (hd _ P1),Dat.lst (n:=2) (SqL.of e2) (hd _ P2)⟩
theorem FOk.app{f g:List (List V)}(h1:FOk f)(h2:FOk g):FOk (f++g):=λx hx=>(List.mem_append.mp hx).elim (h1 x) (h2 x)
theorem QI{n:Nat}{p:Nat->Bool}{f:Nat->List V}(h:∀ k,(f k).length<=10/\1<=(f k).length/\∀ v∈f k,(∃ i,v=.int i)\/∃ s,v=.str s/\PyData.strOk s=true):FOk (B1 n p f):=λx hx=>by
 unfold B1 at hx
 obtain⟨k,_,rfl⟩:=List.mem_map.mp hx
 exact h k
theorem zcb{s:Str}{i:Int}(h:PyData.strOk s=true):([V.str s,.int i]:List V).length<=10/\1<=([V.str s,.int i]:List V).length/\∀ v∈[V.str s,.int i],(∃ i,v=.int i)\/∃ s,v=.str s/\PyData.strOk s=true:=by
 refine⟨by simp,by simp,λv hv=> ?_⟩
 simp only[List.mem_cons,List.not_mem_nil,or_false]at hv
 rcases hv with rfl | rfl
 ·exact .inr ⟨_,rfl,h⟩
 ·exact .inl ⟨_,rfl⟩
theorem VS{s:Str}{u:V}{i:Int}(h:PyData.strOk s=true)(hu:(∃ i,u=.int i)\/∃ s,u=.str s/\PyData.strOk s=true):([V.str s,u,.int i]:List V).length<=10/\1<=([V.str s,u,.int i]:List V).length/\∀ v∈[V.str s,u,.int i],(∃ i,v=.int i)\/∃ s,v=.str s/\PyData.strOk s=true:=by
 refine⟨by simp,by simp,λv hv=> ?_⟩
 simp only[List.mem_cons,List.not_mem_nil,or_false]at hv
 rcases hv with rfl | rfl | rfl
 ·exact .inr ⟨_,rfl,h⟩
 ·exact hu
 ·exact .inl ⟨_,rfl⟩
theorem zcc(vw:Vw):FOk (G1 vw):=by
 unfold G1 JP JQ JR
 refine(FOk.app (.app (QI λk=>VS (by decide +kernel) (.inl ⟨_,rfl⟩)) (QI λk=>VS (by decide +kernel) (.inr ⟨_,rfl,by decide +kernel⟩))) (QI λk=>VS (by decide +kernel) (.inr ⟨_,rfl,by decide +kernel⟩))).app (QI λk=>zcb (by decide +kernel))
theorem PlV.good{rows:List (List V)}{n r c w:Nat}{vw:Vw}(h:PlV H rows n r c w vw):good7 H rows:=λrow hr v hv=>by
 obtain⟨v1,v2,v3,v4,v5,ef,P1,P2,P3,P4,P5⟩:=h.vs
 have hm:v∈rows.flatten:=List.mem_flatten.mpr ⟨row,hr,hv⟩
 rw[ef]at hm
 simp only[List.mem_append]at hm
 have mk:∀ {us:List V} {cs:List (Option Int)},Paired (MkV H) us cs->v∈us->GoodV 7 H v:=λP hm=>by
  obtain⟨i,hi⟩:=GZ hm
  obtain⟨c,_,hc⟩:=EK P hi
  cases c with
  | none=>rw[show v=.non from hc];trivial
  | some i=>rw[show v=.int i from hc];trivial
 rcases hm with(((hm | hm) | hm) | hm) | hm
 ·obtain⟨i,hi⟩:=GZ hm
  obtain⟨c,ec,hc⟩:=EK P1 hi
  cases c with
  | none=>rw[show v=.non from hc];trivial
  | some c =>
   obtain⟨p,rfl,hp⟩:=hc
   refine⟨_,hp,by simp,λu hu=> ?_⟩
   simp only[List.mem_cons,List.not_mem_nil,or_false]at hu
   rcases hu with rfl | rfl
   ·exact(h.ok.n1 c (List.mem_of_getElem? ec)).2
   ·trivial
 ·obtain⟨i,hi⟩:=GZ hm
  obtain⟨c,ec,hc⟩:=EK P2 hi
  cases c with
  | none=>rw[show v=.non from hc];trivial
  | some c =>
   obtain⟨p,t,rfl,hp,ht⟩:=hc
   refine⟨_,hp,by simp,λu hu=> ?_⟩
   simp only[List.mem_cons,List.not_mem_nil,or_false]at hu
   rcases hu with rfl | rfl
   ·trivial
   ·refine⟨_,ht,?_,λu hu=> ?_⟩
    ·rw[B5]
     have:=(h.ok.n2 c (List.mem_of_getElem? ec)).2
     omega
    ·obtain⟨k,_,rfl⟩:=List.mem_map.mp hu
     trivial
 ·obtain⟨i,hi⟩:=GZ hm
  obtain⟨c,ec,hc⟩:=EK P3 hi
  cases c with
  | none=>rw[show v=.non from hc];trivial
  | some s =>
   rw[show v=.str s from hc]
   exact h.ok.n3 s (List.mem_of_getElem? ec)
 ·exact mk P4 hm
 ·exact mk P5 hm
theorem zcd{n r c w:Nat}{Q:Addr->Hp->Prop}(TL:EG K a)(h1:n<=100)(h2:r<=100)(h3:c<=100)(h4:1<=w)(h5:w<=100)(q:∀ x H2,LayAt a H2 x n r c w->Same H H2->Q x H2) :
  ∀ x dx,H x=none->H dx=none->dx≠x->K5 K a [.ref x,.int n,.int r,.int c,.int w] (upd (upd H dx (.own x)) x (.ins (a "Layout") dx [])) (λv H2=>v=.non/\Q x H2) E:=λx dx hx hdx nd=>by
 have s0:Same H (upd (upd H dx (.own x)) x (.ins (a "Layout") dx [])):=(AS hdx).trans (AS (by rw[AQ nd.symm];exact hx))
 exact⟨x,dx,n,r,c,w,rfl,TL,AM,h1,h2,h3,h4,h5,λH' L s=>⟨rfl,q x H' L λy o e=>s _ _ (s0 _ _ e) (BT e hx)⟩⟩
theorem LstAt.set{α :Type}{R:Hp->V-> α ->Prop}{H':Hp}{p:Addr}{us:List V}{cs:List α}{b:Nat}{v:V}{c: α}(e:H' p=some (.lst (us.set b v)))(P:Paired (R H') us cs)(hr:R H' v c):LstAt R H' p (cs.set b c):=⟨_,e,SD hr b P⟩
theorem CA{α :Type}{l:List (Option α)}{k j:Nat}{x:Option α}(hk:k<l.length):AF (l.set k x) j=if j=k then x else AF l j:=by
 unfold AF
 by_cases h:j=k
 ·subst h
  rw[List.getElem?_set_self hk,if_pos rfl]
  rfl
 ·rw[List.getElem?_set_ne (λz=>h z.symm),if_neg h]
theorem FE{α :Type}{l:List (Option α)}{k:Nat}{c: α}(h:AF l k=some c):k<l.length:=by
 unfold AF at h
 cases e:l[k]? with
 | none=>rw[e]at h;cases h
 | some y=>exact(List.getElem?_eq_some_iff.mp e).1
theorem VT{nm:List GI}{c:Str × Nat}:∀ {k:Nat},nm[k]? =some none->(BZ (nm.set k (some c))).length=(BZ nm).length+1/\∀ r,(BZ (nm.set k (some c))).count r=(BZ nm).count r+if c.2=r then 1 else 0:=by
 induction nm with
 | nil=>intro k h;simp at h
 | cons x l ih =>
  intro k h
  cases k with
  | zero =>
   cases h
   refine⟨by simp[BZ],λr=> ?_⟩
   simp only[List.set_cons_zero,BZ,List.filterMap_cons,Option.map_some,Option.map_none,List.count_cons]
   by_cases z:c.2=r<;>simp[z]
  | succ k =>
   have h:l[k]? =some none:=by simpa using h
   obtain⟨h1,h2⟩:=ih h
   unfold BZ at h1 h2 ⊢
   rw[List.set_cons_succ]
   cases x with
   | none=>simpa using ⟨h1,h2⟩
   | some d =>
    simp only[List.filterMap_cons,Option.map_some,List.length_cons]
    refine⟨by omega,λr=> ?_⟩
    rw[List.count_cons,List.count_cons,h2 r]
    omega
theorem nZ{nm:List GI}:((List.range nm.length).filter λk=>(AF nm k).isNone).length+(BZ nm).length=nm.length:=by
 have gen:∀ (l:List GI),((List.range l.length).filter λk=>(AF l k).isNone).length=(l.filter (·.isNone)).length:=λl=>by
  have:((List.range l.length).filter λk=>(AF l k).isNone).map (λk=>l[k]?)=(l.filter (·.isNone)).map some:=by
   have e:l.map some=(List.range l.length).map (λk=>l[k]?):=by
    refine List.ext_getElem? λi=> ?_
    by_cases hi:i<l.length
    ·rw[List.getElem?_map,List.getElem?_map,List.getElem?_range hi,List.getElem?_eq_getElem hi]
     simp[List.getElem?_eq_getElem hi]
    ·rw[List.getElem?_eq_none (by simp;omega),List.getElem?_eq_none (by simp;omega)]
   have e2:(l.filter (·.isNone)).map some=(l.map some).filter (λo=>match o with
    | some x=>x.isNone
    | none=>false):=by
    rw[List.filter_map]
    rfl
   rw[e2,e,List.filter_map]
   congr 1
   refine List.filter_congr λk hk=> ?_
   have hk:=List.mem_range.mp hk
   simp only[Function.comp,AF,List.getElem?_eq_getElem hk]
   rfl
  have h:=congrArg List.length this
  simpa using h
 rw[gen]
 clear gen
 induction nm with
 | nil=>rfl
 | cons x l ih =>
  unfold BZ at ih ⊢
  cases x with
  | none=>simp at ih ⊢;omega
  | some c=>simp at ih ⊢;omega
section
variable{vw:Vw}{lf:List Nat}{zs:List Str}
theorem NX{r:Nat}(h:0<led vw r):∃ k c,AF vw.nm k=some c/\c.2=r:=by
 unfold led BZ at h
 have:=List.count_pos_iff.mp h
 obtain⟨x,hx,e⟩:=List.mem_filterMap.mp this
 rw[Option.map_eq_some_iff]at e
 obtain⟨c,rfl,e⟩:=e
 obtain⟨k,hk⟩:=List.mem_iff_getElem?.mp hx
 exact⟨k,c,by unfold AF;rw[hk];rfl,e⟩
theorem Clean.led0(C:Clean vw lf zs){r:Nat}(h:AF vw.rc r=none):led vw r=0:=by
 cases e:led vw r with
 | zero=>rfl
 | succ n =>
  exfalso
  obtain⟨k,c,hk,hc⟩:=NX (vw:=vw) (r:=r) (by omega)
  have:=C.ls k c hk
  rw[hc,h]at this
  cases this
theorem Clean.text{p:Nat}{z:Str}(C:Clean vw lf zs)(h1:p<vw.pc.length)(h2:p<vw.pm.length)(hp:AF vw.pm p=none):Clean { vw with pc:=vw.pc.set p (some z),pm:=vw.pm.set p (some 1) } (lf++[p]) zs:=by
 have no:∀ r c,AF vw.rc r=some c->p∉c.2:=λr c hr hm=>by
  have:=(C.em r c hr p hm).2
  rw[hp]at this;cases this
 refine⟨C.nm,C.ds,C.ls,C.fw,C.s1,C.s2,λr c hr q hq=> ?_,C.fr,?_,λq=> ?_,C.p3⟩
 ·have hr:AF vw.rc r=some c:=hr
  have ne:q≠p:=λe=>no r c hr (e ▸ hq)
  simp only[CA h1,CA h2,if_neg ne]
  exact C.em r c hr q hq
 ·rw[List.nodup_append]
  refine⟨C.nd,by simp,λx hx y hy=> ?_⟩
  rw[List.mem_singleton.mp hy]
  intro e
  have:=((C.lm x).mp hx).1
  rw[e,hp]at this;cases this
 ·simp only[List.mem_append,List.mem_singleton,CA h2]
  constructor
  ·rintro (h | rfl)
   ·obtain⟨a1,a2⟩:=(C.lm q).mp h
    refine⟨?_,a2⟩
    split
    ·rfl
    ·exact a1
   ·exact⟨by simp,λr c hr hc=>no r c hc⟩
  ·rintro ⟨a1,a2⟩
   by_cases e:q=p
   ·exact .inr e
   ·rw[if_neg e]at a1
    exact .inl ((C.lm q).mpr ⟨a1,a2⟩)
theorem Clean.recd{r:Nat}{cnt:Int}{tk:List Nat}(C:Clean vw lf zs)(hr:r<vw.rc.length)(h0:AF vw.rc r=none)(hn:tk.Nodup)(h3:tk.length<=3)(ht:∀ p∈tk,((AF vw.pc p).isSome=true/\AF vw.pm p=some 1)/\∀ r' c',AF vw.rc r'=some c'->p∉c'.2)(hc:0<=cnt):Clean { vw with rc:=vw.rc.set r (some (cnt,tk)) } lf zs:=by
 have l0:=C.led0 h0
 have at':∀ {r':Nat} {c:Int × List Nat},AF (vw.rc.set r (some (cnt,tk))) r'=some c->(r'=r/\c=(cnt,tk))\/(r'≠r/\AF vw.rc r'=some c):=λ{r' c} h=>by
  rw[CA hr]at h
  by_cases e:r'=r
  ·rw[if_pos e]at h;cases h;exact .inl ⟨e,rfl⟩
  ·rw[if_neg e]at h;exact .inr ⟨e,h⟩
 refine⟨C.nm,C.ds,λk c hk=> ?_,λr' c h=> ?_,λr' c h=> ?_,λr1 r2 c1 c2 ne h1 h2 p hp=> ?_,λr' c h p hp=> ?_,C.fr,C.nd,λp=> ?_,λr' c h=> ?_⟩
 ·show(AF (vw.rc.set r (some (cnt,tk))) c.2).isSome=true
  rw[CA hr]
  split
  ·rfl
  ·exact C.ls k c hk
 ·rcases at' h with⟨rfl,rfl⟩ | ⟨_,h⟩
  ·show(led vw r':Int)<=cnt
   rw[l0];exact hc
  ·exact C.fw r' c h
 ·rcases at' h with⟨rfl,rfl⟩ | ⟨_,h⟩
  ·exact hn
  ·exact C.s1 r' c h
 ·rcases at' h1 with⟨e1,rfl⟩ | ⟨_,g1⟩
  ·rcases at' h2 with⟨e2,rfl⟩ | ⟨_,h2⟩
   ·exact absurd (e1.trans e2.symm) ne
   ·exact(ht p hp).2 r2 c2 h2
  ·skip
   rcases at' h2 with⟨e2,rfl⟩ | ⟨_,h2⟩
   ·intro hm
    exact(ht p hm).2 r1 c1 g1 hp
   ·exact C.s2 r1 r2 c1 c2 ne g1 h2 p hp
 ·rcases at' h with⟨rfl,rfl⟩ | ⟨_,h⟩
  ·exact(ht p hp).1
  ·exact C.em r' c h p hp
 ·rw[C.lm p]
  refine and_congr_right λ_=>⟨λL r' c hl h=> ?_,λL r' c hl h=> ?_⟩
  ·rcases at' h with⟨rfl,rfl⟩ | ⟨_,h⟩
   ·have hl:0<led vw r':=hl
    omega
   ·exact L r' c hl h
  ·refine L r' c hl ?_
   show AF (vw.rc.set r (some (cnt,tk))) r'=some c
   rw[CA hr,if_neg (λe=>by rw[e,h0]at h;cases h)]
   exact h
 ·rcases at' h with⟨rfl,rfl⟩ | ⟨_,h⟩
  ·exact h3
  ·exact C.p3 r' c h
theorem Clean.mark{r:Nat}{x:Option Int}(C:Clean vw lf zs)(hr:r<vw.rm.length)(h:led vw r=0\/x=some 1):Clean { vw with rm:=vw.rm.set r x } lf zs:=by
 refine⟨C.nm,C.ds,C.ls,C.fw,C.s1,C.s2,C.em,λr' hl=> ?_,C.nd,C.lm,C.p3⟩
 have hl:0<led vw r':=hl
 show AF (vw.rm.set r x) r'=some 1
 rw[CA hr]
 split
 ·rename_i e
  rcases h with h | h
  ·rw[e]at hl;omega
  ·exact h
 ·exact C.fr r' hl
theorem Clean.cnt{r:Nat}{c:Int × List Nat}{cnt:Int}(C:Clean vw lf zs)(h0:AF vw.rc r=some c)(hc:(led vw r:Int)<=cnt):Clean { vw with rc:=vw.rc.set r (some (cnt,c.2)) } lf zs:=by
 have hr:=FE h0
 have at':∀ {r':Nat} {d:Int × List Nat},AF (vw.rc.set r (some (cnt,c.2))) r'=some d->∃ d',AF vw.rc r'=some d'/\d'.2=d.2/\(led vw r':Int)<=d.1:=λ{r' d} h=>by
  rw[CA hr]at h
  by_cases e:r'=r
  ·rw[if_pos e]at h;cases h;exact⟨c,e ▸ h0,rfl,e ▸ hc⟩
  ·rw[if_neg e]at h;exact⟨d,h,rfl,C.fw r' d h⟩
 have to':∀ {r':Nat} {d:Int × List Nat},AF vw.rc r'=some d->∃ d',AF (vw.rc.set r (some (cnt,c.2))) r'=some d'/\d'.2=d.2:=λ{r' d} h=>by
  rw[CA hr]
  by_cases e:r'=r
  ·rw[if_pos e]
   rw[e,h0]at h;cases h
   exact⟨_,rfl,rfl⟩
  ·rw[if_neg e];exact⟨d,h,rfl⟩
 refine⟨C.nm,C.ds,λk d hk=> ?_,λr' d h=> ?_,λr' d h=> ?_,λr1 r2 c1 c2 ne h1 h2 p hp=> ?_,λr' d h p hp=> ?_,C.fr,C.nd,λp=> ?_,λr' d h=> ?_⟩
 ·have:=C.ls k d hk
  obtain⟨d',hd'⟩:=Option.isSome_iff_exists.mp this
  obtain⟨d2,h2,_⟩:=to' hd'
  show(AF (vw.rc.set r (some (cnt,c.2))) d.2).isSome=true
  rw[h2];rfl
 ·obtain⟨d',h1,h2,h3⟩:=at' h
  exact h3
 ·obtain⟨d',h1,h2,h3⟩:=at' h
  rw[<-h2];exact C.s1 r' d' h1
 ·obtain⟨d1,g1,g2,_⟩:=at' h1
  obtain⟨d2,g3,g4,_⟩:=at' h2
  rw[<-g4];rw[<-g2]at hp
  exact C.s2 r1 r2 d1 d2 ne g1 g3 p hp
 ·obtain⟨d',h1,h2,_⟩:=at' h
  rw[<-h2]at hp
  exact C.em r' d' h1 p hp
 ·rw[C.lm p]
  refine and_congr_right λ_=>⟨λL r' d hl h=> ?_,λL r' d hl h=> ?_⟩
  ·obtain⟨d',h1,h2,_⟩:=at' h
   rw[<-h2];exact L r' d' hl h1
  ·obtain⟨d',h1,h2⟩:=to' h
   rw[<-h2];exact L r' d' hl h1
 ·obtain⟨d',h1,h2,_⟩:=at' h
  rw[<-h2];exact C.p3 r' d' h1
theorem n0{α :Type}{l:List α}{i j:Nat}{x: α}(h:l.Nodup)(hi:l[i]? =some x)(hj:l[j]? =some x):i=j:=by
 rw[List.nodup_iff_pairwise_ne,List.pairwise_iff_getElem]at h
 obtain⟨h1,e1⟩:=List.getElem?_eq_some_iff.mp hi
 obtain⟨h2,e2⟩:=List.getElem?_eq_some_iff.mp hj
 rcases Nat.lt_trichotomy i j with z | z | z
 ·exact absurd (e1.trans e2.symm) (h i j h1 h2 z)
 ·exact z
 ·exact absurd (e2.trans e1.symm) (h j i h2 h1 z)
theorem Clean.name{k r:Nat}{s:Str}{c:Int × List Nat}(C:Clean vw lf zs)(hk:vw.nm[k]? =some none)(hs:zs[(BZ vw.nm).length]? =some s)(hz:zs.Nodup)(h0:AF vw.rc r=some c)(hc:(led vw r:Int)+1<=c.1)(hm:AF vw.rm r=some 1):Clean { vw with nm:=vw.nm.set k (some (s,r)) } (lf.filter λp=>decide (p∉c.2)) zs:=by
 have hkl:=(List.getElem?_eq_some_iff.mp hk).1
 obtain⟨u1,u2⟩:=VT (c:=(s,r)) hk
 have hled:∀ r',led { vw with nm:=vw.nm.set k (some (s,r)) } r'=led vw r'+if r=r' then 1 else 0:=u2
 have at':∀ {k':Nat} {d:Str × Nat},AF (vw.nm.set k (some (s,r))) k'=some d->(k'=k/\d=(s,r))\/(k'≠k/\AF vw.nm k'=some d):=λ{k' d} h=>by
  rw[CA hkl]at h
  by_cases e:k'=k
  ·rw[if_pos e]at h;cases h;exact .inl ⟨e,rfl⟩
  ·rw[if_neg e]at h;exact .inr ⟨e,h⟩
 have new:∀ {k':Nat} {d:Str × Nat},AF vw.nm k'=some d->d.1≠s:=λ{k' d} h e=>by
  obtain⟨j,hj,ej⟩:=C.nm k' d h
  rw[e]at ej
  have:=n0 hz ej hs
  omega
 refine⟨λk' d h=> ?_,λj1 j2 d1 d2 hlt h1 h2=> ?_,λk' d h=> ?_,λr' d h=> ?_,C.s1,C.s2,C.em,λr' hl=> ?_,C.nd.filter _,λp=> ?_,C.p3⟩
 ·show ∃ j,j<(BZ (vw.nm.set k (some (s,r)))).length/\zs[j]? =some d.1
  rw[u1]
  rcases at' h with⟨rfl,rfl⟩ | ⟨_,h⟩
  ·exact⟨_,Nat.lt_succ_self _,hs⟩
  ·obtain⟨j,hj,ej⟩:=C.nm k' d h
   exact⟨j,by omega,ej⟩
 ·rcases at' h1 with⟨e1,rfl⟩ | ⟨_,h1⟩
  ·rcases at' h2 with⟨e2,rfl⟩ | ⟨_,h2⟩
   ·omega
   ·exact λe=>new h2 e.symm
  ·rcases at' h2 with⟨e2,rfl⟩ | ⟨_,h2⟩
   ·exact new h1
   ·exact C.ds j1 j2 d1 d2 hlt h1 h2
 ·rcases at' h with⟨rfl,rfl⟩ | ⟨_,h⟩
  ·show(AF vw.rc r).isSome=true
   rw[h0];rfl
  ·exact C.ls k' d h
 ·have h:AF vw.rc r'=some d:=h
  rw[hled]
  by_cases e:r=r'
  ·rw[if_pos e]
   subst e
   rw[h0]at h;cases h
   omega
  ·rw[if_neg e]
   exact C.fw r' d h
 ·rw[hled]at hl
  show AF vw.rm r'=some 1
  by_cases e:r=r'
  ·exact e ▸ hm
  ·rw[if_neg e]at hl
   exact C.fr r' hl
 ·rw[List.mem_filter,C.lm p,decide_eq_true_eq]
  constructor
  ·rintro ⟨⟨a1,a2⟩,a3⟩
   refine⟨a1,λr' d hl h=> ?_⟩
   have h:AF vw.rc r'=some d:=h
   rw[hled]at hl
   by_cases e:r=r'
   ·subst e;rw[h0]at h;cases h;exact a3
   ·rw[if_neg e]at hl;exact a2 r' d hl h
  ·rintro ⟨a1,a2⟩
   refine⟨⟨a1,λr' d hl h=>a2 r' d (by rw[hled];omega) h⟩,a2 r c (by rw[hled,if_pos rfl];omega) h0⟩
theorem Clean.pmk{p:Nat}(C:Clean vw lf zs)(h2:p<vw.pm.length)(hp:AF vw.pm p=none):Clean { vw with pm:=vw.pm.set p (some 1) } (lf++[p]) zs:=by
 have no:∀ r c,AF vw.rc r=some c->p∉c.2:=λr c hr hm=>by
  have:=(C.em r c hr p hm).2
  rw[hp]at this;cases this
 refine⟨C.nm,C.ds,C.ls,C.fw,C.s1,C.s2,λr c hr q hq=> ?_,C.fr,?_,λq=> ?_,C.p3⟩
 ·have hr:AF vw.rc r=some c:=hr
  have ne:q≠p:=λe=>no r c hr (e ▸ hq)
  simp only[CA h2,if_neg ne]
  exact C.em r c hr q hq
 ·rw[List.nodup_append]
  refine⟨C.nd,by simp,λx hx y hy=> ?_⟩
  rw[List.mem_singleton.mp hy]
  intro e
  have:=((C.lm x).mp hx).1
  rw[e,hp]at this;cases this
 ·simp only[List.mem_append,List.mem_singleton,CA h2]
  constructor
  ·rintro (h | rfl)
   ·obtain⟨a1,a2⟩:=(C.lm q).mp h
    refine⟨?_,a2⟩
    split
    ·rfl
    ·exact a1
   ·exact⟨by simp,λr c hr hc=>no r c hc⟩
  ·rintro ⟨a1,a2⟩
   by_cases e:q=p
   ·exact .inr e
   ·rw[if_neg e]at a1
    exact .inl ((C.lm q).mpr ⟨a1,a2⟩)
theorem Clean.alone{p:Nat}{z:Option Str}{x:Option Int}(C:Clean vw lf zs)(h1:p<vw.pc.length)(h2:p<vw.pm.length)(hp:AF vw.pm p=none)(hx:x≠some 1):Clean { vw with pc:=vw.pc.set p z,pm:=vw.pm.set p x } lf zs:=by
 have no:∀ r c,AF vw.rc r=some c->p∉c.2:=λr c hr hm=>by
  have:=(C.em r c hr p hm).2
  rw[hp]at this;cases this
 refine⟨C.nm,C.ds,C.ls,C.fw,C.s1,C.s2,λr c hr q hq=> ?_,C.fr,C.nd,λq=> ?_,C.p3⟩
 ·have hr:AF vw.rc r=some c:=hr
  have ne:q≠p:=λe=>no r c hr (e ▸ hq)
  simp only[CA h1,CA h2,if_neg ne]
  exact C.em r c hr q hq
 ·simp only[CA h2]
  rw[C.lm q]
  refine and_congr ?_ Iff.rfl
  by_cases e:q=p
  ·rw[if_pos e,e,hp]
   exact⟨λh=>(by cases h),λh=>absurd h hx⟩
  ·rw[if_neg e]
end
theorem zce{l m:List Int}(h1:l.Pairwise (· <·))(h2:m.Pairwise (· <·))(h:∀ x,x∈l↔x∈m):l=m:=by
 have n1:l.Nodup:=h1.imp λh=>by omega
 have n2:m.Nodup:=h2.imp λh=>by omega
 exact((List.perm_ext_iff_of_nodup n1 n2).mpr h).eq_of_pairwise (λx y _ _ a b=>by omega) h1 h2
theorem GP{α :Type}{l:List (Option α)}{k:Nat}{c: α}(h:AF l k=some c):some c∈l:=by
 unfold AF at h
 cases e:l[k]? with
 | none=>rw[e]at h;cases h
 | some y =>
  rw[e]at h
  have h:y=some c:=h
  exact h ▸ List.mem_of_getElem? e
theorem oA{p:Nat}:∀ {l:List Nat},l.Nodup->l.count p<=1
 | [],_=>by simp
 | x::l,h=>by
  obtain⟨h1,h2⟩:=List.nodup_cons.mp h
  rw[List.count_cons]
  by_cases e:x=p
  ·subst e
   have:l.count x=0:=List.count_eq_zero.mpr h1
   simp[this]
  ·have:=oA (p:=p) h2
   have e':(x == p)=false:=by simpa using e
   rw[e']
   simpa using this
theorem NY{rc:List EN}{p:Nat}:p∈CS rc↔∃ r c,AF rc r=some c/\p∈c.2:=by
 unfold CS
 rw[List.mem_flatMap]
 constructor
 ·rintro ⟨x,hx,hp⟩
  cases x with
  | none=>cases hp
  | some c =>
   obtain⟨r,hr⟩:=List.mem_iff_getElem?.mp hx
   exact⟨r,c,by unfold AF;rw[hr];rfl,hp⟩
 ·rintro ⟨r,c,h,hp⟩
  exact⟨some c,GP h,hp⟩
theorem QJ{p:Nat}:∀ {rc:List EN},(∀ r c,AF rc r=some c->c.2.Nodup)->(∀ r r' c c',r≠r'->AF rc r=some c->AF rc r'=some c'->∀ p∈c.2,p∉c'.2)->(CS rc).count p<=1
 | [],_,_=>by simp[CS]
 | x::l,h1,h2=>by
  have ih:=QJ (p:=p) (rc:=l) (λr c h=>h1 (r+1) c (by unfold AF at h ⊢;simpa using h)) (λr r' c c' ne h h'=>h2 (r+1) (r'+1) c c' (by omega) (by unfold AF at h ⊢;simpa using h) (by unfold AF at h' ⊢;simpa using h'))
  unfold CS at ih ⊢
  rw[List.flatMap_cons,List.count_append]
  cases x with
  | none=>simpa [E8]using ih
  | some c =>
   have n1:(E8 (some c)).count p<=1:=oA (h1 0 c rfl)
   by_cases hm:p∈c.2
   ·have:(List.flatMap E8 l).count p=0:=by
     rw[List.count_eq_zero]
     intro hp
     obtain⟨r,d,hr,hd⟩:=NY.mp (show p∈CS l from hp)
     exact h2 0 (r+1) c d (by omega) rfl (by unfold AF at hr ⊢;simpa using hr) p hm hd
    omega
   ·have:(E8 (some c)).count p=0:=List.count_eq_zero.mpr hm
    omega
theorem BS{n:Nat}{p:Nat->Bool}{f:Nat->List V}(h:∀ k,k<n->p k=false):B1 n p f=[]:=by
 unfold B1
 rw[List.map_eq_nil_iff,List.filter_eq_nil_iff]
 intro k hk
 rw[h k (List.mem_range.mp hk)]
 exact Bool.false_ne_true
section
variable{vw:Vw}{lf:List Nat}{zs:List Str}
theorem QK{p:Nat}(h:0<CG vw p):∃ r c,AF vw.rc r=some c/\p∈c.2:=NY.mp (List.count_pos_iff.mp h)
theorem Clean.faults(C:Clean vw lf zs):faults vw=[]:=by
 unfold L2.faults FU E9 FV
 rw[BS,BS,BS,BS,BS,BS,BS]
 ·rfl
 ·intro p hp
  by_cases h:0<CG vw p
  ·obtain⟨r,c,hr,hm⟩:=QK h
   simp[(C.em r c hr p hm).2]
  ·simp[h]
 ·intro r hr
  by_cases h:0<led vw r
  ·simp[C.fr r h]
  ·simp[h]
 ·intro r hr
  unfold EQ
  cases e:AF vw.rc r with
  | none=>rfl
  | some c =>
   have:=C.fw r c e
   simp;omega
 ·intro p hp
  by_cases h:0<CG vw p
  ·obtain⟨r,c,hr,hm⟩:=QK h
   have:=(C.em r c hr p hm).1
   obtain⟨z,hz⟩:=Option.isSome_iff_exists.mp this
   simp[hz]
  ·simp[h]
 ·intro p hp
  have:=QJ (p:=p) C.s1 C.s2
  unfold CG
  simp;omega
 ·intro k hk
  unfold EO
  cases e:AF vw.nm k with
  | none=>rfl
  | some c =>
   rw[Bool.eq_false_iff]
   intro h
   obtain⟨j,hj,he⟩:=List.any_eq_true.mp h
   cases e2:AF vw.nm j with
   | none=>simp only[e2]at he;cases he
   | some d =>
    simp only[e2]at he
    exact C.ds j k d c (List.mem_range.mp hj) e2 e (by simpa using he)
 ·intro k hk
  unfold EI
  cases e:AF vw.nm k with
  | none=>rfl
  | some c =>
   have:=C.ls k c e
   obtain⟨z,hz⟩:=Option.isSome_iff_exists.mp this
   simp[hz]
theorem QL{p:Nat}:NC vw p↔EH vw p=0:=by
 unfold EH
 rw[List.count_eq_zero]
 unfold NC
 constructor
 ·intro h hm
  unfold CS G0 at hm
  obtain⟨x,hx,hp⟩:=List.mem_flatMap.mp hm
  obtain⟨r,hr,rfl⟩:=List.mem_map.mp hx
  obtain⟨_,hl⟩:=List.mem_filter.mp hr
  cases e:AF vw.rc r with
  | none=>rw[e]at hp;cases hp
  | some c =>
   rw[e]at hp
   exact h r c (by simpa using hl) e hp
 ·intro h r c hl hr hm
  refine h ?_
  unfold CS G0
  exact List.mem_flatMap.mpr ⟨some c,List.mem_map.mpr ⟨r,List.mem_filter.mpr ⟨List.mem_range.mpr (FE hr),by simpa using hl⟩,hr⟩,hm⟩
theorem Clean.sorted(C:Clean vw lf zs)(l2:vw.pm.length=vw.pc.length){ks:List Int}(hp:ks.Perm (lf.map λ(k:Nat)=>(k:Int)))(hs:ks.Pairwise (· <=·)):ks=((List.range vw.pc.length).filter λp=>decide (AF vw.pm p=some 1) && decide (EH vw p=0)).map λ(k:Nat)=>(k:Int):=by
 have nd:ks.Nodup:=hp.nodup_iff.mpr (by
  rw[List.nodup_iff_pairwise_ne,List.pairwise_map]
  exact(List.nodup_iff_pairwise_ne.mp C.nd).imp λh e=>h (by omega))
 refine zce ?_ ?_ λx=> ?_
 ·rw[List.nodup_iff_pairwise_ne]at nd
  exact(hs.and nd).imp λ⟨h1,h2⟩=>by omega
 ·rw[List.pairwise_map]
  exact(List.pairwise_lt_range.filter _).imp λh=>by omega
 ·rw[hp.mem_iff,List.mem_map,List.mem_map]
  constructor
  ·rintro ⟨p,h,rfl⟩
   obtain⟨a1,a2⟩:=(C.lm p).mp h
   have hl:=FE a1
   exact⟨p,List.mem_filter.mpr ⟨List.mem_range.mpr (by omega),by simp[a1,QL.mp a2]⟩,rfl⟩
  ·rintro ⟨p,h,rfl⟩
   obtain⟨_,h⟩:=List.mem_filter.mp h
   simp at h
   exact⟨p,(C.lm p).mpr ⟨h.1,QL.mpr h.2⟩,rfl⟩
theorem Clean.short(C:Clean vw lf zs):lf.length<=vw.pm.length:=by
 have:=List.Nodup.length_le_of_subset (l₂:=List.range vw.pm.length) C.nd λp hp=>List.mem_range.mpr (FE ((C.lm p).mp hp).1)
 simpa using this
end
structure zcf(A:LW):Prop where
 d01:A.a0≠A.a1
 d02:A.a0≠A.a2
 d03:A.a0≠A.a3
 d04:A.a0≠A.a4
 d05:A.a0≠A.a5
 d10:A.a1≠A.a0
 d12:A.a1≠A.a2
 d13:A.a1≠A.a3
 d14:A.a1≠A.a4
 d15:A.a1≠A.a5
 d20:A.a2≠A.a0
 d21:A.a2≠A.a1
 d23:A.a2≠A.a3
 d24:A.a2≠A.a4
 d25:A.a2≠A.a5
 d30:A.a3≠A.a0
 d31:A.a3≠A.a1
 d32:A.a3≠A.a2
 d34:A.a3≠A.a4
 d35:A.a3≠A.a5
 d40:A.a4≠A.a0
 d41:A.a4≠A.a1
 d42:A.a4≠A.a2
 d43:A.a4≠A.a3
 d45:A.a4≠A.a5
 d50:A.a5≠A.a0
 d51:A.a5≠A.a1
 d52:A.a5≠A.a2
 d53:A.a5≠A.a3
 d54:A.a5≠A.a4
 v0:A.v≠A.a0
 v1:A.v≠A.a1
 v2:A.v≠A.a2
 v3:A.v≠A.a3
 v4:A.v≠A.a4
 v5:A.v≠A.a5
theorem LWAt.diff{A:LW}{vw:Vw}{lf:List Nat}(I:LWAt H A vw lf):zcf A:=by
 have nd:=I.nd
 have nv:=I.nv
 simp[LW.L]at nd nv
 obtain⟨⟨a1,a2,a3,a4,a5⟩,⟨b1,b2,b3,b4⟩,⟨c1,c2,c3⟩,⟨d1,d2⟩,e1⟩:=nd
 obtain⟨v0,v1,v2,v3,v4,v5⟩:=nv
 constructor<;>first | assumption | (apply Ne.symm;assumption)
theorem LWAt.same{A:LW}{vw:Vw}{lf:List Nat}{H':Hp}(I:LWAt H A vw lf)(s:Same H H'):LWAt H' A vw lf :=
 ⟨s _ _ I.ob,I.n.keep (λv c=>NmV.keep s.tk) (λo=>s _ _),I.r.keep (λv c=>RcV.keep s.tk) (λo=>s _ _),I.p.keep (λv c=>PcV.keep s.tk) (λo=>s _ _),I.rm.keep (λv c=>MkV.keep s.tk) (λo=>s _ _),I.pm.keep (λv c=>MkV.keep s.tk) (λo=>s _ _),s _ _ I.l,I.ok,I.nd,I.nv⟩
theorem LWAt.set0{A:LW}{vw:Vw}{lf:List Nat}{k:Nat}{v:V}{cc:GI}{Q:Hp->Prop}(I:LWAt H A vw lf)(hk:k<vw.nm.length)(hr:NmV H v cc)(hok:∀ c,cc=some c->c.2<vw.rc.length/\PyData.strOk c.1=true)(q:∀ H',LWAt H' A { vw with nm:=vw.nm.set k cc } lf->SameBut (· ∈A.L) H H'->CP H H'->Q H'):CN (.ref A.a0) (.int k) v H Q:=by
 obtain⟨us,e,P⟩:=I.n
 have d:=I.diff
 refine⟨A.a0,us,k,k,rfl,rfl,e,J6 (by rw[P.length];exact hk),?_⟩
 have tk:CP H (upd H A.a0 (.lst (us.set k v))):=λy xs e2=>by rw[AQ (DA e2 e (by intro z;cases z))];exact e2
 refine q _ ⟨by rw[AQ d.v0];exact I.ob,LstAt.set AM (Paired.mapP P λv c=>NmV.keep tk) (NmV.keep tk hr),I.r.keep (λv c=>RcV.keep tk) (λo e=>by rw[AQ d.d10];exact e),I.p.keep (λv c=>PcV.keep tk) (λo e=>by rw[AQ d.d20];exact e),I.rm.keep (λv c=>MkV.keep tk) (λo e=>by rw[AQ d.d30];exact e),I.pm.keep (λv c=>MkV.keep tk) (λo e=>by rw[AQ d.d40];exact e),by rw[AQ d.d50];exact I.l,⟨λc h=>(List.mem_or_eq_of_mem_set h).elim (I.ok.n1 c) λe=>hok c e.symm,λc h=>I.ok.n2 c h,λc h=>I.ok.n3 c h,I.ok.l1,I.ok.l2,(by rw[List.length_set];exact I.ok.bn),I.ok.br,I.ok.bp⟩,I.nd,I.nv⟩ (λy o e ny=> ?_) tk
 rw[AQ λz=>ny (by rw[z];simp[LW.L])];exact e
theorem LWAt.set1{A:LW}{vw:Vw}{lf:List Nat}{k:Nat}{v:V}{cc:EN}{Q:Hp->Prop}(I:LWAt H A vw lf)(hk:k<vw.rc.length)(hr:RcV H v cc)(hok:∀ c,cc=some c->(∀ p∈c.2,p<vw.pc.length)/\c.2.length<=10)(q:∀ H',LWAt H' A { vw with rc:=vw.rc.set k cc } lf->SameBut (· ∈A.L) H H'->CP H H'->Q H'):CN (.ref A.a1) (.int k) v H Q:=by
 obtain⟨us,e,P⟩:=I.r
 have d:=I.diff
 refine⟨A.a1,us,k,k,rfl,rfl,e,J6 (by rw[P.length];exact hk),?_⟩
 have tk:CP H (upd H A.a1 (.lst (us.set k v))):=λy xs e2=>by rw[AQ (DA e2 e (by intro z;cases z))];exact e2
 refine q _ ⟨by rw[AQ d.v1];exact I.ob,I.n.keep (λv c=>NmV.keep tk) (λo e=>by rw[AQ d.d01];exact e),LstAt.set AM (Paired.mapP P λv c=>RcV.keep tk) (RcV.keep tk hr),I.p.keep (λv c=>PcV.keep tk) (λo e=>by rw[AQ d.d21];exact e),I.rm.keep (λv c=>MkV.keep tk) (λo e=>by rw[AQ d.d31];exact e),I.pm.keep (λv c=>MkV.keep tk) (λo e=>by rw[AQ d.d41];exact e),by rw[AQ d.d51];exact I.l,⟨λc h=>⟨by rw[List.length_set];exact(I.ok.n1 c h).1,(I.ok.n1 c h).2⟩,λc h=>(List.mem_or_eq_of_mem_set h).elim (I.ok.n2 c) λe=>hok c e.symm,λc h=>I.ok.n3 c h,(by rw[List.length_set];exact I.ok.l1),I.ok.l2,I.ok.bn,(by rw[List.length_set];exact I.ok.br),I.ok.bp⟩,I.nd,I.nv⟩ (λy o e ny=> ?_) tk
 rw[AQ λz=>ny (by rw[z];simp[LW.L])];exact e
theorem LWAt.set2{A:LW}{vw:Vw}{lf:List Nat}{k:Nat}{v:V}{cc:Option Str}{Q:Hp->Prop}(I:LWAt H A vw lf)(hk:k<vw.pc.length)(hr:PcV H v cc)(hok:∀ c,cc=some c->PyData.strOk c=true)(q:∀ H',LWAt H' A { vw with pc:=vw.pc.set k cc } lf->SameBut (· ∈A.L) H H'->CP H H'->Q H'):CN (.ref A.a2) (.int k) v H Q:=by
 obtain⟨us,e,P⟩:=I.p
 have d:=I.diff
 refine⟨A.a2,us,k,k,rfl,rfl,e,J6 (by rw[P.length];exact hk),?_⟩
 have tk:CP H (upd H A.a2 (.lst (us.set k v))):=λy xs e2=>by rw[AQ (DA e2 e (by intro z;cases z))];exact e2
 refine q _ ⟨by rw[AQ d.v2];exact I.ob,I.n.keep (λv c=>NmV.keep tk) (λo e=>by rw[AQ d.d02];exact e),I.r.keep (λv c=>RcV.keep tk) (λo e=>by rw[AQ d.d12];exact e),LstAt.set AM (Paired.mapP P λv c=>PcV.keep tk) (PcV.keep tk hr),I.rm.keep (λv c=>MkV.keep tk) (λo e=>by rw[AQ d.d32];exact e),I.pm.keep (λv c=>MkV.keep tk) (λo e=>by rw[AQ d.d42];exact e),by rw[AQ d.d52];exact I.l,⟨λc h=>I.ok.n1 c h,λc h=>⟨λp hp=>by rw[List.length_set];exact(I.ok.n2 c h).1 p hp,(I.ok.n2 c h).2⟩,λc h=>(List.mem_or_eq_of_mem_set h).elim (I.ok.n3 c) λe=>hok c e.symm,I.ok.l1,(by rw[List.length_set];exact I.ok.l2),I.ok.bn,I.ok.br,(by rw[List.length_set];exact I.ok.bp)⟩,I.nd,I.nv⟩ (λy o e ny=> ?_) tk
 rw[AQ λz=>ny (by rw[z];simp[LW.L])];exact e
theorem LWAt.set3{A:LW}{vw:Vw}{lf:List Nat}{k:Nat}{v:V}{cc:Option Int}{Q:Hp->Prop}(I:LWAt H A vw lf)(hk:k<vw.rc.length)(hr:MkV H v cc)(hok:∀ c,cc=some c->True)(q:∀ H',LWAt H' A { vw with rm:=vw.rm.set k cc } lf->SameBut (· ∈A.L) H H'->CP H H'->Q H'):CN (.ref A.a3) (.int k) v H Q:=by
 obtain⟨us,e,P⟩:=I.rm
 have d:=I.diff
 refine⟨A.a3,us,k,k,rfl,rfl,e,J6 (by rw[P.length,I.ok.l1];exact hk),?_⟩
 have tk:CP H (upd H A.a3 (.lst (us.set k v))):=λy xs e2=>by rw[AQ (DA e2 e (by intro z;cases z))];exact e2
 refine q _ ⟨by rw[AQ d.v3];exact I.ob,I.n.keep (λv c=>NmV.keep tk) (λo e=>by rw[AQ d.d03];exact e),I.r.keep (λv c=>RcV.keep tk) (λo e=>by rw[AQ d.d13];exact e),I.p.keep (λv c=>PcV.keep tk) (λo e=>by rw[AQ d.d23];exact e),LstAt.set AM (Paired.mapP P λv c=>MkV.keep tk) (MkV.keep tk hr),I.pm.keep (λv c=>MkV.keep tk) (λo e=>by rw[AQ d.d43];exact e),by rw[AQ d.d53];exact I.l,⟨λc h=>I.ok.n1 c h,λc h=>I.ok.n2 c h,λc h=>I.ok.n3 c h,(by rw[List.length_set];exact I.ok.l1),I.ok.l2,I.ok.bn,I.ok.br,I.ok.bp⟩,I.nd,I.nv⟩ (λy o e ny=> ?_) tk
 rw[AQ λz=>ny (by rw[z];simp[LW.L])];exact e
theorem LWAt.set4{A:LW}{vw:Vw}{lf:List Nat}{k:Nat}{v:V}{cc:Option Int}{Q:Hp->Prop}(I:LWAt H A vw lf)(hk:k<vw.pc.length)(hr:MkV H v cc)(hok:∀ c,cc=some c->True)(q:∀ H',LWAt H' A { vw with pm:=vw.pm.set k cc } lf->SameBut (· ∈A.L) H H'->CP H H'->Q H'):CN (.ref A.a4) (.int k) v H Q:=by
 obtain⟨us,e,P⟩:=I.pm
 have d:=I.diff
 refine⟨A.a4,us,k,k,rfl,rfl,e,J6 (by rw[P.length,I.ok.l2];exact hk),?_⟩
 have tk:CP H (upd H A.a4 (.lst (us.set k v))):=λy xs e2=>by rw[AQ (DA e2 e (by intro z;cases z))];exact e2
 refine q _ ⟨by rw[AQ d.v4];exact I.ob,I.n.keep (λv c=>NmV.keep tk) (λo e=>by rw[AQ d.d04];exact e),I.r.keep (λv c=>RcV.keep tk) (λo e=>by rw[AQ d.d14];exact e),I.p.keep (λv c=>PcV.keep tk) (λo e=>by rw[AQ d.d24];exact e),I.rm.keep (λv c=>MkV.keep tk) (λo e=>by rw[AQ d.d34];exact e),LstAt.set AM (Paired.mapP P λv c=>MkV.keep tk) (MkV.keep tk hr),by rw[AQ d.d54];exact I.l,⟨λc h=>I.ok.n1 c h,λc h=>I.ok.n2 c h,λc h=>I.ok.n3 c h,I.ok.l1,(by rw[List.length_set];exact I.ok.l2),I.ok.bn,I.ok.br,I.ok.bp⟩,I.nd,I.nv⟩ (λy o e ny=> ?_) tk
 rw[AQ λz=>ny (by rw[z];simp[LW.L])];exact e
theorem LWAt.ix0{A:LW}{vw:Vw}{lf:List Nat}{Q:VK}{k:Nat}(I:LWAt H A vw lf)(hk:k<vw.nm.length)(q:∀ v,NmV H v (AF vw.nm k)->Q v H):AI K (.ref A.v) (.int 0) H λx H1=>AI K x (.int k) H1 Q:=by
 obtain⟨us,v,e,_,ev,hr⟩:=I.n.at (k:=k) hk
 exact BV (SqL.of I.ob) (n:=0) rfl rfl (BV (SqL.of e) (n:=k) rfl ev (q v hr))
theorem LWAt.at0{A:LW}{vw:Vw}{lf:List Nat}{Q:VK}(I:LWAt H A vw lf)(q:Q (.ref A.a0) H):AI K (.ref A.v) (.int 0) H Q:=BV (SqL.of I.ob) (n:=0) rfl rfl q
theorem LWAt.ix1{A:LW}{vw:Vw}{lf:List Nat}{Q:VK}{k:Nat}(I:LWAt H A vw lf)(hk:k<vw.rc.length)(q:∀ v,RcV H v (AF vw.rc k)->Q v H):AI K (.ref A.v) (.int 1) H λx H1=>AI K x (.int k) H1 Q:=by
 obtain⟨us,v,e,_,ev,hr⟩:=I.r.at (k:=k) hk
 exact BV (SqL.of I.ob) (n:=1) rfl rfl (BV (SqL.of e) (n:=k) rfl ev (q v hr))
theorem LWAt.at1{A:LW}{vw:Vw}{lf:List Nat}{Q:VK}(I:LWAt H A vw lf)(q:Q (.ref A.a1) H):AI K (.ref A.v) (.int 1) H Q:=BV (SqL.of I.ob) (n:=1) rfl rfl q
theorem LWAt.ix2{A:LW}{vw:Vw}{lf:List Nat}{Q:VK}{k:Nat}(I:LWAt H A vw lf)(hk:k<vw.pc.length)(q:∀ v,PcV H v (AF vw.pc k)->Q v H):AI K (.ref A.v) (.int 2) H λx H1=>AI K x (.int k) H1 Q:=by
 obtain⟨us,v,e,_,ev,hr⟩:=I.p.at (k:=k) hk
 exact BV (SqL.of I.ob) (n:=2) rfl rfl (BV (SqL.of e) (n:=k) rfl ev (q v hr))
theorem LWAt.at2{A:LW}{vw:Vw}{lf:List Nat}{Q:VK}(I:LWAt H A vw lf)(q:Q (.ref A.a2) H):AI K (.ref A.v) (.int 2) H Q:=BV (SqL.of I.ob) (n:=2) rfl rfl q
theorem LWAt.ix3{A:LW}{vw:Vw}{lf:List Nat}{Q:VK}{k:Nat}(I:LWAt H A vw lf)(hk:k<vw.rc.length)(q:∀ v,MkV H v (AF vw.rm k)->Q v H):AI K (.ref A.v) (.int 3) H λx H1=>AI K x (.int k) H1 Q:=by
 obtain⟨us,v,e,_,ev,hr⟩:=I.rm.at (k:=k) (by rw[I.ok.l1];exact hk)
 exact BV (SqL.of I.ob) (n:=3) rfl rfl (BV (SqL.of e) (n:=k) rfl ev (q v hr))
theorem LWAt.at3{A:LW}{vw:Vw}{lf:List Nat}{Q:VK}(I:LWAt H A vw lf)(q:Q (.ref A.a3) H):AI K (.ref A.v) (.int 3) H Q:=BV (SqL.of I.ob) (n:=3) rfl rfl q
theorem LWAt.ix4{A:LW}{vw:Vw}{lf:List Nat}{Q:VK}{k:Nat}(I:LWAt H A vw lf)(hk:k<vw.pc.length)(q:∀ v,MkV H v (AF vw.pm k)->Q v H):AI K (.ref A.v) (.int 4) H λx H1=>AI K x (.int k) H1 Q:=by
 obtain⟨us,v,e,_,ev,hr⟩:=I.pm.at (k:=k) (by rw[I.ok.l2];exact hk)
 exact BV (SqL.of I.ob) (n:=4) rfl rfl (BV (SqL.of e) (n:=k) rfl ev (q v hr))
theorem LWAt.at4{A:LW}{vw:Vw}{lf:List Nat}{Q:VK}(I:LWAt H A vw lf)(q:Q (.ref A.a4) H):AI K (.ref A.v) (.int 4) H Q:=BV (SqL.of I.ob) (n:=4) rfl rfl q
theorem LWAt.at5{A:LW}{vw:Vw}{lf:List Nat}{Q:VK}(I:LWAt H A vw lf)(q:Q (.ref A.a5) H):AI K (.ref A.v) (.int 5) H Q:=BV (SqL.of I.ob) (n:=5) rfl rfl q
theorem LWAt.len0{A:LW}{vw:Vw}{lf:List Nat}(I:LWAt H A vw lf):KP K (.ref A.a0) H vw.nm.length:=by
 obtain⟨us,e,P⟩:=I.n
 exact .inl ⟨_,SqL.of e,P.length.symm⟩
theorem LWAt.len1{A:LW}{vw:Vw}{lf:List Nat}(I:LWAt H A vw lf):KP K (.ref A.a1) H vw.rc.length:=by
 obtain⟨us,e,P⟩:=I.r
 exact .inl ⟨_,SqL.of e,P.length.symm⟩
theorem LWAt.len2{A:LW}{vw:Vw}{lf:List Nat}(I:LWAt H A vw lf):KP K (.ref A.a2) H vw.pc.length:=by
 obtain⟨us,e,P⟩:=I.p
 exact .inl ⟨_,SqL.of e,P.length.symm⟩
theorem NamesAt.sb{A:LW}{nl:Addr}{zs:List Str}{H':Hp}(h:NamesAt H A nl zs)(s:SameBut (· ∈A.L) H H'):NamesAt H' A nl zs:=⟨s _ _ h.e h.n,h.l,h.d,h.s,h.n⟩
theorem IntsAt.sb{A:LW}{xl:Addr}{xs:List Int}{m:Nat}{H':Hp}(h:IntsAt H A xl xs m)(s:SameBut (· ∈A.L) H H'):IntsAt H' A xl xs m:=⟨s _ _ h.e h.n,h.l,h.b,h.n⟩
theorem IntsAt.at{A:LW}{xl:Addr}{xs:List Int}{m k:Nat}{Q:VK}(h:IntsAt H A xl xs m)(hk:k<m)(q:∀ x,0<=x->x<2000000000->Q (.int x) H):AI K (.ref xl) (.int k) H Q:=GO h.e (by rw[h.l];exact hk) λx hx=>q x (h.b x hx).1 (h.b x hx).2
theorem oB{v:V}{c:Option Int}(h:MkV H v c):decide (v=.non)=c.isNone:=by
 cases c with
 | none=>rw[show v=.non from h];rfl
 | some c=>rw[show v=.int c from h];rfl
theorem zcg(h:FB K a vs H Q E):T4 K a (λ_=>E) (A6 Q) (A5 ["view"] vs) H:=by
 obtain⟨A,vw,lf,rfl,I,q⟩:=h
 have bn:=I.ok.bn
 push_cast[T4,↓Hb]
 refine I.at0 ⟨vw.nm.length,I.len0,by omega,by omega,HN (λk=>(AF vw.nm k).isNone) (small _ (by omega)) (λk hk QB qb=> ?_) λl hl=>q l _ hl (AS hl) AM⟩
 push_cast[BI]
 refine I.ix0 hk λv hv=> ?_
 push_cast[]
 rw[VP hv]
 exact qb
theorem zch(h:FB K a vs H Q E):vs.length=1:=by
 obtain⟨_,_,_,rfl,_⟩:=h
 rfl
theorem zci(h:JX K a vs H Q E):T5 K a (λ_=>E) (A6 Q) (A5 ["view"] vs) H:=by
 obtain⟨A,vw,lf,rfl,I,q⟩:=h
 have bn:=I.ok.br
 push_cast[T5,↓Hc]
 refine I.at1 ⟨vw.rc.length,I.len1,by omega,by omega,HN (λr=>(AF vw.rc r).isNone && (AF vw.rm r).isNone) (small _ (by omega)) (λk hk QB qb=> ?_) λl hl=>q l _ hl (AS hl) AM⟩
 push_cast[BI]
 refine I.ix1 hk λv hv=> ?_
 have hn:=IV hv
 push_cast[]
 by_cases h0:v=.non
 ·refine B2 h0 (I.ix3 hk λv2 hv2=> ?_)
  push_cast[]
  rw[oB hv2]
  rw[<-hn,decide_eq_true h0,Bool.true_and]at qb
  exact qb
 ·refine BQ h0 ?_
  rw[<-hn,decide_eq_false h0,Bool.false_and]at qb
  exact qb
theorem zcj(h:JX K a vs H Q E):vs.length=1:=by
 obtain⟨_,_,_,rfl,_⟩:=h
 rfl
theorem zck(h:JY K a vs H Q E):T6 K a (λ_=>E) (A6 Q) (A5 ["view"] vs) H:=by
 obtain⟨A,vw,lf,rfl,I,q⟩:=h
 have bn:=I.ok.bp
 push_cast[T6,↓Hd]
 refine I.at2 ⟨vw.pc.length,I.len2,by omega,by omega,HN (λp=>(AF vw.pc p).isNone && (AF vw.pm p).isNone) (small _ (by omega)) (λk hk QB qb=> ?_) λl hl=>q l _ hl (AS hl) AM⟩
 push_cast[BI]
 refine I.ix2 hk λv hv=> ?_
 have hn:=nD hv
 push_cast[]
 by_cases h0:v=.non
 ·refine B2 h0 (I.ix4 hk λv2 hv2=> ?_)
  push_cast[]
  rw[oB hv2]
  rw[<-hn,decide_eq_true h0,Bool.true_and]at qb
  exact qb
 ·refine BQ h0 ?_
  rw[<-hn,decide_eq_false h0,Bool.false_and]at qb
  exact qb
theorem zcl(h:JY K a vs H Q E):vs.length=1:=by
 obtain⟨_,_,_,rfl,_⟩:=h
 rfl
theorem zcm(h:HS K a vs H Q E):T3 K a (λ_=>E) (A6 Q) (A5 ["view","led","cell"] vs) H:=by
 obtain⟨A,vw,lf,rfl,I,q⟩:=h
 have ok:=I.ok
 have br:=ok.br
 obtain⟨v1,e1,P1⟩:=I.n
 have q1:=P1.length
 push_cast[T3,↓Gv]
 refine⟨by decide,λp1 hp1=> ?_⟩
 have s1:=AS (o:=.lst [V.int 0]) hp1
 have I1:=I.same s1
 refine I1.at1 ⟨vw.rc.length,I1.len1,zb7 AM (by omega) λl1 H2 hl1 s2 f1=> ?_⟩
 have s02:=s1.trans s2
 have hl1H:H l1=none:=s1.free hl1
 push_cast[↓Gy]
 refine(I.same s02).at0 ⟨A.a0,rfl,.inl ⟨⟨_,SqL.of (s02 _ _ e1)⟩,JL (xs:=v1) (λi σ H'=>(Same H H'/\H' l1=some (.lst (G6 vw.rc.length (BZ (vw.nm.take i)))))/\∃ y,σ=[some (.ref A.v),some (.ref l1),y]) ⟨⟨s02,f1⟩,_,rfl⟩ (λi σ H' _ ⟨⟨s,_⟩,_⟩=>SqL.of (s _ _ e1)) (λi v σ H' hx ⟨⟨s,g1⟩,y,eσ⟩=> ?_) (λσ H' ⟨⟨s,g1⟩,y,eσ⟩=> ?_)⟩⟩
 ·subst eσ
  obtain⟨c,ec,hr⟩:=EK P1 hx
  push_cast[↓Gx]
  have el:BZ (vw.nm.take (i+1))=BZ (vw.nm.take i)++BZ [c]:=by
   rw[ER ec]
   unfold BZ
   rw[List.filterMap_append]
  rw[el]
  cases c with
  | none =>
   refine BQ (λz=>z hr) ?_
   rw[show BZ [none]=[]from rfl,List.append_nil]
   exact⟨s,g1⟩
  | some c =>
   obtain⟨p,rfl,hp⟩:=hr
   have hc:=(ok.n1 c (List.mem_of_getElem? ec)).1
   refine B2 (by simp) ?_
   push_cast[↓Gw]
   refine BX (s _ _ hp) (n:=1) rfl rfl (BV (SqL.of g1) (n:=c.2) rfl (zb4 hc) ?_)
   push_cast[]
   refine BX (s _ _ hp) (n:=1) rfl rfl ⟨l1,_,_,c.2,rfl,rfl,g1,J6 (by rw[zb5];exact hc),?_⟩
   rw[zb3 hc]
   exact⟨λy o e=>by rw[AQ (BT e hl1H)];exact s _ _ e,AM⟩
 ·subst eσ
  rw[q1,List.take_length]at g1
  push_cast[↓Gz]
  exact q l1 H' hl1H s g1
theorem zcn(h:HS K a vs H Q E):vs.length=1:=by
 obtain⟨_,_,_,rfl,_⟩:=h
 rfl
theorem EZ{p:Addr}{l:List Nat}{x:Int}{Q:VK}(e:H p=some (.lst (AU l)))(hl:l≠[])(q:∀ k∈l,Q (.int k) H):AI K (.ref p) (.int (x % (l.length:Int))) H Q:=by
 have h1:1<=l.length:=by
  cases l with
  | nil=>exact absurd rfl hl
  | cons _ _=>simp
 obtain⟨b,eb,hb⟩:=G5 x (n:=l.length) h1
 rw[eb]
 exact BV (SqL.of e) (n:=b) rfl (LE (List.getElem?_eq_getElem hb)) (q _ (List.getElem_mem hb))
theorem LI{p e0:Addr}{l:List Nat}(h1:H p=some (.lst (AU l)))(h2:H e0=some (.lst []))(q:Q (.bl (!decide (l=[]))) H):CJ K (.ref p) (.ref e0) H Q:=by
 refine z8 (n:=1) (by decide) (SqL.of h1) (by rw[QH];exact SH _) (SqL.of h2) ?_
 have:decide (AU l=[])=decide (l=[]):=by
  unfold AU
  rw[decide_eq_decide,List.map_eq_nil_iff]
 rw[this]
 exact q
theorem zco(h:JZ K a vs H Q E):UO K a (λ_=>E) (A6 Q) (A5 ["view","names","r","number","free","word"] vs) H:=by
 obtain⟨A,vw,lf,l0,zs,nl,r,c,num,n',r',c',rfl,I,C,N,⟨z1,z2,z3⟩,hn36,hfr,hrc,hcc,hrm,q⟩:=h
 push_cast[UO,↓Ly]
 refine⟨A,vw,lf,rfl,I,λfl H1 hfl s1 efl=> ?_⟩
 have I1:=I.same s1
 have fln:=nZ (nm:=vw.nm)
 have ffl:(D3 vw).length+(BZ vw.nm).length=vw.nm.length:=fln
 have f1:1<=(D3 vw).length:=by
  cases e:D3 vw with
  | nil=>exact absurd e hfr
  | cons _ _=>simp
 have eu:=List.getElem?_eq_getElem (l:=zs) (i:=(BZ vw.nm).length) (by rw[N.l];omega)
 push_cast[↓Lz]
 refine I1.at0 ⟨vw.nm.length,I1.len0,(D3 vw).length,.inl ⟨_,SqL.of efl,by rw[B5]⟩,?_⟩
 rw[show((vw.nm.length:Int) - ((D3 vw).length:Int))=(((BZ vw.nm).length:Nat):Int) by omega]
 refine BV (SqL.of (s1 _ _ N.e)) (n:=(BZ vw.nm).length) rfl (by rw[List.getElem?_map,eu];rfl) ?_
 push_cast[↓Mb]
 refine⟨by decide,λp hp=> ?_⟩
 have eu':=(List.getElem?_eq_some_iff.mp eu).2
 revert hp
 generalize hs:zs[(BZ vw.nm).length]'(by rw[N.l];omega)=sN
 intro hp
 rw[hs]at eu
 have s2:=AS (o:=.tup [V.str sN,V.int ↑r]) hp
 have e2:upd H1 p (.tup [V.str sN,V.int ↑r]) p=some (.tup [V.str sN,V.int ↑r]):=AM
 revert s2 e2
 generalize upd H1 p (.tup [V.str sN,V.int ↑r])=H2
 intro s2 e2
 have I2:=I1.same s2
 have s02:=s1.trans s2
 refine I2.at0 ⟨(D3 vw).length,.inl ⟨_,SqL.of (s2 _ _ efl),by rw[B5]⟩,by omega,EZ (s2 _ _ efl) hfr λk hk=> ?_⟩
 obtain⟨hk1,hk2⟩:=DM hk
 have hr:=FE hrc
 refine I2.set0 (cc:=some (sN,r)) hk1 ⟨p,rfl,e2⟩ (λc hc=>by cases hc;exact⟨hr,N.s _ (List.mem_of_getElem? eu)⟩) λH3 I3 sb tk=> ?_
 have hkn:vw.nm[k]? =some none:=by
  unfold AF at hk2
  rw[List.getElem?_eq_getElem hk1]at hk2 ⊢
  have:vw.nm[k].isNone=true:=hk2
  rw[Option.isNone_iff_eq_none.mp this]
 refine q _ H3 I3 (C.name hkn eu N.d hrc hcc hrm) ⟨by simp only[List.length_set];exact z1,z2,z3⟩ (s02.sb.trans sb)
theorem zcp(h:JZ K a vs H Q E):vs.length=4:=by
 obtain⟨_,_,_,_,_,_,_,_,_,_,_,_,rfl,_⟩:=h
 rfl
structure VU(A:LW)(vw:Vw)(lf l0:List Nat)(zs:List Str)(tl:Addr)(n r c:Nat)(H:Hp)(i:Nat)(tk:List Nat)(vw':Vw)(H':Hp):Prop where
 w:LWAt H' A vw' lf
 cl:Clean vw' (l0++tk) zs
 nm:vw'.nm=vw.nm
 rc:vw'.rc=vw.rc
 rm:vw'.rm=vw.rm
 z:EX vw' n r c
 p:∀ p∈tk,(AF vw'.pc p).isSome=true/\p<c
 f:∀ p∈tk,∀ r c,AF vw'.rc r=some c->p∉c.2
 l:tk.length<=i
 e:H' tl=some (.lst (AU tk))
 s:SameBut (λx=>x∈A.L\/x=tl) H H'
theorem zcq(h:NE K a vs H Q E):UX K a (λ_=>E) (A6 Q) (A5 ["view","xs","many","taken","k","free","p"] vs) H:=by
 obtain⟨A,vw,lf,l0,zs,xl,xs,many,n,r,c,rfl,I,C,X,hm,sz,q⟩:=h
 push_cast[UX,↓Pb]
 refine⟨by decide,λtl htl=> ?_⟩
 have s1:=AS (o:=.lst []) htl
 have e1:upd H tl (.lst []) tl=some (.lst (AU [])):=AM
 revert s1 e1
 generalize upd H tl (.lst [])=H1
 intro s1 e1
 have I1:=I.same s1
 have ntl:tl∉A.L:=λhm=>by
  have:∀ y∈A.L,H y≠none:=λy hy z=>by
   simp[LW.L]at hy
   obtain⟨_,k0,_⟩:=I.n
   obtain⟨_,k1,_⟩:=I.r
   obtain⟨_,k2,_⟩:=I.p
   obtain⟨_,k3,_⟩:=I.rm
   obtain⟨_,k4,_⟩:=I.pm
   have k5:=I.l
   rcases hy with rfl | rfl | rfl | rfl | rfl | rfl
   ·rw[z]at k0;cases k0
   ·rw[z]at k1;cases k1
   ·rw[z]at k2;cases k2
   ·rw[z]at k3;cases k3
   ·rw[z]at k4;cases k4
   ·rw[z]at k5;cases k5
  exact this tl hm htl
 have nxl:xl≠tl:=BT X.e htl
 push_cast[↓Pl]
 refine⟨by omega,by omega,MO (λi σ H'=>(∃ tk vw',VU A vw lf l0 zs tl n r c H1 i tk vw' H')/\∃ y4 y5 y6,σ=[some (.ref A.v),some (.ref xl),some (.int many),some (.ref tl),y4,y5,y6]) ⟨⟨[],vw,I1,by rw[List.append_nil];exact C,rfl,rfl,rfl,sz,by simp,by simp,by simp,e1,SameBut.refl _⟩,_,_,_,rfl⟩ (λi σ H' hi ⟨⟨tk,vw',J⟩,y4,y5,y6,eσ⟩=> ?_) (λσ H' ⟨⟨tk,vw',J⟩,y4,y5,y6,eσ⟩=> ?_)⟩
 ·subst eσ
  push_cast[↓Pc,Int.zero_add]
  refine⟨A,vw',lf,rfl,J.w,λfl H2 hfl s2 efl=> ?_⟩
  have J2:VU A vw lf l0 zs tl n r c H1 i tk vw' H2:=⟨J.w.same s2,J.cl,J.nm,J.rc,J.rm,J.z,J.p,J.f,J.l,s2 _ _ J.e,J.s.trans s2.sb⟩
  push_cast[↓Pk]
  refine⟨by decide,λe0 he0=> ?_⟩
  have s3:=AS (o:=.lst []) he0
  refine LI (s3 _ _ efl) AM ?_
  have efl3:=s3 _ _ efl
  have J3:VU A vw lf l0 zs tl n r c H1 i tk vw' (upd H2 e0 (.lst [])):=⟨J2.w.same s3,J.cl,J.nm,J.rc,J.rm,J.z,J.p,J.f,J.l,s3 _ _ J2.e,J2.s.trans s3.sb⟩
  revert J3 efl3
  generalize upd H2 e0 (.lst [])=H3
  intro efl3 J3
  have x3:IntsAt H3 A xl xs 3:=⟨J3.s _ _ (s1 _ _ X.e) λz=>z.elim X.n nxl,X.l,X.b,X.n⟩
  push_cast[]
  by_cases hf:freeP vw'=[]
  ·refine BQ (λz=>z hf) ?_
   exact⟨tk,vw',J3.w,J.cl,J.nm,J.rc,J.rm,J.z,J.p,J.f,by have:=J.l;omega,J3.e,J3.s⟩
  ·refine B2 hf ?_
   push_cast[↓Pd]
   refine x3.at (k:=i) (by omega) λy _ _=>⟨(freeP vw').length,.inl ⟨_,SqL.of efl3,by rw[B5]⟩,?_⟩
   have fl1:1<=(freeP vw').length:=by
    cases e:freeP vw' with
    | nil=>exact absurd e hf
    | cons _ _=>simp
   push_cast[]
   refine⟨by omega,EZ efl3 hf λp hp=> ?_⟩
   obtain⟨hp1,hp2⟩:=DM hp
   rw[Bool.and_eq_true]at hp2
   have hpc:AF vw'.pc p=none:=Option.isNone_iff_eq_none.mp hp2.1
   have hpm:AF vw'.pm p=none:=Option.isNone_iff_eq_none.mp hp2.2
   have hpm':p<vw'.pm.length:=by rw[J.w.ok.l2];exact hp1
   push_cast[↓Pg]
   refine x3.at (k:=i) (by omega) λy2 _ _=> ?_
   push_cast[]
   refine⟨⟨by decide,by decide⟩,_,rfl,λz H4 hz s4=> ?_⟩
   have I4:=J3.w.same s4
   refine I4.at2 (I4.set2 (cc:=some z) hp1 rfl (λc hc=>by cases hc;exact hz) λH5 I5 sb5 tk5=> ?_)
   push_cast[↓Ph]
   refine I5.at4 (I5.set4 (cc:=some 1) (by simp only[List.length_set];exact hp1) rfl (λc hc=>trivial) λH6 I6 sb6 tk6=> ?_)
   have e6:H6 tl=some (.lst (AU tk)):=sb6 _ _ (sb5 _ _ (s4 _ _ J3.e) ntl) ntl
   push_cast[↓Pj]
   have jl:=J.l
   refine⟨.inl ⟨rfl,_,SqL.of e6⟩,tl,_,_,rfl,rfl,e6,Nat.lt_of_lt_of_le (show(AU tk).length<1000 by rw[B5];omega) (by decide),?_⟩
   have s7:SameBut (· =tl) H6 (upd H6 tl (.lst (AU tk++[V.int ↑p]))):=λy o e ny=>by rw[AQ ny];exact e
   have tk7:CP H6 (upd H6 tl (.lst (AU tk++[V.int ↑p]))):=λy us e=>s7 _ _ e (DA e e6 (by intro z;cases z))
   have I7:LWAt (upd H6 tl (.lst (AU tk++[V.int ↑p]))) A { vw' with pc:=vw'.pc.set p (some z),pm:=vw'.pm.set p (some 1) } lf:=by
    have ne:∀ y∈A.L,y≠tl:=λy hy z=>ntl (z ▸ hy)
    refine⟨s7 _ _ I6.ob (BT I.ob htl),I6.n.keep (λv c=>NmV.keep tk7) (λo e=>s7 _ _ e (ne _ (by simp[LW.L]))),I6.r.keep (λv c=>RcV.keep tk7) (λo e=>s7 _ _ e (ne _ (by simp[LW.L]))),I6.p.keep (λv c=>PcV.keep tk7) (λo e=>s7 _ _ e (ne _ (by simp[LW.L]))),I6.rm.keep (λv c=>MkV.keep tk7) (λo e=>s7 _ _ e (ne _ (by simp[LW.L]))),I6.pm.keep (λv c=>MkV.keep tk7) (λo e=>s7 _ _ e (ne _ (by simp[LW.L]))),s7 _ _ I6.l (ne _ (by simp[LW.L])),I6.ok,I6.nd,I6.nv⟩
   refine⟨tk++[p],_,I7,?_,J.nm,J.rc,J.rm,?_,?_,?_,by simp;omega,?_,?_⟩
   ·rw[<-List.append_assoc]
    exact J.cl.text hp1 hpm' hpm
   ·exact⟨J.z.1,J.z.2.1,by simp only[List.length_set];exact J.z.2.2⟩
   ·intro x hx
    show(AF (vw'.pc.set p (some z)) x).isSome=true/\_
    rw[CA hp1]
    rcases List.mem_append.mp hx with h | h
    ·refine⟨?_,(J.p x h).2⟩
     split
     ·rfl
     ·exact(J.p x h).1
    ·rw[List.mem_singleton.mp h,if_pos rfl]
     exact⟨rfl,by rw[<-J.z.2.2];exact hp1⟩
   ·intro x hx r2 c2 h2
    rcases List.mem_append.mp hx with h | h
    ·exact J.f x h r2 c2 h2
    ·rw[List.mem_singleton.mp h]
     intro hm
     have:=(J.cl.em r2 c2 h2 p hm).2
     rw[hpm]at this;cases this
   ·rw[AM]
    unfold AU
    rw[List.map_append]
    rfl
   ·exact(((J3.s.trans s4.sb).trans (sb5.wide λx h=>.inl h)).trans (sb6.wide λx h=>.inl h)).trans (s7.wide λx h=>.inr h)
 ·subst eσ
  push_cast[↓Pm]
  refine⟨AU tk,.inl ⟨SqL.of J.e,λt ht=> ?_⟩⟩
  have s9:=AS (o:=.tup (AU tk)) ht
  refine q t tk vw' _ (J.w.same s9) J.cl J.nm J.rc J.rm J.z J.p J.f (by have:=J.l;omega) AM λy o e ny=>s9 _ _ (J.s _ _ (s1 _ _ e) λz=>z.elim ny λz=> ?_)
  rw[z,htl]at e;cases e
theorem zcr(h:NE K a vs H Q E):vs.length=3:=by
 obtain⟨_,_,_,_,_,_,_,_,_,_,_,rfl,_⟩:=h
 rfl
theorem LWAt.setl{A:LW}{vw:Vw}{lf lf':List Nat}(I:LWAt H A vw lf):LWAt (upd H A.a5 (.lst (AU lf'))) A vw lf'/\SameBut (· ∈A.L) H (upd H A.a5 (.lst (AU lf'))):=by
 have d:=I.diff
 have e:=I.l
 have tk:CP H (upd H A.a5 (.lst (AU lf'))):=λy xs e2=>by rw[AQ (DA e2 e (by intro z;cases z))];exact e2
 refine⟨⟨by rw[AQ d.v5];exact I.ob,I.n.keep (λv c=>NmV.keep tk) (λo e=>by rw[AQ d.d05];exact e),I.r.keep (λv c=>RcV.keep tk) (λo e=>by rw[AQ d.d15];exact e),I.p.keep (λv c=>PcV.keep tk) (λo e=>by rw[AQ d.d25];exact e),I.rm.keep (λv c=>MkV.keep tk) (λo e=>by rw[AQ d.d35];exact e),I.pm.keep (λv c=>MkV.keep tk) (λo e=>by rw[AQ d.d45];exact e),AM,I.ok,I.nd,I.nv⟩,λy o e ny=> ?_⟩
 rw[AQ λz=>ny (by rw[z];simp[LW.L])];exact e
theorem zcs{lf tk:List Nat}(h:(lf++tk).Nodup):((lf++tk).filter λp=>decide (p∉tk))=lf:=by
 obtain⟨_,_,h3⟩:=List.nodup_append.mp h
 rw[List.filter_append]
 have e1:(lf.filter λp=>decide (p∉tk))=lf:=List.filter_eq_self.mpr λp hp=>by
  simp only[decide_eq_true_eq]
  exact λhm=>h3 p hp p hm rfl
 have e2:(tk.filter λp=>decide (p∉tk))=[]:=List.filter_eq_nil_iff.mpr λp hp=>by simp[hp]
 rw[e1,e2,List.append_nil]
theorem zct(h:K8 K a vs H Q E):VD K a (λ_=>E) (A6 Q) (A5 ["view","names","xs","with_name","records","r","pieces"] vs) H:=by
 obtain⟨A,vw,lf,zs,nl,xl,xs,wn,n,r0,c0,rfl,I,C,N,X,sz,hn36,hc36,q⟩:=h
 push_cast[VD,↓Ty]
 refine⟨A,vw,lf,rfl,I,λfl H1 hfl s1 efl=> ?_⟩
 have I1:=I.same s1
 have out:∀ {H':Hp},Same H H'->Q .non H':=λs=>q vw lf _ (I.same s) C sz s.sb
 have main:∀ {H2:Hp},Same H H2->H2 fl=some (.lst (AU (freeR vw)))->freeR vw≠[]->(wn=true->D3 vw≠[])->AK (U6 K a (λ_=>E) (λ_=>E)) (AK (U7 K a (λ_=>E) (λ_=>E)) (VC K a (λ_=>E) (λ_=>E))) (A6 Q) [some (.ref A.v),some (.ref nl),some (.ref xl),some (.bl wn),some (.ref fl),none,none] H2:=λ{H2} s2 efl2 hfr hfn=>by
  have I2:=I.same s2
  have X2:=X.sb s2.sb
  have N2:=N.sb s2.sb
  have fl1:1<=(freeR vw).length:=by
   cases e:freeR vw with
   | nil=>exact absurd e hfr
   | cons _ _=>simp
  push_cast[↓Ub]
  refine X2.at (k:=0) (by omega) λy _ _=>⟨(freeR vw).length,.inl ⟨_,SqL.of efl2,by rw[B5]⟩,?_⟩
  push_cast[]
  refine⟨by omega,EZ efl2 hfr λr hr=> ?_⟩
  obtain⟨hr1,hr2⟩:=DM hr
  rw[Bool.and_eq_true]at hr2
  have hrc:AF vw.rc r=none:=Option.isNone_iff_eq_none.mp hr2.1
  have hl0:=C.led0 hrc
  push_cast[↓Uc]
  refine SY (SqL.of X2.e) λx2 hx2=> ?_
  have ecut:EJ (xs.map V.int) (some 4) (some 7)=((xs.drop 4).take 3).map V.int:=by
   unfold EJ
   rw[List.length_map,X.l,<-List.map_drop,<-List.map_take]
   rfl
  rw[ecut]
  have s3:=AS (o:=.lst (((xs.drop 4).take 3).map V.int)) hx2
  have e3:upd H2 x2 (.lst (((xs.drop 4).take 3).map V.int)) x2=some (.lst (((xs.drop 4).take 3).map V.int)):=AM
  have nx2:x2∉A.L:=λhm=>by
   simp[LW.L]at hm
   obtain⟨_,k0,_⟩:=I2.n
   obtain⟨_,k1,_⟩:=I2.r
   obtain⟨_,k2,_⟩:=I2.p
   obtain⟨_,k3,_⟩:=I2.rm
   obtain⟨_,k4,_⟩:=I2.pm
   have k5:=I2.l
   rcases hm with rfl | rfl | rfl | rfl | rfl | rfl
   ·rw[hx2]at k0;cases k0
   ·rw[hx2]at k1;cases k1
   ·rw[hx2]at k2;cases k2
   ·rw[hx2]at k3;cases k3
   ·rw[hx2]at k4;cases k4
   ·rw[hx2]at k5;cases k5
  revert s3 e3
  generalize upd H2 x2 (.lst (((xs.drop 4).take 3).map V.int))=H3
  intro s3 e3
  refine(X2.sb s3.sb).at (k:=1) (by omega) λy2 _ _=> ?_
  push_cast[]
  obtain⟨mn,emn,hmn⟩:=G5 y2 (n:=4) (by omega)
  rw[show((4:Nat):Int)=4 from rfl]at emn
  rw[emn]
  refine⟨A,vw,lf,lf,zs,x2,(xs.drop 4).take 3,mn,n,r0,c0,rfl,I2.same s3,C,⟨e3,by rw[List.length_take,List.length_drop,X.l];rfl,λx hx=>X.b x (List.mem_of_mem_drop (List.mem_of_mem_take hx)),nx2⟩,by omega,sz,λt tk vw' H4 I4 C4 hnm hrc4 hrm4 sz4 hp4 hf4 ht3 et sb4=> ?_⟩
  have X4:=(X2.sb s3.sb).sb sb4
  have N4:=(N2.sb s3.sb).sb sb4
  have s04:SameBut (· ∈A.L) H H4:=((s2.trans s3).sb).trans sb4
  have hrc':AF vw'.rc r=none:=by rw[hrc4];exact hrc
  have hr1':r<vw'.rc.length:=by rw[hrc4];exact hr1
  have nd4:=C4.nd
  have tkn:tk.Nodup:=(List.nodup_append.mp nd4).2.1
  have tko:∀ p∈tk,((AF vw'.pc p).isSome=true/\AF vw'.pm p=some 1)/\∀ r' c',AF vw'.rc r'=some c'->p∉c'.2:=λp hp=>⟨⟨(hp4 p hp).1,((C4.lm p).mp (List.mem_append.mpr (.inr hp))).1⟩,hf4 p hp⟩
  have rok:∀ {cnt:Int} (c:Int × List Nat),some (cnt,tk)=some c->(∀ p∈c.2,p<vw'.pc.length)/\c.2.length<=10:=λc hc=>by
   cases hc
   exact⟨λp hp=>by rw[sz4.2.2];exact(hp4 p hp).2,by show tk.length<=10;omega⟩
  push_cast[↓Um]
  cases wn with
  | true =>
   refine B2 rfl ?_
   push_cast[↓Ud]
   refine⟨⟨by decide,by decide,by decide⟩,by decide,λlp hlp=> ?_⟩
   have s5:=AS (o:=.lst [V.int 0,V.int 0,V.int 1,V.int 2,V.int (10 ^ 30 - 40)]) hlp
   have e5:upd H4 lp (.lst [V.int 0,V.int 0,V.int 1,V.int 2,V.int (10 ^ 30 - 40)]) lp=some (.lst [V.int 0,V.int 0,V.int 1,V.int 2,V.int (10 ^ 30 - 40)]):=AM
   revert s5 e5
   generalize upd H4 lp (.lst [V.int 0,V.int 0,V.int 1,V.int 2,V.int (10 ^ 30 - 40)])=H5
   intro s5 e5
   refine(X4.sb s5.sb).at (k:=2) (by omega) λy3 _ _=> ?_
   push_cast[]
   obtain⟨b,eb,hb⟩:=G5 y3 (n:=5) (by omega)
   rw[show((5:Nat):Int)=5 from rfl]at eb
   rw[eb]
   have fin:∀ e:Int,0<=e->(BE K (V.int 1) (V.int e) H5 λx H1=>2<=sizeLine/\∀ (p:Addr),H1 p=none->AI K (V.ref A.v) (V.int 1) (upd H1 p (HO.tup [x,V.ref t])) λo H1=>CN o (V.int ↑r) (V.ref p) H1 λH3=>AK (U8 K a (λx=>E) λx=>E) (U9 K a (λx=>E) λx=>E) (A6 Q) [some (V.ref A.v),some (V.ref nl),some (V.ref xl),some (V.bl true),some (V.ref fl),some (V.int ↑r),some (V.ref t)] H3):=λe he=>by
    push_cast[]
    refine⟨by decide,λp hp=> ?_⟩
    have s6:=AS (o:=.tup [V.int (1+e),V.ref t]) hp
    have e6:upd H5 p (.tup [V.int (1+e),V.ref t]) p=some (.tup [V.int (1+e),V.ref t]):=AM
    revert s6 e6
    generalize upd H5 p (.tup [V.int (1+e),V.ref t])=H6
    intro s6 e6
    have s46:=s5.trans s6
    have I6:=I4.same s46
    refine I6.at1 (I6.set1 (cc:=some (1+e,tk)) hr1' ⟨p,t,rfl,e6,s46 _ _ et⟩ rok λH7 I7 sb7 tk7=> ?_)
    have C7:=C4.recd (cnt:=1+e) hr1' hrc' tkn ht3 tko (by omega)
    push_cast[↓Ug]
    have hrm':r<vw'.rm.length:=by rw[I4.ok.l1];exact hr1'
    refine I7.at3 (I7.set3 (cc:=some 1) (by simp only[List.length_set];exact hr1') rfl (λc hc=>trivial) λH8 I8 sb8 tk8=> ?_)
    have C8:=C7.mark (r:=r) (x:=some 1) hrm' (.inr rfl)
    have sb48:SameBut (· ∈A.L) H4 H8:=(s46.sb.trans sb7).trans sb8
    push_cast[↓Uh]
    refine(X4.sb sb48).at (k:=3) (by omega) λy4 _ _=> ?_
    have erc:AF (vw'.rc.set r (some (1+e,tk))) r=some (1+e,tk):=by rw[CA hr1',if_pos rfl]
    have erm:AF (vw'.rm.set r (some 1)) r=some 1:=by rw[CA hrm',if_pos rfl]
    have hled:led vw' r=0:=C4.led0 hrc'
    refine⟨A,_,lf,lf++tk,zs,nl,r,(1+e,tk),y4,n,r0,c0,rfl,I8,C8,N4.sb sb48,⟨sz4.1,by simp only[List.length_set];exact sz4.2.1,sz4.2.2⟩,hn36,?_,erc,?_,erm,λvw9 H9 I9 C9 sz9 sb9=> ?_⟩
    ·have:D3 vw≠[]:=hfn rfl
     unfold D3 at this ⊢
     show(List.filter (λk=>(AF vw'.nm k).isNone) (List.range vw'.nm.length))≠[]
     rw[hnm];exact this
    ·show((led vw' r:Nat):Int)+1<=1+e
     rw[hled];omega
    ·rw[zcs nd4]at C9
     exact q vw9 lf H9 I9 C9 sz9 ((s04.trans sb48).trans sb9)
   rcases(by omega:b=0\/b=1\/b=2\/b=3\/b=4)with h | h | h | h | h<;>subst h
   ·exact BV (SqL.of e5) (n:=0) rfl rfl (fin 0 (by omega))
   ·exact BV (SqL.of e5) (n:=1) rfl rfl (fin 0 (by omega))
   ·exact BV (SqL.of e5) (n:=2) rfl rfl (fin 1 (by omega))
   ·exact BV (SqL.of e5) (n:=3) rfl rfl (fin 2 (by omega))
   ·exact BV (SqL.of e5) (n:=4) rfl rfl (fin (10 ^ 30 - 40) (by decide))
  | false =>
   refine BQ Bool.false_ne_true ?_
   push_cast[↓Uj]
   refine X4.at (k:=2) (by omega) λy3 _ _=> ?_
   push_cast[]
   have hd3:0<=y3 % 3:=by omega
   generalize y3 % 3=e at hd3 ⊢
   refine⟨by decide,λp hp=> ?_⟩
   have s6:=AS (o:=.tup [V.int (1+e),V.ref t]) hp
   have e6:upd H4 p (.tup [V.int (1+e),V.ref t]) p=some (.tup [V.int (1+e),V.ref t]):=AM
   revert s6 e6
   generalize upd H4 p (.tup [V.int (1+e),V.ref t])=H6
   intro s6 e6
   have I6:=I4.same s6
   refine I6.at1 (I6.set1 (cc:=some (1+e,tk)) hr1' ⟨p,t,rfl,e6,s6 _ _ et⟩ rok λH7 I7 sb7 tk7=> ?_)
   have C7:=C4.recd (cnt:=1+e) hr1' hrc' tkn ht3 tko (by omega)
   have hrm':r<vw'.rm.length:=by rw[I4.ok.l1];exact hr1'
   have sb47:SameBut (· ∈A.L) H4 H7:=s6.sb.trans sb7
   have et7:=tk7 _ _ (s6 _ _ et)
   push_cast[↓Uk]
   refine⟨by decide,λlp hlp=> ?_⟩
   have s8:=AS (o:=.lst [V.int 1,V.int 1,V.int 0,V.non]) hlp
   have e8:upd H7 lp (.lst [V.int 1,V.int 1,V.int 0,V.non]) lp=some (.lst [V.int 1,V.int 1,V.int 0,V.non]):=AM
   revert s8 e8
   generalize upd H7 lp (.lst [V.int 1,V.int 1,V.int 0,V.non])=H8
   intro s8 e8
   have I8:=I7.same s8
   have et8:=s8 _ _ et7
   have sb48:=sb47.trans s8.sb
   refine(X4.sb sb48).at (k:=2) (by omega) λy4 _ _=> ?_
   push_cast[]
   obtain⟨b,eb,hb⟩:=G5 (y4 / 3) (n:=4) (by omega)
   rw[show((4:Nat):Int)=4 from rfl]at eb
   rw[eb]
   have hled:led vw' r=0:=C4.led0 hrc'
   have fin:∀ {v:V} {x:Option Int},MkV H8 v x->(AI K (V.ref A.v) (V.int 3) H8 λo H1=>CN o (V.int ↑r) v H1 λH3=>VB K a (λx=>E) (λx=>E) (A6 Q) [some (V.ref A.v),some (V.ref nl),some (V.ref xl),some (V.bl false),some (V.ref fl),some (V.int ↑r),some (V.ref t)] H3):=λ{v x} hv=>by
    refine I8.at3 (I8.set3 (cc:=x) (by simp only[List.length_set];exact hr1') hv (λc hc=>trivial) λH9 I9 sb9 tk9=> ?_)
    have C9:=C7.mark (r:=r) (x:=x) hrm' (.inl hled)
    push_cast[↓Ul]
    refine I9.at5 ⟨.inl ⟨rfl,_,SqL.of I9.l⟩,?_⟩
    refine⟨_,.inr (SqT.of (tk9 _ _ et8)),λll hll=> ?_⟩
    have s10:=AS (o:=.lst (AU tk)) hll
    have e10:upd H9 ll (.lst (AU tk)) ll=some (.lst (AU tk)):=AM
    revert s10 e10
    generalize upd H9 ll (.lst (AU tk))=H10
    intro s10 e10
    have I10:=I9.same s10
    have lfl:=C.short
    have l2:=I.ok.l2
    have szc:=sz.2.2
    refine⟨A.a5,ll,_,_,rfl,rfl,I10.l,e10,small _ (by rw[B5,B5];omega),?_⟩
    obtain⟨I11,sb11⟩:=I10.setl (lf':=lf++tk)
    have en:AU lf++AU tk=AU (lf++tk):=by unfold AU;rw[List.map_append]
    rw[en]
    exact q _ (lf++tk) _ I11 C9 ⟨sz4.1,by simp only[List.length_set];exact sz4.2.1,sz4.2.2⟩ ((((s04.trans sb48).trans sb9).trans s10.sb).trans sb11)
   refine⟨⟨by decide,by decide⟩,?_⟩
   rcases(by omega:b=0\/b=1\/b=2\/b=3)with h | h | h | h<;>subst h
   ·exact BV (SqL.of e8) (n:=0) rfl rfl (fin (x:=some 1) rfl)
   ·exact BV (SqL.of e8) (n:=1) rfl rfl (fin (x:=some 1) rfl)
   ·exact BV (SqL.of e8) (n:=2) rfl rfl (fin (x:=some 0) rfl)
   ·exact BV (SqL.of e8) (n:=3) rfl rfl (fin (x:=none) rfl)
 push_cast[↓Tz]
 refine⟨by decide,λe0 he0=> ?_⟩
 have s2:=AS (o:=.lst []) he0
 refine IW (s2 _ _ efl) AM ⟨_,rfl,?_⟩
 have s02:=s1.trans s2
 have efl2:=s2 _ _ efl
 revert s02 efl2
 generalize upd H1 e0 (.lst [])=H2
 intro s02 efl2
 by_cases hf:freeR vw=[]
 ·refine B2 (by simpa using hf) ?_
  push_cast[↓kS]
  exact out s02
 ·refine BQ (by simpa using hf) ?_
  cases wn with
  | false =>
   refine BQ Bool.false_ne_true ?_
   exact main s02 efl2 hf (λh=>by cases h)
  | true =>
   refine B2 rfl ⟨A,vw,lf,rfl,I.same s02,λfn H3 hfn s3 efn=>⟨by decide,λe1 he1=> ?_⟩⟩
   have s4:=AS (o:=.lst []) he1
   refine IW (s4 _ _ efn) AM ⟨_,rfl,?_⟩
   have s04:=(s02.trans s3).trans s4
   have efl4:=(s3.trans s4) _ _ efl2
   revert s04 efl4
   generalize upd H3 e1 (.lst [])=H4
   intro s04 efl4
   by_cases hg:D3 vw=[]
   ·refine B2 (by simpa using hg) ?_
    push_cast[↓kS]
    exact out s04
   ·refine BQ (by simpa using hg) ?_
    exact main s04 efl4 hf λ_=>hg
theorem zcu(h:K8 K a vs H Q E):vs.length=4:=by
 obtain⟨_,_,_,_,_,_,_,_,_,_,_,rfl,_⟩:=h
 rfl
theorem zcv{lf tk:List Nat}(h:∀ p∈lf,p∉tk):(lf.filter λp=>decide (p∉tk))=lf:=List.filter_eq_self.mpr λp hp=>by simpa using h p hp
theorem zcw(h:NF K a vs H Q E):UY K a (λ_=>E) (A6 Q) (A5 ["view","names","xs","led","records","r"] vs) H:=by
 obtain⟨A,vw,lf,zs,nl,xl,xs,n,r0,c0,rfl,I,C,N,X,sz,hn36,q⟩:=h
 have br:=I.ok.br
 push_cast[UY,↓Pp]
 refine⟨A,vw,lf,rfl,I,λll H1 hll s1 ell=> ?_⟩
 have ell:H1 ll=some (.lst (AU ((List.range vw.rc.length).map (led vw)))):=ell
 push_cast[↓Pq]
 refine⟨vw.rc.length,.inl ⟨_,SqL.of ell,by rw[B5,GK]⟩,by omega,by omega,HN (λr=>decide (0<led vw r)) (small _ (by omega)) (λk hk QB qb=> ?_) λrl hrl=> ?_⟩
 ·push_cast[BI]
  refine GJ ell hk ?_
  push_cast[]
  rw[QE]
  exact qb
 have s2:=AS (o:=.lst (((List.range vw.rc.length).filter λr=>decide (0<led vw r)).map λ(i:Nat)=>V.int i)) hrl
 have er:upd H1 rl (.lst (((List.range vw.rc.length).filter λr=>decide (0<led vw r)).map λ(i:Nat)=>V.int i)) rl=some (.lst (AU ((List.range vw.rc.length).filter λr=>decide (0<led vw r)))):=AM
 revert s2 er
 generalize upd H1 rl (.lst (((List.range vw.rc.length).filter λr=>decide (0<led vw r)).map λ(i:Nat)=>V.int i))=H2
 intro s2 er
 have s02:=s1.trans s2
 have out:∀ {H':Hp},Same H H'->Q .non H':=λs=>q vw lf _ (I.same s) C sz s.sb
 push_cast[↓Pz]
 refine⟨by decide,λe0 he0=> ?_⟩
 have s3:=AS (o:=.lst []) he0
 refine LI (s3 _ _ er) AM ⟨_,rfl,?_⟩
 have s03:=s02.trans s3
 have er3:=s3 _ _ er
 revert s03 er3
 generalize upd H2 e0 (.lst [])=H3
 intro s03 er3
 generalize hRL:((List.range vw.rc.length).filter λr=>decide (0<led vw r))=RL at er3
 by_cases hf:RL=[]
 ·refine BQ (by simp[hf]) ?_
  exact out s03
 ·refine B2 (by simp[hf]) ⟨A,vw,lf,rfl,I.same s03,λfn H4 hfn s4 efn=>⟨by decide,λe1 he1=> ?_⟩⟩
  have s5:=AS (o:=.lst []) he1
  refine LI (s5 _ _ efn) AM ⟨_,rfl,?_⟩
  have s05:=(s03.trans s4).trans s5
  have er5:=(s4.trans s5) _ _ er3
  revert s05 er5
  generalize upd H4 e1 (.lst [])=H5
  intro s05 er5
  by_cases hg:D3 vw=[]
  ·refine BQ (by simp[hg]) ?_
   exact out s05
  ·refine B2 (by simp[hg]) ?_
   have I5:=I.same s05
   have X5:=X.sb s05.sb
   have fl1:1<=RL.length:=by
    cases e:RL with
    | nil=>exact absurd e hf
    | cons _ _=>simp
   push_cast[↓Pw]
   refine X5.at (k:=0) (by omega) λy _ _=>⟨RL.length,.inl ⟨_,SqL.of er5,by rw[B5]⟩,?_⟩
   push_cast[]
   refine⟨by omega,EZ er5 hf λr hr=> ?_⟩
   rw[<-hRL]at hr
   obtain⟨hr1,hr2⟩:=DM hr
   have hl:0<led vw r:=by simpa using hr2
   obtain⟨k,d,hk,hd⟩:=NX hl
   have hrs:=C.ls k d hk
   rw[hd]at hrs
   obtain⟨c,hc⟩:=Option.isSome_iff_exists.mp hrs
   have hcm:=GP hc
   push_cast[↓Px]
   refine I5.ix1 hr1 λv hv=> ?_
   rw[hc]at hv
   obtain⟨p,t,rfl,hp,ht⟩:=hv
   refine BX hp (n:=0) rfl rfl ?_
   push_cast[]
   refine I5.ix1 hr1 λv2 hv2=> ?_
   rw[hc]at hv2
   obtain⟨p2,t2,rfl,hp2,ht2⟩:=hv2
   refine BX hp2 (n:=1) rfl rfl ⟨by decide,λnp hnp=> ?_⟩
   have s6:=AS (o:=.tup [V.int (c.1+1),V.ref t2]) hnp
   have e6:upd H5 np (.tup [V.int (c.1+1),V.ref t2]) np=some (.tup [V.int (c.1+1),V.ref t2]):=AM
   revert s6 e6
   generalize upd H5 np (.tup [V.int (c.1+1),V.ref t2])=H6
   intro s6 e6
   have I6:=I5.same s6
   refine I6.at1 (I6.set1 (cc:=some (c.1+1,c.2)) hr1 ⟨np,t2,rfl,e6,s6 _ _ ht2⟩ (λc' h=>by cases h;exact I.ok.n2 c hcm) λH7 I7 sb7 tk7=> ?_)
   have fw:=C.fw r c hc
   have C7:=C.cnt (cnt:=c.1+1) hc (by omega)
   have sb07:SameBut (· ∈A.L) H H7:=(s05.trans s6).sb.trans sb7
   have erc:AF (vw.rc.set r (some (c.1+1,c.2))) r=some (c.1+1,c.2):=by rw[CA hr1,if_pos rfl]
   push_cast[↓Py]
   refine(X.sb sb07).at (k:=1) (by omega) λy4 _ _=> ?_
   refine⟨A,_,lf,lf,zs,nl,r,(c.1+1,c.2),y4,n,r0,c0,rfl,I7,C7,N.sb sb07,⟨sz.1,by simp only[List.length_set];exact sz.2.1,sz.2.2⟩,hn36,hg,erc,?_,C.fr r hl,λvw9 H9 I9 C9 sz9 sb9=> ?_⟩
   ·show((led vw r:Nat):Int)+1<=c.1+1
    omega
   ·rw[zcv λp hp=>((C.lm p).mp hp).2 r c hl hc]at C9
    exact q vw9 lf H9 I9 C9 sz9 (sb07.trans sb9)
theorem zcx(h:NF K a vs H Q E):vs.length=3:=by
 obtain⟨_,_,_,_,_,_,_,_,_,_,rfl,_⟩:=h
 rfl
theorem zcy(h:NG K a vs H Q E):U0 K a (λ_=>E) (A6 Q) (A5 ["view","kind","xs","records","pieces","p"] vs) H:=by
 obtain⟨A,vw,lf,zs,k,xl,xs,n,r0,c0,rfl,I,C,X,sz,hc36,q⟩:=h
 have br:=I.ok.br
 have l2:=I.ok.l2
 push_cast[U0,↓Qb,↓Qc]
 refine⟨A,vw,lf,rfl,I,λfr H1 hfr s1 efr=>⟨A,vw,lf,rfl,I.same s1,λfp H2 hfp s2 efp=> ?_⟩⟩
 have s02:=s1.trans s2
 have efr2:=s2 _ _ efr
 have t12:∀ {H':Hp} {y5:Option V},k≠7->Q .non H'->NQ K a (λ_=>E) (λ_=>E) (A6 Q) [some (.ref A.v),some (.int k),some (.ref xl),some (.ref fr),some (.ref fp),y5] H':=λhk q'=>by
  push_cast[↓i7]
  refine BQ hk ?_
  exact q'
 have t8:∀ {H':Hp} {y5:Option V},k≠5->NQ K a (λ_=>E) (λ_=>E) (A6 Q) [some (.ref A.v),some (.int k),some (.ref xl),some (.ref fr),some (.ref fp),y5] H'->AK (UZ K a (λ_=>E) (λ_=>E)) (NQ K a (λ_=>E) (λ_=>E)) (A6 Q) [some (.ref A.v),some (.int k),some (.ref xl),some (.ref fr),some (.ref fp),y5] H':=λhk q'=>by
  push_cast[↓i3]
  refine BQ hk ?_
  exact q'
 push_cast[↓Qg]
 by_cases h6:k=6
 ·refine B2 h6 ⟨by decide,λe0 he0=> ?_⟩
  have s3:=AS (o:=.lst []) he0
  refine LI (s3 _ _ efr2) AM ⟨_,rfl,?_⟩
  have s03:=s02.trans s3
  have efr3:=s3 _ _ efr2
  revert s03 efr3
  generalize upd H2 e0 (.lst [])=H3
  intro s03 efr3
  have I3:=I.same s03
  by_cases hf:freeR vw=[]
  ·refine BQ (by simp[hf]) ?_
   exact t8 (by omega) (t12 (by omega) (q vw lf _ I3 C sz s03.sb))
  ·refine B2 (by simp[hf]) ?_
   have fl1:1<=(freeR vw).length:=by
    cases e:freeR vw with
    | nil=>exact absurd e hf
    | cons _ _=>simp
   push_cast[↓Qd]
   refine I3.at3 ((X.sb s03.sb).at (k:=0) (by omega) λy _ _=>⟨(freeR vw).length,.inl ⟨_,SqL.of efr3,by rw[B5]⟩,?_⟩)
   push_cast[]
   refine⟨by omega,EZ efr3 hf λr hr=> ?_⟩
   obtain⟨hr1,hr2⟩:=DM hr
   rw[Bool.and_eq_true]at hr2
   refine I3.set3 (cc:=some 1) hr1 rfl (λc hc=>trivial) λH4 I4 sb4 tk4=> ?_
   exact t8 (by omega) (t12 (by omega) (q _ lf _ I4 (C.mark (x:=some 1) (by rw[I.ok.l1];exact hr1) (.inr rfl)) sz (s03.sb.trans sb4)))
 refine BQ h6 ?_
 push_cast[↓i3]
 have dp:∀ {p:Nat},p∈freeP vw->p<vw.pc.length/\AF vw.pc p=none/\AF vw.pm p=none:=λhp=>by
  obtain⟨hp1,hp2⟩:=DM hp
  rw[Bool.and_eq_true]at hp2
  exact⟨hp1,Option.isNone_iff_eq_none.mp hp2.1,Option.isNone_iff_eq_none.mp hp2.2⟩
 by_cases h5:k=5
 ·refine B2 h5 ⟨by decide,λe0 he0=> ?_⟩
  have s3:=AS (o:=.lst []) he0
  refine LI (s3 _ _ efp) AM ⟨_,rfl,?_⟩
  have s03:=s02.trans s3
  have efp3:=s3 _ _ efp
  revert s03 efp3
  generalize upd H2 e0 (.lst [])=H3
  intro s03 efp3
  have I3:=I.same s03
  by_cases hf:freeP vw=[]
  ·refine BQ (by simp[hf]) ?_
   exact t12 (by omega) (q vw lf _ I3 C sz s03.sb)
  ·refine B2 (by simp[hf]) ?_
   have fl1:1<=(freeP vw).length:=by
    cases e:freeP vw with
    | nil=>exact absurd e hf
    | cons _ _=>simp
   push_cast[↓Qh]
   refine(X.sb s03.sb).at (k:=0) (by omega) λy _ _=>⟨(freeP vw).length,.inl ⟨_,SqL.of efp3,by rw[B5]⟩,?_⟩
   push_cast[]
   refine⟨by omega,EZ efp3 hf λp hp=> ?_⟩
   obtain⟨hp1,hpc,hpm⟩:=dp hp
   push_cast[↓Qj]
   refine I3.at4 (I3.set4 (cc:=some 1) hp1 rfl (λc hc=>trivial) λH4 I4 sb4 tk4=> ?_)
   push_cast[↓Qk]
   have lfl:=C.short
   have szc:=sz.2.2
   refine I4.at5 ⟨.inl ⟨rfl,_,SqL.of I4.l⟩,A.a5,_,_,rfl,rfl,I4.l,Nat.lt_of_lt_of_le (show(AU lf).length<1000 by rw[B5];omega) (by decide),?_⟩
   obtain⟨I5,sb5⟩:=I4.setl (lf':=lf++[p])
   have en:AU lf++[V.int ↑p]=AU (lf++[p]):=by unfold AU;rw[List.map_append];rfl
   rw[en]
   exact t12 (by omega) (q _ (lf++[p]) _ I5 (C.pmk (by omega) hpm) sz ((s03.sb.trans sb4).trans sb5))
 refine BQ h5 ?_
 push_cast[↓i7]
 by_cases h7:k=7
 ·refine B2 h7 ⟨by decide,λe0 he0=> ?_⟩
  have s3:=AS (o:=.lst []) he0
  refine LI (s3 _ _ efp) AM ⟨_,rfl,?_⟩
  have s03:=s02.trans s3
  have efp3:=s3 _ _ efp
  revert s03 efp3
  generalize upd H2 e0 (.lst [])=H3
  intro s03 efp3
  have I3:=I.same s03
  by_cases hf:freeP vw=[]
  ·refine BQ (by simp[hf]) ?_
   exact q vw lf _ I3 C sz s03.sb
  ·refine B2 (by simp[hf]) ?_
   have fl1:1<=(freeP vw).length:=by
    cases e:freeP vw with
    | nil=>exact absurd e hf
    | cons _ _=>simp
   push_cast[↓Ql]
   refine(X.sb s03.sb).at (k:=0) (by omega) λy _ _=>⟨(freeP vw).length,.inl ⟨_,SqL.of efp3,by rw[B5]⟩,?_⟩
   push_cast[]
   refine⟨by omega,EZ efp3 hf λp hp=> ?_⟩
   obtain⟨hp1,hpc,hpm⟩:=dp hp
   push_cast[↓Qm]
   refine(X.sb s03.sb).at (k:=1) (by omega) λy2 _ _=>⟨_,rfl,λz H4 hz s4=> ?_⟩
   have I4:=I3.same s4
   refine I4.at2 (I4.set2 (cc:=some z) hp1 rfl (λc hc=>by cases hc;exact hz) λH5 I5 sb5 tk5=> ?_)
   have sb05:SameBut (· ∈A.L) H H5:=(s03.trans s4).sb.trans sb5
   push_cast[↓Qp]
   refine⟨by decide,λlp hlp=> ?_⟩
   have s6:=AS (o:=.lst [V.int 0,V.non]) hlp
   have e6:upd H5 lp (.lst [V.int 0,V.non]) lp=some (.lst [V.int 0,V.non]):=AM
   revert s6 e6
   generalize upd H5 lp (.lst [V.int 0,V.non])=H6
   intro s6 e6
   have I6:=I5.same s6
   have sb06:=sb05.trans s6.sb
   refine(X.sb sb06).at (k:=2) (by omega) λy3 _ _=> ?_
   push_cast[]
   obtain⟨b,eb,hb⟩:=G5 y3 (n:=2) (by omega)
   rw[show((2:Nat):Int)=2 from rfl]at eb
   rw[eb]
   have fin:∀ {v:V} {x:Option Int},MkV H6 v x->x≠some 1->(AI K (V.ref A.v) (V.int 4) H6 λo H1=>CN o (V.int ↑p) v H1 λH3=>Q V.non H3):=λ{v x} hv hx=>by
    refine I6.at4 (I6.set4 (cc:=x) (by simp only[List.length_set];exact hp1) hv (λc hc=>trivial) λH7 I7 sb7 tk7=> ?_)
    exact q _ lf _ I7 (C.alone (z:=some z) (x:=x) hp1 (by omega) hpm hx) ⟨sz.1,sz.2.1,by simp only[List.length_set];exact sz.2.2⟩ (sb06.trans sb7)
   rcases(by omega:b=0\/b=1)with h | h<;>subst h
   ·exact BV (SqL.of e6) (n:=0) rfl rfl (fin (x:=some 0) rfl (by decide))
   ·exact BV (SqL.of e6) (n:=1) rfl rfl (fin (x:=none) rfl (by decide))
 ·refine BQ h7 ?_
  exact q vw lf _ (I.same s02) C sz s02.sb
theorem zcz(h:NG K a vs H Q E):vs.length=3:=by
 obtain⟨_,_,_,_,_,_,_,_,_,_,rfl,_⟩:=h
 rfl
theorem zc0(h:NI K a vs H Q E):UP K a (λ_=>E) (A6 Q) (A5 ["view","led","records","found"] vs) H:=by
 obtain⟨A,vw,lf,zs,rfl,I,C,h36,q⟩:=h
 have ok:=I.ok
 have br:=ok.br
 have bp:=ok.bp
 have l2:=ok.l2
 push_cast[UP,↓Mc]
 refine⟨A,vw,lf,rfl,I,λl1 H0 hl1' s0 hl1=> ?_⟩
 have hl1:H0 l1=some (.lst (AU ((List.range vw.rc.length).map (led vw)))):=hl1
 have I0:=I.same s0
 have nl1:(AU ((List.range vw.rc.length).map (led vw))).length=vw.rc.length:=by rw[B5,GK]
 push_cast[↓Md]
 refine⟨vw.rc.length,.inl ⟨_,SqL.of hl1,nl1.symm⟩,by omega,by omega,HN (λk=>(AF vw.rc k).isSome) (small _ (by omega)) (λk hk QB qb=> ?_) λrl hrl=> ?_⟩
 ·push_cast[BI]
  refine I0.ix1 hk λv hv=> ?_
  push_cast[]
  rw[IV hv]
  simpa using qb
 have s1:=AS (o:=.lst (((List.range vw.rc.length).filter λk=>(AF vw.rc k).isSome).map λ(i:Nat)=>V.int i)) hrl
 have er:upd H0 rl (.lst (((List.range vw.rc.length).filter λk=>(AF vw.rc k).isSome).map λ(i:Nat)=>V.int i)) rl=some (.lst (AU ((List.range vw.rc.length).filter λk=>(AF vw.rc k).isSome))):=AM
 revert s1 er
 generalize upd H0 rl (.lst (((List.range vw.rc.length).filter λk=>(AF vw.rc k).isSome).map λ(i:Nat)=>V.int i))=H1
 intro s1 er
 push_cast[↓Mg]
 refine .inl ⟨⟨_,SqL.of er⟩,G4 (D4 vw) (λr=>[.str "many",.int r,.int (led vw r)]) er (GL br) (λk hk H4 s QB qb=> ?_) (λk hk hp H4 Q' s q'=> ?_) ?_⟩
 ·obtain⟨hk,hs⟩:=DM hk
  obtain⟨c,hc⟩:=Option.isSome_iff_exists.mp hs
  have s':=s1.trans s
  unfold D4 at qb
  simp only[hc]at qb
  push_cast[BI]
  refine GJ (s' _ _ hl1) hk ?_
  push_cast[]
  by_cases h0:0<led vw k
  ·refine B2 (by omega) ((I0.same s').ix1 hk λv hv=> ?_)
   rw[hc]at hv
   obtain⟨p,t,rfl,hp,ht⟩:=hv
   refine BX hp (n:=0) rfl rfl (GJ (s' _ _ hl1) hk ?_)
   push_cast[]
   rw[decide_eq_true h0,Bool.true_and]at qb
   exact qb
  ·refine BQ (by omega) ?_
   rw[decide_eq_false h0,Bool.false_and]at qb
   exact qb
 ·obtain⟨hk,hs⟩:=DM hk
  push_cast[BI]
  refine GJ ((s1.trans s) _ _ hl1) hk ?_
  exact⟨by decide,q'⟩
 rw[FW (r:=D4 vw) λk _=>by
  unfold D4
  cases AF vw.rc k<;>simp]
 intro f2 H2 h2 s2 F2
 have n2:=DF (p:=D4 vw) (f:=λr=>[.str "many",.int r,.int (led vw r)]) br
 have s02:=s1.trans s2
 push_cast[↓Mh]
 refine .inl ⟨⟨_,SqL.of (s2 _ _ er)⟩,G4 (λr=>decide (led vw r=0)) (λr=>[.str "left",.str "record",.int r]) (s2 _ _ er) (GL br) (λk hk H4 s QB qb=> ?_) (λk hk hp H4 Q' s q'=> ?_) ?_⟩
 ·obtain⟨hk,hs⟩:=DM hk
  push_cast[BI]
  refine GJ ((s02.trans s) _ _ hl1) hk ?_
  push_cast[]
  rw[nE]
  exact qb
 ·push_cast[]
  exact⟨by decide,q'⟩
 rw[FW λk _=>rfl]
 intro f3 H3 h3 s3 F3
 have n3:=DF (p:=λr=>(AF vw.rc r).isSome && decide (led vw r=0)) (f:=λr=>[.str "left",.str "record",.int r]) br
 refine FD (F2.same s3) F3 (by omega) λfd H4 hfd s4 F4=> ?_
 have s04:=(s02.trans s3).trans s4
 have F4:FindsL H4 fd (JP vw):=F4
 have I4:=I0.same s04
 obtain⟨_,_,_,m4,m5,m6⟩:=NT ok
 have lfl:=C.short
 push_cast[↓Mj]
 refine I4.at5 ⟨A.a5,lf.map λ(k:Nat)=>(k:Int),rfl,by rw[<-QH];exact SqL.of I4.l,by rw[List.length_map];omega,λD ks hD hpm hsr=> ?_⟩
 have eks:=C.sorted l2 hpm hsr
 have eks2:ks.map V.int=AU ((List.range vw.pc.length).filter λp=>decide (AF vw.pm p=some 1) && decide (EH vw p=0)):=by rw[eks,QH]
 rw[eks2]
 have s5:=AS (o:=.lst (AU ((List.range vw.pc.length).filter λp=>decide (AF vw.pm p=some 1) && decide (EH vw p=0)))) hD
 have e5:upd H4 D (.lst (AU ((List.range vw.pc.length).filter λp=>decide (AF vw.pm p=some 1) && decide (EH vw p=0)))) D=some (.lst (AU ((List.range vw.pc.length).filter λp=>decide (AF vw.pm p=some 1) && decide (EH vw p=0)))):=AM
 revert s5 e5
 generalize upd H4 D (.lst (AU ((List.range vw.pc.length).filter λp=>decide (AF vw.pm p=some 1) && decide (EH vw p=0))))=H5
 intro s5 e5
 refine⟨D,rfl,.inl ⟨⟨_,SqL.of e5⟩,G4 (λ_=>true) (λp=>[.str "left",.str "piece",.int p]) e5 (GL bp) (λk hk H6 s QB qb=>qb) (λk hk hp H6 Q' s q'=> ?_) ?_⟩⟩
 ·push_cast[]
  exact⟨by decide,q'⟩
 rw[FW (r:=λp=>decide (AF vw.pm p=some 1) && decide (EH vw p=0)) λk _=>by rw[Bool.and_true]]
 intro f6 H6 h6 s6 F6
 have F6:FindsL H6 f6 (JQ vw):=F6
 refine FD (F4.same (s5.trans s6)) F6 (by omega) λf7 H7 h7 s7 F7=> ?_
 have s07:=((s04.trans s5).trans s6).trans s7
 push_cast[↓Ml]
 refine⟨vw.rc.length,.inl ⟨_,SqL.of (s07 _ _ hl1),nl1.symm⟩,by omega,by omega,zah (λr=>decide (AF vw.rm r=some 1) && (AF vw.rc r).isNone) (λr=>[.str "marked",.int r]) (by omega) (λk hk H5 s QB qb=> ?_) (λk hk hp H5 Q' s q'=> ?_) λa8 H8 h8 s8 F8=> ?_⟩
 ·have I':=I0.same (s07.trans s)
  push_cast[BI]
  refine I'.ix3 hk λv hv=>VQ hv ⟨_,rfl,?_⟩
  by_cases h1:AF vw.rm k=some 1
  ·refine B2 (by simpa using h1) (I'.ix1 hk λv2 hv2=> ?_)
   push_cast[]
   rw[IV hv2]
   rw[decide_eq_true h1,Bool.true_and]at qb
   exact qb
  ·refine BQ (by simpa using h1) ?_
   rw[decide_eq_false h1,Bool.false_and]at qb
   exact qb
 ·push_cast[]
  exact⟨by decide,q'⟩
 have F8:FindsL H8 a8 (JR vw):=F8
 exact FD (F7.same s8) F8 (by rw[List.length_append];omega) λl H9 hl s9 F9=>q l H9 (s0.free (s07.free (s8.free hl))) (((s0.trans s07).trans s8).trans s9) F9
theorem zc1(h:NI K a vs H Q E):vs.length=1:=by
 obtain⟨_,_,_,_,rfl,_⟩:=h
 rfl
theorem zc2{F:Addr->Nat->Prop}{as:List Addr}{x0 x1 x2 x3 x4:Nat}(h:Paired F as [x0,x1,x2,x3,x4]):∃ a0 a1 a2 a3 a4,as=[a0,a1,a2,a3,a4]/\F a0 x0/\F a1 x1/\F a2 x2/\F a3 x3/\F a4 x4:=by
 cases h with | cons h0 h=>cases h with | cons h1 h=>cases h with | cons h2 h=>cases h with | cons h3 h=>cases h with | cons h4 h =>
  cases h
  exact⟨_,_,_,_,_,rfl,h0,h1,h2,h3,h4⟩
theorem zc3(h:NH K a vs H Q E):VF K a (λ_=>E) (A6 Q) (A5 ["cells","sizes","names","many","view","cell","xs"] vs) H:=by
 obtain⟨sc,z,nl,ns,zs,n,r,c,w,rfl,hs,hns,hz,n1,n6,r1,r6,c1,c6,w1,w6,hnl,hzl,hzd,hzs,q⟩:=h
 have bw:∀ k:Nat,k<=6->k * w<=36:=λk hk=>Nat.mul_le_mul hk w6
 have bn:=bw n n6
 have br:=bw r r6
 have bc:=bw c c6
 have cn:∀ k:Nat,((k:Int) * w)=((k * w:Nat):Int):=λk=>by simp
 push_cast[VF,↓Vc]
 refine .inr ⟨z,_,rfl,SqT.of hz,by simp[HT.sIx],λt ht=>⟨t,rfl,.inr ⟨⟨_,SqT.of AM⟩,?_⟩⟩⟩
 have e1:upd H t (.tup (EJ [.int n,.int r,.int c,.int w] none (some 3))) t=some (.tup [.int n,.int r,.int c]):=by rw[AM];rfl
 have s1:=AS (o:=.tup (EJ [.int n,.int r,.int c,.int w] none (some 3))) ht
 revert e1 s1
 generalize upd H t (.tup (EJ [.int n,.int r,.int c,.int w] none (some 3)))=H1
 intro e1 s1
 refine zb0 (xs:=[.int n,.int r,.int c]) (small _ (by simp)) (λi ys H'=>H'=H1/\ys=([n * w,r * w,c * w].take i).map λ(k:Nat)=>V.int k) ⟨rfl,rfl⟩ (λi ys H' _ ⟨e,_⟩=>e ▸ SqT.of e1) (λi x ys H' hx _ ⟨e,e'⟩=> ?_) (λys H' _ ⟨e,e'⟩ l hl=> ?_)
 ·subst e
  push_cast[BI]
  obtain⟨k,rfl,hk6,ek⟩:∃ k:Nat,x=.int k/\k<=6/\[n * w,r * w,c * w][i]? =some (k * w):=by
   match i with
   | 0=>cases hx;exact⟨n,rfl,n6,rfl⟩
   | 1=>cases hx;exact⟨r,rfl,r6,rfl⟩
   | 2=>cases hx;exact⟨c,rfl,c6,rfl⟩
   | i+3=>simp at hx
  refine BX (s1 _ _ hz) (n:=3) rfl rfl ?_
  push_cast[]
  refine⟨.inl ⟨by omega,by omega⟩,?_⟩
  rw[cn k,e',ER ek,List.map_append]
  rfl
 subst e
 have e':ys=[.int ((n * w:Nat):Int),.int ((r * w:Nat):Int),.int ((c * w:Nat):Int)]:=e'
 subst e'
 have s2:=AS (o:=.lst [V.int ↑(n * w),V.int ↑(r * w),V.int ↑(c * w)]) hl
 have e2:upd H' l (.lst [V.int ↑(n * w),V.int ↑(r * w),V.int ↑(c * w)]) l=some (.lst [V.int ↑(n * w),V.int ↑(r * w),V.int ↑(c * w)]):=AM
 revert s2 e2
 generalize upd H' l (.lst [V.int ↑(n * w),V.int ↑(r * w),V.int ↑(c * w)])=H2
 intro s2 e2
 have s02:=s1.trans s2
 push_cast[↓Vd]
 refine⟨by decide,λkl hkl=>.inl ⟨⟨_,SqL.of AM⟩,?_⟩⟩
 have s3:=AS (o:=.lst [V.int 0,V.int 1,V.int 2,V.int 1,V.int 2]) hkl
 have e3:upd H2 kl (.lst [V.int 0,V.int 1,V.int 2,V.int 1,V.int 2]) kl=some (.lst [V.int 0,V.int 1,V.int 2,V.int 1,V.int 2]):=AM
 revert s3 e3
 generalize upd H2 kl (.lst [V.int 0,V.int 1,V.int 2,V.int 1,V.int 2])=H3
 intro s3 e3
 have s03:=s02.trans s3
 refine bF (xs:=[V.int 0,V.int 1,V.int 2,V.int 1,V.int 2]) (small _ (by simp)) (λi ys H'=>Same H3 H'/\∃ as:List Addr,ys=as.map V.ref/\as.Nodup/\Paired (λa m=>H' a=some (.lst (List.replicate m V.non))/\H3 a=none) as ([n * w,r * w,c * w,r * w,c * w].take i)) ⟨Same.refl _,[],rfl,List.nodup_nil,.nil⟩ (λi ys H' _ ⟨s,_⟩=>SqL.of (s _ _ e3)) (λi x ys H4 hx _ ⟨s,as,e,nd,P⟩=> ?_) (λys H4 _ ⟨s,as,e,nd,P⟩ vl hvl=> ?_)
 ·obtain⟨j,m,rfl,ej,em,hm⟩:∃ (j m:Nat),x=.int j/\[V.int ↑(n * w),V.int ↑(r * w),V.int ↑(c * w)][j]? =some (.int m)/\[n * w,r * w,c * w,r * w,c * w][i]? =some m/\m<=36:=by
   match i with
   | 0=>cases hx;exact⟨0,_,rfl,rfl,rfl,bn⟩
   | 1=>cases hx;exact⟨1,_,rfl,rfl,rfl,br⟩
   | 2=>cases hx;exact⟨2,_,rfl,rfl,rfl,bc⟩
   | 3=>cases hx;exact⟨1,_,rfl,rfl,rfl,br⟩
   | 4=>cases hx;exact⟨2,_,rfl,rfl,rfl,bc⟩
   | i+5=>simp at hx
  push_cast[BI]
  refine⟨by decide,λp hp=> ?_⟩
  have s5:=AS (o:=.lst [V.non]) hp
  refine BV (SqL.of (s5 _ _ (s _ _ (s3 _ _ e2)))) (n:=j) rfl ej (zb2 AM (by omega) λa6 H6 h6 s6 e6=> ?_)
  have s56:=s5.trans s6
  refine⟨s.trans s56,as++[a6],by rw[e,List.map_append];rfl,?_,?_⟩
  ·rw[List.nodup_append]
   refine⟨nd,by simp,λx hx y hy=> ?_⟩
   rw[List.mem_singleton.mp hy]
   obtain⟨k,ek⟩:=GZ hx
   obtain⟨r',_,hx'⟩:=EK P ek
   exact BT (s5 _ _ hx'.1) h6
  ·rw[ER em]
   exact Paired.snoc (Paired.mapP P λt r e=>⟨s56 _ _ e.1,e.2⟩) ⟨e6,s.free (s5.free h6)⟩
 have P:Paired (λa m=>H4 a=some (.lst (List.replicate m V.non))/\H3 a=none) as [n * w,r * w,c * w,r * w,c * w]:=P
 obtain⟨a0,a1,a2,a3,a4,rfl,f0,f1,f2,f3,f4⟩:=zc2 P
 subst e
 have s5:=AS (o:=.lst [V.ref a0,V.ref a1,V.ref a2,V.ref a3,V.ref a4]) hvl
 have e5:upd H4 vl (.lst [V.ref a0,V.ref a1,V.ref a2,V.ref a3,V.ref a4]) vl=some (.lst [V.ref a0,V.ref a1,V.ref a2,V.ref a3,V.ref a4]):=AM
 show 0<=sizeLine/\_
 revert s5 e5
 simp only[List.map_cons,List.map_nil]
 generalize upd H4 vl (.lst [V.ref a0,V.ref a1,V.ref a2,V.ref a3,V.ref a4])=H5
 intro s5 e5
 refine⟨by decide,λa5 ha5=>⟨by decide,λp1 hp1=> ?_⟩⟩
 have s6:=AS (o:=.lst []) ha5
 have e6:upd H5 a5 (.lst []) a5=some (.lst (AU [])):=AM
 revert hp1 s6 e6
 generalize upd H5 a5 (.lst [])=H6
 intro hp1 s6 e6
 have s7:=AS (o:=.lst [V.ref a5]) hp1
 have e7:upd H6 p1 (.lst [V.ref a5]) p1=some (.lst [V.ref a5]):=AM
 revert s7 e7
 generalize upd H6 p1 (.lst [V.ref a5])=H7
 intro s7 e7
 refine LG ((s6.trans s7) _ _ e5) e7 (by simp) λv H8 hv s8 e8=> ?_
 have s38:=((((s.trans s5).trans s6).trans s7).trans s8)
 have s48:=((s5.trans s6).trans s7).trans s8
 have s08:=s03.trans s38
 have g0:=s48 _ _ f0.1
 have g1:=s48 _ _ f1.1
 have g2:=s48 _ _ f2.1
 have g3:=s48 _ _ f3.1
 have g4:=s48 _ _ f4.1
 have g5:=(s7.trans s8) _ _ e6
 have d5:∀ {x:Addr} {m:Nat},H4 x=some (.lst (List.replicate m V.non))->x≠a5:=λe=>BT (s5 _ _ e) ha5
 have dv:∀ {x:Addr} {m:Nat},H4 x=some (.lst (List.replicate m V.non))->v≠x:=λe=>(BT ((((s5.trans s6).trans s7)) _ _ e) hv).symm
 have dv5:v≠a5:=(BT (s7 _ _ e6) hv).symm
 obtain⟨⟨d01,d02,d03,d04⟩,⟨d12,d13,d14⟩,⟨d23,d24⟩,d34⟩:(a0≠a1/\a0≠a2/\a0≠a3/\a0≠a4)/\(a1≠a2/\a1≠a3/\a1≠a4)/\(a2≠a3/\a2≠a4)/\a3≠a4:=by
  simp at nd
  exact⟨⟨nd.1.1,nd.1.2.1,nd.1.2.2.1,nd.1.2.2.2⟩,⟨nd.2.1.1,nd.2.1.2.1,nd.2.1.2.2⟩,⟨nd.2.2.1.1,nd.2.2.1.2⟩,nd.2.2.2⟩
 have nmem:∀ {α :Type} {k:Nat} {x: α},some x∉List.replicate k (none:Option α):=λh=>by have:=List.eq_of_mem_replicate h;cases this
 have I8:LWAt H8 ⟨v,a0,a1,a2,a3,a4,a5⟩ ⟨List.replicate (n * w) none,List.replicate (r * w) none,List.replicate (c * w) none,List.replicate (r * w) none,List.replicate (c * w) none⟩ []:=by
  refine⟨e8,⟨_,g0,LH (F:=NmV _) (x:=.non) (y:=none) rfl _⟩,⟨_,g1,LH (F:=RcV _) (x:=.non) (y:=none) rfl _⟩,⟨_,g2,LH (F:=PcV _) (x:=.non) (y:=none) rfl _⟩,⟨_,g3,LH (F:=MkV _) (x:=.non) (y:=none) rfl _⟩,⟨_,g4,LH (F:=MkV _) (x:=.non) (y:=none) rfl _⟩,g5,⟨λx h=>absurd h nmem,λx h=>absurd h nmem,λx h=>absurd h nmem,by simp,by simp,by simp;omega,by simp;omega,by simp;omega⟩,?_,?_⟩
  ·simp[LW.L,d01,d02,d03,d04,d12,d13,d14,d23,d24,d34,d5 f0.1,d5 f1.1,d5 f2.1,d5 f3.1,d5 f4.1]
  ·simp[LW.L,dv f0.1,dv f1.1,dv f2.1,dv f3.1,dv f4.1,dv5]
 have atN:∀ {α :Type} {k j:Nat} {x: α},AF (List.replicate k (none:Option α)) j≠some x:=λh=>nmem (GP h)
 have led0:∀ r',led ⟨List.replicate (n * w) none,List.replicate (r * w) none,List.replicate (c * w) none,List.replicate (r * w) none,List.replicate (c * w) none⟩ r'=0:=λr'=>by
  cases e:led ⟨List.replicate (n * w) none,List.replicate (r * w) none,List.replicate (c * w) none,List.replicate (r * w) none,List.replicate (c * w) none⟩ r' with
  | zero=>rfl
  | succ m =>
   obtain⟨k,d,hk,_⟩:=NX (r:=r') (by rw[e];exact Nat.succ_pos m)
   exact absurd hk atN
 have C8:Clean ⟨List.replicate (n * w) none,List.replicate (r * w) none,List.replicate (c * w) none,List.replicate (r * w) none,List.replicate (c * w) none⟩ [] zs:=by
  refine⟨λk d h=>absurd h atN,λj k d d' _ h=>absurd h atN,λk d h=>absurd h atN,λr' d h=>absurd h atN,λr' d h=>absurd h atN,λr1 r2 d d' _ h=>absurd h atN,λr' d h=>absurd h atN,λr' hl=> ?_,List.nodup_nil,λp=>⟨λh=>(by cases h),λ⟨h,_⟩=>absurd h atN⟩,λr' d h=>absurd h atN⟩
  rw[led0]at hl;omega
 have fA:∀ y∈LW.L ⟨v,a0,a1,a2,a3,a4,a5⟩,H y=none:=λy hy=>by
  simp[LW.L]at hy
  rcases hy with rfl | rfl | rfl | rfl | rfl | rfl
  ·exact s03.free f0.2
  ·exact s03.free f1.2
  ·exact s03.free f2.2
  ·exact s03.free f3.2
  ·exact s03.free f4.2
  ·exact s03.free ((s.trans s5).free ha5)
 have fv:H v=none:=s03.free ((((s.trans s5).trans s6).trans s7).free hv)
 have ns8:=s08 _ _ hs
 have nsA:sc∉LW.L ⟨v,a0,a1,a2,a3,a4,a5⟩:=λh=>by rw[fA sc h]at hs;cases hs
 have N8:NamesAt H8 ⟨v,a0,a1,a2,a3,a4,a5⟩ nl zs:=⟨s08 _ _ hnl,hzl,hzd,hzs,λh=>by rw[fA nl h]at hnl;cases hnl⟩
 clear nd P f0 f1 f2 f3 f4 g0 g1 g2 g3 g4 g5 d5 dv
 push_cast[↓Vv]
 refine .inl ⟨⟨_,SqL.of ns8⟩,JL (xs:=ns.map V.int) (λi σ H'=>(∃ vw lf,(LWAt H' ⟨v,a0,a1,a2,a3,a4,a5⟩ vw lf/\Clean vw lf zs)/\EX vw (n * w) (r * w) (c * w)/\SameBut (· ∈LW.L ⟨v,a0,a1,a2,a3,a4,a5⟩) H8 H')/\∃ y5 y6,σ=[some (.ref sc),some (.ref z),some (.ref nl),some (.ref l),some (.ref v),y5,y6]) ⟨⟨_,_,⟨I8,C8⟩,⟨by simp,by simp,by simp⟩,SameBut.refl _⟩,_,_,rfl⟩ (λi σ H' _ ⟨⟨_,_,_,_,sb⟩,_⟩=>SqL.of (sb _ _ ns8 nsA)) (λi x σ H9 hx ⟨⟨vw,lf,⟨I9,C9⟩,sz,sb⟩,y5,y6,eσ⟩=> ?_) (λσ H9 ⟨⟨vw,lf,⟨I9,C9⟩,sz,sb⟩,y5,y6,eσ⟩=> ?_)⟩
 ·subst eσ
  obtain⟨cell,_,rfl⟩:=List.mem_map.mp (List.mem_of_getElem? hx)
  push_cast[↓Vg]
  refine⟨⟨by decide,by decide⟩,cell / 8,7,rfl,by omega,λxl xs H10 hxl s10 exl hxs hx=> ?_⟩
  have I10:=I9.same s10
  have nxl:xl∉LW.L ⟨v,a0,a1,a2,a3,a4,a5⟩:=λhm=>by
   simp[LW.L]at hm
   obtain⟨_,k0,_⟩:=I9.n
   obtain⟨_,k1,_⟩:=I9.r
   obtain⟨_,k2,_⟩:=I9.p
   obtain⟨_,k3,_⟩:=I9.rm
   obtain⟨_,k4,_⟩:=I9.pm
   have k5:=I9.l
   rcases hm with rfl | rfl | rfl | rfl | rfl | rfl
   ·rw[hxl]at k0;cases k0
   ·rw[hxl]at k1;cases k1
   ·rw[hxl]at k2;cases k2
   ·rw[hxl]at k3;cases k3
   ·rw[hxl]at k4;cases k4
   ·rw[hxl]at k5;cases k5
  have X10:IntsAt H10 ⟨v,a0,a1,a2,a3,a4,a5⟩ xl xs 7:=⟨exl,hxs,hx,nxl⟩
  have N10:=(N8.sb sb).sb s10.sb
  have sb10:SameBut (· ∈LW.L ⟨v,a0,a1,a2,a3,a4,a5⟩) H8 H10:=sb.trans s10.sb
  push_cast[↓Vq]
  by_cases h3:cell % 8<3
  ·refine B2 h3 ?_
   push_cast[↓Vh]
   exact⟨⟨v,a0,a1,a2,a3,a4,a5⟩,vw,lf,zs,nl,xl,xs,true,n * w,r * w,c * w,rfl,I10,C9,N10,X10,sz,bn,bc,λvw' lf' H' I' C' sz' sb'=>⟨vw',lf',I',C',sz',sb10.trans sb'⟩⟩
  refine BQ h3 ?_
  push_cast[↓Vp]
  by_cases h4:cell % 8=3
  ·refine B2 h4 ?_
   push_cast[↓Vj]
   exact⟨⟨v,a0,a1,a2,a3,a4,a5⟩,vw,lf,zs,nl,xl,xs,n * w,r * w,c * w,rfl,I10,C9,N10,X10,sz,bn,λvw' lf' H' I' C' sz' sb'=>⟨vw',lf',I',C',sz',sb10.trans sb'⟩⟩
  refine BQ h4 ?_
  push_cast[↓Vm]
  by_cases h5:cell % 8=4
  ·refine B2 h5 ?_
   push_cast[↓Vk]
   exact⟨⟨v,a0,a1,a2,a3,a4,a5⟩,vw,lf,zs,nl,xl,xs,false,n * w,r * w,c * w,rfl,I10,C9,N10,X10,sz,bn,bc,λvw' lf' H' I' C' sz' sb'=>⟨vw',lf',I',C',sz',sb10.trans sb'⟩⟩
  refine BQ h5 ?_
  push_cast[↓Vl]
  exact⟨⟨v,a0,a1,a2,a3,a4,a5⟩,vw,lf,zs,cell % 8,xl,xs,n * w,r * w,c * w,rfl,I10,C9,X10,sz,bc,λvw' lf' H' I' C' sz' sb'=>⟨vw',lf',I',C',sz',sb10.trans sb'⟩⟩
 ·subst eσ
  push_cast[↓Vx]
  refine q ⟨v,a0,a1,a2,a3,a4,a5⟩ vw lf H9 (λb o e=>sb _ _ (s08 _ _ e) λh=> ?_) I9 C9 sz fv fA
  rw[fA b h]at e;cases e
theorem zc4(h:NH K a vs H Q E):vs.length=3:=by
 obtain⟨_,_,_,_,_,_,_,_,_,rfl,_⟩:=h
 rfl
theorem oC{p:Addr}{xs:List Int}{k:Nat}{Q:VK}(h:H p=some (.lst (xs.map V.int)))(hk:k<xs.length)(q:Q (.int (xs.getD k 0)) H):AI K (.ref p) (.int k) H Q :=
 BV (SqL.of h) (n:=k) rfl (by rw[List.getElem?_map,List.getElem?_eq_getElem hk];simp[List.getD,hk]) q
def FF(x:Int):Nat:=97+(x % 26).toNat
theorem VW{x y:Int}(h:FF x=FF y):x % 26=y % 26:=by
 unfold FF at h
 omega
theorem oE{x:Int}{Q:VK}(q:Q (.str ⟨#[FF x]⟩) H):AI K (.str (Str.ofString "abcdefghijklmnopqrstuvwxyz")) (.int (x % 26)) H Q:=by
 obtain⟨b,eb,hb⟩:=G5 x (n:=26) (by omega)
 rw[show((26:Nat):Int)=26 from rfl]at eb
 have:FF x=97+b:=by unfold FF;rw[eb];simp
 rw[this]at q
 rw[eb]
 exact zbp rfl hb q
theorem oF{c:Nat}{k:Nat}(h1:1<=k)(h8:k<=8):(IH ⟨#[c]⟩ (k:Int)).cps.toList=List.replicate k c:=by
 rcases(by omega:k=1\/k=2\/k=3\/k=4\/k=5\/k=6\/k=7\/k=8)with h | h | h | h | h | h | h | h<;>subst h<;>rfl
theorem oG{m:Nat}{f:Nat->Str}(h:∀ j k,j<k->k<m->f j≠f k):((List.range m).map f).Nodup:=by
 rw[List.nodup_iff_pairwise_ne,List.pairwise_map,List.pairwise_iff_getElem]
 intro i j hi hj hlt
 rw[List.length_range]at hj
 simp only[List.getElem_range]
 exact h i j hlt hj
def LJ(x:Int)(k:Nat):Str:=IH ⟨#[FF (x+(k:Int) / 8)]⟩ (1+(k:Int) % 8)
theorem zc5{x:Int}{j k:Nat}(h:j<k)(hk:k<36):LJ x j≠LJ x k:=λe=>by
 have e':=congrArg (λz:Str=>z.cps.toList) e
 unfold LJ at e'
 have a1:(1+(j:Int) % 8)=((1+j % 8:Nat):Int):=by omega
 have a2:(1+(k:Int) % 8)=((1+k % 8:Nat):Int):=by omega
 simp only[a1,a2]at e'
 rw[oF (by omega) (by omega),oF (by omega) (by omega)]at e'
 have el:=congrArg List.length e'
 rw[List.length_replicate,List.length_replicate]at el
 rw[el,show 1+k % 8=k % 8+1 by omega,List.replicate_succ,List.replicate_succ]at e'
 have eh:=(List.cons.inj e').1
 have:=VW eh
 omega
def LK(fi se:Int)(k j:Nat):Int:=(k:Int) * (if(j:Int)=fi then 1 else 0)+(k:Int) / 26 * (if(j:Int)=se then 1 else 0)
def GQ(xs:List Int)(fi se:Int)(k sz:Nat):List Nat:=(List.range sz).map λj=>FF (xs.getD (3+j) 0+LK fi se k j)
theorem zc6{xs:List Int}{fi se:Int}{j k sz:Nat}(h:j<k)(hk:k<36)(f0:0<=fi)(f1:fi<sz)(g0:0<=se)(g1:se<sz)(ne:fi≠se):GQ xs fi se j sz≠GQ xs fi se k sz:=λe=>by
 have at':∀ i:Nat,i<sz->FF (xs.getD (3+i) 0+LK fi se j i)=FF (xs.getD (3+i) 0+LK fi se k i):=λi hi=>by
  have:=congrArg (λl:List Nat=>l[i]?) e
  unfold GQ at this
  simp only[List.getElem?_map,List.getElem?_range hi]at this
  exact Option.some.inj this
 by_cases hq:j / 26=k / 26
 ·have:=VW (at' fi.toNat (by omega))
  unfold LK at this
  have a1:((fi.toNat:Nat):Int)=fi:=by omega
  rw[a1,if_pos rfl,if_neg ne]at this
  omega
 ·have:=VW (at' se.toNat (by omega))
  unfold LK at this
  have a1:((se.toNat:Nat):Int)=se:=by omega
  rw[a1,if_pos rfl,if_neg (λz=>ne z.symm)]at this
  omega
theorem zc7{fi y:Int}{sz:Nat}(h2:2<=sz)(h8:sz<=8)(f0:0<=fi)(f1:fi<sz):fi≠(fi+1+y % ((sz:Int) - 1)) % (sz:Int):=by
 rcases(by omega:sz=2\/sz=3\/sz=4\/sz=5\/sz=6\/sz=7\/sz=8)with h | h | h | h | h | h | h<;>subst h<;>simp only[Int.cast_ofNat_Int,Int.reduceSub]<;>omega
theorem zc8{x y:Str}(h:x.cps.toList=y.cps.toList):x=y:=by
 cases x;cases y
 congr 1
 exact Array.toList_inj.mp h
theorem zc9{l:List Int}{z:Str}(h:z.cps.toList=l.map FF):PyData.strOk z=true:=by
 unfold PyData.strOk
 rw[<-Array.all_toList,h,List.all_eq_true]
 intro c hc
 obtain⟨x,_,rfl⟩:=List.mem_map.mp hc
 unfold FF
 simp
 omega
theorem zda(h:ND K a vs H Q E):UJ K a (λ_=>E) (A6 Q) (A5 ["cell","many","letters","xs","size","first","second","names","k","word","j","step"] vs) H:=by
 obtain⟨x,m,rfl,hm,q⟩:=h
 push_cast[UJ,↓Kg,↓Kh]
 refine⟨⟨by decide,by decide⟩,x / 2,12,rfl,by omega,λl xs H1 hl s1 el hxl hx=> ?_⟩
 push_cast[↓Kk]
 by_cases h1:x % 2=1
 ·refine B2 h1 ?_
  push_cast[↓Kj]
  refine⟨by omega,by omega,?_⟩
  refine K0 (small _ (by omega)) (λi ys H'=>H'=H1/\ys=((List.range i).map (LJ (xs.getD 0 0))).map V.str) ⟨rfl,rfl⟩ (λi ys H' hi hl ⟨e1,e2⟩=> ?_) (λys H' hl' ⟨e1,e2⟩ p hp=> ?_)
  ·subst e1
   push_cast[BI,Int.zero_add]
   refine oC (k:=0) el (by omega) ?_
   push_cast[]
   refine⟨⟨by decide,by decide⟩,oE ?_⟩
   push_cast[]
   refine⟨by omega,by omega,(show(1:Nat)<=1000 by omega),?_⟩
   rw[e2,List.range_succ,List.map_append,List.map_append]
   rfl
  ·subst e1
   refine q p ((List.range m).map (LJ (xs.getD 0 0))) _ (s1.free hp) (s1.trans (AS hp)) (by rw[AM,e2]) (by simp) (oG λj k hjk hk=>zc5 hjk (by omega)) λz hz=> ?_
   obtain⟨k,hk,rfl⟩:=List.mem_map.mp hz
   have hk:=List.mem_range.mp hk
   unfold LJ
   have e8:∃ b:Nat,FF (xs.getD 0 0+(k:Int) / 8)=97+b/\b<26:=⟨((xs.getD 0 0+(k:Int) / 8) % 26).toNat,rfl,by omega⟩
   obtain⟨b,eb,hb⟩:=e8
   rw[eb]
   exact zbs hb (by omega) (by omega)
 ·refine BQ h1 ?_
  push_cast[↓Kl]
  refine GO (k:=0) el (by omega) λy1 hy1=> ?_
  have b1:=hx y1 hy1
  push_cast[]
  obtain⟨sz,esz,hsz⟩:∃ sz:Nat,2+y1 % 7=sz/\2<=sz/\sz<=8:=⟨(2+y1 % 7).toNat,by omega,by omega,by omega⟩
  rw[esz]
  push_cast[↓Km]
  refine GO (k:=1) el (by omega) λy2 hy2=> ?_
  push_cast[]
  refine⟨by omega,?_⟩
  have f0:=Int.emod_nonneg y2 (show(sz:Int)≠0 by omega)
  have f1:=Int.emod_lt_of_pos y2 (show(0:Int)<sz by omega)
  generalize y2 % (sz:Int)=first at f0 f1 ⊢
  push_cast[↓Kp]
  refine GO (k:=2) el (by omega) λy3 hy3=> ?_
  push_cast[]
  refine⟨by omega,by omega,?_⟩
  have ne:=zc7 (y:=y3) hsz.1 hsz.2 f0 f1
  have g0:=Int.emod_nonneg (first+1+y3 % ((sz:Int) - 1)) (show(sz:Int)≠0 by omega)
  have g1:=Int.emod_lt_of_pos (first+1+y3 % ((sz:Int) - 1)) (show(0:Int)<sz by omega)
  generalize (first+1+y3 % ((sz:Int) - 1)) % (sz:Int)=second at g0 g1 ne ⊢
  push_cast[↓Kq]
  refine⟨by decide,λp hp=> ?_⟩
  have s2:=AS (o:=.lst []) hp
  have e2:upd H1 p (.lst []) p=some (.lst []):=AM
  revert s2 e2
  generalize upd H1 p (.lst [])=H2
  intro s2 e2
  push_cast[↓Lb]
  refine⟨by omega,by omega,MO (λi σ H'=>(Same H1 H'/\H' p=some (.lst (((List.range i).map λk=>(⟨(GQ xs first second k sz).toArray⟩:Str)).map V.str)))/\∃ y8 y9 y10 y11,σ=[some (.int x),some (.int m),some (.str (Str.ofString "abcdefghijklmnopqrstuvwxyz")),some (.ref l),some (.int sz),some (.int first),some (.int second),some (.ref p),y8,y9,y10,y11]) ⟨⟨s2,e2⟩,_,_,_,_,rfl⟩ (λi σ H' hi ⟨⟨s,e⟩,y8,y9,y10,y11,eσ⟩=> ?_) (λσ H' ⟨⟨s,e⟩,y8,y9,y10,y11,eσ⟩=> ?_)⟩
  ·subst eσ
   push_cast[↓Kv,↓Ky,Int.zero_add]
   refine⟨by omega,by omega,MO (λj σ H2=>(∃ wd:Str,H2=H'/\wd.cps.toList=GQ xs first second i j/\∃ y10 y11,σ=[some (.int x),some (.int m),some (.str (Str.ofString "abcdefghijklmnopqrstuvwxyz")),some (.ref l),some (.int sz),some (.int first),some (.int second),some (.ref p),some (.int (i:Int)),some (.str wd),y10,y11])) ⟨Str.ofString "",rfl,rfl,_,_,rfl⟩ (λj σ H2 hj ⟨wd,eH,hw,y10,y11,eσ⟩=> ?_) (λσ H2 ⟨wd,eH,hw,y10,y11,eσ⟩=> ?_)⟩
   ·subst eσ;subst eH
    push_cast[↓Kw,↓Kx,Int.zero_add]
    refine⟨.inl ⟨by omega,by omega⟩,⟨by decide,by decide⟩,.inl ⟨by omega,by omega⟩,?_⟩
    rw[show(3:Int)+(j:Int)=((3+j:Nat):Int) by omega]
    refine oC (k:=3+j) (s _ _ el) (by omega) ?_
    push_cast[]
    refine oE ?_
    push_cast[]
    have hwl:wd.length=j:=by
     have:wd.cps.toList.length=j:=by rw[hw];unfold GQ;simp
     simpa [Str.length]using this
    refine⟨small _ (by rw[hwl];show j+1<=_;omega),_,?_,rfl⟩
    show(wd.cps++_).toList=_
    rw[Array.toList_append,hw]
    unfold GQ
    rw[List.range_succ,List.map_append]
    rfl
   ·subst eσ;subst eH
    push_cast[↓Kz]
    refine⟨.inl ⟨rfl,_,SqL.of e⟩,p,_,_,rfl,rfl,e,Nat.lt_of_lt_of_le (show(((List.range i).map λk=>(⟨(GQ xs first second k sz).toArray⟩:Str)).map V.str).length<1000 by simp;omega) (by decide),λy o e=>by rw[AQ (BT e hp)];exact s _ _ e,?_⟩
    rw[AM,List.range_succ,List.map_append,List.map_append]
    have:wd=(⟨(GQ xs first second i sz).toArray⟩:Str):=zc8 hw
    rw[this]
    rfl
  ·subst eσ
   push_cast[↓Lc]
   refine q p _ H' (s1.free hp) (s1.trans s) e (by simp) (oG λj k hjk hk=> ?_) λz hz=> ?_
   ·intro e'
    have e'':=congrArg (λz:Str=>z.cps.toList) e'
    exact zc6 hjk (by omega) f0 f1 g0 g1 ne e''
   ·obtain⟨k,hk,rfl⟩:=List.mem_map.mp hz
    exact zc9 (l:=(List.range sz).map λj=>xs.getD (3+j) 0+LK first second k j) (by show GQ xs first second k sz=_;unfold GQ;rw[List.map_map];rfl)
theorem zdb(h:ND K a vs H Q E):vs.length=2:=by
 obtain⟨_,_,rfl,_⟩:=h
 rfl
theorem zdc{as:TA}{g:TG}{s1:TS}{D:Ends}{σ:St}:DV (PL as) g s1 D σ H=(as σ H λvs H1=>∃ m c:Nat,vs=[.int 0,.int ((m * c:Nat):Int),.int c]/\(1<=c/\c<100000/\m * c<100000)/\GG (K1 c m) g s1 D σ H1):=rfl
theorem zdd{c:Int}{n:Nat}{g:TG}{tb:TS}{D:Ends}{σ:St}(Pv:Nat->St->Hp->Prop)(h0:Pv 0 σ H)
  (hs:∀ i σ H,i<n->Pv i σ H->g (.int ((i:Nat) * c)) σ H λσ2 H2=>tb { D with nx:=Pv (i+1),ct:=Pv (i+1),bk:=D.nx } σ2 H2) (hd:∀ σ H,Pv n σ H->D.nx σ H):GG (K1 c n) g tb D σ H:=by
 refine⟨λi m σ H=>m=n - i/\i<=n/\Pv i σ H,⟨n,by simp,Nat.zero_le _,h0⟩,?_⟩
 rintro i m σ H ⟨rfl,hi,p⟩
 by_cases hlt:i<n
 ·refine .inr ⟨hlt,Pv (i+1),λσ' H' p'=>⟨n - (i+1),by omega,rfl,hlt,p'⟩,λx H' y=> ?_⟩
  obtain⟨e,y⟩:=y
  subst e y
  exact hs i σ _ hlt p
 ·have e:i=n:=by omega
  subst e
  exact .inl ⟨Nat.le_refl _,hd σ H p⟩
theorem zde(h:LA K a vs H Q E):U4 K a (λ_=>E) (A6 Q) (A5 ["plank","view","cells","flat","k"] vs) H:=by
 obtain⟨gp,cl,A,vw,lf,n,r,c,w,rows,m,rfl,TP,P,hrl,I,⟨z1,z2,z3⟩,w1,w6,n6,r6,c6,ncl,ncv,q⟩:=h
 have ok:=I.ok
 obtain⟨v1,e1,P1⟩:=I.n
 obtain⟨v2,e2,P2⟩:=I.r
 obtain⟨v3,e3,P3⟩:=I.p
 obtain⟨v4,e4,P4⟩:=I.rm
 obtain⟨v5,e5,P5⟩:=I.pm
 have q1:=P1.length
 have q2:=P2.length
 have q3:=P3.length
 have q4:=P4.length
 have q5:=P5.length
 have l1:=ok.l1
 have l2:=ok.l2
 have bn:=ok.bn
 have br:=ok.br
 have bp:=ok.bp
 push_cast[U4,↓Tb]
 refine I.at0 (I.at1 (LG e1 e2 (by omega) λb1 H1 _ s1 f1=> ?_))
 refine(I.same s1).at2 (LG f1 (s1 _ _ e3) (by rw[List.length_append];omega) λb2 H2 _ s2 f2=> ?_)
 have s02:=s1.trans s2
 refine(I.same s02).at3 (LG f2 (s02 _ _ e4) (by simp only[List.length_append];omega) λb3 H3 _ s3 f3=> ?_)
 have s03:=s02.trans s3
 refine(I.same s03).at4 (LG f3 (s03 _ _ e5) (by simp only[List.length_append];omega) λb4 H4 hb4 s4 f4=> ?_)
 have s04:=s03.trans s4
 have fl:(v1++v2++v3++v4++v5).length=(n+r+c+r+c) * w:=by
  simp only[List.length_append,Nat.add_mul]
  omega
 generalize hM:n+r+c+r+c=M at fl hrl q
 generalize hF:v1++v2++v3++v4++v5=flat at f4 fl
 have fb:M * w<1000:=by rw[<-fl,<-hF];simp only[List.length_append];omega
 push_cast[↓Td,↓zdc]
 refine⟨M * w,.inl ⟨_,SqL.of f4,fl.symm⟩,M,w,rfl,rfl,w1,by omega,by omega,?_⟩
 have cut:∀ i,i<M->EJ flat (some ((i:Int) * w)) (some ((i:Int) * w+w))=DI w flat i:=λi hi=>by
  have h1:(i+1) * w<=M * w:=Nat.mul_le_mul_right w hi
  rw[Nat.succ_mul]at h1
  unfold EJ DI
  have a1:(i:Int) * w=((i * w:Nat):Int):=by simp
  have a2:(i:Int) * w+w=((i * w+w:Nat):Int):=by simp
  rw[a2,a1,HT.sIx_nat,HT.sIx_nat,fl,Nat.min_eq_left (by omega),Nat.min_eq_left (by omega)]
  congr 1
  omega
 have P4':=P.same s04
 obtain⟨dp,hgp⟩:=P.ob
 obtain⟨tc,hcl,_⟩:=P.ls
 have nb4:b4≠gp/\b4≠cl:=⟨(BT (s03 _ _ hgp) hb4).symm,(BT (s03 _ _ hcl) hb4).symm⟩
 let PR:=λi=>((List.range i).map (DI w flat))++rows.drop i
 refine zdd (λi σ H'=>(SameBut (λx=>x=gp\/x=cl) H4 H'/\PlankAt a H' gp cl w (PR i) (m+i))/\∃ y,σ=[some (.ref gp),some (.ref A.v),some (.int w),some (.ref b4),y]) ⟨⟨SameBut.refl _,P4'⟩,_,rfl⟩ (λi σ H' hi ⟨⟨s',P'⟩,y,eσ⟩=> ?_) (λσ H' ⟨⟨s',P'⟩,y,eσ⟩=> ?_)
 ·subst eσ
  obtain⟨dp',hob⟩:=P'.ob
  have f4':=s' _ _ f4 λz=>z.elim nb4.1 nb4.2
  push_cast[↓Tc]
  refine⟨_,_,hob,mY _ _ _,⟨by omega,by omega⟩,SY (SqL.of f4') λl2 hl2=> ?_⟩
  rw[cut i hi,Int.mul_ediv_cancel _ (show(w:Int)≠0 by omega)]
  have s9:=AS (o:=.lst (DI w flat i)) hl2
  have el2:upd H' l2 (.lst (DI w flat i)) l2=some (.lst (DI w flat i)):=AM
  revert s9 el2
  generalize upd H' l2 (.lst (DI w flat i))=H9
  intro s9 el2
  have cl':=zbz (xs:=flat) fl hi
  have hPR:(PR i).length=M:=by
   show((List.range i).map (DI w flat)++rows.drop i).length=M
   rw[List.length_append,List.length_map,List.length_range,List.length_drop,hrl]
   omega
  refine⟨gp,cl,w,PR i,m+i,(i:Int),l2,DI w flat i,rfl,TP,P'.same s9,SqL.of el2,by omega,λb' eb' hb' hyl Ha Pa sa=> ?_,λz=>by rw[hPR]at z;omega⟩
  obtain rfl:i=b':=by omega
  have ePR:(PR i).set i (DI w flat i)=PR (i+1):=by
   show((List.range i).map (DI w flat)++rows.drop i).set i (DI w flat i)=(List.range (i+1)).map (DI w flat)++rows.drop (i+1)
   rw[List.set_append_right _ _ (by simp),List.length_map,List.length_range,Nat.sub_self,List.drop_eq_getElem_cons (by omega),List.set_cons_zero,List.range_succ,List.map_append,List.append_assoc]
   rfl
  rw[ePR]at Pa
  exact⟨s'.trans (s9.sb.trans sa),Pa⟩
 ·subst eσ
  have ePR:PR M=(List.range M).map (DI w flat):=by
   show(List.range M).map (DI w flat)++rows.drop M=_
   rw[<-hrl,List.drop_length,List.append_nil]
  rw[ePR]at P'
  have tk:CP H H':=λy xs e=>s' _ _ (s04 _ _ e) λz=>by
   rcases z with z | z
   ·rw[z,hgp]at e;cases e
   ·rw[z,hcl]at e;cases e
  refine q _ H' P' (by simp) ⟨⟨v1,v2,v3,v4,v5,by rw[nY fl,hF],Paired.mapP P1 λv c=>NmV.keep tk,Paired.mapP P2 λv c=>RcV.keep tk,Paired.mapP P3 λv c=>PcV.keep tk,Paired.mapP P4 λv c=>MkV.keep tk,Paired.mapP P5 λv c=>MkV.keep tk⟩,z1,z2,z3,ok⟩ (s04.sb.trans s')
theorem zdf(h:LA K a vs H Q E):vs.length=3:=by
 obtain⟨_,_,_,_,_,_,_,_,_,_,_,rfl,_⟩:=h
 rfl
theorem zdg{α :Type}{F:Addr-> α ->Prop}{as:List Addr}{x0 x1 x2 x3 x4 x5: α}(h:Paired F as [x0,x1,x2,x3,x4,x5]):∃ a0 a1 a2 a3 a4 a5,as=[a0,a1,a2,a3,a4,a5]/\F a0 x0/\F a1 x1/\F a2 x2/\F a3 x3/\F a4 x4/\F a5 x5:=by
 cases h with | cons h0 h=>cases h with | cons h1 h=>cases h with | cons h2 h=>cases h with | cons h3 h=>cases h with | cons h4 h=>cases h with | cons h5 h =>
  cases h
  exact⟨_,_,_,_,_,_,rfl,h0,h1,h2,h3,h4,h5⟩
theorem zdh(h:NJ K a vs H Q E):T7 K a (λ_=>E) (A6 Q) (A5 ["view"] vs) H:=by
 obtain⟨A,vw,lf,rfl,I,q⟩:=h
 obtain⟨v1,e1,P1⟩:=I.n
 obtain⟨v2,e2,P2⟩:=I.r
 obtain⟨v3,e3,P3⟩:=I.p
 obtain⟨v4,e4,P4⟩:=I.rm
 obtain⟨v5,e5,P5⟩:=I.pm
 push_cast[T7,↓Hg]
 refine .inl ⟨⟨_,SqL.of I.ob⟩,bF (xs:=[.ref A.a0,.ref A.a1,.ref A.a2,.ref A.a3,.ref A.a4,.ref A.a5]) (small _ (by simp)) (λi ys H'=>Same H H'/\∃ as:List Addr,ys=as.map V.ref/\as.Nodup/\Paired (λx us=>H' x=some (.lst us)/\H x=none) as ([v1,v2,v3,v4,v5,AU lf].take i)) ⟨Same.refl _,[],rfl,List.nodup_nil,.nil⟩ (λi ys H' _ ⟨s,_⟩=>SqL.of (s _ _ I.ob)) (λi x ys H4 hx _ ⟨s,as,e,nd,P⟩=> ?_) (λys H4 _ ⟨s,as,e,nd,P⟩ vl hvl=> ?_)⟩
 ·obtain⟨y,us,rfl,hy,em⟩:∃ (y:Addr) (us:List V),x=.ref y/\H y=some (.lst us)/\[v1,v2,v3,v4,v5,AU lf][i]? =some us:=by
   match i with
   | 0=>cases hx;exact⟨_,_,rfl,e1,rfl⟩
   | 1=>cases hx;exact⟨_,_,rfl,e2,rfl⟩
   | 2=>cases hx;exact⟨_,_,rfl,e3,rfl⟩
   | 3=>cases hx;exact⟨_,_,rfl,e4,rfl⟩
   | 4=>cases hx;exact⟨_,_,rfl,e5,rfl⟩
   | 5=>cases hx;exact⟨_,_,rfl,I.l,rfl⟩
   | i+6=>simp at hx
  push_cast[BI]
  refine⟨_,.inl (SqL.of (s _ _ hy)),λa6 h6=> ?_⟩
  have s6:=AS (o:=.lst us) h6
  refine⟨s.trans s6,as++[a6],by rw[e,List.map_append];rfl,?_,?_⟩
  ·rw[List.nodup_append]
   refine⟨nd,by simp,λx hx y hy=> ?_⟩
   rw[List.mem_singleton.mp hy]
   obtain⟨k,ek⟩:=GZ hx
   obtain⟨r',_,hx'⟩:=EK P ek
   exact BT hx'.1 h6
  ·rw[ER em]
   exact Paired.snoc (Paired.mapP P λt r e=>⟨s6 _ _ e.1,e.2⟩) ⟨AM,s.free h6⟩
 have P:Paired (λx us=>H4 x=some (.lst us)/\H x=none) as [v1,v2,v3,v4,v5,AU lf]:=P
 obtain⟨a0,a1,a2,a3,a4,a5,rfl,f0,f1,f2,f3,f4,f5⟩:=zdg P
 subst e
 have s5:=AS (o:=.lst [V.ref a0,V.ref a1,V.ref a2,V.ref a3,V.ref a4,V.ref a5]) hvl
 have s05:=s.trans s5
 have e5':upd H4 vl (.lst [V.ref a0,V.ref a1,V.ref a2,V.ref a3,V.ref a4,V.ref a5]) vl=some (.lst [V.ref a0,V.ref a1,V.ref a2,V.ref a3,V.ref a4,V.ref a5]):=AM
 refine q ⟨vl,a0,a1,a2,a3,a4,a5⟩ _ s05 ⟨e5',⟨_,s5 _ _ f0.1,Paired.mapP P1 λv c=>NmV.keep s05.tk⟩,⟨_,s5 _ _ f1.1,Paired.mapP P2 λv c=>RcV.keep s05.tk⟩,⟨_,s5 _ _ f2.1,Paired.mapP P3 λv c=>PcV.keep s05.tk⟩,⟨_,s5 _ _ f3.1,Paired.mapP P4 λv c=>MkV.keep s05.tk⟩,⟨_,s5 _ _ f4.1,Paired.mapP P5 λv c=>MkV.keep s05.tk⟩,s5 _ _ f5.1,I.ok,nd,?_⟩ (s.free hvl) ?_
 ·have dv:∀ {x:Addr} {us:List V},H4 x=some (.lst us)->vl≠x:=λe=>(BT e hvl).symm
  simp[LW.L,dv f0.1,dv f1.1,dv f2.1,dv f3.1,dv f4.1,dv f5.1]
 ·intro x hx
  simp[LW.L]at hx
  rcases hx with rfl | rfl | rfl | rfl | rfl | rfl
  ·exact f0.2
  ·exact f1.2
  ·exact f2.2
  ·exact f3.2
  ·exact f4.2
  ·exact f5.2
theorem zdi(h:NJ K a vs H Q E):vs.length=1:=by
 obtain⟨_,_,_,rfl,_⟩:=h
 rfl
theorem zdj{n k:Nat}(h:k<n):(List.range n).filter (λj=>decide (j=k))=[k]:=by
 induction n with
 | zero=>omega
 | succ n ih =>
  rw[List.range_succ,List.filter_append]
  by_cases e:k=n
  ·subst e
   have:(List.range k).filter (λj=>decide (j=k))=[]:=List.filter_eq_nil_iff.mpr λj hj=>by
    have:=List.mem_range.mp hj
    simp;omega
   rw[this]
   simp
  ·rw[ih (by omega)]
   have:[n].filter (λj=>decide (j=k))=[]:=by simp;omega
   rw[this]
   rfl
theorem J7{n k:Nat}{p:Nat->Bool}{f:Nat->List V}(hk:k<n)(h1:p k=true)(h2:∀ j,j<n->j≠k->p j=false):B1 n p f=[f k]:=by
 unfold B1
 have:(List.range n).filter p=(List.range n).filter (λj=>decide (j=k)):=List.filter_congr λj hj=>by
  by_cases e:j=k
  ·rw[e,h1];simp
  ·rw[h2 j (List.mem_range.mp hj) e];simp[e]
 rw[this,zdj hk]
 rfl
section
variable{vw:Vw}
theorem LM(h:∀ k c,AF vw.nm k=some c->(AF vw.rc c.2).isSome=true){k:Nat}:EI vw k=false:=by
 unfold EI
 cases e:AF vw.nm k with
 | none=>rfl
 | some c =>
  obtain⟨z,hz⟩:=Option.isSome_iff_exists.mp (h k c e)
  simp[hz]
theorem J8{k:Nat}(h:∀ j c d,j<k->AF vw.nm j=some c->AF vw.nm k=some d->c.1≠d.1):EO vw k=false:=by
 unfold EO
 cases e:AF vw.nm k with
 | none=>rfl
 | some c =>
  rw[Bool.eq_false_iff]
  intro hh
  obtain⟨j,hj,he⟩:=List.any_eq_true.mp hh
  cases e2:AF vw.nm j with
  | none=>simp only[e2]at he;cases he
  | some d =>
   simp only[e2]at he
   exact h j d c (List.mem_range.mp hj) e2 e (by simpa using he)
theorem LN(h:∀ r c,AF vw.rc r=some c->(led vw r:Int)<=c.1){r:Nat}:EQ vw r=false:=by
 unfold EQ
 cases e:AF vw.rc r with
 | none=>rfl
 | some c =>
  have:=h r c e
  simp;omega
theorem LP(s1:∀ r c,AF vw.rc r=some c->c.2.Nodup)(s2:∀ r r' c c',r≠r'->AF vw.rc r=some c->AF vw.rc r'=some c'->∀ p∈c.2,p∉c'.2){p:Nat}:decide (1<CG vw p)=false:=by
 have:=QJ (p:=p) s1 s2
 unfold CG
 simp;omega
theorem J9{p:Nat}(h:∀ r c,AF vw.rc r=some c->p∈c.2->(AF vw.pc p).isSome=true):(decide (0<CG vw p) && (AF vw.pc p).isNone)=false:=by
 by_cases h0:0<CG vw p
 ·obtain⟨r,c,hr,hm⟩:=QK h0
  obtain⟨z,hz⟩:=Option.isSome_iff_exists.mp (h r c hr hm)
  simp[hz]
 ·simp[h0]
theorem KA{r:Nat}(h:0<led vw r->AF vw.rm r=some 1):(decide (0<led vw r) && !decide (AF vw.rm r=some 1))=false:=by
 by_cases h0:0<led vw r
 ·simp[h h0]
 ·simp[h0]
theorem KB{p:Nat}(h:∀ r c,AF vw.rc r=some c->p∈c.2->AF vw.pm p=some 1):(decide (0<CG vw p) && !decide (AF vw.pm p=some 1))=false:=by
 by_cases h0:0<CG vw p
 ·obtain⟨r,c,hr,hm⟩:=QK h0
  simp[h r c hr hm]
 ·simp[h0]
end
section
variable{vw:Vw}{lf:List Nat}{zs:List Str}
theorem Clean.lost{k r:Nat}{s:Str}(C:Clean vw lf zs)(hk:vw.nm[k]? =some none)(hs:zs[(BZ vw.nm).length]? =some s)(hz:zs.Nodup)(hr:AF vw.rc r=none)(hrm:r<vw.rm.length):L2.faults { vw with nm:=vw.nm.set k (some (s,r)),rm:=vw.rm.set r (some 1) }=[[.str "lost",.int k]]:=by
 have hkl:=(List.getElem?_eq_some_iff.mp hk).1
 obtain⟨u1,u2⟩:=VT (c:=(s,r)) hk
 have hled:∀ r',led { vw with nm:=vw.nm.set k (some (s,r)),rm:=vw.rm.set r (some 1) } r'=led vw r'+if r=r' then 1 else 0:=u2
 have at':∀ {k':Nat} {d:Str × Nat},AF (vw.nm.set k (some (s,r))) k'=some d->(k'=k/\d=(s,r))\/(k'≠k/\AF vw.nm k'=some d):=λ{k' d} h=>by
  rw[CA hkl]at h
  by_cases e:k'=k
  ·rw[if_pos e]at h;cases h;exact .inl ⟨e,rfl⟩
  ·rw[if_neg e]at h;exact .inr ⟨e,h⟩
 have new:∀ {k':Nat} {d:Str × Nat},AF vw.nm k'=some d->d.1≠s:=λ{k' d} h e=>by
  obtain⟨j,hj,ej⟩:=C.nm k' d h
  rw[e]at ej
  have:=n0 hz ej hs
  omega
 unfold L2.faults FU E9 FV
 have p1:B1 (vw.nm.set k (some (s,r))).length (EI { vw with nm:=vw.nm.set k (some (s,r)),rm:=vw.rm.set r (some 1) }) (λk=>[.str "lost",.int k])=[[.str "lost",.int k]]:=by
  refine J7 (by rw[List.length_set];exact hkl) ?_ λj hj ne=> ?_
  ·unfold EI
   show(match AF (vw.nm.set k (some (s,r))) k with
    | none=>false
    | some c=>(AF vw.rc c.2).isNone)=true
   rw[CA hkl,if_pos rfl]
   show(AF vw.rc r).isNone=true
   rw[hr];rfl
  ·unfold EI
   show(match AF (vw.nm.set k (some (s,r))) j with
    | none=>false
    | some c=>(AF vw.rc c.2).isNone)=false
   rw[CA hkl,if_neg ne]
   cases e:AF vw.nm j with
   | none=>rfl
   | some c =>
    obtain⟨z,hz⟩:=Option.isSome_iff_exists.mp (C.ls j c e)
    simp[hz]
 rw[p1,BS,BS,BS,BS,BS,BS]
 ·rfl
 ·exact λp hp=>KB λr' c h hm=>(C.em r' c h p hm).2
 ·intro r' hr'
  refine KA λhl=> ?_
  rw[hled]at hl
  show AF (vw.rm.set r (some 1)) r'=some 1
  rw[CA hrm]
  split
  ·rfl
  ·rename_i ne
   rw[if_neg (λz=>ne z.symm)]at hl
   exact C.fr r' hl
 ·intro r' _
  refine LN λr2 c h=> ?_
  have h:AF vw.rc r2=some c:=h
  rw[hled,if_neg (λz=>by rw[<-z,hr]at h;cases h)]
  exact C.fw r2 c h
 ·exact λp hp=>J9 λr' c h hm=>(C.em r' c h p hm).1
 ·exact λp hp=>LP C.s1 C.s2
 ·intro k' _
  refine J8 λj c d hlt h1 h2=> ?_
  rcases at' h1 with⟨e1,rfl⟩ | ⟨_,h1⟩
  ·rcases at' h2 with⟨e2,rfl⟩ | ⟨_,h2⟩
   ·omega
   ·exact λe=>new h2 e.symm
  ·rcases at' h2 with⟨e2,rfl⟩ | ⟨_,h2⟩
   ·exact new h1
   ·exact C.ds j k' c d hlt h1 h2
theorem Clean.twice{j k:Nat}{d:Str × Nat}{c:Int × List Nat}(C:Clean vw lf zs)(hk:vw.nm[k]? =some none)(hj:AF vw.nm j=some d)(hc:AF vw.rc d.2=some c):L2.faults { vw with nm:=vw.nm.set k (some d),rc:=vw.rc.set d.2 (some (c.1+1,c.2)) }=[[.str "twice",.int (max j k:Nat)]]:=by
 have hkl:=(List.getElem?_eq_some_iff.mp hk).1
 have hrl:=FE hc
 have hjl:=FE hj
 have njk:j≠k:=λe=>by
  unfold AF at hj
  rw[e,hk]at hj;cases hj
 obtain⟨u1,u2⟩:=VT (c:=d) hk
 have hled:∀ r',led { vw with nm:=vw.nm.set k (some d),rc:=vw.rc.set d.2 (some (c.1+1,c.2)) } r'=led vw r'+if d.2=r' then 1 else 0:=u2
 have lpos:0<led vw d.2:=by
  unfold led BZ
  rw[List.count_pos_iff,List.mem_filterMap]
  exact⟨some d,GP hj,rfl⟩
 have at':∀ {k':Nat} {e:Str × Nat},AF (vw.nm.set k (some d)) k'=some e->(k'=k/\e=d)\/(k'≠k/\AF vw.nm k'=some e):=λ{k' e} h=>by
  rw[CA hkl]at h
  by_cases z:k'=k
  ·rw[if_pos z]at h;cases h;exact .inl ⟨z,rfl⟩
  ·rw[if_neg z]at h;exact .inr ⟨z,h⟩
 have C2:=C.cnt (cnt:=c.1+1) hc (by have:=C.fw d.2 c hc;omega)
 have uniq:∀ {i:Nat} {e:Str × Nat},AF vw.nm i=some e->e.1=d.1->i=j:=λ{i e} h he=>by
  rcases Nat.lt_trichotomy i j with z | z | z
  ·exact absurd he (C.ds i j e d z h hj)
  ·exact z
  ·exact absurd he.symm (C.ds j i d e z hj h)
 unfold L2.faults FU E9 FV
 have p1:B1 (vw.nm.set k (some d)).length (EO { vw with nm:=vw.nm.set k (some d),rc:=vw.rc.set d.2 (some (c.1+1,c.2)) }) (λk=>[.str "twice",.int k])=[[.str "twice",.int (max j k:Nat)]]:=by
  refine J7 (k:=max j k) (by rw[List.length_set];omega) ?_ λi hi ne=>J8 λi' e e' hlt h1 h2=> ?_
  ·unfold EO
   show(match AF (vw.nm.set k (some d)) (max j k)with
    | none=>false
    | some c=>(List.range (max j k)).any λi=>match AF (vw.nm.set k (some d)) i with
     | none=>false
     | some e=>decide (e.1=c.1))=true
   have a1:AF (vw.nm.set k (some d)) (max j k)=some d:=by
    rw[CA hkl]
    split
    ·rfl
    ·rename_i z
     rw[show max j k=j by omega];exact hj
   have a2:AF (vw.nm.set k (some d)) (min j k)=some d:=by
    rw[CA hkl]
    split
    ·rfl
    ·rename_i z
     rw[show min j k=j by omega];exact hj
   simp only[a1]
   rw[List.any_eq_true]
   refine⟨min j k,List.mem_range.mpr (by omega),?_⟩
   simp only[a2]
   simp
  ·rcases at' h1 with⟨e1,z1⟩ | ⟨n1,g1⟩
   ·rcases at' h2 with⟨e2,z2⟩ | ⟨n2,g2⟩
    ·omega
    ·intro z
     have:=uniq g2 (by rw[<-z,z1])
     omega
   ·rcases at' h2 with⟨e2,z2⟩ | ⟨n2,g2⟩
    ·intro z
     have:=uniq g1 (by rw[z,z2])
     omega
    ·exact C.ds i' i e e' hlt g1 g2
 rw[p1,BS,BS,BS,BS,BS,BS]
 ·rfl
 ·exact λp hp=>KB λr' c' h hm=>(C2.em r' c' h p hm).2
 ·intro r' hr'
  refine KA λhl=> ?_
  rw[hled]at hl
  show AF vw.rm r'=some 1
  by_cases e:d.2=r'
  ·exact e ▸ C.fr d.2 lpos
  ·rw[if_neg e]at hl
   exact C.fr r' hl
 ·intro r' _
  refine LN λr2 c' h=> ?_
  have h:AF (vw.rc.set d.2 (some (c.1+1,c.2))) r2=some c':=h
  rw[hled]
  rw[CA hrl]at h
  by_cases e:r2=d.2
  ·rw[if_pos e]at h
   cases h
   rw[if_pos e.symm,e]
   have:=C.fw d.2 c hc
   show((led vw d.2+1:Nat):Int)<=c.1+1
   omega
  ·rw[if_neg e]at h
   rw[if_neg (λz=>e z.symm)]
   exact C.fw r2 c' h
 ·exact λp hp=>J9 λr' c' h hm=>(C2.em r' c' h p hm).1
 ·exact λp hp=>LP C2.s1 C2.s2
 ·intro k' _
  refine LM λk2 e h=> ?_
  rcases at' h with⟨_,rfl⟩ | ⟨_,h⟩
  ·show(AF (vw.rc.set e.2 (some (c.1+1,c.2))) e.2).isSome=true
   rw[CA hrl,if_pos rfl];rfl
  ·exact C2.ls k2 e h
theorem Clean.shared{p r r1:Nat}{c c1:Int × List Nat}(C:Clean vw lf zs)(h1:AF vw.rc r1=some c1)(hp:p∈c1.2)(hr:AF vw.rc r=some c)(hpl:p<vw.pc.length):L2.faults { vw with rc:=vw.rc.set r (some (c.1,c.2++[p])) }=[[.str "shared",.int p]]:=by
 have hrl:=FE hr
 have em:=C.em r1 c1 h1 p hp
 have at':∀ {r':Nat} {d:Int × List Nat},AF (vw.rc.set r (some (c.1,c.2++[p]))) r'=some d->∃ d',AF vw.rc r'=some d'/\d'.1=d.1/\∀ x∈d.2,x∈d'.2\/x=p:=λ{r' d} h=>by
  rw[CA hrl]at h
  by_cases e:r'=r
  ·rw[if_pos e]at h;cases h
   refine⟨c,e ▸ hr,rfl,λx hx=> ?_⟩
   rcases List.mem_append.mp hx with h | h
   ·exact .inl h
   ·exact .inr (List.mem_singleton.mp h)
  ·rw[if_neg e]at h;exact⟨d,h,rfl,λx hx=>.inl hx⟩
 have cnt:∀ (l:List EN) (i:Nat) (q:Nat),l[i]? =some (some c)->(CS (l.set i (some (c.1,c.2++[p])))).count q=(CS l).count q+if p=q then 1 else 0:=by
  intro l
  induction l with
  | nil=>intro i q h;simp at h
  | cons x l ih =>
   intro i q h
   cases i with
   | zero =>
    cases h
    unfold CS
    simp only[List.set_cons_zero,List.flatMap_cons,List.count_append,E8]
    by_cases z:p=q
    ·subst z;simp;omega
    ·simp[z]
   | succ i =>
    have h:l[i]? =some (some c):=by simpa using h
    have:=ih i q h
    unfold CS at this ⊢
    simp only[List.set_cons_succ,List.flatMap_cons,List.count_append]
    omega
 have hri:vw.rc[r]? =some (some c):=by
  unfold AF at hr
  rw[List.getElem?_eq_getElem hrl]at hr ⊢
  have:vw.rc[r]=some c:=hr
  rw[this]
 have nam:∀ q,CG { vw with rc:=vw.rc.set r (some (c.1,c.2++[p])) } q=CG vw q+if p=q then 1 else 0:=λq=>cnt vw.rc r q hri
 have one:∀ q,CG vw q<=1:=λq=>QJ C.s1 C.s2
 have pos:0<CG vw p:=List.count_pos_iff.mpr (NY.mpr ⟨r1,c1,h1,hp⟩)
 unfold L2.faults FU E9 FV
 have p1:B1 vw.pc.length (λq=>decide (1<CG { vw with rc:=vw.rc.set r (some (c.1,c.2++[p])) } q)) (λp=>[.str "shared",.int p])=[[.str "shared",.int p]]:=by
  refine J7 hpl ?_ λj hj ne=> ?_
  ·rw[nam,if_pos rfl];simp;omega
  ·rw[nam,if_neg (λz=>ne z.symm)]
   have:=one j
   simp;omega
 rw[p1,BS,BS,BS,BS,BS,BS]
 ·rfl
 ·intro q hq
  refine KB λr' d h hm=> ?_
  obtain⟨d',g1,_,g3⟩:=at' h
  rcases g3 q hm with z | z
  ·exact(C.em r' d' g1 q z).2
  ·rw[z];exact em.2
 ·exact λr' hr'=>KA λhl=>C.fr r' hl
 ·intro r' _
  refine LN λr2 d h=> ?_
  obtain⟨d',g1,g2,_⟩:=at' h
  rw[<-g2];exact C.fw r2 d' g1
 ·intro q hq
  refine J9 λr' d h hm=> ?_
  obtain⟨d',g1,_,g3⟩:=at' h
  rcases g3 q hm with z | z
  ·exact(C.em r' d' g1 q z).1
  ·rw[z];exact em.1
 ·exact λk _=>J8 λj c' d hlt h1 h2=>C.ds j k c' d hlt h1 h2
 ·intro k _
  refine LM λk2 d h=> ?_
  show(AF (vw.rc.set r (some (c.1,c.2++[p]))) d.2).isSome=true
  rw[CA hrl]
  split
  ·rfl
  ·exact C.ls k2 d h
theorem Clean.empty{p r1:Nat}{c1:Int × List Nat}(C:Clean vw lf zs)(h1:AF vw.rc r1=some c1)(hp:p∈c1.2)(hpl:p<vw.pc.length):L2.faults { vw with pc:=vw.pc.set p none }=[[.str "empty",.int p]]:=by
 have pos:0<CG vw p:=List.count_pos_iff.mpr (NY.mpr ⟨r1,c1,h1,hp⟩)
 unfold L2.faults FU E9 FV
 have p1:B1 (vw.pc.set p none).length (λq=>decide (0<CG { vw with pc:=vw.pc.set p none } q) && (AF (vw.pc.set p none) q).isNone) (λp=>[.str "empty",.int p])=[[.str "empty",.int p]]:=by
  refine J7 (by rw[List.length_set];exact hpl) ?_ λj hj ne=> ?_
  ·show(decide (0<CG vw p) && (AF (vw.pc.set p none) p).isNone)=true
   rw[CA hpl,if_pos rfl,decide_eq_true pos];rfl
  ·refine J9 (vw:={ vw with pc:=vw.pc.set p none }) λr' d h hm=> ?_
   show(AF (vw.pc.set p none) j).isSome=true
   rw[CA hpl,if_neg ne]
   exact(C.em r' d h j hm).1
 rw[p1,BS,BS,BS,BS,BS,BS]
 ·rfl
 ·exact λq hq=>KB λr' d h hm=>(C.em r' d h q hm).2
 ·exact λr' hr'=>KA λhl=>C.fr r' hl
 ·exact λr' _=>LN λr2 d h=>C.fw r2 d h
 ·exact λq hq=>LP C.s1 C.s2
 ·exact λk _=>J8 λj c' d hlt h1 h2=>C.ds j k c' d hlt h1 h2
 ·exact λk _=>LM C.ls
theorem Clean.freeP{p r1:Nat}{c1:Int × List Nat}{x:Option Int}(C:Clean vw lf zs)(h1:AF vw.rc r1=some c1)(hp:p∈c1.2)(hpl:p<vw.pc.length)(hpm:p<vw.pm.length)(hx:x≠some 1):L2.faults { vw with pm:=vw.pm.set p x }=[[.str "free",.str "piece",.int p]]:=by
 have pos:0<CG vw p:=List.count_pos_iff.mpr (NY.mpr ⟨r1,c1,h1,hp⟩)
 unfold L2.faults FU E9 FV
 have p1:B1 vw.pc.length (λq=>decide (0<CG { vw with pm:=vw.pm.set p x } q) && !decide (AF (vw.pm.set p x) q=some 1)) (λp=>[.str "free",.str "piece",.int p])=[[.str "free",.str "piece",.int p]]:=by
  refine J7 hpl ?_ λj hj ne=> ?_
  ·show(decide (0<CG vw p) && !decide (AF (vw.pm.set p x) p=some 1))=true
   rw[CA hpm,if_pos rfl,decide_eq_true pos,decide_eq_false hx];rfl
  ·refine KB (vw:={ vw with pm:=vw.pm.set p x }) λr' d h hm=> ?_
   show AF (vw.pm.set p x) j=some 1
   rw[CA hpm,if_neg ne]
   exact(C.em r' d h j hm).2
 rw[p1,BS,BS,BS,BS,BS,BS]
 ·rfl
 ·exact λr' hr'=>KA λhl=>C.fr r' hl
 ·exact λr' _=>LN λr2 d h=>C.fw r2 d h
 ·exact λq hq=>J9 λr' d h hm=>(C.em r' d h q hm).1
 ·exact λq hq=>LP C.s1 C.s2
 ·exact λk _=>J8 λj c' d hlt h1 h2=>C.ds j k c' d hlt h1 h2
 ·exact λk _=>LM C.ls
theorem Clean.few{r:Nat}{c:Int × List Nat}(C:Clean vw lf zs)(hr:AF vw.rc r=some c)(hl:2<=led vw r):L2.faults { vw with rc:=vw.rc.set r (some (1,c.2)) }=[[.str "few",.int r]]:=by
 have hrl:=FE hr
 have at':∀ {r':Nat} {d:Int × List Nat},AF (vw.rc.set r (some (1,c.2))) r'=some d->∃ d',AF vw.rc r'=some d'/\d'.2=d.2:=λ{r' d} h=>by
  rw[CA hrl]at h
  by_cases e:r'=r
  ·rw[if_pos e]at h;cases h
   exact⟨c,e ▸ hr,rfl⟩
  ·rw[if_neg e]at h;exact⟨d,h,rfl⟩
 unfold L2.faults FU E9 FV
 have p1:B1 (vw.rc.set r (some (1,c.2))).length (EQ { vw with rc:=vw.rc.set r (some (1,c.2)) }) (λr=>[.str "few",.int r])=[[.str "few",.int r]]:=by
  refine J7 (by rw[List.length_set];exact hrl) ?_ λj hj ne=> ?_
  ·unfold EQ
   show(match AF (vw.rc.set r (some (1,c.2))) r with
    | none=>false
    | some d=>decide (d.1<((led vw r:Nat):Int)))=true
   rw[CA hrl,if_pos rfl]
   simp;omega
  ·unfold EQ
   show(match AF (vw.rc.set r (some (1,c.2))) j with
    | none=>false
    | some d=>decide (d.1<((led vw j:Nat):Int)))=false
   rw[CA hrl,if_neg ne]
   cases e:AF vw.rc j with
   | none=>rfl
   | some d =>
    have:=C.fw j d e
    simp;omega
 rw[p1,BS,BS,BS,BS,BS,BS]
 ·rfl
 ·intro q hq
  refine KB λr' d h hm=> ?_
  obtain⟨d',g1,g2⟩:=at' h
  exact(C.em r' d' g1 q (g2 ▸ hm)).2
 ·exact λr' hr'=>KA λhl=>C.fr r' hl
 ·intro q hq
  refine J9 λr' d h hm=> ?_
  obtain⟨d',g1,g2⟩:=at' h
  exact(C.em r' d' g1 q (g2 ▸ hm)).1
 ·intro q hq
  refine LP (λr' d h=> ?_) (λr1 r2 d1 d2 ne h1 h2 x hx=> ?_)
  ·obtain⟨d',g1,g2⟩:=at' h
   exact g2 ▸ C.s1 r' d' g1
  ·obtain⟨e1,g1,g2⟩:=at' h1
   obtain⟨e2,g3,g4⟩:=at' h2
   exact g4 ▸ C.s2 r1 r2 e1 e2 ne g1 g3 x (g2 ▸ hx)
 ·exact λk _=>J8 λj c' d hlt h1 h2=>C.ds j k c' d hlt h1 h2
 ·intro k _
  refine LM λk2 d h=> ?_
  show(AF (vw.rc.set r (some (1,c.2))) d.2).isSome=true
  rw[CA hrl]
  split
  ·rfl
  ·exact C.ls k2 d h
theorem Clean.freeR{r:Nat}{x:Option Int}(C:Clean vw lf zs)(hr:r<vw.rc.length)(hrm:r<vw.rm.length)(hl:0<led vw r)(hx:x≠some 1):L2.faults { vw with rm:=vw.rm.set r x }=[[.str "free",.str "record",.int r]]:=by
 unfold L2.faults FU E9 FV
 have p1:B1 vw.rc.length (λq=>decide (0<led { vw with rm:=vw.rm.set r x } q) && !decide (AF (vw.rm.set r x) q=some 1)) (λr=>[.str "free",.str "record",.int r])=[[.str "free",.str "record",.int r]]:=by
  refine J7 hr ?_ λj hj ne=> ?_
  ·show(decide (0<led vw r) && !decide (AF (vw.rm.set r x) r=some 1))=true
   rw[CA hrm,if_pos rfl,decide_eq_true hl,decide_eq_false hx];rfl
  ·refine KA (vw:={ vw with rm:=vw.rm.set r x }) λh=> ?_
   show AF (vw.rm.set r x) j=some 1
   rw[CA hrm,if_neg ne]
   exact C.fr j h
 rw[p1,BS,BS,BS,BS,BS,BS]
 ·rfl
 ·exact λq hq=>KB λr' d h hm=>(C.em r' d h q hm).2
 ·exact λr' _=>LN λr2 d h=>C.fw r2 d h
 ·exact λq hq=>J9 λr' d h hm=>(C.em r' d h q hm).1
 ·exact λq hq=>LP C.s1 C.s2
 ·exact λk _=>J8 λj c' d hlt h1 h2=>C.ds j k c' d hlt h1 h2
 ·exact λk _=>LM C.ls
end
theorem oH{nm:List GI}{k:Nat}(hk1:k<nm.length)(hk2:(AF nm k).isNone=true):nm[k]? =some none:=by
 unfold AF at hk2
 rw[List.getElem?_eq_getElem hk1]at hk2 ⊢
 have:nm[k].isNone=true:=hk2
 rw[Option.isNone_iff_eq_none.mp this]
theorem KC{α :Type}{l:List α}(h:l≠[]):1<=l.length:=by
 cases l with
 | nil=>exact absurd rfl h
 | cons _ _=>simp
theorem zdk(h:EY K a vs H Q E):UQ K a (λ_=>E) (A6 Q) (A5 ["view","names","xs","free","records","k","r"] vs) H:=by
 obtain⟨A,vw,lf,zs,nl,xl,xs,n,r0,c0,rfl,I,C,N,X,⟨z1,z2,z3⟩,hn36,n1,r1,c1,q1,q2⟩:=h
 have br:=I.ok.br
 push_cast[UQ,↓Mm]
 refine⟨A,vw,lf,rfl,I,λfl H1 hfl s1 efl=> ?_⟩
 have I1:=I.same s1
 push_cast[↓Mp]
 refine I1.at1 ⟨vw.rc.length,I1.len1,by omega,by omega,HN (λr=>(AF vw.rc r).isNone) (small _ (by omega)) (λk hk QB qb=> ?_) λrl hrl=> ?_⟩
 ·push_cast[BI]
  refine I1.ix1 hk λv hv=> ?_
  push_cast[]
  rw[IV hv]
  exact qb
 have s2:=AS (o:=.lst (((List.range vw.rc.length).filter λr=>(AF vw.rc r).isNone).map λ(i:Nat)=>V.int i)) hrl
 have er:upd H1 rl (.lst (((List.range vw.rc.length).filter λr=>(AF vw.rc r).isNone).map λ(i:Nat)=>V.int i)) rl=some (.lst (AU ((List.range vw.rc.length).filter λr=>(AF vw.rc r).isNone))):=AM
 revert s2 er
 generalize upd H1 rl (.lst (((List.range vw.rc.length).filter λr=>(AF vw.rc r).isNone).map λ(i:Nat)=>V.int i))=H2
 intro s2 er
 have s02:=s1.trans s2
 push_cast[↓Mq]
 refine⟨by decide,λe0 he0=> ?_⟩
 have s3:=AS (o:=.lst []) he0
 refine IW ((s2.trans s3) _ _ efl) AM ⟨_,rfl,?_⟩
 have s03:=s02.trans s3
 have er3:=s3 _ _ er
 have efl3:=(s2.trans s3) _ _ efl
 revert s03 er3 efl3
 generalize upd H2 e0 (.lst [])=H3
 intro s03 er3 efl3
 generalize hRL:((List.range vw.rc.length).filter λr=>(AF vw.rc r).isNone)=RL at er3
 by_cases hf:D3 vw=[]
 ·refine B2 (by simp[hf]) ?_
  push_cast[↓gT]
  exact q1 _ s03.sb
 refine BQ (by simp[hf]) ⟨by decide,λe1 he1=> ?_⟩
 have s4:=AS (o:=.lst []) he1
 refine IW (s4 _ _ er3) AM ⟨_,rfl,?_⟩
 have s04:=s03.trans s4
 have er4:=s4 _ _ er3
 have efl4:=s4 _ _ efl3
 revert s04 er4 efl4
 generalize upd H3 e1 (.lst [])=H4
 intro s04 er4 efl4
 by_cases hg:RL=[]
 ·refine B2 (by simp[hg]) ?_
  push_cast[↓gT]
  exact q1 _ s04.sb
 refine BQ (by simp[hg]) ?_
 have I4:=I.same s04
 have X4:=X.sb s04.sb
 have f1:=KC hf
 have g1:=KC hg
 push_cast[↓Mv]
 refine X4.at (k:=1) (by omega) λy _ _=>⟨(D3 vw).length,.inl ⟨_,SqL.of efl4,by rw[B5]⟩,?_⟩
 push_cast[]
 refine⟨by omega,EZ efl4 hf λk hk=> ?_⟩
 obtain⟨hk1,hk2⟩:=DM hk
 have hkn:=oH hk1 hk2
 push_cast[↓Mw]
 refine X4.at (k:=2) (by omega) λy2 _ _=>⟨RL.length,.inl ⟨_,SqL.of er4,by rw[B5]⟩,?_⟩
 push_cast[]
 refine⟨by omega,EZ er4 hg λr hr=> ?_⟩
 rw[<-hRL]at hr
 obtain⟨hr1,hr2⟩:=DM hr
 have hrn:AF vw.rc r=none:=Option.isNone_iff_eq_none.mp hr2
 have ffl:(D3 vw).length+(BZ vw.nm).length=vw.nm.length:=nZ (nm:=vw.nm)
 have eu:=List.getElem?_eq_getElem (l:=zs) (i:=(BZ vw.nm).length) (by rw[N.l];omega)
 push_cast[↓Mx]
 refine I4.at0 ⟨vw.nm.length,I4.len0,(D3 vw).length,.inl ⟨_,SqL.of efl4,by rw[B5]⟩,?_⟩
 rw[show((vw.nm.length:Int) - ((D3 vw).length:Int))=(((BZ vw.nm).length:Nat):Int) by omega]
 refine BV (SqL.of (s04 _ _ N.e)) (n:=(BZ vw.nm).length) rfl (by rw[List.getElem?_map,eu];rfl) ?_
 revert eu
 generalize zs[(BZ vw.nm).length]'(by rw[N.l];omega)=sN
 intro eu
 refine⟨by decide,λp hp=> ?_⟩
 have s5:=AS (o:=.tup [V.str sN,V.int ↑r]) hp
 have e5:upd H4 p (.tup [V.str sN,V.int ↑r]) p=some (.tup [V.str sN,V.int ↑r]):=AM
 revert s5 e5
 generalize upd H4 p (.tup [V.str sN,V.int ↑r])=H5
 intro s5 e5
 have I5:=I4.same s5
 refine I5.at0 (I5.set0 (cc:=some (sN,r)) hk1 ⟨p,rfl,e5⟩ (λc hc=>by cases hc;exact⟨hr1,N.s _ (List.mem_of_getElem? eu)⟩) λH6 I6 sb6 tk6=> ?_)
 push_cast[↓My]
 refine I6.at3 (I6.set3 (cc:=some 1) hr1 rfl (λ_ _=>trivial) λH7 I7 sb7 tk7=> ?_)
 push_cast[↓Mz]
 refine⟨by decide,λt ht=> ?_⟩
 have s8:=AS (o:=.tup [V.str (Str.ofString "lost"),V.int ↑k]) ht
 exact q2 t _ _ lf _ AM (I7.same s8) (C.lost hkn eu N.d hrn (by rw[I.ok.l1];exact hr1)) ⟨by simp only[List.length_set];exact z1,z2,z3⟩ (((s04.trans s5).sb.trans sb6).trans (sb7.trans s8.sb))
theorem zdl(h:EY K a vs H Q E):vs.length=3:=by
 obtain⟨_,_,_,_,_,_,_,_,_,_,rfl,_⟩:=h
 rfl
theorem zdm(h:NK K a vs H Q E):U1 K a (λ_=>E) (A6 Q) (A5 ["view","names","xs","free","numbers","k","j","r"] vs) H:=by
 obtain⟨A,vw,lf,zs,nl,xl,xs,n,r0,c0,rfl,I,C,N,X,⟨z1,z2,z3⟩,hn36,n1,r1,c1,q1,q2⟩:=h
 have bn:=I.ok.bn
 push_cast[U1,↓Qq]
 refine⟨A,vw,lf,rfl,I,λfl H1 hfl s1 efl=> ?_⟩
 have I1:=I.same s1
 push_cast[↓Qv]
 refine I1.at0 ⟨vw.nm.length,I1.len0,by omega,by omega,HN (λr=> !(AF vw.nm r).isNone) (small _ (by omega)) (λk hk QB qb=> ?_) λrl hrl=> ?_⟩
 ·push_cast[BI]
  refine I1.ix0 hk λv hv=> ?_
  push_cast[]
  rw[VP hv]
  exact qb
 have s2:=AS (o:=.lst (((List.range vw.nm.length).filter λr=> !(AF vw.nm r).isNone).map λ(i:Nat)=>V.int i)) hrl
 have er:upd H1 rl (.lst (((List.range vw.nm.length).filter λr=> !(AF vw.nm r).isNone).map λ(i:Nat)=>V.int i)) rl=some (.lst (AU ((List.range vw.nm.length).filter λr=> !(AF vw.nm r).isNone))):=AM
 revert s2 er
 generalize upd H1 rl (.lst (((List.range vw.nm.length).filter λr=> !(AF vw.nm r).isNone).map λ(i:Nat)=>V.int i))=H2
 intro s2 er
 have s02:=s1.trans s2
 have lost:∀ {H':Hp},Same H H'->EY K a [.ref A.v,.ref nl,.ref xl] H' Q E:=λs=>⟨A,vw,lf,zs,nl,xl,xs,n,r0,c0,rfl,I.same s,C,N.sb s.sb,X.sb s.sb,⟨z1,z2,z3⟩,hn36,n1,r1,c1,λH'' sb=>q1 H'' (s.sb.trans sb),λt f vw' lf' H'' e1 e2 e3 e4 sb=>q2 t f vw' lf' H'' e1 e2 e3 e4 (s.sb.trans sb)⟩
 push_cast[↓Qw]
 refine⟨by decide,λe0 he0=> ?_⟩
 have s3:=AS (o:=.lst []) he0
 refine IW ((s2.trans s3) _ _ efl) AM ⟨_,rfl,?_⟩
 have s03:=s02.trans s3
 have er3:=s3 _ _ er
 have efl3:=(s2.trans s3) _ _ efl
 revert s03 er3 efl3
 generalize upd H2 e0 (.lst [])=H3
 intro s03 er3 efl3
 generalize hRL:((List.range vw.nm.length).filter λr=> !(AF vw.nm r).isNone)=RL at er3
 by_cases hf:D3 vw=[]
 ·refine B2 (by simp[hf]) ?_
  push_cast[↓jB]
  exact lost s03
 refine BQ (by simp[hf]) ⟨by decide,λe1 he1=> ?_⟩
 have s4:=AS (o:=.lst []) he1
 refine IW (s4 _ _ er3) AM ⟨_,rfl,?_⟩
 have s04:=s03.trans s4
 have er4:=s4 _ _ er3
 have efl4:=s4 _ _ efl3
 revert s04 er4 efl4
 generalize upd H3 e1 (.lst [])=H4
 intro s04 er4 efl4
 by_cases hg:RL=[]
 ·refine B2 (by simp[hg]) ?_
  push_cast[↓jB]
  exact lost s04
 refine BQ (by simp[hg]) ?_
 have I4:=I.same s04
 have X4:=X.sb s04.sb
 have f1:=KC hf
 have g1:=KC hg
 push_cast[↓Qx]
 refine X4.at (k:=1) (by omega) λy _ _=>⟨(D3 vw).length,.inl ⟨_,SqL.of efl4,by rw[B5]⟩,?_⟩
 push_cast[]
 refine⟨by omega,EZ efl4 hf λk hk=> ?_⟩
 obtain⟨hk1,hk2⟩:=DM hk
 have hkn:=oH hk1 hk2
 push_cast[↓Qy]
 refine X4.at (k:=2) (by omega) λy2 _ _=>⟨RL.length,.inl ⟨_,SqL.of er4,by rw[B5]⟩,?_⟩
 push_cast[]
 refine⟨by omega,EZ er4 hg λj hj=> ?_⟩
 rw[<-hRL]at hj
 obtain⟨hj1,hj2⟩:=DM hj
 obtain⟨d,hd⟩:∃ d,AF vw.nm j=some d:=by
  cases e:AF vw.nm j with
  | none=>rw[e]at hj2;cases hj2
  | some d=>exact⟨d,rfl⟩
 obtain⟨c,hc⟩:=Option.isSome_iff_exists.mp (C.ls j d hd)
 have hr:=FE hc
 push_cast[↓Qz]
 refine I4.ix0 hj1 λv hv=> ?_
 rw[hd]at hv
 obtain⟨pd,rfl,hpd⟩:=hv
 refine BX hpd (n:=1) rfl rfl ?_
 push_cast[↓Rb]
 refine I4.ix0 hj1 λv2 hv2=> ?_
 rw[hd]at hv2
 obtain⟨pd2,rfl,hpd2⟩:=hv2
 refine I4.at0 (I4.set0 (cc:=some d) hk1 ⟨pd2,rfl,hpd2⟩ (λc' hc'=>by cases hc';exact I.ok.n1 d (GP hd)) λH6 I6 sb6 tk6=> ?_)
 push_cast[↓Rc]
 refine I6.ix1 hr λv3 hv3=> ?_
 have hv3:RcV H6 v3 (AF vw.rc d.2):=hv3
 rw[hc]at hv3
 obtain⟨p3,t3,rfl,hp3,ht3⟩:=hv3
 refine BX hp3 (n:=0) rfl rfl ?_
 push_cast[]
 refine I6.ix1 hr λv4 hv4=> ?_
 have hv4:RcV H6 v4 (AF vw.rc d.2):=hv4
 rw[hc]at hv4
 obtain⟨p4,t4,rfl,hp4,ht4⟩:=hv4
 refine BX hp4 (n:=1) rfl rfl ⟨by decide,λnp hnp=> ?_⟩
 have s7:=AS (o:=.tup [V.int (c.1+1),V.ref t4]) hnp
 have e7:upd H6 np (.tup [V.int (c.1+1),V.ref t4]) np=some (.tup [V.int (c.1+1),V.ref t4]):=AM
 revert s7 e7
 generalize upd H6 np (.tup [V.int (c.1+1),V.ref t4])=H7
 intro s7 e7
 have I7:=I6.same s7
 refine I7.at1 (I7.set1 (cc:=some (c.1+1,c.2)) hr ⟨np,t4,rfl,e7,s7 _ _ ht4⟩ (λc' h=>by cases h;exact I.ok.n2 c (GP hc)) λH8 I8 sb8 tk8=> ?_)
 push_cast[↓Rg]
 refine⟨by decide,λt ht=> ?_⟩
 have em:(if((k:Nat):Int) >((j:Nat):Int)then((k:Nat):Int)else((j:Nat):Int))=((max j k:Nat):Int):=by
  split<;>omega
 rw[em]at *
 have s9:=AS (o:=.tup [V.str (Str.ofString "twice"),V.int ↑(max j k)]) ht
 exact q2 t _ _ lf _ AM (I8.same s9) (C.twice hkn hd hc) ⟨by simp only[List.length_set];exact z1,by simp only[List.length_set];exact z2,z3⟩ ((s04.sb.trans sb6).trans ((s7.sb.trans sb8).trans s9.sb))
theorem zdn(h:NK K a vs H Q E):vs.length=3:=by
 obtain⟨_,_,_,_,_,_,_,_,_,_,rfl,_⟩:=h
 rfl
theorem zdo(h:NM K a vs H Q E):U3 K a (λ_=>E) (A6 Q) (A5 ["view","names","xs","led","least","records","r"] vs) H:=by
 obtain⟨A,vw,lf,zs,nl,xl,xs,n,r0,c0,rfl,I,C,N,X,⟨z1,z2,z3⟩,hn36,n1,r1,c1,q1,q2⟩:=h
 have br:=I.ok.br
 push_cast[U3,↓Sh]
 refine⟨A,vw,lf,rfl,I,λll H1 hll s1 ell=> ?_⟩
 have ell:H1 ll=some (.lst (AU ((List.range vw.rc.length).map (led vw)))):=ell
 have lost:∀ {H':Hp},Same H H'->EY K a [.ref A.v,.ref nl,.ref xl] H' Q E:=λs=>⟨A,vw,lf,zs,nl,xl,xs,n,r0,c0,rfl,I.same s,C,N.sb s.sb,X.sb s.sb,⟨z1,z2,z3⟩,hn36,n1,r1,c1,λH'' sb=>q1 H'' (s.sb.trans sb),λt f vw' lf' H'' e1 e2 e3 e4 sb=>q2 t f vw' lf' H'' e1 e2 e3 e4 (s.sb.trans sb)⟩
 have I1:=I.same s1
 have X1:=X.sb s1.sb
 push_cast[↓Sj]
 refine X1.at (k:=0) (by omega) λy _ _=> ?_
 push_cast[]
 obtain⟨m,hm,hm'⟩:∃ m:Nat,(1+(if decide (y % 7=4)=true then 1 else 0):Int)=m/\(m=1\/m=2):=by
  by_cases h4:y % 7=4
  ·exact⟨2,by simp[h4],.inr rfl⟩
  ·exact⟨1,by simp[h4],.inl rfl⟩
 simp only[decide_eq_true_eq]at hm
 rw[hm]
 push_cast[↓Sk]
 refine⟨vw.rc.length,.inl ⟨_,SqL.of ell,by rw[B5,GK]⟩,by omega,by omega,HN (λr=>decide (m<=led vw r)) (small _ (by omega)) (λk hk QB qb=> ?_) λrl hrl=> ?_⟩
 ·push_cast[BI]
  refine GJ ell hk ?_
  push_cast[]
  rw[show decide ((m:Int)<=((led vw k:Nat):Int))=decide (m<=led vw k) by rw[decide_eq_decide];omega]
  exact qb
 have s2:=AS (o:=.lst (((List.range vw.rc.length).filter λr=>decide (m<=led vw r)).map λ(i:Nat)=>V.int i)) hrl
 have er:upd H1 rl (.lst (((List.range vw.rc.length).filter λr=>decide (m<=led vw r)).map λ(i:Nat)=>V.int i)) rl=some (.lst (AU ((List.range vw.rc.length).filter λr=>decide (m<=led vw r)))):=AM
 revert s2 er
 generalize upd H1 rl (.lst (((List.range vw.rc.length).filter λr=>decide (m<=led vw r)).map λ(i:Nat)=>V.int i))=H2
 intro s2 er
 have s02:=s1.trans s2
 push_cast[↓Sm]
 refine⟨by decide,λe0 he0=> ?_⟩
 have s3:=AS (o:=.lst []) he0
 refine IW (s3 _ _ er) AM ⟨_,rfl,?_⟩
 have s03:=s02.trans s3
 have er3:=s3 _ _ er
 revert s03 er3
 generalize upd H2 e0 (.lst [])=H3
 intro s03 er3
 generalize hRL:((List.range vw.rc.length).filter λr=>decide (m<=led vw r))=RL at er3
 by_cases hf:RL=[]
 ·refine B2 (by simp[hf]) ?_
  push_cast[↓Sl]
  exact lost s03
 refine BQ (by simp[hf]) ?_
 have I3:=I.same s03
 have X3:=X.sb s03.sb
 have f1:=KC hf
 push_cast[↓Sq]
 refine X3.at (k:=1) (by omega) λy1 _ _=>⟨RL.length,.inl ⟨_,SqL.of er3,by rw[B5]⟩,?_⟩
 push_cast[]
 refine⟨by omega,EZ er3 hf λr hr=> ?_⟩
 rw[<-hRL]at hr
 obtain⟨hr1,hr2⟩:=DM hr
 have hr2:m<=led vw r:=by simpa using hr2
 push_cast[↓Sx]
 rcases hm' with rfl | rfl
 ·refine BQ (by decide) ?_
  push_cast[↓Sy]
  refine⟨by decide,λkl hkl=> ?_⟩
  have s4:=AS (o:=.lst [V.int 0,V.non]) hkl
  have e4:upd H3 kl (.lst [V.int 0,V.non]) kl=some (.lst [V.int 0,V.non]):=AM
  revert s4 e4
  generalize upd H3 kl (.lst [V.int 0,V.non])=H4
  intro s4 e4
  refine(X3.sb s4.sb).at (k:=2) (by omega) λy2 _ _=> ?_
  push_cast[]
  obtain⟨b,eb,hb⟩:=G5 y2 (n:=2) (by omega)
  rw[show((2:Nat):Int)=2 from rfl]at eb
  rw[eb]
  obtain⟨v,x,ev,hv,hx⟩:∃ (v:V) (x:Option Int),[V.int 0,V.non][b]? =some v/\MkV H4 v x/\x≠some 1:=by
   rcases(by omega:b=0\/b=1)with rfl | rfl
   ·exact⟨_,some 0,rfl,rfl,by decide⟩
   ·exact⟨_,none,rfl,rfl,by decide⟩
  refine BV (SqL.of e4) (n:=b) rfl ev ?_
  have I4:=I3.same s4
  refine I4.at3 (I4.set3 (cc:=x) hr1 hv (λ_ _=>trivial) λH5 I5 sb5 tk5=> ?_)
  push_cast[↓Sz]
  refine⟨by decide,λt ht=> ?_⟩
  have s6:=AS (o:=.tup [V.str (Str.ofString "free"),V.str (Str.ofString "record"),V.int ↑r]) ht
  exact q2 t _ _ lf _ AM (I5.same s6) (C.freeR hr1 (by rw[I.ok.l1];exact hr1) hr2 hx) ⟨z1,z2,z3⟩ (((s03.trans s4).sb.trans sb5).trans s6.sb)
 ·refine B2 (by decide) ?_
  obtain⟨k,d,hk,hd⟩:=NX (vw:=vw) (r:=r) (by omega)
  have hrs:=C.ls k d hk
  rw[hd]at hrs
  obtain⟨c,hc⟩:=Option.isSome_iff_exists.mp hrs
  push_cast[↓Sv]
  refine I3.ix1 hr1 λv hv=> ?_
  rw[hc]at hv
  obtain⟨p,t,rfl,hp,ht⟩:=hv
  refine BX hp (n:=1) rfl rfl ⟨by decide,λnp hnp=> ?_⟩
  have s4:=AS (o:=.tup [V.int 1,V.ref t]) hnp
  have e4:upd H3 np (.tup [V.int 1,V.ref t]) np=some (.tup [V.int 1,V.ref t]):=AM
  revert s4 e4
  generalize upd H3 np (.tup [V.int 1,V.ref t])=H4
  intro s4 e4
  have I4:=I3.same s4
  refine I4.at1 (I4.set1 (cc:=some (1,c.2)) hr1 ⟨np,t,rfl,e4,s4 _ _ ht⟩ (λc' h=>by cases h;exact I.ok.n2 c (GP hc)) λH5 I5 sb5 tk5=> ?_)
  push_cast[↓Sw]
  refine⟨by decide,λt ht=> ?_⟩
  have s6:=AS (o:=.tup [V.str (Str.ofString "few"),V.int ↑r]) ht
  exact q2 t _ _ lf _ AM (I5.same s6) (C.few hc hr2) ⟨z1,by simp only[List.length_set];exact z2,z3⟩ (((s03.trans s4).sb.trans sb5).trans s6.sb)
theorem zdp(h:NM K a vs H Q E):vs.length=3:=by
 obtain⟨_,_,_,_,_,_,_,_,_,_,rfl,_⟩:=h
 rfl
theorem zdq(h:NN K a vs H Q E):VE K a (λ_=>E) (A6 Q) (A5 ["view","names","xs","kind"] vs) H:=by
 obtain⟨A,vw,lf,zs,nl,xl,xs,n,r0,c0,rfl,I,C,N,X,sz,hn36,n1,r1,c1,q⟩:=h
 have go:∀ {H':Hp},Same H H'->K9 K a [.ref A.v,.ref nl,.ref xl] H' Q E:=λs=>⟨A,vw,lf,zs,nl,xl,xs,n,r0,c0,rfl,I.same s,C,N.sb s.sb,X.sb s.sb,sz,hn36,n1,r1,c1,λH'' sb=>q.1 H'' (s.sb.trans sb),λt f vw' lf' H'' e1 e2 e3 e4 sb=>q.2 t f vw' lf' H'' e1 e2 e3 e4 (s.sb.trans sb)⟩
 push_cast[VE,↓Up]
 refine X.at (k:=0) (by omega) λy _ _=> ?_
 push_cast[]
 push_cast[↓Uv]
 by_cases h0:y % 7=0
 ·refine B2 h0 ?_
  push_cast[↓Uq]
  exact go (Same.refl _)
 refine BQ h0 ?_
 push_cast[↓Ux]
 by_cases h1:y % 7=1
 ·refine B2 h1 ?_
  push_cast[↓Uw]
  exact go (Same.refl _)
 refine BQ h1 ?_
 push_cast[↓Uz]
 obtain⟨b,eb,hb⟩:=G5 y (n:=7) (by omega)
 rw[show((7:Nat):Int)=7 from rfl]at eb
 rw[eb]
 refine⟨by decide,λt ht=> ?_⟩
 have s1:=AS (o:=.tup [V.int 2,V.int 3,V.int 6]) ht
 have e1:upd H t (.tup [V.int 2,V.int 3,V.int 6]) t=some (.tup (AU [2,3,6])):=AM
 revert s1 e1
 generalize upd H t (.tup [V.int 2,V.int 3,V.int 6])=H1
 intro s1 e1
 refine zb8 e1 ⟨_,rfl,?_⟩
 by_cases h2:b∈[2,3,6]
 ·refine B2 (decide_eq_true h2) ?_
  push_cast[↓Uy]
  exact go s1
 refine BQ (by simpa using h2) ?_
 push_cast[↓Vb]
 exact go s1
theorem zdr(h:NN K a vs H Q E):vs.length=3:=by
 obtain⟨_,_,_,_,_,_,_,_,_,_,rfl,_⟩:=h
 rfl
theorem zds{t1 t2:Addr}{ps:List Nat}{p:Nat}{Q:VK}(h1:H t1=some (.tup (AU ps)))(h2:H t2=some (.tup [.int p]))(hl:ps.length<=100)(q:∀ t H',Same H H'->H' t=some (.tup (AU (ps++[p])))->Q (.ref t) H'):BE K (.ref t1) (.ref t2) H Q:=by
 rw[aZ]
 by_cases h0:ps=[]
 ·subst h0
  exact .inr (.inr ⟨t1,t2,_,rfl,rfl,SqT.of h1,SqT.of h2,q _ _ (Same.refl _) h2⟩)
 ·refine .inr (.inl ⟨t1,t2,_,_,rfl,rfl,SqT.of h1,SqT.of h2,λz=>h0 (by simpa [AU]using z),small _ (by rw[B5];simp;omega),λz=>(by cases z),λ_ t ht=> ?_⟩)
  refine q t _ (AS ht) ?_
  rw[AM]
  simp[AU]
theorem zdt(h:NL K a vs H Q E):U2 K a (λ_=>E) (A6 Q) (A5 ["view","names","xs","records","pieces","r","p"] vs) H:=by
 obtain⟨A,vw,lf,zs,nl,xl,xs,n,r0,c0,rfl,I,C,N,X,⟨z1,z2,z3⟩,hn36,n1,r1,c1,q1,q2⟩:=h
 have br:=I.ok.br
 have lost:∀ {H':Hp},Same H H'->EY K a [.ref A.v,.ref nl,.ref xl] H' Q E:=λs=>⟨A,vw,lf,zs,nl,xl,xs,n,r0,c0,rfl,I.same s,C,N.sb s.sb,X.sb s.sb,⟨z1,z2,z3⟩,hn36,n1,r1,c1,λH'' sb=>q1 H'' (s.sb.trans sb),λt f vw' lf' H'' e1 e2 e3 e4 sb=>q2 t f vw' lf' H'' e1 e2 e3 e4 (s.sb.trans sb)⟩
 push_cast[U2,↓Rh]
 refine I.at1 ⟨vw.rc.length,I.len1,by omega,by omega,HN (λr=> !(AF vw.rc r).isNone) (small _ (by omega)) (λk hk QB qb=> ?_) λrl hrl=> ?_⟩
 ·push_cast[BI]
  refine I.ix1 hk λv hv=> ?_
  push_cast[]
  rw[IV hv]
  exact qb
 have s1:=AS (o:=.lst (((List.range vw.rc.length).filter λr=> !(AF vw.rc r).isNone).map λ(i:Nat)=>V.int i)) hrl
 have er:upd H rl (.lst (((List.range vw.rc.length).filter λr=> !(AF vw.rc r).isNone).map λ(i:Nat)=>V.int i)) rl=some (.lst (AU ((List.range vw.rc.length).filter λr=> !(AF vw.rc r).isNone))):=AM
 revert s1 er
 generalize upd H rl (.lst (((List.range vw.rc.length).filter λr=> !(AF vw.rc r).isNone).map λ(i:Nat)=>V.int i))=H1
 intro s1 er
 have hRLb:((List.range vw.rc.length).filter λr=> !(AF vw.rc r).isNone).length<=vw.rc.length:=by
  have:=List.length_filter_le (λr=> !(AF vw.rc r).isNone) (List.range vw.rc.length)
  rwa [List.length_range]at this
 have hRLm:∀ {r:Nat},r∈((List.range vw.rc.length).filter λr=> !(AF vw.rc r).isNone)->∃ c,AF vw.rc r=some c:=λ{r} hr=>by
  have:=(DM hr).2
  cases e:AF vw.rc r with
  | none=>rw[e]at this;cases this
  | some c=>exact⟨c,rfl⟩
 have hRLi:∀ {r:Nat} {c:Int × List Nat},AF vw.rc r=some c->r∈((List.range vw.rc.length).filter λr=> !(AF vw.rc r).isNone):=λ{r c} h=>List.mem_filter.mpr ⟨List.mem_range.mpr (FE h),by rw[h];rfl⟩
 revert er hRLb hRLm hRLi
 generalize ((List.range vw.rc.length).filter λr=> !(AF vw.rc r).isNone)=RL
 intro er hRLb hRLm hRLi
 push_cast[↓Rj]
 refine⟨by decide,λpl hpl=> ?_⟩
 have s2:=AS (o:=.lst []) hpl
 have e2:upd H1 pl (.lst []) pl=some (.lst (AU [])):=AM
 revert s2 e2
 generalize upd H1 pl (.lst [])=H2
 intro s2 e2
 have s02:=s1.trans s2
 push_cast[↓Rl]
 refine .inl ⟨⟨_,SqL.of (s2 _ _ er)⟩,JL (xs:=AU RL) (λi σ H'=>(∃ (pl:Addr) (ps:List Nat) (y5:Option V),(Same H1 H'/\H' pl=some (.lst (AU ps)))/\(∀ p∈ps,∃ r c,AF vw.rc r=some c/\p∈c.2)/\ps.length<=3 * i/\σ=[some (.ref A.v),some (.ref nl),some (.ref xl),some (.ref rl),some (.ref pl),y5,none])) ⟨pl,[],none,⟨s2,e2⟩,λp hp=>(by cases hp),Nat.le_refl _,rfl⟩ (λi σ H' _ ⟨_,_,_,⟨s,_⟩,_⟩=>SqL.of (s _ _ er)) (λi x σ H' hx ⟨pl,ps,y5,⟨s,e⟩,hps,hl,eσ⟩=> ?_) (λσ H' ⟨pl,ps,y5,⟨s,e⟩,hps,hl,eσ⟩=> ?_)⟩
 ·subst eσ
  obtain⟨r,hr,rfl⟩:=List.mem_map.mp (List.mem_of_getElem? hx)
  obtain⟨c,hc⟩:=hRLm hr
  have h3:=C.p3 r c hc
  have hi:=(List.getElem?_eq_some_iff.mp hx).1
  rw[B5]at hi
  push_cast[↓Rk]
  refine(I.same (s1.trans s)).ix1 (FE hc) λv hv=> ?_
  rw[hc]at hv
  obtain⟨p,t,rfl,hp,ht⟩:=hv
  refine BX hp (n:=1) rfl rfl ?_
  push_cast[]
  refine⟨_,.inr (SqT.of ht),λl hl'=> ?_⟩
  have s5:=AS (o:=.lst (AU c.2)) hl'
  refine LG (s5 _ _ e) AM (by rw[B5,B5];omega) λl6 H6 hl6 s6 e6=> ?_
  refine⟨(s.trans s5).trans s6,l6,ps++c.2,by rw[e6];simp[AU],λp hp=> ?_,by rw[List.length_append];omega,rfl⟩
  rcases List.mem_append.mp hp with h | h
  ·exact hps p h
  ·exact⟨r,c,hc,h⟩
 subst eσ
 have s03:=s1.trans s
 have er3:=s _ _ er
 push_cast[↓Rp]
 refine⟨by decide,λe0 he0=> ?_⟩
 have s4:=AS (o:=.lst []) he0
 refine IW (s4 _ _ e) AM ⟨_,rfl,?_⟩
 have s04:=s03.trans s4
 have er4:=s4 _ _ er3
 have e4:=s4 _ _ e
 revert s04 er4 e4
 generalize upd H' e0 (.lst [])=H4
 intro s04 er4 e4
 by_cases hf:ps=[]
 ·refine B2 (by simp[hf]) ?_
  push_cast[↓Rm]
  exact lost s04
 refine BQ (by simp[hf]) ?_
 have I4:=I.same s04
 have X4:=X.sb s04.sb
 have f1:=KC hf
 push_cast[↓Rq]
 refine X4.at (k:=1) (by omega) λy1 _ _=>⟨ps.length,.inl ⟨_,SqL.of e4,by rw[B5]⟩,?_⟩
 push_cast[]
 refine⟨by omega,EZ e4 hf λp hp=> ?_⟩
 obtain⟨rp,cp,hcp,hpc⟩:=hps p hp
 have hpl:p<vw.pc.length:=(I.ok.n2 cp (GP hcp)).1 p hpc
 have hg:RL≠[]:=λz=>by
  have:=hRLi hcp
  rw[z]at this;cases this
 have g1:=KC hg
 push_cast[↓Ry]
 refine X4.at (k:=0) (by omega) λy0 _ _=> ?_
 push_cast[]
 by_cases h2:y0 % 7=2
 ·refine B2 h2 ?_
  push_cast[↓Rv]
  refine X4.at (k:=2) (by omega) λy2 _ _=>⟨RL.length,.inl ⟨_,SqL.of er4,by rw[B5]⟩,?_⟩
  push_cast[]
  refine⟨by omega,EZ er4 hg λr hr=> ?_⟩
  obtain⟨c,hc⟩:=hRLm hr
  have hrl:=FE hc
  have h3:=C.p3 r c hc
  push_cast[↓Rw]
  refine I4.ix1 hrl λv hv=> ?_
  rw[hc]at hv
  obtain⟨p1,t1,rfl,hp1,ht1⟩:=hv
  refine BX hp1 (n:=0) rfl rfl ?_
  push_cast[]
  refine I4.ix1 hrl λv2 hv2=> ?_
  rw[hc]at hv2
  obtain⟨p2,t2,rfl,hp2,ht2⟩:=hv2
  refine BX hp2 (n:=1) rfl rfl ⟨by decide,λtp htp=> ?_⟩
  have s5:=AS (o:=.tup [V.int ↑p]) htp
  refine zds (s5 _ _ ht2) AM (by omega) λt6 H6 s6 e6=>⟨by decide,λnp hnp=> ?_⟩
  have s46:=s5.trans s6
  have s7:=AS (o:=.tup [V.int c.1,V.ref t6]) hnp
  have e7:upd H6 np (.tup [V.int c.1,V.ref t6]) np=some (.tup [V.int c.1,V.ref t6]):=AM
  revert s7 e7
  generalize upd H6 np (.tup [V.int c.1,V.ref t6])=H7
  intro s7 e7
  have s07:=(s04.trans s46).trans s7
  have I7:=I.same s07
  refine I7.at1 (I7.set1 (cc:=some (c.1,c.2++[p])) hrl ⟨np,t6,rfl,e7,s7 _ _ e6⟩ (λc' h=>by cases h;exact⟨λp' hp'=>(List.mem_append.mp hp').elim ((I.ok.n2 c (GP hc)).1 p') λz=>by rw[List.mem_singleton.mp z];exact hpl,by simp;omega⟩) λH8 I8 sb8 tk8=> ?_)
  push_cast[↓Rx]
  refine⟨by decide,λt ht=> ?_⟩
  have s9:=AS (o:=.tup [V.str (Str.ofString "shared"),V.int ↑p]) ht
  exact q2 t _ _ lf _ AM (I8.same s9) (C.shared hcp hpc hc hpl) ⟨z1,by simp only[List.length_set];exact z2,z3⟩ ((s07.sb.trans sb8).trans s9.sb)
 refine BQ h2 ?_
 push_cast[↓Sc]
 refine X4.at (k:=0) (by omega) λy0' _ _=> ?_
 push_cast[]
 by_cases h3:y0' % 7=3
 ·refine B2 h3 ?_
  push_cast[↓Rz]
  refine I4.at2 (I4.set2 (cc:=none) hpl rfl (λc h=>by cases h) λH5 I5 sb5 tk5=> ?_)
  push_cast[↓Sb]
  refine⟨by decide,λt ht=> ?_⟩
  have s9:=AS (o:=.tup [V.str (Str.ofString "empty"),V.int ↑p]) ht
  exact q2 t _ _ lf _ AM (I5.same s9) (C.empty hcp hpc hpl) ⟨z1,z2,by simp only[List.length_set];exact z3⟩ ((s04.sb.trans sb5).trans s9.sb)
 refine BQ h3 ?_
 push_cast[↓Sd]
 refine⟨by decide,λkl hkl=> ?_⟩
 have s5:=AS (o:=.lst [V.int 0,V.non]) hkl
 have e5:upd H4 kl (.lst [V.int 0,V.non]) kl=some (.lst [V.int 0,V.non]):=AM
 revert s5 e5
 generalize upd H4 kl (.lst [V.int 0,V.non])=H5
 intro s5 e5
 refine(X4.sb s5.sb).at (k:=2) (by omega) λy2 _ _=> ?_
 push_cast[]
 obtain⟨b,eb,hb⟩:=G5 y2 (n:=2) (by omega)
 rw[show((2:Nat):Int)=2 from rfl]at eb
 rw[eb]
 obtain⟨v,x,ev,hv,hx⟩:∃ (v:V) (x:Option Int),[V.int 0,V.non][b]? =some v/\MkV H5 v x/\x≠some 1:=by
  rcases(by omega:b=0\/b=1)with rfl | rfl
  ·exact⟨_,some 0,rfl,rfl,by decide⟩
  ·exact⟨_,none,rfl,rfl,by decide⟩
 refine BV (SqL.of e5) (n:=b) rfl ev ?_
 have I5:=I4.same s5
 refine I5.at4 (I5.set4 (cc:=x) hpl hv (λ_ _=>trivial) λH6 I6 sb6 tk6=> ?_)
 push_cast[↓Sg]
 refine⟨by decide,λt ht=> ?_⟩
 have s9:=AS (o:=.tup [V.str (Str.ofString "free"),V.str (Str.ofString "piece"),V.int ↑p]) ht
 exact q2 t _ _ lf _ AM (I6.same s9) (C.freeP hcp hpc hpl (by rw[I.ok.l2];exact hpl) hx) ⟨z1,z2,z3⟩ (((s04.trans s5).sb.trans sb6).trans s9.sb)
theorem zdu(h:NL K a vs H Q E):vs.length=3:=by
 obtain⟨_,_,_,_,_,_,_,_,_,_,rfl,_⟩:=h
 rfl
theorem LWAt.fresh{A:LW}{vw:Vw}{lf:List Nat}{x:Addr}(I:LWAt H A vw lf)(h:H x=none):x∉A.L/\x≠A.v:=by
 refine⟨λhm=> ?_,λe=>by rw[e,I.ob]at h;cases h⟩
 simp[LW.L]at hm
 obtain⟨_,k0,_⟩:=I.n
 obtain⟨_,k1,_⟩:=I.r
 obtain⟨_,k2,_⟩:=I.p
 obtain⟨_,k3,_⟩:=I.rm
 obtain⟨_,k4,_⟩:=I.pm
 have k5:=I.l
 rcases hm with rfl | rfl | rfl | rfl | rfl | rfl
 ·rw[h]at k0;cases k0
 ·rw[h]at k1;cases k1
 ·rw[h]at k2;cases k2
 ·rw[h]at k3;cases k3
 ·rw[h]at k4;cases k4
 ·rw[h]at k5;cases k5
theorem FindsL.on{H':Hp}{l:Addr}{fs:List (List V)}(h:FindsL H l fs)(hl:∀ o,H l=some o->H' l=some o)(tk:CP H H'):FindsL H' l fs:=by
 obtain⟨ps,e,P⟩:=h
 exact⟨ps,hl _ e,Paired.mapP P λp f e=>tk _ _ e⟩
theorem zdv(ns:List Int)(lo hi:Option Int):∃ ms:List Int,EJ (ns.map V.int) lo hi=ms.map V.int/\ms.length<=ns.length:=by
 refine⟨(ns.drop (HT.sIx ns.length 0 lo)).take (HT.sIx ns.length ns.length hi - HT.sIx ns.length 0 lo),?_,?_⟩
 ·unfold EJ
  rw[List.length_map,<-List.map_drop,<-List.map_take]
 ·rw[List.length_take,List.length_drop]
  omega
theorem oI(vw:Vw):G1 vw=(D9 vw).map (cA vw):=by
 unfold G1 JP JQ JR D9 B1
 simp only[List.map_append,List.map_map]
 rfl
theorem VX{α :Type}{f:Nat->Option α}{n k:Nat}:AF ((List.range n).map f) k=if k<n then f k else none:=by
 unfold AF
 by_cases h:k<n
 ·rw[if_pos h,List.getElem?_map,List.getElem?_range h]
  rfl
 ·rw[if_neg h,List.getElem?_eq_none (by simp;omega)]
  rfl
theorem QM{α :Type}{l:List (Option α)}{k:Nat}(h:¬ k<l.length):AF l k=none:=by
 unfold AF
 rw[List.getElem?_eq_none (by omega)]
 rfl
section
variable{vw:Vw}
theorem KD(r:Nat):AF (mended vw).rc r=DT vw r:=by
 show AF ((List.range vw.rc.length).map (DT vw)) r=_
 rw[VX]
 split
 ·rfl
 ·rename_i h
  unfold DT
  rw[QM h]
theorem QN(ok:D8 vw)(r:Nat):AF (mended vw).rm r=G3 vw r:=by
 show AF ((List.range vw.rc.length).map (G3 vw)) r=_
 rw[VX]
 split
 ·rfl
 ·rename_i h
  have h2:AF vw.rm r=none:=QM (by rw[ok.l1];exact h)
  unfold G3
  rw[QM h,h2]
  simp
theorem QQ(ok:D8 vw)(p:Nat):AF (mended vw).pm p=HU vw p:=by
 show AF ((List.range vw.pc.length).map (HU vw)) p=_
 rw[VX]
 split
 ·rfl
 ·rename_i h
  have h2:AF vw.pm p=none:=QM (by rw[ok.l2];exact h)
  unfold HU
  rw[h2]
  simp
theorem zdw{k:Nat}{c:Str × Nat}(h:AF vw.nm k=some c):0<led vw c.2:=by
 unfold led BZ
 rw[List.count_pos_iff,List.mem_filterMap]
 exact⟨some c,GP h,rfl⟩
theorem VY{r:Nat}{d:Int × List Nat}(h:DT vw r=some d):∃ c,AF vw.rc r=some c/\0<led vw r/\d=((led vw r:Int),c.2):=by
 unfold DT at h
 cases e:AF vw.rc r with
 | none=>rw[e]at h;cases h
 | some c =>
  rw[e]at h
  by_cases h0:led vw r=0
  ·simp only[h0,if_true]at h;cases h
  ·simp only[h0,if_false,Option.some.injEq]at h
   exact⟨c,rfl,by omega,h.symm⟩
theorem QR{r:Nat}{c:Int × List Nat}(h:AF vw.rc r=some c)(hl:0<led vw r):DT vw r=some ((led vw r:Int),c.2):=by
 unfold DT
 rw[h]
 simp only
 rw[if_neg (by omega)]
theorem zdx{p:Nat}:NC (mended vw) p↔NC vw p:=by
 constructor
 ·intro h r c hl hc hm
  exact h r ((led vw r:Int),c.2) hl (by rw[KD];exact QR hc hl) hm
 ·intro h r d hl hd hm
  rw[KD]at hd
  obtain⟨c,hc,h0,rfl⟩:=VY hd
  exact h r c h0 hc hm
theorem QS(ok:D8 vw):D8 (mended vw):=by
 refine⟨λc h=> ?_,λc h=> ?_,ok.n3,?_,?_,ok.bn,?_,ok.bp⟩
 ·show c.2<((List.range vw.rc.length).map (DT vw)).length/\_
  simp only[List.length_map,List.length_range]
  exact ok.n1 c h
 ·have h:some c∈(List.range vw.rc.length).map (DT vw):=h
  obtain⟨r,_,hr⟩:=List.mem_map.mp h
  obtain⟨d,hd,_,rfl⟩:=VY hr
  exact ok.n2 d (GP hd)
 ·show((List.range vw.rc.length).map (G3 vw)).length=((List.range vw.rc.length).map (DT vw)).length
  simp
 ·show((List.range vw.pc.length).map (HU vw)).length=vw.pc.length
  simp
 ·show((List.range vw.rc.length).map (DT vw)).length<=100
  simp only[List.length_map,List.length_range]
  exact ok.br
theorem Clean.mended{lf:List Nat}{zs:List Str}(C:Clean vw lf zs)(ok:D8 vw):Clean (mended vw) [] zs:=by
 have rcs:∀ {r:Nat} {d:Int × List Nat},AF (L2.mended vw).rc r=some d->∃ c,AF vw.rc r=some c/\0<led vw r/\d=((led vw r:Int),c.2):=λh=>VY (by rw[<-KD];exact h)
 refine⟨C.nm,C.ds,λk c h=> ?_,λr d h=> ?_,λr d h=> ?_,λr r' d d' ne h h' p hp hp'=> ?_,λr d h p hp=> ?_,λr hl=> ?_,List.nodup_nil,λp=>⟨λh=>(by cases h),λ⟨h1,h2⟩=> ?_⟩,λr d h=> ?_⟩
 ·have h:AF vw.nm k=some c:=h
  obtain⟨z,hz⟩:=Option.isSome_iff_exists.mp (C.ls k c h)
  rw[KD,QR hz (zdw h)]
  rfl
 ·obtain⟨c,_,_,rfl⟩:=rcs h
  exact Int.le_refl _
 ·obtain⟨c,hc,_,rfl⟩:=rcs h
  exact C.s1 r c hc
 ·obtain⟨c,hc,_,rfl⟩:=rcs h
  obtain⟨c',hc',_,rfl⟩:=rcs h'
  exact C.s2 r r' c c' ne hc hc' p hp hp'
 ·obtain⟨c,hc,hl,rfl⟩:=rcs h
  have:=C.em r c hc p hp
  refine⟨this.1,?_⟩
  rw[QQ ok]
  unfold HU
  rw[if_neg,this.2]
  intro⟨_,h0⟩
  exact QL.mpr h0 r c hl hc hp
 ·have hl:0<led vw r:=hl
  obtain⟨k,d,hk,hd⟩:=NX hl
  have hrs:=C.ls k d hk
  rw[hd]at hrs
  obtain⟨c,hc⟩:=Option.isSome_iff_exists.mp hrs
  rw[QN ok]
  unfold G3
  rw[hc]
  simp only
  rw[if_neg (by omega)]
  exact C.fr r hl
 ·rw[QQ ok]at h1
  rw[zdx,QL]at h2
  unfold HU at h1
  by_cases h3:AF vw.pm p=some 1/\EH vw p=0
  ·rw[if_pos h3]at h1;cases h1
  ·rw[if_neg h3]at h1
   exact absurd ⟨h1,h2⟩ h3
 ·obtain⟨c,hc,_,rfl⟩:=rcs h
  exact C.p3 r c hc
end
theorem LQ{α β γ :Type}{F: α -> β ->Prop}{G: α -> γ ->Prop}{f: β -> γ}:∀ {l:List α} {m:List β},Paired F l m->(∀ x y,F x y->G x (f y))->Paired G l (m.map f)
 | _,_,.nil,_=>.nil
 | _,_,.cons h t,k=>.cons (k _ _ h) (LQ t k)
theorem LR{α β γ :Type}{F: α -> β ->Prop}{G: α -> γ ->Prop}{f: β -> γ}(k:∀ x y,G x (f y)->F x y):∀ {l:List α} {m:List β},Paired G l (m.map f)->Paired F l m
 | _,[],h=>by cases h;exact .nil
 | _,y::m,h=>by
  cases h with
  | cons h t=>exact .cons (k _ _ h) (LR k t)
theorem NZ{α β :Type}{F: α -> β ->Prop}:∀ {bs:List β} {l:List α} {ds:List β},Paired F l (bs++ds)->∃ x y,l=x++y/\Paired F x bs/\Paired F y ds
 | [],l,ds,h=>⟨[],l,rfl,.nil,h⟩
 | b::bs,l,ds,h=>by
  cases h with
  | cons h t =>
   obtain⟨x,y,rfl,p1,p2⟩:=NZ t
   exact⟨_::x,y,rfl,.cons h p1,p2⟩
theorem PlV.asC{rows:List (List V)}{n r c w:Nat}{vw:Vw}(h:PlV H rows n r c w vw):Paired (CelV H) rows.flatten (D5 vw):=by
 obtain⟨v1,v2,v3,v4,v5,ef,P1,P2,P3,P4,P5⟩:=h.vs
 rw[ef]
 exact J5 (J5 (J5 (J5 (LQ P1 λ_ _ h=>h) (LQ P2 λ_ _ h=>h)) (LQ P3 λ_ _ h=>h)) (LQ P4 λ_ _ h=>h)) (LQ P5 λ_ _ h=>h)
theorem PlV.of{rows:List (List V)}{n r c w:Nat}{vw:Vw}(P:Paired (CelV H) rows.flatten (D5 vw))(z1:vw.nm.length=n * w)(z2:vw.rc.length=r * w)(z3:vw.pc.length=c * w)(ok:D8 vw):PlV H rows n r c w vw:=by
 obtain⟨x4,v5,e5,P,P5⟩:=NZ P
 obtain⟨x3,v4,e4,P,P4⟩:=NZ P
 obtain⟨x2,v3,e3,P,P3⟩:=NZ P
 obtain⟨v1,v2,e2,P1,P2⟩:=NZ P
 exact⟨⟨v1,v2,v3,v4,v5,by rw[e5,e4,e3,e2],LR (G:=CelV H) (f:=Cel.nm) (λ_ _ h=>h) P1,LR (G:=CelV H) (f:=Cel.rc) (λ_ _ h=>h) P2,LR (G:=CelV H) (f:=Cel.pc) (λ_ _ h=>h) P3,LR (G:=CelV H) (f:=Cel.mk) (λ_ _ h=>h) P4,LR (G:=CelV H) (f:=Cel.mk) (λ_ _ h=>h) P5⟩,z1,z2,z3,ok⟩
theorem CelV.keep{H':Hp}(tk:CP H H'){v:V}:∀ {c:Cel},CelV H v c->CelV H' v c
 | .nm _,h=>NmV.keep tk h
 | .rc _,h=>RcV.keep tk h
 | .pc _,h=>PcV.keep tk h
 | .mk _,h=>MkV.keep tk h
theorem N0{α :Type}{l:List (Option α)}{k:Nat}(h:k<l.length):l[k]? =some (AF l k):=by
 unfold AF
 rw[List.getElem?_eq_getElem h]
 rfl
def G7(vw:Vw)(N R P f:Nat):Cel:=if f<N then .nm (AF vw.nm f)else if f<N+R then .rc (AF vw.rc (f - N))else if f<N+R+P then .pc (AF vw.pc (f - N - R))else if f<N+R+P+R then .mk (AF vw.rm (f - N - R - P))else .mk (AF vw.pm (f - N - R - P - R))
theorem zdy(vw:Vw)(ok:D8 vw):(D5 vw).length=vw.nm.length+vw.rc.length+vw.pc.length+vw.rc.length+vw.pc.length:=by
 unfold D5
 simp only[List.length_append,List.length_map,ok.l1,ok.l2]
theorem QT{vw:Vw}(ok:D8 vw){N R P f:Nat}(h1:vw.nm.length=N)(h2:vw.rc.length=R)(h3:vw.pc.length=P)(hf:f<N+R+P+R+P):(D5 vw)[f]? =some (G7 vw N R P f):=by
 have l1:=ok.l1
 have l2:=ok.l2
 unfold D5 G7
 by_cases a1:f<N
 ·rw[if_pos a1,List.getElem?_append_left (by simp;omega),List.getElem?_append_left (by simp;omega),List.getElem?_append_left (by simp;omega),List.getElem?_append_left (by simp;omega),List.getElem?_map,N0 (by omega)]
  rfl
 rw[if_neg a1]
 by_cases a2:f<N+R
 ·rw[if_pos a2,List.getElem?_append_left (by simp;omega),List.getElem?_append_left (by simp;omega),List.getElem?_append_left (by simp;omega),List.getElem?_append_right (by simp;omega),List.getElem?_map,List.length_map,h1,N0 (by omega)]
  rfl
 rw[if_neg a2]
 by_cases a3:f<N+R+P
 ·rw[if_pos a3,List.getElem?_append_left (by simp;omega),List.getElem?_append_left (by simp;omega),List.getElem?_append_right (by simp;omega),List.getElem?_map,List.length_append,List.length_map,List.length_map,h1,h2,Nat.sub_add_eq,N0 (by omega)]
  rfl
 rw[if_neg a3]
 by_cases a4:f<N+R+P+R
 ·rw[if_pos a4,List.getElem?_append_left (by simp;omega),List.getElem?_append_right (by simp;omega),List.getElem?_map]
  simp only[List.length_append,List.length_map,h1,h2,h3,Nat.sub_add_eq]
  rw[N0 (by omega)]
  rfl
 rw[if_neg a4,List.getElem?_append_right (by simp;omega),List.getElem?_map]
 simp only[List.length_append,List.length_map,h1,h2,h3,l1,Nat.sub_add_eq]
 rw[N0 (by omega)]
 rfl
theorem zdz{n:Nat}{p:Nat->Bool}{f:Nat->List V}(h:B1 n p f=[]){k:Nat}(hk:k<n):p k=false:=by
 unfold B1 at h
 have:=List.filter_eq_nil_iff.mp (List.map_eq_nil_iff.mp h) k (List.mem_range.mpr hk)
 simpa using this
theorem zd0{vw:Vw}(h:faults vw=[]){r:Nat}(hr:r<vw.rc.length):EQ vw r=false:=by
 unfold faults E9 at h
 have h1:=(List.append_eq_nil_iff.mp (List.append_eq_nil_iff.mp h).1).2
 exact zdz (List.append_eq_nil_iff.mp h1).2 hr
theorem oJ{vw:Vw}{lv:Lv}(h:lv∈D9 vw):(∃ r,lv=.many r/\r<vw.rc.length/\D4 vw r=true)\/(∃ r,lv=.leftR r/\r<vw.rc.length/\(AF vw.rc r).isSome=true/\led vw r=0)\/(∃ p,lv=.leftP p/\p<vw.pc.length/\AF vw.pm p=some 1/\EH vw p=0)\/∃ r,lv=.marked r/\r<vw.rc.length/\AF vw.rm r=some 1/\AF vw.rc r=none:=by
 unfold D9 at h
 simp only[List.mem_append,List.mem_map,List.mem_filter,List.mem_range,Bool.and_eq_true,decide_eq_true_eq]at h
 rcases h with((⟨r,h,rfl⟩ | ⟨r,h,rfl⟩) | ⟨p,h,rfl⟩) | ⟨r,h,rfl⟩
 ·exact .inl ⟨r,rfl,h.1,h.2⟩
 ·exact .inr (.inl ⟨r,rfl,h.1,h.2.1,h.2.2⟩)
 ·exact .inr (.inr (.inl ⟨p,rfl,h.1,h.2.1,h.2.2⟩))
 ·exact .inr (.inr (.inr ⟨r,rfl,h.1,h.2.1,Option.isNone_iff_eq_none.mp h.2.2⟩))
section
variable{vw:Vw}{n r c w:Nat}
theorem zd1(ok:D8 vw)(z1:vw.nm.length=n * w)(z2:vw.rc.length=r * w)(z3:vw.pc.length=c * w){lv:Lv}(h:lv∈D9 vw){fx:Nat × Cel}(hx:fx∈EA vw n r c w lv):(D5 (mended vw))[fx.1]? =some fx.2:=by
 have ok2:=QS ok
 have g1:(mended vw).nm.length=n * w:=z1
 have g2:(mended vw).rc.length=r * w:=by
  show((List.range vw.rc.length).map (DT vw)).length=_
  simp[z2]
 have g3:(mended vw).pc.length=c * w:=z3
 have get:∀ f,f<n * w+r * w+c * w+r * w+c * w->(D5 (mended vw))[f]? =some (G7 (mended vw) (n * w) (r * w) (c * w) f):=λf hf=>QT ok2 g1 g2 g3 hf
 rcases oJ h with⟨k,rfl,hk,hm⟩ | ⟨k,rfl,hk,hs,hl⟩ | ⟨k,rfl,hk,h1,h2⟩ | ⟨k,rfl,hk,h1,h2⟩
 ·simp only[EA,List.mem_singleton]at hx
  subst hx
  rw[get _ (by simp only;omega)]
  unfold G7
  rw[if_neg (by simp only;omega),if_pos (by simp only;omega),KD,show n * w+k - n * w=k by omega]
 ·obtain⟨d,hd⟩:=Option.isSome_iff_exists.mp hs
  simp only[EA,List.mem_cons,List.not_mem_nil,or_false]at hx
  rcases hx with rfl | rfl
  ·rw[get _ (by simp only;omega)]
   unfold G7
   rw[if_neg (by simp only;omega),if_pos (by simp only;omega),KD,show n * w+k - n * w=k by omega]
   unfold DT
   rw[hd]
   simp[hl]
  ·have e:(n+r+c) * w=n * w+r * w+c * w:=by simp only[Nat.add_mul]
   rw[get _ (by simp only;omega)]
   unfold G7
   rw[if_neg (by simp only;omega),if_neg (by simp only;omega),if_neg (by simp only;omega),if_pos (by simp only;omega),QN ok]
   simp only[e,show n * w+r * w+c * w+k - n * w - r * w - c * w=k by omega]
   unfold G3
   rw[hd]
   simp[hl]
 ·have e:(n+r+c+r) * w=n * w+r * w+c * w+r * w:=by simp only[Nat.add_mul]
  simp only[EA,List.mem_singleton]at hx
  subst hx
  rw[get _ (by simp only;omega)]
  unfold G7
  rw[if_neg (by simp only;omega),if_neg (by simp only;omega),if_neg (by simp only;omega),if_neg (by simp only;omega),QQ ok]
  simp only[e,show n * w+r * w+c * w+r * w+k - n * w - r * w - c * w - r * w=k by omega]
  unfold HU
  rw[if_pos ⟨h1,h2⟩]
 ·have e:(n+r+c) * w=n * w+r * w+c * w:=by simp only[Nat.add_mul]
  simp only[EA,List.mem_singleton]at hx
  subst hx
  rw[get _ (by simp only;omega)]
  unfold G7
  rw[if_neg (by simp only;omega),if_neg (by simp only;omega),if_neg (by simp only;omega),if_pos (by simp only;omega),QN ok]
  simp only[e,show n * w+r * w+c * w+k - n * w - r * w - c * w=k by omega]
  unfold G3
  rw[h2]
  simp[h1]
theorem zd2(ok:D8 vw)(z1:vw.nm.length=n * w)(z2:vw.rc.length=r * w)(z3:vw.pc.length=c * w)(hf0:faults vw=[]){f:Nat}(hf:f<n * w+r * w+c * w+r * w+c * w)(hno:∀ lv∈D9 vw,∀ fx∈EA vw n r c w lv,fx.1≠f):(D5 (mended vw))[f]? =(D5 vw)[f]? :=by
 have ok2:=QS ok
 have g1:(mended vw).nm.length=n * w:=z1
 have g2:(mended vw).rc.length=r * w:=by
  show((List.range vw.rc.length).map (DT vw)).length=_
  simp[z2]
 have g3:(mended vw).pc.length=c * w:=z3
 have e1:(n+r+c) * w=n * w+r * w+c * w:=by simp only[Nat.add_mul]
 have e2:(n+r+c+r) * w=n * w+r * w+c * w+r * w:=by simp only[Nat.add_mul]
 rw[QT ok2 g1 g2 g3 hf,QT ok z1 z2 z3 hf]
 have inL:∀ {lv:Lv},(lv∈D9 vw)->∀ fx∈EA vw n r c w lv,fx.1≠f:=λh=>hno _ h
 unfold G7
 by_cases a1:f<n * w
 ·rw[if_pos a1,if_pos a1]
  rfl
 rw[if_neg a1,if_neg a1]
 by_cases a2:f<n * w+r * w
 ·rw[if_pos a2,if_pos a2,KD]
  generalize hk:f - n * w=k
  have hk':k<vw.rc.length:=by omega
  congr 2
  cases e:AF vw.rc k with
  | none=>unfold DT;rw[e]
  | some d =>
   have h0:0<led vw k:=by
    rcases Nat.eq_zero_or_pos (led vw k)with z | z
    ·refine absurd (by omega) (inL (lv:=.leftR k) ?_ (n * w+k,.rc none) (by simp[EA]))
     unfold D9
     simp only[List.mem_append,List.mem_map,List.mem_filter,List.mem_range,Bool.and_eq_true,decide_eq_true_eq]
     exact .inl (.inl (.inr ⟨k,⟨hk',by rw[e];rfl,z⟩,rfl⟩))
    ·exact z
   have h1:¬ ((led vw k:Int)<d.1):=λz=>by
    refine absurd (by omega) (inL (lv:=.many k) ?_ (n * w+k,.rc (DT vw k)) (by simp[EA]))
    unfold D9
    simp only[List.mem_append,List.mem_map,List.mem_filter,List.mem_range,Bool.and_eq_true,decide_eq_true_eq]
    refine .inl (.inl (.inl ⟨k,⟨hk',?_⟩,rfl⟩))
    unfold D4
    rw[e]
    simp[h0,z]
   have h2:=zd0 hf0 hk'
   unfold EQ at h2
   rw[e]at h2
   simp only[decide_eq_false_iff_not]at h2
   rw[QR e h0]
   have:d.1=(led vw k:Int):=by omega
   rw[<-this]
 rw[if_neg a2,if_neg a2]
 by_cases a3:f<n * w+r * w+c * w
 ·rw[if_pos a3,if_pos a3]
  rfl
 rw[if_neg a3,if_neg a3]
 by_cases a4:f<n * w+r * w+c * w+r * w
 ·rw[if_pos a4,if_pos a4,QN ok]
  generalize hk:f - n * w - r * w - c * w=k
  have hk':k<vw.rc.length:=by omega
  congr 2
  cases e:AF vw.rc k with
  | none =>
   unfold G3
   rw[e]
   simp only
   rw[if_neg]
   intro z
   refine absurd (by simp only;omega) (inL (lv:=.marked k) ?_ ((n+r+c) * w+k,.mk (some 0)) (by simp[EA]))
   unfold D9
   simp only[List.mem_append,List.mem_map,List.mem_filter,List.mem_range,Bool.and_eq_true,decide_eq_true_eq]
   exact .inr ⟨k,⟨hk',z,by rw[e];rfl⟩,rfl⟩
  | some d =>
   unfold G3
   rw[e]
   simp only
   rw[if_neg]
   intro z
   refine absurd (by simp only;omega) (inL (lv:=.leftR k) ?_ ((n+r+c) * w+k,.mk (some 0)) (by simp[EA]))
   unfold D9
   simp only[List.mem_append,List.mem_map,List.mem_filter,List.mem_range,Bool.and_eq_true,decide_eq_true_eq]
   exact .inl (.inl (.inr ⟨k,⟨hk',by rw[e];rfl,z⟩,rfl⟩))
 rw[if_neg a4,if_neg a4,QQ ok]
 generalize hk:f - n * w - r * w - c * w - r * w=k
 have hk':k<vw.pc.length:=by omega
 congr 2
 unfold HU
 rw[if_neg]
 intro⟨z1',z2'⟩
 refine absurd (by simp only;omega) (inL (lv:=.leftP k) ?_ ((n+r+c+r) * w+k,.mk (some 0)) (by simp[EA]))
 unfold D9
 simp only[List.mem_append,List.mem_map,List.mem_filter,List.mem_range,Bool.and_eq_true,decide_eq_true_eq]
 exact .inl (.inr ⟨k,⟨hk',z1',z2'⟩,rfl⟩)
end
def DJ:Cel->PyData
 | .nm none=>.none
 | .nm (some c)=>.tuple [.str c.1,.int c.2]
 | .rc none=>.none
 | .rc (some c)=>.tuple [.int c.1,.tuple (c.2.map λ(k:Nat)=>PyData.int k)]
 | .pc none=>.none
 | .pc (some s)=>.str s
 | .mk none=>.none
 | .mk (some i)=>.int i
theorem zd3(l:List Nat):∀ {n:Nat},Paired (Dat K H n) (AU l) (l.map λ(k:Nat)=>PyData.int k):=by
 intro n
 unfold AU
 induction l with
 | nil=>exact .nil
 | cons x r ih=>exact .cons (.int _) ih
theorem CelV.dat{v:V}:∀ {c:Cel},CelV H v c->c.ok->Dat K H 2 v (DJ c)
 | .nm none,h,_=>by cases (show v=.non from h);exact Dat.non
 | .nm (some c),h,o=>by
  obtain⟨p,rfl,e⟩:=(show ∃ p,v=.ref p/\H p=some (.tup [.str c.1,.int c.2])from h)
  exact Dat.tup (n:=1) (SqT.of e) (.cons (⟨.str c.1,o,Nat.zero_le _⟩:Dat K H 1 (.str c.1) (.str c.1)) (.cons (Dat.int _) .nil))
 | .rc none,h,_=>by cases (show v=.non from h);exact Dat.non
 | .rc (some c),h,_=>by
  obtain⟨p,q,rfl,e,e2⟩:=(show ∃ p q,v=.ref p/\H p=some (.tup [.int c.1,.ref q])/\H q=some (.tup (AU c.2))from h)
  exact Dat.tup (n:=1) (SqT.of e) (.cons (Dat.int _) (.cons (Dat.tup (n:=0) (SqT.of e2) (zd3 c.2)) .nil))
 | .pc none,h,_=>by cases (show v=.non from h);exact Dat.non
 | .pc (some s),h,o=>by
  cases (show v=.str s from h)
  exact⟨.str s,o,Nat.zero_le _⟩
 | .mk none,h,_=>by cases (show v=.non from h);exact Dat.non
 | .mk (some i),h,_=>by cases (show v=.int i from h);exact Dat.int i
theorem oK:∀ (l m:List Nat),PyData.eqvAll (l.map λ(k:Nat)=>PyData.int k) (m.map λ(k:Nat)=>PyData.int k)=decide (l=m)
 | [],[]=>rfl
 | [],_::_=>rfl
 | _::_,[]=>rfl
 | x::l,y::m=>by
  show(((x:Int) ==(y:Int)) && PyData.eqvAll (l.map λ(k:Nat)=>PyData.int k) (m.map λ(k:Nat)=>PyData.int k))=_
  rw[oK l m,Bool.eq_iff_iff]
  simp
  intro _
  omega
theorem zd4:∀ {c c':Cel},c.kind=c'.kind->PyData.eqv (DJ c) (DJ c')=decide (c=c')
 | .nm c,.nm c',_=>by
  cases c with
  | none=>cases c'<;>simp[DJ,PyData.eqv]
  | some c =>
   cases c' with
   | none=>simp[DJ,PyData.eqv]
   | some d =>
    obtain⟨s,k⟩:=c
    obtain⟨s',k'⟩:=d
    rw[Bool.eq_iff_iff]
    simp[DJ,PyData.eqv,PyData.eqvAll]
    intro _
    omega
 | .rc c,.rc c',_=>by
  cases c with
  | none=>cases c'<;>simp[DJ,PyData.eqv]
  | some c =>
   cases c' with
   | none=>simp[DJ,PyData.eqv]
   | some d =>
    obtain⟨s,k⟩:=c
    obtain⟨s',k'⟩:=d
    rw[Bool.eq_iff_iff]
    simp[DJ,PyData.eqv,PyData.eqvAll,oK]
 | .pc c,.pc c',_=>by
  cases c with
  | none=>cases c'<;>simp[DJ,PyData.eqv]
  | some c =>
   cases c' with
   | none=>simp[DJ,PyData.eqv]
   | some d =>
    rw[Bool.eq_iff_iff]
    simp[DJ,PyData.eqv]
 | .mk c,.mk c',_=>by
  cases c with
  | none=>cases c'<;>simp[DJ,PyData.eqv]
  | some c =>
   cases c' with
   | none=>simp[DJ,PyData.eqv]
   | some d =>
    rw[Bool.eq_iff_iff]
    simp[DJ,PyData.eqv]
 | .nm _,.rc _,h=>by cases h
 | .nm _,.pc _,h=>by cases h
 | .nm _,.mk _,h=>by cases h
 | .rc _,.nm _,h=>by cases h
 | .rc _,.pc _,h=>by cases h
 | .rc _,.mk _,h=>by cases h
 | .pc _,.nm _,h=>by cases h
 | .pc _,.rc _,h=>by cases h
 | .pc _,.mk _,h=>by cases h
 | .mk _,.nm _,h=>by cases h
 | .mk _,.rc _,h=>by cases h
 | .mk _,.pc _,h=>by cases h
theorem oM:∀ {cs cs':List Cel},cs.map Cel.kind=cs'.map Cel.kind->PyData.eqvAll (cs.map DJ) (cs'.map DJ)=decide (cs=cs')
 | [],[],_=>rfl
 | [],_::_,h=>by cases h
 | _::_,[],h=>by cases h
 | x::l,y::m,h=>by
  rw[List.map_cons,List.map_cons]at h
  injection h with h1 h2
  show(PyData.eqv (DJ x) (DJ y) && PyData.eqvAll (l.map DJ) (m.map DJ))=_
  rw[zd4 h1,oM h2,Bool.eq_iff_iff]
  simp
theorem oN{xs:List V}{cs:List Cel}(h:Paired (CelV H) xs cs)(ok:∀ c∈cs,c.ok):Paired (Dat K H 2) xs (cs.map DJ):=by
 induction h with
 | nil=>exact .nil
 | cons h t ih=>exact .cons (h.dat (ok _ List.mem_cons_self)) (ih λc hc=>ok c (List.mem_cons_of_mem _ hc))
theorem zd5{p q:Addr}{xs ys:List V}{cs cs':List Cel}(h1:H p=some (.lst xs))(h2:H q=some (.lst ys))(P1:Paired (CelV H) xs cs)(P2:Paired (CelV H) ys cs')(o1:∀ c∈cs,c.ok)(o2:∀ c∈cs',c.ok)(hk:cs.map Cel.kind=cs'.map Cel.kind)(hq:Q (.bl (!decide (cs=cs'))) H):CJ K (.ref p) (.ref q) H Q:=by
 unfold CJ
 rw[if_neg (by simp[DW])]
 have e1:Dat K H 3 (.ref p) _:=Dat.lst (SqL.of h1) (oN P1 o1)
 have e2:Dat K H 3 (.ref q) _:=Dat.lst (SqL.of h2) (oN P2 o2)
 refine⟨_,_,e1.1,e2.1,e1.shp (by omega),e2.shp (by omega),?_⟩
 show Q (.bl (!PyData.eqvAll (cs.map DJ) (cs'.map DJ))) H
 rw[oM hk]
 exact hq
theorem oO{w f g:Nat}(h:pk w f=pk w g):f=g:=by
 unfold pk at h
 injection h with h1 h
 injection h with h2 _
 injection h1 with h1
 injection h2 with h2
 have a1:=Nat.div_add_mod f w
 have a2:=Nat.div_add_mod g w
 rw[show f / w=g / w by omega,show f % w=g % w by omega]at a1
 omega
def VZ(b j:Nat):Int:=reduceHash (Builtin.Tuple.tupleHashOf [hashInt b,hashInt j])
theorem zd6:∀ j,j<6->∀ b,b<31->∀ c,c<31->VZ b j=VZ c j->b=c:=by decide +kernel
theorem zd7{k:List AX}{v:V}:MQ [(k,v)]:=λP w=>by simp
theorem zd8{w f g:Nat}{v u:V}(w6:w<=6)(w1:1<=w)(hf:f / w<31)(hg:g / w<31)(he:f % w=g % w)(ne:f / w≠g / w):MQ [(pk w f,v),(pk w g,u)]:=λP W=>by
 have e:∀ h:Nat,(tupleKind (DN P W)).hash (pk w h)=VZ (h / w) (h % w):=λh=>rfl
 simp only[List.map_cons,List.map_nil,List.nodup_cons,List.mem_singleton,List.not_mem_nil,not_false_eq_true,List.nodup_nil,and_true]
 rw[e,e,he]
 intro z
 exact ne (zd6 (g % w) (Nat.lt_of_lt_of_le (Nat.mod_lt _ w1) w6) _ hf _ hg z)
theorem N1{w b k:Nat}{x:Int}(hw:1<=w)(hx:x=b):([.int (x+(k:Int) / (w:Int)),.int ((k:Int) % (w:Int))]:List V)=(pk w (b * w+k)).map kV:=by
 unfold pk
 have h1:(b * w+k) / w=b+k / w:=by rw[Nat.mul_comm,Nat.mul_add_div (by omega)]
 have h2:(b * w+k) % w=k % w:=by rw[Nat.mul_comm,Nat.mul_add_mod]
 rw[h1,h2,hx]
 simp only[List.map_cons,List.map_nil,kV]
 rw[Int.natCast_add,Int.natCast_ediv,Int.natCast_emod]
theorem zd9{gp cl:Addr}{w m f:Nat}{rows:List (List V)}{cs:List Cel}{x:Cel}(P:PlankAt a H gp cl w rows m)(hw:1<=w)(hc:Paired (CelV H) rows.flatten cs)(hx:cs[f]? =some x)(hb:f / w<rows.length):∃ row v,rows[f / w]? =some row/\row[f % w]? =some v/\CelV H v x:=by
 obtain⟨v,hv,hr⟩:=MP hc hx
 have e:=VR (b:=f / w) (j:=f % w) P.wd hb (Nat.mod_lt _ hw)
 rw[Nat.mul_comm,Nat.div_add_mod,hv]at e
 cases er:rows[f / w]? with
 | none=>rw[er]at e;cases e
 | some row =>
  rw[er]at e
  exact⟨row,v,rfl,e.symm,hr⟩
theorem zea(h:NO K a vs H Q E):LD K a (λ_=>E) (A6 Q) (A5 ["layout","plank","find","place"] vs) H:=by
 obtain⟨ly,gp,cl,fd,n,r,c,w,rows,m,vw,lv,rfl,S,hlv,hfd,q⟩:=h
 obtain⟨dl,hly⟩:=S.la.ob
 have w1:=S.w1
 have z1:=S.pv.ln
 have z2:=S.pv.lr
 have z3:=S.pv.lp
 have n6:=S.n6
 have r6:=S.r6
 have c6:=S.c6
 have q1:∀ {p t:Addr} {f:Nat} {x:Cel} {v:V} {H2:Hp},H p=none->Same H H2->H2 p=some (.dT [])->H2 t=some (.tup ((pk w f).map kV))->CelV H2 v x->EA vw n r c w lv=[(f,x)]->H2 p=some (.dT [])/\∃ kvs:List (List AX × V),PP H2 [(.ref t,v)] kvs/\kvs.length<=15/\Q (.ref p) (upd H2 p (.dT (DS [] kvs))):=λ{p t f x v H2} hp s e et hv ef=>by
  refine⟨e,[(pk w f,v)],.cons ⟨⟨t,rfl,et⟩,rfl⟩ .nil,by simp,?_⟩
  have tk:CP H2 (upd H2 p (.dT (DS [] [(pk w f,v)]))):=λy ys ey=>by rw[AQ (DA ey e (λz=>nomatch z))];exact ey
  refine q p [(pk w f,v)] _ hp (λy o ey=>by rw[AQ (BT ey hp)];exact s _ _ ey) AM ?_ zd7
  rw[ef]
  exact .cons ⟨rfl,CelV.keep tk hv⟩ .nil
 rcases oJ hlv with⟨k,rfl,hk,hm⟩ | ⟨k,rfl,hk,hsm,hl⟩ | ⟨k,rfl,hk,h1,h2⟩ | ⟨k,rfl,hk,h1,h2⟩
 ·have hfd:H fd=some (.tup [.str (Str.ofString "many"),.int k,.int (led vw k)]):=hfd
  obtain⟨d,hd⟩:∃ d,AF vw.rc k=some d:=by
   unfold D4 at hm
   cases e:AF vw.rc k with
   | none=>rw[e]at hm;cases hm
   | some d=>exact⟨d,rfl⟩
  have hl:0<led vw k:=by
   unfold D4 at hm
   rw[hd]at hm
   simp at hm
   exact hm.1
  push_cast[LD,↓P9]
  refine BX hfd (n:=0) rfl rfl ?_
  push_cast[]
  push_cast[↓Nh]
  refine⟨_,_,hly,DY (by decide +kernel),BX hfd (n:=1) rfl rfl ⟨ly,n,r,c,w,k,rfl,S.tl,S.la,λt ht=> ?_⟩⟩
  have s1:=AS (o:=.tup [.int ((n:Int)+(k:Int) / (w:Int)),.int ((k:Int) % (w:Int))]) ht
  have e1:upd H t (.tup [.int ((n:Int)+(k:Int) / (w:Int)),.int ((k:Int) % (w:Int))]) t=some (.tup [.int ((n:Int)+(k:Int) / (w:Int)),.int ((k:Int) % (w:Int))]):=AM
  revert s1 e1
  generalize upd H t (.tup [.int ((n:Int)+(k:Int) / (w:Int)),.int ((k:Int) % (w:Int))])=H1
  intro s1 e1
  push_cast[↓Nj]
  intro p hp
  have s2:=AS (o:=.dT []) hp
  have e2:upd H1 p (.dT []) p=some (.dT []):=AM
  revert s2 e2
  generalize upd H1 p (.dT [])=H2
  intro s2 e2
  have s02:=s1.trans s2
  have P2:=S.pl.same s02
  obtain⟨dp,hob⟩:=P2.ob
  have f1:(n * w+k) / w=n+k / w:=by rw[Nat.mul_comm,Nat.mul_add_div (by omega)]
  have f2:(n * w+k) % w=k % w:=by rw[Nat.mul_comm,Nat.mul_add_mod]
  have hkw:k / w<r:=by
   rw[Nat.div_lt_iff_lt_mul (by omega)]
   omega
  obtain⟨row,v,er,ev,hv⟩:=zd9 (f:=n * w+k) (x:=.rc (AF vw.rc k)) P2 w1 (S.pv.same s02.tk).asC (by
   rw[QT S.pv.ok z1 z2 z3 (by omega)]
   unfold G7
   rw[if_neg (by omega),if_pos (by omega),show n * w+k - n * w=k by omega]) (by rw[S.rl];omega)
  rw[f1]at er
  rw[f2]at ev
  have hv:RcV H2 v (AF vw.rc k):=hv
  rw[hd]at hv
  obtain⟨pv,tv,rfl,hpv,htv⟩:=hv
  refine BX ((s1.trans s2) _ _ hfd) (n:=2) rfl rfl ⟨_,_,hob,QC _ _ _,BX (s2 _ _ e1) (n:=0) rfl rfl ⟨gp,cl,w,rows,m,_,rfl,S.tp,P2,λi row' eb er' l hnl=> ?_,λz=> ?_⟩⟩
  ·have ei:i=n+k / w:=by
    have:((n+k / w:Nat):Int)=(n:Int)+(k:Int) / (w:Int):=by rw[Int.natCast_add,Int.natCast_ediv]
    omega
   subst ei
   rw[er]at er'
   cases er'
   have s3:=AS (o:=.lst row) hnl
   have e3:upd H2 l (.lst row) l=some (.lst row):=AM
   revert s3 e3
   generalize upd H2 l (.lst row)=H3
   intro s3 e3
   refine BX (s3 _ _ (s2 _ _ e1)) (n:=1) rfl rfl (BV (SqL.of e3) (n:=k % w) (by rw[Int.natCast_emod]) ev (BX (s3 _ _ hpv) (n:=1) rfl rfl ⟨by decide,λp1 hp1=> ?_⟩))
   have s4:=AS (o:=.tup [V.int ↑(led vw k),V.ref tv]) hp1
   have s24:=s3.trans s4
   refine q1 (f:=n * w+k) (x:=.rc (DT vw k)) (s1.free hp) (s02.trans s24) (s24 _ _ e2) ?_ ?_ rfl
   ·rw[<-N1 (x:=(n:Int)) w1 rfl]
    exact s24 _ _ (s2 _ _ e1)
   ·show RcV _ _ (DT vw k)
    rw[QR hd hl]
    exact⟨p1,tv,rfl,AM,s24 _ _ htv⟩
  ·exfalso
   have:((n+k / w:Nat):Int)=(n:Int)+(k:Int) / (w:Int):=by rw[Int.natCast_add,Int.natCast_ediv]
   have rl:=S.rl
   rw[<-this]at z
   rcases z with z | z
   ·exact absurd z (Int.not_lt.mpr (Int.natCast_nonneg _))
   ·have z:rows.length<=n+k / w:=Int.ofNat_le.mp z
    omega
 ·have hfd:H fd=some (.tup [.str (Str.ofString "left"),.str (Str.ofString "record"),.int k]):=hfd
  push_cast[LD,↓P9]
  refine BX hfd (n:=0) rfl rfl ?_
  push_cast[]
  refine BQ (by decide +kernel) ?_
  push_cast[↓UU]
  refine BX hfd (n:=0) rfl rfl ?_
  push_cast[]
  refine BQ (by decide +kernel) ?_
  push_cast[↓hX]
  refine BX hfd (n:=1) rfl rfl ?_
  push_cast[]
  push_cast[↓Nl]
  intro p hp
  have s2:=AS (o:=.dT []) hp
  have e2:upd H p (.dT []) p=some (.dT []):=AM
  revert s2 e2
  generalize upd H p (.dT [])=H2
  intro s2 e2
  refine⟨_,_,s2 _ _ hly,DY (by decide +kernel),BX (s2 _ _ hfd) (n:=2) rfl rfl ⟨ly,n,r,c,w,k,rfl,S.tl,S.la.same s2,λt ht=> ?_⟩⟩
  have s3:=AS (o:=.tup [.int ((n:Int)+(k:Int) / (w:Int)),.int ((k:Int) % (w:Int))]) ht
  have e3:upd H2 t (.tup [.int ((n:Int)+(k:Int) / (w:Int)),.int ((k:Int) % (w:Int))]) t=some (.tup ((pk w (n * w+k)).map kV)):=by rw[AM,N1 (x:=(n:Int)) w1 rfl]
  revert s3 e3
  generalize upd H2 t (.tup [.int ((n:Int)+(k:Int) / (w:Int)),.int ((k:Int) % (w:Int))])=H3
  intro s3 e3
  have s03:=s2.trans s3
  refine⟨_,_,s03 _ _ hly,DY (by decide +kernel),BX (s03 _ _ hfd) (n:=2) rfl rfl ⟨ly,n,r,c,w,k,rfl,S.tl,S.la.same s03,λt2 ht2=> ?_⟩⟩
  have s4:=AS (o:=.tup [.int ((n:Int)+r+c+(k:Int) / (w:Int)),.int ((k:Int) % (w:Int))]) ht2
  have e4:upd H3 t2 (.tup [.int ((n:Int)+r+c+(k:Int) / (w:Int)),.int ((k:Int) % (w:Int))]) t2=some (.tup ((pk w ((n+r+c) * w+k)).map kV)):=by rw[AM,N1 (x:=(n:Int)+r+c) (b:=n+r+c) w1 (by omega)]
  revert s4 e4
  generalize upd H3 t2 (.tup [.int ((n:Int)+r+c+(k:Int) / (w:Int)),.int ((k:Int) % (w:Int))])=H4
  intro s4 e4
  have s24:=s3.trans s4
  have e2':=s24 _ _ e2
  have f1:(n * w+k) / w=n+k / w:=by rw[Nat.mul_comm,Nat.mul_add_div (by omega)]
  have f2:(n * w+k) % w=k % w:=by rw[Nat.mul_comm,Nat.mul_add_mod]
  have g1:((n+r+c) * w+k) / w=n+r+c+k / w:=by rw[Nat.mul_comm,Nat.mul_add_div (by omega)]
  have g2:((n+r+c) * w+k) % w=k % w:=by rw[Nat.mul_comm,Nat.mul_add_mod]
  have hkw:k / w<r:=by
   rw[Nat.div_lt_iff_lt_mul (by omega)]
   omega
  generalize hkd:k / w=kd at f1 g1 hkw
  have ap:∀ {v u:V},MQ [(pk w (n * w+k),v),(pk w ((n+r+c) * w+k),u)]:=zd8 S.w6 w1 (by rw[f1];omega) (by rw[g1];omega) (by rw[f2,g2]) (by rw[f1,g1];omega)
  have mg:DS [] [(pk w (n * w+k),V.non),(pk w ((n+r+c) * w+k),.int 0)]=[(pk w (n * w+k),V.non),(pk w ((n+r+c) * w+k),.int 0)]:=SV _ [] (by
   simp only[List.nil_append,List.map_cons,List.map_nil,List.nodup_cons,List.mem_singleton,List.not_mem_nil,not_false_eq_true,List.nodup_nil,and_true]
   intro z
   have:=oO z
   have e9:(n * w+k) / w=((n+r+c) * w+k) / w:=by rw[this]
   rw[f1,g1]at e9
   omega)
  refine⟨e2',[(pk w (n * w+k),V.non),(pk w ((n+r+c) * w+k),.int 0)],.cons ⟨⟨t,rfl,s4 _ _ e3⟩,rfl⟩ (.cons ⟨⟨t2,rfl,e4⟩,rfl⟩ .nil),by simp,?_⟩
  rw[mg]
  refine q p _ _ hp (λy o ey=>by rw[AQ (BT ey hp)];exact(s2.trans s24) _ _ ey) AM (.cons ⟨rfl,rfl⟩ (.cons ⟨rfl,rfl⟩ .nil)) ap
 ·have hfd:H fd=some (.tup [.str (Str.ofString "left"),.str (Str.ofString "piece"),.int k]):=hfd
  push_cast[LD,↓P9]
  refine BX hfd (n:=0) rfl rfl ?_
  push_cast[]
  refine BQ (by decide +kernel) ?_
  push_cast[↓UU]
  refine BX hfd (n:=0) rfl rfl ?_
  push_cast[]
  refine BQ (by decide +kernel) ?_
  push_cast[↓hX]
  refine BX hfd (n:=1) rfl rfl ?_
  push_cast[]
  refine BQ (by decide +kernel) ?_
  push_cast[↓Nm]
  intro p hp
  have s2:=AS (o:=.dT []) hp
  have e2:upd H p (.dT []) p=some (.dT []):=AM
  revert s2 e2
  generalize upd H p (.dT [])=H2
  intro s2 e2
  refine⟨_,_,s2 _ _ hly,DY (by decide +kernel),BX (s2 _ _ hfd) (n:=2) rfl rfl ⟨ly,n,r,c,w,k,rfl,S.tl,S.la.same s2,λt ht=> ?_⟩⟩
  have s3:=AS (o:=.tup [.int ((n:Int)+r+c+r+(k:Int) / (w:Int)),.int ((k:Int) % (w:Int))]) ht
  have e3:upd H2 t (.tup [.int ((n:Int)+r+c+r+(k:Int) / (w:Int)),.int ((k:Int) % (w:Int))]) t=some (.tup ((pk w ((n+r+c+r) * w+k)).map kV)):=by rw[AM,N1 (x:=(n:Int)+r+c+r) (b:=n+r+c+r) w1 (by omega)]
  exact q1 (f:=(n+r+c+r) * w+k) (x:=.mk (some 0)) hp (s2.trans s3) (s3 _ _ e2) e3 rfl rfl
 ·have hfd:H fd=some (.tup [.str (Str.ofString "marked"),.int k]):=hfd
  push_cast[LD,↓P9]
  refine BX hfd (n:=0) rfl rfl ?_
  push_cast[]
  refine BQ (by decide +kernel) ?_
  push_cast[↓UU]
  refine BX hfd (n:=0) rfl rfl ?_
  push_cast[]
  push_cast[↓Nk]
  intro p hp
  have s2:=AS (o:=.dT []) hp
  have e2:upd H p (.dT []) p=some (.dT []):=AM
  revert s2 e2
  generalize upd H p (.dT [])=H2
  intro s2 e2
  refine⟨_,_,s2 _ _ hly,DY (by decide +kernel),BX (s2 _ _ hfd) (n:=1) rfl rfl ⟨ly,n,r,c,w,k,rfl,S.tl,S.la.same s2,λt ht=> ?_⟩⟩
  have s3:=AS (o:=.tup [.int ((n:Int)+r+c+(k:Int) / (w:Int)),.int ((k:Int) % (w:Int))]) ht
  have e3:upd H2 t (.tup [.int ((n:Int)+r+c+(k:Int) / (w:Int)),.int ((k:Int) % (w:Int))]) t=some (.tup ((pk w ((n+r+c) * w+k)).map kV)):=by rw[AM,N1 (x:=(n:Int)+r+c) (b:=n+r+c) w1 (by omega)]
  exact q1 (f:=(n+r+c) * w+k) (x:=.mk (some 0)) hp (s2.trans s3) (s3 _ _ e2) e3 rfl rfl
theorem zeb(h:NO K a vs H Q E):vs.length=3:=by
 obtain⟨_,_,_,_,_,_,_,_,_,_,_,_,rfl,_⟩:=h
 rfl
theorem oP{α β :Type}{F: α -> β ->Prop}:∀ {l:List α} {m:List β} (k:Nat),Paired F l m->Paired F (l.take k) (m.take k)
 | _,_,0,_=>by rw[List.take_zero,List.take_zero];exact .nil
 | _,_,_+1,.nil=>.nil
 | _,_,k+1,.cons h t=>.cons h (oP k t)
theorem oQ{α β :Type}{F: α -> β ->Prop}:∀ {l:List α} {m:List β} (k:Nat),Paired F l m->Paired F (l.drop k) (m.drop k)
 | _,_,0,h=>h
 | _,_,_+1,.nil=>.nil
 | _,_,k+1,.cons h t=>oQ k t
theorem oR{w b:Nat}{cs:List Cel}:CW w cs (b+1)=CW w (cs.drop w) b:=by
 unfold CW
 rw[List.drop_drop,Nat.succ_mul,Nat.add_comm]
theorem oS{w:Nat}:∀ {rows:List (List V)} {cs:List Cel},(∀ r∈rows,r.length=w)->Paired (CelV H) rows.flatten cs->∀ {b:Nat} {row:List V},rows[b]? =some row->Paired (CelV H) row (CW w cs b)
 | [],_,_,_,_,_,e=>by simp at e
 | r0::rs,cs,hw,P,0,row,e=>by
  cases e
  have h0:=hw r0 List.mem_cons_self
  have:=oP w P
  rw[List.flatten_cons,<-h0,List.take_left]at this
  unfold CW
  rw[Nat.zero_mul,List.drop_zero,<-h0]
  exact this
 | r0::rs,cs,hw,P,b+1,row,e=>by
  have h0:=hw r0 List.mem_cons_self
  have:=oQ w P
  rw[List.flatten_cons,<-h0,List.drop_left,h0]at this
  rw[oR]
  exact oS (λr hr=>hw r (List.mem_cons_of_mem _ hr)) this e
theorem oU{w:Nat}:∀ {rows:List (List V)} {cs:List Cel},cs.length=rows.length * w->(∀ {b:Nat} {row:List V},rows[b]? =some row->Paired (CelV H) row (CW w cs b))->Paired (CelV H) rows.flatten cs
 | [],cs,hl,_=>by
  rw[List.length_nil,Nat.zero_mul]at hl
  rw[List.length_eq_zero_iff.mp hl]
  exact .nil
 | r0::rs,cs,hl,h=>by
  rw[List.length_cons,Nat.succ_mul]at hl
  have h0:Paired (CelV H) r0 (CW w cs 0):=h (b:=0) rfl
  unfold CW at h0
  rw[Nat.zero_mul,List.drop_zero]at h0
  have ih:=oU (w:=w) (rows:=rs) (cs:=cs.drop w) (by rw[List.length_drop];omega) λ{b row} e=>by
   rw[<-oR]
   exact h (b:=b+1) e
  have:=J5 h0 ih
  rw[List.take_append_drop]at this
  exact this
theorem oV{w:Nat}:∀ {rows:List (List V)},(∀ r∈rows,r.length=w)->rows.flatten.length=rows.length * w
 | [],_=>by simp
 | r::rs,h=>by
  rw[List.flatten_cons,List.length_append,oV λx hx=>h x (List.mem_cons_of_mem _ hx),h r List.mem_cons_self,List.length_cons,Nat.succ_mul]
  omega
theorem V0(cl:Addr)(w n:Int):(pf cl w n).lookup ("blocks":Str)=none:=MR _ _ _ (by decide +kernel) (by decide +kernel) (by decide +kernel)
theorem oW{w b j:Nat}{cs:List Cel}(hj:j<w):(CW w cs b)[j]? =cs[b * w+j]? :=by
 unfold CW
 rw[List.getElem?_take,if_pos hj,List.getElem?_drop]
theorem zec{w b:Nat}{cs cs':List Cel}(h:cs'.map Cel.kind=cs.map Cel.kind):(CW w cs' b).map Cel.kind=(CW w cs b).map Cel.kind:=by
 unfold CW
 rw[List.map_take,List.map_drop,List.map_take,List.map_drop,h]
theorem oX{w b:Nat}{cs:List Cel}{c:Cel}(h:c∈CW w cs b):c∈cs:=List.mem_of_mem_drop (List.mem_of_mem_take h)
theorem oY{w i:Nat}{cs cs':List Cel}:LB w (i+1) cs cs'=LB w i cs cs'+if CW w cs i=CW w cs' i then 0 else 1:=by
 unfold LB
 rw[List.range_succ,List.filter_append,List.length_append]
 congr 1
 by_cases h:CW w cs i=CW w cs' i
 ·simp[h]
 ·simp[h]
theorem zed{w b j:Nat}(hj:j<w):([.int (b:Int),.int (j:Int)]:List V)=(pk w (b * w+j)).map kV:=by
 unfold pk
 have h1:(b * w+j) / w=b:=by rw[Nat.mul_comm,Nat.mul_add_div (by omega),Nat.div_eq_of_lt hj,Nat.add_zero]
 have h2:(b * w+j) % w=j:=by rw[Nat.mul_comm,Nat.mul_add_mod,Nat.mod_eq_of_lt hj]
 rw[h1,h2]
 rfl
structure oZ(a:Ad)(gp cl:Addr)(w m M:Nat)(cs cs':List Cel)(H:Hp)(i:Nat)(rs:List (List V))(H':Hp):Prop where
 p:PlankAt a H' gp cl w rs (m+LB w i cs cs')
 l:rs.length=M
 c:∀ {b:Nat} {row:List V},rs[b]? =some row->Paired (CelV H') row (if b<i then CW w cs' b else CW w cs b)
 s:SameBut (λx=>x=gp\/x=cl) H H'
theorem zee(h:NP K a vs H Q E):UV K a (λ_=>E) (A6 Q) (A5 ["plank","due","block","before","after"] vs) H:=by
 obtain⟨gp,cl,dl,w,rows,m,kvs,cs,cs',rfl,TP,P,hM,w1,w6,hdl,PC,hk,o1,o2,hc,q⟩:=h
 obtain⟨dp,hob⟩:=P.ob
 obtain⟨tc,hcl,_⟩:=P.ls
 have hcl':cs.length=rows.length * w:=by
  rw[<-PC.length]
  exact oV P.wd
 have hcl2:cs'.length=cs.length:=by
  have:=congrArg List.length hk
  simpa using this
 have ndl:dl≠gp/\dl≠cl:=⟨DA hdl hob (λz=>nomatch z),DA hdl hcl (λz=>nomatch z)⟩
 push_cast[UV,↓Ny]
 refine⟨_,_,hob,V0 _ _ _,gp,cl,w,rows,m,rfl,TP,P,?_⟩
 push_cast[]
 refine⟨by omega,by omega,MO (λi σ H'=>(∃ rs,oZ a gp cl w m rows.length cs cs' H i rs H')/\∃ y2 y3 y4,σ=[some (.ref gp),some (.ref dl),y2,y3,y4]) ⟨⟨rows,⟨P,rfl,λe=>by rw[if_neg (Nat.not_lt_zero _)];exact oS P.wd PC e,SameBut.refl _⟩⟩,_,_,_,rfl⟩ (λi σ H1 hi ⟨⟨rs,J⟩,y2,y3,y4,eσ⟩=> ?_) (λσ H1 ⟨⟨rs,J⟩,y2,y3,y4,eσ⟩=> ?_)⟩
 ·subst eσ
  obtain⟨dp1,hob1⟩:=J.p.ob
  obtain⟨tc1,hcl1,_⟩:=J.p.ls
  have hdl1:=J.s _ _ hdl λz=>z.elim ndl.1 ndl.2
  have tk1:CP H H1:=λy ys e=>J.s _ _ e λz=>by
   rcases z with z | z
   ·rw[z,hob]at e;cases e
   ·rw[z,hcl]at e;cases e
  have er:=List.getElem?_eq_getElem (l:=rs) (i:=i) (by rw[J.l];exact hi)
  revert er
  generalize rs[i]'(by rw[J.l];exact hi)=row
  intro er
  have Pr:=J.c er
  rw[if_neg (Nat.lt_irrefl _)]at Pr
  have hrw:row.length=w:=J.p.wd row (List.mem_of_getElem? er)
  push_cast[↓Np,Int.zero_add]
  refine⟨_,_,hob1,QC _ _ _,gp,cl,w,rs,_,i,rfl,TP,J.p,λi' row' eb er' l hl=> ?_,λz=>by rw[J.l]at z;omega⟩
  obtain rfl:i=i':=by omega
  rw[er]at er'
  cases er'
  have s2:=AS (o:=.lst row) hl
  have e2:upd H1 l (.lst row) l=some (.lst row):=AM
  revert s2 e2
  generalize upd H1 l (.lst row)=H2
  intro s2 e2
  push_cast[↓Nq]
  refine⟨⟨_,SqL.of e2⟩,ST (xs:=row) (λ_=>true) (small _ (by omega)) (λj ys H'=>Same H2 H'/\Paired (CelV H') ys ((CW w cs' i).take j)) ⟨Same.refl _,.nil⟩ (λj ys H' hj ⟨s,P⟩=>⟨SqL.of (s _ _ e2),?_⟩) (λj ys H' t o ⟨s,P⟩ h=>⟨FC s h,Paired.mapP P λv c=>CelV.keep (AS h).tk⟩) (λj x ys H' hx _ QB qb=>qb) (λj x ys H' hx _ ⟨s,P⟩=> ?_) (λj x ys H' hx hp=>by cases hp) (λys H3 ⟨s,P⟩ l2 hl2=> ?_)⟩
  ·rw[P.length,List.length_take];omega
  ·have hj:j<w:=by rw[<-hrw];exact(List.getElem?_eq_some_iff.mp hx).1
   push_cast[BI]
   have hd':=s _ _ (s2 _ _ hdl1)
   have hlt:i * w+j<cs.length:=by
    rw[hcl']
    have:=Nat.mul_le_mul_right w (show i+1<=rows.length from hi)
    rw[Nat.succ_mul]at this
    omega
   refine⟨.inr ⟨kvs,.inl hd'⟩,by decide,λp hp=>⟨B8 kvs (pk w (i * w+j)),?_,FC s hp,?_⟩⟩
   ·have sp:=AS (o:=.tup [V.int (i:Int),V.int (j:Int)]) hp
    exact DGet.t (sp _ _ hd') (by rw[AM,zed hj])
   ·have sp:=AS (o:=.tup [V.int (i:Int),V.int (j:Int)]) hp
    have ec':=List.getElem?_eq_getElem (l:=cs') (i:=i * w+j) (by rw[hcl2];exact hlt)
    revert ec'
    generalize cs'[i * w+j]'(by rw[hcl2];exact hlt)=c'
    intro ec'
    obtain⟨c,ec,hv⟩:=EK Pr hx
    rw[oW hj]at ec
    rw[ER (x:=c') (by rw[oW hj];exact ec')]
    refine Paired.snoc (Paired.mapP P λv c=>CelV.keep sp.tk) ?_
    have s1p:=(s2.trans s).trans sp
    rcases hc _ c c' ec ec' with⟨e1,e2'⟩ | ⟨v,e1,e2'⟩
    ·rw[e1,e2']
     exact CelV.keep s1p.tk hv
    ·rw[e1]
     exact CelV.keep s1p.tk (CelV.keep tk1 e2')
  ·have hcl3:(CW w cs' i).length=w:=by
    unfold CW
    rw[List.length_take,List.length_drop,hcl2,hcl']
    have:=Nat.mul_le_mul_right w (show i+1<=rows.length from hi)
    rw[Nat.succ_mul]at this
    omega
   rw[hrw,List.take_of_length_le (by omega)]at P
   have s4:=AS (o:=.lst ys) hl2
   have e4:upd H3 l2 (.lst ys) l2=some (.lst ys):=AM
   revert s4 e4
   generalize upd H3 l2 (.lst ys)=H4
   intro s4 e4
   have s14:=(s2.trans s).trans s4
   have P4:Paired (CelV H4) ys (CW w cs' i):=Paired.mapP P λv c=>CelV.keep s4.tk
   have hys:ys.length=w:=by rw[P4.length,hcl3]
   have J4:oZ a gp cl w m rows.length cs cs' H i rs H4:=⟨J.p.same s14,J.l,λe=>Paired.mapP (J.c e) λv c=>CelV.keep s14.tk,J.s.trans s14.sb⟩
   push_cast[↓Nx]
   refine zd5 e4 ((s.trans s4) _ _ e2) P4 (Paired.mapP Pr λv c=>CelV.keep s14.tk) (λc hc=>o2 c (oX hc)) (λc hc=>o1 c (oX hc)) (zec hk) ⟨_,rfl,?_⟩
   by_cases he:CW w cs' i=CW w cs i
   ·refine BQ (by simp[he]) ?_
    refine⟨rs,⟨by rw[oY,if_pos he.symm];exact J4.p,J4.l,λ{b row} e=> ?_,J4.s⟩⟩
    have:=J4.c e
    by_cases hb:b=i
    ·rw[hb,if_neg (Nat.lt_irrefl _)]at this
     rw[hb,if_pos (Nat.lt_succ_self _),he]
     exact this
    ·simp only[show(b<i+1)=(b<i)from propext ⟨λh=>by omega,λh=>by omega⟩]
     exact this
   ·refine B2 (by simp[he]) ?_
    obtain⟨dp4,hob4⟩:=J4.p.ob
    obtain⟨tc4,hcl4,_⟩:=J4.p.ls
    push_cast[↓Nv]
    refine⟨_,_,hob4,mY _ _ _,gp,cl,w,rs,_,(i:Int),l2,ys,rfl,TP,J4.p,SqL.of e4,by omega,λi' eb hb' hyl H5 P5 sb5=> ?_,λz=>by rw[J.l]at z;omega⟩
    obtain rfl:i=i':=by omega
    have tk5:CP H4 H5:=λy ys e=>sb5 _ _ e λz=>by
     rcases z with z | z
     ·rw[z,hob4]at e;cases e
     ·rw[z,hcl4]at e;cases e
    refine⟨rs.set i ys,⟨?_,by rw[List.length_set];exact J.l,λ{b row} e=> ?_,J4.s.trans sb5⟩⟩
    ·rw[oY,if_neg (λz=>he z.symm),<-Nat.add_assoc]
     exact P5
    ·by_cases hb:b=i
     ·subst hb
      rw[List.getElem?_set_self (by rw[J.l];exact hi)]at e
      cases e
      rw[if_pos (Nat.lt_succ_self _)]
      exact Paired.mapP P4 λv c=>CelV.keep tk5
     ·rw[List.getElem?_set_ne (λz=>hb z.symm)]at e
      have:=J4.c e
      simp only[show(b<i+1)=(b<i)from propext ⟨λh=>by omega,λh=>by omega⟩]
      exact Paired.mapP this λv c=>CelV.keep tk5
 ·subst eσ
  refine q rs H1 J.p J.l (oU (w:=w) (by rw[J.l,hcl2,hcl']) λ{b row} e=> ?_) J.s
  have hb:b<rows.length:=by rw[<-J.l];exact(List.getElem?_eq_some_iff.mp e).1
  have:=J.c e
  rw[if_pos hb]at this
  exact this
theorem zef(h:NP K a vs H Q E):vs.length=2:=by
 obtain⟨_,_,_,_,_,_,_,_,_,rfl,_⟩:=h
 rfl
theorem o0{vw:Vw}(ok:D8 vw):∀ c∈D5 vw,c.ok:=λc hc=>by
 unfold D5 at hc
 simp only[List.mem_append,List.mem_map]at hc
 rcases hc with(((⟨x,hx,rfl⟩ | ⟨x,hx,rfl⟩) | ⟨x,hx,rfl⟩) | ⟨x,hx,rfl⟩) | ⟨x,hx,rfl⟩
 ·cases x with
  | none=>exact trivial
  | some d=>exact(ok.n1 d hx).2
 ·cases x<;>exact trivial
 ·cases x with
  | none=>exact trivial
  | some d=>exact ok.n3 d hx
 ·cases x<;>exact trivial
 ·cases x<;>exact trivial
theorem G8{α :Type}{f: α ->Cel}{k:Nat}(h:∀ x,(f x).kind=k)(l:List α):(l.map f).map Cel.kind=List.replicate l.length k:=by
 rw[List.map_map]
 induction l with
 | nil=>rfl
 | cons x r ih=>rw[List.map_cons,ih,List.length_cons,List.replicate_succ];exact congrArg (· ::_) (h x)
theorem zeg{vw:Vw}(ok:D8 vw):(D5 (mended vw)).map Cel.kind=(D5 vw).map Cel.kind:=by
 have ok2:=QS ok
 have l1:(mended vw).rc.length=vw.rc.length:=by
  show((List.range vw.rc.length).map (DT vw)).length=_
  simp
 unfold D5
 simp only[List.map_append]
 rw[G8 (k:=0) (f:=Cel.nm) λ_=>rfl,G8 (k:=1) (f:=Cel.rc) λ_=>rfl,G8 (k:=2) (f:=Cel.pc) λ_=>rfl,G8 (k:=3) (f:=Cel.mk) λ_=>rfl,G8 (k:=3) (f:=Cel.mk) λ_=>rfl,
  G8 (k:=0) (f:=Cel.nm) λ_=>rfl,G8 (k:=1) (f:=Cel.rc) λ_=>rfl,G8 (k:=2) (f:=Cel.pc) λ_=>rfl,G8 (k:=3) (f:=Cel.mk) λ_=>rfl,G8 (k:=3) (f:=Cel.mk) λ_=>rfl,ok2.l1,ok2.l2,ok.l1,ok.l2,l1]
 rfl
theorem o3{P:List AX->V->Prop}:∀ {more kvs:List (List AX × V)},(∀ k v,B8 kvs k=some v->P k v)->(∀ kv∈more,P kv.1 kv.2)->∀ k v,B8 (DS kvs more) k=some v->P k v
 | [],kvs,h,_=>h
 | p::r,kvs,h,hm=>o3 (more:=r) (kvs:=CF kvs p.1 p.2) (λk v e=>by
   rw[O0]at e
   by_cases z:k=p.1
   ·rw[if_pos z]at e
    cases e
    rw[z]
    exact hm p List.mem_cons_self
   ·rw[if_neg z]at e
    exact h k v e) λkv hkv=>hm kv (List.mem_cons_of_mem _ hkv)
theorem WA:∀ {more kvs:List (List AX × V)} {k:List AX},(B8 kvs k).isSome=true->(B8 (DS kvs more) k).isSome=true
 | [],_,_,h=>h
 | p::r,kvs,k,h=>WA (more:=r) (kvs:=CF kvs p.1 p.2) (by
   rw[O0]
   split
   ·rfl
   ·exact h)
theorem o6:∀ {more kvs:List (List AX × V)} {kv:List AX × V},kv∈more->(B8 (DS kvs more) kv.1).isSome=true
 | [],_,_,h=>by cases h
 | p::r,kvs,kv,h=>by
  rcases List.mem_cons.mp h with rfl | h
  ·exact WA (more:=r) (kvs:=CF kvs kv.1 kv.2) (by rw[O0,if_pos rfl];rfl)
  ·exact o6 (more:=r) h
theorem zeh{vw:Vw}{n r c w:Nat}(lv:Lv):(EA vw n r c w lv).length<=2:=by
 cases lv<;>simp[EA]
structure DuI(vw:Vw)(n r c w:Nat)(dl:Addr)(H2:Hp)(i:Nat)(kvs:List (List AX × V))(H':Hp):Prop where
 s:Same H2 H'
 e:H' dl=some (.dT kvs)
 A:∀ k v,B8 kvs k=some v->∃ lv∈D9 vw,∃ fx∈EA vw n r c w lv,k=pk w fx.1/\CelV H' v fx.2
 B:∀ j lv,j<i->(D9 vw)[j]? =some lv->∀ fx∈EA vw n r c w lv,(B8 kvs (pk w fx.1)).isSome=true
 l:kvs.length<=2 * i
theorem zej{vw:Vw}(ok:D8 vw):(D9 vw).length<=400:=by
 obtain⟨_,_,_,m4,m5,m6⟩:=NT ok
 have:=congrArg List.length (oI vw)
 unfold G1 at this
 simp only[List.length_append,List.length_map]at this
 omega
theorem Site.ground{ly gp cl:Addr}{n r c w:Nat}{rows:List (List V)}{m:Nat}{vw:Vw}(S:Site K a H ly gp cl n r c w rows m vw):Ground K a H ly gp vw:=⟨cl,n,r,c,w,rows,m,S.tv,S.tl,S.tp,S.la,S.pl,S.rl,S.pv⟩
theorem Site.same{ly gp cl:Addr}{n r c w:Nat}{rows:List (List V)}{m:Nat}{vw:Vw}{H':Hp}(S:Site K a H ly gp cl n r c w rows m vw)(s:Same H H'):Site K a H' ly gp cl n r c w rows m vw:=⟨S.tv,S.tl,S.tp,S.la.same s,S.pl.same s,S.rl,S.pv.same s.tk,S.w1,S.w6,S.n6,S.r6,S.c6⟩
theorem zek(h:cB K a vs H Q E):NR K a (λ_=>E) (A6 Q) (A5 ["layout","plank","finds","due","find"] vs) H:=by
 obtain⟨ly,gp,cl,n,r,c,w,rows,m,vw,rfl,S,hf,q⟩:=h
 have z1:=S.pv.ln
 have z2:=S.pv.lr
 have z3:=S.pv.lp
 have ok:=S.pv.ok
 have n6:=S.n6
 have r6:=S.r6
 have c6:=S.c6
 have rl:=S.rl
 push_cast[NR,↓lU]
 refine⟨ly,gp,vw,rfl,S.ground,λH1 s1=> ?_⟩
 rw[decide_eq_true hf]
 push_cast[]
 push_cast[↓Wd]
 refine⟨ly,gp,vw,rfl,S.ground.same s1,λfo H2 hfo s2 F2=> ?_⟩
 rw[hf,List.nil_append]at F2
 have F0:=F2
 rw[oI]at F2
 obtain⟨ps,efo,PF⟩:=F2
 have s02:=s1.trans s2
 push_cast[↓Wg]
 intro dl hdl
 have s3:=AS (o:=.dT []) hdl
 have e3:upd H2 dl (.dT []) dl=some (.dT []):=AM
 revert s3 e3
 generalize upd H2 dl (.dT [])=H3
 intro s3 e3
 have ln:=zej ok
 have pl:ps.length=(D9 vw).length:=by rw[PF.length,List.length_map]
 push_cast[↓Wj]
 refine .inl ⟨⟨_,SqL.of (s3 _ _ efo)⟩,JL (xs:=ps.map V.ref) (λi σ H'=>(∃ kvs,DuI vw n r c w dl H2 i kvs H')/\∃ y,σ=[some (.ref ly),some (.ref gp),some (.ref fo),some (.ref dl),y]) ⟨⟨[],⟨s3,e3,λk v h=>(by cases h),λj lv h=>absurd h (Nat.not_lt_zero _),Nat.le_refl _⟩⟩,_,rfl⟩ (λi σ H' _ ⟨⟨_,J⟩,_⟩=>SqL.of (J.s _ _ efo)) (λi x σ H4 hx ⟨⟨kvs,J⟩,y,eσ⟩=> ?_) (λσ H4 ⟨⟨kvs,J⟩,y,eσ⟩=> ?_)⟩
 ·subst eσ
  rw[List.getElem?_map,Option.map_eq_some_iff]at hx
  obtain⟨fd,efd,rfl⟩:=hx
  obtain⟨g,eg,hfd⟩:=EK PF efd
  rw[List.getElem?_map,Option.map_eq_some_iff]at eg
  obtain⟨lv,elv,rfl⟩:=eg
  have hlv:=List.mem_of_getElem? elv
  have hi:i<(D9 vw).length:=(List.getElem?_eq_some_iff.mp elv).1
  push_cast[↓Wh]
  refine⟨.inr (.inr (.inl ⟨rfl,.inr ⟨kvs,J.e⟩⟩)),ly,gp,cl,fd,n,r,c,w,rows,m,vw,lv,rfl,(S.same s02).same J.s,hlv,J.s _ _ hfd,λdm more H5 hdm s5 e5 PM ap=> ?_⟩
  have ml:more.length<=2:=by rw[PM.length];exact zeh lv
  have jl:=J.l
  have tk6:CP H5 (upd H5 dl (.dT (DS kvs more))):=λy ys ey=>by rw[AQ (DA ey (s5 _ _ J.e) (λz=>nomatch z))];exact ey
  refine⟨dl,dm,kvs,more,rfl,rfl,BT J.e hdm,s5 _ _ J.e,e5,λ_=>ap,small _ (by omega),DS kvs more,⟨λy o ey=> ?_,AM,?_,λj lv' hj ej fx hfx=> ?_,?_⟩⟩
  ·rw[AQ (BT ey hdl)]
   exact s5 _ _ (J.s _ _ ey)
  ·refine o3 (λk v e=> ?_) λkv hkv=> ?_
   ·obtain⟨lv',h1,fx,h2,h3,h4⟩:=J.A k v e
    exact⟨lv',h1,fx,h2,h3,CelV.keep tk6 (CelV.keep s5.tk h4)⟩
   ·obtain⟨k,ek⟩:=GZ hkv
    obtain⟨fx,efx,h1,h2⟩:=EK PM ek
    exact⟨lv,hlv,fx,List.mem_of_getElem? efx,h1,CelV.keep tk6 h2⟩
  ·by_cases hji:j<i
   ·exact WA (J.B j lv' hji ej fx hfx)
   ·obtain rfl:j=i:=by omega
    rw[elv]at ej
    cases ej
    obtain⟨k,ek⟩:=GZ hfx
    obtain⟨kv,ekv,h1,_⟩:=MP PM ek
    rw[<-h1]
    exact o6 (List.mem_of_getElem? ekv)
  ·have:=SU more kvs
   omega
 ·subst eσ
  have S4:=(S.same s02).same J.s
  have w1:=S.w1
  obtain⟨dp,hgp⟩:=S4.pl.ob
  obtain⟨tc,hcl,_⟩:=S4.pl.ls
  obtain⟨dp1,hgp1⟩:=(S.same s1).pl.ob
  obtain⟨tc1,hcl1,_⟩:=(S.same s1).pl.ls
  have nfo:fo≠gp/\fo≠cl:=⟨(BT hgp1 hfo).symm,(BT hcl1 hfo).symm⟩
  have ok2:=QS ok
  have g2:(mended vw).rc.length=r * w:=by
   show((List.range vw.rc.length).map (DT vw)).length=_
   simp[z2]
  have e0:(n+r+c+r+c) * w=n * w+r * w+c * w+r * w+c * w:=by simp only[Nat.add_mul]
  push_cast[↓Wk]
  refine⟨gp,cl,dl,w,rows,m,kvs,D5 vw,D5 (mended vw),rfl,S.tp,S4.pl,by omega,w1,S.w6,J.e,S4.pv.asC,zeg ok,o0 ok,o0 ok2,λf x x' ex ex'=> ?_,λrows' H5 P5 hl5 PC5 sb5=> ?_⟩
  ·have hlt:f<n * w+r * w+c * w+r * w+c * w:=by
    have:=(List.getElem?_eq_some_iff.mp ex).1
    rw[zdy vw ok]at this
    omega
   cases ev:B8 kvs (pk w f)with
   | none =>
    refine .inl ⟨rfl,?_⟩
    have:=zd2 ok z1 z2 z3 hf hlt λlv hlv fx hfx e=> ?_
    ·rw[ex,ex']at this
     exact Option.some.inj this
    ·obtain⟨j,ej⟩:=GZ hlv
     have hj:j<(ps.map V.ref).length:=by rw[List.length_map,pl];exact(List.getElem?_eq_some_iff.mp ej).1
     have:=J.B j lv hj ej fx hfx
     rw[e,ev]at this
     cases this
   | some v =>
    obtain⟨lv,hlv,fx,hfx,e1,e2⟩:=J.A _ v ev
    have:=oO e1
    have h3:=zd1 ok z1 z2 z3 hlv hfx
    rw[<-this,ex']at h3
    cases h3
    exact .inr ⟨v,rfl,e2⟩
  ·have tk5:CP H4 H5:=λy ys e=>sb5 _ _ e λz=>by
    rcases z with z | z
    ·rw[z,hgp]at e;cases e
    ·rw[z,hcl]at e;cases e
   push_cast[↓Wl]
   exact q fo rows' H5 (s1.free hfo) ((F0.same J.s).on (λo e=>sb5 _ _ e λz=>z.elim nfo.1 nfo.2) tk5) P5 (by rw[hl5,rl]) (PlV.of PC5 z1 g2 z3 ok2) ((s02.trans J.s).sb.trans sb5)
theorem zel(h:J0 K a vs H Q E):NR K a (λ_=>E) (A6 Q) (A5 ["layout","plank","finds","due","find"] vs) H:=by
 rcases h with h | ⟨ly,gp,cl,n,r,c,w,rows,m,vw,rfl,S,hf,q⟩
 ·exact zek h
 push_cast[NR,↓lU]
 refine⟨ly,gp,vw,rfl,S.ground,λH1 s1=> ?_⟩
 rw[decide_eq_false hf]
 push_cast[]
 push_cast[↓Wc]
 exact⟨by decide,q _ s1⟩
theorem zem(h:J0 K a vs H Q E):vs.length=2:=by
 rcases h with⟨_,_,_,_,_,_,_,_,_,_,rfl,_⟩ | ⟨_,_,_,_,_,_,_,_,_,_,rfl,_⟩
 ·rfl
 ·rfl
theorem zen(h:LC K a vs H Q E):VJ K a (λ_=>E) (A6 Q) (A5 ["layout","plank","right","other","e"] vs) H:=by
 obtain⟨ly,gp,cl,n,r,c,w,rows,m,vw,rfl,X,S,hf,q⟩:=h
 push_cast[VJ,↓Wm,↓Wp,↓Wx,↓Wq]
 refine .inr ⟨ly,gp,cl,n,r,c,w,rows,m,vw,rfl,S,hf,λH1 s1=>.inl ⟨X.hit,λe he=> ?_⟩⟩
 have se:=AS (o:=.ext (FR e (.ref (a "NotSound")))) he
 have ee:upd H1 e (.ext (FR e (.ref (a "NotSound")))) e=some (.ext (FR e (.ref (a "NotSound")))):=AM
 revert se ee
 generalize upd H1 e (.ext (FR e (.ref (a "NotSound"))))=H2
 intro se ee
 have ty:∀ {H':Hp},Same H2 H'->TyX K H' (.ref e) (.ref (a "NotSound")):=λs=>.inr ⟨e,a "NotSound",rfl,rfl,s _ _ ee,X.ec⟩
 push_cast[↓Wv]
 refine bG (ty (Same.refl _)) (.own _) X.i1 ⟨true,rfl,B2 rfl (bG (ty (Same.refl _)) (.ty _) X.iv ?_)⟩
 push_cast[↓Ww]
 refine⟨by decide,λt ht=> ?_⟩
 have s3:=AS (o:=.tup [.ref (a "NoBlock"),.ref (a "NoChange"),.ref (a "NoName"),.ref (a "NoPiece"),.ref (a "NoRoom"),.ref (a "NoRow"),.ref (a "Twice")]) ht
 refine zA (ty s3) (SqT.of AM) (.cons (.own _) (.cons (.own _) (.cons (.own _) (.cons (.own _) (.cons (.own _) (.cons (.own _) (.cons (.own _) .nil))))))) X.no ?_
 push_cast[↓Wy]
 exact q _ ((s1.trans se).trans s3)
theorem zeo(h:LC K a vs H Q E):vs.length=2:=by
 obtain⟨_,_,_,_,_,_,_,_,_,_,rfl,_⟩:=h
 rfl
theorem LWAt.off{F:Addr->Prop}{A:LW}{vw:Vw}{lf:List Nat}{H':Hp}(I:LWAt H A vw lf)(s:SameBut F H H')(tk:CP H H')(hv:¬ F A.v)(hL:∀ x∈A.L,¬ F x):LWAt H' A vw lf:=by
 have m0:¬ F A.a0:=hL _ (by simp[LW.L])
 have m1:¬ F A.a1:=hL _ (by simp[LW.L])
 have m2:¬ F A.a2:=hL _ (by simp[LW.L])
 have m3:¬ F A.a3:=hL _ (by simp[LW.L])
 have m4:¬ F A.a4:=hL _ (by simp[LW.L])
 have m5:¬ F A.a5:=hL _ (by simp[LW.L])
 exact⟨s _ _ I.ob hv,I.n.keep (λv c=>NmV.keep tk) (λo e=>s _ _ e m0),I.r.keep (λv c=>RcV.keep tk) (λo e=>s _ _ e m1),I.p.keep (λv c=>PcV.keep tk) (λo e=>s _ _ e m2),I.rm.keep (λv c=>MkV.keep tk) (λo e=>s _ _ e m3),I.pm.keep (λv c=>MkV.keep tk) (λo e=>s _ _ e m4),s _ _ I.l m5,I.ok,I.nd,I.nv⟩
theorem zep{l1 l2:Addr}{p1 p2:List Addr}{rows:List (List V)}(e1:H l1=some (.lst (p1.map V.ref)))(e2:H l2=some (.lst (p2.map V.ref)))(P1:Paired (λl r=>H l=some (.lst r)) p1 rows)(P2:Paired (λl r=>H l=some (.lst r)) p2 rows)(g:good7 H rows)(q:Q (.bl false) H):CJ K (.ref l1) (.ref l2) H Q:=by
 have:∃ ds:List PyData,∀ ps:List Addr,Paired (λl r=>H l=some (.lst r)) ps rows->Paired (Dat K H 8) (ps.map V.ref) ds:=by
  clear P1 P2 e1 e2
  induction rows with
  | nil=>exact⟨[],λps P=>by cases P;exact .nil⟩
  | cons f r ih =>
   obtain⟨ds,hd⟩:=ih λr' hr=>g r' (List.mem_cons_of_mem _ hr)
   obtain⟨d,hf⟩:=zad (K:=K) (g f List.mem_cons_self)
   refine⟨.list d::ds,λps P=> ?_⟩
   cases P with
   | cons e P=>exact .cons (Dat.lst (n:=7) (SqL.of e) hf) (hd _ P)
 obtain⟨ds,hd⟩:=this
 exact z7 (n:=9) (by decide) (Dat.lst (n:=8) (SqL.of e1) (hd _ P1)) (Dat.lst (n:=8) (SqL.of e2) (hd _ P2)) q
theorem o7{gp cl:Addr}{w m:Nat}{rows:List (List V)}{σ:St}{Q:VK}(TP:EF K a)(P:PlankAt a H gp cl w rows m)(hM:rows.length<=30)(hσ:BI [5] σ=[some (.ref gp)])(q:∀ R ls H2,Same H H2->H2 R=some (.lst (ls.map V.ref))->Paired (λl r=>H2 l=some (.lst r)) ls rows->Q (.ref R) H2):DR (DZ 0 rows.length) (AJ 0) CZ (BR (a "Plank") "read" (E6 K a) [] (λ_=>E0) (AA 1) (AD (AA 0) AG)) 1 [5] σ H Q:=by
 refine K0 (small _ (by omega)) (λi ys H'=>Same H H'/\∃ ls:List Addr,ys=ls.map V.ref/\Paired (λl r=>H' l=some (.lst r)) ls (rows.take i)) ⟨Same.refl _,[],rfl,.nil⟩ (λi ys H1 hi _ ⟨s,ls,e,P1⟩=> ?_) (λys H1 _ ⟨s,ls,e,P1⟩ p hp=> ?_)
 ·have P2:=P.same s
  obtain⟨dp,hob⟩:=P2.ob
  rw[hσ]
  push_cast[Int.zero_add]
  refine⟨_,_,hob,QC _ _ _,gp,cl,w,rows,_,i,rfl,TP,P2,λb' row eb er l hl=> ?_,λz=>by omega⟩
  obtain rfl:i=b':=by omega
  refine⟨FC s hl,ls++[l],by rw[e,List.map_append];rfl,?_⟩
  rw[ER er]
  exact Paired.snoc (Paired.mapP P1 λt r e=>AS hl _ _ e) AM
 ·subst e
  rw[List.take_length]at P1
  exact q p ls _ (s.trans (AS hp)) AM (Paired.mapP P1 λl r e=>AS hp _ _ e)
theorem zeq(h:S5 K a vs H Q E):VN K a (λ_=>E) (A6 Q) (A5 ["script","sizes","names","view","layout","plank","bad","fault","rows","writings"] vs) H:=by
 obtain⟨s,ns,rfl,T,TL,TP,X,hs,hns,q⟩:=h
 push_cast[VN,↓Wz,↓S1]
 refine⟨ns,0,rfl,hs,by omega,_,rfl,λz n r c w H1 s1 ez n1 n6 r1 r6 c1 c6 w1 w6=> ?_⟩
 have bw:∀ k:Nat,k<=6->k * w<=36:=λk hk=>Nat.mul_le_mul hk w6
 have pw:∀ k:Nat,1<=k->1<=k * w:=λk hk=>Nat.mul_le_mul hk w1
 push_cast[↓Xb,↓S1]
 refine⟨ns,1,rfl,s1.seq hs,by omega,_,36,rfl,by omega,λnl zs H2 hnl s2 enl hzl hzd hzs=> ?_⟩
 have s02:=s1.trans s2
 obtain⟨ms,ems,hms⟩:=zdv ns (some 3) none
 push_cast[↓Xc]
 refine SY (s02.seq hs) λrr hrr=> ?_
 rw[ems]
 have s3:=AS (o:=.lst (ms.map V.int)) hrr
 have er3:upd H2 rr (.lst (ms.map V.int)) rr=some (.lst (ms.map V.int)):=AM
 revert s3 er3
 generalize upd H2 rr (.lst (ms.map V.int))=H3
 intro s3 er3
 have s03:=s02.trans s3
 refine⟨rr,z,nl,ms,zs,n,r,c,w,rfl,er3,by omega,(s2.trans s3) _ _ ez,n1,n6,r1,r6,c1,c6,w1,w6,s3 _ _ enl,hzl,hzd,hzs,λA vw lf H4 s4 I4 C sz _ _=> ?_⟩
 have s04:=s03.trans s4
 have ez4:=((s2.trans s3).trans s4) _ _ ez
 have enl4:=(s3.trans s4) _ _ enl
 have hs4:=s04.seq hs
 clear s1 s2 s02 hrr s3 er3 s03 s4 s04 ez enl hnl
 push_cast[↓Xd]
 refine BX ez4 (n:=0) rfl rfl (BX ez4 (n:=1) rfl rfl (BX ez4 (n:=2) rfl rfl (BX ez4 (n:=3) rfl rfl ?_)))
 refine zcd TL (by omega) (by omega) (by omega) w1 (by omega) λly H5 L5 s5=> ?_
 obtain⟨dl,hly⟩:=L5.ob
 have I5:=I4.same s5
 have ez5:=s5 _ _ ez4
 have enl5:=s5 _ _ enl4
 have hs5:=s5.seq hs4
 push_cast[↓Xg]
 refine⟨_,_,hly,DY (by decide +kernel),ly,n,r,c,w,rfl,TL,TP,L5,λgp cl H6 hgp hcl P6 s6=> ?_⟩
 have fc:=I5.fresh hcl
 have fg:=I5.fresh hgp
 have nly:ly≠gp/\ly≠cl:=⟨BT hly hgp,BT hly hcl⟩
 have I6:=I5.same s6
 have ez6:=s6 _ _ ez5
 have L6:=L5.same s6
 obtain⟨dp6,hgp6⟩:=P6.ob
 obtain⟨tc6,hcl6,_⟩:=P6.ls
 have nA:∀ x∈A.L,¬ (x=gp\/x=cl):=λx hx z=>by
  rcases z with z | z
  ·exact fg.1 (z ▸ hx)
  ·exact fc.1 (z ▸ hx)
 have nv:¬ (A.v=gp\/A.v=cl):=λz=>z.elim (λz=>fg.2 z.symm) λz=>fc.2 z.symm
 have tail:∀ {H':Hp} {rows:List (List V)} {m:Nat} {y6 y7 y8 y9:Option V},H' z=some (.tup [.int n,.int r,.int c,.int w])->LWAt H' A vw lf->PlankAt a H' gp cl w rows m->rows.length=n+r+c+r+c->LayAt a H' ly n r c w->VL K a (λ_=>E) (λ_=>E) { nx:=VM K a (λ_=>E) (λ_=>E) (A6 Q),rt:=Q } [some (.ref s),some (.ref z),some (.ref nl),some (.ref A.v),some (.ref ly),some (.ref gp),y6,y7,y8,y9] H':=λ{H' rows m y6 y7 y8 y9} ez' I' P' hl' L'=>by
  obtain⟨dp',hgp'⟩:=P'.ob
  obtain⟨tc',hcl',_⟩:=P'.ls
  push_cast[↓Xx]
  refine BX ez' (n:=3) rfl rfl ⟨gp,cl,A,vw,lf,n,r,c,w,rows,m,rfl,TP,P',hl',I',sz,w1,w6,n6,r6,c6,fc.1,fc.2,λrows2 H2 P2 hl2 pv2 sb2=> ?_⟩
  obtain⟨dp2,hgp2⟩:=P2.ob
  obtain⟨tc2,hcl2,_⟩:=P2.ls
  have tk2:CP H' H2:=λy ys e=>sb2 _ _ e λz=>by
   rcases z with z | z
   ·rw[z,hgp']at e;cases e
   ·rw[z,hcl']at e;cases e
  have I2:=I'.off sb2 tk2 nv nA
  have L2:LayAt a H2 ly n r c w:=L'.sb sb2 λz=>z.elim nly.1 nly.2
  push_cast[↓Xy]
  refine .inl ⟨ly,gp,cl,n,r,c,w,rows2,_,vw,rfl,⟨T,TL,TP,L2,P2,hl2,pv2,w1,w6,n6,r6,c6⟩,C.faults,λfo rows3 H3 hfo F3 P3 hl3 pv3 sb3=> ?_⟩
  have tk3:CP H2 H3:=λy ys e=>sb3 _ _ e λz=>by
   rcases z with z | z
   ·rw[z,hgp2]at e;cases e
   ·rw[z,hcl2]at e;cases e
  have I3:=I2.off sb3 tk3 nv nA
  refine⟨A,vw,lf,zs,rfl,I3,C,by rw[sz.2.2];exact bw c c6,λdu H4 hdu s4 F4=> ?_⟩
  obtain⟨dd,D1,D2⟩:=zca (K:=K) (F3.same s4) F4 (zcc vw)
  exact z6 (n:=3) (by decide) D1 D2 (q _)
 clear hly
 push_cast[↓Xh]
 refine⟨A,vw,lf,rfl,I6,λA' H7 s7 I7 hv' hL'=> ?_⟩
 push_cast[↓Xj,↓S1]
 refine⟨ns,2,rfl,(s6.trans s7).seq hs5,by omega,_,3,rfl,by omega,λxl xs H8 hxl s8 exl hxs hx=> ?_⟩
 have s68:=s7.trans s8
 have enl6:=s6 _ _ enl5
 refine⟨A',vw,lf,zs,nl,xl,xs,n * w,r * w,c * w,rfl,I7.same s8,C,⟨s68 _ _ enl6,hzl,hzd,hzs,λhm=>by rw[hL' nl hm]at enl6;cases enl6⟩,⟨exl,hxs,hx,(I7.fresh hxl).1⟩,sz,bw n n6,pw n n1,pw r r1,pw c c1,λH9 sb9=> ?_,λt f vb lb H9 et I9 hf sz9 sb9=> ?_⟩
 ·have s69:Same H6 H9:=λb o e=>sb9 _ _ (s68 _ _ e) λhm=>by rw[hL' b hm]at e;cases e
  push_cast[↓mW]
  exact tail (s69 _ _ ez6) (I6.same s69) (P6.same s69) (by rw[List.length_replicate]) (L6.same s69)
 have s69:Same H6 H9:=λb o e=>sb9 _ _ (s68 _ _ e) λhm=>by rw[hL' b hm]at e;cases e
 push_cast[↓mW]
 have ncl':cl∉A'.L:=λhm=>by rw[hL' cl hm]at hcl6;cases hcl6
 have ncv':cl≠A'.v:=λe=>by rw[e,hv']at hcl6;cases hcl6
 have hgp9:=s69 _ _ hgp6
 have hcl9:=s69 _ _ hcl6
 push_cast[↓Xk]
 refine BX (s69 _ _ ez6) (n:=3) rfl rfl ⟨gp,cl,A',vb,lb,n,r,c,w,_,0,rfl,TP,P6.same s69,by rw[List.length_replicate],I9,sz9,w1,w6,n6,r6,c6,ncl',ncv',λrows10 H10 P10 hl10 pv10 sb10=> ?_⟩
 have tk10:CP H9 H10:=λy ys e=>sb10 _ _ e λz=>by
  rcases z with z | z
  ·rw[z,hgp9]at e;cases e
  ·rw[z,hcl9]at e;cases e
 have I10:=(I6.same s69).off sb10 tk10 nv nA
 have L10:LayAt a H10 ly n r c w:=(L6.same s69).sb sb10 λz=>z.elim nly.1 nly.2
 have ez10:=tk10 _ _ (s69 _ _ ez6)
 generalize 0+(n+r+c+r+c)=m10 at P10
 have S10:Site K a H10 ly gp cl n r c w rows10 m10 vb:=⟨T,TL,TP,L10,P10,hl10,pv10,w1,w6,n6,r6,c6⟩
 have hfn:faults vb≠[]:=by rw[hf];simp
 have bM:rows10.length<=30:=by omega
 obtain⟨dp10,hob10⟩:=P10.ob
 clear sb9 sb10 I9 s69 s68 P6 hgp6 hcl6 hgp9 hcl9
 push_cast[↓Xl]
 refine⟨_,_,hob10,V0 _ _ _,gp,cl,w,rows10,m10,rfl,TP,P10,?_⟩
 push_cast[]
 refine⟨by omega,by omega,o7 TP P10 bM rfl λR1 ls1 H11 s11 eR1 PR1=> ?_⟩
 have P11:=P10.same s11
 obtain⟨dp11,hob11⟩:=P11.ob
 push_cast[↓Xm]
 refine⟨_,_,hob11,mZ _ _ _,_,_,_,_,_,rfl,TP,P11,?_⟩
 push_cast[↓Xq]
 refine⟨ly,gp,cl,n,r,c,w,rows10,m10,vb,rfl,X,S10.same s11,hfn,λH12 s12=> ?_⟩
 have s1012:=s11.trans s12
 push_cast[]
 refine⟨ly,gp,cl,n,r,c,w,rows10,m10,vb,rfl,X,S10.same s1012,hfn,λH13 s13=> ?_⟩
 have s1013:=s1012.trans s13
 push_cast[]
 have P13:=P10.same s1013
 obtain⟨dp13,hob13⟩:=P13.ob
 push_cast[↓Xw]
 refine⟨_,_,hob13,V0 _ _ _,gp,cl,w,rows10,m10,rfl,TP,P13,?_⟩
 push_cast[]
 refine⟨by omega,by omega,o7 TP P13 bM rfl λR2 ls2 H14 s14 eR2 PR2=> ?_⟩
 have s1014:=s1013.trans s14
 have s1114:=(s12.trans s13).trans s14
 have P14:=P10.same s1014
 obtain⟨dp14,hob14⟩:=P14.ob
 refine zep eR2 (s1114 _ _ eR1) PR2 (Paired.mapP PR1 λl r e=>s1114 _ _ e) (pv10.same s1014.tk).good ⟨_,rfl,BQ (by decide) ⟨_,_,hob14,mZ _ _ _,_,_,_,_,_,rfl,TP,P14,?_⟩⟩
 push_cast[]
 exact tail (s1014 _ _ ez10) (I10.same s1014) P14 hl10 (L10.same s1014)
theorem zer(h:S5 K a vs H Q E):vs.length=1:=by
 obtain⟨_,_,rfl,_⟩:=h
 rfl
end
end L2
namespace L2
def BG(i:Nat):Stmt:=PySem.Challenge.pw_holdback_k54_not_sound_refused.main.body.getD i (.Pass ⟨0,0,0,0⟩)
structure Txt(K:W.Frag)(mg:Str->Option Value)(a:Ad):Prop where
 DU:Cls K (a "Layout")
 ES:Cls K (a "Plank")
 HZ:Cls K (a "View")
 zin:mg "HoldError"=some (.ref (a "HoldError"))
 zi0:GV mg "HoldError" (.ref (a "HoldError"))
 zi7:Exc K (a "HoldError")
 p6:mg "NoBlock"=some (.ref (a "NoBlock"))
 zif:GV mg "NoBlock" (.ref (a "NoBlock"))
 p7:Exc K (a "NoBlock")
 zi1:mg "NoChange"=some (.ref (a "NoChange"))
 zig:GV mg "NoChange" (.ref (a "NoChange"))
 zi8:Exc K (a "NoChange")
 zi2:mg "NoName"=some (.ref (a "NoName"))
 zih:GV mg "NoName" (.ref (a "NoName"))
 zi9:Exc K (a "NoName")
 zi3:mg "NoPiece"=some (.ref (a "NoPiece"))
 zii:GV mg "NoPiece" (.ref (a "NoPiece"))
 zja:Exc K (a "NoPiece")
 zi4:mg "NoRoom"=some (.ref (a "NoRoom"))
 zij:GV mg "NoRoom" (.ref (a "NoRoom"))
 zjb:Exc K (a "NoRoom")
 zi5:mg "NoRow"=some (.ref (a "NoRow"))
 zik:GV mg "NoRow" (.ref (a "NoRow"))
 zjc:Exc K (a "NoRow")
 zio:mg "NotSound"=some (.ref (a "NotSound"))
 zil:GV mg "NotSound" (.ref (a "NotSound"))
 ziq:Exc K (a "NotSound")
 zi6:mg "Twice"=some (.ref (a "Twice"))
 zim:GV mg "Twice" (.ref (a "Twice"))
 zjd:Exc K (a "Twice")
 zic:mg "ValueError"=none
 IZ:mg "enumerate"=none
 Y1:mg "int"=none
 Y2:mg "isinstance"=none
 CM:mg "len"=none
 Q5:mg "list"=none
 zid:mg "max"=none
 C1:mg "range"=none
 zie:mg "sorted"=none
 p5:mg "tuple"=none
section
variable(P:Program)(w:World){K:W.Frag}{mg:Str->Option Value}(base:Heap){a:Ad}{f:Addr}{fd:FuncData}
seal wpAny
abbrev WB:Stmt:=DP (BG 11) 1
theorem o8:FnScope ["self"] ["self"] (A0 WB):=.go
theorem o9:(["record","value","self"]:List Str).Nodup:=by decide +kernel
theorem zes(T:Txt K mg a) (F:Fun K "records_led_to" "View.records_led_to" WB f fd) :
  FP P w K mg base 1 f fd ["self"] (MZ K a) :=
 F.okF (S6 K a) o8 zaq zap λ_ _ _ _ _ E hr hx=>(AV (BD (DD (tn:=["record","value"]) (cn:=["self"]) (cap:=[0]) o8.cp rfl (IK rfl T.IZ (AE (BY (AB 0) rfl) AH)) (λ_ _ _ _ _ _=>(HF rfl (D6 (BF 0 o9) (D6 (BF 1 o9) HE)))) (λ_ _ _ _ _ _=>(C5 (A7 II (AY AZ (BY (AB 2) rfl) (AB 0) (λ_ _=>rfl)) AN (A1 _)))) (λ_ _ _ _ _ _=>(AB 1)))))
abbrev WC:Stmt:=DP (BG 11) 2
theorem pA:FnScope ["self"] ["self"] (A0 WC):=.go
theorem pB:(["record","value"]:List Str).Nodup:=by decide +kernel
theorem zet(T:Txt K mg a) (F:Fun K "records_standing" "View.records_standing" WC f fd) :
  FP P w K mg base 1 f fd ["self"] (JT K a) :=
 F.okF (S7 K a) pA zal zak λ_ _ _ _ _ E hr hx=>(AV (BD (DD (tn:=["record","value"]) (cn:=[]) (cap:=[]) pA.cp rfl (IK rfl T.IZ (AE (BY (AB 0) rfl) AH)) (λ_ _ _ _ _ _=>(HF rfl (D6 (BF 0 pB) (D6 (BF 1 pB) HE)))) (λ_ _ _ _ _ _=>(C5 (A7 HG (AB 1) CY (A1 _)))) (λ_ _ _ _ _ _=>(AB 0)))))
abbrev WD:Stmt:=DP (BG 11) 3
theorem pC:FnScope ["self"] ["self"] (A0 WD):=.go
theorem pD:(["piece","many"]:List Str).Nodup:=by decide +kernel
theorem zeu(T:Txt K mg a) (F:Fun K "pieces_named" "View.pieces_named" WD f fd) :
  FP P w K mg base 1 f fd ["self"] (IS K a) :=
 F.okF (S8 K a) pC zao zan λ_ _ _ _ _ E hr hx=>(AV (BD (DD (tn:=["piece","many"]) (cn:=[]) (cap:=[]) pC.cp rfl (IK rfl T.IZ (AE (BY (AB 0) rfl) AH)) (λ_ _ _ _ _ _=>(HF rfl (D6 (BF 0 pD) (D6 (BF 1 pD) HE)))) (λ_ _ _ _ _ _=>(C5 (A7 II (AB 1) AN (A1 _)))) (λ_ _ _ _ _ _=>(AB 0)))))
abbrev WE:Stmt:=DP (BG 11) 4
theorem zev:FnScope ["self","record"] ["self","record"] (A0 WE):=.go
theorem zew(T:Txt K mg a) (F:Fun K "count_of" "View.count_of" WE f fd) :
  FP P w K mg base 1 f fd ["self","record"] (JU K a) :=
 F.okF (S9 K a) zev zaj zai λ_ _ _ _ _ E hr hx=>(AV (BD (AY AZ (AY AZ (BY (AB 0) rfl) (AB 1) (λ_ _=>rfl)) AN (λ_ _=>rfl))))
abbrev WF:Stmt:=BG 15
theorem LS:FnScope ["view","lost","twice","seen","k","value"] ["view"] (A0 WF):=.go
theorem zex(T:Txt K mg a) (F:Fun K "faults_of_names" "faults_of_names" WF f fd) :
  FP P w K mg base 1 f fd ["view"] (M0 K a) :=
 F.okF (TC K a) LS za7 za6 λ_ _ _ _ _ E hr hx=>(AL (A9 1 LS.nd (CO AH))
   (AL (A9 2 LS.nd (CO AH))
   (AL (A9 3 LS.nd t9)
   (AL (ET hx.po rfl (IK rfl T.IZ (AE (BY (AB 0) rfl) AH)) (HF rfl (D6 (BF 4 LS.nd) (D6 (BF 5 LS.nd) HE))) (AV (B6 (A7 HG (AB 5) CY (A1 _)) (AL (B6 (A7 GS (AY AZ (BY (AB 0) rfl) (AT (AB 5)) (λ_ _=>rfl)) CY (A1 _)) (AV (DB (FO PySem.F.plainAttrs_list PySem.F.slot_list_append PySem.F.type_list_append ID (AB 1) (AE (CB (AE B3 (AE (AB 4) AH))) AH)))) CH)
   (AL (B6 (qP (t0 (IE hr) (AT (AB 5)) (AB 3)) (by with_unfolding_all rfl)) (AV (DB (FO PySem.F.plainAttrs_list PySem.F.slot_list_append PySem.F.type_list_append ID (AB 2) (AE (CB (AE B3 (AE (AB 4) AH))) AH)))) CH)
   (AV (t5 (IE hr) (AB 3) (AT (AB 5)) JA rfl)))) CH)))
   (AV (BD (AO BK (AB 1) (AB 2))))))))
abbrev WG:Stmt:=BG 20
theorem QU:FnScope ["view","marked"] ["view"] (A0 WG):=.go
theorem pE:(["piece","mark"]:List Str).Nodup:=by decide +kernel
theorem QW:(["piece","view"]:List Str).Nodup:=by decide +kernel
theorem zey(T:Txt K mg a) (F:Fun K "left_pieces" "left_pieces" WG f fd) :
  FP P w K mg base 1 f fd ["view"] (M6 K a) :=
 F.okF (TD K a) QU zas zar λ_ _ _ _ _ E hr hx=>(AL (D7 (i:=1) (tn:=["piece","mark"]) (cn:=[]) (cap:=[]) QU.cp rfl QU.nd rfl rfl (IK rfl T.IZ (AE (BY (AB 0) rfl) AH)) (λ_ _ _ _ _ _=>(HF rfl (D6 (BF 0 pE) (D6 (BF 1 pE) HE)))) (λ_ _ _ _ _ _=>(C5 (A7 (CK hr.units) (AB 1) AN (A1 _)))) (λ_ _ _ _ _ _=>(AB 0)))
   (AV (BD (DD (tn:=["piece"]) (cn:=["view"]) (cap:=[0]) QU.cp rfl (DQ (AB 1)) (λ_ _ _ _ _ _=>(BF 0 QW)) (λ_ _ _ _ _ _=>(C5 (A7 (CK hr.units) (AY AZ (BY (AB 1) rfl) (AB 0) (λ_ _=>rfl)) AN (A1 _)))) (λ_ _ _ _ _ _=>(CB (AE B3 (AE B3 (AE (AB 0) AH)))))))))
abbrev WH:Stmt:=BG 21
theorem QX:FnScope ["view","marked"] ["view"] (A0 WH):=.go
theorem pF:(["record","mark"]:List Str).Nodup:=by decide +kernel
theorem WI:(["record","view"]:List Str).Nodup:=by decide +kernel
theorem zez(T:Txt K mg a) (F:Fun K "marked_records" "marked_records" WH f fd) :
  FP P w K mg base 1 f fd ["view"] (M7 K a) :=
 F.okF (TF K a) QX zau zat λ_ _ _ _ _ E hr hx=>(AL (D7 (i:=1) (tn:=["record","mark"]) (cn:=[]) (cap:=[]) QX.cp rfl QX.nd rfl rfl (IK rfl T.IZ (AE (BY (AB 0) rfl) AH)) (λ_ _ _ _ _ _=>(HF rfl (D6 (BF 0 pF) (D6 (BF 1 pF) HE)))) (λ_ _ _ _ _ _=>(C5 (A7 (CK hr.units) (AB 1) AN (A1 _)))) (λ_ _ _ _ _ _=>(AB 0)))
   (AV (BD (DD (tn:=["record"]) (cn:=["view"]) (cap:=[0]) QX.cp rfl (DQ (AB 1)) (λ_ _ _ _ _ _=>(BF 0 WI)) (λ_ _ _ _ _ _=>(C5 (A7 GS (AY AZ (BY (AB 1) rfl) (AB 0) (λ_ _=>rfl)) CY (A1 _)))) (λ_ _ _ _ _ _=>(CB (AE B3 (AE (AB 0) AH))))))))
abbrev WJ:Stmt:=BG 23
theorem QY:FnScope ["many","numbers","counts","number"] ["many","numbers"] (A0 WJ):=.go
theorem ze0:(["k"]:List Str).Nodup:=by decide +kernel
theorem ze1(T:Txt K mg a) (F:Fun K "tally" "tally" WJ f fd) :
  FP P w K mg base 1 f fd ["many","numbers"] (JS K a) :=
 F.okF (TJ K a) QY zbb zba λ_ _ _ _ _ E hr hx=>(AL (D7 (i:=2) (tn:=["k"]) (cn:=[]) (cap:=[]) QY.cp rfl QY.nd rfl rfl (C3 rfl T.C1 (AE (AB 0) AH)) (λ_ _ _ _ _ _=>(BF 0 ze0)) (λ_ _ _ _ _ _=>ED) (λ_ _ _ _ _ _=>AN))
   (AL (ET hx.po rfl (DQ (AB 1)) (BF 3 QY.nd) (AV (Az (AB 2) (AB 3) AN ZM)))
   (AV (BD (AB 2)))))
abbrev WK:Stmt:=BG 24
theorem WL:FnScope ["records","pieces","value"] ["records"] (A0 WK):=.go
theorem ze2(T:Txt K mg a) (F:Fun K "pieces_in" "pieces_in" WK f fd) :
  FP P w K mg base 1 f fd ["records"] (K7 K a) :=
 F.okF (TK K a) WL zbd zbc λ_ _ _ _ _ E hr hx=>(AL (A9 1 WL.nd (CO AH))
   (AL (ET hx.po rfl (DQ (AB 0)) (BF 2 WL.nd) (AV (B6 (A7 HG (AB 2) CY (A1 _)) (AV (DB (FO PySem.F.plainAttrs_list PySem.F.slot_list_extend PySem.F.type_list_extend Bc (AB 1) (AE (AT (AB 2)) AH)))) CH)))
   (AV (BD (AB 1)))))
abbrev WM:Stmt:=DP (BG 30) 0
theorem pG:FnScope ["self","blocks","cells"] ["self","blocks","cells"] (A0 WM):=.go
theorem ze3:(["block","cells"]:List Str).Nodup:=by decide +kernel
theorem ze4(T:Txt K mg a) (F:Fun K "__init__" "Plank.__init__" WM f fd) :
  FP P w K mg base 1 f fd ["self","blocks","cells"] (MS K a) :=
 F.okF (TM K a) pG Yh Xz λ_ _ _ _ _ E hr hx=>(AL (EL (AB 0) (DD (tn:=["block"]) (cn:=["cells"]) (cap:=[2]) pG.cp rfl (C3 rfl T.C1 (AE (AB 1) AH)) (λ_ _ _ _ _ _=>(BF 0 ze3)) (λ_ _ _ _ _ _=>ED) (λ_ _ _ _ _ _=>(AO EW (CB (AE CY AH)) (AB 1)))) rfl)
   (AL (EL (AB 0) (AB 2) rfl)
   (AV (EL (AB 0) AN rfl))))
abbrev WN:Stmt:=DP (BG 30) 1
theorem ze5:FnScope ["self"] ["self"] (A0 WN):=.go
theorem ze6(T:Txt K mg a) (F:Fun K "blocks" "Plank.blocks" WN f fd) :
  FP P w K mg base 1 f fd ["self"] (IL K a) :=
 F.okF (TN K a) ze5 Yj Yb λ_ _ _ _ _ E hr hx=>(AV (BD (B7 CL rfl T.CM (by rfl) (AE (BY (AB 0) rfl) AH))))
abbrev WO:Stmt:=DP (BG 30) 3
theorem ze7:FnScope ["self"] ["self"] (A0 WO):=.go
theorem ze8(T:Txt K mg a) (F:Fun K "writings" "Plank.writings" WO f fd) :
  FP P w K mg base 1 f fd ["self"] (K3 K a) :=
 F.okF (TQ K a) ze7 Yq Yp λ_ _ _ _ _ E hr hx=>(AV (BD (BY (AB 0) rfl)))
abbrev WP:Stmt:=DP (BG 30) 6
theorem ze9:FnScope ["self","block"] ["self","block"] (A0 WP):=.go
theorem zfa(T:Txt K mg a) (F:Fun K "ask_for_block" "Plank.ask_for_block" WP f fd) :
  FP P w K mg base 1 f fd ["self","block"] (HP K a) :=
 F.okF (TR K a) ze9 Yk Yc λ_ _ _ _ _ E hr hx=>(AV (B6 (OJ (rT vH PD AN (AB 1) (B7 CL rfl T.CM (by rfl) (AE (BY (AB 0) rfl) AH)))) (AV (R6 hx T.p7 rfl T.p6 (AE B3 AH))) CH))
abbrev WQ:Stmt:=DP (BG 32) 0
theorem zfb:FnScope ["self","names","records","pieces","cells"] ["self","names","records","pieces","cells"] (A0 WQ):=.go
theorem zfc(T:Txt K mg a) (F:Fun K "__init__" "Layout.__init__" WQ f fd) :
  FP P w K mg base 1 f fd ["self","names","records","pieces","cells"] (K5 K a) :=
 F.okF (TU K a) zfb Zm Yx λ_ _ _ _ _ E hr hx=>(AL (EL (AB 0) (AB 1) rfl)
   (AL (EL (AB 0) (AB 2) rfl)
   (AL (EL (AB 0) (AB 3) rfl)
   (AV (EL (AB 0) (AB 4) rfl)))))
abbrev WR:Stmt:=DP (BG 32) 6
theorem zfd:FnScope ["self"] ["self"] (A0 WR):=.go
theorem zfe(T:Txt K mg a) (F:Fun K "counts" "Layout.counts" WR f fd) :
  FP P w K mg base 1 f fd ["self"] (MX K a) :=
 F.okF (TX K a) zfd zab Zk λ_ _ _ _ _ E hr hx=>(AV (BD (CB (AE (AO EW (BY (AB 0) rfl) (BY (AB 0) rfl)) (AE (AO EW (BY (AB 0) rfl) (BY (AB 0) rfl)) (AE (AO EW (BY (AB 0) rfl) (BY (AB 0) rfl)) AH))))))
abbrev WS:Stmt:=DP (BG 32) 9
theorem zff:FnScope ["self"] ["self"] (A0 WS):=.go
theorem zfg(T:Txt K mg a) (F:Fun K "blocks_ahead_of_marks" "Layout.blocks_ahead_of_marks" WS f fd) :
  FP P w K mg base 1 f fd ["self"] (HQ K a) :=
 F.okF (TY K a) zff Zz Zh λ_ _ _ _ _ E hr hx=>(AV (BD (AO BK (AO BK (BY (AB 0) rfl) (BY (AB 0) rfl)) (BY (AB 0) rfl))))
abbrev WT:Stmt:=DP (BG 32) 10
theorem zfh:FnScope ["self","block","k"] ["self","block","k"] (A0 WT):=.go
theorem zfi(T:Txt K mg a) (F:Fun K "place_from" "Layout.place_from" WT f fd) :
  FP P w K mg base 1 f fd ["self","block","k"] (E7 K a) :=
 F.okF (TZ K a) zfh Zp Yy λ_ _ _ _ _ E hr hx=>(AV (BD (CB (AE (AO BK (AB 1) (AO FJ (AB 2) (BY (AB 0) rfl))) (AE (AO BP (AB 2) (BY (AB 0) rfl)) AH)))))
abbrev WU:Stmt:=BG 34
theorem zfj:FnScope ["script","k"] ["script","k"] (A0 WU):=.go
theorem zfk(T:Txt K mg a) (F:Fun K "_law_cell_at" "_law_cell_at" WU f fd) :
  FP P w K mg base 1 f fd ["script","k"] (HR K a) :=
 F.okF (T1 K a) zfj Yw Yv λ_ _ _ _ _ E hr hx=>(AL (B6 (A7 PD (AB 1) (B7 CL rfl T.CM (by rfl) (AE (AB 0) AH)) (A1 _)) (AV (BD (AY AZ (AB 0) (AB 1) (λ_ _=>rfl)))) CH)
   (AV (BD AN)))
abbrev WV:Stmt:=BG 35
theorem KE:FnScope ["cell","many","here","there","found","k"] ["cell","many"] (A0 WV):=.go
theorem zfl(T:Txt K mg a) (F:Fun K "_law_spun" "_law_spun" WV f fd) :
  FP P w K mg base 1 f fd ["cell","many"] (FA K a) :=
 F.okF (T2 K a) KE zbu zbt λ_ _ _ _ _ E hr hx=>(AL (A9 2 KE.nd (AO BK (AO BP (AB 0) AN) AN))
   (AL (A9 3 KE.nd (AO BK (AO BP (AO FJ (AB 0) AN) AN) AN))
   (AL (A9 4 KE.nd (CO AH))
   (AL (ET hx.po rfl (C3 rfl T.C1 (AE (AB 1) AH)) (BF 5 KE.nd) (AL (A9 2 KE.nd (AO BP (AO BK (AO EW (AB 2) AN) (AB 3)) AN))
   (AL (A9 3 KE.nd (AO BP (AO BK (AO BK (AO EW (AB 3) AN) (AO EW (AB 2) (AB 2))) (AB 5)) AN))
   (AV (DB (FO PySem.F.plainAttrs_list PySem.F.slot_list_append PySem.F.type_list_append ID (AB 4) (AE (AO BK (AB 2) (AB 3)) AH)))))))
   (AV (BD (AB 4)))))))
abbrev WW:Stmt:=BG 39
theorem WX:FnScope ["view","led","cell"] ["view"] (A0 WW):=.go
theorem zfm(T:Txt K mg a) (F:Fun K "_law_led" "_law_led" WW f fd) :
  FP P w K mg base 1 f fd ["view"] (HS K a) :=
 F.okF (T3 K a) WX zcn zcm λ_ _ _ _ _ E hr hx=>(AL (A9 1 WX.nd (AO EW (CO (AE AN AH)) (B7 CL rfl T.CM (by rfl) (AE (AT (AB 0)) AH))))
   (AL (ET hx.po rfl (DQ (AT (AB 0))) (BF 2 WX.nd) (AV (B6 (A7 HG (AB 2) CY (A1 _)) (AV (DL (AO BK (AY AZ (AB 1) (AT (AB 2)) (λ_ _=>rfl)) AN) (DK (AB 1) (AT (AB 2)) DH))) CH)))
   (AV (BD (AB 1)))))
abbrev WY:Stmt:=BG 40
theorem pH:FnScope ["view"] ["view"] (A0 WY):=.go
theorem pI:(["k","view"]:List Str).Nodup:=by decide +kernel
theorem zfn(T:Txt K mg a) (F:Fun K "_law_free_names" "_law_free_names" WY f fd) :
  FP P w K mg base 1 f fd ["view"] (FB K a) :=
 F.okF (T4 K a) pH zch zcg λ_ _ _ _ _ E hr hx=>(AV (BD (DD (tn:=["k"]) (cn:=["view"]) (cap:=[0]) pH.cp rfl (C3 rfl T.C1 (AE (B7 CL rfl T.CM (by rfl) (AE (AT (AB 0)) AH)) AH)) (λ_ _ _ _ _ _=>(BF 0 pI)) (λ_ _ _ _ _ _=>(C5 (A7 GS (AY AZ (AT (AB 1)) (AB 0) (λ_ _=>rfl)) CY (A1 _)))) (λ_ _ _ _ _ _=>(AB 0)))))
abbrev WZ:Stmt:=BG 41
theorem pJ:FnScope ["view"] ["view"] (A0 WZ):=.go
theorem N3:(["r","view"]:List Str).Nodup:=by decide +kernel
theorem zfo(T:Txt K mg a) (F:Fun K "_law_free_records" "_law_free_records" WZ f fd) :
  FP P w K mg base 1 f fd ["view"] (JX K a) :=
 F.okF (T5 K a) pJ zcj zci λ_ _ _ _ _ E hr hx=>(AV (BD (DD (tn:=["r"]) (cn:=["view"]) (cap:=[0]) pJ.cp rfl (C3 rfl T.C1 (AE (B7 CL rfl T.CM (by rfl) (AE (AT (AB 0)) AH)) AH)) (λ_ _ _ _ _ _=>(BF 0 N3)) (λ_ _ _ _ _ _=>(C5 (PW.pt (HD (A7 GS (AY AZ (AT (AB 1)) (AB 0) (λ_ _=>rfl)) CY (A1 _)) (HC (A7 GS (AY AZ (AT (AB 1)) (AB 0) (λ_ _=>rfl)) CY (A1 _))))))) (λ_ _ _ _ _ _=>(AB 0)))))
abbrev W1:Stmt:=BG 42
theorem pK:FnScope ["view"] ["view"] (A0 W1):=.go
theorem zfp:(["p","view"]:List Str).Nodup:=by decide +kernel
theorem zfq(T:Txt K mg a) (F:Fun K "_law_free_pieces" "_law_free_pieces" W1 f fd) :
  FP P w K mg base 1 f fd ["view"] (JY K a) :=
 F.okF (T6 K a) pK zcl zck λ_ _ _ _ _ E hr hx=>(AV (BD (DD (tn:=["p"]) (cn:=["view"]) (cap:=[0]) pK.cp rfl (C3 rfl T.C1 (AE (B7 CL rfl T.CM (by rfl) (AE (AT (AB 0)) AH)) AH)) (λ_ _ _ _ _ _=>(BF 0 zfp)) (λ_ _ _ _ _ _=>(C5 (PW.pt (HD (A7 GS (AY AZ (AT (AB 1)) (AB 0) (λ_ _=>rfl)) CY (A1 _)) (HC (A7 GS (AY AZ (AT (AB 1)) (AB 0) (λ_ _=>rfl)) CY (A1 _))))))) (λ_ _ _ _ _ _=>(AB 0)))))
abbrev W2:Stmt:=BG 50
theorem pL:FnScope ["view"] ["view"] (A0 W2):=.go
theorem zfr:(["part"]:List Str).Nodup:=by decide +kernel
theorem zfs(T:Txt K mg a) (F:Fun K "_law_copy" "_law_copy" W2 f fd) :
  FP P w K mg base 1 f fd ["view"] (NJ K a) :=
 F.okF (T7 K a) pL zdi zdh λ_ _ _ _ _ E hr hx=>(AV (BD (DD (tn:=["part"]) (cn:=[]) (cap:=[]) pL.cp rfl (DQ (AB 0)) (λ_ _ _ _ _ _=>(BF 0 zfr)) (λ_ _ _ _ _ _=>ED) (λ_ _ _ _ _ _=>(HH PK rfl T.Q5 (by rfl) (AE (AB 0) AH))))))
abbrev W3:Stmt:=BG 16
theorem KF:FnScope ["view","shared","empty","few"] ["view"] (A0 W3):=.go
theorem zft(T:Txt K mg a)(Q4:B9 P w K mg base (a "View") 1 "pieces_named" ["self"] (IS K a))(YZ:B9 P w K mg base (a "View") 1 "records_standing" ["self"] (JT K a))(YY:B9 P w K mg base (a "View") 1 "count_of" ["self","record"] (JU K a))(F:Fun K "faults_of_things" "faults_of_things" W3 f fd) :
  FP P w K mg base 2 f fd ["view"] (M3 K a) :=
 F.okF (T8 K a) KF za2 za1 λ_ _ _ _ _ E hr hx=>(AL (D7 (i:=1) (tn:=["piece"]) (cn:=["view"]) (cap:=[0]) KF.cp rfl KF.nd rfl rfl (DQ (EE (AB 0) T.HZ Q4 hr.m hx.passes)) (λ_ _ _ _ _ _=>(BF 0 QW)) (λ_ _ _ _ _ _=>(C5 (A7 II (AY AZ (BY (AB 1) rfl) (AB 0) (λ_ _=>rfl)) AN (A1 _)))) (λ_ _ _ _ _ _=>(CB (AE B3 (AE (AB 0) AH)))))
   (AL (D7 (i:=2) (tn:=["piece"]) (cn:=["view"]) (cap:=[0]) KF.cp rfl KF.nd rfl rfl (DQ (EE (AB 0) T.HZ Q4 hr.m hx.passes)) (λ_ _ _ _ _ _=>(BF 0 QW)) (λ_ _ _ _ _ _=>(C5 (A7 GS (AY AZ (BY (AB 1) rfl) (AB 0) (λ_ _=>rfl)) CY (A1 _)))) (λ_ _ _ _ _ _=>(CB (AE B3 (AE (AB 0) AH)))))
   (AL (D7 (i:=3) (tn:=["record"]) (cn:=["view"]) (cap:=[0]) KF.cp rfl KF.nd rfl rfl (DQ (EE (AB 0) T.HZ YZ hr.m hx.passes)) (λ_ _ _ _ _ _=>(BF 0 WI)) (λ_ _ _ _ _ _=>(C5 (A7 PD (C6 (AB 1) T.HZ YY hr.m HL (AE (AB 0) AH)) (AY AZ (BY (AB 1) rfl) (AB 0) (λ_ _=>rfl)) (A1 _)))) (λ_ _ _ _ _ _=>(CB (AE B3 (AE (AB 0) AH)))))
   (AV (BD (AO BK (AO BK (AB 1) (AB 2)) (AB 3)))))))
abbrev W8:Stmt:=BG 17
theorem KG:FnScope ["view","led_to","records","pieces"] ["view"] (A0 W8):=.go
theorem pM:(["record","many"]:List Str).Nodup:=by decide +kernel
theorem zfu(T:Txt K mg a)(Q4:B9 P w K mg base (a "View") 1 "pieces_named" ["self"] (IS K a))(F:Fun K "faults_of_marks" "faults_of_marks" W8 f fd) :
  FP P w K mg base 2 f fd ["view"] (M4 K a) :=
 F.okF (T9 K a) KG za0 zaz λ_ _ _ _ _ E hr hx=>(AL (D7 (i:=1) (tn:=["record","many"]) (cn:=[]) (cap:=[]) KG.cp rfl KG.nd rfl rfl (IK rfl T.IZ (AE (BY (AB 0) rfl) AH)) (λ_ _ _ _ _ _=>(HF rfl (D6 (BF 0 pM) (D6 (BF 1 pM) HE)))) (λ_ _ _ _ _ _=>(C5 (A7 II (AB 1) AN (A1 _)))) (λ_ _ _ _ _ _=>(AB 0)))
   (AL (D7 (i:=2) (tn:=["record"]) (cn:=["view"]) (cap:=[0]) KG.cp rfl KG.nd rfl rfl (DQ (AB 1)) (λ_ _ _ _ _ _=>(BF 0 WI)) (λ_ _ _ _ _ _=>(C5 (A7 (FS hr.units) (AY AZ (BY (AB 1) rfl) (AB 0) (λ_ _=>rfl)) AN (A1 _)))) (λ_ _ _ _ _ _=>(CB (AE B3 (AE B3 (AE (AB 0) AH))))))
   (AL (D7 (i:=3) (tn:=["piece"]) (cn:=["view"]) (cap:=[0]) KG.cp rfl KG.nd rfl rfl (DQ (EE (AB 0) T.HZ Q4 hr.m hx.passes)) (λ_ _ _ _ _ _=>(BF 0 QW)) (λ_ _ _ _ _ _=>(C5 (A7 (FS hr.units) (AY AZ (BY (AB 1) rfl) (AB 0) (λ_ _=>rfl)) AN (A1 _)))) (λ_ _ _ _ _ _=>(CB (AE B3 (AE B3 (AE (AB 0) AH))))))
   (AV (BD (AO BK (AB 2) (AB 3)))))))
abbrev W9:Stmt:=BG 19
theorem N5:FnScope ["view","many","left","record","leads"] ["view"] (A0 W9):=.go
theorem zfv(T:Txt K mg a)(YZ:B9 P w K mg base (a "View") 1 "records_standing" ["self"] (JT K a))(YY:B9 P w K mg base (a "View") 1 "count_of" ["self","record"] (JU K a))(F:Fun K "leavings_of_records" "leavings_of_records" W9 f fd) :
  FP P w K mg base 2 f fd ["view"] (M5 K a) :=
 F.okF (UA K a) N5 za5 za4 λ_ _ _ _ _ E hr hx=>(AL (A9 1 N5.nd (CO AH))
   (AL (A9 2 N5.nd (CO AH))
   (AL (ET hx.po rfl (DQ (EE (AB 0) T.HZ YZ hr.m hx.passes)) (BF 3 N5.nd) (AL (A9 4 N5.nd (AY AZ (BY (AB 0) rfl) (AB 3) (λ_ _=>rfl)))
   (AV (B6 (A7 (CK hr.units) (AB 4) AN (A1 _)) (AV (DB (FO PySem.F.plainAttrs_list PySem.F.slot_list_append PySem.F.type_list_append ID (AB 2) (AE (CB (AE B3 (AE B3 (AE (AB 3) AH)))) AH)))) (AV (B6 (A7 II (C6 (AB 0) T.HZ YY hr.m hx.passes (AE (AB 3) AH)) (AB 4) (A1 _)) (AV (DB (FO PySem.F.plainAttrs_list PySem.F.slot_list_append PySem.F.type_list_append ID (AB 1) (AE (CB (AE B3 (AE (AB 3) (AE (AB 4) AH)))) AH)))) CH))))))
   (AV (BD (AO BK (AB 1) (AB 2)))))))
abbrev XA:Stmt:=DP (BG 30) 4
theorem zfw:FnScope ["self","block"] ["self","block"] (A0 XA):=.go
theorem zfx(T:Txt K mg a)(YW:B9 P w K mg base (a "Plank") 1 "ask_for_block" ["self","block"] (HP K a))(F:Fun K "read" "Plank.read" XA f fd) :
  FP P w K mg base 2 f fd ["self","block"] (E6 K a) :=
 F.okF (UB K a) zfw Yl Yd λ_ _ _ _ _ E hr hx=>(AL (DB (C6 (AB 0) T.ES YW hr.m hx.passes (AE (AB 1) AH)))
   (AV (BD (HH PK rfl T.Q5 (by rfl) (AE (AY AZ (BY (AB 0) rfl) (AB 1) (λ_ _=>rfl)) AH)))))
abbrev XB:Stmt:=DP (BG 30) 5
theorem zfy:FnScope ["self","block","values"] ["self","block","values"] (A0 XB):=.go
theorem zfz(T:Txt K mg a)(YW:B9 P w K mg base (a "Plank") 1 "ask_for_block" ["self","block"] (HP K a))(F:Fun K "write" "Plank.write" XB f fd) :
  FP P w K mg base 2 f fd ["self","block","values"] (JN K a) :=
 F.okF (UC K a) zfy Ym Yg λ_ _ _ _ _ E hr hx=>(AL (DB (C6 (AB 0) T.ES YW hr.m hx.passes (AE (AB 1) AH)))
   (AL (B6 (A7 (FS hr.units) (B7 CL rfl T.CM (by rfl) (AE (AB 2) AH)) (BY (AB 0) rfl) (A1 _)) (AV (R6 hx T.p7 rfl T.p6 (AE B3 AH))) CH)
   (AL (DL (HH aW rfl T.p5 (by rfl) (AE (AB 2) AH)) (DK (BY (AB 0) rfl) (AB 1) DH))
   (AV (sG (AB 0) AN ZM)))))
abbrev XC:Stmt:=DP (BG 32) 1
theorem zf0:FnScope ["self","k"] ["self","k"] (A0 XC):=.go
theorem zf1(T:Txt K mg a)(HY:B9 P w K mg base (a "Layout") 1 "place_from" ["self","block","k"] (E7 K a))(F:Fun K "name_at" "Layout.name_at" XC f fd) :
  FP P w K mg base 2 f fd ["self","k"] (MU K a) :=
 F.okF (UD K a) zf0 Zq Yz λ_ _ _ _ _ E hr hx=>(AV (BD (C6 (AB 0) T.DU HY hr.m hx.passes (AE AN (AE (AB 1) AH)))))
abbrev XD:Stmt:=DP (BG 32) 2
theorem zf2:FnScope ["self","k"] ["self","k"] (A0 XD):=.go
theorem zf3(T:Txt K mg a)(HY:B9 P w K mg base (a "Layout") 1 "place_from" ["self","block","k"] (E7 K a))(F:Fun K "record_at" "Layout.record_at" XD f fd) :
  FP P w K mg base 2 f fd ["self","k"] (IP K a) :=
 F.okF (UE K a) zf2 Zv Zb λ_ _ _ _ _ E hr hx=>(AV (BD (C6 (AB 0) T.DU HY hr.m hx.passes (AE (BY (AB 0) rfl) (AE (AB 1) AH)))))
abbrev XF:Stmt:=DP (BG 32) 3
theorem zf4:FnScope ["self","k"] ["self","k"] (A0 XF):=.go
theorem zf5(T:Txt K mg a)(HY:B9 P w K mg base (a "Layout") 1 "place_from" ["self","block","k"] (E7 K a))(F:Fun K "piece_at" "Layout.piece_at" XF f fd) :
  FP P w K mg base 2 f fd ["self","k"] (MV K a) :=
 F.okF (UF K a) zf4 Zw Zc λ_ _ _ _ _ E hr hx=>(AV (BD (C6 (AB 0) T.DU HY hr.m hx.passes (AE (AO BK (BY (AB 0) rfl) (BY (AB 0) rfl)) (AE (AB 1) AH)))))
abbrev XG:Stmt:=DP (BG 32) 4
theorem zf6:FnScope ["self","k"] ["self","k"] (A0 XG):=.go
theorem zf7(T:Txt K mg a)(OE:B9 P w K mg base (a "Layout") 1 "blocks_ahead_of_marks" ["self"] (HQ K a))(HY:B9 P w K mg base (a "Layout") 1 "place_from" ["self","block","k"] (E7 K a))(F:Fun K "record_mark" "Layout.record_mark" XG f fd) :
  FP P w K mg base 2 f fd ["self","k"] (IQ K a) :=
 F.okF (UG K a) zf6 Zx Zd λ_ _ _ _ _ E hr hx=>(AV (BD (C6 (AB 0) T.DU HY hr.m hx.passes (AE (EE (AB 0) T.DU OE hr.m hx.passes) (AE (AB 1) AH)))))
abbrev XH:Stmt:=DP (BG 32) 5
theorem zf8:FnScope ["self","k"] ["self","k"] (A0 XH):=.go
theorem zf9(T:Txt K mg a)(OE:B9 P w K mg base (a "Layout") 1 "blocks_ahead_of_marks" ["self"] (HQ K a))(HY:B9 P w K mg base (a "Layout") 1 "place_from" ["self","block","k"] (E7 K a))(F:Fun K "piece_mark" "Layout.piece_mark" XH f fd) :
  FP P w K mg base 2 f fd ["self","k"] (JO K a) :=
 F.okF (UH K a) zf8 Zy Zg λ_ _ _ _ _ E hr hx=>(AV (BD (C6 (AB 0) T.DU HY hr.m hx.passes (AE (AO BK (EE (AB 0) T.DU OE hr.m hx.passes) (BY (AB 0) rfl)) (AE (AB 1) AH)))))
abbrev XI:Stmt:=DP (BG 32) 7
theorem zga:FnScope ["self"] ["self"] (A0 XI):=.go
theorem zgb(T:Txt K mg a)(OE:B9 P w K mg base (a "Layout") 1 "blocks_ahead_of_marks" ["self"] (HQ K a))(F:Fun K "blocks" "Layout.blocks" XI f fd) :
  FP P w K mg base 2 f fd ["self"] (MW K a) :=
 F.okF (UI K a) zga zaa Zj λ_ _ _ _ _ E hr hx=>(AV (BD (AO BK (AO BK (EE (AB 0) T.DU OE hr.m hx.passes) (BY (AB 0) rfl)) (BY (AB 0) rfl))))
abbrev XJ:Stmt:=BG 36
theorem FG:FnScope ["cell","many","letters","xs","size","first","second","names","k","word","j","step"] ["cell","many"] (A0 XJ):=.go
theorem zgc:(["k","letters","xs"]:List Str).Nodup:=by decide +kernel
theorem zgd(T:Txt K mg a)(HX:BH P w K mg base (1) "_law_spun" ["cell","many"] (FA K a))(F:Fun K "_law_names" "_law_names" XJ f fd) :
  FP P w K mg base 2 f fd ["cell","many"] (ND K a) :=
 F.okF (UJ K a) FG zdb zda λ_ _ _ _ _ E hr hx=>(AL (FH (i:=2) FG.nd rfl (Or.inr rfl) B3)
   (AL (FH (i:=3) FG.nd rfl (Or.inr rfl) (BC HX hr.m hx.passes rfl (AE (AO FJ (AB 0) AN) (AE AN AH))))
   (AL (B6 (A7 (CK hr.units) (AO BP (AB 0) AN) AN (A1 _)) (AV (BD (DD (tn:=["k"]) (cn:=["letters","xs"]) (cap:=[2,3]) FG.cp rfl (C3 rfl T.C1 (AE (AB 1) AH)) (λ_ _ _ _ _ _=>(BF 0 zgc)) (λ_ _ _ _ _ _=>ED) (λ_ _ _ _ _ _=>(AO EW (AY AZ (AB 1) (AO BP (AO BK (AT (AB 2)) (AO FJ (AB 0) AN)) AN) (λ_ _=>rfl)) (AO BK AN (AO BP (AB 0) AN))))))) CH)
   (AL (A9 4 FG.nd (AO BK AN (AO BP (AT (AB 3)) AN)))
   (AL (A9 5 FG.nd (AO BP (AT (AB 3)) (AB 4)))
   (AL (A9 6 FG.nd (AO BP (AO BK (AO BK (AB 5) AN) (AO BP (AT (AB 3)) (AO OS (AB 4) AN))) (AB 4)))
   (AL (A9 7 FG.nd (CO AH))
   (AL (ET hx.po rfl (C3 rfl T.C1 (AE (AB 1) AH)) (BF 8 FG.nd) (AL (A9 9 FG.nd B3)
   (AL (ET hx.po rfl (C3 rfl T.C1 (AE (AB 4) AH)) (BF 10 FG.nd) (AL (A9 11 FG.nd (AO BK (AO EW (AB 8) (HH RE rfl T.Y1 (by rfl) (AE (MA (CK hr.units) (AB 10) (AB 5) (A1 _)) AH))) (AO EW (AO FJ (AB 8) AN) (HH RE rfl T.Y1 (by rfl) (AE (MA (CK hr.units) (AB 10) (AB 6) (A1 _)) AH)))))
   (AV (A9 9 FG.nd (AO BK (AB 9) (AY AZ (AB 2) (AO BP (AO BK (AY AZ (AB 3) (AO BK AN (AB 10)) (λ_ _=>rfl)) (AB 11)) AN) (λ_ _=>rfl)))))))
   (AV (DB (FO PySem.F.plainAttrs_list PySem.F.slot_list_append PySem.F.type_list_append ID (AB 7) (AE (AB 9) AH)))))))
   (AV (BD (AB 7)))))))))))
abbrev XL:Stmt:=BG 37
theorem KH:FnScope ["cell","signs","xs","size"] ["cell"] (A0 XL):=.go
theorem zge:(["k","signs","xs"]:List Str).Nodup:=by decide +kernel
theorem zgf(T:Txt K mg a)(HX:BH P w K mg base (1) "_law_spun" ["cell","many"] (FA K a))(F:Fun K "_law_text" "_law_text" XL f fd) :
  FP P w K mg base 2 f fd ["cell"] (JW K a) :=
 F.okF (UL K a) KH zby zbx λ_ _ _ _ _ E hr hx=>(AL (FH (i:=1) KH.nd rfl (Or.inr rfl) B3)
   (AL (FH (i:=1) KH.nd rfl (Or.inr rfl) (AO BK (AB 1) B3))
   (AL (FH (i:=2) KH.nd rfl (Or.inr rfl) (BC HX hr.m hx.passes rfl (AE (AB 0) (AE AN AH))))
   (AL (A9 3 KH.nd (AO BK AN (AO BP (AT (AB 2)) AN)))
   (AL (B6 (A7 (CK hr.units) (AO BP (AO FJ (AT (AB 2)) AN) AN) AN (A1 _)) (AV (A9 3 KH.nd AN)) CH)
   (AV (BD (FO PySem.F.plainAttrs_str PySem.F.slot_str_join PySem.F.type_str_join Ab B3 (AE (DD (tn:=["k"]) (cn:=["signs","xs"]) (cap:=[1,2]) KH.cp rfl (C3 rfl T.C1 (AE (AB 3) AH)) (λ_ _ _ _ _ _=>(BF 0 zge)) (λ_ _ _ _ _ _=>ED) (λ_ _ _ _ _ _=>(AY AZ (AB 1) (AO BP (AO BK (AT (AB 2)) (AO EW (AB 0) (AT (AB 2)))) AN) (λ_ _=>rfl)))) AH)))))))))
abbrev XM:Stmt:=BG 38
theorem XN:FnScope ["cell","xs","most"] ["cell"] (A0 XM):=.go
theorem zgg(T:Txt K mg a)(HX:BH P w K mg base (1) "_law_spun" ["cell","many"] (FA K a))(F:Fun K "_law_layout" "_law_layout" XM f fd) :
  FP P w K mg base 2 f fd ["cell"] (NB K a) :=
 F.okF (UN K a) XN zbw zbv λ_ _ _ _ _ E hr hx=>(AL (A9 1 XN.nd (BC HX hr.m hx.passes rfl (AE (AO FJ (AB 0) AN) (AE AN AH))))
   (AL (A9 2 XN.nd (qR (A7 (CK hr.units) (AO BP (AO FJ (AB 0) AN) AN) AN (A1 _)) AN AN))
   (AV (BD (CB (AE (AO BK AN (AO BP (AT (AB 1)) (AB 2))) (AE (AO BK AN (AO BP (AT (AB 1)) (AB 2))) (AE (AO BK AN (AO BP (AT (AB 1)) (AB 2))) (AE (AO BK AN (AO BP (AB 0) AN)) AH)))))))))
abbrev XO:Stmt:=BG 44
theorem XQ:FnScope ["view","names","r","number","free","word"] ["view","names","r","number"] (A0 XO):=.go
theorem zgh(T:Txt K mg a)(HW:BH P w K mg base (1) "_law_free_names" ["view"] (FB K a))(F:Fun K "_law_named" "_law_named" XO f fd) :
  FP P w K mg base 2 f fd ["view","names","r","number"] (JZ K a) :=
 F.okF (UO K a) XQ zcp zco λ_ _ _ _ _ E hr hx=>(AL (A9 4 XQ.nd (BC HW hr.m hx.passes rfl (AE (AB 0) AH)))
   (AL (A9 5 XQ.nd (AY AZ (AB 1) (AO OS (B7 CL rfl T.CM (by rfl) (AE (AT (AB 0)) AH)) (B7 CL rfl T.CM (by rfl) (AE (AB 4) AH))) (λ_ _=>rfl)))
   (AV (DL (CB (AE (AB 5) (AE (AB 2) AH))) (DK (AT (AB 0)) (AY AZ (AB 4) (AO BP (AB 3) (B7 CL rfl T.CM (by rfl) (AE (AB 4) AH))) (λ_ _=>rfl)) DH)))))
abbrev XR:Stmt:=BG 49
theorem GR:FnScope ["view","led","records","found"] ["view"] (A0 XR):=.go
theorem zgi:(["r","led","view"]:List Str).Nodup:=by decide +kernel
theorem pN:(["r","led"]:List Str).Nodup:=by decide +kernel
theorem zgj:(["p"]:List Str).Nodup:=by decide +kernel
theorem zgk(T:Txt K mg a)(OC:BH P w K mg base (1) "_law_led" ["view"] (HS K a))(F:Fun K "_law_due" "_law_due" XR f fd) :
  FP P w K mg base 2 f fd ["view"] (NI K a) :=
 F.okF (UP K a) GR zc1 zc0 λ_ _ _ _ _ E hr hx=>(AL (FH (i:=1) GR.nd rfl (Or.inr rfl) (BC OC hr.m hx.passes rfl (AE (AB 0) AH)))
   (AL (D7 (i:=2) (tn:=["r"]) (cn:=["view"]) (cap:=[0]) GR.cp rfl GR.nd rfl rfl (C3 rfl T.C1 (AE (B7 CL rfl T.CM (by rfl) (AE (AB 1) AH)) AH)) (λ_ _ _ _ _ _=>(BF 0 N3)) (λ_ _ _ _ _ _=>(C5 (A7 HG (AY AZ (AT (AB 1)) (AB 0) (λ_ _=>rfl)) CY (A1 _)))) (λ_ _ _ _ _ _=>(AB 0)))
   (AL (D7 (i:=3) (tn:=["r"]) (cn:=["led","view"]) (cap:=[1,0]) GR.cp rfl GR.nd rfl rfl (DQ (AB 2)) (λ_ _ _ _ _ _=>(BF 0 zgi)) (λ_ _ _ _ _ _=>(C5 (PW.pt (HD (A7 II (AY AZ (AB 1) (AB 0) (λ_ _=>rfl)) AN (A1 _)) (HC (A7 II (AY AZ (AY AZ (AT (AB 2)) (AB 0) (λ_ _=>rfl)) AN (λ_ _=>rfl)) (AY AZ (AB 1) (AB 0) (λ_ _=>rfl)) (A1 _))))))) (λ_ _ _ _ _ _=>(CB (AE B3 (AE (AB 0) (AE (AY AZ (AB 1) (AB 0) (λ_ _=>rfl)) AH))))))
   (AL (A9 3 GR.nd (AO BK (AB 3) (DD (tn:=["r"]) (cn:=["led"]) (cap:=[1]) GR.cp rfl (DQ (AB 2)) (λ_ _ _ _ _ _=>(BF 0 pN)) (λ_ _ _ _ _ _=>(C5 (A7 (CK hr.units) (AY AZ (AB 1) (AB 0) (λ_ _=>rfl)) AN (A1 _)))) (λ_ _ _ _ _ _=>(CB (AE B3 (AE B3 (AE (AB 0) AH))))))))
   (AL (A9 3 GR.nd (AO BK (AB 3) (DD (tn:=["p"]) (cn:=[]) (cap:=[]) GR.cp rfl (DQ (B7 (Aq rfl) rfl T.zie (by rfl) (AE (AT (AB 0)) AH))) (λ_ _ _ _ _ _=>(BF 0 zgj)) (λ_ _ _ _ _ _=>ED) (λ_ _ _ _ _ _=>(CB (AE B3 (AE B3 (AE (AB 0) AH))))))))
   (AV (BD (AO BK (AB 3) (DD (tn:=["r"]) (cn:=["view"]) (cap:=[0]) GR.cp rfl (C3 rfl T.C1 (AE (B7 CL rfl T.CM (by rfl) (AE (AB 1) AH)) AH)) (λ_ _ _ _ _ _=>(BF 0 N3)) (λ_ _ _ _ _ _=>(C5 (PW.pt (HD (A7 (CK hr.units) (AY AZ (AT (AB 1)) (AB 0) (λ_ _=>rfl)) AN (A1 _)) (HC (A7 GS (AY AZ (AT (AB 1)) (AB 0) (λ_ _=>rfl)) CY (A1 _))))))) (λ_ _ _ _ _ _=>(CB (AE B3 (AE (AB 0) AH)))))))))))))
abbrev XS:Stmt:=BG 51
theorem LT:FnScope ["view","names","xs","free","records","k","r"] ["view","names","xs"] (A0 XS):=.go
theorem zgl(T:Txt K mg a)(HW:BH P w K mg base (1) "_law_free_names" ["view"] (FB K a))(F:Fun K "_law_lost" "_law_lost" XS f fd) :
  FP P w K mg base 2 f fd ["view","names","xs"] (EY K a) :=
 F.okF (UQ K a) LT zdl zdk λ_ _ _ _ _ E hr hx=>(AL (A9 3 LT.nd (BC HW hr.m hx.passes rfl (AE (AB 0) AH)))
   (AL (D7 (i:=4) (tn:=["r"]) (cn:=["view"]) (cap:=[0]) LT.cp rfl LT.nd rfl rfl (C3 rfl T.C1 (AE (B7 CL rfl T.CM (by rfl) (AE (AT (AB 0)) AH)) AH)) (λ_ _ _ _ _ _=>(BF 0 N3)) (λ_ _ _ _ _ _=>(C5 (A7 GS (AY AZ (AT (AB 1)) (AB 0) (λ_ _=>rfl)) CY (A1 _)))) (λ_ _ _ _ _ _=>(AB 0)))
   (AL (B6 (PW.pt (L7 (A7 (CK hr.units) (AB 3) (CO AH) (A1 _)) (L4 (A7 (CK hr.units) (AB 4) (CO AH) (A1 _))))) (AV (BD CY)) CH)
   (AL (A9 5 LT.nd (AY AZ (AB 3) (AO BP (AT (AB 2)) (B7 CL rfl T.CM (by rfl) (AE (AB 3) AH))) (λ_ _=>rfl)))
   (AL (A9 6 LT.nd (AY AZ (AB 4) (AO BP (AT (AB 2)) (B7 CL rfl T.CM (by rfl) (AE (AB 4) AH))) (λ_ _=>rfl)))
   (AL (DL (CB (AE (AY AZ (AB 1) (AO OS (B7 CL rfl T.CM (by rfl) (AE (AT (AB 0)) AH)) (B7 CL rfl T.CM (by rfl) (AE (AB 3) AH))) (λ_ _=>rfl)) (AE (AB 6) AH))) (DK (AT (AB 0)) (AB 5) DH))
   (AL (DL AN (DK (AT (AB 0)) (AB 6) DH))
   (AV (BD (CB (AE B3 (AE (AB 5) AH))))))))))))
abbrev XT:Stmt:=BG 14
theorem zgm:FnScope ["view"] ["view"] (A0 XT):=.go
theorem zgn(T:Txt K mg a)(zhi:BH P w K mg base (1) "faults_of_names" ["view"] (M0 K a))(zhj:BH P w K mg base (2) "faults_of_things" ["view"] (M3 K a))(zhh:BH P w K mg base (2) "faults_of_marks" ["view"] (M4 K a))(F:Fun K "faults_in" "faults_in" XT f fd) :
  FP P w K mg base 3 f fd ["view"] (JV K a) :=
 F.okF (UR K a) zgm zaw zav λ_ _ _ _ _ E hr hx=>(AV (BD (AO BK (AO BK (BC zhi hr.m hx.passes rfl (AE (AB 0) AH)) (BC zhj hr.m hx.passes rfl (AE (AB 0) AH))) (BC zhh hr.m hx.passes rfl (AE (AB 0) AH)))))
abbrev XU:Stmt:=BG 18
theorem zgo:FnScope ["view"] ["view"] (A0 XU):=.go
theorem zgp(T:Txt K mg a)(zhy:BH P w K mg base (2) "leavings_of_records" ["view"] (M5 K a))(zhz:BH P w K mg base (1) "left_pieces" ["view"] (M6 K a))(zh0:BH P w K mg base (1) "marked_records" ["view"] (M7 K a))(F:Fun K "leavings_in" "leavings_in" XU f fd) :
  FP P w K mg base 3 f fd ["view"] (M8 K a) :=
 F.okF (US K a) zgo zay zax λ_ _ _ _ _ E hr hx=>(AV (BD (AO BK (AO BK (BC zhy hr.m hx.passes rfl (AE (AB 0) AH)) (BC zhz hr.m hx.passes rfl (AE (AB 0) AH))) (BC zh0 hr.m hx.passes rfl (AE (AB 0) AH)))))
abbrev XV:Stmt:=BG 22
theorem pO:FnScope ["plank","places"] ["plank","places"] (A0 XV):=.go
theorem pP:(["block","cell","plank"]:List Str).Nodup:=by decide +kernel
theorem zgq(T:Txt K mg a)(IY:B9 P w K mg base (a "Plank") 2 "read" ["self","block"] (E6 K a))(F:Fun K "values_at" "values_at" XV f fd) :
  FP P w K mg base 3 f fd ["plank","places"] (G2 K a) :=
 F.okF (UT K a) pO za9 za8 λ_ _ _ _ _ E hr hx=>(AV (BD (DD (tn:=["block","cell"]) (cn:=["plank"]) (cap:=[0]) pO.cp rfl (DQ (AB 1)) (λ_ _ _ _ _ _=>(HF rfl (D6 (BF 0 pP) (D6 (BF 1 pP) HE)))) (λ_ _ _ _ _ _=>ED) (λ_ _ _ _ _ _=>(AY AZ (C6 (AB 2) T.ES IY hr.m HL (AE (AB 0) AH)) (AB 1) (λ_ _=>rfl))))))
abbrev XW:Stmt:=BG 27
theorem pQ:FnScope ["layout","plank","find","place"] ["layout","plank","find"] (A0 XW):=.go
theorem zgr(T:Txt K mg a)(Q1:B9 P w K mg base (a "Layout") 2 "record_at" ["self","k"] (IP K a))(IY:B9 P w K mg base (a "Plank") 2 "read" ["self","block"] (E6 K a))(Q2:B9 P w K mg base (a "Layout") 2 "record_mark" ["self","k"] (IQ K a))(YV:B9 P w K mg base (a "Layout") 2 "piece_mark" ["self","k"] (JO K a))(F:Fun K "mended_cells" "mended_cells" XW f fd) :
  FP P w K mg base 3 f fd ["layout","plank","find"] (NO K a) :=
 F.okF (LD K a) pQ zeb zea λ_ _ _ _ _ E hr hx=>(AL (B6 (A7 (CK hr.units) (AT (AB 2)) B3 (A1 _)) (AL (A9 3 pQ.nd (C6 (AB 0) T.DU Q1 hr.m hx.passes (AE (AT (AB 2)) AH)))
   (AV (BD (PQ (IE hr) (MG (AB 3) (CB (AE (AT (AB 2)) (AE (AY AZ (AY AZ (C6 (AB 1) T.ES IY hr.m hx.passes (AE (AT (AB 3)) AH)) (AT (AB 3)) (λ_ _=>rfl)) AN (λ_ _=>rfl)) AH))) O7) rfl rfl (by simp) (by simp))))) CH)
   (AL (B6 (A7 (CK hr.units) (AT (AB 2)) B3 (A1 _)) (AV (BD (PQ (IE hr) (MG (C6 (AB 0) T.DU Q2 hr.m hx.passes (AE (AT (AB 2)) AH)) AN O7) rfl rfl (by simp) (by simp)))) CH)
   (AL (B6 (A7 (CK hr.units) (AT (AB 2)) B3 (A1 _)) (AV (BD (PQ (IE hr) (MG (C6 (AB 0) T.DU Q1 hr.m hx.passes (AE (AT (AB 2)) AH)) CY (MG (C6 (AB 0) T.DU Q2 hr.m hx.passes (AE (AT (AB 2)) AH)) AN O7)) rfl rfl (by simp) (by simp)))) CH)
   (AV (BD (PQ (IE hr) (MG (C6 (AB 0) T.DU YV hr.m hx.passes (AE (AT (AB 2)) AH)) AN O7) rfl rfl (by simp) (by simp)))))))
abbrev XX:Stmt:=BG 28
theorem N6:FnScope ["plank","due","block","before","after"] ["plank","due"] (A0 XX):=.go
theorem pR:(["cell","value","due","block"]:List Str).Nodup:=by decide +kernel
theorem zgs(T:Txt K mg a)(Q3:B9 P w K mg base (a "Plank") 1 "blocks" ["self"] (IL K a))(IY:B9 P w K mg base (a "Plank") 2 "read" ["self","block"] (E6 K a))(YX:B9 P w K mg base (a "Plank") 2 "write" ["self","block","values"] (JN K a))(F:Fun K "write_due" "write_due" XX f fd) :
  FP P w K mg base 3 f fd ["plank","due"] (NP K a) :=
 F.okF (UV K a) N6 zef zee λ_ _ _ _ _ E hr hx=>(AV (ET hx.po rfl (C3 rfl T.C1 (AE (EE (AB 0) T.ES Q3 hr.m hx.passes) AH)) (Y7 (i:=2) N6.nd rfl (Or.inr rfl)) (AL (A9 3 N6.nd (C6 (AB 0) T.ES IY hr.m hx.passes (AE (AB 2) AH)))
   (AL (D7 (i:=4) (tn:=["cell","value"]) (cn:=["due","block"]) (cap:=[1,2]) N6.cp rfl N6.nd rfl rfl (IK rfl T.IZ (AE (AB 3) AH)) (λ_ _ _ _ _ _=>(HF rfl (D6 (BF 0 pR) (D6 (BF 1 pR) HE)))) (λ_ _ _ _ _ _=>ED) (λ_ _ _ _ _ _=>(uF (IE hr) (AB 2) (CB (AE (AB 3) (AE (AB 0) AH))) (AB 1) ⟨rfl,rfl,rfl,rfl⟩)))
   (AV (B6 (A7 (FS hr.units) (AB 4) (AB 3) (A1 _)) (AV (DB (C6 (AB 0) T.ES YX hr.m hx.passes (AE (AB 2) (AE (AB 4) AH))))) CH))))))
abbrev XY:Stmt:=DP (BG 32) 8
theorem zgt:FnScope ["self"] ["self"] (A0 XY):=.go
theorem zgu(T:Txt K mg a)(zh4:B9 P w K mg base (a "Layout") 2 "blocks" ["self"] (MW K a))(zib:KW P w K mg base (a "Plank") 1 "Plank" ["self","blocks","cells"] (MS K a))(F:Fun K "plank" "Layout.plank" XY f fd) :
  FP P w K mg base 3 f fd ["self"] (MY K a) :=
 F.okF (UW K a) zgt zac Zl λ_ _ _ _ _ E hr hx=>(AV (BD (O8 zib hr.m hx.passes rfl (AE (EE (AB 0) T.DU zh4 hr.m hx.passes) (AE (BY (AB 0) rfl) AH)))))
abbrev XZ:Stmt:=BG 43
theorem N7:FnScope ["view","xs","many","taken","k","free","p"] ["view","xs","many"] (A0 XZ):=.go
theorem zgv(T:Txt K mg a)(YO:BH P w K mg base (1) "_law_free_pieces" ["view"] (JY K a))(YS:BH P w K mg base (2) "_law_text" ["cell"] (JW K a))(F:Fun K "_law_pieces" "_law_pieces" XZ f fd) :
  FP P w K mg base 3 f fd ["view","xs","many"] (NE K a) :=
 F.okF (UX K a) N7 zcr zcq λ_ _ _ _ _ E hr hx=>(AL (A9 3 N7.nd (CO AH))
   (AL (ET hx.po rfl (C3 rfl T.C1 (AE (AB 2) AH)) (BF 4 N7.nd) (AL (A9 5 N7.nd (BC YO hr.m hx.passes rfl (AE (AB 0) AH)))
   (AV (B6 (A7 (FS hr.units) (AB 5) (CO AH) (A1 _)) (AL (A9 6 N7.nd (AY AZ (AB 5) (AO BP (AY AZ (AB 1) (AB 4) (λ_ _=>rfl)) (B7 CL rfl T.CM (by rfl) (AE (AB 5) AH))) (λ_ _=>rfl)))
   (AL (DL (BC YS hr.m hx.passes rfl (AE (AO FJ (AY AZ (AB 1) (AB 4) (λ_ _=>rfl)) AN) AH)) (DK (AT (AB 0)) (AB 6) DH))
   (AL (DL AN (DK (AT (AB 0)) (AB 6) DH))
   (AV (DB (FO PySem.F.plainAttrs_list PySem.F.slot_list_append PySem.F.type_list_append ID (AB 3) (AE (AB 6) AH))))))) CH))))
   (AV (BD (HH aW rfl T.p5 (by rfl) (AE (AB 3) AH))))))
abbrev X0:Stmt:=BG 46
theorem N9:FnScope ["view","names","xs","led","records","r"] ["view","names","xs"] (A0 X0):=.go
theorem zgw(T:Txt K mg a)(OC:BH P w K mg base (1) "_law_led" ["view"] (HS K a))(HW:BH P w K mg base (1) "_law_free_names" ["view"] (FB K a))(YR:BH P w K mg base (2) "_law_named" ["view","names","r","number"] (JZ K a))(F:Fun K "_law_more" "_law_more" X0 f fd) :
  FP P w K mg base 3 f fd ["view","names","xs"] (NF K a) :=
 F.okF (UY K a) N9 zcx zcw λ_ _ _ _ _ E hr hx=>(AL (FH (i:=3) N9.nd rfl (Or.inr rfl) (BC OC hr.m hx.passes rfl (AE (AB 0) AH)))
   (AL (D7 (i:=4) (tn:=["r"]) (cn:=["led"]) (cap:=[3]) N9.cp rfl N9.nd rfl rfl (C3 rfl T.C1 (AE (B7 CL rfl T.CM (by rfl) (AE (AB 3) AH)) AH)) (λ_ _ _ _ _ _=>(BF 0 pN)) (λ_ _ _ _ _ _=>(C5 (A7 II (AY AZ (AB 1) (AB 0) (λ_ _=>rfl)) AN (A1 _)))) (λ_ _ _ _ _ _=>(AB 0)))
   (AV (B6 (PW.pt (HD (A7 (FS hr.units) (AB 4) (CO AH) (A1 _)) (HC (A7 (FS hr.units) (BC HW hr.m hx.passes rfl (AE (AB 0) AH)) (CO AH) (A1 _))))) (AL (A9 5 N9.nd (AY AZ (AB 4) (AO BP (AT (AB 2)) (B7 CL rfl T.CM (by rfl) (AE (AB 4) AH))) (λ_ _=>rfl)))
   (AL (DL (CB (AE (AO BK (AY AZ (AY AZ (AT (AB 0)) (AB 5) (λ_ _=>rfl)) AN (λ_ _=>rfl)) AN) (AE (AY AZ (AY AZ (AT (AB 0)) (AB 5) (λ_ _=>rfl)) AN (λ_ _=>rfl)) AH))) (DK (AT (AB 0)) (AB 5) DH))
   (AV (DB (BC YR hr.m hx.passes rfl (AE (AB 0) (AE (AB 1) (AE (AB 5) (AE (AT (AB 2)) AH))))))))) CH))))
abbrev X6:Stmt:=BG 47
theorem OA:FnScope ["view","kind","xs","records","pieces","p"] ["view","kind","xs"] (A0 X6):=.go
theorem zgx(T:Txt K mg a)(YQ:BH P w K mg base (1) "_law_free_records" ["view"] (JX K a))(YO:BH P w K mg base (1) "_law_free_pieces" ["view"] (JY K a))(YS:BH P w K mg base (2) "_law_text" ["cell"] (JW K a))(F:Fun K "_law_alone" "_law_alone" X6 f fd) :
  FP P w K mg base 3 f fd ["view","kind","xs"] (NG K a) :=
 F.okF (U0 K a) OA zcz zcy λ_ _ _ _ _ E hr hx=>(AL (A9 3 OA.nd (BC YQ hr.m hx.passes rfl (AE (AB 0) AH)))
   (AL (A9 4 OA.nd (BC YO hr.m hx.passes rfl (AE (AB 0) AH)))
   (AL (B6 (PW.pt (HD (A7 (CK hr.units) (AB 1) AN (A1 _)) (HC (A7 (FS hr.units) (AB 3) (CO AH) (A1 _))))) (AV (DL AN (DK (AT (AB 0)) (AY AZ (AB 3) (AO BP (AT (AB 2)) (B7 CL rfl T.CM (by rfl) (AE (AB 3) AH))) (λ_ _=>rfl)) DH))) CH)
   (AL (B6 (PW.pt (HD (A7 (CK hr.units) (AB 1) AN (A1 _)) (HC (A7 (FS hr.units) (AB 4) (CO AH) (A1 _))))) (AL (A9 5 OA.nd (AY AZ (AB 4) (AO BP (AT (AB 2)) (B7 CL rfl T.CM (by rfl) (AE (AB 4) AH))) (λ_ _=>rfl)))
   (AL (DL AN (DK (AT (AB 0)) (AB 5) DH))
   (AV (DB (FO PySem.F.plainAttrs_list PySem.F.slot_list_append PySem.F.type_list_append ID (AT (AB 0)) (AE (AB 5) AH)))))) CH)
   (AV (B6 (PW.pt (HD (A7 (CK hr.units) (AB 1) AN (A1 _)) (HC (A7 (FS hr.units) (AB 4) (CO AH) (A1 _))))) (AL (A9 5 OA.nd (AY AZ (AB 4) (AO BP (AT (AB 2)) (B7 CL rfl T.CM (by rfl) (AE (AB 4) AH))) (λ_ _=>rfl)))
   (AL (DL (BC YS hr.m hx.passes rfl (AE (AT (AB 2)) AH)) (DK (AT (AB 0)) (AB 5) DH))
   (AV (DL (AY AZ (CO (AE AN (AE CY AH))) (AO BP (AT (AB 2)) AN) (λ_ _=>rfl)) (DK (AT (AB 0)) (AB 5) DH))))) CH))))))
abbrev X7:Stmt:=BG 52
theorem KI:FnScope ["view","names","xs","free","numbers","k","j","r"] ["view","names","xs"] (A0 X7):=.go
theorem zgy(T:Txt K mg a)(HW:BH P w K mg base (1) "_law_free_names" ["view"] (FB K a))(KK:BH P w K mg base (2) "_law_lost" ["view","names","xs"] (EY K a))(F:Fun K "_law_bad_name" "_law_bad_name" X7 f fd) :
  FP P w K mg base 3 f fd ["view","names","xs"] (NK K a) :=
 F.okF (U1 K a) KI zdn zdm λ_ _ _ _ _ E hr hx=>(AL (A9 3 KI.nd (BC HW hr.m hx.passes rfl (AE (AB 0) AH)))
   (AL (D7 (i:=4) (tn:=["k"]) (cn:=["view"]) (cap:=[0]) KI.cp rfl KI.nd rfl rfl (C3 rfl T.C1 (AE (B7 CL rfl T.CM (by rfl) (AE (AT (AB 0)) AH)) AH)) (λ_ _ _ _ _ _=>(BF 0 pI)) (λ_ _ _ _ _ _=>(C5 (A7 HG (AY AZ (AT (AB 1)) (AB 0) (λ_ _=>rfl)) CY (A1 _)))) (λ_ _ _ _ _ _=>(AB 0)))
   (AL (B6 (PW.pt (L7 (A7 (CK hr.units) (AB 3) (CO AH) (A1 _)) (L4 (A7 (CK hr.units) (AB 4) (CO AH) (A1 _))))) (AV (BD (BC KK hr.m hx.passes rfl (AE (AB 0) (AE (AB 1) (AE (AB 2) AH)))))) CH)
   (AL (A9 5 KI.nd (AY AZ (AB 3) (AO BP (AT (AB 2)) (B7 CL rfl T.CM (by rfl) (AE (AB 3) AH))) (λ_ _=>rfl)))
   (AL (A9 6 KI.nd (AY AZ (AB 4) (AO BP (AT (AB 2)) (B7 CL rfl T.CM (by rfl) (AE (AB 4) AH))) (λ_ _=>rfl)))
   (AL (A9 7 KI.nd (AY AZ (AY AZ (AT (AB 0)) (AB 6) (λ_ _=>rfl)) AN (λ_ _=>rfl)))
   (AL (DL (AY AZ (AT (AB 0)) (AB 6) (λ_ _=>rfl)) (DK (AT (AB 0)) (AB 5) DH))
   (AL (DL (CB (AE (AO BK (AY AZ (AY AZ (AT (AB 0)) (AB 7) (λ_ _=>rfl)) AN (λ_ _=>rfl)) AN) (AE (AY AZ (AY AZ (AT (AB 0)) (AB 7) (λ_ _=>rfl)) AN (λ_ _=>rfl)) AH))) (DK (AT (AB 0)) (AB 7) DH))
   (AV (BD (CB (AE B3 (AE (B7 (zE rfl) rfl T.zid (by rfl) (AE (AB 6) (AE (AB 5) AH))) AH)))))))))))))
abbrev X8:Stmt:=BG 53
theorem IX:FnScope ["view","names","xs","records","pieces","r","p"] ["view","names","xs"] (A0 X8):=.go
theorem zgz(T:Txt K mg a)(KK:BH P w K mg base (2) "_law_lost" ["view","names","xs"] (EY K a))(F:Fun K "_law_bad_piece" "_law_bad_piece" X8 f fd) :
  FP P w K mg base 3 f fd ["view","names","xs"] (NL K a) :=
 F.okF (U2 K a) IX zdu zdt λ_ _ _ _ _ E hr hx=>(AL (D7 (i:=3) (tn:=["r"]) (cn:=["view"]) (cap:=[0]) IX.cp rfl IX.nd rfl rfl (C3 rfl T.C1 (AE (B7 CL rfl T.CM (by rfl) (AE (AT (AB 0)) AH)) AH)) (λ_ _ _ _ _ _=>(BF 0 N3)) (λ_ _ _ _ _ _=>(C5 (A7 HG (AY AZ (AT (AB 1)) (AB 0) (λ_ _=>rfl)) CY (A1 _)))) (λ_ _ _ _ _ _=>(AB 0)))
   (AL (A9 4 IX.nd (CO AH))
   (AL (ET hx.po rfl (DQ (AB 3)) (BF 5 IX.nd) (AV (A9 4 IX.nd (AO BK (AB 4) (HH PK rfl T.Q5 (by rfl) (AE (AY AZ (AY AZ (AT (AB 0)) (AB 5) (λ_ _=>rfl)) AN (λ_ _=>rfl)) AH))))))
   (AL (B6 (A7 (CK hr.units) (AB 4) (CO AH) (A1 _)) (AV (BD (BC KK hr.m hx.passes rfl (AE (AB 0) (AE (AB 1) (AE (AB 2) AH)))))) CH)
   (AL (A9 6 IX.nd (AY AZ (AB 4) (AO BP (AT (AB 2)) (B7 CL rfl T.CM (by rfl) (AE (AB 4) AH))) (λ_ _=>rfl)))
   (AL (B6 (A7 (CK hr.units) (AO BP (AT (AB 2)) AN) AN (A1 _)) (AL (A9 5 IX.nd (AY AZ (AB 3) (AO BP (AT (AB 2)) (B7 CL rfl T.CM (by rfl) (AE (AB 3) AH))) (λ_ _=>rfl)))
   (AL (DL (CB (AE (AY AZ (AY AZ (AT (AB 0)) (AB 5) (λ_ _=>rfl)) AN (λ_ _=>rfl)) (AE (AO BK (AY AZ (AY AZ (AT (AB 0)) (AB 5) (λ_ _=>rfl)) AN (λ_ _=>rfl)) (CB (AE (AB 6) AH))) AH))) (DK (AT (AB 0)) (AB 5) DH))
   (AV (BD (CB (AE B3 (AE (AB 6) AH))))))) CH)
   (AL (B6 (A7 (CK hr.units) (AO BP (AT (AB 2)) AN) AN (A1 _)) (AL (DL CY (DK (AT (AB 0)) (AB 6) DH))
   (AV (BD (CB (AE B3 (AE (AB 6) AH)))))) CH)
   (AL (DL (AY AZ (CO (AE AN (AE CY AH))) (AO BP (AT (AB 2)) AN) (λ_ _=>rfl)) (DK (AT (AB 0)) (AB 6) DH))
   (AV (BD (CB (AE B3 (AE B3 (AE (AB 6) AH))))))))))))))
abbrev X9:Stmt:=BG 54
theorem LU:FnScope ["view","names","xs","led","least","records","r"] ["view","names","xs"] (A0 X9):=.go
theorem zg0:(["r","led","least"]:List Str).Nodup:=by decide +kernel
theorem zg1(T:Txt K mg a)(OC:BH P w K mg base (1) "_law_led" ["view"] (HS K a))(KK:BH P w K mg base (2) "_law_lost" ["view","names","xs"] (EY K a))(F:Fun K "_law_bad_record" "_law_bad_record" X9 f fd) :
  FP P w K mg base 3 f fd ["view","names","xs"] (NM K a) :=
 F.okF (U3 K a) LU zdp zdo λ_ _ _ _ _ E hr hx=>(AL (FH (i:=3) LU.nd rfl (Or.inr rfl) (BC OC hr.m hx.passes rfl (AE (AB 0) AH)))
   (AL (FH (i:=4) LU.nd rfl (Or.inr rfl) (AO BK AN (HH RE rfl T.Y1 (by rfl) (AE (MA (CK hr.units) (AO BP (AT (AB 2)) AN) AN (A1 _)) AH))))
   (AL (D7 (i:=5) (tn:=["r"]) (cn:=["led","least"]) (cap:=[3,4]) LU.cp rfl LU.nd rfl rfl (C3 rfl T.C1 (AE (B7 CL rfl T.CM (by rfl) (AE (AB 3) AH)) AH)) (λ_ _ _ _ _ _=>(BF 0 zg0)) (λ_ _ _ _ _ _=>(C5 (A7 vI (AY AZ (AB 1) (AB 0) (λ_ _=>rfl)) (AB 2) (A1 _)))) (λ_ _ _ _ _ _=>(AB 0)))
   (AL (B6 (A7 (CK hr.units) (AB 5) (CO AH) (A1 _)) (AV (BD (BC KK hr.m hx.passes rfl (AE (AB 0) (AE (AB 1) (AE (AB 2) AH)))))) CH)
   (AL (A9 6 LU.nd (AY AZ (AB 5) (AO BP (AT (AB 2)) (B7 CL rfl T.CM (by rfl) (AE (AB 5) AH))) (λ_ _=>rfl)))
   (AL (B6 (A7 (CK hr.units) (AB 4) AN (A1 _)) (AL (DL (CB (AE AN (AE (AY AZ (AY AZ (AT (AB 0)) (AB 6) (λ_ _=>rfl)) AN (λ_ _=>rfl)) AH))) (DK (AT (AB 0)) (AB 6) DH))
   (AV (BD (CB (AE B3 (AE (AB 6) AH)))))) CH)
   (AL (DL (AY AZ (CO (AE AN (AE CY AH))) (AO BP (AT (AB 2)) AN) (λ_ _=>rfl)) (DK (AT (AB 0)) (AB 6) DH))
   (AV (BD (CB (AE B3 (AE B3 (AE (AB 6) AH)))))))))))))
abbrev YA:Stmt:=BG 56
theorem YB:FnScope ["plank","view","cells","flat","k"] ["plank","view","cells"] (A0 YA):=.go
theorem zg2(T:Txt K mg a)(YX:B9 P w K mg base (a "Plank") 2 "write" ["self","block","values"] (JN K a))(F:Fun K "_law_write" "_law_write" YA f fd) :
  FP P w K mg base 3 f fd ["plank","view","cells"] (LA K a) :=
 F.okF (U4 K a) YB zdf zde λ_ _ _ _ _ E hr hx=>(AL (A9 3 YB.nd (AO BK (AO BK (AO BK (AO BK (AT (AB 1)) (AT (AB 1))) (AT (AB 1))) (AT (AB 1))) (AT (AB 1))))
   (AV (ET hx.po rfl (Bj rfl T.C1 (AE AN (AE (B7 CL rfl T.CM (by rfl) (AE (AB 3) AH)) (AE (AB 2) AH)))) (BF 4 YB.nd) (AV (DB (C6 (AB 0) T.ES YX hr.m hx.passes (AE (AO FJ (AB 4) (AB 2)) (AE (OW PJ (AB 3) (KQ (AB 4)) (KQ (AO BK (AB 4) (AB 2)))) AH))))))))
abbrev YC:Stmt:=DP (BG 11) 0
theorem G9:FnScope ["self","layout","plank","counts","records","pieces"] ["self","layout","plank"] (A0 YC):=.go
theorem OB:(["k","layout"]:List Str).Nodup:=by decide +kernel
theorem zg3:(["value"]:List Str).Nodup:=by decide +kernel
theorem zg4(T:Txt K mg a)(zh5:B9 P w K mg base (a "Layout") 1 "counts" ["self"] (MX K a))(zh6:B9 P w K mg base (a "Layout") 2 "name_at" ["self","k"] (MU K a))(OD:BH P w K mg base (3) "values_at" ["plank","places"] (G2 K a))(Q1:B9 P w K mg base (a "Layout") 2 "record_at" ["self","k"] (IP K a))(zh7:B9 P w K mg base (a "Layout") 2 "piece_at" ["self","k"] (MV K a))(Q2:B9 P w K mg base (a "Layout") 2 "record_mark" ["self","k"] (IQ K a))(YV:B9 P w K mg base (a "Layout") 2 "piece_mark" ["self","k"] (JO K a))(YU:BH P w K mg base (1) "tally" ["many","numbers"] (JS K a))(pZ:BH P w K mg base (1) "pieces_in" ["records"] (K7 K a))(zh9:B9 P w K mg base (a "View") 1 "records_led_to" ["self"] (MZ K a))(F:Fun K "__init__" "View.__init__" YC f fd) :
  FP P w K mg base 4 f fd ["self","layout","plank"] (IU K a) :=
 F.okF (U5 K a) G9 zbj zbi λ_ _ _ _ _ E hr hx=>(AL (A9 3 G9.nd (EE (AB 1) T.DU zh5 hr.m hx.passes))
   (AL (A9 4 G9.nd (AT (AB 3)))
   (AL (A9 5 G9.nd (AT (AB 3)))
   (AL (EL (AB 0) (BC OD hr.m hx.passes rfl (AE (AB 2) (AE (DD (tn:=["k"]) (cn:=["layout"]) (cap:=[1]) G9.cp rfl (C3 rfl T.C1 (AE (AT (AB 3)) AH)) (λ_ _ _ _ _ _=>(BF 0 OB)) (λ_ _ _ _ _ _=>ED) (λ_ _ _ _ _ _=>(C6 (AB 1) T.DU zh6 hr.m HL (AE (AB 0) AH)))) AH))) rfl)
   (AL (EL (AB 0) (BC OD hr.m hx.passes rfl (AE (AB 2) (AE (DD (tn:=["k"]) (cn:=["layout"]) (cap:=[1]) G9.cp rfl (C3 rfl T.C1 (AE (AB 4) AH)) (λ_ _ _ _ _ _=>(BF 0 OB)) (λ_ _ _ _ _ _=>ED) (λ_ _ _ _ _ _=>(C6 (AB 1) T.DU Q1 hr.m HL (AE (AB 0) AH)))) AH))) rfl)
   (AL (EL (AB 0) (BC OD hr.m hx.passes rfl (AE (AB 2) (AE (DD (tn:=["k"]) (cn:=["layout"]) (cap:=[1]) G9.cp rfl (C3 rfl T.C1 (AE (AB 5) AH)) (λ_ _ _ _ _ _=>(BF 0 OB)) (λ_ _ _ _ _ _=>ED) (λ_ _ _ _ _ _=>(C6 (AB 1) T.DU zh7 hr.m HL (AE (AB 0) AH)))) AH))) rfl)
   (AL (EL (AB 0) (BC OD hr.m hx.passes rfl (AE (AB 2) (AE (DD (tn:=["k"]) (cn:=["layout"]) (cap:=[1]) G9.cp rfl (C3 rfl T.C1 (AE (AB 4) AH)) (λ_ _ _ _ _ _=>(BF 0 OB)) (λ_ _ _ _ _ _=>ED) (λ_ _ _ _ _ _=>(C6 (AB 1) T.DU Q2 hr.m HL (AE (AB 0) AH)))) AH))) rfl)
   (AL (EL (AB 0) (BC OD hr.m hx.passes rfl (AE (AB 2) (AE (DD (tn:=["k"]) (cn:=["layout"]) (cap:=[1]) G9.cp rfl (C3 rfl T.C1 (AE (AB 5) AH)) (λ_ _ _ _ _ _=>(BF 0 OB)) (λ_ _ _ _ _ _=>ED) (λ_ _ _ _ _ _=>(C6 (AB 1) T.DU YV hr.m HL (AE (AB 0) AH)))) AH))) rfl)
   (AL (EL (AB 0) (BC YU hr.m hx.passes rfl (AE (AB 4) (AE (DD (tn:=["value"]) (cn:=[]) (cap:=[]) G9.cp rfl (DQ (BY (AB 0) rfl)) (λ_ _ _ _ _ _=>(BF 0 zg3)) (λ_ _ _ _ _ _=>(C5 (A7 HG (AB 0) CY (A1 _)))) (λ_ _ _ _ _ _=>(AT (AB 0)))) AH))) rfl)
   (AL (EL (AB 0) (BC YU hr.m hx.passes rfl (AE (AB 5) (AE (BC pZ hr.m hx.passes rfl (AE (BY (AB 0) rfl) AH)) AH))) rfl)
   (AV (EL (AB 0) (BC YU hr.m hx.passes rfl (AE (AB 5) (AE (BC pZ hr.m hx.passes rfl (AE (EE (AB 0) T.HZ zh9 hr.m hx.passes) AH)) AH))) rfl))))))))))))
abbrev YD:Stmt:=BG 45
theorem QZ:FnScope ["view","names","xs","with_name","records","r","pieces"] ["view","names","xs","with_name"] (A0 YD):=.go
theorem zg5(T:Txt K mg a)(YQ:BH P w K mg base (1) "_law_free_records" ["view"] (JX K a))(HW:BH P w K mg base (1) "_law_free_names" ["view"] (FB K a))(zhv:BH P w K mg base (3) "_law_pieces" ["view","xs","many"] (NE K a))(YR:BH P w K mg base (2) "_law_named" ["view","names","r","number"] (JZ K a))(F:Fun K "_law_record" "_law_record" YD f fd) :
  FP P w K mg base 4 f fd ["view","names","xs","with_name"] (K8 K a) :=
 F.okF (VD K a) QZ zcu zct λ_ _ _ _ _ E hr hx=>(AL (A9 4 QZ.nd (BC YQ hr.m hx.passes rfl (AE (AB 0) AH)))
   (AL (B6 (PW.pt (L7 (A7 (CK hr.units) (AB 4) (CO AH) (A1 _)) (L4 (PW.pt (HD (MB (AB 3) (λ_=>rfl)) (HC (A7 (CK hr.units) (BC HW hr.m hx.passes rfl (AE (AB 0) AH)) (CO AH) (A1 _)))))))) (AV qV) CH)
   (AL (A9 5 QZ.nd (AY AZ (AB 4) (AO BP (AT (AB 2)) (B7 CL rfl T.CM (by rfl) (AE (AB 4) AH))) (λ_ _=>rfl)))
   (AL (A9 6 QZ.nd (BC zhv hr.m hx.passes rfl (AE (AB 0) (AE (OW PJ (AB 2) (KQ AN) (KQ AN)) (AE (AO BP (AT (AB 2)) AN) AH)))))
   (AV (B6 (MB (AB 3) (λ_=>rfl)) (AL (DL (CB (AE (AO BK AN (AY AZ (CO (AE AN (AE AN (AE AN (AE AN (AE (AO OS (AO rJ AN AN) AN) AH)))))) (AO BP (AT (AB 2)) AN) (λ_ _=>rfl))) (AE (AB 6) AH))) (DK (AT (AB 0)) (AB 5) DH))
   (AL (DL AN (DK (AT (AB 0)) (AB 5) DH))
   (AV (DB (BC YR hr.m hx.passes rfl (AE (AB 0) (AE (AB 1) (AE (AB 5) (AE (AT (AB 2)) AH))))))))) (AL (DL (CB (AE (AO BK AN (AO BP (AT (AB 2)) AN)) (AE (AB 6) AH))) (DK (AT (AB 0)) (AB 5) DH))
   (AL (DL (AY AZ (CO (AE AN (AE AN (AE AN (AE CY AH))))) (AO BP (AO FJ (AT (AB 2)) AN) AN) (λ_ _=>rfl)) (DK (AT (AB 0)) (AB 5) DH))
   (AV (DB (FO PySem.F.plainAttrs_list PySem.F.slot_list_extend PySem.F.type_list_extend tR (AT (AB 0)) (AE (HH PK rfl T.Q5 (by rfl) (AE (AB 6) AH)) AH))))))))))))
abbrev YE:Stmt:=BG 55
theorem pT:FnScope ["view","names","xs","kind"] ["view","names","xs"] (A0 YE):=.go
theorem zg6(T:Txt K mg a)(KK:BH P w K mg base (2) "_law_lost" ["view","names","xs"] (EY K a))(zhm:BH P w K mg base (3) "_law_bad_name" ["view","names","xs"] (NK K a))(zhn:BH P w K mg base (3) "_law_bad_piece" ["view","names","xs"] (NL K a))(zho:BH P w K mg base (3) "_law_bad_record" ["view","names","xs"] (NM K a))(F:Fun K "_law_fault" "_law_fault" YE f fd) :
  FP P w K mg base 4 f fd ["view","names","xs"] (NN K a) :=
 F.okF (VE K a) pT zdr zdq λ_ _ _ _ _ E hr hx=>(AL (A9 3 pT.nd (AO BP (AT (AB 2)) AN))
   (AL (B6 (A7 (CK hr.units) (AB 3) AN (A1 _)) (AV (BD (BC KK hr.m hx.passes rfl (AE (AB 0) (AE (AB 1) (AE (AB 2) AH)))))) CH)
   (AL (B6 (A7 (CK hr.units) (AB 3) AN (A1 _)) (AV (BD (BC zhm hr.m hx.passes rfl (AE (AB 0) (AE (AB 1) (AE (AB 2) AH)))))) CH)
   (AL (B6 (A7 (z0 hr.units) (AB 3) (CB (AE AN (AE AN (AE AN AH)))) (by with_unfolding_all rfl)) (AV (BD (BC zhn hr.m hx.passes rfl (AE (AB 0) (AE (AB 1) (AE (AB 2) AH)))))) CH)
   (AV (BD (BC zho hr.m hx.passes rfl (AE (AB 0) (AE (AB 1) (AE (AB 2) AH))))))))))
abbrev YF:Stmt:=BG 48
theorem KJ:FnScope ["cells","sizes","names","many","view","cell","xs"] ["cells","sizes","names"] (A0 YF):=.go
theorem zg7:(["size","sizes"]:List Str).Nodup:=by decide +kernel
theorem zg8:(["k","many"]:List Str).Nodup:=by decide +kernel
theorem zg9(T:Txt K mg a)(HX:BH P w K mg base (1) "_law_spun" ["cell","many"] (FA K a))(pW:BH P w K mg base (4) "_law_record" ["view","names","xs","with_name"] (K8 K a))(zht:BH P w K mg base (3) "_law_more" ["view","names","xs"] (NF K a))(zhl:BH P w K mg base (3) "_law_alone" ["view","kind","xs"] (NG K a))(F:Fun K "_law_view" "_law_view" YF f fd) :
  FP P w K mg base 5 f fd ["cells","sizes","names"] (NH K a) :=
 F.okF (VF K a) KJ zc4 zc3 λ_ _ _ _ _ E hr hx=>(AL (FH (i:=3) KJ.nd rfl (Or.inr rfl) (DD (tn:=["size"]) (cn:=["sizes"]) (cap:=[1]) KJ.cp rfl (DQ (OW PJ (AB 1) ZV (KQ AN))) (λ_ _ _ _ _ _=>(BF 0 zg7)) (λ_ _ _ _ _ _=>ED) (λ_ _ _ _ _ _=>(AO EW (AB 0) (AT (AB 1))))))
   (AL (A9 4 KJ.nd (AO BK (DD (tn:=["k"]) (cn:=["many"]) (cap:=[3]) KJ.cp rfl (DQ (CO (AE AN (AE AN (AE AN (AE AN (AE AN AH))))))) (λ_ _ _ _ _ _=>(BF 0 zg8)) (λ_ _ _ _ _ _=>ED) (λ_ _ _ _ _ _=>(AO EW (CO (AE CY AH)) (AY AZ (AB 1) (AB 0) (λ_ _=>rfl))))) (CO (AE (CO AH) AH))))
   (AL (ET hx.po rfl (DQ (AB 0)) (BF 5 KJ.nd) (AL (A9 6 KJ.nd (BC HX hr.m hx.passes rfl (AE (AO FJ (AB 5) AN) (AE AN AH))))
   (AV (B6 (A7 PD (AO BP (AB 5) AN) AN (A1 _)) (AV (DB (BC pW hr.m hx.passes rfl (AE (AB 4) (AE (AB 2) (AE (AB 6) (AE JA AH))))))) (AV (B6 (A7 (CK hr.units) (AO BP (AB 5) AN) AN (A1 _)) (AV (DB (BC zht hr.m hx.passes rfl (AE (AB 4) (AE (AB 2) (AE (AB 6) AH)))))) (AV (B6 (A7 (CK hr.units) (AO BP (AB 5) AN) AN (A1 _)) (AV (DB (BC pW hr.m hx.passes rfl (AE (AB 4) (AE (AB 2) (AE (AB 6) (AE JA AH))))))) (AV (DB (BC zhl hr.m hx.passes rfl (AE (AB 4) (AE (AO BP (AB 5) AN) (AE (AB 6) AH))))))))))))))
   (AV (BD (AB 4))))))
abbrev YG:Stmt:=BG 12
theorem pU:FnScope ["layout","plank","view"] ["layout","plank"] (A0 YG):=.go
theorem zha(T:Txt K mg a)(Y0:KW P w K mg base (a "View") 4 "View" ["self","layout","plank"] (IU K a))(YM:BH P w K mg base (3) "faults_in" ["view"] (JV K a))(zhx:BH P w K mg base (3) "leavings_in" ["view"] (M8 K a))(F:Fun K "walk" "walk" YG f fd) :
  FP P w K mg base 6 f fd ["layout","plank"] (M9 K a) :=
 F.okF (VG K a) pU zbl zbk λ_ _ _ _ _ E hr hx=>(AL (A9 2 pU.nd (O8 Y0 hr.m hx.passes rfl (AE (AB 0) (AE (AB 1) AH))))
   (AV (BD (AO BK (BC YM hr.m hx.passes rfl (AE (AB 2) AH)) (BC zhx hr.m hx.passes rfl (AE (AB 2) AH))))))
abbrev YH:Stmt:=BG 13
theorem zhb:FnScope ["layout","plank"] ["layout","plank"] (A0 YH):=.go
theorem zhc(T:Txt K mg a)(Y0:KW P w K mg base (a "View") 4 "View" ["self","layout","plank"] (IU K a))(YM:BH P w K mg base (3) "faults_in" ["view"] (JV K a))(F:Fun K "is_sound" "is_sound" YH f fd) :
  FP P w K mg base 6 f fd ["layout","plank"] (NA K a) :=
 F.okF (VH K a) zhb zbn zbm λ_ _ _ _ _ E hr hx=>(AV (BD (MA (CK hr.units) (B7 CL rfl T.CM (by rfl) (AE (BC YM hr.m hx.passes rfl (AE (O8 Y0 hr.m hx.passes rfl (AE (AB 0) (AE (AB 1) AH))) AH)) AH)) AN (A1 _))))
abbrev YI:Stmt:=BG 26
theorem Q0:FnScope ["layout","plank","finds","due","find"] ["layout","plank"] (A0 YI):=.go
theorem zhd(T:Txt K mg a)(zhk:BH P w K mg base (6) "is_sound" ["layout","plank"] (NA K a))(zh2:BH P w K mg base (6) "walk" ["layout","plank"] (M9 K a))(zh1:BH P w K mg base (3) "mended_cells" ["layout","plank","find"] (NO K a))(zh3:BH P w K mg base (3) "write_due" ["plank","due"] (NP K a))(F:Fun K "mend" "mend" YI f fd) :
  FP P w K mg base 7 f fd ["layout","plank"] (J0 K a) :=
 F.okF (NR K a) Q0 zem zel λ_ _ _ _ _ E hr hx=>(AL (B6 (OJ (MB (BC zhk hr.m hx.passes rfl (AE (AB 0) (AE (AB 1) AH))) (λ_=>rfl))) (AV (R6 hx T.ziq rfl T.zio (AE B3 AH))) CH)
   (AL (A9 2 Q0.nd (BC zh2 hr.m hx.passes rfl (AE (AB 0) (AE (AB 1) AH))))
   (AL (A9 3 Q0.nd uA)
   (AL (ET hx.po rfl (DQ (AB 2)) (BF 4 Q0.nd) (AV (DB (FO PySem.F.plainAttrs_dict PySem.F.slot_dict_update PySem.F.type_dict_update (Cb (IE hr)) (AB 3) (AE (BC zh1 hr.m hx.passes rfl (AE (AB 0) (AE (AB 1) (AE (AB 4) AH)))) AH)))))
   (AL (DB (BC zh3 hr.m hx.passes rfl (AE (AB 1) (AE (AB 3) AH))))
   (AV (BD (AB 2))))))))
abbrev YJ:Stmt:=BG 57
theorem LV:FnScope ["layout","plank","right","other","e"] ["layout","plank"] (A0 YJ):=.go
theorem zhe(T:Txt K mg a)(YT:BH P w K mg base (7) "mend" ["layout","plank"] (J0 K a))(F:Fun K "_law_refused" "_law_refused" YJ f fd) :
  FP P w K mg base 8 f fd ["layout","plank"] (LC K a) :=
 F.okF (VJ K a) LV zeo zen λ_ _ _ _ _ E hr hx=>(AL (A9 2 LV.nd JA)
   (AL (A9 3 LV.nd JA)
   (AL (uV rfl rfl rfl rfl (λE1 _ _ hx1=>(AV (DB (BC YT hr.m hx1.passes rfl (AE (AB 0) (AE (AB 1) AH)))))) (uU (i:=4) LV.nd rfl rfl (uS rfl T.zin) (λ_=>(AL (A9 2 LV.nd (Y6 (B7 SC rfl T.Y2 (by rfl) (AE (AB 4) (AE (IF T.zil rfl) AH))) (Y5 (B7 SC rfl T.Y2 (by rfl) (AE (AB 4) (AE (qN rfl T.zic (by rfl) rfl) AH))))))
   (AV (A9 3 LV.nd (B7 SC rfl T.Y2 (by rfl) (AE (AB 4) (AE (CB (AE (IF T.zif rfl) (AE (IF T.zig rfl) (AE (IF T.zih rfl) (AE (IF T.zii rfl) (AE (IF T.zij rfl) (AE (IF T.zik rfl) (AE (IF T.zim rfl) AH)))))))) AH))))))) uQ))
   (AV (BD (Y6 (AB 2) (Y5 (vM (AB 3)))))))))
abbrev YK:Stmt:=BG 58
theorem FY:FnScope ["script","sizes","names","view","layout","plank","bad","fault","rows","writings"] ["script"] (A0 YK):=.go
theorem pV:(["k","plank"]:List Str).Nodup:=by decide +kernel
theorem zhf(T:Txt K mg a)(YN:BH P w K mg base (1) "_law_cell_at" ["script","k"] (HR K a))(zhs:BH P w K mg base (2) "_law_layout" ["cell"] (NB K a))(zhu:BH P w K mg base (2) "_law_names" ["cell","many"] (ND K a))(zhw:BH P w K mg base (5) "_law_view" ["cells","sizes","names"] (NH K a))(zia:KW P w K mg base (a "Layout") 1 "Layout" ["self","names","records","pieces","cells"] (K5 K a))(zh8:B9 P w K mg base (a "Layout") 3 "plank" ["self"] (MY K a))(zhp:BH P w K mg base (1) "_law_copy" ["view"] (NJ K a))(HX:BH P w K mg base (1) "_law_spun" ["cell","many"] (FA K a))(zhr:BH P w K mg base (4) "_law_fault" ["view","names","xs"] (NN K a))(pY:BH P w K mg base (3) "_law_write" ["plank","view","cells"] (LA K a))(Q3:B9 P w K mg base (a "Plank") 1 "blocks" ["self"] (IL K a))(IY:B9 P w K mg base (a "Plank") 2 "read" ["self","block"] (E6 K a))(p0:B9 P w K mg base (a "Plank") 1 "writings" ["self"] (K3 K a))(pX:BH P w K mg base (8) "_law_refused" ["layout","plank"] (LC K a))(YT:BH P w K mg base (7) "mend" ["layout","plank"] (J0 K a))(zhq:BH P w K mg base (2) "_law_due" ["view"] (NI K a))(F:Fun K "law" "law" YK f fd) :
  FP P w K mg base 9 f fd ["script"] (S5 K a) :=
 F.okF (VN K a) FY zer zeq λ_ _ _ _ _ E hr hx=>(AL (A9 1 FY.nd (BC zhs hr.m hx.passes rfl (AE (BC YN hr.m hx.passes rfl (AE (AB 0) (AE AN AH))) AH)))
   (AL (A9 2 FY.nd (BC zhu hr.m hx.passes rfl (AE (BC YN hr.m hx.passes rfl (AE (AB 0) (AE AN AH))) (AE AN AH))))
   (AL (A9 3 FY.nd (BC zhw hr.m hx.passes rfl (AE (OW PJ (AB 0) (KQ AN) ZV) (AE (AB 1) (AE (AB 2) AH)))))
   (AL (A9 4 FY.nd (O8 zia hr.m hx.passes rfl (AE (AT (AB 1)) (AE (AT (AB 1)) (AE (AT (AB 1)) (AE (AT (AB 1)) AH))))))
   (AL (FH (i:=5) FY.nd rfl (Or.inr rfl) (EE (AB 4) T.DU zh8 hr.m hx.passes))
   (AL (A9 6 FY.nd (BC zhp hr.m hx.passes rfl (AE (AB 3) AH)))
   (AL (A9 7 FY.nd (BC zhr hr.m hx.passes rfl (AE (AB 6) (AE (AB 2) (AE (BC HX hr.m hx.passes rfl (AE (BC YN hr.m hx.passes rfl (AE (AB 0) (AE AN AH))) (AE AN AH))) AH)))))
   (AL (B6 (A7 HG (AB 7) CY (A1 _)) (AL (DB (BC pY hr.m hx.passes rfl (AE (AB 5) (AE (AB 6) (AE (AT (AB 1)) AH)))))
   (AL (D7 (i:=8) (tn:=["k"]) (cn:=["plank"]) (cap:=[5]) FY.cp rfl FY.nd rfl rfl (C3 rfl T.C1 (AE (EE (AB 5) T.ES Q3 hr.m hx.passes) AH)) (λ_ _ _ _ _ _=>(BF 0 pV)) (λ_ _ _ _ _ _=>ED) (λ_ _ _ _ _ _=>(C6 (AB 1) T.ES IY hr.m HL (AE (AB 0) AH))))
   (AL (A9 9 FY.nd (EE (AB 5) T.ES p0 hr.m hx.passes))
   (AL (B6 (PW.pt (L7 (OJ (MB (BC pX hr.m hx.passes rfl (AE (AB 4) (AE (AB 5) AH))) (λ_=>rfl))) (L4 (OJ (MB (BC pX hr.m hx.passes rfl (AE (AB 4) (AE (AB 5) AH))) (λ_=>rfl)))))) (AV (BD JA)) CH)
   (AV (B6 (PW.pt (L7 (A7 (FS hr.units) (DD (tn:=["k"]) (cn:=["plank"]) (cap:=[5]) FY.cp rfl (C3 rfl T.C1 (AE (EE (AB 5) T.ES Q3 hr.m hx.passes) AH)) (λ_ _ _ _ _ _=>(BF 0 pV)) (λ_ _ _ _ _ _=>ED) (λ_ _ _ _ _ _=>(C6 (AB 1) T.ES IY hr.m HL (AE (AB 0) AH)))) (AB 8) (A1 _)) (L4 (A7 (FS hr.units) (EE (AB 5) T.ES p0 hr.m hx.passes) (AB 9) (A1 _))))) (AV (BD JA)) CH)))))) CH)
   (AL (DB (BC pY hr.m hx.passes rfl (AE (AB 5) (AE (AB 3) (AE (AT (AB 1)) AH)))))
   (AV (BD (MA (CK hr.units) (BC YT hr.m hx.passes rfl (AE (AB 4) (AE (AB 5) AH))) (BC zhq hr.m hx.passes rfl (AE (AB 3) AH)) (A1 _)))))))))))))
end
end L2
namespace L2
theorem zhg(q34 q35 q36 q37 q38 q39 q3a q3b q3c q3d q3e q3f:Addr):∃ a:Ad,a "HoldError"=q34/\a "NoBlock"=q35/\a "NoChange"=q36/\a "NoRoom"=q37/\a "NoName"=q38/\a "Twice"=q39/\a "NoPiece"=q3a/\a "NotSound"=q3b/\a "NoRow"=q3c/\a "View"=q3d/\a "Plank"=q3e/\a "Layout"=q3f :=
 ⟨λs=>if s="HoldError" then q34 else if s="NoBlock" then q35 else if s="NoChange" then q36 else if s="NoRoom" then q37 else if s="NoName" then q38 else if s="Twice" then q39 else if s="NoPiece" then q3a else if s="NotSound" then q3b else if s="NoRow" then q3c else if s="View" then q3d else if s="Plank" then q3e else if s="Layout" then q3f else 0,by simp⟩
def YL(K:W.Frag):Sp:=λvs H Q _=>∃ (s:Addr) (ns:List Int),vs=[.ref s]/\SqL K H s (ns.map V.int)/\ns.length<=63/\∀ H',Q (.bl true) H'
theorem all_mk{l:W.OpenLaw}{w:World}{K:W.Frag}{h:Heap}{mg:Str->Option Value}{fa:Addr}{q34 q35 q36 q37 q38 q39 q3a q3b q3c q3d q3e q3f:Addr}(X:K.In h)(G:h.Ns mainGlobals mg)(hfa:mg "law"=some (.ref fa))
  (q0:GX K q34 "HoldError")
  (q1:GX K q35 "NoBlock")
  (q2:GX K q36 "NoChange")
  (q3:GX K q37 "NoRoom")
  (q4:GX K q38 "NoName")
  (q5:GX K q39 "Twice")
  (q6:GX K q3a "NoPiece")
  (q7:GX K q3b "NotSound")
  (q8:GX K q3c "NoRow")
  (q9:GC K q3d "View")
  (qa:GC K q3e "Plank")
  (qb:GC K q3f "Layout")
  (qc:W.nsIn K mainGlobals "ValueError"=some none)
  (qd:W.nsIn K mainGlobals "enumerate"=some none)
  (qe:W.nsIn K mainGlobals "int"=some none)
  (qf:W.nsIn K mainGlobals "isinstance"=some none)
  (qg:W.nsIn K mainGlobals "len"=some none)
  (qh:W.nsIn K mainGlobals "list"=some none)
  (qi:W.nsIn K mainGlobals "max"=some none)
  (qj:W.nsIn K mainGlobals "range"=some none)
  (qk:W.nsIn K mainGlobals "sorted"=some none)
  (ql:W.nsIn K mainGlobals "tuple"=some none)
  (qm:GF K "law" YK)
  (qn:GM K q3d "pieces_named" "View.pieces_named" WD)
  (qo:GM K q3d "records_standing" "View.records_standing" WC)
  (qp:GM K q3d "count_of" "View.count_of" WE)
  (qq:GM K q3e "ask_for_block" "Plank.ask_for_block" WP)
  (qr:GM K q3f "place_from" "Layout.place_from" WT)
  (qs:GM K q3f "blocks_ahead_of_marks" "Layout.blocks_ahead_of_marks" WS)
  (qt:GF K "_law_spun" WV)
  (qu:GF K "_law_free_names" WY)
  (qv:GF K "_law_led" WW)
  (qw:GF K "faults_of_names" WF)
  (qx:GF K "faults_of_things" W3)
  (qy:GF K "faults_of_marks" W8)
  (qz:GF K "leavings_of_records" W9)
  (q10:GF K "left_pieces" WG)
  (q11:GF K "marked_records" WH)
  (q12:GM K q3e "read" "Plank.read" XA)
  (q13:GM K q3f "record_at" "Layout.record_at" XD)
  (q14:GM K q3f "record_mark" "Layout.record_mark" XG)
  (q15:GM K q3f "piece_mark" "Layout.piece_mark" XH)
  (q16:GM K q3e "blocks" "Plank.blocks" WN)
  (q17:GM K q3e "write" "Plank.write" XB)
  (q18:GM K q3f "blocks" "Layout.blocks" XI)
  (q19:GN K q3e "Plank" "Plank.__init__" WM)
  (q1a:GF K "_law_free_pieces" W1)
  (q1b:GF K "_law_text" XL)
  (q1c:GF K "_law_named" XO)
  (q1d:GF K "_law_free_records" WZ)
  (q1e:GF K "_law_lost" XS)
  (q1f:GM K q3f "counts" "Layout.counts" WR)
  (q1g:GM K q3f "name_at" "Layout.name_at" XC)
  (q1h:GF K "values_at" XV)
  (q1i:GM K q3f "piece_at" "Layout.piece_at" XF)
  (q1j:GF K "tally" WJ)
  (q1k:GF K "pieces_in" WK)
  (q1l:GM K q3d "records_led_to" "View.records_led_to" WB)
  (q1m:GF K "_law_pieces" XZ)
  (q1n:GF K "_law_bad_name" X7)
  (q1o:GF K "_law_bad_piece" X8)
  (q1p:GF K "_law_bad_record" X9)
  (q1q:GF K "_law_record" YD)
  (q1r:GF K "_law_more" X0)
  (q1s:GF K "_law_alone" X6)
  (q1t:GN K q3d "View" "View.__init__" YC)
  (q1u:GF K "faults_in" XT)
  (q1v:GF K "leavings_in" XU)
  (q1w:GF K "is_sound" YH)
  (q1x:GF K "walk" YG)
  (q1y:GF K "mended_cells" XW)
  (q1z:GF K "write_due" XX)
  (q20:GF K "mend" YI)
  (q21:GF K "_law_cell_at" WU)
  (q22:GF K "_law_layout" XM)
  (q23:GF K "_law_names" XJ)
  (q24:GF K "_law_view" YF)
  (q25:GN K q3f "Layout" "Layout.__init__" WQ)
  (q26:GM K q3f "plank" "Layout.plank" XY)
  (q27:GF K "_law_copy" W2)
  (q28:GF K "_law_fault" YE)
  (q29:GF K "_law_write" YA)
  (q2a:GM K q3e "writings" "Plank.writings" WO)
  (q2b:GF K "_law_refused" YJ)
  (q2c:GF K "_law_due" XR)
  (q2d:W.findIn K (.ref q3e) "contents"=some none)
  (q2e:W.findIn K (.ref q3e) "width"=some none)
  (q2f:W.findIn K (.ref q3e) "written"=some none)
  (q2g:W.findIn K (.ref q3f) "name_blocks"=some none)
  (q2h:W.findIn K (.ref q3f) "record_blocks"=some none)
  (q2i:W.findIn K (.ref q3f) "piece_blocks"=some none)
  (q2j:W.findIn K (.ref q3f) "width"=some none)
  (q2k:W.findIn K (.ref q3d) "name_values"=some none)
  (q2l:W.findIn K (.ref q3d) "record_values"=some none)
  (q2m:W.findIn K (.ref q3d) "piece_values"=some none)
  (q2n:W.findIn K (.ref q3d) "record_marks"=some none)
  (q2o:W.findIn K (.ref q3d) "piece_marks"=some none)
  (q2p:W.findIn K (.ref q3d) "leads"=some none)
  (q2q:W.findIn K (.ref q3d) "namings"=some none)
  (q2r:W.findIn K (.ref q3d) "reached"=some none)
  (q2s:W.findIn K (.ref q3b) "__getattribute__"=some (some (.builtin "BaseException.__getattribute__")))
  (q2t:W.findIn K (.ref q3b) "__getattr__"=some none)
  (q2u:W.mroIn K q3b (.type "BaseException")=some true)
  (q2v:W.isClsIn K q3b=true)
  (q2w:W.findIn K (.ref q3b) "__class__"=some (some (.builtin "object.__class__")))
  (q2x:W.specialIn K (.builtin "object.__class__") "__get__"=some (some (.builtin "getset_descriptor.__get__")))
  (q2y:W.takesIn K (.builtin "object.__class__")=some true)
  (q2z:W.mroIn K q3b (.type "object")=some true)
  (q30:W.exmOne K (.ref q3b) (.ref q34)=some true)
  (q31:W.kitOne K (.ref q3b) (.ref q3b)=some true)
  (q32:W.kitOne K (.ref q3b) (.type "ValueError")=some true)
  (q33:W.kitAny K (.ref q3b) [.ref q35,.ref q36,.ref q38,.ref q3a,.ref q37,.ref q3c,.ref q39]=some false) :
  ∃ fd:FuncData,(∀ (s:Shared) (v:Value),BindsTo s fd ⟨[v],[]⟩ [("script",v)])/\∀ base:Heap,K.In base->base.Ns mainGlobals mg->FnOk l.prog w K mg base (D0 l.prog w) 9 fa fd ["script"] (YL K):=by
 obtain⟨a,rfl,rfl,rfl,rfl,rfl,rfl,rfl,rfl,rfl,rfl,rfl,rfl⟩:=zhg q34 q35 q36 q37 q38 q39 q3a q3b q3c q3d q3e q3f
 have T:Txt K mg a:=⟨qb.c,qa.c,q9.c,W.mg_of X G q0.ac,⟨_,W.mg_of X G q0.ac,rfl⟩,⟨q0.ex⟩,W.mg_of X G q1.ac,⟨_,W.mg_of X G q1.ac,rfl⟩,⟨q1.ex⟩,W.mg_of X G q2.ac,⟨_,W.mg_of X G q2.ac,rfl⟩,⟨q2.ex⟩,W.mg_of X G q4.ac,⟨_,W.mg_of X G q4.ac,rfl⟩,⟨q4.ex⟩,W.mg_of X G q6.ac,⟨_,W.mg_of X G q6.ac,rfl⟩,⟨q6.ex⟩,W.mg_of X G q3.ac,⟨_,W.mg_of X G q3.ac,rfl⟩,⟨q3.ex⟩,W.mg_of X G q8.ac,⟨_,W.mg_of X G q8.ac,rfl⟩,⟨q8.ex⟩,W.mg_of X G q7.ac,⟨_,W.mg_of X G q7.ac,rfl⟩,⟨q7.ex⟩,W.mg_of X G q5.ac,⟨_,W.mg_of X G q5.ac,rfl⟩,⟨q5.ex⟩,W.mg_none_of X G qc,W.mg_none_of X G qd,W.mg_none_of X G qe,W.mg_none_of X G qf,W.mg_none_of X G qg,W.mg_none_of X G qh,W.mg_none_of X G qi,W.mg_none_of X G qj,W.mg_none_of X G qk,W.mg_none_of X G ql⟩
 have TPk:EF K a:=⟨T.ES,q2d,q2e,q2f⟩
 have TLy:EG K a:=⟨T.DU,q2g,q2h,q2i,q2j⟩
 have TVw:TV K a:=⟨T.HZ,q2k,q2l,q2m,q2n,q2o,q2p,q2q,q2r⟩
 have TNo:S3 K a:=⟨q30,⟨q2s,q2t,q2u,q2v,q2w,q2x,q2y,q2z⟩,q31,q32,q33⟩
 obtain⟨fd,hb,F⟩:=qm.law X G hfa (λ_ _ _ _ _ _ _ _=>.of_eq rfl)
 refine⟨fd,hb,λbase _ _=> ?_⟩
 have q4e:=q1l.cal (zes l.prog w base T)
 have q3h:=qo.cal (zet l.prog w base T)
 have q3g:=qn.cal (zeu l.prog w base T)
 have q3i:=qp.cal (zew l.prog w base T)
 have q3p:=qw.cal X G (zex l.prog w base T)
 have q3t:=q10.cal X G (zey l.prog w base T)
 have q3u:=q11.cal X G (zez l.prog w base T)
 have q4c:=q1j.cal X G (ze1 l.prog w base T)
 have q4d:=q1k.cal X G (ze2 l.prog w base T)
 have q42:=q19.cal X G (ze4 l.prog w base T)
 have q3z:=q16.cal (ze6 l.prog w base T)
 have q53:=q2a.cal (ze8 l.prog w base T)
 have q3j:=qq.cal (zfa l.prog w base T)
 have q4y:=q25.cal X G (zfc l.prog w base T)
 have q48:=q1f.cal (zfe l.prog w base T)
 have q3l:=qs.cal (zfg l.prog w base T)
 have q3k:=qr.cal (zfi l.prog w base T)
 have q4u:=q21.cal X G (zfk l.prog w base T)
 have q3m:=qt.cal X G (zfl l.prog w base T)
 have q3o:=qv.cal X G (zfm l.prog w base T)
 have q3n:=qu.cal X G (zfn l.prog w base T)
 have q46:=q1d.cal X G (zfo l.prog w base T)
 have q43:=q1a.cal X G (zfq l.prog w base T)
 have q50:=q27.cal X G (zfs l.prog w base T)
 have q3q:=qx.cal X G (zft l.prog w base T q3g q3h q3i)
 have q3r:=qy.cal X G (zfu l.prog w base T q3g)
 have q3s:=qz.cal X G (zfv l.prog w base T q3h q3i)
 have q3v:=q12.cal (zfx l.prog w base T q3j)
 have q40:=q17.cal (zfz l.prog w base T q3j)
 have q49:=q1g.cal (zf1 l.prog w base T q3k)
 have q3w:=q13.cal (zf3 l.prog w base T q3k)
 have q4b:=q1i.cal (zf5 l.prog w base T q3k)
 have q3x:=q14.cal (zf7 l.prog w base T q3l q3k)
 have q3y:=q15.cal (zf9 l.prog w base T q3l q3k)
 have q41:=q18.cal (zgb l.prog w base T q3l)
 have q4w:=q23.cal X G (zgd l.prog w base T q3m)
 have q44:=q1b.cal X G (zgf l.prog w base T q3m)
 have q4v:=q22.cal X G (zgg l.prog w base T q3m)
 have q45:=q1c.cal X G (zgh l.prog w base T q3n)
 have q55:=q2c.cal X G (zgk l.prog w base T q3o)
 have q47:=q1e.cal X G (zgl l.prog w base T q3n)
 have q4n:=q1u.cal X G (zgn l.prog w base T q3p q3q q3r)
 have q4o:=q1v.cal X G (zgp l.prog w base T q3s q3t q3u)
 have q4a:=q1h.cal X G (zgq l.prog w base T q3v)
 have q4r:=q1y.cal X G (zgr l.prog w base T q3w q3v q3x q3y)
 have q4s:=q1z.cal X G (zgs l.prog w base T q3z q3v q40)
 have q4z:=q26.cal (zgu l.prog w base T q41 q42)
 have q4f:=q1m.cal X G (zgv l.prog w base T q43 q44)
 have q4k:=q1r.cal X G (zgw l.prog w base T q3o q3n q45)
 have q4l:=q1s.cal X G (zgx l.prog w base T q46 q43 q44)
 have q4g:=q1n.cal X G (zgy l.prog w base T q3n q47)
 have q4h:=q1o.cal X G (zgz l.prog w base T q47)
 have q4i:=q1p.cal X G (zg1 l.prog w base T q3o q47)
 have q52:=q29.cal X G (zg2 l.prog w base T q40)
 have q4m:=q1t.cal X G (zg4 l.prog w base T q48 q49 q4a q3w q4b q3x q3y q4c q4d q4e)
 have q4j:=q1q.cal X G (zg5 l.prog w base T q46 q3n q4f q45)
 have q51:=q28.cal X G (zg6 l.prog w base T q47 q4g q4h q4i)
 have q4x:=q24.cal X G (zg9 l.prog w base T q3m q4j q4k q4l)
 have q4q:=q1x.cal X G (zha l.prog w base T q4m q4n q4o)
 have q4p:=q1w.cal X G (zhc l.prog w base T q4m q4n)
 have q4t:=q20.cal X G (zhd l.prog w base T q4p q4q q4r q4s)
 have q54:=q2b.cal X G (zhe l.prog w base T q4t)
 exact(zhf l.prog w base T q4u q4v q4w q4x q4y q4z q50 q3m q51 q52 q3z q3v q53 q54 q4t q55 F).imp (λvs H Q E ⟨s,ns,e,hs,hn,q⟩=>⟨s,ns,e,TVw,TLy,TPk,TNo,hs,hn,q⟩)
theorem walk{l:W.OpenLaw}{q:Program}{loose:List Str}{XP:(Str->Option Value)->Heap->Prop}{YP:World->Heap->Prop}{d:DefRec}{K:Params->W.Frag}(hn:l.most=some 63)(hdf:d.params.defaults=[])
  (hY:∀ (w:World) (h:Heap),YP w h->(K w.params).In h)
  (F:∀ (w:World) (mg:Str->Option Value) (fa:Addr) (h:Heap),(K w.params).In h->h.Ns mainGlobals mg->mg d.name=some (.ref fa) →
   ∃ fd:FuncData,(∀ (s:Shared) (u:Value),BindsTo s fd ⟨[u],[]⟩ [("script",u)])/\∀ base:Heap,(K w.params).In base->base.Ns mainGlobals mg->FnOk l.prog w (K w.params) mg base (D0 l.prog w) 9 fa fd ["script"] (YL (K w.params))) :
  W.WalkO q loose XP YP l.row.toRowW d [] (λf vs=>PySem.call f vs) :=
 L2.walk_of (n:=63) (k:=9) (x:="script") (CX:=λw=>D0 l.prog w) (sp:=λw=>YL (K w.params)) hn (by decide) hdf ⟨rfl,by decide,by decide⟩ hY F (λ_ _ a ns hl _ hS=>⟨a,ns,rfl,hS,hl,λ_=>rfl⟩) λ_ _ _ _ _ z=>aQ z
end L2
namespace PySem.W.Fast
def tw8648780840122626928:=()
def tw4310891312390288407:=()
def tw15803951239943971395:=()
def tw3790751585382122889:=()
def tw7397430214530390:=()
def tw15976851034469993530:=()
def tw15336655883272851893:=()
def tw11705305843196225161:=()
def tw14498532919713130401:=()
def tw6090030471707923620:=()
def tw13772546819362290764:=()
def tw7013496275136556461:=()
def tw10415066423256311137:=()
def tw2799215084876758385:=()
def tw11416160860635535977:=()
def tw4436389312438378353:=()
def tw8386459334317596647:=()
def tw81594898854847441:=()
def tw9999750050128012107:=()
def tw15164603535637931175:=()
def tw10204313497373145032:=()
def tw10746587929128159439:=()
def tw13946806382720540141:=()
def tw11148134619018232157:=()
def tw9964389081174735045:=()
def tw4258078263763622475:=()
def tw4130698240774292802:=()
def tw9713440313423809372:=()
def tw12102422945066392447:=()
def tw12675043021752706285:=()
def tw84801099790078197:=()
def tw15165989021169076576:=()
def tw10649044444996613897:=()
def tw15291054370160927089:=()
def tw9687774696878140140:=()
def tw3877047977007218296:=()
def tw14747462275319074898:=()
def tw17331875706684960324:=()
def tw3944730841481016402:=()
def tw5982019597325501755:=()
def tw6248402937482281407:=()
def tw8087497744267638491:=()
def tw15618778562836846598:=()
def tw7906092642355818628:=()
def tw10762139915068617345:=()
def tw18381194484157470313:=()
def tw4991071516608181972:=()
def tw6089534690483366686:=()
def tw2876553236506390480:=()
def tw424490396780300417:=()
def tw288194615666822941:=()
def tw2803216851293605765:=()
def tw17484069895077587878:=()
def tw5511333486667593160:=()
def tw16276175784418889328:=()
def tw14049271972759659035:=()
def tw12910686234102192581:=()
def tw9136592490650747282:=()
def tw16651235589626833838:=()
def tw168435319012890470:=()
def tw11195812149705112522:=()
def tw10184463361907697027:=()
def tw12341748181266522447:=()
def tw18417234074818609751:=()
def tw6007313509743898219:=()
def tw7722092430470123463:=()
def tw9425633929798150332:=()
def tw15804931211723152250:=()
def tw8039379572666892093:=()
def tw7263044404240956676:=()
def tw15154994098690174670:=()
def tw13538540041295291008:=()
def tw4846426576191575707:=()
def tw13641948159737594645:=()
def tw1161526717531389581:=()
def tw771702300653085634:=()
def tw17509336724931564779:=()
def tw17584474920301405531:=()
def tw375090713275557192:=()
def tw13134681016791924450:=()
def tw18214309074851402346:=()
def tw11400574215751527258:=()
def tw7091442976051376414:=()
def tw6546369865438143609:=()
def tw15679598309909754215:=()
def tw12980372434999424989:=()
def tw5297531285096882061:=()
def tw7467276107396380581:=()
def tw16141355529398801950:=()
def tw11043513915410385065:=()
def tw15841649859645554271:=()
def tw8283049140141571322:=()
def tw10385867098340058203:=()
def tw6626160138637401039:=()
def tw123786300448714973:=()
def tw2214488951025934737:=()
def tw13958922948262337253:=()
def tw18413297153771258328:=()
def tw8726632741366154133:=()
def tw4125616331479226629:=()
def tw8811675200000481816:=()
def tw17688557648711990141:=()
def tw4950640861974886321:=()
def tw7323825764389449214:=()
def tw14059429327595339976:=()
def tw11757666505643280967:=()
def tw10821739593298052190:=()
def tw5781227320365061766:=()
def tw14381079752752207715:=()
def tw17908598665360495153:=()
def tw4335737353283241852:=()
def tw6195463479134103436:=()
def tw10114185483093384615:=()
def tw10969454829506461627:=()
def tw5699201675880273725:=()
def tw15936939533032484388:=()
def tw26968949978754382:=()
def tw4560406577442458136:=()
def tw11064232132108962603:=()
def tw7842761583405178020:=()
def tw5983281994611579997:=()
def tw2062979103931512072:=()
def tw8254264622764071113:=()
def tw9839803084095013386:=()
def tw16505030381360436520:=()
def tw344797900993140248:=()
def tw17276549907171992696:=()
def tw6667111333278619099:=()
def tw12950127774741605632:=()
def tw4277864192687322973:=()
def tw11800919851136637915:=()
def tw16296739786451307661:=()
def tw836580328876627560:=()
def tw331648858756533452:=()
def tw11601035257640220682:=()
def tw5990584417186514662:=()
def tw3309659943958161072:=()
def tw18050426790266731692:=()
def tw16562271432989147020:=()
def tw1839830870398612041:=()
def tw17445143193044794986:=()
def tw10674311853019251109:=()
def tw4390414392044478336:=()
def tw5886827891432256792:=()
def tw18310687786266529076:=()
def tw3991579683620184432:=()
def tw15107061100725453199:=()
def tw579213145038528757:=()
def tw2013762894000001078:=()
def tw8629366299143369452:=()
def tw11653711068600843092:=()
def tw11103717881478482408:=()
def tw4441162906719463965:=()
def tw18223218275499915601:=()
def tw6899958643371607513:=()
def tw18302495810419841969:=()
def tw9477096065015525242:=()
def tw726327778073043869:=()
def tw10991447811827631516:=()
def tw14787139267996764196:=()
def tw9466336833473034384:=()
def tw3602773687310052416:=()
def tw12584800381248776482:=()
def tw10299066780023980261:=()
def tw17460692684826437317:=()
def tw17714780739797773574:=()
def tw14980325399532586434:=()
def tw12223600033830630881:=()
def tw13503255034256008096:=()
def tw236412032038195358:=()
def tw16492590754345015499:=()
def tw15851700355634376952:=()
def tw18232098168650106293:=()
def tw10036421381424396399:=()
def tw7884869611808105495:=()
def tw11401986870904366934:=()
def tw10159460110203430975:=()
def tw18431172251953730446:=()
def tw15762342456560271045:=()
def tw9676762698580184620:=()
def tw8376147875025221611:=()
def tw6290210981964294:=()
def tw1652553036210621404:=()
def tw7249901137272325355:=()
def tw17266106803764790136:=()
def tw7479237515610988706:=()
def tw3850244328741992107:=()
def tw16934194988629088763:=()
def tw11853555513036641358:=()
def tw3917344303378557115:=()
def tw2702715576507020511:=()
def tw612646933816385966:=()
def tw17729487502589564107:=()
def tw13922315925419003395:=()
def tw7125202479112978327:=()
def tw6309699771148550559:=()
def tw9854179403289030193:=()
def tw10134585611444177420:=()
def tw13150944184600947411:=()
def tw11776961721001081045:=()
def tw2809198898472823765:=()
def tw8848106476948753835:=()
def tw15976048666390277282:=()
def tw14216519361021995606:=()
def tw13692768485263407331:=()
def tw13970111241389707426:=()
def tw2924502624165710054:=()
def tw5353482163329839607:=()
def tw2495277920885669227:=()
def tw7483687897516529066:=()
def tw16578150245088629943:=()
def tw6770135645083749461:=()
def tw6969121455339023804:=()
def tw6907677622454748855:=()
def tw11022535870019948445:=()
def tw466938317785093404:=()
def tw2442536353358754710:=()
def tw7989797894697217333:=()
def tw1628995615562829206:=()
def tw1144874893867635320:=()
def tw13327419063108982233:=()
def tw5754941512575016476:=()
def tw4807217284888558898:=()
def tw9729773839474478140:=()
def tw13086040073681730961:=()
def tw7191546008088650879:=()
def tw8253742807895034970:=()
def tw12902575609625735834:=()
def tw9167583351062051445:=()
def tw8290219656286360670:=()
def tw6460401527920664710:=()
def tw3656180106793993647:=()
def tw3740333692625779579:=()
def tw16660448153080588711:=()
def tw1952984228998998516:=()
def tw3588646161119662653:=()
def tw12558501721481526070:=()
def tw1227003592362847047:=()
def tw18409547389454090661:=()
def tw6771746527459001299:=()
def tw6155725788673567573:=()
def tw4862356505232207197:=()
def tw5305592649324412348:=()
def tw14704305086027171144:=()
def tw8651170747683753853:=()
def tw9702967551069448904:=()
def tw17240993110333477582:=()
def tw16802689017674876200:=()
def tw17481850333760982696:=()
def tw18154867470740308084:=()
def tw17257980225271701:=()
def tw640409865363015034:=()
def tw14427542662847165606:=()
def tw717297524758494730:=()
def tw1062812127352024456:=()
def tw13303466941749132195:=()
def tw2047880369294433342:=()
def tw1092972686157444155:=()
def tw2138494175087084394:=()
def tw486635037022051896:=()
def tw6086712412852987529:=()
def tw9826317931465050996:=()
def tw12511422621884808462:=()
def tw6329503971237224411:=()
def tw14175022578359641275:=()
def tw16665738266972260990:=()
def tw5478059739227948348:=()
def tw13109815358084070323:=()
def tw2410964959317344811:=()
def tw11409263233677635722:=()
def tw1797983016082432704:=()
def tw1175773782040398202:=()
def tw5875715644894634195:=()
def tw6283711126130215482:=()
def tw5406891165330660960:=()
def tw15996370714184977808:=()
def tw560399634900177200:=()
def tw5316170200265500612:=()
def tw2398728569441046201:=()
def tw11995269222124815954:=()
def tw4827825879959452453:=()
def tw2683437142134018926:=()
def tw8648206393522611048:=()
def tw6670695942694977352:=()
def tw6684566358431571770:=()
def tw4124318080114254579:=()
def tw3779965121450549233:=()
def tw15432899669876613894:=()
def tw1369094092807810286:=()
def tw3536638165448971077:=()
def tw7669305845124919833:=()
def tw11593262841691310548:=()
def tw10205888894579445069:=()
def tw3225127306493202907:=()
def tw1623881607742026005:=()
def tw6165107516635477644:=()
def tw5355961055087749020:=()
def tw6561108758246062763:=()
def tw7177162627528081754:=()
def tw996319617690312758:=()
def tw13257918110110247303:=()
def tw18105297476042734772:=()
def tw8830823923210713028:=()
def tw7001155477842697755:=()
def tw14755906803367534136:=()
def tw360347149505247490:=()
def tw10424264766646272370:=()
def tw9423004985370686060:=()
def tw2982063764514668221:=()
def tw12494153154861836042:=()
def tw12073986491651766114:=()
def tw7158320947104788277:=()
def tw12923944162401255041:=()
def tw11331925021296890335:=()
def tw5613875755245949994:=()
def tw5096633062701553210:=()
def tw11665465250405117604:=()
def tw14593141409878748147:=()
def tw4334755273143376647:=()
def tw4515373225016354790:=()
def tw667973217075326331:=()
def tw1165627908157643262:=()
def tw15064448951349376548:=()
def tw12888707809726860697:=()
def tw3786515542148547142:=()
def tw4354501202306469071:=()
def tw17221635873217325311:=()
def tw4543994463807616720:=()
def tw397309640535372461:=()
def tw17294459821193128317:=()
def tw10735704727113405497:=()
def tw12398524979892349751:=()
def tw12815622997472378328:=()
def tw14961767165956323267:=()
def tw2584083479594562536:=()
def tw7908123564863602774:=()
def tw13164648587267263686:=()
def tw16903988357204673157:=()
def tw7400064166262616962:=()
def tw13178206229752345149:=()
def tw13619753084585245031:=()
def tw18147687834522114200:=()
def tw6491783804526916822:=()
def tw11923901049154469502:=()
def tw11300413640599605245:=()
def tw14842933765677168229:=()
def tw12276474558502622024:=()
def tw6044578070400187471:=()
def tw2407332017172933263:=()
def tw1757666894554321708:=()
def tw8006565109360735357:=()
def tw11518464107200816109:=()
def tw3105810740399111393:=()
def tw7106952075546019947:=()
def tw4940805220934316173:=()
def tw4291835100666590336:=()
def tw2387823199694277122:=()
def tw5132304429178114428:=()
def tw17674188307986796671:=()
def tw5302385371157252465:=()
def tw14626708324708642049:=()
def tw3552388274328883803:=()
def tw5431128127748977048:=()
def tw11847470147197000875:=()
def tw3728266895880244224:=()
def tw7401935466339360742:=()
def tw4110866574763288207:=()
def tw16076081657680201224:=()
def tw2187457489414412978:=()
def tw1354165584262456578:=()
def tw15084782626843681014:=()
def tw6683908654399228378:=()
def tw4154840979551941984:=()
def tw9705802153839369075:=()
def tw3816805639992852412:=()
def tw1556688526906566757:=()
def tw18396359119699279466:=()
def tw3469873901802688601:=()
def tw9820527038145893560:=()
def tw13529991972194917109:=()
def tw3260354016241934992:=()
def tw8657230141401265669:=()
def tw14738325816677158424:=()
def tw16496080920261240985:=()
def tw14163821286362306841:=()
def tw2006437785525402236:=()
def tw3526373808540579393:=()
def tw1715974375159789299:=()
def tw15906327250312964176:=()
def tw3671548560753061900:=()
def tw8598967220812867260:=()
def tw2825587056005732528:=()
def tw3606940202854292847:=()
def tw14163750363717567096:=()
def tw6614583282913622376:=()
def tw1532320515054999490:=()
def tw8159966622180228954:=()
def tw4426911465449285891:=()
def tw13446450759021137008:=()
def tw9124430702174318381:=()
def tw2505607231865890388:=()
def tw17426565205139323315:=()
def tw14813982169244422860:=()
def tw3099639876944827373:=()
def tw16213245396812207289:=()
def tw1775140854483688116:=()
def tw17394805123403180191:=()
def tw17750696579795585750:=()
def tw15437166141638495891:=()
def tw5141160231184399208:=()
def tw6788071019504834419:=()
def tw5043645419578129386:=()
def tw14818260033920053242:=()
def tw15535769202910650476:=()
def tw9818715222276677041:=()
def tw1612250096382199060:=()
def tw16648028791122208868:=()
def tw11614269284144704981:=()
def tw4245425665049377256:=()
def tw2777543759844055174:=()
def tw7602124464103395343:=()
def tw13668625005265778790:=()
def tw18336407791265745326:=()
def tw16827253106358554743:=()
def tw3897982330511408663:=()
def tw17974147412355203139:=()
def tw13808976779869484417:=()
def tw18429189041435558371:=()
def tw3710546688378442511:=()
def tw18163981093389843337:=()
def tw10866633131673843859:=()
def tw4932005772070053326:=()
def tw17268409660754400428:=()
def tw14204998415182236707:=()
def tw4066372722567932817:=()
def tw7023124333339211630:=()
def tw16943829210007949429:=()
def tw16776690270176567755:=()
def tw11334024727206637674:=()
def tw12062221550442933875:=()
def tw10643179477465852408:=()
def tw2392409656156117214:=()
def tw18008356968818737901:=()
def tw14193822834146717616:=()
def tw1895163957562129007:=()
def tw15251128013308220285:=()
def tw17419731688747314176:=()
def tw10645232678164748333:=()
def tw3376563847287529334:=()
def tw5780336301761699690:=()
def tw12768725752516150326:=()
def tw9018684784963270978:=()
def tw1359763104288781493:=()
def tw7314888782209674220:=()
def tw8733456359634593847:=()
def tw13494054016451607572:=()
def tw6952096060698805987:=()
def tw13460121653878374134:=()
def tw3414667275217108157:=()
def tw11772031532011445182:=()
def tw16814209075208990690:=()
def tw14448688673344424325:=()
def tw5753437906633441103:=()
def tw82065978408114947:=()
def tw15762261988738656405:=()
def tw915529930690872401:=()
def tw18382131862770384394:=()
def tw12929226044957765457:=()
def tw12322851220286241413:=()
def tw16966200833031716142:=()
def tw18371134961068413358:=()
def tw10318175994666116395:=()
def tw3627025105426859587:=()
def tw10568819014505775468:=()
def tw233180245877091014:=()
def tw8202894979263026666:=()
def tw7182382431411700637:=()
def tw8212136919953799828:=()
def tw5427734884420597984:=()
def tw10260331820096432593:=()
def tw4064543343288289202:=()
def tw7494886262601879971:=()
def tw5714289299663969402:=()
def tw16130989020119810560:=()
def tw14522577723712610866:=()
def tw15677832053303108334:=()
def tw5223538851300098601:=()
def tw5778596939585703501:=()
def tw13710513659172387563:=()
def tw13385126963584622628:=()
def tw4693951280481307221:=()
def tw9375108889991198350:=()
def tw14904631045238287975:=()
def tw8329580870901811243:=()
def tw9770735446800195906:=()
def tw12746783556113766644:=()
def tw5354444113436763830:=()
def tw3609363238577535791:=()
def tw10924939548436015525:=()
def tw13717622714038538245:=()
def tw14671837463199079025:=()
def tw10965073871161596747:=()
def tw4734334437338148272:=()
def tw17102711689077801455:=()
def tw2890627835083294697:=()
def tw11361952859491263643:=()
def tw15614727774701285517:=()
def tw2565203618774841834:=()
def tw9184730612195209516:=()
def tw10278337199134385858:=()
def tw2280518917489092796:=()
def tw13548671292853570947:=()
def tw7077984948783689311:=()
def tw6886347730212925529:=()
def tw11311793239160600835:=()
def tw9682032876831904284:=()
def tw9707187810516006619:=()
def tw4091455498728907359:=()
def tw1462406716570186991:=()
def tw12606217665397827805:=()
def tw7489324653543827046:=()
def tw3631260797449920680:=()
def tw12084563185763356717:=()
end PySem.W.Fast
open PySem PySem.W PyProof.Rows
set_option Elab.async false
set_option maxRecDepth 100000 in
set_option maxHeartbeats 0 in
theorem PySem.Challenge.cw_holdback_k54_not_sound_refused_holds : PySem.Challenge.rw_holdback_k54_not_sound_refused.Holds := by
 w_on;o_law;k_head;(case hw=>w_witness2)
 k_fill
 refine L2.walk (l:=PySem.Challenge.rw_holdback_k54_not_sound_refused) rfl rfl (λw h Y=>PySem.W.kIn_of Y) ?F
 case F =>
  intro w mg fa h KX G hmg
  refine' L2.all_mk KX G hmg ?q0 ?q1 ?q2 ?q3 ?q4 ?q5 ?q6 ?q7 ?q8 ?q9 ?qa ?qb ?qc ?qd ?qe ?qf ?qg ?qh ?qi ?qj ?qk ?ql ?qm ?qn ?qo ?qp ?qq ?qr ?qs ?qt ?qu ?qv ?qw ?qx ?qy ?qz ?q10 ?q11 ?q12 ?q13 ?q14 ?q15 ?q16 ?q17 ?q18 ?q19 ?q1a ?q1b ?q1c ?q1d ?q1e ?q1f ?q1g ?q1h ?q1i ?q1j ?q1k ?q1l ?q1m ?q1n ?q1o ?q1p ?q1q ?q1r ?q1s ?q1t ?q1u ?q1v ?q1w ?q1x ?q1y ?q1z ?q20 ?q21 ?q22 ?q23 ?q24 ?q25 ?q26 ?q27 ?q28 ?q29 ?q2a ?q2b ?q2c ?q2d ?q2e ?q2f ?q2g ?q2h ?q2i ?q2j ?q2k ?q2l ?q2m ?q2n ?q2o ?q2p ?q2q ?q2r ?q2s ?q2t ?q2u ?q2v ?q2w ?q2x ?q2y ?q2z ?q30 ?q31 ?q32 ?q33
  case q9 | qa | qb=>(apply L2.gc;(case a=>k_is);(case l=>k_is);(case c=>k_is);(case k=>k_is);(case i=>k_is))
  case q0 | q1 | q2 | q3 | q4 | q5 | q6 | q7 | q8=>(apply L2.GX.mk;(case ac=>k_is);(case ex=>k_exc))
  case qc | qd | qe | qf | qg | qh | qi | qj | qk | ql | q2d | q2e | q2f | q2g | q2h | q2i | q2j | q2k | q2l | q2m | q2n | q2o | q2p | q2q | q2r | q2s | q2t | q2u | q2v | q2w | q2x | q2y | q2z=>k_is
  case qm | qt | qu | qv | qw | qx | qy | qz | q10 | q11 | q1a | q1b | q1c | q1d | q1e | q1h | q1j | q1k | q1m | q1n | q1o | q1p | q1q | q1r | q1s | q1u | q1v | q1w | q1x | q1y | q1z | q20 | q21 | q22 | q23 | q24 | q27 | q28 | q29 | q2b | q2c=>(apply L2.gf;(case a=>k_is);(case l=>k_is);(case c=>k_is);(case k=>k_is))
  case qn | qo | qp | qq | qr | qs | q12 | q13 | q14 | q15 | q16 | q17 | q18 | q1f | q1g | q1i | q1l | q26 | q2a=>(apply L2.gm;(case a=>k_is);(case l=>k_is);(case c=>k_is);(case k=>k_is);(case i=>k_is))
  case q19 | q1t | q25=>(apply L2.gn;(case a=>k_is);(case l=>k_is);(case c=>k_is);(case k=>k_is);(case i=>k_is);(case m=>k_is);(case n=>k_is);(case s=>k_is))
  case q30=>kts_exm
  case q31 | q32 | q33=>kit_is
