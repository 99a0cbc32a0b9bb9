import PyProof.Rows.All
import Wide.All
import OpenK.AllK
import Wide.FinOn
import Lean
import PyProof.EqAt
import PyProof.EqKinds
import PyProof.TupleCall
import PyProof.SetScanFacts
import PyProof.Rows.SetFrom
import PyProof.Rows.SortWalk
import PyProof.CollectWalk
import PyProof.DictWalks
import PySem.Challenge.RW_holdback_k51_finds_of_drawn_planks
set_option linter.all false
set_option maxRecDepth 100000
set_option maxHeartbeats 8000000
open PySem PySem.Spec PyProof.Rows
set_option Elab.async false
namespace L2
abbrev A0:=Sum Int Str
def IU:A0->Value->Bool
 | .inl k,v=>Value.isInt k v
 | .inr x,v=>Value.isStrOf x v
def dB(w:World):A0->Int
 | .inl k=>hashInt k
 | .inr x=>hashStr w x
theorem FU:∀ {k:A0} {v:Value},IU k v=true->(∃ i t,k=Sum.inl i/\v=Value.int i t)\/(∃ x t,k=Sum.inr x/\v=Value.str x t)
 | .inl i,v,h=>by
  obtain⟨t,e⟩:=Value.isInt_shape (k:=i) (v:=v) h
  exact .inl ⟨i,t,rfl,e⟩
 | .inr x,v,h=>by
  obtain⟨t,e⟩:=Value.isStrOf_shape (x:=x) (v:=v) h
  exact .inr ⟨x,t,rfl,e⟩
theorem dC(i:Int)(t:Tok):IU (.inl i) (.int i t)=true:=by simp[IU,Value.isInt]
theorem dD(x:Str)(t:Tok):IU (.inr x) (.str x t)=true:=by simp[IU,Value.isStrOf]
theorem dE(a b:Int):decide ((Sum.inl a:A0)=Sum.inl b)=(a == b):=by
 by_cases e:a=b
 ·subst e;simp
 ·have h:¬ (Sum.inl a:A0)=Sum.inl b:=λq=>e (Sum.inl.inj q)
  rw[decide_eq_false h]
  exact(beq_eq_false_iff_ne.mpr e).symm
theorem dF(a b:Str):decide ((Sum.inr a:A0)=Sum.inr b)=decide (a=b):=by
 by_cases e:a=b
 ·subst e;simp
 ·have h:¬ (Sum.inr a:A0)=Sum.inr b:=λq=>e (Sum.inr.inj q)
  rw[decide_eq_false h,decide_eq_false e]
theorem dG(a:Int)(b:Str):decide ((Sum.inl a:A0)=Sum.inr b)=false:=decide_eq_false (λq=>nomatch q)
theorem dH(a:Str)(b:Int):decide ((Sum.inr a:A0)=Sum.inl b)=false:=decide_eq_false (λq=>nomatch q)
def D7(prog:Program)(w:World):PySem.KeyKind prog w A0 where
 is:=IU
 hash:=dB w
 inj:=λv a b ha hb=>by
  rcases FU ha with⟨i,t,rfl,rfl⟩ | ⟨x,t,rfl,rfl⟩
  ·rcases FU hb with⟨j,u,rfl,e⟩ | ⟨y,u,rfl,e⟩
   ·injection e with e1 _;rw[e1]
   ·exact nomatch e
  ·rcases FU hb with⟨j,u,rfl,e⟩ | ⟨y,u,rfl,e⟩
   ·exact nomatch e
   ·injection e with e1 _;rw[e1]
 byValue:=λk v h=>by
  rcases FU h with⟨i,t,rfl,rfl⟩ | ⟨x,t,rfl,rfl⟩<;>rfl
 pyHash:=λhv h=>by
  rcases FU hv with⟨i,t,rfl,rfl⟩ | ⟨x,t,rfl,rfl⟩
  ·exact wpAny_pyHash_int h
  ·exact wpAny_pyHash_str h
 eqBool:=λhu hv h=>by
  rcases FU hu with⟨i,t,rfl,rfl⟩ | ⟨x,t,rfl,rfl⟩
  ·rcases FU hv with⟨j,u,rfl,rfl⟩ | ⟨y,u,rfl,rfl⟩
   ·rw[dE]at h;exact wpAny_eqBool_int h
   ·rw[dG]at h;exact SeqAt.EqAt.int_str i t y u _ _ _ _ h
  ·rcases FU hv with⟨j,u,rfl,rfl⟩ | ⟨y,u,rfl,rfl⟩
   ·rw[dH]at h;exact SeqAt.EqAt.str_int x t j u _ _ _ _ h
   ·rw[dF]at h;exact wpAny_eqBool_str h
 «strs» :=λk x t v h=>by
  rcases FU h with⟨i,u,rfl,e⟩ | ⟨y,u,rfl,e⟩
  ·exact nomatch e
  ·injection e with e1 _
   subst e1
   cases v<;>rfl
theorem dI(prog:Program)(w:World)(i:Int)(t:Tok):(D7 prog w).is (.inl i) (.int i t)=true:=dC i t
theorem dJ(prog:Program)(w:World)(x:Str)(t:Tok):(D7 prog w).is (.inr x) (.str x t)=true:=dD x t
end L2
namespace L2
inductive V where
 | non | bl (b:Bool) | int (i:Int) | str (x:Str) | byt (b:Array UInt8) | flt (b:UInt64) | ref (a:Addr) | ty (n:String)
 deriving DecidableEq
def RelV:V->Value->Prop
 | .non,u=>u=Value.none
 | .bl b,u=>u=Value.bool b
 | .int i,u=>∃ t,u=Value.int i t
 | .str x,u=>∃ t,u=Value.str x t
 | .byt b,u=>∃ t,u=Value.bytes b t
 | .flt b,u=>∃ t,u=Value.float b t
 | .ref a,u=>u=Value.ref a
 | .ty n,u=>u=Value.type n
abbrev Vals:List V->List Value->Prop:=Paired RelV
theorem Vals.length{xs:List V}{us:List Value}(r:Vals xs us):xs.length=us.length:=Paired.length r
theorem Vals.get:∀ {xs:List V} {us:List Value} {i:Nat} {x:V},Vals xs us->xs[i]? =some x->∃ u,us[i]? =some u/\RelV x u
 | _,_,_,_,.nil,e=>by simp at e
 | _,_,0,_,.cons r _,e=>by simp at e;subst e;exact⟨_,rfl,r⟩
 | _,_,i+1,x,.cons _ t,e=>by
  obtain⟨u,h1,h2⟩:=Vals.get (i:=i) (x:=x) t (by simpa using e)
  exact⟨u,by simpa using h1,h2⟩
theorem Vals.set{x:V}{u:Value}(r:RelV x u):∀ {xs:List V} {us:List Value} (i:Nat),Vals xs us->Vals (xs.set i x) (us.set i u)
 | _,_,_,.nil=>.nil
 | _,_,0,.cons _ t=>.cons r t
 | _,_,i+1,.cons q t=>.cons q (Vals.set r i t)
theorem Vals.append:∀ {xs ys:List V} {us ws:List Value},Vals xs us->Vals ys ws->Vals (xs++ys) (us++ws)
 | _,_,_,_,.nil,s=>s
 | _,_,_,_,.cons r t,s=>.cons r (Vals.append t s)
theorem Vals.take:∀ {xs:List V} {us:List Value} (n:Nat),Vals xs us->Vals (xs.take n) (us.take n)
 | _,_,0,_=>.nil
 | _,_,_+1,.nil=>.nil
 | _,_,n+1,.cons r t=>.cons r (Vals.take n t)
theorem Vals.drop:∀ {xs:List V} {us:List Value} (n:Nat),Vals xs us->Vals (xs.drop n) (us.drop n)
 | _,_,0,r=>r
 | _,_,_+1,.nil=>.nil
 | _,_,n+1,.cons _ t=>Vals.drop n t
theorem Vals.none_of:∀ {xs:List V} {us:List Value} {i:Nat},Vals xs us->xs[i]? =none->us[i]? =none:=λ{xs us i} r e=>by
 have h1:=r.length
 have h2:xs.length<=i:=List.getElem?_eq_none_iff.mp e
 exact List.getElem?_eq_none_iff.mpr (by omega)
def RelO:Option V->Option Value->Prop
 | some v,some u=>RelV v u
 | none,none=>True
 | _,_=>False
def KV{κ :Type}:List (κ × V)->List (κ × Value)->Prop:=Paired λ(p: κ × V) (q: κ × Value)=>p.1=q.1/\RelV p.2 q.2
def kV:A0->V
 | .inl i=>.int i
 | .inr x=>.str x
inductive HO where
 /-- a list -/
 | lst (xs:List V)
 /-- a tuple (never changes) -/
 | tup (xs:List V)
 /-- a dict whose keys are ints and texts;one whose keys are tuples of ints and texts (the empty one is both) -/
 | dK (kvs:List (A0 × V)) | dT (kvs:List (List A0 × V))
 /-- a set of ints: its members,its size -/
 | set (S:Int->Bool) (n:Nat)
 /-- an instance of the class at C,its dict at dx,its attributes -/
 | ins (C dx:Addr) (fs:List (Str × V))
 /-- the dict of the instance at x -/
 | own (x:Addr)
 /-- the dict of an exception -/
 | xd (fs:List (Str × V))
 /-- a bound method,f of x -/
 | met (f x:Addr)
 /-- a range object lo,lo+1,.. below hi -/
 | rng (lo hi:Int)
 /-- a thing that is known to the object (the script;a dict while a loop walks it): read,never written while it is so -/
 | frz (o:Obj) (u:HO)
 /-- a code object's table -/
 | tbl (ps:Array Value)
 /-- any other thing,by what is true of its one object (a def of one's own: SetO a S n:=HO.ext λh=>..) -/
 | ext (φ :Heap->Prop)
abbrev Hp:=Addr->Option HO
def upd(H:Hp)(a:Addr)(o:HO):Hp:=λb=>if b=a then some o else H b
theorem AU{H:Hp}{a:Addr}{o:HO}:upd H a o a=some o:=by unfold upd;rw[if_pos rfl]
theorem AS{H:Hp}{a b:Addr}{o:HO}(h:b≠a):upd H a o b=H b:=by unfold upd;rw[if_neg h]
theorem K0{H:Hp}{a:Addr}{o u:HO}:upd (upd H a o) a u=upd H a u:=by
 funext b;unfold upd;split<;>rfl
theorem DA{H:Hp}{a b:Addr}{o u:HO}(h:H a=some o)(h':H b=some u)(d:o≠u):a≠b:=by
 intro e;subst e;rw[h]at h';exact d (Option.some.inj h')
theorem BG{H:Hp}{a b:Addr}{o:HO}(h:H a=some o)(h':H b=none):a≠b:=by
 intro e;subst e;rw[h]at h';cases h'
section
variable(P:Program)(w:World)
def ObjOk(H:Hp)(h:Heap)(a:Addr):HO->Prop
 | .lst xs=>xs.length<=sizeLine/\∃ (its:List Value) (n:Nat),Vals xs its/\h.get? a=some { cls:=.type "list",data:=.seq its.toArray n }
 | .tup xs=>xs.length<=sizeLine/\∃ its:List Value,Vals xs its/\IsTup h a its.toArray
 | .dK kvs=>kvs.length<=sizeLine/\(a == sysModules)=false/\∃ vs,KV kvs vs/\h.DictOf (D7 P w) a vs
 | .dT kvs=>kvs.length<=sizeLine/\(a == sysModules)=false/\∃ xs:List (List A0 × Addr × Value),
   Paired (λ(p:List A0 × V) (q:List A0 × Addr × Value)=>p.1=q.1/\H q.2.1=some (.tup (p.1.map kV))/\RelV p.2 q.2.2) kvs xs ∧
   ∃ o es ep,h.get? a=some o/\o.ExactDict/\o.data=.dict es ep/\es.toList=xs.map (entryOfKey (tupleKind (D7 P w)))/\(xs.map (·.1)).Nodup
 | .set S n=>h.SetOf (intKind P w) a S n
 | .ins C dx fs=>H dx=some (.own a)/\fs.length<=1000/\dx≠a/\h.get? a=some (W.instObj C dx) ∧
   ∃ mA,h.Ns1 dx mA/\(∀ f,RelO (fs.lookup f) (mA f))/\PySem.Within mA (fs.map (·.1))
 | .own _=>∃ o,h.get? a=some o
 | .xd fs=>∃ mA,h.Ns1 a mA/\∀ f,RelO (fs.lookup f) (mA f)
 | .rng lo hi=>∃ t u v,h.get? a=some { cls:=.type "range",data:=.fields #[.int lo t,.int hi u,.int 1 v] }
 | .frz o u=>h.get? a=some o/\ObjOk H h a u
 | .tbl ps=>h.get? a=some { cls:=.none,data:=.fields ps }
 | .met f x=>h.get? a=some (W.methodObj (.ref f) (.ref x))
 | .ext φ => φ h/\(∃ o,h.get? a=some o)/\∀ h1 h2:Heap,φ h1->(∀ o,h1.get? a=some o->h2.get? a=some o)-> φ h2
def HOk(H:Hp)(h:Heap):Prop:=∀ a o,H a=some o->ObjOk P w H h a o
end
section
variable{P:Program}{w:World}{H H':Hp}{h h':Heap}{a:Addr}{o:HO}
theorem ObjOk.lt(x:ObjOk P w H h a o):a<h.objs.size:=by
 cases o with
 | lst xs=>obtain⟨_,_,_,_,e⟩:=x;exact Heap.lt_size e
 | tup xs=>obtain⟨_,_,_,p⟩:=x;exact p.lt
 | dK kvs=>obtain⟨_,_,_,_,o,_,_,e,_⟩:=x;exact Heap.lt_size e
 | dT kvs=>obtain⟨_,_,_,_,o,_,_,e,_⟩:=x;exact Heap.lt_size e
 | set S n=>obtain⟨o,_,_,_,e,_⟩:=x;exact Heap.lt_size e
 | ins C dx fs=>obtain⟨_,_,_,e,_⟩:=x;exact Heap.lt_size e
 | own y=>obtain⟨_,e⟩:=x;exact Heap.lt_size e
 | xd fs=>obtain⟨_,⟨_,_,_,e,_⟩,_⟩:=x;exact Heap.lt_size e
 | rng lo hi=>obtain⟨_,_,_,e⟩:=x;exact Heap.lt_size e
 | frz ob u=>obtain⟨e,_⟩:=x;exact Heap.lt_size e
 | tbl ps=>exact Heap.lt_size (show h.get? a=some _ from x)
 | met f y=>exact Heap.lt_size (show h.get? a=some _ from x)
 | ext φ =>obtain⟨_,⟨_,e⟩,_⟩:=x;exact Heap.lt_size e
theorem Paired.mapP{α β :Type}{F G: α -> β ->Prop}:∀ {l₁:List α} {l₂:List β},Paired F l₁ l₂->(∀ a b,F a b->G a b)->Paired G l₁ l₂
 | _,_,.nil,_=>.nil
 | _,_,.cons r t,f=>.cons (f _ _ r) (Paired.mapP t f)
theorem ObjOk.stay(x:ObjOk P w H h a o)(k:∀ b u,(b=a\/H b=some (.own a))->h.get? b=some u->h'.get? b=some u)
  (ho:∀ b,H b=some (.own a)->H' b=some (.own a)) (ht:∀ b xs,H b=some (.tup xs)->H' b=some (.tup xs)):ObjOk P w H' h' a o:=by
 induction o with
 | lst xs=>obtain⟨z,its,n,r,e⟩:=x;exact⟨z,its,n,r,k _ _ (.inl rfl) e⟩
 | tup xs=>obtain⟨z,its,r,ob,e,c⟩:=x;exact⟨z,its,r,ob,k _ _ (.inl rfl) e,c⟩
 | dK kvs=>obtain⟨z,y,vs,r,ob,es,ep,e,c⟩:=x;exact⟨z,y,vs,r,ob,es,ep,k _ _ (.inl rfl) e,c⟩
 | dT kvs =>
  obtain⟨z,y,xs,r,ob,es,ep,e,c⟩:=x
  exact⟨z,y,xs,Paired.mapP r λp q z=>⟨z.1,ht _ _ z.2.1,z.2.2⟩,ob,es,ep,k _ _ (.inl rfl) e,c⟩
 | set S n=>obtain⟨ob,es,ep,t,e,c⟩:=x;exact⟨ob,es,ep,t,k _ _ (.inl rfl) e,c⟩
 | ins C dx fs =>
  obtain⟨d,z,ne,e,mA,⟨od,es,ep,e2,c⟩,r⟩:=x
  exact⟨ho _ d,z,ne,k _ _ (.inl rfl) e,mA,⟨od,es,ep,k _ _ (.inr d) e2,c⟩,r⟩
 | own y=>obtain⟨ob,e⟩:=x;exact⟨ob,k _ _ (.inl rfl) e⟩
 | xd fs=>obtain⟨mA,⟨od,es,ep,e,c⟩,r⟩:=x;exact⟨mA,⟨od,es,ep,k _ _ (.inl rfl) e,c⟩,r⟩
 | rng lo hi=>obtain⟨t,u,v,e⟩:=x;exact⟨t,u,v,k _ _ (.inl rfl) e⟩
 | frz ob u ih=>obtain⟨e,q⟩:=x;exact⟨k _ _ (.inl rfl) e,ih q⟩
 | tbl ps =>
  have e:h.get? a=some { cls:=.none,data:=.fields ps }:=x
  show h'.get? a=some { cls:=.none,data:=.fields ps }
  exact k a _ (.inl rfl) e
 | met f y =>
  have e:h.get? a=some (W.methodObj (.ref f) (.ref y)):=x
  show h'.get? a=some (W.methodObj (.ref f) (.ref y))
  exact k a _ (.inl rfl) e
 | ext φ =>obtain⟨p,⟨o,e⟩,st⟩:=x;exact⟨st _ _ p λo q=>k _ _ (.inl rfl) q,⟨o,k _ _ (.inl rfl) e⟩,st⟩
theorem HOk.lt(x:HOk P w H h)(e:H a=some o):a<h.objs.size:=(x a o e).lt
theorem HOk.fresh(x:HOk P w H h)(e:h.objs.size<=a):H a=none:=by
 cases q:H a with
 | none=>rfl
 | some u=>exact absurd (Nat.lt_of_lt_of_le (x.lt q) e) (Nat.lt_irrefl _)
theorem HOk.kept(x:HOk P w H h)(k:∀ b u,h.get? b=some u->h'.get? b=some u):HOk P w H h':=λa o e =>
 (x a o e).stay (λb u _ q=>k b u q) (λ_ q=>q) λ_ _ q=>q
theorem HOk.laid(x:HOk P w H h)(k:∀ b u,h.get? b=some u->h'.get? b=some u)(hp:h.objs.size<=a)(new:ObjOk P w (upd H a o) h' a o):HOk P w (upd H a o) h':=λb u e=>by
 have hn:=x.fresh hp
 by_cases hb:b=a
 ·subst hb;rw[AU]at e;cases e;exact new
 ·rw[AS hb]at e
  exact(x b u e).stay (λc v _ q=>k c v q) (λc q=>by rw[AS (BG q hn)];exact q) λc xs q=>by rw[AS (BG q hn)];exact q
end
def Rd(H:Hp)(a:Addr)(u:HO):Prop:=H a=some u\/∃ o,H a=some (.frz o u)
theorem Rd.of{H:Hp}{a:Addr}{u:HO}(h:H a=some u):Rd H a u:=.inl h
theorem Rd.ok{P:Program}{w:World}{H:Hp}{h:Heap}{a:Addr}{u:HO}(r:Rd H a u)(x:HOk P w H h):ObjOk P w H h a u:=by
 rcases r with r | ⟨o,r⟩
 ·exact x a u r
 ·obtain⟨_,q⟩:=x a _ r
  exact q
def K1:Option HO->Prop
 | some (.lst _)=>True
 | some (.dK _)=>True
 | some (.dT _)=>True
 | some (.set _ _)=>True
 | some (.ins _ _ _)=>True
 | some (.ext _)=>True
 | _=>False
section
variable{P:Program}{w:World}{H:Hp}{h h':Heap}{x e:Addr}{o':HO}
theorem HOk.write(ok:HOk P w H h)(mu:K1 (H x))(he:e=x\/H e=some (.own x))(k:∀ b u,b≠e->h.get? b=some u->h'.get? b=some u)(heo:∃ u,h'.get? e=some u)
  (new:ObjOk P w (upd H x o') h' x o'):HOk P w (upd H x o') h':=λb u q=>by
 have nown:∀ c y,H c=some (.own y)->c≠x:=λc y r z=>by subst z;rw[r]at mu;exact mu
 have ntup:∀ c xs,H c=some (.tup xs)->c≠x:=λc xs r z=>by subst z;rw[r]at mu;exact mu
 by_cases hb:b=x
 ·subst hb;rw[AU]at q;cases q;exact new
 ·rw[AS hb]at q
  by_cases hbe:b=e
  ·have q':H b=some (.own x):=by
    rcases he with z | z
    ·exact absurd (hbe.trans z) hb
    ·rw[hbe];exact z
   rw[q]at q';cases q'
   obtain⟨v,hv⟩:=heo
   exact⟨v,by rw[hbe];exact hv⟩
  ·refine(ok b u q).stay (λc v hc r=>k c v ?_ r) (λc r=>by rw[AS (nown c b r)];exact r) λc xs r=>by rw[AS (ntup c xs r)];exact r
   rcases hc with rfl | hc
   ·exact hbe
   ·rintro rfl
    rcases he with z | z
    ·exact nown c b hc z
    ·rw[hc]at z;cases z;exact hb rfl
end
structure Un(fs ex:List Addr)(H H':Hp)(h h':Heap):Prop where
 keep:∀ b o,h.get? b=some o->H b=none->b∉fs->b∉ex->h'.get? b=some o
 slot:∀ b o,h.get? b=some o->H b=none->b∈fs->b∉ex->∃ sl,h'.get? b=some { o with slots:=sl }
 free:∀ b o,h.get? b=some o->H b=none->b∉ex->H' b=none
 there:∀ b o,h.get? b=some o->b∉ex->∃ o',h'.get? b=some o'
 tups:∀ b xs,H b=some (.tup xs)->H' b=some (.tup xs)
 frzs:∀ b o u,H b=some (.frz o u)->H' b=some (.frz o u)
 tbls:∀ b ps,H b=some (.tbl ps)->∃ more,H' b=some (.tbl (ps++more))
section
variable{fs fs' ex ex':List Addr}{H H1 H2:Hp}{h h1 h2 h':Heap}{a x e:Addr}{o:HO}
theorem Un.any(u:Un fs ex H H1 h h1){b:Addr}{ob:Obj}(q:h.get? b=some ob)(n:H b=none)(hx:b∉ex):∃ sl,h1.get? b=some { ob with slots:=sl }:=by
 by_cases hb:b∈fs
 ·exact u.slot b ob q n hb hx
 ·exact⟨ob.slots,u.keep b ob q n hb hx⟩
theorem Un.trans(a:Un fs ex H H1 h h1)(b:Un fs ex H1 H2 h1 h2):Un fs ex H H2 h h2 where
 keep:=λc ob q n hc hx=>b.keep c ob (a.keep c ob q n hc hx) (a.free c ob q n hx) hc hx
 slot:=λc ob q n hc hx=>by
  obtain⟨sl,e1⟩:=a.slot c ob q n hc hx
  obtain⟨sl',e2⟩:=b.slot c _ e1 (a.free c ob q n hx) hc hx
  exact⟨sl',e2⟩
 free:=λc ob q n hx=>by
  obtain⟨o',e1⟩:=a.there c ob q hx
  exact b.free c o' e1 (a.free c ob q n hx) hx
 there:=λc ob q hx=>by
  obtain⟨o',e1⟩:=a.there c ob q hx
  exact b.there c o' e1 hx
 tups:=λc xs q=>b.tups c xs (a.tups c xs q)
 frzs:=λc ob xs q=>b.frzs c ob xs (a.frzs c ob xs q)
 tbls:=λc ps q=>by
  obtain⟨m1,e1⟩:=a.tbls c ps q
  obtain⟨m2,e2⟩:=b.tbls c _ e1
  exact⟨m1++m2,by rw[e2,Array.append_assoc]⟩
theorem Un.kept(k:∀ b u,h.get? b=some u->h'.get? b=some u):Un fs ex H H h h' :=
 ⟨λb ob q _ _ _=>k b ob q,λb ob q _ _ _=>⟨ob.slots,k b ob q⟩,λ_ _ _ n _=>n,λb ob q _=>⟨ob,k b ob q⟩,λ_ _ q=>q,λ_ _ _ q=>q,λ_ ps q=>⟨#[],by rw[q];simp⟩⟩
theorem Un.refl:Un fs ex H H h h:=Un.kept λ_ _ q=>q
theorem Un.laid(k:∀ b u,h.get? b=some u->h'.get? b=some u)(hp:h.objs.size<=a)(hn:H a=none):Un fs ex H (upd H a o) h h' where
 keep:=λb u q _ _ _=>k b u q
 slot:=λb u q _ _ _=>⟨u.slots,k b u q⟩
 free:=λb u q n _=>by rw[AS (Nat.ne_of_lt (Nat.lt_of_lt_of_le (Heap.lt_size q) hp))];exact n
 there:=λb u q _=>⟨u,k b u q⟩
 tups:=λb xs q=>by rw[AS (BG q hn)];exact q
 frzs:=λb u xs q=>by rw[AS (BG q hn)];exact q
 tbls:=λb ps q=>⟨#[],by rw[AS (BG q hn),q];simp⟩
theorem Un.write(mu:K1 (H x))(he:e=x\/H e=some (.own x))(k:∀ b u,b≠e->h.get? b=some u->h'.get? b=some u)(heo:∃ u,h'.get? e=some u):Un fs ex H (upd H x o) h h':=by
 have hx:∀ b,H b=none->b≠x:=λb n z=>by subst z;rw[n]at mu;exact mu
 have hb:∀ b,H b=none->b≠e:=λb n z=>by
  subst z
  rcases he with r | r
  ·exact hx b n r
  ·rw[n]at r;cases r
 have hm:∀ b u,H b=some u->¬ K1 (some u)->b≠x:=λb u q nm z=>by subst z;rw[q]at mu;exact nm mu
 refine⟨λb u q n _ _=>k b u (hb b n) q,λb u q n _ _=>⟨u.slots,k b u (hb b n) q⟩,λb u q n _=>by rw[AS (hx b n)];exact n,λb u q _=> ?_,
  λb xs q=>by rw[AS (hm b _ q λz=>z)];exact q,λb u xs q=>by rw[AS (hm b _ q λz=>z)];exact q,λb ps q=>⟨#[],by rw[AS (hm b _ q λz=>z),q];simp⟩⟩
 by_cases hbe:b=e
 ·subst hbe;exact heo
 ·exact⟨u,k b u hbe q⟩
theorem Un.mono(u:Un fs ex H H1 h h1)(hs:∀ b∈fs,b∈fs')(hx:∀ b∈ex,b∈ex'):Un fs' ex' H H1 h h1 :=
 ⟨λb ob q n hb he=>u.keep b ob q n (λz=>hb (hs b z)) λz=>he (hx b z),λ_ _ q n _ he=>u.any q n λz=>he (hx _ z),λb ob q n he=>u.free b ob q n λz=>he (hx b z),λb ob q he=>u.there b ob q λz=>he (hx b z),u.tups,u.frzs,u.tbls⟩
end
def M8(h:Heap)(H:Hp):List Addr:=(List.range h.objs.size).filter λa=>(H a).isSome
def FV(h:Heap)(H:Hp):Heap:=W.hideAll h (M8 h H)
theorem dM(h:Heap)(H:Hp):(FV h H).objs.size=h.objs.size:=W.hideAll_size _ _
theorem dN{h:Heap}{H:Hp}{b:Addr}{o:Obj}(e:h.get? b=some o)(n:H b=none):(FV h H).get? b=some o :=
 W.hideAll_get _ e λhm=>by
  have q:(H b).isSome=true:=(List.mem_filter.mp hm).2
  rw[n]at q;simp at q
theorem dO{h:Heap}{H:Hp}{b:Addr}{o:Obj}(e:(FV h H).get? b=some o):h.get? b=some o/\H b=none:=by
 have e':h.get? b=some o:=W.of_hideAll (M8 h H) e
 refine⟨e',?_⟩
 cases q:H b with
 | none=>rfl
 | some x =>
  have hm:b∈M8 h H:=List.mem_filter.mpr ⟨List.mem_range.mpr (Heap.lt_size e'),by simp[q]⟩
  have z:(FV h H).get? b=none:=W.hideAll_none (M8 h H) hm
  rw[z]at e;cases e
def dP(g h:Heap)(L:Addr):List (Addr × Obj):=(List.range h.objs.size).filterMap λa=>if a=L\/(g.get? a).isSome=true then none else(h.get? a).map λo=>(a,o)
def DY(g h:Heap)(L d:Addr):List (Addr × Obj):=(dP g h L).filter λp=>decide (p.1≠d)
end L2
namespace L2
structure Mod(K:W.Frag)(mg:Str->Option Value)(base:Heap):Prop where
 kin:K.In base
 glob:base.Ns mainGlobals mg
 blt:∃ mb,base.Ns builtinsNs mb/\∀ x:Str,x≠"__name__"->mb x=bootBuiltins x
 nolimit:base.NoLimit
structure Cx where
 prog:Program
 w:World
 K:W.Frag
 mg:Str->Option Value
 base:Heap
 A:Around
 N:List Str
 s₀:Shared
 H₀:Hp
 env:Env
 outer:List Env
 stack:List Env
 ex:List Addr
 fn:Str->Bool
 calm:Bool
 pn:List (Addr × Obj)
 xe:Value->Shared->Prop
def C5(l:List Env):List Addr:=l.filterMap (·.frame)
abbrev Cx.fs(X:Cx):List Addr:=C5 X.outer
def M9(sc:Scope)(x:Str):Prop:=sc.names.lookup x=some .local\/sc.names.lookup x=some .cell\/sc.names.lookup x=some .free
def IV(sc:Scope)(x:Str):Prop:=sc.names.lookup x=some .local\/sc.names.lookup x=some .cell
def dQ(env:Env)(h:Heap)(m:Str->Option Value)(x:Str)(u:Value):Prop :=
 (env.kindOf x=some .local/\m x=some u)\/((env.kindOf x=some .cell\/env.kindOf x=some .free)/\∃ c,env.cells.lookup x=some c/\h.IsCell c (some u))
structure Cx.Ok(X:Cx):Prop where
 mod:Mod X.K X.mg X.base
 kind:X.env.scope.kind=.function
 glob:X.env.globals=mainGlobals
 blt:X.env.builtins=builtinsNs
 above:X.s₀.heap.objs.size<=X.env.locals
 inj:∀ x y c,X.env.cells.lookup x=some c->X.env.cells.lookup y=some c->x=y
 has:∀ x,(X.env.kindOf x=some .cell\/X.env.kindOf x=some .free)->∃ c,X.env.cells.lookup x=some c
 cab:∀ x c,X.fn x=true->X.env.cells.lookup x=some c->X.s₀.heap.objs.size<=c
 hd:X.calm=true->X.A.handled=none
 frames:X.A.frames=some X.stack
 stk:X.stack=X.outer\/(X.stack=X.env::X.outer/\X.env.frame=some X.env.locals)
 exf:∀ b∈X.ex,b≠X.env.locals/\∀ x c,X.env.cells.lookup x=some c->c≠b
 bs:∀ b o,X.base.get? b=some o->X.s₀.heap.get? b=some o/\X.H₀ b=none
 bsz:X.base.objs.size<=X.s₀.heap.objs.size
 noex:∀ b o,X.base.get? b=some o->b∉X.ex
 exfs:∀ b∈X.ex,b∉X.fs
 funs:X.s₀.heap.FunFrames X.base X.outer
 frf:∀ b∈X.fs,X.H₀ b=none
structure Inv(X:Cx)(pins:List (Addr × Obj))(σ:List (Option V))(H:Hp)(s:Shared):Prop where
 ok:X.Ok
 os:s.os=X.s₀.os
 bare:AllBare s.gens
 base:Un X.fs X.ex X.H₀ H X.s₀.heap s.heap
 loc:∃ m,s.heap.Ns X.env.locals m/\∀ (i:Nat) (x:Str) (v:V),X.N[i]? =some x->σ[i]? =some (some v)->M9 X.env.scope x->∃ u,RelV v u/\dQ X.env s.heap m x u
 cell:∀ x c,X.env.cells.lookup x=some c->∃ v,s.heap.IsCell c v
 free:H X.env.locals=none
 freeC:∀ x c,X.env.cells.lookup x=some c->H c=none
 pin:∀ p∈X.pn++pins,s.heap.get? p.1=some p.2/\H p.1=none/\p.1≠X.env.locals/\p.1∉X.fs/\∀ v,p.2.data≠.cell v
 hok:HOk X.prog X.w H s.heap
 len:σ.length=X.N.length
section
variable{X:Cx}{pins:List (Addr × Obj)}{σ:List (Option V)}{H H':Hp}{s:Shared}{h':Heap}
theorem Cx.Ok.nofr(ok:X.Ok){b:Addr}{o:Obj}(e:X.base.get? b=some o):b∉X.fs:=λhb=>by
 have:=(ok.funs.mem hb).1
 rw[e]at this;cases this
theorem Inv.bs(I:Inv X pins σ H s):∀ b o,X.base.get? b=some o->s.heap.get? b=some o/\H b=none:=λb o e =>
 ⟨I.base.keep b o (I.ok.bs b o e).1 (I.ok.bs b o e).2 (I.ok.nofr e) (I.ok.noex b o e),I.base.free b o (I.ok.bs b o e).1 (I.ok.bs b o e).2 (I.ok.noex b o e)⟩
theorem Inv.bk(I:Inv X pins σ H s):∀ b o,X.base.get? b=some o->s.heap.get? b=some o:=λb o e=>(I.bs b o e).1
theorem Inv.mod(I:Inv X pins σ H s):Mod X.K X.mg X.base:=I.ok.mod
theorem Inv.kIn(I:Inv X pins σ H s):X.K.In s.heap:=I.ok.mod.kin.keeps I.bk
theorem Inv.nolimit(I:Inv X pins σ H s):s.heap.NoLimit:=I.ok.mod.nolimit.keeps I.bk
theorem Inv.fr(I:Inv X pins σ H s):∃ m,Fr X.base X.env.locals s.heap m :=
 let ⟨m,hn,_⟩:=I.loc
 ⟨m,hn,I.bk,Nat.le_trans I.ok.bsz I.ok.above⟩
theorem Inv.lt(I:Inv X pins σ H s):X.env.locals<s.heap.objs.size:=let ⟨_,hn,_⟩:=I.loc;hn.lt
theorem Inv.sz(I:Inv X pins σ H s):X.s₀.heap.objs.size<=s.heap.objs.size:=Nat.le_trans I.ok.above (Nat.le_of_lt I.lt)
theorem Inv.nofs(I:Inv X pins σ H s){a:Addr}(h:s.heap.objs.size<=a):a∉X.fs:=λhb=>by
 obtain⟨_,o,ho,_⟩:=I.ok.funs.mem hb
 exact absurd (Nat.lt_of_lt_of_le (Heap.lt_size ho) (Nat.le_trans I.sz h)) (Nat.lt_irrefl _)
theorem Inv.cne(I:Inv X pins σ H s):∀ x c,X.env.cells.lookup x=some c->c≠X.env.locals:=λx c e z=>by
 obtain⟨v,o,ho,hd⟩:=I.cell x c e
 obtain⟨m,⟨o',es,ep,ho',hd',_⟩,_⟩:=I.loc
 rw[z,ho']at ho;cases ho;rw[hd']at hd;cases hd
theorem Inv.funs(I:Inv X pins σ H s):s.heap.FunFrames X.base X.outer:=by
 have all:∀ (l:List Env),(∀ b∈C5 l,b∈X.fs)->X.s₀.heap.FunFrames X.base l->s.heap.FunFrames X.base l:=by
  intro l
  induction l with
  | nil=>intro _ _;trivial
  | cons env r ih =>
   intro hs hl
   obtain⟨hk,⟨L,o,hf,hn,ho,hd⟩,hr⟩:=hl
   have hL:L∈X.fs:=hs L (by unfold C5;rw[List.filterMap_cons,hf];exact List.mem_cons_self)
   obtain⟨sl,e⟩:=I.base.slot L o ho (I.ok.frf L hL) hL λz=>I.ok.exfs L z hL
   exact⟨hk,⟨L,_,hf,hn,e,hd⟩,ih (λb hb=>hs b (by unfold C5;rw[List.filterMap_cons,hf];exact List.mem_cons_of_mem _ hb)) hr⟩
 exact all X.outer (λ_ hb=>hb) I.ok.funs
theorem Inv.stack(I:Inv X pins σ H s):s.heap.FunFrames X.base X.stack:=by
 rcases I.ok.stk with e | ⟨e,hf⟩
 ·rw[e];exact I.funs
 ·rw[e]
  obtain⟨m,hn,_⟩:=I.loc
  refine .cons (by rw[I.ok.kind];decide) hf hn ?_ I.funs
  exact Heap.get?_none_of_le (Nat.le_trans I.ok.bsz I.ok.above)
theorem Inv.stkSub(I:Inv X pins σ H s):∀ b∈C5 X.stack,b∈X.env.locals::X.fs:=λb hb=>by
 rcases I.ok.stk with e | ⟨e,hf⟩
 ·rw[e]at hb;exact List.mem_cons_of_mem _ hb
 ·rw[e]at hb
  unfold C5 at hb
  rw[List.filterMap_cons,hf]at hb
  exact hb
theorem Inv.stkFree(I:Inv X pins σ H s):∀ b∈C5 X.stack,H b=none:=λb hb=>by
 rcases List.mem_cons.mp (I.stkSub b hb)with e | hb
 ·rw[e];exact I.free
 ·obtain⟨_,o,ho,_⟩:=I.ok.funs.mem hb
  exact I.base.free b o ho (I.ok.frf b hb) λz=>I.ok.exfs b z hb
theorem Inv.step{g':Array GenState}{t':Nat}{d':Drawn}{ch:List Addr}(I:Inv X pins σ H s)
  (hch:∀ b∈ch,(b∈X.ex\/X.s₀.heap.objs.size<=b)/\b≠X.env.locals/\(∀ x c,X.env.cells.lookup x=some c->c≠b)/\∀ p∈X.pn++pins,p.1≠b)
  (keep:∀ b o,b≠X.env.locals->b∉X.fs->b∉ch->s.heap.get? b=some o->H b=none->h'.get? b=some o)
  (slot:∀ b o,b≠X.env.locals->b∈X.fs->b∉ch->s.heap.get? b=some o->H b=none->∃ sl,h'.get? b=some { o with slots:=sl }) (free:∀ b o,b∉ch->s.heap.get? b=some o->H b=none->H' b=none)
  (there:∀ b o,b∉ch->s.heap.get? b=some o->∃ o',h'.get? b=some o')
  (tups:∀ b xs,H b=some (.tup xs)->H' b=some (.tup xs)) (frzs:∀ b o u,H b=some (.frz o u)->H' b=some (.frz o u)) (tbls:∀ b ps,H b=some (.tbl ps)->∃ more,H' b=some (.tbl (ps++more)))
  (ns:∀ m,s.heap.Ns X.env.locals m->h'.Ns X.env.locals m) (hok:HOk X.prog X.w H' h') (hg:AllBare g') :
  Inv X pins σ H' { s with heap:=h',gens:=g',drawn:=d',toks:=t' }:=by
 have neL:∀ b o,X.s₀.heap.get? b=some o->b≠X.env.locals:=λb o e=>Nat.ne_of_lt (Nat.lt_of_lt_of_le (Heap.lt_size e) I.ok.above)
 have neC:∀ b o,X.s₀.heap.get? b=some o->b∉X.ex->b∉ch:=λb o e hx hb=>by
  rcases(hch b hb).1 with z | z
  ·exact hx z
  ·exact absurd (Nat.lt_of_lt_of_le (Heap.lt_size e) z) (Nat.lt_irrefl _)
 have cellK:∀ x c,X.env.cells.lookup x=some c->∀ v,s.heap.IsCell c v->h'.IsCell c v:=λx c e v ⟨o,ho,hd⟩=>by
  have nch:c∉ch:=λz=>(hch c z).2.2.1 x c e rfl
  by_cases hc:c∈X.fs
  ·obtain⟨sl,q⟩:=slot c o (I.cne x c e) hc nch ho (I.freeC x c e)
   exact⟨_,q,hd⟩
  ·exact⟨o,keep c o (I.cne x c e) hc nch ho (I.freeC x c e),hd⟩
 refine⟨I.ok,I.os,hg,⟨λb o e n hb hx=> ?_,λb o e n hb hx=> ?_,λb o e n hx=> ?_,λb o e hx=> ?_,λb xs e=>tups b xs (I.base.tups b xs e),λb o xs e=>frzs b o xs (I.base.frzs b o xs e),λb ps e=> ?_⟩,?_,λx c e=> ?_,?_,λx c e=> ?_,λp hp=> ?_,hok,I.len⟩
 ·exact keep b o (neL b o e) hb (neC b o e hx) (I.base.keep b o e n hb hx) (I.base.free b o e n hx)
 ·obtain⟨sl,e1⟩:=I.base.slot b o e n hb hx
  obtain⟨sl',e2⟩:=slot b _ (neL b o e) hb (neC b o e hx) e1 (I.base.free b o e n hx)
  exact⟨sl',e2⟩
 ·obtain⟨o',e1⟩:=I.base.there b o e hx
  exact free b o' (neC b o e hx) e1 (I.base.free b o e n hx)
 ·obtain⟨o',e1⟩:=I.base.there b o e hx
  exact there b o' (neC b o e hx) e1
 ·obtain⟨m1,e1⟩:=I.base.tbls b ps e
  obtain⟨m2,e2⟩:=tbls b _ e1
  exact⟨m1++m2,by rw[e2,Array.append_assoc]⟩
 ·obtain⟨m,hn,hl⟩:=I.loc
  refine⟨m,ns m hn,λi x v e1 e2 e3=> ?_⟩
  obtain⟨u,r,l⟩:=hl i x v e1 e2 e3
  refine⟨u,r,?_⟩
  rcases l with l | ⟨k,c,e,z⟩
  ·exact .inl l
  ·exact .inr ⟨k,c,e,cellK x c e _ z⟩
 ·obtain⟨v,z⟩:=I.cell x c e
  exact⟨v,cellK x c e v z⟩
 ·obtain⟨m,⟨o,_,_,ho,_⟩,_⟩:=I.loc
  exact free _ o (λz=>(hch _ z).2.1 rfl) ho I.free
 ·obtain⟨v,o,ho,hd⟩:=I.cell x c e
  exact free c o (λz=>(hch c z).2.2.1 x c e rfl) ho (I.freeC x c e)
 ·obtain⟨e,n,ne,nf,d⟩:=I.pin p hp
  have nch:p.1∉ch:=λz=>(hch p.1 z).2.2.2 p hp rfl
  exact⟨keep p.1 p.2 ne nf nch e n,free p.1 p.2 nch e n,ne,nf,d⟩
theorem Inv.un{t':Nat}(I:Inv X pins σ H s)(u:Un X.fs [] H H' s.heap h')(hok:HOk X.prog X.w H' h'):Inv X pins σ H' { s with heap:=h',toks:=t' }:=by
 obtain⟨m,⟨o,es,ep,ho,r⟩,_⟩:=id I.loc
 obtain⟨sl,hL⟩:=u.any ho I.free (by simp)
 exact I.step (g':=s.gens) (d':=s.drawn) (ch:=[]) (λ_ z=>nomatch z) (λb o _ hb _ e n=>u.keep b o e n hb (by simp)) (λb o _ hb _ e n=>u.slot b o e n hb (by simp)) (λb o _ e n=>u.free b o e n (by simp)) (λb o _ e=>u.there b o e (by simp)) u.tups u.frzs u.tbls (λm' hm=>by
  obtain⟨o',es',ep',ho',r'⟩:=hm
  rw[ho]at ho';cases ho'
  exact⟨_,es',ep',hL,r'⟩) hok I.bare
theorem Inv.call{g':Array GenState}{t':Nat}{d':Drawn}{ch:List Addr}(I:Inv X pins σ H s)(u:Un (C5 X.stack) ch H H' s.heap h')(hok:HOk X.prog X.w H' h')(hg:AllBare g')
  (hch:∀ b∈ch,(b∈X.ex\/X.s₀.heap.objs.size<=b)/\b≠X.env.locals/\(∀ x c,X.env.cells.lookup x=some c->c≠b)/\∀ p∈X.pn++pins,p.1≠b) :
  Inv X pins σ H' { s with heap:=h',gens:=g',drawn:=d',toks:=t' }:=by
 obtain⟨m,⟨o,es,ep,ho,r⟩,_⟩:=id I.loc
 obtain⟨sl,hL⟩:=u.any ho I.free λz=>(hch _ z).2.1 rfl
 exact I.step (ch:=ch) hch (λb o hL hb hc e n=>u.keep b o e n (λz=>(List.mem_cons.mp (I.stkSub b z)).elim hL hb) hc) (λb o _ _ hc e n=>u.any e n hc) (λb o hc e n=>u.free b o e n hc) (λb o hc e=>u.there b o e hc) u.tups u.frzs u.tbls (λm' hm=>by
  obtain⟨o',es',ep',ho',r'⟩:=hm
  rw[ho]at ho';cases ho'
  exact⟨_,es',ep',hL,r'⟩) hok hg
theorem Inv.turned{t':Nat}{it:Addr}(I:Inv X pins σ H s)(k:∀ b o,b≠it->s.heap.get? b=some o->h'.get? b=some o)(hn:H it=none)(hL:it≠X.env.locals)
  (h1:it∈X.ex\/X.s₀.heap.objs.size<=it) (h2:∀ x c,X.env.cells.lookup x=some c->c≠it) (h3:∀ p∈X.pn++pins,p.1≠it):Inv X pins σ H { s with heap:=h',toks:=t' }:=by
 have nit:∀ b u,H b=some u->b≠it:=λb u e z=>by rw[z,hn]at e;cases e
 refine I.step (g':=s.gens) (d':=s.drawn) (ch:=[it]) (λb hb=> ?_) (λb o _ _ hc e _=>k b o (λz=>hc (by simp[z])) e) (λb o _ _ hc e _=>⟨o.slots,k b o (λz=>hc (by simp[z])) e⟩) (λ_ _ _ _ n=>n)
  (λb o hc e=>⟨o,k b o (λz=>hc (by simp[z])) e⟩) (λ_ _ e=>e) (λ_ _ _ e=>e) (λb ps e=>⟨#[],by rw[e];simp⟩) (λm hm=> ?_) (λb u e=> ?_) I.bare
 ·have e:b=it:=by simpa using hb
  subst e
  exact⟨h1,hL,h2,h3⟩
 ·obtain⟨o,es,ep,ho,r⟩:=hm
  exact⟨o,es,ep,k _ o (Ne.symm hL) ho,r⟩
 ·refine(I.hok b u e).stay (λc v hc q=>k c v ?_ q) (λ_ q=>q) λ_ _ q=>q
  rcases hc with z | z
  ·rw[z];exact nit b u e
  ·exact nit c _ z
theorem Inv.tok(I:Inv X pins σ H s)(t:Nat):Inv X pins σ H { s with toks:=t }:=I.un (h':=s.heap) (t':=t) Un.refl I.hok
theorem Inv.kept{t':Nat}(I:Inv X pins σ H s)(k:∀ b u,s.heap.get? b=some u->h'.get? b=some u):Inv X pins σ H { s with heap:=h',toks:=t' }:=I.un (Un.kept k) (I.hok.kept k)
theorem Inv.laid{a:Addr}{o:HO}{t':Nat}(I:Inv X pins σ H s)(k:∀ b u,s.heap.get? b=some u->h'.get? b=some u)(hp:s.heap.objs.size<=a)(new:ObjOk X.prog X.w (upd H a o) h' a o) :
  Inv X pins σ (upd H a o) { s with heap:=h',toks:=t' }:=I.un (Un.laid k hp (I.hok.fresh hp)) (I.hok.laid k hp new)
theorem Inv.write{x e:Addr}{o:HO}{t':Nat}(I:Inv X pins σ H s)(mu:K1 (H x))(he:e=x\/H e=some (.own x))(k:∀ b u,b≠e->s.heap.get? b=some u->h'.get? b=some u)(heo:∃ u,h'.get? e=some u)
  (new:ObjOk X.prog X.w (upd H x o) h' x o):Inv X pins σ (upd H x o) { s with heap:=h',toks:=t' }:=I.un (Un.write mu he k heo) (I.hok.write mu he k heo new)
theorem Inv.pins_of{pins':List (Addr × Obj)}(I:Inv X pins σ H s)(h:∀ p∈pins',s.heap.get? p.1=some p.2/\H p.1=none/\p.1≠X.env.locals/\p.1∉X.fs/\∀ v,p.2.data≠.cell v):Inv X pins' σ H s :=
 ⟨I.ok,I.os,I.bare,I.base,I.loc,I.cell,I.free,I.freeC,λp hp=>(List.mem_append.mp hp).elim (λz=>I.pin p (List.mem_append_left _ z)) (h p),I.hok,I.len⟩
theorem SD{N:List Str}(hN:N.Nodup){i j:Nat}{x:Str}(a:N[i]? =some x)(b:N[j]? =some x):i=j:=by
 obtain⟨h1,e1⟩:=List.getElem?_eq_some_iff.mp a
 obtain⟨h2,e2⟩:=List.getElem?_eq_some_iff.mp b
 exact(List.getElem_inj hN).mp (e1.trans e2.symm)
theorem SE{M:Model}{A:Around}{E:Value->Shared->Prop}{i:Nat}{x:Str}{v:V}{u:Value}{Q:Unit->Shared->Prop}(I:Inv X pins σ H s)(hN:X.N.Nodup)(hi:X.N[i]? =some x)(hx:IV X.env.scope x)(r:RelV v u)
  (h:∀ s',Inv X pins (σ.set i (some v)) H s'->(∃ a,Heap.SameBut a s.heap s'.heap/\(a=X.env.locals\/X.env.cells.lookup x=some a))->Q () s') (hf:X.fn x=true\/X.env.scope.names.lookup x=some .local:=by first | exact .inl rfl | exact .inr rfl | assumption):wpAny M A (storeName X.env x u) Q E s:=by
 obtain⟨m,hn,hl⟩:=id I.loc
 have hcls:(X.env.scope.kind == .class || (X.env.scope.kind == .module && X.env.locals != X.env.globals))=false:=by rw[I.ok.kind];rfl
 have hiσ:i<σ.length:=by rw[I.len];exact(List.getElem?_eq_some_iff.mp hi).1
 have cne:=I.cne
 have tracked:∀ {a:Addr} {h':Heap},(∃ o,s.heap.get? a=some o/\H a=none)->Heap.SameBut a s.heap h'->HOk X.prog X.w H h':=λ{a h'} ha hs b ob e=>by
  obtain⟨_,_,hfree⟩:=ha
  refine(I.hok b ob e).stay (λc w' hc q=>(hs.2 c ?_).trans q) (λ_ q=>q) λ_ _ q=>q
  rintro rfl
  rcases hc with rfl | hc
  ·rw[hfree]at e;cases e
  ·rw[hfree]at hc;cases hc
 rcases hx with hk | hk
 ·refine wpAny_storeName_local hk hn (λh' hn' hs=> ?_) hcls
  obtain⟨oL,_,_,hoL,_⟩:=id hn
  refine h _ ⟨I.ok,I.os,I.bare,⟨λb o e n hb hx=> ?_,λb o e n hb hx=> ?_,I.base.free,λb o e hx=> ?_,I.base.tups,I.base.frzs,I.base.tbls⟩,⟨_,hn',λj y v' e1 e2 e3=> ?_⟩,λy c e=> ?_,I.free,I.freeC,λp hp=> ?_,tracked ⟨oL,hoL,I.free⟩ hs,by simpa using I.len⟩ ⟨_,hs,.inl rfl⟩
  ·exact(hs.2 b (Nat.ne_of_lt (Nat.lt_of_lt_of_le (Heap.lt_size e) I.ok.above))).trans (I.base.keep b o e n hb hx)
  ·obtain⟨sl,e1⟩:=I.base.slot b o e n hb hx
   exact⟨sl,(hs.2 b (Nat.ne_of_lt (Nat.lt_of_lt_of_le (Heap.lt_size e) I.ok.above))).trans e1⟩
  ·obtain⟨o',e1⟩:=I.base.there b o e hx
   exact⟨o',(hs.2 b (Nat.ne_of_lt (Nat.lt_of_lt_of_le (Heap.lt_size e) I.ok.above))).trans e1⟩
  ·by_cases hj:j=i
   ·subst hj
    rw[hi]at e1;cases e1
    rw[List.getElem?_set_self hiσ]at e2
    cases e2
    exact⟨u,r,.inl ⟨hk,by simp⟩⟩
   ·rw[List.getElem?_set_ne (Ne.symm hj)]at e2
    obtain⟨u',r',q⟩:=hl j y v' e1 e2 e3
    refine⟨u',r',?_⟩
    rcases q with⟨k,e⟩ | ⟨k,c,e,z⟩
    ·refine .inl ⟨k,?_⟩
     have:y≠x:=λe=>hj (SD hN e1 (e ▸ hi))
     simp[this,e]
    ·exact .inr ⟨k,c,e,z.sameBut hs (cne y c e)⟩
  ·obtain⟨w',z⟩:=I.cell y c e
   exact⟨w',z.sameBut hs (cne y c e)⟩
  ·obtain⟨e,n,ne,nf,d⟩:=I.pin p hp
   exact⟨(hs.2 p.1 ne).trans e,n,ne,nf,d⟩
 ·have hfn:X.fn x=true:=by
   rcases hf with z | z
   ·exact z
   ·rw[z]at hk;cases hk
  obtain⟨c,hc⟩:=I.ok.has x (.inl hk)
  obtain⟨w',z⟩:=I.cell x c hc
  refine wpAny_storeName_cell I.ok.kind hk hc z (λh' hc' hs=> ?_)
  obtain⟨oc,hoc,hocd⟩:=id z
  refine h { s with heap:=h' } ⟨I.ok,I.os,I.bare,⟨λb o e n hb hx=> ?_,λb o e n hb hx=> ?_,I.base.free,λb o e hx=> ?_,I.base.tups,I.base.frzs,I.base.tbls⟩,⟨m,hn.sameBut hs (Ne.symm (cne x c hc)),λj y v' e1 e2 e3=> ?_⟩,λy c' e=> ?_,I.free,I.freeC,λp hp=> ?_,tracked ⟨oc,hoc,I.freeC x c hc⟩ hs,by simpa using I.len⟩ ⟨c,hs,.inr hc⟩
  ·exact(hs.2 b (Nat.ne_of_lt (Nat.lt_of_lt_of_le (Heap.lt_size e) (I.ok.cab x c hfn hc)))).trans (I.base.keep b o e n hb hx)
  ·obtain⟨sl,e1⟩:=I.base.slot b o e n hb hx
   exact⟨sl,(hs.2 b (Nat.ne_of_lt (Nat.lt_of_lt_of_le (Heap.lt_size e) (I.ok.cab x c hfn hc)))).trans e1⟩
  ·obtain⟨o',e1⟩:=I.base.there b o e hx
   exact⟨o',(hs.2 b (Nat.ne_of_lt (Nat.lt_of_lt_of_le (Heap.lt_size e) (I.ok.cab x c hfn hc)))).trans e1⟩
  ·by_cases hj:j=i
   ·subst hj
    rw[hi]at e1;cases e1
    rw[List.getElem?_set_self hiσ]at e2
    cases e2
    exact⟨u,r,.inr ⟨.inl hk,c,hc,hc'⟩⟩
   ·rw[List.getElem?_set_ne (Ne.symm hj)]at e2
    obtain⟨u',r',q⟩:=hl j y v' e1 e2 e3
    refine⟨u',r',?_⟩
    rcases q with q | ⟨k,c',e,z'⟩
    ·exact .inl q
    ·refine .inr ⟨k,c',e,z'.sameBut hs ?_⟩
     rintro rfl
     exact hj (SD hN e1 (I.ok.inj _ _ _ e hc ▸ hi))
  ·by_cases hcc:c'=c
   ·subst hcc;exact⟨_,hc'⟩
   ·obtain⟨w2,z2⟩:=I.cell y c' e
    exact⟨w2,z2.sameBut hs hcc⟩
  ·obtain⟨e,n,ne,nf,d⟩:=I.pin p hp
   refine⟨(hs.2 p.1 ?_).trans e,n,ne,nf,d⟩
   intro q
   rw[q,hoc]at e
   have q':oc=p.2:=Option.some.inj e
   exact d w' (by rw[<-q'];exact hocd)
theorem SF{M:Model}{A:Around}{E:Value->Shared->Prop}{i:Nat}{x:Str}{v:V}{u:Value}{Q:Unit->Shared->Prop}(I:Inv X pins σ H s)(hN:X.N.Nodup)(hi:X.N[i]? =some x)(hx:IV X.env.scope x)(r:RelV v u)
  (h:∀ s',Inv X pins (σ.set i (some v)) H s'->Q () s') (hf:X.fn x=true\/X.env.scope.names.lookup x=some .local:=by first | exact .inl rfl | exact .inr rfl | assumption):wpAny M A (storeName X.env x u) Q E s :=
 SE I hN hi hx r (λs' I' _=>h s' I') hf
theorem Inv.call'{s':Shared}{ch:List Addr}(I:Inv X pins σ H s)(ho:s'.os=s.os)(u:Un (C5 X.stack) ch H H' s.heap s'.heap)(hok:HOk X.prog X.w H' s'.heap)(hg:AllBare s'.gens)
  (hch:∀ b∈ch,(b∈X.ex\/X.s₀.heap.objs.size<=b)/\b≠X.env.locals/\(∀ x c,X.env.cells.lookup x=some c->c≠b)/\∀ p∈X.pn++pins,p.1≠b):Inv X pins σ H' s':=by
 obtain⟨h',g',d',t',o'⟩:=s'
 have e:o'=s.os:=ho
 subst e
 exact I.call (g':=g') (t':=t') (d':=d') u hok hg hch
end
abbrev XK:=Value->Option Addr->Hp->Prop
abbrev St:=List (Option V)
abbrev VK:=V->Hp->Prop
abbrev TE:=St->Hp->VK->Prop
abbrev TT:=St->Hp->(Bool->Hp->Prop)->Prop
abbrev TA:=St->Hp->(List V->Hp->Prop)->Prop
structure Ends where
 nx:St->Hp->Prop
 rt:VK
 bk:St->Hp->Prop:=λ_ _=>False
 ct:St->Hp->Prop:=λ_ _=>False
abbrev TS:=Ends->St->Hp->Prop
def EP(X:Cx)(pins:List (Addr × Obj))(σ:St)(Q:VK)(u:Value)(s':Shared):Prop:=∃ v H',Inv X pins σ H' s'/\RelV v u/\Q v H'
def TP(X:Cx)(pins:List (Addr × Obj))(σ:St)(Q:Bool->Hp->Prop)(b:Bool)(s':Shared):Prop:=∃ H',Inv X pins σ H' s'/\Q b H'
def AP(X:Cx)(pins:List (Addr × Obj))(σ:St)(Q:List V->Hp->Prop)(us:List Value)(s':Shared):Prop:=∃ vs H',Inv X pins σ H' s'/\Vals vs us/\Q vs H'
def SP(X:Cx)(pins:List (Addr × Obj))(D:Ends)(f:Flow)(s':Shared):Prop :=
 match f with
 | .next=>∃ σ' H',Inv X pins σ' H' s'/\D.nx σ' H'
 | .brk=>∃ σ' H',Inv X pins σ' H' s'/\D.bk σ' H'
 | .cont=>∃ σ' H',Inv X pins σ' H' s'/\D.ct σ' H'
 | .ret u=>∃ v σ' H',Inv X pins σ' H' s'/\RelV v u/\D.rt v H'
def PE(X:Cx)(e:Expr)(t:TE):Prop :=
 ∀ (pins:List (Addr × Obj)) (s:Shared) (σ:St) (H:Hp) (Q:VK),Inv X pins σ H s->t σ H Q->wpAny (model X.prog X.w) X.A (eval e X.env) (EP X pins σ Q) X.xe s
def PT(X:Cx)(e:Expr)(t:TT):Prop :=
 ∀ (pins:List (Addr × Obj)) (s:Shared) (σ:St) (H:Hp) (Q:Bool->Hp->Prop),Inv X pins σ H s->t σ H Q->wpAny (model X.prog X.w) X.A (isTrue e X.env (eval e X.env)) (TP X pins σ Q) X.xe s
def PW(X:Cx)(e:Expr)(t:TT):Prop :=
 ∀ (whole:Sem Value) (pins:List (Addr × Obj)) (s:Shared) (σ:St) (H:Hp) (Q:Bool->Hp->Prop),Inv X pins σ H s->t σ H Q->wpAny (model X.prog X.w) X.A (isTrue e X.env whole) (TP X pins σ Q) X.xe s
theorem PW.pt{X:Cx}{e:Expr}{t:TT}(h:PW X e t):PT X e t:=h _
def PA(X:Cx)(es:List Expr)(t:TA):Prop :=
 ∀ (pos:Pos) (pins:List (Addr × Obj)) (s:Shared) (σ:St) (H:Hp) (Q:List V->Hp->Prop),Inv X pins σ H s->t σ H Q->wpAny (model X.prog X.w) X.A (spliced (backTo pos (starEach es X.env))) (AP X pins σ Q) X.xe s
def PS(X:Cx)(st:Stmt)(t:TS):Prop :=
 ∀ (pins:List (Addr × Obj)) (s:Shared) (σ:St) (H:Hp) (D:Ends),Inv X pins σ H s->t D σ H->wpAny (model X.prog X.w) X.A (exec st X.env) (SP X pins D) X.xe s
def PSs(X:Cx)(st:List Stmt)(t:TS):Prop :=
 ∀ (pins:List (Addr × Obj)) (s:Shared) (σ:St) (H:Hp) (D:Ends),Inv X pins σ H s->t D σ H->wpAny (model X.prog X.w) X.A (execs st X.env) (SP X pins D) X.xe s
theorem AV{α :Type}{t:Sem α}{Q Q': α ->Shared->Prop}{M:Model}{A:Around}{E:Value->Shared->Prop}{s:Shared}(h:wpAny M A t Q E s)(hQ:∀ a s,Q a s->Q' a s):wpAny M A t Q' E s:=wpAny_mono h hQ λ_ _ x=>x
end L2
namespace L2
section
variable{X:Cx}
def NA(i:Nat):TE:=λσ H Q=>∃ v,σ[i]? =some (some v)/\Q v H
def tC(v:V):TE:=λ_ H Q=>Q v H
theorem SG{i:Nat}{x:Str}{pos:Pos}(hN:X.N[i]? =some x)(hv:M9 X.env.scope x)(hd:(x ==("__debug__":Str))=false:=by decide)(hcd:(x ==("__classdict__":Str))=false:=by decide):PE X (.Name x pos) (NA i):=by
 intro pins s σ H Q I h
 obtain⟨v,e,h⟩:=h
 obtain⟨m,hn,hl⟩:=I.loc
 obtain⟨u,r,l⟩:=hl i x v hN e hv
 have fin:EP X pins σ Q u s:=⟨v,H,I,r,h⟩
 rcases l with⟨hk,hm⟩ | ⟨hk,c,hc,hcell⟩
 ·exact wpAny_Name (wpAny_loadName_local I.ok.kind hk hn hm fin) hd
 ·rcases hk with hk | hk
  ·exact wpAny_Name (wpAny_loadName_cell I.ok.kind hk hc hcell fin) hd
  ·exact wpAny_Name (wpAny_loadName_free I.ok.kind hk hc hcell fin hcd) hd
theorem AH{i j pos}:PE X (.Constant (.int i) j pos) (tC (.int i)):=λ_ _ _ H _ I h=>wpAny_Constant_int ⟨.int i,H,I.tok _,⟨_,rfl⟩,h⟩
theorem IW{b j pos}:PE X (.Constant (.bool b) j pos) (tC (.bl b)):=λ_ _ _ H _ I h=>Constant_bool ⟨.bl b,H,I,rfl,h⟩
theorem CK{j pos}:PE X (.Constant .none j pos) (tC .non):=λ_ _ _ H _ I h=>Constant_none ⟨.non,H,I,rfl,h⟩
theorem BV{x j pos}:PE X (.Constant (.str x) j pos) (tC (.str x)):=λ_ _ _ H _ I h=>Calls.Constant_str ⟨.str x,H,I.tok _,⟨_,rfl⟩,h⟩
def Gl(X:Cx)(x:Str):Prop:=X.env.kindOf x=some .globalImplicit
theorem OC{E:Value->Shared->Prop}{pins:List (Addr × Obj)}{s:Shared}{σ:St}{H:Hp}{x:Str}{u:Value}{pos:Pos}{Q:Value->Shared->Prop}(I:Inv X pins σ H s)(hg:Gl X x)(hm:X.mg x=some u)(h:Q u s)
  (hd:(x ==("__debug__":Str))=false:=by decide):wpAny (model X.prog X.w) X.A (eval (.Name x pos) X.env) Q E s :=
 Calls.Name_function_global I.ok.kind hg (Calls.loadGlobal_global (by rw[I.ok.glob];exact I.mod.glob.keeps I.bk) hm h) hd
theorem IX{E:Value->Shared->Prop}{pins:List (Addr × Obj)}{s:Shared}{σ:St}{H:Hp}{x:Str}{u:Value}{pos:Pos}{Q:Value->Shared->Prop}(I:Inv X pins σ H s)(hg:Gl X x)(hm:X.mg x=none)(hv:bootBuiltins x=some u)(h:Q u s)
  (hn:x≠"__name__":=by decide) (hd:(x ==("__debug__":Str))=false:=by decide):wpAny (model X.prog X.w) X.A (eval (.Name x pos) X.env) Q E s:=by
 obtain⟨mb,h1,h2⟩:=I.mod.blt
 exact Calls.Name_function_global I.ok.kind hg (Calls.loadGlobal_builtin (by rw[I.ok.glob];exact I.mod.glob.keeps I.bk) hm (by rw[I.ok.blt];exact h1.keeps I.bk) ((h2 x hn).trans hv) h) hd
theorem K2{x:Str}{v:V}{u:Value}{pos:Pos}(hg:Gl X x)(hm:X.mg x=none)(hv:bootBuiltins x=some u)(r:RelV v u)(hn:x≠"__name__":=by decide)(hd:(x ==("__debug__":Str))=false:=by decide):PE X (.Name x pos) (tC v) :=
 λ_ _ _ H _ I h=>IX I hg hm hv ⟨v,H,I,r,h⟩ hn hd
variable{a b:Expr}{ta tb:TE}{pos:Pos}
def PC(X:Cx)(op:CmpOp)(a b:Expr)(t:TE):Prop :=
 ∀ (pins:List (Addr × Obj)) (s:Shared) (σ:St) (H:Hp) (Q:VK),Inv X pins σ H s->t σ H Q →
  wpAny (model X.prog X.w) X.A (eval a X.env) (λv s₁=>wpAny (model X.prog X.w) X.A (eval b X.env) (λu s₂=>wpAny (model X.prog X.w) X.A (compareOp op v u) (EP X pins σ Q) X.xe s₂) X.xe s₁) X.xe s
theorem dR(b:Expr){op:CmpOp}(h:op≠.In)(h2:op≠.NotIn):behindInMarks op b=false:=by
 have e1:(op == CmpOp.In)=false:=by cases op<;>first | rfl | exact absurd rfl h
 have e2:(op == CmpOp.NotIn)=false:=by cases op<;>first | rfl | exact absurd rfl h2
 cases b<;>simp[behindInMarks,e1,e2]
def tB(t:TE):TT:=λσ H Q=>t σ H λx H1=>∃ c,x=.bl c/\Q c H1
theorem dU{op:CmpOp}{t:TE}(h:PC X op a b t)(h1:behindInMarks op b=false:=by first | exact dR _ (by decide) (by decide) | rfl):PT X (.Compare a [op] [b] pos) (tB t):=by
 intro pins s σ H Q I hw
 refine wpAny_isTrue_Compare1 (AV (h pins s σ H _ I hw) λv s1 h1=>AV h1 λu s2 h2=>AV h2 λc s3 ⟨x,H1,I1,r1,q1⟩=> ?_) h1
 obtain⟨d,rfl,q⟩:=q1
 cases r1
 exact wpAny_truthy_bool ⟨H1,I1,q⟩
variable{tA tB':TT}{DY:List Expr}
def FF(t u:TT):TT:=λσ H Q=>t σ H λc H1=>if c=true then u σ H1 Q else Q false H1
def GO(t u:TT):TT:=λσ H Q=>t σ H λc H1=>if c=true then Q true H1 else u σ H1 Q
def FW(t:TT):TT:=λσ H Q=>t σ H λc H1=>Q (!c) H1
theorem GP(ha:PT X a tA):PW X (.BoolOp .And [a] pos) tA:=by
 intro wh pins s σ H Q I h
 refine isTrue_and (AV (ha pins s σ H Q I h) λc s1 e=> ?_)
 cases c with
 | true=>exact isTrue_and_nil e
 | false=>exact e
theorem K3(ha:PT X a tA):PW X (.BoolOp .Or [a] pos) tA:=by
 intro wh pins s σ H Q I h
 refine isTrue_or (AV (ha pins s σ H Q I h) λc s1 e=> ?_)
 cases c with
 | false=>exact isTrue_or_nil e
 | true=>exact e
theorem GQ(ha:PT X a tA)(hb:PW X (.BoolOp .And (b::DY) pos) tB'):PW X (.BoolOp .And (a::b::DY) pos) (FF tA tB'):=by
 intro wh pins s σ H Q I h
 refine isTrue_and (AV (ha pins s σ H _ I h) λc s1 ⟨H1,I1,q1⟩=> ?_)
 cases c with
 | true=>exact hb wh pins s1 σ H1 Q I1 q1
 | false=>exact⟨H1,I1,q1⟩
theorem IY(ha:PT X a tA)(hb:PW X (.BoolOp .Or (b::DY) pos) tB'):PW X (.BoolOp .Or (a::b::DY) pos) (GO tA tB'):=by
 intro wh pins s σ H Q I h
 refine isTrue_or (AV (ha pins s σ H _ I h) λc s1 ⟨H1,I1,q1⟩=> ?_)
 cases c with
 | true=>exact⟨H1,I1,q1⟩
 | false=>exact hb wh pins s1 σ H1 Q I1 q1
theorem HE(ha:PT X a tA):PT X (.UnaryOp .Not a pos) (FW tA):=by
 intro pins s σ H Q I h
 exact isTrue_not (ha pins s σ H (λc H1=>Q (!c) H1) I h)
def dW(ta tb:TE):TE:=λσ H Q=>ta σ H λx H1=>∃ c,x=.bl c/\if c=true then tb σ H1 Q else Q (.bl false) H1
def dX(ta tb:TE):TE:=λσ H Q=>ta σ H λx H1=>∃ c,x=.bl c/\if c=true then Q (.bl true) H1 else tb σ H1 Q
def OD(t:TT)(ta tb:TE):TE:=λσ H Q=>t σ H λc H1=>if c=true then ta σ H1 Q else tb σ H1 Q
theorem dY{c:Expr}(hc:PT X c tA)(ha:PE X a ta)(hb:PE X b tb):PE X (.IfExp c a b pos) (OD tA ta tb):=by
 intro pins s σ H Q I h
 refine wpAny_IfExp (AV (hc pins s σ H _ I h) λd s1 ⟨H1,I1,q1⟩=> ?_)
 cases d with
 | true=>exact ha pins s1 σ H1 Q I1 q1
 | false=>exact hb pins s1 σ H1 Q I1 q1
end
end L2
namespace L2
def SqL(K:W.Frag)(H:Hp)(a:Addr)(xs:List V):Prop :=
 Rd H a (.lst xs) ∨
  ∃ (o:Obj) (its:Array Value) (n:Nat),K.lookup a=some o/\o.cls=.type "list"/\o.dict=none/\o.data=.seq its n/\its.size<=sizeLine/\Vals xs its.toList
def SqT(K:W.Frag)(H:Hp)(a:Addr)(xs:List V):Prop :=
 Rd H a (.tup xs) ∨
  ∃ (o:Obj) (its:Array Value) (n:Nat),K.lookup a=some o/\o.cls=.type "tuple"/\o.data=.seq its n/\its.size<=sizeLine/\Vals xs its.toList
def dZ:Value->Option V
 | .none=>some .non
 | .bool b=>some (.bl b)
 | .int i _=>some (.int i)
 | .str x _=>some (.str x)
 | .bytes b _=>some (.byt b)
 | .float b _=>some (.flt b)
 | .ref a=>some (.ref a)
 | .type n=>some (.ty n)
 | _=>none
theorem RelV.abs{x:V}{u:Value}(r:RelV x u):dZ u=some x:=by
 cases x with
 | non=>cases r;rfl
 | bl _=>cases r;rfl
 | int _=>obtain⟨t,rfl⟩:=r;rfl
 | str _=>obtain⟨t,rfl⟩:=r;rfl
 | byt _=>obtain⟨t,rfl⟩:=r;rfl
 | flt _=>obtain⟨t,rfl⟩:=r;rfl
 | ref _=>cases r;rfl
 | ty _=>cases r;rfl
theorem RelV.inj{x y:V}{u:Value}(r:RelV x u)(q:RelV y u):x=y:=Option.some.inj (r.abs.symm.trans q.abs)
theorem Vals.inj:∀ {xs ys:List V} {us:List Value},Vals xs us->Vals ys us->xs=ys
 | _,_,_,.nil,.nil=>rfl
 | _,_,_,.cons r t,.cons r' t'=>by rw[r.inj r',Vals.inj t t']
section
variable{X:Cx}{pins:List (Addr × Obj)}{σ:St}{H:Hp}{s:Shared}{a:Addr}{xs ys:List V}
theorem SqL.of{K:W.Frag}(h:H a=some (.lst xs)):SqL K H a xs:=.inl (.inl h)
theorem SqT.of{K:W.Frag}(h:H a=some (.tup xs)):SqT K H a xs:=.inl (.inl h)
theorem Inv.list(I:Inv X pins σ H s)(h:SqL X.K H a xs):∃ its:List Value,Vals xs its/\PlainL s.heap a its.toArray/\xs.length<=sizeLine:=by
 rcases h with h | ⟨o,its,n,hk,hc,hd,hs,hz,r⟩
 ·obtain⟨z,its,n,r,e⟩:=h.ok I.hok
  exact⟨its,r,⟨_,n,e,rfl,rfl,rfl⟩,z⟩
 ·refine⟨its.toList,r,⟨o,n,I.kIn a o hk,hc,hd,by simpa using hs⟩,?_⟩
  have e:=r.length
  simp only[Array.length_toList]at e
  omega
theorem Inv.tuple(I:Inv X pins σ H s)(h:SqT X.K H a xs):∃ its:List Value,Vals xs its/\IsTup s.heap a its.toArray/\xs.length<=sizeLine:=by
 rcases h with h | ⟨o,its,n,hk,hc,hs,hz,r⟩
 ·obtain⟨z,its,r,p⟩:=h.ok I.hok
  exact⟨its,r,p,z⟩
 ·refine⟨its.toList,r,⟨o,I.kIn a o hk,hc,n,by simpa using hs⟩,?_⟩
  have e:=r.length
  simp only[Array.length_toList]at e
  omega
theorem Inv.list_inj(I:Inv X pins σ H s)(h:SqL X.K H a xs)(h':SqL X.K H a ys):xs=ys:=by
 obtain⟨its,r,⟨o,n,e,_,_,d⟩,_⟩:=I.list h
 obtain⟨its',r',⟨o',n',e',_,_,d'⟩,_⟩:=I.list h'
 rw[e]at e';cases e'
 rw[d]at d'
 injection d' with d1 _
 have:its=its':=by simpa using congrArg Array.toList d1
 subst this
 exact r.inj r'
theorem Inv.tuple_inj(I:Inv X pins σ H s)(h:SqT X.K H a xs)(h':SqT X.K H a ys):xs=ys:=by
 obtain⟨its,r,⟨o,e,_,n,d⟩,_⟩:=I.tuple h
 obtain⟨its',r',⟨o',e',_,n',d'⟩,_⟩:=I.tuple h'
 rw[e]at e';cases e'
 rw[d]at d'
 injection d' with d1 _
 have:its=its':=by simpa using congrArg Array.toList d1
 subst this
 exact r.inj r'
end
abbrev Cx.wish(X:Cx)(E:Value->Shared->Prop):Cx:={ X with xe:=E }
abbrev Cx.nox(X:Cx):Cx:=X.wish λ_ _=>False
theorem Cx.Ok.wish{X:Cx}(ok:X.Ok)(E:Value->Shared->Prop):(X.wish E).Ok :=
 ⟨ok.mod,ok.kind,ok.glob,ok.blt,ok.above,ok.inj,ok.has,ok.cab,ok.hd,ok.frames,ok.stk,ok.exf,ok.bs,ok.bsz,ok.noex,ok.exfs,ok.funs,ok.frf⟩
theorem Cx.Ok.unwish{X:Cx}{E:Value->Shared->Prop}(ok:(X.wish E).Ok):X.Ok :=
 ⟨ok.mod,ok.kind,ok.glob,ok.blt,ok.above,ok.inj,ok.has,ok.cab,ok.hd,ok.frames,ok.stk,ok.exf,ok.bs,ok.bsz,ok.noex,ok.exfs,ok.funs,ok.frf⟩
section
variable{X:Cx}{pins:List (Addr × Obj)}{σ:St}{H:Hp}{s:Shared}{E:Value->Shared->Prop}
theorem Inv.wish(I:Inv X pins σ H s)(E:Value->Shared->Prop):Inv (X.wish E) pins σ H s:=⟨I.ok.wish E,I.os,I.bare,I.base,I.loc,I.cell,I.free,I.freeC,I.pin,I.hok,I.len⟩
theorem Inv.unwish(I:Inv (X.wish E) pins σ H s):Inv X pins σ H s:=⟨I.ok.unwish,I.os,I.bare,I.base,I.loc,I.cell,I.free,I.freeC,I.pin,I.hok,I.len⟩
theorem SP.unwish{D:Ends}{f:Flow}{s':Shared}(h:SP (X.wish E) pins D f s'):SP X pins D f s':=by
 cases f with
 | next=>obtain⟨σ',H',I,q⟩:=h;exact⟨σ',H',I.unwish,q⟩
 | brk=>obtain⟨σ',H',I,q⟩:=h;exact⟨σ',H',I.unwish,q⟩
 | cont=>obtain⟨σ',H',I,q⟩:=h;exact⟨σ',H',I.unwish,q⟩
 | ret u=>obtain⟨v,σ',H',I,r,q⟩:=h;exact⟨v,σ',H',I.unwish,r,q⟩
theorem PE.nox{e:Expr}{t:TE}(h:PE X.nox e t):PE X e t:=λpins s σ H Q I hw =>
 wpAny_mono (h pins s σ H Q (I.wish _) hw) (λ_ _ ⟨v,H',I',r,q⟩=>⟨v,H',I'.unwish,r,q⟩) λ_ _ z=>False.elim z
theorem PT.nox{e:Expr}{t:TT}(h:PT X.nox e t):PT X e t:=λpins s σ H Q I hw =>
 wpAny_mono (h pins s σ H Q (I.wish _) hw) (λ_ _ ⟨H',I',q⟩=>⟨H',I'.unwish,q⟩) λ_ _ z=>False.elim z
theorem PSs.nox{st:List Stmt}{t:TS}(h:PSs X.nox st t):PSs X st t:=λpins s σ H D I hw =>
 wpAny_mono (h pins s σ H D (I.wish _) hw) (λ_ _ q=>q.unwish) λ_ _ z=>False.elim z
end
section
variable{X:Cx}{st:Stmt}{DY:List Stmt}{t u:TS}{e:Expr}{te:TE}{pos:Pos}
def CD:TS:=λD σ H=>D.nx σ H
def AO(t u:TS):TS:=λD σ H=>t { D with nx:=u D } σ H
theorem CL:PSs X [] CD:=λ_ _ σ H _ I h=>wpAny_execs_nil ⟨σ,H,I,h⟩
theorem AR(h1:PS X st t)(h2:PSs X DY u):PSs X (st::DY) (AO t u):=by
 intro pins s σ H D I h
 refine wpAny_execs_cons (AV (h1 pins s σ H { D with nx:=u D } I h) λf s1 q=> ?_)
 cases f with
 | next =>
  obtain⟨σ',H',I',q⟩:=q
  exact h2 pins s1 σ' H' D I' q
 | ret v=>exact q
 | brk=>exact q
 | cont=>exact q
theorem AX(h1:PS X st t):PSs X [st] t:=by
 intro pins s σ H D I h
 refine wpAny_execs_cons (AV (h1 pins s σ H D I h) λf s1 q=> ?_)
 cases f with
 | next=>exact wpAny_execs_nil q
 | ret v=>exact q
 | brk=>exact q
 | cont=>exact q
def d0:TS:=λD σ H=>D.bk σ H
def d5:TS:=λD σ H=>D.ct σ H
theorem Inv.quiet{pins:List (Addr × Obj)}{σ:St}{H:Hp}{s:Shared}(I:Inv X pins σ H s):interactive X.env=false:=by simp[interactive,I.ok.kind]
def DR(te:TE):TS:=λD σ H=>te σ H λ_ H1=>D.nx σ H1
theorem D8(he:PE X e te)(hs:swapsWith e none pos.line X.env=pure false:=by rfl):PS X (.Expr e pos) (DR te):=by
 intro pins s σ H D I h
 exact wpAny_Expr_any (AV (he pins s σ H _ I h) λv s1 ⟨x,H1,I1,r1,q1⟩=>⟨σ,H1,I1,q1⟩) I.quiet hs
def BH(te:TE):TS:=λD σ H=>te σ H D.rt
theorem BJ(he:PE X e te):PS X (.Return (some e) pos) (BH te):=by
 intro pins s σ H D I h
 exact wpAny_Return_some (AV (he pins s σ H _ I h) λv s1 ⟨x,H1,I1,r1,q1⟩=>⟨x,σ,H1,I1,r1,q1⟩)
def d6:TS:=λD _ H=>D.rt .non H
def CA(c:TT)(t u:TS):TS:=λD σ H=>c σ H λb H1=>if b=true then t D σ H1 else u D σ H1
theorem CH{c:Expr}{a b:List Stmt}{tc:TT}(hc:PT X c tc)(ha:PSs X a t)(hb:PSs X b u):PS X (.If c a b pos) (CA tc t u):=by
 intro pins s σ H D I h
 refine wpAny_If (AV (hc pins s σ H _ I h) λd s1 ⟨H1,I1,q1⟩=> ?_)
 cases d with
 | true=>exact ha pins s1 σ H1 D I1 q1
 | false=>exact hb pins s1 σ H1 D I1 q1
end
abbrev TG:=V->St->Hp->(St->Hp->Prop)->Prop
abbrev GR:=List V->St->Hp->(St->Hp->Prop)->Prop
def PG(X:Cx)(target:Expr)(t:TG):Prop :=
 ∀ (pins:List (Addr × Obj)) (s:Shared) (σ:St) (H:Hp) (v:V) (u:Value) (Q:St->Hp->Prop),Inv X pins σ H s->RelV v u->t v σ H Q →
  wpAny (model X.prog X.w) X.A (assign target X.env u) (λ_ s'=>∃ σ' H',Inv X pins σ' H' s'/\Q σ' H') X.xe s
def NB(X:Cx)(ts:List Expr)(t:GR):Prop :=
 ∀ (pins:List (Addr × Obj)) (s:Shared) (σ:St) (H:Hp) (vs:List V) (us:List Value) (Q:St->Hp->Prop),Inv X pins σ H s->Vals vs us->t vs σ H Q →
  wpAny (model X.prog X.w) X.A (assignInOrder ((assignEach ts X.env).map (·.2)) us) (λ_ s'=>∃ σ' H',Inv X pins σ' H' s'/\Q σ' H') X.xe s
abbrev NC:=V->V->V->Hp->(Hp->Prop)->Prop
def OE(X:Cx)(t:NC):Prop :=
 ∀ (pins:List (Addr × Obj)) (s:Shared) (σ:St) (H:Hp) (o i v:V) (ov iv u:Value) (Q:Hp->Prop),Inv X pins σ H s->RelV o ov->RelV i iv->RelV v u->t o i v H Q →
  wpAny (model X.prog X.w) X.A (setItem ov iv u) (λ_ s'=>∃ H',Inv X pins σ H' s'/\Q H') X.xe s
abbrev ND:=V->V->Hp->VK->Prop
section
variable{X:Cx}{pos:Pos}
def AJ(i:Nat):TG:=λv σ H Q=>Q (σ.set i (some v)) H
theorem BF{i:Nat}{x:Str}(hN:X.N.Nodup)(hi:X.N[i]? =some x)(hx:IV X.env.scope x)(hf:X.fn x=true\/X.env.scope.names.lookup x=some .local:=by first | exact .inl rfl | exact .inr rfl | assumption):PG X (.Name x pos) (AJ i):=by
 intro pins s σ H v u Q I r h
 exact wpAny_assign_Name (SF I hN hi hx r (λs' I'=>⟨_,H,I',h⟩) hf)
def EG:GR:=λvs σ H Q=>vs=[]/\Q σ H
def CQ(t:TG)(u:GR):GR:=λvs σ H Q=>∃ v r,vs=v::r/\t v σ H λσ' H'=>u r σ' H' Q
theorem FX:NB X [] EG:=by
 intro pins s σ H vs us Q I r h
 obtain⟨e,h⟩:=h
 subst e
 cases r
 exact assignInOrder_nil ⟨σ,H,I,h⟩
theorem DL{e:Expr}{es:List Expr}{t:TG}{u:GR}(h1:PG X e t)(h2:NB X es u)
  (hs:(assignEach (e::es) X.env).map (·.2)=assign e X.env::(assignEach es X.env).map (·.2):=by rfl):NB X (e::es) (CQ t u):=by
 intro pins s σ H vs us Q I r h
 obtain⟨v,vr,e1,h⟩:=h
 subst e1
 cases r with
 | cons r rr =>
  rw[hs]
  refine assignInOrder_cons (AV (h1 pins s σ H _ _ _ I r h) λ_ s1 ⟨σ1,H1,I1,q1⟩=> ?_)
  exact h2 pins s1 σ1 H1 _ _ Q I1 rr q1
def EH(K:W.Frag)(n:Nat)(t:GR):TG:=λv σ H Q=>∃ a xs,v=.ref a/\SqT K H a xs/\xs.length=n/\t xs σ H Q
theorem FY{es:List Expr}{k:Nat}{t:GR}{n:Nat}(hc:X.calm=true)(h:NB X es t)
  (hn:(assignEach es X.env).length=n:=by rfl) (hst:(assignEach es X.env).findIdx? (·.1)=none:=by rfl):PG X (.Tuple es k pos) (EH X.K n t):=by
 intro pins s σ H v u Q I r hw
 obtain⟨a,xs,e1,hq,hl,hw⟩:=hw
 subst e1
 cases r
 obtain⟨its,rv,ht,hz⟩:=I.tuple hq
 refine assign_Tuple_tuple (I.ok.hd hc) ht (by simp[hn,<-hl,rv.length]) hst λh' hx=> ?_
 have I1:Inv X pins σ H { s with heap:=h' }:=I.kept (t':=s.toks) λb o e=>hx b o (Nat.ne_of_lt (Heap.lt_size e)) e
 exact h pins _ σ H xs _ Q I1 (by simpa using rv) hw
def IZ(to ti:TE)(t:NC):TG:=λv σ H Q=>to σ H λo H1=>ti σ H1 λi H2=>t o i v H2 λH3=>Q σ H3
theorem NE{o i:Expr}{to ti:TE}{t:NC}(ho:PE X o to)(hi:PE X i ti)(hs:OE X t)
  (ha:∀ v,assign (.Subscript o i pos) X.env v=(do
   let ov ← holding [v] (eval o X.env)
   let iv ← holding [v,ov] (eval i X.env)
   standAt pos
   holding [v,ov,iv] (setItem ov iv v)
   release [v,ov,iv] []):=by intro _;rfl):PG X (.Subscript o i pos) (IZ to ti t):=by
 intro pins s σ H v u Q I r h
 rw[ha]
 refine wpAny_bind (wpAny_holding (AV (ho pins s σ H _ I h) λov s1 ⟨x,H1,I1,r1,q1⟩=> ?_))
 refine wpAny_bind (wpAny_holding (AV (hi pins s1 σ H1 _ I1 q1) λiv s2 ⟨y,H2,I2,r2,q2⟩=> ?_))
 refine wpAny_bind (wpAny_standAt (wpAny_bind (wpAny_holding (AV (hs pins s2 σ H2 x y v ov iv u _ I2 r1 r2 r q2) λ_ s3 ⟨H3,I3,q3⟩=> ?_))))
 exact wpAny_release ⟨σ,H3,I3,q3⟩
def AY(te:TE)(g:TG):TS:=λD σ H=>te σ H λx H1=>g x σ H1 D.nx
theorem K4{tg e:Expr}{te:TE}{g:TG}(he:PE X e te)(hg:PG X tg g)(hs:swapsWithSole [tg] e pos.line X.env=pure false:=by rfl)(hw:swappedStores [tg] e X.env=pure none:=by rfl)
  (h1:(assignEach [tg] X.env).map (·.2)=[assign tg X.env]:=by rfl):PS X (.Assign [tg] e pos) (AY te g):=by
 intro pins s σ H D I h
 refine wpAny_Assign_stores (AV (he pins s σ H _ I h) λv s1 ⟨x,H1,I1,r1,q1⟩=> ?_) hs hw
 rw[h1]
 exact AV (hg pins s1 σ H1 x v _ I1 r1 q1) λ_ s2 q=>q
theorem FZ{i:Nat}{x:Str}{e:Expr}{te:TE}{pos':Pos}(hN:X.N.Nodup)(hi:X.N[i]? =some x)(hx:IV X.env.scope x)(he:PE X e te)(hs:swapsWith e (some (.Name x pos')) pos.line X.env=pure false:=by rfl)(hf:X.fn x=true\/X.env.scope.names.lookup x=some .local:=by first | exact .inl rfl | exact .inr rfl | assumption) :
  PS X (.Assign [.Name x pos'] e pos) (AY te (AJ i)):=by
 intro pins s σ H D I h
 refine wpAny_Assign_Name (AV (he pins s σ H _ I h) λv s1 ⟨y,H1,I1,r1,q1⟩=> ?_) hs
 exact SF I1 hN hi hx r1 (λs2 I2=>⟨_,H1,I2,q1⟩) hf
def d7(i:Nat)(te:TE)(ti:ND):TS:=λD σ H=>∃ x,σ[i]? =some (some x)/\te σ H λy H1=>ti x y H1 λz H2=>D.nx (σ.set i (some z)) H2
def OF(f:Int->Int->Int):ND:=λx y H Q=>∃ i j,x=.int i/\y=.int j/\Q (.int (f i j)) H
end
section
variable{X:Cx}{pos:Pos}
end
structure It where
 go:Nat->Hp->Prop
 yld:Nat->Hp->V->Hp->Prop
 stop:Nat->Hp->Prop
def FpOk(X:Cx)(pins:List (Addr × Obj))(H:Hp)(b:Addr):Prop :=
 H b=none/\b≠X.env.locals/\b∉X.fs/\(b∈X.ex\/X.s₀.heap.objs.size<=b)/\(∀ x c,X.env.cells.lookup x=some c->c≠b)/\∀ p∈X.pn++pins,p.1≠b
theorem Inv.fpOk{X:Cx}{pins:List (Addr × Obj)}{σ:St}{H H':Hp}{s:Shared}{b:Addr}(I:Inv X pins σ H s)(hb:s.heap.objs.size<=b)(hn:H' b=none):FpOk X pins H' b:=by
 refine⟨hn,Nat.ne_of_gt (Nat.lt_of_lt_of_le I.lt hb),I.nofs hb,.inr (Nat.le_trans I.sz hb),λx c e z=> ?_,λp hp z=> ?_⟩
 ·obtain⟨v,q⟩:=I.cell x c e
  exact absurd (Nat.lt_of_lt_of_le q.lt (by rw[z];exact hb)) (Nat.lt_irrefl _)
 ·exact absurd (Nat.lt_of_lt_of_le (Heap.lt_size (I.pin p hp).1) (by rw[z];exact hb)) (Nat.lt_irrefl _)
structure HF(P:Program)(w:World)(K:W.Frag)(tg:Expr)(J:It)(fp:List Addr)(it:Addr)(tn:Nat->Heap->Prop):Prop where
 mem:it∈fp
 obj:∀ i h,tn i h->∀ b∈fp,∃ o,h.get? b=some o/\∀ v,o.data≠.cell v
 keep:∀ i h h',tn i h->(∀ b∈fp,∀ o,h.get? b=some o->h'.get? b=some o)->tn i h'
 item:∀ (X:Cx),X.prog=P->X.w=w->X.K=K->X.calm=true->∀ (i:Nat) (pins:List (Addr × Obj)) (s:Shared) (σ:St) (H:Hp) (E:Value->Shared->Prop),Inv X pins σ H s->(∀ b∈fp,FpOk X pins H b)->tn i s.heap->J.go i H →
  wpAny (model P w) X.A (pyNext (.ref it)) (λr s1=>∃ u,r=some u ∧
   wpAny (model P w) X.A (letOwnedTupleGo tg (.ref it) u) (λ_ s2=>∃ x H',Inv X pins σ H' s2/\RelV x u/\J.yld i H x H'/\tn (i+1) s2.heap/\∀ b∈fp,H' b=none) E s1) E s
 done:∀ (X:Cx),X.prog=P->X.w=w->X.K=K->X.calm=true->∀ (i:Nat) (pins:List (Addr × Obj)) (s:Shared) (σ:St) (H:Hp) (E:Value->Shared->Prop),Inv X pins σ H s->(∀ b∈fp,FpOk X pins H b)->tn i s.heap->J.stop i H →
  wpAny (model P w) X.A (pyNext (.ref it)) (λr s1=>r=none/\Inv X pins σ H s1) E s
 self:∀ (A:Around) (i:Nat) (s:Shared) (Q:Value->Shared->Prop) (E:Value->Shared->Prop),tn i s.heap->Q (.ref it) s->wpAny (model P w) A (pyIter (.ref it)) Q E s
abbrev TI:=St->Hp->(It->Hp->Prop)->Prop
def OG(X:Cx)(pins:List (Addr × Obj))(σ:St)(tg:Expr)(R:It->Hp->Prop)(itv:Value)(s2:Shared):Prop :=
 ∃ (it:Addr) (fp:List Addr) (tn:Nat->Heap->Prop) (J:It) (H':Hp),itv=.ref it/\Inv X pins σ H' s2/\HF X.prog X.w X.K tg J fp it tn/\tn 0 s2.heap/\(∀ b∈fp,FpOk X pins H' b)/\R J H'
def PI(X:Cx)(tg iter:Expr)(wi:TI):Prop :=
 ∀ (pins:List (Addr × Obj)) (s:Shared) (σ:St) (H:Hp) (R:It->Hp->Prop),Inv X pins σ H s->wi σ H R →
  wpAny (model X.prog X.w) X.A (eval iter X.env) (λv s1=>wpAny (model X.prog X.w) X.A (pyIter v) (OG X pins σ tg R) X.xe s1) X.xe s
theorem NF{M:Model}{A:Around}{E:Value->Shared->Prop}{s:Shared}{tg:Expr}{it:Addr}{u:Value}{o:Obj}{n:String}{vs:Array Value}{Q:Unit->Shared->Prop}(ho:s.heap.get? it=some o)(hc:o.cls=.type n)(hd:o.data=.fields vs)
    (hn:["enumerate","zip","dict_itemiterator","dict_reverseitemiterator","odict_iterator","itertools.zip_longest","itertools.pairwise"].contains n=false) (hQ:Q () s):wpAny M A (letOwnedTupleGo tg (.ref it) u) Q E s:=by
  unfold letOwnedTupleGo
  cases tg<;>first
    | exact wpAny_pure hQ
    | (cases u<;>first
        | exact wpAny_pure hQ
        | (refine wpAny_bind (wpAny_load ho ?_)
           rw[hc,hd]
           show wpAny M A (if(["enumerate","zip","dict_itemiterator","dict_reverseitemiterator","odict_iterator","itertools.zip_longest","itertools.pairwise"].contains n && vs[0]? == some (rawInt _))=true then _ else _) Q E s
           rw[if_neg (by intro h;rw[hn,Bool.false_and]at h;cases h)]
           exact wpAny_pure hQ))
def EL(K:W.Frag)(a:Addr):It :=
 ⟨λi H=>∃ xs x,SqL K H a xs/\xs[i]? =some x,λi H x H'=>H'=H/\∀ xs,SqL K H a xs->xs[i]? =some x,λi H=>∃ xs,SqL K H a xs/\xs.length<=i⟩
def F0(K:W.Frag)(a:Addr):It :=
 ⟨λi H=>∃ xs x,SqT K H a xs/\xs[i]? =some x,λi H x H'=>H'=H/\∀ xs,SqT K H a xs->xs[i]? =some x,λi H=>∃ xs,SqT K H a xs/\xs.length<=i⟩
def DF(lo:Int)(n:Nat):It:=⟨λi _=>i<n,λi H x H'=>H'=H/\x=.int (lo+i),λi _=>n<=i⟩
theorem d8{P:Program}{w:World}{K:W.Frag}{tg:Expr}(a it:Addr):HF P w K tg (EL K a) [it] it (λi h=>h.IsListIter it a i) where
 mem:=by simp
 obj:=λi h st b hb=>by
  have e:b=it:=by simpa using hb
  subst e
  obtain⟨o,e,c,d⟩:=st
  exact⟨o,e,λv z=>by rw[d]at z;cases z⟩
 keep:=λi h h' st k=>st.at λo e=>k it (by simp) o e
 item:=by
  intro X hP hw hK hc i pins s σ H E I hf st hg
  subst hP hw hK
  obtain⟨xs,x,hq,hx⟩:=hg
  obtain⟨its,rv,p,hz⟩:=I.list hq
  obtain⟨u,hu,ru⟩:=rv.get hx
  obtain⟨f0,f1,f2,f3,f4,f5⟩:=hf it (by simp)
  refine wpAny_pyNext_list_item st p.isList (x:=u) (by simpa using hu) λh' st' sb=> ?_
  have I1:Inv X pins σ H { s with heap:=h' }:=I.turned (t':=s.toks) (λb o hb e=>(sb.2 b hb).trans e) f0 f1 f3 f4 f5
  obtain⟨o,e,c,d⟩:=id st'
  exact⟨u,rfl,NF (s:={ s with heap:=h' }) e c d (by decide) ⟨x,H,I1,ru,⟨rfl,λys hy=>by rw[I.list_inj hy hq];exact hx⟩,st',λb hb=>(hf b hb).1⟩⟩
 done:=by
  intro X hP hw hK hc i pins s σ H E I hf st hg
  subst hP hw hK
  obtain⟨xs,hq,hx⟩:=hg
  obtain⟨its,rv,p,hz⟩:=I.list hq
  obtain⟨f0,f1,f2,f3,f4,f5⟩:=hf it (by simp)
  have hl:=rv.length
  exact wpAny_pyNext_list_end (I.ok.hd hc) st p.isList (by simp;omega) λh' eb=>⟨rfl,I.turned (t':=s.toks) (λb o hb e=>eb b o hb e) f0 f1 f3 f4 f5⟩
 self:=λ_ _ _ _ _ st h=>wpAny_pyIter_listiter st h
theorem d9{P:Program}{w:World}{K:W.Frag}{tg:Expr}(a it:Addr):HF P w K tg (F0 K a) [it] it (λi h=>h.IsTupleIter it a i) where
 mem:=by simp
 obj:=λi h st b hb=>by
  have e:b=it:=by simpa using hb
  subst e
  obtain⟨o,e,c,d⟩:=st
  exact⟨o,e,λv z=>by rw[d]at z;cases z⟩
 keep:=λi h h' st k=>st.at λo e=>k it (by simp) o e
 item:=by
  intro X hP hw hK hc i pins s σ H E I hf st hg
  subst hP hw hK
  obtain⟨xs,x,hq,hx⟩:=hg
  obtain⟨its,rv,p,hz⟩:=I.tuple hq
  obtain⟨u,hu,ru⟩:=rv.get hx
  obtain⟨f0,f1,f2,f3,f4,f5⟩:=hf it (by simp)
  refine wpAny_pyNext_tuple_item st (show s.heap.IsTuple a its.toArray from p) (x:=u) (by simpa using hu) λh' st' sb=> ?_
  have I1:Inv X pins σ H { s with heap:=h' }:=I.turned (t':=s.toks) (λb o hb e=>(sb.2 b hb).trans e) f0 f1 f3 f4 f5
  obtain⟨o,e,c,d⟩:=id st'
  exact⟨u,rfl,NF (s:={ s with heap:=h' }) e c d (by decide) ⟨x,H,I1,ru,⟨rfl,λys hy=>by rw[I.tuple_inj hy hq];exact hx⟩,st',λb hb=>(hf b hb).1⟩⟩
 done:=by
  intro X hP hw hK hc i pins s σ H E I hf st hg
  subst hP hw hK
  obtain⟨xs,hq,hx⟩:=hg
  obtain⟨its,rv,p,hz⟩:=I.tuple hq
  obtain⟨f0,f1,f2,f3,f4,f5⟩:=hf it (by simp)
  have hl:=rv.length
  exact wpAny_pyNext_tuple_end (I.ok.hd hc) st (show s.heap.IsTuple a its.toArray from p) (by simp;omega) λh' eb=>⟨rfl,I.turned (t':=s.toks) (λb o hb e=>eb b o hb e) f0 f1 f3 f4 f5⟩
 self:=λ_ _ _ _ _ st h=>wpAny_pyIter_tupleiter st h
theorem eA{P:Program}{w:World}{K:PySem.W.Frag}{tg:Expr}(it:Addr)(lo:Int)(n:Nat):HF P w K tg (DF lo n) [it] it (λi h=>IsRangeIter h it (lo+(i:Nat) * 1) ((n:Int) - (i:Nat)) 1) where
 mem:=by simp
 obj:=λi h st b hb=>by
  have e:b=it:=by simpa using hb
  subst e
  exact⟨_,st,λv z=>by
   have z':Data.fields _=Data.cell v:=z
   cases z'⟩
 keep:=λi h h' st k=>k it (by simp) _ st
 item:=by
  intro X hP hw hK hc i pins s σ H E I hf st hg
  subst hP hw hK
  obtain⟨f0,f1,f2,f3,f4,f5⟩:=hf it (by simp)
  have W:=Walks.range (prog:=X.prog) (w:=X.w) (I.ok.hd hc) it lo 1 n
  refine W.item i s _ _ hg st λv h' tk hv st' kk=> ?_
  obtain⟨t,rfl⟩:=hv
  have I1:Inv X pins σ H { s with heap:=h',toks:=tk }:=I.turned (λb o hb e=>kk b o (by simpa using hb) e) f0 f1 f3 f4 f5
  refine⟨_,rfl,NF (s:={ s with heap:=h',toks:=tk }) (n:="range_iterator") st' rfl rfl (by decide) ⟨.int (lo+i),H,I1,⟨t,?_⟩,⟨rfl,rfl⟩,st',λb hb=>(hf b hb).1⟩⟩
  rw[Int.mul_one]
 done:=by
  intro X hP hw hK hc i pins s σ H E I hf st hg
  subst hP hw hK
  obtain⟨f0,f1,f2,f3,f4,f5⟩:=hf it (by simp)
  exact wpAny_pyNext_range_end (I.ok.hd hc) st (by have:n<=i:=hg;omega) λh' eb=>⟨rfl,I.turned (t':=s.toks) (λb o hb e=>eb b o hb e) f0 f1 f3 f4 f5⟩
 self:=λ_ _ _ _ _ st h=>wpAny_pyIter_rangeiter st h
end L2
namespace L2
section
variable{X:Cx}{tg:Expr}
theorem eB{pins:List (Addr × Obj)}{σ:St}{H:Hp}{s:Shared}{R:It->Hp->Prop}{E:Value->Shared->Prop}{lo hi:Int}{t u v:Tok}{tk:Nat}(I:Inv X pins σ H s)(h1: -(2 ^ 62)<=lo)(h2:lo<2 ^ 62)(h3: -(2 ^ 62)<=hi)(h4:hi<2 ^ 62)
  (q:R (DF lo (hi - lo).toNat) H):wpAny (model X.prog X.w) X.A (pyIter (.ref s.heap.objs.size)) (OG X pins σ tg R) E { s with heap:=s.heap.push { cls:=.type "range",data:=.fields #[.int lo t,.int hi u,.int 1 v] },toks:=tk }:=by
 refine wpAny_pyIter_range (IsRange.new ..) (small_one h1 h2 h3 h4) ?_
 have I1:Inv X pins σ H { s with heap:=s.heap.push { cls:=.type "range",data:=.fields #[.int lo t,.int hi u,.int 1 v] },toks:=tk }:=I.kept λb o e=>Heap.get?_push_of_some _ e
 refine⟨(s.heap.push { cls:=.type "range",data:=.fields #[.int lo t,.int hi u,.int 1 v] }).objs.size,[(s.heap.push { cls:=.type "range",data:=.fields #[.int lo t,.int hi u,.int 1 v] }).objs.size],_,_,H,rfl,
  I1.kept (t':=tk) λb o e=>Heap.get?_push_of_some _ e,eA _ lo (hi - lo).toNat,?_,λb hb=> ?_,q⟩
 ·have e1:lo+((0:Nat):Int) * 1=lo:=by simp
  have e2:(((hi - lo).toNat:Nat):Int) - ((0:Nat):Int)=Builtin.Range.rangeSize lo hi 1:=by rw[rangeSize_one];split<;>omega
  show IsRangeIter _ _ (lo+((0:Nat):Int) * 1) ((((hi - lo).toNat:Nat):Int) - ((0:Nat):Int)) 1
  rw[e1,e2]
  exact Heap.get?_push_size _ rfl
 ·have e:b=(s.heap.push { cls:=.type "range",data:=.fields #[.int lo t,.int hi u,.int 1 v] }).objs.size:=by simpa using hb
  subst e
  exact I1.fpOk (Nat.le_refl _) (I1.hok.fresh (Nat.le_refl _))
def CF(ta:TA):TI:=λσ H R=>ta σ H λvs H1=>∃ j:Int,vs=[.int j]/\ -(2 ^ 62)<=j/\j<2 ^ 62/\R (DF 0 j.toNat) H1
def SH(ta:TA):TI:=λσ H R=>ta σ H λvs H1=>∃ i j:Int,vs=[.int i,.int j]/\(-(2 ^ 62)<=i/\i<2 ^ 62/\ -(2 ^ 62)<=j/\j<2 ^ 62)/\R (DF i (j - i).toNat) H1
theorem CS{a:Expr}{ta:TA}{p pos:Pos}(hg:Gl X "range")(hm:X.mg "range"=none)(ha:PA X [a] ta)(hs:starEach [a] X.env=[(false,eval a X.env)]:=by rfl):PI X tg (.Call (.Name "range" p) [a] [] pos) (CF ta):=by
 intro pins s σ H R I h
 refine Call_ (IX I hg hm boot_range (PyProof.Rows.callWith_type1 (AV (ha pos pins s σ H _ I h) λus s1 ⟨vs,H1,I1,r1,q1⟩=> ?_) hs rfl))
 obtain⟨j,e,q1,q2,q⟩:=q1
 subst e
 cases r1 with
 | cons r rr =>
  cases rr
  obtain⟨t,rfl⟩:=r
  exact call_range_1 (eB I1 (by omega) (by omega) q1 q2 (by simpa using q))
def C0(wi:TI)(g:TG)(tb:TS):TS:=λD σ H=>wi σ H λJ H1=>∃ W:Nat->Nat->St->Hp->Prop,(∃ m,W 0 m σ H1)/\∀ i m σ H,W i m σ H →
 (J.stop i H/\D.nx σ H)\/(J.go i H/\∃ N:St->Hp->Prop,(∀ σ' H',N σ' H'->∃ m',m'<m/\W (i+1) m' σ' H')/\∀ x H',J.yld i H x H'->g x σ H' λσ2 H2=>tb { D with nx:=N,ct:=N,bk:=D.nx } σ2 H2)
def K5(fp:List Addr)(h:Heap):List (Addr × Obj):=fp.filterMap λb=>(h.get? b).map λo=>(b,o)
theorem NG{fp:List Addr}{h:Heap}{b:Addr}{o:Obj}(hb:b∈fp)(e:h.get? b=some o):(b,o)∈K5 fp h:=List.mem_filterMap.mpr ⟨b,hb,by rw[e];rfl⟩
theorem eC{fp:List Addr}{h:Heap}{p:Addr × Obj}(hp:p∈K5 fp h):p.1∈fp/\h.get? p.1=some p.2:=by
 obtain⟨b,hb,e⟩:=List.mem_filterMap.mp hp
 cases q:h.get? b with
 | none=>rw[q]at e;cases e
 | some o =>
  rw[q]at e
  have e':(b,o)=p:=Option.some.inj e
  subst e'
  exact⟨hb,q⟩
theorem Inv.pinned{pins:List (Addr × Obj)}{σ:St}{H:Hp}{s:Shared}{fp:List Addr}(I:Inv X pins σ H s)(hf:∀ b∈fp,FpOk X pins H b)(ho:∀ b∈fp,∃ o,s.heap.get? b=some o/\∀ v,o.data≠.cell v):Inv X (pins++K5 fp s.heap) σ H s :=
 I.pins_of λp hp=>(List.mem_append.mp hp).elim (λz=>I.pin p (List.mem_append_right _ z)) λz=>by
  obtain⟨hb,e⟩:=eC z
  obtain⟨f0,f1,f2,_⟩:=hf p.1 hb
  obtain⟨o,e',d⟩:=ho p.1 hb
  rw[e]at e';cases e'
  exact⟨e,f0,f1,f2,d⟩
theorem Inv.unpinned{pins pl:List (Addr × Obj)}{σ:St}{H:Hp}{s:Shared}(I:Inv X (pins++pl) σ H s):Inv X pins σ H s:=I.pins_of λp hp=>I.pin p (List.mem_append_right _ (List.mem_append_left _ hp))
theorem DS{iter:Expr}{body:List Stmt}{wi:TI}{g:TG}{tb:TS}{pos:Pos}(hp:PassesOwn (model X.prog X.w) X.A X.env X.xe)(hc:X.calm=true)(hi:PI X tg iter wi)(hg:PG X tg g)(hb:PSs X body tb)
  (hs:∀ x,foldedSetIterable iter X.env x=pure x:=by intro _;rfl):PS X (.For tg iter body [] pos) (C0 wi g tb):=by
 intro pins s σ H D I h
 refine wpAny_For (AV (hi pins s σ H _ I h) λv s1 h1=>AV h1 λitv s2 h2=> ?_) hs
 obtain⟨it,fp,tn,J,H2,e,I2,T,st2,f2,W,⟨m0,w0⟩,turn⟩:=h2
 subst e
 have stat:∀ {H':Hp},(∀ b∈fp,H' b=none)->∀ b∈fp,FpOk X pins H' b:=λhn b hb=>⟨hn b hb,(f2 b hb).2⟩
 refine codeAny_forLoop_any (λn s'=>∃ i σ' H',Inv X pins σ' H' s'/\tn i s'.heap/\(∀ b∈fp,H' b=none)/\W i n σ' H') ?_ m0 ⟨0,σ,H2,I2,st2,λb hb=>(f2 b hb).1,w0⟩
 rintro n s3 ⟨i,σ3,H3,I3,st3,fr3,w3⟩
 rcases turn i n σ3 H3 w3 with⟨stop,qn⟩ | ⟨go,N,hN,step⟩
 ·refine wpAny_passesOwn hp (AV (T.done X rfl rfl rfl hc i pins s3 σ3 H3 X.xe I3 (stat fr3) st3 stop) λr s4 ⟨hr,I4⟩=> ?_)
  subst hr
  exact wpAny_execs_nil ⟨σ3,H3,I4,qn⟩
 ·refine wpAny_passesOwn hp (AV (T.item X rfl rfl rfl hc i pins s3 σ3 H3 X.xe I3 (stat fr3) st3 go) λr s4 ⟨u,hr,h4⟩=> ?_)
  subst hr
  refine wpAny_passesOwn hp (AV h4 λ_ s5 ⟨x,H5,I5,r5,y5,st5,fr5⟩=> ?_)
  have I5':=I5.pinned (stat fr5) (T.obj _ _ st5)
  refine wpAny_passesOwn hp (AV (hg _ s5 σ3 H5 x u _ I5' r5 (step x H5 y5)) λ_ s6 ⟨σ6,H6,I6,q6⟩=> ?_)
  refine wpAny_passesOwn hp (AV (hb _ s6 σ6 H6 _ I6 q6) λf s7 q7=> ?_)
  have again:∀ {σ7:St} {H7:Hp},Inv X (pins++K5 fp s5.heap) σ7 H7 s7->N σ7 H7->∃ m,m<n/\∃ i σ' H',Inv X pins σ' H' s7/\tn i s7.heap/\(∀ b∈fp,H' b=none)/\W i m σ' H':=λ{σ7 H7} I7 n7=>by
   obtain⟨m',hm,w7⟩:=hN σ7 H7 n7
   refine⟨m',hm,i+1,σ7,H7,I7.unpinned,T.keep _ _ _ st5 λb hb o e=>(I7.pin (b,o) (List.mem_append_right _ (List.mem_append_right _ (NG hb e)))).1,λb hb=> ?_,w7⟩
   obtain⟨o,e,d⟩:=T.obj _ _ st5 b hb
   exact(I7.pin (b,o) (List.mem_append_right _ (List.mem_append_right _ (NG hb e)))).2.1
  cases f with
  | next=>obtain⟨σ7,H7,I7,n7⟩:=q7;exact again I7 n7
  | cont=>obtain⟨σ7,H7,I7,n7⟩:=q7;exact again I7 n7
  | brk=>obtain⟨σ7,H7,I7,q7⟩:=q7;exact⟨σ7,H7,I7.unpinned,q7⟩
  | ret v=>obtain⟨x7,σ7,H7,I7,r7,q7⟩:=q7;exact⟨x7,σ7,H7,I7.unpinned,r7,q7⟩
end
theorem eD{K:PySem.W.Frag}{a:Addr}{xs:List V}{g:TG}{tb:TS}{D:Ends}{σ:St}{H:Hp}(Pv:Nat->St->Hp->Prop)(h0:Pv 0 σ H)(hl:∀ i σ H,i<=xs.length->Pv i σ H->SqL K H a xs)
  (hs:∀ i x σ H,xs[i]? =some x->Pv i σ H->g x σ H λσ2 H2=>tb { D with nx:=Pv (i+1),ct:=Pv (i+1),bk:=D.nx } σ2 H2) (hd:∀ σ H,Pv xs.length σ H->D.nx σ H) :
  ∃ W:Nat->Nat->St->Hp->Prop,(∃ m,W 0 m σ H)/\∀ i m σ H,W i m σ H →
   ((EL K a).stop i H/\D.nx σ H)\/((EL K a).go i H/\∃ N:St->Hp->Prop,(∀ σ' H',N σ' H'->∃ m',m'<m/\W (i+1) m' σ' H')/\∀ x H',(EL K a).yld i H x H'->g x σ H' λσ2 H2=>tb { D with nx:=N,ct:=N,bk:=D.nx } σ2 H2):=by
 refine⟨λi m σ H=>m=xs.length - i/\i<=xs.length/\Pv i σ H,⟨xs.length,by simp,Nat.zero_le _,h0⟩,?_⟩
 rintro i m σ H ⟨rfl,hi,p⟩
 have q:=hl i σ H hi p
 by_cases hlt:i<xs.length
 ·refine .inr ⟨⟨xs,xs[i],q,by simp[hlt]⟩,Pv (i+1),λσ' H' p'=>⟨xs.length - (i+1),by omega,rfl,hlt,p'⟩,λx H' y=> ?_⟩
  obtain⟨e,y⟩:=y
  subst e
  exact hs i x σ _ (y xs q) p
 ·have e:i=xs.length:=by omega
  subst e
  exact .inl ⟨⟨xs,q,Nat.le_refl _⟩,hd σ H p⟩
theorem eE{K:PySem.W.Frag}{a:Addr}{xs:List V}{g:TG}{tb:TS}{D:Ends}{σ:St}{H:Hp}(Pv:Nat->St->Hp->Prop)(h0:Pv 0 σ H)(hl:∀ i σ H,i<=xs.length->Pv i σ H->SqT K H a xs)
  (hs:∀ i x σ H,xs[i]? =some x->Pv i σ H->g x σ H λσ2 H2=>tb { D with nx:=Pv (i+1),ct:=Pv (i+1),bk:=D.nx } σ2 H2) (hd:∀ σ H,Pv xs.length σ H->D.nx σ H) :
  ∃ W:Nat->Nat->St->Hp->Prop,(∃ m,W 0 m σ H)/\∀ i m σ H,W i m σ H →
   ((F0 K a).stop i H/\D.nx σ H)\/((F0 K a).go i H/\∃ N:St->Hp->Prop,(∀ σ' H',N σ' H'->∃ m',m'<m/\W (i+1) m' σ' H')/\∀ x H',(F0 K a).yld i H x H'->g x σ H' λσ2 H2=>tb { D with nx:=N,ct:=N,bk:=D.nx } σ2 H2):=by
 refine⟨λi m σ H=>m=xs.length - i/\i<=xs.length/\Pv i σ H,⟨xs.length,by simp,Nat.zero_le _,h0⟩,?_⟩
 rintro i m σ H ⟨rfl,hi,p⟩
 have q:=hl i σ H hi p
 by_cases hlt:i<xs.length
 ·refine .inr ⟨⟨xs,xs[i],q,by simp[hlt]⟩,Pv (i+1),λσ' H' p'=>⟨xs.length - (i+1),by omega,rfl,hlt,p'⟩,λx H' y=> ?_⟩
  obtain⟨e,y⟩:=y
  subst e
  exact hs i x σ _ (y xs q) p
 ·have e:i=xs.length:=by omega
  subst e
  exact .inl ⟨⟨xs,q,Nat.le_refl _⟩,hd σ H p⟩
theorem eF{lo:Int}{n:Nat}{g:TG}{tb:TS}{D:Ends}{σ:St}{H:Hp}(Pv:Nat->St->Hp->Prop)(h0:Pv 0 σ H)
  (hs:∀ i σ H,i<n->Pv i σ H->g (.int (lo+i)) σ H λσ2 H2=>tb { D with nx:=Pv (i+1),ct:=Pv (i+1),bk:=D.nx } σ2 H2) (hd:∀ σ H,Pv n σ H->D.nx σ H) :
  ∃ W:Nat->Nat->St->Hp->Prop,(∃ m,W 0 m σ H)/\∀ i m σ H,W i m σ H →
   ((DF lo n).stop i H/\D.nx σ H)\/((DF lo n).go i H/\∃ N:St->Hp->Prop,(∀ σ' H',N σ' H'->∃ m',m'<m/\W (i+1) m' σ' H')/\∀ x H',(DF lo n).yld i H x H'->g x σ H' λσ2 H2=>tb { D with nx:=N,ct:=N,bk:=D.nx } σ2 H2):=by
 refine⟨λi m σ H=>m=n - i/\i<=n/\Pv i σ H,⟨n,by simp,Nat.zero_le _,h0⟩,?_⟩
 rintro i m σ H ⟨rfl,hi,p⟩
 by_cases hlt:i<n
 ·refine .inr ⟨hlt,Pv (i+1),λσ' H' p'=>⟨n - (i+1),by omega,rfl,hlt,p'⟩,λx H' y=> ?_⟩
  obtain⟨e,y⟩:=y
  subst e y
  exact hs i σ _ hlt p
 ·have e:i=n:=by omega
  subst e
  exact .inl ⟨Nat.le_refl _,hd σ H p⟩
end L2
namespace L2
abbrev R2:=V->V->Hp->VK->Prop
def OpR(X:Cx)(f:Value->Value->Sem Value)(r:R2):Prop :=
 ∀ (pins:List (Addr × Obj)) (s:Shared) (σ:St) (H:Hp) (x y:V) (v u:Value) (Q:VK),Inv X pins σ H s->RelV x v->RelV y u->r x y H Q →
  wpAny (model X.prog X.w) X.A (f v u) (EP X pins σ Q) X.xe s
def CallR(X:Cx)(f:Value)(r:List V->Hp->VK->Prop):Prop :=
 ∀ (pins:List (Addr × Obj)) (s:Shared) (σ:St) (H:Hp) (xs:List V) (us:List Value) (Q:VK),Inv X pins σ H s->Vals xs us->r xs H Q →
  wpAny (model X.prog X.w) X.A (call f us) (EP X pins σ Q) X.xe s
def eG(X:Cx)(r:V->Hp->(Bool->Hp->Prop)->Prop):Prop :=
 ∀ (pins:List (Addr × Obj)) (s:Shared) (σ:St) (H:Hp) (x:V) (v:Value) (Q:Bool->Hp->Prop),Inv X pins σ H s->RelV x v->r x H Q →
  wpAny (model X.prog X.w) X.A (truthy v) (TP X pins σ Q) X.xe s
def AC(r:R2)(ta tb:TE):TE:=λσ H Q=>ta σ H λx H1=>tb σ H1 λy H2=>r x y H2 Q
def eI(r:V->Hp->VK->Prop)(ta:TE):TE:=λσ H Q=>ta σ H λx H1=>r x H1 Q
def rI(C:Int->Int->Prop)(g:Int->Int->V):R2:=λx y H Q=>∃ i j,x=.int i/\y=.int j/\C i j/\Q (g i j) H
def FG(g:Int->Int->V):R2:=λx y H Q=>∃ i j,x=.int i/\y=.int j/\Q (g i j) H
def rU(g:Int->V):V->Hp->VK->Prop:=λx H Q=>∃ i,x=.int i/\Q (g i) H
section
variable{X:Cx}{a b c:Expr}{ta tb tc:TE}{pos:Pos}
theorem OH(ha:PE X a ta)(hb:PE X b tb){pins:List (Addr × Obj)}{s:Shared}{σ:St}{H:Hp}{R:V->V->Hp->Prop}(I:Inv X pins σ H s)
  (h:ta σ H λx H1=>tb σ H1 λy H2=>R x y H2) {Q:Value->Shared->Prop} {f:Value->Value->Sem Value}
  (hf:∀ v u s2 x y H2,Inv X pins σ H2 s2->RelV x v->RelV y u->R x y H2->wpAny (model X.prog X.w) X.A (f v u) Q X.xe s2) :
  wpAny (model X.prog X.w) X.A (eval a X.env) (λv s₁=>wpAny (model X.prog X.w) X.A (eval b X.env) (λu s₂=>wpAny (model X.prog X.w) X.A (f v u) Q X.xe s₂) X.xe s₁) X.xe s:=by
 refine AV (ha pins s σ H _ I h) λv s1 ⟨x,H1,I1,r1,q1⟩=> ?_
 refine AV (hb pins s1 σ H1 _ I1 q1) λu s2 ⟨y,H2,I2,r2,q2⟩=> ?_
 exact hf v u s2 x y H2 I2 r1 r2 q2
theorem AQ{op:Operator}{r:R2}(ho:OpR X (binaryOp op) r)(ha:PE X a ta)(hb:PE X b tb):PE X (.BinOp a op b pos) (AC r ta tb):=by
 intro pins s σ H Q I h
 exact wpAny_BinOp (OH ha hb I h λv u s2 x y H2 I2 rx ry q=>ho pins s2 σ H2 x y v u Q I2 rx ry q)
theorem NH{f:Value->Value->Sem Value}{C:Int->Int->Prop}{g:Int->Int->Int}
  (rule:∀ (i j:Int) (t u:Tok) (s:Shared) (Q:Value->Shared->Prop) (E:Value->Shared->Prop),C i j->Q (.int (g i j) s.toks) { s with toks:=s.toks+1 }->wpAny (model X.prog X.w) X.A (f (.int i t) (.int j u)) Q E s) :
  OpR X f (rI C λi j=>.int (g i j)):=by
 intro pins s σ H x y v u Q I rx ry h
 obtain⟨i,j,rfl,rfl,hc,q⟩:=h
 obtain⟨t,rfl⟩:=rx
 obtain⟨t',rfl⟩:=ry
 exact rule i j t t' s _ _ hc ⟨.int (g i j),H,I.tok _,⟨_,rfl⟩,q⟩
theorem SI{f:Value->Value->Sem Value}{g:Int->Int->Int}
  (rule:∀ (i j:Int) (t u:Tok) (s:Shared) (Q:Value->Shared->Prop) (E:Value->Shared->Prop),Q (.int (g i j) s.toks) { s with toks:=s.toks+1 }->wpAny (model X.prog X.w) X.A (f (.int i t) (.int j u)) Q E s) :
  OpR X f (FG λi j=>.int (g i j)):=by
 intro pins s σ H x y v u Q I rx ry h
 obtain⟨i,j,rfl,rfl,q⟩:=h
 obtain⟨t,rfl⟩:=rx
 obtain⟨t',rfl⟩:=ry
 exact rule i j t t' s _ _ ⟨.int (g i j),H,I.tok _,⟨_,rfl⟩,q⟩
theorem OI{f:Value->Value->Sem Value}{g:Int->Int->Bool}
  (rule:∀ (i j:Int) (t u:Tok) (s:Shared) (Q:Value->Shared->Prop) (E:Value->Shared->Prop),Q (.bool (g i j)) s->wpAny (model X.prog X.w) X.A (f (.int i t) (.int j u)) Q E s) :
  OpR X f (FG λi j=>.bl (g i j)):=by
 intro pins s σ H x y v u Q I rx ry h
 obtain⟨i,j,rfl,rfl,q⟩:=h
 obtain⟨t,rfl⟩:=rx
 obtain⟨t',rfl⟩:=ry
 exact rule i j t t' s _ _ ⟨.bl (g i j),H,I,rfl,q⟩
def SJ(i j:Int):Prop:=0<j/\j<1073741824
def SK(i j:Int):Prop:=0<=j/\j<=1000000/\i.natAbs<2 ^ 64
def CMul(i j:Int):Prop:=(-(2 ^ 64)<i/\i<2 ^ 64)\/(-(2 ^ 64)<j/\j<2 ^ 64)
theorem CMul.ok{i j:Int}(h:CMul i j):IntMulOk i j:=by
 rcases h with⟨h1,h2⟩ | ⟨h1,h2⟩
 ·exact .of_left (intBits_le_64 h1 h2)
 ·exact .of_right (intBits_le_64 h1 h2)
theorem eJ:OpR X (binaryOp .Add) (FG λi j=>.int (i+j)):=SI λ_ _ _ _ _ _ _ q=>add_int q
theorem SL:OpR X (binaryOp .Sub) (FG λi j=>.int (i - j)):=SI λ_ _ _ _ _ _ _ q=>sub_int q
theorem eK:OpR X (binaryOp .Mult) (rI CMul λi j=>.int (i * j)):=NH λ_ _ _ _ _ _ _ hc q=>mul_int q hc.ok
theorem E4:OpR X (binaryOp .FloorDiv) (rI SJ λi j=>.int (i / j)):=NH λi j _ _ _ _ _ hc q=>by
 have h1:(0:Int)<j:=hc.1
 have h2:j<1073741824:=hc.2
 exact floordiv_int (by omega) (by rw[Int.fdiv_eq_ediv_of_nonneg i (by omega)];exact q) (.inl (PyProof.noPylong_small (by omega)))
theorem BZ:OpR X (binaryOp .Mod) (rI (λ_ j=>0<j) λi j=>.int (i % j)):=NH λi j _ _ _ _ _ hc q=>by
 have h1:(0:Int)<j:=hc
 exact mod_int' (by omega) (by rw[Int.fmod_eq_emod_of_nonneg i (by omega)];exact q)
theorem SM:OpR X (binaryOp .Pow) (rI SK λi j=>.int (i ^ j.toNat)):=NH λ_ _ _ _ _ _ _ hc q=>pow_int_small hc.1 hc.2.1 hc.2.2 q
end
def DG:V->V->Bool
 | .non,.non=>true | .non,.int _=>true | .int _,.non=>true | .non,.bl _=>true | .bl _,.non=>true | .non,.str _=>true | .str _,.non=>true
 | .int _,.int _=>true | .bl _,.bl _=>true | .str _,.str _=>true | .byt _,.byt _=>true
 | .int _,.str _=>true | .str _,.int _=>true | .bl _,.str _=>true | .str _,.bl _=>true
 | _,_=>false
def eL:R2:=λx y H Q=>DG x y=true/\Q (.bl (decide (x=y))) H
def eM:R2:=λx y H Q=>DG x y=true/\Q (.bl (!decide (x=y))) H
theorem SN{i j:Int}:decide (V.int i=V.int j)=(i == j):=by
 rw[Bool.eq_iff_iff]
 simp
theorem SO{i j:Bool}:decide (V.bl i=V.bl j)=(i == j):=by
 rw[Bool.eq_iff_iff]
 simp
theorem SQ{i j:Str}:decide (V.str i=V.str j)=(i == j):=by
 rw[Bool.eq_iff_iff]
 simp
theorem SR{i j:Array UInt8}:decide (V.byt i=V.byt j)=(i.toList == j.toList):=by
 rw[Bool.eq_iff_iff]
 cases i
 cases j
 simp
section
variable{X:Cx}{a b c:Expr}{ta tb tc:TE}{pos:Pos}
theorem B0{pins:List (Addr × Obj)}{σ:St}{H:Hp}{s:Shared}{Q:VK}{k k':Bool}(I:Inv X pins σ H s)(q:Q (.bl k) H)(e:k=k'):EP X pins σ Q (.bool k') s:=by
 subst e
 exact⟨.bl k,H,I,rfl,q⟩
theorem eN:OpR X (compareOp .Eq) eL:=by
 intro pins s σ H x y v u Q I rx ry h
 obtain⟨hs,q⟩:=h
 cases x with
 | non =>
  cases rx
  cases y with
  | non=>cases ry;exact PySem.EqNone.eq_none_none (B0 I q (by simp))
  | bl j=>cases ry;exact PySem.EqNone.eq_none_bool (B0 I q (by simp))
  | int j=>obtain⟨t',rfl⟩:=ry;exact PySem.EqNone.eq_none_int (B0 I q (by simp))
  | str j=>obtain⟨t',rfl⟩:=ry;exact PySem.EqNone.eq_none_str (B0 I q (by simp))
  | _=>exact absurd (show false=true from hs) Bool.false_ne_true
 | bl i =>
  cases rx
  cases y with
  | non=>cases ry;exact PySem.EqNone.eq_bool_none (B0 I q (by simp))
  | bl j=>cases ry;exact eq_bool (B0 I q SO)
  | str j=>obtain⟨t',rfl⟩:=ry;exact PySem.EqMixed.eq_bool_str (B0 I q (by simp))
  | _=>exact absurd (show false=true from hs) Bool.false_ne_true
 | int i =>
  obtain⟨t,rfl⟩:=rx
  cases y with
  | non=>cases ry;exact PySem.EqNone.eq_int_none (B0 I q (by simp))
  | int j=>obtain⟨t',rfl⟩:=ry;exact eq_int (B0 I q SN)
  | str j=>obtain⟨t',rfl⟩:=ry;exact PySem.EqMixed.eq_int_str (B0 I q (by simp))
  | _=>exact absurd (show false=true from hs) Bool.false_ne_true
 | str i =>
  obtain⟨t,rfl⟩:=rx
  cases y with
  | non=>cases ry;exact PySem.EqNone.eq_str_none (B0 I q (by simp))
  | bl j=>cases ry;exact PySem.EqMixed.eq_str_bool (B0 I q (by simp))
  | int j=>obtain⟨t',rfl⟩:=ry;exact PySem.EqMixed.eq_str_int (B0 I q (by simp))
  | str j=>obtain⟨t',rfl⟩:=ry;exact eq_str (B0 I q SQ)
  | _=>exact absurd (show false=true from hs) Bool.false_ne_true
 | byt i =>
  obtain⟨t,rfl⟩:=rx
  cases y with
  | byt j=>obtain⟨t',rfl⟩:=ry;exact W.eq_bytes (B0 I q SR)
  | _=>exact absurd (show false=true from hs) Bool.false_ne_true
 | _=>cases y<;>exact absurd (show false=true from hs) Bool.false_ne_true
theorem eO:OpR X (compareOp .NotEq) eM:=by
 intro pins s σ H x y v u Q I rx ry h
 obtain⟨hs,q⟩:=h
 cases x with
 | non =>
  cases rx
  cases y with
  | non=>cases ry;exact PySem.EqNone.ne_none_none (B0 I q (by simp))
  | bl j=>cases ry;exact PySem.EqNone.ne_none_bool (B0 I q (by simp))
  | int j=>obtain⟨t',rfl⟩:=ry;exact PySem.EqNone.ne_none_int (B0 I q (by simp))
  | str j=>obtain⟨t',rfl⟩:=ry;exact PySem.EqNone.ne_none_str (B0 I q (by simp))
  | _=>exact absurd (show false=true from hs) Bool.false_ne_true
 | bl i =>
  cases rx
  cases y with
  | non=>cases ry;exact PySem.EqNone.ne_bool_none (B0 I q (by simp))
  | bl j=>cases ry;exact ne_bool (B0 I q (congrArg not SO))
  | str j=>obtain⟨t',rfl⟩:=ry;exact PySem.EqMixed.ne_bool_str (B0 I q (by simp))
  | _=>exact absurd (show false=true from hs) Bool.false_ne_true
 | int i =>
  obtain⟨t,rfl⟩:=rx
  cases y with
  | non=>cases ry;exact PySem.EqNone.ne_int_none (B0 I q (by simp))
  | int j=>obtain⟨t',rfl⟩:=ry;exact ne_int (B0 I q (congrArg not SN))
  | str j=>obtain⟨t',rfl⟩:=ry;exact PySem.EqMixed.ne_int_str (B0 I q (by simp))
  | _=>exact absurd (show false=true from hs) Bool.false_ne_true
 | str i =>
  obtain⟨t,rfl⟩:=rx
  cases y with
  | non=>cases ry;exact PySem.EqNone.ne_str_none (B0 I q (by simp))
  | bl j=>cases ry;exact PySem.EqMixed.ne_str_bool (B0 I q (by simp))
  | int j=>obtain⟨t',rfl⟩:=ry;exact PySem.EqMixed.ne_str_int (B0 I q (by simp))
  | str j=>obtain⟨t',rfl⟩:=ry;exact ne_str (B0 I q (congrArg not SQ))
  | _=>exact absurd (show false=true from hs) Bool.false_ne_true
 | byt i =>
  obtain⟨t,rfl⟩:=rx
  cases y with
  | byt j=>obtain⟨t',rfl⟩:=ry;exact W.ne_bytes (B0 I q (congrArg not SR))
  | _=>exact absurd (show false=true from hs) Bool.false_ne_true
 | _=>cases y<;>exact absurd (show false=true from hs) Bool.false_ne_true
theorem eP:OpR X (compareOp .Lt) (FG λi j=>.bl (decide (i<j))):=OI λ_ _ _ _ _ _ _ q=>lt_int q
theorem eQ:OpR X (compareOp .LtE) (FG λi j=>.bl (decide (i<=j))):=OI λ_ _ _ _ _ _ _ q=>le_int q
theorem eS:OpR X (compareOp .Gt) (FG λi j=>.bl (decide (j<i))):=OI λ_ _ _ _ _ _ _ q=>gt_int q
theorem JA:OpR X (compareOp .Is) (λx y H Q=>y=.non/\Q (.bl (decide (x=.non))) H):=by
 intro pins s σ H x y v u Q I rx ry h
 obtain⟨rfl,q⟩:=h
 cases ry
 refine is_none_gen (B0 I q ?_)
 cases x<;>first
  | (cases rx;rfl)
  | (obtain⟨t,rfl⟩:=rx;rfl)
theorem GA:OpR X (compareOp .IsNot) (λx y H Q=>y=.non/\Q (.bl (!decide (x=.non))) H):=by
 intro pins s σ H x y v u Q I rx ry h
 obtain⟨rfl,q⟩:=h
 cases ry
 refine isnot_none_gen (B0 I q ?_)
 cases x<;>first
  | (cases rx;rfl)
  | (obtain⟨t,rfl⟩:=rx;rfl)
theorem OpR.or{f:Value->Value->Sem Value}{r r':R2}(h:OpR X f r)(h':OpR X f r'):OpR X f (λx y H Q=>r x y H Q\/r' x y H Q):=by
 intro pins s σ H x y v u Q I rx ry q
 rcases q with q | q
 ·exact h pins s σ H x y v u Q I rx ry q
 ·exact h' pins s σ H x y v u Q I rx ry q
theorem A3(b:Expr){op:CmpOp}(h:op≠.In:=by decide)(h2:op≠.NotIn:=by decide):behindInMarks op b=false:=by
 have e1:(op == CmpOp.In)=false:=by cases op<;>first | rfl | exact absurd rfl h
 have e2:(op == CmpOp.NotIn)=false:=by cases op<;>first | rfl | exact absurd rfl h2
 cases b<;>simp[behindInMarks,e1,e2]
theorem K6{op:CmpOp}{r:R2}(ho:OpR X (compareOp op) r)(ha:PE X a ta)(hb:PE X b tb)(hm:behindInMarks op b=false):PE X (.Compare a [op] [b] pos) (AC r ta tb):=by
 intro pins s σ H Q I h
 exact wpAny_Compare1 (OH ha hb I h λv u s2 x y H2 I2 rx ry q=>ho pins s2 σ H2 x y v u Q I2 rx ry q) hm
def A1(t:TE):TT:=λσ H Q=>t σ H λx H'=>∃ k,x=.bl k/\Q k H'
theorem A6{op:CmpOp}{r:R2}(ho:OpR X (compareOp op) r)(ha:PE X a ta)(hb:PE X b tb)(hm:behindInMarks op b=false):PT X (.Compare a [op] [b] pos) (A1 (AC r ta tb)):=by
 intro pins s σ H Q I h
 refine wpAny_isTrue_Compare1 (AV (ha pins s σ H _ I h) λv s1 ⟨x,H1,I1,r1,q1⟩=>AV (hb pins s1 σ H1 _ I1 q1) λu s2 ⟨y,H2,I2,r2,q2⟩ =>
  AV (ho pins s2 σ H2 x y v u _ I2 r1 r2 q2) λc s3 ⟨z,H3,I3,r3,k,e,q3⟩=> ?_) hm
 subst e
 cases r3
 exact wpAny_truthy_bool ⟨H3,I3,q3⟩
def OJ(r r':R2)(ta tb tc:TE):TE:=λσ H Q=>ta σ H λx H1=>tb σ H1 λy H2=>r x y H2 λz H3=>∃ k,z=.bl k ∧
 (if k=true then tc σ H3 λw' H4=>r' y w' H4 Q else Q (.bl false) H3)
theorem eU{op op':CmpOp}{r r':R2}(ho:OpR X (compareOp op) r)(ho':OpR X (compareOp op') r')(ha:PE X a ta)(hb:PE X b tb)(hc:PE X c tc)
  (hm:lastMarks [op,op'] [b,c]=false:=by with_unfolding_all rfl):PT X (.Compare a [op,op'] [b,c] pos) (A1 (OJ r r' ta tb tc)):=by
 intro pins s σ H Q I h
 refine isTrue_chain (AV (ha pins s σ H _ I h) λv s1 ⟨x,H1,I1,r1,q1⟩=>test_link (AV (hb pins s1 σ H1 _ I1 q1) λu s2 ⟨y,H2,I2,r2,q2⟩ =>
  AV (ho pins s2 σ H2 x y v u _ I2 r1 r2 q2) λd s3 ⟨z,H3,I3,r3,k,e,q3⟩=> ?_)) hm
 subst e
 cases r3
 refine wpAny_truthy_bool ?_
 cases k with
 | false =>
  obtain⟨k',e',q'⟩:=q3
  cases e'
  exact ite_ff ⟨H3,I3,q'⟩
 | true =>
  refine ite_tt (test_last (AV (hc pins s3 σ H3 _ I3 q3) λw' s4 ⟨z',H4,I4,r4,q4⟩=>AV (ho' pins s4 σ H4 y z' u w' _ I4 r2 r4 q4) λd' s5 ⟨z2,H5,I5,r5,k2,e2,q5⟩=> ?_))
  subst e2
  cases r5
  exact wpAny_truthy_bool ⟨H5,I5,q5⟩
def EM(K:W.Frag)(x:V)(H:Hp)(k:Bool):Prop :=
 match x with
 | .non=>k=false
 | .bl b=>k=b
 | .int i=>k=(i != 0)
 | .str y=>y.length<=sizeLine/\k=((y.length:Int) != 0)
 | .byt y=>y.size<=sizeLine/\k=((y.size:Int) != 0)
 | .ref p=>(∃ xs,SqL K H p xs/\k= !xs.isEmpty)\/(∃ xs,SqT K H p xs/\k= !xs.isEmpty)\/∃ kvs,H p=some (.dK kvs)/\k= !kvs.isEmpty
 | _=>False
theorem eV{κ :Type}{kvs:List (κ × V)}{vs:List (κ × Value)}(r:KV kvs vs):(!vs.isEmpty)= !kvs.isEmpty:=by
 cases r<;>rfl
theorem SS{xs:List V}{its:List Value}(r:Vals xs its):(!its.toArray.isEmpty)= !xs.isEmpty:=by
 cases r<;>simp
theorem HG:(sizeLine:Nat)<2 ^ 63:=by rw[sizeLine_eq];decide
theorem eW:eG X (λx H Q=>∃ k,EM X.K x H k/\Q k H):=by
 intro pins s σ H x v Q I rx h
 obtain⟨k,e,q⟩:=h
 have hl:=HG
 have hs:sizeLine=16777216:=sizeLine_eq
 cases x with
 | non =>
  cases rx
  have e':k=false:=e
  subst e'
  exact truthy_none ⟨H,I,q⟩
 | bl b =>
  cases rx
  have e':k=b:=e
  subst e'
  exact wpAny_truthy_bool ⟨H,I,q⟩
 | int i =>
  obtain⟨t,rfl⟩:=rx
  have e':k=(i != 0):=e
  subst e'
  exact PySem.P.truthy_int ⟨H,I,q⟩
 | str y =>
  obtain⟨t,rfl⟩:=rx
  obtain⟨hy,e'⟩:y.length<=sizeLine/\k=((y.length:Int) != 0):=e
  subst e'
  exact PySem.P.truthy_str (by omega) ⟨H,I.tok _,q⟩
 | byt y =>
  obtain⟨t,rfl⟩:=rx
  obtain⟨hy,e'⟩:y.size<=sizeLine/\k=((y.size:Int) != 0):=e
  subst e'
  exact W.truthy_bytes (by omega) ⟨H,I.tok _,q⟩
 | ref p =>
  cases rx
  have e':(∃ xs,SqL X.K H p xs/\k= !xs.isEmpty)\/(∃ xs,SqT X.K H p xs/\k= !xs.isEmpty)\/∃ kvs,H p=some (.dK kvs)/\k= !kvs.isEmpty:=e
  rcases e' with⟨xs,hx,e'⟩ | ⟨xs,hx,e'⟩ | ⟨kvs,hx,e'⟩
  ·subst e'
   obtain⟨its,r,pl,hz⟩:=I.list hx
   have hlen:=r.length
   exact wpAny_truthy_list pl.isList (by simp only[List.size_toArray];omega) ⟨H,I.tok _,by rw[SS r];exact q⟩
  ·subst e'
   obtain⟨its,r,pl,hz⟩:=I.tuple hx
   have hlen:=r.length
   exact truthy_tuple pl (by simp only[List.size_toArray];omega) ⟨H,I.tok _,by rw[SS r];exact q⟩
  ·subst e'
   obtain⟨hz,hS,vs,r,m⟩:kvs.length<=sizeLine/\(p == sysModules)=false/\∃ vs,KV kvs vs/\s.heap.DictOf (D7 X.prog X.w) p vs:=I.hok p _ hx
   have hlen:kvs.length=vs.length:=Paired.length r
   exact wpAny_truthy_dict hS m (by omega) ⟨H,I.tok _,by rw[eV r];exact q⟩
 | _=>exact(show False from e).elim
theorem HH(ha:PE X a ta)(he:∀ whole,isTrue a X.env whole=(do let v ← whole;standAt a.pos;holding [v] (truthy v))) :
  PT X a (λσ H Q=>ta σ H λx H'=>∃ k,EM X.K x H' k/\Q k H'):=by
 intro pins s σ H Q I h
 exact isTrue_plain (AV (ha pins s σ H _ I h) λv s1 ⟨x,H1,I1,r1,q1⟩=>eW pins s1 σ H1 x v Q I1 r1 q1) (he _)
theorem eX:OpR X (binaryOp .Add) (λx y H Q=>∃ i j,x=.str i/\y=.str j/\i.length+j.length<=sizeLine/\Q (.str (i++j)) H):=by
 intro pins s σ H x y v u Q I rx ry h
 obtain⟨i,j,rfl,rfl,hz,q⟩:=h
 obtain⟨t,rfl⟩:=rx
 obtain⟨t',rfl⟩:=ry
 exact add_str (λt' tk=>⟨.str (i++j),H,I.tok _,⟨_,rfl⟩,q⟩) hz
theorem JB{x:V}{us:List Value}(r:Vals [x] us):∃ u,us=[u]/\RelV x u:=by
 cases r with
 | cons r1 r2=>cases r2;exact⟨_,rfl,r1⟩
theorem ST:CallR X (.type "int") (λxs H Q=>(∃ i,xs=[.int i]/\Q (.int i) H)\/∃ k,xs=[.bl k]/\Q (.int (if k then 1 else 0)) H):=by
 intro pins s σ H xs us Q I r h
 rcases h with⟨i,rfl,q⟩ | ⟨k,rfl,q⟩
 ·obtain⟨u,rfl,t,rfl⟩:=JB r
  exact call_int_int ⟨.int i,H,I,⟨_,rfl⟩,q⟩
 ·obtain⟨u,rfl,r1⟩:=JB r
  cases r1
  exact call_int_bool ⟨.int (if k then 1 else 0),H,I.tok _,⟨_,rfl⟩,q⟩
def OK(K:W.Frag)(x:V)(H:Hp)(n:Nat):Prop :=
 match x with
 | .str y=>y.length<=sizeLine/\n=y.length
 | .byt y=>y.size<=sizeLine/\n=y.size
 | .ref p=>(∃ xs,SqL K H p xs/\n=xs.length)\/∃ xs,SqT K H p xs/\n=xs.length
 | _=>False
theorem eY:CallR X (.builtin "len") (λxs H Q=>∃ x n,xs=[x]/\OK X.K x H n/\Q (.int n) H):=by
 intro pins s σ H xs us Q I r h
 obtain⟨x,n,rfl,e,q⟩:=h
 obtain⟨u,rfl,rx⟩:=JB r
 have hl:=HG
 have hs:sizeLine=16777216:=sizeLine_eq
 cases x with
 | str y =>
  obtain⟨t,rfl⟩:=rx
  obtain⟨hy,e'⟩:y.length<=sizeLine/\n=y.length:=e
  subst e'
  exact len_str (by omega) ⟨.int _,H,I.tok _,⟨_,rfl⟩,q⟩
 | byt y =>
  obtain⟨t,rfl⟩:=rx
  obtain⟨hy,e'⟩:y.size<=sizeLine/\n=y.size:=e
  subst e'
  exact W.len_bytes (by omega) ⟨.int _,H,I.tok _,⟨_,rfl⟩,q⟩
 | ref p =>
  cases rx
  have e':(∃ xs,SqL X.K H p xs/\n=xs.length)\/∃ xs,SqT X.K H p xs/\n=xs.length:=e
  rcases e' with⟨xs,hx,e'⟩ | ⟨xs,hx,e'⟩
  ·subst e'
   obtain⟨its,r',pl,hz⟩:=I.list hx
   have hlen:=r'.length
   exact Calls.call_len_list pl.isList (by simp only[List.size_toArray];omega) ⟨.int xs.length,H,I.tok _,⟨_,by simp only[List.size_toArray];rw[hlen]⟩,q⟩
  ·subst e'
   obtain⟨its,r',pl,hz⟩:=I.tuple hx
   have hlen:=r'.length
   exact len_tuple pl (by simp only[List.size_toArray];omega) ⟨.int xs.length,H,I.tok _,⟨_,by simp only[List.size_toArray];rw[hlen]⟩,q⟩
 | _=>exact(show False from e).elim
end
end L2
namespace L2
structure ObjM(h:Heap)(x dx C:Addr)(mA:Str->Option Value):Prop where
 obj:h.get? x=some (W.instObj C dx)
 ns:h.Ns1 dx mA
 ne:dx≠x
theorem eZ{h:Heap}{dx:Addr}{mA:Str->Option Value}(n:h.Ns1 dx mA):∃ od,h.get? dx=some od/\∀ name,W.lookIn name od=some (mA name):=by
 obtain⟨o,es,ep,ho,hd,hk,_,hm⟩:=n
 refine⟨o,ho,λname=> ?_⟩
 have e:=hm name
 unfold nsFind findBy at e
 rw[<-Array.find?_toList]at e
 unfold W.lookIn
 rw[hd]
 dsimp only
 split
 ·rename_i y q
  rw[q]at e
  exact congrArg some e
 ·rename_i q
  rw[q]at e
  have a:es.toList.any (·.refKey)=false:=by
   rw[List.any_eq_false]
   intro y hy
   obtain⟨z,t,hkey⟩:=hk y (Array.mem_toList_iff.mp hy)
   simp[DictEntry.refKey,hkey]
  have a':¬ es.toList.any (·.refKey)=true:=by rw[a];exact Bool.false_ne_true
  rw[if_neg a']
  exact congrArg some e
theorem ObjM.look{h:Heap}{x dx C:Addr}{mA:Str->Option Value}(I:ObjM h x dx C mA):∃ od,W.InstAt h x (W.instObj C dx) C (some od)/\∀ name,W.lookIn name od=some (mA name) :=
 let ⟨od,ho,hl⟩:=eZ I.ns
 ⟨od,⟨I.obj,rfl,rfl,ho⟩,hl⟩
section
variable{prog:Program}{w:World}{A:Around}{E:Value->Shared->Prop}{s:Shared}{K:W.Frag}{x dx C f:Addr}{mA:Str->Option Value}{name:Str}{v:Value}
theorem fB{expr:Bool}{Q:Value->Shared->Prop}(X:K.In s.heap)(I:ObjM s.heap x dx C mA)(hg:W.plainGet K C name=true)(hh:W.hasDictIn K C=true)
  (ha:W.findIn K (.ref C) name=some none) (hv:mA name=some v) (hv':W.handedIn v=true) (h:Q v { s with toks:=s.toks+1 }) :
  wpAny (model prog w) A (getAttr (.ref x) name expr) Q E s:=by
 obtain⟨od,J,hl⟩:=I.look
 exact W.get_value X J (W.plainGet_of hg).1 (W.findObj_own hh ha rfl (by rw[hl,hv])) hv' h
theorem fC{pl:Sem Bool}{Q:Value × List Value->Shared->Prop}(X:K.In s.heap)(I:ObjM s.heap x dx C mA)(hg:W.plainGet K C name=true)
  (hf:W.findIn K (.ref C) name=some (some (.ref f))) (ht:W.isFn K (.ref f)=true) (hv:mA name=none) (h:Q (.ref f,[.ref x]) s) :
  wpAny (model prog w) A (getMethod (.ref x) name pl) Q E s:=by
 obtain⟨od,J,hl⟩:=I.look
 exact W.method_fn X J (W.plainGet_of hg).1 (W.plainGet_of hg).2 hf (beq_iff_eq.mp ht) (by show(W.lookIn name od).map (·.isSome)=some false;rw[hl,hv];rfl) h
theorem fD{ns:List Str}{Q:Unit->Shared->Prop}(X:K.In s.heap)(I:ObjM s.heap x dx C mA)
  (hs:W.findIn K (.ref C) "__setattr__"=some (some (.builtin "object.__setattr__"))) (hp:W.plainOver K C=true) (ht:W.takerIn K C name=some none) (hh:W.hasDictIn K C=true)
  (hw:PySem.Within mA ns) (hsz:ns.length<=sizeLine)
  (h:∀ h',ObjM h' x dx C (λy=>if y=name then some v else mA y)->Heap.SameBut dx s.heap h'->Q () { s with heap:=h',toks:=s.toks+2 }) :
  wpAny (model prog w) A (setAttr (.ref x) name v) Q E s:=by
 obtain⟨od,J,hl⟩:=I.look
 refine W.set_plain X J hs (W.osa_open (s:={ s with toks:=s.toks+1 }) (r:=none) X J hp ht λb=> ?_)
 obtain⟨cd,hc,hd'⟩:=W.any_some hh
 have hx:s.heap.get? x=some ⟨.ref C,some dx,.plain,#[]⟩:=I.obj
 refine wpAny_bind (wpAny_pure (wpAny_bind (wpAny_bind (wpAny_loadPart hx (wpAny_bind (W.Looks.here (s:={ s with toks:=s.toks+1 }) (W.looks_clsIn X hc) ?_))))))
 rw[hd']
 refine wpAny_pure (a:=some dx) (wpAny_bind (wpAny_pure (wpAny_bind ?_)))
 refine wpAny_nsSet1 (s:={ s with toks:=s.toks+1 }) I.ns λh' hn2 hs2=> ?_
 obtain⟨oD,esD,epD,hoD,hdD,hcD⟩:=hn2.count (PySem.Within.cons name v hw)
 refine wpAny_bind (wpAny_lookBehind hoD (by rw[hdD];exact pastItsLine_dict (Nat.le_trans hcD (by rw[List.length_cons];omega))) ?_)
 exact wpAny_pure (h _ ⟨(hs2.2 _ (Ne.symm I.ne)).trans I.obj,hn2,I.ne⟩ hs2)
theorem fE{R:Result->Shared->Prop}{vs:List Value}{kw:List (Str × Value)}(X:K.In s.heap)(hm:W.makesIn K C=true)
  (hi:W.findIn K (.ref C) "__init__"=some (some (.ref f))) (hf:W.typeIn K (.ref f)=some (.type "function"))
  (h:codeAny (model prog w) (A.under (.builtin "type.__call__" ⟨.ref C::vs,kw⟩)) (.call (.ref f) ⟨.ref (s.heap.objs.size+1)::vs,kw⟩) (W.InitBack (s.heap.objs.size+1) R)
   { s with heap:=(s.heap.push W.emptyDict).push (W.instObj C s.heap.objs.size) }) :
  codeAny (model prog w) A (.call (.ref C) ⟨vs,kw⟩) R s:=by
 obtain⟨hh,g,d,t,os⟩:=s
 exact W.make_core (W.makes_of X hm) (W.looks_findIn X hi) (λself=>W.bind_fn X self hf) (.inl rfl) h
end
def BM(f:Str)(v:V):List (Str × V)->List (Str × V)
 | []=>[(f,v)]
 | (g,x)::r=>if g=f then(g,v)::r else(g,x)::BM f v r
theorem SU(f g:Str)(v:V):∀ fs:List (Str × V),(BM f v fs).lookup g=if g=f then some v else fs.lookup g
 | []=>by
  show List.lookup g [(f,v)]=_
  by_cases h:g=f
  ·have hb:(g == f)=true:=beq_iff_eq.mpr h
   simp only[List.lookup,hb,if_pos h]
  ·have hb:(g == f)=false:=beq_eq_false_iff_ne.mpr h
   simp only[List.lookup,hb,if_neg h]
 | (k,x)::r=>by
  have ih:=SU f g v r
  rw[show BM f v ((k,x)::r)=(if k=f then(k,v)::r else(k,x)::BM f v r)from rfl]
  by_cases hk:k=f
  ·rw[if_pos hk]
   by_cases h:g=k
   ·have hb:(g == k)=true:=beq_iff_eq.mpr h
    simp only[List.lookup,hb,if_pos (h.trans hk)]
   ·have hb:(g == k)=false:=beq_eq_false_iff_ne.mpr h
    simp only[List.lookup,hb,if_neg (λe:g=f=>h (e.trans hk.symm))]
  ·rw[if_neg hk]
   by_cases h:g=k
   ·have hb:(g == k)=true:=beq_iff_eq.mpr h
    simp only[List.lookup,hb,if_neg (λe:g=f=>hk (h.symm.trans e))]
   ·have hb:(g == k)=false:=beq_eq_false_iff_ne.mpr h
    simp only[List.lookup,hb]
    exact ih
theorem OL(f:Str)(v:V):∀ fs:List (Str × V),f∈(BM f v fs).map (·.1)/\∀ g,g∈fs.map (·.1)->g∈(BM f v fs).map (·.1)
 | []=>⟨by simp[BM],λg h=>by simp at h⟩
 | (k,x)::r=>by
  obtain⟨i1,i2⟩:=OL f v r
  rw[show BM f v ((k,x)::r)=(if k=f then(k,v)::r else(k,x)::BM f v r)from rfl]
  by_cases hk:k=f
  ·rw[if_pos hk]
   subst hk
   exact⟨by simp,λg h=>by simpa using h⟩
  ·rw[if_neg hk]
   refine⟨?_,λg h=> ?_⟩
   ·rw[List.map_cons]
    exact List.mem_cons_of_mem _ i1
   ·rw[List.map_cons]at h ⊢
    rcases List.mem_cons.mp h with e | e
    ·exact List.mem_cons.mpr (.inl e)
    ·exact List.mem_cons_of_mem _ (i2 g e)
theorem OM(f:Str)(v:V):∀ fs:List (Str × V),(BM f v fs).length<=fs.length+1
 | []=>by simp[BM]
 | (k,x)::r=>by
  have ih:=OM f v r
  rw[show BM f v ((k,x)::r)=(if k=f then(k,v)::r else(k,x)::BM f v r)from rfl]
  by_cases hk:k=f
  ·rw[if_pos hk,List.length_cons,List.length_cons];omega
  ·rw[if_neg hk,List.length_cons,List.length_cons];omega
theorem RelO.some_of{v:V}{o:Option Value}(r:RelO (some v) o):∃ u,o=some u/\RelV v u:=by
 cases o with
 | none=>exact(show False from r).elim
 | some u=>exact⟨u,rfl,r⟩
theorem RelO.none_of{o:Option Value}(r:RelO none o):o=none:=by
 cases o with
 | none=>rfl
 | some u=>exact(show False from r).elim
theorem fF{v:V}{u:Value}(r:RelV v u):W.handedIn u=true:=by
 cases v with
 | non=>cases (show u=Value.none from r);rfl
 | bl b=>cases (show u=Value.bool b from r);rfl
 | int i=>obtain⟨t,e⟩:=(show ∃ t,u=Value.int i t from r);cases e;rfl
 | str x=>obtain⟨t,e⟩:=(show ∃ t,u=Value.str x t from r);cases e;rfl
 | byt b=>obtain⟨t,e⟩:=(show ∃ t,u=Value.bytes b t from r);cases e;rfl
 | flt b=>obtain⟨t,e⟩:=(show ∃ t,u=Value.float b t from r);cases e;rfl
 | ref a=>cases (show u=Value.ref a from r);rfl
 | ty n=>cases (show u=Value.type n from r);rfl
section
variable{P:Program}{w:World}{H H':Hp}{h h':Heap}{a C dx:Addr}{fs fs':List (Str × V)}
theorem NI(hok:HOk P w H h)(e:H a=some (.ins C dx fs)):∃ mA,ObjM h a dx C mA/\(∀ f,RelO (fs.lookup f) (mA f))/\PySem.Within mA (fs.map (·.1))/\fs.length<=1000/\H dx=some (.own a):=by
 obtain⟨d,z,ne,ob,mA,n,r,q⟩:=(show ObjOk P w H h a (.ins C dx fs)from hok a _ e)
 exact⟨mA,⟨ob,n,ne⟩,r,q,z,d⟩
end
structure Cls(K:W.Frag)(C:Addr):Prop where
 pg:W.plainGet K C Str.empty=true
 hd:W.hasDictIn K C=true
 po:W.plainOver K C=true
 sa:W.findIn K (.ref C) "__setattr__"=some (some (.builtin "object.__setattr__"))
theorem Cls.get{K:W.Frag}{C:Addr}(c:Cls K C)(f:Str):W.plainGet K C f=true:=c.pg
def NoAttr(K:W.Frag)(C:Addr)(f:Str):Prop:=W.findIn K (.ref C) f=some none
theorem NoAttr.taker{K:W.Frag}{C:Addr}{f:Str}(n:NoAttr K C f):W.takerIn K C f=some none:=by
 unfold W.takerIn
 rw[show W.findIn K (.ref C) f=some none from n]
 rfl
structure Hb(K:W.Frag)(C:Addr)(f:Str)(v:V)(u:Value):Prop where
 at_:W.findIn K (.ref C) f=some (some u)
 rel:RelV v u
 get:W.specialIn K u "__get__"=some none
 cp:W.copiedNames.contains f=false
structure NJ(K:W.Frag)(C:Addr)(m:Str)(f:Addr):Prop where
 at_:W.findIn K (.ref C) m=some (some (.ref f))
 fn:W.isFn K (.ref f)=true
 kp:W.keepIn K (.ref f)=true
section
variable{X:Cx}{pins:List (Addr × Obj)}{σ:St}{H:Hp}{s:Shared}{a C dx:Addr}{fs:List (Str × V)}{f:Str}{v:V}{A:Around}{E:Value->Shared->Prop}
theorem SV{b:Bool}{Q:Value->Shared->Prop}(I:Inv X pins σ H s)(e:H a=some (.ins C dx fs))(c:Cls X.K C)(n:NoAttr X.K C f)(l:fs.lookup f=some v)
  (h:∀ u s',Inv X pins σ H s'->RelV v u->Q u s'):wpAny (model X.prog X.w) A (getAttr (.ref a) f b) Q E s:=by
 obtain⟨mA,O,r,_,_,_⟩:=NI I.hok e
 obtain⟨u,hu,ru⟩:=RelO.some_of (v:=v) (o:=mA f) (by rw[<-l];exact r f)
 exact fB I.kIn O (c.get f) c.hd n hu (fF ru) (h u _ (I.tok _) ru)
theorem SW{m:Str}{g:Addr}{pl:Sem Bool}{Q:Value × List Value->Shared->Prop}(I:Inv X pins σ H s)(e:H a=some (.ins C dx fs))(c:Cls X.K C)(k:NJ X.K C m g)(l:fs.lookup m=none)
  (h:Q (.ref g,[.ref a]) s):wpAny (model X.prog X.w) A (getMethod (.ref a) m pl) Q E s:=by
 obtain⟨mA,O,r,_,_,_⟩:=NI I.hok e
 have hn:mA m=none:=RelO.none_of (by rw[<-l];exact r m)
 exact fC I.kIn O (c.get m) k.at_ k.fn hn h
theorem SX{y:V}{u:Value}{Q:Unit->Shared->Prop}(I:Inv X pins σ H s)(e:H a=some (.ins C dx fs))(c:Cls X.K C)(n:NoAttr X.K C f)(hl:fs.length<1000)(ry:RelV y u)
  (h:∀ s',Inv X pins σ (upd H a (.ins C dx (BM f y fs))) s'->Q () s'):wpAny (model X.prog X.w) A (setAttr (.ref a) f u) Q E s:=by
 obtain⟨mA,O,r,wi,_,ho⟩:=NI I.hok e
 have hz:(fs.map (·.1)).length<=sizeLine:=by rw[List.length_map,sizeLine_eq];omega
 refine fD I.kIn O c.sa c.po n.taker c.hd wi hz λh' O' sb=>h _ ?_
 have hd:∃ o,h'.get? dx=some o:=let ⟨o,_,_,e',_⟩:=O'.ns;⟨o,e'⟩
 refine I.write (x:=a) (e:=dx) (by rw[e];exact True.intro) (.inr ho) (λb q hb z=>(sb.2 b hb).trans z) hd ?_
 refine⟨by rw[AS O.ne];exact ho,?_,O.ne,O'.obj,_,O'.ns,λg=> ?_,λg hg=> ?_⟩
 ·have:=OM f y fs;omega
 ·show RelO ((BM f y fs).lookup g) (if g=f then some u else mA g)
  rw[SU]
  by_cases q:g=f
  ·rw[if_pos q,if_pos q];exact ry
  ·rw[if_neg q,if_neg q];exact r g
 ·by_cases q:g=f
  ·rw[q];exact(OL f y fs).1
  ·refine(OL f y fs).2 g (wi g λz=>hg ?_)
   show(if g=f then some u else mA g)=none
   rw[if_neg q];exact z
theorem Inv.made(I:Inv X pins σ H s):Inv X pins σ (upd (upd H s.heap.objs.size (.own (s.heap.objs.size+1))) (s.heap.objs.size+1) (.ins C s.heap.objs.size []))
  { s with heap:=(s.heap.push W.emptyDict).push (W.instObj C s.heap.objs.size) }:=by
 have e1:(s.heap.push W.emptyDict).get? s.heap.objs.size=some W.emptyDict:=Heap.get?_push_size s.heap rfl
 have e2:((s.heap.push W.emptyDict).push (W.instObj C s.heap.objs.size)).get? (s.heap.objs.size+1)=some (W.instObj C s.heap.objs.size):=by
  have:=Heap.get?_push_size (s.heap.push W.emptyDict) (o:=W.instObj C s.heap.objs.size) rfl
  rwa [Heap.size_push]at this
 have e3:(s.heap.push W.emptyDict).Ns s.heap.objs.size (λ_=>none):=⟨W.emptyDict,#[],_,e1,rfl,(λe he=>absurd he (by simp)),λ_=>rfl⟩
 have I1:=I.laid (a:=s.heap.objs.size) (o:=.own (s.heap.objs.size+1)) (h':=s.heap.push W.emptyDict) (t':=s.toks) (λb u q=>Heap.get?_push_of_some _ q) (Nat.le_refl _) ⟨_,e1⟩
 refine I1.laid (a:=s.heap.objs.size+1) (o:=.ins C s.heap.objs.size []) (t':=s.toks) (λb u q=>Heap.get?_push_of_some _ q) (Nat.le_of_eq (Heap.size_push _ _)) ?_
 have ne:s.heap.objs.size≠s.heap.objs.size+1:=Nat.ne_of_lt (Nat.lt_succ_self _)
 refine⟨by rw[AS ne,AU],Nat.zero_le _,ne,e2,λ_=>none,(Heap.Ns1.of_empty e3).at λo q=>Heap.get?_push_of_some _ q,λ_=>True.intro,λy hy=>absurd rfl hy⟩
theorem fG{prog:Program}{w:World}{env:Env}{e:Expr}{f:Str}{pos:Pos}{s:Shared}{Q:Value->Shared->Prop}(hb:attributeBase e f env (eval e env)=eval e env)
  (h:wpAny (model prog w) A (eval e env) (λo s₁=>wpAny (model prog w) A (getAttr o f true) Q E s₁) E s):wpAny (model prog w) A (eval (.Attribute e f pos) env) Q E s :=
 Attribute_any_ h (by rw[arm_eval_Attribute,hb])
end
def BP(K:W.Frag)(ta:TE)(f:Str):TE:=λσ H Q=>ta σ H λx H1=>∃ a C dx fs v,x=.ref a/\H1 a=some (.ins C dx fs)/\Cls K C/\NoAttr K C f/\fs.lookup f=some v/\Q v H1
def DN(K:W.Frag)(ta tv:TE)(f:Str):TS:=λD σ H=>tv σ H λy H1=>ta σ H1 λx H2=>∃ a C dx fs,x=.ref a/\H2 a=some (.ins C dx fs)/\Cls K C/\NoAttr K C f/\fs.length<1000 ∧
 D.nx σ (upd H2 a (.ins C dx (BM f y fs)))
def ON(X:Cx)(op:Operator)(rd:V->V->Hp->VK->Prop):Prop :=
 ∀ (pins:List (Addr × Obj)) (s:Shared) (σ:St) (H:Hp) (x y:V) (u v:Value) (Q:VK),Inv X pins σ H s->RelV x u->RelV y v->rd x y H Q->wpAny (model X.prog X.w) X.A (inplaceOp op u v) (EP X pins σ Q) X.xe s
def OO(K:W.Frag)(ta tv:TE)(rd:V->V->Hp->VK->Prop)(f:Str):TS:=λD σ H=>ta σ H λx H1=>∃ a C dx fs v,x=.ref a/\H1 a=some (.ins C dx fs)/\Cls K C/\NoAttr K C f/\fs.lookup f=some v ∧
 tv σ H1 λy H2=>rd v y H2 λz H3=>∃ dx' fs',H3 a=some (.ins C dx' fs')/\fs'.length<1000/\D.nx σ (upd H3 a (.ins C dx' (BM f z fs')))
section
variable{X:Cx}{o e value:Expr}{f:Str}{pos pos' tpos:Pos}{ta tv:TE}
theorem BQ(he:PE X e ta)(hb:attributeBase e f X.env (eval e X.env)=eval e X.env):PE X (.Attribute e f pos) (BP X.K ta f):=by
 intro pins s σ H Q I h
 refine fG hb (AV (he pins s σ H _ I h) λu s1 ⟨x,H1,I1,rx,a,C,dx,fs,v,ex,ea,c,n,l,q⟩=> ?_)
 subst ex
 obtain rfl:u=Value.ref a:=rx
 exact SV I1 ea c n l λu' s2 I2 ru=>⟨v,H1,I2,ru,q⟩
theorem DZ(ha:PE X o ta)(hv:PE X value tv)(hs:swapsWith value (some (.Attribute o f pos')) pos.line X.env=pure false):PS X (.Assign [.Attribute o f pos'] value pos) (DN X.K ta tv f):=by
 intro pins s σ H D I h
 refine plainObj_wpAny_Assign_Attribute (AV (hv pins s σ H _ I h) λu s1 ⟨y,H1,I1,ry,q⟩=>AV (ha pins s1 σ H1 _ I1 q) λov s2 ⟨x,H2,I2,rx,a,C,dx,fs,ex,ea,c,n,l,q2⟩=> ?_) hs
 subst ex
 obtain rfl:ov=Value.ref a:=rx
 exact SX I2 ea c n l ry λs3 I3=>⟨σ,_,I3,q2⟩
theorem fH{op:Operator}{rd:V->V->Hp->VK->Prop}(ha:PE X o ta)(hv:PE X value tv)(hop:ON X op rd):PS X (.AugAssign (.Attribute o f tpos) op value pos) (OO X.K ta tv rd f):=by
 intro pins s σ H D I h
 refine wpAny_AugAssign_AttributeAny (AV (ha pins s σ H _ I h) λov s1 ⟨x,H1,I1,rx,a,C,dx,fs,v,ex,ea,c,n,l,q⟩=> ?_)
 subst ex
 obtain rfl:ov=Value.ref a:=rx
 refine SV I1 ea c n l λu s2 I2 ru=>AV (hv pins s2 σ H1 _ I2 q) λw3 s3 ⟨y,H2,I3,ry,q3⟩=>AV (hop pins s3 σ H2 v y u w3 _ I3 ru ry q3) λw4 s4 ⟨z,H3,I4,rz,dx',fs',ea',l',q4⟩=> ?_
 exact SX I4 ea' c n l' rz λs5 I5=>⟨σ,_,I5,q4⟩
def K7:V->V->Hp->VK->Prop:=λx y H Q=>∃ i j,x=.int i/\y=.int j/\Q (.int (i+j)) H
theorem SY:ON X .Add K7:=by
 rintro pins s σ H x y u v Q I rx ry ⟨i,j,rfl,rfl,q⟩
 obtain⟨t,rfl⟩:=(show ∃ t,u=Value.int i t from rx)
 obtain⟨t',rfl⟩:=(show ∃ t',v=Value.int j t' from ry)
 exact PyProof.Rows.iadd_int ⟨.int (i+j),H,I.tok _,⟨_,rfl⟩,q⟩
end
section
variable{X:Cx}{pins:List (Addr × Obj)}{σ:St}{H:Hp}{s:Shared}{A:Around}{E:Value->Shared->Prop}{Q:Value->Shared->Prop}{c:Value}{b:Bool}
inductive EN(K:W.Frag)(H:Hp):V->Value->Prop where
 | non:EN K H .non (.type "NoneType")
 | bl (x:Bool):EN K H (.bl x) (.type "bool")
 | int (i:Int):EN K H (.int i) (.type "int")
 | str (x:Str):EN K H (.str x) (.type "str")
 | flt (x:UInt64):EN K H (.flt x) (.type "float")
 | lst {a:Addr} {xs:List V} (e:H a=some (.lst xs)):EN K H (.ref a) (.type "list")
 | frz {a:Addr} {o:Obj} {xs:List V} (e:H a=some (.frz o (.lst xs))):EN K H (.ref a) (.type "list")
 | tup {a:Addr} {xs:List V} (e:H a=some (.tup xs)):EN K H (.ref a) (.type "tuple")
 | dK {a:Addr} {kvs:List (A0 × V)} (e:H a=some (.dK kvs)):EN K H (.ref a) (.type "dict")
 | dT {a:Addr} {kvs:List (List A0 × V)} (e:H a=some (.dT kvs)):EN K H (.ref a) (.type "dict")
 | ins {a C dx:Addr} {fs:List (Str × V)} (e:H a=some (.ins C dx fs)) (cl:Cls K C) (ha:W.findIn K (.ref C) "__class__"=some (some (.builtin "object.__class__")))
   (hn:W.specialIn K (.builtin "object.__class__") "__get__"=some (some (.builtin "getset_descriptor.__get__"))) (htk:W.takesIn K (.builtin "object.__class__")=some true)
   (hm:W.mroIn K C (.type "object")=some true):EN K H (.ref a) (.ref C)
end
end L2
namespace L2
structure Room(k:Nat)(A:Around):Prop where
 hd:A.handled=none
 dp:A.depth+3 * k+5<recursionLimit
 un:A.units+16 * k+200<cLine
theorem Room.mono{j k:Nat}{A:Around}(r:Room k A)(h:j<=k):Room j A:=⟨r.hd,by have:=r.dp;omega,by have:=r.un;omega⟩
theorem Room.deeper{k:Nat}{A:Around}(r:Room (k+1) A)(env:Env):Room k (A.deeper env) :=
 ⟨r.hd,by have:=r.dp;show A.depth+1+3 * k+5<_;omega,by have:=r.un;show A.units+3+16 * k+200<_;omega⟩
theorem Room.in1{k:Nat}{A:Around}(r:Room (k+1) A):Room k A.in1 :=
 ⟨r.hd,by have:=r.dp;show A.depth+3 * k+5<_;omega,by have:=r.un;show A.units+1+16 * k+200<_;omega⟩
theorem fI{A:Around}{C:Addr}{us:List Value}{kw:List (Str × Value)}:(A.under (.builtin "type.__call__" ⟨.ref C::us,kw⟩)).depth=A.depth+1:=by
 first | rfl | simp[Around.under,Code.weight,Code.isCreation,Code.isGuard,Code.isCaller,Code.frames,Code.isFrame,guardIds]
theorem fJ{A:Around}{C:Addr}{us:List Value}{kw:List (Str × Value)}:(A.under (.builtin "type.__call__" ⟨.ref C::us,kw⟩)).units=A.units+1:=by
 first | rfl | simp[Around.under,Code.cUnits,Code.frames,Code.isFrame]
theorem Room.make{k:Nat}{A:Around}(r:Room (k+1) A)(C:Addr)(us:List Value)(kw:List (Str × Value)):Room k (A.under (.builtin "type.__call__" ⟨.ref C::us,kw⟩)) :=
 ⟨r.hd,by have:=r.dp;rw[fI];omega,by have:=r.un;rw[fJ];omega⟩
theorem Room.depth{k:Nat}{A:Around}(r:Room k A):A.depth<recursionLimit:=by have:=r.dp;omega
theorem Room.units{k:Nat}{A:Around}(r:Room k A):A.units+64<cLine:=by have:=r.un;omega
def AG:TA:=λ_ H Q=>Q [] H
def AD(ta:TE)(tr:TA):TA:=λσ H Q=>ta σ H λx H1=>tr σ H1 λxs H2=>Q (x::xs) H2
section
variable{X:Cx}{e:Expr}{es:List Expr}{te:TE}{t:TA}{pos:Pos}
theorem AI:PA X [] AG:=λ_ _ _ _ H Q I h=>Calls.spliced_nil ⟨[],H,I,.nil,h⟩
theorem AE(ha:PE X e te)(hr:PA X es t)(hs:starEach (e::es) X.env=(false,eval e X.env)::starEach es X.env:=by rfl):PA X (e::es) (AD te t):=by
 intro pos pins s σ H Q I h
 rw[hs]
 show wpAny _ _ (spliced ((false,eval e X.env)::backTo pos (starEach es X.env))) _ _ s
 refine Calls.spliced_cons (AV (ha pins s σ H _ I h) λu s1 ⟨x,H1,I1,r1,q1⟩=> ?_)
 exact AV (hr pos pins s1 σ H1 _ I1 q1) λus s2 ⟨xs,H2,I2,r2,q2⟩=>⟨x::xs,H2,I2,.cons r1 r2,q2⟩
def B2(t:TA):TE:=λσ H Q=>t σ H λxs H1=>xs.length<=sizeLine/\∀ p,H1 p=none->Q (.ref p) (upd H1 p (.tup xs))
def C6(t:TA):TE:=λσ H Q=>t σ H λxs H1=>xs.length<=sizeLine/\∀ p,H1 p=none->Q (.ref p) (upd H1 p (.lst xs))
theorem B6{x1}(h:PA X es t):PE X (.Tuple es x1 pos) (B2 t):=by
 intro pins s σ H Q I hq
 refine wpAny_Tuple_spliced (AV (h pos pins s σ H _ I hq) λus s1 ⟨xs,H1,I1,r,z,q⟩=>⟨by rw[<-r.length];exact z,?_⟩)
 have hf:H1 s1.heap.objs.size=none:=I1.hok.fresh (Nat.le_refl _)
 refine⟨.ref s1.heap.objs.size,upd H1 s1.heap.objs.size (.tup xs),I1.laid (t':=s1.toks) (λb u e=>Heap.get?_push_of_some _ e) (Nat.le_refl _) ?_,rfl,q _ hf⟩
 exact⟨z,us,r,⟨_,Heap.get?_push_size _ rfl,rfl,_,rfl⟩⟩
theorem DH(h:PA X es t):PE X (.List es pos) (C6 t):=by
 intro pins s σ H Q I hq
 refine wpAny_List_spliced (AV (h pos pins s σ H _ I hq) λus s1 ⟨xs,H1,I1,r,z,q⟩=>⟨by rw[<-r.length];exact z,?_⟩)
 have hf:H1 s1.heap.objs.size=none:=I1.hok.fresh (Nat.le_refl _)
 refine⟨.ref s1.heap.objs.size,upd H1 s1.heap.objs.size (.lst xs),I1.laid (t':=s1.toks) (λb u e=>Heap.get?_push_of_some _ e) (Nat.le_refl _) ?_,rfl,q _ hf⟩
 exact⟨z,us,0,r,Heap.get?_push_size _ rfl⟩
end
abbrev Sp:=List V->Hp->VK->XK->Prop
abbrev D9:=List Env->Hp->Shared->XK->Value->Shared->Prop
structure Env0(P:Program)(w:World)(K:W.Frag)(mg:Str->Option Value)(base:Heap)(A:Around)(outer:List Env)(s:Shared)(H:Hp):Prop where
 frames:A.frames=some outer
 mod:Mod K mg base
 bs:∀ b o,base.get? b=some o->s.heap.get? b=some o/\H b=none
 bsz:base.objs.size<=s.heap.objs.size
 funs:s.heap.FunFrames base outer
 frf:∀ b∈C5 outer,H b=none
 hok:HOk P w H s.heap
 bare:AllBare s.gens
def CE(outer:List Env)(P:Program)(w:World)(H:Hp)(s:Shared)(Q:VK)(u:Value)(s':Shared):Prop :=
 ∃ v H',s'.os=s.os/\AllBare s'.gens/\Un (C5 outer) [] H H' s.heap s'.heap/\HOk P w H' s'.heap/\RelV v u/\Q v H'
def CR(CX:D9)(outer:List Env)(P:Program)(w:World)(H:Hp)(s:Shared)(Q:VK)(E:XK)(r:Result)(s':Shared):Prop :=
 match r with
 | .ok (.ret u)=>CE outer P w H s Q u s'
 | .ok _=>False
 | .error e=>CX outer H s E e s'
structure FnOk(P:Program)(w:World)(K:W.Frag)(mg:Str->Option Value)(base:Heap)(CX:D9)(k:Nat)(f:Addr)(fd:FuncData)(ps:List Str)(sp:Sp):Prop where
 len:∀ vs H Q E,sp vs H Q E->vs.length=ps.length
 run:∀ (A:Around) (outer:List Env) (s:Shared) (H:Hp) (args:Args) (us:List Value) (vs:List V) (Q:VK) (E:XK),Room k A->Env0 P w K mg base A outer s H->BindsTo s fd args (ps.zip us)->Vals vs us->sp vs H Q E →
  codeAny (model P w) A (.call (.ref f) args) (CR CX outer P w H s Q E) s
theorem FnOk.mono{P:Program}{w:World}{K:W.Frag}{mg:Str->Option Value}{base:Heap}{CX:D9}{j k:Nat}{f:Addr}{fd:FuncData}{ps:List Str}{sp:Sp}(F:FnOk P w K mg base CX j f fd ps sp)(h:j<=k) :
  FnOk P w K mg base CX k f fd ps sp:=⟨F.len,λA outer s H args us vs Q E hr=>F.run A outer s H args us vs Q E (hr.mono h)⟩
theorem FnOk.imp{P:Program}{w:World}{K:W.Frag}{mg:Str->Option Value}{base:Heap}{CX:D9}{k:Nat}{f:Addr}{fd:FuncData}{ps:List Str}{sp sp':Sp}(F:FnOk P w K mg base CX k f fd ps sp)
  (h:∀ vs H Q E,sp' vs H Q E->sp vs H Q E):FnOk P w K mg base CX k f fd ps sp' :=
 ⟨λvs H Q E q=>F.len vs H Q E (h _ _ _ _ q),λA outer s H args us vs Q E hr he hb hv hs=>F.run A outer s H args us vs Q E hr he hb hv (h _ _ _ _ hs)⟩
theorem Env0.make{P:Program}{w:World}{K:W.Frag}{mg:Str->Option Value}{base:Heap}{A:Around}{outer:List Env}{s:Shared}{H:Hp}(e:Env0 P w K mg base A outer s H)(C:Addr)(us:List Value)(kw:List (Str × Value)) :
  Env0 P w K mg base (A.under (.builtin "type.__call__" ⟨.ref C::us,kw⟩)) outer s H:=⟨by first | exact e.frames | (simpa [Around.under,Code.envs,Code.isFrame,pushEnvs]using e.frames),e.mod,e.bs,e.bsz,e.funs,e.frf,e.hok,e.bare⟩
theorem Env0.in1{P:Program}{w:World}{K:W.Frag}{mg:Str->Option Value}{base:Heap}{A:Around}{outer:List Env}{s:Shared}{H:Hp}(e:Env0 P w K mg base A outer s H) :
  Env0 P w K mg base A.in1 outer s H:=⟨e.frames,e.mod,e.bs,e.bsz,e.funs,e.frf,e.hok,e.bare⟩
section
variable{X:Cx}{pins:List (Addr × Obj)}{σ:St}{H:Hp}{s s':Shared}
theorem Inv.env0(I:Inv X pins σ H s):Env0 X.prog X.w X.K X.mg X.base X.A X.stack s H :=
 ⟨I.ok.frames,I.ok.mod,I.bs,Nat.le_trans I.ok.bsz I.sz,I.stack,I.stkFree,I.hok,I.bare⟩
theorem Inv.after{Q:VK}{u:Value}(I:Inv X pins σ H s)(h:CE X.stack X.prog X.w H s Q u s'):EP X pins σ Q u s':=by
 obtain⟨v,H',os,bare,un,hok,r,q⟩:=h
 obtain⟨hh,g,d,t,os'⟩:=s'
 obtain rfl:os'=s.os:=os
 exact⟨v,H',I.call (h':=hh) (g':=g) (d':=d) (t':=t) (ch:=[]) un hok bare (λb z=>absurd z (by simp)),r,q⟩
end
def BR(sp:Sp)(dvs:List V)(E:St->XK)(t:TA):TE:=λσ H Q=>t σ H λvs H1=>sp (vs++dvs) H1 Q (E σ)
def BX(C:Addr)(m:Str)(sp:Sp)(dvs:List V)(E:St->XK)(ta:TE)(t:TA):TE:=λσ H Q=>ta σ H λx H1=>∃ a dx fs,x=.ref a/\H1 a=some (.ins C dx fs)/\fs.lookup m=none ∧
 t σ H1 λvs H2=>sp (x::(vs++dvs)) H2 Q (E σ)
def HI(C:Addr)(sp:Sp)(dvs:List V)(E:St->XK)(t:TA):TE:=λσ H Q=>t σ H λvs H1=>∀ x dx,H1 x=none->H1 dx=none->dx≠x →
 sp (.ref x::(vs++dvs)) (upd (upd H1 dx (.own x)) x (.ins C dx [])) (λv H2=>v=.non/\Q (.ref x) H2) (E σ)
def Binds(K:W.Frag)(fd:FuncData)(ps:List Str)(ds:List Value):Prop :=
 ∀ (s:Shared) (us:List Value),K.In s.heap->(us++ds).length=ps.length->BindsTo s fd ⟨us,[]⟩ (ps.zip (us++ds))
theorem Binds.all{K:W.Frag}{fd:FuncData}{ps:List Str}(h:∀ us:List Value,us.length=ps.length->bindArgs fd ⟨us,[]⟩=pure (ps.zip us)):Binds K fd ps []:=λs us _ hl=>by
 rw[List.append_nil]at hl ⊢
 exact .of_eq (h us hl)
def EO(CX:D9)(X:Cx)(E:St->XK):Prop:=∀ (pins:List (Addr × Obj)) (σ:St) (H:Hp) (s:Shared) (e:Value) (s':Shared),Inv X pins σ H s->CX X.stack H s (E σ) e s'->X.xe e s'
section
variable{X:Cx}{CX:D9}{k:Nat}{f C:Addr}{fd:FuncData}{ps:List Str}{sp:Sp}{dvs:List V}{ds:List Value}{E:St->XK}{x m:Str}{p pos apos:Pos}{e o:Expr}{es:List Expr}{ta:TE}{t:TA}
theorem OP{pins:List (Addr × Obj)}{σ:St}{H:Hp}{s:Shared}{Q:VK}{us:List Value}{vs:List V}(F:FnOk X.prog X.w X.K X.mg X.base CX k f fd ps sp)(hr:Room k X.A)(hb:Binds X.K fd ps ds)(hd:Vals dvs ds)(hx:EO CX X E)
  (I:Inv X pins σ H s) (r:Vals vs us) (h:sp (vs++dvs) H Q (E σ)):wpAny (model X.prog X.w) X.A (call (.ref f) us) (EP X pins σ Q) X.xe s:=by
 have r2:Vals (vs++dvs) (us++ds):=r.append hd
 have hl:(us++ds).length=ps.length:=by rw[<-r2.length];exact F.len _ _ _ _ h
 refine wpAny_call (codeAny_mono (F.run X.A X.stack s H ⟨us,[]⟩ (us++ds) (vs++dvs) Q (E σ) hr I.env0 (hb s us I.kIn hl) r2 h) λr s' hq=> ?_)
 cases r with
 | error e=>exact hx pins σ H s e s' I hq
 | ok fl =>
  cases fl with
  | ret u=>exact I.after hq
  | next=>exact False.elim hq
  | brk=>exact False.elim hq
  | cont=>exact False.elim hq
theorem fK(F:FnOk X.prog X.w X.K X.mg X.base CX k f fd ps sp)(hr:Room k X.A)(hg:Gl X x)(hm:X.mg x=some (.ref f))(hk:W.keepIn X.K (.ref f)=true)(hb:Binds X.K fd ps ds)(hd:Vals dvs ds)(hx:EO CX X E)
  (ha:PA X (e::es) t) (hdb:(x ==("__debug__":Str))=false:=by decide) (he:starEach (e::es) X.env=(false,eval e X.env)::starEach es X.env:=by rfl) (hpl:(backTo pos (starEach es X.env)).any (·.1)=false:=by rfl) :
  PE X (.Call (.Name x p) (e::es) [] pos) (BR sp dvs E t):=by
 intro pins s σ H Q I h
 refine wpAny_Call_Name_kw (OC I hg hm ?_ hdb)
 refine W.callWith_K (h₀:=X.base) I.ok.mod.kin hk (AV (ha pos pins s σ H _ I h) λus s1 ⟨vs,H1,I1,r,q⟩=>⟨I1.kIn,?_⟩) he hpl
 exact OP F hr hb hd hx I1 r q
theorem fL{pl:Sem Bool}(he:PE X o ta)(c:Cls X.K C)(hm:NJ X.K C m f)(F:FnOk X.prog X.w X.K X.mg X.base CX k f fd ps sp)(hr:Room k X.A)(hb:Binds X.K fd ps ds)(hd:Vals dvs ds)(hx:EO CX X E)(ha:PA X (e::es) t)
  (hst:starEach (e::es) X.env=(false,eval e X.env)::starEach es X.env:=by rfl) (hpl:(backTo pos (starEach es X.env)).any (·.1)=false:=by rfl)
  (ht:eval (.Call (.Attribute o m apos) (e::es) [] pos) X.env=(do
   let ov ← eval o X.env
   standAt apos.atName
   let (f,first) ← holding [ov] (getMethod ov m pl)
   callWith pos f first (backTo pos (starEach (e::es) X.env)) (backToKw pos (keywordEach [] X.env))):=by rfl) :
  PE X (.Call (.Attribute o m apos) (e::es) [] pos) (BX C m sp dvs E ta t):=by
 intro pins s σ H Q I h
 refine W.methodCall_KW (pl:=pl) (AV (he pins s σ H _ I h) λu s1 ⟨x,H1,I1,rx,a,dx,fs,ex,ea,l,q⟩=> ?_) ht
 subst ex
 obtain rfl:u=Value.ref a:=rx
 refine SW I1 ea c hm l ?_
 refine W.callWith_K (first:=[.ref a]) (h₀:=X.base) I.ok.mod.kin hm.kp (AV (ha pos pins s1 σ H1 _ I1 q) λus s2 ⟨vs,H2,I2,r,q2⟩=>⟨I2.kIn,?_⟩) hst hpl
 exact OP (us:=.ref a::us) (vs:=.ref a::vs) F hr hb hd hx I2 (.cons rfl r) q2
theorem fM{pl:Sem Bool}(he:PE X o ta)(c:Cls X.K C)(hm:NJ X.K C m f)(F:FnOk X.prog X.w X.K X.mg X.base CX k f fd ps sp)(hr:Room k X.A)(hb:Binds X.K fd ps ds)(hd:Vals dvs ds)(hx:EO CX X E)
  (ht:eval (.Call (.Attribute o m apos) [] [] pos) X.env=(do
   let ov ← eval o X.env
   standAt apos.atName
   let (f,first) ← holding [ov] (getMethod ov m pl)
   callWith pos f first (backTo pos (starEach [] X.env)) (backToKw pos (keywordEach [] X.env))):=by rfl) :
  PE X (.Call (.Attribute o m apos) [] [] pos) (BX C m sp dvs E ta AG):=by
 intro pins s σ H Q I h
 refine W.methodCall_KW (pl:=pl) (AV (he pins s σ H _ I h) λu s1 ⟨x,H1,I1,rx,a,dx,fs,ex,ea,l,q⟩=> ?_) ht
 subst ex
 obtain rfl:u=Value.ref a:=rx
 refine SW I1 ea c hm l ?_
 exact W.callWith_K0 (first:=[.ref a]) I1.kIn hm.kp (OP (us:=[.ref a]) (vs:=[.ref a]) F hr hb hd hx I1 (.cons rfl .nil) q)
structure Mk(K:W.Frag)(C f:Addr):Prop where
 makes:W.makesIn K C=true
 init:W.findIn K (.ref C) "__init__"=some (some (.ref f))
 fn:W.isFn K (.ref f)=true
 kp:W.keepIn K (.ref C)=true
theorem fN{pins:List (Addr × Obj)}{σ:St}{H:Hp}{s:Shared}{Q:VK}{us:List Value}{vs:List V}(M:Mk X.K C f)(F:FnOk X.prog X.w X.K X.mg X.base CX k f fd ps sp)(hr:Room (k+1) X.A)(hb:Binds X.K fd ps ds)(hd:Vals dvs ds)
  (hx:EO CX X E) (I:Inv X pins σ H s) (r:Vals vs us)
  (h:∀ x dx,H x=none->H dx=none->dx≠x->sp (.ref x::(vs++dvs)) (upd (upd H dx (.own x)) x (.ins C dx [])) (λv H2=>v=.non/\Q (.ref x) H2) (E σ)) :
  wpAny (model X.prog X.w) X.A (call (.ref C) us) (EP X pins σ Q) X.xe s:=by
 have hq:=h (s.heap.objs.size+1) s.heap.objs.size (I.hok.fresh (Nat.le_succ _)) (I.hok.fresh (Nat.le_refl _)) (Nat.ne_of_lt (Nat.lt_succ_self _))
 have I2:=Inv.made (C:=C) I
 have r2:Vals (V.ref (s.heap.objs.size+1)::(vs++dvs)) (Value.ref (s.heap.objs.size+1)::(us++ds)):=.cons rfl (r.append hd)
 have hl:(Value.ref (s.heap.objs.size+1)::us++ds).length=ps.length:=by
  have e:=r2.length
  rw[F.len _ _ _ _ hq]at e
  exact e.symm
 refine wpAny_call (fE (f:=f) I.kIn M.makes M.init (beq_iff_eq.mp M.fn) (codeAny_mono (F.run _ X.stack _ _ ⟨Value.ref (s.heap.objs.size+1)::us,[]⟩ (Value.ref (s.heap.objs.size+1)::(us++ds)) _ _ (E σ) (hr.make C us [])
  (I2.env0.make C us []) (hb _ (Value.ref (s.heap.objs.size+1)::us) I2.kIn hl) r2 hq) λr s' hq'=> ?_))
 cases r with
 | error e=>exact hx pins σ _ _ e s' I2 hq'
 | ok fl =>
  cases fl with
  | ret u =>
   obtain⟨v,H',I3,rv,ev,q3⟩:=I2.after hq'
   subst ev
   exact⟨rv,⟨V.ref (s.heap.objs.size+1),H',I3,rfl,q3⟩⟩
  | next=>exact False.elim hq'
  | brk=>exact False.elim hq'
  | cont=>exact False.elim hq'
theorem fO(M:Mk X.K C f)(F:FnOk X.prog X.w X.K X.mg X.base CX k f fd ps sp)(hr:Room (k+1) X.A)(hg:Gl X x)(hm:X.mg x=some (.ref C))(hb:Binds X.K fd ps ds)(hd:Vals dvs ds)(hx:EO CX X E)
  (ha:PA X (e::es) t) (hdb:(x ==("__debug__":Str))=false:=by decide) (he:starEach (e::es) X.env=(false,eval e X.env)::starEach es X.env:=by rfl) (hpl:(backTo pos (starEach es X.env)).any (·.1)=false:=by rfl) :
  PE X (.Call (.Name x p) (e::es) [] pos) (HI C sp dvs E t):=by
 intro pins s σ H Q I h
 refine wpAny_Call_Name_kw (OC I hg hm ?_ hdb)
 refine W.callWith_K (h₀:=X.base) I.ok.mod.kin M.kp (AV (ha pos pins s σ H _ I h) λus s1 ⟨vs,H1,I1,r,q⟩=>⟨I1.kIn,?_⟩) he hpl
 exact fN M F hr hb hd hx I1 r q
end
section
variable{X:Cx}{CX:D9}{k:Nat}{f C:Addr}{fd:FuncData}{ps ks:List Str}{sp:Sp}{E:St->XK}{x m:Str}{p pos apos kpos:Pos}{e o:Expr}{es:List Expr}{kws:List Keyword}{te ta:TE}{t tk:TA}{nm:Option Str}
structure Hc(K:W.Frag)(fd:FuncData)(ps ks:List Str)(g:List Value->List Value->List Value)(gV:List V->List V->List V):Prop where
 to:∀ (s:Shared) (us ws:List Value),K.In s.heap->(g us ws).length=ps.length->BindsTo s fd ⟨us,ks.zip ws⟩ (ps.zip (g us ws))
 rel:∀ {vs:List V} {us:List Value} {zs:List V} {ws:List Value},Vals vs us->Vals zs ws->Vals (gV vs zs) (g us ws)
variable{g:List Value->List Value->List Value}{gV:List V->List V->List V}
end
structure FnScope(N P:List Str)(sc:Scope):Prop where
 kind:sc.kind=.function
 co:sc.isCoroutine=false
 gen:sc.isGenerator=false
 nd:N.Nodup
 pre:N.take P.length=P
 par:∀ x∈P,sc.names.lookup x=some .local\/sc.names.lookup x=some .cell
 nofree:∀ y∈sc.names,y.2≠.free
theorem SZ{kindOf:Str->Option NameKind}{x:Str}:∀ {binds:List (Str × Value)} {m:Str->Option Value},(∀ v,(x,v)∉binds)->bindL kindOf binds m x=m x
 | [],_,_=>rfl
 | (n,v)::r,m,h=>by
  unfold bindL
  rw[SZ λw hw=>h w (List.mem_cons_of_mem _ hw)]
  split
  ·have:x≠n:=by rintro rfl;exact h v List.mem_cons_self
   simp[this]
  ·rfl
theorem S0{kindOf:Str->Option NameKind}{x:Str}:∀ {binds:List (Str × Value)} {m:Str->Option Value},(∀ v,(x,v)∉binds)->bindC kindOf binds m x=m x
 | [],_,_=>rfl
 | (n,v)::r,m,h=>by
  unfold bindC
  rw[S0 λw hw=>h w (List.mem_cons_of_mem _ hw)]
  split
  ·rfl
  ·have:x≠n:=by rintro rfl;exact h v List.mem_cons_self
   simp[this]
theorem S1{kindOf:Str->Option NameKind}{x:Str}{v:Value}:∀ {P:List Str} {vs:List Value} {i:Nat} {m:Str->Option Value},P.Nodup->P[i]? =some x->vs[i]? =some v->kindOf x=some .local →
  bindL kindOf (P.zip vs) m x=some v
 | [],_,_,_,_,h,_,_=>by simp at h
 | _::_,[],_,_,_,_,h,_=>by simp at h
 | p::P,w::vs,0,m,nd,h1,h2,hk=>by
  simp at h1 h2;subst h1;subst h2
  show bindL kindOf ((p,w)::P.zip vs) m p=_
  unfold bindL
  rw[SZ λv hv=>(List.nodup_cons.mp nd).1 (List.of_mem_zip hv).1,if_pos hk]
  simp
 | p::P,w::vs,i+1,m,nd,h1,h2,hk=>by
  show bindL kindOf ((p,w)::P.zip vs) m x=_
  unfold bindL
  exact S1 (i:=i) (List.nodup_cons.mp nd).2 (by simpa using h1) (by simpa using h2) hk
theorem S2{kindOf:Str->Option NameKind}{x:Str}{v:Value}:∀ {P:List Str} {vs:List Value} {i:Nat} {m:Str->Option Value},P.Nodup->P[i]? =some x->vs[i]? =some v->kindOf x≠some .local →
  bindC kindOf (P.zip vs) m x=some v
 | [],_,_,_,_,h,_,_=>by simp at h
 | _::_,[],_,_,_,_,h,_=>by simp at h
 | p::P,w::vs,0,m,nd,h1,h2,hk=>by
  simp at h1 h2;subst h1;subst h2
  show bindC kindOf ((p,w)::P.zip vs) m p=_
  unfold bindC
  rw[S0 λv hv=>(List.nodup_cons.mp nd).1 (List.of_mem_zip hv).1,if_neg hk]
  simp
 | p::P,w::vs,i+1,m,nd,h1,h2,hk=>by
  show bindC kindOf ((p,w)::P.zip vs) m x=_
  unfold bindC
  exact S2 (i:=i) (List.nodup_cons.mp nd).2 (by simpa using h1) (by simpa using h2) hk
def A7(N:List Str)(vs:List V):St:=vs.map some++List.replicate (N.length - vs.length) none
def FH(CX:D9)(P:Program)(w:World)(K:W.Frag)(mg:Str->Option Value)(base:Heap)(N:List Str)(qual:Str)(scope:Scope)(f:Addr)(cd:Value)(A:Around)(outer:List Env)(s:Shared)(H:Hp)(E:XK):Cx where
 prog:=P
 w:=w
 K:=K
 mg:=mg
 base:=base
 A:=A.deeper (envOfC qual scope s.heap.objs.size f cd)
 N:=N
 s₀:=s
 H₀:=H
 env:=envOfC qual scope s.heap.objs.size f cd
 outer:=outer
 stack:=envOfC qual scope s.heap.objs.size f cd::outer
 ex:=[]
 calm:=true
 fn:=λ_=>true
 pn:=[]
 xe:=λe s'=>wpAny (model P w) (A.deeper (envOfC qual scope s.heap.objs.size f cd)) (leaving (envOfC qual scope s.heap.objs.size f cd) e) (λ_ s''=>CX outer H s E e s'') (λe' s''=>CX outer H s E e' s'') s'
theorem S3{sc:Scope}{n:Nat}{x:Str}(h:sc.names.lookup x=some .cell):∃ c,(cellsFrom n sc.names []).lookup x=some c:=by
 have q:=W.cellsFrom_some sc.names n [] (.inl h)
 exact Option.isSome_iff_exists.mp q
theorem fP{CX:D9}{P:Program}{w:World}{K:W.Frag}{mg:Str->Option Value}{base:Heap}{N ps:List Str}{qual:Str}{scope:Scope}{f:Addr}{cd:Value}{A:Around}{outer:List Env}{s s1:Shared}{H:Hp}{E:XK}{us:List Value}{vs:List V}
  (S:FnScope N ps scope) (hd:A.handled=none) (e0:Env0 P w K mg base A outer s H) (hl:vs.length=ps.length) (r:Vals vs us)
  (x:InCallC s s.heap.objs.size (bindL (envOfC qual scope s.heap.objs.size f cd).kindOf (ps.zip us) λ_=>none) (cellsFrom (s.heap.objs.size+1) scope.names []) (bindC (envOfC qual scope s.heap.objs.size f cd).kindOf (ps.zip us) λ_=>none) s1) :
  Inv (FH CX P w K mg base N qual scope f cd A outer s H E) [] (A7 N vs) H s1:=by
 have hpl:ps.length<=N.length:=by have:=congrArg List.length S.pre;rw[List.length_take]at this;omega
 obtain⟨h1,tk,rfl,hk⟩:=x.done
 have noA:∀ b:Addr,b∉(FH CX P w K mg base N qual scope f cd A outer s H E).ex:=λb z=>absurd (show b∈([]:List Addr)from z) (by simp)
 refine⟨⟨e0.mod,S.kind,rfl,rfl,Nat.le_refl _,λy z c h1 h2=> ?_,λy hy=> ?_,λy c _ h=> ?_,λ_=>hd,Around.frames_deeper e0.frames,.inr ⟨rfl,rfl⟩,λb z=>absurd z (noA b),e0.bs,e0.bsz,λb _ _=>noA b,λb z=>absurd z (noA b),e0.funs,e0.frf⟩,
  rfl,e0.bare,Un.kept hk,⟨_,x.toInCall.ns,λi y v h1 h2 h3=> ?_⟩,λy c h=>⟨_,x.cell y c h⟩,e0.hok.fresh (Nat.le_refl _),λy c h=> ?_,λp hp=>absurd (show p∈([]:List (Addr × Obj))from hp) (by simp),e0.hok.kept hk,?_⟩
 ·exact name_of_addr x.apart (PySem.mem_of_lookup h1) (PySem.mem_of_lookup h2)
 ·have hy:scope.names.lookup y=some .cell\/scope.names.lookup y=some .free:=hy
  rcases hy with hy | hy
  ·exact S3 hy
  ·exact absurd rfl (S.nofree _ (PySem.mem_of_lookup hy))
 ·exact Nat.le_of_lt (x.above y c (PySem.mem_of_lookup h))
 ·have hi:i<vs.length:=by
   unfold A7 at h2
   by_cases hi:i<vs.length
   ·exact hi
   ·rw[List.getElem?_append_right (by simpa using hi)]at h2
    rw[List.getElem?_replicate]at h2
    split at h2<;>cases h2
  have ha:vs[i]? =some v:=by
   unfold A7 at h2
   rw[List.getElem?_append_left (by simpa using hi),List.getElem?_map]at h2
   cases e:vs[i]? with
   | none=>rw[e]at h2;cases h2
   | some a=>rw[e]at h2;cases h2;rfl
  obtain⟨u,hu,rv⟩:=r.get ha
  have hp:ps[i]? =some y:=by
   rw[<-S.pre,List.getElem?_take_of_lt (by omega)];exact h1
  have ndP:ps.Nodup:=by rw[<-S.pre];exact S.nd.sublist (List.take_sublist _ _)
  refine⟨u,rv,?_⟩
  rcases S.par y (List.mem_of_getElem? hp)with k | k
  ·exact .inl ⟨k,S1 ndP hp hu k⟩
  ·obtain⟨c,e⟩:=S3 (n:=s.heap.objs.size+1) k
   refine .inr ⟨.inl k,c,e,?_⟩
   have q:=x.cell y c e
   rw[S2 ndP hp hu (by show scope.names.lookup y≠_;rw[k];decide)]at q
   exact q
 ·exact e0.hok.fresh (Nat.le_of_lt (x.above y c (PySem.mem_of_lookup h)))
 ·unfold A7
  show _=N.length
  rw[List.length_append,List.length_map,List.length_replicate]
  omega
theorem S4{CX:D9}{P:Program}{w:World}{K:W.Frag}{mg:Str->Option Value}{base:Heap}{k:Nat}{f:Addr}{name qual:Str}{params:Arguments}{body:List Stmt}{scope:Scope}{dV kV doc pm cdv ct oc:Value}{an od:Option Addr}
  {osl:Array (Option Value)} {N ps:List Str} {sp:Sp} (lk:K.lookup f=some ⟨oc,od,.func (W.fnOf name qual params body scope dV kV doc pm an cdv ct),osl⟩) (hcd:W.codeIn K cdv qual=true) (S:FnScope N ps scope)
  (len:∀ vs H Q E,sp vs H Q E->vs.length=ps.length)
  (hbody:∀ (A:Around) (outer:List Env) (s:Shared) (H:Hp) (vs:List V) (Q:VK) (E:XK),Room k (A.deeper (envOfC qual scope s.heap.objs.size f cdv))->sp vs H Q E →
   ∃ t,PSs (FH CX P w K mg base N qual scope f cdv A outer s H E) body t/\t { nx:=λ_ H'=>Q .non H',rt:=Q } (A7 N vs) H) :
  FnOk P w K mg base CX (k+1) f (W.fnOf name qual params body scope dV kV doc pm an cdv ct) ps sp:=by
 refine⟨len,λA outer s H args us vs Q E hr e0 hb r hsp=> ?_⟩
 have hl:=len _ _ _ _ hsp
 have KX:K.In s.heap:=e0.mod.kin.keeps λb o e=>(e0.bs b o e).1
 have lim:s.heap.NoLimit:=e0.mod.nolimit.keeps λb o e=>(e0.bs b o e).1
 have hkind:∀ y∈ps.zip us,scope.names.lookup y.1=some .local\/(scope.names.lookup y.1=some .cell/\((cellsFrom (s.heap.objs.size+1) scope.names []).lookup y.1).isSome=true):=λ⟨n,v⟩ hy=>by
  rcases S.par n (List.of_mem_zip hy).1 with q | q
  ·exact .inl q
  ·exact .inr ⟨q,W.cellsFrom_some _ _ _ (.inl q)⟩
 refine codeAny_call_function hr.depth (KX _ _ lk) rfl S.co S.gen rfl (W.codeRec_of KX hcd) (hb _ _ _ _ ?_)
 refine wpAny_newFunctionEnv_cells S.kind hkind λenv he s1 x=> ?_
 subst he
 refine⟨lim.keeps x.toInCall.keep,codeAny_func ?_⟩
 obtain⟨t,ht,hq⟩:=hbody A outer s H vs Q E (hr.deeper _) hsp
 have I:Inv (FH CX P w K mg base N qual scope f cdv A outer s H E) [] (A7 N vs) H s1:=fP S hr.hd e0 hl r x
 refine wpAny_mono (ht [] s1 (A7 N vs) H _ I hq) (λfl s' hs=> ?_) λe s' hs=>hs
 have fin:∀ {σ':St} {H':Hp} {v:V} {u:Value},Inv (FH CX P w K mg base N qual scope f cdv A outer s H E) [] σ' H' s'->RelV v u->Q v H'->CE outer P w H s Q u s' :=
  λ{σ' H' v u} J rv q=>⟨v,H',J.os,J.bare,J.base,J.hok,rv,q⟩
 cases fl with
 | ret u =>
  obtain⟨v,σ',H',J,rv,q⟩:=hs
  exact fin J rv q
 | next =>
  obtain⟨σ',H',J,q⟩:=hs
  exact fin (v:=V.non) (u:=Value.none) J rfl q
 | brk =>
  obtain⟨_,_,_,q⟩:=hs
  exact False.elim q
 | cont =>
  obtain⟨_,_,_,q⟩:=hs
  exact False.elim q
end L2
namespace L2
section
variable{X:Cx}{x:Str}{p pos:Pos}{e:Expr}{es:List Expr}{t:TA}{id T:String}{r:List V->Hp->VK->Prop}
def BW(r:List V->Hp->VK->Prop)(t:TA):TE:=λσ H Q=>t σ H λvs H1=>r vs H1 Q
theorem CG(hc:CallR X (.builtin id) r)(hg:Gl X x)(hm:X.mg x=none)(hv:bootBuiltins x=some (.builtin id))(ha:PA X (e::es) t)(hn:x≠"__name__":=by decide)(hdb:(x ==("__debug__":Str))=false:=by decide)
  (he:starEach (e::es) X.env=(false,eval e X.env)::starEach es X.env:=by rfl) (hpl:(backTo pos (starEach es X.env)).any (·.1)=false:=by rfl):PE X (.Call (.Name x p) (e::es) [] pos) (BW r t):=by
 intro pins s σ H Q I h
 refine wpAny_Call_Name_kw (IX I hg hm hv ?_ hn hdb)
 exact PyProof.Rows.callWith_builtin1 (AV (ha pos pins s σ H _ I h) λus s1 ⟨vs,H1,I1,r1,q1⟩=>hc pins s1 σ H1 vs us Q I1 r1 q1) he hpl
theorem JC(hc:CallR X (.type T) r)(hg:Gl X x)(hm:X.mg x=none)(hv:bootBuiltins x=some (.type T))(ha:PA X (e::es) t)(hn:x≠"__name__":=by decide)(hdb:(x ==("__debug__":Str))=false:=by decide)
  (he:starEach (e::es) X.env=(false,eval e X.env)::starEach es X.env:=by rfl) (hpl:(backTo pos (starEach es X.env)).any (·.1)=false:=by rfl):PE X (.Call (.Name x p) (e::es) [] pos) (BW r t):=by
 intro pins s σ H Q I h
 refine wpAny_Call_Name_kw (IX I hg hm hv ?_ hn hdb)
 exact PyProof.Rows.callWith_type1 (AV (ha pos pins s σ H _ I h) λus s1 ⟨vs,H1,I1,r1,q1⟩=>hc pins s1 σ H1 vs us Q I1 r1 q1) he hpl
end
end L2
namespace HT
open PySem PyProof.Rows
section
open PySem.SeqAt
open PySem.AutoSeq1 (wpAny_loadPart')
open PySem.MeetsSeq PySem.MeetsSeq2 PySem.MeetsSeq3
end
section
variable{prog:Program}{w:World}{A:Around}{E:Value->Shared->Prop}{s:Shared}
theorem cat_tup{t b:Addr}{vs ws:List Value}{Q:Value->Shared->Prop}(ht:IsTup s.heap t vs.toArray)(hb:IsTup s.heap b ws.toArray)(hv:vs≠[])
  (h1:ws=[]->Q (.ref t) s) (h2:ws≠[]->Q (.ref s.heap.objs.size) { s with heap:=s.heap.push { cls:=.type "tuple",data:=.seq (vs++ws).toArray } })
  (hsz:vs.length+ws.length<=sizeLine):wpAny (model prog w) A (binaryOp .Add (.ref t) (.ref b)) Q E s:=by
 obtain⟨⟨cls,dd,data,sl⟩,ho,hc,n,hd⟩:=id ht
 obtain⟨⟨cls2,dd2,data2,sl2⟩,ho2,hc2,n2,hd2⟩:=id hb
 simp only at hc hd hc2 hd2
 subst hc hd hc2 hd2
 have e:vs.toArray++ws.toArray=(vs++ws).toArray:=by simp
 by_cases hw:ws=[]
 ·exact concat_meets ⟨_,ho,rfl⟩ ⟨_,ho2,rfl⟩ noFill_tuple_add seq_tuple_add PySem.F.slot_tuple_add PySem.F.entry_tuple_add (PySem.F.args_tuple_add_2 _ _)
   (tuple_addW1 t b vs.toArray ws.toArray n n2 dd dd2 sl sl2 (by simpa using hv) (by simp[hw])) ⟨ho,ho2,h1 hw⟩
 ·refine concat_meets ⟨_,ho,rfl⟩ ⟨_,ho2,rfl⟩ noFill_tuple_add seq_tuple_add PySem.F.slot_tuple_add PySem.F.entry_tuple_add (PySem.F.args_tuple_add_2 _ _)
   (tuple_addW2 t b vs.toArray ws.toArray n n2 dd dd2 sl sl2 (by simpa using hv) (by simpa using hw) (by rw[List.size_toArray,List.size_toArray];exact hsz)) ⟨ho,ho2,?_⟩
  rw[e]
  exact h2 hw
def sIx(n d:Nat):Option Int->Nat
 | none=>d
 | some v=>if v<0 then(v+(n:Int)).toNat else min v.toNat n
theorem sIx_nat(n d k:Nat):sIx n d (some (k:Int))=min k n:=by
 show(if(k:Int)<0 then((k:Int)+(n:Int)).toNat else min (k:Int).toNat n)=min k n
 rw[if_neg (by omega),Int.toNat_natCast]
theorem fQ(n d:Nat)(hd:d<=n)(o:Option Int):sIx n d o<=n:=by
 cases o with
 | none=>exact hd
 | some v =>
  show(if v<0 then(v+(n:Int)).toNat else min v.toNat n)<=n
  by_cases hv:v<0
  ·rw[if_pos hv];omega
  ·rw[if_neg hv];exact Nat.min_le_right _ _
theorem S5(v:Int)(n d:Nat):(if v<0 then max (v+(n:Int)) 0 else min v (n:Int))=((sIx n d (some v):Nat):Int):=by
 show(if v<0 then max (v+(n:Int)) 0 else min v (n:Int))=(((if v<0 then(v+(n:Int)).toNat else min v.toNat n):Nat):Int)
 by_cases hv:v<0
 ·simp only[if_pos hv];omega
 ·simp only[if_neg hv];omega
theorem fR(lo hi:Option Int)(n:Nat):Builtin.Slice.sliceAdjust lo hi 1 (n:Int)=(((sIx n 0 lo:Nat):Int),((sIx n n hi:Nat):Int)):=by
 have h1:¬ ((1:Int)<0):=by omega
 unfold Builtin.Slice.sliceAdjust
 simp only[h1,if_false]
 refine Prod.ext ?_ ?_
 ·cases lo with
  | none=>rfl
  | some v=>exact S5 v n 0
 ·cases hi with
  | none=>rfl
  | some v=>exact S5 v n n
theorem fS(i j:Nat):Builtin.Slice.slicePlaces (i:Int) (j:Int) 1=j - i:=by
 unfold Builtin.Slice.slicePlaces
 have h1:(1:Int) > 0:=by omega
 simp only[h1,if_true,Int.ediv_one]
 split<;>omega
theorem S6{v:Value}{o:Option Int}{Q:Option Int->Shared->Prop}(p:IsPart v o)(h:Q o s):wpAny (model prog w) A (Builtin.Slice.slicePartIndex v) Q E s:=by
 cases p with
 | none=>exact slicePart_none h
 | int i t=>exact slicePart_int h
theorem fT{sl:Addr}{vl vu:Value}{lo hi:Option Int}{n:Nat}{Q:Int × Int × Nat->Shared->Prop}(hs:s.heap.IsSliceOf sl vl vu .none)(pl:IsPart vl lo)(pu:IsPart vu hi)
  (h:Q (((sIx n 0 lo:Nat):Int),1,sIx n n hi - sIx n 0 lo) s):wpAny (model prog w) A (Builtin.Slice.sliceApplied (.ref sl) (pure (n:Int))) Q E s:=by
 obtain⟨os,hos,hcs,hds⟩:=id hs
 unfold Builtin.Slice.sliceApplied Builtin.Slice.sliceFields
 refine wpAny_bind (wpAny_bind (wpAny_field hos hds (x:=vl) rfl (wpAny_bind (wpAny_field hos hds (x:=vu) rfl (wpAny_bind (wpAny_field hos hds (x:=.none) rfl (wpAny_pure ?_)))))))
 refine wpAny_bind (slicePart_none ?_)
 show wpAny _ _ (if((1:Int) == 0)=true then _ else _) _ _ s
 rw[if_neg (by decide)]
 refine wpAny_bind (S6 pl (wpAny_bind (S6 pu (wpAny_bind (wpAny_pure ?_)))))
 show wpAny _ _ (match Builtin.Slice.sliceAdjust lo hi 1 (n:Int)with | (lo,hi)=>pure (lo,(1:Int),Builtin.Slice.slicePlaces lo hi 1)) _ _ s
 rw[fR lo hi n]
 show wpAny _ _ (pure (((sIx n 0 lo:Nat):Int),(1:Int),Builtin.Slice.slicePlaces ((sIx n 0 lo:Nat):Int) ((sIx n n hi:Nat):Int) 1)) _ _ s
 rw[fS]
 exact wpAny_pure h
theorem fU(xs:Array Value)(i k:Nat):((List.range k).filterMap λ(m:Nat)=>xs[((i:Int)+(m:Int) * 1).toNat]?).toArray=((xs.toList.drop i).take k).toArray:=by
 have e:(λ(m:Nat)=>xs[((i:Int)+(m:Int) * 1).toNat]?)=λm=>xs[i+m]? :=by
  funext m
  have:((i:Int)+(m:Int) * 1).toNat=i+m:=by omega
  rw[this]
 rw[e]
 have:=pick_run xs i k
 rw[List.filterMap_map]at this
 have e2:((λx=>xs[x]?) ∘ λx=>i+x)=λm=>xs[i+m]? :=rfl
 rw[e2]at this
 rw[this]
theorem getItem_tuple_cut{t sl:Addr}{items:Array Value}{vl vu:Value}{lo hi:Option Int}{Q:Value->Shared->Prop}(ht:IsTup s.heap t items)(hs:s.heap.IsSliceOf sl vl vu .none)(pl:IsPart vl lo)(pu:IsPart vu hi)
  (hw:¬ (sIx items.size 0 lo=0/\sIx items.size items.size hi=items.size))
  (h:Q (.ref s.heap.objs.size) { s with heap:=s.heap.push { cls:=.type "tuple",data:=.seq ((items.toList.drop (sIx items.size 0 lo)).take (sIx items.size items.size hi - sIx items.size 0 lo)).toArray } })
  (hsz:items.size<=sizeLine):wpAny (model prog w) A (getItem (.ref t) (.ref sl)) Q E s:=by
 have htake:sizeOk (.seq ((items.toList.drop (sIx items.size 0 lo)).take (sIx items.size items.size hi - sIx items.size 0 lo)).toArray):=by
  show((items.toList.drop (sIx items.size 0 lo)).take (sIx items.size items.size hi - sIx items.size 0 lo)).toArray.size<=sizeLine
  rw[List.size_toArray,List.length_take,List.length_drop,Array.length_toList]
  omega
 have hj:sIx items.size items.size hi<=items.size:=fQ _ _ (Nat.le_refl _) hi
 obtain⟨os,hos,hcs,hds⟩:=id hs
 have hTs:s.TypeIs (.ref sl) "slice":=⟨os,hos,hcs⟩
 unfold getItem
 try with_reducible refine wpAny_holding ?_
 first | refine wpAny_bind (wpAny_pure ?_) | skip
 refine wpAny_bind (wpAny_sequenceKey ht.typeIs (by decide) ?_)
 refine wpAny_bind (wpAny_callSpecial?_slot (name:=Str.ofString "__getitem__") ht.typeIs PyProof.Rows.slot_tuple_getitem
  (wpAny_call_entry PyProof.Rows.slot_tuple_getitem ht.typeIs entry_tuple_getitem ?_ (args_tuple_getitem _ _)))
 show wpAny _ _ (Builtin.Tuple.tupleItemsOf (.ref t) >>= _) _ _ s
 refine wpAny_bind (tupleItemsOf_ ht ?_)
 refine wpAny_bind (wpAny_typeOf hTs ?_)
 rw[if_pos (by decide)]
 refine wpAny_bind (fT hs pl pu ?_)
 have hno:¬ ((((sIx items.size 0 lo:Nat):Int) == 0 && (1:Int) == 1 && (sIx items.size items.size hi - sIx items.size 0 lo) == items.size)=true):=by
  intro q
  rw[Bool.and_eq_true,Bool.and_eq_true]at q
  have q1:((sIx items.size 0 lo:Nat):Int)=0:=eq_of_beq q.1.1
  have q2:sIx items.size items.size hi - sIx items.size 0 lo=items.size:=eq_of_beq q.2
  exact hw ⟨by omega,by omega⟩
 show wpAny _ _ (if(((sIx items.size 0 lo:Nat):Int) == 0 && (1:Int) == 1 && (sIx items.size items.size hi - sIx items.size 0 lo) == items.size)=true then _ else _) _ _ s
 rw[if_neg hno,fU]
 first
  | exact wpAny_bind (m:=Builtin.Tuple.tupleExact _) (wpAny_newObj_type (wpAny_pure ⟨_,rfl,wpAny_pure h⟩) htake)
  | exact wpAny_bind (m:=Builtin.Tuple.tupleExact _) (wpAny_newObj_type (wpAny_bind (wpAny_pure (wpAny_pure ⟨_,rfl,wpAny_pure h⟩))) htake)
  | exact wpAny_bind (wpAny_bind (m:=Builtin.Tuple.tupleExact _) (wpAny_newObj_type (wpAny_pure (wpAny_pure ⟨_,rfl,wpAny_pure h⟩)) htake))
  | exact wpAny_bind (wpAny_bind (m:=Builtin.Tuple.tupleExact _) (wpAny_newObj_type (wpAny_pure ⟨_,rfl,wpAny_pure h⟩) htake))
end
end HT
namespace L2
abbrev TO:=St->Hp->(Option Int->Hp->Prop)->Prop
def PO(X:Cx)(e:Option Expr)(t:TO):Prop :=
 ∀ (pins:List (Addr × Obj)) (s:Shared) (σ:St) (H:Hp) (Q:Option Int->Hp->Prop),Inv X pins σ H s->t σ H Q →
  wpAny (model X.prog X.w) X.A (evalPart e X.env) (λu s'=>∃ o H',Inv X pins σ H' s'/\IsPart u o/\Q o H') X.xe s
def K8:TO:=λ_ H Q=>Q none H
def HJ(t:TE):TO:=λσ H Q=>t σ H λx H1=>∃ i,x=.int i/\Q (some i) H1
section
variable{X:Cx}{e:Expr}{te:TE}{lo hi:Option Expr}{tl th:TO}{pos p2:Pos}
theorem OQ:PO X none K8:=by
 intro pins s σ H Q I h
 rw[evalPart_none]
 exact wpAny_pure ⟨none,H,I,.none,h⟩
theorem K9(h:PE X e te):PO X (some e) (HJ te):=by
 intro pins s σ H Q I hw
 rw[evalPart_some]
 refine AV (h pins s σ H _ I hw) λu s1 ⟨x,H1,I1,r1,q1⟩=> ?_
 obtain⟨i,rfl,q⟩:=q1
 obtain⟨t,rfl⟩:=r1
 exact⟨some i,H1,I1,.int i t,q⟩
def SlR(X:Cx)(r:V->Option Int->Option Int->Hp->VK->Prop):Prop :=
 ∀ (pins:List (Addr × Obj)) (s:Shared) (σ:St) (H:Hp) (x:V) (v vl vu:Value) (lo hi:Option Int) (sl:Addr) (Q:VK),Inv X pins σ H s->RelV x v->s.heap.IsSliceOf sl vl vu .none->IsPart vl lo->IsPart vu hi->r x lo hi H Q →
  ∃ T id,typeLookup (.type T) "__getitem__"=pure (some (.builtin id))/\s.TypeIs v T/\wpAny (model X.prog X.w) X.A (getItem v (.ref sl)) (EP X pins σ Q) X.xe s
theorem SlR.or{r r':V->Option Int->Option Int->Hp->VK->Prop}(h:SlR X r)(h':SlR X r'):SlR X (λx lo hi H Q=>r x lo hi H Q\/r' x lo hi H Q):=by
 intro pins s σ H x v vl vu lo hi sl Q I rx hs pl pu q
 rcases q with q | q
 ·exact h pins s σ H x v vl vu lo hi sl Q I rx hs pl pu q
 ·exact h' pins s σ H x v vl vu lo hi sl Q I rx hs pl pu q
def JD(r:V->Option Int->Option Int->Hp->VK->Prop)(te:TE)(tl th:TO):TE:=λσ H Q=>te σ H λx H1=>tl σ H1 λl H2=>th σ H2 λu H3=>r x l u H3 Q
theorem NK{r:V->Option Int->Option Int->Hp->VK->Prop}(hr:SlR X r)(he:PE X e te)(hl:PO X lo tl)(hu:PO X hi th):PE X (.Subscript e (.Slice lo hi none p2) pos) (JD r te tl th):=by
 intro pins s σ H Q I h
 refine Subscript_ (AV (he pins s σ H _ I h) λv s1 ⟨x,H1,I1,r1,q1⟩=> ?_)
 refine wpAny_Slice (AV (hl pins s1 σ H1 _ I1 q1) λvl s2 ⟨l,H2,I2,pl,q2⟩=>AV (hu pins s2 σ H2 _ I2 q2) λvu s3 ⟨u,H3,I3,pu,q3⟩=> ?_)
 rw[evalPart_none]
 refine wpAny_pure ?_
 have I4:Inv X pins σ H3 { s3 with heap:=s3.heap.push { cls:=.type "slice",data:=.fields #[vl,vu,.none] } }:=I3.kept (t':=s3.toks) λb ob q=>Heap.get?_push_of_some _ q
 obtain⟨T,id,hT,ht,hg⟩:=hr pins { s3 with heap:=s3.heap.push { cls:=.type "slice",data:=.fields #[vl,vu,.none] } } σ H3 x v vl vu l u s3.heap.objs.size Q I4 r1 (Heap.IsSliceOf.new ..) pl pu q3
 show wpAny (model X.prog X.w) X.A (subscriptTail e (.Slice lo hi none p2) v (.ref s3.heap.objs.size)) (EP X pins σ Q) X.xe { s3 with heap:=s3.heap.push { cls:=.type "slice",data:=.fields #[vl,vu,.none] } }
 exact tail_any (ops:=[.ref s3.heap.objs.size,v]) ht hT hg (by with_unfolding_all rfl)
def DI(xs:List V)(lo hi:Option Int):List V:=(xs.drop (HT.sIx xs.length 0 lo)).take (HT.sIx xs.length xs.length hi - HT.sIx xs.length 0 lo)
theorem S7(xs:List V)(lo hi:Option Int):(DI xs lo hi).length<=xs.length:=by
 unfold DI
 rw[List.length_take,List.length_drop]
 omega
def S8(K:W.Frag):V->Option Int->Option Int->Hp->VK->Prop:=λx lo hi H Q=>∃ a xs,x=.ref a/\SqT K H a xs ∧
 ¬ (HT.sIx xs.length 0 lo=0/\HT.sIx xs.length xs.length hi=xs.length)/\∀ p,H p=none->Q (.ref p) (upd H p (.tup (DI xs lo hi)))
theorem fV:SlR X (S8 X.K):=by
 intro pins s σ H x v vl vu lo hi sl Q I rx hs pl pu h
 obtain⟨a,xs,rfl,hx,hw,q⟩:=h
 cases rx
 obtain⟨its,r,ht,hz⟩:=I.tuple hx
 have hlen:its.toArray.size=xs.length:=by rw[List.size_toArray];exact r.length.symm
 refine⟨"tuple",_,PyProof.Rows.slot_tuple_getitem.lookup,ht.typeIs,?_⟩
 refine HT.getItem_tuple_cut ht hs pl pu (by rw[hlen];exact hw) ?_ (by rw[hlen];exact hz)
 rw[hlen]
 refine⟨.ref s.heap.objs.size,_,I.laid (t':=s.toks) (o:=.tup (DI xs lo hi)) (λb ob q=>Heap.get?_push_of_some _ q) (Nat.le_refl _) ?_,rfl,q _ (I.hok.fresh (Nat.le_refl _))⟩
 exact⟨Nat.le_trans (S7 xs lo hi) hz,_,(r.drop (HT.sIx xs.length 0 lo)).take (HT.sIx xs.length xs.length hi - HT.sIx xs.length 0 lo),IsTup.new _ _⟩
def OR(K:W.Frag):R2:=λx y H Q=>∃ a b xs ys,x=.ref a/\y=.ref b/\SqT K H a xs/\SqT K H b ys/\xs≠[]/\xs.length+ys.length<=sizeLine ∧
 (ys=[]->Q (.ref a) H)/\(ys≠[]->∀ p,H p=none->Q (.ref p) (upd H p (.tup (xs++ys))))
theorem Vals.nil_iff{xs:List V}{us:List Value}(r:Vals xs us):us=[]↔xs=[]:=by
 cases r with
 | nil=>simp
 | cons _ _=>simp
theorem fW:OpR X (binaryOp .Add) (OR X.K):=by
 intro pins s σ H x y v u Q I rx ry h
 obtain⟨a,b,xs,ys,rfl,rfl,ha,hb,hx,hz,q1,q2⟩:=h
 cases rx
 cases ry
 obtain⟨its,r1,p1,_⟩:=I.tuple ha
 obtain⟨its2,r2,p2,_⟩:=I.tuple hb
 refine HT.cat_tup p1 p2 (λz=>hx (r1.nil_iff.mp z)) (λz=>⟨.ref a,H,I,rfl,q1 (r2.nil_iff.mp z)⟩) (λz=> ?_) (by rw[<-r1.length,<-r2.length];exact hz)
 refine⟨.ref s.heap.objs.size,_,I.laid (t':=s.toks) (o:=.tup (xs++ys)) (λb ob q=>Heap.get?_push_of_some _ q) (Nat.le_refl _) ?_,rfl,q2 (λw=>z (r2.nil_iff.mpr w)) _ (I.hok.fresh (Nat.le_refl _))⟩
 exact⟨by rw[List.length_append];exact hz,_,r1.append r2,IsTup.new _ _⟩
end
end L2
namespace L2
def FI(n:Nat)(i:Int):Option Nat:=if 0<=i then(if i<n then some i.toNat else none)else if -(n:Int)<=i then some (i+n).toNat else none
def HK{α :Type}(xs:List α)(i:Int):Option α :=(FI xs.length i).bind λj=>xs[j]?
theorem S9{n:Nat}{i:Int}{j:Nat}(h:FI n i=some j):seqIndex? i n=some j/\j<n/\ -(n:Int)<=i/\i<n:=by
 unfold FI at h
 by_cases h0:0<=i
 ·rw[if_pos h0]at h
  by_cases h1:i<n
  ·rw[if_pos h1]at h
   have e:i.toNat=j:=Option.some.inj h
   exact⟨by rw[seqIndex_of h0 h1,e],by omega,by omega,h1⟩
  ·rw[if_neg h1]at h;cases h
 ·rw[if_neg h0]at h
  by_cases h1: -(n:Int)<=i
  ·rw[if_pos h1]at h
   have e:(i+n).toNat=j:=Option.some.inj h
   exact⟨by rw[seqIndex_neg (by omega) h1,e],by omega,h1,by omega⟩
  ·rw[if_neg h1]at h;cases h
theorem OS{α :Type}{xs:List α}{i:Int}{v: α}(h:HK xs i=some v):∃ j,seqIndex? i xs.length=some j/\xs[j]? =some v/\j<xs.length/\ -(xs.length:Int)<=i/\i<xs.length:=by
 unfold HK at h
 cases e:FI xs.length i with
 | none=>rw[e]at h;cases h
 | some j =>
  rw[e]at h
  obtain⟨h1,h2,h3,h4⟩:=S9 e
  exact⟨j,h1,h,h2,h3,h4⟩
theorem OT{α :Type}{xs:List α}{j:Nat}{v: α}(h:xs[j]? =some v):HK xs (j:Int)=some v:=by
 have hj:j<xs.length:=(List.getElem?_eq_some_iff.mp h).1
 have e:FI xs.length (j:Int)=some j:=by
  unfold FI
  rw[if_pos (by omega),if_pos (by omega)];simp
 unfold HK;rw[e];exact h
def fX(b:Expr):Prop:=∀ o i,subscripted b false o i=operate [o,i] (getItem o i)
def IxR(X:Cx)(r:R2):Prop :=
 ∀ (value slice:Expr) (pins:List (Addr × Obj)) (s:Shared) (σ:St) (H:Hp) (x y:V) (v u:Value) (Q:VK),Inv X pins σ H s->RelV x v->RelV y u->r x y H Q →
  subscripted slice false v u=operate [v,u] (getItem v u)->wpAny (model X.prog X.w) X.A (subscriptTail value slice v u) (EP X pins σ Q) X.xe s
def MtR(X:Cx)(id:String)(r:V->List V->Hp->VK->Prop):Prop :=
 ∀ (pins:List (Addr × Obj)) (s:Shared) (σ:St) (H:Hp) (x:V) (xs:List V) (v:Value) (us:List Value) (Q:VK),Inv X pins σ H s->RelV x v->Vals xs us->r x xs H Q →
  wpAny (model X.prog X.w) X.A (call (.builtin id) (v::us)) (EP X pins σ Q) X.xe s
section
variable{X:Cx}{a b:Expr}{ta tb:TE}{pos:Pos}
theorem IxR.or{r r':R2}(h:IxR X r)(h':IxR X r'):IxR X (λx y H Q=>r x y H Q\/r' x y H Q):=by
 intro value slice pins s σ H x y v u Q I rx ry q hs
 rcases q with q | q
 ·exact h value slice pins s σ H x y v u Q I rx ry q hs
 ·exact h' value slice pins s σ H x y v u Q I rx ry q hs
theorem MtR.or{id:String}{r r':V->List V->Hp->VK->Prop}(h:MtR X id r)(h':MtR X id r'):MtR X id (λx xs H Q=>r x xs H Q\/r' x xs H Q):=by
 intro pins s σ H x xs v us Q I rx rs q
 rcases q with q | q
 ·exact h pins s σ H x xs v us Q I rx rs q
 ·exact h' pins s σ H x xs v us Q I rx rs q
theorem AM{r:R2}(hr:IxR X r)(ha:PE X a ta)(hb:PE X b tb)(hs:fX b):PE X (.Subscript a b pos) (AC r ta tb):=by
 intro pins s σ H Q I h
 exact Subscript_ (OH ha hb I h λv u s2 x y H2 I2 rx ry q=>hr a b pins s2 σ H2 x y v u Q I2 rx ry q (hs _ _))
def TB(K:W.Frag):R2:=λx y H Q=>∃ p xs i v,x=.ref p/\y=.int i/\SqL K H p xs/\HK xs i=some v/\Q v H
def TC(K:W.Frag):R2:=λx y H Q=>∃ p xs i v,x=.ref p/\y=.int i/\SqT K H p xs/\HK xs i=some v/\Q v H
def TD:R2:=λx y H Q=>∃ z i c,x=.str z/\y=.int i/\z.length<=sizeLine/\HK z.cps.toList i=some c/\Q (.str ⟨#[c]⟩) H
theorem fY:IxR X (TB X.K):=by
 intro value slice pins s σ H x y v u Q I rx ry h hs
 obtain⟨p,xs,i,z,rfl,rfl,hq,he,q⟩:=h
 cases rx
 obtain⟨t,rfl⟩:=ry
 obtain⟨its,r,pl,hz⟩:=I.list hq
 obtain⟨j,h1,h2,h3,h4,h5⟩:=OS he
 obtain⟨w,ew,rw'⟩:=r.get h2
 have hl:=r.length
 have hn:=HG
 have fin:EP X pins σ Q w s:=⟨z,H,I,rw',q⟩
 by_cases h0:0<=i
 ·have hj:i.toNat=j:=by
   rw[seqIndex_of h0 h5]at h1
   exact Option.some.inj h1
  exact item_listR pl.isList h0 (by omega) (by rw[hj];simpa using ew) fin hs
 ·have hj:(i+(its.toArray.size:Int)).toNat=j:=by
   rw[seqIndex_neg (by omega) h4]at h1
   rw[List.size_toArray,<-hl]
   exact Option.some.inj h1
  exact subscriptTail_builtinR (x:=w) pl.isList.typeIs slot_list_getitem.lookup
   (wpAny_getItem_list_neg (Q:=λr s'=>r=w/\EP X pins σ Q r s') pl.isList (by omega) (by rw[List.size_toArray]<;>omega) (by omega) (by rw[hj];simpa using ew) ⟨rfl,fin⟩) hs
theorem fZ:IxR X (TC X.K):=by
 intro value slice pins s σ H x y v u Q I rx ry h hs
 obtain⟨p,xs,i,z,rfl,rfl,hq,he,q⟩:=h
 cases rx
 obtain⟨t,rfl⟩:=ry
 obtain⟨its,r,pl,hz⟩:=I.tuple hq
 obtain⟨j,h1,h2,h3,h4,h5⟩:=OS he
 obtain⟨w,ew,rw'⟩:=r.get h2
 have hl:=r.length
 have hn:=HG
 have fin:EP X pins σ Q w s:=⟨z,H,I,rw',q⟩
 exact subscriptTail_builtinR (x:=w) pl.typeIs slot_tuple_getitem.lookup
  (getItem_tuple (j:=j) (Q:=λr s'=>r=w/\EP X pins σ Q r s') pl (by omega) (by omega) (by rw[List.size_toArray,<-hl];exact h1) (by simpa using ew) ⟨rfl,fin⟩) hs
theorem f6:IxR X TD:=by
 intro value slice pins s σ H x y v u Q I rx ry h hs
 obtain⟨z,i,c,rfl,rfl,hz,he,q⟩:=h
 obtain⟨t,rfl⟩:=rx
 obtain⟨t',rfl⟩:=ry
 obtain⟨j,h1,h2,h3,h4,h5⟩:=OS he
 have hl:z.cps.toList.length=z.length:=by simp[Str.length]
 rw[hl]at h1 h4 h5
 have hn:=HG
 exact tail_any (typeIs_str s z t) slot_str_getitem.lookup (getItem_str (c:=c) (by
  have e1:decide (i< -(2 ^ 63:Int))=false:=decide_eq_false (by omega)
  have e2:decide (i ≥ 2 ^ 63)=false:=decide_eq_false (by omega)
  rw[e1,e2,Bool.or_false]) (by rw[h1];simpa using h2) ⟨.str ⟨#[c]⟩,H,I.tok _,⟨_,rfl⟩,q⟩) hs
def TF(K:W.Frag):R2:=λx y H Q=>TB K x y H Q\/TC K x y H Q\/TD x y H Q
theorem f7:IxR X (TF X.K):=fY.or (fZ.or f6)
theorem f8(its:List Value)(n j:Nat)(u:Value):Obj.mapSeq (·.setIfInBounds j u) { cls:=.type "list",data:=.seq its.toArray n }={ cls:=.type "list",data:=.seq (its.set j u).toArray n }:=by
 simp[Obj.mapSeq]
theorem Inv.lst{pins:List (Addr × Obj)}{σ:St}{H:Hp}{s:Shared}{p:Addr}{xs:List V}(I:Inv X pins σ H s)(h:H p=some (.lst xs)) :
  ∃ (its:List Value) (n:Nat),Vals xs its/\s.heap.get? p=some { cls:=.type "list",data:=.seq its.toArray n }/\xs.length<=sizeLine:=by
 obtain⟨z,its,n,r,e⟩:=I.hok p _ h
 exact⟨its,n,r,e,z⟩
theorem Inv.lstUpd{pins:List (Addr × Obj)}{σ:St}{H:Hp}{s:Shared}{p:Addr}{xs ys:List V}{its its':List Value}{n n':Nat}{f:Obj->Obj}(I:Inv X pins σ H s)(h:H p=some (.lst xs))
  (ho:s.heap.get? p=some { cls:=.type "list",data:=.seq its.toArray n }) (hf:f { cls:=.type "list",data:=.seq its.toArray n }={ cls:=.type "list",data:=.seq its'.toArray n' }) (r:Vals ys its') (hz:ys.length<=sizeLine) (t:Nat) :
  Inv X pins σ (upd H p (.lst ys)) { s with heap:=s.heap.update p f,toks:=t }:=by
 have e:(s.heap.update p f).get? p=some { cls:=.type "list",data:=.seq its'.toArray n' }:=by
  rw[Heap.get?_update_self f ho (by rw[hf]<;>rfl),hf]
 refine I.write (x:=p) (e:=p) (by rw[h];trivial) (.inl rfl) (λb u hb q=>(Heap.get?_update_other _ _ (Ne.symm hb)).trans q) ⟨_,e⟩ ?_
 exact⟨hz,its',n',r,e⟩
def TJ:V->V->V->Hp->(Hp->Prop)->Prop:=λo i v H Q=>∃ p xs k j,o=.ref p/\i=.int k/\H p=some (.lst xs)/\FI xs.length k=some j/\Q (upd H p (.lst (xs.set j v)))
theorem f9:OE X TJ:=by
 intro pins s σ H o i v ov iv u Q I ro ri rv h
 obtain⟨p,xs,k,j,rfl,rfl,hp,hj,q⟩:=h
 cases ro
 obtain⟨t,rfl⟩:=ri
 obtain⟨its,n,r,ho,hz⟩:=I.lst hp
 obtain⟨h1,h2,h3,h4⟩:=S9 hj
 have hl:=r.length
 have hn:=HG
 have I':Inv X pins σ (upd H p (.lst (xs.set j v))) { s with heap:=s.heap.update p (Obj.mapSeq (·.setIfInBounds j u)) } :=
  I.lstUpd hp ho (f8 its n j u) (r.set rv j) (by rw[List.length_set];exact hz) s.toks
 by_cases h0:0<=k
 ·have hk:k.toNat=j:=by
   rw[seqIndex_of h0 h4]at h1
   exact Option.some.inj h1
  exact W.ki_setAt ho h0 (by omega) (by rw[List.size_toArray,<-hl];exact h4) (by rw[hk];exact⟨_,I',q⟩)
 ·have hk:(k+(its.toArray.size:Int)).toNat=j:=by
   rw[seqIndex_neg (by omega) h3]at h1
   rw[List.size_toArray,<-hl]
   exact Option.some.inj h1
  exact W.ki_setBack ho (by omega) (by rw[List.size_toArray,<-hl];exact h3) (by omega) (by rw[hk];exact⟨_,I',q⟩)
theorem gA(lo hi:Option Int)(n:Nat):(sliceBounds lo hi none n).1=((HT.sIx n 0 lo:Nat):Int)/\(sliceBounds lo hi none n).2.1=((HT.sIx n n hi:Nat):Int)/\(sliceBounds lo hi none n).2.2=1:=by
 refine⟨?_,?_,rfl⟩
 ·cases lo with
  | none=>simp[sliceBounds,HT.sIx]
  | some i =>
   simp only[sliceBounds,HT.sIx,Option.getD_none,show(1:Int) > 0 by decide,if_true]
   by_cases h:i<0
   ·simp only[h,if_true]<;>omega
   ·simp only[h,if_false]<;>omega
 ·cases hi with
  | none=>simp[sliceBounds,HT.sIx]
  | some i =>
   simp only[sliceBounds,HT.sIx,Option.getD_none,show(1:Int) > 0 by decide,if_true]
   by_cases h:i<0
   ·simp only[h,if_true]<;>omega
   ·simp only[h,if_false]<;>omega
theorem gB(its:List Value)(lo hi:Option Int):slicePick its.toArray lo hi none=((its.drop (HT.sIx its.length 0 lo)).take (HT.sIx its.length its.length hi - HT.sIx its.length 0 lo)).toArray:=by
 obtain⟨h1,h2,h3⟩:=gA lo hi its.toArray.size
 unfold slicePick
 rw[h1,h2,h3]
 simp only[sliceRange_one,pick_run,List.size_toArray]<;>rfl
def TK(K:W.Frag):V->Option Int->Option Int->Hp->VK->Prop:=λx lo hi H Q=>∃ a xs,x=.ref a/\SqL K H a xs/\∀ p,H p=none->Q (.ref p) (upd H p (.lst (DI xs lo hi)))
theorem gC:SlR X (TK X.K):=by
 intro pins s σ H x v vl vu lo hi sl Q I rx hs pl pu h
 obtain⟨a,xs,rfl,hx,q⟩:=h
 cases rx
 obtain⟨its,r,ht,hz⟩:=I.list hx
 have hlen:=r.length
 refine⟨"list",_,slot_list_getitem.lookup,ht.isList.typeIs,?_⟩
 refine wpAny_getItem_list_slice ht.isList hs pl pu .none (by simp) ?_ (by rw[List.size_toArray]<;>omega)
 rw[gB,<-hlen]
 refine⟨.ref s.heap.objs.size,_,I.laid (t':=s.toks) (o:=.lst (DI xs lo hi)) (λb ob q=>Heap.get?_push_of_some _ q) (Nat.le_refl _) ?_,rfl,q _ (I.hok.fresh (Nat.le_refl _))⟩
 exact⟨Nat.le_trans (S7 xs lo hi) hz,_,0,(r.drop (HT.sIx xs.length 0 lo)).take (HT.sIx xs.length xs.length hi - HT.sIx xs.length 0 lo),Heap.get?_push_size _ rfl⟩
def GS:V->Bool
 | .non=>true
 | .bl _=>true
 | .int _=>true
 | .str _=>true
 | _=>false
def EQ:V->V->Bool
 | .non,.non=>true
 | .bl a,.bl b=>a == b
 | .bl a,.int b=>(if a then 1 else 0) == b
 | .int a,.bl b=>a ==(if b then 1 else 0)
 | .int a,.int b=>a == b
 | .str a,.str b=>a == b
 | _,_=>false
theorem gD{A:Around}{s:Shared}{y x:V}{u v:Value}(ry:RelV y u)(rx:RelV x v)(fy:GS y=true)(fx:GS x=true):SeqAt.EqAt A s u v (EQ y x):=by
 cases y with
 | non =>
  cases ry
  cases x with
  | non=>cases rx;exact SeqAt.EqAt.same _
  | bl b=>cases rx;exact SeqAt.EqAt.none_bool b
  | int b=>obtain⟨t,rfl⟩:=rx;exact SeqAt.EqAt.none_int b t
  | str b=>obtain⟨t,rfl⟩:=rx;exact SeqAt.EqAt.none_str b t
  | _=>exact absurd (show false=true from fx) Bool.false_ne_true
 | bl a =>
  cases ry
  cases x with
  | non=>cases rx;exact SeqAt.EqAt.bool_none a
  | bl b=>cases rx;exact SeqAt.EqAt.bool_bool a b
  | int b=>obtain⟨t,rfl⟩:=rx;exact SeqAt.EqAt.bool_int a b t
  | str b=>obtain⟨t,rfl⟩:=rx;exact SeqAt.EqAt.bool_str a b t
  | _=>exact absurd (show false=true from fx) Bool.false_ne_true
 | int a =>
  obtain⟨t',rfl⟩:=ry
  cases x with
  | non=>cases rx;exact SeqAt.EqAt.int_none a t'
  | bl b=>cases rx;exact SeqAt.EqAt.int_bool a t' b
  | int b=>obtain⟨t,rfl⟩:=rx;exact SeqAt.EqAt.int_int a t' b t
  | str b=>obtain⟨t,rfl⟩:=rx;exact SeqAt.EqAt.int_str a t' b t
  | _=>exact absurd (show false=true from fx) Bool.false_ne_true
 | str a =>
  obtain⟨t',rfl⟩:=ry
  cases x with
  | non=>cases rx;exact SeqAt.EqAt.str_none a t'
  | bl b=>cases rx;exact SeqAt.EqAt.str_bool a t' b
  | int b=>obtain⟨t,rfl⟩:=rx;exact SeqAt.EqAt.str_int a t' b t
  | str b=>obtain⟨t,rfl⟩:=rx;exact SeqAt.EqAt.str_str a t' b t
  | _=>exact absurd (show false=true from fx) Bool.false_ne_true
 | _=>exact absurd (show false=true from fy) Bool.false_ne_true
def GB(x:V)(u:Value):Bool:=match u with
 | .none=>EQ .non x
 | .bool b=>EQ (.bl b) x
 | .int i _=>EQ (.int i) x
 | .str z _=>EQ (.str z) x
 | _=>false
theorem TM{x y:V}{u:Value}(r:RelV y u)(f:GS y=true):GB x u=EQ y x:=by
 cases y with
 | non=>cases r;rfl
 | bl b=>cases r;rfl
 | int i=>obtain⟨t,rfl⟩:=r;rfl
 | str z=>obtain⟨t,rfl⟩:=r;rfl
 | _=>exact absurd (show false=true from f) Bool.false_ne_true
theorem OU{x:V}:∀ {xs:List V} {us:List Value},Vals xs us->xs.all GS=true->us.any (GB x)=xs.any λy=>EQ y x
 | _,_,.nil,_=>rfl
 | y::xs,u::us,.cons r t,f=>by
  rw[List.all_cons,Bool.and_eq_true]at f
  rw[List.any_cons,List.any_cons,TM r f.1,OU t f.2]
theorem OV{A:Around}{s:Shared}{x:V}{v:Value}(rx:RelV x v)(fx:GS x=true):∀ {xs:List V} {us:List Value},Vals xs us->xs.all GS=true->∀ u∈us,SeqAt.EqAt A s u v (GB x u)
 | _,_,.nil,_=>λu hu=>by cases hu
 | y::xs,u::us,.cons r t,f=>λu' hu=>by
  rw[List.all_cons,Bool.and_eq_true]at f
  rcases List.mem_cons.mp hu with rfl | hu
  ·rw[TM r f.1];exact gD r rx f.1 fx
  ·exact OV rx fx t f.2 u' hu
def JE(x:V)(xs:List V):Bool:=xs.any λy=>EQ y x
def TN(K:W.Frag)(neg:Bool):R2:=λx y H Q=>∃ p xs,y=.ref p/\(SqL K H p xs\/SqT K H p xs)/\GS x=true/\xs.all GS=true/\Q (.bl (if neg then !JE x xs else JE x xs)) H
theorem gE:OpR X (compareOp .In) (TN X.K false):=by
 intro pins s σ H x y v u Q I rx ry h
 obtain⟨p,xs,rfl,hq,fx,fs,q⟩:=h
 cases ry
 rcases hq with hq | hq
 ·obtain⟨its,r,pl,hz⟩:=I.list hq
  refine SeqAt.in_listAt (GB x) pl.isList (λw hw=>OV rx fx r fs w (by simpa using hw)) ⟨.bl _,H,I,rfl,?_⟩
  rw[show its.toArray.any (GB x)=its.any (GB x) by simp,OU r fs]
  exact q
 ·obtain⟨its,r,pl,hz⟩:=I.tuple hq
  refine SeqAt.in_tupleAt (GB x) pl (λw hw=>OV rx fx r fs w (by simpa using hw)) ⟨.bl _,H,I,rfl,?_⟩
  rw[show its.toArray.any (GB x)=its.any (GB x) by simp,OU r fs]
  exact q
theorem CallR.or{f:Value}{r r':List V->Hp->VK->Prop}(h:CallR X f r)(h':CallR X f r'):CallR X f (λxs H Q=>r xs H Q\/r' xs H Q):=by
 intro pins s σ H xs us Q I rs q
 rcases q with q | q
 ·exact h pins s σ H xs us Q I rs q
 ·exact h' pins s σ H xs us Q I rs q
theorem gF:CallR X (.type "list") (λxs H Q=>∃ p ys,xs=[.ref p]/\(SqL X.K H p ys\/SqT X.K H p ys)/\∀ l,H l=none->Q (.ref l) (upd H l (.lst ys))):=by
 intro pins s σ H xs us Q I r h
 obtain⟨p,ys,rfl,hq,q⟩:=h
 obtain⟨u,rfl,rx⟩:=JB r
 cases rx
 have fin:∀ (its:List Value),Vals ys its->ys.length<=sizeLine->∀ (h':Heap) (c':Nat),(∀ b o',s.heap.get? b=some o'->h'.get? b=some o') →
   h'.get? s.heap.objs.size=some { cls:=.type "list",dict:=none,data:=.seq its.toArray c',slots:= #[] }->EP X pins σ Q (.ref s.heap.objs.size) { s with heap:=h' }:=λits r' hz h' c' kp e =>
  ⟨.ref s.heap.objs.size,_,I.laid (t':=s.toks) kp (Nat.le_refl _) (show ObjOk X.prog X.w _ h' _ (.lst ys)from⟨hz,its,c',r',e⟩),rfl,q _ (I.hok.fresh (Nat.le_refl _))⟩
 rcases hq with hq | hq
 ·obtain⟨its,r',pl,hz⟩:=I.list hq
  have hlen:=r'.length
  obtain⟨o,ho,hc,n,hd⟩:=pl.isList
  exact call_list_seq p (.inl rfl) ho hc hd (λh' c' kp e=>fin its r' hz h' c' kp e) (by simp only[List.size_toArray]<;>omega)
 ·obtain⟨its,r',pl,hz⟩:=I.tuple hq
  have hlen:=r'.length
  obtain⟨o,ho,hc,n,hd⟩:=pl
  exact call_list_seq p (.inr rfl) ho hc hd (λh' c' kp e=>fin its r' hz h' c' kp e) (by simp only[List.size_toArray]<;>omega)
theorem gG:CallR X (.type "tuple") (λxs H Q=>∃ p ys,xs=[.ref p]/\((SqL X.K H p ys/\∀ l,H l=none->Q (.ref l) (upd H l (.tup ys)))\/(SqT X.K H p ys/\Q (.ref p) H))):=by
 intro pins s σ H xs us Q I r h
 obtain⟨p,ys,rfl,h⟩:=h
 obtain⟨u,rfl,rx⟩:=JB r
 cases rx
 rcases h with⟨hq,q⟩ | ⟨hq,q⟩
 ·obtain⟨its,r',pl,hz⟩:=I.list hq
  have hlen:=r'.length
  refine call_tuple_list pl.isList (λh' kp=> ?_) (by simp only[List.size_toArray]<;>omega)
  have I1:Inv X pins σ H { s with heap:=h' }:=I.kept (t':=s.toks) kp
  have I2:Inv X pins σ (upd H h'.objs.size (.tup ys)) { s with heap:=h'.push { cls:=.type "tuple",data:=.seq its.toArray } } :=
   I1.laid (t':=s.toks) (λb o e=>Heap.get?_push_of_some _ e) (Nat.le_refl _) (show ObjOk X.prog X.w _ _ _ (.tup ys)from⟨hz,its,r',IsTup.new _ _⟩)
  exact⟨.ref h'.objs.size,_,I2,rfl,q _ (I1.hok.fresh (Nat.le_refl _))⟩
 ·obtain⟨its,r',pl,hz⟩:=I.tuple hq
  exact call_tuple_same pl ⟨.ref p,H,I,rfl,q⟩
def LA(K:W.Frag)(T:String)(x:V)(H:Hp):Prop:=match x with
 | .str _=>T="str"
 | .int _=>T="int"
 | .ref p=>(T="list"/\∃ xs,SqL K H p xs)\/(T="tuple"/\∃ o,K.lookup p=some o/\o.cls=.type "tuple"/\o.dict=none) ∨
   (T="dict"/\((∃ kvs,H p=some (.dK kvs))\/∃ kvs,H p=some (.dT kvs)))\/(T="set"/\∃ S n,H p=some (.set S n))
 | _=>False
theorem TQ{pins:List (Addr × Obj)}{σ:St}{H:Hp}{s:Shared}{T:String}{x:V}{v:Value}(I:Inv X pins σ H s)(r:RelV x v)(ty:LA X.K T x H) :
  s.TypeIs v T/\∀ a,v=.ref a->∃ ob,s.heap.get? a=some ob/\ob.dict=none:=by
 cases x with
 | str z =>
  obtain⟨t,rfl⟩:=r
  cases (show T="str" from ty)
  exact⟨typeIs_str s z t,λ_ e=>nomatch e⟩
 | int i =>
  obtain⟨t,rfl⟩:=r
  cases (show T="int" from ty)
  exact⟨typeIs_int s i t,λ_ e=>nomatch e⟩
 | ref p =>
  cases r
  rcases ty with⟨rfl,xs,hq⟩ | ⟨rfl,o,hk,hc,hd⟩ | ⟨rfl,hk⟩ | ⟨rfl,S,n,hk⟩
  ·obtain⟨its,_,pl,_⟩:=I.list hq
   refine⟨pl.isList.typeIs,λa e=> ?_⟩
   cases e
   obtain⟨o,n,e,c,hd,_⟩:=pl
   exact⟨o,e,hd⟩
  ·refine⟨⟨o,I.kIn p o hk,hc⟩,λa e=> ?_⟩
   cases e
   exact⟨o,I.kIn _ o hk,hd⟩
  ·have z:∃ o,s.heap.get? p=some o/\o.ExactDict:=by
    rcases hk with⟨kvs,hk⟩ | ⟨kvs,hk⟩
    ·obtain⟨_,_,_,_,o,_,_,e,ex,_⟩:=I.hok p _ hk
     exact⟨o,e,ex⟩
    ·obtain⟨_,_,_,_,o,_,_,e,ex,_⟩:=I.hok p _ hk
     exact⟨o,e,ex⟩
   obtain⟨o,e,ex⟩:=z
   refine⟨⟨o,e,ex.1⟩,λa e2=> ?_⟩
   cases e2
   exact⟨o,e,ex.2.1⟩
  ·obtain⟨o,_,_,_,e,ex,_⟩:=I.hok p _ hk
   refine⟨⟨o,e,ex.1⟩,λa e2=> ?_⟩
   cases e2
   exact⟨o,e,ex.2.1⟩
 | _=>exact False.elim ty
def OW(K:W.Frag)(T:String)(r:V->List V->Hp->VK->Prop)(to:TE):TE:=λσ H Q=>to σ H λx H1=>LA K T x H1/\r x [] H1 Q
def ER(K:W.Frag)(T:String)(r:V->List V->Hp->VK->Prop)(to:TE)(t:TA):TE:=λσ H Q=>to σ H λx H1=>LA K T x H1/\t σ H1 λxs H2=>r x xs H2 Q
variable{o e:Expr}{es:List Expr}{to:TE}{t:TA}{name:Str}{apos cpos:Pos}{T id:String}{r:V->List V->Hp->VK->Prop}
theorem gH(pa:PlainAttrs T)(slot:Slot T name id)(hty:typeOf (.builtin id)=pure (.type "method_descriptor"))(hm:MtR X id r)(ho:PE X o to)
  (hbase:attributeBase o name X.env (eval o X.env)=eval o X.env:=by rfl) (hline:(apos.endLine == cpos.line)=true:=by rfl):PE X (.Call (.Attribute o name apos) [] [] cpos) (OW X.K T r to):=by
 intro pins s σ H Q I h
 refine wpAny_Call_method0_late hbase hline (AV (ho pins s σ H _ I h) λv s1 ⟨x,H1,I1,r1,ty,q1⟩=> ?_)
 obtain⟨h1,h2⟩:=TQ I1 r1 ty
 exact⟨T,id,pa,slot,hty,h1,h2,Calls.callWith_builtin rfl (PySem.evalArgs_none (hm pins s1 σ H1 x [] v [] Q I1 r1 .nil q1))⟩
theorem FJ(pa:PlainAttrs T)(slot:Slot T name id)(hty:typeOf (.builtin id)=pure (.type "method_descriptor"))(hm:MtR X id r)(ho:PE X o to)(ha:PA X (e::es) t)
  (hbase:attributeBase o name X.env (eval o X.env)=eval o X.env:=by rfl)
  (hfew:((backTo cpos (starEach (e::es) X.env)).all (λx=> !x.1) && (backToKw cpos (keywordEach [] X.env)).all (λx=>x.1.isSome)
   && decide ((e::es).length+([]:List Keyword).length+(if([]:List Keyword).isEmpty then 0 else 1)<30))=true:=by rfl)
  (hline:(apos.endLine == cpos.line)=true:=by rfl) (hs:starEach (e::es) X.env=(false,eval e X.env)::starEach es X.env:=by rfl) (hplain:(backTo cpos (starEach es X.env)).any (·.1)=false:=by rfl) :
  PE X (.Call (.Attribute o name apos) (e::es) [] cpos) (ER X.K T r to t):=by
 intro pins s σ H Q I h
 refine wpAny_Call_method_late hbase hfew hline rfl (AV (ho pins s σ H _ I h) λv s1 ⟨x,H1,I1,r1,ty,q1⟩=> ?_)
 obtain⟨h1,h2⟩:=TQ I1 r1 ty
 refine⟨T,id,pa,slot,hty,h1,h2,?_⟩
 have hA:=ha cpos pins s1 σ H1 _ I1 q1
 rw[hs]at hA ⊢
 refine Calls.callWith_builtin (by show(false || (backTo cpos (starEach es X.env)).any (·.1))=false;rw[hplain]<;>rfl) (Calls.evalArgs_plain ?_)
 exact AV hA λus s2 ⟨vs,H2,I2,r2,q2⟩=>hm pins s2 σ H2 x vs v us Q I2 r1 r2 q2
end
end L2
namespace L2
def OX(X:Cx)(id:String)(r:V->List V->Hp->VK->Prop):Prop :=
 ∀ (pins:List (Addr × Obj)) (s:Shared) (σ:St) (H:Hp) (x:V) (xs:List V) (v:Value) (us:List Value) (Q:VK),Inv X pins σ H s->RelV x v->Vals xs us->r x xs H Q →
  wpAny (model X.prog X.w) X.A (call (.builtin id) (v::us)) (EP X pins σ Q) X.xe s
theorem Vals.one:∀ {x:V} {us:List Value},Vals [x] us->∃ u,us=[u]/\RelV x u
 | _,_,.cons r .nil=>⟨_,rfl,r⟩
theorem Vals.two:∀ {x y:V} {us:List Value},Vals [x,y] us->∃ u v,us=[u,v]/\RelV x u/\RelV y v
 | _,_,_,.cons r (.cons q .nil)=>⟨_,_,rfl,r,q⟩
theorem Vals.zero:∀ {us:List Value},Vals [] us->us=[]
 | _,.nil=>rfl
theorem Vals.reverse{xs:List V}{us:List Value}(h:Vals xs us):Vals xs.reverse us.reverse:=by
 induction h with
 | nil=>exact .nil
 | cons r t ih=>rw[List.reverse_cons,List.reverse_cons];exact Vals.append ih (.cons r .nil)
theorem Vals.rep{xs:List V}{us:List Value}(h:Vals xs us):∀ k:Nat,Vals (List.replicate k xs).flatten (List.replicate k us).flatten
 | 0=>.nil
 | k+1=>by
  rw[List.replicate_succ,List.replicate_succ,List.flatten_cons,List.flatten_cons]
  exact Vals.append h (Vals.rep h k)
theorem NL(its:List Value):∀ (k:Nat) (acc:List Value),
  List.foldl (λx1 x2=>x1++x2) acc.toArray (List.replicate k its.toArray)=(acc++(List.replicate k its).flatten).toArray
 | 0,acc=>by simp
 | k+1,acc=>by
  have e:acc.toArray++its.toArray=(acc++its).toArray:=by simp
  have e2:(acc++its)++(List.replicate k its).flatten=acc++(List.replicate (k+1) its).flatten:=by
   rw[List.replicate_succ,List.flatten_cons,List.append_assoc]
  rw[<-e2,<-NL its k (acc++its),<-e,List.replicate_succ,List.foldl_cons]
section
variable{X:Cx}{pins:List (Addr × Obj)}{σ:St}{H:Hp}{s:Shared}{l b:Addr}{xs ys zs:List V}
theorem Inv.lset{its its':List Value}{n:Nat}{f:Array Value->Array Value}{t':Nat}(I:Inv X pins σ H s)(hH:H l=some (.lst xs))
  (e:s.heap.get? l=some { cls:=.type "list",data:=.seq its.toArray n }) (hf:f its.toArray=its'.toArray) (hv:Vals ys its') (hz:ys.length<=sizeLine) :
  Inv X pins σ (upd H l (.lst ys)) { s with heap:=s.heap.update l (Obj.mapSeq f),toks:=t' }:=by
 have q:=PySem.IsL.update e f
 rw[hf]at q
 refine I.write (x:=l) (e:=l) (by rw[hH];exact trivial) (.inl rfl) (λb' u hb hu=>(Heap.get?_update_other s.heap (Obj.mapSeq f) (Ne.symm hb)).trans hu) ⟨_,q⟩ ?_
 exact⟨hz,its',_,hv,q⟩
theorem Inv.lnew{its:List Value}{t':Nat}(I:Inv X pins σ H s)(hv:Vals ys its)(hz:ys.length<=sizeLine) :
  Inv X pins σ (upd H s.heap.objs.size (.lst ys)) { s with heap:=s.heap.push { cls:=.type "list",data:=.seq its.toArray },toks:=t' } :=
 I.laid (λ_ _ q=>Heap.get?_push_of_some _ q) (Nat.le_refl _) ⟨hz,its,0,hv,Heap.get?_push_size _ rfl⟩
theorem Inv.fresh(I:Inv X pins σ H s):H s.heap.objs.size=none:=I.hok.fresh (Nat.le_refl _)
theorem Inv.lstM(I:Inv X pins σ H s)(hH:H l=some (.lst xs)):xs.length<=sizeLine/\∃ (its:List Value) (n:Nat),Vals xs its/\xs.length=its.length/\s.heap.get? l=some { cls:=.type "list",data:=.seq its.toArray n }:=by
 obtain⟨z,its,n,r,e⟩:=I.hok l _ hH
 exact⟨z,its,n,r,r.length,e⟩
theorem TR{n:Nat}(h:n<=sizeLine):Builtin.List.listTooLong n=false:=by
 unfold Builtin.List.listTooLong
 exact decide_eq_false (by omega)
end
section
variable{X:Cx}
def NM:V->List V->Hp->VK->Prop:=λx vs H Q=>∃ l xs y,x=.ref l/\vs=[y]/\H l=some (.lst xs)/\xs.length<sizeLine/\Q .non (upd H l (.lst (xs++[y])))
theorem GT:OX X "list.append" NM:=by
 intro pins s σ H x vs v us Q I rx rv h
 obtain⟨l,xs,y,rfl,rfl,hH,hz,q⟩:=h
 cases rx
 obtain⟨u,rfl,ru⟩:=rv.one
 obtain⟨z,its,n,r,hl,e⟩:=I.lstM hH
 refine call_meets F.slot_list_append ⟨_,e,rfl⟩ F.entry_list_append (F.args_list_append_2 _ _) (PySem.list_append l its.toArray n u (by rw[List.size_toArray];omega)) ⟨e,?_⟩
 refine⟨.non,_,I.lset (its':=its++[u]) hH e (by simp) (r.append (.cons ru .nil)) ?_,rfl,q⟩
 rw[List.length_append,List.length_singleton]
 omega
def TU:V->List V->Hp->VK->Prop:=λx vs H Q=>∃ l xs,x=.ref l/\vs=[]/\H l=some (.lst xs)/\Q .non (upd H l (.lst []))
theorem gI:OX X "list.clear" TU:=by
 intro pins s σ H x vs v us Q I rx rv h
 obtain⟨l,xs,rfl,rfl,hH,q⟩:=h
 cases rx
 have hus:=rv.zero
 subst hus
 obtain⟨z,its,n,r,hl,e⟩:=I.lstM hH
 refine call_meets F.slot_list_clear ⟨_,e,rfl⟩ F.entry_list_clear (F.args_list_clear_1 _) (AutoSeq1.list_clear_list_0 l its.toArray n (by rw[List.size_toArray];omega)) ⟨e,?_⟩
 exact⟨.non,_,I.lset (its':=[]) (ys:=[]) hH e rfl .nil (Nat.zero_le _),rfl,q⟩
def OY:R2:=λx y H Q=>∃ l b xs zs,x=.ref l/\y=.ref b/\H l=some (.lst xs)/\H b=some (.lst zs)/\xs.length+zs.length<=sizeLine/\∀ p,H p=none->Q (.ref p) (upd H p (.lst (xs++zs)))
theorem gJ:OpR X (binaryOp .Add) OY:=by
 intro pins s σ H x y v u Q I rx ry h
 obtain⟨l,b,xs,zs,rfl,rfl,hH,hB,hz,q⟩:=h
 cases rx
 cases ry
 obtain⟨z,its,n,r,hl,e⟩:=I.lstM hH
 obtain⟨z2,its2,n2,r2,hl2,e2⟩:=I.lstM hB
 refine PySem.P.add_list e e2 ?_ (by rw[List.size_toArray,List.size_toArray];omega)
 have ea:its.toArray++its2.toArray=(its++its2).toArray:=by simp
 rw[ea]
 exact⟨.ref _,_,I.lnew (t':=s.toks) (r.append r2) (by rw[List.length_append];omega),rfl,q _ I.fresh⟩
def OZ:R2:=λx y H Q=>∃ l k xs,x=.ref l/\y=.int k/\H l=some (.lst xs)/\ -(2 ^ 63)<=k/\k<2 ^ 63/\xs.length * k.toNat<=sizeLine ∧
 ∀ p,H p=none->Q (.ref p) (upd H p (.lst (List.replicate k.toNat xs).flatten))
theorem TX{α :Type}(xs:List α)(k:Nat):(List.replicate k xs).flatten.length=k * xs.length:=by
 induction k with
 | zero=>simp
 | succ k ih=>rw[List.replicate_succ,List.flatten_cons,List.length_append,ih,Nat.succ_mul,Nat.add_comm]
theorem gK:OpR X (binaryOp .Mult) OZ:=by
 intro pins s σ H x y v u Q I rx ry h
 obtain⟨l,k,xs,rfl,rfl,hH,h1,h2,hz,q⟩:=h
 cases rx
 obtain⟨t,rfl⟩:=ry
 obtain⟨z,its,n,r,hl,e⟩:=I.lstM hH
 have hlen:its.toArray.size * k.toNat<=sizeLine:=by rw[List.size_toArray,<-hl];exact hz
 have hcap:¬ its.toArray.size * k.toNat >(2 ^ 63 - 1) / 8:=by
  have:(sizeLine:Nat)<=(2 ^ 63 - 1) / 8:=by decide
  omega
 have hfit:¬ (!Builtin.List.listFitsIndex k)=true:=by
  rw[fitsIndex_both h1 h2]
  exact Bool.false_ne_true
 have hlong:¬ Builtin.List.listTooLong (its.toArray.size * k.toNat)=true:=by
  rw[TR hlen]
  exact Bool.false_ne_true
 have hnew:List.foldl (λx1 x2=>x1++x2) #[] (List.replicate (if its.toArray.isEmpty=true then 0 else k.toNat) its.toArray)=(List.replicate k.toNat its).flatten.toArray:=by
  have f0:∀ m:Nat,List.foldl (λx1 x2=>x1++x2) #[] (List.replicate m its.toArray)=(List.replicate m its).flatten.toArray:=λm=>by
   have:=NL its m []
   rw[List.nil_append]at this
   exact this
  rw[f0]
  cases its with
  | nil=>simp
  | cons a r'=>rw[if_neg (by simp)]
 refine wpAny_binaryOp_repeat_ref (T:="list") (U:="int") (by decide) ⟨_,e,rfl⟩ (λs'=>typeIs_int s' k t) noFill_list_mul F.fills_int_mul F.slot_int_rmul repeat_list F.slot_int_index.lookup
  (call_meets F.slot_int_rmul (typeIs_int s k t) F.entry_int_rmul (F.args_int_rmul_2 _ _) (int___rmul___int_list k t l its.toArray n)
   ⟨e,rfl,⟨_,e,rfl⟩,call_meets F.slot_list_mul ⟨_,e,rfl⟩ F.entry_list_mul (F.args_list_mul_2 _ _) (AutoListH.list___mul___list_int_3 l its.toArray n k t hfit hcap hlong) ⟨e,?_⟩⟩)
 rw[hnew]
 exact⟨.ref _,_,I.lnew (t':=s.toks) (r.rep k.toNat) (by rw[TX,Nat.mul_comm];exact hz),rfl,q _ I.fresh⟩
end
section
variable{prog:Program}{w:World}{A:Around}{E:Value->Shared->Prop}{s:Shared}
set_option maxRecDepth 100000 in
end
section
variable{X:Cx}
end
end L2
namespace L2
section
variable{κ :Type}[DecidableEq κ]
def B7(kvs:List (κ × V))(k: κ):Option V:=(kvs.find? λkv=>decide (kv.1=k)).map (·.2)
def C7(kvs:List (κ × V))(k: κ)(v:V):List (κ × V) :=
 if(kvs.any λkv=>decide (kv.1=k))=true then kvs.map (λkv=>if kv.1=k then(kv.1,v)else kv)else kvs++[(k,v)]
def TY(kvs:List (κ × V))(k: κ):List (κ × V):=kvs.filter λkv=>decide (kv.1≠k)
theorem E5{p: κ × V}{r:List (κ × V)}{k: κ}(e:p.1=k):B7 (p::r) k=some p.2:=by simp[B7,List.find?_cons,e]
theorem E6{p: κ × V}{r:List (κ × V)}{k: κ}(e:¬ p.1=k):B7 (p::r) k=B7 r k:=by simp[B7,List.find?_cons,e]
theorem JF(k: κ):∀ kvs:List (κ × V),(kvs.any λkv=>decide (kv.1=k))=(B7 kvs k).isSome
 | []=>rfl
 | p::r=>by
  rw[List.any_cons]
  by_cases e:p.1=k
  ·simp only[E5 e,decide_eq_true e,Bool.true_or,Option.isSome_some]
  ·rw[E6 e,decide_eq_false e,Bool.false_or];exact JF k r
theorem TZ(k j: κ)(y:V):∀ kvs:List (κ × V),B7 (kvs.map λkv=>if kv.1=k then(kv.1,y)else kv) j=(B7 kvs j).map λx=>if j=k then y else x
 | []=>rfl
 | p::r=>by
  have ih:=TZ k j y r
  rw[List.map_cons]
  by_cases h:p.1=k
  ·rw[if_pos h]
   by_cases e:p.1=j
   ·rw[E5 (p:=(p.1,y)) e,E5 e,Option.map_some,if_pos (e.symm.trans h)]
   ·rw[E6 (p:=(p.1,y)) e,E6 e,ih]
  ·rw[if_neg h]
   by_cases e:p.1=j
   ·rw[E5 (p:=p) e,E5 e,Option.map_some,if_neg (λz=>h (e.trans z))]
   ·rw[E6 (p:=p) e,E6 e,ih]
theorem T1(k j: κ)(y:V):∀ kvs:List (κ × V),B7 kvs k=none->B7 (kvs++[(k,y)]) j=if j=k then some y else B7 kvs j
 | [],_=>by
  by_cases e:k=j
  ·rw[if_pos e.symm];exact E5 (p:=(k,y)) e
  ·rw[if_neg (λz=>e z.symm)];exact E6 (p:=(k,y)) e
 | p::r,hn=>by
  rw[List.cons_append]
  have hk:¬ p.1=k:=λz=>by rw[E5 z]at hn;cases hn
  rw[E6 hk]at hn
  have ih:=T1 k j y r hn
  by_cases e:p.1=j
  ·rw[E5 e,E5 e,if_neg (λz=>hk (e.trans z))]
  ·rw[E6 e,E6 e,ih]
theorem gL(kvs:List (κ × V))(k j: κ)(y:V):B7 (C7 kvs k y) j=if j=k then some y else B7 kvs j:=by
 unfold C7
 by_cases a:(kvs.any λkv=>decide (kv.1=k))=true
 ·rw[if_pos a,TZ]
  rw[JF]at a
  by_cases e:j=k
  ·obtain⟨x,hx⟩:=Option.isSome_iff_exists.mp a
   rw[if_pos e,e,hx,Option.map_some,if_pos rfl]
  ·rw[if_neg e]
   cases B7 kvs j with
   | none=>rfl
   | some x=>rw[Option.map_some,if_neg e]
 ·rw[if_neg a]
  refine T1 k j y kvs ?_
  rw[JF]at a
  cases q:B7 kvs k with
  | none=>rfl
  | some x=>rw[q]at a;exact(a rfl).elim
theorem O0(kvs:List (κ × V))(k: κ)(v:V):(C7 kvs k v).length<=kvs.length+1:=by
 unfold C7
 split
 ·rw[List.length_map];omega
 ·rw[List.length_append,List.length_cons,List.length_nil];omega
theorem T2{kvs:List (κ × V)}{k: κ}(v:V)(h:B7 kvs k=none):C7 kvs k v=kvs++[(k,v)]:=by
 unfold C7
 rw[JF,h]
 exact if_neg (by decide)
theorem RelO.isSome_eq{o:Option V}{u:Option Value}(r:RelO o u):o.isSome=u.isSome:=by
 cases o with
 | none=>cases u with
  | none=>rfl
  | some _=>exact(show False from r).elim
 | some _=>cases u with
  | none=>exact(show False from r).elim
  | some _=>rfl
theorem RelO.getD{o:Option V}{u:Option Value}{d:V}{d':Value}(r:RelO o u)(rd:RelV d d'):RelV (o.getD d) (u.getD d'):=by
 cases o with
 | none=>cases u with
  | none=>exact rd
  | some _=>exact(show False from r).elim
 | some _=>cases u with
  | none=>exact(show False from r).elim
  | some _=>exact r
theorem KV.val{kvs:List (κ × V)}{vs:List (κ × Value)}(r:KV kvs vs)(k: κ):RelO (B7 kvs k) (valueAt vs k):=by
 unfold KV at r
 induction r with
 | nil=>exact True.intro
 | @cons p q ps qs h t ih =>
  obtain⟨h1,h2⟩:=h
  by_cases e:p.1=k
  ·have e':q.1=k:=h1.symm.trans e
   have b:valueAt (q::qs) k=some q.2:=by simp[valueAt,List.find?_cons,e']
   rw[E5 e,b];exact h2
  ·have e':¬ q.1=k:=λz=>e (h1.trans z)
   have b:valueAt (q::qs) k=valueAt qs k:=by simp[valueAt,List.find?_cons,e']
   rw[E6 e,b];exact ih
theorem KV.any{kvs:List (κ × V)}{vs:List (κ × Value)}(r:KV kvs vs)(k: κ):(kvs.any λkv=>decide (kv.1=k))=vs.any λkv=>decide (kv.1=k):=by
 unfold KV at r
 induction r with
 | nil=>rfl
 | cons h t ih=>rw[List.any_cons,List.any_cons,ih,h.1]
theorem KV.repl{kvs:List (κ × V)}{vs:List (κ × Value)}(r:KV kvs vs)(k: κ){y:V}{u:Value}(ry:RelV y u) :
  KV (kvs.map λkv=>if kv.1=k then(kv.1,y)else kv) (vs.map λkv=>if kv.1=k then(kv.1,u)else kv):=by
 unfold KV at r ⊢
 induction r with
 | nil=>exact .nil
 | @cons p q ps qs h t ih =>
  rw[List.map_cons,List.map_cons]
  refine .cons ?_ ih
  obtain⟨h1,h2⟩:=h
  by_cases e:p.1=k
  ·rw[if_pos e,if_pos (h1.symm.trans e)];exact⟨h1,ry⟩
  ·rw[if_neg e,if_neg (λz=>e (h1.trans z))];exact⟨h1,h2⟩
theorem KV.put{kvs:List (κ × V)}{vs:List (κ × Value)}(r:KV kvs vs)(k: κ){y:V}{u:Value}(ry:RelV y u):KV (C7 kvs k y) (stored vs k u):=by
 unfold C7 stored
 rw[r.any k]
 by_cases e:(vs.any λkv=>decide (kv.1=k))=true
 ·rw[if_pos e,if_pos e];exact r.repl k ry
 ·rw[if_neg e,if_neg e];exact Paired.snoc r ⟨rfl,ry⟩
theorem KV.drop{kvs:List (κ × V)}{vs:List (κ × Value)}(r:KV kvs vs)(k: κ):KV (TY kvs k) (without vs k):=by
 unfold KV at r ⊢
 unfold TY without
 induction r with
 | nil=>exact .nil
 | @cons p q ps qs h t ih =>
  obtain⟨h1,h2⟩:=h
  rw[List.filter_cons,List.filter_cons]
  by_cases e:p.1=k
  ·have a:¬ decide (p.1≠k)=true:=by simp[e]
   have b:¬ decide (q.1≠k)=true:=by simp[h1.symm.trans e]
   rw[if_neg a,if_neg b];exact ih
  ·have e':¬ q.1=k:=λz=>e (h1.trans z)
   have a:decide (p.1≠k)=true:=by simp[e]
   have b:decide (q.1≠k)=true:=by simp[e']
   rw[if_pos a,if_pos b];exact .cons ⟨h1,h2⟩ ih
theorem KV.keys{kvs:List (κ × V)}{vs:List (κ × Value)}(r:KV kvs vs):kvs.map (·.1)=vs.map (·.1):=by
 unfold KV at r
 induction r with
 | nil=>rfl
 | cons h t ih=>rw[List.map_cons,List.map_cons,ih,h.1]
theorem KV.length{kvs:List (κ × V)}{vs:List (κ × Value)}(r:KV kvs vs):kvs.length=vs.length:=Paired.length r
end
theorem O1{P:Program}{w:World}{k:A0}{u:Value}(r:RelV (kV k) u):(D7 P w).is k u=true:=by
 cases k with
 | inl i=>obtain⟨t,e⟩:=(show ∃ t,u=Value.int i t from r);subst e;exact dI P w i t
 | inr x=>obtain⟨t,e⟩:=(show ∃ t,u=Value.str x t from r);subst e;exact dJ P w x t
theorem T3{P:Program}{w:World}:∀ {ks:List A0} {us:List Value},Vals (ks.map kV) us->ItemsAre (D7 P w) ks us
 | [],_,r=>by rw[List.map_nil]at r;cases r;exact .nil
 | k::ks,_,r=>by
  rw[List.map_cons]at r
  cases r with
  | cons h t=>exact .cons (O1 h) (T3 t)
abbrev KT(H:Hp):List (List A0 × V)->List (List A0 × Addr × Value)->Prop:=Paired λp q=>p.1=q.1/\H q.2.1=some (.tup (p.1.map kV))/\RelV p.2 q.2.2
theorem KT.val{H:Hp}{kvs:List (List A0 × V)}{xs:List (List A0 × Addr × Value)}(r:KT H kvs xs)(k:List A0):RelO (B7 kvs k) ((atKey xs k).map (·.2)):=by
 induction r with
 | nil=>exact True.intro
 | @cons p q ps qs h t ih =>
  obtain⟨h1,_,h2⟩:=h
  by_cases e:p.1=k
  ·have e':q.1=k:=h1.symm.trans e
   have b:atKey (q::qs) k=some q.2:=by simp[atKey,List.find?_cons,e']
   rw[E5 e,b];exact h2
  ·have e':¬ q.1=k:=λz=>e (h1.trans z)
   have b:atKey (q::qs) k=atKey qs k:=by simp[atKey,List.find?_cons,e']
   rw[E6 e,b];exact ih
theorem KT.repl{H:Hp}{kvs:List (List A0 × V)}{xs:List (List A0 × Addr × Value)}(r:KT H kvs xs)(k:List A0){y:V}{u:Value}(ry:RelV y u) :
  KT H (kvs.map λkv=>if kv.1=k then(kv.1,y)else kv) (xs.map (putAt k u)):=by
 induction r with
 | nil=>exact .nil
 | @cons p q ps qs h t ih =>
  rw[List.map_cons,List.map_cons]
  refine .cons ?_ ih
  obtain⟨h1,h2,h3⟩:=h
  unfold putAt
  by_cases e:p.1=k
  ·rw[if_pos e,if_pos (h1.symm.trans e)];exact⟨h1,h2,ry⟩
  ·rw[if_neg e,if_neg (λz=>e (h1.trans z))];exact⟨h1,h2,h3⟩
theorem KT.put{H:Hp}{kvs:List (List A0 × V)}{xs:List (List A0 × Addr × Value)}(r:KT H kvs xs)(k:List A0){b:Addr}{y:V}{u:Value}(hb:H b=some (.tup (k.map kV)))(ry:RelV y u) :
  KT H (C7 kvs k y) (storedH xs k b u):=by
 have e:(kvs.any λkv=>decide (kv.1=k))=(atKey xs k).isSome:=by
  rw[JF,(r.val k).isSome_eq,Option.isSome_map]
 unfold C7 storedH
 rw[e]
 by_cases q:(atKey xs k).isSome=true
 ·rw[if_pos q,if_pos q];exact r.repl k ry
 ·rw[if_neg q,if_neg q];exact Paired.snoc r ⟨rfl,hb,ry⟩
theorem KT.keeps{H H':Hp}{kvs:List (List A0 × V)}{xs:List (List A0 × Addr × Value)}(r:KT H kvs xs)(ht:∀ b ys,H b=some (.tup ys)->H' b=some (.tup ys)):KT H' kvs xs :=
 Paired.mapP r λ_ _ z=>⟨z.1,ht _ _ z.2.1,z.2.2⟩
section
variable{P:Program}{w:World}{H:Hp}{h:Heap}{a:Addr}
theorem T4{u:HO}(ok:HOk P w H h)(e:Rd H a u):ObjOk P w H h a u:=e.ok ok
theorem T5{kvs:List (A0 × V)}(ok:HOk P w H h)(e:Rd H a (.dK kvs)):kvs.length<=sizeLine/\(a == sysModules)=false/\∃ vs,KV kvs vs/\h.DictOf (D7 P w) a vs :=
 show ObjOk P w H h a (.dK kvs)from T4 ok e
theorem gM{kvs:List (A0 × V)}(ok:HOk P w H h)(e:H a=some (.dK kvs)):kvs.length<=sizeLine/\(a == sysModules)=false/\∃ vs,KV kvs vs/\h.DictOf (D7 P w) a vs:=T5 ok (.inl e)
theorem O2{ks:List A0}(ok:HOk P w H h)(e:H a=some (.tup (ks.map kV))):(tupleKind (D7 P w)).is h ks a:=by
 obtain⟨_,its,r,o,h1,h2,n,h3⟩:=(show ObjOk P w H h a (.tup (ks.map kV))from ok a _ e)
 exact⟨o,its.toArray,n,h1,h2,h3,by simpa using T3 r⟩
theorem T6{kvs:List (List A0 × V)}(ok:HOk P w H h)(e:Rd H a (.dT kvs)):kvs.length<=sizeLine/\(a == sysModules)=false ∧
  ∃ xs,KT H kvs xs/\h.DictOfH (tupleKind (D7 P w)) a xs:=by
 obtain⟨z,y,xs,r,o,es,ep,h1,h2,h3,h4,h5⟩:=(show ObjOk P w H h a (.dT kvs)from T4 ok e)
 refine⟨z,y,xs,r,o,es,ep,h1,h2,h3,h4,λx hx=> ?_,h5⟩
 have all:∀ {l:List (List A0 × V)} {m:List (List A0 × Addr × Value)},KT H l m->∀ x∈m,(tupleKind (D7 P w)).is h x.1 x.2.1:=by
  intro l m q
  induction q with
  | nil=>intro x hx;exact nomatch hx
  | @cons p q ps qs hq t ih =>
   intro x hx
   rcases List.mem_cons.mp hx with e | hx
   ·subst e
    exact O2 ok (by rw[<-hq.1];exact hq.2.1)
   ·exact ih x hx
 exact all r x hx
theorem gN{kvs:List (List A0 × V)}(ok:HOk P w H h)(e:H a=some (.dT kvs)):kvs.length<=sizeLine/\(a == sysModules)=false ∧
  ∃ xs,KT H kvs xs/\h.DictOfH (tupleKind (D7 P w)) a xs:=T6 ok (.inl e)
end
def DGet(H:Hp)(a:Addr)(y:V)(r:Option V):Prop :=
 (∃ kvs k,Rd H a (.dK kvs)/\y=kV k/\r=B7 kvs k)\/∃ kvs k b,Rd H a (.dT kvs)/\y=.ref b/\H b=some (.tup (k.map kV))/\r=B7 kvs k
def DPut(H:Hp)(a:Addr)(y v:V)(H':Hp):Prop :=
 (∃ kvs k,H a=some (.dK kvs)/\y=kV k/\kvs.length<sizeLine/\H'=upd H a (.dK (C7 kvs k v))) ∨
 ∃ kvs k b,H a=some (.dT kvs)/\y=.ref b/\H b=some (.tup (k.map kV))/\kvs.length<sizeLine/\H'=upd H a (.dT (C7 kvs k v))
theorem DGet.k{H:Hp}{a:Addr}{kvs:List (A0 × V)}{k:A0}(e:H a=some (.dK kvs)):DGet H a (kV k) (B7 kvs k):=.inl ⟨kvs,k,.inl e,rfl,rfl⟩
theorem DGet.t{H:Hp}{a b:Addr}{kvs:List (List A0 × V)}{k:List A0}(e:H a=some (.dT kvs))(eb:H b=some (.tup (k.map kV))):DGet H a (.ref b) (B7 kvs k):=.inr ⟨kvs,k,b,.inl e,rfl,eb,rfl⟩
theorem DPut.k{H:Hp}{a:Addr}{kvs:List (A0 × V)}{k:A0}{v:V}(e:H a=some (.dK kvs))(hl:kvs.length<sizeLine):DPut H a (kV k) v (upd H a (.dK (C7 kvs k v))):=.inl ⟨kvs,k,e,rfl,hl,rfl⟩
theorem DPut.t{H:Hp}{a b:Addr}{kvs:List (List A0 × V)}{k:List A0}{v:V}(e:H a=some (.dT kvs))(eb:H b=some (.tup (k.map kV)))(hl:kvs.length<sizeLine) :
  DPut H a (.ref b) v (upd H a (.dT (C7 kvs k v))):=.inr ⟨kvs,k,b,e,rfl,eb,hl,rfl⟩
section
variable{X:Cx}{pins:List (Addr × Obj)}{σ:St}{H:Hp}{s:Shared}{a:Addr}{y v:V}{u r:Value}{o:Option V}{A:Around}{E:Value->Shared->Prop}
theorem Inv.big(I:Inv X pins σ H s):sysModules<s.heap.objs.size:=by
 have h:mainGlobals<s.heap.objs.size:=(I.mod.glob.keeps I.bk).lt
 exact Nat.lt_trans (by decide) h
theorem gO{Q:Value->Shared->Prop}(hu:A.units+1<cLine)(I:Inv X pins σ H s)(g:DGet H a y o)(ry:RelV y u)(h:∀ s',Inv X pins σ H s'->Q (.bool o.isSome) s') :
  wpAny (model X.prog X.w) A (compareOp .In u (.ref a)) Q E s:=by
 rcases g with⟨kvs,k,e,ey,l⟩ | ⟨kvs,k,b,e,ey,eb,l⟩
 ·subst ey
  obtain⟨z,hd,vs,rel,dd⟩:=T5 I.hok e
  refine wpAny_in_of (O1 ry) hd dd.mapOf ?_
  rw[<-(rel.val k).isSome_eq,<-l]
  exact h _ (I.tok _)
 ·subst ey
  cases (show u=Value.ref b from ry)
  obtain⟨z,hd,xs,rel,dd⟩:=T6 I.hok e
  refine wpAny_in_heap (tupleKind_room_in1 hu) (O2 I.hok eb) hd dd ?_
  have q:=(rel.val k).isSome_eq
  rw[Option.isSome_map]at q
  rw[<-q,<-l]
  exact h _ (I.tok _)
theorem T7{h':Heap}{t':Nat}{ob:HO}(I:Inv X pins σ H s)(mu:K1 (H a))(hs:Heap.SameBut a s.heap h')(he:∃ q,h'.get? a=some q)(new:ObjOk X.prog X.w (upd H a ob) h' a ob) :
  Inv X pins σ (upd H a ob) { s with heap:=h',toks:=t' } :=
 I.write (x:=a) (e:=a) mu (.inl rfl) (λb q hb z=>(hs.2 b hb).trans z) he new
theorem gP{P:Program}{w:World}{H':Hp}{h':Heap}{kvs:List (A0 × V)}{vs:List (A0 × Value)}(z:kvs.length<=sizeLine)(hd:(a == sysModules)=false)(rel:KV kvs vs)(dd:h'.DictOf (D7 P w) a vs) :
  ObjOk P w H' h' a (.dK kvs):=⟨z,hd,vs,rel,dd⟩
theorem gQ{H':Hp}{Q:Unit->Shared->Prop}(hu:A.units+1<cLine)(I:Inv X pins σ H s)(g:DPut H a y v H')(ry:RelV y u)(rv:RelV v r)(h:∀ s',Inv X pins σ H' s'->Q () s') :
  wpAny (model X.prog X.w) A (setItem (.ref a) u r) Q E s:=by
 rcases g with⟨kvs,k,e,ey,l,eH⟩ | ⟨kvs,k,b,e,ey,eb,l,eH⟩
 ·subst ey eH
  obtain⟨z,hd,vs,rel,dd⟩:=gM I.hok e
  have hz:vs.length<=sizeLine:=by rw[<-rel.length];exact z
  have hl:(C7 kvs k v).length<=sizeLine:=by have:=O0 kvs k v;omega
  refine wpAny_setItem_pairs (hsz:=hz) (O1 ry) dd λh' dd' hs=>h _ ?_
  have he:∃ q,h'.get? a=some q:=let ⟨q,_,_,hq,_⟩:=dd';⟨q,hq⟩
  exact T7 I (by rw[e];exact True.intro) hs he (gP hl hd (rel.put k rv) dd')
 ·subst ey eH
  cases (show u=Value.ref b from ry)
  obtain⟨z,hd,xs,rel,dd⟩:=gN I.hok e
  have hz:xs.length<=sizeLine:=by rw[<-Paired.length rel];exact z
  have hl:(C7 kvs k v).length<=sizeLine:=by have:=O0 kvs k v;omega
  refine wpAny_setItem_heap (hsz:=hz) (tupleKind_room_in1 hu) (O2 I.hok eb) dd λh' dd' hs=>h _ ?_
  obtain⟨q,es,ep,hq,h2,h3,h4,_,h5⟩:=dd'
  refine T7 I (by rw[e];exact True.intro) hs ⟨q,hq⟩ ⟨hl,hd,_,(rel.put k eb rv).keeps λc ys ec=> ?_,q,es,ep,hq,h2,h3,h4,h5⟩
  rw[AS (DA ec e (λz=>nomatch z))]
  exact ec
end
section
variable{X:Cx}{pins:List (Addr × Obj)}{σ:St}{H:Hp}{s:Shared}{a:Addr}{kvs:List (A0 × V)}{k:A0}{u:Value}{A:Around}{E:Value->Shared->Prop}
end
def gR(td ty:TE):TE:=λσ H Q=>td σ H λx H1=>ty σ H1 λy H2=>∃ a v,x=.ref a/\DGet H2 a y (some v)/\Q v H2
def O3(ty td:TE):TE:=λσ H Q=>ty σ H λy H1=>td σ H1 λx H2=>∃ a o,x=.ref a/\DGet H2 a y o/\Q (.bl o.isSome) H2
def gS(ty td:TE):TE:=λσ H Q=>ty σ H λy H1=>td σ H1 λx H2=>∃ a o,x=.ref a/\DGet H2 a y o/\Q (.bl (!o.isSome)) H2
def O4(td ty tv:TE):TS:=λD σ H=>tv σ H λv H1=>td σ H1 λx H2=>ty σ H2 λy H3=>∃ a H4,x=.ref a/\DPut H3 a y v H4/\D.nx σ H4
section
variable{X:Cx}{o i e value:Expr}{pos pos' tpos:Pos}{td ty tv:TE}
theorem gT(hu:X.A.units+1<cLine)(hi:PE X i ty)(ho:PE X o td):PC X .In i o (O3 ty td):=by
 intro pins s σ H Q I h
 refine AV (hi pins s σ H _ I h) λiv s1 ⟨y,H1,I1,ry,q1⟩=>AV (ho pins s1 σ H1 _ I1 q1) λu s2 ⟨x,H2,I2,rx,a,ov,ex,g,q2⟩=> ?_
 subst ex
 obtain rfl:u=Value.ref a:=rx
 exact gO hu I2 g ry λs3 I3=>⟨.bl ov.isSome,H2,I3,rfl,q2⟩
theorem gU(hu:X.A.units+1<cLine)(ho:PE X o td)(hi:PE X i ty)(hv:PE X value tv)(hs:swapsWith value (some (.Subscript o i pos')) pos.line X.env=pure false) :
  PS X (.Assign [.Subscript o i pos'] value pos) (O4 td ty tv):=by
 intro pins s σ H D I h
 refine wpAny_Assign_Subscript (AV (hv pins s σ H _ I h) λr s1 ⟨v,H1,I1,rv,q1⟩=>AV (ho pins s1 σ H1 _ I1 q1) λu s2 ⟨x,H2,I2,rx,q2⟩=>AV (hi pins s2 σ H2 _ I2 q2) λiv s3 ⟨y,H3,I3,ry,a,H4,ex,g,q3⟩=> ?_) hs
 subst ex
 obtain rfl:u=Value.ref a:=rx
 exact gQ hu I3 g ry rv λs4 I4=>⟨σ,H4,I4,q3⟩
end
theorem gW{P:Program}{w:World}{H:Hp}(h:Heap)(hb:sysModules<h.objs.size):ObjOk P w H (h.push { cls:=.type "dict",data:=.dict #[] }) h.objs.size (.dK []) :=
 ⟨Nat.zero_le _,beq_eq_false_iff_ne.mpr (Ne.symm (Nat.ne_of_lt hb)),[],.nil,Heap.DictOf.new h⟩
def O5:TE:=λ_ H Q=>∀ p,H p=none->Q (.ref p) (upd H p (.dK []))
def gX:TE:=λ_ H Q=>∀ p,H p=none->Q (.ref p) (upd H p (.dT []))
section
variable{X:Cx}{pos:Pos}
theorem gY:PE X (.Dict [] [] pos) O5:=λpins s σ H Q I h =>
 wpAny_Dict_empty ⟨.ref s.heap.objs.size,_,I.laid (a:=s.heap.objs.size) (o:=.dK []) (t':=s.toks) (λ_ _ q=>Heap.get?_push_of_some _ q) (Nat.le_refl _) (gW s.heap I.big),rfl,h _ (I.hok.fresh (Nat.le_refl _))⟩
end
structure M1(X:Cx)(o:Expr)(m:Str)(apos:Pos)(e:Expr)(cpos:Pos):Prop where
 base:attributeBase o m X.env (eval o X.env)=eval o X.env
 few:((backTo cpos (starEach [e] X.env)).all (λx=> !x.1) && (backToKw cpos (keywordEach [] X.env)).all (λx=>x.1.isSome)
  && decide (([e]:List Expr).length+([]:List Keyword).length+(if([]:List Keyword).isEmpty then 0 else 1)<30))=true
 line:(apos.endLine == cpos.line)=true
 trees:backTo cpos (starEach [e] X.env)=[(false,eval e X.env)]
structure M2(X:Cx)(o:Expr)(m:Str)(apos:Pos)(e f:Expr)(cpos:Pos):Prop where
 base:attributeBase o m X.env (eval o X.env)=eval o X.env
 few:((backTo cpos (starEach [e,f] X.env)).all (λx=> !x.1) && (backToKw cpos (keywordEach [] X.env)).all (λx=>x.1.isSome)
  && decide (([e,f]:List Expr).length+([]:List Keyword).length+(if([]:List Keyword).isEmpty then 0 else 1)<30))=true
 line:(apos.endLine == cpos.line)=true
 trees:backTo cpos (starEach [e,f] X.env)=[(false,eval e X.env),(false,eval f X.env)]
def T8(H:Hp)(a:Addr):Prop:=(∃ kvs,Rd H a (.dK kvs))\/∃ kvs,Rd H a (.dT kvs)
section
variable{X:Cx}{pins:List (Addr × Obj)}{σ:St}{H:Hp}{s:Shared}{a:Addr}{y d:V}{u r:Value}{o:Option V}{A:Around}{E:Value->Shared->Prop}
end
def gZ(td ty:TE):TE:=λσ H Q=>td σ H λx H1=>∃ a,x=.ref a/\T8 H1 a/\ty σ H1 λy H2=>∃ o,DGet H2 a y o/\Q (o.getD .non) H2
section
variable{X:Cx}{o e f:Expr}{apos cpos:Pos}{td ty tx:TE}
end
section
variable{X:Cx}{pins:List (Addr × Obj)}{σ:St}{H:Hp}{s:Shared}{a:Addr}{kvs:List (A0 × V)}{A:Around}{E:Value->Shared->Prop}
end
section
variable{X:Cx}{pins:List (Addr × Obj)}{σ:St}{H:Hp}{s:Shared}{a:Addr}{y:V}{u:Value}{A:Around}{E:Value->Shared->Prop}
end
end L2
namespace Att
open PySem PySem.W PySem.Calls PyProof.Rows
theorem g4{P:Params}{h:Heap}:∀ (ns:List Int) (vs:List Value),WellAll P h vs (ns.map WData.int)->IntsAre vs ns:=by
 intro ns
 induction ns with
 | nil =>
  intro vs w
  rw[List.map_nil]at w
  cases w
  exact .nil
 | cons n ns ih =>
  intro vs w
  rw[List.map_cons]at w
  cases w with
  | cons a b =>
   cases a
   exact .cons _ _ (ih _ b)
theorem g5{l:OpenLaw}{n:Nat}(hn:l.most=some n){P:Params}{h:Heap}{args:List WData}{vals:List Value}
  (hpre:l.row.toRowW.claim.pre args=true) (hwl:WellAll P h vals args) :
  ∃ a vs ns,vals=[Value.ref a]/\args=[WData.list (ns.map WData.int)]/\h.get? a=some { cls:=.type "list",data:=.seq vs.toArray }/\IntsAre vs ns/\ns.length<=n:=by
 have hsh:WShape.hasAll [] args [.list .int]=true:=(pre_splitW hpre).1
 have hc:l.pre.holds [] { args:=args }=true:=(pre_splitW hpre).2
 obtain⟨d,r,rfl,h1,h2⟩:=hasAllW_cons hsh
 obtain rfl:=hasAllW_nil h2
 obtain⟨xs,rfl,h3⟩:=hasW_list h1
 obtain⟨ns,rfl⟩:=items_int h3
 have hlen:ns.length<=n:=by
  unfold OpenLaw.pre at hc
  have h4:(WTm.not (.lt (.lit (.int (n:Int))) (.len (.arg 0)))).holds [] { args:=[.list (ns.map .int)] }=true:=by
   have h4:=(holds_andW hc).1
   rw[hn]at h4
   exact h4
  have h5:=condW_of h4 (w_not (w_lt w_lit (w_len_list (w_arg rfl))))
  rw[List.length_map]at h5
  refine Nat.le_of_not_lt λq=> ?_
  have q':(n:Int)<((ns.length:Nat):Int):=by omega
  first
   | (rw[decide_eq_true q']at h5;exact absurd h5 (by decide))
   | (simp at h5;omega)
 cases hwl with
 | cons w1 w2 =>
  cases w2
  cases w1 with
  | list ho hall=>exact⟨_,_,ns,rfl,rfl,ho,g4 ns _ hall,hlen⟩
theorem g6(l:OpenLaw)(args:List WData):l.row.toRowW.claim.post args (.bool true) args=true :=
 postW_of (r:=l.row.toRowW) (X:=(true == true))
  (show WShape.has [] (.bool true) .bool=true by first | rfl | decide | simp[WShape.has,WShape.arms,WShape.armsAll])
  (show(WTm.eq .res (.lit (.bool true))).value [] { args:=args,res:=some (.bool true),after:=args }=some (.bool (true == true))from w_eq_bool (w_res rfl) w_lit) rfl
theorem attach_call{l:OpenLaw}{n:Nat}{q:Program}{loose:List Str}{XP:(Str->Option Value)->Heap->Prop}{YP:World->Heap->Prop}{d:DefRec}
  (hn:l.most=some n) (hdf:d.params.defaults=[])
  (call:∀ (w:World) (s₀ s₁:Shared) (mg mb:Str->Option Value) (fa:Addr) (o:Obj) (pm cd doc:Value) (a:Addr) (vs:List Value) (ns:List Int),
   Ground q loose [] XP w s₀ mg mb s₁.heap->YP w s₁.heap →
   s₁.heap.get? fa=some o->o.data=.func (docDef d.name d.params d.body d.scope pm cd doc)->s₁.heap.CodeRec cd d.name->mg d.name=some (.ref fa) →
   s₁.heap.get? a=some { cls:=.type "list",data:=.seq vs.toArray }->IntsAre vs ns->ns.length<=n->s₁.gens= #[] →
   codeAny (model l.prog w) callerA (.call (.ref fa) ⟨[.ref a],[]⟩) (λr s'=>r=.ok (.ret (.bool true))/\OldK s₁.heap s'.heap/\s'.os=s₁.os/\AllBare s'.gens) s₁) :
  WalkO q loose XP YP l.row.toRowW d [] (λf vs=>PySem.call f vs):=by
 intro w s₀ s₁ mg mb G Y fa o pm cd doc dV kV ho hd hcd hD hmg hg args vals as hpre hlay hrd hwl hlo
 obtain rfl:dV=.none:=Dflts.none hD hdf
 obtain rfl:kV=.none:=Dflts.noKw hD
 obtain⟨a,vs,ns,rfl,rfl,hobj,hints,hlen⟩:=g5 hn hpre hwl
 refine enter_call (codeAny_mono (call w s₀ s₁ mg mb fa o pm cd doc a vs ns G Y ho (fd_plain hd) hcd hmg hobj hints hlen hg) λr s' hq=> ?_)
 obtain⟨rfl,h2,h3,h4⟩:=hq
 exact⟨.inl ⟨.bool true,.bool true,[],rfl,λ_=>rfl,.bool true,g6 l _,λ_=>⟨List.Pairwise.nil,λ_ hm=>(nomatch hm)⟩⟩,h2,h3,h4⟩
section
variable{prog:Program}{w:World}{A:Around}{E:Value->Shared->Prop}{s:Shared}{K:Frag}
def Hd(h:Heap)(L d:Addr):List (Addr × Obj):=(List.range h.objs.size).filterMap λa=>if a=L\/a=d then none else(h.get? a).map λo=>(a,o)
end
end Att
namespace L2
theorem T9:∀ {vs:List Value} {ns:List Int},IntsAre vs ns->Vals (ns.map V.int) vs
 | _,_,.nil=>.nil
 | _,_,.cons n t h=>.cons ⟨t,rfl⟩ (T9 h)
def O6(H:Hp):Prop:=∀ b,H b=none\/∃ o xs,H b=some (.frz o (.lst xs))
theorem g7 {P:Program} {w:World} {K:W.Frag} {mg mb:Str->Option Value} {CX:D9} {k:Nat} {fa a:Addr} {fd:FuncData} {x:Str} {sp:Sp} {s₁:Shared} {vs:List Value} {ns:List Int}
    (KX:K.In s₁.heap) (hns:s₁.heap.Ns mainGlobals mg) (hb:s₁.heap.Ns builtinsNs mb) (hbb:∀ x:Str,x≠"__name__"->mb x=bootBuiltins x) (hlim:s₁.heap.NoLimit) (hg:s₁.gens= #[])
    (ha:s₁.heap.get? a=some { cls:=.type "list",data:=.seq vs.toArray }) (hi:IntsAre vs ns) (hl:ns.length<=sizeLine) (hr:Room k callerA)
    (F:∀ base:Heap,K.In base->base.Ns mainGlobals mg->FnOk P w K mg base CX k fa fd [x] sp) (hbind:∀ (s:Shared) (u:Value),BindsTo s fd ⟨[u],[]⟩ [(x,u)])
    (hsp:∀ H:Hp,O6 H->SqL K H a (ns.map V.int)->sp [.ref a] H (λv _=>v=.bl true) λ_ _ _=>False)
    (hCX:∀ H e s',CX [] H s₁ (λ_ _ _=>False) e s'->False) :
    codeAny (model P w) callerA (.call (.ref fa) ⟨[.ref a],[]⟩) (λr s'=>r=.ok (.ret (.bool true))/\OldK s₁.heap s'.heap/\s'.os=s₁.os/\AllBare s'.gens) s₁:=by
  have rv:=T9 hi
  have lenV:=hi.length
  have core:∀ H:Hp,O6 H->SqL K H a (ns.map V.int)->HOk P w H s₁.heap->(∀ b,H b≠none->b=a)->(H a≠none->K.lookup a=none) →
      codeAny (model P w) callerA (.call (.ref fa) ⟨[.ref a],[]⟩) (λr s'=>r=.ok (.ret (.bool true))/\OldK s₁.heap s'.heap/\s'.os=s₁.os/\AllBare s'.gens) s₁:=by
    intro H hO hS hok hA hK
    have base_of:∀ {b:Addr} {o:Obj},s₁.heap.get? b=some o->H b=none->(FV s₁.heap H).get? b=some o:=λe n=>dN e n
    have noA:∀ {b:Addr} {o:Obj} {es:Array DictEntry} {ep:Nat},s₁.heap.get? b=some o->o.data=.dict es ep->H b=none:=λ{b o es ep} e d=>by
      cases q:H b with
      | none=>rfl
      | some u =>
        have e':b=a:=hA b (by rw[q];simp)
        subst e'
        rw[ha]at e;cases e
        have d':Data.seq vs.toArray _=Data.dict es ep:=d
        cases d'
    have nsK:∀ {b:Addr} {m:Str->Option Value},s₁.heap.Ns b m->(FV s₁.heap H).Ns b m:=λ{b m} ⟨o,es,ep,e,d,r⟩=>⟨o,es,ep,base_of e (noA e d),d,r⟩
    have hKb:K.In (FV s₁.heap H):=λb o e=>base_of (KX b o e) (by
      cases q:H b with
      | none=>rfl
      | some u =>
        have e':b=a:=hA b (by rw[q];simp)
        subst e'
        rw[hK (by rw[q];simp)]at e;cases e)
    have hM:Mod K mg (FV s₁.heap H):=⟨hKb,nsK hns,⟨mb,nsK hb,hbb⟩,let ⟨mc,h1,h2⟩:=hlim;⟨mc,nsK h1,h2⟩⟩
    have e0:Env0 P w K mg (FV s₁.heap H) callerA [] s₁ H:=⟨rfl,hM,λb o e=>dO e,Nat.le_of_eq (dM _ _),trivial,λb hb=>absurd (show b∈([]:List Addr)from hb) (by simp),hok,.of_eq hg⟩
    refine codeAny_mono ((F _ hKb (nsK hns)).run callerA [] s₁ H ⟨[.ref a],[]⟩ [.ref a] [.ref a] _ _ hr e0 (hbind s₁ (.ref a)) (.cons rfl .nil) (hsp H hO hS)) λr s' h=> ?_
    cases r with
    | error e=>exact(hCX H e s' h).elim
    | ok fl =>
      cases fl with
      | next=>exact False.elim h
      | brk=>exact False.elim h
      | cont=>exact False.elim h
      | ret u =>
        obtain⟨v,H',os,bare,un,hok',r',q⟩:=h
        have q':v=.bl true:=q
        subst q'
        obtain rfl:u=Value.bool true:=r'
        refine⟨rfl,OldK.of_keep λb o e=> ?_,os,bare⟩
        cases q:H b with
        | none=>exact un.keep b o e q (by intro z;exact absurd (show b∈([]:List Addr)from z) (by simp)) (by simp)
        | some u =>
          rcases hO b with z | ⟨ob,xs,z⟩
          ·rw[q]at z;cases z
          · have z2:=un.frzs b ob _ z
            obtain⟨e1,_⟩:=hok b _ z
            obtain⟨e2,_⟩:=hok' b _ z2
            rw[e]at e1;cases e1
            exact e2
  cases hk:K.lookup a with
  | some o =>
    have e:=KX a o hk
    rw[ha]at e
    cases e
    refine core (λ_=>none) (λ_=>.inl rfl) (.inr ⟨_,vs.toArray,_,hk,rfl,rfl,rfl,by rw[List.size_toArray,lenV];exact hl,by simpa using rv⟩) (λb u z=>by have z':(none:Option HO)=some u:=z;cases z') (λb z=>absurd rfl z) λz=>absurd rfl z
  | none =>
    refine core (λb=>if b=a then some (.frz { cls:=.type "list",data:=.seq vs.toArray } (.lst (ns.map V.int)))else none) (λb=> ?_) (.inl (.inr ⟨{ cls:=.type "list",data:=.seq vs.toArray },if_pos rfl⟩)) (λb u z=> ?_) (λb z=> ?_) λ_=>hk
    · by_cases hb:b=a
      ·exact .inr ⟨_,_,if_pos hb⟩
      ·exact .inl (if_neg hb)
    · by_cases hb:b=a
      · have z':=(if_pos hb).symm.trans z
        cases z'
        subst hb
        exact⟨ha,by rw[List.length_map];exact hl,vs,_,rv,ha⟩
      · have z':=(if_neg hb).symm.trans z
        cases z'
    · by_cases hb:b=a
      ·exact hb
      ·exact absurd (if_neg hb) z
end L2
namespace L2
abbrev Hg{K:W.Frag}{h:Heap}(_:K.In h):W.Frag:=K
theorem walk_of{l:W.OpenLaw}{n k:Nat}{q:Program}{loose:List Str}{XP:(Str->Option Value)->Heap->Prop}{YP:World->Heap->Prop}{d:DefRec}{K:Params->W.Frag}{CX:World->D9}{sp:World->Sp}{x:Str}
  (hn:l.most=some n) (hn2:n<=sizeLine) (hdf:d.params.defaults=[]) (hr:Room k callerA)
  (hY:∀ (w:World) (h:Heap),YP w h->(K w.params).In h)
  (F:∀ (w:World) (mg:Str->Option Value) (fa:Addr) (h:Heap),(K w.params).In h->h.Ns mainGlobals mg->mg d.name=some (.ref fa) →
   ∃ fd:FuncData,(∀ (s:Shared) (u:Value),BindsTo s fd ⟨[u],[]⟩ [(x,u)]) ∧
    ∀ base:Heap,(K w.params).In base->base.Ns mainGlobals mg->FnOk l.prog w (K w.params) mg base (CX w) k fa fd [x] (sp w))
  (hsp:∀ (w:World) (H:Hp) (a:Addr) (ns:List Int),ns.length<=n->O6 H->SqL (K w.params) H a (ns.map V.int)->sp w [.ref a] H (λv _=>v=.bl true) λ_ _ _=>False)
  (hCX:∀ (w:World) (H:Hp) (s:Shared) (e:Value) (s':Shared),CX w [] H s (λ_ _ _=>False) e s'->False) :
  W.WalkO q loose XP YP l.row.toRowW d [] (λf vs=>PySem.call f vs):=by
 refine Att.attach_call hn hdf λw s₀ s₁ mg mb fa o pm cd doc a vs ns G Y ho hd hcd hmg hobj hints hlen hg=> ?_
 have KX:=hY w _ Y
 obtain⟨fd,hb,hF⟩:=F w mg fa _ KX G.T.g hmg
 exact g7 KX G.T.g G.T.b G.T.builtins G.T.nolimit hg hobj hints (Nat.le_trans hlen hn2) hr hF hb (λH hO hS=>hsp w H a ns hlen hO hS) λH e s'=>hCX w H s₁ e s'
end L2
namespace L2
def C8(s:Stmt)(j:Nat):Stmt:=match s with
 | .ClassDef _ _ _ body _ _ _ _ _ _ _=>body.getD j (.Pass ⟨0,0,0,0⟩)
 | _=>.Pass ⟨0,0,0,0⟩
def BE(s:Stmt):Arguments:=match s with
 | .FunctionDef _ a _ _ _ _ _ _ _ _=>a
 | _=>{ posonlyargs:=[],args:=[],vararg:=none,kwonlyargs:=[],kw_defaults:=[],kwarg:=none,defaults:=[] }
def BB(s:Stmt):List Stmt:=match s with
 | .FunctionDef _ _ b _ _ _ _ _ _ _=>b
 | _=>[]
def AK(s:Stmt):Scope:=match s with
 | .FunctionDef _ _ _ _ _ _ sc _ _ _=>sc
 | _=>{ kind:=.function,names:=[],isGenerator:=false,isCoroutine:=false }
abbrev UA:D9:=λ_ _ _ _ _ _=>False
abbrev E0:XK:=λ_ _ _=>False
structure Fun(K:W.Frag)(x qual:Str)(st:Stmt)(f:Addr)(fd:FuncData):Prop where
 ex:∃ (oc:Value) (od:Option Addr) (kV doc pm:Value) (an:Option Addr) (cdv ct:Value) (osl:Array (Option Value)),
  fd=W.fnOf x qual (BE st) (BB st) (AK st) .none kV doc pm an cdv ct/\K.lookup f=some ⟨oc,od,.func fd,osl⟩/\W.codeIn K cdv qual=true
 kp:W.keepIn K (.ref f)=true
section
variable{P:Program}{w:World}{K:W.Frag}{mg:Str->Option Value}{base:Heap}
theorem Fun.ok{x qual:Str}{st:Stmt}{f:Addr}{fd:FuncData}{N ps:List Str}{k:Nat}{sp:Sp}(F:Fun K x qual st f fd)(S:FnScope N ps (AK st))(len:∀ vs H Q E,sp vs H Q E->vs.length=ps.length)
  (hbody:∀ (cdv:Value) (A:Around) (outer:List Env) (s:Shared) (H:Hp) (vs:List V) (Q:VK) (E:XK),Room k (A.deeper (envOfC qual (AK st) s.heap.objs.size f cdv))->sp vs H Q E →
   ∃ t,PSs (FH UA P w K mg base N qual (AK st) f cdv A outer s H E).nox (BB st) t/\t { nx:=λ_ H'=>Q .non H',rt:=Q } (A7 N vs) H):FnOk P w K mg base UA (k+1) f fd ps sp:=by
 obtain⟨oc,od,kV,doc,pm,an,cdv,ct,osl,rfl,lk,hcd⟩:=F.ex
 refine S4 lk hcd S len λA outer s H vs Q E hr hsp=> ?_
 obtain⟨t,h,q⟩:=hbody cdv A outer s H vs Q E hr hsp
 exact⟨t,h.nox,q⟩
theorem Fun.binds{x qual:Str}{st:Stmt}{f:Addr}{fd:FuncData}{ps:List Str}(F:Fun K x qual st f fd)
  (h:∀ (kV doc pm:Value) (an:Option Addr) (cdv ct:Value) (us:List Value),us.length=ps.length->bindArgs (W.fnOf x qual (BE st) (BB st) (AK st) .none kV doc pm an cdv ct) ⟨us,[]⟩=pure (ps.zip us)):Binds K fd ps []:=by
 obtain⟨oc,od,kV,doc,pm,an,cdv,ct,osl,rfl,lk,hcd⟩:=F.ex
 exact .all (h kV doc pm an cdv ct)
theorem BK{x qual:Str}{st:Stmt}{f:Addr}{oc:Value}{od an:Option Addr}{osl:Array (Option Value)}{kV doc pm cdv ct:Value}(l:K.lookup f=some ⟨oc,od,.func (W.fnOf x qual (BE st) (BB st) (AK st) .none kV doc pm an cdv ct),osl⟩)
  (c:W.codeIn K cdv qual=true) (k:W.keepIn K (.ref f)=true):Fun K x qual st f (W.fnOf x qual (BE st) (BB st) (AK st) .none kV doc pm an cdv ct):=⟨⟨oc,od,kV,doc,pm,an,cdv,ct,osl,rfl,l,c⟩,k⟩
end
theorem UB{A:Around}{k:Nat}(hr:Room k A):A.units+1<cLine:=Nat.lt_of_le_of_lt (Nat.add_le_add_left (by decide:1<=64) _) hr.units
section
variable{X:Cx}
theorem pv(i:Nat){x:Str}{pos:Pos}(hN:X.N[i]? =some x:=by rfl)(hv:M9 X.env.scope x:=by first | exact Or.inl rfl | exact Or.inr (Or.inl rfl) | exact Or.inr (Or.inr rfl))(hd:(x ==("__debug__":Str))=false:=by decide)
  (hcd:(x ==("__classdict__":Str))=false:=by decide):PE X (.Name x pos) (NA i):=SG hN hv hd hcd
end
def Same(H H':Hp):Prop:=∀ b o,H b=some o->H' b=some o
theorem Same.refl(H:Hp):Same H H:=λ_ _ h=>h
theorem Same.trans{H H1 H2:Hp}(a:Same H H1)(b:Same H1 H2):Same H H2:=λc o h=>b c o (a c o h)
theorem Same.free{H H':Hp}(e:Same H H'){l:Addr}(h:H' l=Option.none):H l=Option.none:=by
 cases q:H l with
 | none=>rfl
 | some o =>
  rw[e l o q]at h
  cases h
theorem Same.seq{K:W.Frag}{H H':Hp}{a:Addr}{xs:List V}(e:Same H H')(h:SqL K H a xs):SqL K H' a xs:=by
 rcases h with(h | ⟨o,h⟩) | h
 ·exact .inl (.inl (e _ _ h))
 ·exact .inl (.inr ⟨o,e _ _ h⟩)
 ·exact .inr h
section
variable{κ :Type}[DecidableEq κ]
theorem g8{kvs:List (κ × V)}{k: κ}(h:B7 kvs k=none):¬ k∈kvs.map (·.1):=by
 intro m
 obtain⟨p,hp,e⟩:=List.mem_map.mp m
 have q:(kvs.any λkv=>decide (kv.1=k))=true:=List.any_eq_true.mpr ⟨p,hp,decide_eq_true e⟩
 rw[JF,h]at q
 exact absurd q (by simp)
theorem UC:∀ {l:List κ} {k: κ},l.Nodup->¬ k∈l->(l++[k]).Nodup
 | [],k,_,_=>by simp
 | a::r,k,h,hk=>by
  obtain⟨h1,h2⟩:=List.nodup_cons.mp h
  show(a::(r++[k])).Nodup
  refine List.nodup_cons.mpr ⟨λm=> ?_,UC h2 λm=>hk (List.mem_cons.mpr (Or.inr m))⟩
  rcases List.mem_append.mp m with q | q
  ·exact h1 q
  ·exact hk (List.mem_cons.mpr (Or.inl (List.mem_singleton.mp q).symm))
theorem g9{kvs:List (κ × V)}{k: κ}(v:V)(hn:(kvs.map (·.1)).Nodup)(h:B7 kvs k=none):((C7 kvs k v).map (·.1)).Nodup:=by
 rw[T2 v h,List.map_append]
 exact UC hn (g8 h)
end
end L2
namespace L2
theorem O7{env:Env}:∀ (names:List (Str × NameKind)) (cs:List (Str × Addr)),
  (∀ x∈names,x.2=.free->∃ c,env.cells.lookup x.1=some c)->(∀ x c,cs.lookup x=some c->env.cells.lookup x=some c) →
  ∃ cl,(forIn names cs λx r=>(if(x.2 == NameKind.free)=true then do let a ← cellOf env x.1;pure (ForInStep.yield ((x.1,a)::r))else pure (ForInStep.yield r):Sem (ForInStep (List (Str × Addr)))))=pure cl ∧
   (∀ x c,cl.lookup x=some c->env.cells.lookup x=some c)/\(∀ x,(cs.lookup x).isSome=true->(cl.lookup x).isSome=true) ∧
   ∀ x∈names,x.2=.free->(cl.lookup x.1).isSome=true
 | [],cs,_,h=>⟨cs,rfl,h,λ_ z=>z,λ_ z=>nomatch z⟩
 | (n,k)::r,cs,hf,h=>by
  by_cases hk:k=.free
  ·subst hk
   obtain⟨c,hc⟩:=hf (n,.free) List.mem_cons_self rfl
   obtain⟨cl,e,h1,h2,h3⟩:=O7 r ((n,c)::cs) (λx hx=>hf x (List.mem_cons_of_mem _ hx)) (λx c' hx=>by
    by_cases hxn:x=n
    ·subst hxn;simp only[List.lookup_cons,beq_self_eq_true]at hx;cases hx;exact hc
    ·have:(x == n)=false:=beq_eq_false_iff_ne.mpr hxn
     simp only[List.lookup_cons,this]at hx;exact h x c' hx)
   refine⟨cl,?_,h1,λx hx=>h2 x ?_,λx hx hxf=> ?_⟩
   ·rw[List.forIn_cons]
    show((if(NameKind.free == NameKind.free)=true then _ else _) >>= _)=_
    rw[if_pos (show(NameKind.free == NameKind.free)=true from rfl)]
    unfold cellOf
    show(((match env.cells.lookup n with | some a=>pure a | none=>_) >>= _) >>= _)=_
    rw[hc]
    exact e
   ·by_cases hxn:x=n
    ·subst hxn;simp
    ·have:(x == n)=false:=beq_eq_false_iff_ne.mpr hxn
     simp only[List.lookup_cons,this];exact hx
   ·rcases List.mem_cons.mp hx with rfl | hx
    ·exact h2 n (by simp)
    ·exact h3 x hx hxf
  ·obtain⟨cl,e,h1,h2,h3⟩:=O7 r cs (λx hx=>hf x (List.mem_cons_of_mem _ hx)) h
   refine⟨cl,?_,h1,h2,λx hx hxf=> ?_⟩
   ·rw[List.forIn_cons]
    have hb:(k == NameKind.free)=false:=by simpa using hk
    show((if(k == NameKind.free)=true then _ else _) >>= _)=_
    rw[if_neg (by simp[hb])]
    exact e
   ·rcases List.mem_cons.mp hx with rfl | hx
    ·exact absurd hxf hk
    ·exact h3 x hx hxf
theorem UD{env:Env}{scope:Scope}(hf:∀ x∈scope.names,x.2=.free->∃ c,env.cells.lookup x.1=some c) :
  ∃ cl,closureFor scope env=pure cl/\(∀ x c,cl.lookup x=some c->env.cells.lookup x=some c)/\∀ x∈scope.names,x.2=.free->(cl.lookup x.1).isSome=true:=by
 obtain⟨cl,e,h1,_,h3⟩:=O7 (env:=env) scope.names [] hf (λx c h=>by simp at h)
 refine⟨cl,?_,h1,h3⟩
 unfold closureFor
 show(forIn scope.names ([]:List (Str × Addr)) _ >>= _)=_
 have:(forIn scope.names ([]:List (Str × Addr)) λx r=>(if(x.2 == NameKind.free)=true then do let a ← cellOf env x.1;pure (ForInStep.yield ((x.1,a)::r))else pure (ForInStep.yield r):Sem (ForInStep (List (Str × Addr))))) >>=(λr=>(pure r:Sem _))=(pure cl:Sem _):=by rw[e];rfl
 exact this
theorem UE{env:Env}:∀ {names:List (Str × NameKind)} {x:Str},names.lookup x=some .free →
  (names.map λ(n,k)=>if(k == NameKind.free && env.scope.kind == .function && env.kindOf n == some .cell)then(n,NameKind.cell)else(n,k)).lookup x=some .cell ∨
  (names.map λ(n,k)=>if(k == NameKind.free && env.scope.kind == .function && env.kindOf n == some .cell)then(n,NameKind.cell)else(n,k)).lookup x=some .free
 | [],_,h=>by simp at h
 | (n,k)::r,x,h=>by
  by_cases hx:x=n
  ·subst hx
   simp only[List.lookup_cons,beq_self_eq_true]at h
   cases h
   show List.lookup x ((if _ then(x,NameKind.cell)else(x,NameKind.free))::_)=_\/List.lookup x ((if _ then(x,NameKind.cell)else(x,NameKind.free))::_)=_
   split
   ·exact .inl (by simp)
   ·exact .inr (by simp)
  ·have hb:(x == n)=false:=beq_eq_false_iff_ne.mpr hx
   simp only[List.lookup_cons,hb]at h
   have ih:=UE (env:=env) h
   show List.lookup x ((if _ then(n,NameKind.cell)else(n,k))::_)=_\/List.lookup x ((if _ then(n,NameKind.cell)else(n,k))::_)=_
   split<;>(simp only[List.lookup_cons,hb];exact ih)
theorem UF{env:Env}:∀ {names:List (Str × NameKind)} {x:Str},
  ((names.map λ(n,k)=>if(k == NameKind.free && env.scope.kind == .function && env.kindOf n == some .cell)then(n,NameKind.cell)else(n,k)).lookup x=some .cell ∨
  (names.map λ(n,k)=>if(k == NameKind.free && env.scope.kind == .function && env.kindOf n == some .cell)then(n,NameKind.cell)else(n,k)).lookup x=some .free)->(x,NameKind.free)∈names\/(x,NameKind.cell)∈names
 | [],_,h=>by simp at h
 | (n,k)::r,x,h=>by
  by_cases hx:x=n
  ·subst hx
   have h:List.lookup x ((if(k == NameKind.free && env.scope.kind == .function && env.kindOf x == some .cell)=true then(x,NameKind.cell)else(x,k))::_)=some .cell\/List.lookup x ((if(k == NameKind.free && env.scope.kind == .function && env.kindOf x == some .cell)=true then(x,NameKind.cell)else(x,k))::_)=some .free:=h
   split at h
   ·rename_i hc
    rw[Bool.and_eq_true,Bool.and_eq_true]at hc
    have:k=.free:=by simpa using hc.1.1
    subst this
    exact .inl List.mem_cons_self
   ·simp only[List.lookup_cons,beq_self_eq_true]at h
    rcases h with h | h
    ·cases h;exact .inr List.mem_cons_self
    ·cases h;exact .inl List.mem_cons_self
  ·have hb:(x == n)=false:=beq_eq_false_iff_ne.mpr hx
   have h:List.lookup x ((if(k == NameKind.free && env.scope.kind == .function && env.kindOf n == some .cell)=true then(n,NameKind.cell)else(n,k))::_)=some .cell\/List.lookup x ((if(k == NameKind.free && env.scope.kind == .function && env.kindOf n == some .cell)=true then(n,NameKind.cell)else(n,k))::_)=some .free:=h
   have h':=h
   split at h'
   all_goals
    simp only[List.lookup_cons,hb]at h'
    exact(UF h').imp (List.mem_cons_of_mem _) (List.mem_cons_of_mem _)
theorem DT{a b:Addr}{n:Nat}(h:a<n)(h2:n<=b):a≠b:=Nat.ne_of_lt (Nat.lt_of_lt_of_le h h2)
def Cx.block(X:Cx)(pins:List (Addr × Obj))(s:Shared)(H:Hp)(Nc:List Str)(scope:Scope)(cl:List (Str × Addr))(C:Addr)(fp:List Addr):Cx where
 prog:=X.prog
 w:=X.w
 K:=X.K
 mg:=X.mg
 base:=X.base
 A:=X.A
 N:=Nc
 s₀:=s
 H₀:=H
 env:=compEnvC scope cl C X.env
 outer:=X.stack
 stack:=X.stack
 ex:=fp
 fn:=λ_=>false
 calm:=X.calm
 pn:=X.pn++pins
 xe:=λ_ _=>False
structure LB(X:Cx)(scope:Scope)(tn cn:List Str)(cap:List Nat):Prop where
 kind:scope.kind=.function
 nocell:∀ y∈scope.names,y.2≠.cell
 names:∀ y∈scope.names,y.2=.local->scope.names.lookup y.1=some .local
 free:∀ y∈scope.names,y.2=.free->X.env.kindOf y.1=some .cell\/X.env.kindOf y.1=some .free
 drawn:∀ x∈cn,scope.names.lookup x=some .free
 caps:cap.map (λi=>X.N[i]?)=cn.map some
def GC(k:Nat)(cap:List Nat)(σ:St):St:=List.replicate k none++cap.map λi=>(σ[i]?).join
theorem HOk.track{P:Program}{w:World}{H:Hp}{h:Heap}{a:Addr}{o:HO}(x:HOk P w H h)(hn:H a=none)(new:ObjOk P w (upd H a o) h a o):HOk P w (upd H a o) h:=λb u e=>by
 by_cases hb:b=a
 ·subst hb;rw[AU]at e;cases e;exact new
 ·rw[AS hb]at e
  refine(x b u e).stay (λ_ _ _ q=>q) (λc q=> ?_) λc xs q=> ?_
  ·rw[AS (BG q hn)];exact q
  ·rw[AS (BG q hn)];exact q
section
variable{X:Cx}{pins:List (Addr × Obj)}{σ:St}{H:Hp}{s:Shared}
theorem Inv.pinlt(I:Inv X pins σ H s){p:Addr × Obj}(hp:p∈X.pn++pins):p.1<s.heap.objs.size:=Heap.lt_size (I.pin p hp).1
theorem Inv.stkne(I:Inv X pins σ H s){b:Addr}(h1:b≠X.env.locals)(h2:b∉X.fs):b∉C5 X.stack:=λz=>(List.mem_cons.mp (I.stkSub b z)).elim h1 h2
theorem Inv.stklt(I:Inv X pins σ H s){b:Addr}(h:b∈C5 X.stack):b<s.heap.objs.size:=by
 obtain⟨_,o,ho,_⟩:=I.stack.mem h
 exact Heap.lt_size ho
theorem Inv.block{scope:Scope}{tn cn:List Str}{cap:List Nat}{cl:List (Str × Addr)}{C:Addr}{fp:List Addr}{pins':List (Addr × Obj)}{s1:Shared}(I:Inv X pins σ H s)(S:LB X scope tn cn cap)
  (hcl:∀ x c,cl.lookup x=some c->X.env.cells.lookup x=some c) (hcl2:∀ x∈scope.names,x.2=.free->(cl.lookup x.1).isSome=true)
  (hf:∀ b∈fp,FpOk X pins H b) (hfl:∀ b∈fp,b<s.heap.objs.size) (hC:s.heap.objs.size<=C) (k:∀ b o,s.heap.get? b=some o->s1.heap.get? b=some o)
  (hos:s1.os=s.os) (hg:s1.gens=s.gens) (hns:∃ m,s1.heap.Ns C m)
  (hp:∀ p∈pins',s1.heap.get? p.1=some p.2/\H p.1=none/\p.1≠C/\p.1∉C5 X.stack/\∀ v,p.2.data≠.cell v) :
  Inv (X.block pins s H (tn++cn) scope cl C fp) pins' (GC tn.length cap σ) H s1:=by
 have ok:(X.block pins s H (tn++cn) scope cl C fp).Ok:=by
  refine⟨I.ok.mod,S.kind,I.ok.glob,I.ok.blt,hC,λx y c h1 h2=>I.ok.inj x y c (hcl x c h1) (hcl y c h2),λx hx=> ?_,λx c z _=>(by cases z),I.ok.hd,I.ok.frames,.inl rfl,λb hb=>⟨?_,λx c e=>(hf b hb).2.2.2.2.1 x c (hcl x c e)⟩,I.bs,Nat.le_trans I.ok.bsz I.sz,λb o e hb=> ?_,λb hb=>I.stkne (hf b hb).2.1 (hf b hb).2.2.1,I.stack,I.stkFree⟩
  ·rcases UF (env:=X.env) hx with z | z
   ·exact Option.isSome_iff_exists.mp (hcl2 _ z rfl)
   ·exact absurd rfl (S.nocell _ z)
  ·exact Nat.ne_of_lt (Nat.lt_of_lt_of_le (hfl b hb) hC)
  ·rcases(hf b hb).2.2.2.1 with z | z
   ·exact I.ok.noex b o e z
   ·have h1:b<X.base.objs.size:=Heap.lt_size e
    exact absurd (Nat.lt_of_lt_of_le h1 (Nat.le_trans I.ok.bsz z)) (Nat.lt_irrefl _)
 refine⟨ok,hos,by rw[hg];exact I.bare,Un.kept k,?_,λx c e=> ?_,I.hok.fresh hC,λx c e=>I.freeC x c (hcl x c e),λp hp'=> ?_,I.hok.kept k,?_⟩
 ·obtain⟨m,hm⟩:=hns
  refine⟨m,hm,λi x v h1 h2 h3=> ?_⟩
  have hi:tn.length<=i:=by
   rcases Nat.lt_or_ge i tn.length with z | z
   ·unfold GC at h2
    rw[List.getElem?_append_left (by simpa using z),List.getElem?_replicate]at h2
    split at h2<;>cases h2
   ·exact z
  unfold GC at h2
  rw[List.getElem?_append_right (by simpa using hi),List.length_replicate,List.getElem?_map]at h2
  have h1':cn[i - tn.length]? =some x:=by
   have:(tn++cn)[i]? =some x:=h1
   rwa [List.getElem?_append_right hi]at this
  cases hq:cap[i - tn.length]? with
  | none=>rw[hq]at h2;cases h2
  | some j =>
   rw[hq]at h2
   have hj:X.N[j]? =some x:=by
    have:=congrArg (λl=>l[i - tn.length]?) S.caps
    simp only[List.getElem?_map,hq,h1',Option.map_some]at this
    exact Option.some.inj this
   have hv:σ[j]? =some (some v):=by
    cases hs:σ[j]? with
    | none=>simp[hs]at h2
    | some y=>simp only[Option.map_some,hs,Option.join_some]at h2;cases h2;rfl
   have hxf:(x,NameKind.free)∈scope.names:=PySem.mem_of_lookup (S.drawn x (List.mem_of_getElem? h1'))
   have hk:=S.free _ hxf rfl
   obtain⟨m0,_,hl0⟩:=I.loc
   obtain⟨u,r,q⟩:=hl0 j x v hj hv (hk.elim (λz=>.inr (.inl z)) λz=>.inr (.inr z))
   refine⟨u,r,.inr ⟨UE (S.drawn x (List.mem_of_getElem? h1')),?_⟩⟩
   rcases q with⟨kl,_⟩ | ⟨_,c,hc,z⟩
   ·have kl':X.env.kindOf x=some .local:=kl
    rcases hk with hk | hk<;>(rw[kl']at hk;cases hk)
   ·obtain⟨c',hc'⟩:=Option.isSome_iff_exists.mp (hcl2 _ hxf rfl)
    have:=hcl _ _ hc'
    rw[hc]at this
    cases this
    exact⟨c,hc',z.keeps k⟩
 ·obtain⟨v,z⟩:=I.cell x c (hcl x c e)
  exact⟨v,z.keeps k⟩
 ·rcases List.mem_append.mp hp' with z | z
  ·obtain⟨e,n,ne,nf,d⟩:=I.pin p z
   exact⟨k _ _ e,n,Nat.ne_of_lt (Nat.lt_of_lt_of_le (Heap.lt_size e) hC),I.stkne ne nf,d⟩
  ·exact hp p z
 ·unfold GC
  show _=(tn++cn).length
  have:=congrArg List.length S.caps
  simp only[List.length_map]at this
  simp[this]
end
def CY:TT:=λ_ H Q=>Q true H
def LC(X:Cx)(ifs:List Expr)(t:TT):Prop :=
 ∀ (pins:List (Addr × Obj)) (s:Shared) (σ:St) (H:Hp) (Q:Bool->Hp->Prop),Inv X pins σ H s->t σ H Q →
  wpAny (model X.prog X.w) X.A (forIn ifs true λc r=>if r=true then do let ok ← isTrue c X.env (eval c X.env);pure (ForInStep.yield ok)else pure (ForInStep.yield r)) (TP X pins σ Q) X.xe s
theorem EA{X:Cx}:LC X [] CY:=λpins s σ H Q I h=>wpAny_tests_nil ⟨H,I,h⟩
theorem CB{X:Cx}{c:Expr}{t:TT}(h:PT X c t):LC X [c] t:=λpins s σ H Q I q=>wpAny_tests_one (h pins s σ H Q I q)
theorem hE {prog:Program} {w:World} {A:Around} {R:Result->Shared->Prop} {s:Shared} {elt target iter:Expr} {ifs:List Expr} {scope:Scope} {pos:Pos} {it acc:Value} {env:Env} (Jn:Nat->Shared->Prop)
    (turn:∀ n s,Jn n s->wpAny (model prog w) A (pyNext it) (λr s₁=>match r with
      | none=>R (.ok .next) s₁
      | some v=>wpAny (model prog w) A (letOwnedTupleGo target it v) (λ_ s₂=>wpAny (model prog w) A (assign target env v) (λ_ s₃ =>
          wpAny (model prog w) A (forIn ifs true λc r=>if r=true then do let ok ← isTrue c env (eval c env);pure (ForInStep.yield ok)else pure (ForInStep.yield r)) (λok s₄ =>
            if ok=true then wpAny (model prog w) A (eval elt env) (λx s₅ =>
              wpAny (model prog w) A (call (.builtin "list.append") [acc,x]) (λ_ s₆=>∃ m,m<n/\Jn m s₆) (λ_ _=>False) s₅) (λ_ _=>False) s₄
            else ∃ m,m<n/\Jn m s₄) (λ_ _=>False) s₃) (λ_ _=>False) s₂) (λ_ _=>False) s₁) (λ_ _=>False) s)
    (n:Nat) (h:Jn n s):codeAny (model prog w) A (.compLoop (.ListComp elt [⟨target,iter,ifs,0⟩] scope pos) 0 it acc env) R s:=by
  refine codeAny_loop rfl Jn (λn' s' hJ=> ?_) n h
  show wpAny _ A ((compTurn (.ListComp elt [⟨target,iter,ifs,0⟩] scope pos) 0 it acc env).onRaise (λx'=>do noteFrame x' env;theTreesLotGoes x')) _ _ s'
  refine wpAny_noted (wpAny_noRaise ?_)
  rw[compTurn_list]
  refine wpAny_bind (wpAny_standAt (wpAny_bind (AV (turn n' s' hJ) λr s₁ h₁=> ?_)))
  cases r with
  | none=>exact wpAny_pure h₁
  | some v =>
    refine wpAny_bind (AV h₁ λ_ s₂ h₂=> ?_)
    refine wpAny_bind (AV h₂ λ_ s₃ h₃=>wpAny_bind (AV h₃ λok s₄ h₄=> ?_))
    cases ok with
    | false=>exact wpAny_pure ⟨rfl,h₄⟩
    | true=>exact wpAny_bind (wpAny_bind (AV h₄ λx' s₅ h₅=>wpAny_bind (AV h₅ λ_ s₆ h₆=>wpAny_pure (wpAny_pure ⟨rfl,h₆⟩))))
def BI(wi:TI)(g:TG)(tt:TT)(te:TE)(k:Nat)(cap:List Nat):TE:=λσ H Q=>wi σ H λJ H1 =>
 ∃ W:Nat->Nat->St->List V->Hp->Prop,(∃ m,W 0 m (GC k cap σ) [] H1)/\∀ i m σ' ys H,W i m σ' ys H →
  (J.stop i H/\∀ p,H p=none->Q (.ref p) (upd H p (.lst ys))) ∨
  (J.go i H/\ys.length<sizeLine/\∀ x H',J.yld i H x H'->g x σ' H' λσ2 H2=>tt σ2 H2 λb H3 =>
   if b=true then ∃ N:VK,(∀ y H4,N y H4->∃ m',m'<m/\W (i+1) m' σ2 (ys++[y]) H4)/\te σ2 H3 N else ∃ m',m'<m/\W (i+1) m' σ2 ys H3)
structure CompDone(X:Cx)(fp:List Addr)(H:Hp)(s:Shared)(Q:VK)(acc:Value)(C:Addr)(r:Result)(s':Shared):Prop where
 ok:r=.ok .next
 ex:∃ (D:Addr) (ys:List V) (its:List Value) (n:Nat) (H':Hp),acc=.ref D/\Vals ys its/\ys.length<=sizeLine/\s'.heap.get? D=some { cls:=.type "list",data:=.seq its.toArray n }/\s.heap.objs.size<=D/\D≠C/\H' D=none/\H' C=none ∧
  (∃ m,s'.heap.Ns C m)/\Un (C5 X.stack) fp H H' s.heap s'.heap/\HOk X.prog X.w H' s'.heap/\∀ p,H' p=none->Q (.ref p) (upd H' p (.lst ys))
 ge:s.heap.objs.size<=C
 os:s'.os=s.os
 bare:AllBare s'.gens
section
variable{X:Cx}{pins:List (Addr × Obj)}{σ:St}{H:Hp}{s:Shared}
theorem UG {tg iter elt:Expr} {ifs:List Expr} {scope:Scope} {pos:Pos} {g:TG} {tt:TT} {te:TE} {tn cn:List Str} {cap:List Nat} {cl:List (Str × Addr)} {it:Addr} {fp:List Addr} {tn':Nat->Heap->Prop} {J:It} {Q:VK} {E:Value->Shared->Prop}
    (I:Inv X pins σ H s) (S:LB X scope tn cn cap) (hc:X.calm=true)
    (hcl:∀ x c,cl.lookup x=some c->X.env.cells.lookup x=some c) (hcl2:∀ x∈scope.names,x.2=.free->(cl.lookup x.1).isSome=true)
    (T:HF X.prog X.w X.K tg J fp it tn') (st:tn' 0 s.heap) (hf:∀ b∈fp,FpOk X pins H b)
    (hg:∀ C,PG (X.block pins s H (tn++cn) scope cl C fp) tg g) (ht:∀ C,LC (X.block pins s H (tn++cn) scope cl C fp) ifs tt) (he:∀ C,PE (X.block pins s H (tn++cn) scope cl C fp) elt te)
    (W:Nat->Nat->St->List V->Hp->Prop) {m0:Nat} (w0:W 0 m0 (GC tn.length cap σ) [] H)
    (step:∀ i m σ' ys H,W i m σ' ys H →
      (J.stop i H/\∀ p,H p=none->Q (.ref p) (upd H p (.lst ys))) ∨
      (J.go i H/\ys.length<sizeLine/\∀ x H',J.yld i H x H'->g x σ' H' λσ2 H2=>tt σ2 H2 λb H3 =>
        if b=true then ∃ N:VK,(∀ y H4,N y H4->∃ m',m'<m/\W (i+1) m' σ2 (ys++[y]) H4)/\te σ2 H3 N else ∃ m',m'<m/\W (i+1) m' σ2 ys H3)) :
    wpAny (model X.prog X.w) X.A (newList []) (λacc s₃=>wpAny (model X.prog X.w) X.A (newFunctionEnv scope X.env.globals cl [] X.env.qual none .none (some X.env)) (λcenv s₄ =>
      codeAny (model X.prog X.w) X.A (.compStart (.ListComp elt [⟨tg,iter,ifs,0⟩] scope pos) 0 (.ref it) acc { cenv with scope:=relabel scope X.env }) (CompDone X fp H s Q acc cenv.locals) s₄) E s₃) E s:=by
  refine wpAny_newObj_type (wpAny_newFunctionEnv S.nocell (by intro y hy;simp at hy) (λh₁ hns₁ hsb₁=> ?_) S.kind)
  dsimp only at hns₁ hsb₁ ⊢
  generalize hH2:s.heap.push { cls:=.type "list",dict:=none,data:=.seq ([]:List Value).toArray }=H2 at hns₁ hsb₁ ⊢
  have hCs:H2.objs.size=s.heap.objs.size+1:=by rw[<-hH2,Heap.size_push]
  generalize hCe:H2.objs.size=C at hns₁ hsb₁ ⊢
  have hC:C=s.heap.objs.size+1:=hCe.symm.trans hCs
  generalize hD:s.heap.objs.size=D at *
  have hDC:D≠C:=by rw[hC];exact Nat.ne_of_lt (Nat.lt_succ_self _)
  have old:∀ b o,s.heap.get? b=some o->h₁.get? b=some o:=λb o e=>by
    have hb:b<D:=by rw[<-hD];exact Heap.lt_size e
    have hbC:b≠C:=DT hb (by rw[hC];exact Nat.le_succ _)
    exact hsb₁.extBut b o hbC (Heap.get?_push_of_some _ (hH2 ▸ Heap.get?_push_of_some _ e))
  have hDo:h₁.get? D=some { cls:=.type "list",data:=.seq ([]:List Value).toArray }:=by
    refine hsb₁.extBut _ _ hDC (Heap.get?_push_of_some _ ?_)
    rw[<-hH2,<-hD]
    exact Heap.get?_push_size _ rfl
  have hfl:∀ b∈fp,b<s.heap.objs.size:=λb hb=>by
    obtain⟨o,e,_⟩:=T.obj 0 _ st b hb
    exact Heap.lt_size e
  have hDn:H D=none:=by rw[<-hD];exact I.hok.fresh (Nat.le_refl _)
  have hDs:D∉C5 X.stack:=λz=>DT (I.stklt z) (Nat.le_of_eq hD) rfl
  have I0:Inv (X.block pins s H (tn++cn) scope cl C fp) [(D,{ cls:=.type "list",data:=.seq ([]:List Value).toArray 0 })] (GC tn.length cap σ) H { s with heap:=h₁,toks:=s.toks+([]:List (Str × Value)).length } :=
    I.block S hcl hcl2 hf hfl (by omega) old rfl rfl ⟨_,hns₁⟩ λp hp=>by
      rw[List.mem_singleton]at hp
      subst hp
      exact⟨hDo,hDn,hDC,hDs,λv z=>nomatch z⟩
  have fpok:∀ {H':Hp} {o:Obj},(∀ b∈fp,H' b=none)->∀ b∈fp,FpOk (X.block pins s H (tn++cn) scope cl C fp) [(D,o)] H' b:=λ{H' o} hn b hb=>by
    obtain⟨_,f1,f2,f3,f4,f5⟩:=hf b hb
    have hbl:=hfl b hb
    refine⟨hn b hb,?_,I.stkne f1 f2,.inl hb,λx c e=>f4 x c (hcl x c e),λp hp=> ?_⟩
    ·exact DT hbl (by rw[hD,hC];exact Nat.le_succ _)
    · rcases List.mem_append.mp hp with z | z
      ·exact f5 p z
      ·rw[List.mem_singleton]at z;subst z;exact Ne.symm (DT hbl (Nat.le_of_eq hD))
  have st1:tn' 0 h₁:=T.keep _ _ _ st λb _ o e=>old b o e
  have loop:∀ s₃:Shared,s₃={ s with heap:=h₁,toks:=s.toks+([]:List (Str × Value)).length } →
      codeAny (model X.prog X.w) X.A (.compLoop (.ListComp elt [⟨tg,iter,ifs,0⟩] scope pos) 0 (.ref it) (.ref D) (compEnvC scope cl C X.env)) (CompDone X fp H s Q (.ref D) C) s₃:=by
    rintro s₃ rfl
    refine hE (λn s'=>∃ i σ' ys its nn H',Inv (X.block pins s H (tn++cn) scope cl C fp) [(D,{ cls:=.type "list",data:=.seq (its:List Value).toArray nn })] σ' H' s'/\tn' i s'.heap/\(∀ b∈fp,H' b=none)/\Vals ys its/\ys.length<=sizeLine/\W i n σ' ys H') ?_ m0
      ⟨0,_,[],[],0,H,I0,st1,λb hb=>(hf b hb).1,.nil,Nat.zero_le _,w0⟩
    rintro n s4 ⟨i,σ4,ys,its,nn,H4,I4,st4,fr4,r4,l4,w4⟩
    rcases step i n σ4 ys H4 w4 with⟨stop,qn⟩ | ⟨go,hlt,next⟩
    · refine AV (T.done (X.block pins s H (tn++cn) scope cl C fp) rfl rfl rfl hc i _ s4 σ4 H4 _ I4 (fpok fr4) st4 stop) λr s5 ⟨hr,I5⟩=> ?_
      subst hr
      have hp:=I5.pin (D,_) (List.mem_append_right _ List.mem_cons_self)
      obtain⟨m5,hm5,_⟩:=I5.loc
      exact⟨rfl,⟨D,ys,its,nn,H4,rfl,r4,l4,hp.1,by omega,hDC,hp.2.1,I5.free,⟨m5,hm5⟩,I5.base,I5.hok,qn⟩,by omega,I5.os,I5.bare⟩
    · refine AV (T.item (X.block pins s H (tn++cn) scope cl C fp) rfl rfl rfl hc i _ s4 σ4 H4 _ I4 (fpok fr4) st4 go) λr s5 ⟨u,hr,h5⟩=> ?_
      subst hr
      refine AV h5 λ_ s6 ⟨x,H6,I6,r6,y6,st6,fr6⟩=> ?_
      have I6':=I6.pinned (fpok fr6) (T.obj _ _ st6)
      refine AV (hg C _ s6 σ4 H6 x u _ I6' r6 (next x H6 y6)) λ_ s7 ⟨σ7,H7,I7,q7⟩=> ?_
      refine AV (ht C _ s7 σ7 H7 _ I7 q7) λok s8 ⟨H8,I8,q8⟩=> ?_
      have keepst:∀ {σ9:St} {H9:Hp} {s9:Shared},Inv (X.block pins s H (tn++cn) scope cl C fp) ([(D,{ cls:=.type "list",data:=.seq its.toArray nn })]++K5 fp s6.heap) σ9 H9 s9->(∀ b∈fp,∀ o,s6.heap.get? b=some o->s9.heap.get? b=some o)/\∀ b∈fp,H9 b=none:=λ{σ9 H9 s9} I9=>by
        refine⟨λb hb o e=>(I9.pin (b,o) (List.mem_append_right _ (List.mem_append_right _ (NG hb e)))).1,λb hb=> ?_⟩
        obtain⟨o,e,_⟩:=T.obj _ _ st6 b hb
        exact(I9.pin (b,o) (List.mem_append_right _ (List.mem_append_right _ (NG hb e)))).2.1
      cases ok with
      | false =>
        obtain⟨m',hm',w'⟩:=q8
        obtain⟨k1,k2⟩:=keepst I8
        exact⟨m',hm',i+1,σ7,ys,its,nn,H8,I8.unpinned,T.keep _ _ _ st6 k1,k2,r4,l4,w'⟩
      | true =>
        obtain⟨Nw,hN,q8⟩:=q8
        refine AV (he C _ s8 σ7 H8 Nw I8 q8) λv s9 ⟨y,H9,I9,r9,n9⟩=> ?_
        obtain⟨m',hm',w'⟩:=hN y H9 n9
        obtain⟨k1,k2⟩:=keepst I9
        have hp:=I9.pin (D,_) (List.mem_append_right _ (List.mem_append_left _ List.mem_cons_self))
        have e:=hp.1
        have hlen:=r4.length
        refine call_meets F.slot_list_append ⟨_,e,rfl⟩ F.entry_list_append (F.args_list_append_2 _ _) (PySem.list_append D its.toArray nn v (by rw[List.size_toArray];omega)) ⟨e,?_⟩
        have q:=PySem.IsL.update e (λxs=>xs.push v)
        have Ia:Inv (X.block pins s H (tn++cn) scope cl C fp) [] σ7 H9 s9:=I9.pins_of λp hp=>nomatch hp
        have Ib:=Ia.turned (h':=s9.heap.update D (Obj.mapSeq (·.push v))) (t':=s9.toks) (it:=D) (λb o hb eb=>(Heap.get?_update_other _ _ (Ne.symm hb)).trans eb) hp.2.1 hDC (.inr (by show s.heap.objs.size<=D;omega))
          (λx c ec z=>by
            obtain⟨vv,zc⟩:=I.cell x c (hcl x c ec)
            exact DT zc.lt (Nat.le_of_eq hD) z)
          (λp hp'=>by
            rw[List.append_nil]at hp'
            exact DT (I.pinlt hp') (Nat.le_of_eq hD))
        have q':(s9.heap.update D (Obj.mapSeq (·.push v))).get? D=some { cls:=.type "list",data:=.seq (its++[v]).toArray (nn+1) }:=by
          rw[if_neg (by simp)]at q
          rw[<-List.push_toArray]
          exact q
        refine⟨m',hm',i+1,σ7,ys++[y],its++[v],nn+1,H9,Ib.pins_of (λp hp'=> ?_),T.keep _ _ _ st6 λb hb o eb=> ?_,k2,r4.append (.cons r9 .nil),?_,w'⟩
        · rw[List.mem_singleton]at hp'
          subst hp'
          exact⟨q',hp.2.1,hDC,hDs,λv' z=>nomatch z⟩
        · have hbl:=hfl b hb
          exact(Heap.get?_update_other _ _ (Ne.symm (DT hbl (Nat.le_of_eq hD)))).trans (k1 b hb o eb)
        · rw[List.length_append,List.length_singleton]
          omega
  exact codeAny_compStart_list (loop _ rfl) (T.self _ 0 _ _ _ st1 (loop _ rfl))
theorem CompDone.inv{Q:VK}{acc:Value}{C:Addr}{r:Result}{s':Shared}{fp:List Addr}(I:Inv X pins σ H s)(hf:∀ b∈fp,FpOk X pins H b)(h:CompDone X fp H s Q acc C r s') :
  ∃ D H',acc=.ref D/\Inv X pins σ H' s'/\Q (.ref D) H'/\H' C=none/\∃ m,s'.heap.Ns C m:=by
 obtain⟨_,⟨D,ys,its,n,H',rfl,r4,l4,e,hD,hDC,hDn,hCn,hm,u,ok,q⟩,hC,os,bare⟩:=h
 have lt:∀ b o,s.heap.get? b=some o->b≠D:=λb o eb=>DT (Heap.lt_size eb) hD
 have ltH:∀ b o,H b=some o->b≠D:=λb o eb=>DT (I.hok.lt eb) hD
 refine⟨D,upd H' D (.lst ys),rfl,I.call' (ch:=fp) os ⟨u.keep,u.slot,λb o eb n' hx=> ?_,u.there,λb xs eb=> ?_,λb o x eb=> ?_,λb ps eb=> ?_⟩ (ok.track hDn ⟨l4,its,n,r4,e⟩) bare (λb hb=> ?_),q D hDn,?_,hm⟩
 ·rw[AS (lt b o eb)];exact u.free b o eb n' hx
 ·rw[AS (ltH b _ eb)];exact u.tups b xs eb
 ·rw[AS (ltH b _ eb)];exact u.frzs b o x eb
 ·rw[AS (ltH b _ eb)];exact u.tbls b ps eb
 ·obtain⟨_,f1,f2,f3,f4,f5⟩:=hf b hb
  exact⟨f3,f1,f4,f5⟩
 ·rw[AS (Ne.symm hDC)];exact hCn
theorem Inv.letgo{C:Addr}{h':Heap}{s1:Shared}{σ1:St}{H1:Hp}(I:Inv X pins σ H s)(hC:s.heap.objs.size<=C)(I1:Inv X pins σ1 H1 s1)(hn:H1 C=none)(hs:Heap.SameBut C s1.heap h'):Inv X pins σ1 H1 { s1 with heap:=h' }:=by
 refine I1.turned (t':=s1.toks) (it:=C) (λb o hb e=>(hs.2 b hb).trans e) hn (λz=> ?_) (.inr ?_) (λx c e z=> ?_) λp hp z=> ?_
 ·exact DT I.lt hC z.symm
 ·exact Nat.le_trans I.sz hC
 ·obtain⟨v,zc⟩:=I.cell x c e
  exact DT zc.lt hC z
 ·exact DT (I.pinlt hp) hC z
variable{tg iter elt:Expr}{ifs:List Expr}{scope:Scope}{pos:Pos}{wi:TI}{g:TG}{tt:TT}{te:TE}{tn cn:List Str}{cap:List Nat}
theorem CI(S:LB X scope tn cn cap)(hc:X.calm=true)(hi:PI X tg iter wi)
  (hg:∀ pins s H cl C fp,PG (X.block pins s H (tn++cn) scope cl C fp) tg g) (ht:∀ pins s H cl C fp,LC (X.block pins s H (tn++cn) scope cl C fp) ifs tt) (he:∀ pins s H cl C fp,PE (X.block pins s H (tn++cn) scope cl C fp) elt te)
  (hs:∀ x,foldedSetIterable iter X.env x=pure x:=by intro _;rfl):PE X (.ListComp elt [⟨tg,iter,ifs,0⟩] scope pos) (BI wi g tt te tn.length cap):=by
 intro pins s σ H Q I h
 obtain⟨cl,ecl,hcl,hcl2⟩:=UD (env:=X.env) (scope:=scope) λx hx hxf=>I.ok.has x.1 (S.free x hx hxf)
 rw[eval_ListComp]
 refine wpAny_comprehension_free (use:=none) rfl hs ecl S.kind S.names (AV (hi pins s σ H _ I h) λv s1 h1=>AV h1 λitv s2 h2=> ?_)
 obtain⟨it,fp,tn',J,H2,e,I2,T,st2,f2,W,⟨m0,w0⟩,turn⟩:=h2
 subst e
 refine AV (UG I2 S hc hcl hcl2 T st2 f2 (λC=>hg _ _ _ _ C _) (λC=>ht _ _ _ _ C _) (λC=>he _ _ _ _ C _) W w0 turn) λacc s3 h3=>AV h3 λcenv s4 h4=>codeAny_mono h4 λr s5 h5=> ?_
 have hr:=h5.ok
 subst hr
 obtain⟨D,H',rfl,I5,q5,hCn,m,hm⟩:=h5.inv I2 f2
 exact⟨m,hm,λh' hs'=>⟨.ref D,H',I2.letgo h5.ge I5 hCn hs',rfl,q5⟩⟩
theorem DU{i:Nat}{x:Str}{px spos:Pos}(S:LB X scope tn cn cap)(hc:X.calm=true)(hN:X.N.Nodup)(hi':X.N[i]? =some x)(hx:X.env.scope.names.lookup x=some .local)(hi:PI X tg iter wi)
  (hg:∀ pins s H cl C fp,PG (X.block pins s H (tn++cn) scope cl C fp) tg g) (ht:∀ pins s H cl C fp,LC (X.block pins s H (tn++cn) scope cl C fp) ifs tt) (he:∀ pins s H cl C fp,PE (X.block pins s H (tn++cn) scope cl C fp) elt te)
  (hsw:swapsWith (.ListComp elt [⟨tg,iter,ifs,0⟩] scope pos) (some (.Name x px)) spos.line X.env=pure true:=by rfl)
  (hs:∀ x,foldedSetIterable iter X.env x=pure x:=by intro _;rfl):PS X (.Assign [.Name x px] (.ListComp elt [⟨tg,iter,ifs,0⟩] scope pos) spos) (AY (BI wi g tt te tn.length cap) (AJ i)):=by
 intro pins s σ H D I h
 obtain⟨cl,ecl,hcl,hcl2⟩:=UD (env:=X.env) (scope:=scope) λx hx hxf=>I.ok.has x.1 (S.free x hx hxf)
 rw[exec_Assign_Name_used _ _ _ _ hsw]
 refine wpAny_bind (wpAny_standAt (wpAny_bind ?_))
 unfold evalThenUse
 refine wpAny_bind ?_
 refine wpAny_comprehension_free (use:=some (assign (.Name x px) X.env)) rfl hs ecl S.kind S.names (AV (hi pins s σ H _ I h) λv s1 h1=>AV h1 λitv s2 h2=> ?_)
 obtain⟨it,fp,tn',J,H2,e,I2,T,st2,f2,W,⟨m0,w0⟩,turn⟩:=h2
 subst e
 refine AV (UG (Q:=λx' H1=>AJ i x' σ H1 D.nx) I2 S hc hcl hcl2 T st2 f2 (λC=>hg _ _ _ _ C _) (λC=>ht _ _ _ _ C _) (λC=>he _ _ _ _ C _) W w0 turn) λacc s3 h3=>AV h3 λcenv s4 h4=>codeAny_mono h4 λr s5 h5=> ?_
 have hr:=h5.ok
 subst hr
 obtain⟨Da,H',rfl,I5,q5,hCn,m,hm⟩:=h5.inv I2 f2
 show wpAny _ _ (assign (.Name x px) X.env (.ref Da)) _ _ s5
 refine wpAny_assign_Name (SE I5 hN hi' (.inl hx) (show RelV (.ref Da) (.ref Da)from rfl) (λs6 I6 ⟨a,hsb,ha⟩=> ?_) (.inr hx))
 refine⟨m,hm.sameBut hsb ?_,λh' hs'=> ?_⟩
 ·rcases ha with z | z
  ·exact Ne.symm (z ▸ DT I2.lt h5.ge)
  ·obtain⟨vv,zc⟩:=I2.cell x a z
   exact Ne.symm (DT zc.lt h5.ge)
 ·exact wpAny_pure (wpAny_pure ⟨σ.set i (some (.ref Da)),H',I2.letgo h5.ge I6 hCn hs',q5⟩)
end
end L2
namespace L2
theorem ObjOk.there{P:Program}{w:World}{H:Hp}{h:Heap}{a:Addr}{o:HO}(x:ObjOk P w H h a o):∃ ob,h.get? a=some ob:=by
 cases o with
 | lst xs=>obtain⟨_,_,_,_,e⟩:=x;exact⟨_,e⟩
 | tup xs=>obtain⟨_,_,_,ob,e,_⟩:=x;exact⟨_,e⟩
 | dK kvs=>obtain⟨_,_,_,_,ob,_,_,e,_⟩:=x;exact⟨_,e⟩
 | dT kvs=>obtain⟨_,_,_,_,ob,_,_,e,_⟩:=x;exact⟨_,e⟩
 | set S n=>obtain⟨ob,_,_,_,e,_⟩:=x;exact⟨_,e⟩
 | ins C dx fs=>obtain⟨_,_,_,e,_⟩:=x;exact⟨_,e⟩
 | own y=>exact x
 | xd fs=>obtain⟨_,⟨ob,_,_,e,_⟩,_⟩:=x;exact⟨_,e⟩
 | rng lo hi=>obtain⟨_,_,_,e⟩:=x;exact⟨_,e⟩
 | frz ob u=>obtain⟨e,_⟩:=x;exact⟨_,e⟩
 | tbl ps=>exact⟨_,show h.get? a=some _ from x⟩
 | met f y=>exact⟨_,show h.get? a=some _ from x⟩
 | ext φ =>exact x.2.1
theorem HOk.nh{P:Program}{w:World}{H:Hp}{h:Heap}{a:Addr}(x:HOk P w H h)(e:h.get? a=none):H a=none:=by
 cases q:H a with
 | none=>rfl
 | some o =>
  obtain⟨ob,e'⟩:=(x a o q).there
  rw[e]at e';cases e'
section
variable{X:Cx}{pins:List (Addr × Obj)}{σ:St}{H H':Hp}{s:Shared}{h':Heap}
theorem Inv.stepN{g':Array GenState}{t':Nat}{d':Drawn}{ch:List Addr}(I:Inv X pins σ H s)
  (hch:∀ b∈ch,(b∈X.ex\/X.s₀.heap.get? b=none)/\b≠X.env.locals/\(∀ x c,X.env.cells.lookup x=some c->c≠b)/\∀ p∈X.pn++pins,p.1≠b)
  (keep:∀ b o,b≠X.env.locals->b∉X.fs->b∉ch->s.heap.get? b=some o->H b=none->h'.get? b=some o)
  (slot:∀ b o,b≠X.env.locals->b∈X.fs->b∉ch->s.heap.get? b=some o->H b=none->∃ sl,h'.get? b=some { o with slots:=sl }) (free:∀ b o,b∉ch->s.heap.get? b=some o->H b=none->H' b=none)
  (there:∀ b o,b∉ch->s.heap.get? b=some o->∃ o',h'.get? b=some o')
  (tups:∀ b xs,H b=some (.tup xs)->H' b=some (.tup xs)) (frzs:∀ b o u,H b=some (.frz o u)->H' b=some (.frz o u)) (tbls:∀ b ps,H b=some (.tbl ps)->∃ more,H' b=some (.tbl (ps++more)))
  (ns:∀ m,s.heap.Ns X.env.locals m->h'.Ns X.env.locals m) (hok:HOk X.prog X.w H' h') (hg:AllBare g') :
  Inv X pins σ H' { s with heap:=h',gens:=g',drawn:=d',toks:=t' }:=by
 have neL:∀ b o,X.s₀.heap.get? b=some o->b≠X.env.locals:=λb o e=>Nat.ne_of_lt (Nat.lt_of_lt_of_le (Heap.lt_size e) I.ok.above)
 have neC:∀ b o,X.s₀.heap.get? b=some o->b∉X.ex->b∉ch:=λb o e hx hb=>by
  rcases(hch b hb).1 with z | z
  ·exact hx z
  ·rw[e]at z;cases z
 have cellK:∀ x c,X.env.cells.lookup x=some c->∀ v,s.heap.IsCell c v->h'.IsCell c v:=λx c e v ⟨o,ho,hd⟩=>by
  have nch:c∉ch:=λz=>(hch c z).2.2.1 x c e rfl
  by_cases hc:c∈X.fs
  ·obtain⟨sl,q⟩:=slot c o (I.cne x c e) hc nch ho (I.freeC x c e)
   exact⟨_,q,hd⟩
  ·exact⟨o,keep c o (I.cne x c e) hc nch ho (I.freeC x c e),hd⟩
 refine⟨I.ok,I.os,hg,⟨λb o e n hb hx=> ?_,λb o e n hb hx=> ?_,λb o e n hx=> ?_,λb o e hx=> ?_,λb xs e=>tups b xs (I.base.tups b xs e),λb o xs e=>frzs b o xs (I.base.frzs b o xs e),λb ps e=> ?_⟩,?_,λx c e=> ?_,?_,λx c e=> ?_,λp hp=> ?_,hok,I.len⟩
 ·exact keep b o (neL b o e) hb (neC b o e hx) (I.base.keep b o e n hb hx) (I.base.free b o e n hx)
 ·obtain⟨sl,e1⟩:=I.base.slot b o e n hb hx
  obtain⟨sl',e2⟩:=slot b _ (neL b o e) hb (neC b o e hx) e1 (I.base.free b o e n hx)
  exact⟨sl',e2⟩
 ·obtain⟨o',e1⟩:=I.base.there b o e hx
  exact free b o' (neC b o e hx) e1 (I.base.free b o e n hx)
 ·obtain⟨o',e1⟩:=I.base.there b o e hx
  exact there b o' (neC b o e hx) e1
 ·obtain⟨m1,e1⟩:=I.base.tbls b ps e
  obtain⟨m2,e2⟩:=tbls b _ e1
  exact⟨m1++m2,by rw[e2,Array.append_assoc]⟩
 ·obtain⟨m,hn,hl⟩:=I.loc
  refine⟨m,ns m hn,λi x v e1 e2 e3=> ?_⟩
  obtain⟨u,r,l⟩:=hl i x v e1 e2 e3
  refine⟨u,r,?_⟩
  rcases l with l | ⟨k,c,e,z⟩
  ·exact .inl l
  ·exact .inr ⟨k,c,e,cellK x c e _ z⟩
 ·obtain⟨v,z⟩:=I.cell x c e
  exact⟨v,cellK x c e v z⟩
 ·obtain⟨m,⟨o,_,_,ho,_⟩,_⟩:=I.loc
  exact free _ o (λz=>(hch _ z).2.1 rfl) ho I.free
 ·obtain⟨v,o,ho,hd⟩:=I.cell x c e
  exact free c o (λz=>(hch c z).2.2.1 x c e rfl) ho (I.freeC x c e)
 ·obtain⟨e,n,ne,nf,d⟩:=I.pin p hp
  have nch:p.1∉ch:=λz=>(hch p.1 z).2.2.2 p hp rfl
  exact⟨keep p.1 p.2 ne nf nch e n,free p.1 p.2 nch e n,ne,nf,d⟩
end
structure Fly(bad:Addr->Prop)(H:Hp)(h:Heap)(e:Addr)(cls:Value):Prop where
 nb:¬ bad e
 free:H e=none
 ex:∃ (oe:Obj) (vs:Array Value),h.get? e=some oe/\oe.cls=cls/\oe.dict=none/\oe.data=.fields vs/\(vs[1]? =some .none ∨
  ∃ (T:Addr) (oT:Obj) (ts:Array Value),vs[1]? =some (.ref T)/\¬ bad T/\H T=none/\T≠e/\h.get? T=some oT/\oT.data=.fields ts/\ts[3]? =some .none)
theorem Fly.mono{bad bad':Addr->Prop}{H:Hp}{h:Heap}{e:Addr}{cls:Value}(F:Fly bad H h e cls)(k:∀ a,bad' a->bad a):Fly bad' H h e cls:=by
 obtain⟨nb,fr,oe,vs,h1,h2,h3,h4,h5⟩:=F
 refine⟨λz=>nb (k _ z),fr,oe,vs,h1,h2,h3,h4,?_⟩
 rcases h5 with z | ⟨T,oT,ts,a,b,c⟩
 ·exact .inl z
 ·exact .inr ⟨T,oT,ts,a,λz=>b (k _ z),c⟩
section
variable{M:Model}{A:Around}{E:Value->Shared->Prop}{s:Shared}
theorem UH{base:Heap}{env:Env}{outer:List Env}{L e:Addr}{oe:Obj}{vs:Array Value}{hd:Value}{nx:Bool}{Q:Unit->Shared->Prop}
  (hfr:A.frames=some (env::outer)) (hl:s.heap.FunFrames base (env::outer)) (hf:env.frame=some L) (he:s.heap.get? e=some oe) (hdt:oe.data=.fields vs) (hsz:1<vs.size)
  (h:∀ h' T oT ts,(∀ b o,s.heap.get? b=some o->b≠e->b∉C5 (env::outer)->h'.get? b=some o)->(∀ b o,s.heap.get? b=some o->b≠e->∃ sl,h'.get? b=some { o with slots:=sl }) →
   h'.get? e=some (oe.mapFields (·.setIfInBounds 1 (.ref T)))->s.heap.objs.size<=T->h'.get? T=some oT->oT.data=.fields ts->ts[3]? =some (rawInt L)->Q () { s with heap:=h' }) :
  wpAny M A (do let a ← frameOf env;let pl ← entryPlaceOf L nx;let b ← EntryCells.newEntry hd a .none (rawInt L) .none pl;setField (.ref e) 1 b) Q E s:=by
 have hne:e∉(env::outer).filterMap (·.frame):=λz=>by
  obtain⟨_,o,ho,hn⟩:=hl.mem z
  rw[he]at ho;cases ho
  exact hn vs hdt
 refine wpAny_bind (wpAny_frameOf_fun hfr hl hf λh1 hs1=> ?_)
 refine wpAny_bind (wpAny_entryPlaceOf λpl hpl=> ?_)
 unfold EntryCells.newEntry newFields
 refine wpAny_bind (wpAny_newObj_type ?_ (hpl.sizeOk5 _ _ _ _ _))
 have he1:h1.get? e=some oe:=(hs1.2.1 e hne).trans he
 refine wpAny_setField (Heap.get?_push_of_some _ he1) hdt hsz ?_
 have hTe:h1.objs.size≠e:=Nat.ne_of_gt (Heap.lt_size he1)
 have hd3:=Obj.data_mapFields hdt (·.setIfInBounds 1 (Value.ref h1.objs.size))
 have keep:∀ b o,b≠e->h1.get? b=some o->((h1.push { cls:=.type "traceback",dict:=none,data:=.fields ([hd,.ref L,.none,rawInt L,.none]++(if pl.isEmpty then List.replicate 6 Value.none else pl)).toArray }).update e (Obj.mapFields (·.setIfInBounds 1 (Value.ref h1.objs.size)))).get? b=some o:=λb o hb e1=>by
  rw[Heap.get?_update_other _ _ (Ne.symm hb)]
  exact Heap.get?_push_of_some _ e1
 refine h _ h1.objs.size _ _ (λb o e1 hb hnf=>keep b o hb ((hs1.2.1 b hnf).trans e1)) (λb o e1 hb=> ?_) (Heap.get?_update_self _ (Heap.get?_push_of_some _ he1) (Obj.isFreed_of_fields hd3)) (by rw[hs1.1];exact Nat.le_refl _)
  ((Heap.get?_update_other _ _ (Ne.symm hTe)).trans (Heap.get?_push_size _ rfl)) rfl ?_
 ·obtain⟨sl,e2⟩:=hs1.2.2 b o e1
  exact⟨sl,keep b _ hb e2⟩
 ·first | (simp;done) | (rcases hpl with rfl | ⟨_,_,_,_,_,_,_,rfl⟩<;>simp)
structure UI(fr:List Addr)(bad:Addr->Prop)(H:Hp)(e:Addr)(cls:Value)(h h':Heap):Prop where
 ch:∃ ch:List Addr,(∀ b∈ch,¬ bad b/\H b=none/\∃ o vs,h.get? b=some o/\o.data=.fields vs)/\(∀ b o,h.get? b=some o->b∉ch->b∉fr->h'.get? b=some o) ∧
  (∀ b o,h.get? b=some o->b∉ch->∃ sl,h'.get? b=some { o with slots:=sl })
 fly:Fly bad H h' e cls
theorem hG{A2:Around}{E2:Value->Shared->Prop}{base:Heap}{env:Env}{outer:List Env}{L e:Addr}{cls:Value}{bad:Addr->Prop}{H:Hp}{Q:Unit->Shared->Prop}
  (hfr:A.frames=some (env::outer)) (hl:s.heap.FunFrames base (env::outer)) (hf:env.frame=some L) (F:Fly bad H s.heap e cls) (hb:∀ a,s.heap.objs.size<=a->¬ bad a) (hH:∀ a,s.heap.objs.size<=a->H a=none)
  (h:∀ h',UI (C5 (env::outer)) bad H e cls s.heap h'->Q () { s with heap:=h' }) :
  wpAny M A (noteFrame (.ref e) env) (λ_ s2=>wpAny M A2 (setFlight (.ref e) none) Q E2 s2) E s:=by
 obtain⟨nb,fr,oe,vs,he,hcls,hdict,hd,htb⟩:=F
 have DY:∀ (s1:Shared) (ch:List Addr) (h':Heap) (T:Addr) (oT:Obj) (ts:Array Value) (oe1:Obj),(∀ b o,s.heap.get? b=some o->s1.heap.get? b=some o\/b∈ch)->s1.heap.objs.size=s.heap.objs.size->e∈ch->(∀ b∈ch,¬ bad b/\H b=none/\∃ o vs,s.heap.get? b=some o/\o.data=.fields vs) →
   oe1.cls=cls->oe1.dict=none->oe1.data=.fields vs->1<vs.size →
   (∀ b o,s1.heap.get? b=some o->b≠e->b∉C5 (env::outer)->h'.get? b=some o)->(∀ b o,s1.heap.get? b=some o->b≠e->∃ sl,h'.get? b=some { o with slots:=sl }) →
   h'.get? e=some (oe1.mapFields (·.setIfInBounds 1 (.ref T)))->s1.heap.objs.size<=T->h'.get? T=some oT->oT.data=.fields ts->ts[3]? =some (rawInt L)->wpAny M A2 (setFlight (.ref e) none) Q E2 { s with heap:=h' }:=by
  intro s1 ch h' T oT ts oe1 hk1 hsz hech hch hcls1 hdict1 hd1 hv k1 k2 e1 hT e2 hdT h3
  have hT':s.heap.objs.size<=T:=hsz ▸ hT
  have hTe:T≠e:=Ne.symm (DT (Heap.lt_size he) hT')
  have hde:=Obj.data_mapFields hd1 (·.setIfInBounds 1 (Value.ref T))
  unfold setFlight
  refine wpAny_bind (wpAny_field e1 hde (x:=.ref T) (by simp[hv]) ?_)
  rw[if_pos (show(Value.ref T != Value.none)=true from by simp)]
  have hs3:3<ts.size:=(Array.getElem?_eq_some_iff.mp h3).1
  refine wpAny_setField e2 hdT hs3 (h _ ?_)
  have oth:∀ b,b≠T->(h'.update T (Obj.mapFields (·.setIfInBounds 3 ((none:Option Addr).elim Value.none λf=>rawInt f)))).get? b=h'.get? b:=λb hb'=>Heap.get?_update_other _ _ (Ne.symm hb')
  have ltT:∀ b o,s.heap.get? b=some o->b≠T:=λb o eb=>DT (Heap.lt_size eb) hT'
  refine⟨⟨ch,hch,λb o eb hbc hbf=> ?_,λb o eb hbc=> ?_⟩,nb,fr,_,_,(oth e (Ne.symm hTe)).trans e1,(Obj.cls_mapFields _ _).trans hcls1,?_,hde,.inr ⟨T,_,_,by simp[hv],hb T hT',hH T hT',hTe,Heap.get?_update_self _ e2 (Obj.isFreed_of_fields (Obj.data_mapFields hdT _)),Obj.data_mapFields hdT _,by simp[hs3]⟩⟩
  ·rw[oth b (ltT b o eb)]
   rcases hk1 b o eb with z | z
   ·exact k1 b o z (λz'=>hbc (z' ▸ hech)) hbf
   ·exact absurd z hbc
  ·rw[oth b (ltT b o eb)]
   rcases hk1 b o eb with z | z
   ·exact k2 b o z (λz'=>hbc (z' ▸ hech))
   ·exact absurd z hbc
  ·obtain⟨c1,c2,c3,c4⟩:=oe1
   dsimp only at hd1
   subst hd1
   exact hdict1
 unfold noteFrame
 simp only[hf]
 rcases htb with h1 | ⟨T0,oT0,ts0,h1,nbT,frT,neT,eT,dT,h3⟩
 ·have hv:1<vs.size:=(Array.getElem?_eq_some_iff.mp h1).1
  refine wpAny_bind (wpAny_field he hd h1 ?_)
  rw[if_neg (by decide)]
  refine UH hfr hl hf he hd hv λh' T oT ts k1 k2 e1 hT e2 hdT h3=> ?_
  exact DY s [e] h' T oT ts oe (λb o eb=>.inl eb) rfl (by simp) (λb hb'=>by rw[List.mem_singleton]at hb';subst hb';exact⟨nb,fr,oe,vs,he,hd⟩) hcls hdict hd hv k1 k2 e1 hT e2 hdT h3
 ·have hv:1<vs.size:=(Array.getElem?_eq_some_iff.mp h1).1
  refine wpAny_bind (wpAny_field he hd h1 ?_)
  rw[if_pos (show(Value.ref T0 != Value.none)=true from by simp)]
  refine wpAny_bind (wpAny_field eT dT h3 ?_)
  rw[if_neg (show ¬ ((Value.none == rawInt L)=true)from by simp[rawInt])]
  refine wpAny_bind (wpAny_setField eT dT (Array.getElem?_eq_some_iff.mp h3).1 ?_)
  have oth:∀ b,b≠T0->(s.heap.update T0 (Obj.mapFields (·.setIfInBounds 3 Value.none))).get? b=s.heap.get? b:=λb hb'=>Heap.get?_update_other _ _ (Ne.symm hb')
  have nf:∀ b o,s.heap.get? b=some o->(∀ vs,o.data≠.fields vs)->b≠T0:=λb o eb hn z=>by rw[z,eT]at eb;cases eb;exact hn ts0 dT
  refine UH hfr (hl.of_keeps λb o eb hn=>⟨o,(oth b (nf b o eb hn)).trans eb,rfl⟩) hf ((oth e (Ne.symm neT)).trans he) hd hv λh' T oT ts k1 k2 e1 hT e2 hdT h3'=> ?_
  exact DY { s with heap:=s.heap.update T0 (Obj.mapFields (·.setIfInBounds 3 Value.none)) } [e,T0] h' T oT ts oe
   (λb o eb=>by
    by_cases z:b=T0
    ·exact .inr (by simp[z])
    ·exact .inl ((oth b z).trans eb))
   (Heap.size_after_update ..) (by simp)
   (λb hb'=>by
    rcases List.mem_cons.mp hb' with z | z
    ·subst z;exact⟨nb,fr,oe,vs,he,hd⟩
    ·rw[List.mem_singleton]at z;subst z;exact⟨nbT,frT,oT0,ts0,eT,dT⟩)
   hcls hdict hd hv k1 k2 e1 hT e2 hdT h3'
end
def Cx.bad(X:Cx)(pins:List (Addr × Obj)):Addr->Prop:=λa=>X.s₀.heap.get? a≠none\/∃ p∈X.pn++pins,p.1=a
structure XOk(X:Cx)(E:St->XK):Prop where
 po:PassesOwn (model X.prog X.w) X.A X.env X.xe
 ex:X.ex=[]
 calm:X.calm=true
 go:∀ (pins:List (Addr × Obj)) (σ:St) (H:Hp) (s:Shared) (e:Addr) (cls:Value),Inv X pins σ H s->Fly (X.bad pins) H s.heap e cls->E σ cls none H->X.xe (.ref e) s
section
variable{X:Cx}{pins:List (Addr × Obj)}{σ:St}{H:Hp}{s:Shared}
theorem Inv.notbad(I:Inv X pins σ H s)(hx:X.ex=[]){a:Addr}(h:s.heap.get? a=none):¬ X.bad pins a:=λz=>by
 rcases z with z | ⟨p,hp,rfl⟩
 ·cases q:X.s₀.heap.get? a with
  | none=>exact z q
  | some o =>
   obtain⟨o',e⟩:=I.base.there a o q (by rw[hx];simp)
   rw[h]at e;cases e
 ·have:=(I.pin p hp).1
  rw[h]at this;cases this
theorem hI{h:Heap}{a:Addr}(z:h.objs.size<=a):h.get? a=none:=by
 cases q:h.get? a with
 | none=>rfl
 | some o=>exact absurd (Nat.lt_of_lt_of_le (Heap.lt_size q) z) (Nat.lt_irrefl _)
theorem Inv.noted{e:Addr}{cls:Value}{h':Heap}(I:Inv X pins σ H s)(N:UI (C5 X.stack) (X.bad pins) H e cls s.heap h'):Inv X pins σ H { s with heap:=h' }:=by
 obtain⟨⟨ch,hch,k1,k2⟩,_⟩:=N
 obtain⟨mL,⟨oL,esL,epL,hoL,dL,rL⟩,_⟩:=id I.loc
 have chne:∀ b∈ch,∀ o,s.heap.get? b=some o->∃ vs,o.data=.fields vs:=λb hb o eb=>by
  obtain⟨_,_,o',vs,e',d⟩:=hch b hb
  rw[eb]at e';cases e'
  exact⟨vs,d⟩
 have hL:X.env.locals∉ch:=λz=>by
  obtain⟨vs,d⟩:=chne _ z _ hoL
  rw[dL]at d;cases d
 refine I.stepN (g':=s.gens) (t':=s.toks) (d':=s.drawn) (ch:=ch) (λb hb=>⟨.inr ?_,λz=>hL (z ▸ hb),λx c ec z=> ?_,λp hp z=>(hch b hb).1 (.inr ⟨p,hp,z⟩)⟩)
  (λb o hbL hbf hbc eb _=>k1 b o eb hbc λz=>(List.mem_cons.mp (I.stkSub b z)).elim hbL hbf) (λb o _ _ hbc eb _=>k2 b o eb hbc) (λ_ _ _ _ n=>n) (λb o hbc eb=> ?_) (λ_ _ q=>q) (λ_ _ _ q=>q) (λb ps q=>⟨#[],by rw[q];simp⟩) (λm hm=> ?_) (λb o eb=> ?_) I.bare
 ·cases q:X.s₀.heap.get? b with
  | none=>rfl
  | some o=>exact absurd (.inl (by rw[q];simp)) (hch b hb).1
 ·obtain⟨v,oc,hoc,hd⟩:=I.cell x c ec
  obtain⟨vs,d⟩:=chne c (z ▸ hb) oc hoc
  rw[hd]at d;cases d
 ·obtain⟨sl,q⟩:=k2 b o eb hbc
  exact⟨_,q⟩
 ·obtain⟨o',es',ep',ho',r'⟩:=hm
  rw[hoL]at ho';cases ho'
  obtain⟨sl,q⟩:=k2 _ _ hoL hL
  exact⟨_,es',ep',q,r'⟩
 ·refine(I.hok b o eb).stay (λc u hc q=>k1 c u q ?_ ?_) (λ_ q=>q) λ_ _ q=>q
  ·intro z
   have fr:=(hch c z).2.1
   rcases hc with rfl | hc
   ·rw[eb]at fr;cases fr
   ·rw[hc]at fr;cases fr
  ·intro z
   have fr:=I.stkFree c z
   rcases hc with rfl | hc
   ·rw[eb]at fr;cases fr
   ·rw[hc]at fr;cases fr
def DB(P:Program)(w:World):D9:=λouter H s E e s'=>∃ (ea:Addr) (cls:Value) (H':Hp),e=.ref ea/\s'.os=s.os/\AllBare s'.gens/\Un (C5 outer) [] H H' s.heap s'.heap/\HOk P w H' s'.heap/\Fly (λa=>s.heap.get? a≠none) H' s'.heap ea cls/\E cls none H'
theorem UJ{P:Program}{w:World}{outer:List Env}{H:Hp}{s:Shared}{e:Value}{s':Shared}(h:DB P w outer H s (λ_ _ _=>False) e s'):False:=by
 obtain⟨_,_,_,_,_,_,_,_,_,f⟩:=h
 exact f
theorem XOk.passes{E:St->XK}(x:XOk X E):EO (DB X.prog X.w) X E:=λpins σ H s e s' I h=>by
 obtain⟨ea,cls,H',rfl,os,bare,un,hok,F,q⟩:=h
 refine x.go pins σ H' s' ea cls (I.call' (ch:=[]) os un hok bare λb z=>absurd z (by simp)) (F.mono λa z=> ?_) q
 rcases z with z | ⟨p,hp,rfl⟩
 ·cases q0:X.s₀.heap.get? a with
  | none=>exact absurd q0 z
  | some o =>
   obtain⟨o',e⟩:=I.base.there a o q0 (by rw[x.ex];simp)
   rw[e];simp
 ·rw[(I.pin p hp).1];simp
theorem GU{P:Program}{w:World}:EO (DB P w) X (λ_=>E0):=λ_ _ _ _ _ _ _ h=>(UJ h).elim
end
theorem hU{P:Program}{w:World}{K:W.Frag}{mg:Str->Option Value}{base:Heap}{N:List Str}{qual:Str}{scope:Scope}{f:Addr}{cd:Value}{A:Around}{outer:List Env}{s:Shared}{H:Hp}{E:XK} :
  XOk (FH (DB P w) P w K mg base N qual scope f cd A outer s H E) (λ_=>E) where
 po:=PassesOwn.leaving
 ex:=rfl
 calm:=rfl
 go:=λpins σ H' s' e cls I F q=>by
  have hfr:(A.deeper (envOfC qual scope s.heap.objs.size f cd)).frames=some (envOfC qual scope s.heap.objs.size f cd::outer):=I.ok.frames
  show wpAny _ _ (leaving _ _) _ _ _
  unfold leaving
  refine wpAny_bind (hG hfr I.stack rfl F (λa z=>I.notbad rfl (hI z)) (λa z=>I.hok.fresh z) λh' N=> ?_)
  have I':=I.noted N
  exact⟨e,cls,H',rfl,I'.os,I'.bare,I'.base,I'.hok,N.fly.mono λa z=>.inl z,q⟩
structure Exc(K:W.Frag)(C:Addr):Prop where
 ex:W.excIn K C [.type "ValueError",.type "Exception",.type "BaseException",.type "object"] "ValueError.__new__"=true
theorem Exc.obj{K:W.Frag}{C:Addr}{h:Heap}(x:Exc K C)(X:K.In h):∃ (tl:List Value) (N:Addr) (nm q:Str) (bs:List Value) (hdct:Bool) (sn:List Str) (sub:List Value) (ab:Bool) (col:Option Bool) (dd:Option Addr) (k0 k1 k2 k3 k5:Option Value) (mN:Str->Option Value),
  h.get? C=some (excClassObj nm q C N bs tl hdct sn sub ab col dd k0 k1 k2 k3 k5 "ValueError.__new__")/\h.Ns N mN/\mN "__init__"=none/\OwnTail h [.type "ValueError",.type "Exception",.type "BaseException",.type "object"] tl:=by
 have q:=x.ex
 unfold W.excIn at q
 split at q
 ·rename_i dd cd sl ho
  split at q
  ·rename_i C' bm k0 k1 k2 k3 n k5 hm hs
   simp only[Bool.and_eq_true,beq_iff_eq,Bool.not_eq_true']at q
   obtain⟨⟨⟨⟨⟨rfl,rfl⟩,hdel⟩,ht⟩,hok⟩,hni⟩:=q
   obtain⟨nm,bs,mro,ns,qn,hd,sn,sub,ab,col,del⟩:=cd
   dsimp only at hm hdel hok hni
   subst hm hdel
   obtain⟨l⟩:=sl
   simp only at hs
   subst hs
   exact⟨bm,ns,nm,qn,bs,hd,sn,sub,ab,col,dd,k0,k1,k2,k3,k5,_,X _ _ ho,.of_isNs (W.isNs_of_in X hok),W.nsMap_none_of_in X hok hni,W.tail_of_in X ht⟩
  ·cases q
 ·cases q
def NN(C:Addr)(E:St->XK)(t:TA):TS:=λ_ σ H=>t σ H λvs H1=>vs.length<=sizeLine/\E σ (.ref C) none H1
section
variable{X:Cx}{E:St->XK}{C:Addr}{x:Str}{np cpos pos:Pos}{e:Expr}{es:List Expr}{t:TA}
theorem UK(hx:XOk X E)(c:Exc X.K C)(hg:Gl X x)(hm:X.mg x=some (.ref C))(ha:PA X (e::es) t)(hdb:(x ==("__debug__":Str))=false:=by decide)
  (he:starEach (e::es) X.env=(false,eval e X.env)::starEach es X.env:=by rfl) (hpl:(backTo cpos (starEach es X.env)).any (·.1)=false:=by rfl) :
  PS X (.Raise (some (.Call (.Name x np) (e::es) [] cpos)) none pos) (NN C E t):=by
 intro pins s σ H D I h
 obtain⟨tl,N,nm,q,bs,hdct,sn,sub,ab,col,dd,k0,k1,k2,k3,k5,mN,hC,hN,hni,T⟩:=c.obj I.mod.kin
 have hpl2:(backTo cpos (starEach (e::es) X.env)).any (·.1)=false:=by
  rw[he]
  show(false || (backTo cpos (starEach es X.env)).any (·.1))=false
  rw[hpl];rfl
 refine wpAny_Raise_call_subT (C:=C) (nm:=nm) (q:=q) (N:=N) (bs:=bs) (bm:=tl) (hdct:=hdct) (sn:=sn) (sub:=sub) (ab:=ab) (col:=col) (dd:=dd) (k0:=k0) (k1:=k1) (k2:=k2) (k3:=k3) (k5:=k5)
  PySem.F.excBase_ValueError (mN:=mN) (T.hasType PySem.F.excBase_ValueError.hasBase) (I.ok.hd hx.calm) hpl2 hni (OC I hg hm ⟨rfl,?_⟩ hdb)
 have hq:=ha cpos pins s σ H _ I h
 rw[he]at hq ⊢
 refine Calls.evalArgs_plain (AV hq λus s1 ⟨vs,H1,I1,r,hz,q1⟩=>⟨rfl,?_,I1.bk _ _ hC,hN.keeps I1.bk,T.keeps I1.bk,λh' ea hM=> ?_⟩)
 ·show us.length<=_
  rw[<-r.length];exact hz
 ·have I2:Inv X pins σ H1 { s1 with heap:=h' }:=I1.kept (t':=s1.toks) hM.keeps
  obtain⟨tt,h1,h2,h3⟩:=hM.there
  refine hx.go pins σ H1 _ ea (.ref C) I2 ⟨λz=>I1.notbad hx.ex hM.new z,I1.hok.nh hM.new,_,_,h1,rfl,rfl,rfl,.inl rfl⟩ q1
end
end L2
namespace L2
section
variable(P:Program)(w:World)(K:W.Frag)(mg:Str->Option Value)(base:Heap)
structure B3(k:Nat)(x:Str)(ps:List Str)(sp:Sp):Prop where
 ex:∃ (f:Addr) (fd:FuncData),FnOk P w K mg base (DB P w) k f fd ps sp/\mg x=some (.ref f)/\W.keepIn K (.ref f)=true/\Binds K fd ps []
structure B4(C:Addr)(k:Nat)(m:Str)(ps:List Str)(sp:Sp):Prop where
 ex:∃ (f:Addr) (fd:FuncData),FnOk P w K mg base (DB P w) k f fd ps sp/\NJ K C m f/\Binds K fd ps []
structure LD(C:Addr)(k:Nat)(x:Str)(ps:List Str)(sp:Sp):Prop where
 ex:∃ (f:Addr) (fd:FuncData),FnOk P w K mg base (DB P w) k f fd ps sp/\Mk K C f/\mg x=some (.ref C)/\Binds K fd ps []
end
section
variable{X:Cx}{E:St->XK}{k:Nat}{x m:Str}{ps:List Str}{sp:Sp}{C:Addr}{p pos apos:Pos}{e o:Expr}{es:List Expr}{ta:TE}{t:TA}
theorem BU(c:B3 X.prog X.w X.K X.mg X.base k x ps sp)(hr:Room k X.A)(hp:EO (DB X.prog X.w) X E)(hg:Gl X x)(ha:PA X (e::es) t)(hdb:(x ==("__debug__":Str))=false:=by decide)
  (he:starEach (e::es) X.env=(false,eval e X.env)::starEach es X.env:=by rfl) (hpl:(backTo pos (starEach es X.env)).any (·.1)=false:=by rfl):PE X (.Call (.Name x p) (e::es) [] pos) (BR sp [] E t):=by
 obtain⟨f,fd,F,hm,hk,hb⟩:=c.ex
 exact fK F hr hg hm hk hb .nil hp ha hdb he hpl
theorem DO{pl:Sem Bool}(he:PE X o ta)(cl:Cls X.K C)(c:B4 X.prog X.w X.K X.mg X.base C k m ps sp)(hr:Room k X.A)(hp:EO (DB X.prog X.w) X E)(ha:PA X (e::es) t)
  (hst:starEach (e::es) X.env=(false,eval e X.env)::starEach es X.env:=by rfl) (hpl:(backTo pos (starEach es X.env)).any (·.1)=false:=by rfl)
  (ht:eval (.Call (.Attribute o m apos) (e::es) [] pos) X.env=(do
   let ov ← eval o X.env
   standAt apos.atName
   let (f,first) ← holding [ov] (getMethod ov m pl)
   callWith pos f first (backTo pos (starEach (e::es) X.env)) (backToKw pos (keywordEach [] X.env))):=by rfl):PE X (.Call (.Attribute o m apos) (e::es) [] pos) (BX C m sp [] E ta t):=by
 obtain⟨f,fd,F,hm,hb⟩:=c.ex
 exact fL he cl hm F hr hb .nil hp ha hst hpl ht
theorem EI{pl:Sem Bool}(he:PE X o ta)(cl:Cls X.K C)(c:B4 X.prog X.w X.K X.mg X.base C k m ps sp)(hr:Room k X.A)(hp:EO (DB X.prog X.w) X E)
  (ht:eval (.Call (.Attribute o m apos) [] [] pos) X.env=(do
   let ov ← eval o X.env
   standAt apos.atName
   let (f,first) ← holding [ov] (getMethod ov m pl)
   callWith pos f first (backTo pos (starEach [] X.env)) (backToKw pos (keywordEach [] X.env))):=by rfl):PE X (.Call (.Attribute o m apos) [] [] pos) (BX C m sp [] E ta AG):=by
 obtain⟨f,fd,F,hm,hb⟩:=c.ex
 exact fM he cl hm F hr hb .nil hp ht
theorem NO(c:LD X.prog X.w X.K X.mg X.base C k x ps sp)(hr:Room (k+1) X.A)(hp:EO (DB X.prog X.w) X E)(hg:Gl X x)(ha:PA X (e::es) t)(hdb:(x ==("__debug__":Str))=false:=by decide)
  (he:starEach (e::es) X.env=(false,eval e X.env)::starEach es X.env:=by rfl) (hpl:(backTo pos (starEach es X.env)).any (·.1)=false:=by rfl):PE X (.Call (.Name x p) (e::es) [] pos) (HI C sp [] E t):=by
 obtain⟨f,fd,F,M,hm,hb⟩:=c.ex
 exact fO M F hr hg hm hb .nil hp ha hdb he hpl
end
theorem Fun.okE{P:Program}{w:World}{K:W.Frag}{mg:Str->Option Value}{base:Heap}{x qual:Str}{st:Stmt}{f:Addr}{fd:FuncData}{N ps:List Str}{k:Nat}{sp:Sp}(F:Fun K x qual st f fd)(S:FnScope N ps (AK st))(len:∀ vs H Q E,sp vs H Q E->vs.length=ps.length)
  (hbody:∀ (cdv:Value) (A:Around) (outer:List Env) (s:Shared) (H:Hp) (vs:List V) (Q:VK) (E:XK),Room k (A.deeper (envOfC qual (AK st) s.heap.objs.size f cdv))->sp vs H Q E →
   ∃ t,PSs (FH (DB P w) P w K mg base N qual (AK st) f cdv A outer s H E) (BB st) t/\t { nx:=λ_ H'=>Q .non H',rt:=Q } (A7 N vs) H):FnOk P w K mg base (DB P w) (k+1) f fd ps sp:=by
 obtain⟨oc,od,kV,doc,pm,an,cdv,ct,osl,rfl,l,c⟩:=F.ex
 exact S4 l c S len λA outer s H vs Q E hr h=>hbody cdv A outer s H vs Q E hr h
def GV(mg:Str->Option Value)(x:Str)(v:V):Prop:=∃ u,mg x=some u/\RelV v u
abbrev Cx.tri(X:Cx)(pn:List (Addr × Obj))(xe:Value->Shared->Prop):Cx:={ X with pn:=pn,xe:=xe }
abbrev Cx.hand(X:Cx)(e:Addr):Cx:={ X with A:=X.A.mark (some (.ref e)),calm:=false,xe:=λ_ _=>False }
section
variable{X:Cx}{pins:List (Addr × Obj)}{σ:St}{H:Hp}{s:Shared}
theorem Cx.Ok.tri{pn:List (Addr × Obj)}{xe:Value->Shared->Prop}(ok:X.Ok):(X.tri pn xe).Ok :=
 ⟨ok.mod,ok.kind,ok.glob,ok.blt,ok.above,ok.inj,ok.has,ok.cab,ok.hd,ok.frames,ok.stk,ok.exf,ok.bs,ok.bsz,ok.noex,ok.exfs,ok.funs,ok.frf⟩
theorem Inv.tri{xe:Value->Shared->Prop}(I:Inv X pins σ H s):Inv (X.tri (X.pn++pins) xe) [] σ H s :=
 ⟨I.ok.tri,I.os,I.bare,I.base,I.loc,I.cell,I.free,I.freeC,λp hp=>I.pin p (by simpa using hp),I.hok,I.len⟩
theorem Cx.Ok.untri{pn:List (Addr × Obj)}{xe:Value->Shared->Prop}(ok:(X.tri pn xe).Ok):X.Ok :=
 ⟨ok.mod,ok.kind,ok.glob,ok.blt,ok.above,ok.inj,ok.has,ok.cab,ok.hd,ok.frames,ok.stk,ok.exf,ok.bs,ok.bsz,ok.noex,ok.exfs,ok.funs,ok.frf⟩
theorem Inv.untri{pl:List (Addr × Obj)}{xe:Value->Shared->Prop}(I:Inv (X.tri (X.pn++pins) xe) pl σ H s):Inv X pins σ H s :=
 ⟨I.ok.untri,I.os,I.bare,I.base,I.loc,I.cell,I.free,I.freeC,λp hp=>I.pin p (List.mem_append_left _ hp),I.hok,I.len⟩
theorem Cx.Ok.hand{e:Addr}(ok:X.Ok):(X.hand e).Ok :=
 ⟨ok.mod,ok.kind,ok.glob,ok.blt,ok.above,ok.inj,ok.has,ok.cab,(λz=>nomatch z),ok.frames,ok.stk,ok.exf,ok.bs,ok.bsz,ok.noex,ok.exfs,ok.funs,ok.frf⟩
theorem Inv.hand{e:Addr}(I:Inv X pins σ H s):Inv (X.hand e) pins σ H s:=⟨I.ok.hand,I.os,I.bare,I.base,I.loc,I.cell,I.free,I.freeC,I.pin,I.hok,I.len⟩
theorem Inv.unhand{e:Addr}(ok:X.Ok)(I:Inv (X.hand e) pins σ H s):Inv X pins σ H s:=⟨ok,I.os,I.bare,I.base,I.loc,I.cell,I.free,I.freeC,I.pin,I.hok,I.len⟩
end
def LE(e:Addr)(cls:Value):Heap->Prop:=λh=>∃ oe vs,h.get? e=some oe/\oe.cls=cls/\oe.dict=none/\oe.data=.fields vs
abbrev TH:=Value->Ends->St->Hp->Prop
def Ends.drop(D:Ends)(i:Nat):Ends:={ nx:=λσ H=>D.nx (σ.set i none) H,rt:=D.rt,bk:=λσ H=>D.bk (σ.set i none) H,ct:=λσ H=>D.ct (σ.set i none) H }
def hV(tb:(St->XK)->TS)(th:TH):TS:=λD σ H=>tb (λσ' cls _ H'=>th cls D σ' H') D σ H
section
variable{X:Cx}{hs:List ExceptHandler}{h₀:ExceptHandler}{th:TH}{body:List Stmt}{tb:(St->XK)->TS}{pos:Pos}
theorem SP.unhand{pins:List (Addr × Obj)}{D:Ends}{e:Addr}{f:Flow}{s:Shared}(ok:X.Ok)(h:SP (X.hand e) pins D f s):SP X pins D f s:=by
 cases f with
 | next=>obtain⟨σ1,H1,I1,q⟩:=h;exact⟨σ1,H1,I1.unhand ok,q⟩
 | brk=>obtain⟨σ1,H1,I1,q⟩:=h;exact⟨σ1,H1,I1.unhand ok,q⟩
 | cont=>obtain⟨σ1,H1,I1,q⟩:=h;exact⟨σ1,H1,I1.unhand ok,q⟩
 | ret u=>obtain⟨v,σ1,H1,I1,r,q⟩:=h;exact⟨v,σ1,H1,I1.unhand ok,r,q⟩
end
end L2
namespace L2
mutual
inductive Rep(K:W.Frag)(H:Hp):V->PyData->Prop
 | non:Rep K H .non .none
 | bl (b:Bool):Rep K H (.bl b) (.bool b)
 | int (i:Int):Rep K H (.int i) (.int i)
 | str (x:Str):Rep K H (.str x) (.str x)
 | lst {a:Addr} {xs:List V} {ds:List PyData}:SqL K H a xs->RepAll K H xs ds->Rep K H (.ref a) (.list ds)
 | tup {a:Addr} {xs:List V} {ds:List PyData}:SqT K H a xs->RepAll K H xs ds->Rep K H (.ref a) (.tuple ds)
inductive RepAll(K:W.Frag)(H:Hp):List V->List PyData->Prop
 | nil:RepAll K H [] []
 | cons {v:V} {d:PyData} {vs:List V} {ds:List PyData}:Rep K H v d->RepAll K H vs ds->RepAll K H (v::vs) (d::ds)
end
section
variable{X:Cx}{pins:List (Addr × Obj)}{σ:St}{H:Hp}{s:Shared}
mutual
theorem Rep.reads(I:Inv X pins σ H s):∀ {v:V} {d:PyData} {u:Value},Rep X.K H v d->RelV v u->∃ as,Reads s.heap u d as
 | _,_,_,.non,r=>by cases (show _=Value.none from r);exact⟨_,.none⟩
 | _,_,_,.bl b,r=>by cases (show _=Value.bool b from r);exact⟨_,.bool b⟩
 | _,_,_,.int i,r=>by obtain⟨t,e⟩:=(show ∃ t,_=Value.int i t from r);cases e;exact⟨_,.int i t⟩
 | _,_,_,.str x,r=>by obtain⟨t,e⟩:=(show ∃ t,_=Value.str x t from r);cases e;exact⟨_,.str x t⟩
 | _,_,_,.lst (a:=a) h hr,r=>by
  cases (show _=Value.ref a from r)
  obtain⟨its,rv,p,_⟩:=I.list h
  obtain⟨as,q⟩:=RepAll.reads I hr rv
  obtain⟨o,e1,e2,n,e3⟩:=p.isList
  exact⟨_,.list e1 e2 e3 q⟩
 | _,_,_,.tup (a:=a) h hr,r=>by
  cases (show _=Value.ref a from r)
  obtain⟨its,rv,p,_⟩:=I.tuple h
  obtain⟨as,q⟩:=RepAll.reads I hr rv
  obtain⟨o,e1,e2,n,e3⟩:=p
  exact⟨_,.tuple e1 e2 e3 q⟩
theorem RepAll.reads(I:Inv X pins σ H s):∀ {vs:List V} {ds:List PyData} {us:List Value},RepAll X.K H vs ds->Vals vs us->∃ as,ReadsAll s.heap us ds as
 | _,_,_,.nil,.nil=>⟨_,.nil⟩
 | _,_,_,.cons h hr,.cons r rr=>by
  obtain⟨as,q⟩:=Rep.reads I h r
  obtain⟨bs,q2⟩:=RepAll.reads I hr rr
  exact⟨_,.cons q q2⟩
end
end
abbrev shp(d:PyData):Prop:=PySem.SeqAt.shaped d=true
def BO(K:W.Frag):R2:=λx y H Q=>if DG x y=true then Q (.bl (decide (x=y))) H else ∃ d e,Rep K H x d/\Rep K H y e/\shp d/\shp e/\Q (.bl (PyData.eqv d e)) H
def CM(K:W.Frag):R2:=λx y H Q=>if DG x y=true then Q (.bl (!decide (x=y))) H else ∃ d e,Rep K H x d/\Rep K H y e/\shp d/\shp e/\Q (.bl (!PyData.eqv d e)) H
section
variable{X:Cx}
theorem CT(hu:X.A.units+64<cLine):OpR X (compareOp .Eq) (BO X.K):=by
 intro pins s σ H x y v u Q I rx ry h
 unfold BO at h
 split at h
 ·rename_i hs
  exact eN pins s σ H x y v u Q I rx ry ⟨hs,h⟩
 ·obtain⟨d,e,rd,re,sd,se,q⟩:=h
  obtain⟨as,ra⟩:=rd.reads I rx
  obtain⟨bs,rb⟩:=re.reads I ry
  exact eq_dataH ra rb sd se hu ⟨.bl _,H,I,rfl,q⟩
theorem GW(hu:X.A.units+64<cLine):OpR X (compareOp .NotEq) (CM X.K):=by
 intro pins s σ H x y v u Q I rx ry h
 unfold CM at h
 split at h
 ·rename_i hs
  exact eO pins s σ H x y v u Q I rx ry ⟨hs,h⟩
 ·obtain⟨d,e,rd,re,sd,se,q⟩:=h
  obtain⟨as,ra⟩:=rd.reads I rx
  obtain⟨bs,rb⟩:=re.reads I ry
  exact ne_dataH ra rb sd se hu ⟨.bl _,H,I,rfl,q⟩
def O8(K:W.Frag):R2:=λx y H Q=>∃ a b ys,x=.ref a/\y=.ref b/\SqT K H a []/\SqT K H b ys/\Q (.ref b) H
theorem hW:OpR X (binaryOp .Add) (O8 X.K):=by
 intro pins s σ H x y v u Q I rx ry h
 obtain⟨a,b,ys,rfl,rfl,ha,hb,q⟩:=h
 cases rx
 cases ry
 obtain⟨its,r1,⟨⟨c1,c2,c3,c4⟩,e1,e2,n1,e3⟩,_⟩:=I.tuple ha
 obtain⟨its2,r2,⟨⟨d1,d2,d3,d4⟩,f1,f2,n2,f3⟩,_⟩:=I.tuple hb
 obtain rfl:c1=_:=e2
 obtain rfl:c3=_:=e3
 obtain rfl:d1=_:=f2
 obtain rfl:d3=_:=f3
 cases r1
 exact concat_meets ⟨_,e1,rfl⟩ ⟨_,f1,rfl⟩ noFill_tuple_add seq_tuple_add PySem.F.slot_tuple_add PySem.F.entry_tuple_add (PySem.F.args_tuple_add_2 _ _) (tuple_addW0 a b #[] its2.toArray n1 n2 c2 d2 c4 d4 rfl) ⟨e1,f1,.ref b,H,I,rfl,q⟩
def A4(K:W.Frag):R2:=λx y H Q=>match x,y with
 | .int i,.int j=>Q (.int (i+j)) H
 | .str i,.str j=>i.length+j.length<=sizeLine/\Q (.str (i++j)) H
 | .ref _,.ref _=>OY x y H Q\/OR K x y H Q\/O8 K x y H Q
 | _,_=>False
theorem BC:OpR X (binaryOp .Add) (A4 X.K):=by
 intro pins s σ H x y v u Q I rx ry h
 cases x<;>cases y<;>simp only[A4]at h
 ·exact eJ pins s σ H _ _ v u Q I rx ry ⟨_,_,rfl,rfl,h⟩
 ·exact eX pins s σ H _ _ v u Q I rx ry ⟨_,_,rfl,rfl,h⟩
 ·rcases h with h | h
  ·exact gJ pins s σ H _ _ v u Q I rx ry h
  rcases h with h | h
  ·exact fW pins s σ H _ _ v u Q I rx ry h
  ·exact hW pins s σ H _ _ v u Q I rx ry h
def GD:R2:=λx y H Q=>match x,y with
 | .int i,.int j=>Q (.bl (decide (i<j))) H
 | .str i,.str j=>Q (.bl (decide (i.cps.toList<j.cps.toList))) H
 | _,_=>False
def LF:R2:=λx y H Q=>match x,y with
 | .int i,.int j=>Q (.bl (decide (i<=j))) H
 | .str i,.str j=>Q (.bl (!decide (j.cps.toList<i.cps.toList))) H
 | _,_=>False
end
end L2
namespace L2
theorem hX:fillsNumberSlot (.type "tuple") "mul"=pure false :=
 PySem.fillsNumberSlot_seq (id:="tuple.__mul__") (r:=some (.builtin "tuple.__rmul__")) F.slot_tuple_mul.lookup (by decide +kernel) F.slot_tuple_rmul.lookup (by decide +kernel)
theorem hZ:seqRepeat? (.type "tuple")=pure (some (.builtin "tuple.__mul__")):=by
 unfold seqRepeat?
 rw[PySem.seqSlot_of (T:="tuple") (name:="__mul__") (id:="tuple.__mul__") F.slot_tuple_mul.lookup (by decide +kernel),PySem.seqSlot_of (T:="tuple") (name:="__rmul__") (id:="tuple.__rmul__") F.slot_tuple_rmul.lookup (by decide +kernel)]
 rfl
theorem iA(a:Int)(t:Tok)(l:Addr)(items:Array Value)(dd:Option Addr)(n:Nat)(sl:Array (Option Value)) :
  Meets (Builtin.«int.__rmul__» ⟨[.int a t,.ref l],[]⟩) (λ_ R s=>s.heap.get? l=some ⟨.type "tuple",dd,.seq items n,sl⟩/\R (.ok (.ret Value.notImplemented)) s) :=
 .of_wp λprog w A R s h=>by obtain⟨hp,g,d,tk,os⟩:=s;obtain⟨hl,h⟩:=h;wp_walk;exact⟨_,rfl,h⟩
theorem iB(l:Addr)(items:Array Value)(dd:Option Addr)(n:Nat)(sl:Array (Option Value))(x:Int)(u:Tok)(h1:1<x)(h2:x<2 ^ 63)(hne:items.isEmpty=false)(hz:items.size * x.toNat<=sizeLine) :
  Meets (Builtin.«tuple.__mul__» ⟨[.ref l,.int x u],[]⟩) (λ_ R s=>s.heap.get? l=some ⟨.type "tuple",dd,.seq items n,sl⟩ ∧
   R (.ok (.ret (Value.ref s.heap.objs.size))) { s with heap:=s.heap.push { cls:=Value.type "tuple",data:=Data.seq (List.foldl (λx1 x2=>x1++x2) #[] (List.replicate x.toNat items)) } }) :=
 .of_wp λprog w A R s h=>by
  obtain⟨hp,g,d,tk,os⟩:=s;obtain⟨hl,h⟩:=h
  have hsl:(sizeLine:Nat)<=(2 ^ 63 - 1) / 8:=by decide
  have hlen:(List.foldl (λx1 x2=>x1++x2) #[] (List.replicate x.toNat items)).size<=sizeLine:=by
   have:=NL items.toList x.toNat []
   simp only[List.nil_append,Array.toArray_toList]at this
   rw[this]
   simp only[List.size_toArray,List.length_flatten,List.map_replicate,List.sum_replicate_nat,Array.length_toList]
   rw[Nat.mul_comm];exact hz
  have hx:∃ N:Nat,(items.size:Int) * x=(N:Int)/\N<=sizeLine:=⟨items.size * x.toNat,by rw[Int.natCast_mul,Int.toNat_of_nonneg (by omega)],hz⟩
  obtain⟨N,hx,hN⟩:=hx
  unfold Builtin.«tuple.__mul__»
  wp_walk
  refine wpAny_ite_false (by simp;omega) ?_
  wp_walk
  refine wpAny_ite_false (by simp only[hne,Bool.false_or];simp;omega) ?_
  refine wpAny_ite_false (by simp only[hne,Bool.or_false];simp;omega) ?_
  refine wpAny_ite_false (by rw[hx];exact decide_eq_false (by omega)) ?_
  refine wpAny_ite_false (by rw[hx];unfold Builtin.Tuple.tupleTooMany;simp;omega) ?_
  wp_walk
  exact⟨_,rfl,h⟩
theorem iC(l:Addr)(items:Array Value)(dd:Option Addr)(n:Nat)(sl:Array (Option Value))(u:Tok) :
  Meets (Builtin.«tuple.__mul__» ⟨[.ref l,.int 1 u],[]⟩) (λ_ R s=>s.heap.get? l=some ⟨.type "tuple",dd,.seq items n,sl⟩/\R (.ok (.ret (Value.ref l))) s) :=
 .of_wp λprog w A R s h=>by
  obtain⟨hp,g,d,tk,os⟩:=s;obtain⟨hl,h⟩:=h
  unfold Builtin.«tuple.__mul__»
  wp_walk
  exact⟨_,rfl,h⟩
def O9(K:W.Frag):R2:=λx y H Q=>∃ a k xs,x=.ref a/\y=.int k/\SqT K H a xs/\xs≠[]/\1<=k/\k<2 ^ 63/\xs.length * k.toNat<=sizeLine ∧
 (k=1->Q (.ref a) H)/\(k≠1->∀ p,H p=none->Q (.ref p) (upd H p (.tup (List.replicate k.toNat xs).flatten)))
section
variable{X:Cx}
theorem Inv.tnew{pins:List (Addr × Obj)}{σ:St}{H:Hp}{s:Shared}{ys:List V}{its:List Value}(I:Inv X pins σ H s)(hv:Vals ys its)(hz:ys.length<=sizeLine) :
  Inv X pins σ (upd H s.heap.objs.size (.tup ys)) { s with heap:=s.heap.push { cls:=.type "tuple",data:=.seq its.toArray } } :=
 I.laid (t':=s.toks) (λ_ _ q=>Heap.get?_push_of_some _ q) (Nat.le_refl _) ⟨hz,its,hv,_,Heap.get?_push_size _ rfl,rfl,0,rfl⟩
theorem iD:OpR X (binaryOp .Mult) (O9 X.K):=by
 intro pins s σ H x y v u Q I rx ry h
 obtain⟨a,k,xs,rfl,rfl,hx,hne,h1,h2,hz,q1,q2⟩:=h
 cases rx
 obtain⟨t,rfl⟩:=ry
 obtain⟨its,r,⟨⟨c1,c2,c3,c4⟩,e1,e2,n,e3⟩,_⟩:=I.tuple hx
 obtain rfl:c1=_:=e2
 obtain rfl:c3=_:=e3
 have hl:=r.length
 have he:its.toArray.isEmpty=false:=by
  cases its with
  | nil=>exact absurd (List.length_eq_zero_iff.mp hl) hne
  | cons b t=>rfl
 refine wpAny_binaryOp_repeat_ref (T:="tuple") (U:="int") (by decide) ⟨_,e1,rfl⟩ (λs'=>typeIs_int s' k t) hX F.fills_int_mul F.slot_int_rmul hZ F.slot_int_index.lookup
  (call_meets F.slot_int_rmul (typeIs_int s k t) F.entry_int_rmul (F.args_int_rmul_2 _ _) (iA k t a its.toArray c2 n c4) ⟨e1,rfl,⟨_,e1,rfl⟩,?_⟩)
 by_cases hk:k=1
 ·subst hk
  exact call_meets F.slot_tuple_mul ⟨_,e1,rfl⟩ F.entry_tuple_mul (F.args_tuple_mul_2 _ _) (iC a its.toArray c2 n c4 t) ⟨e1,.ref a,H,I,rfl,q1 rfl⟩
 ·refine call_meets F.slot_tuple_mul ⟨_,e1,rfl⟩ F.entry_tuple_mul (F.args_tuple_mul_2 _ _) (iB a its.toArray c2 n c4 k t (by omega) h2 he (by rw[List.size_toArray,<-hl];exact hz)) ⟨e1,?_⟩
  have f0:=NL its k.toNat []
  rw[List.nil_append]at f0
  rw[f0]
  exact⟨.ref _,_,I.tnew (r.rep k.toNat) (by rw[TX,Nat.mul_comm];exact hz),rfl,q2 hk _ I.fresh⟩
abbrev PB:R2:=FG λi j=>.int (i - j)
abbrev BY:R2:=rI (λ_ j=>0<j) λi j=>.int (i % j)
abbrev ES:R2:=rI SJ λi j=>.int (i / j)
abbrev PD:R2:=rI SK λi j=>.int (i ^ j.toNat)
abbrev iE:V->Hp->VK->Prop:=rU λi=>.int (-i)
abbrev iF:ND:=OF λi j=>i+j
def HL(z:Str)(k:Int):Str:=if k<1 then Str.empty else if(k == 1 || z.length == 0)=true then z else⟨(List.replicate k.toNat z.cps).foldl (· ++·) #[]⟩
theorem iG(z:Str)(k:Nat):(Str.mk ((List.replicate k z.cps).foldl (· ++·) #[])).length=k * z.length:=by
 have e:∀ (m:Nat) (acc:Array Nat),((List.replicate m z.cps).foldl (· ++·) acc).size=acc.size+m * z.cps.size:=λm=>by
  induction m with
  | zero=>intro acc;simp
  | succ m ih=>intro acc;rw[List.replicate_succ,List.foldl_cons,ih,Array.size_append,Nat.succ_mul];omega
 have:=e k #[]
 simpa [Str.length]using this
def iH:R2:=λx y H Q=>∃ z k,x=.str z/\y=.int k/\0<=k/\k<=1000/\z.length<=1000/\Q (.str (HL z k)) H
theorem iI:OpR X (binaryOp .Mult) iH:=by
 intro pins s σ H x y v u Q I rx ry h
 obtain⟨z,k,rfl,rfl,h1,h2,h3,q⟩:=h
 obtain⟨t,rfl⟩:=rx
 obtain⟨t',rfl⟩:=ry
 refine PySem.P.mul_str (by simp;omega) (λa _=> ?_) (λa _=> ?_) ?_
 ·have:(1000:Int)<=(2 ^ 63 - 1) / k:=(Int.le_ediv_iff_mul_le (by omega)).mpr (by omega)
  omega
 ·have h4:z.length * k.toNat<=1000 * 1000:=Nat.mul_le_mul h3 (by omega)
  have h5:(1000 * 1000:Nat)<=sizeLine:=by decide
  unfold Builtin.Str.tooLong
  exact decide_eq_false (by omega)
 ·unfold HL at q
  split
  ·rename_i c
   rw[if_pos c]at q
   exact⟨by show(0:Nat)<=sizeLine;omega,.str _,H,I.tok _,⟨_,rfl⟩,q⟩
  ·rename_i c
   rw[if_neg c]at q
   split
   ·rename_i d
    rw[if_pos d]at q
    exact⟨.str _,H,I,⟨_,rfl⟩,q⟩
   ·rename_i d
    rw[if_neg d]at q
    exact⟨by rw[iG];have:=Nat.mul_le_mul (show k.toNat<=1000 by omega) h3;show _<=2 ^ 24;omega,.str _,H,I.tok _,⟨_,rfl⟩,q⟩
def CC(K:W.Frag):R2:=λx y H Q=>match x,y with
 | .int i,.int j=>CMul i j/\Q (.int (i * j)) H
 | .str z,.int k=>0<=k/\k<=1000/\z.length<=1000/\Q (.str (HL z k)) H
 | .ref _,.int _=>OZ x y H Q\/O9 K x y H Q
 | _,_=>False
theorem DC:OpR X (binaryOp .Mult) (CC X.K):=by
 intro pins s σ H x y v u Q I rx ry h
 cases x<;>cases y<;>simp only[CC]at h
 ·exact eK pins s σ H _ _ v u Q I rx ry ⟨_,_,rfl,rfl,h⟩
 ·exact iI pins s σ H _ _ v u Q I rx ry ⟨_,_,rfl,rfl,h⟩
 ·rcases h with h | h
  ·exact gK pins s σ H _ _ v u Q I rx ry h
  ·exact iD pins s σ H _ _ v u Q I rx ry h
def D0:R2:=λx y H Q=>match x,y with
 | .int i,.int j=>Q (.bl (decide (j<i))) H
 | _,_=>False
def iJ:R2:=λx y H Q=>match x,y with
 | .int i,.int j=>Q (.bl (decide (j<=i))) H
 | _,_=>False
theorem LG:OpR X (compareOp .Lt) GD:=by
 intro pins s σ H x y v u Q I rx ry h
 cases x<;>cases y<;>simp only[GD]at h
 ·exact eP pins s σ H _ _ v u Q I rx ry ⟨_,_,rfl,rfl,h⟩
 ·obtain⟨t,rfl⟩:=rx
  obtain⟨t',rfl⟩:=ry
  exact PySem.P.lt_str ⟨.bl _,H,I,rfl,h⟩
theorem iK:OpR X (compareOp .LtE) LF:=by
 intro pins s σ H x y v u Q I rx ry h
 cases x<;>cases y<;>simp only[LF]at h
 ·exact eQ pins s σ H _ _ v u Q I rx ry ⟨_,_,rfl,rfl,h⟩
 ·obtain⟨t,rfl⟩:=rx
  obtain⟨t',rfl⟩:=ry
  exact PySem.P.le_str ⟨.bl _,H,I,rfl,h⟩
theorem ET:OpR X (compareOp .Gt) D0:=by
 intro pins s σ H x y v u Q I rx ry h
 cases x<;>cases y<;>simp only[D0]at h
 exact eS pins s σ H _ _ v u Q I rx ry ⟨_,_,rfl,rfl,h⟩
abbrev GX:R2:=λx y H Q=>y=.non/\Q (.bl (decide (x=.non))) H
abbrev E7:R2:=λx y H Q=>y=.non/\Q (.bl (!decide (x=.non))) H
variable{a:Expr}{ta:TE}{tA:TT}{pos:Pos}
abbrev GY(K:W.Frag)(ta:TE):TT:=λσ H Q=>ta σ H λx H'=>∃ k,EM K x H' k/\Q k H'
def AL(K:W.Frag):R2:=TF K
theorem AN:IxR X (AL X.K):=f7
def iL:V->Option Int->Option Int->Hp->VK->Prop:=λx lo hi H Q=>∃ z,x=.str z/\z.length<=sizeLine/\Q (.str (Txt.slice z lo hi)) H
theorem UL{v:Value}{lo:Option Int}(p:IsPart v lo):∃ l:Option (Int × Tok),v=partValue l/\l.map (·.1)=lo:=by
 cases p with
 | none=>exact⟨none,rfl,rfl⟩
 | int i t=>exact⟨some (i,t),rfl,rfl⟩
theorem iM:SlR X iL:=by
 intro pins s σ H x v vl vu lo hi sl Q I rx hs pl pu h
 obtain⟨z,rfl,hz,q⟩:=h
 obtain⟨t,rfl⟩:=rx
 obtain⟨l,rfl,rfl⟩:=UL pl
 obtain⟨u,rfl,rfl⟩:=UL pu
 refine⟨"str",_,PySem.F.slot_str_getitem.lookup,typeIs_str _ _ _,?_⟩
 exact wpAny_getItem_str_slice (l:=l) (u:=u) (st:=none) hs rfl (post_val_or_str ⟨Nat.le_trans (Txt.slice_le z _ _) hz,λt' k=>⟨.str _,H,I.tok k,⟨t',rfl⟩,q⟩⟩)
def HM(K:W.Frag):V->Option Int->Option Int->Hp->VK->Prop:=λx lo hi H Q=>match x with
 | .str z=>z.length<=sizeLine/\Q (.str (Txt.slice z lo hi)) H
 | _=>TK K x lo hi H Q\/S8 K x lo hi H Q
theorem NP:SlR X (HM X.K):=by
 intro pins s σ H x v vl vu lo hi sl Q I rx hs pl pu h
 cases x<;>first
  | exact iM pins s σ H _ v vl vu lo hi sl Q I rx hs pl pu ⟨_,rfl,h⟩
  | exact(SlR.or gC fV) pins s σ H _ v vl vu lo hi sl Q I rx hs pl pu h
abbrev HN:V->V->V->Hp->(Hp->Prop)->Prop:=TJ
theorem LH:OE X HN:=f9
def B8(K:W.Frag)(tl:TE):TI:=λσ H R=>tl σ H λx H1=>∃ a,x=.ref a/\(((∃ xs,SqL K H1 a xs)/\R (EL K a) H1)\/((∃ xs,SqT K H1 a xs)/\R (F0 K a) H1))
theorem PI.or{tg it:Expr}{w1 w2:TI}(h1:PI X tg it w1)(h2:PI X tg it w2):PI X tg it (λσ H R=>w1 σ H R\/w2 σ H R):=λpins s σ H R I h=>h.elim (h1 pins s σ H R I) (h2 pins s σ H R I)
def CN(K:W.Frag):List V->Hp->VK->Prop:=λxs H Q=>∃ x n,xs=[x]/\OK K x H n/\Q (.int n) H
theorem C1:CallR X (.builtin "len") (CN X.K):=eY
def LI(K:W.Frag):List V->Hp->VK->Prop:=λxs H Q=>∃ p ys,xs=[.ref p]/\(SqL K H p ys\/SqT K H p ys)/\∀ l,H l=none->Q (.ref l) (upd H l (.lst ys))
theorem UM:CallR X (.type "list") (LI X.K):=gF
def LJ(K:W.Frag):List V->Hp->VK->Prop:=λxs H Q=>∃ p ys,xs=[.ref p]/\((SqL K H p ys/\∀ l,H l=none->Q (.ref l) (upd H l (.tup ys)))\/(SqT K H p ys/\Q (.ref p) H))
theorem UN:CallR X (.type "tuple") (LJ X.K):=gG
def JG(K:W.Frag):List V->Hp->VK->Prop:=λxs H Q=>(∃ i,xs=[.int i]/\Q (.int i) H)\/∃ k,xs=[.bl k]/\Q (.int (if k then 1 else 0)) H
abbrev GZ:=NM
abbrev iN:=TU
end
end L2
namespace L2
section
variable{X:Cx}{tg a:Expr}{ta:TE}{pos:Pos}
theorem CJ{l:Expr}{tl:TE}(hl:PE X l tl):PI X tg l (B8 X.K tl):=by
 intro pins s σ H R I h
 refine AV (hl pins s σ H _ I h) λv s1 ⟨x,H1,I1,r1,q1⟩=> ?_
 obtain⟨a,e,q1⟩:=q1
 subst e
 cases r1
 have fp1:∀ b∈[s1.heap.objs.size],FpOk X pins H1 b:=λb hb=>by
  have e:b=s1.heap.objs.size:=by simpa using hb
  subst e
  exact I1.fpOk (Nat.le_refl _) (I1.hok.fresh (Nat.le_refl _))
 rcases q1 with⟨⟨xs,hq⟩,q⟩ | ⟨⟨xs,hq⟩,q⟩
 ·obtain⟨its,rv,p,hz⟩:=I1.list hq
  refine wpAny_pyIter_list p.isList ?_
  exact⟨s1.heap.objs.size,[s1.heap.objs.size],_,_,H1,rfl,I1.kept (t':=s1.toks) λb o e=>Heap.get?_push_of_some _ e,d8 a _,⟨_,Heap.get?_push_size _ rfl,rfl,rfl⟩,fp1,q⟩
 ·obtain⟨its,rv,p,hz⟩:=I1.tuple hq
  refine wpAny_pyIter_tuple (show s1.heap.IsTuple a its.toArray from p) ?_
  exact⟨s1.heap.objs.size,[s1.heap.objs.size],_,_,H1,rfl,I1.kept (t':=s1.toks) λb o e=>Heap.get?_push_of_some _ e,d9 a _,⟨_,Heap.get?_push_size _ rfl,rfl,rfl⟩,fp1,q⟩
def iO(K:W.Frag)(ta:TE):TE:=λσ H Q=>ta σ H λx H1=>∃ k,EM K x H1 k/\Q (.bl (!k)) H1
end
def UO(scope outer:Scope)(N cn:List Str)(cap:List Nat):Bool :=
 scope.kind == .function && scope.names.all (λy=>y.2 != .cell) && scope.names.all (λy=>y.2 != .local || scope.names.lookup y.1 == some .local) &&
 scope.names.all (λy=>y.2 != .free || outer.names.lookup y.1 == some .cell || outer.names.lookup y.1 == some .free) && cn.all (λx=>scope.names.lookup x == some .free) && (cap.map (λi=>N[i]?) == cn.map some)
theorem BS{X:Cx}{scope outer:Scope}{N tn cn:List Str}{cap:List Nat}(h1:X.env.scope=outer)(h2:X.N=N)(h:UO scope outer N cn cap=true):LB X scope tn cn cap:=by
 unfold UO at h
 simp only[Bool.and_eq_true,List.all_eq_true,Bool.or_eq_true,bne_iff_ne,beq_iff_eq]at h
 obtain⟨⟨⟨⟨⟨k1,k2⟩,k3⟩,k4⟩,k5⟩,k6⟩:=h
 refine⟨k1,k2,λy hy hl=>(k3 y hy).resolve_left λz=>z hl,λy hy hf=> ?_,k5,by rw[h2];exact k6⟩
 have z:=k4 y hy
 show X.env.scope.names.lookup y.1=_\/X.env.scope.names.lookup y.1=_
 rw[h1]
 rcases z with(z | z) | z
 ·exact absurd hf z
 ·exact .inl z
 ·exact .inr z
structure NQ(K:W.Frag)(C:Addr):Prop where
 ga:W.findIn K (.ref C) "__getattribute__"=some (some (.builtin "BaseException.__getattribute__"))
 gt:W.findIn K (.ref C) "__getattr__"=some none
 be:W.mroIn K C (.type "BaseException")=some true
 cl:W.isClsIn K C=true
 ha:W.findIn K (.ref C) "__class__"=some (some (.builtin "object.__class__"))
 hn:W.specialIn K (.builtin "object.__class__") "__get__"=some (some (.builtin "getset_descriptor.__get__"))
 tk:W.takesIn K (.builtin "object.__class__")=some true
 mr:W.mroIn K C (.type "object")=some true
theorem iP{K:W.Frag}{C:Addr}{od:Option Obj}{name:Str}{a g:Value}(hc:(W.clsIn K C).isSome=true)(ha:W.findIn K (.ref C) name=some (some a))(hg:W.specialIn K a "__get__"=some (some g))(ht:W.takesIn K a=some true) :
  W.findObj K C od name=some (.bind g a):=by
 obtain⟨cd,hc⟩:=Option.isSome_iff_exists.mp hc
 unfold W.findObj
 rw[hc,Option.bind_some,ha,Option.bind_some]
 simp[hg,ht]
theorem iQ{K:W.Frag}{M:Model}{A:Around}{E:Value->Shared->Prop}{Q:Unit->Shared->Prop}{s:Shared}{x D:Addr}{ox:Obj}{nm:Value}(c:NQ K D)(X:K.In s.heap)(I:W.InstAt s.heap x ox D none)(k:Q () s) :
  wpAny M A (checkBuiltinCall "BaseException.__getattribute__" ⟨[.ref x,nm],[]⟩) Q E s:=by
 have e1:builtinKind "BaseException.__getattribute__"=some .slot:=by decide +kernel
 have e2:splitId "BaseException.__getattribute__"=some ("BaseException","__getattribute__"):=by decide +kernel
 have L:W.Looks M s.heap (isInstance (.ref x) (.type "BaseException")) true:=(I.type (M:=M)).andThen (W.looks_mroIn (M:=M) X c.be)
 have ar:=PySem.F.args_bexc_ga (.ref x) nm
 obtain⟨hh,g,d,t,os⟩:=s
 simp only[checkBuiltinCall,e1,e2]
 refine wpAny_bind (L.at ?_)
 simp only[Bool.not_true,Bool.false_eq_true,if_false]
 cases hs:Manifest.signature? "BaseException.__getattribute__" with
 | none=>exact wpAny_pure k
 | some sig =>
  simp only[argsOk,hs]at ar
  have z:Bind.checkArgs "BaseException.__getattribute__" sig ⟨[.ref x,nm],[]⟩=pure ():=ar
  show wpAny M A (Bind.checkArgs "BaseException.__getattribute__" sig ⟨[.ref x,nm],[]⟩) Q E _
  rw[z];exact wpAny_pure k
theorem iR{K:W.Frag}{prog:Program}{w:World}{A:Around}{E:Value->Shared->Prop}{Q:Option Value->Shared->Prop}{s:Shared}{x D:Addr}{ox:Obj}(c:NQ K D)(X:K.In s.heap)(I:W.InstAt s.heap x ox D none)
  (k:Q (some (.ref D)) { s with toks:=s.toks+1 }):wpAny (model prog w) A (getAttr? (.ref x) "__class__") Q E s:=by
 obtain⟨hh,g,d,t,os⟩:=s
 have L0:=I.type (M:=model prog w)
 have L1:=W.looks_findIn (M:=model prog w) X c.ga
 have L2:=W.looks_findIn (M:=model prog w) X c.gt
 have L3:=W.looks_find (M:=model prog w) X I (iP (name:="__class__") c.cl c.ha c.hn c.tk)
 unfold getAttr? getAttrBy? getAttrBy
 refine wpAny_bind (wpAny_mkText (wpAny_bind (wpAny_attempt (wpAny_holding (wpAny_bind (L0.at (wpAny_bind (L1.at ?_))))))))
 show wpAny _ _ (getAttrByItsOwn _ _ _ _ _ _) _ _ _
 unfold getAttrByItsOwn
 refine wpAny_bind (L2.at (wpAny_bind (wpAny_attempt (wpAny_holding ?_))))
 show wpAny _ _ (boundAndCalled _ _ _) _ _ _
 unfold boundAndCalled
 rw[PySem.F.attr_ValueError.ga.bind (.ref x)]
 refine wpAny_bind (wpAny_pure (wpAny_call (codeAny_call_builtin PySem.F.attr_ValueError.ga.plain PySem.F.entry_bexc_ga (iQ c X I ?_))))
 refine wpAny_bind (wpAny_pure (wpAny_bind (wpAny_pure (wpAny_bind (L0.at (wpAny_bind (L3.at ?_)))))))
 show wpAny _ _ (holding [_] (call _ _) >>= ret) _ _ _
 refine wpAny_bind (wpAny_holding (wpAny_call (W.class_get (ox:=ox) (od:=none) X I c.mr (wpAny_pure ?_))))
 exact W.handed_on rfl (wpAny_pure k)
theorem iS{K:W.Frag}{x D:Addr}(c:NQ K D):W.KitX K (.ref x) (.ref D) (LE x (.ref D)):=by
 have inst:∀ {h:Heap},LE x (.ref D) h->∃ ox,W.InstAt h x ox D none:=λ{h} ⟨oe,vs,e1,e2,e3,e4⟩=>by
  refine⟨oe,e1,e2,?_,?_⟩
  ·unfold W.notCls;rw[e4]
  ·rw[e3];trivial
 have cls:∃ cd,W.clsIn K D=some cd:=Option.isSome_iff_exists.mp c.cl
 refine⟨λM h _ p=>(inst p).elim λ_ I=>I.type,λM h X p=> ?_,λh tp dd its n sl X htp=> ?_,λ{prog w A E Q s} X p k=> ?_⟩
 ·obtain⟨cd,hc⟩:=cls
  unfold W.clsIn at hc
  split at hc
  ·rename_i c' d' cd' sl' ho
   intro A' Q' E' s' k q
   unfold isType loadHead
   exact wpAny_bind (wpAny_loadPart (k _ _ (X _ _ ho)) (wpAny_pure q))
  ·cases hc
 ·obtain⟨cd,hc⟩:=cls
  refine Bool.eq_false_iff.mpr λq=> ?_
  have e:D=tp:=Value.ref.inj (beq_iff_eq.mp q)
  subst e
  unfold W.clsIn at hc
  split at hc
  ·rename_i c' d' cd' sl' ho
   have z:=(X _ _ ho).symm.trans htp
   cases z
  ·cases hc
 ·obtain⟨ox,I⟩:=inst p
  exact iR c X I k
def TyX(K:W.Frag)(H:Hp)(x:V)(t:Value):Prop:=EN K H x t\/∃ a C,x=.ref a/\t=.ref C/\H a=some (.ext (LE a (.ref C)))/\NQ K C
inductive ClsV:V->Value->Prop
 | own (C:Addr):ClsV (.ref C) (.ref C)
 | ty (n:String):ClsV (.ty n) (.type n)
theorem ClsV.rel{y:V}{c u:Value}(h:ClsV y c)(r:RelV y u):u=c:=by
 cases h<;>exact r
theorem UP:∀ {ys:List V} {cs us:List Value},Paired ClsV ys cs->Vals ys us->us=cs
 | _,_,_,.nil,.nil=>rfl
 | _,_,_,.cons h t,.cons r rr=>by rw[h.rel r,UP t rr]
def HP(K:W.Frag):List V->Hp->VK->Prop:=λxs H Q=>∃ x y t b,xs=[x,y]/\TyX K H x t ∧
 ((∃ c,ClsV y c/\W.kitOne K t c=some b)\/∃ p ys cs,y=.ref p/\SqT K H p ys/\Paired ClsV ys cs/\W.kitAny K t cs=some b)/\Q (.bl b) H
section
variable{X:Cx}
theorem TyX.kit{pins:List (Addr × Obj)}{σ:St}{H:Hp}{s:Shared}{x:V}{t u:Value}(I:Inv X pins σ H s)(h:TyX X.K H x t)(r:RelV x u):∃ φ :Heap->Prop,W.KitX X.K u t φ /\ φ s.heap/\u≠.builtin "__main__.__loader__#opaque":=by
 rcases h with h | ⟨a,C,rfl,rfl,e,c⟩
 ·cases h with
  | non=>cases (show u=Value.none from r);exact⟨_,W.kitx_none,trivial,λz=>nomatch z⟩
  | bl y=>cases (show u=Value.bool y from r);exact⟨_,W.kitx_bool,trivial,λz=>nomatch z⟩
  | int i=>obtain⟨t,q⟩:=(show ∃ t,u=Value.int i t from r);cases q;exact⟨_,W.kitx_int,trivial,λz=>nomatch z⟩
  | str y=>obtain⟨t,q⟩:=(show ∃ t,u=Value.str y t from r);cases q;exact⟨_,W.kitx_str,trivial,λz=>nomatch z⟩
  | flt y=>obtain⟨t,q⟩:=(show ∃ t,u=Value.float y t from r);cases q;exact⟨_,W.kitx_float,trivial,λz=>nomatch z⟩
  | @lst a xs ea =>
   cases (show u=Value.ref a from r)
   obtain⟨_,_,n,_,h1⟩:=(show ObjOk X.prog X.w H s.heap a (.lst xs)from I.hok a _ ea)
   exact⟨_,W.kitx_list,⟨_,h1,rfl⟩,λz=>nomatch z⟩
  | @frz a ob xs ea =>
   cases (show u=Value.ref a from r)
   obtain⟨_,_,_,n,_,h1⟩:=(show ObjOk X.prog X.w H s.heap a (.frz ob (.lst xs))from I.hok a _ ea)
   exact⟨_,W.kitx_list,⟨_,h1,rfl⟩,λz=>nomatch z⟩
  | @tup a xs ea =>
   cases (show u=Value.ref a from r)
   obtain⟨_,_,_,p⟩:=(show ObjOk X.prog X.w H s.heap a (.tup xs)from I.hok a _ ea)
   obtain⟨o,h1,h2,_⟩:=p
   exact⟨_,W.kitx_tuple,⟨o,h1,h2⟩,λz=>nomatch z⟩
  | @dK a kvs ea =>
   cases (show u=Value.ref a from r)
   obtain⟨_,_,vs,_,p⟩:=(show ObjOk X.prog X.w H s.heap a (.dK kvs)from I.hok a _ ea)
   obtain⟨o,es,ep,h1,h2,_⟩:=p
   exact⟨_,W.kitx_dict,⟨o,h1,h2.1⟩,λz=>nomatch z⟩
  | @dT a kvs ea =>
   cases (show u=Value.ref a from r)
   obtain⟨_,_,xs,_,o,es,ep,h1,h2,_⟩:=(show ObjOk X.prog X.w H s.heap a (.dT kvs)from I.hok a _ ea)
   exact⟨_,W.kitx_dict,⟨o,h1,h2.1⟩,λz=>nomatch z⟩
  | @ins a C dx fs ea cl ha hn htk hm =>
   cases (show u=Value.ref a from r)
   obtain⟨mA,O,_⟩:=NI I.hok ea
   obtain⟨od,J,_⟩:=O.look
   exact⟨_,W.kitx_own (cl.get _) cl.hd ha hn htk hm,J,λz=>nomatch z⟩
 ·cases (show u=Value.ref a from r)
  have p:LE a (.ref C) s.heap:=(show ObjOk X.prog X.w H s.heap a (.ext (LE a (.ref C)))from I.hok a _ e).1
  exact⟨_,iS c,p,λz=>nomatch z⟩
theorem LK:CallR X (.builtin "isinstance") (HP X.K):=by
 intro pins s σ H xs us Q I r h
 obtain⟨x,y,t,b,rfl,ty,hc,q⟩:=h
 obtain⟨u,v,rfl,rx,ry⟩:=Vals.two r
 obtain⟨φ,Z,p,ne⟩:=ty.kit I rx
 rcases hc with⟨c,hy,e⟩ | ⟨pt,ys,cs,rfl,hs,hcs,e⟩
 ·have:=hy.rel ry
  subst this
  exact W.kia_one Z I.kIn p e ne λtk=>⟨.bl b,H,I.tok tk,rfl,q⟩
 ·cases (show v=Value.ref pt from ry)
  obtain⟨its,rv,⟨⟨c1,c2,c3,c4⟩,e1,e2,n,e3⟩,_⟩:=I.tuple hs
  obtain rfl:c1=_:=e2
  obtain rfl:c3=_:=e3
  have:=UP hcs rv
  subst this
  exact W.kia_tup Z I.kIn p e1 e ne λtk=>⟨.bl b,H,I.tok tk,rfl,q⟩
end
end L2
namespace L2
def C2(J:It)(g:TG)(tt:TT)(te:TE)(k:Nat)(cap:List Nat)(σ:St)(H1:Hp)(Q:VK):Prop :=
 ∃ W:Nat->Nat->St->List V->Hp->Prop,(∃ m,W 0 m (GC k cap σ) [] H1)/\∀ i m σ' ys H,W i m σ' ys H →
  (J.stop i H/\∀ p,H p=none->Q (.ref p) (upd H p (.lst ys))) ∨
  (J.go i H/\ys.length<sizeLine/\∀ x H',J.yld i H x H'->g x σ' H' λσ2 H2=>tt σ2 H2 λb H3 =>
   if b=true then ∃ N:VK,(∀ y H4,N y H4->∃ m',m'<m/\W (i+1) m' σ2 (ys++[y]) H4)/\te σ2 H3 N else ∃ m',m'<m/\W (i+1) m' σ2 ys H3)
def FL(J:It)(g:TG)(tb:TS)(D:Ends)(σ:St)(H1:Hp):Prop :=
 ∃ W:Nat->Nat->St->Hp->Prop,(∃ m,W 0 m σ H1)/\∀ i m σ H,W i m σ H →
  (J.stop i H/\D.nx σ H)\/(J.go i H/\∃ N:St->Hp->Prop,(∀ σ' H',N σ' H'->∃ m',m'<m/\W (i+1) m' σ' H')/\∀ x H',J.yld i H x H'->g x σ H' λσ2 H2=>tb { D with nx:=N,ct:=N,bk:=D.nx } σ2 H2)
section
variable{K:W.Frag}{ta tb tc to ti tv tl:TE}{tt tA tB' tu:TT}{s1 s2:TS}{r r':R2}{σ:St}{H:Hp}{Q:VK}{D:Ends}{QB:Bool->Hp->Prop}{as:TA}{g:TG}{gs:GR}{te:TE}{k i:Nat}{cap:List Nat}{f m:Str}{C:Addr}{sp:Sp}{dvs:List V}{E:St->XK}{v:V}{vs:List V}{QA:List V->Hp->Prop}{QG:St->Hp->Prop}{QO:Option Int->Hp->Prop}
theorem iT:AO s1 s2 D σ H=(s1 { D with nx:=s2 D } σ H):=rfl
theorem iU:CD D σ H=(D.nx σ H):=rfl
theorem iV:d0 D σ H=(D.bk σ H):=rfl
theorem iW:d5 D σ H=(D.ct σ H):=rfl
theorem iX:AY ta g D σ H=(ta σ H λx H1=>g x σ H1 D.nx):=rfl
theorem iY:DR ta D σ H=(ta σ H λ_ H1=>D.nx σ H1):=rfl
theorem iZ:BH ta D σ H=(ta σ H D.rt):=rfl
theorem i0:d6 D σ H=(D.rt .non H):=rfl
theorem i3:CA tt s1 s2 D σ H=(tt σ H λb H1=>if b=true then s1 D σ H1 else s2 D σ H1):=rfl
theorem i4:tC v σ H Q=(Q v H):=rfl
theorem i5:AC r ta tb σ H Q=(ta σ H λx H1=>tb σ H1 λy H2=>r x y H2 Q):=rfl
theorem i6:A1 ta σ H QB=(ta σ H λx H'=>∃ k,x=.bl k/\QB k H'):=rfl
theorem i7:OJ r r' ta tb tc σ H Q=(ta σ H λx H1=>tb σ H1 λy H2=>r x y H2 λz H3=>∃ k,z=.bl k/\(if k=true then tc σ H3 λw' H4=>r' y w' H4 Q else Q (.bl false) H3)):=rfl
theorem i8:FW tt σ H QB=(tt σ H λc H1=>QB (!c) H1):=rfl
theorem i9:FF tt tu σ H QB=(tt σ H λc H1=>if c=true then tu σ H1 QB else QB false H1):=rfl
theorem jA:GO tt tu σ H QB=(tt σ H λc H1=>if c=true then QB true H1 else tu σ H1 QB):=rfl
theorem jB:dW ta tb σ H Q=(ta σ H λx H1=>∃ c,x=.bl c/\if c=true then tb σ H1 Q else Q (.bl false) H1):=rfl
theorem jC:dX ta tb σ H Q=(ta σ H λx H1=>∃ c,x=.bl c/\if c=true then Q (.bl true) H1 else tb σ H1 Q):=rfl
theorem jD:iO K ta σ H Q=(ta σ H λx H1=>∃ k,EM K x H1 k/\Q (.bl (!k)) H1):=rfl
theorem jE:GY K ta σ H QB=(ta σ H λx H'=>∃ k,EM K x H' k/\QB k H'):=rfl
theorem jF:OD tt ta tb σ H Q=(tt σ H λc H1=>if c=true then ta σ H1 Q else tb σ H1 Q):=rfl
theorem jG:AG σ H QA=(QA [] H):=rfl
theorem jH:AD ta as σ H QA=(ta σ H λx H1=>as σ H1 λxs H2=>QA (x::xs) H2):=rfl
theorem jI:B2 as σ H Q=(as σ H λxs H1=>xs.length<=sizeLine/\∀ p,H1 p=none->Q (.ref p) (upd H1 p (.tup xs))):=rfl
theorem jJ:C6 as σ H Q=(as σ H λxs H1=>xs.length<=sizeLine/\∀ p,H1 p=none->Q (.ref p) (upd H1 p (.lst xs))):=rfl
theorem jK:BR sp dvs E as σ H Q=(as σ H λvs H1=>sp (vs++dvs) H1 Q (E σ)):=rfl
theorem jL:BX C m sp dvs E ta as σ H Q=(ta σ H λx H1=>∃ a dx fs,x=.ref a/\H1 a=some (.ins C dx fs)/\fs.lookup m=none/\as σ H1 λvs H2=>sp (x::(vs++dvs)) H2 Q (E σ)):=rfl
theorem jM:HI C sp dvs E as σ H Q=(as σ H λvs H1=>∀ x dx,H1 x=none->H1 dx=none->dx≠x->sp (.ref x::(vs++dvs)) (upd (upd H1 dx (.own x)) x (.ins C dx [])) (λv H2=>v=.non/\Q (.ref x) H2) (E σ)):=rfl
theorem jN:BP K ta f σ H Q=(ta σ H λx H1=>∃ a C dx fs v,x=.ref a/\H1 a=some (.ins C dx fs)/\Cls K C/\NoAttr K C f/\fs.lookup f=some v/\Q v H1):=rfl
theorem jO:DN K ta tv f D σ H=(tv σ H λy H1=>ta σ H1 λx H2=>∃ a C dx fs,x=.ref a/\H2 a=some (.ins C dx fs)/\Cls K C/\NoAttr K C f/\fs.length<1000/\D.nx σ (upd H2 a (.ins C dx (BM f y fs)))):=rfl
theorem jP{ru:V->Hp->VK->Prop}:eI ru ta σ H Q=ta σ H λx H1=>ru x H1 Q:=rfl
theorem jQ{rc:List V->Hp->VK->Prop}:BW rc as σ H Q=as σ H λvs H1=>rc vs H1 Q:=rfl
theorem jR:NN C E as D σ H=(as σ H λvs H1=>vs.length<=sizeLine/\E σ (.ref C) none H1):=rfl
theorem jS{sb:(St->XK)->TS}{th:TH}:hV sb th D σ H=sb (λσ' cls _ H'=>th cls D σ' H') D σ H:=rfl
theorem jT:AJ i v σ H QG=(QG (σ.set i (some v)) H):=rfl
theorem jU{rs:NC}:IZ to ti rs v σ H QG=to σ H λo H1=>ti σ H1 λi H2=>rs o i v H2 λH3=>QG σ H3:=rfl
theorem jV:EH K k gs v σ H QG=(∃ a xs,v=.ref a/\SqT K H a xs/\xs.length=k/\gs xs σ H QG):=rfl
theorem jW:EG vs σ H QG=((vs=[]/\QG σ H)):=rfl
theorem jX:CQ g gs vs σ H QG=(∃ v r,vs=v::r/\g v σ H λσ' H'=>gs r σ' H' QG):=rfl
theorem jY{rs:V->Option Int->Option Int->Hp->VK->Prop}{ol oh:TO}:JD rs ta ol oh σ H Q=ta σ H λx H1=>ol σ H1 λl H2=>oh σ H2 λu H3=>rs x l u H3 Q:=rfl
theorem jZ:K8 σ H QO=(QO none H):=rfl
theorem j0:HJ ta σ H QO=(ta σ H λx H1=>∃ i,x=.int i/\QO (some i) H1):=rfl
theorem j1{T:String}{rm:V->List V->Hp->VK->Prop}:ER K T rm ta as σ H Q=ta σ H λx H1=>LA K T x H1/\as σ H1 λxs H2=>rm x xs H2 Q:=rfl
theorem j2{T:String}{rm:V->List V->Hp->VK->Prop}:OW K T rm ta σ H Q=ta σ H λx H1=>LA K T x H1/\rm x [] H1 Q:=rfl
theorem j3{tip:ND}:d7 i ta tip D σ H=∃ x,σ[i]? =some (some x)/\ta σ H λy H1=>tip x y H1 λz H2=>D.nx (σ.set i (some z)) H2:=rfl
theorem j4:CY σ H QB=(QB true H):=rfl
theorem j5:BI (CF as) g tt te k cap σ H Q=(as σ H λvs H1=>∃ j:Int,vs=[.int j]/\ -(2 ^ 62)<=j/\j<2 ^ 62/\C2 (DF 0 j.toNat) g tt te k cap σ H1 Q):=rfl
theorem j6:BI (SH as) g tt te k cap σ H Q=(as σ H λvs H1=>∃ i j:Int,vs=[.int i,.int j]/\(-(2 ^ 62)<=i/\i<2 ^ 62/\ -(2 ^ 62)<=j/\j<2 ^ 62)/\C2 (DF i (j - i).toNat) g tt te k cap σ H1 Q):=rfl
theorem j7:BI (B8 K tl) g tt te k cap σ H Q=(tl σ H λx H1=>∃ a,x=.ref a/\(((∃ xs,SqL K H1 a xs)/\C2 (EL K a) g tt te k cap σ H1 Q)\/((∃ xs,SqT K H1 a xs)/\C2 (F0 K a) g tt te k cap σ H1 Q))):=rfl
theorem j8:C0 (CF as) g s1 D σ H=(as σ H λvs H1=>∃ j:Int,vs=[.int j]/\ -(2 ^ 62)<=j/\j<2 ^ 62/\FL (DF 0 j.toNat) g s1 D σ H1):=rfl
theorem j9:C0 (SH as) g s1 D σ H=(as σ H λvs H1=>∃ i j:Int,vs=[.int i,.int j]/\(-(2 ^ 62)<=i/\i<2 ^ 62/\ -(2 ^ 62)<=j/\j<2 ^ 62)/\FL (DF i (j - i).toNat) g s1 D σ H1):=rfl
theorem kA:C0 (B8 K tl) g s1 D σ H=(tl σ H λx H1=>∃ a,x=.ref a/\(((∃ xs,SqL K H1 a xs)/\FL (EL K a) g s1 D σ H1)\/((∃ xs,SqT K H1 a xs)/\FL (F0 K a) g s1 D σ H1))):=rfl
theorem kB{rd:V->V->Hp->VK->Prop}:OO K ta tv rd f D σ H=(ta σ H λx H1=>∃ a C dx fs v,x=.ref a/\H1 a=some (.ins C dx fs)/\Cls K C/\NoAttr K C f/\fs.lookup f=some v/\tv σ H1 λy H2=>rd v y H2 λz H3=>∃ dx' fs',H3 a=some (.ins C dx' fs')/\fs'.length<1000/\D.nx σ (upd H3 a (.ins C dx' (BM f z fs')))):=rfl
end
end L2
namespace L2
section
variable{K:W.Frag}{σ:St}{H:Hp}{Q:VK}{P:Bool->Prop}{PI':Int->Prop}{PV:V->Prop}{QB:Bool->Hp->Prop}{v:V}{x:Option V}{i j:Int}{n:Nat}{b b':Bool}{s s':Str}{p q:Addr}{f:Int->Int->V}{C:Int->Int->Prop}
def AA(i:Nat):TE:=λσ H Q=>match σ[i]? with
 | some (some v)=>Q v H
 | _=>False
theorem PF:AA 0 (some v::σ) H Q=Q v H:=rfl
theorem kC:AA (n+1) (x::σ) H Q=AA n σ H Q:=rfl
theorem kD(i:Nat):AA i=NA i:=by
 funext σ H Q
 unfold AA NA
 cases σ[i]? with
 | none=>simp
 | some o=>cases o<;>simp
theorem kE{P:Bool->Prop}:(∃ k,V.bl b=V.bl k/\P k)=P b:=by simp
theorem kF{P:Int->Prop}:(∃ k,V.int i=V.int k/\P k)=P i:=by simp
theorem kG{P:Addr->Prop}:(∃ k,V.ref p=V.ref k/\P k)=P p:=by simp
theorem kH{P:Bool->Prop}:(∃ k,EM K (.bl b) H k/\P k)=P b:=by simp[EM]
theorem kI{P:Bool->Prop}:(∃ k,EM K (.int i) H k/\P k)=P (i != 0):=by simp[EM]
theorem kJ{P:Bool->Prop}:(∃ k,EM K .non H k/\P k)=P false:=by simp[EM]
theorem kK:A4 K (.int i) (.int j) H Q=Q (.int (i+j)) H:=rfl
theorem kL:A4 K (.str s) (.str s') H Q=(s.length+s'.length<=sizeLine/\Q (.str (s++s')) H):=rfl
theorem kM:A4 K (.ref p) (.ref q) H Q=(OY (.ref p) (.ref q) H Q\/OR K (.ref p) (.ref q) H Q\/O8 K (.ref p) (.ref q) H Q):=rfl
theorem kN{x y:Str}:LF (.str x) (.str y) H Q=Q (.bl (!decide (y.cps.toList<x.cps.toList))) H:=rfl
theorem kO{x y:Str}:GD (.str x) (.str y) H Q=Q (.bl (decide (x.cps.toList<y.cps.toList))) H:=rfl
theorem kP{x:Str}{lo hi:Option Int}:HM K (.str x) lo hi H Q=(x.length<=sizeLine/\Q (.str (Txt.slice x lo hi)) H):=rfl
theorem kQ:CC K (.int i) (.int j) H Q=(CMul i j/\Q (.int (i * j)) H):=rfl
theorem kR{z:Str}{j:Int}:CC K (.str z) (.int j) H Q=(0<=j/\j<=1000/\z.length<=1000/\Q (.str (HL z j)) H):=rfl
theorem kS:CC K (.ref p) (.int j) H Q=(OZ (.ref p) (.int j) H Q\/O9 K (.ref p) (.int j) H Q):=rfl
theorem kT:FG f (.int i) (.int j) H Q=Q (f i j) H:=by simp[FG]
theorem kU:rI C f (.int i) (.int j) H Q=(C i j/\Q (f i j) H):=by simp[rI]
theorem kW{g:Int->V}:rU g (.int i) H Q=Q (g i) H:=by simp[rU]
theorem kX:GD (.int i) (.int j) H Q=Q (.bl (decide (i<j))) H:=rfl
theorem kY:LF (.int i) (.int j) H Q=Q (.bl (decide (i<=j))) H:=rfl
theorem kZ:D0 (.int i) (.int j) H Q=Q (.bl (decide (j<i))) H:=rfl
theorem k7:iJ (.int i) (.int j) H Q=Q (.bl (decide (j<=i))) H:=rfl
theorem UQ:BO K (.int i) (.int j) H Q=Q (.bl (decide (i=j))) H:=by simp[BO,DG]
theorem k8:BO K (.str s) (.str s') H Q=Q (.bl (decide (s=s'))) H:=by simp[BO,DG]
theorem k9:BO K (.bl b) (.bl b') H Q=Q (.bl (decide (b=b'))) H:=by simp[BO,DG]
theorem UR:BO K .non (.int j) H Q=Q (.bl false) H:=by simp[BO,DG]
theorem lA:BO K (.int j) .non H Q=Q (.bl false) H:=by simp[BO,DG]
theorem lB:BO K .non .non H Q=Q (.bl true) H:=by simp[BO,DG]
theorem US:CM K (.int i) (.int j) H Q=Q (.bl (!decide (i=j))) H:=by simp[CM,DG]
theorem lC:CM K (.str s) (.str s') H Q=Q (.bl (!decide (s=s'))) H:=by simp[CM,DG]
theorem lD:CM K (.bl b) (.bl b') H Q=Q (.bl (!decide (b=b'))) H:=by simp[CM,DG]
theorem UT:CM K .non (.int j) H Q=Q (.bl true) H:=by simp[CM,DG]
theorem lE:CM K (.int j) .non H Q=Q (.bl true) H:=by simp[CM,DG]
theorem lF:CM K .non .non H Q=Q (.bl false) H:=by simp[CM,DG]
theorem lG:GX v .non H Q=Q (.bl (decide (v=.non))) H:=by simp[GX]
theorem lH:E7 v .non H Q=Q (.bl (!decide (v=.non))) H:=by simp[E7]
theorem lI{g:Int->Int->Int}:OF g (.int i) (.int j) H Q=Q (.int (g i j)) H:=by simp[OF]
theorem lJ:K7 (.int i) (.int j) H Q=Q (.int (i+j)) H:=by simp[K7]
theorem lK:CN K [v] H Q=∃ n:Nat,OK K v H n/\Q (.int n) H:=by simp[CN]
theorem lL:JG K [.bl b] H Q=Q (.int (if b then 1 else 0)) H:=by simp[JG]
theorem lM:JG K [.int i] H Q=Q (.int i) H:=by simp[JG]
theorem UU:LI K [.ref p] H Q=∃ ys,(SqL K H p ys\/SqT K H p ys)/\∀ l,H l=none->Q (.ref l) (upd H l (.lst ys)):=by simp[LI]
theorem lN:LJ K [.ref p] H Q=∃ ys,((SqL K H p ys/\∀ l,H l=none->Q (.ref l) (upd H l (.tup ys)))\/(SqT K H p ys/\Q (.ref p) H)):=by simp[LJ]
end
theorem AB{X:Cx}(i:Nat){x:Str}{pos:Pos}(hN:X.N[i]? =some x:=by rfl)(hv:M9 X.env.scope x:=by first | exact Or.inl rfl | exact Or.inr (Or.inl rfl) | exact Or.inr (Or.inr rfl))(hd:(x ==("__debug__":Str))=false:=by decide)
  (hcd:(x ==("__classdict__":Str))=false:=by decide):PE X (.Name x pos) (AA i):=by
 rw[kD]
 exact SG hN hv hd hcd
end L2
namespace L2
abbrev A8(Q:VK):Ends:={ nx:=λ_ H'=>Q .non H',rt:=Q }
abbrev A5(cap:List Nat)(σ:St):St:=cap.map λi=>(σ[i]?).join
section
variable{K:W.Frag}{te:TE}{cap:List Nat}{σ:St}{H:Hp}{Q:VK}
theorem HQ{lo:Int}{n:Nat}(hn:n<=sizeLine)(Pv:Nat->List V->Hp->Prop)(h0:Pv 0 [] H)(hs:∀ i ys H,i<n->ys.length=i->Pv i ys H->te (some (.int (lo+i))::A5 cap σ) H λy H2=>Pv (i+1) (ys++[y]) H2)
  (hd:∀ ys H,ys.length=n->Pv n ys H->∀ p,H p=none->Q (.ref p) (upd H p (.lst ys))) :
  C2 (DF lo n) (AJ 0) CY te 1 cap σ H Q:=by
 refine⟨λi m σ' ys H=>m=n - i/\i<=n/\ys.length=i/\(∃ x0,σ'=x0::A5 cap σ)/\Pv i ys H,⟨n,by simp,Nat.zero_le _,rfl,⟨none,rfl⟩,h0⟩,?_⟩
 rintro i m σ' ys H ⟨rfl,hi,hl,⟨x0,rfl⟩,p⟩
 by_cases hlt:i<n
 ·refine .inr ⟨hlt,by omega,λx H' y=> ?_⟩
  obtain⟨e,y⟩:=y
  subst e y
  simp only[AJ,CY,if_true]
  refine⟨_,λy H4 q=>⟨n - (i+1),by omega,rfl,hlt,?_,⟨_,rfl⟩,q⟩,hs i ys _ hlt hl p⟩
  rw[List.length_append,List.length_singleton,hl]
 ·have e:i=n:=by omega
  subst e
  exact .inl ⟨Nat.le_refl _,hd ys H hl p⟩
theorem lO{lo:Int}{n:Nat}(hn:n<=sizeLine)(f:Nat->V)(hs:∀ i,i<n->∀ Q':VK,Q' (f i) H->te (some (.int (lo+i))::A5 cap σ) H Q')
  (hd:∀ p,H p=none->Q (.ref p) (upd H p (.lst ((List.range n).map f)))) :
  C2 (DF lo n) (AJ 0) CY te 1 cap σ H Q:=by
 refine HQ hn (λi ys H'=>H'=H/\ys=(List.range i).map f) ⟨rfl,rfl⟩ (λi ys H' hi hl ⟨e1,e2⟩=> ?_) (λys H' hl ⟨e1,e2⟩=> ?_)
 ·subst e1
  refine hs i hi _ ⟨rfl,?_⟩
  rw[e2,List.range_succ,List.map_append];rfl
 ·subst e1;subst e2;exact hd
theorem G0{b:Addr}{xs:List V}{g:TG}{tb:TS}{D:Ends}(Pv:Nat->St->Hp->Prop)(h0:Pv 0 σ H)(hl:∀ i σ H,i<=xs.length->Pv i σ H->SqL K H b xs)
  (hs:∀ i x σ H,xs[i]? =some x->Pv i σ H->g x σ H λσ2 H2=>tb { D with nx:=Pv (i+1),ct:=Pv (i+1),bk:=D.nx } σ2 H2) (hd:∀ σ H,Pv xs.length σ H->D.nx σ H):FL (EL K b) g tb D σ H:=eD Pv h0 hl hs hd
theorem UV{b:Addr}{xs:List V}{g:TG}{tb:TS}{D:Ends}(Pv:Nat->St->Hp->Prop)(h0:Pv 0 σ H)(hl:∀ i σ H,i<=xs.length->Pv i σ H->SqT K H b xs)
  (hs:∀ i x σ H,xs[i]? =some x->Pv i σ H->g x σ H λσ2 H2=>tb { D with nx:=Pv (i+1),ct:=Pv (i+1),bk:=D.nx } σ2 H2) (hd:∀ σ H,Pv xs.length σ H->D.nx σ H):FL (F0 K b) g tb D σ H:=eE Pv h0 hl hs hd
theorem LM{lo:Int}{n:Nat}{g:TG}{tb:TS}{D:Ends}(Pv:Nat->St->Hp->Prop)(h0:Pv 0 σ H)
  (hs:∀ i σ H,i<n->Pv i σ H->g (.int (lo+i)) σ H λσ2 H2=>tb { D with nx:=Pv (i+1),ct:=Pv (i+1),bk:=D.nx } σ2 H2) (hd:∀ σ H,Pv n σ H->D.nx σ H):FL (DF lo n) g tb D σ H:=eF Pv h0 hs hd
end
theorem JH{K:W.Frag}{H:Hp}{x y:V}{t c:Value}{b:Bool}{Q:VK}(ty:TyX K H x t)(cv:ClsV y c)(k:W.kitOne K t c=some b)(q:Q (.bl b) H):HP K [x,y] H Q:=⟨x,y,t,b,rfl,ty,.inl ⟨c,cv,k⟩,q⟩
theorem AZ{H:Hp}{p:Addr}{o:HO}(h:H p=none):Same H (upd H p o):=λb u e=>by rw[AS (BG e h)];exact e
theorem NR{α β :Type}{F: α -> β ->Prop}:∀ {l:List α} {m:List β} {i:Nat} {y: β},Paired F l m->m[i]? =some y->∃ x,l[i]? =some x/\F x y
 | _,_,_,_,.nil,e=>by simp at e
 | _,_,0,_,.cons r _,e=>by simp at e;subst e;exact⟨_,rfl,r⟩
 | _,_,i+1,y,.cons _ t,e=>by
  obtain⟨u,h1,h2⟩:=NR (i:=i) (y:=y) t (by simpa using e)
  exact⟨u,by simpa using h1,h2⟩
theorem PH{α β :Type}{F: α -> β ->Prop}{x: α}{y: β}(r:F x y):∀ {l:List α} {m:List β} (i:Nat),Paired F l m->Paired F (l.set i x) (m.set i y)
 | _,_,_,.nil=>.nil
 | _,_,0,.cons _ t=>.cons r t
 | _,_,i+1,.cons q t=>.cons q (PH r i t)
theorem BN{K:W.Frag}{H:Hp}{p:Addr}{xs:List V}{i:Int}{n:Nat}{v:V}{Q:VK}(h:SqL K H p xs)(hi:i=n)(hx:xs[n]? =some v)(q:Q v H):AL K (.ref p) (.int i) H Q :=
 .inl ⟨p,xs,i,v,rfl,rfl,h,hi ▸ OT hx,q⟩
theorem small(n:Nat)(h:n<=100000):n<=sizeLine:=Nat.le_trans h (by decide)
theorem UW{α :Type}(x: α):∀ w:Nat,(List.replicate w [x]).flatten=List.replicate w x
 | 0=>rfl
 | w+1=>by rw[List.replicate_succ,List.flatten_cons,UW x w];rfl
theorem GE{f:Str}{v:V}{fs:List (Str × V)}{n:Nat}(h:fs.length+1<n):(BM f v fs).length<n:=Nat.lt_of_le_of_lt (OM f v fs) h
theorem UX{d:PyData}(h:shp d):PyData.eqv d d=true:=PySem.SeqAt.eqv_refl d (PySem.SeqAt.canLay_of_shaped h)
end L2
namespace L2
def ItK(k:Bool)(h:Heap)(j a:Addr)(i:Nat):Prop:=if k then h.IsListIter j a i else h.IsTupleIter j a i
def SeqK(k:Bool)(h:Heap)(a:Addr)(xs:Array Value):Prop:=if k then h.IsList a xs else h.IsTuple a xs
theorem ItK.up{k:Bool}{h h':Heap}{j a:Addr}{i:Nat}(x:ItK k h j a i)(q:∀ o,h.get? j=some o->h'.get? j=some o):ItK k h' j a i:=by
 cases k<;>exact(let ⟨o,e,r⟩:=x;⟨o,q o e,r⟩)
theorem SeqK.up{k:Bool}{h h':Heap}{a:Addr}{xs:Array Value}(x:SeqK k h a xs)(q:∀ o,h.get? a=some o->h'.get? a=some o):SeqK k h' a xs:=by
 cases k<;>exact(let ⟨o,e,r⟩:=x;⟨o,q o e,r⟩)
theorem ItK.ob{k:Bool}{h:Heap}{j a:Addr}{i:Nat}(x:ItK k h j a i):∃ o,h.get? j=some o/\o.data=.fields #[.ref a,.int i 0]:=by
 cases k<;>exact(let ⟨o,e,_,r⟩:=x;⟨o,e,r⟩)
section
variable{P:Program}{w:World}{A:Around}{E:Value->Shared->Prop}{s:Shared}
theorem lP{j t:Addr}{i:Nat}{its:Array Value}{Q:Value->Shared->Prop}(z:A.handled=none)(c:s.heap.IsTupleIter j t i)(d:s.heap.IsTuple t its)(e:its[i]? =none)
  (q:∀ h' x,Heap.ExtBut j s.heap h'->(∃ o,h'.get? x=some o/\o.cls=.type "StopIteration")->E (.ref x) { s with heap:=h' }):wpAny (model P w) A (Builtin.SmallTypes.nextOf (.ref j)) Q E s:=by
 obtain⟨oj,e1,e2,e3⟩:=id c
 obtain⟨ot,f1,_,n,f2⟩:=d
 unfold Builtin.SmallTypes.nextOf
 refine wpAny_bind (wpAny_callSpecial?_slot (name:=Str.ofString "__next__") c.typeIs F.slot_tuple_iterator_next (wpAny_call_entry F.slot_tuple_iterator_next c.typeIs F.entry_tuple_iterator_next ?_ (F.args_tuple_iterator_next_1 _)))
 show wpAny (model P w) _ (field (.ref j) 0 >>= _) _ _ s
 refine wpAny_bind (wpAny_field e1 e3 (x:=.ref t) rfl ?_)
 show wpAny (model P w) _ (field (.ref j) 1 >>= _) _ _ s
 refine wpAny_bind (wpAny_field e1 e3 (x:=.int i 0) rfl ?_)
 show wpAny (model P w) _ (seqItems? (.ref t) >>= _) _ _ s
 refine wpAny_bind (wpAny_seqItems f1 f2 ?_)
 simp only[Int.toNat_natCast,e]
 refine wpAny_bind (wpAny_rule (wpAny_bind (wpAny_setField e1 e3 (by simp) ?_)))
 show wpAny (model P w) _ (newExc (.type "StopIteration") [] >>= _) _ _ _
 refine wpAny_bind ?_
 simp only[newExc,newTuple]
 refine wpAny_bind (wpAny_newObj_type (wpAny_bind (m:=firstArgMember _ _) (wpAny_of_eq (a:=Value.none) (by first | rfl | (simp only[firstArgMember];rfl)) (wpAny_newObj_type ?_ (by size_fits)))) (by size_fits))
 simp only[raiseNew]
 refine wpAny_bind (wpAny_handled ?_)
 rw[show A.in1.handled=none from z]
 exact wpAny_bind (wpAny_pure (wpAny_throw (q _ _ (((Heap.SameBut.update ..).extBut.push _).push _) ⟨_,Heap.get?_push_size _ rfl,rfl⟩)))
theorem lQ{k:Bool}{j t:Addr}{i:Nat}{its:Array Value}{Q:Value->Shared->Prop}(z:A.handled=none)(c:ItK k s.heap j t i)(d:SeqK k s.heap t its)(e:its[i]? =none)
  (q:∀ h' x,Heap.ExtBut j s.heap h'->(∃ o,h'.get? x=some o/\o.cls=.type "StopIteration")->E (.ref x) { s with heap:=h' }):wpAny (model P w) A (Builtin.SmallTypes.nextOf (.ref j)) Q E s:=by
 cases k
 ·exact lP z c d e q
 ·exact wpAny_nextOf_list_end z c d e q
end
section
variable{P:Program}{w:World}{A:Around}{E:Value->Shared->Prop}{s:Shared}
end
theorem Inv.turnedS{X:Cx}{pins:List (Addr × Obj)}{σ:St}{H:Hp}{s:Shared}{h':Heap}{t':Nat}{fp:List Addr}(I:Inv X pins σ H s)(k:∀ b o,b∉fp->s.heap.get? b=some o->h'.get? b=some o)(hf:∀ b∈fp,FpOk X pins H b):Inv X pins σ H { s with heap:=h',toks:=t' }:=by
 have nit:∀ b u,H b=some u->b∉fp:=λb u e z=>by rw[(hf b z).1]at e;cases e
 refine I.step (g':=s.gens) (d':=s.drawn) (ch:=fp) (λb hb=> ?_) (λb o _ _ hc e _=>k b o hc e) (λb o _ _ hc e _=>⟨o.slots,k b o hc e⟩) (λ_ _ _ _ n=>n)
  (λb o hc e=>⟨o,k b o hc e⟩) (λ_ _ e=>e) (λ_ _ _ e=>e) (λb ps e=>⟨#[],by rw[e];simp⟩) (λm hm=> ?_) (λb u e=> ?_) I.bare
 ·obtain⟨_,f1,_,f3,f4,f5⟩:=hf b hb
  exact⟨f3,f1,f4,f5⟩
 ·obtain⟨o,es,ep,ho,r⟩:=hm
  exact⟨o,es,ep,k _ o (λz=>(hf _ z).2.1 rfl) ho,r⟩
 ·refine(I.hok b u e).stay (λc v hc q=>k c v ?_ q) (λ_ q=>q) λ_ _ q=>q
  rcases hc with z | z
  ·rw[z];exact nit b u e
  ·exact nit c _ z
def SqB(K:W.Frag)(k:Bool)(H:Hp)(a:Addr)(xs:List V):Prop:=if k then SqL K H a xs else SqT K H a xs
theorem Inv.seqK{X:Cx}{pins:List (Addr × Obj)}{σ:St}{H:Hp}{s:Shared}{k:Bool}{a:Addr}{xs:List V}(I:Inv X pins σ H s)(q:SqB X.K k H a xs):∃ its,Vals xs its/\SeqK k s.heap a its.toArray:=by
 cases k
 ·obtain⟨its,rv,p,_⟩:=I.tuple q
  exact⟨its,rv,p⟩
 ·obtain⟨its,rv,p,_⟩:=I.list q
  exact⟨its,rv,p.isList⟩
theorem Inv.seqK_inj{X:Cx}{pins:List (Addr × Obj)}{σ:St}{H:Hp}{s:Shared}{k:Bool}{a:Addr}{xs ys:List V}(I:Inv X pins σ H s)(p:SqB X.K k H a xs)(q:SqB X.K k H a ys):xs=ys:=by
 cases k
 ·exact I.tuple_inj p q
 ·exact I.list_inj p q
theorem SeqK.lt{k:Bool}{h:Heap}{a:Addr}{xs:Array Value}(x:SeqK k h a xs):a<h.objs.size:=by
 cases k<;>exact(let ⟨_,e,_⟩:=x;Heap.lt_size e)
theorem SeqK.nit{k:Bool}{h:Heap}{a b:Addr}{xs:Array Value}(x:SeqK k h a xs){o:Obj}(e:h.get? b=some o)(n:∀ its m,o.data≠.seq its m):a≠b:=by
 intro z
 subst z
 cases k<;>(obtain⟨o',e',_,m,d⟩:=x;rw[e]at e';cases e';exact n _ _ d)
def ZipSt(k k':Bool)(z l l':Addr)(f:Value)(i:Nat)(h:Heap)(T U j j':Addr):Prop :=
 IsZip h z T U f/\IsPair h T (.ref j) (.ref j')/\(∃ a b,IsPair h U a b)/\ItK k h j l i/\ItK k' h j' l' i
structure Five(z T U j j':Addr):Prop where
 a1:T≠z
 a2:U≠z
 a3:j≠z
 a4:j'≠z
 a5:T≠U
 a6:T≠j
 a7:T≠j'
 a8:U≠j
 a9:U≠j'
 a10:j≠j'
theorem SqB.off{X:Cx}{pins:List (Addr × Obj)}{σ:St}{H:Hp}{s:Shared}{k:Bool}{m b:Addr}{zs:List V}(I:Inv X pins σ H s)(q:SqB X.K k H m zs)(f:FpOk X pins H b):m≠b:=by
 intro e
 subst e
 obtain⟨f0,_,_,f3,_⟩:=f
 have no:∀ o,X.K.lookup m=some o->False:=λo hk=>by
  have e:=I.mod.kin m o hk
  rcases f3 with z | z
  ·exact I.ok.noex _ _ e z
  ·exact absurd (Heap.lt_size (I.ok.bs _ _ e).1) (Nat.not_lt.mpr z)
 have nr:∀ u,Rd H m u->False:=λu r=>by
  rcases r with r | ⟨o,r⟩<;>(rw[f0]at r;cases r)
 cases k
 ·rcases q with q | ⟨o,_,_,hk,_⟩
  ·exact nr _ q
  ·exact no o hk
 ·rcases q with q | ⟨o,_,_,hk,_⟩
  ·exact nr _ q
  ·exact no o hk
theorem FpOk.upd{X:Cx}{pins:List (Addr × Obj)}{H:Hp}{a b:Addr}{o:HO}(f:FpOk X pins H b)(n:b≠a):FpOk X pins (upd H a o) b:=⟨(AS n).trans f.1,f.2⟩
theorem ZipSt.lt{k k':Bool}{z l l' T U j j':Addr}{f:Value}{i:Nat}{h:Heap}(q:ZipSt k k' z l l' f i h T U j j'):∀ b∈[z,T,U,j,j'],b<h.objs.size:=by
 obtain⟨h1,h2,⟨a,b',h3⟩,h4,h5⟩:=q
 obtain⟨o4,e4,_⟩:=h4.ob
 obtain⟨o5,e5,_⟩:=h5.ob
 intro b hb
 simp only[List.mem_cons,List.not_mem_nil,or_false]at hb
 rcases hb with rfl | rfl | rfl | rfl | rfl
 ·exact Heap.lt_size h1
 ·exact Heap.lt_size h2
 ·exact Heap.lt_size h3
 ·exact Heap.lt_size e4
 ·exact Heap.lt_size e5
theorem Five.apart{z T U j j' l l':Addr}(D:Five z T U j j')(n:∀ b∈[z,T,U,j,j'],l≠b)(n':∀ b∈[z,T,U,j,j'],l'≠b):ZipApart z T U j j' l l' :=
 ⟨D.a1,D.a2,D.a3,D.a4,D.a5,D.a6,D.a7,D.a8,D.a9,D.a10,n _ (by simp),n _ (by simp),n _ (by simp),n _ (by simp),n' _ (by simp),n' _ (by simp),n' _ (by simp),n' _ (by simp)⟩
section
variable{X:Cx}{tg:Expr}
end
theorem Fun.none{P:Program}{w:World}{K:W.Frag}{mg:Str->Option Value}{base:Heap}{x qual:Str}{st:Stmt}{f:Addr}{fd:FuncData}{N ps:List Str}{k:Nat}{sp:Sp}(F:Fun K x qual st f fd)(S:FnScope N ps (AK st))(no:∀ vs H Q E,sp vs H Q E->False):FnOk P w K mg base (DB P w) (k+1) f fd ps sp :=
 F.okE S (λvs H Q E h=>(no vs H Q E h).elim) λ_ _ _ _ H vs Q E _ h=>(no vs H Q E h).elim
end L2
namespace L2
def UY(z:Str):It:=⟨λi _=>i<z.cps.size,λi H x H'=>H'=H/\∃ c,z.cps[i]? =some c/\x=.str ⟨#[c]⟩,λi _=>z.cps.size<=i⟩
def lR(tl:TE):TI:=λσ H R=>tl σ H λx H1=>∃ z,x=.str z/\R (UY z) H1
section
variable{X:Cx}{tg:Expr}
def UZ(K:W.Frag):List V->Hp->VK->Prop:=λxs H Q=>∃ x,xs=[.str x]/\x.length=1/\Q (.int (x.cps.getD 0 0:Nat)) H
def lS(K:W.Frag):List V->Hp->VK->Prop:=λxs H Q=>∃ i j,xs=[.int i,.int j]/\Q (.int (if j > i then j else i)) H
end
theorem lT{K:W.Frag}{x:Str}{H:Hp}{Q:VK}:UZ K [.str x] H Q=(x.length=1/\Q (.int (x.cps.getD 0 0:Nat)) H):=by simp[UZ]
theorem lU{K:W.Frag}{i j:Int}{H:Hp}{Q:VK}:lS K [.int i,.int j] H Q=Q (.int (if j > i then j else i)) H:=propext ⟨λ⟨_,_,e,q⟩=>by cases e;exact q,λq=>⟨_,_,rfl,q⟩⟩
section
variable{P:Program}{w:World}{A:Around}{E:Value->Shared->Prop}{s:Shared}
end
section
variable{X:Cx}
def U0(k:Nat):List V:=(List.range k).map λ(i:Nat)=>V.int (i:Int)
end
theorem lV{tl:TE}{g:TG}{tt:TT}{te:TE}{k:Nat}{cap:List Nat}{σ:St}{H:Hp}{Q:VK}:BI (lR tl) g tt te k cap σ H Q=(tl σ H λx H1=>∃ z,x=.str z/\C2 (UY z) g tt te k cap σ H1 Q):=rfl
end L2
namespace L2
open PySem
abbrev U1(l:List Nat):Prop:=l.Pairwise (· <·)
structure Hh(xs:Array Nat)(j r:Nat):Prop where
 le:r<=xs.size
 lo:∀ i v,i<r->xs.toList[i]? =some v->v<j
 hi:∀ i v,r<=i->xs.toList[i]? =some v->j<=v
def NotIn(t:SetTable)(j:Nat):Prop:=t.place[SetTable.below t.place j]? ≠some j
theorem lW(n:Nat):U1 (Array.range n).toList:=by
 rw[Array.toList_range]
 exact List.pairwise_lt_range
structure Led(led:Bool)(t:SetTable):Prop where
 rise:U1 t.place.toList
 led:t.led=led
theorem Led.standIn{led:Bool}{t:SetTable}(h:t.led=led)(n:Nat):Led led (t.standIn n):=⟨lW n,h⟩
theorem Led.or{led:Bool}{t:SetTable}(h:Led led t)(n:Nat):Led led (t.orStandIn n):=by
 unfold SetTable.orStandIn
 split
 ·exact h
 ·exact .standIn h.led n
theorem Led.fresh(led:Bool):Led led (.fresh 0 0 led):=⟨List.Pairwise.nil,rfl⟩
end L2
namespace L2
open PySem PyProof.Rows
def leads(w:World):Bool:= !w.params.followText "set-order"
def iv:Value->Int
 | .int n _=>n
 | _=>0
def IntSet(P:Program)(w:World)(h:Heap)(a:Addr)(ms:List Int):Prop :=
 ∃ (o:Obj) (es:Array (Int × Value)) (ep:Nat) (t:SetTable),h.get? a=some o/\o.ExactSet/\o.data=.set es ep t/\ElemsOf (intKind P w) es.toList ∧
  List.Perm (es.toList.map λe=>iv e.2) ms/\es.size<scanBound/\t.fits es.size=true/\Led (leads w) t
section
variable{P:Program}{w:World}{A:Around}{E:Value->Shared->Prop}{s:Shared}
theorem IntSet.at{h h':Heap}{a:Addr}{ms:List Int}(x:IntSet P w h a ms)(k:∀ o,h.get? a=some o->h'.get? a=some o):IntSet P w h' a ms:=by
 obtain⟨o,es,ep,t,ho,r⟩:=x
 exact⟨o,es,ep,t,k _ ho,r⟩
end
section
variable{P:Program}{w:World}{A:Around}{R:Result->Shared->Prop}{I:Addr}{fp wr:List Addr}{G:Array GenState->Array GenState->Prop}{n:Nat}{T:Nat->Value->Prop}{St:Nat->Shared->Prop}
end
section
variable{P:Program}{w:World}{A:Around}{E:Value->Shared->Prop}{s:Shared}
end
end L2
namespace L2
open PySem PyProof.Rows
section
variable{P:Program}{w:World}{A:Around}{E:Value->Shared->Prop}{s:Shared}
end
end L2
namespace L2
open PySem PyProof.Rows
structure Hj(P:Program)(w:World)(A:Around)(h h1:Heap)(a I:Addr)(ms:List Int):Prop where
 ex:∃ (fp:List Addr) (ord:List Value) (ks:List Int) (St:Nat->Heap->Prop),(∀ b∈fp,b=a\/h.objs.size<=b)/\Walks P w A I fp [I] ord.length (λi v=>ord[i]? =some v) St/\St 0 h1/\IntsAre ord ks/\ks.Perm ms
 new:h.objs.size<=I
section
variable{P:Program}{w:World}{A:Around}{E:Value->Shared->Prop}{s:Shared}
end
end L2
namespace L2
open PySem PyProof.Rows
section
variable{P:Program}{w:World}{A:Around}{E:Value->Shared->Prop}{s:Shared}
end
end L2
namespace L2
section
variable{X:Cx}
theorem Inv.drawn{pins:List (Addr × Obj)}{σ:St}{H:Hp}{s:Shared}(I:Inv X pins σ H s)(d):Inv X pins σ H { s with drawn:=d } :=
 { ok:=I.ok,os:=I.os,bare:=I.bare,base:=I.base,loc:=I.loc,cell:=I.cell,free:=I.free,freeC:=I.freeC,pin:=I.pin,hok:=I.hok,len:=I.len }
def lX(K:W.Frag)(te:TE):TE:=λσ H Q=>te σ H λx H1=>∃ (p:Addr) (ns:List Int),x=.ref p/\SqL K H1 p (ns.map V.int)/\ns.length<64 ∧
 ∀ (a:Addr) (o:HO) (D:Addr) (ks:List Int),H1 a=none->upd H1 a o D=none->ks.Pairwise (· <·)->(∀ x,x∈ks↔x∈ns)->ks.length<=ns.length->Q (.ref D) (upd (upd H1 a o) D (.lst (ks.map V.int)))
def clo(te:TE):TE:=λσ H Q=>∃ C:VK,te σ H C/\∀ x H1,C x H1->Q x H1
theorem PE.clo{e:Expr}{te:TE}(h:PE X e te):PE X e (clo te):=λpins s σ H Q I ⟨C,q,m⟩=>AV (h pins s σ H C I q) λv s' ⟨x,H1,I1,r1,q1⟩=>⟨x,H1,I1,r1,m _ _ q1⟩
end
end L2
namespace L2
def U2(K:W.Frag)(a:Addr)(n:Nat):It :=
 ⟨λi H=>i<n/\∃ xs,SqL K H a xs/\xs.length=n,λi H x H'=>H'=H/\∀ xs,SqL K H a xs->xs[n - 1 - i]? =some x,λi _=>n<=i⟩
def lY(K:W.Frag)(ta:TA):TI:=λσ H R=>ta σ H λvs H1=>∃ a xs,vs=[.ref a]/\SqL K H1 a xs/\R (U2 K a xs.length) H1
section
variable{X:Cx}{tg:Expr}
def lZ(K:W.Frag)(te:TE)(ts:TO):TE:=λσ H Q=>te σ H λx H1=>ts σ H1 λk H2=>k=some (-1)/\∃ a xs,x=.ref a/\SqL K H2 a xs/\∀ p,H2 p=none->Q (.ref p) (upd H2 p (.lst xs.reverse))
theorem l0{K:W.Frag}{te:TE}{ts:TO}{σ:St}{H:Hp}{Q:VK}:lZ K te ts σ H Q=(te σ H λx H1=>ts σ H1 λk H2=>k=some (-1)/\∃ a xs,x=.ref a/\SqL K H2 a xs/\∀ p,H2 p=none->Q (.ref p) (upd H2 p (.lst xs.reverse))):=rfl
def l8(ta:TA):TE:=λσ H Q=>ta σ H λvs H1=>∃ k:Nat,vs=[.int k]/\k<=100000/\∀ p,H1 p=none->Q (.ref p) (upd H1 p (.lst (U0 k)))
theorem l9{ta:TA}{σ:St}{H:Hp}{Q:VK}:l8 ta σ H Q=(ta σ H λvs H1=>∃ k:Nat,vs=[.int k]/\k<=100000/\∀ p,H1 p=none->Q (.ref p) (upd H1 p (.lst (U0 k)))):=rfl
def U3(K:W.Frag):List V->Hp->VK->Prop:=λxs H Q=>∃ (p:Addr) (kvs:List (A0 × V)),xs=[.ref p]/\H p=some (.dK kvs)/\∀ l,H l=none->Q (.ref l) (upd H l (.dK kvs))
theorem mB{K:W.Frag}{p:Addr}{H:Hp}{Q:VK}:U3 K [.ref p] H Q=∃ kvs,H p=some (.dK kvs)/\∀ l,H l=none->Q (.ref l) (upd H l (.dK kvs)):=by simp[U3]
end
theorem mC{K:W.Frag}{as:TA}{g:TG}{s1:TS}{D:Ends}{σ:St}{H:Hp}:C0 (lY K as) g s1 D σ H=(as σ H λvs H1=>∃ a xs,vs=[.ref a]/\SqL K H1 a xs/\FL (U2 K a xs.length) g s1 D σ H1):=rfl
section
variable{K:W.Frag}{tt:TT}{cap:List Nat}{σ:St}{H:Hp}{Q:VK}
theorem PJ{n:Nat}(p:Nat->Bool)(hn:n<=sizeLine)(ht:∀ i,i<n->∀ QB:Bool->Hp->Prop,QB (p i) H->tt (some (.int (i:Int))::A5 cap σ) H QB)
  (hd:∀ q,H q=none->Q (.ref q) (upd H q (.lst (((List.range n).filter p).map λ(i:Nat)=>V.int i)))):C2 (DF 0 n) (AJ 0) tt (AA 0) 1 cap σ H Q:=by
 refine⟨λi m σ' ys H'=>m=n - i/\i<=n/\H'=H/\(∃ x0,σ'=x0::A5 cap σ)/\ys=((List.range i).filter p).map λ(i:Nat)=>V.int i,⟨n,by simp,Nat.zero_le _,rfl,⟨none,rfl⟩,rfl⟩,?_⟩
 rintro i m σ' ys H' ⟨rfl,hi,rfl,⟨x0,rfl⟩,rfl⟩
 by_cases hlt:i<n
 ·refine .inr ⟨hlt,?_,λx H2 y=> ?_⟩
  ·rw[List.length_map]
   have:=List.length_filter_le p (List.range i)
   rw[List.length_range]at this
   omega
  ·obtain⟨e,y⟩:=y
   subst e y
   rw[Int.zero_add]
   simp only[AJ,List.set_cons_zero]
   refine ht i hlt _ ?_
   cases hp:p i with
   | true =>
    rw[if_pos rfl]
    refine⟨λv H4=>v=.int i/\H4=H2,λy H4 ⟨e1,e2⟩=>⟨n - (i+1),by omega,rfl,hlt,e2,⟨_,rfl⟩,?_⟩,?_⟩
    ·rw[e1,List.range_succ,List.filter_append,List.map_append]
     simp[hp]
    ·simp[AA]
   | false =>
    rw[if_neg Bool.false_ne_true]
    refine⟨n - (i+1),by omega,rfl,hlt,rfl,⟨_,rfl⟩,?_⟩
    rw[List.range_succ,List.filter_append,List.map_append]
    simp[hp]
 ·have e:i=n:=by omega
  subst e
  exact .inl ⟨Nat.le_refl _,hd⟩
end
section
variable{K:W.Frag}{td ty tv te:TE}{D:Ends}{σ:St}{H:Hp}{Q:VK}{QB:Bool->Hp->Prop}
theorem mD:gR td ty σ H Q=(td σ H λx H1=>ty σ H1 λy H2=>∃ a v,x=.ref a/\DGet H2 a y (some v)/\Q v H2):=rfl
theorem mE:O3 ty td σ H Q=(ty σ H λy H1=>td σ H1 λx H2=>∃ a o,x=.ref a/\DGet H2 a y o/\Q (.bl o.isSome) H2):=rfl
theorem mF:gS ty td σ H Q=(ty σ H λy H1=>td σ H1 λx H2=>∃ a o,x=.ref a/\DGet H2 a y o/\Q (.bl (!o.isSome)) H2):=rfl
theorem mG:O4 td ty tv D σ H=(tv σ H λv H1=>td σ H1 λx H2=>ty σ H2 λy H3=>∃ a H4,x=.ref a/\DPut H3 a y v H4/\D.nx σ H4):=rfl
theorem mH:gZ td ty σ H Q=(td σ H λx H1=>∃ a,x=.ref a/\T8 H1 a/\ty σ H1 λy H2=>∃ o,DGet H2 a y o/\Q (o.getD .non) H2):=rfl
theorem mI:O5 σ H Q=(∀ p,H p=none->Q (.ref p) (upd H p (.dK []))):=rfl
theorem mJ:gX σ H Q=(∀ p,H p=none->Q (.ref p) (upd H p (.dT []))):=rfl
theorem mK:tB te σ H QB=(te σ H λx H1=>∃ c,x=.bl c/\QB c H1):=rfl
theorem mM:lX K te σ H Q=(te σ H λx H1=>∃ (p:Addr) (ns:List Int),x=.ref p/\SqL K H1 p (ns.map V.int)/\ns.length<64 ∧
 ∀ (a:Addr) (o:HO) (D:Addr) (ks:List Int),H1 a=none->upd H1 a o D=none->ks.Pairwise (· <·)->(∀ x,x∈ks↔x∈ns)->ks.length<=ns.length->Q (.ref D) (upd (upd H1 a o) D (.lst (ks.map V.int)))):=rfl
variable{a b:Addr}{i j:Int}{z:Str}{kvs:List (A0 × V)}{kvt:List (List A0 × V)}{v:V}
theorem dS(e:H a=some (.dK kvs)):DGet H a (.str z) (B7 kvs (.inr z)):=DGet.k (k:=.inr z) e
theorem pS(e:H a=some (.dK kvs))(hl:kvs.length<100000):DPut H a (.str z) v (upd H a (.dK (C7 kvs (.inr z) v))):=DPut.k (k:=.inr z) e (Nat.lt_of_lt_of_le hl (by decide))
end
end L2
namespace L2
section
variable{X:Cx}
abbrev NS(K:W.Frag):R2:=TN K false
theorem U4(hu:X.A.units+64<cLine):OpR X (compareOp .In) (NS X.K):=gE
end
theorem SqT.same{K:W.Frag}{H H':Hp}{a:Addr}{xs:List V}(e:Same H H')(h:SqT K H a xs):SqT K H' a xs:=by
 rcases h with(h | ⟨o,h⟩) | h
 ·exact .inl (.inl (e _ _ h))
 ·exact .inl (.inr ⟨o,e _ _ h⟩)
 ·exact .inr h
mutual
theorem Rep.same{K:W.Frag}{H H':Hp}(s:Same H H'):∀ {v:V} {d:PyData},Rep K H v d->Rep K H' v d
 | _,_,.non=>.non
 | _,_,.bl b=>.bl b
 | _,_,.int i=>.int i
 | _,_,.str x=>.str x
 | _,_,.lst h r=>.lst (s.seq h) (RepAll.same s r)
 | _,_,.tup h r=>.tup (SqT.same s h) (RepAll.same s r)
theorem RepAll.same{K:W.Frag}{H H':Hp}(s:Same H H'):∀ {vs:List V} {ds:List PyData},RepAll K H vs ds->RepAll K H' vs ds
 | _,_,.nil=>.nil
 | _,_,.cons h r=>.cons (Rep.same s h) (RepAll.same s r)
end
def Dat(K:W.Frag)(H:Hp)(n:Nat)(v:V)(d:PyData):Prop:=Rep K H v d/\d.canLay0=true/\d.depth<=n
section
variable{K:W.Frag}{H:Hp}{n:Nat}{Q:VK}
theorem Dat.int(i:Int):Dat K H n (.int i) (.int i):=⟨.int i,rfl,Nat.zero_le _⟩
theorem Dat.non:Dat K H n .non .none:=⟨.non,rfl,Nat.zero_le _⟩
theorem PK:∀ {xs:List V} {ds:List PyData},Paired (Dat K H n) xs ds->RepAll K H xs ds/\PyData.canLayAll0 ds=true/\PyData.depthAll ds<=n
 | _,_,.nil=>⟨.nil,rfl,Nat.zero_le _⟩
 | _,_,.cons h t=>by
  obtain⟨a1,a2,a3⟩:=PK t
  refine⟨.cons h.1 a1,?_,?_⟩
  ·simp[PyData.canLayAll0,h.2.1,a2]
  ·simp only[PyData.depthAll];exact Nat.max_le.mpr ⟨h.2.2,a3⟩
theorem Dat.lst{p:Addr}{xs:List V}{ds:List PyData}(h:SqL K H p xs)(hs:Paired (Dat K H n) xs ds):Dat K H (n+1) (.ref p) (.list ds):=by
 obtain⟨a1,a2,a3⟩:=PK hs
 exact⟨.lst h a1,by simpa [PyData.canLay0]using a2,by simpa [PyData.depth]using a3⟩
theorem Dat.tup{p:Addr}{xs:List V}{ds:List PyData}(h:SqT K H p xs)(hs:Paired (Dat K H n) xs ds):Dat K H (n+1) (.ref p) (.tuple ds):=by
 obtain⟨a1,a2,a3⟩:=PK hs
 exact⟨.tup h a1,by simpa [PyData.canLay0]using a2,by simpa [PyData.depth]using a3⟩
theorem Dat.shp{v:V}{d:PyData}(h:Dat K H n v d)(hn:n<=64):shp d:=by
 unfold L2.shp PySem.SeqAt.shaped
 rw[h.2.1]
 simpa using Nat.le_trans h.2.2 hn
theorem U5:∀ (l:List Int),Paired (Dat K H n) (l.map V.int) (l.map PyData.int)
 | []=>.nil
 | x::r=>.cons (.int x) (U5 r)
theorem mO{p q:Addr}{d:PyData}(hn:n<=64)(h1:Dat K H n (.ref p) d)(h2:Dat K H n (.ref q) d)(hq:Q (.bl true) H):BO K (.ref p) (.ref q) H Q:=by
 unfold BO
 rw[if_neg (by simp[DG])]
 refine⟨_,_,h1.1,h2.1,h1.shp hn,h1.shp hn,?_⟩
 rw[UX (h1.shp hn)]
 exact hq
theorem mP{p q:Addr}{d:PyData}(hn:n<=64)(h1:Dat K H n (.ref p) d)(h2:Dat K H n (.ref q) d)(hq:Q (.bl false) H):CM K (.ref p) (.ref q) H Q:=by
 unfold CM
 rw[if_neg (by simp[DG])]
 refine⟨_,_,h1.1,h2.1,h1.shp hn,h1.shp hn,?_⟩
 rw[UX (h1.shp hn)]
 exact hq
theorem U6{p q:Addr}{xs:List V}{ds:List PyData}(hn:n<=63)(h1:SqL K H p xs)(hd:Paired (Dat K H n) xs ds)(h2:SqL K H q [])(hq:Q (.bl (decide (xs=[]))) H):BO K (.ref p) (.ref q) H Q:=by
 unfold BO
 rw[if_neg (by simp[DG])]
 have e1:=Dat.lst h1 hd
 have e2:Dat K H 1 (.ref q) (.list []):=Dat.lst h2 .nil
 refine⟨_,_,e1.1,e2.1,e1.shp (by omega),e2.shp (by omega),?_⟩
 cases hd with
 | nil=>exact hq
 | cons _ _=>exact hq
end
end L2
namespace L2
end L2
namespace L2
section
variable{prog:Program}{w:World}{A:Around}{E:Value->Shared->Prop}{s:Shared}{d it:Addr}{od:Obj}{es:Array DictEntry}{ep i:Nat}
end
end L2
namespace L2
theorem U7:∀ {ys:List Str} {us:List Value},Vals (ys.map V.str) us->StrsAre us ys
 | [],_,.nil=>.nil
 | y::r,_,.cons h t=>by
  obtain⟨tk,rfl⟩:=h
  exact .cons _ _ (U7 t)
section
variable{X:Cx}
def U8(K:W.Frag):V->List V->Hp->VK->Prop:=λx vs H Q=>∃ (z:Str) (p:Addr) (ys:List Str),x=.str z/\vs=[.ref p]/\SqL K H p (ys.map V.str)/\z.length<=16/\(ys.map (·.length)).sum+ys.length<=1048576/\Q (.str (Txt.join z ys)) H
theorem mQ:MtR X "str.join" (U8 X.K):=by
 intro pins s σ H x vs v us Q I rx rv h
 obtain⟨z,p,ys,rfl,rfl,hp,hz,hw,q⟩:=h
 obtain⟨t,rfl⟩:=rx
 obtain⟨u,rfl,ru⟩:=rv.one
 cases ru
 obtain⟨its,r,pl,hz'⟩:=I.list hp
 exact join_listW pl.isList (U7 r) hz hw λt' k=>⟨.str _,H,I.tok k,⟨t',rfl⟩,q⟩
end
section
variable{K:W.Frag}{tt:TT}{te:TE}{cap:List Nat}{σ:St}{H:Hp}{Q:VK}
end
end L2
namespace L2
section
variable{X:Cx}{tg:Expr}
end
section
variable{K:W.Frag}{tt:TT}{cap:List Nat}{σ:St}{H:Hp}{Q:VK}
def Hk(lo:Int)(n:Nat):List Int:=(List.range n).map λ(i:Nat)=>lo - (i:Int)
end
def PL(n i:Nat)(P:Prop):Prop:=∃ m',m'<n - i/\m'=n - (i+1)/\i+1<=n/\P
theorem mR{n i:Nat}{P:Prop}(h:i<n)(p:P):PL n i P:=⟨_,by omega,rfl,h,p⟩
theorem mS{K:W.Frag}{g:TG}{tt:TT}{te:TE}{k:Nat}{cap:List Nat}{σ:St}{H:Hp}{Q:VK}{b:Addr}{xs:List V}(hn:xs.length<=sizeLine)(Pv:Nat->St->List V->Hp->Prop)(h0:Pv 0 (GC k cap σ) [] H)(hq:∀ i σ' ys H,Pv i σ' ys H->SqL K H b xs/\ys.length<=i)
  (hs:∀ i x σ' ys H,i<xs.length->xs[i]? =some x->Pv i σ' ys H->g x σ' H λσ2 H2=>tt σ2 H2 λc H3=>if c=true then ∃ N:VK,(∀ y H4,N y H4->PL xs.length i (Pv (i+1) σ2 (ys++[y]) H4))/\te σ2 H3 N else PL xs.length i (Pv (i+1) σ2 ys H3))
  (hd:∀ σ' ys H,Pv xs.length σ' ys H->∀ p,H p=none->Q (.ref p) (upd H p (.lst ys))):C2 (EL K b) g tt te k cap σ H Q:=by
 refine⟨λi m σ' ys H=>m=xs.length - i/\i<=xs.length/\Pv i σ' ys H,⟨xs.length,by simp,Nat.zero_le _,h0⟩,?_⟩
 rintro i m σ' ys H ⟨rfl,hi,p⟩
 obtain⟨q,hl⟩:=hq i σ' ys H p
 by_cases hlt:i<xs.length
 ·refine .inr ⟨⟨xs,xs[i],q,by simp[hlt]⟩,by omega,λx H' y=> ?_⟩
  obtain⟨e,y⟩:=y
  subst e
  exact hs i x σ' ys _ hlt (y xs q) p
 ·have e:i=xs.length:=by omega
  subst e
  exact .inl ⟨⟨xs,q,Nat.le_refl _⟩,hd σ' ys H p⟩
section
variable{P:Program}{w:World}{A:Around}{E:Value->Shared->Prop}{s:Shared}
end
section
variable{X:Cx}
end
end L2
namespace L2
section
variable{P:Program}{w:World}{A:Around}{E:Value->Shared->Prop}{s:Shared}
theorem mT{e it l:Addr}{i:Nat}{items:Array Value}{x old:Value}{Q:Option Value->Shared->Prop}(he:IsEnum s.heap e it i old)(hi:s.heap.IsListIter it l i)(hl:s.heap.IsList l items)(ex:items[i]? =some x)(ne:e≠it)
  (q:∀ h',IsEnumOut h' e it (i+1) x s.heap.objs.size->h'.IsListIter it l (i+1)->h'.get? s.heap.objs.size=some { cls:=Value.type "tuple",data:=Data.seq #[Value.int i s.toks,x] }->(∀ b o,b≠e->b≠it->s.heap.get? b=some o->h'.get? b=some o) →
   Q (some (.ref s.heap.objs.size)) { s with heap:=h',toks:=s.toks+1 }):wpAny (model P w) A (pyNext (.ref e)) Q E s:=by
 have ty:s.TypeIs (.ref e) "enumerate":=⟨_,he,rfl⟩
 unfold pyNext
 exact wpAny_bind (wpAny_attempt (wpAny_callSpecial?_slot (name:=Str.ofString "__next__") ty F.slot_enumerate_next (wpAny_call_entry F.slot_enumerate_next ty F.entry_enumerate_next
  (enumerate_next_item he hi hl ex ne λh' a1 a2 a3 _ a4=>wpAny_pure (q h' a1 a2 a3 a4)) (F.args_enumerate_next_1 _))))
theorem mU{e it l:Addr}{i:Nat}{items:Array Value}{old:Value}{Q:Fin->Shared->Prop}(hh:A.handled=none)(he:IsEnum s.heap e it i old)(hi:s.heap.IsListIter it l i)(hl:s.heap.IsList l items)(ex:items[i]? =none)
  (q:∀ h' x,Heap.ExtBut it s.heap h'->(∃ o,h'.get? x=some o/\o.cls=.type "StopIteration")->E (.ref x) { s with heap:=h' }):wpAny (model P w) A (Builtin.«enumerate.__next__» ⟨[.ref e],[]⟩) Q E s:=by
 show wpAny (model P w) A (field (.ref e) 2 >>= _) _ _ s
 refine wpAny_bind (wpAny_field he rfl (x:=.ref it) rfl ?_)
 exact wpAny_bind (lQ (k:=true) hh hi hl ex q)
theorem mV{e it l:Addr}{i:Nat}{items:Array Value}{old:Value}{Q:Option Value->Shared->Prop}(hh:A.handled=none)(he:IsEnum s.heap e it i old)(hi:s.heap.IsListIter it l i)(hl:s.heap.IsList l items)(ex:items[i]? =none)
  (q:∀ h',Heap.ExtBut it s.heap h'->Q none { s with heap:=h' }):wpAny (model P w) A (pyNext (.ref e)) Q E s:=by
 have ty:s.TypeIs (.ref e) "enumerate":=⟨_,he,rfl⟩
 unfold pyNext
 refine wpAny_bind (wpAny_attempt (wpAny_callSpecial?_slot (name:=Str.ofString "__next__") ty F.slot_enumerate_next (wpAny_call_entry F.slot_enumerate_next ty F.entry_enumerate_next (mU hh he hi hl ex λh' x kk ⟨o,e1,e2⟩=> ?_) (F.args_enumerate_next_1 _))))
 exact wpAny_bind (wpAny_isInstance (T:="StopIteration") (b:=true) ⟨o,e1,e2⟩ isSubtype_stop (wpAny_pure (q _ kk)))
end
def HR(K:W.Frag)(a:Addr):It :=
  ⟨λi H=>∃ xs x,SqL K H a xs/\xs[i]? =some x,
   λi H v H'=>∃ t,H t=none/\v=.ref t/\∃ x,H'=upd H t (.tup [.int (i:Int),x])/\∀ xs,SqL K H a xs->xs[i]? =some x,
   λi H=>∃ xs,SqL K H a xs/\xs.length<=i⟩
def EnSt(e it l:Addr)(i:Nat)(h:Heap):Prop:=(∃ old,IsEnum h e it i old)/\h.IsListIter it l i
theorem EnSt.lt{e it l:Addr}{i:Nat}{h:Heap}(q:EnSt e it l i h):∀ b∈[e,it],b<h.objs.size:=by
 obtain⟨⟨old,h1⟩,o,h2,_⟩:=q
 intro b hb
 simp only[List.mem_cons,List.not_mem_nil,or_false]at hb
 rcases hb with rfl | rfl
 ·exact Heap.lt_size h1
 ·exact Heap.lt_size h2
theorem mW{P:Program}{w:World}{K:W.Frag}{elts:List Expr}{kn:Nat}{pos:Pos}{e it l:Addr}(ne:e≠it) :
  HF P w K (.Tuple elts kn pos) (HR K l) [e,it] e (λi h=>EnSt e it l i h) where
 mem:=by simp
 obj:=λi h st b hb=>by
  obtain⟨⟨old,h1⟩,h2⟩:=st
  obtain⟨o4,e4,d4⟩:=ItK.ob (k:=true) h2
  simp only[List.mem_cons,List.not_mem_nil,or_false]at hb
  rcases hb with rfl | rfl
  ·exact⟨_,h1,λv q=>by cases q⟩
  ·exact⟨_,e4,λv q=>by rw[d4]at q;cases q⟩
 keep:=λi h h' ⟨⟨old,h1⟩,h2⟩ q=>⟨⟨old,q e (by simp) _ h1⟩,ItK.up (k:=true) h2 λo x=>q it (by simp) o x⟩
 item:=by
  intro X hP hw hK hc i pins s σ H E I hf st hg
  subst hP hw hK
  obtain⟨xs,x,hx,ex⟩:=hg
  obtain⟨its,rv,d1⟩:=I.seqK (k:=true) hx
  obtain⟨u,hu,ru⟩:=rv.get ex
  have lt:=EnSt.lt st
  obtain⟨⟨old,h1⟩,h2⟩:=st
  refine mT h1 h2 d1 (x:=u) (by simpa using hu) ne λh' g1 g2 g3 kk=>⟨_,rfl,?_⟩
  refine wpAny_letOwnedTupleGo_enum g1 λh2' z2 sb=> ?_
  have I1:=I.tnew (ys:=[.int (i:Int),x]) (its:=[Value.int (i:Int) s.toks,u]) (.cons (show RelV (.int (i:Int)) (Value.int (i:Int) s.toks)from⟨s.toks,rfl⟩) (.cons ru .nil)) (by show 2<=sizeLine;decide)
  have f':∀ b∈[e,it],b≠s.heap.objs.size:=λb hb=>Nat.ne_of_lt (lt b hb)
  have nz:s.heap.objs.size≠e:=(f' e (by simp)).symm
  have I2:Inv X pins σ (upd H s.heap.objs.size (.tup [.int (i:Int),x])) { s with heap:=h2',toks:=s.toks+1 }:=by
   refine Inv.turnedS (s:={ s with heap:=s.heap.push { cls:=Value.type "tuple",data:=Data.seq #[Value.int i s.toks,u] } }) (t':=s.toks+1) (fp:=[e,it]) I1 (λb o hb eo=> ?_) λb hb=>(hf b hb).upd (f' b hb)
   simp only[List.mem_cons,List.not_mem_nil,or_false,not_or]at hb
   rcases Heap.get?_push_cases eo with⟨e1,e2⟩ | e1
   ·subst e1 e2
    exact sb.extBut _ _ nz g3
   ·exact sb.extBut _ _ hb.1 (kk _ _ hb.1 hb.2 e1)
  exact⟨.ref s.heap.objs.size,_,I2,rfl,⟨s.heap.objs.size,I.fresh,rfl,x,rfl,λys' q=>by rw[I.seqK_inj (k:=true) q hx];exact ex⟩,
   ⟨⟨_,z2⟩,ItK.up (k:=true) g2 λo x=>sb.extBut _ _ ne.symm x⟩,λb hb=>((hf b hb).upd (f' b hb)).1⟩
 done:=by
  intro X hP hw hK hc i pins s σ H E I hf st hg
  subst hP hw hK
  obtain⟨xs,hx,en⟩:=hg
  obtain⟨its,rv,d1⟩:=I.seqK (k:=true) hx
  obtain⟨⟨old,h1⟩,h2⟩:=st
  have e1:=rv.length
  refine mV (I.ok.hd hc) h1 h2 d1 (by simp;omega) λh' kk=>⟨rfl,I.turnedS (t':=s.toks) (fp:=[e,it]) (λb o hb eo=> ?_) hf⟩
  simp only[List.mem_cons,List.not_mem_nil,or_false,not_or]at hb
  exact kk _ _ hb.2 eo
 self:=λ_ _ _ _ _ st h=>by
  obtain⟨⟨old,h1⟩,_⟩:=st
  exact wpAny_pyIter_enum h1 h
section
variable{X:Cx}
def FM(K:W.Frag)(ta:TA):TI:=λσ H R=>ta σ H λvs H1=>∃ a:Addr,vs=[.ref a]/\(∃ xs,SqL K H1 a xs)/\R (HR K a) H1
theorem HS{a:Expr}{ta:TA}{p pos p2:Pos}{elts:List Expr}{kn:Nat}(hg:Gl X "enumerate")(hm:X.mg "enumerate"=none)(ha:PA X [a] ta)(hs:starEach [a] X.env=[(false,eval a X.env)]:=by rfl) :
  PI X (.Tuple elts kn p2) (.Call (.Name "enumerate" p) [a] [] pos) (FM X.K ta):=by
 intro pins s σ H R I h
 refine Call_ (IX I hg hm boot_enumerate (PyProof.Rows.callWith_type1 (AV (ha pos pins s σ H _ I h) λus s1 ⟨vs,H1,I1,r1,q1⟩=> ?_) (by rw[hs];rfl) (by rfl)))
 obtain⟨l,e,⟨xs,hx⟩,q⟩:=q1
 subst e
 obtain⟨u,rfl,rx⟩:=JB r1
 cases rx
 obtain⟨its,rv,d1⟩:=I1.seqK (k:=true) hx
 refine call_enumerate_list d1 λh' z1 z2 sz kk=>wpAny_pyIter_enum z1 ?_
 have I2:Inv X pins σ H1 { s1 with heap:=h' }:=I1.kept (t':=s1.toks) kk
 refine⟨_,[s1.heap.objs.size+1,s1.heap.objs.size],_,_,H1,rfl,I2,mW (Nat.ne_of_gt (by omega)),⟨⟨_,z1⟩,z2⟩,λb hb=>I1.fpOk ?_ (I1.hok.fresh ?_),q⟩
 all_goals
  simp only[List.mem_cons,List.not_mem_nil,or_false]at hb
  rcases hb with rfl | rfl<;>omega
end
theorem mX{K:W.Frag}{as:TA}{g:TG}{s1:TS}{D:Ends}{σ:St}{H:Hp}:C0 (FM K as) g s1 D σ H=(as σ H λvs H1=>∃ a:Addr,vs=[.ref a]/\(∃ xs,SqL K H1 a xs)/\FL (HR K a) g s1 D σ H1):=rfl
theorem mY{K:W.Frag}{σ:St}{H:Hp}{a:Addr}{xs:List V}{g:TG}{tb:TS}{D:Ends}(Pv:Nat->St->Hp->Prop)(h0:Pv 0 σ H)(ha:∀ i σ H,i<=xs.length->Pv i σ H->SqL K H a xs)
  (hs:∀ i x σ H t,xs[i]? =some x->Pv i σ H->H t=none->g (.ref t) σ (upd H t (.tup [.int (i:Int),x])) λσ2 H2=>tb { D with nx:=Pv (i+1),ct:=Pv (i+1),bk:=D.nx } σ2 H2) (hd:∀ σ H,Pv xs.length σ H->D.nx σ H):FL (HR K a) g tb D σ H:=by
 refine⟨λi m σ H=>i+m=xs.length/\Pv i σ H,⟨xs.length,by omega,h0⟩,λi m σ H ⟨e,p⟩=> ?_⟩
 have h1:=ha i σ H (by omega) p
 by_cases hi:i<xs.length
 ·refine .inr ⟨⟨xs,xs[i],h1,List.getElem?_eq_getElem hi⟩,Pv (i+1),λσ' H' q=>⟨m - 1,by omega,by omega,q⟩,λv H' ⟨t,ht,e,x,e',q1⟩=> ?_⟩
  subst e e'
  exact hs i x σ H t (q1 _ h1) p ht
 ·have e:i=xs.length:=by omega
  subst e
  exact .inl ⟨⟨xs,h1,Nat.le_refl _⟩,hd _ _ p⟩
end L2
namespace L2
section
variable{X:Cx}
def mZ(K:W.Frag):List V->Hp->VK->Prop:=λxs H Q=>∃ i j,xs=[.int i,.int j]/\Q (.int (if j<i then j else i)) H
theorem m7{K:W.Frag}{i j:Int}{H:Hp}{Q:VK}:mZ K [.int i,.int j] H Q=Q (.int (if j<i then j else i)) H:=propext ⟨λ⟨_,_,e,q⟩=>by cases e;exact q,λq=>⟨_,_,rfl,q⟩⟩
end
end L2
namespace L2
section
variable{P:Program}{w:World}{A:Around}{E:Value->Shared->Prop}{s:Shared}
end
section
variable{X:Cx}
end
end L2
namespace L2
section
variable{X:Cx}{pins:List (Addr × Obj)}{σ:St}{H:Hp}{s:Shared}
variable{tg iter elt:Expr}{ifs:List Expr}{scope:Scope}{pos:Pos}{td:TE}{g:TG}{tt:TT}{te:TE}{tn cn:List Str}{cap:List Nat}
end
end L2
namespace L2
theorem FnScope.go{N P:List Str}{sc:Scope}(h1:sc.kind=.function:=by exact rfl)(h2:sc.isCoroutine=false:=by exact rfl)(h3:sc.isGenerator=false:=by exact rfl)(h4:N.Nodup:=by decide +kernel)(h5:N.take P.length=P:=by exact rfl)(h6:∀ x∈P,sc.names.lookup x=some .local\/sc.names.lookup x=some .cell:=by decide +kernel)(h7:∀ y∈sc.names,y.2≠.free:=by decide +kernel):FnScope N P sc:=⟨h1,h2,h3,h4,h5,h6,h7⟩
theorem Room.m{j k:Nat}{A:Around}(r:Room k A)(h:j<=k:=by decide):Room j A:=r.mono h
abbrev FP(P:Program)(w:World)(K:W.Frag)(mg:Str->Option Value)(base:Heap)(k:Nat)(f:Addr)(fd:FuncData)(ps:List Str)(sp:Sp):Prop:=FnOk P w K mg base (DB P w) k f fd ps sp
theorem Fun.okF{P:Program}{w:World}{K:W.Frag}{mg:Str->Option Value}{base:Heap}{x qual:Str}{st:Stmt}{f:Addr}{fd:FuncData}{N ps:List Str}{k:Nat}{sp:Sp}(F:Fun K x qual st f fd)(rd:(St->XK)->TS)(S:FnScope N ps (AK st))(len:∀ {vs H Q E},sp vs H Q E->vs.length=ps.length)
  (ok:∀ {vs H Q E},sp vs H Q E->rd (λ_=>E) { nx:=λ_ H'=>Q .non H',rt:=Q } (A7 N vs) H)
  (hb:∀ (cdv:Value) (A:Around) (outer:List Env) (s:Shared) (H:Hp) (E:XK),Room k (A.deeper (envOfC qual (AK st) s.heap.objs.size f cdv))->XOk (FH (DB P w) P w K mg base N qual (AK st) f cdv A outer s H E) (λ_=>E) →
   PSs (FH (DB P w) P w K mg base N qual (AK st) f cdv A outer s H E) (BB st) (rd λ_=>E)):FP P w K mg base (k+1) f fd ps sp :=
 F.okE S (λ_ _ _ _=>len) λcdv A outer s H _ _ E hr h=>⟨_,hb cdv A outer s H E hr hU,ok h⟩
section
variable{X:Cx}{pos:Pos}
theorem BD(i:Nat){x:Str}{e:Expr}{te:TE}{pos':Pos}(hN:X.N.Nodup)(he:PE X e te)(hi:X.N[i]? =some x:=by exact rfl)(hx:IV X.env.scope x:=by exact Or.inl rfl)(hs:swapsWith e (some (.Name x pos')) pos.line X.env=pure false:=by rfl)(hf:X.fn x=true\/X.env.scope.names.lookup x=some .local:=by first | exact .inl rfl | exact .inr rfl | assumption) :
  PS X (.Assign [.Name x pos'] e pos) (AY te (AJ i)):=FZ hN hi hx he hs hf
theorem DP(i:Nat){x:Str}(hN:X.N.Nodup)(hi:X.N[i]? =some x:=by exact rfl)(hx:IV X.env.scope x:=by exact Or.inl rfl)(hf:X.fn x=true\/X.env.scope.names.lookup x=some .local:=by first | exact .inl rfl | exact .inr rfl | assumption):PG X (.Name x pos) (AJ i):=BF hN hi hx hf
end
end L2
namespace L2
def PM(K:W.Frag)(to ti tv:TE)(rd:V->V->Hp->VK->Prop):TS:=λD σ H=>to σ H λx H1=>ti σ H1 λy H2=>∃ p xs,∃ n:Nat,∃ v,x=.ref p/\y=.int n/\SqL K H2 p xs/\xs[n]? =some v/\tv σ H2 λz H3=>rd v z H3 λu H4=>HN (.ref p) (.int n) u H4 λH5=>D.nx σ H5
theorem m8{K:W.Frag}{to ti tv:TE}{rd:V->V->Hp->VK->Prop}{D:Ends}{σ:St}{H:Hp}:PM K to ti tv rd D σ H=(to σ H λx H1=>ti σ H1 λy H2=>∃ p xs,∃ n:Nat,∃ v,x=.ref p/\y=.int n/\SqL K H2 p xs/\xs[n]? =some v/\tv σ H2 λz H3=>rd v z H3 λu H4=>HN (.ref p) (.int n) u H4 λH5=>D.nx σ H5):=rfl
section
variable{X:Cx}{o i value:Expr}{td ty tv:TE}{tpos pos:Pos}
theorem m9{op:Operator}{rd:V->V->Hp->VK->Prop}(ho:PE X o td)(hi:PE X i ty)(hv:PE X value tv)(hop:ON X op rd)
  (ha:∀ ov iv new,augStore i ov iv new=(do holding [new,ov,iv] (setItem ov iv new);release [new,ov,iv] [];pure .next):=by intros;rfl):PS X (.AugAssign (.Subscript o i tpos) op value pos) (PM X.K td ty tv rd):=by
 intro pins s σ H D I h
 refine wpAny_AugAssign_SubscriptAny (AV (ho pins s σ H _ I h) λu s1 ⟨x,H1,I1,rx,q1⟩=>AV (hi pins s1 σ H1 _ I1 q1) λiv s2 ⟨y,H2,I2,ry,p,xs,n,v,ex,ey,hq,hx,q2⟩=> ?_) ha
 subst ex ey
 obtain rfl:u=Value.ref p:=rx
 have ry':=ry
 obtain⟨t,rfl⟩:=ry
 obtain⟨its,r,pl,hz⟩:=I2.list hq
 obtain⟨w,ew,rw'⟩:=r.get hx
 have hl:=r.length
 have hn:=HG
 have hlt:=(List.getElem?_eq_some_iff.mp hx).1
 refine wpAny_getItem_list pl.isList (by omega) (by omega) (x:=w) (by simpa using ew) ?_
 refine AV (hv pins s2 σ H2 _ I2 q2) λw2 s4 ⟨y2,H3,I4,ry2,q3⟩=>AV (hop pins s4 σ H3 v y2 w w2 _ I4 rw' ry2 q3) λw3 s5 ⟨z,H4,I5,rz,q4⟩=> ?_
 exact AV (LH pins s5 σ H4 (.ref p) (.int n) z _ _ _ _ I5 rfl ry' rz q4) λ_ s6 ⟨H5,I6,q5⟩=>⟨σ,H5,I6,q5⟩
end
theorem nB(l:Addr)(items:Array Value)(n:Nat)(b:Addr)(items2:Array Value)(n2:Nat)(d:Option Addr)(sl:Array (Option Value))(hs0:¬(!items.isEmpty && Builtin.List.listTooLong (items.size+items2.size))=true)(hs1:items.size<=sizeLine)(hs2:items.size+items2.size<=sizeLine+1) :
  Meets (Builtin.«list.extend» ⟨[.ref l,.ref b],[]⟩) (λ_ R s=>s.heap.get? l=some { cls:=.type "list",dict:=none,data:=.seq items n,slots:= #[] }/\s.heap.get? b=some { cls:=.type "tuple",dict:=d,data:=.seq items2 n2,slots:=sl }/\R (.ok (.ret Value.none)) { s with heap:=s.heap.update l (Obj.mapSeq λx=>x++items2),toks:=s.toks }) :=
 .of_wp λprog w A R s h=>by
  obtain⟨hp,g,d,tk,os⟩:=s;obtain⟨hl,hb,h⟩:=h;have f1:=AutoSeq1.idx_int;have f2:=AutoSeq1.sub_tuple_tuple;have f3:=AutoSeq1.sub_list_list;have f4:=AutoSeq1.sub_tuple_list;have f5:=AutoSeq1.sub_list_tuple;
  have hz':(items++items2).size<=sizeLine+1:=by rw[Array.size_append];exact hs2
  wp_walk using (wpAny_updateSeq hl rfl (hz:=hs1) (_hz':=hz')),AutoSeq1.wpAny_loadPart' hl,AutoSeq1.wpAny_loadPart' hb;exact⟨_,rfl,h⟩
def U9(K:W.Frag):V->List V->Hp->VK->Prop:=λx vs H Q=>∃ l b xs zs,x=.ref l/\vs=[.ref b]/\H l=some (.lst xs)/\SqT K H b zs/\xs.length+zs.length<=sizeLine/\Q .non (upd H l (.lst (xs++zs)))
theorem nD{X:Cx}:OX X "list.extend" (U9 X.K):=by
 intro pins s σ H x vs v us Q I rx rv h
 obtain⟨l,b,xs,zs,rfl,rfl,hH,hB,hz,q⟩:=h
 cases rx
 obtain⟨u,rfl,ru⟩:=rv.one
 cases ru
 obtain⟨z,its,n,r,hl,e⟩:=I.lstM hH
 obtain⟨its2,r2,⟨o,e2,hc,n2,hd⟩,hz2⟩:=I.tuple hB
 have hl2:=r2.length
 obtain⟨oc,od,odat,osl⟩:=o
 have hc:oc=.type "tuple":=hc
 have hd:odat=.seq its2.toArray n2:=hd
 subst hc hd
 have hsz:its.toArray.size+its2.toArray.size<=sizeLine:=by rw[List.size_toArray,List.size_toArray];omega
 have hlong:¬ (!its.toArray.isEmpty && Builtin.List.listTooLong (its.toArray.size+its2.toArray.size))=true:=by
  rw[TR hsz,Bool.and_false]
  exact Bool.false_ne_true
 refine call_meets F.slot_list_extend ⟨_,e,rfl⟩ F.entry_list_extend (F.args_list_extend_2 _ _)
  (nB l its.toArray n b its2.toArray n2 _ _ hlong (by rw[List.size_toArray];omega) (by omega)) ⟨e,e2,?_⟩
 refine⟨.non,_,I.lset (its':=its++its2) hH e (by simp) (r.append r2) ?_,rfl,q⟩
 rw[List.length_append]
 omega
def LN(c:Int)(n:Nat):It:=⟨λi _=>i<n,λi H x H'=>H'=H/\x=.int ((i:Nat) * c),λi _=>n<=i⟩
theorem nE{P:Program}{w:World}{K:PySem.W.Frag}{tg:Expr}(it:Addr)(c:Int)(n:Nat):HF P w K tg (LN c n) [it] it (λi h=>IsRangeIter h it (0+(i:Nat) * c) ((n:Int) - (i:Nat)) c) where
 mem:=by simp
 obj:=λi h st b hb=>by
  have e:b=it:=by simpa using hb
  subst e
  exact⟨_,st,λv z=>by
   have z':Data.fields _=Data.cell v:=z
   cases z'⟩
 keep:=λi h h' st k=>k it (by simp) _ st
 item:=by
  intro X hP hw hK hc i pins s σ H E I hf st hg
  subst hP hw hK
  obtain⟨f0,f1,f2,f3,f4,f5⟩:=hf it (by simp)
  have W:=Walks.range (prog:=X.prog) (w:=X.w) (I.ok.hd hc) it 0 c n
  refine W.item i s _ _ hg st λv h' tk hv st' kk=> ?_
  obtain⟨t,rfl⟩:=hv
  have I1:Inv X pins σ H { s with heap:=h',toks:=tk }:=I.turned (λb o hb e=>kk b o (by simpa using hb) e) f0 f1 f3 f4 f5
  refine⟨_,rfl,NF (s:={ s with heap:=h',toks:=tk }) (n:="range_iterator") st' rfl rfl (by decide) ⟨.int ((i:Nat) * c),H,I1,⟨t,?_⟩,⟨rfl,rfl⟩,st',λb hb=>(hf b hb).1⟩⟩
  rw[Int.zero_add]
 done:=by
  intro X hP hw hK hc i pins s σ H E I hf st hg
  subst hP hw hK
  obtain⟨f0,f1,f2,f3,f4,f5⟩:=hf it (by simp)
  exact wpAny_pyNext_range_end (I.ok.hd hc) st (by have:n<=i:=hg;omega) λh' eb=>⟨rfl,I.turned (t':=s.toks) (λb o hb e=>eb b o hb e) f0 f1 f3 f4 f5⟩
 self:=λ_ _ _ _ _ st h=>wpAny_pyIter_rangeiter st h
theorem VB{m c:Nat}(hc:1<=c):Builtin.Range.rangeSize 0 ((m * c:Nat):Int) c=m:=by
 unfold Builtin.Range.rangeSize
 rw[if_pos (show(c:Int) > 0 by omega)]
 by_cases h:m=0
 ·subst h;simp
 ·have h1:0<m * c:=Nat.mul_pos (by omega) (by omega)
  rw[if_pos (by omega)]
  have:((m * c:Nat):Int) - 0 - 1=((m * c - 1:Nat):Int):=by omega
  rw[this,<-Int.natCast_ediv]
  have e:(m * c - 1) / c=m - 1:=by
   rw[Nat.div_eq_iff (by omega)]
   have:=Nat.sub_mul m 1 c
   have h2:c<=m * c:=Nat.le_mul_of_pos_left c (by omega)
   constructor<;>omega
  rw[e]
  omega
theorem nF{m c:Nat}(hc:1<=c)(hc':c<100000)(hm:m * c<100000):Builtin.Range.small 0 ((m * c:Nat):Int) c=true:=by
 have hm':m<=m * c:=Nat.le_mul_of_pos_right m (by omega)
 unfold Builtin.Range.small
 rw[VB hc]
 simp only[Builtin.Range.rangeFitsLong,Bool.and_eq_true,Bool.or_eq_true,decide_eq_true_eq,beq_iff_eq]
 refine⟨by omega,.inr ?_⟩
 rw[if_pos (show(c:Int) > 0 by omega)]
 simp only[Bool.and_eq_true,decide_eq_true_eq]
 omega
section
variable{X:Cx}{tg:Expr}
theorem nH{pins:List (Addr × Obj)}{σ:St}{H:Hp}{s:Shared}{R:It->Hp->Prop}{E:Value->Shared->Prop}{m c:Nat}{t u v:Tok}{tk:Nat}(I:Inv X pins σ H s)(h1:1<=c)(h2:c<100000)(h3:m * c<100000)
  (q:R (LN c m) H):wpAny (model X.prog X.w) X.A (pyIter (.ref s.heap.objs.size)) (OG X pins σ tg R) E { s with heap:=s.heap.push { cls:=.type "range",data:=.fields #[.int 0 t,.int ((m * c:Nat):Int) u,.int c v] },toks:=tk }:=by
 refine wpAny_pyIter_range (IsRange.new ..) (nF h1 h2 h3) ?_
 have I1:Inv X pins σ H { s with heap:=s.heap.push { cls:=.type "range",data:=.fields #[.int 0 t,.int ((m * c:Nat):Int) u,.int c v] },toks:=tk }:=I.kept λb o e=>Heap.get?_push_of_some _ e
 refine⟨(s.heap.push { cls:=.type "range",data:=.fields #[.int 0 t,.int ((m * c:Nat):Int) u,.int c v] }).objs.size,[(s.heap.push { cls:=.type "range",data:=.fields #[.int 0 t,.int ((m * c:Nat):Int) u,.int c v] }).objs.size],_,_,H,rfl,
  I1.kept (t':=tk) λb o e=>Heap.get?_push_of_some _ e,nE _ c m,?_,λb hb=> ?_,q⟩
 ·have e1:(0:Int)+((0:Nat):Int) * (c:Int)=0:=by simp
  have e2:(m:Int) - ((0:Nat):Int)=Builtin.Range.rangeSize 0 ((m * c:Nat):Int) c:=by rw[VB h1];omega
  show IsRangeIter _ _ (0+((0:Nat):Int) * (c:Int)) ((m:Int) - ((0:Nat):Int)) c
  rw[e1,e2]
  exact Heap.get?_push_size _ rfl
 ·have e:b=(s.heap.push { cls:=.type "range",data:=.fields #[.int 0 t,.int ((m * c:Nat):Int) u,.int c v] }).objs.size:=by simpa using hb
  subst e
  exact I1.fpOk (Nat.le_refl _) (I1.hok.fresh (Nat.le_refl _))
def PN(ta:TA):TI:=λσ H R=>ta σ H λvs H1=>∃ m c:Nat,vs=[.int 0,.int ((m * c:Nat):Int),.int c]/\(1<=c/\c<100000/\m * c<100000)/\R (LN c m) H1
theorem nJ{a b c:Expr}{ta:TA}{p pos:Pos}(hg:Gl X "range")(hm:X.mg "range"=none)(ha:PA X [a,b,c] ta)(hs:starEach [a,b,c] X.env=[(false,eval a X.env),(false,eval b X.env),(false,eval c X.env)]:=by rfl)(hs2:starEach [b,c] X.env=[(false,eval b X.env),(false,eval c X.env)]:=by rfl) :
  PI X tg (.Call (.Name "range" p) [a,b,c] [] pos) (PN ta):=by
 intro pins s σ H R I h
 refine Call_ (IX I hg hm boot_range (PyProof.Rows.callWith_type1 (AV (ha pos pins s σ H _ I h) λus s1 ⟨vs,H1,I1,r1,q1⟩=> ?_) (by rw[hs,hs2]) (by rw[hs2];rfl)))
 obtain⟨m,c,e,⟨q1,q2,q3⟩,q⟩:=q1
 subst e
 cases r1 with
 | cons r rr =>
  cases rr with
  | cons r' rr =>
   cases rr with
   | cons r2 rr =>
    cases rr
    obtain⟨t,rfl⟩:=r
    obtain⟨t',rfl⟩:=r'
    obtain⟨t2,rfl⟩:=r2
    exact call_range_3 (by omega) (nH I1 q1 q2 q3 q) (Or.inl (PyProof.noPylong_small (by omega)))
end
section
variable{K:W.Frag}{g:TG}{tt:TT}{te:TE}{k:Nat}{cap:List Nat}{σ:St}{H:Hp}{Q:VK}
theorem nK{as:TA}:BI (PN as) g tt te k cap σ H Q=(as σ H λvs H1=>∃ m c:Nat,vs=[.int 0,.int ((m * c:Nat):Int),.int c]/\(1<=c/\c<100000/\m * c<100000)/\C2 (LN c m) g tt te k cap σ H1 Q):=rfl
theorem nQ{as:TA}:BI (FM K as) g tt te k cap σ H Q=(as σ H λvs H1=>∃ a:Addr,vs=[.ref a]/\(∃ xs,SqL K H1 a xs)/\C2 (HR K a) g tt te k cap σ H1 Q):=rfl
theorem nS{c:Int}{n:Nat}(hn:n<=sizeLine)(Pv:Nat->List V->Hp->Prop)(h0:Pv 0 [] H)(hs:∀ i ys H,i<n->ys.length=i->Pv i ys H->te (some (.int ((i:Nat) * c))::A5 cap σ) H λy H2=>Pv (i+1) (ys++[y]) H2)
  (hd:∀ ys H,ys.length=n->Pv n ys H->∀ p,H p=none->Q (.ref p) (upd H p (.lst ys))) :
  C2 (LN c n) (AJ 0) CY te 1 cap σ H Q:=by
 refine⟨λi m σ' ys H=>m=n - i/\i<=n/\ys.length=i/\(∃ x0,σ'=x0::A5 cap σ)/\Pv i ys H,⟨n,by simp,Nat.zero_le _,rfl,⟨none,rfl⟩,h0⟩,?_⟩
 rintro i m σ' ys H ⟨rfl,hi,hl,⟨x0,rfl⟩,p⟩
 by_cases hlt:i<n
 ·refine .inr ⟨hlt,by omega,λx H' y=> ?_⟩
  obtain⟨e,y⟩:=y
  subst e y
  exact⟨_,λy H4 q=>⟨n - (i+1),by omega,rfl,hlt,by simp[hl],⟨_,rfl⟩,q⟩,hs i ys _ hlt hl p⟩
 ·have e:i=n:=by omega
  subst e
  exact .inl ⟨Nat.le_refl _,hd ys H hl p⟩
theorem NT{b:Addr}{xs:List V}(p:Nat->Bool)(hn:xs.length<=sizeLine)(Pv:Nat->List V->Hp->Prop)(h0:Pv 0 [] H)(hq:∀ i ys H,i<=xs.length->Pv i ys H->SqL K H b xs/\ys.length<=i)
  (ht:∀ i x ys H,xs[i]? =some x->Pv i ys H->∀ QB:Bool->Hp->Prop,QB (p i) H->tt (some x::A5 cap σ) H QB)
  (hs:∀ i x ys H,xs[i]? =some x->p i=true->Pv i ys H->te (some x::A5 cap σ) H λy H3=>Pv (i+1) (ys++[y]) H3)
  (hf:∀ i x ys H,xs[i]? =some x->p i=false->Pv i ys H->Pv (i+1) ys H)
  (hd:∀ ys H,Pv xs.length ys H->∀ q,H q=none->Q (.ref q) (upd H q (.lst ys))):C2 (EL K b) (AJ 0) tt te 1 cap σ H Q:=by
 refine⟨λi m σ' ys H=>m=xs.length - i/\i<=xs.length/\(∃ x0,σ'=x0::A5 cap σ)/\Pv i ys H,⟨xs.length,by simp,Nat.zero_le _,⟨none,rfl⟩,h0⟩,?_⟩
 rintro i m σ' ys H ⟨rfl,hi,⟨x0,rfl⟩,P⟩
 obtain⟨q,hl⟩:=hq i ys H hi P
 by_cases hlt:i<xs.length
 ·refine .inr ⟨⟨xs,xs[i],q,by simp[hlt]⟩,by omega,λx H' y=> ?_⟩
  obtain⟨e,y⟩:=y
  subst e
  have ex:=y xs q
  refine ht i x ys _ ex P _ ?_
  cases hp:p i with
  | true =>
   rw[if_pos rfl]
   exact⟨_,λy H4 q=>⟨_,by omega,rfl,hlt,⟨_,rfl⟩,q⟩,hs i x ys _ ex hp P⟩
  | false =>
   rw[if_neg Bool.false_ne_true]
   exact⟨_,by omega,rfl,hlt,⟨_,rfl⟩,hf i x ys _ ex hp P⟩
 ·have e:i=xs.length:=by omega
  subst e
  exact .inl ⟨⟨xs,q,Nat.le_refl _⟩,hd ys H P⟩
theorem nT{n:Nat}(p:Nat->Bool)(hn:n<=sizeLine)(Pv:Nat->List V->Hp->Prop)(h0:Pv 0 [] H)(hq:∀ i ys H,i<=n->Pv i ys H->ys.length<=i)
  (ht:∀ i ys H,i<n->Pv i ys H->∀ QB:Bool->Hp->Prop,QB (p i) H->tt (some (.int (i:Int))::A5 cap σ) H QB)
  (hs:∀ i ys H,i<n->p i=true->Pv i ys H->te (some (.int (i:Int))::A5 cap σ) H λy H3=>Pv (i+1) (ys++[y]) H3)
  (hf:∀ i ys H,i<n->p i=false->Pv i ys H->Pv (i+1) ys H)
  (hd:∀ ys H,Pv n ys H->∀ q,H q=none->Q (.ref q) (upd H q (.lst ys))):C2 (DF 0 n) (AJ 0) tt te 1 cap σ H Q:=by
 refine⟨λi m σ' ys H=>m=n - i/\i<=n/\(∃ x0,σ'=x0::A5 cap σ)/\Pv i ys H,⟨n,by simp,Nat.zero_le _,⟨none,rfl⟩,h0⟩,?_⟩
 rintro i m σ' ys H ⟨rfl,hi,⟨x0,rfl⟩,P⟩
 have hl:=hq i ys H hi P
 by_cases hlt:i<n
 ·refine .inr ⟨hlt,by omega,λx H' y=> ?_⟩
  obtain⟨e,y⟩:=y
  subst e y
  rw[Int.zero_add]
  refine ht i ys _ hlt P _ ?_
  cases hp:p i with
  | true =>
   rw[if_pos rfl]
   exact⟨_,λy H4 q=>⟨_,by omega,rfl,hlt,⟨_,rfl⟩,q⟩,hs i ys _ hlt hp P⟩
  | false =>
   rw[if_neg Bool.false_ne_true]
   exact⟨_,by omega,rfl,hlt,⟨_,rfl⟩,hf i ys _ hlt hp P⟩
 ·have e:i=n:=by omega
  subst e
  exact .inl ⟨Nat.le_refl _,hd ys H P⟩
theorem VC{b:Addr}{xs:List V}(p:Nat->Bool)(hn:xs.length<=sizeLine)(Pv:Nat->List V->Hp->Prop)(h0:Pv 0 [] H)(hq:∀ i ys H,i<=xs.length->Pv i ys H->SqL K H b xs/\ys.length<=i)
  (hu:∀ i ys H t o,Pv i ys H->H t=none->Pv i ys (upd H t o))
  (ht:∀ i x ys H,xs[i]? =some x->Pv i ys H->∀ QB:Bool->Hp->Prop,QB (p i) H->tt (some (.int (i:Int))::some x::A5 cap σ) H QB)
  (hs:∀ i x ys H,xs[i]? =some x->p i=true->Pv i ys H->te (some (.int (i:Int))::some x::A5 cap σ) H λy H3=>Pv (i+1) (ys++[y]) H3)
  (hf:∀ i x ys H,xs[i]? =some x->p i=false->Pv i ys H->Pv (i+1) ys H)
  (hd:∀ ys H,Pv xs.length ys H->∀ q,H q=none->Q (.ref q) (upd H q (.lst ys))):C2 (HR K b) (EH K 2 (CQ (AJ 0) (CQ (AJ 1) EG))) tt te 2 cap σ H Q:=by
 refine⟨λi m σ' ys H=>m=xs.length - i/\i<=xs.length/\(∃ x0 x1,σ'=x0::x1::A5 cap σ)/\Pv i ys H,⟨xs.length,by simp,Nat.zero_le _,⟨none,none,rfl⟩,h0⟩,?_⟩
 rintro i m σ' ys H ⟨rfl,hi,⟨x0,x1,rfl⟩,P⟩
 obtain⟨q,hl⟩:=hq i ys H hi P
 by_cases hlt:i<xs.length
 ·refine .inr ⟨⟨xs,xs[i],q,by simp[hlt]⟩,by omega,λv H' ⟨t,ht0,e,x,e',q1⟩=> ?_⟩
  subst e e'
  have ex:=q1 xs q
  refine⟨t,[.int (i:Int),x],rfl,SqT.of AU,rfl,?_⟩
  have P':=hu i ys H t (.tup [.int (i:Int),x]) P ht0
  refine⟨_,_,rfl,⟨_,_,rfl,⟨rfl,?_⟩⟩⟩
  refine ht i x ys _ ex P' _ ?_
  cases hp:p i with
  | true =>
   rw[if_pos rfl]
   exact⟨_,λy H4 q=>⟨_,by omega,rfl,hlt,⟨_,_,rfl⟩,q⟩,hs i x ys _ ex hp P'⟩
  | false =>
   rw[if_neg Bool.false_ne_true]
   exact⟨_,by omega,rfl,hlt,⟨_,_,rfl⟩,hf i x ys _ ex hp P'⟩
 ·have e:i=xs.length:=by omega
  subst e
  exact .inl ⟨⟨xs,q,Nat.le_refl _⟩,hd ys H P⟩
end
end L2
namespace L2
abbrev Ad:=String->Addr
def SameBut(F:Addr->Prop)(H H':Hp):Prop:=∀ b o,H b=some o->¬ F b->H' b=some o
structure EU(K:W.Frag)(a:Ad):Prop where
 cl:Cls K (a "Plank")
 nC:NoAttr K (a "Plank") "contents"
 nW:NoAttr K (a "Plank") "width"
 nN:NoAttr K (a "Plank") "written"
def pf(cl:Addr)(w n:Int):List (Str × V):=[("contents",.ref cl),("width",.int w),("written",.int n)]
theorem VD:¬ ("contents":Str)="width":=by decide +kernel
theorem PP:¬ ("contents":Str)="written":=by decide +kernel
theorem PQ:¬ ("width":Str)="written":=by decide +kernel
theorem PU(cl:Addr)(w n:Int):(pf cl w n).lookup ("contents":Str)=some (V.ref cl):=by simp[pf]
theorem nU(cl:Addr)(w n:Int):(pf cl w n).lookup ("width":Str)=some (V.int w):=by
 have h:(("width":Str) == "contents")=false:=beq_eq_false_iff_ne.mpr (Ne.symm VD)
 simp[pf,List.lookup_cons,h]
theorem VE(cl:Addr)(w n:Int):(pf cl w n).lookup ("written":Str)=some (V.int n):=by
 have h:(("written":Str) == "contents")=false:=beq_eq_false_iff_ne.mpr (Ne.symm PP)
 have h2:(("written":Str) == "width")=false:=beq_eq_false_iff_ne.mpr (Ne.symm PQ)
 simp[pf,List.lookup_cons,h,h2]
theorem nX(cl:Addr)(w n:Int):BM "written" (.int n) (BM "width" (.int w) (BM "contents" (.ref cl) []))=pf cl w n:=by
 simp only[BM,pf]
 rw[if_neg VD]
 simp only[BM]
 rw[if_neg PP,if_neg PQ]
theorem nY(cl:Addr)(w n m:Int):BM "written" (.int m) (pf cl w n)=pf cl w m:=by
 simp only[BM,pf]
 rw[if_neg PP,if_neg PQ]
 simp
theorem NU(cl:Addr)(w n:Int){m:Str}(h1:¬ m="contents")(h2:¬ m="width")(h3:¬ m="written"):(pf cl w n).lookup m=none:=by
 have e1:=beq_eq_false_iff_ne.mpr h1
 have e2:=beq_eq_false_iff_ne.mpr h2
 have e3:=beq_eq_false_iff_ne.mpr h3
 simp[pf,List.lookup_cons,e1,e2,e3]
structure PlankAt(a:Ad)(H:Hp)(p cl:Addr)(w:Nat)(rows:List (List V))(n:Nat):Prop where
 ob:∃ dx,H p=some (.ins (a "Plank") dx (pf cl w n))
 ls:∃ ts:List Addr,H cl=some (.lst (ts.map V.ref))/\Paired (λt r=>H t=some (.tup r)) ts rows
 wd:∀ r∈rows,r.length=w
 sz:rows.length<=1000
 sw:w<=1000
theorem PlankAt.ne{a:Ad}{H:Hp}{p cl:Addr}{w:Nat}{rows:List (List V)}{n:Nat}(P:PlankAt a H p cl w rows n):p≠cl:=by
 obtain⟨⟨dx,h1⟩,⟨ts,h2,_⟩,_⟩:=P
 exact DA h1 h2 (by intro z;cases z)
theorem PlankAt.keep{a:Ad}{H H':Hp}{p cl:Addr}{w:Nat}{rows:List (List V)}{n:Nat}(P:PlankAt a H p cl w rows n)(h1:H' p=H p)(h2:H' cl=H cl)(h3:∀ b xs,H b=some (.tup xs)->H' b=some (.tup xs)):PlankAt a H' p cl w rows n:=by
 obtain⟨⟨dx,e1⟩,⟨ts,e2,e3⟩,r1,r2,r3⟩:=P
 exact⟨⟨dx,h1.trans e1⟩,⟨ts,h2.trans e2,Paired.mapP e3 λt r q=>h3 t r q⟩,r1,r2,r3⟩
theorem PlankAt.same{a:Ad}{H H':Hp}{p cl:Addr}{w:Nat}{rows:List (List V)}{n:Nat}(P:PlankAt a H p cl w rows n)(s:Same H H'):PlankAt a H' p cl w rows n:=by
 obtain⟨⟨dx,e1⟩,⟨ts,e2,e3⟩,r1,r2,r3⟩:=P
 exact⟨⟨dx,s _ _ e1⟩,⟨ts,s _ _ e2,Paired.mapP e3 λt r q=>s _ _ q⟩,r1,r2,r3⟩
def LQ(K:W.Frag)(a:Ad):Sp:=λvs H Q _=>∃ (p dx:Addr) (m w:Nat),vs=[.ref p,.int m,.int w]/\EU K a/\H p=some (.ins (a "Plank") dx [])/\m<=1000/\1<=w/\w<=1000 ∧
 ∀ cl H',H cl=none->PlankAt a H' p cl w (List.replicate m (List.replicate w .non)) 0->SameBut (· =p) H H'->Q .non H'
def LR(K:W.Frag)(a:Ad):Sp:=λvs H Q _=>∃ (p cl:Addr) (w:Nat) (rows:List (List V)) (n:Nat),vs=[.ref p]/\EU K a/\PlankAt a H p cl w rows n/\Q (.int n) H
def GF(K:W.Frag)(a:Ad):Sp:=λvs H Q E=>∃ (p cl:Addr) (w:Nat) (rows:List (List V)) (n:Nat) (b:Int),vs=[.ref p,.int b]/\EU K a/\PlankAt a H p cl w rows n ∧
 (0<=b->b<rows.length->Q .non H)/\(b<0\/rows.length<=b->E (.ref (a "NoBlock")) none H)
def HU(K:W.Frag)(a:Ad):Sp:=λvs H Q E=>∃ (p cl:Addr) (w:Nat) (rows:List (List V)) (n:Nat) (b:Int),vs=[.ref p,.int b]/\EU K a/\PlankAt a H p cl w rows n ∧
 (∀ (i:Nat) row,b=i->rows[i]? =some row->∀ l,H l=none->Q (.ref l) (upd H l (.lst row)))/\(b<0\/rows.length<=b->E (.ref (a "NoBlock")) none H)
def LS(K:W.Frag)(a:Ad):Sp:=λvs H Q E=>∃ (p cl:Addr) (w:Nat) (rows:List (List V)) (n:Nat) (b:Int) (v:Addr) (xs:List V),vs=[.ref p,.int b,.ref v]/\EU K a/\PlankAt a H p cl w rows n/\SqL K H v xs/\xs.length<=2000 ∧
 (∀ (i:Nat),b=i->i<rows.length->xs.length=w->∀ H',PlankAt a H' p cl w (rows.set i xs) (n+1)->SameBut (λx=>x=p\/x=cl) H H'->Q .non H') ∧
 (b<0\/rows.length<=b\/xs.length≠w->E (.ref (a "NoBlock")) none H)
end L2
namespace L2
theorem CU{K:W.Frag}{H:Hp}{p:Addr}{xs:List V}{i:Int}{n:Nat}{v:V}{Q:VK}(h:H p=some (.tup xs))(hi:i=n)(hx:xs[n]? =some v)(q:Q v H):AL K (.ref p) (.int i) H Q :=
 .inr (.inl ⟨p,xs,i,v,rfl,rfl,SqT.of h,by rw[hi];exact OT hx,q⟩)
theorem VF{K:W.Frag}{H:Hp}{p:Addr}{xs:List V}{lo hi:Option Int}{Q:VK}(h:SqL K H p xs)(q:∀ r,H r=none->Q (.ref r) (upd H r (.lst (DI xs lo hi)))):HM K (.ref p) lo hi H Q:=.inl ⟨p,xs,rfl,h,q⟩
theorem SameBut.refl{F:Addr->Prop}(H:Hp):SameBut F H H:=λ_ _ e _=>e
theorem SameBut.trans{F:Addr->Prop}{H H' H2:Hp}(s:SameBut F H H')(t:SameBut F H' H2):SameBut F H H2:=λb o e n=>t _ _ (s _ _ e n) n
theorem SameBut.wide{F G:Addr->Prop}{H H':Hp}(s:SameBut F H H')(i:∀ x,F x->G x):SameBut G H H':=λb o e n=>s _ _ e λz=>n (i _ z)
theorem Same.sb{F:Addr->Prop}{H H':Hp}(s:Same H H'):SameBut F H H':=λb o e _=>s b o e
theorem SqL.on{K:W.Frag}{H H':Hp}{x:Addr}{xs:List V}(h:SqL K H x xs)(k:∀ o,H x=some o->H' x=some o):SqL K H' x xs:=by
 rcases h with(h | ⟨o,h⟩) | h
 ·exact .inl (.inl (k _ h))
 ·exact .inl (.inr ⟨o,k _ h⟩)
 ·exact .inr h
theorem SqL.sb{K:W.Frag}{F:Addr->Prop}{H H':Hp}{x:Addr}{xs:List V}(h:SqL K H x xs)(s:SameBut F H H')(f:∀ o,H x=some o->¬ F x):SqL K H' x xs:=by
 rcases h with(h | ⟨o,h⟩) | h
 ·exact .inl (.inl (s _ _ h (f _ h)))
 ·exact .inl (.inr ⟨o,s _ _ h (f _ h)⟩)
 ·exact .inr h
theorem SameBut.upd{F:Addr->Prop}{H H':Hp}{p:Addr}{o:HO}(s:SameBut F H H')(h:F p\/H p=none):SameBut F H (upd H' p o):=λb u e n=>by
 have:b≠p:=by
  rcases h with h | h
  ·exact λz=>n (z ▸ h)
  ·exact BG e h
 rw[AS this];exact s _ _ e n
structure Ch where
 blk:Nat
 cell:Nat
 val:V
 nd:List Int
def VG:List Ch->Int->Int->Option Nat
 | [],_,_=>none
 | c::r,i,j=>if(c.blk:Int)=i/\(c.cell:Int)=j then some r.length else VG r i j
def VH(cs:List Ch)(i j:Int):Option Nat:=VG cs.reverse i j
def PX:List Ch->Nat->List Nat
 | [],_=>[]
 | c::r,b=>if c.blk=b then PX r b++[r.length]else PX r b
def nZ(cs:List Ch)(b:Nat):List Nat:=PX cs.reverse b
def n0(pl:Addr)(v:V)(nt:Addr):List (Str × V):=[("place",.ref pl),("value",v),("needs",.ref nt)]
def bf(gp m mi lt ou:Addr):List (Str × V):=[("ground",.ref gp),("made",.ref m),("made_in",.ref mi),("latest",.ref lt),("outs",.ref ou)]
def D3(a b:Str):Bool:=a == b
section
variable{pl nt gp m mi lt ou:Addr}{v:V}
theorem A9{a b:Str}(h:D3 a b=false):(a == b)=false:=h
theorem B9{f g:Str}{x y:V}{r:List (Str × V)}(h:D3 g f=false):BM f y ((g,x)::r)=(g,x)::BM f y r:=by
 have:¬ g=f:=λe=>by rw[e]at h;simp[D3]at h
 simp[BM,this]
theorem VJ{f:Str}{y:V}:BM f y []=[(f,y)]:=rfl
end
structure Hl(K:W.Frag)(C D:Addr):Prop where
 cl:Cls K C
 nG:NoAttr K C "ground"
 nM:NoAttr K C "made"
 nI:NoAttr K C "made_in"
 nL:NoAttr K C "latest"
 nO:NoAttr K C "outs"
 cc:Cls K D
 nP:NoAttr K D "place"
 nV:NoAttr K D "value"
 nN:NoAttr K D "needs"
def ChAt(D:Addr)(H:Hp)(x:Addr)(c:Ch):Prop:=∃ dx pl nt,H x=some (.ins D dx (n0 pl c.val nt))/\H pl=some (.tup [.int c.blk,.int c.cell])/\H nt=some (.tup (c.nd.map V.int))
structure BA where
 b:Addr
 gp:Addr
 m:Addr
 mi:Addr
 lt:Addr
 ou:Addr
 ls:List Addr
 cl:Addr
def BA.F(A:BA)(x:Addr):Prop:=x=A.m\/x=A.mi\/x∈A.ls\/x=A.lt\/x=A.ou\/x=A.cl
def KeysOk(kvo:List (A0 × V))(n:Nat):Prop:=(kvo.map (·.1)).Nodup/\∀ p∈kvo,∃ x:Nat,p.1=Sum.inl (x:Int)/\x<n
theorem KeysOk.mono{kvo:List (A0 × V)}{n m:Nat}(h:KeysOk kvo n)(hm:n<=m):KeysOk kvo m:=⟨h.1,λp hp=>by obtain⟨x,e,hx⟩:=h.2 p hp;exact⟨x,e,by omega⟩⟩
theorem KeysOk.len{kvo:List (A0 × V)}{n:Nat}(h:KeysOk kvo n):kvo.length<=n:=by
 have:=List.Nodup.length_le_of_subset (l₂:=(List.range n).map λ(k:Nat)=>(Sum.inl (k:Int):A0)) h.1 λk hk=>by
  obtain⟨p,hp,rfl⟩:=List.mem_map.mp hk
  obtain⟨x,e,hx⟩:=h.2 p hp
  rw[e]
  exact List.mem_map.mpr ⟨x,List.mem_range.mpr hx,rfl⟩
 simpa using this
theorem KeysOk.put{kvo:List (A0 × V)}{n:Nat}(h:KeysOk kvo n){k:Nat}(hk:k<n)(hn:B7 kvo (.inl (k:Int))=none)(v:V):KeysOk (C7 kvo (.inl (k:Int)) v) n:=by
 refine⟨g9 v h.1 hn,λp hp=> ?_⟩
 rw[T2 v hn]at hp
 rcases List.mem_append.mp hp with hp | hp
 ·exact h.2 p hp
 ·rw[List.mem_singleton.mp hp];exact⟨k,rfl,hk⟩
structure BookIn(C D:Addr)(H:Hp)(A:BA)(w:Nat)(cs:List Ch)(outs:Int->Bool):Prop where
 ob:∃ dx,H A.b=some (.ins C dx (bf A.gp A.m A.mi A.lt A.ou))
 made:∃ chs:List Addr,H A.m=some (.lst (chs.map V.ref))/\Paired (ChAt D H) chs cs
 mil:H A.mi=some (.lst (A.ls.map V.ref))
 mic:∀ (i:Nat) l,A.ls[i]? =some l->H l=some (.lst ((nZ cs i).map λ(k:Nat)=>V.int k))
 nd:A.ls.Nodup
 lat:∃ kvs,H A.lt=some (.dT kvs)/\(∀ i j:Int,B7 kvs [.inl i,.inl j]=(VH cs i j).map λ(k:Nat)=>V.int k)/\kvs.length<=cs.length
 out:∃ kvo,H A.ou=some (.dK kvo)/\(∀ k:Int,(B7 kvo (.inl k)).isSome=outs k)/\KeysOk kvo cs.length
 sz:cs.length<=990
 inn:∀ c∈cs,c.blk<A.ls.length/\c.cell<w
 need:∀ (k:Nat) c,cs[k]? =some c->(∀ x∈c.nd,0<=x/\x<k)/\c.nd.Pairwise (· <·)/\c.nd.length<=100
 ap:A.m≠A.mi/\A.m∉A.ls/\A.mi∉A.ls/\A.cl≠A.m/\A.cl≠A.mi/\A.cl∉A.ls
 chn:∀ (k:Nat) c,cs[k]? =some c->∀ j,VH (cs.take k) c.blk c.cell=some j->(j:Int)∈c.nd
structure BookAt(a:Ad)(C:Addr)(H:Hp)(A:BA)(w:Nat)(rows:List (List V))(n:Nat)(cs:List Ch)(outs:Int->Bool):Prop where
 bk:BookIn C (a "Change") H A w cs outs
 pk:PlankAt a H A.gp A.cl w rows n
 nb:A.ls.length=rows.length
def G1(o:Option HO):Prop:=(∀ xs,o≠some (.tup xs))/\∀ C dx fs,o≠some (.ins C dx fs)
theorem ChAt.sb{D:Addr}{G:Addr->Prop}{H H':Hp}(s:SameBut G H H')(g:∀ x,G x->G1 (H x)){x:Addr}{c:Ch}(h:ChAt D H x c):ChAt D H' x c:=by
 obtain⟨dx,pl,nt,e1,e2,e3⟩:=h
 exact⟨dx,pl,nt,s _ _ e1 λz=>(g _ z).2 _ _ _ e1,s _ _ e2 λz=>(g _ z).1 _ e2,s _ _ e3 λz=>(g _ z).1 _ e3⟩
theorem BookIn.sb{C D:Addr}{G:Addr->Prop}{H H':Hp}{A:BA}{w:Nat}{cs:List Ch}{outs:Int->Bool}(B:BookIn C D H A w cs outs)(s:SameBut G H H')(g:∀ x,G x->G1 (H x))(f:∀ x,G x->¬ A.F x):BookIn C D H' A w cs outs:=by
 obtain⟨⟨dx,e1⟩,⟨chs,e2,e3⟩,e4,e5,e6,⟨kvs,e7,e8⟩,⟨kvo,e9,e10⟩,r1,r2,r3,r4,r5⟩:=B
 refine⟨⟨dx,s _ _ e1 λz=>(g _ z).2 _ _ _ e1⟩,⟨chs,s _ _ e2 λz=>f _ z (.inl rfl),Paired.mapP e3 λx c h=>h.sb s g⟩,s _ _ e4 λz=>f _ z (.inr (.inl rfl)),λi l h=>s _ _ (e5 i l h) λz=>f _ z (.inr (.inr (.inl (List.mem_of_getElem? h)))),e6,
  ⟨kvs,s _ _ e7 λz=>f _ z (.inr (.inr (.inr (.inl rfl)))),e8⟩,⟨kvo,s _ _ e9 λz=>f _ z (.inr (.inr (.inr (.inr (.inl rfl))))),e10⟩,r1,r2,r3,r4,r5⟩
theorem PlankAt.sbL{a:Ad}{G:Addr->Prop}{H H':Hp}{p cl:Addr}{w:Nat}{rows:List (List V)}{n:Nat}(P:PlankAt a H p cl w rows n)(s:SameBut G H H')(g:∀ x,G x->G1 (H x))(h:¬ G cl):PlankAt a H' p cl w rows n:=by
 obtain⟨⟨dx,e1⟩,⟨ts,e2,e3⟩,r1,r2,r3⟩:=P
 exact⟨⟨dx,s _ _ e1 λz=>(g _ z).2 _ _ _ e1⟩,⟨ts,s _ _ e2 h,Paired.mapP e3 λt r q=>s _ _ q λz=>(g _ z).1 _ q⟩,r1,r2,r3⟩
theorem BookAt.sb{a:Ad}{C:Addr}{G:Addr->Prop}{H H':Hp}{A:BA}{w:Nat}{rows:List (List V)}{n:Nat}{cs:List Ch}{outs:Int->Bool}(B:BookAt a C H A w rows n cs outs)(s:SameBut G H H')(g:∀ x,G x->G1 (H x))(f:∀ x,G x->¬ A.F x):BookAt a C H' A w rows n cs outs :=
 ⟨B.bk.sb s g f,B.pk.sbL s g λz=>f _ z (.inr (.inr (.inr (.inr (.inr rfl))))),B.nb⟩
theorem BookAt.same{a:Ad}{C:Addr}{H H':Hp}{A:BA}{w:Nat}{rows:List (List V)}{n:Nat}{cs:List Ch}{outs:Int->Bool}(B:BookAt a C H A w rows n cs outs)(s:Same H H'):BookAt a C H' A w rows n cs outs :=
 B.sb (G:=λ_=>False) (Same.sb s) (λ_ z=>z.elim) λ_ z=>z.elim
theorem BookAt.off{a:Ad}{C:Addr}{H:Hp}{A:BA}{w:Nat}{rows:List (List V)}{n:Nat}{cs:List Ch}{outs:Int->Bool}(B:BookAt a C H A w rows n cs outs){x:Addr}(h:H x=none):¬ A.F x:=by
 obtain⟨⟨_,⟨chs,e2,_⟩,e4,e5,_,⟨kvs,e7,_⟩,⟨kvo,e9,_⟩,_⟩,⟨_,⟨ts,e11,_⟩,_⟩,_⟩:=B
 rintro (z | z | z | z | z | z)
 ·rw[z,e2]at h;cases h
 ·rw[z,e4]at h;cases h
 ·obtain⟨i,hi,e⟩:=List.getElem_of_mem z
  have:=e5 i x (by rw[<-e];exact List.getElem?_eq_getElem hi)
  rw[this]at h;cases h
 ·rw[z,e7]at h;cases h
 ·rw[z,e9]at h;cases h
 ·rw[z,e11]at h;cases h
theorem JI{α :Type}{l:List α}{x: α}(h:x∈l):∃ i:Nat,l[i]? =some x:=by
 obtain⟨i,hi,e⟩:=List.getElem_of_mem h
 exact⟨i,by rw[<-e];exact List.getElem?_eq_getElem hi⟩
theorem NV{H:Hp}{x:Addr}{xs:List V}(h:H x=some (.lst xs)):G1 (H x):=by
 rw[h];exact⟨λ_ z=>(by cases z),λ_ _ _ z=>(by cases z)⟩
theorem oA{H:Hp}{x:Addr}{xs:List (A0 × V)}(h:H x=some (.dK xs)):G1 (H x):=by
 rw[h];exact⟨λ_ z=>(by cases z),λ_ _ _ z=>(by cases z)⟩
theorem oB{H:Hp}{x:Addr}{xs:List (List A0 × V)}(h:H x=some (.dT xs)):G1 (H x):=by
 rw[h];exact⟨λ_ z=>(by cases z),λ_ _ _ z=>(by cases z)⟩
theorem BookAt.loose{a:Ad}{C:Addr}{H:Hp}{A:BA}{w:Nat}{rows:List (List V)}{n:Nat}{cs:List Ch}{outs:Int->Bool}(B:BookAt a C H A w rows n cs outs){x:Addr}(h:A.F x):G1 (H x):=by
 obtain⟨⟨_,⟨chs,e2,_⟩,e4,e5,_,⟨kvs,e7,_⟩,⟨kvo,e9,_⟩,_⟩,⟨_,⟨ts,e11,_⟩,_⟩,_⟩:=B
 rcases h with z | z | z | z | z | z
 ·exact NV (z ▸ e2)
 ·exact NV (z ▸ e4)
 ·obtain⟨i,e⟩:=JI z
  exact NV (e5 i x e)
 ·exact oB (z ▸ e7)
 ·exact oA (z ▸ e9)
 ·exact NV (z ▸ e11)
structure Hm(cs:List Ch)(outs:Int->Bool)(ns:List Int)(R:Int->Bool):Prop where
 all:∀ x∈ns,R x=true
 up:∀ (k:Nat) (c:Ch),cs[k]? =some c->outs k=false->R k=true->∀ y∈c.nd,R y=true
 only:∀ x,R x=true->x∈ns\/∃ (k:Nat) (c:Ch),cs[k]? =some c/\outs k=false/\R k=true/\x∈c.nd
end L2
namespace L2
structure DV(K:W.Frag)(a:Ad):Prop where
 cl:Cls K (a "Layout")
 n1:NoAttr K (a "Layout") "name_blocks"
 n2:NoAttr K (a "Layout") "record_blocks"
 n3:NoAttr K (a "Layout") "piece_blocks"
 n4:NoAttr K (a "Layout") "width"
section
variable{n r c w:Int}
def lf(n r c w:Int):List (Str × V):=[("name_blocks",.int n),("record_blocks",.int r),("piece_blocks",.int c),("width",.int w)]
theorem NW:(lf n r c w).lookup ("name_blocks":Str)=some (V.int n):=by simp[lf]
theorem LT:(lf n r c w).lookup ("record_blocks":Str)=some (V.int r):=by
 simp[lf,List.lookup_cons,A9 (a:="record_blocks") (b:="name_blocks") (by decide +kernel)]
theorem PY:(lf n r c w).lookup ("piece_blocks":Str)=some (V.int c):=by
 simp[lf,List.lookup_cons,A9 (a:="piece_blocks") (b:="name_blocks") (by decide +kernel),A9 (a:="piece_blocks") (b:="record_blocks") (by decide +kernel)]
theorem JJ:(lf n r c w).lookup ("width":Str)=some (V.int w):=by
 simp[lf,List.lookup_cons,A9 (a:="width") (b:="name_blocks") (by decide +kernel),A9 (a:="width") (b:="record_blocks") (by decide +kernel),A9 (a:="width") (b:="piece_blocks") (by decide +kernel)]
theorem DW{x:Str}(h:(D3 x "name_blocks" || D3 x "record_blocks" || D3 x "piece_blocks" || D3 x "width")=false):(lf n r c w).lookup x=none:=by
 simp only[Bool.or_eq_false_iff]at h
 obtain⟨⟨⟨h1,h2⟩,h3⟩,h4⟩:=h
 simp[lf,List.lookup_cons,A9 h1,A9 h2,A9 h3,A9 h4]
theorem oC:BM "width" (.int w) (BM "piece_blocks" (.int c) (BM "record_blocks" (.int r) (BM "name_blocks" (.int n) [])))=lf n r c w:=by
 repeat (first | rw[VJ] | rw[B9 (by decide +kernel)])
 rfl
end
structure LayAt(a:Ad)(H:Hp)(p:Addr)(n r c w:Nat):Prop where
 ob:∃ dx,H p=some (.ins (a "Layout") dx (lf n r c w))
 hn:n<=100
 hr:r<=100
 hc:c<=100
 h1:1<=w
 hw:w<=100
theorem LayAt.same{a:Ad}{H H':Hp}{p:Addr}{n r c w:Nat}(L:LayAt a H p n r c w)(s:Same H H'):LayAt a H' p n r c w:=by
 obtain⟨⟨dx,e⟩,z1,z2,z3,z4,z5⟩:=L
 exact⟨⟨dx,s _ _ e⟩,z1,z2,z3,z4,z5⟩
theorem LayAt.sb{a:Ad}{F:Addr->Prop}{H H':Hp}{p:Addr}{n r c w:Nat}(L:LayAt a H p n r c w)(s:SameBut F H H')(f:¬ F p):LayAt a H' p n r c w:=by
 obtain⟨⟨dx,e⟩,z1,z2,z3,z4,z5⟩:=L
 exact⟨⟨dx,s _ _ e f⟩,z1,z2,z3,z4,z5⟩
def JK(K:W.Frag)(a:Ad):Sp:=λvs H Q _=>∃ (p dx:Addr) (n r c w:Nat),vs=[.ref p,.int n,.int r,.int c,.int w]/\DV K a/\H p=some (.ins (a "Layout") dx [])/\n<=100/\r<=100/\c<=100/\1<=w/\w<=100 ∧
 ∀ H',LayAt a H' p n r c w->SameBut (· =p) H H'->Q .non H'
def G2(x y:Int)(Q:VK)(H:Hp):Prop:=∀ t,H t=none->Q (.ref t) (upd H t (.tup [.int x,.int y]))
def EJ(K:W.Frag)(a:Ad):Sp:=λvs H Q _=>∃ (p:Addr) (n r c w k:Nat) (b:Int),vs=[.ref p,.int b,.int k]/\DV K a/\LayAt a H p n r c w/\G2 (b+k / w) (k % w) Q H
def LU(K:W.Frag)(a:Ad):Sp:=λvs H Q _=>∃ (p:Addr) (n r c w k:Nat),vs=[.ref p,.int k]/\DV K a/\LayAt a H p n r c w/\G2 (0+k / w) (k % w) Q H
def LW(K:W.Frag)(a:Ad):Sp:=λvs H Q _=>∃ (p:Addr) (n r c w k:Nat),vs=[.ref p,.int k]/\DV K a/\LayAt a H p n r c w/\G2 (n+k / w) (k % w) Q H
def LX(K:W.Frag)(a:Ad):Sp:=λvs H Q _=>∃ (p:Addr) (n r c w k:Nat),vs=[.ref p,.int k]/\DV K a/\LayAt a H p n r c w/\G2 (n+r+k / w) (k % w) Q H
def LY(K:W.Frag)(a:Ad):Sp:=λvs H Q _=>∃ (p:Addr) (n r c w k:Nat),vs=[.ref p,.int k]/\DV K a/\LayAt a H p n r c w/\G2 (n+r+c+k / w) (k % w) Q H
def LZ(K:W.Frag)(a:Ad):Sp:=λvs H Q _=>∃ (p:Addr) (n r c w k:Nat),vs=[.ref p,.int k]/\DV K a/\LayAt a H p n r c w/\G2 (n+r+c+r+k / w) (k % w) Q H
def GG(K:W.Frag)(a:Ad):Sp:=λvs H Q _=>∃ (p:Addr) (n r c w:Nat),vs=[.ref p]/\DV K a/\LayAt a H p n r c w/\Q (.int (n+r+c)) H
def L4(K:W.Frag)(a:Ad):Sp:=λvs H Q _=>∃ (p:Addr) (n r c w:Nat),vs=[.ref p]/\DV K a/\LayAt a H p n r c w/\Q (.int (n+r+c+r+c)) H
def L6(K:W.Frag)(a:Ad):Sp:=λvs H Q _=>∃ (p:Addr) (n r c w:Nat),vs=[.ref p]/\DV K a/\LayAt a H p n r c w/\∀ t,H t=none->Q (.ref t) (upd H t (.tup [.int (n * w),.int (r * w),.int (c * w)]))
def L7(K:W.Frag)(a:Ad):Sp:=λvs H Q _=>∃ (p:Addr) (n r c w:Nat),vs=[.ref p]/\DV K a/\EU K a/\LayAt a H p n r c w ∧
 ∀ x cl H',H x=none->H cl=none->PlankAt a H' x cl w (List.replicate (n+r+c+r+c) (List.replicate w .non)) 0->Same H H'->Q (.ref x) H'
end L2
namespace L2
def JL(ns:List Int)(k:Nat):Int:=ns.getD k 0
def G3(K:W.Frag)(a:Ad):Sp:=λvs H Q _=>∃ (s:Addr) (ns:List Int) (k:Nat),vs=[.ref s,.int k]/\SqL K H s (ns.map V.int)/\ns.length<=1000/\Q (.int (JL ns k)) H
theorem VL{K:W.Frag}{a:Ad}{s:Addr}{k:Int}{H:Hp}{Q:VK}{E:XK}:G3 K a [.ref s,.int k] H Q E=∃ (ns:List Int) (n:Nat),k=n/\SqL K H s (ns.map V.int)/\ns.length<=1000/\Q (.int (JL ns n)) H:=by simp[G3,and_assoc]
def GoodV:Nat->Hp->V->Prop
 | 0,_,_=>False
 | _+1,_,.int _=>True
 | _+1,_,.non=>True
 | _+1,_,.str z=>PyData.strOk z=true
 | n+1,H,.ref p=>∃ xs,H p=some (.tup xs)/\xs.length<=100/\∀ v∈xs,GoodV n H v
 | _,_,_=>False
def good7(H:Hp)(rows:List (List V)):Prop:=∀ r∈rows,∀ v∈r,GoodV 7 H v
def AW(l:List Nat):List V:=l.map λ(k:Nat)=>V.int k
abbrev G4:=Option (Str × Nat)
abbrev EV:=Option (Int × List Nat)
structure Vw where
 nm:List G4
 rc:List EV
 pc:List (Option Str)
 rm:List (Option Int)
 pm:List (Option Int)
def AT{α :Type}(l:List (Option α))(k:Nat):Option α :=(l[k]?).join
def FN:EV->List Nat
 | none=>[]
 | some (_,ps)=>ps
def DD(nm:List G4):List Nat:=nm.filterMap λc=>c.map (·.2)
def CV(rc:List EV):List Nat:=rc.flatMap FN
def led(vw:Vw)(r:Nat):Nat:=(DD vw.nm).count r
def named(vw:Vw)(p:Nat):Nat:=(CV vw.rc).count p
def GH(vw:Vw):List EV:=((List.range vw.rc.length).filter λr=>decide (0<led vw r)).map (AT vw.rc)
def GI(vw:Vw)(p:Nat):Nat:=(CV (GH vw)).count p
def B5(n:Nat)(p:Nat->Bool)(f:Nat->List V):List (List V):=((List.range n).filter p).map f
def DX(vw:Vw)(k:Nat):Bool:=match AT vw.nm k with
 | none=>false
 | some c=>(AT vw.rc c.2).isNone
def C3(vw:Vw)(k:Nat):Bool:=match AT vw.nm k with
 | none=>false
 | some c=>(List.range k).any λj=>match AT vw.nm j with
  | none=>false
  | some d=>decide (d.1=c.1)
def EW(vw:Vw)(r:Nat):Bool:=match AT vw.rc r with
 | none=>false
 | some c=>decide (c.1<(led vw r:Int))
def EB(vw:Vw)(r:Nat):Bool:=match AT vw.rc r with
 | none=>false
 | some c=>decide (0<led vw r) && decide ((led vw r:Int)<c.1)
def JM(vw:Vw):List (List V):=B5 vw.nm.length (DX vw) (λk=>[.str "lost",.int k])++B5 vw.nm.length (C3 vw) (λk=>[.str "twice",.int k])
def JN(vw:Vw):List (List V):=B5 vw.pc.length (λp=>decide (1<named vw p)) (λp=>[.str "shared",.int p])++B5 vw.pc.length (λp=>decide (0<named vw p) && (AT vw.pc p).isNone) (λp=>[.str "empty",.int p])++B5 vw.rc.length (EW vw) (λr=>[.str "few",.int r])
def JO(vw:Vw):List (List V):=B5 vw.rc.length (λr=>decide (0<led vw r) && !decide (AT vw.rm r=some 1)) (λr=>[.str "free",.str "record",.int r])++B5 vw.pc.length (λp=>decide (0<named vw p) && !decide (AT vw.pm p=some 1)) (λp=>[.str "free",.str "piece",.int p])
def faults(vw:Vw):List (List V):=JM vw++JN vw++JO vw
def E8(vw:Vw):List (List V):=B5 vw.rc.length (EB vw) (λr=>[.str "many",.int r,.int (led vw r)])++B5 vw.rc.length (λr=>(AT vw.rc r).isSome && decide (led vw r=0)) (λr=>[.str "left",.str "record",.int r])
def JP(vw:Vw):List (List V):=B5 vw.pc.length (λp=>decide (AT vw.pm p=some 1) && decide (GI vw p=0)) (λp=>[.str "left",.str "piece",.int p])
def JQ(vw:Vw):List (List V):=B5 vw.rc.length (λr=>decide (AT vw.rm r=some 1) && (AT vw.rc r).isNone) (λr=>[.str "marked",.int r])
def G5(vw:Vw):List (List V):=E8 vw++JP vw++JQ vw
structure L8(vw:Vw):Prop where
 n1:∀ c,some c∈vw.nm->c.2<vw.rc.length/\PyData.strOk c.1=true
 n2:∀ c,some c∈vw.rc->(∀ p∈c.2,p<vw.pc.length)/\c.2.length<=10
 n3:∀ s,some s∈vw.pc->PyData.strOk s=true
 l1:vw.rm.length=vw.rc.length
 l2:vw.pm.length=vw.pc.length
 bn:vw.nm.length<=100
 br:vw.rc.length<=100
 bp:vw.pc.length<=100
def NmV(H:Hp)(v:V):G4->Prop
 | none=>v=.non
 | some c=>∃ p,v=.ref p/\H p=some (.tup [.str c.1,.int c.2])
def RcV(H:Hp)(v:V):EV->Prop
 | none=>v=.non
 | some c=>∃ p q,v=.ref p/\H p=some (.tup [.int c.1,.ref q])/\H q=some (.tup (AW c.2))
def PcV(_:Hp)(v:V):Option Str->Prop
 | none=>v=.non
 | some s=>v=.str s
def MkV(_:Hp)(v:V):Option Int->Prop
 | none=>v=.non
 | some i=>v=.int i
def LstAt{α :Type}(R:Hp->V-> α ->Prop)(H:Hp)(p:Addr)(cs:List α):Prop:=∃ vs,H p=some (.lst vs)/\Paired (R H) vs cs
def FindsL(H:Hp)(l:Addr)(fs:List (List V)):Prop:=∃ ps:List Addr,H l=some (.lst (ps.map V.ref))/\Paired (λp f=>H p=some (.tup f)) ps fs
structure TV(K:W.Frag)(a:Ad):Prop where
 cl:Cls K (a "View")
 n1:NoAttr K (a "View") "name_values"
 n2:NoAttr K (a "View") "record_values"
 n3:NoAttr K (a "View") "piece_values"
 n4:NoAttr K (a "View") "record_marks"
 n5:NoAttr K (a "View") "piece_marks"
 n6:NoAttr K (a "View") "leads"
 n7:NoAttr K (a "View") "namings"
 n8:NoAttr K (a "View") "reached"
def VM(a:Ad)(H:Hp)(x:Addr)(f:Str)(v:V):Prop:=∃ dx fs,H x=some (.ins (a "View") dx fs)/\fs.lookup f=some v
structure VA where
 n:Addr
 r:Addr
 p:Addr
 rm:Addr
 pm:Addr
 ld:Addr
 ng:Addr
 rh:Addr
def vf(A:VA):List (Str × V):=[("name_values",.ref A.n),("record_values",.ref A.r),("piece_values",.ref A.p),("record_marks",.ref A.rm),("piece_marks",.ref A.pm),("leads",.ref A.ld),("namings",.ref A.ng),("reached",.ref A.rh)]
structure ViewAt(a:Ad)(H:Hp)(x:Addr)(A:VA)(vw:Vw):Prop where
 ob:∃ dx,H x=some (.ins (a "View") dx (vf A))
 n:LstAt NmV H A.n vw.nm
 r:LstAt RcV H A.r vw.rc
 p:LstAt PcV H A.p vw.pc
 rm:LstAt MkV H A.rm vw.rm
 pm:LstAt MkV H A.pm vw.pm
 ld:H A.ld=some (.lst (AW ((List.range vw.rc.length).map (led vw))))
 ng:H A.ng=some (.lst (AW ((List.range vw.pc.length).map (named vw))))
 rh:H A.rh=some (.lst (AW ((List.range vw.pc.length).map (GI vw))))
 ok:L8 vw
structure PlV(H:Hp)(rows:List (List V))(n r c w:Nat)(vw:Vw):Prop where
 vs:∃ v1 v2 v3 v4 v5:List V,rows.flatten=v1++v2++v3++v4++v5/\Paired (NmV H) v1 vw.nm/\Paired (RcV H) v2 vw.rc/\Paired (PcV H) v3 vw.pc/\Paired (MkV H) v4 vw.rm/\Paired (MkV H) v5 vw.pm
 ln:vw.nm.length=n * w
 lr:vw.rc.length=r * w
 lp:vw.pc.length=c * w
 ok:L8 vw
def newL(vs:List V)(H:Hp)(Q:VK):Prop:=∀ l H',H l=none->Same H H'->H' l=some (.lst vs)->Q (.ref l) H'
def newF(fs:List (List V))(H:Hp)(Q:VK):Prop:=∀ l H',H l=none->Same H H'->FindsL H' l fs->Q (.ref l) H'
def G6(rows:List (List V))(b j:Nat):V:=(((rows[b]?).bind (·[j]?)).getD .non)
def FO(K:W.Frag)(a:Ad):Sp:=λvs H Q _=>∃ (gp cl pl:Addr) (w:Nat) (rows:List (List V)) (m:Nat) (ts:List Addr) (ps:List (Nat × Nat)),vs=[.ref gp,.ref pl]/\EU K a/\PlankAt a H gp cl w rows m/\H pl=some (.lst (ts.map V.ref))/\Paired (λt (ij:Nat × Nat)=>H t=some (.tup [.int ij.1,.int ij.2])) ts ps/\(∀ ij∈ps,ij.1<rows.length/\ij.2<w)/\ps.length<=1000 ∧
 newL (ps.map λij=>G6 rows ij.1 ij.2) H Q
def HV(K:W.Frag)(a:Ad):Sp:=λvs H Q _=>∃ (many:Nat) (nl:Addr) (ks:List Nat),vs=[.int many,.ref nl]/\H nl=some (.lst (AW ks))/\(∀ k∈ks,k<many)/\many<=1000/\ks.length<=10000/\newL (AW ((List.range many).map λk=>ks.count k)) H Q
def JR(K:W.Frag)(a:Ad):Sp:=λvs H Q _=>∃ (rl:Addr) (cs:List EV),vs=[.ref rl]/\LstAt RcV H rl cs/\cs.length<=100/\(∀ c,some c∈cs->c.2.length<=10)/\newL (AW (CV cs)) H Q
def L9(K:W.Frag)(a:Ad):Sp:=λvs H Q _=>∃ (x ar al:Addr) (vw:Vw),vs=[.ref x]/\TV K a/\VM a H x "record_values" (.ref ar)/\VM a H x "leads" (.ref al)/\LstAt RcV H ar vw.rc/\H al=some (.lst (AW ((List.range vw.rc.length).map (led vw))))/\vw.rc.length<=100/\∀ l H',H l=none->Same H H'->LstAt RcV H' l (GH vw)->Q (.ref l) H'
def HW(K:W.Frag)(a:Ad):Sp:=λvs H Q _=>∃ (x:Addr) (A:VA) (vw:Vw),vs=[.ref x]/\TV K a/\ViewAt a H x A vw/\newL (AW ((List.range vw.rc.length).filter λr=>(AT vw.rc r).isSome)) H Q
def G8(K:W.Frag)(a:Ad):Sp:=λvs H Q _=>∃ (x:Addr) (A:VA) (vw:Vw),vs=[.ref x]/\TV K a/\ViewAt a H x A vw/\newL (AW ((List.range vw.pc.length).filter λp=>decide (0<named vw p))) H Q
def HX(K:W.Frag)(a:Ad):Sp:=λvs H Q _=>∃ (x:Addr) (A:VA) (vw:Vw) (r:Nat) (c:Int × List Nat),vs=[.ref x,.int r]/\TV K a/\ViewAt a H x A vw/\AT vw.rc r=some c/\Q (.int c.1) H
def G9(f:Vw->List (List V))(K:W.Frag)(a:Ad):Sp:=λvs H Q _=>∃ (x:Addr) (A:VA) (vw:Vw),vs=[.ref x]/\TV K a/\ViewAt a H x A vw/\newF (f vw) H Q
def MA(K:W.Frag)(a:Ad):Sp:=G9 JM K a
def MB(K:W.Frag)(a:Ad):Sp:=G9 JN K a
def MC(K:W.Frag)(a:Ad):Sp:=G9 JO K a
def HY(K:W.Frag)(a:Ad):Sp:=G9 faults K a
def MD(K:W.Frag)(a:Ad):Sp:=G9 E8 K a
def ME(K:W.Frag)(a:Ad):Sp:=G9 JP K a
def MF(K:W.Frag)(a:Ad):Sp:=G9 JQ K a
def MG(K:W.Frag)(a:Ad):Sp:=G9 G5 K a
def HA(K:W.Frag)(a:Ad):Sp:=λvs H Q _=>∃ (x dx ly gp cl:Addr) (n r c w:Nat) (rows:List (List V)) (m:Nat) (vw:Vw),vs=[.ref x,.ref ly,.ref gp]/\TV K a/\DV K a/\EU K a/\H x=some (.ins (a "View") dx [])/\LayAt a H ly n r c w/\PlankAt a H gp cl w rows m/\rows.length=n+r+c+r+c/\PlV H rows n r c w vw ∧
 ∀ (A:VA) (H':Hp),ViewAt a H' x A vw->SameBut (· =x) H H'->Q .non H'
def Ground(K:W.Frag)(a:Ad)(H:Hp)(ly gp:Addr)(vw:Vw):Prop:=∃ (cl:Addr) (n r c w:Nat) (rows:List (List V)) (m:Nat),TV K a/\DV K a/\EU K a/\LayAt a H ly n r c w/\PlankAt a H gp cl w rows m/\rows.length=n+r+c+r+c/\PlV H rows n r c w vw
def JS(K:W.Frag)(a:Ad):Sp:=λvs H Q _=>∃ (ly gp:Addr) (vw:Vw),vs=[.ref ly,.ref gp]/\Ground K a H ly gp vw/\newF (faults vw++G5 vw) H Q
def MH(K:W.Frag)(a:Ad):Sp:=λvs H Q _=>∃ (ly gp:Addr) (vw:Vw),vs=[.ref ly,.ref gp]/\Ground K a H ly gp vw/\∀ H',Same H H'->Q (.bl (decide (faults vw=[]))) H'
def E9(K:W.Frag)(a:Ad):Sp:=λvs H Q _=>∃ (c:Int) (m:Nat),vs=[.int c,.int m]/\m<=100/\∀ l (xs:List Int) H',H l=none->Same H H'->H' l=some (.lst (xs.map V.int))->xs.length=m->(∀ x∈xs,0<=x/\x<2000000000)->Q (.ref l) H'
def MI(K:W.Frag)(a:Ad):Sp:=λvs H Q _=>∃ x:Int,vs=[.int x]/\∀ (z:Str) H',PyData.strOk z=true->Same H H'->Q (.str z) H'
def MJ(K:W.Frag)(a:Ad):Sp:=λvs H Q _=>∃ x:Int,vs=[.int x]/\∀ (t:Addr) (n r c w:Nat) H',Same H H'->H' t=some (.tup [.int n,.int r,.int c,.int w])->1<=n->n<=6->1<=r->r<=6->1<=c->c<=6->1<=w->w<=6->Q (.ref t) H'
def MK(K:W.Frag)(a:Ad):Sp:=λvs H Q _=>∃ (c:Int) (m:Nat),vs=[.int c,.int m]/\m<=100/\∀ l (zs:List Str) H',H l=none->Same H H'->H' l=some (.lst (zs.map V.str))->zs.length=m->(∀ z∈zs,PyData.strOk z=true)->Q (.ref l) H'
structure LV where
 v:Addr
 a0:Addr
 a1:Addr
 a2:Addr
 a3:Addr
 a4:Addr
def LV.L(A:LV):List Addr:=[A.a0,A.a1,A.a2,A.a3,A.a4]
structure LVAt(H:Hp)(A:LV)(vw:Vw):Prop where
 ob:H A.v=some (.lst [.ref A.a0,.ref A.a1,.ref A.a2,.ref A.a3,.ref A.a4])
 n:LstAt NmV H A.a0 vw.nm
 r:LstAt RcV H A.a1 vw.rc
 p:LstAt PcV H A.a2 vw.pc
 rm:LstAt MkV H A.a3 vw.rm
 pm:LstAt MkV H A.a4 vw.pm
 ok:L8 vw
 nd:A.L.Nodup
 nv:A.v∉A.L
def ML(K:W.Frag)(a:Ad):Sp:=λvs H Q _=>∃ (xl:Addr) (xs:List Int) (np:Nat),vs=[.ref xl,.int np]/\H xl=some (.lst (xs.map V.int))/\xs.length=8/\(∀ x∈xs,0<=x/\x<2000000000)/\1<=np/\np<=100/\∀ (v:V) (cc:EV) (H':Hp),Same H H'->RcV H' v cc->(∀ c,cc=some c->(∀ p∈c.2,p<np)/\c.2.length<=10)->Q v H'
def MM(vw:Vw)(n r c:Nat):Prop:=vw.nm.length=n/\vw.rc.length=r/\vw.pc.length=c
def MN(K:W.Frag)(a:Ad):Sp:=λvs H Q _=>∃ (A:LV) (cell:Int) (nl:Addr) (zs:List Str) (vw:Vw) (n r c:Nat),vs=[.ref A.v,.int cell,.ref nl]/\LVAt H A vw/\MM vw n r c/\1<=n/\1<=r/\1<=c/\H nl=some (.lst (zs.map V.str))/\zs.length=5/\(∀ z∈zs,PyData.strOk z=true) ∧
 ∀ (vw':Vw) (H':Hp),LVAt H' A vw'->MM vw' n r c->SameBut (· ∈A.L) H H'->Q .non H'
def MO(K:W.Frag)(a:Ad):Sp:=λvs H Q _=>∃ (A:LV) (vw:Vw) (n r c w:Nat),vs=[.ref A.v,.int w]/\LVAt H A vw/\MM vw (n * w) (r * w) (c * w)/\1<=w/\w<=6/\n<=6/\r<=6/\c<=6 ∧
 ∀ (R:Addr) (ra:List Addr) (rows:List (List V)) (H':Hp),H R=none->Same H H'->H' R=some (.lst (ra.map V.ref))->Paired (λl r=>H' l=some (.lst r)) ra rows->(∀ l∈ra,H l=none)->(∀ r∈rows,r.length=w)->rows.length=n+r+c+r+c->PlV H' rows n r c w vw->Q (.ref R) H'
def MP(K:W.Frag)(a:Ad):Sp:=λvs H Q _=>∃ (s z nl:Addr) (ns:List Int) (zs:List Str) (n r c w:Nat),vs=[.ref s,.ref z,.ref nl]/\SqL K H s (ns.map V.int)/\ns.length<=63/\H z=some (.tup [.int n,.int r,.int c,.int w])/\1<=n/\n<=6/\1<=r/\r<=6/\1<=c/\c<=6/\1<=w/\w<=6/\H nl=some (.lst (zs.map V.str))/\zs.length=5/\(∀ z∈zs,PyData.strOk z=true) ∧
 ∀ (A:LV) (vw:Vw) (H':Hp),Same H H'->LVAt H' A vw->MM vw (n * w) (r * w) (c * w)->Q (.ref A.v) H'
def MQ(K:W.Frag)(a:Ad):Sp:=λvs H Q _=>∃ (A:LV) (vw:Vw),vs=[.ref A.v]/\LVAt H A vw ∧
 ∀ (t l1 l2:Addr) (H':Hp),Same H H'->H' t=some (.tup [.ref l1,.ref l2])->H' l1=some (.lst (AW ((List.range vw.rc.length).map (led vw))))->H' l2=some (.lst (AW ((List.range vw.pc.length).map (named vw))))->Q (.ref t) H'
def MR(K:W.Frag)(a:Ad):Sp:=λvs H Q _=>∃ (A:LV) (vw:Vw) (l1 l2:Addr),vs=[.ref A.v,.ref l1,.ref l2]/\LVAt H A vw/\H l1=some (.lst (AW ((List.range vw.rc.length).map (led vw))))/\H l2=some (.lst (AW ((List.range vw.pc.length).map (named vw))))/\newF (faults vw) H Q
def MS(K:W.Frag)(a:Ad):Sp:=λvs H Q _=>∃ (A:LV) (vw:Vw) (l1:Addr),vs=[.ref A.v,.ref l1]/\LVAt H A vw/\H l1=some (.lst (AW ((List.range vw.rc.length).map (led vw))))/\newF (G5 vw) H Q
def FOk(fs:List (List V)):Prop:=∀ f∈fs,f.length<=10/\1<=f.length/\∀ v∈f,(∃ i,v=.int i)\/∃ s,v=.str s/\PyData.strOk s=true
def JT(K:W.Frag)(a:Ad):Sp:=λvs H Q _=>∃ (f d:Addr) (fs:List (List V)),vs=[.ref f,.ref d]/\FindsL H f fs/\FindsL H d fs/\FOk fs/\fs.length<=2000/\∀ H',Same H H'->Q (.bl true) H'
def PZ(K:W.Frag)(a:Ad):Sp:=λvs H Q _=>∃ (s:Addr) (ns:List Int),vs=[.ref s]/\TV K a/\DV K a/\EU K a/\SqL K H s (ns.map V.int)/\ns.length<=63/\∀ H',Q (.bl true) H'
end L2
namespace L2
abbrev FK:=W.Frag
abbrev XE:=St->XK
theorem AF{f g:TS}(h:f=g)(D:Ends)(σ:St)(H:Hp):f D σ H=g D σ H:=by rw[h]
section
variable{K:FK}{a:Ad}{n:Nat}{E E1:XE}{D:Ends}{σ:St}{H:Hp}
def VN(K:FK)(a:Ad)(E E1:XE):TS:=(BH (BI (FM K (AD (BP K (AA 0) "record_values") AG)) (EH K 2 (CQ (AJ 0) (CQ (AJ 1) EG))) (A1 (AC D0 (AC (AL K) (BP K (AA 2) "leads") (AA 0)) (tC (.int 0)))) (AA 1) 2 [0]))
theorem oE:type_of% (AF (VN.eq_1 K a E E1) D σ H):=rfl
def P0(K:FK)(a:Ad)(E:XE):TS:=(VN K a E E)
def VO(K:FK)(a:Ad)(E E1:XE):TS:=(BH (BI (FM K (AD (BP K (AA 0) "record_values") AG)) (EH K 2 (CQ (AJ 0) (CQ (AJ 1) EG))) (A1 (AC E7 (AA 1) (tC .non))) (AA 0) 2 []))
theorem oF:type_of% (AF (VO.eq_1 K a E E1) D σ H):=rfl
def P7(K:FK)(a:Ad)(E:XE):TS:=(VO K a E E)
def VP(K:FK)(a:Ad)(E E1:XE):TS:=(BH (BI (FM K (AD (BP K (AA 0) "namings") AG)) (EH K 2 (CQ (AJ 0) (CQ (AJ 1) EG))) (A1 (AC D0 (AA 1) (tC (.int 0)))) (AA 0) 2 []))
theorem oG:type_of% (AF (VP.eq_1 K a E E1) D σ H):=rfl
def P8(K:FK)(a:Ad)(E:XE):TS:=(VP K a E E)
def VQ(K:FK)(a:Ad)(E E1:XE):TS:=(BH (AC (AL K) (AC (AL K) (BP K (AA 0) "record_values") (AA 1)) (tC (.int 0))))
theorem oH:type_of% (AF (VQ.eq_1 K a E E1) D σ H):=rfl
def P9(K:FK)(a:Ad)(E:XE):TS:=(VQ K a E E)
def VR(K:FK)(a:Ad)(E E1:XE):TS:=(AY (C6 AG) (AJ 1))
theorem oI:type_of% (AF (VR.eq_1 K a E E1) D σ H):=rfl
def VS(K:FK)(a:Ad)(E E1:XE):TS:=(AY (C6 AG) (AJ 2))
theorem oJ:type_of% (AF (VS.eq_1 K a E E1) D σ H):=rfl
def VT(K:FK)(a:Ad)(E E1:XE):TS:=(AY O5 (AJ 3))
theorem oK:type_of% (AF (VT.eq_1 K a E E1) D σ H):=rfl
def VU(K:FK)(a:Ad)(E E1:XE):TS:=(DR (ER K "list" GZ (AA 1) (AD (B2 (AD (tC (.str "lost")) (AD (AA 4) AG))) AG)))
theorem oM:type_of% (AF (VU.eq_1 K a E E1) D σ H):=rfl
def VV(K:FK)(a:Ad)(E E1:XE):TS:=(CA (A1 (AC GX (AC (AL K) (BP K (AA 0) "record_values") (AC (AL K) (AA 5) (tC (.int 1)))) (tC .non))) (VU K a E E) CD)
theorem oN:type_of% (AF (VV.eq_1 K a E E1) D σ H):=rfl
def VW(K:FK)(a:Ad)(E E1:XE):TS:=(DR (ER K "list" GZ (AA 2) (AD (B2 (AD (tC (.str "twice")) (AD (AA 4) AG))) AG)))
theorem oO:type_of% (AF (VW.eq_1 K a E E1) D σ H):=rfl
def QC(K:FK)(a:Ad)(E E1:XE):TS:=(CA (tB (O3 (AC (AL K) (AA 5) (tC (.int 0))) (AA 3))) (VW K a E E) CD)
theorem oP:type_of% (AF (QC.eq_1 K a E E1) D σ H):=rfl
def NX(K:FK)(a:Ad)(E E1:XE):TS:=(O4 (AA 3) (AC (AL K) (AA 5) (tC (.int 0))) (tC (.bl true)))
theorem oQ:type_of% (AF (NX.eq_1 K a E E1) D σ H):=rfl
def VX(K:FK)(a:Ad)(E E1:XE):TS:=(CA (A1 (AC E7 (AA 5) (tC .non))) (AO (VV K a E E) (AO (QC K a E E) (NX K a E E))) CD)
theorem oR:type_of% (AF (VX.eq_1 K a E E1) D σ H):=rfl
def VY(K:FK)(a:Ad)(E E1:XE):TS:=(C0 (FM K (AD (BP K (AA 0) "name_values") AG)) (EH K 2 (CQ (AJ 4) (CQ (AJ 5) EG))) (VX K a E E))
theorem oS:type_of% (AF (VY.eq_1 K a E E1) D σ H):=rfl
def NY(K:FK)(a:Ad)(E E1:XE):TS:=(BH (AC (A4 K) (AA 1) (AA 2)))
theorem oU:type_of% (AF (NY.eq_1 K a E E1) D σ H):=rfl
def QD(K:FK)(a:Ad)(E:XE):TS:=(AO (VR K a E E) (AO (VS K a E E) (AO (VT K a E E) (AO (VY K a E E) (NY K a E E)))))
def VZ(K:FK)(a:Ad)(E E1:XE):TS:=(AY (BI (FM K (AD (BP K (AA 0) "piece_marks") AG)) (EH K 2 (CQ (AJ 0) (CQ (AJ 1) EG))) (A1 (AC (BO K) (AA 1) (tC (.int 1)))) (AA 0) 2 []) (AJ 1))
theorem oV:type_of% (AF (VZ.eq_1 K a E E1) D σ H):=rfl
def V0(K:FK)(a:Ad)(E E1:XE):TS:=(BH (BI (B8 K (AA 1)) (AJ 0) (A1 (AC (BO K) (AC (AL K) (BP K (AA 1) "reached") (AA 0)) (tC (.int 0)))) (B2 (AD (tC (.str "left")) (AD (tC (.str "piece")) (AD (AA 0) AG)))) 1 [0]))
theorem oW:type_of% (AF (V0.eq_1 K a E E1) D σ H):=rfl
def QE(K:FK)(a:Ad)(E:XE):TS:=(AO (VZ K a E E) (V0 K a E E))
def WA(K:FK)(a:Ad)(E E1:XE):TS:=(AY (BI (FM K (AD (BP K (AA 0) "record_marks") AG)) (EH K 2 (CQ (AJ 0) (CQ (AJ 1) EG))) (A1 (AC (BO K) (AA 1) (tC (.int 1)))) (AA 0) 2 []) (AJ 1))
theorem oX:type_of% (AF (WA.eq_1 K a E E1) D σ H):=rfl
def WB(K:FK)(a:Ad)(E E1:XE):TS:=(BH (BI (B8 K (AA 1)) (AJ 0) (A1 (AC GX (AC (AL K) (BP K (AA 1) "record_values") (AA 0)) (tC .non))) (B2 (AD (tC (.str "marked")) (AD (AA 0) AG))) 1 [0]))
theorem oY:type_of% (AF (WB.eq_1 K a E E1) D σ H):=rfl
def QF(K:FK)(a:Ad)(E:XE):TS:=(AO (WA K a E E) (WB K a E E))
def WC(K:FK)(a:Ad)(E E1:XE):TS:=(AY (BI (CF (AD (AA 0) AG)) (AJ 0) CY (tC (.int 0)) 1 []) (AJ 2))
theorem oZ:type_of% (AF (WC.eq_1 K a E E1) D σ H):=rfl
def WD(K:FK)(a:Ad)(E E1:XE):TS:=(PM K (AA 2) (AA 3) (tC (.int 1)) K7)
theorem o0:type_of% (AF (WD.eq_1 K a E E1) D σ H):=rfl
def WE(K:FK)(a:Ad)(E E1:XE):TS:=(C0 (B8 K (AA 1)) (AJ 3) (WD K a E E))
theorem o1:type_of% (AF (WE.eq_1 K a E E1) D σ H):=rfl
def WF(K:FK)(a:Ad)(E E1:XE):TS:=(BH (AA 2))
theorem o2:type_of% (AF (WF.eq_1 K a E E1) D σ H):=rfl
def QH(K:FK)(a:Ad)(E:XE):TS:=(AO (WC K a E E) (AO (WE K a E E) (WF K a E E)))
def WG(K:FK)(a:Ad)(E E1:XE):TS:=(AY (C6 AG) (AJ 1))
theorem o3:type_of% (AF (WG.eq_1 K a E E1) D σ H):=rfl
def WH(K:FK)(a:Ad)(E E1:XE):TS:=(DR (ER K "list" (U9 K) (AA 1) (AD (AC (AL K) (AA 2) (tC (.int 1))) AG)))
theorem o6:type_of% (AF (WH.eq_1 K a E E1) D σ H):=rfl
def WI(K:FK)(a:Ad)(E E1:XE):TS:=(CA (A1 (AC E7 (AA 2) (tC .non))) (WH K a E E) CD)
theorem o7:type_of% (AF (WI.eq_1 K a E E1) D σ H):=rfl
def WJ(K:FK)(a:Ad)(E E1:XE):TS:=(C0 (B8 K (AA 0)) (AJ 2) (WI K a E E))
theorem o8:type_of% (AF (WJ.eq_1 K a E E1) D σ H):=rfl
def WK(K:FK)(a:Ad)(E E1:XE):TS:=(BH (AA 1))
theorem o9:type_of% (AF (WK.eq_1 K a E E1) D σ H):=rfl
def QI(K:FK)(a:Ad)(E:XE):TS:=(AO (WG K a E E) (AO (WJ K a E E) (WK K a E E)))
def WL(K:FK)(a:Ad)(E E1:XE):TS:=(DN K (AA 0) (BI (CF (AD (AA 1) AG)) (AJ 0) CY (AC (CC K) (B2 (AD (tC .non) AG)) (AA 1)) 1 [2]) "contents")
theorem pA:type_of% (AF (WL.eq_1 K a E E1) D σ H):=rfl
def WM(K:FK)(a:Ad)(E E1:XE):TS:=(DN K (AA 0) (AA 2) "width")
theorem pB:type_of% (AF (WM.eq_1 K a E E1) D σ H):=rfl
def WN(K:FK)(a:Ad)(E E1:XE):TS:=(DN K (AA 0) (tC (.int 0)) "written")
theorem pC:type_of% (AF (WN.eq_1 K a E E1) D σ H):=rfl
def QJ(K:FK)(a:Ad)(E:XE):TS:=(AO (WL K a E E) (AO (WM K a E E) (WN K a E E)))
def WO(K:FK)(a:Ad)(E E1:XE):TS:=(BH (BP K (AA 0) "written"))
theorem pD:type_of% (AF (WO.eq_1 K a E E1) D σ H):=rfl
def QK(K:FK)(a:Ad)(E:XE):TS:=(WO K a E E)
def WP(K:FK)(a:Ad)(E E1:XE):TS:=(NN (a "NoBlock") E (AD (tC (.str "there is no such block")) AG))
theorem pE:type_of% (AF (WP.eq_1 K a E E1) D σ H):=rfl
def WQ(K:FK)(a:Ad)(E E1:XE):TS:=(CA (FW (A1 (OJ LF GD (tC (.int 0)) (AA 1) (BW (CN K) (AD (BP K (AA 0) "contents") AG))))) (WP K a E E) CD)
theorem pF:type_of% (AF (WQ.eq_1 K a E E1) D σ H):=rfl
def QL(K:FK)(a:Ad)(E:XE):TS:=(WQ K a E E)
def WR(K:FK)(a:Ad)(E E1:XE):TS:=(DN K (AA 0) (AA 1) "name_blocks")
theorem pG:type_of% (AF (WR.eq_1 K a E E1) D σ H):=rfl
def WS(K:FK)(a:Ad)(E E1:XE):TS:=(DN K (AA 0) (AA 2) "record_blocks")
theorem pH:type_of% (AF (WS.eq_1 K a E E1) D σ H):=rfl
def WT(K:FK)(a:Ad)(E E1:XE):TS:=(DN K (AA 0) (AA 3) "piece_blocks")
theorem pI:type_of% (AF (WT.eq_1 K a E E1) D σ H):=rfl
def WU(K:FK)(a:Ad)(E E1:XE):TS:=(DN K (AA 0) (AA 4) "width")
theorem pJ:type_of% (AF (WU.eq_1 K a E E1) D σ H):=rfl
def QM(K:FK)(a:Ad)(E:XE):TS:=(AO (WR K a E E) (AO (WS K a E E) (AO (WT K a E E) (WU K a E E))))
def WV(K:FK)(a:Ad)(E E1:XE):TS:=(BH (B2 (AD (AC (CC K) (BP K (AA 0) "name_blocks") (BP K (AA 0) "width")) (AD (AC (CC K) (BP K (AA 0) "record_blocks") (BP K (AA 0) "width")) (AD (AC (CC K) (BP K (AA 0) "piece_blocks") (BP K (AA 0) "width")) AG)))))
theorem pK:type_of% (AF (WV.eq_1 K a E E1) D σ H):=rfl
def QN(K:FK)(a:Ad)(E:XE):TS:=(WV K a E E)
def WW(K:FK)(a:Ad)(E E1:XE):TS:=(BH (AC (A4 K) (AC (A4 K) (BP K (AA 0) "name_blocks") (BP K (AA 0) "record_blocks")) (BP K (AA 0) "piece_blocks")))
theorem pL:type_of% (AF (WW.eq_1 K a E E1) D σ H):=rfl
def QP(K:FK)(a:Ad)(E:XE):TS:=(WW K a E E)
def WX(K:FK)(a:Ad)(E E1:XE):TS:=(BH (B2 (AD (AC (A4 K) (AA 1) (AC ES (AA 2) (BP K (AA 0) "width"))) (AD (AC BY (AA 2) (BP K (AA 0) "width")) AG))))
theorem pM:type_of% (AF (WX.eq_1 K a E E1) D σ H):=rfl
def QQ(K:FK)(a:Ad)(E:XE):TS:=(WX K a E E)
def WY(K:FK)(a:Ad)(E E1:XE):TS:=(BH (AC (AL K) (AA 0) (AA 1)))
theorem pN:type_of% (AF (WY.eq_1 K a E E1) D σ H):=rfl
def WZ(K:FK)(a:Ad)(E E1:XE):TS:=(CA (A1 (AC GD (AA 1) (BW (CN K) (AD (AA 0) AG)))) (WY K a E E) CD)
theorem pO:type_of% (AF (WZ.eq_1 K a E E1) D σ H):=rfl
def W1(K:FK)(a:Ad)(E E1:XE):TS:=(BH (tC (.int 0)))
theorem pP:type_of% (AF (W1.eq_1 K a E E1) D σ H):=rfl
def QR(K:FK)(a:Ad)(E:XE):TS:=(AO (WZ K a E E) (W1 K a E E))
def W2(K:FK)(a:Ad)(E E1:XE):TS:=(AY (AC (A4 K) (AC BY (AA 0) (tC (.int 920419823))) (tC (.int 5))) (AJ 2))
theorem pQ:type_of% (AF (W2.eq_1 K a E E1) D σ H):=rfl
def W9(K:FK)(a:Ad)(E E1:XE):TS:=(AY (AC (A4 K) (AC BY (AC ES (AA 0) (tC (.int 920419823))) (tC (.int 899809363))) (tC (.int 3))) (AJ 3))
theorem pR:type_of% (AF (W9.eq_1 K a E E1) D σ H):=rfl
def XA(K:FK)(a:Ad)(E E1:XE):TS:=(AY (C6 AG) (AJ 4))
theorem pT:type_of% (AF (XA.eq_1 K a E E1) D σ H):=rfl
def XB(K:FK)(a:Ad)(E E1:XE):TS:=(AY (AC BY (AC (A4 K) (AC (CC K) (AA 2) (tC (.int 70001))) (AA 3)) (tC (.int 920419823))) (AJ 2))
theorem pU:type_of% (AF (XB.eq_1 K a E E1) D σ H):=rfl
def XC(K:FK)(a:Ad)(E E1:XE):TS:=(AY (AC BY (AC (A4 K) (AC (A4 K) (AC (CC K) (AA 3) (tC (.int 60013))) (AC (CC K) (AA 2) (AA 2))) (AA 5)) (tC (.int 899809363))) (AJ 3))
theorem pV:type_of% (AF (XC.eq_1 K a E E1) D σ H):=rfl
def XD(K:FK)(a:Ad)(E E1:XE):TS:=(DR (ER K "list" GZ (AA 4) (AD (AC (A4 K) (AA 2) (AA 3)) AG)))
theorem pW:type_of% (AF (XD.eq_1 K a E E1) D σ H):=rfl
def XF(K:FK)(a:Ad)(E E1:XE):TS:=(C0 (CF (AD (AA 1) AG)) (AJ 5) (AO (XB K a E E) (AO (XC K a E E) (XD K a E E))))
theorem pX:type_of% (AF (XF.eq_1 K a E E1) D σ H):=rfl
def XG(K:FK)(a:Ad)(E E1:XE):TS:=(BH (AA 4))
theorem pY:type_of% (AF (XG.eq_1 K a E E1) D σ H):=rfl
def QS(K:FK)(a:Ad)(E:XE):TS:=(AO (W2 K a E E) (AO (W9 K a E E) (AO (XA K a E E) (AO (XF K a E E) (XG K a E E)))))
def XH(K:FK)(a:Ad)(E E1:XE):TS:=(BH (tC .non))
theorem pZ:type_of% (AF (XH.eq_1 K a E E1) D σ H):=rfl
def XI(K:FK)(a:Ad)(E E1:XE):TS:=(CA (A1 (AC (BO K) (AC BY (AC (AL K) (AA 0) (tC (.int 2))) (tC (.int 6))) (tC (.int 0)))) (XH K a E E) CD)
theorem p0:type_of% (AF (XI.eq_1 K a E E1) D σ H):=rfl
def XJ(K:FK)(a:Ad)(E E1:XE):TS:=(AY (AC (A4 K) (tC (.int 1)) (AC BY (AC (AL K) (AA 0) (tC (.int 3))) (tC (.int 4)))) (AJ 2))
theorem p4:type_of% (AF (XJ.eq_1 K a E E1) D σ H):=rfl
def XL(K:FK)(a:Ad)(E E1:XE):TS:=(AY (AC PB (AC PD (tC (.int 10)) (tC (.int 30))) (AC (CC K) (AC (AL K) (AA 0) (tC (.int 4))) (AC PD (tC (.int 10)) (tC (.int 18))))) (AJ 2))
theorem p5:type_of% (AF (XL.eq_1 K a E E1) D σ H):=rfl
def XM(K:FK)(a:Ad)(E E1:XE):TS:=(CA (A1 (AC (BO K) (AC BY (AC ES (AC (AL K) (AA 0) (tC (.int 3))) (tC (.int 4))) (tC (.int 8))) (tC (.int 0)))) (XL K a E E) CD)
theorem p6:type_of% (AF (XM.eq_1 K a E E1) D σ H):=rfl
def QT(K:FK)(a:Ad)(E E1:XE):TS:=(BH (B2 (AD (AA 2) (AD (BW (LJ K) (AD (BI (CF (AD (AC BY (AC ES (AC (AL K) (AA 0) (tC (.int 2))) (tC (.int 6))) (tC (.int 4))) AG)) (AJ 0) CY (AC BY (AC (AL K) (AA 1) (AC (A4 K) (tC (.int 5)) (AA 0))) (AA 2)) 1 [0,1]) AG)) AG))))
theorem p7:type_of% (AF (QT.eq_1 K a E E1) D σ H):=rfl
def QU(K:FK)(a:Ad)(E:XE):TS:=(AO (XI K a E E) (AO (XJ K a E E) (AO (XM K a E E) (QT K a E E))))
def XN(K:FK)(a:Ad)(E E1:XE):TS:=(AY (AC (A4 K) (AC (A4 K) (AC (A4 K) (AC (A4 K) (AC (AL K) (AA 0) (tC (.int 0))) (AC (AL K) (AA 0) (tC (.int 1)))) (AC (AL K) (AA 0) (tC (.int 2)))) (AC (AL K) (AA 0) (tC (.int 3)))) (AC (AL K) (AA 0) (tC (.int 4)))) (AJ 2))
theorem p8:type_of% (AF (XN.eq_1 K a E E1) D σ H):=rfl
def XO(K:FK)(a:Ad)(E E1:XE):TS:=(BH (BI (PN (AD (tC (.int 0)) (AD (BW (CN K) (AD (AA 2) AG)) (AD (AA 1) AG)))) (AJ 0) CY (JD (HM K) (AA 1) (HJ (AA 0)) (HJ (AC (A4 K) (AA 0) (AA 2)))) 1 [2,1]))
theorem p9:type_of% (AF (XO.eq_1 K a E E1) D σ H):=rfl
def QW(K:FK)(a:Ad)(E:XE):TS:=(AO (XN K a E E) (XO K a E E))
def XQ(K:FK)(a:Ad)(E E1:XE):TS:=(AY (AC (AL K) (AA 0) (tC (.int 0))) (AJ 3))
theorem qA:type_of% (AF (XQ.eq_1 K a E E1) D σ H):=rfl
def XR(K:FK)(a:Ad)(E E1:XE):TS:=(AY (BI (CF (AD (BW (CN K) (AD (AA 3) AG)) AG)) (AJ 0) (A1 (AC E7 (AC (AL K) (AA 1) (AA 0)) (tC .non))) (AA 0) 1 [3]) (AJ 4))
theorem qB:type_of% (AF (XR.eq_1 K a E E1) D σ H):=rfl
def XS(K:FK)(a:Ad)(E E1:XE):TS:=(AY (BI (B8 K (AA 4)) (AJ 0) (A1 (AC GX (AC (AL K) (AC (AL K) (AA 1) (tC (.int 1))) (AC (AL K) (AC (AL K) (AA 2) (AA 0)) (tC (.int 1)))) (tC .non))) (B2 (AD (tC (.str "lost")) (AD (AA 0) AG))) 1 [0,3]) (AJ 5))
theorem qC:type_of% (AF (XS.eq_1 K a E E1) D σ H):=rfl
def XT(K:FK)(a:Ad)(E E1:XE):TS:=(DR (ER K "list" GZ (AA 5) (AD (B2 (AD (tC (.str "twice")) (AD (AA 6) AG))) AG)))
theorem qD:type_of% (AF (XT.eq_1 K a E E1) D σ H):=rfl
def XU(K:FK)(a:Ad)(E E1:XE):TS:=(CA (A1 (AC (NS K) (AC (AL K) (AC (AL K) (AA 3) (AA 6)) (tC (.int 0))) (BI (B8 K (AA 4)) (AJ 0) (A1 (AC GD (AA 0) (AA 1))) (AC (AL K) (AC (AL K) (AA 2) (AA 0)) (tC (.int 0))) 1 [6,3]))) (XT K a E E) CD)
theorem qE:type_of% (AF (XU.eq_1 K a E E1) D σ H):=rfl
def XV(K:FK)(a:Ad)(E E1:XE):TS:=(C0 (B8 K (AA 4)) (AJ 6) (XU K a E E))
theorem qF:type_of% (AF (XV.eq_1 K a E E1) D σ H):=rfl
def XW(K:FK)(a:Ad)(E E1:XE):TS:=(AY (AC (A4 K) (AA 5) (BI (CF (AD (BW (CN K) (AD (AA 2) AG)) AG)) (AJ 0) (A1 (AC D0 (AC (AL K) (AA 1) (AA 0)) (tC (.int 1)))) (B2 (AD (tC (.str "shared")) (AD (AA 0) AG))) 1 [2])) (AJ 5))
theorem qG:type_of% (AF (XW.eq_1 K a E E1) D σ H):=rfl
def XX(K:FK)(a:Ad)(E E1:XE):TS:=(AY (AC (A4 K) (AA 5) (BI (CF (AD (BW (CN K) (AD (AA 2) AG)) AG)) (AJ 0) (FF (A1 (AC D0 (AC (AL K) (AA 1) (AA 0)) (tC (.int 0)))) (A1 (AC GX (AC (AL K) (AC (AL K) (AA 2) (tC (.int 2))) (AA 0)) (tC .non)))) (B2 (AD (tC (.str "empty")) (AD (AA 0) AG))) 1 [2,0])) (AJ 5))
theorem qH:type_of% (AF (XX.eq_1 K a E E1) D σ H):=rfl
def XY(K:FK)(a:Ad)(E E1:XE):TS:=(AY (BI (CF (AD (BW (CN K) (AD (AA 1) AG)) AG)) (AJ 0) (A1 (AC E7 (AC (AL K) (AC (AL K) (AA 1) (tC (.int 1))) (AA 0)) (tC .non))) (AA 0) 1 [0]) (AJ 7))
theorem qI:type_of% (AF (XY.eq_1 K a E E1) D σ H):=rfl
def XZ(K:FK)(a:Ad)(E E1:XE):TS:=(AY (AC (A4 K) (AA 5) (BI (B8 K (AA 7)) (AJ 0) (A1 (AC GD (AC (AL K) (AC (AL K) (AC (AL K) (AA 1) (tC (.int 1))) (AA 0)) (tC (.int 0))) (AC (AL K) (AA 2) (AA 0)))) (B2 (AD (tC (.str "few")) (AD (AA 0) AG))) 1 [0,1])) (AJ 5))
theorem qJ:type_of% (AF (XZ.eq_1 K a E E1) D σ H):=rfl
def X0(K:FK)(a:Ad)(E E1:XE):TS:=(AY (AC (A4 K) (AA 5) (BI (CF (AD (BW (CN K) (AD (AA 1) AG)) AG)) (AJ 0) (FF (A1 (AC D0 (AC (AL K) (AA 1) (AA 0)) (tC (.int 0)))) (A1 (AC (CM K) (AC (AL K) (AC (AL K) (AA 2) (tC (.int 3))) (AA 0)) (tC (.int 1))))) (B2 (AD (tC (.str "free")) (AD (tC (.str "record")) (AD (AA 0) AG)))) 1 [1,0])) (AJ 5))
theorem qK:type_of% (AF (X0.eq_1 K a E E1) D σ H):=rfl
def X1(K:FK)(a:Ad)(E E1:XE):TS:=(BH (AC (A4 K) (AA 5) (BI (CF (AD (BW (CN K) (AD (AA 2) AG)) AG)) (AJ 0) (FF (A1 (AC D0 (AC (AL K) (AA 1) (AA 0)) (tC (.int 0)))) (A1 (AC (CM K) (AC (AL K) (AC (AL K) (AA 2) (tC (.int 4))) (AA 0)) (tC (.int 1))))) (B2 (AD (tC (.str "free")) (AD (tC (.str "piece")) (AD (AA 0) AG)))) 1 [2,0])))
theorem qL:type_of% (AF (X1.eq_1 K a E E1) D σ H):=rfl
def QX(K:FK)(a:Ad)(E:XE):TS:=(AO (XQ K a E E) (AO (XR K a E E) (AO (XS K a E E) (AO (XV K a E E) (AO (XW K a E E) (AO (XX K a E E) (AO (XY K a E E) (AO (XZ K a E E) (AO (X0 K a E E) (X1 K a E E))))))))))
def X2(K:FK)(a:Ad)(E E1:XE):TS:=(AY (BI (CF (AD (BW (CN K) (AD (AA 1) AG)) AG)) (AJ 0) (A1 (AC E7 (AC (AL K) (AC (AL K) (AA 1) (tC (.int 1))) (AA 0)) (tC .non))) (AA 0) 1 [0]) (AJ 2))
theorem qM:type_of% (AF (X2.eq_1 K a E E1) D σ H):=rfl
def X3(K:FK)(a:Ad)(E E1:XE):TS:=(AY (BI (B8 K (AA 2)) (AJ 0) (FF (A1 (AC D0 (AC (AL K) (AA 1) (AA 0)) (tC (.int 0)))) (A1 (AC D0 (AC (AL K) (AC (AL K) (AC (AL K) (AA 2) (tC (.int 1))) (AA 0)) (tC (.int 0))) (AC (AL K) (AA 1) (AA 0))))) (B2 (AD (tC (.str "many")) (AD (AA 0) (AD (AC (AL K) (AA 1) (AA 0)) AG)))) 1 [1,0]) (AJ 3))
theorem qN:type_of% (AF (X3.eq_1 K a E E1) D σ H):=rfl
def X4(K:FK)(a:Ad)(E E1:XE):TS:=(AY (AC (A4 K) (AA 3) (BI (B8 K (AA 2)) (AJ 0) (A1 (AC (BO K) (AC (AL K) (AA 1) (AA 0)) (tC (.int 0)))) (B2 (AD (tC (.str "left")) (AD (tC (.str "record")) (AD (AA 0) AG)))) 1 [1])) (AJ 3))
theorem qO:type_of% (AF (X4.eq_1 K a E E1) D σ H):=rfl
def X5(K:FK)(a:Ad)(E E1:XE):TS:=(AY (BI (B8 K (AA 2)) (AJ 0) (FF (A1 (AC D0 (AC (AL K) (AA 1) (AA 0)) (tC (.int 0)))) (A1 (AC (NS K) (AA 2) (AC (AL K) (AC (AL K) (AC (AL K) (AA 3) (tC (.int 1))) (AA 0)) (tC (.int 1)))))) (AA 0) 1 [1,4,0]) (AJ 5))
theorem qP:type_of% (AF (X5.eq_1 K a E E1) D σ H):=rfl
def X6(K:FK)(a:Ad)(E E1:XE):TS:=(DR (ER K "list" GZ (AA 3) (AD (B2 (AD (tC (.str "left")) (AD (tC (.str "piece")) (AD (AA 4) AG)))) AG)))
theorem qQ:type_of% (AF (X6.eq_1 K a E E1) D σ H):=rfl
def X7(K:FK)(a:Ad)(E E1:XE):TS:=(CA (FF (A1 (AC (BO K) (AC (AL K) (AC (AL K) (AA 0) (tC (.int 4))) (AA 4)) (tC (.int 1)))) (A1 (AC (BO K) (AA 5) (C6 AG)))) (X6 K a E E) CD)
theorem qR:type_of% (AF (X7.eq_1 K a E E1) D σ H):=rfl
def X8(K:FK)(a:Ad)(E E1:XE):TS:=(C0 (CF (AD (BW (CN K) (AD (AC (AL K) (AA 0) (tC (.int 4))) AG)) AG)) (AJ 4) (AO (X5 K a E E) (X7 K a E E)))
theorem qS:type_of% (AF (X8.eq_1 K a E E1) D σ H):=rfl
def X9(K:FK)(a:Ad)(E E1:XE):TS:=(BH (AC (A4 K) (AA 3) (BI (CF (AD (BW (CN K) (AD (AA 1) AG)) AG)) (AJ 0) (FF (A1 (AC (BO K) (AC (AL K) (AC (AL K) (AA 1) (tC (.int 3))) (AA 0)) (tC (.int 1)))) (A1 (AC GX (AC (AL K) (AC (AL K) (AA 1) (tC (.int 1))) (AA 0)) (tC .non)))) (B2 (AD (tC (.str "marked")) (AD (AA 0) AG))) 1 [0])))
theorem qT:type_of% (AF (X9.eq_1 K a E E1) D σ H):=rfl
def QY(K:FK)(a:Ad)(E:XE):TS:=(AO (X2 K a E E) (AO (X3 K a E E) (AO (X4 K a E E) (AO (X8 K a E E) (X9 K a E E)))))
def YA(K:FK)(a:Ad)(E E1:XE):TS:=(AY (AC (CC K) (C6 (AD (tC (.int 0)) AG)) (BW (CN K) (AD (AC (AL K) (AA 0) (tC (.int 1))) AG))) (AJ 1))
theorem qU:type_of% (AF (YA.eq_1 K a E E1) D σ H):=rfl
def YB(K:FK)(a:Ad)(E E1:XE):TS:=(AY (AC (CC K) (C6 (AD (tC (.int 0)) AG)) (BW (CN K) (AD (AC (AL K) (AA 0) (tC (.int 2))) AG))) (AJ 2))
theorem qV:type_of% (AF (YB.eq_1 K a E E1) D σ H):=rfl
def YC(K:FK)(a:Ad)(E E1:XE):TS:=(AY (AC (A4 K) (AC (AL K) (AA 1) (AC (AL K) (AA 3) (tC (.int 1)))) (tC (.int 1))) (IZ (AA 1) (AC (AL K) (AA 3) (tC (.int 1))) HN))
theorem qW:type_of% (AF (YC.eq_1 K a E E1) D σ H):=rfl
def YD(K:FK)(a:Ad)(E E1:XE):TS:=(CA (A1 (AC E7 (AA 3) (tC .non))) (YC K a E E) CD)
theorem qX:type_of% (AF (YD.eq_1 K a E E1) D σ H):=rfl
def YE(K:FK)(a:Ad)(E E1:XE):TS:=(C0 (B8 K (AC (AL K) (AA 0) (tC (.int 0)))) (AJ 3) (YD K a E E))
theorem qY:type_of% (AF (YE.eq_1 K a E E1) D σ H):=rfl
def YF(K:FK)(a:Ad)(E E1:XE):TS:=(AY (AC (A4 K) (AC (AL K) (AA 2) (AA 4)) (tC (.int 1))) (IZ (AA 2) (AA 4) HN))
theorem qZ:type_of% (AF (YF.eq_1 K a E E1) D σ H):=rfl
def YG(K:FK)(a:Ad)(E E1:XE):TS:=(C0 (B8 K (AC (AL K) (AA 3) (tC (.int 1)))) (AJ 4) (YF K a E E))
theorem rA:type_of% (AF (YG.eq_1 K a E E1) D σ H):=rfl
def YH(K:FK)(a:Ad)(E E1:XE):TS:=(CA (A1 (AC E7 (AA 3) (tC .non))) (YG K a E E) CD)
theorem rB:type_of% (AF (YH.eq_1 K a E E1) D σ H):=rfl
def YI(K:FK)(a:Ad)(E E1:XE):TS:=(C0 (B8 K (AC (AL K) (AA 0) (tC (.int 1)))) (AJ 3) (YH K a E E))
theorem rC:type_of% (AF (YI.eq_1 K a E E1) D σ H):=rfl
def YJ(K:FK)(a:Ad)(E E1:XE):TS:=(BH (B2 (AD (AA 1) (AD (AA 2) AG))))
theorem rD:type_of% (AF (YJ.eq_1 K a E E1) D σ H):=rfl
def QZ(K:FK)(a:Ad)(E:XE):TS:=(AO (YA K a E E) (AO (YB K a E E) (AO (YE K a E E) (AO (YI K a E E) (YJ K a E E)))))
def rE(K:FK)(a:Ad)(E E1:XE):TS:=(BH (tC (.bl false)))
def YK(K:FK)(a:Ad)(E E1:XE):TS:=(CA (GO (FW (GY K (BW (HP K) (AD (AA 0) (AD (tC (.ty "list")) AG))))) (A1 (AC (CM K) (AA 0) (AA 1)))) (rE K a E E) CD)
theorem rF:type_of% (AF (YK.eq_1 K a E E1) D σ H):=rfl
def rG(K:FK)(a:Ad)(E E1:XE):TS:=(BH (tC (.bl false)))
def YL(K:FK)(a:Ad)(E E1:XE):TS:=(CA (FF (FW (GY K (BW (HP K) (AD (AA 3) (AD (tC (.ty "str")) AG))))) (GO (FW (GY K (BW (HP K) (AD (AA 3) (AD (tC (.ty "int")) AG))))) (GY K (BW (HP K) (AD (AA 3) (AD (tC (.ty "bool")) AG)))))) (rG K a E E) CD)
theorem rH:type_of% (AF (YL.eq_1 K a E E1) D σ H):=rfl
def YM(K:FK)(a:Ad)(E E1:XE):TS:=(C0 (B8 K (JD (HM K) (AA 2) (HJ (tC (.int 1))) K8)) (AJ 3) (YL K a E E))
theorem rJ:type_of% (AF (YM.eq_1 K a E E1) D σ H):=rfl
def YN(K:FK)(a:Ad)(E E1:XE):TS:=(C0 (B8 K (AA 0)) (AJ 2) (YM K a E E))
theorem rK:type_of% (AF (YN.eq_1 K a E E1) D σ H):=rfl
def YO(K:FK)(a:Ad)(E E1:XE):TS:=(BH (tC (.bl true)))
theorem rM:type_of% (AF (YO.eq_1 K a E E1) D σ H):=rfl
def Q0(K:FK)(a:Ad)(E:XE):TS:=(AO (YK K a E E) (AO (YN K a E E) (YO K a E E)))
def YQ(K:FK)(a:Ad)(E E1:XE):TS:=(AY (BI (B8 K (BX (a "View") "pieces_named" (G8 K a) [] E (AA 0) AG)) (AJ 0) (A1 (AC D0 (AC (AL K) (BP K (AA 1) "namings") (AA 0)) (tC (.int 1)))) (B2 (AD (tC (.str "shared")) (AD (AA 0) AG))) 1 [0]) (AJ 1))
theorem rN:type_of% (AF (YQ.eq_1 K a E E1) D σ H):=rfl
def YR(K:FK)(a:Ad)(E E1:XE):TS:=(AY (BI (B8 K (BX (a "View") "pieces_named" (G8 K a) [] E (AA 0) AG)) (AJ 0) (A1 (AC GX (AC (AL K) (BP K (AA 1) "piece_values") (AA 0)) (tC .non))) (B2 (AD (tC (.str "empty")) (AD (AA 0) AG))) 1 [0]) (AJ 2))
theorem rO:type_of% (AF (YR.eq_1 K a E E1) D σ H):=rfl
def YS(K:FK)(a:Ad)(E E1:XE):TS:=(AY (BI (B8 K (BX (a "View") "records_standing" (HW K a) [] E (AA 0) AG)) (AJ 0) (A1 (AC GD (BX (a "View") "count_of" (HX K a) [] (λ_=>E0) (AA 1) (AD (AA 0) AG)) (AC (AL K) (BP K (AA 1) "leads") (AA 0)))) (B2 (AD (tC (.str "few")) (AD (AA 0) AG))) 1 [0]) (AJ 3))
theorem rP:type_of% (AF (YS.eq_1 K a E E1) D σ H):=rfl
def YT(K:FK)(a:Ad)(E E1:XE):TS:=(BH (AC (A4 K) (AC (A4 K) (AA 1) (AA 2)) (AA 3)))
theorem rQ:type_of% (AF (YT.eq_1 K a E E1) D σ H):=rfl
def Q1(K:FK)(a:Ad)(E:XE):TS:=(AO (YQ K a E E) (AO (YR K a E E) (AO (YS K a E E) (YT K a E E))))
def YU(K:FK)(a:Ad)(E E1:XE):TS:=(AY (BI (FM K (AD (BP K (AA 0) "leads") AG)) (EH K 2 (CQ (AJ 0) (CQ (AJ 1) EG))) (A1 (AC D0 (AA 1) (tC (.int 0)))) (AA 0) 2 []) (AJ 1))
theorem rR:type_of% (AF (YU.eq_1 K a E E1) D σ H):=rfl
def YV(K:FK)(a:Ad)(E E1:XE):TS:=(AY (BI (B8 K (AA 1)) (AJ 0) (A1 (AC (CM K) (AC (AL K) (BP K (AA 1) "record_marks") (AA 0)) (tC (.int 1)))) (B2 (AD (tC (.str "free")) (AD (tC (.str "record")) (AD (AA 0) AG)))) 1 [0]) (AJ 2))
theorem rS:type_of% (AF (YV.eq_1 K a E E1) D σ H):=rfl
def YW(K:FK)(a:Ad)(E E1:XE):TS:=(AY (BI (B8 K (BX (a "View") "pieces_named" (G8 K a) [] E (AA 0) AG)) (AJ 0) (A1 (AC (CM K) (AC (AL K) (BP K (AA 1) "piece_marks") (AA 0)) (tC (.int 1)))) (B2 (AD (tC (.str "free")) (AD (tC (.str "piece")) (AD (AA 0) AG)))) 1 [0]) (AJ 3))
theorem rT:type_of% (AF (YW.eq_1 K a E E1) D σ H):=rfl
def YX(K:FK)(a:Ad)(E E1:XE):TS:=(BH (AC (A4 K) (AA 2) (AA 3)))
theorem rV:type_of% (AF (YX.eq_1 K a E E1) D σ H):=rfl
def Q2(K:FK)(a:Ad)(E:XE):TS:=(AO (YU K a E E) (AO (YV K a E E) (AO (YW K a E E) (YX K a E E))))
def YY(K:FK)(a:Ad)(E E1:XE):TS:=(AY (C6 AG) (AJ 1))
theorem rW:type_of% (AF (YY.eq_1 K a E E1) D σ H):=rfl
def YZ(K:FK)(a:Ad)(E E1:XE):TS:=(AY (C6 AG) (AJ 2))
theorem rX:type_of% (AF (YZ.eq_1 K a E E1) D σ H):=rfl
def Y0(K:FK)(a:Ad)(E E1:XE):TS:=(AY (AC (AL K) (BP K (AA 0) "leads") (AA 3)) (AJ 4))
theorem rY:type_of% (AF (Y0.eq_1 K a E E1) D σ H):=rfl
def Y1(K:FK)(a:Ad)(E E1:XE):TS:=(DR (ER K "list" GZ (AA 2) (AD (B2 (AD (tC (.str "left")) (AD (tC (.str "record")) (AD (AA 3) AG)))) AG)))
theorem rZ:type_of% (AF (Y1.eq_1 K a E E1) D σ H):=rfl
def Y2(K:FK)(a:Ad)(E E1:XE):TS:=(DR (ER K "list" GZ (AA 1) (AD (B2 (AD (tC (.str "many")) (AD (AA 3) (AD (AA 4) AG)))) AG)))
theorem r0:type_of% (AF (Y2.eq_1 K a E E1) D σ H):=rfl
def Y3(K:FK)(a:Ad)(E E1:XE):TS:=(CA (A1 (AC D0 (BX (a "View") "count_of" (HX K a) [] E (AA 0) (AD (AA 3) AG)) (AA 4))) (Y2 K a E E) CD)
theorem r8:type_of% (AF (Y3.eq_1 K a E E1) D σ H):=rfl
def Y4(K:FK)(a:Ad)(E E1:XE):TS:=(CA (A1 (AC (BO K) (AA 4) (tC (.int 0)))) (Y1 K a E E) (Y3 K a E E))
theorem sA:type_of% (AF (Y4.eq_1 K a E E1) D σ H):=rfl
def Y5(K:FK)(a:Ad)(E E1:XE):TS:=(C0 (B8 K (BX (a "View") "records_standing" (HW K a) [] E (AA 0) AG)) (AJ 3) (AO (Y0 K a E E) (Y4 K a E E)))
theorem sB:type_of% (AF (Y5.eq_1 K a E E1) D σ H):=rfl
def Y6(K:FK)(a:Ad)(E E1:XE):TS:=(BH (AC (A4 K) (AA 1) (AA 2)))
theorem sC:type_of% (AF (Y6.eq_1 K a E E1) D σ H):=rfl
def Q3(K:FK)(a:Ad)(E:XE):TS:=(AO (YY K a E E) (AO (YZ K a E E) (AO (Y5 K a E E) (Y6 K a E E))))
def Y7(K:FK)(a:Ad)(E E1:XE):TS:=(DR (BX (a "Plank") "ask_for_block" (GF K a) [] E (AA 0) (AD (AA 1) AG)))
theorem sD:type_of% (AF (Y7.eq_1 K a E E1) D σ H):=rfl
def Y8(K:FK)(a:Ad)(E E1:XE):TS:=(BH (BW (LI K) (AD (AC (AL K) (BP K (AA 0) "contents") (AA 1)) AG)))
theorem sE:type_of% (AF (Y8.eq_1 K a E E1) D σ H):=rfl
def Q4(K:FK)(a:Ad)(E:XE):TS:=(AO (Y7 K a E E) (Y8 K a E E))
def Y9(K:FK)(a:Ad)(E E1:XE):TS:=(DR (BX (a "Plank") "ask_for_block" (GF K a) [] E (AA 0) (AD (AA 1) AG)))
theorem sF:type_of% (AF (Y9.eq_1 K a E E1) D σ H):=rfl
def ZA(K:FK)(a:Ad)(E E1:XE):TS:=(NN (a "NoBlock") E (AD (tC (.str "the list is not as long as a block")) AG))
theorem sG:type_of% (AF (ZA.eq_1 K a E E1) D σ H):=rfl
def ZB(K:FK)(a:Ad)(E E1:XE):TS:=(CA (A1 (AC (CM K) (BW (CN K) (AD (AA 2) AG)) (BP K (AA 0) "width"))) (ZA K a E E) CD)
theorem sH:type_of% (AF (ZB.eq_1 K a E E1) D σ H):=rfl
def ZC(K:FK)(a:Ad)(E E1:XE):TS:=(AY (BW (LJ K) (AD (AA 2) AG)) (IZ (BP K (AA 0) "contents") (AA 1) HN))
theorem sI:type_of% (AF (ZC.eq_1 K a E E1) D σ H):=rfl
def ZD(K:FK)(a:Ad)(E E1:XE):TS:=(OO K (AA 0) (tC (.int 1)) K7 "written")
theorem sJ:type_of% (AF (ZD.eq_1 K a E E1) D σ H):=rfl
def Q5(K:FK)(a:Ad)(E:XE):TS:=(AO (Y9 K a E E) (AO (ZB K a E E) (AO (ZC K a E E) (ZD K a E E))))
def ZE(K:FK)(a:Ad)(E E1:XE):TS:=(BH (BX (a "Layout") "place_from" (EJ K a) [] E (AA 0) (AD (tC (.int 0)) (AD (AA 1) AG))))
theorem sK:type_of% (AF (ZE.eq_1 K a E E1) D σ H):=rfl
def Q6(K:FK)(a:Ad)(E:XE):TS:=(ZE K a E E)
def ZF(K:FK)(a:Ad)(E E1:XE):TS:=(BH (BX (a "Layout") "place_from" (EJ K a) [] E (AA 0) (AD (BP K (AA 0) "name_blocks") (AD (AA 1) AG))))
theorem sL:type_of% (AF (ZF.eq_1 K a E E1) D σ H):=rfl
def Q7(K:FK)(a:Ad)(E:XE):TS:=(ZF K a E E)
def ZG(K:FK)(a:Ad)(E E1:XE):TS:=(BH (BX (a "Layout") "place_from" (EJ K a) [] E (AA 0) (AD (AC (A4 K) (BP K (AA 0) "name_blocks") (BP K (AA 0) "record_blocks")) (AD (AA 1) AG))))
theorem sM:type_of% (AF (ZG.eq_1 K a E E1) D σ H):=rfl
def Q8(K:FK)(a:Ad)(E:XE):TS:=(ZG K a E E)
def ZH(K:FK)(a:Ad)(E E1:XE):TS:=(BH (BX (a "Layout") "place_from" (EJ K a) [] E (AA 0) (AD (BX (a "Layout") "blocks_ahead_of_marks" (GG K a) [] E (AA 0) AG) (AD (AA 1) AG))))
theorem sN:type_of% (AF (ZH.eq_1 K a E E1) D σ H):=rfl
def Q9(K:FK)(a:Ad)(E:XE):TS:=(ZH K a E E)
def ZI(K:FK)(a:Ad)(E E1:XE):TS:=(BH (BX (a "Layout") "place_from" (EJ K a) [] E (AA 0) (AD (AC (A4 K) (BX (a "Layout") "blocks_ahead_of_marks" (GG K a) [] E (AA 0) AG) (BP K (AA 0) "record_blocks")) (AD (AA 1) AG))))
theorem sO:type_of% (AF (ZI.eq_1 K a E E1) D σ H):=rfl
def RA(K:FK)(a:Ad)(E:XE):TS:=(ZI K a E E)
def ZJ(K:FK)(a:Ad)(E E1:XE):TS:=(BH (AC (A4 K) (AC (A4 K) (BX (a "Layout") "blocks_ahead_of_marks" (GG K a) [] E (AA 0) AG) (BP K (AA 0) "record_blocks")) (BP K (AA 0) "piece_blocks")))
theorem sP:type_of% (AF (ZJ.eq_1 K a E E1) D σ H):=rfl
def RB(K:FK)(a:Ad)(E:XE):TS:=(ZJ K a E E)
def ZK(K:FK)(a:Ad)(E E1:XE):TS:=(AY (tC (.str "abcdefghijklmnopqrstuvwxyz")) (AJ 2))
theorem sQ:type_of% (AF (ZK.eq_1 K a E E1) D σ H):=rfl
def ZL(K:FK)(a:Ad)(E E1:XE):TS:=(AY (BR (E9 K a) [] E (AD (AC ES (AA 0) (tC (.int 2))) (AD (tC (.int 12)) AG))) (AJ 3))
theorem sT:type_of% (AF (ZL.eq_1 K a E E1) D σ H):=rfl
def ZM(K:FK)(a:Ad)(E E1:XE):TS:=(BH (BI (CF (AD (AA 1) AG)) (AJ 0) CY (AC (CC K) (AC (AL K) (AA 1) (AC BY (AC (A4 K) (AC (AL K) (AA 2) (tC (.int 0))) (AC ES (AA 0) (tC (.int 8)))) (tC (.int 26)))) (AC (A4 K) (tC (.int 1)) (AC BY (AA 0) (tC (.int 8))))) 1 [2,3]))
theorem sU:type_of% (AF (ZM.eq_1 K a E E1) D σ H):=rfl
def ZN(K:FK)(a:Ad)(E E1:XE):TS:=(CA (A1 (AC (BO K) (AC BY (AA 0) (tC (.int 2))) (tC (.int 1)))) (ZM K a E E) CD)
theorem sV:type_of% (AF (ZN.eq_1 K a E E1) D σ H):=rfl
def ZO(K:FK)(a:Ad)(E E1:XE):TS:=(AY (AC (A4 K) (tC (.int 2)) (AC BY (AC (AL K) (AA 3) (tC (.int 0))) (tC (.int 7)))) (AJ 4))
theorem sW:type_of% (AF (ZO.eq_1 K a E E1) D σ H):=rfl
def ZP(K:FK)(a:Ad)(E E1:XE):TS:=(AY (AC BY (AC (AL K) (AA 3) (tC (.int 1))) (AA 4)) (AJ 5))
theorem sX:type_of% (AF (ZP.eq_1 K a E E1) D σ H):=rfl
def ZQ(K:FK)(a:Ad)(E E1:XE):TS:=(AY (AC BY (AC (A4 K) (AC (A4 K) (AA 5) (tC (.int 1))) (AC BY (AC (AL K) (AA 3) (tC (.int 2))) (AC PB (AA 4) (tC (.int 1))))) (AA 4)) (AJ 6))
theorem sY:type_of% (AF (ZQ.eq_1 K a E E1) D σ H):=rfl
def ZR(K:FK)(a:Ad)(E E1:XE):TS:=(AY (C6 AG) (AJ 7))
theorem sZ:type_of% (AF (ZR.eq_1 K a E E1) D σ H):=rfl
def ZS(K:FK)(a:Ad)(E E1:XE):TS:=(AY (tC (.str "")) (AJ 9))
theorem tD:type_of% (AF (ZS.eq_1 K a E E1) D σ H):=rfl
def ZT(K:FK)(a:Ad)(E E1:XE):TS:=(AY (AC (A4 K) (AC (CC K) (AA 8) (BW (JG K) (AD (AC (BO K) (AA 10) (AA 5)) AG))) (AC (CC K) (AC ES (AA 8) (tC (.int 26))) (BW (JG K) (AD (AC (BO K) (AA 10) (AA 6)) AG)))) (AJ 11))
theorem tE:type_of% (AF (ZT.eq_1 K a E E1) D σ H):=rfl
def ZU(K:FK)(a:Ad)(E E1:XE):TS:=(AY (AC (A4 K) (AA 9) (AC (AL K) (AA 2) (AC BY (AC (A4 K) (AC (AL K) (AA 3) (AC (A4 K) (tC (.int 3)) (AA 10))) (AA 11)) (tC (.int 26))))) (AJ 9))
theorem tF:type_of% (AF (ZU.eq_1 K a E E1) D σ H):=rfl
def ZV(K:FK)(a:Ad)(E E1:XE):TS:=(C0 (CF (AD (AA 4) AG)) (AJ 10) (AO (ZT K a E E) (ZU K a E E)))
theorem tG:type_of% (AF (ZV.eq_1 K a E E1) D σ H):=rfl
def ZW(K:FK)(a:Ad)(E E1:XE):TS:=(DR (ER K "list" GZ (AA 7) (AD (AA 9) AG)))
theorem tH:type_of% (AF (ZW.eq_1 K a E E1) D σ H):=rfl
def ZX(K:FK)(a:Ad)(E E1:XE):TS:=(C0 (CF (AD (AA 1) AG)) (AJ 8) (AO (ZS K a E E) (AO (ZV K a E E) (ZW K a E E))))
theorem tI:type_of% (AF (ZX.eq_1 K a E E1) D σ H):=rfl
def ZY(K:FK)(a:Ad)(E E1:XE):TS:=(BH (AA 7))
theorem tJ:type_of% (AF (ZY.eq_1 K a E E1) D σ H):=rfl
def RC(K:FK)(a:Ad)(E:XE):TS:=(AO (ZK K a E E) (AO (ZL K a E E) (AO (ZN K a E E) (AO (ZO K a E E) (AO (ZP K a E E) (AO (ZQ K a E E) (AO (ZR K a E E) (AO (ZX K a E E) (ZY K a E E)))))))))
def ZZ(K:FK)(a:Ad)(E E1:XE):TS:=(AY (tC (.str " !\"#$&'()*+,-./0123456789:;<=>?@ABCDEFGHIJKLMNOPQRSTUVWXYZ[\\]^_`")) (AJ 1))
theorem tK:type_of% (AF (ZZ.eq_1 K a E E1) D σ H):=rfl
def Z0(K:FK)(a:Ad)(E E1:XE):TS:=(AY (AC (A4 K) (AA 1) (tC (.str "abcdefghijklmnopqrstuvwxyz{|}~"))) (AJ 1))
theorem tL:type_of% (AF (Z0.eq_1 K a E E1) D σ H):=rfl
def Z1(K:FK)(a:Ad)(E E1:XE):TS:=(AY (BR (E9 K a) [] E (AD (AA 0) (AD (tC (.int 3)) AG))) (AJ 2))
theorem tM:type_of% (AF (Z1.eq_1 K a E E1) D σ H):=rfl
def Z2(K:FK)(a:Ad)(E E1:XE):TS:=(AY (AC (A4 K) (tC (.int 1)) (AC BY (AC (AL K) (AA 2) (tC (.int 0))) (tC (.int 6)))) (AJ 3))
theorem tN:type_of% (AF (Z2.eq_1 K a E E1) D σ H):=rfl
def Z3(K:FK)(a:Ad)(E E1:XE):TS:=(AY (tC (.int 40)) (AJ 3))
theorem tO:type_of% (AF (Z3.eq_1 K a E E1) D σ H):=rfl
def Z4(K:FK)(a:Ad)(E E1:XE):TS:=(CA (A1 (AC (BO K) (AC BY (AC ES (AC (AL K) (AA 2) (tC (.int 0))) (tC (.int 6))) (tC (.int 8))) (tC (.int 0)))) (Z3 K a E E) CD)
theorem tP:type_of% (AF (Z4.eq_1 K a E E1) D σ H):=rfl
def RD(K:FK)(a:Ad)(E E1:XE):TS:=(BH (ER K "str" (U8 K) (tC (.str "")) (AD (BI (CF (AD (AA 3) AG)) (AJ 0) CY (AC (AL K) (AA 1) (AC BY (AC (A4 K) (AC (AL K) (AA 2) (tC (.int 1))) (AC (CC K) (AA 0) (AC (AL K) (AA 2) (tC (.int 2))))) (tC (.int 94)))) 1 [1,2]) AG)))
theorem tQ:type_of% (AF (RD.eq_1 K a E E1) D σ H):=rfl
def RE(K:FK)(a:Ad)(E:XE):TS:=(AO (ZZ K a E E) (AO (Z0 K a E E) (AO (Z1 K a E E) (AO (Z2 K a E E) (AO (Z4 K a E E) (RD K a E E))))))
def Z5(K:FK)(a:Ad)(E E1:XE):TS:=(AY (BR (E9 K a) [] E (AD (AC ES (AA 0) (tC (.int 48))) (AD (tC (.int 3)) AG))) (AJ 1))
theorem tR:type_of% (AF (Z5.eq_1 K a E E1) D σ H):=rfl
def Z6(K:FK)(a:Ad)(E E1:XE):TS:=(AY (OD (A1 (AC (BO K) (AC BY (AC ES (AA 0) (tC (.int 6))) (tC (.int 8))) (tC (.int 3)))) (tC (.int 6)) (tC (.int 3))) (AJ 2))
theorem tS:type_of% (AF (Z6.eq_1 K a E E1) D σ H):=rfl
def RF(K:FK)(a:Ad)(E E1:XE):TS:=(BH (B2 (AD (AC (A4 K) (tC (.int 1)) (AC BY (AC (AL K) (AA 1) (tC (.int 0))) (AA 2))) (AD (AC (A4 K) (tC (.int 1)) (AC BY (AC (AL K) (AA 1) (tC (.int 1))) (AA 2))) (AD (AC (A4 K) (tC (.int 1)) (AC BY (AC (AL K) (AA 1) (tC (.int 2))) (AA 2))) (AD (AC (A4 K) (tC (.int 1)) (AC BY (AA 0) (tC (.int 6)))) AG))))))
theorem tT:type_of% (AF (RF.eq_1 K a E E1) D σ H):=rfl
def RG(K:FK)(a:Ad)(E:XE):TS:=(AO (Z5 K a E E) (AO (Z6 K a E E) (RF K a E E)))
def Z7(K:FK)(a:Ad)(E E1:XE):TS:=(BH (AC (A4 K) (AC (A4 K) (BR (MA K a) [] E (AD (AA 0) AG)) (BR (MB K a) [] E (AD (AA 0) AG))) (BR (MC K a) [] E (AD (AA 0) AG))))
theorem tU:type_of% (AF (Z7.eq_1 K a E E1) D σ H):=rfl
def RH(K:FK)(a:Ad)(E:XE):TS:=(Z7 K a E E)
def Z8(K:FK)(a:Ad)(E E1:XE):TS:=(BH (AC (A4 K) (AC (A4 K) (BR (MD K a) [] E (AD (AA 0) AG)) (BR (ME K a) [] E (AD (AA 0) AG))) (BR (MF K a) [] E (AD (AA 0) AG))))
theorem tV:type_of% (AF (Z8.eq_1 K a E E1) D σ H):=rfl
def RI(K:FK)(a:Ad)(E:XE):TS:=(Z8 K a E E)
def Z9(K:FK)(a:Ad)(E E1:XE):TS:=(BH (BI (B8 K (AA 1)) (EH K 2 (CQ (AJ 0) (CQ (AJ 1) EG))) CY (AC (AL K) (BX (a "Plank") "read" (HU K a) [] (λ_=>E0) (AA 2) (AD (AA 0) AG)) (AA 1)) 2 [0]))
theorem tW:type_of% (AF (Z9.eq_1 K a E E1) D σ H):=rfl
def RJ(K:FK)(a:Ad)(E:XE):TS:=(Z9 K a E E)
def aA(K:FK)(a:Ad)(E E1:XE):TS:=(BH (HI (a "Plank") (LQ K a) [] E (AD (BX (a "Layout") "blocks" (L4 K a) [] E (AA 0) AG) (AD (BP K (AA 0) "width") AG))))
theorem tX:type_of% (AF (aA.eq_1 K a E E1) D σ H):=rfl
def RK(K:FK)(a:Ad)(E:XE):TS:=(aA K a E E)
def aB(K:FK)(a:Ad)(E E1:XE):TS:=(AY (BR (E9 K a) [] E (AD (AC ES (AA 1) (tC (.int 6))) (AD (tC (.int 8)) AG))) (AJ 3))
theorem tY:type_of% (AF (aB.eq_1 K a E E1) D σ H):=rfl
def aC(K:FK)(a:Ad)(E E1:XE):TS:=(AY (AC BY (AA 1) (tC (.int 6))) (AJ 4))
theorem tZ:type_of% (AF (aC.eq_1 K a E E1) D σ H):=rfl
def aD(K:FK)(a:Ad)(E E1:XE):TS:=(AY (AC (AL K) (AA 0) (AC (AL K) (C6 (AD (tC (.int 0)) (AD (tC (.int 1)) (AD (tC (.int 1)) (AD (tC (.int 2)) (AD (tC (.int 3)) (AD (tC (.int 4)) AG))))))) (AA 4))) (AJ 5))
theorem t0:type_of% (AF (aD.eq_1 K a E E1) D σ H):=rfl
def aE(K:FK)(a:Ad)(E E1:XE):TS:=(AY (AC (AL K) (C6 (AD (tC .non) (AD (tC (.int 0)) (AD (tC (.int 1)) (AD (tC (.int 1)) AG))))) (AC BY (AC (AL K) (AA 3) (tC (.int 1))) (tC (.int 4)))) (AJ 6))
theorem t1:type_of% (AF (aE.eq_1 K a E E1) D σ H):=rfl
def aF(K:FK)(a:Ad)(E E1:XE):TS:=(AY (B2 (AD (AC (AL K) (AA 2) (AC BY (AC (AL K) (AA 3) (tC (.int 2))) (tC (.int 5)))) (AD (AC BY (AC (AL K) (AA 3) (tC (.int 3))) (BW (CN K) (AD (AC (AL K) (AA 0) (tC (.int 1))) AG))) AG))) (AJ 6))
theorem t3:type_of% (AF (aF.eq_1 K a E E1) D σ H):=rfl
def aG(K:FK)(a:Ad)(E E1:XE):TS:=(AY (tC .non) (AJ 6))
theorem t4:type_of% (AF (aG.eq_1 K a E E1) D σ H):=rfl
def aH(K:FK)(a:Ad)(E E1:XE):TS:=(CA (A1 (AC (BO K) (AC BY (AC (AL K) (AA 3) (tC (.int 1))) (tC (.int 6))) (tC (.int 0)))) (aG K a E E) CD)
theorem t5:type_of% (AF (aH.eq_1 K a E E1) D σ H):=rfl
def RL(K:FK)(a:Ad)(E E1:XE):TS:=(CA (A1 (AC (BO K) (AA 4) (tC (.int 0)))) (AO (aF K a E E) (aH K a E E)) CD)
theorem JU:type_of% (AF (RL.eq_1 K a E E1) D σ H):=rfl
def aI(K:FK)(a:Ad)(E E1:XE):TS:=(AY (BR (ML K a) [] E (AD (AA 3) (AD (BW (CN K) (AD (AC (AL K) (AA 0) (tC (.int 2))) AG)) AG))) (AJ 6))
theorem aJ:type_of% (AF (aI.eq_1 K a E E1) D σ H):=rfl
def NZ(K:FK)(a:Ad)(E E1:XE):TS:=(CA (GO (A1 (AC (BO K) (AA 4) (tC (.int 1)))) (A1 (AC (BO K) (AA 4) (tC (.int 2))))) (aI K a E E) CD)
theorem JV:type_of% (AF (NZ.eq_1 K a E E1) D σ H):=rfl
def aK(K:FK)(a:Ad)(E E1:XE):TS:=(AY (BR (MI K a) [] E (AD (AC (AL K) (AA 3) (tC (.int 2))) AG)) (AJ 6))
theorem t6:type_of% (AF (aK.eq_1 K a E E1) D σ H):=rfl
def aL(K:FK)(a:Ad)(E E1:XE):TS:=(AY (tC .non) (AJ 6))
theorem t7:type_of% (AF (aL.eq_1 K a E E1) D σ H):=rfl
def aM(K:FK)(a:Ad)(E E1:XE):TS:=(CA (A1 (AC (BO K) (AC BY (AC (AL K) (AA 3) (tC (.int 1))) (tC (.int 6))) (tC (.int 0)))) (aL K a E E) CD)
theorem t8:type_of% (AF (aM.eq_1 K a E E1) D σ H):=rfl
def N0(K:FK)(a:Ad)(E E1:XE):TS:=(CA (A1 (AC (BO K) (AA 4) (tC (.int 3)))) (AO (aK K a E E) (aM K a E E)) CD)
theorem JW:type_of% (AF (N0.eq_1 K a E E1) D σ H):=rfl
def HB(K:FK)(a:Ad)(E E1:XE):TS:=(AY (AA 6) (IZ (AA 5) (AC BY (AC (AL K) (AA 3) (tC (.int 0))) (BW (CN K) (AD (AA 5) AG))) HN))
theorem t9:type_of% (AF (HB.eq_1 K a E E1) D σ H):=rfl
def RM(K:FK)(a:Ad)(E:XE):TS:=(AO (aB K a E E) (AO (aC K a E E) (AO (aD K a E E) (AO (aE K a E E) (AO (RL K a E E) (AO (NZ K a E E) (AO (N0 K a E E) (HB K a E E))))))))
def aN(K:FK)(a:Ad)(E E1:XE):TS:=(AY (BX (a "Layout") "counts" (L6 K a) [] E (AA 1) AG) (AJ 3))
theorem uA:type_of% (AF (aN.eq_1 K a E E1) D σ H):=rfl
def aO(K:FK)(a:Ad)(E E1:XE):TS:=(AY (AC (AL K) (AA 3) (tC (.int 1))) (AJ 4))
theorem uB:type_of% (AF (aO.eq_1 K a E E1) D σ H):=rfl
def aP(K:FK)(a:Ad)(E E1:XE):TS:=(AY (AC (AL K) (AA 3) (tC (.int 2))) (AJ 5))
theorem uC:type_of% (AF (aP.eq_1 K a E E1) D σ H):=rfl
def aQ(K:FK)(a:Ad)(E E1:XE):TS:=(DN K (AA 0) (BR (FO K a) [] E (AD (AA 2) (AD (BI (CF (AD (AC (AL K) (AA 3) (tC (.int 0))) AG)) (AJ 0) CY (BX (a "Layout") "name_at" (LU K a) [] (λ_=>E0) (AA 1) (AD (AA 0) AG)) 1 [1]) AG))) "name_values")
theorem uD:type_of% (AF (aQ.eq_1 K a E E1) D σ H):=rfl
def aR(K:FK)(a:Ad)(E E1:XE):TS:=(DN K (AA 0) (BR (FO K a) [] E (AD (AA 2) (AD (BI (CF (AD (AA 4) AG)) (AJ 0) CY (BX (a "Layout") "record_at" (LW K a) [] (λ_=>E0) (AA 1) (AD (AA 0) AG)) 1 [1]) AG))) "record_values")
theorem uE:type_of% (AF (aR.eq_1 K a E E1) D σ H):=rfl
def aS(K:FK)(a:Ad)(E E1:XE):TS:=(DN K (AA 0) (BR (FO K a) [] E (AD (AA 2) (AD (BI (CF (AD (AA 5) AG)) (AJ 0) CY (BX (a "Layout") "piece_at" (LX K a) [] (λ_=>E0) (AA 1) (AD (AA 0) AG)) 1 [1]) AG))) "piece_values")
theorem uF:type_of% (AF (aS.eq_1 K a E E1) D σ H):=rfl
def aT(K:FK)(a:Ad)(E E1:XE):TS:=(DN K (AA 0) (BR (FO K a) [] E (AD (AA 2) (AD (BI (CF (AD (AA 4) AG)) (AJ 0) CY (BX (a "Layout") "record_mark" (LY K a) [] (λ_=>E0) (AA 1) (AD (AA 0) AG)) 1 [1]) AG))) "record_marks")
theorem uG:type_of% (AF (aT.eq_1 K a E E1) D σ H):=rfl
def aU(K:FK)(a:Ad)(E E1:XE):TS:=(DN K (AA 0) (BR (FO K a) [] E (AD (AA 2) (AD (BI (CF (AD (AA 5) AG)) (AJ 0) CY (BX (a "Layout") "piece_mark" (LZ K a) [] (λ_=>E0) (AA 1) (AD (AA 0) AG)) 1 [1]) AG))) "piece_marks")
theorem uH:type_of% (AF (aU.eq_1 K a E E1) D σ H):=rfl
def aV(K:FK)(a:Ad)(E E1:XE):TS:=(DN K (AA 0) (BR (HV K a) [] E (AD (AA 4) (AD (BI (B8 K (BP K (AA 0) "name_values")) (AJ 0) (A1 (AC E7 (AA 0) (tC .non))) (AC (AL K) (AA 0) (tC (.int 1))) 1 []) AG))) "leads")
theorem uI:type_of% (AF (aV.eq_1 K a E E1) D σ H):=rfl
def aW(K:FK)(a:Ad)(E E1:XE):TS:=(DN K (AA 0) (BR (HV K a) [] E (AD (AA 5) (AD (BR (JR K a) [] E (AD (BP K (AA 0) "record_values") AG)) AG))) "namings")
theorem uJ:type_of% (AF (aW.eq_1 K a E E1) D σ H):=rfl
def aX(K:FK)(a:Ad)(E E1:XE):TS:=(DN K (AA 0) (BR (HV K a) [] E (AD (AA 5) (AD (BR (JR K a) [] E (AD (BX (a "View") "records_led_to" (L9 K a) [] E (AA 0) AG) AG)) AG))) "reached")
theorem uK:type_of% (AF (aX.eq_1 K a E E1) D σ H):=rfl
def RN(K:FK)(a:Ad)(E:XE):TS:=(AO (aN K a E E) (AO (aO K a E E) (AO (aP K a E E) (AO (aQ K a E E) (AO (aR K a E E) (AO (aS K a E E) (AO (aT K a E E) (AO (aU K a E E) (AO (aV K a E E) (AO (aW K a E E) (aX K a E E)))))))))))
def aY(K:FK)(a:Ad)(E E1:XE):TS:=(AY (BI (B8 K (JD (HM K) (AA 1) K8 (HJ (tC (.int 3))))) (AJ 0) CY (AC (CC K) (AA 0) (AC (AL K) (AA 1) (tC (.int 3)))) 1 [1]) (AJ 3))
theorem uL:type_of% (AF (aY.eq_1 K a E E1) D σ H):=rfl
def aZ(K:FK)(a:Ad)(E E1:XE):TS:=(AY (C6 (AD (AC (CC K) (C6 (AD (tC .non) AG)) (AC (AL K) (AA 3) (tC (.int 0)))) (AD (AC (CC K) (C6 (AD (tC .non) AG)) (AC (AL K) (AA 3) (tC (.int 1)))) (AD (AC (CC K) (C6 (AD (tC .non) AG)) (AC (AL K) (AA 3) (tC (.int 2)))) (AD (AC (CC K) (C6 (AD (tC .non) AG)) (AC (AL K) (AA 3) (tC (.int 1)))) (AD (AC (CC K) (C6 (AD (tC .non) AG)) (AC (AL K) (AA 3) (tC (.int 2)))) AG)))))) (AJ 4))
theorem uM:type_of% (AF (aZ.eq_1 K a E E1) D σ H):=rfl
def bA(K:FK)(a:Ad)(E E1:XE):TS:=(DR (BR (MN K a) [] E (AD (AA 4) (AD (AA 5) (AD (AA 2) AG)))))
theorem uN:type_of% (AF (bA.eq_1 K a E E1) D σ H):=rfl
def bB(K:FK)(a:Ad)(E E1:XE):TS:=(C0 (B8 K (JD (HM K) (AA 0) (HJ (tC (.int 2))) K8)) (AJ 5) (bA K a E E))
theorem uO:type_of% (AF (bB.eq_1 K a E E1) D σ H):=rfl
def bC(K:FK)(a:Ad)(E E1:XE):TS:=(BH (AA 4))
theorem uP:type_of% (AF (bC.eq_1 K a E E1) D σ H):=rfl
def RO(K:FK)(a:Ad)(E:XE):TS:=(AO (aY K a E E) (AO (aZ K a E E) (AO (bB K a E E) (bC K a E E))))
def bD(K:FK)(a:Ad)(E E1:XE):TS:=(AY (HI (a "View") (HA K a) [] E (AD (AA 0) (AD (AA 1) AG))) (AJ 2))
theorem uQ:type_of% (AF (bD.eq_1 K a E E1) D σ H):=rfl
def bE(K:FK)(a:Ad)(E E1:XE):TS:=(BH (AC (A4 K) (BR (HY K a) [] E (AD (AA 2) AG)) (BR (MG K a) [] E (AD (AA 2) AG))))
theorem uR:type_of% (AF (bE.eq_1 K a E E1) D σ H):=rfl
def RP(K:FK)(a:Ad)(E:XE):TS:=(AO (bD K a E E) (bE K a E E))
def bF(K:FK)(a:Ad)(E E1:XE):TS:=(BH (AC (BO K) (BW (CN K) (AD (BR (HY K a) [] E (AD (HI (a "View") (HA K a) [] E (AD (AA 0) (AD (AA 1) AG))) AG)) AG)) (tC (.int 0))))
theorem uS:type_of% (AF (bF.eq_1 K a E E1) D σ H):=rfl
def RQ(K:FK)(a:Ad)(E:XE):TS:=(bF K a E E)
def bG(K:FK)(a:Ad)(E E1:XE):TS:=(AY (BR (MJ K a) [] E (AD (BR (G3 K a) [] E (AD (AA 0) (AD (tC (.int 0)) AG))) AG)) (AJ 1))
theorem uT:type_of% (AF (bG.eq_1 K a E E1) D σ H):=rfl
def bH(K:FK)(a:Ad)(E E1:XE):TS:=(AY (BR (MP K a) [] E (AD (AA 0) (AD (AA 1) (AD (BR (MK K a) [] E (AD (BR (G3 K a) [] E (AD (AA 0) (AD (tC (.int 1)) AG))) (AD (tC (.int 5)) AG))) AG)))) (AJ 2))
theorem uU:type_of% (AF (bH.eq_1 K a E E1) D σ H):=rfl
def bI(K:FK)(a:Ad)(E E1:XE):TS:=(AY (BR (MO K a) [] E (AD (AA 2) (AD (AC (AL K) (AA 1) (tC (.int 3))) AG))) (AJ 3))
theorem uV:type_of% (AF (bI.eq_1 K a E E1) D σ H):=rfl
def bJ(K:FK)(a:Ad)(E E1:XE):TS:=(AY (HI (a "Layout") (JK K a) [] E (AD (AC (AL K) (AA 1) (tC (.int 0))) (AD (AC (AL K) (AA 1) (tC (.int 1))) (AD (AC (AL K) (AA 1) (tC (.int 2))) (AD (AC (AL K) (AA 1) (tC (.int 3))) AG))))) (AJ 4))
theorem uW:type_of% (AF (bJ.eq_1 K a E E1) D σ H):=rfl
def bK(K:FK)(a:Ad)(E E1:XE):TS:=(AY (BX (a "Layout") "plank" (L7 K a) [] E (AA 4) AG) (AJ 5))
theorem uX:type_of% (AF (bK.eq_1 K a E E1) D σ H):=rfl
def bL(K:FK)(a:Ad)(E E1:XE):TS:=(DR (BX (a "Plank") "write" (LS K a) [] E (AA 5) (AD (AA 6) (AD (BW (LI K) (AD (AC (AL K) (AA 3) (AA 6)) AG)) AG))))
theorem uY:type_of% (AF (bL.eq_1 K a E E1) D σ H):=rfl
def bN(K:FK)(a:Ad)(E E1:XE):TS:=(C0 (CF (AD (BW (CN K) (AD (AA 3) AG)) AG)) (AJ 6) (bL K a E E))
theorem uZ:type_of% (AF (bN.eq_1 K a E E1) D σ H):=rfl
def bO(K:FK)(a:Ad)(E E1:XE):TS:=(AY (BR (MQ K a) [] E (AD (AA 2) AG)) (EH K 2 (CQ (AJ 7) (CQ (AJ 8) EG))))
theorem u0:type_of% (AF (bO.eq_1 K a E E1) D σ H):=rfl
def bP(K:FK)(a:Ad)(E E1:XE):TS:=(AY (BR (MR K a) [] E (AD (AA 2) (AD (AA 7) (AD (AA 8) AG)))) (AJ 9))
theorem vA:type_of% (AF (bP.eq_1 K a E E1) D σ H):=rfl
def bQ(K:FK)(a:Ad)(E E1:XE):TS:=(AY (AC (A4 K) (AA 9) (BR (MS K a) [] E (AD (AA 2) (AD (AA 7) AG)))) (AJ 10))
theorem vB:type_of% (AF (bQ.eq_1 K a E E1) D σ H):=rfl
def bR(K:FK)(a:Ad)(E E1:XE):TS:=(AY (BR (JS K a) [] E (AD (AA 4) (AD (AA 5) AG))) (AJ 11))
theorem vC:type_of% (AF (bR.eq_1 K a E E1) D σ H):=rfl
def bS(K:FK)(a:Ad)(E E1:XE):TS:=(AY (BR (MH K a) [] E (AD (AA 4) (AD (AA 5) AG))) (AJ 12))
theorem vD:type_of% (AF (bS.eq_1 K a E E1) D σ H):=rfl
def vE(K:FK)(a:Ad)(E E1:XE):TS:=(BH (tC (.bl false)))
def bT(K:FK)(a:Ad)(E E1:XE):TS:=(CA (GO (FW (GY K (BR (JT K a) [] E (AD (AA 11) (AD (AA 10) AG))))) (GO (FW (GY K (BW (HP K) (AD (AA 12) (AD (tC (.ty "bool")) AG))))) (A1 (AC (CM K) (AA 12) (AC (BO K) (AA 9) (C6 AG)))))) (vE K a E E) CD)
theorem vF:type_of% (AF (bT.eq_1 K a E E1) D σ H):=rfl
def bU(K:FK)(a:Ad)(E E1:XE):TS:=(DR (OW K "list" iN (AA 11)))
theorem vG:type_of% (AF (bU.eq_1 K a E E1) D σ H):=rfl
def vH(K:FK)(a:Ad)(E E1:XE):TS:=(BH (tC (.bl false)))
def bV(K:FK)(a:Ad)(E E1:XE):TS:=(CA (GO (FW (GY K (BR (JT K a) [] E (AD (BR (JS K a) [] E (AD (AA 4) (AD (AA 5) AG))) (AD (AA 10) AG))))) (A1 (AC (CM K) (BX (a "Plank") "writings" (LR K a) [] E (AA 5) AG) (BW (CN K) (AD (AA 3) AG))))) (vH K a E E) CD)
theorem vI:type_of% (AF (bV.eq_1 K a E E1) D σ H):=rfl
def bW(K:FK)(a:Ad)(E E1:XE):TS:=(BH (AC (BO K) (BI (CF (AD (BW (CN K) (AD (AA 3) AG)) AG)) (AJ 0) CY (BX (a "Plank") "read" (HU K a) [] (λ_=>E0) (AA 1) (AD (AA 0) AG)) 1 [5]) (AA 3)))
theorem vJ:type_of% (AF (bW.eq_1 K a E E1) D σ H):=rfl
def RR(K:FK)(a:Ad)(E:XE):TS:=(AO (bG K a E E) (AO (bH K a E E) (AO (bI K a E E) (AO (bJ K a E E) (AO (bK K a E E) (AO (bN K a E E) (AO (bO K a E E) (AO (bP K a E E) (AO (bQ K a E E) (AO (bR K a E E) (AO (bS K a E E) (AO (bT K a E E) (AO (bU K a E E) (AO (bV K a E E) (bW K a E E)))))))))))))))
end
end L2
namespace L2
local macro_rules
 | `(tactic| push_cast[$ls,*])=>`(tactic| simp only[↓iT,↓iU,↓iV,↓iW,↓iX,↓iY,↓iZ,↓i0,↓i3,↓i4,↓i5,↓i6,↓i7,↓i8,↓i9,↓jA,↓jB,↓jC,↓jD,↓jE,↓jF,↓jG,↓jH,↓jI,↓jJ,↓jK,↓jL,↓jM,↓jN,↓jO,↓jP,↓jQ,↓jR,↓jS,↓jT,↓jU,↓jV,↓jW,↓jX,↓jY,↓jZ,↓j0,↓j1,↓j2,↓j3,↓j4,↓j5,↓j6,↓j7,↓j8,↓j9,↓kA,↓kB,
     ↓PF,↓kC,↓kE,↓kF,↓kG,↓kH,↓kI,↓kJ,↓kK,↓kL,↓kM,↓kQ,↓kS,↓kR,↓kT,↓kU,↓kW,↓kX,↓kY,↓kO,↓kN,↓kP,↓kZ,↓k7,↓UQ,↓k8,↓k9,↓UR,↓lA,↓lB,↓US,↓lC,↓lD,↓UT,↓lE,↓lF,↓lG,↓lH,↓lI,↓lJ,↓lK,↓lL,↓lM,↓UU,↓lN,
     PB,BY,ES,PD,iE,iF,Ends.drop,A7,List.map_cons,List.map_nil,List.length_cons,List.length_nil,List.reduceReplicate,Nat.reduceAdd,Nat.reduceSub,Nat.zero_add,List.cons_append,List.nil_append,List.append_nil,List.getElem?_cons_zero,List.getElem?_cons_succ,Option.some.injEq,Option.join_some,List.set_cons_zero,List.set_cons_succ,
     V.int.injEq,V.ref.injEq,V.bl.injEq,V.str.injEq,List.cons.injEq,and_true,true_and,exists_eq_left',exists_eq_left,exists_eq',exists_eq,exists_and_left,exists_and_right,reduceCtorEq,false_and,and_false,or_false,false_or,exists_false,decide_eq_true_eq,Bool.not_eq_true',Bool.not_eq_true,decide_eq_false_iff_not,eq_self_iff_true,if_true,Bool.false_eq_true,if_false,ite_true,Bool.true_eq_false,forall_const,and_assoc,Int.reduceToNat,Int.reduceLT,Int.reduceLE,Int.reduceEq,Nat.reduceLeDiff,Int.toNat_natCast,not_true_eq_false,not_false_eq_true,Bool.not_false,Bool.not_true,↓mD,↓mE,↓mF,↓mG,↓mH,↓mI,↓mJ,↓mK,↓mM,↓mC,↓mB,↓l0,↓l9,↓lU,↓mX,↓nQ,↓nK,↓m8,↓m7,↓lV,↓lT,$ls,*])
section
variable{K:W.Frag}{a:Ad}{vs:List V}{H:Hp}{Q:VK}{E:XK}
theorem vK(h:LQ K a vs H Q E):QJ K a (λ_=>E) (A8 Q) (A7 ["self","blocks","cells"] vs) H:=by
 obtain⟨p,dx,m,w,rfl,T,hp,hm,h1,h2,q⟩:=h
 push_cast[QJ,↓pA,↓pB,↓pC]
 refine⟨by omega,by omega,?_⟩
 refine HQ (small m (by omega)) (λi ys H'=>Same H H'/\∃ ts:List Addr,ys=ts.map V.ref/\Paired (λt r=>H' t=some (.tup r)) ts (List.replicate i (List.replicate w .non))) ⟨Same.refl _,[],rfl,.nil⟩ (λi ys H' hi hl ⟨s,ts,e,P⟩=> ?_) (λys H' hl ⟨s,ts,e,P⟩ cl hcl=> ?_)
 ·push_cast[A5,Option.join_some,Int.zero_add]
  refine⟨by decide,λt ht=>.inr ?_⟩
  have fin:∀ (t':Addr) (H2:Hp),Same H' H2->H2 t'=some (.tup (List.replicate w .non))->Same H H2/\∃ ts':List Addr,ys++[V.ref t']=ts'.map V.ref/\Paired (λt r=>H2 t=some (.tup r)) ts' (List.replicate (i+1) (List.replicate w .non)):=λt' H2 s2 e2=>by
   refine⟨s.trans s2,ts++[t'],by rw[e,List.map_append];rfl,?_⟩
   rw[List.replicate_succ']
   exact Paired.snoc (Paired.mapP P λt r z=>s2 _ _ z) e2
  have s1:Same H' (upd H' t (.tup [V.non])):=λb o z=>by rw[AS (BG z ht)];exact z
  refine⟨t,w,[.non],rfl,rfl,SqT.of AU,by simp,by omega,by omega,small _ (by simp;omega),λe1=> ?_,λe1 u hu=> ?_⟩
  ·have e1:w=1:=by omega
   refine fin t _ s1 ?_
   rw[AU,e1];rfl
  ·rw[Int.toNat_natCast,UW]
   exact fin u _ (s1.trans λb o z=>by rw[AS (BG z hu)];exact z) AU
 ·have npc:p≠cl:=BG (s _ _ hp) hcl
  have e1:upd H' cl (HO.lst ys) p=some (HO.ins (a "Plank") dx []):=by rw[AS npc];exact s _ _ hp
  refine⟨_,_,_,e1,T.cl,T.nC,by decide,_,_,_,AU,T.cl,T.nW,GE (by decide),_,_,_,AU,T.cl,T.nN,GE (n:=1000) (Nat.succ_lt_succ (GE (n:=999) (by decide))),?_⟩
  rw[nX,K0,K0]
  refine q cl _ (s.free hcl) ⟨⟨dx,AU⟩,⟨ts,by rw[AS npc.symm,AU,e],?_⟩,λr hr=> ?_,by simpa using hm,h2⟩ λb o eb hb=> ?_
  ·refine Paired.mapP P λt r z=> ?_
   rw[AS (DA z (s _ _ hp) (by intro z';cases z')),AS (BG z hcl)]
   exact z
  ·rw[List.eq_of_mem_replicate hr,List.length_replicate]
  ·rw[AS hb,AS (BG (s _ _ eb) hcl)]
   exact s _ _ eb
theorem vL(h:GF K a vs H Q E):QL K a (λ_=>E) (A8 Q) (A7 ["self","block"] vs) H:=by
 obtain⟨p,cl,w,rows,n,b,rfl,T,P,q,qe⟩:=h
 obtain⟨dx,h1⟩:=P.ob
 obtain⟨ts,h2,h3⟩:=P.ls
 push_cast[QL,↓pE,↓pF]
 have hl:rows.length=(ts.map V.ref).length:=by rw[List.length_map,h3.length]
 split
 ·rename_i h0
  refine⟨_,_,_,h1,T.cl,T.nC,_,PU _ _ _,rows.length,.inl ⟨_,SqL.of h2,hl⟩,?_⟩
  split
  ·exact⟨by decide,qe (by omega)⟩
  ·exact q h0 (by omega)
 ·exact⟨by decide,qe (by omega)⟩
theorem bX(cl:Addr)(w n:Int):(pf cl w n).lookup ("ask_for_block":Str)=none:=NU _ _ _ (by decide +kernel) (by decide +kernel) (by decide +kernel)
theorem vM(h:HU K a vs H Q E):Q4 K a (λ_=>E) (A8 Q) (A7 ["self","block"] vs) H:=by
 obtain⟨p,cl,w,rows,n,b,rfl,T,P,q,qe⟩:=h
 obtain⟨dx,h1⟩:=P.ob
 obtain⟨ts,h2,h3⟩:=P.ls
 push_cast[Q4,↓sD,↓sE,GF]
 refine⟨_,_,h1,bX _ _ _,T,cl,w,rows,⟨n,P⟩,λh0 hb=>⟨_,_,_,h1,T.cl,T.nC,_,PU _ _ _,?_⟩,qe⟩
 obtain⟨i,rfl⟩:∃ i:Nat,b=i:=⟨b.toNat,by omega⟩
 have hi:i<rows.length:=by omega
 obtain⟨t,et,ht⟩:=NR h3 (List.getElem?_eq_getElem hi)
 refine BN (SqL.of h2) rfl (v:=.ref t) (by rw[List.getElem?_map,et];rfl) ?_
 rw[UU]
 exact⟨_,.inr (SqT.of ht),q i _ rfl (List.getElem?_eq_getElem hi)⟩
theorem vN(h:LS K a vs H Q E):Q5 K a (λ_=>E) (A8 Q) (A7 ["self","block","values"] vs) H:=by
 obtain⟨p,cl,w,rows,n,b,v,xs,rfl,T,P,hv,hx,q,qe⟩:=h
 obtain⟨dx,h1⟩:=P.ob
 obtain⟨ts,h2,h3⟩:=P.ls
 have npc:=P.ne
 push_cast[Q5,↓sF,↓sG,↓sH,↓sI,↓sJ,GF]
 refine⟨_,_,h1,bX _ _ _,T,cl,w,rows,⟨n,P⟩,λh0 hb=>⟨xs.length,.inl ⟨_,hv,rfl⟩,_,_,_,h1,T.cl,T.nW,_,nU _ _ _,?_⟩,λz=>qe (z.imp id .inl)⟩
 obtain⟨i,rfl⟩:∃ i:Nat,b=i:=⟨b.toNat,by omega⟩
 have hi:i<rows.length:=by omega
 push_cast[]
 split
 ·exact⟨by decide,qe (.inr (.inr (by omega)))⟩
 ·rename_i hw
  have hw:xs.length=w:=by omega
  refine⟨xs,.inl ⟨hv,λt ht=> ?_⟩⟩
  have ntp:p≠t:=BG h1 ht
  have ntc:cl≠t:=BG h2 ht
  refine⟨_,_,_,by rw[AS ntp];exact h1,T.cl,T.nC,_,PU _ _ _,?_⟩
  refine⟨cl,ts.map V.ref,(i:Int),i,rfl,rfl,by rw[AS ntc];exact h2,?_,?_⟩
  ·unfold FI
   rw[if_pos (by omega),if_pos (by rw[List.length_map,h3.length];omega),Int.toNat_natCast]
  ·refine⟨_,_,_,by rw[AS npc,AS ntp];exact h1,T.cl,T.nN,_,VE _ _ _,?_⟩
   push_cast[]
   refine⟨_,_,by rw[AS npc,AS ntp];exact h1,by show 3<1000;decide,?_⟩
   rw[nY]
   refine q i rfl hi hw _ ⟨⟨dx,AU⟩,⟨ts.set i t,?_,?_⟩,λr hr=> ?_,by rw[List.length_set];exact P.sz,P.sw⟩ λx o ex hxn=> ?_
   ·rw[AS npc.symm,AU,List.map_set]
   ·have keep:∀ u r,H u=some (.tup r)->upd (upd (upd H t (.tup xs)) cl (.lst ((ts.map V.ref).set i (.ref t)))) p (.ins (a "Plank") dx (pf cl w ((n:Int)+1))) u=some (.tup r):=λu r hu=>by
     rw[AS (DA hu h1 (by intro z;cases z)),AS (DA hu h2 (by intro z;cases z)),AS (BG hu ht)]
     exact hu
    refine PH ?_ i (Paired.mapP h3 keep)
    rw[AS ntp.symm,AS ntc.symm,AU]
   ·rcases List.mem_or_eq_of_mem_set hr with z | z
    ·exact P.wd r z
    ·rw[z];exact hw
   ·have hxn:x≠p/\x≠cl:=⟨λz=>hxn (.inl z),λz=>hxn (.inr z)⟩
    rw[AS hxn.1,AS hxn.2,AS (BG ex ht)]
    exact ex
theorem bY(cl:Addr)(w n:Int):(pf cl w n).lookup ("read":Str)=none:=NU _ _ _ (by decide +kernel) (by decide +kernel) (by decide +kernel)
theorem vO(cl:Addr)(w n:Int):(pf cl w n).lookup ("write":Str)=none:=NU _ _ _ (by decide +kernel) (by decide +kernel) (by decide +kernel)
theorem vP(cl:Addr)(w n:Int):(pf cl w n).lookup ("writings":Str)=none:=NU _ _ _ (by decide +kernel) (by decide +kernel) (by decide +kernel)
theorem vQ(h:LQ K a vs H Q E):vs.length=3:=by
 obtain⟨_,_,_,_,rfl,_⟩:=h
 rfl
theorem vR(h:GF K a vs H Q E):vs.length=2:=by
 obtain⟨_,_,_,_,_,_,rfl,_⟩:=h
 rfl
theorem vS(h:HU K a vs H Q E):vs.length=2:=by
 obtain⟨_,_,_,_,_,_,rfl,_⟩:=h
 rfl
theorem vT(h:LS K a vs H Q E):vs.length=3:=by
 obtain⟨_,_,_,_,_,_,_,_,rfl,_⟩:=h
 rfl
theorem vU(h:LR K a vs H Q E):QK K a (λ_=>E) (A8 Q) (A7 ["self"] vs) H:=by
 obtain⟨p,cl,w,rows,n,rfl,T,P,q⟩:=h
 obtain⟨dx,h1⟩:=P.ob
 push_cast[QK,↓pD]
 exact⟨_,_,_,h1,T.cl,T.nN,_,VE _ _ _,q⟩
theorem vV(h:LR K a vs H Q E):vs.length=1:=by
 obtain⟨_,_,_,_,_,rfl,_⟩:=h
 rfl
theorem vW(h:G3 K a vs H Q E):QR K a (λ_=>E) (A8 Q) (A7 ["script","k"] vs) H:=by
 obtain⟨s,ns,k,rfl,hs,hl,q⟩:=h
 push_cast[QR,↓pN,↓pO,↓pP]
 refine⟨ns.length,?_,?_⟩
 ·exact .inl ⟨_,hs,(List.length_map _).symm⟩
 split
 ·rename_i hk
  have hk:k<ns.length:=by omega
  refine BN hs rfl (v:=.int (JL ns k)) ?_ q
  unfold JL
  rw[List.getElem?_map,List.getElem?_eq_getElem hk]
  simp[List.getD,hk]
 ·rename_i hk
  have:JL ns k=0:=by
   unfold JL
   rw[List.getD_eq_getElem?_getD,List.getElem?_eq_none (by omega)];rfl
  rw[this]at q
  exact q
theorem vX(h:G3 K a vs H Q E):vs.length=2:=by
 obtain⟨_,_,_,rfl,_⟩:=h
 rfl
theorem vY(h:JK K a vs H Q E):QM K a (λ_=>E) (A8 Q) (A7 ["self","names","records","pieces","cells"] vs) H:=by
 obtain⟨p,dx,n,r,c,w,rfl,T,hp,b1,b2,b3,b4,b5,q⟩:=h
 push_cast[QM,↓pG,↓pH,↓pI,↓pJ]
 refine⟨_,_,_,hp,T.cl,T.n1,by decide,_,_,_,AU,T.cl,T.n2,GE (by decide),_,_,_,AU,T.cl,T.n3,GE (n:=1000) (Nat.succ_lt_succ (GE (n:=999) (by decide))),_,_,_,AU,T.cl,T.n4,?_,?_⟩
 ·exact GE (n:=1000) (Nat.succ_lt_succ (GE (n:=999) (Nat.succ_lt_succ (GE (n:=998) (by decide)))))
 ·rw[oC,K0,K0,K0]
  exact q _ ⟨⟨dx,AU⟩,b1,b2,b3,b4,b5⟩ λb o e hb=>by rw[AS hb];exact e
theorem vZ(h:EJ K a vs H Q E):QQ K a (λ_=>E) (A8 Q) (A7 ["self","block","k"] vs) H:=by
 obtain⟨p,n,r,c,w,k,b,rfl,T,L,q⟩:=h
 obtain⟨dx,e⟩:=L.ob
 have:=L.h1
 have:=L.hw
 push_cast[QQ,↓pM]
 refine⟨_,_,_,e,T.cl,T.n4,_,JJ,?_⟩
 push_cast[]
 refine⟨⟨by omega,by omega⟩,_,_,_,e,T.cl,T.n4,_,JJ,?_⟩
 push_cast[]
 exact⟨by omega,by decide,q⟩
theorem v6(h:LU K a vs H Q E):Q6 K a (λ_=>E) (A8 Q) (A7 ["self","k"] vs) H:=by
 obtain⟨p,n,r,c,w,k,rfl,T,L,q⟩:=h
 obtain⟨dx,e⟩:=L.ob
 push_cast[Q6,↓sK]
 exact⟨_,_,e,DW (by decide +kernel),p,n,r,c,w,k,0,rfl,T,L,q⟩
theorem v7(h:LW K a vs H Q E):Q7 K a (λ_=>E) (A8 Q) (A7 ["self","k"] vs) H:=by
 obtain⟨p,n,r,c,w,k,rfl,T,L,q⟩:=h
 obtain⟨dx,e⟩:=L.ob
 push_cast[Q7,↓sL]
 exact⟨_,_,e,DW (by decide +kernel),_,_,_,e,T.cl,T.n1,_,NW,p,n,r,c,w,k,_,rfl,T,L,q⟩
theorem v8(h:LX K a vs H Q E):Q8 K a (λ_=>E) (A8 Q) (A7 ["self","k"] vs) H:=by
 obtain⟨p,n,r,c,w,k,rfl,T,L,q⟩:=h
 obtain⟨dx,e⟩:=L.ob
 push_cast[Q8,↓sM]
 refine⟨_,_,e,DW (by decide +kernel),_,_,_,e,T.cl,T.n1,_,NW,_,_,_,e,T.cl,T.n2,_,LT,?_⟩
 push_cast[]
 exact⟨p,n,r,c,w,k,_,rfl,T,L,q⟩
theorem v9(h:LY K a vs H Q E):Q9 K a (λ_=>E) (A8 Q) (A7 ["self","k"] vs) H:=by
 obtain⟨p,n,r,c,w,k,rfl,T,L,q⟩:=h
 obtain⟨dx,e⟩:=L.ob
 push_cast[Q9,↓sN]
 exact⟨_,_,e,DW (by decide +kernel),_,_,e,DW (by decide +kernel),p,n,r,c,w,rfl,T,L,p,n,r,c,w,k,_,rfl,T,L,q⟩
theorem wA(h:LZ K a vs H Q E):RA K a (λ_=>E) (A8 Q) (A7 ["self","k"] vs) H:=by
 obtain⟨p,n,r,c,w,k,rfl,T,L,q⟩:=h
 obtain⟨dx,e⟩:=L.ob
 push_cast[RA,↓sO]
 refine⟨_,_,e,DW (by decide +kernel),_,_,e,DW (by decide +kernel),p,n,r,c,w,rfl,T,L,_,_,_,e,T.cl,T.n2,_,LT,?_⟩
 push_cast[]
 exact⟨p,n,r,c,w,k,_,rfl,T,L,q⟩
theorem wB(h:GG K a vs H Q E):QP K a (λ_=>E) (A8 Q) (A7 ["self"] vs) H:=by
 obtain⟨p,n,r,c,w,rfl,T,L,q⟩:=h
 obtain⟨dx,e⟩:=L.ob
 push_cast[QP,↓pL]
 refine⟨_,_,_,e,T.cl,T.n1,_,NW,_,_,_,e,T.cl,T.n2,_,LT,?_⟩
 push_cast[]
 refine⟨_,_,_,e,T.cl,T.n3,_,PY,?_⟩
 push_cast[]
 exact q
theorem wC(h:L4 K a vs H Q E):RB K a (λ_=>E) (A8 Q) (A7 ["self"] vs) H:=by
 obtain⟨p,n,r,c,w,rfl,T,L,q⟩:=h
 obtain⟨dx,e⟩:=L.ob
 push_cast[RB,↓sP]
 refine⟨_,_,e,DW (by decide +kernel),p,n,r,c,w,rfl,T,L,_,_,_,e,T.cl,T.n2,_,LT,?_⟩
 push_cast[]
 refine⟨_,_,_,e,T.cl,T.n3,_,PY,?_⟩
 push_cast[]
 exact q
theorem wD(h:L6 K a vs H Q E):QN K a (λ_=>E) (A8 Q) (A7 ["self"] vs) H:=by
 obtain⟨p,n,r,c,w,rfl,T,L,q⟩:=h
 obtain⟨dx,e⟩:=L.ob
 obtain⟨_,b1,b2,b3,b4,b5⟩:=L
 push_cast[QN,↓pK]
 refine⟨_,_,_,e,T.cl,T.n1,_,NW,_,_,_,e,T.cl,T.n4,_,JJ,?_⟩
 push_cast[]
 refine⟨.inl ⟨by omega,by omega⟩,_,_,_,e,T.cl,T.n2,_,LT,_,_,_,e,T.cl,T.n4,_,JJ,?_⟩
 push_cast[]
 refine⟨.inl ⟨by omega,by omega⟩,_,_,_,e,T.cl,T.n3,_,PY,_,_,_,e,T.cl,T.n4,_,JJ,?_⟩
 push_cast[]
 exact⟨.inl ⟨by omega,by omega⟩,by decide,q⟩
theorem wE(h:L7 K a vs H Q E):RK K a (λ_=>E) (A8 Q) (A7 ["self"] vs) H:=by
 obtain⟨p,n,r,c,w,rfl,T,TP,L,q⟩:=h
 obtain⟨dx,e⟩:=L.ob
 have LL:=L
 obtain⟨_,b1,b2,b3,b4,b5⟩:=L
 push_cast[RK,↓tX]
 refine⟨_,_,e,DW (by decide +kernel),p,n,r,c,w,rfl,T,LL,_,_,_,e,T.cl,T.n4,_,JJ,λx dx' hx hdx hne=> ?_⟩
 have s3:Same H (upd (upd H dx' (.own x)) x (.ins (a "Plank") dx' [])):=(AZ hdx).trans (AZ (by rw[AS hne.symm];exact hx))
 refine⟨x,dx',n+r+c+r+c,w,by simp,TP,AU,by omega,b4,by omega,λcl H2 hcl P2 s4=>⟨rfl,q x cl H2 hx (s3.free hcl) P2 λb o eb=>s4 _ _ (s3 _ _ eb) (BG eb hx)⟩⟩
theorem wF(h:JK K a vs H Q E):vs.length=5:=by
 obtain⟨_,_,_,_,_,_,rfl,_⟩:=h
 rfl
theorem wG(h:EJ K a vs H Q E):vs.length=3:=by
 obtain⟨_,_,_,_,_,_,_,rfl,_⟩:=h
 rfl
theorem wH(h:LU K a vs H Q E):vs.length=2:=by
 obtain⟨_,_,_,_,_,_,rfl,_⟩:=h
 rfl
theorem wI(h:LW K a vs H Q E):vs.length=2:=by
 obtain⟨_,_,_,_,_,_,rfl,_⟩:=h
 rfl
theorem wJ(h:LX K a vs H Q E):vs.length=2:=by
 obtain⟨_,_,_,_,_,_,rfl,_⟩:=h
 rfl
theorem wK(h:LY K a vs H Q E):vs.length=2:=by
 obtain⟨_,_,_,_,_,_,rfl,_⟩:=h
 rfl
theorem wM(h:LZ K a vs H Q E):vs.length=2:=by
 obtain⟨_,_,_,_,_,_,rfl,_⟩:=h
 rfl
theorem wN(h:GG K a vs H Q E):vs.length=1:=by
 obtain⟨_,_,_,_,_,rfl,_⟩:=h
 rfl
theorem wO(h:L4 K a vs H Q E):vs.length=1:=by
 obtain⟨_,_,_,_,_,rfl,_⟩:=h
 rfl
theorem wP(h:L6 K a vs H Q E):vs.length=1:=by
 obtain⟨_,_,_,_,_,rfl,_⟩:=h
 rfl
theorem wQ(h:L7 K a vs H Q E):vs.length=1:=by
 obtain⟨_,_,_,_,_,rfl,_⟩:=h
 rfl
theorem bZ:∀ {n:Nat} {v:V},GoodV n H v->∃ d,Dat K H n v d
 | _+1,.int i,_=>⟨_,Dat.int i⟩
 | _+1,.non,_=>⟨_,Dat.non⟩
 | _+1,.str z,h=>⟨.str z,.str z,h,Nat.zero_le _⟩
 | n+1,.ref p,⟨xs,h1,h2,h3⟩=>by
  have:∀ (l:List V),(∀ v∈l,GoodV n H v)->∃ ds,Paired (Dat K H n) l ds:=λl=>by
   induction l with
   | nil=>exact λ_=>⟨[],.nil⟩
   | cons x r ih =>
    intro h
    obtain⟨d,hd⟩:=bZ (h x (List.mem_cons_self ..))
    obtain⟨ds,hds⟩:=ih λv hv=>h v (List.mem_cons_of_mem _ hv)
    exact⟨d::ds,.cons hd hds⟩
  obtain⟨ds,hds⟩:=this xs h3
  exact⟨_,Dat.tup (SqT.of h1) hds⟩
theorem wR{n:Nat}{l:List V}(h:∀ v∈l,GoodV n H v):∃ ds,Paired (Dat K H n) l ds:=by
 induction l with
 | nil=>exact⟨[],.nil⟩
 | cons x r ih =>
  obtain⟨d,hd⟩:=bZ (K:=K) (h x (List.mem_cons_self ..))
  obtain⟨ds,hds⟩:=ih λv hv=>h v (List.mem_cons_of_mem _ hv)
  exact⟨d::ds,.cons hd hds⟩
def EC(H H':Hp):Prop:=∀ b xs,H b=some (.tup xs)->H' b=some (.tup xs)
theorem GoodV.keep{H H':Hp}(k:EC H H'):∀ {n:Nat} {v:V},GoodV n H v->GoodV n H' v
 | 0,_,h=>h
 | _+1,.int _,_=>trivial
 | _+1,.non,_=>trivial
 | _+1,.str _,h=>h
 | n+1,.ref p,⟨xs,h1,h2,h3⟩=>⟨xs,k _ _ h1,h2,λv hv=>(h3 v hv).keep k⟩
theorem GoodV.up{H:Hp}:∀ {n:Nat} {v:V},GoodV n H v->GoodV (n+1) H v
 | 0,_,h=>h.elim
 | _+1,.int _,_=>trivial
 | _+1,.non,_=>trivial
 | _+1,.str _,h=>h
 | n+1,.ref p,⟨xs,h1,h2,h3⟩=>⟨xs,h1,h2,λv hv=>(h3 v hv).up⟩
theorem Same.tk{H H':Hp}(s:Same H H'):EC H H':=λb xs e=>s _ _ e
theorem good7.keep{H H':Hp}{rows:List (List V)}(g:good7 H rows)(k:EC H H'):good7 H' rows:=λr hr v hv=>(g r hr v hv).keep k
theorem CW{c A B:Prop}[Decidable c](h:c)(x:A):if c then A else B:=by rw[if_pos h];exact x
theorem BT{c A B:Prop}[Decidable c](h:¬ c)(x:B):if c then A else B:=by rw[if_neg h];exact x
theorem NmV.keep{H':Hp}{v:V}{c:G4}(k:EC H H')(h:NmV H v c):NmV H' v c:=by
 cases c with
 | none=>exact h
 | some c=>obtain⟨p,e,h1⟩:=h;exact⟨p,e,k _ _ h1⟩
theorem RcV.keep{H':Hp}{v:V}{c:EV}(k:EC H H')(h:RcV H v c):RcV H' v c:=by
 cases c with
 | none=>exact h
 | some c=>obtain⟨p,q,e,h1,h2⟩:=h;exact⟨p,q,e,k _ _ h1,k _ _ h2⟩
theorem PcV.keep{H':Hp}{v:V}{c:Option Str}(_:EC H H')(h:PcV H v c):PcV H' v c:=by
 cases c<;>exact h
theorem MkV.keep{H':Hp}{v:V}{c:Option Int}(_:EC H H')(h:MkV H v c):MkV H' v c:=by
 cases c<;>exact h
theorem LstAt.keep{α :Type}{R:Hp->V-> α ->Prop}{H':Hp}{p:Addr}{cs:List α}(h:LstAt R H p cs)(kr:∀ v c,R H v c->R H' v c)(kp:∀ o,H p=some o->H' p=some o):LstAt R H' p cs:=by
 obtain⟨vs,e,P⟩:=h
 exact⟨vs,kp _ e,Paired.mapP P λv c=>kr v c⟩
theorem FindsL.same{H':Hp}{l:Addr}{fs:List (List V)}(h:FindsL H l fs)(s:Same H H'):FindsL H' l fs:=by
 obtain⟨ps,e,P⟩:=h
 exact⟨ps,s _ _ e,Paired.mapP P λp f e=>s _ _ e⟩
theorem ViewAt.same{H':Hp}{x:Addr}{A:VA}{vw:Vw}(h:ViewAt a H x A vw)(s:Same H H'):ViewAt a H' x A vw:=by
 obtain⟨⟨dx,e⟩,h1,h2,h3,h4,h5,h6,h7,h8,ok⟩:=h
 exact⟨⟨dx,s _ _ e⟩,h1.keep (λv c=>NmV.keep s.tk) (λo=>s _ _),h2.keep (λv c=>RcV.keep s.tk) (λo=>s _ _),h3.keep (λv c=>PcV.keep s.tk) (λo=>s _ _),h4.keep (λv c=>MkV.keep s.tk) (λo=>s _ _),h5.keep (λv c=>MkV.keep s.tk) (λo=>s _ _),s _ _ h6,s _ _ h7,s _ _ h8,ok⟩
theorem LstAt.at{α :Type}{R:Hp->V->Option α ->Prop}{p:Addr}{cs:List (Option α)}{k:Nat}(h:LstAt R H p cs)(hk:k<cs.length):∃ vs v,H p=some (.lst vs)/\vs.length=cs.length/\vs[k]? =some v/\R H v (AT cs k):=by
 obtain⟨vs,e,P⟩:=h
 obtain⟨v,ev,hr⟩:=NR P (List.getElem?_eq_getElem hk)
 refine⟨vs,v,e,P.length,ev,?_⟩
 unfold AT
 rw[List.getElem?_eq_getElem hk]
 exact hr
theorem MT{l:List Nat}{k:Nat}{m:Nat}(h:l[k]? =some m):(AW l)[k]? =some (.int m):=by
 unfold AW
 rw[List.getElem?_map,h]
 rfl
theorem GJ{n k:Nat}{f:Nat->Nat}(h:k<n):((List.range n).map f)[k]? =some (f k):=by
 rw[List.getElem?_map,List.getElem?_range h]
 rfl
theorem D4{p:Addr}{n k:Nat}{f:Nat->Nat}{Q:VK}(h:H p=some (.lst (AW ((List.range n).map f))))(hk:k<n)(q:Q (.int (f k)) H):AL K (.ref p) (.int k) H Q :=
 BN (SqL.of h) (n:=k) rfl (MT (GJ hk)) q
theorem wS{A:VA}:(vf A).lookup ("name_values":Str)=some (V.ref A.n):=by simp[vf]
theorem N1{A:VA}:(vf A).lookup ("record_values":Str)=some (V.ref A.r):=by
 simp[vf,List.lookup_cons,A9 (a:="record_values") (b:="name_values") (by decide +kernel)]
theorem wT{A:VA}:(vf A).lookup ("piece_values":Str)=some (V.ref A.p):=by
 simp[vf,List.lookup_cons,A9 (a:="piece_values") (b:="name_values") (by decide +kernel),A9 (a:="piece_values") (b:="record_values") (by decide +kernel)]
theorem b0{A:VA}:(vf A).lookup ("record_marks":Str)=some (V.ref A.rm):=by
 simp[vf,List.lookup_cons,A9 (a:="record_marks") (b:="name_values") (by decide +kernel),A9 (a:="record_marks") (b:="record_values") (by decide +kernel),A9 (a:="record_marks") (b:="piece_values") (by decide +kernel)]
theorem b6{A:VA}:(vf A).lookup ("piece_marks":Str)=some (V.ref A.pm):=by
 simp[vf,List.lookup_cons,A9 (a:="piece_marks") (b:="name_values") (by decide +kernel),A9 (a:="piece_marks") (b:="record_values") (by decide +kernel),A9 (a:="piece_marks") (b:="piece_values") (by decide +kernel),A9 (a:="piece_marks") (b:="record_marks") (by decide +kernel)]
theorem RS{A:VA}:(vf A).lookup ("leads":Str)=some (V.ref A.ld):=by
 simp[vf,List.lookup_cons,A9 (a:="leads") (b:="name_values") (by decide +kernel),A9 (a:="leads") (b:="record_values") (by decide +kernel),A9 (a:="leads") (b:="piece_values") (by decide +kernel),A9 (a:="leads") (b:="record_marks") (by decide +kernel),A9 (a:="leads") (b:="piece_marks") (by decide +kernel)]
theorem b7{A:VA}:(vf A).lookup ("namings":Str)=some (V.ref A.ng):=by
 simp[vf,List.lookup_cons,A9 (a:="namings") (b:="name_values") (by decide +kernel),A9 (a:="namings") (b:="record_values") (by decide +kernel),A9 (a:="namings") (b:="piece_values") (by decide +kernel),A9 (a:="namings") (b:="record_marks") (by decide +kernel),A9 (a:="namings") (b:="piece_marks") (by decide +kernel),A9 (a:="namings") (b:="leads") (by decide +kernel)]
theorem wU{A:VA}:(vf A).lookup ("reached":Str)=some (V.ref A.rh):=by
 simp[vf,List.lookup_cons,A9 (a:="reached") (b:="name_values") (by decide +kernel),A9 (a:="reached") (b:="record_values") (by decide +kernel),A9 (a:="reached") (b:="piece_values") (by decide +kernel),A9 (a:="reached") (b:="record_marks") (by decide +kernel),A9 (a:="reached") (b:="piece_marks") (by decide +kernel),A9 (a:="reached") (b:="leads") (by decide +kernel),A9 (a:="reached") (b:="namings") (by decide +kernel)]
theorem HZ{A:VA}{x:Str}(h:(D3 x "name_values" || D3 x "record_values" || D3 x "piece_values" || D3 x "record_marks" || D3 x "piece_marks" || D3 x "leads" || D3 x "namings" || D3 x "reached")=false):(vf A).lookup x=none:=by
 simp only[Bool.or_eq_false_iff]at h
 obtain⟨⟨⟨⟨⟨⟨⟨h1,h2⟩,h3⟩,h4⟩,h5⟩,h6⟩,h7⟩,h8⟩:=h
 simp[vf,List.lookup_cons,A9 h1,A9 h2,A9 h3,A9 h4,A9 h5,A9 h6,A9 h7,A9 h8]
section
variable{tt:TT}{te:TE}{cap:List Nat}{σ:St}
theorem EX{H0 H':Hp}{l:Addr}{o:HO}(s:Same H0 H')(h:H' l=none):Same H0 (upd H' l o):=s.trans (AZ h)
def FnW(H:Hp)(is:List Nat)(p:Nat->Bool)(f:Nat->List V)(i:Nat)(ys:List V)(H':Hp):Prop:=Same H H'/\∃ ps:List Addr,ys=ps.map V.ref/\Paired (λq g=>H' q=some (.tup g)) ps (((is.take i).filter p).map f)
theorem DJ{α :Type}{l:List α}{i:Nat}{x: α}(h:l[i]? =some x):l.take (i+1)=l.take i++[x]:=by
 obtain⟨g1,g2⟩:=List.getElem?_eq_some_iff.mp h
 rw[<-g2,List.take_append_getElem]
theorem FnW.yes{is:List Nat}{p:Nat->Bool}{f:Nat->List V}{i k:Nat}{ys:List V}{H':Hp}{t:Addr}(h:FnW H is p f i ys H')(hk:is[i]? =some k)(hp:p k=true)(ht:H' t=none):FnW H is p f (i+1) (ys++[.ref t]) (upd H' t (.tup (f k))):=by
 obtain⟨s,ps,e,P⟩:=h
 refine⟨EX s ht,ps++[t],by rw[e,List.map_append];rfl,?_⟩
 rw[DJ hk,List.filter_append,List.map_append]
 have:([k].filter p).map f=[f k]:=by simp[hp]
 rw[this]
 exact Paired.snoc (Paired.mapP P λq g e=>AZ ht _ _ e) AU
theorem FnW.no{is:List Nat}{p:Nat->Bool}{f:Nat->List V}{i k:Nat}{ys:List V}{H':Hp}(h:FnW H is p f i ys H')(hk:is[i]? =some k)(hp:p k=false):FnW H is p f (i+1) ys H':=by
 obtain⟨s,ps,e,P⟩:=h
 refine⟨s,ps,e,?_⟩
 rw[DJ hk,List.filter_append,List.map_append]
 have:([k].filter p).map f=[]:=by simp[hp]
 rw[this,List.append_nil]
 exact P
theorem FnW.len{is:List Nat}{p:Nat->Bool}{f:Nat->List V}{i:Nat}{ys:List V}{H':Hp}(h:FnW H is p f i ys H'):ys.length<=i:=by
 obtain⟨s,ps,e,P⟩:=h
 rw[e,List.length_map,P.length,List.length_map]
 exact Nat.le_trans (List.length_filter_le ..) (by rw[List.length_take];omega)
theorem FnW.fin{is:List Nat}{p:Nat->Bool}{f:Nat->List V}{ys:List V}{H':Hp}{l:Addr}(h:FnW H is p f is.length ys H')(hl:H' l=none):H l=none/\Same H (upd H' l (.lst ys))/\FindsL (upd H' l (.lst ys)) l ((is.filter p).map f):=by
 obtain⟨s,ps,e,P⟩:=h
 rw[List.take_length]at P
 subst e
 exact⟨s.free hl,EX s hl,ps,AU,Paired.mapP P λq g e=>AZ hl _ _ e⟩
theorem FA{b:Addr}{is:List Nat}(p:Nat->Bool)(f:Nat->List V)(hb:H b=some (.lst (AW is)))(hn:is.length<=1000)
  (ht:∀ k∈is,∀ H',Same H H'->∀ QB:Bool->Hp->Prop,QB (p k) H'->tt (some (.int (k:Int))::A5 cap σ) H' QB)
  (he:∀ k∈is,p k=true->∀ H' (Q':VK),Same H H'->(∀ t,H' t=none->Q' (.ref t) (upd H' t (.tup (f k))))->te (some (.int (k:Int))::A5 cap σ) H' Q') (hd:newF ((is.filter p).map f) H Q):C2 (EL K b) (AJ 0) tt te 1 cap σ H Q:=by
 have hl:(AW is).length=is.length:=by simp[AW]
 have at':∀ {i:Nat} {x:V},(AW is)[i]? =some x->∃ k,is[i]? =some k/\x=.int k:=λe=>by
  unfold AW at e
  rw[List.getElem?_map,Option.map_eq_some_iff]at e
  obtain⟨k,h1,h2⟩:=e
  exact⟨k,h1,h2.symm⟩
 refine NT (xs:=AW is) (λi=>match is[i]? with
  | some k=>p k
  | none=>false) (small _ (by omega)) (FnW H is p f) ⟨Same.refl _,[],rfl,.nil⟩ (λi ys H' _ h=>⟨SqL.of (h.1 _ _ hb),h.len⟩) (λi x ys H' hx h QB qb=> ?_) (λi x ys H' hx hp h=> ?_) (λi x ys H' hx hp h=> ?_) (λys H' h q hq=> ?_)
 ·obtain⟨k,ek,rfl⟩:=at' hx
  simp only[ek]at qb
  exact ht k (List.mem_of_getElem? ek) H' h.1 QB qb
 ·obtain⟨k,ek,rfl⟩:=at' hx
  simp only[ek]at hp
  exact he k (List.mem_of_getElem? ek) hp H' _ h.1 λt ht0=>h.yes ek hp ht0
 ·obtain⟨k,ek,rfl⟩:=at' hx
  simp only[ek]at hp
  exact h.no ek hp
 ·rw[hl]at h
  obtain⟨h1,h2,h3⟩:=h.fin hq
  exact hd q _ h1 h2 h3
theorem MU{n:Nat}(p:Nat->Bool)(f:Nat->List V)(hn:n<=1000)
  (ht:∀ k,k<n->∀ H',Same H H'->∀ QB:Bool->Hp->Prop,QB (p k) H'->tt (some (.int (k:Int))::A5 cap σ) H' QB)
  (he:∀ k,k<n->p k=true->∀ H' (Q':VK),Same H H'->(∀ t,H' t=none->Q' (.ref t) (upd H' t (.tup (f k))))->te (some (.int (k:Int))::A5 cap σ) H' Q') (hd:newF (B5 n p f) H Q):C2 (DF 0 n) (AJ 0) tt te 1 cap σ H Q:=by
 refine nT (n:=n) p (small _ (by omega)) (FnW H (List.range n) p f) ⟨Same.refl _,[],rfl,.nil⟩ (λi ys H' _ h=>h.len) (λi ys H' hi h QB qb=>ht i hi H' h.1 QB qb) (λi ys H' hi hp h=>he i hi hp H' _ h.1 λt ht0=>h.yes (List.getElem?_range hi) hp ht0) (λi ys H' hi hp h=>h.no (List.getElem?_range hi) hp) (λys H' h q hq=> ?_)
 have h:FnW H (List.range n) p f (List.range n).length ys H':=by rw[List.length_range];exact h
 obtain⟨h1,h2,h3⟩:=h.fin hq
 exact hd q _ h1 h2 h3
theorem MV{b:Addr}{xs:List V}(p:Nat->Bool)(hb:H b=some (.lst xs))(hn:xs.length<=1000)
  (ht:∀ i x,xs[i]? =some x->∀ H',Same H H'->∀ QB:Bool->Hp->Prop,QB (p i) H'->tt (some (.int (i:Int))::some x::A5 cap σ) H' QB) (hd:newL (AW ((List.range xs.length).filter p)) H Q):C2 (HR K b) (EH K 2 (CQ (AJ 0) (CQ (AJ 1) EG))) tt (AA 0) 2 cap σ H Q:=by
 refine VC (xs:=xs) p (small _ (by omega)) (λi ys H'=>Same H H'/\ys=AW ((List.range i).filter p)) ⟨Same.refl _,rfl⟩ (λi ys H' _ ⟨s,e⟩=>⟨SqL.of (s _ _ hb),?_⟩) (λi ys H' t o ⟨s,e⟩ h=>⟨EX s h,e⟩) (λi x ys H' hx ⟨s,e⟩ QB qb=>ht i x hx H' s QB qb) (λi x ys H' hx hp ⟨s,e⟩=>by rw[PF];exact⟨s,by rw[e];unfold AW;rw[List.range_succ,List.filter_append,List.map_append];simp[hp]⟩) (λi x ys H' hx hp ⟨s,e⟩=>⟨s,?_⟩) (λys H' ⟨s,e⟩ q hq=> ?_)
 ·rw[e]
  unfold AW
  rw[List.length_map]
  exact Nat.le_trans (List.length_filter_le ..) (by rw[List.length_range];omega)
 ·rw[e]
  unfold AW
  rw[List.range_succ,List.filter_append,List.map_append]
  simp[hp]
 ·subst e
  exact hd q _ (s.free hq) (EX s hq) AU
end
theorem ViewAt.rl{x:Addr}{A:VA}{vw:Vw}(h:ViewAt a H x A vw):∃ vs,H A.r=some (.lst vs)/\vs.length=vw.rc.length:=by
 obtain⟨vs,e,P⟩:=h.r
 exact⟨vs,e,P.length⟩
theorem IA{v:V}{c:EV}(h:RcV H v c):decide (v=.non)=c.isNone:=by
 cases c with
 | none=>rw[show v=.non from h];rfl
 | some c=>obtain⟨p,q,rfl,_⟩:=h;rfl
theorem b8{v:V}{c:G4}(h:NmV H v c):decide (v=.non)=c.isNone:=by
 cases c with
 | none=>rw[show v=.non from h];rfl
 | some c=>obtain⟨p,rfl,_⟩:=h;rfl
theorem b9{v:V}{c:Option Str}(h:PcV H v c):decide (v=.non)=c.isNone:=by
 cases c with
 | none=>rw[show v=.non from h];rfl
 | some c=>rw[show v=.str c from h];rfl
theorem wV(h:HX K a vs H Q E):P9 K a (λ_=>E) (A8 Q) (A7 ["self","record"] vs) H:=by
 obtain⟨x,A,vw,r,c,rfl,T,I,hc,q⟩:=h
 obtain⟨dx,e⟩:=I.ob
 have hr:r<vw.rc.length:=by
  unfold AT at hc
  cases e2:vw.rc[r]? with
  | none=>rw[e2]at hc;cases hc
  | some _=>exact(List.getElem?_eq_some_iff.mp e2).1
 obtain⟨us,v,e1,hl,ev,hv⟩:=I.r.at hr
 rw[hc]at hv
 obtain⟨p,q',rfl,h1,h2⟩:=hv
 push_cast[P9,↓oH]
 exact⟨_,_,_,e,T.cl,T.n2,_,N1,BN (SqL.of e1) (n:=r) rfl ev (CU h1 (n:=0) rfl rfl q)⟩
theorem wW(h:HX K a vs H Q E):vs.length=2:=by
 obtain⟨_,_,_,_,_,rfl,_⟩:=h
 rfl
theorem wX(h:HW K a vs H Q E):P7 K a (λ_=>E) (A8 Q) (A7 ["self"] vs) H:=by
 obtain⟨x,A,vw,rfl,T,I,q⟩:=h
 obtain⟨dx,e⟩:=I.ob
 obtain⟨us,e1,P⟩:=I.r
 have br:=I.ok.br
 have hl:=P.length
 push_cast[P7,↓oF]
 refine⟨_,_,_,e,T.cl,T.n2,_,N1,A.r,rfl,⟨_,SqL.of e1⟩,MV (λr=>(AT vw.rc r).isSome) e1 (by omega) (λi v hv H' s QB qb=> ?_) ?_⟩
 ·have hi:=(List.getElem?_eq_some_iff.mp hv).1
  obtain⟨us',v',e1',_,ev,hr⟩:=I.r.at (k:=i) (by omega)
  rw[e1]at e1';cases e1'
  rw[hv]at ev;cases ev
  push_cast[]
  rw[IA hr]
  simpa using qb
 ·rw[hl];exact q
theorem wY(h:HW K a vs H Q E):vs.length=1:=by
 obtain⟨_,_,_,rfl,_⟩:=h
 rfl
theorem wZ(n:Nat)(m:Nat):decide ((m:Int)<(n:Int))=decide (m<n):=by simp
theorem RT(n:Nat):decide ((0:Int)<(n:Int))=decide (0<n):=by simp
theorem cA(n:Nat):decide ((1:Int)<(n:Int))=decide (1<n):=by
 rw[decide_eq_decide];omega
theorem cB(n:Nat):decide ((n:Int)=(0:Int))=decide (n=0):=by simp
theorem CZ(l:List Nat):(AW l).length=l.length:=by simp[AW]
theorem FB(n:Nat)(f:Nat->Nat):((List.range n).map f).length=n:=by simp
theorem xA(h:G8 K a vs H Q E):P8 K a (λ_=>E) (A8 Q) (A7 ["self"] vs) H:=by
 obtain⟨x,A,vw,rfl,T,I,q⟩:=h
 obtain⟨dx,e⟩:=I.ob
 have bp:=I.ok.bp
 have e1:=I.ng
 push_cast[P8,↓oG]
 refine⟨_,_,_,e,T.cl,T.n7,_,b7,A.ng,rfl,⟨_,SqL.of e1⟩,MV (λp=>decide (0<named vw p)) e1 (by rw[CZ,FB];omega) (λi v hv H' s QB qb=> ?_) ?_⟩
 ·have hi:=(List.getElem?_eq_some_iff.mp hv).1
  rw[CZ,FB]at hi
  rw[MT (GJ hi)]at hv
  cases hv
  push_cast[]
  rw[RT]
  exact qb
 ·rw[CZ,FB];exact q
theorem xB(h:G8 K a vs H Q E):vs.length=1:=by
 obtain⟨_,_,_,rfl,_⟩:=h
 rfl
theorem xC(h:L9 K a vs H Q E):P0 K a (λ_=>E) (A8 Q) (A7 ["self"] vs) H:=by
 obtain⟨x,ar,al,vw,rfl,T,⟨dx,fs,e,l1⟩,⟨dx',fs',e',l2⟩,hr,hal,br,q⟩:=h
 rw[e]at e'
 cases e'
 have hr':=hr
 obtain⟨us,e1,P⟩:=hr
 have hl:=P.length
 push_cast[P0,↓oE]
 refine⟨_,_,_,e,T.cl,T.n2,_,l1,ar,rfl,⟨_,SqL.of e1⟩,?_⟩
 refine VC (xs:=us) (λr=>decide (0<led vw r)) (small _ (by omega)) (λi ys H'=>Same H H'/\Paired (RcV H') ys (((List.range i).filter λr=>decide (0<led vw r)).map (AT vw.rc))) ⟨Same.refl _,.nil⟩ (λi ys H' _ ⟨s,e⟩=>⟨SqL.of (s _ _ e1),?_⟩) (λi ys H' t o ⟨s,P'⟩ h=>⟨EX s h,Paired.mapP P' λv c=>RcV.keep (AZ h).tk⟩) (λi v ys H' hv ⟨s,P'⟩ QB qb=> ?_) (λi v ys H' hv hp ⟨s,P'⟩=> ?_) (λi v ys H' hv hp ⟨s,P'⟩=>⟨s,?_⟩) (λys H' ⟨s,P'⟩ p hp=> ?_)
 ·rw[e.length,List.length_map]
  exact Nat.le_trans (List.length_filter_le ..) (by rw[List.length_range];omega)
 ·have hi:=(List.getElem?_eq_some_iff.mp hv).1
  push_cast[A5]
  refine⟨_,_,_,s _ _ e,T.cl,T.n6,_,l2,D4 (s _ _ hal) (by omega) ?_⟩
  push_cast[]
  rw[RT]
  exact qb
 ·have hi:=(List.getElem?_eq_some_iff.mp hv).1
  obtain⟨us',v',e1',_,ev,hrv⟩:=hr'.at (k:=i) (by omega)
  rw[e1]at e1';cases e1'
  rw[hv]at ev;cases ev
  push_cast[]
  refine⟨s,?_⟩
  rw[List.range_succ,List.filter_append,List.map_append]
  have:(([i].filter λr=>decide (0<led vw r)).map (AT vw.rc))=[AT vw.rc i]:=by simp[hp]
  rw[this]
  exact Paired.snoc P' (RcV.keep s.tk hrv)
 ·rw[List.range_succ,List.filter_append,List.map_append]
  have:(([i].filter λr=>decide (0<led vw r)).map (AT vw.rc))=[]:=by simp[hp]
  rw[this,List.append_nil]
  exact P'
 ·rw[hl]at P'
  exact q p _ (s.free hp) (EX s hp) ⟨ys,AU,Paired.mapP P' λv c=>RcV.keep (AZ hp).tk⟩
theorem xD(h:L9 K a vs H Q E):vs.length=1:=by
 obtain⟨_,_,_,_,rfl,_⟩:=h
 rfl
theorem N2{H0:Hp}{v:V}{c:Option Int}{Q:VK}(h:MkV H0 v c)(q:Q (.bl (decide (c=some 1))) H):BO K v (.int 1) H Q:=by
 cases c with
 | none =>
  rw[show v=.non from h,UR]
  simpa using q
 | some j =>
  rw[show v=.int j from h,UQ]
  simpa using q
theorem N3{H0:Hp}{v:V}{c:Option Int}{Q:VK}(h:MkV H0 v c)(q:Q (.bl (!decide (c=some 1))) H):CM K v (.int 1) H Q:=by
 cases c with
 | none =>
  rw[show v=.non from h,UT]
  simpa using q
 | some j =>
  rw[show v=.int j from h,US]
  simpa using q
theorem ED{n:Nat}{p q r:Nat->Bool}{f:Nat->List V}(h:∀ k,k<n->(p k && q k)=r k):(((List.range n).filter p).filter q).map f=B5 n r f:=by
 unfold B5
 rw[List.filter_filter]
 congr 1
 refine List.filter_congr λk hk=> ?_
 rw[Bool.and_comm]
 exact h k (List.mem_range.mp hk)
theorem EE{n:Nat}{p:Nat->Bool}(h:n<=100):((List.range n).filter p).length<=1000:=Nat.le_trans (List.length_filter_le ..) (by rw[List.length_range];omega)
theorem DK{n k:Nat}{p:Nat->Bool}(h:k∈(List.range n).filter p):k<n/\p k=true:=by
 obtain⟨h1,h2⟩:=List.mem_filter.mp h
 exact⟨List.mem_range.mp h1,h2⟩
theorem newF.of{fs:List (List V)}{H1:Hp}(q:newF fs H Q)(s:Same H H1):newF fs H1 Q:=λl H' hl s' F=>q l H' (s.free hl) (s.trans s') F
theorem newL.of{xs:List V}{H1:Hp}(q:newL xs H Q)(s:Same H H1):newL xs H1 Q:=λl H' hl s' F=>q l H' (s.free hl) (s.trans s') F
theorem xE(h:ME K a vs H Q E):QE K a (λ_=>E) (A8 Q) (A7 ["view","marked"] vs) H:=by
 obtain⟨x,A,vw,rfl,T,I,q⟩:=h
 obtain⟨dx,e⟩:=I.ob
 obtain⟨us,e1,P⟩:=I.pm
 have bp:=I.ok.bp
 have l2:=I.ok.l2
 have hl:=P.length
 push_cast[QE,↓oV]
 refine⟨_,_,_,e,T.cl,T.n5,_,b6,A.pm,rfl,⟨_,SqL.of e1⟩,MV (λp=>decide (AT vw.pm p=some 1)) e1 (by omega) (λi v hv H' s QB qb=> ?_) λl H1 hl1 s1 el=> ?_⟩
 ·have hi:=(List.getElem?_eq_some_iff.mp hv).1
  obtain⟨us',v',e1',_,ev,hr⟩:=I.pm.at (k:=i) (by omega)
  rw[e1]at e1';cases e1'
  rw[hv]at ev;cases ev
  push_cast[]
  exact N2 hr ⟨_,rfl,qb⟩
 ·rw[hl,l2]at el
  push_cast[↓oW]
  refine .inl ⟨⟨_,SqL.of el⟩,FA (λp=>decide (GI vw p=0)) (λp=>[.str "left",.str "piece",.int p]) el (EE bp) (λk hk H' s QB qb=> ?_) (λk hk hp H' Q' s q'=> ?_) ?_⟩
  ·obtain⟨hk,_⟩:=DK hk
   have s':=s1.trans s
   push_cast[A5]
   refine⟨_,_,_,s' _ _ e,T.cl,T.n8,_,wU,D4 (s' _ _ I.rh) hk ?_⟩
   push_cast[]
   rw[cB]
   exact qb
  ·push_cast[]
   exact⟨by decide,q'⟩
  ·rw[ED λk _=>rfl]
   exact q.of s1
theorem xF(h:ME K a vs H Q E):vs.length=1:=by
 obtain⟨_,_,_,rfl,_⟩:=h
 rfl
theorem xG(h:MF K a vs H Q E):QF K a (λ_=>E) (A8 Q) (A7 ["view","marked"] vs) H:=by
 obtain⟨x,A,vw,rfl,T,I,q⟩:=h
 obtain⟨dx,e⟩:=I.ob
 obtain⟨us,e1,P⟩:=I.rm
 have bp:=I.ok.br
 have l2:=I.ok.l1
 have hl:=P.length
 push_cast[QF,↓oX]
 refine⟨_,_,_,e,T.cl,T.n4,_,b0,A.rm,rfl,⟨_,SqL.of e1⟩,MV (λp=>decide (AT vw.rm p=some 1)) e1 (by omega) (λi v hv H' s QB qb=> ?_) λl H1 hl1 s1 el=> ?_⟩
 ·have hi:=(List.getElem?_eq_some_iff.mp hv).1
  obtain⟨us',v',e1',_,ev,hr⟩:=I.rm.at (k:=i) (by omega)
  rw[e1]at e1';cases e1'
  rw[hv]at ev;cases ev
  push_cast[]
  exact N2 hr ⟨_,rfl,qb⟩
 ·rw[hl,l2]at el
  push_cast[↓oY]
  refine .inl ⟨⟨_,SqL.of el⟩,FA (λr=>(AT vw.rc r).isNone) (λr=>[.str "marked",.int r]) el (EE bp) (λk hk H' s QB qb=> ?_) (λk hk hp H' Q' s q'=> ?_) ?_⟩
  ·obtain⟨hk,_⟩:=DK hk
   have s':=s1.trans s
   have I':=I.same s'
   obtain⟨us',v',e1',_,ev,hr⟩:=I'.r.at hk
   push_cast[A5]
   refine⟨_,_,_,s' _ _ e,T.cl,T.n2,_,N1,BN (SqL.of e1') (n:=k) rfl ev ?_⟩
   push_cast[]
   rw[IA hr]
   exact qb
  ·push_cast[]
   exact⟨by decide,q'⟩
  ·rw[ED λk _=>rfl]
   exact q.of s1
theorem xH(h:MF K a vs H Q E):vs.length=1:=by
 obtain⟨_,_,_,rfl,_⟩:=h
 rfl
theorem cC{α β :Type}{F: α -> β ->Prop}:∀ {l l':List α} {m m':List β},Paired F l m->Paired F l' m'->Paired F (l++l') (m++m')
 | _,_,_,_,.nil,h=>h
 | _,_,_,_,.cons x r,h=>.cons x (cC r h)
theorem B1{n:Nat}{p:Nat->Bool}{f:Nat->List V}(h:n<=100):(B5 n p f).length<=100:=by
 unfold B5
 rw[List.length_map]
 exact Nat.le_trans (List.length_filter_le ..) (by rw[List.length_range];exact h)
theorem DM{l1 l2:Addr}{f1 f2:List (List V)}{Q:VK}(h1:FindsL H l1 f1)(h2:FindsL H l2 f2)(hn:f1.length+f2.length<=10000)(q:newF (f1++f2) H Q):A4 K (.ref l1) (.ref l2) H Q:=by
 obtain⟨p1,e1,P1⟩:=h1
 obtain⟨p2,e2,P2⟩:=h2
 refine .inl ⟨l1,l2,_,_,rfl,rfl,e1,e2,small _ (by rw[List.length_map,List.length_map,P1.length,P2.length];omega),λp hp=> ?_⟩
 exact q p _ hp (AZ hp) ⟨p1++p2,by rw[AU,List.map_append],Paired.mapP (cC P1 P2) λx f e=>AZ hp _ _ e⟩
theorem IB{vw:Vw}(ok:L8 vw):(JM vw).length<=200/\(JN vw).length<=300/\(JO vw).length<=200/\(E8 vw).length<=200/\(JP vw).length<=100/\(JQ vw).length<=100:=by
 have i1:=@B1
 unfold JM JN JO E8 JP JQ
 simp only[List.length_append]
 have a1:=B1 (p:=DX vw) (f:=λk=>[.str "lost",.int k]) ok.bn
 have a2:=B1 (p:=C3 vw) (f:=λk=>[.str "twice",.int k]) ok.bn
 have a3:=B1 (p:=λp=>decide (1<named vw p)) (f:=λp=>[.str "shared",.int p]) ok.bp
 have a4:=B1 (p:=λp=>decide (0<named vw p) && (AT vw.pc p).isNone) (f:=λp=>[.str "empty",.int p]) ok.bp
 have a5:=B1 (p:=EW vw) (f:=λr=>[.str "few",.int r]) ok.br
 have a6:=B1 (p:=λr=>decide (0<led vw r) && !decide (AT vw.rm r=some 1)) (f:=λr=>[.str "free",.str "record",.int r]) ok.br
 have a7:=B1 (p:=λp=>decide (0<named vw p) && !decide (AT vw.pm p=some 1)) (f:=λp=>[.str "free",.str "piece",.int p]) ok.bp
 have a8:=B1 (p:=EB vw) (f:=λr=>[.str "many",.int r,.int (led vw r)]) ok.br
 have a9:=B1 (p:=λr=>(AT vw.rc r).isSome && decide (led vw r=0)) (f:=λr=>[.str "left",.str "record",.int r]) ok.br
 have b1:=B1 (p:=λp=>decide (AT vw.pm p=some 1) && decide (GI vw p=0)) (f:=λp=>[.str "left",.str "piece",.int p]) ok.bp
 have b2:=B1 (p:=λr=>decide (AT vw.rm r=some 1) && (AT vw.rc r).isNone) (f:=λr=>[.str "marked",.int r]) ok.br
 omega
theorem xI(h:HY K a vs H Q E):RH K a (λ_=>E) (A8 Q) (A7 ["view"] vs) H:=by
 obtain⟨x,A,vw,rfl,T,I,q⟩:=h
 obtain⟨n1,n2,n3,_⟩:=IB I.ok
 push_cast[RH,↓tU]
 refine⟨x,A,vw,rfl,T,I,λl1 H1 h1 s1 F1=>⟨x,A,vw,rfl,T,I.same s1,λl2 H2 h2 s2 F2=>DM (F1.same s2) F2 (by omega) λl3 H3 h3 s3 F3=>⟨x,A,vw,rfl,T,I.same ((s1.trans s2).trans s3),λl4 H4 h4 s4 F4=>DM (F3.same s4) F4 (by simp only[List.length_append];omega) ?_⟩⟩⟩
 exact q.of (((s1.trans s2).trans s3).trans s4)
theorem xJ(h:HY K a vs H Q E):vs.length=1:=by
 obtain⟨_,_,_,rfl,_⟩:=h
 rfl
theorem xK(h:MG K a vs H Q E):RI K a (λ_=>E) (A8 Q) (A7 ["view"] vs) H:=by
 obtain⟨x,A,vw,rfl,T,I,q⟩:=h
 obtain⟨_,_,_,n1,n2,n3⟩:=IB I.ok
 push_cast[RI,↓tV]
 refine⟨x,A,vw,rfl,T,I,λl1 H1 h1 s1 F1=>⟨x,A,vw,rfl,T,I.same s1,λl2 H2 h2 s2 F2=>DM (F1.same s2) F2 (by omega) λl3 H3 h3 s3 F3=>⟨x,A,vw,rfl,T,I.same ((s1.trans s2).trans s3),λl4 H4 h4 s4 F4=>DM (F3.same s4) F4 (by simp only[List.length_append];omega) ?_⟩⟩⟩
 exact q.of (((s1.trans s2).trans s3).trans s4)
theorem xL(h:MG K a vs H Q E):vs.length=1:=by
 obtain⟨_,_,_,rfl,_⟩:=h
 rfl
theorem xM(h:MC K a vs H Q E):Q2 K a (λ_=>E) (A8 Q) (A7 ["view","led_to","records","pieces"] vs) H:=by
 obtain⟨x,A,vw,rfl,T,I,q⟩:=h
 obtain⟨dx,e⟩:=I.ob
 have br:=I.ok.br
 have bp:=I.ok.bp
 push_cast[Q2,↓rR]
 refine⟨_,_,_,e,T.cl,T.n6,_,RS,A.ld,rfl,⟨_,SqL.of I.ld⟩,MV (λp=>decide (0<led vw p)) I.ld (by rw[CZ,FB];omega) (λi v hv H' s QB qb=> ?_) λl H1 hl1 s1 el=> ?_⟩
 ·have hi:=(List.getElem?_eq_some_iff.mp hv).1
  rw[CZ,FB]at hi
  rw[MT (GJ hi)]at hv
  cases hv
  push_cast[]
  rw[RT]
  exact qb
 ·rw[CZ,FB]at el
  push_cast[↓rS]
  refine .inl ⟨⟨_,SqL.of el⟩,FA (λr=> !decide (AT vw.rm r=some 1)) (λr=>[.str "free",.str "record",.int r]) el (EE br) (λk hk H' s QB qb=> ?_) (λk hk hp H' Q' s q'=> ?_) ?_⟩
  ·obtain⟨hk,_⟩:=DK hk
   have s':=s1.trans s
   have I':=I.same s'
   obtain⟨us',v',e1',_,ev,hr⟩:=I'.rm.at (k:=k) (by rw[I.ok.l1];exact hk)
   push_cast[A5]
   refine⟨_,_,_,s' _ _ e,T.cl,T.n4,_,b0,BN (SqL.of e1') (n:=k) rfl ev ?_⟩
   exact N3 hr ⟨_,rfl,qb⟩
  ·push_cast[]
   exact⟨by decide,q'⟩
  rw[ED λk _=>rfl]
  intro l2 H2 hl2 s2 F2
  have I2:=I.same (s1.trans s2)
  obtain⟨dx2,e2⟩:=I2.ob
  push_cast[↓rT]
  refine⟨_,_,e2,HZ (by decide +kernel),x,A,vw,rfl,T,I2,λl3 H3 hl3 s3 el3=>⟨l3,rfl,.inl ⟨⟨_,SqL.of el3⟩,FA (λp=> !decide (AT vw.pm p=some 1)) (λp=>[.str "free",.str "piece",.int p]) el3 (EE bp) (λk hk H' s QB qb=> ?_) (λk hk hp H' Q' s q'=> ?_) ?_⟩⟩⟩
  ·obtain⟨hk,_⟩:=DK hk
   have I':=(I2.same s3).same s
   obtain⟨dx',e'⟩:=I'.ob
   obtain⟨us',v',e1',_,ev,hr⟩:=I'.pm.at (k:=k) (by rw[I.ok.l2];exact hk)
   push_cast[A5]
   refine⟨_,_,_,e',T.cl,T.n5,_,b6,BN (SqL.of e1') (n:=k) rfl ev ?_⟩
   exact N3 hr ⟨_,rfl,qb⟩
  ·push_cast[]
   exact⟨by decide,q'⟩
  rw[ED λk _=>rfl]
  intro l4 H4 hl4 s4 F4
  push_cast[↓rV]
  have n1:=B1 (p:=λr=>decide (0<led vw r) && !decide (AT vw.rm r=some 1)) (f:=λr=>[.str "free",.str "record",.int r]) br
  have n2:=B1 (p:=λp=>decide (0<named vw p) && !decide (AT vw.pm p=some 1)) (f:=λp=>[.str "free",.str "piece",.int p]) bp
  exact DM (F2.same (s3.trans s4)) F4 (by omega) (q.of (((s1.trans s2).trans s3).trans s4))
theorem xN(h:MC K a vs H Q E):vs.length=1:=by
 obtain⟨_,_,_,rfl,_⟩:=h
 rfl
theorem xO(h:MB K a vs H Q E):Q1 K a (λ_=>E) (A8 Q) (A7 ["view","shared","empty","few"] vs) H:=by
 obtain⟨x,A,vw,rfl,T,I,q⟩:=h
 obtain⟨dx,e⟩:=I.ob
 have br:=I.ok.br
 have bp:=I.ok.bp
 push_cast[Q1,↓rN]
 refine⟨_,_,e,HZ (by decide +kernel),x,A,vw,rfl,T,I,λl1 H1 hl1 s1 el1=>⟨l1,rfl,.inl ⟨⟨_,SqL.of el1⟩,FA (λp=>decide (1<named vw p)) (λp=>[.str "shared",.int p]) el1 (EE bp) (λk hk H' s QB qb=> ?_) (λk hk hp H' Q' s q'=> ?_) ?_⟩⟩⟩
 ·obtain⟨hk,_⟩:=DK hk
  have I':=(I.same s1).same s
  obtain⟨dx',e'⟩:=I'.ob
  push_cast[A5]
  refine⟨_,_,_,e',T.cl,T.n7,_,b7,D4 I'.ng hk ?_⟩
  push_cast[]
  rw[cA]
  exact qb
 ·push_cast[]
  exact⟨by decide,q'⟩
 rw[ED (r:=λp=>decide (1<named vw p)) λk _=>by
  by_cases h:1<named vw k
  ·simp[h];omega
  ·simp[h]]
 intro l2 H2 hl2 s2 F2
 have I2:=I.same (s1.trans s2)
 obtain⟨dx2,e2⟩:=I2.ob
 push_cast[↓rO]
 refine⟨_,_,e2,HZ (by decide +kernel),x,A,vw,rfl,T,I2,λl3 H3 hl3 s3 el3=>⟨l3,rfl,.inl ⟨⟨_,SqL.of el3⟩,FA (λp=>(AT vw.pc p).isNone) (λp=>[.str "empty",.int p]) el3 (EE bp) (λk hk H' s QB qb=> ?_) (λk hk hp H' Q' s q'=> ?_) ?_⟩⟩⟩
 ·obtain⟨hk,_⟩:=DK hk
  have I':=(I2.same s3).same s
  obtain⟨dx',e'⟩:=I'.ob
  obtain⟨us',v',e1',_,ev,hr⟩:=I'.p.at hk
  push_cast[A5]
  refine⟨_,_,_,e',T.cl,T.n3,_,wT,BN (SqL.of e1') (n:=k) rfl ev ?_⟩
  push_cast[]
  rw[b9 hr]
  exact qb
 ·push_cast[]
  exact⟨by decide,q'⟩
 rw[ED λk _=>rfl]
 intro l4 H4 hl4 s4 F4
 have I4:=(I2.same s3).same s4
 obtain⟨dx4,e4⟩:=I4.ob
 push_cast[↓rP]
 refine⟨_,_,e4,HZ (by decide +kernel),x,A,vw,rfl,T,I4,λl5 H5 hl5 s5 el5=>⟨l5,rfl,.inl ⟨⟨_,SqL.of el5⟩,FA (EW vw) (λr=>[.str "few",.int r]) el5 (EE br) (λk hk H' s QB qb=> ?_) (λk hk hp H' Q' s q'=> ?_) ?_⟩⟩⟩
 ·obtain⟨hk,hs⟩:=DK hk
  obtain⟨c,hc⟩:=Option.isSome_iff_exists.mp hs
  have I':=(I4.same s5).same s
  obtain⟨dx',e'⟩:=I'.ob
  push_cast[A5]
  refine⟨_,_,e',HZ (by decide +kernel),x,A,vw,k,c,rfl,T,I',hc,_,_,_,e',T.cl,T.n6,_,RS,D4 I'.ld hk ?_⟩
  push_cast[]
  unfold EW at qb
  rw[hc]at qb
  exact qb
 ·push_cast[]
  exact⟨by decide,q'⟩
 rw[ED (r:=EW vw) λk _=>by
  unfold EW
  cases AT vw.rc k<;>simp]
 intro l6 H6 hl6 s6 F6
 push_cast[↓rQ]
 have n1:=B1 (p:=λp=>decide (1<named vw p)) (f:=λp=>[.str "shared",.int p]) bp
 have n2:=B1 (p:=λp=>decide (0<named vw p) && (AT vw.pc p).isNone) (f:=λp=>[.str "empty",.int p]) bp
 have n3:=B1 (p:=EW vw) (f:=λr=>[.str "few",.int r]) br
 have s26:=((s3.trans s4).trans s5).trans s6
 refine DM (F2.same s26) (F4.same (s5.trans s6)) (by omega) λl7 H7 hl7 s7 F7=>DM F7 (F6.same s7) (by simp only[List.length_append];omega) ?_
 exact q.of (((s1.trans s2).trans s26).trans s7)
theorem xP(h:MB K a vs H Q E):vs.length=1:=by
 obtain⟨_,_,_,rfl,_⟩:=h
 rfl
def TwoL(H:Hp)(l1 l2:Addr)(f1 f2:List (List V))(H':Hp):Prop:=SameBut (λy=>y=l1\/y=l2) H H'/\FindsL H' l1 f1/\FindsL H' l2 f2/\l1≠l2
theorem TwoL.same{l1 l2:Addr}{f1 f2:List (List V)}{H1 H2:Hp}(h:TwoL H l1 l2 f1 f2 H1)(s:Same H1 H2):TwoL H l1 l2 f1 f2 H2:=⟨h.1.trans s.sb,h.2.1.same s,h.2.2.1.same s,h.2.2.2⟩
theorem xQ{l1 l2 t:Addr}{f1 f2:List (List V)}{f:List V}{H':Hp}(h:TwoL H l1 l2 f1 f2 H')(ht:H' t=some (.tup f)):TwoL H l1 l2 (f1++[f]) f2 (upd H' l1 (.lst (((h.2.1).choose++[t]).map V.ref))):=by
 obtain⟨s,F1,F2,n⟩:=h
 have e1:=F1.choose_spec.1
 have P1:=F1.choose_spec.2
 have k:∀ {y:Addr} {g:List V},H' y=some (.tup g)->upd H' l1 (.lst ((F1.choose++[t]).map V.ref)) y=some (.tup g):=λe=>by rw[AS (DA e e1 (by intro z;cases z))];exact e
 refine⟨λy o e ny=>by rw[AS λz=>ny (.inl z)];exact s _ _ e ny,⟨_,AU,Paired.snoc (Paired.mapP P1 λq g e=>k e) (k ht)⟩,?_,n⟩
 obtain⟨p2,e2,P2⟩:=F2
 exact⟨p2,by rw[AS n.symm];exact e2,Paired.mapP P2 λq g e=>k e⟩
theorem TwoL.flip{l1 l2:Addr}{f1 f2:List (List V)}{H':Hp}(h:TwoL H l1 l2 f1 f2 H'):TwoL H l2 l1 f2 f1 H':=⟨h.1.wide λ_=>Or.symm,h.2.2.1,h.2.1,h.2.2.2.symm⟩
theorem N4{l1 l2 t:Addr}{f1 f2:List (List V)}{f:List V}{H':Hp}{Q:VK}(h:TwoL H l1 l2 f1 f2 H')(hn:f1.length<=1000)(ht:H' t=some (.tup f))(q:∀ H2,TwoL H l1 l2 (f1++[f]) f2 H2->Q .non H2):NM (.ref l1) [.ref t] H' Q:=by
 have e1:=h.2.1.choose_spec.1
 have P1:=h.2.1.choose_spec.2
 refine⟨l1,_,_,rfl,rfl,e1,Nat.lt_of_lt_of_le (show(h.2.1.choose.map V.ref).length<10000 by rw[List.length_map,P1.length];omega) (by decide),?_⟩
 have:=q _ (xQ h ht)
 rw[List.map_append]at this
 exact this
theorem RU{n:Nat}{p:Nat->Bool}{f:Nat->List V}:B5 (n+1) p f=if p n=true then B5 n p f++[f n]else B5 n p f:=by
 unfold B5
 rw[List.range_succ,List.filter_append,List.map_append]
 split
 ·rename_i h;simp[h]
 ·rename_i h;simp[h]
def DE(is:List Nat)(p:Nat->Bool)(f:Nat->List V)(i:Nat):List (List V):=((is.take i).filter p).map f
theorem RV{is:List Nat}{p:Nat->Bool}{f:Nat->List V}{i k:Nat}(h:is[i]? =some k):DE is p f (i+1)=if p k=true then DE is p f i++[f k]else DE is p f i:=by
 unfold DE
 rw[DJ h,List.filter_append,List.map_append]
 split
 ·rename_i h;simp[h]
 ·rename_i h;simp[h]
theorem RW{is:List Nat}{p:Nat->Bool}{f:Nat->List V}{i:Nat}(h:is.length<=1000):(DE is p f i).length<=1000:=by
 unfold DE
 rw[List.length_map]
 exact Nat.le_trans (List.length_filter_le ..) (by rw[List.length_take];omega)
theorem ViewAt.two{x:Addr}{A:VA}{vw:Vw}{l1 l2:Addr}{f1 f2:List (List V)}{H0 H':Hp}(I:ViewAt a H0 x A vw)(s0:Same H0 H)(n1:H0 l1=none)(n2:H0 l2=none)(W:TwoL H l1 l2 f1 f2 H'):ViewAt a H' x A vw :=
 I.same λy o e=>W.1 _ _ (s0 _ _ e) λz=>by
  rcases z with z | z
  ·rw[z,n1]at e;cases e
  ·rw[z,n2]at e;cases e
theorem xR(h:MD K a vs H Q E):Q3 K a (λ_=>E) (A8 Q) (A7 ["view","many","left","record","leads"] vs) H:=by
 obtain⟨x,A,vw,rfl,T,I,q⟩:=h
 have br:=I.ok.br
 push_cast[Q3,↓rW,↓rX]
 refine⟨by decide,λl1 hl1=>⟨by decide,λl2 hl2=> ?_⟩⟩
 have n12:l1≠l2:=BG AU hl2
 have s2:Same H (upd (upd H l1 (.lst [])) l2 (.lst [])):=(AZ hl1).trans (AZ hl2)
 have k1:FindsL (upd (upd H l1 (.lst [])) l2 (.lst [])) l1 []:=⟨[],by rw[AS n12,AU];rfl,.nil⟩
 have k2:FindsL (upd (upd H l1 (.lst [])) l2 (.lst [])) l2 []:=⟨[],AU,.nil⟩
 have f2:H l2=none:=(AZ hl1).free hl2
 revert s2 k1 k2
 generalize upd (upd H l1 (.lst [])) l2 (.lst [])=H2
 intro s2 k1 k2
 have I2:=I.same s2
 obtain⟨dx2,e2⟩:=I2.ob
 push_cast[↓sB]
 refine⟨_,_,e2,HZ (by decide +kernel),x,A,vw,rfl,T,I2,λl3 H3 hl3 s3 el3=>⟨l3,rfl,.inl ⟨⟨_,SqL.of el3⟩,?_⟩⟩⟩
 have m1:l1≠l3:=λz=>by
  obtain⟨ps,e,_⟩:=k1
  rw[z,hl3]at e;cases e
 have m2:l2≠l3:=λz=>by
  obtain⟨ps,e,_⟩:=k2
  rw[z,hl3]at e;cases e
 have s03:=s2.trans s3
 let is:=(List.range vw.rc.length).filter λr=>(AT vw.rc r).isSome
 have hil:is.length<=1000:=EE br
 refine G0 (xs:=AW is) (λi σ H'=>TwoL H3 l1 l2 (DE is (EB vw) (λr=>[.str "many",.int r,.int (led vw r)]) i) (DE is (λr=>decide (led vw r=0)) (λr=>[.str "left",.str "record",.int r]) i) H'/\∃ y3 y4,σ=[some (.ref x),some (.ref l1),some (.ref l2),y3,y4]) ⟨⟨SameBut.refl _,k1.same s3,k2.same s3,n12⟩,_,_,rfl⟩ (λi σ H' _ ⟨W,_⟩=>SqL.of (W.1 _ _ el3 λz=>z.elim (λz=>m1 z.symm) λz=>m2 z.symm)) (λi v σ H' hx ⟨W,y3,y4,eσ⟩=> ?_) (λσ H' ⟨W,y3,y4,eσ⟩=> ?_)
 ·subst eσ
  unfold AW at hx
  rw[List.getElem?_map,Option.map_eq_some_iff]at hx
  obtain⟨k,hk',rfl⟩:=hx
  obtain⟨hk,hsm⟩:=DK (List.mem_of_getElem? hk')
  obtain⟨c,hc⟩:=Option.isSome_iff_exists.mp hsm
  have I':=I.two s03 hl1 f2 W
  obtain⟨dx',e'⟩:=I'.ob
  push_cast[↓rY]
  refine⟨_,_,_,e',T.cl,T.n6,_,RS,D4 I'.ld hk ?_⟩
  push_cast[↓sA]
  have im:EB vw k=(decide (0<led vw k) && decide ((led vw k:Int)<c.1)):=by unfold EB;rw[hc]
  rw[RV hk',RV hk',im]
  by_cases h0:led vw k=0
  ·refine CW (by omega) ?_
   push_cast[↓rZ]
   obtain⟨ps2,ep2,_⟩:=W.2.2.1
   refine⟨.inl ⟨rfl,_,SqL.of ep2⟩,by decide,λt ht=>N4 (W.same (AZ ht)).flip (RW hil) AU λH4 W4=> ?_⟩
   have h0':¬ 0<led vw k:=by omega
   rw[decide_eq_false h0',Bool.false_and,if_neg Bool.false_ne_true,if_pos h0]
   exact W4.flip
  ·refine BT (by omega) ?_
   push_cast[↓r8]
   refine⟨_,_,e',HZ (by decide +kernel),x,A,vw,k,c,rfl,T,I',hc,?_⟩
   push_cast[]
   by_cases h1:(led vw k:Int)<c.1
   ·refine CW h1 ?_
    push_cast[↓r0]
    obtain⟨ps2,ep2,_⟩:=W.2.1
    refine⟨.inl ⟨rfl,_,SqL.of ep2⟩,by decide,λt ht=>N4 (W.same (AZ ht)) (RW hil) AU λH4 W4=> ?_⟩
    rw[decide_eq_true (show 0<led vw k by omega),decide_eq_true h1,Bool.and_true,if_pos rfl,if_neg h0]
    exact W4
   ·refine BT h1 ?_
    rw[decide_eq_false h1,Bool.and_false,if_neg Bool.false_ne_true,if_neg h0]
    exact W
 ·subst eσ
  push_cast[↓sC]
  rw[CZ]at W
  have g1:DE is (EB vw) (λr=>[.str "many",.int r,.int (led vw r)]) is.length=B5 vw.rc.length (EB vw) (λr=>[.str "many",.int r,.int (led vw r)]):=by
   unfold DE
   rw[List.take_length]
   exact ED λk _=>by
    unfold EB
    cases AT vw.rc k<;>simp
  have g2:DE is (λr=>decide (led vw r=0)) (λr=>[.str "left",.str "record",.int r]) is.length=B5 vw.rc.length (λr=>(AT vw.rc r).isSome && decide (led vw r=0)) (λr=>[.str "left",.str "record",.int r]):=by
   unfold DE
   rw[List.take_length]
   exact ED λk _=>rfl
  rw[g1,g2]at W
  have n1:=B1 (p:=EB vw) (f:=λr=>[.str "many",.int r,.int (led vw r)]) br
  have n2:=B1 (p:=λr=>(AT vw.rc r).isSome && decide (led vw r=0)) (f:=λr=>[.str "left",.str "record",.int r]) br
  exact DM W.2.1 W.2.2.1 (by omega) (q.of λy o e=>W.1 _ _ (s03 _ _ e) λz=>by
   rcases z with z | z
   ·rw[z,hl1]at e;cases e
   ·rw[z,f2]at e;cases e)
theorem xS(h:MD K a vs H Q E):vs.length=1:=by
 obtain⟨_,_,_,rfl,_⟩:=h
 rfl
def JX(vw:Vw)(i:Nat)(s:Str):Bool:=(List.range i).any λj=>match AT vw.nm j with
  | none=>false
  | some d=>decide (d.1=s)
structure NmW(H3:Hp)(vw:Vw)(l1 l2 sn:Addr)(i:Nat)(lo tw:List (List V))(j:Nat)(H':Hp):Prop where
 s:SameBut (λy=>y=l1\/y=l2\/y=sn) H3 H'
 f1:FindsL H' l1 lo
 f2:FindsL H' l2 tw
 d:∃ kvs:List (A0 × V),H' sn=some (.dK kvs)/\(∀ s:Str,(B7 kvs (.inr s)).isSome=JX vw j s)/\kvs.length<=j
theorem NmW.two{H3:Hp}{vw:Vw}{l1 l2 sn:Addr}{i j:Nat}{lo tw lo' tw':List (List V)}{H' H2:Hp}(h:NmW H3 vw l1 l2 sn i lo tw j H')(n1:sn≠l1)(n2:sn≠l2)(W:TwoL H' l1 l2 lo' tw' H2):NmW H3 vw l1 l2 sn i lo' tw' j H2:=by
 obtain⟨kvs,e,r⟩:=h.d
 exact⟨h.s.trans (W.1.wide λy z=>z.elim .inl λz=>.inr (.inl z)),W.2.1,W.2.2.1,⟨kvs,W.1 _ _ e λz=>z.elim n1 n2,r⟩⟩
theorem NmW.same{H3:Hp}{vw:Vw}{l1 l2 sn:Addr}{i j:Nat}{lo tw:List (List V)}{H' H2:Hp}(h:NmW H3 vw l1 l2 sn i lo tw j H')(s:Same H' H2):NmW H3 vw l1 l2 sn i lo tw j H2:=by
 obtain⟨kvs,e,r⟩:=h.d
 exact⟨h.s.trans s.sb,h.f1.same s,h.f2.same s,⟨kvs,s _ _ e,r⟩⟩
theorem xT (h:MA K a vs H Q E):QD K a (λ_=>E) (A8 Q) (A7 ["view","lost","twice","seen","k","value"] vs) H:=by
  obtain⟨x,A,vw,rfl,T,I,q⟩:=h
  have bn:=I.ok.bn
  push_cast[QD,↓oI,↓oJ,↓oK]
  refine⟨by decide,λl1 hl1=>⟨by decide,λl2 hl2 sn hsn=> ?_⟩⟩
  have n12:l1≠l2:=BG AU hl2
  have s2:Same H (upd (upd H l1 (.lst [])) l2 (.lst [])):=(AZ hl1).trans (AZ hl2)
  have k1:FindsL (upd (upd H l1 (.lst [])) l2 (.lst [])) l1 []:=⟨[],by rw[AS n12,AU];rfl,.nil⟩
  have k2:FindsL (upd (upd H l1 (.lst [])) l2 (.lst [])) l2 []:=⟨[],AU,.nil⟩
  have f2:H l2=none:=(AZ hl1).free hl2
  revert hsn s2 k1 k2
  generalize upd (upd H l1 (.lst [])) l2 (.lst [])=H2
  intro hsn s2 k1 k2
  have fsn:=s2.free hsn
  have s3:=AZ (o:=.dK []) hsn
  have e3:upd H2 sn (.dK []) sn=some (.dK []):=AU
  revert s3 e3
  generalize upd H2 sn (.dK [])=H3
  intro s3 e3
  have s03:=s2.trans s3
  have I3:=I.same s03
  obtain⟨dx3,ob3⟩:=I3.ob
  obtain⟨us,en,P⟩:=I3.n
  have hl:=P.length
  push_cast[↓oS]
  refine⟨_,_,_,ob3,T.cl,T.n1,_,wS,A.n,rfl,⟨_,SqL.of en⟩,?_⟩
  have m1:sn≠l1:=λz=>by
    obtain⟨ps,e,_⟩:=k1
    rw[<-z,hsn]at e;cases e
  have m2:sn≠l2:=λz=>by
    obtain⟨ps,e,_⟩:=k2
    rw[<-z,hsn]at e;cases e
  have vi:∀ {H':Hp} {i j:Nat} {lo tw:List (List V)},NmW H3 vw l1 l2 sn i lo tw j H'->ViewAt a H' x A vw:=λh=>I.same λy o e=>h.s _ _ (s03 _ _ e) λz=>by
    rcases z with z | z | z
    ·rw[z,hl1]at e;cases e
    ·rw[z,f2]at e;cases e
    ·rw[z,fsn]at e;cases e
  have nA:A.n≠l1/\A.n≠l2/\A.n≠sn:=by
    obtain⟨us',e0,_⟩:=I.n
    exact⟨λz=>(by rw[z,hl1]at e0;cases e0),λz=>(by rw[z,f2]at e0;cases e0),λz=>(by rw[z,fsn]at e0;cases e0)⟩
  let LO:=λi=>B5 i (DX vw) (λk=>[.str "lost",.int k])
  let TW:=λi=>B5 i (C3 vw) (λk=>[.str "twice",.int k])
  refine mY (xs:=us) (λi σ H'=>NmW H3 vw l1 l2 sn i (LO i) (TW i) i H'/\∃ y4 y5,σ=[some (.ref x),some (.ref l1),some (.ref l2),some (.ref sn),y4,y5]) ⟨⟨SameBut.refl _,k1.same s3,k2.same s3,[],e3,λ_=>rfl,Nat.le_refl _⟩,_,_,rfl⟩ (λi σ H' _ ⟨W,_⟩=>SqL.of (W.s _ _ en λz=>z.elim nA.1 λz=>z.elim nA.2.1 nA.2.2)) (λi v σ H' t hx ⟨W0,y4,y5,eσ⟩ ht=> ?_) (λσ H' ⟨W,y4,y5,eσ⟩=> ?_)
  · subst eσ
    have hi:=(List.getElem?_eq_some_iff.mp hx).1
    push_cast[]
    refine⟨_,SqT.of AU,rfl,_,_,rfl,_,_,rfl,rfl,?_⟩
    have W:=W0.same (AZ (o:=.tup [.int (i:Int),v]) ht)
    revert W
    generalize upd H' t (.tup [.int (i:Int),v])=H4
    intro W
    clear W0
    have I4:=vi W
    obtain⟨dx4,ob4⟩:=I4.ob
    obtain⟨us',v',e1',_,ev,hr⟩:=I4.n.at (k:=i) (by omega)
    rw[W.s _ _ en (λz=>z.elim nA.1 λz=>z.elim nA.2.1 nA.2.2)]at e1';cases e1'
    rw[hx]at ev;cases ev
    have bi:i<=100:=by omega
    have hLO:LO (i+1)=if DX vw i=true then LO i++[[.str "lost",.int i]]else LO i:=RU
    have hTW:TW (i+1)=if C3 vw i=true then TW i++[[.str "twice",.int i]]else TW i:=RU
    have n1:(LO i).length<=100:=B1 bi
    have n2:(TW i).length<=100:=B1 bi
    have sS:∀ s:Str,JX vw (i+1) s=(JX vw i s || match AT vw.nm i with
      | none=>false
      | some d=>decide (d.1=s)):=λs=>by
      unfold JX
      rw[List.range_succ,List.any_append]
      simp
    push_cast[↓oR]
    cases hc:AT vw.nm i with
    | none =>
      rw[hc]at hr
      refine BT (λz=>z hr) ?_
      have z1:DX vw i=false:=by unfold DX;rw[hc]
      have z2:C3 vw i=false:=by unfold C3;rw[hc]
      rw[hLO,hTW,z1,z2,if_neg Bool.false_ne_true,if_neg Bool.false_ne_true]
      obtain⟨kvs,ek,hv,hkl⟩:=W.d
      exact⟨W.s,W.f1,W.f2,kvs,ek,λs=>by rw[hv,sS,hc,Bool.or_false],by omega⟩
    | some c =>
      rw[hc]at hr
      obtain⟨p,rfl,hp⟩:=hr
      refine CW (by simp) ?_
      have hm:some c∈vw.nm:=by
        unfold AT at hc
        cases e2:vw.nm[i]? with
        | none=>rw[e2]at hc;cases hc
        | some y =>
          rw[e2]at hc
          have hc:y=some c:=hc
          exact hc ▸ List.mem_of_getElem? e2
      have hcr:=(I.ok.n1 c hm).1
      have z1:DX vw i=(AT vw.rc c.2).isNone:=by unfold DX;rw[hc]
      have z2:C3 vw i=JX vw i c.1:=by unfold C3 JX;simp only[hc]<;>rfl
      have tail:∀ {H5:Hp},NmW H3 vw l1 l2 sn i (LO (i+1)) (TW i) i H5->H5 p=some (.tup [.str c.1,.int c.2])->AO (QC K a (λ_=>E) (λ_=>E)) (NX K a (λ_=>E) (λ_=>E)) { nx:=λσ H'=>NmW H3 vw l1 l2 sn (i+1) (LO (i+1)) (TW (i+1)) (i+1) H'/\∃ y4 y5,σ=[some (V.ref x),some (V.ref l1),some (V.ref l2),some (V.ref sn),y4,y5],rt:=Q,bk:=NY K a (λx=>E) (λx=>E) (A8 Q),ct:=λσ H'=>NmW H3 vw l1 l2 sn (i+1) (LO (i+1)) (TW (i+1)) (i+1) H'/\∃ y4 y5,σ=[some (V.ref x),some (V.ref l1),some (V.ref l2),some (V.ref sn),y4,y5] } [some (V.ref x),some (V.ref l1),some (V.ref l2),some (V.ref sn),some (V.int ↑i),some (V.ref p)] H5:=λ{H5} W5 hp5=>by
        have last:∀ {H6:Hp},NmW H3 vw l1 l2 sn i (LO (i+1)) (TW (i+1)) i H6->H6 p=some (.tup [.str c.1,.int c.2])->NX K a (λ_=>E) (λ_=>E) { nx:=λσ H'=>NmW H3 vw l1 l2 sn (i+1) (LO (i+1)) (TW (i+1)) (i+1) H'/\∃ y4 y5,σ=[some (V.ref x),some (V.ref l1),some (V.ref l2),some (V.ref sn),y4,y5],rt:=Q,bk:=NY K a (λx=>E) (λx=>E) (A8 Q),ct:=λσ H'=>NmW H3 vw l1 l2 sn (i+1) (LO (i+1)) (TW (i+1)) (i+1) H'/\∃ y4 y5,σ=[some (V.ref x),some (V.ref l1),some (V.ref l2),some (V.ref sn),y4,y5] } [some (V.ref x),some (V.ref l1),some (V.ref l2),some (V.ref sn),some (V.int ↑i),some (V.ref p)] H6:=λ{H6} W6 hp6=>by
          obtain⟨kvs,ek,hv,hkl⟩:=W6.d
          push_cast[↓oQ]
          refine CU hp6 (n:=0) rfl rfl ⟨_,pS ek (by omega),?_⟩
          have s7:SameBut (· =sn) H6 (upd H6 sn (.dK (C7 kvs (.inr c.1) (.bl true)))):=λy o e ny=>by rw[AS ny];exact e
          obtain⟨q1,g1,P1⟩:=W6.f1
          obtain⟨q2,g2,P2⟩:=W6.f2
          have kt:∀ {y:Addr} {g:List V},H6 y=some (.tup g)->upd H6 sn (.dK (C7 kvs (.inr c.1) (.bl true))) y=some (.tup g):=λe=>s7 _ _ e (DA e ek (by intro z;cases z))
          refine⟨W6.s.trans (s7.wide λy z=>.inr (.inr z)),⟨q1,s7 _ _ g1 m1.symm,Paired.mapP P1 λq g e=>kt e⟩,⟨q2,s7 _ _ g2 m2.symm,Paired.mapP P2 λq g e=>kt e⟩,_,AU,λs=> ?_,?_⟩
          · rw[gL,sS,hc,<-hv]
            by_cases z:s=c.1
            ·subst z;simp
            · rw[if_neg (by simpa using z)]
              have:decide (c.1=s)=false:=by simpa using λu=>z (Eq.symm u)
              simp only[this,Bool.or_false]
          · have:=O0 kvs (.inr c.1) (.bl true)
            omega
        obtain⟨kvs,ek,hv,hkl⟩:=W5.d
        push_cast[↓oP]
        refine CU hp5 (n:=0) rfl rfl ⟨_,dS ek,?_⟩
        rw[hv,<-z2]
        cases hz:C3 vw i with
        | true =>
          refine CW rfl ?_
          push_cast[↓oO]
          obtain⟨ps2,ep2,_⟩:=W5.f2
          refine⟨.inl ⟨rfl,_,SqL.of ep2⟩,by decide,λt2 ht2=> ?_⟩
          have W5':=W5.same (AZ (o:=.tup [V.str (Str.ofString "twice"),V.int ↑i]) ht2)
          refine N4 (H:=upd H5 t2 (.tup [V.str (Str.ofString "twice"),V.int ↑i])) (l2:=l1) (f2:=LO (i+1)) ⟨SameBut.refl _,W5'.f2,W5'.f1,n12.symm⟩ (by omega) AU λH6 W6=> ?_
          have W7:=W5'.two m1 m2 W6.flip
          rw[show TW i++[[V.str (Str.ofString "twice"),V.int ↑i]]=TW (i+1) by rw[hTW,hz,if_pos rfl]]at W7
          exact last W7 (W6.1 _ _ (AZ ht2 _ _ hp5) λz=>by
            rcases z with z | z
            · obtain⟨ps,e,_⟩:=W5.f2
              rw[<-z,hp5]at e;cases e
            · obtain⟨ps,e,_⟩:=W5.f1
              rw[<-z,hp5]at e;cases e)
        | false =>
          refine BT Bool.false_ne_true ?_
          rw[show TW i=TW (i+1) by rw[hTW,hz,if_neg Bool.false_ne_true]]at W5
          exact last W5 hp5
      obtain⟨us2,v2,e2,_,ev2,hr2⟩:=I4.r.at hcr
      push_cast[↓oN]
      refine⟨_,_,_,ob4,T.cl,T.n2,_,N1,CU hp (n:=1) rfl rfl (BN (SqL.of e2) (n:=c.2) rfl ev2 ?_)⟩
      push_cast[]
      have hv2:=IA hr2
      by_cases hz:v2=.non
      · refine CW hz ?_
        have hz':DX vw i=true:=by rw[z1,<-hv2];simpa using hz
        push_cast[↓oM]
        obtain⟨ps2,ep2,_⟩:=W.f1
        refine⟨.inl ⟨rfl,_,SqL.of ep2⟩,by decide,λt2 ht2=> ?_⟩
        have W5':=W.same (AZ (o:=.tup [V.str (Str.ofString "lost"),V.int ↑i]) ht2)
        refine N4 (H:=upd H4 t2 (.tup [V.str (Str.ofString "lost"),V.int ↑i])) (l2:=l2) (f2:=TW i) ⟨SameBut.refl _,W5'.f1,W5'.f2,n12⟩ (by omega) AU λH6 W6=> ?_
        have W7:=W5'.two m1 m2 W6
        rw[show LO i++[[V.str (Str.ofString "lost"),V.int ↑i]]=LO (i+1) by rw[hLO,hz',if_pos rfl]]at W7
        exact tail W7 (W6.1 _ _ (AZ ht2 _ _ hp) λz=>by
            rcases z with z | z
            · obtain⟨ps,e,_⟩:=W.f1
              rw[<-z,hp]at e;cases e
            · obtain⟨ps,e,_⟩:=W.f2
              rw[<-z,hp]at e;cases e)
      · refine BT hz ?_
        have hz':DX vw i=false:=by rw[z1,<-hv2];simpa using hz
        rw[show LO i=LO (i+1) by rw[hLO,hz',if_neg Bool.false_ne_true]]at W
        exact tail W hp
  · subst eσ
    push_cast[↓oU]
    rw[hl]at W
    exact DM W.f1 W.f2 (by have:=B1 (p:=DX vw) (f:=λk=>[.str "lost",.int k]) bn;have:=B1 (p:=C3 vw) (f:=λk=>[.str "twice",.int k]) bn;show(B5 _ _ _).length+(B5 _ _ _).length<=_;omega) (q.of λy o e=>W.s _ _ (s03 _ _ e) λz=>by
      rcases z with z | z | z
      ·rw[z,hl1]at e;cases e
      ·rw[z,f2]at e;cases e
      ·rw[z,fsn]at e;cases e)
theorem xU(h:MA K a vs H Q E):vs.length=1:=by
 obtain⟨_,_,_,rfl,_⟩:=h
 rfl
theorem N5{n b:Nat}(h:b<n):FI n (b:Int)=some b:=by
 unfold FI
 rw[if_pos (by omega),if_pos (by omega),Int.toNat_natCast]
theorem EF{α β :Type}{F: α -> β ->Prop}:∀ {l:List α} {m:List β} {i:Nat} {x: α},Paired F l m->l[i]? =some x->∃ y,m[i]? =some y/\F x y
 | _,_,_,_,.nil,h=>by simp at h
 | _,_,0,_,.cons h _,e=>by cases e;exact⟨_,rfl,h⟩
 | _,_,i+1,_,.cons _ r,e=>by
  obtain⟨y,h1,h2⟩:=EF (i:=i) r (by simpa using e)
  exact⟨y,by simpa using h1,h2⟩
theorem xV(h:FO K a vs H Q E):RJ K a (λ_=>E) (A8 Q) (A7 ["plank","places"] vs) H:=by
 obtain⟨gp,cl,pl,w,rows,m,ts,ps,rfl,TP,P,hpl,Pt,hin,hn,q⟩:=h
 have hl:=Pt.length
 push_cast[RJ,↓tW]
 refine .inl ⟨⟨_,SqL.of hpl⟩,mS (xs:=ts.map V.ref) (small _ (by rw[List.length_map];omega)) (λi σ' ys H'=>Same H H'/\ys=(ps.take i).map (λij=>G6 rows ij.1 ij.2)/\∃ y0 y1,σ'=[y0,y1,some (.ref gp)]) ⟨Same.refl _,rfl,none,none,rfl⟩ (λi σ' ys H' ⟨s,e,_⟩=>⟨SqL.of (s _ _ hpl),by rw[e,List.length_map,List.length_take];omega⟩) (λi x σ' ys H' hi hx ⟨s,e,y0,y1,eσ⟩=> ?_) (λσ' ys H' ⟨s,e,_⟩ p hp=> ?_)⟩
 ·subst eσ
  rw[List.length_map]at hi
  rw[List.getElem?_map,Option.map_eq_some_iff]at hx
  obtain⟨t,ht,rfl⟩:=hx
  obtain⟨ij,eij,et⟩:=EF Pt ht
  have hb:=hin ij (List.mem_of_getElem? eij)
  have P':=P.same s
  obtain⟨dp,hob⟩:=P'.ob
  push_cast[]
  refine⟨_,SqT.of (s _ _ et),rfl,_,_,rfl,_,_,rfl,rfl,?_⟩
  refine⟨λy H4=>Same H H4/\y=G6 rows ij.1 ij.2,λy H4 ⟨s4,ey⟩=>mR (by rw[List.length_map];exact hi) ⟨s4,?_⟩,_,_,hob,bY _ _ _,gp,cl,w,rows,m,ij.1,rfl,TP,P',λb' row eb er l1 hl1=> ?_,λz=>by omega⟩
  ·rw[ey,e,DJ eij,List.map_append]
   rfl
  ·obtain rfl:ij.1=b':=by omega
   have hw:=P.wd row (List.mem_of_getElem? er)
   have ej:=List.getElem?_eq_getElem (l:=row) (i:=ij.2) (by omega)
   refine BN (SqL.of AU) (n:=ij.2) rfl ej ⟨EX s hl1,?_⟩
   unfold G6
   rw[er]
   show _=(row[ij.2]?).getD .non
   rw[ej];rfl
 ·rw[List.length_map,hl,List.take_length]at e
  subst e
  exact q p _ (s.free hp) (EX s hp) AU
theorem xW(h:FO K a vs H Q E):vs.length=2:=by
 obtain⟨_,_,_,_,_,_,_,_,rfl,_⟩:=h
 rfl
theorem xX(h:HV K a vs H Q E):QH K a (λ_=>E) (A8 Q) (A7 ["many","numbers","counts","number"] vs) H:=by
 obtain⟨many,nl,ks,rfl,hnl,hks,hm,hkn,q⟩:=h
 push_cast[QH,↓oZ]
 refine⟨by omega,by omega,lO (small many (by omega)) (λ_=>V.int 0) (λj hj Q' q'=>q') λl hl=> ?_⟩
 have e0:(List.range many).map (λ_=>V.int 0)=AW ((List.range many).map λk=>([]:List Nat).count k):=by
  unfold AW
  rw[List.map_map]
  rfl
 rw[e0]
 have s1:=AZ (o:=.lst (AW ((List.range many).map λk=>([]:List Nat).count k))) hl
 have e1:upd H l (.lst (AW ((List.range many).map λk=>([]:List Nat).count k))) l=some (.lst (AW ((List.range many).map λk=>([]:List Nat).count k))):=AU
 have nll:nl≠l:=BG hnl hl
 revert s1 e1
 generalize upd H l (.lst (AW ((List.range many).map λk=>([]:List Nat).count k)))=H1
 intro s1 e1
 push_cast[↓o1]
 refine .inl ⟨⟨_,SqL.of (s1 _ _ hnl)⟩,G0 (xs:=AW ks) (λi σ H'=>(Same H H'/\H' l=some (.lst (AW ((List.range many).map λk=>(ks.take i).count k))))/\∃ y,σ=[some (.int many),some (.ref nl),some (.ref l),y]) ⟨⟨s1,e1⟩,_,rfl⟩ (λi σ H' _ ⟨⟨s,_⟩,_⟩=>SqL.of (s _ _ hnl)) (λi v σ H' hx ⟨⟨s,e⟩,y,eσ⟩=> ?_) (λσ H' ⟨⟨s,e⟩,y,eσ⟩=> ?_)⟩
 ·subst eσ
  unfold AW at hx
  rw[List.getElem?_map,Option.map_eq_some_iff]at hx
  obtain⟨k,hk',rfl⟩:=hx
  have hk:=hks k (List.mem_of_getElem? hk')
  push_cast[↓o0]
  refine⟨_,k,rfl,SqL.of e,_,MT (GJ hk),?_⟩
  push_cast[]
  refine⟨l,_,_,k,rfl,rfl,e,N5 (by rw[CZ,FB];exact hk),λy o e=>by rw[AS (BG e hl)];exact s _ _ e,?_⟩
  rw[AU]
  congr 2
  unfold AW
  refine List.ext_getElem? λj=> ?_
  by_cases hj:j<many
  ·rw[List.getElem?_map,GJ hj,DJ hk',List.count_append]
   by_cases z:k=j
   ·subst z
    rw[List.getElem?_set_self (by simpa using hj)]
    simp
   ·rw[List.getElem?_set_ne z,List.getElem?_map,GJ hj]
    have:List.count j [k]=0:=by simp[z]
    rw[this]
    rfl
  ·rw[List.getElem?_eq_none (by simp;omega),List.getElem?_eq_none (by simp;omega)]
 ·subst eσ
  rw[CZ,List.take_length]at e
  push_cast[↓o2]
  exact q l _ hl s e
theorem xY(h:HV K a vs H Q E):vs.length=2:=by
 obtain⟨_,_,_,rfl,_⟩:=h
 rfl
theorem xZ (h:JR K a vs H Q E):QI K a (λ_=>E) (A8 Q) (A7 ["records","pieces","value"] vs) H:=by
  obtain⟨rl,cs,rfl,⟨us,hrl,P⟩,hcs,hp,q⟩:=h
  have hl:=P.length
  push_cast[QI,↓o3]
  refine⟨by decide,λl hl0=> ?_⟩
  have s1:=AZ (o:=.lst []) hl0
  have e1:upd H l (.lst []) l=some (.lst (AW (CV []))):=AU
  revert s1 e1
  generalize upd H l (.lst [])=H1
  intro s1 e1
  have pl:∀ i,(CV (cs.take i)).length<=i * 10:=λi=>by
    induction i with
    | zero=>exact Nat.le_refl _
    | succ i ih =>
      cases e:cs[i]? with
      | none =>
        rw[List.take_of_length_le (by have:=List.getElem?_eq_none_iff.mp e;omega)]
        rw[List.take_of_length_le (by have:=List.getElem?_eq_none_iff.mp e;omega)]at ih
        omega
      | some c =>
        rw[DJ e]
        unfold CV at ih ⊢
        rw[List.flatMap_append,List.length_append]
        have:(List.flatMap FN [c]).length<=10:=by
          cases c with
          | none=>simp[FN]
          | some c =>
            simp[FN]
            exact hp c (List.mem_of_getElem? e)
        omega
  push_cast[↓o8]
  refine .inl ⟨⟨_,SqL.of (s1 _ _ hrl)⟩,G0 (xs:=us) (λi σ H'=>(Same H H'/\H' l=some (.lst (AW (CV (cs.take i)))))/\∃ y,σ=[some (.ref rl),some (.ref l),y]) ⟨⟨s1,e1⟩,_,rfl⟩ (λi σ H' _ ⟨⟨s,_⟩,_⟩=>SqL.of (s _ _ hrl)) (λi v σ H' hx ⟨⟨s,e⟩,y,eσ⟩=> ?_) (λσ H' ⟨⟨s,e⟩,y,eσ⟩=> ?_)⟩
  · subst eσ
    obtain⟨c,ec,hr⟩:=EF P hx
    have hi:=(List.getElem?_eq_some_iff.mp hx).1
    have pli:=pl i
    have ep:CV (cs.take (i+1))=CV (cs.take i)++FN c:=by
      rw[DJ ec]
      unfold CV
      rw[List.flatMap_append]
      simp
    rw[ep]
    push_cast[↓o7]
    cases c with
    | none =>
      refine BT (λz=>z hr) ?_
      rw[show FN none=[]from rfl,List.append_nil]
      exact⟨s,e⟩
    | some c =>
      obtain⟨p,t,rfl,h1,h2⟩:=hr
      refine CW (by simp) ?_
      push_cast[↓o6]
      have hc:=hp c (List.mem_of_getElem? ec)
      refine⟨.inl ⟨rfl,_,SqL.of e⟩,CU (s _ _ h1) (n:=1) rfl rfl ⟨l,t,_,_,rfl,rfl,e,SqT.of (s _ _ h2),small _ (by rw[CZ,CZ];omega),?_⟩⟩
      refine⟨λy o e=>by rw[AS (BG e hl0)];exact s _ _ e,?_⟩
      rw[AU]
      unfold AW
      rw[List.map_append]
      rfl
  · subst eσ
    rw[hl,List.take_length]at e
    push_cast[↓o9]
    exact q l _ hl0 s e
theorem x5(h:JR K a vs H Q E):vs.length=1:=by
 obtain⟨_,_,rfl,_⟩:=h
 rfl
theorem cD{w:Nat}:∀ {rows:List (List V)} {b j:Nat},(∀ r∈rows,r.length=w)->b<rows.length->j<w->rows.flatten[b * w+j]? =(rows[b]?).bind (·[j]?)
 | [],b,j,_,hb,_=>by simp at hb
 | r::rs,0,j,h,_,hj=>by
  have hr:=h r List.mem_cons_self
  rw[Nat.zero_mul,Nat.zero_add,List.flatten_cons,List.getElem?_append_left (by omega)]
  rfl
 | r::rs,b+1,j,h,hb,hj=>by
  have hr:=h r List.mem_cons_self
  rw[List.flatten_cons,List.getElem?_append_right (by rw[hr,Nat.succ_mul];omega)]
  have e:(b+1) * w+j - r.length=b * w+j:=by rw[hr,Nat.succ_mul];omega
  rw[e,cD (λr hr=>h r (List.mem_cons_of_mem _ hr)) (by simpa using hb) hj]
  rfl
theorem cE{w:Nat}{rows:List (List V)}{b k n:Nat}(h:∀ r∈rows,r.length=w)(hw:1<=w)(hk:k<n * w)(hb:b+n<=rows.length):(rows.flatten[b * w+k]?)=some (G6 rows (b+k / w) (k % w))/\b+k / w<rows.length/\k % w<w:=by
 have h1:k / w<n:=Nat.div_lt_of_lt_mul (by rw[Nat.mul_comm];exact hk)
 have h2:k % w<w:=Nat.mod_lt _ (by omega)
 refine⟨?_,by omega,h2⟩
 have e:b * w+k=(b+k / w) * w+k % w:=by
  rw[Nat.add_mul,Nat.add_assoc,Nat.div_add_mod']
 rw[e,cD h (by omega) h2]
 unfold G6
 have hb':b+k / w<rows.length:=by omega
 rw[List.getElem?_eq_getElem hb']
 have hr:=h _ (List.getElem_mem hb')
 show(rows[b+k / w])[k % w]? =some (((rows[b+k / w])[k % w]?).getD .non)
 rw[List.getElem?_eq_getElem (by omega)]
 rfl
theorem x6{w:Nat}{rows:List (List V)}{b n:Nat}{pre vs post:List V}(h:∀ r∈rows,r.length=w)(hw:1<=w)(hb:b+n<=rows.length)(e:rows.flatten=pre++vs++post)(hp:pre.length=b * w)(hv:vs.length=n * w):(List.range (n * w)).map (λk=>G6 rows (b+k / w) (k % w))=vs:=by
 refine List.ext_getElem? λk=> ?_
 by_cases hk:k<n * w
 ·rw[List.getElem?_map,List.getElem?_range hk]
  have:=(cE h hw hk hb).1
  show some _=_
  rw[<-this,e,List.append_assoc,List.getElem?_append_right (by omega),List.getElem?_append_left (by omega)]
  congr 1
  omega
 ·rw[List.getElem?_eq_none (by simp;omega),List.getElem?_eq_none (by omega)]
theorem x8{N b w:Nat}{te:TE}{cap:List Nat}{σ:St}(hn:N<=1000)
  (he:∀ k,k<N->∀ H' (Q':VK),Same H H'->(∀ t,H' t=none->Q' (.ref t) (upd H' t (.tup [.int ((b+k / w:Nat):Int),.int ((k % w:Nat):Int)])))->te (some (.int (k:Int))::A5 cap σ) H' Q')
  (hd:∀ (pl:Addr) (ts:List Addr) (H':Hp),H pl=none->Same H H'->H' pl=some (.lst (ts.map V.ref))->Paired (λt (ij:Nat × Nat)=>H' t=some (.tup [.int ij.1,.int ij.2])) ts ((List.range N).map λk=>(b+k / w,k % w))->Q (.ref pl) H'):C2 (DF 0 N) (AJ 0) CY te 1 cap σ H Q:=by
 refine HQ (small _ (by omega)) (λi ys H'=>Same H H'/\∃ ts:List Addr,ys=ts.map V.ref/\Paired (λt (ij:Nat × Nat)=>H' t=some (.tup [.int ij.1,.int ij.2])) ts ((List.range i).map λk=>(b+k / w,k % w))) ⟨Same.refl _,[],rfl,.nil⟩ (λi ys H' hi _ ⟨s,ts,e,P⟩=> ?_) (λys H' _ ⟨s,ts,e,P⟩ p hp=> ?_)
 ·rw[Int.zero_add]
  refine he i hi H' _ s λt ht=>⟨EX s ht,ts++[t],by rw[e,List.map_append];rfl,?_⟩
  rw[List.range_succ,List.map_append]
  exact Paired.snoc (Paired.mapP P λt ij e=>AZ ht _ _ e) AU
 ·subst e
  exact hd p ts _ (s.free hp) (EX s hp) AU (Paired.mapP P λt ij e=>AZ hp _ _ e)
theorem MW{n b w m:Nat}{gp cl:Addr}{rows:List (List V)}{te:TE}{cap:List Nat}{σ:St}{QV:VK}{pre us post:List V}(TP:EU K a)(P:PlankAt a H gp cl w rows m)(hw:1<=w)(hnw:n * w<=1000)(hb:b+n<=rows.length)(e:rows.flatten=pre++us++post)(hp:pre.length=b * w)(hv:us.length=n * w)
  (he:∀ k,k<n * w->∀ H' (Q':VK),Same H H'->(∀ t,H' t=none->Q' (.ref t) (upd H' t (.tup [.int ((b+k / w:Nat):Int),.int ((k % w:Nat):Int)])))->te (some (.int (k:Int))::A5 cap σ) H' Q')
  (q:newL us H QV):C2 (DF 0 (n * w)) (AJ 0) CY te 1 cap σ H (λv H2=>FO K a [.ref gp,v] H2 QV E):=by
 refine x8 hnw he λpl ts H' hpl s epl Pt=> ?_
 refine⟨gp,cl,pl,w,rows,m,ts,_,rfl,TP,P.same s,epl,Pt,λij hij=> ?_,by rw[List.length_map,List.length_range];exact hnw,?_⟩
 ·obtain⟨k,hk,rfl⟩:=List.mem_map.mp hij
  exact(cE P.wd hw (List.mem_range.mp hk) hb).2
 ·rw[List.map_map]
  have:=x6 P.wd hw hb e hp hv
  rw[show((List.range (n * w)).map ((λij:Nat × Nat=>G6 rows ij.1 ij.2) ∘ λk=>(b+k / w,k % w)))=us from this]
  exact q.of s
section
variable{u1 u2 u3 u4 u5 u6:V}{DY:List (Str × V)}
theorem x9:(("name_values",u1)::DY:List (Str × V)).lookup ("name_values":Str)=some u1:=by simp
theorem cF:(("name_values",u1)::("record_values",u2)::DY:List (Str × V)).lookup ("record_values":Str)=some u2:=by
 simp[List.lookup_cons,A9 (a:="record_values") (b:="name_values") (by decide +kernel)]
theorem yA:(("name_values",u1)::("record_values",u2)::("piece_values",u3)::("record_marks",u4)::("piece_marks",u5)::("leads",u6)::DY:List (Str × V)).lookup ("leads":Str)=some u6:=by
 simp[List.lookup_cons,A9 (a:="leads") (b:="name_values") (by decide +kernel),A9 (a:="leads") (b:="record_values") (by decide +kernel),A9 (a:="leads") (b:="piece_values") (by decide +kernel),A9 (a:="leads") (b:="record_marks") (by decide +kernel),A9 (a:="leads") (b:="piece_marks") (by decide +kernel)]
end
structure VI(a:Ad)(H H':Hp)(x dx:Addr)(fs:List (Str × V)):Prop where
 ob:H' x=some (.ins (a "View") dx fs)
 s:SameBut (· =x) H H'
theorem VI.put{H1 H2:Hp}{x dx l:Addr}{fs fs':List (Str × V)}{f:Str}(I:VI a H H1 x dx fs)(s:Same H1 H2)(e:BM f (.ref l) fs=fs'):VI a H (upd H2 x (.ins (a "View") dx (BM f (.ref l) fs))) x dx fs'/\SameBut (· =x) H1 (upd H2 x (.ins (a "View") dx (BM f (.ref l) fs)))/\SameBut (· =x) H2 (upd H2 x (.ins (a "View") dx (BM f (.ref l) fs))):=by
 have s2:SameBut (· =x) H2 (upd H2 x (.ins (a "View") dx (BM f (.ref l) fs))):=λy o e ny=>by rw[AS ny];exact e
 exact⟨⟨by rw[AU,e],(I.s.trans s.sb).trans s2⟩,s.sb.trans s2,s2⟩
theorem MX{b k w:Nat}{z:Int}{Q:VK}(hz:z=b)(q:∀ t,H t=none->Q (.ref t) (upd H t (.tup [.int ((b+k / w:Nat):Int),.int ((k % w:Nat):Int)]))):G2 (z+(k:Int) / (w:Int)) ((k:Int) % (w:Int)) Q H:=by
 unfold G2
 have e1:z+(k:Int) / (w:Int)=((b+k / w:Nat):Int):=by rw[hz];simp
 have e2:(k:Int) % (w:Int)=((k % w:Nat):Int):=by simp
 rw[e1,e2]
 exact q
theorem PlankAt.off{H1:Hp}{gp cl x dx C:Addr}{w m:Nat}{rows:List (List V)}{fs:List (Str × V)}(P:PlankAt a H gp cl w rows m)(hx:H x=some (.ins C dx fs))(n1:gp≠x)(s:SameBut (· =x) H H1):PlankAt a H1 gp cl w rows m:=by
 obtain⟨⟨dp,e1⟩,⟨ts,e2,e3⟩,r1,r2,r3⟩:=P
 exact⟨⟨dp,s _ _ e1 n1⟩,⟨ts,s _ _ e2 (DA e2 hx (by intro z;cases z)),Paired.mapP e3 λt r e=>s _ _ e (DA e hx (by intro z;cases z))⟩,r1,r2,r3⟩
theorem yB(h:HA K a vs H Q E):RN K a (λ_=>E) (A8 Q) (A7 ["self","layout","plank","counts","records","pieces"] vs) H:=by
 obtain⟨x,dx,ly,gp,cl,n,r,c,w,rows,m,vw,rfl,T,TL,TP,hx,L,P,hrl,⟨⟨v1,v2,v3,v4,v5,ef,P1,P2,P3,P4,P5⟩,ln,lr,lp,ok⟩,q⟩:=h
 obtain⟨dl,hly⟩:=L.ob
 obtain⟨_,b1,b2,b3,b4,b5⟩:=id L
 have q1:=P1.length
 have q2:=P2.length
 have q3:=P3.length
 have q4:=P4.length
 have q5:=P5.length
 have ok1:=ok.l1
 have ok2:=ok.l2
 have bn:=ok.bn
 have br:=ok.br
 have bp:=ok.bp
 push_cast[RN,↓uA,↓uB,↓uC]
 refine⟨_,_,hly,DW (by decide +kernel),ly,n,r,c,w,rfl,TL,L,λt ht=> ?_⟩
 have s1:=AZ (o:=.tup [.int ((n:Int) * w),.int ((r:Int) * w),.int ((c:Int) * w)]) ht
 have et:upd H t (.tup [.int ((n:Int) * w),.int ((r:Int) * w),.int ((c:Int) * w)]) t=some (.tup [.int ((n:Int) * w),.int ((r:Int) * w),.int ((c:Int) * w)]):=AU
 revert s1 et
 generalize upd H t (.tup [.int ((n:Int) * w),.int ((r:Int) * w),.int ((c:Int) * w)])=H1
 intro s1 et
 refine CU et (n:=1) rfl rfl (CU et (n:=2) rfl rfl ?_)
 push_cast[↓uD]
 refine CU et (n:=0) rfl rfl ?_
 have cn:∀ k:Nat,((k:Int) * w)=((k * w:Nat):Int):=λk=>by simp
 have nw:n * w<=100:=by omega
 have rw':r * w<=100:=by omega
 have cw:c * w<=100:=by omega
 have ngx:gp≠x:=λz=>by
  obtain⟨dp,e⟩:=P.ob
  rw[z,hx]at e
  have e:=(HO.ins.inj (Option.some.inj e)).2.2
  simp[pf]at e
 have nlx:ly≠x:=λz=>by
  rw[z,hx]at hly
  have hly:=(HO.ins.inj (Option.some.inj hly)).2.2
  simp[lf]at hly
 have nli:∀ {y:Addr} {us:List V} {H':Hp} {fs:List (Str × V)},H' y=some (.lst us)->VI a H H' x dx fs->y≠x:=λe I z=>by
  rw[z,I.ob]at e;cases e
 have L':∀ {H':Hp},SameBut (· =x) H H'->LayAt a H' ly n r c w:=λs=>L.sb s nlx
 have P':∀ {H':Hp},SameBut (· =x) H H'->PlankAt a H' gp cl w rows m:=λs=>P.off hx ngx s
 have V1:VI a H H1 x dx []:=⟨s1 _ _ hx,s1.sb⟩
 rw[cn n,cn r,cn c]
 refine⟨_,rfl,by omega,by omega,?_⟩
 rw[Int.toNat_natCast]
 refine MW (n:=n) (b:=0) (us:=v1) (pre:=[]) (post:=v2++v3++v4++v5) TP (P' V1.s) b4 (by omega) (by omega) (by rw[ef];simp) (by simp) (by omega) (λk hk H' Q' s q'=> ?_) λan H2 han s2 ean=> ?_
 ·have Lk:=L' (V1.s.trans s.sb)
  obtain⟨dl',hly'⟩:=Lk.ob
  push_cast[A5]
  exact⟨_,_,hly',DW (by decide +kernel),ly,n,r,c,w,k,rfl,TL,Lk,MX (by simp) q'⟩
 obtain⟨V2,w2,u2⟩:=V1.put (f:="name_values") (l:=an) s2 VJ
 refine⟨_,_,_,s2 _ _ V1.ob,T.cl,T.n1,by decide,?_⟩
 have ean2:=u2 _ _ ean (nli (fs:=[]) ean ⟨s2 _ _ V1.ob,V1.s.trans s2.sb⟩)
 revert V2 w2 ean2
 generalize upd H2 x (.ins (a "View") dx (BM "name_values" (.ref an) []))=H3
 intro V2 w2 ean2
 clear u2
 push_cast[↓uE]
 refine⟨by omega,by omega,?_⟩
 refine MW (n:=r) (b:=n) (us:=v2) (pre:=v1) (post:=v3++v4++v5) TP (P' V2.s) b4 (by omega) (by omega) (by simp[ef]) (by first | (simp only[List.length_append,Nat.add_mul];omega) | omega) (by omega) (λk hk H' Q' s q'=> ?_) λar H4 har s4 ear=> ?_
 ·have Lk:=L' (V2.s.trans s.sb)
  obtain⟨dl',hly'⟩:=Lk.ob
  push_cast[A5]
  exact⟨_,_,hly',DW (by decide +kernel),ly,n,r,c,w,k,rfl,TL,Lk,MX (by simp) q'⟩
 obtain⟨V3,w3,u3⟩:=V2.put (f:="record_values") (l:=ar) (fs':=[("name_values",.ref an),("record_values",.ref ar)]) s4 (by rw[B9 (by decide +kernel)];rfl)
 refine⟨_,_,_,s4 _ _ V2.ob,T.cl,T.n2,by simp,?_⟩
 have ear2:=u3 _ _ ear (nli ear ⟨s4 _ _ V2.ob,V2.s.trans s4.sb⟩)
 replace ean2:=w3 _ _ ean2 (nli ean2 V2)
 revert V3 w3 ean2 ear2
 generalize upd H4 x (.ins (a "View") dx (BM "record_values" (.ref ar) [("name_values",.ref an)]))=H5
 intro V3 w3 ear2 ean2
 clear u3
 push_cast[↓uF]
 refine⟨by omega,by omega,?_⟩
 refine MW (n:=c) (b:=n+r) (us:=v3) (pre:=v1++v2) (post:=v4++v5) TP (P' V3.s) b4 (by omega) (by omega) (by simp[ef]) (by first | (simp only[List.length_append,Nat.add_mul];omega) | omega) (by omega) (λk hk H' Q' s q'=> ?_) λap H6 hap s6 eap=> ?_
 ·have Lk:=L' (V3.s.trans s.sb)
  obtain⟨dl',hly'⟩:=Lk.ob
  push_cast[A5]
  exact⟨_,_,hly',DW (by decide +kernel),ly,n,r,c,w,k,rfl,TL,Lk,MX (by simp) q'⟩
 obtain⟨V4,w4,u4⟩:=V3.put (f:="piece_values") (l:=ap) (fs':=[("name_values",.ref an),("record_values",.ref ar),("piece_values",.ref ap)]) s6 (by rw[B9 (by decide +kernel)];rw[B9 (by decide +kernel)];rfl)
 refine⟨_,_,_,s6 _ _ V3.ob,T.cl,T.n3,by simp,?_⟩
 have eap2:=u4 _ _ eap (nli eap ⟨s6 _ _ V3.ob,V3.s.trans s6.sb⟩)
 replace ean2:=w4 _ _ ean2 (nli ean2 V3)
 replace ear2:=w4 _ _ ear2 (nli ear2 V3)
 revert V4 w4 ean2 ear2 eap2
 generalize upd H6 x (.ins (a "View") dx (BM "piece_values" (.ref ap) [("name_values",.ref an),("record_values",.ref ar)]))=H7
 intro V4 w4 eap2 ean2 ear2
 clear u4
 push_cast[↓uG]
 refine⟨by omega,by omega,?_⟩
 refine MW (n:=r) (b:=n+r+c) (us:=v4) (pre:=v1++v2++v3) (post:=v5) TP (P' V4.s) b4 (by omega) (by omega) (by simp[ef]) (by first | (simp only[List.length_append,Nat.add_mul];omega) | omega) (by omega) (λk hk H' Q' s q'=> ?_) λam H8 ham s8 eam=> ?_
 ·have Lk:=L' (V4.s.trans s.sb)
  obtain⟨dl',hly'⟩:=Lk.ob
  push_cast[A5]
  exact⟨_,_,hly',DW (by decide +kernel),ly,n,r,c,w,k,rfl,TL,Lk,MX (by simp) q'⟩
 obtain⟨V5,w5,u5⟩:=V4.put (f:="record_marks") (l:=am) (fs':=[("name_values",.ref an),("record_values",.ref ar),("piece_values",.ref ap),("record_marks",.ref am)]) s8 (by rw[B9 (by decide +kernel)];rw[B9 (by decide +kernel)];rw[B9 (by decide +kernel)];rfl)
 refine⟨_,_,_,s8 _ _ V4.ob,T.cl,T.n4,by simp,?_⟩
 have eam2:=u5 _ _ eam (nli eam ⟨s8 _ _ V4.ob,V4.s.trans s8.sb⟩)
 replace ean2:=w5 _ _ ean2 (nli ean2 V4)
 replace ear2:=w5 _ _ ear2 (nli ear2 V4)
 replace eap2:=w5 _ _ eap2 (nli eap2 V4)
 revert V5 w5 ean2 ear2 eap2 eam2
 generalize upd H8 x (.ins (a "View") dx (BM "record_marks" (.ref am) [("name_values",.ref an),("record_values",.ref ar),("piece_values",.ref ap)]))=H9
 intro V5 w5 eam2 ean2 ear2 eap2
 clear u5
 push_cast[↓uH]
 refine⟨by omega,by omega,?_⟩
 refine MW (n:=c) (b:=n+r+c+r) (us:=v5) (pre:=v1++v2++v3++v4) (post:=[]) TP (P' V5.s) b4 (by omega) (by omega) (by simp[ef]) (by first | (simp only[List.length_append,Nat.add_mul];omega) | omega) (by omega) (λk hk H' Q' s q'=> ?_) λaq H10 haq s10 eaq=> ?_
 ·have Lk:=L' (V5.s.trans s.sb)
  obtain⟨dl',hly'⟩:=Lk.ob
  push_cast[A5]
  exact⟨_,_,hly',DW (by decide +kernel),ly,n,r,c,w,k,rfl,TL,Lk,MX (by simp) q'⟩
 obtain⟨V6,w6,u6⟩:=V5.put (f:="piece_marks") (l:=aq) (fs':=[("name_values",.ref an),("record_values",.ref ar),("piece_values",.ref ap),("record_marks",.ref am),("piece_marks",.ref aq)]) s10 (by rw[B9 (by decide +kernel)];rw[B9 (by decide +kernel)];rw[B9 (by decide +kernel)];rw[B9 (by decide +kernel)];rfl)
 refine⟨_,_,_,s10 _ _ V5.ob,T.cl,T.n5,by simp,?_⟩
 have eaq2:=u6 _ _ eaq (nli eaq ⟨s10 _ _ V5.ob,V5.s.trans s10.sb⟩)
 replace ean2:=w6 _ _ ean2 (nli ean2 V5)
 replace ear2:=w6 _ _ ear2 (nli ear2 V5)
 replace eap2:=w6 _ _ eap2 (nli eap2 V5)
 replace eam2:=w6 _ _ eam2 (nli eam2 V5)
 revert V6 w6 ean2 ear2 eap2 eam2 eaq2
 generalize upd H10 x (.ins (a "View") dx (BM "piece_marks" (.ref aq) [("name_values",.ref an),("record_values",.ref ar),("piece_values",.ref ap),("record_marks",.ref am)]))=H11
 intro V6 w6 eaq2 ean2 ear2 eap2 eam2
 clear u6
 push_cast[↓uI]
 have P1':Paired (NmV H11) v1 vw.nm:=Paired.mapP P1 λv c=>NmV.keep λy xs e=>V6.s _ _ e (DA e hx (by intro z;cases z))
 have P2':Paired (RcV H11) v2 vw.rc:=Paired.mapP P2 λv c=>RcV.keep λy xs e=>V6.s _ _ e (DA e hx (by intro z;cases z))
 refine⟨_,_,_,V6.ob,T.cl,T.n1,_,x9,an,rfl,.inl ⟨⟨_,SqL.of ean2⟩,?_⟩⟩
 refine NT (xs:=v1) (λi=>(AT vw.nm i).isSome) (small _ (by omega)) (λi ys H'=>H'=H11/\ys=AW (DD (vw.nm.take i))) ⟨rfl,rfl⟩ (λi ys H' _ ⟨e,e'⟩=>⟨e ▸ SqL.of ean2,?_⟩) (λi v ys H' hv ⟨e,e'⟩ QB qb=> ?_) (λi v ys H' hv hp ⟨e,e'⟩=> ?_) (λi v ys H' hv hp ⟨e,e'⟩=>⟨e,?_⟩) (λys H' ⟨e,e'⟩ p hp=> ?_)
 ·rw[e',CZ]
  unfold DD
  exact Nat.le_trans (List.length_filterMap_le ..) (by rw[List.length_take];omega)
 ·subst e
  obtain⟨c',ec,hr⟩:=EF P1' hv
  push_cast[]
  rw[b8 hr]
  unfold AT at qb
  rw[ec]at qb
  simpa using qb
 ·subst e
  obtain⟨c',ec,hr⟩:=EF P1' hv
  have:c'.isSome=true:=by
   unfold AT at hp
   rw[ec]at hp
   exact hp
  obtain⟨cc,rfl⟩:=Option.isSome_iff_exists.mp this
  obtain⟨p,rfl,hp'⟩:=hr
  push_cast[]
  refine CU hp' (n:=1) rfl rfl ⟨rfl,?_⟩
  rw[e',DJ ec]
  unfold DD AW
  rw[List.filterMap_append,List.map_append]
  rfl
 ·obtain⟨c',ec,hr⟩:=EF P1' hv
  have:c'=none:=by
   unfold AT at hp
   rw[ec]at hp
   cases c' with
   | none=>rfl
   | some _=>cases hp
  subst this
  rw[e',DJ ec]
  unfold DD AW
  rw[List.filterMap_append,List.map_append]
  simp
 subst e
 rw[q1,List.take_length]at e'
 subst e'
 have s12:=AZ (o:=.lst (AW (DD vw.nm))) hp
 have e12:upd H' p (.lst (AW (DD vw.nm))) p=some (.lst (AW (DD vw.nm))):=AU
 revert s12 e12
 generalize upd H' p (.lst (AW (DD vw.nm)))=H12
 intro s12 e12
 have hll:(DD vw.nm).length<=100:=Nat.le_trans (List.length_filterMap_le ..) bn
 refine⟨r * w,p,DD vw.nm,rfl,e12,λk hk=> ?_,by omega,by omega,λal H13 hal s13 eal=> ?_⟩
 ·unfold DD at hk
  obtain⟨cc,h1,h2⟩:=List.mem_filterMap.mp hk
  rw[Option.map_eq_some_iff]at h2
  obtain⟨c2,rfl,rfl⟩:=h2
  rw[<-lr]
  exact(ok.n1 c2 h1).1
 obtain⟨V7,w7,u7⟩:=V6.put (f:="leads") (l:=al) (fs':=[("name_values",.ref an),("record_values",.ref ar),("piece_values",.ref ap),("record_marks",.ref am),("piece_marks",.ref aq),("leads",.ref al)]) (s12.trans s13) (by rw[B9 (by decide +kernel)];rw[B9 (by decide +kernel)];rw[B9 (by decide +kernel)];rw[B9 (by decide +kernel)];rw[B9 (by decide +kernel)];rfl)
 refine⟨_,_,_,(s12.trans s13) _ _ V6.ob,T.cl,T.n6,by simp,?_⟩
 have eal2:=u7 _ _ eal (nli eal ⟨(s12.trans s13) _ _ V6.ob,V6.s.trans (s12.trans s13).sb⟩)
 replace ean2:=w7 _ _ ean2 (nli ean2 V6)
 replace ear2:=w7 _ _ ear2 (nli ear2 V6)
 replace eap2:=w7 _ _ eap2 (nli eap2 V6)
 replace eam2:=w7 _ _ eam2 (nli eam2 V6)
 replace eaq2:=w7 _ _ eaq2 (nli eaq2 V6)
 revert V7 w7 eal2 ean2 ear2 eap2 eam2 eaq2
 generalize upd H13 x (.ins (a "View") dx (BM "leads" (.ref al) [("name_values",.ref an),("record_values",.ref ar),("piece_values",.ref ap),("record_marks",.ref am),("piece_marks",.ref aq)]))=H14
 intro V7 w7 eal2 ean2 ear2 eap2 eam2 eaq2
 clear u7
 have tkx:∀ {H':Hp} {fs:List (Str × V)},VI a H H' x dx fs->EC H H':=λI y xs e=>I.s _ _ e (DA e hx (by intro z;cases z))
 have rcs:∀ {H':Hp} {fs:List (Str × V)},VI a H H' x dx fs->H' ar=some (.lst v2)->LstAt RcV H' ar vw.rc:=λI e=>⟨v2,e,Paired.mapP P2 λv c=>RcV.keep (tkx I)⟩
 have n10:∀ cc,some cc∈vw.rc->cc.2.length<=10:=λcc h=>(ok.n2 cc h).2
 have pb:∀ (l:List EV),l.length<=100->(∀ cc,some cc∈l->cc.2.length<=10)->(CV l).length<=1000:=λl hl h=>by
  have:(CV l).length<=l.length * 10:=by
   clear hl
   induction l with
   | nil=>simp[CV]
   | cons y l ih =>
    have ih:=ih λcc hc=>h cc (List.mem_cons_of_mem _ hc)
    unfold CV at ih ⊢
    rw[List.flatMap_cons,List.length_append,List.length_cons]
    have:(FN y).length<=10:=by
     cases y with
     | none=>simp[FN]
     | some c=>exact h c List.mem_cons_self
    omega
  omega
 push_cast[↓uJ]
 refine⟨_,_,_,V7.ob,T.cl,T.n2,_,cF,ar,vw.rc,rfl,rcs V7 ear2,br,n10,λpl H15 hpl s15 epl=>⟨c * w,pl,CV vw.rc,rfl,epl,λk hk=> ?_,by omega,by have:=pb _ br n10;omega,λag H16 hag s16 eag=> ?_⟩⟩
 ·unfold CV at hk
  obtain⟨cc,h1,h2⟩:=List.mem_flatMap.mp hk
  cases cc with
  | none=>cases h2
  | some cc =>
   rw[<-lp]
   exact(ok.n2 cc h1).1 k h2
 obtain⟨V8,w8,u8⟩:=V7.put (f:="namings") (l:=ag) (fs':=[("name_values",.ref an),("record_values",.ref ar),("piece_values",.ref ap),("record_marks",.ref am),("piece_marks",.ref aq),("leads",.ref al),("namings",.ref ag)]) (s15.trans s16) (by rw[B9 (by decide +kernel)];rw[B9 (by decide +kernel)];rw[B9 (by decide +kernel)];rw[B9 (by decide +kernel)];rw[B9 (by decide +kernel)];rw[B9 (by decide +kernel)];rfl)
 refine⟨_,_,_,(s15.trans s16) _ _ V7.ob,T.cl,T.n7,by simp,?_⟩
 have eag2:=u8 _ _ eag (nli eag ⟨(s15.trans s16) _ _ V7.ob,V7.s.trans (s15.trans s16).sb⟩)
 replace eal2:=w8 _ _ eal2 (nli eal2 V7)
 replace ean2:=w8 _ _ ean2 (nli ean2 V7)
 replace ear2:=w8 _ _ ear2 (nli ear2 V7)
 replace eap2:=w8 _ _ eap2 (nli eap2 V7)
 replace eam2:=w8 _ _ eam2 (nli eam2 V7)
 replace eaq2:=w8 _ _ eaq2 (nli eaq2 V7)
 revert V8 w8 eag2 eal2 ean2 ear2 eap2 eam2 eaq2
 generalize upd H16 x (.ins (a "View") dx (BM "namings" (.ref ag) [("name_values",.ref an),("record_values",.ref ar),("piece_values",.ref ap),("record_marks",.ref am),("piece_marks",.ref aq),("leads",.ref al)]))=H17
 intro V8 w8 eag2 eal2 ean2 ear2 eap2 eam2 eaq2
 clear u8
 have hal':H17 al=some (.lst (AW ((List.range vw.rc.length).map (led vw)))):=by rw[lr];exact eal2
 have ltm:∀ cc,some cc∈GH vw->some cc∈vw.rc:=λcc h=>by
  unfold GH at h
  obtain⟨k,_,hk⟩:=List.mem_map.mp h
  unfold AT at hk
  cases e:vw.rc[k]? with
  | none=>rw[e]at hk;cases hk
  | some y =>
   rw[e]at hk
   have hk:y=some cc:=hk
   exact hk ▸ List.mem_of_getElem? e
 have ltl:(GH vw).length<=100:=by
  unfold GH
  rw[List.length_map]
  exact Nat.le_trans (List.length_filter_le ..) (by rw[List.length_range];exact br)
 push_cast[↓uK]
 refine⟨_,_,V8.ob,?_,x,ar,al,vw,rfl,T,⟨_,_,V8.ob,cF⟩,⟨_,_,V8.ob,yA⟩,rcs V8 ear2,hal',br,λlt H18 hlt s18 elt=>⟨lt,GH vw,rfl,elt,ltl,λcc h=>n10 cc (ltm cc h),λpl2 H19 hpl2 s19 epl2=>⟨c * w,pl2,CV (GH vw),rfl,epl2,λk hk=> ?_,by omega,by have:=pb _ ltl (λcc h=>n10 cc (ltm cc h));omega,λah H20 hah s20 eah=> ?_⟩⟩⟩
 ·simp[List.lookup_cons,A9 (a:="records_led_to") (b:="name_values") (by decide +kernel),A9 (a:="records_led_to") (b:="record_values") (by decide +kernel),A9 (a:="records_led_to") (b:="piece_values") (by decide +kernel),A9 (a:="records_led_to") (b:="record_marks") (by decide +kernel),A9 (a:="records_led_to") (b:="piece_marks") (by decide +kernel),A9 (a:="records_led_to") (b:="leads") (by decide +kernel),A9 (a:="records_led_to") (b:="namings") (by decide +kernel)]
 ·unfold CV at hk
  obtain⟨cc,h1,h2⟩:=List.mem_flatMap.mp hk
  cases cc with
  | none=>cases h2
  | some cc =>
   rw[<-lp]
   exact(ok.n2 cc (ltm cc h1)).1 k h2
 have s1720:=(s18.trans s19).trans s20
 obtain⟨V9,w9,u9⟩:=V8.put (f:="reached") (l:=ah) (fs':=vf ⟨an,ar,ap,am,aq,al,ag,ah⟩) s1720 (by rw[B9 (by decide +kernel)];rw[B9 (by decide +kernel)];rw[B9 (by decide +kernel)];rw[B9 (by decide +kernel)];rw[B9 (by decide +kernel)];rw[B9 (by decide +kernel)];rw[B9 (by decide +kernel)];rfl)
 refine⟨_,_,_,s1720 _ _ V8.ob,T.cl,T.n8,by simp,?_⟩
 have eah2:=u9 _ _ eah (nli eah ⟨s1720 _ _ V8.ob,V8.s.trans s1720.sb⟩)
 replace eag2:=w9 _ _ eag2 (nli eag2 V8)
 replace eal2:=w9 _ _ eal2 (nli eal2 V8)
 replace ean2:=w9 _ _ ean2 (nli ean2 V8)
 replace ear2:=w9 _ _ ear2 (nli ear2 V8)
 replace eap2:=w9 _ _ eap2 (nli eap2 V8)
 replace eam2:=w9 _ _ eam2 (nli eam2 V8)
 replace eaq2:=w9 _ _ eaq2 (nli eaq2 V8)
 have tk:=tkx V9
 refine q ⟨an,ar,ap,am,aq,al,ag,ah⟩ _ ⟨⟨dx,V9.ob⟩,⟨v1,ean2,Paired.mapP P1 λv c=>NmV.keep tk⟩,⟨v2,ear2,Paired.mapP P2 λv c=>RcV.keep tk⟩,⟨v3,eap2,Paired.mapP P3 λv c=>PcV.keep tk⟩,⟨v4,eam2,Paired.mapP P4 λv c=>MkV.keep tk⟩,⟨v5,eaq2,Paired.mapP P5 λv c=>MkV.keep tk⟩,by rw[lr];exact eal2,by rw[lp];exact eag2,by rw[lp];exact eah2,ok⟩ V9.s
theorem yC(h:HA K a vs H Q E):vs.length=3:=by
 obtain⟨_,_,_,_,_,_,_,_,_,_,_,_,rfl,_⟩:=h
 rfl
theorem PlV.same{H':Hp}{rows:List (List V)}{n r c w:Nat}{vw:Vw}(h:PlV H rows n r c w vw)(tk:EC H H'):PlV H' rows n r c w vw:=by
 obtain⟨⟨v1,v2,v3,v4,v5,ef,P1,P2,P3,P4,P5⟩,x1,x2,x3,x4⟩:=h
 exact⟨⟨v1,v2,v3,v4,v5,ef,Paired.mapP P1 λv c=>NmV.keep tk,Paired.mapP P2 λv c=>RcV.keep tk,Paired.mapP P3 λv c=>PcV.keep tk,Paired.mapP P4 λv c=>MkV.keep tk,Paired.mapP P5 λv c=>MkV.keep tk⟩,x1,x2,x3,x4⟩
theorem Ground.same{H':Hp}{ly gp:Addr}{vw:Vw}(g:Ground K a H ly gp vw)(s:Same H H'):Ground K a H' ly gp vw:=by
 obtain⟨cl,n,r,c,w,rows,m,T,TL,TP,L,P,hr,pv⟩:=g
 exact⟨cl,n,r,c,w,rows,m,T,TL,TP,L.same s,P.same s,hr,pv.same s.tk⟩
theorem Ground.ok{ly gp:Addr}{vw:Vw}(g:Ground K a H ly gp vw):L8 vw:=by
 obtain⟨cl,n,r,c,w,rows,m,T,TL,TP,L,P,hr,pv⟩:=g
 exact pv.ok
theorem cG{ly gp:Addr}{vw:Vw}{Q:Addr->Hp->Prop}(g:Ground K a H ly gp vw)(q:TV K a->∀ x A H2,ViewAt a H2 x A vw->Same H H2->Q x H2) :
  ∀ x dx,H x=none->H dx=none->dx≠x->HA K a [.ref x,.ref ly,.ref gp] (upd (upd H dx (.own x)) x (.ins (a "View") dx [])) (λv H2=>v=.non/\Q x H2) E:=λx dx hx hdx nd=>by
 have s0:Same H (upd (upd H dx (.own x)) x (.ins (a "View") dx [])):=(AZ hdx).trans (AZ (by rw[AS nd.symm];exact hx))
 obtain⟨cl,n,r,c,w,rows,m,T,TL,TP,L,P,hr,pv⟩:=g
 exact⟨x,dx,ly,gp,cl,n,r,c,w,rows,m,vw,rfl,T,TL,TP,AU,L.same s0,P.same s0,hr,pv.same s0.tk,λA H' I s=>⟨rfl,q T x A H' I λy o e=>s _ _ (s0 _ _ e) (BG e hx)⟩⟩
theorem yD(h:JS K a vs H Q E):RP K a (λ_=>E) (A8 Q) (A7 ["layout","plank","view"] vs) H:=by
 obtain⟨ly,gp,vw,rfl,g,q⟩:=h
 obtain⟨n1,n2,n3,n4,n5,n6⟩:=IB g.ok
 push_cast[RP,↓uQ]
 refine cG g λT x A H1 I s1=> ?_
 push_cast[↓uR]
 refine⟨x,A,vw,rfl,T,I,λl1 H2 h2 s2 F2=>⟨x,A,vw,rfl,T,I.same s2,λl2 H3 h3 s3 F3=>DM (F2.same s3) F3 ?_ (q.of ((s1.trans s2).trans s3))⟩⟩
 unfold faults G5
 simp only[List.length_append]
 omega
theorem yE(h:JS K a vs H Q E):vs.length=2:=by
 obtain⟨_,_,_,rfl,_⟩:=h
 rfl
theorem yF(h:MH K a vs H Q E):RQ K a (λ_=>E) (A8 Q) (A7 ["layout","plank"] vs) H:=by
 obtain⟨ly,gp,vw,rfl,g,q⟩:=h
 push_cast[RQ,↓uS]
 refine cG g λT x A H1 I s1=>⟨x,A,vw,rfl,T,I,λl1 H2 h2 s2 F2=> ?_⟩
 obtain⟨ps,e,P⟩:=F2
 refine⟨(faults vw).length,.inl ⟨_,SqL.of e,by rw[List.length_map,P.length]⟩,?_⟩
 have:=q H2 (s1.trans s2)
 have e2:decide (((faults vw).length:Int)=0)=decide (faults vw=[]):=by
  rw[decide_eq_decide]
  constructor
  ·intro h;exact List.length_eq_zero_iff.mp (by omega)
  ·intro h;rw[h];rfl
 rw[e2]
 exact this
theorem yG(h:MH K a vs H Q E):vs.length=2:=by
 obtain⟨_,_,_,rfl,_⟩:=h
 rfl
theorem yH(x y:Str):(x++y).length=x.length+y.length:=PySem.strLen_append x y
theorem IC(x:Int){n:Nat}(h:1<=n):∃ b:Nat,x % (n:Int)=b/\b<n :=
  ⟨(x % (n:Int)).toNat,by have:=Int.emod_nonneg x (show(n:Int)≠0 by omega);omega,by
    have:=Int.emod_lt_of_pos x (show(0:Int)<n by omega)
    have:=Int.emod_nonneg x (show(n:Int)≠0 by omega);omega⟩
theorem cH{z:Str}{i:Int}{n:Nat}{c:Nat}{Q:VK}(hi:i=n)(hL:z.cps.toList.length<=1000)(hc:z.cps.toList[n]? =some c)(q:Q (.str ⟨#[c]⟩) H):AL K (.str z) (.int i) H Q:=by
 subst hi
 exact .inr (.inr ⟨z,n,c,rfl,rfl,Nat.le_trans (by simpa [Str.length]using hL) (small _ (by omega)),OT hc,q⟩)
theorem yI:∀ i:Fin 26,(Str.ofString "abcdefghijklmnopqrstuvwxyz").cps.toList[i.val]? =some (97+i.val):=by decide +kernel
theorem yJ{i:Int}{n:Nat}{Q:VK}(hi:i=n)(hn:n<26)(q:Q (.str ⟨#[97+n]⟩) H):AL K (.str (Str.ofString "abcdefghijklmnopqrstuvwxyz")) (.int i) H Q:=cH hi (by decide +kernel) (yI ⟨n,hn⟩) q
theorem cI{x:Int}{Q:VK}(q:∀ n:Nat,n<26->Q (.str ⟨#[97+n]⟩) H):AL K (.str (Str.ofString "abcdefghijklmnopqrstuvwxyz")) (.int (x % 26)) H Q:=by
 obtain⟨b,eb,hb⟩:=IC x (n:=26) (by omega)
 rw[show((26:Nat):Int)=26 from rfl]at eb
 rw[eb]
 exact yJ rfl hb (q b hb)
def MY:Str:=Str.ofString " !\"#$&'()*+,-./0123456789:;<=>?@ABCDEFGHIJKLMNOPQRSTUVWXYZ[\\]^_`"++Str.ofString "abcdefghijklmnopqrstuvwxyz{|}~"
theorem yK:∀ i:Fin 94,∃ c,MY.cps.toList[i.val]? =some c/\c<1114112:=by
 have h:∀ i:Fin 94,MY.cps.toList[i.val]? =some (MY.cps.toList[i.val]!)/\MY.cps.toList[i.val]! <1114112:=by decide +kernel
 exact λi=>⟨_,(h i).1,(h i).2⟩
theorem cJ:∀ l:List Str,(∀ x∈l,x.length=1)->(l.map (·.length)).sum=l.length
 | [],_=>rfl
 | x::r,h=>by
  rw[List.map_cons,List.sum_cons,cJ r λy hy=>h y (List.mem_cons_of_mem _ hy),h x List.mem_cons_self,List.length_cons]
  omega
theorem cK{g:Str}(hg:PyData.strOk g=true):∀ (l:List Str) (acc:Array Nat),(acc.all λx=>decide (x<1114112))=true->(∀ z∈l,PyData.strOk z=true)->((l.foldl (λacc p=>acc++g.cps++p.cps) acc).all λx=>decide (x<1114112))=true
 | [],acc,h,_=>h
 | z::l,acc,h,hz=>by
  rw[List.foldl_cons]
  refine cK hg l _ ?_ λy hy=>hz y (List.mem_cons_of_mem _ hy)
  have h1:(g.cps.all λx=>decide (x<1114112))=true:=hg
  have h2:(z.cps.all λx=>decide (x<1114112))=true:=hz z List.mem_cons_self
  rw[Array.all_append,Array.all_append,h,h1,h2,Bool.true_and,Bool.true_and]
theorem yL{g:Str}{l:List Str}(hg:PyData.strOk g=true)(h:∀ z∈l,PyData.strOk z=true):PyData.strOk (Txt.join g l)=true:=by
 unfold PyData.strOk Txt.join Builtin.Str.glued
 cases l with
 | nil=>show((Str.empty.cps).all λx=>decide (x<1114112))=true;decide +kernel
 | cons z l=>exact cK hg l z.cps (h z List.mem_cons_self) λy hy=>h y (List.mem_cons_of_mem _ hy)
theorem yM{x y:Str}(h1:PyData.strOk x=true)(h2:PyData.strOk y=true):PyData.strOk (x++y)=true:=by
 unfold PyData.strOk at *
 show((x.cps++y.cps).all _)=true
 rw[Array.all_append,h1,h2]
 rfl
theorem yN{n:Nat}(h:n<26):PyData.strOk ⟨#[97+n]⟩=true:=by
 simp[PyData.strOk]
 omega
theorem yO{n:Nat}{k:Int}(hn:n<26)(h0:0<=k)(h1:k<10):PyData.strOk (HL ⟨#[97+n]⟩ k)=true:=by
 have:∀ (n:Fin 26) (k:Fin 10),PyData.strOk (HL ⟨#[97+n.val]⟩ (k.val:Int))=true:=by decide +kernel
 have:=this ⟨n,hn⟩ ⟨k.toNat,by omega⟩
 rwa [show(((⟨k.toNat,by omega⟩:Fin 10).val:Nat):Int)=k from by simp;omega]at this
theorem CO{p:Addr}{xs:List Int}{k:Nat}{Q:VK}(h:H p=some (.lst (xs.map V.int)))(hk:k<xs.length)(q:∀ x∈xs,Q (.int x) H):AL K (.ref p) (.int k) H Q :=
 BN (SqL.of h) (n:=k) rfl (by rw[List.getElem?_map,List.getElem?_eq_getElem hk];rfl) (q _ (List.getElem_mem hk))
theorem yP(h:E9 K a vs H Q E):QS K a (λ_=>E) (A8 Q) (A7 ["cell","many","here","there","found","k"] vs) H:=by
 obtain⟨c,m,rfl,hm,q⟩:=h
 push_cast[QS,↓pQ,↓pR,↓pT]
 refine⟨⟨by decide,by decide⟩,by decide,λl hl=> ?_⟩
 have a1:0<=c % 920419823+5/\c % 920419823+5<1000000000:=by omega
 have a2:0<=c / 920419823 % 899809363+3/\c / 920419823 % 899809363+3<1000000000:=by omega
 generalize c % 920419823+5=here at a1 ⊢
 generalize c / 920419823 % 899809363+3=there at a2 ⊢
 have s1:=AZ (o:=.lst []) hl
 have e1:upd H l (.lst []) l=some (.lst []):=AU
 revert s1 e1
 generalize upd H l (.lst [])=H1
 intro s1 e1
 push_cast[↓pX]
 refine⟨by omega,by omega,LM (λi σ H'=>∃ (xs:List Int) (here there:Int),Same H H'/\H' l=some (.lst (xs.map V.int))/\xs.length=i/\(∀ x∈xs,0<=x/\x<2000000000)/\(0<=here/\here<1000000000)/\(0<=there/\there<1000000000)/\∃ y,σ=[some (.int c),some (.int m),some (.int here),some (.int there),some (.ref l),y]) ⟨[],here,there,s1,e1,rfl,by simp,a1,a2,_,rfl⟩ (λi σ H' hi ⟨xs,he,th,s,e,hxl,hx,b1,b2,y,eσ⟩=> ?_) (λσ H' ⟨xs,he,th,s,e,hxl,hx,b1,b2,y,eσ⟩=> ?_)⟩
 ·subst eσ
  push_cast[↓pU,↓pV,↓pW]
  have c1:0<=(he * 70001+th) % 920419823/\(he * 70001+th) % 920419823<920419823:=by omega
  generalize (he * 70001+th) % 920419823=h2 at c1 ⊢
  generalize h2 * h2=sq
  refine⟨.inl ⟨by omega,by omega⟩,.inl ⟨by omega,by omega⟩,.inl ⟨by omega,by omega⟩,.inl ⟨rfl,_,SqL.of e⟩,l,_,_,rfl,rfl,e,Nat.lt_of_lt_of_le (show(xs.map V.int).length<1000 by rw[List.length_map];omega) (by decide),λy o e=>by rw[AS (BG e hl)];exact s _ _ e,xs++[h2+(th * 60013+sq+(0+(i:Int))) % 899809363],by rw[AU,List.map_append];rfl,by simp[hxl],λx hxm=> ?_,h2,by omega,by omega,_,?_,?_,rfl,rfl⟩
  ·rcases List.mem_append.mp hxm with h | h
   ·exact hx x h
   ·rw[List.mem_singleton.mp h];omega
  ·omega
  ·omega
 ·subst eσ
  push_cast[↓pY]
  exact q l xs H' hl s e hxl hx
theorem yQ(h:E9 K a vs H Q E):vs.length=2:=by
 obtain⟨_,_,rfl,_⟩:=h
 rfl
theorem yR(h:MJ K a vs H Q E):RG K a (λ_=>E) (A8 Q) (A7 ["cell","xs","most"] vs) H:=by
 obtain⟨x,rfl,q⟩:=h
 push_cast[RG,↓tR]
 refine⟨⟨by decide,by decide⟩,x / 48,3,rfl,by omega,λl xs H1 hl s1 el hxl hx=> ?_⟩
 have tail:∀ m:Int,3<=m->m<=6->RF K a (λ_=>E) (λ_=>E) (A8 Q) [some (.int x),some (.ref l),some (.int m)] H1:=λm m1 m2=>by
  have md:∀ y:Int,0<=y % m/\y % m<m:=λy=>⟨Int.emod_nonneg _ (by omega),Int.emod_lt_of_pos _ (by omega)⟩
  push_cast[↓tT]
  refine CO (k:=0) el (by omega) λy1 _=> ?_
  push_cast[]
  refine⟨by omega,CO (k:=1) el (by omega) λy2 _=> ?_⟩
  push_cast[]
  refine⟨by omega,CO (k:=2) el (by omega) λy3 _=> ?_⟩
  push_cast[]
  refine⟨by omega,by decide,λt ht=> ?_⟩
  have d1:=md y1
  have d2:=md y2
  have d3:=md y3
  obtain⟨n,en⟩:∃ n:Nat,1+y1 % m=n:=⟨(1+y1 % m).toNat,by omega⟩
  obtain⟨r,er⟩:∃ n:Nat,1+y2 % m=n:=⟨(1+y2 % m).toNat,by omega⟩
  obtain⟨c,ec⟩:∃ n:Nat,1+y3 % m=n:=⟨(1+y3 % m).toNat,by omega⟩
  obtain⟨w,ew⟩:∃ n:Nat,1+x % 6=n:=⟨(1+x % 6).toNat,by omega⟩
  have bb:(1<=n/\n<=6)/\(1<=r/\r<=6)/\(1<=c/\c<=6)/\1<=w/\w<=6:=by omega
  rw[en,er,ec,ew]
  exact q t n r c w _ (s1.trans (AZ ht)) AU bb.1.1 bb.1.2 bb.2.1.1 bb.2.1.2 bb.2.2.1.1 bb.2.2.1.2 bb.2.2.2.1 bb.2.2.2.2
 push_cast[↓tS]
 refine⟨⟨by decide,by decide⟩,?_⟩
 split
 ·exact tail 6 (by omega) (by omega)
 ·exact tail 3 (by omega) (by omega)
theorem yS(h:MJ K a vs H Q E):vs.length=1:=by
 obtain⟨_,rfl,_⟩:=h
 rfl
theorem yT(h:MI K a vs H Q E):RE K a (λ_=>E) (A8 Q) (A7 ["cell","signs","xs","size"] vs) H:=by
 obtain⟨x,rfl,q⟩:=h
 push_cast[RE,↓tK,↓tL,↓tM]
 refine⟨by decide +kernel,x,3,rfl,by omega,λl xs H1 hl s1 el hxl hx=> ?_⟩
 have tail:∀ m:Nat,m<=40->RD K a (λ_=>E) (λ_=>E) (A8 Q) [some (.int x),some (.str MY),some (.ref l),some (.int m)] H1:=λm hm=>by
  push_cast[↓tQ]
  refine⟨rfl,by omega,by omega,?_⟩
  refine HQ (small _ (by omega)) (λi ys H'=>H'=H1/\∃ zs:List Str,ys=zs.map V.str/\∀ z∈zs,z.length=1/\PyData.strOk z=true) ⟨rfl,[],rfl,by simp⟩ (λi ys H' hi hl ⟨e1,zs,e2,e3⟩=> ?_) (λys H' hl' ⟨e1,zs,e2,e3⟩ p hp=> ?_)
  ·subst e1
   push_cast[A5]
   refine CO (k:=1) el (by omega) λy1 _=>CO (k:=2) el (by omega) λy2 hy2=> ?_
   have b2:=hx y2 hy2
   push_cast[]
   obtain⟨b,eb,hb⟩:=IC (y1+(0+(i:Int)) * y2) (n:=94) (by omega)
   obtain⟨c,hc,hco⟩:=yK ⟨b,hb⟩
   refine⟨.inl ⟨by omega,by omega⟩,?_⟩
   rw[show((94:Nat):Int)=94 from rfl]at eb
   rw[eb]
   refine cH rfl (by decide +kernel) hc ⟨rfl,zs++[⟨#[c]⟩],by rw[e2,List.map_append];rfl,λz hz=> ?_⟩
   rcases List.mem_append.mp hz with hz | hz
   ·exact e3 z hz
   ·rw[List.mem_singleton.mp hz]
    exact⟨rfl,by simp[PyData.strOk];exact hco⟩
  ·subst e1
   have hl2:zs.length=m:=by rw[<-hl',e2,List.length_map]
   refine⟨_,p,zs,rfl,rfl,by rw[<-e2];exact SqL.of AU,by decide,by rw[cJ zs λz hz=>(e3 z hz).1];omega,q _ _ ?_ (s1.trans (AZ hp))⟩
   exact yL (by decide +kernel) λz hz=>(e3 z hz).2
 push_cast[↓tN]
 refine CO (k:=0) el (by omega) λy1 hy1=> ?_
 have hb:=hx y1 hy1
 push_cast[↓tP]
 refine CO (k:=0) el (by omega) λy2 hy2=> ?_
 push_cast[]
 refine⟨⟨by decide,by decide⟩,?_⟩
 split
 ·push_cast[↓tO]
  exact tail 40 (by omega)
 ·obtain⟨m,em⟩:∃ m:Nat,1+y1 % 6=m:=⟨(1+y1 % 6).toNat,by omega⟩
  rw[em]
  exact tail m (by omega)
theorem yU(h:MI K a vs H Q E):vs.length=1:=by
 obtain⟨_,rfl,_⟩:=h
 rfl
theorem yV(h:MK K a vs H Q E):RC K a (λ_=>E) (A8 Q) (A7 ["cell","many","letters","xs","size","first","second","names","k","word","j","step"] vs) H:=by
 obtain⟨x,m,rfl,hm,q⟩:=h
 push_cast[RC,↓sQ,↓sT]
 refine⟨⟨by decide,by decide⟩,x / 2,12,rfl,by omega,λl xs H1 hl s1 el hxl hx=> ?_⟩
 push_cast[↓sV]
 by_cases h1:x % 2=1
 ·refine CW h1 ?_
  push_cast[↓sU]
  refine⟨by omega,by omega,?_⟩
  refine HQ (small _ (by omega)) (λi ys H'=>H'=H1/\∃ zs:List Str,ys=zs.map V.str/\∀ z∈zs,PyData.strOk z=true) ⟨rfl,[],rfl,by simp⟩ (λi ys H' hi hl ⟨e1,zs,e2,e3⟩=> ?_) (λys H' hl' ⟨e1,zs,e2,e3⟩ p hp=> ?_)
  ·subst e1
   push_cast[A5]
   refine CO (k:=0) el (by omega) λy1 _=> ?_
   push_cast[]
   refine⟨⟨by decide,by decide⟩,cI λn hn=> ?_⟩
   push_cast[]
   refine⟨by omega,by omega,(show(1:Nat)<=1000 by omega),zs++[HL ⟨#[97+n]⟩ (1+(0+(i:Int)) % 8)],by rw[e2,List.map_append];rfl,λz hz=> ?_⟩
   rcases List.mem_append.mp hz with hz | hz
   ·exact e3 z hz
   ·rw[List.mem_singleton.mp hz]
    exact yO hn (by omega) (by omega)
  ·subst e1
   have hl2:zs.length=m:=by rw[<-hl',e2,List.length_map]
   exact q p zs _ (s1.free hp) (s1.trans (AZ hp)) (by rw[AU,e2]) hl2 e3
 ·refine BT h1 ?_
  push_cast[↓sW]
  refine CO (k:=0) el (by omega) λy1 hy1=> ?_
  have b1:=hx y1 hy1
  push_cast[]
  obtain⟨sz,esz,hsz⟩:∃ sz:Nat,2+y1 % 7=sz/\2<=sz/\sz<=8:=⟨(2+y1 % 7).toNat,by omega,by omega,by omega⟩
  rw[esz]
  push_cast[↓sX]
  refine CO (k:=1) el (by omega) λy2 hy2=> ?_
  push_cast[]
  refine⟨by omega,?_⟩
  generalize y2 % (sz:Int)=first
  push_cast[↓sY]
  refine CO (k:=2) el (by omega) λy3 hy3=> ?_
  push_cast[]
  refine⟨by omega,by omega,?_⟩
  generalize (first+1+y3 % ((sz:Int) - 1)) % (sz:Int)=second
  push_cast[↓sZ]
  refine⟨by decide,λp hp=> ?_⟩
  have s2:=AZ (o:=.lst []) hp
  have e2:upd H1 p (.lst []) p=some (.lst []):=AU
  revert s2 e2
  generalize upd H1 p (.lst [])=H2
  intro s2 e2
  push_cast[↓tI]
  refine⟨by omega,by omega,LM (λi σ H'=>(∃ zs:List Str,Same H1 H'/\H' p=some (.lst (zs.map V.str))/\zs.length=i/\∀ z∈zs,PyData.strOk z=true)/\∃ y8 y9 y10 y11,σ=[some (.int x),some (.int m),some (.str (Str.ofString "abcdefghijklmnopqrstuvwxyz")),some (.ref l),some (.int sz),some (.int first),some (.int second),some (.ref p),y8,y9,y10,y11]) ⟨⟨[],s2,e2,rfl,by simp⟩,_,_,_,_,rfl⟩ (λi σ H' hi ⟨⟨zs,s,e,hzl,hz⟩,y8,y9,y10,y11,eσ⟩=> ?_) (λσ H' ⟨⟨zs,s,e,hzl,hz⟩,y8,y9,y10,y11,eσ⟩=> ?_)⟩
  ·subst eσ
   push_cast[↓tD,↓tG]
   refine⟨by omega,by omega,LM (λj σ H2=>(∃ wd:Str,H2=H'/\wd.length=j/\PyData.strOk wd=true/\∃ y10 y11,σ=[some (.int x),some (.int m),some (.str (Str.ofString "abcdefghijklmnopqrstuvwxyz")),some (.ref l),some (.int sz),some (.int first),some (.int second),some (.ref p),some (.int (0+(i:Int))),some (.str wd),y10,y11])) ⟨Str.ofString "",rfl,rfl,by decide +kernel,_,_,rfl⟩ (λj σ H2 hj ⟨wd,eH,hwl,hw,y10,y11,eσ⟩=> ?_) (λσ H2 ⟨wd,eH,hwl,hw,y10,y11,eσ⟩=> ?_)⟩
   ·subst eσ;subst eH
    push_cast[↓tE,↓tF]
    refine⟨.inl ⟨by omega,by omega⟩,⟨by decide,by decide⟩,.inl ⟨by omega,by omega⟩,?_⟩
    rw[show(3:Int)+(0+(j:Int))=((3+j:Nat):Int) by omega]
    refine CO (k:=3+j) (s _ _ el) (by omega) λy4 _=> ?_
    push_cast[]
    refine cI λn hn=> ?_
    push_cast[]
    refine⟨small _ (by rw[hwl];show j+1<=_;omega),_,?_,yM hw (yN hn),rfl⟩
    rw[yH,hwl]
    rfl
   ·subst eσ;subst eH
    push_cast[↓tH]
    refine⟨.inl ⟨rfl,_,SqL.of e⟩,p,_,_,rfl,rfl,e,Nat.lt_of_lt_of_le (show(zs.map V.str).length<1000 by rw[List.length_map];omega) (by decide),λy o e=>by rw[AS (BG e hp)];exact s _ _ e,zs++[wd],by rw[AU,List.map_append];rfl,by simp[hzl],λz hzm=> ?_⟩
    rcases List.mem_append.mp hzm with h | h
    ·exact hz z h
    ·rw[List.mem_singleton.mp h];exact hw
  ·subst eσ
   push_cast[↓tJ]
   exact q p zs H' (s1.free hp) (s1.trans s) e hzl hz
theorem yW(h:MK K a vs H Q E):vs.length=2:=by
 obtain⟨_,_,rfl,_⟩:=h
 rfl
theorem yX(h:ML K a vs H Q E):QU K a (λ_=>E) (A8 Q) (A7 ["xs","pieces","count"] vs) H:=by
 obtain⟨xl,xs,np,rfl,el,hxl,hx,n1,n2,q⟩:=h
 have tail:∀ cnt:Int,QT K a (λ_=>E) (λ_=>E) (A8 Q) [some (.ref xl),some (.int np),some (.int cnt)] H:=λcnt=>by
  push_cast[↓p7]
  refine CO (k:=2) el (by omega) λy1 _=> ?_
  push_cast[]
  obtain⟨m,em,hm⟩:∃ m:Nat,y1 / 6 % 4=m/\m<=3:=⟨(y1 / 6 % 4).toNat,by omega,by omega⟩
  refine⟨⟨by decide,by decide⟩,by omega,by omega,?_⟩
  rw[em,Int.toNat_natCast]
  refine HQ (small _ (by omega)) (λi ys H'=>H'=H/\∃ ps:List Nat,ys=AW ps/\ps.length=i/\∀ p∈ps,p<np) ⟨rfl,[],rfl,rfl,by simp⟩ (λi ys H' hi hl ⟨e1,ps,e2,e3,e4⟩=> ?_) (λys H' hl' ⟨e1,ps,e2,e3,e4⟩ p hp=> ?_)
  ·subst e1
   push_cast[A5]
   rw[show(5:Int)+(0+(i:Int))=((5+i:Nat):Int) by omega]
   refine CO (k:=5+i) el (by omega) λy2 _=> ?_
   push_cast[]
   obtain⟨b,eb,hb⟩:=IC y2 (n:=np) n1
   rw[eb]
   refine⟨by omega,ps++[b],by rw[e2];unfold AW;rw[List.map_append];rfl,by simp[e3],λp hp=> ?_⟩
   rcases List.mem_append.mp hp with h | h
   ·exact e4 p h
   ·rw[List.mem_singleton.mp h];exact hb
  ·subst e1
   subst e2
   push_cast[]
   refine⟨AW ps,.inl ⟨SqL.of AU,λl hl=>⟨by decide,λt ht=> ?_⟩⟩⟩
   have s1:=AZ (o:=.lst (AW ps)) hp
   have s2:=AZ (o:=.tup (AW ps)) hl
   have s3:=AZ (o:=.tup [.int cnt,.ref l]) ht
   exact q _ (some (cnt,ps)) _ ((s1.trans s2).trans s3) ⟨t,l,rfl,AU,s3 _ _ AU⟩ (λc hc=>by cases hc;exact⟨e4,by show ps.length<=10;omega⟩)
 push_cast[QU,↓p0]
 refine CO (k:=2) el (by omega) λy1 _=> ?_
 push_cast[]
 split
 ·push_cast[↓pZ]
  exact q .non none H (Same.refl _) rfl (λc hc=>by cases hc)
 ·push_cast[↓p4]
  refine CO (k:=3) el (by omega) λy2 _=> ?_
  push_cast[]
  push_cast[↓p6]
  refine CO (k:=3) el (by omega) λy3 _=> ?_
  push_cast[]
  refine⟨⟨by decide,by decide⟩,?_⟩
  split
  ·push_cast[↓p5]
   refine⟨⟨by decide,by decide,by decide⟩,CO (k:=4) el (by omega) λy4 hy4=> ?_⟩
   have b4:=hx y4 hy4
   push_cast[]
   exact⟨⟨by decide,by decide,by decide⟩,.inl ⟨by omega,by omega⟩,tail _⟩
  ·exact tail _
theorem yY(h:ML K a vs H Q E):vs.length=2:=by
 obtain⟨_,_,_,rfl,_⟩:=h
 rfl
theorem MZ{w0 xl:Addr}{us:List V}{xs:List Int}{v:V}{x0 x1 x2 x4:Option V}(hw:H w0=some (.lst us))(hl:1<=us.length)(el:H xl=some (.lst (xs.map V.int)))(hxl:xs.length=8)(q:∀ b,b<us.length->Q .non (upd H w0 (.lst (us.set b v)))) :
  HB K a (λ_=>E) (λ_=>E) (A8 Q) [x0,x1,x2,some (.ref xl),x4,some (.ref w0),some v] H:=by
 push_cast[↓t9]
 refine CO (k:=0) el (by omega) λy _=>⟨us.length,.inl ⟨_,SqL.of hw,rfl⟩,?_⟩
 push_cast[]
 obtain⟨b,eb,hb⟩:=IC y (n:=us.length) hl
 rw[eb]
 refine⟨by omega,⟨w0,us,b,b,rfl,rfl,hw,N5 hb,q b hb⟩⟩
theorem LstAt.set{α :Type}{R:Hp->V-> α ->Prop}{H':Hp}{p:Addr}{us:List V}{cs:List α}{b:Nat}{v:V}{c: α}(e:H' p=some (.lst (us.set b v)))(P:Paired (R H') us cs)(hr:R H' v c):LstAt R H' p (cs.set b c):=⟨_,e,PH hr b P⟩
structure yZ(A:LV):Prop where
 d01:A.a0≠A.a1
 d02:A.a0≠A.a2
 d03:A.a0≠A.a3
 d04:A.a0≠A.a4
 d10:A.a1≠A.a0
 d12:A.a1≠A.a2
 d13:A.a1≠A.a3
 d14:A.a1≠A.a4
 d20:A.a2≠A.a0
 d21:A.a2≠A.a1
 d23:A.a2≠A.a3
 d24:A.a2≠A.a4
 d30:A.a3≠A.a0
 d31:A.a3≠A.a1
 d32:A.a3≠A.a2
 d34:A.a3≠A.a4
 d40:A.a4≠A.a0
 d41:A.a4≠A.a1
 d42:A.a4≠A.a2
 d43:A.a4≠A.a3
 v0:A.v≠A.a0
 v1:A.v≠A.a1
 v2:A.v≠A.a2
 v3:A.v≠A.a3
 v4:A.v≠A.a4
theorem LVAt.diff{A:LV}{vw:Vw}(I:LVAt H A vw):yZ A:=by
 have nd:=I.nd
 have nv:=I.nv
 simp[LV.L]at nd nv
 obtain⟨⟨a1,a2,a3,a4⟩,⟨b1,b2,b3⟩,⟨c1,c2⟩,d1⟩:=nd
 obtain⟨v0,v1,v2,v3,v4⟩:=nv
 constructor<;>first | assumption | (apply Ne.symm;assumption)
theorem LVAt.same{A:LV}{vw:Vw}{H':Hp}(I:LVAt H A vw)(s:Same H H'):LVAt H' A vw :=
 ⟨s _ _ I.ob,I.n.keep (λv c=>NmV.keep s.tk) (λo=>s _ _),I.r.keep (λv c=>RcV.keep s.tk) (λo=>s _ _),I.p.keep (λv c=>PcV.keep s.tk) (λo=>s _ _),I.rm.keep (λv c=>MkV.keep s.tk) (λo=>s _ _),I.pm.keep (λv c=>MkV.keep s.tk) (λo=>s _ _),I.ok,I.nd,I.nv⟩
theorem LVAt.set0{A:LV}{vw:Vw}{us:List V}{b:Nat}{v:V}{cc:G4}(I:LVAt H A vw)(e:H A.a0=some (.lst us))(P:Paired (NmV H) us vw.nm)(hr:NmV H v cc)(hok:∀ c,cc=some c->c.2<vw.rc.length/\PyData.strOk c.1=true):LVAt (upd H A.a0 (.lst (us.set b v))) A { vw with nm:=vw.nm.set b cc }:=by
 have d:=I.diff
 have tk:EC H (upd H A.a0 (.lst (us.set b v))):=λy xs e2=>by rw[AS (DA e2 e (by intro z;cases z))];exact e2
 exact⟨by rw[AS d.v0];exact I.ob,LstAt.set AU (Paired.mapP P λv c=>NmV.keep tk) (NmV.keep tk hr),I.r.keep (λv c=>RcV.keep tk) (λo e=>by rw[AS d.d10];exact e),I.p.keep (λv c=>PcV.keep tk) (λo e=>by rw[AS d.d20];exact e),I.rm.keep (λv c=>MkV.keep tk) (λo e=>by rw[AS d.d30];exact e),I.pm.keep (λv c=>MkV.keep tk) (λo e=>by rw[AS d.d40];exact e),⟨λc h=>(List.mem_or_eq_of_mem_set h).elim (I.ok.n1 c) λe=>hok c e.symm,λc h=>I.ok.n2 c h,λc h=>I.ok.n3 c h,I.ok.l1,I.ok.l2,(by rw[List.length_set];exact I.ok.bn),I.ok.br,I.ok.bp⟩,I.nd,I.nv⟩
theorem LVAt.set1{A:LV}{vw:Vw}{us:List V}{b:Nat}{v:V}{cc:EV}(I:LVAt H A vw)(e:H A.a1=some (.lst us))(P:Paired (RcV H) us vw.rc)(hr:RcV H v cc)(hok:∀ c,cc=some c->(∀ p∈c.2,p<vw.pc.length)/\c.2.length<=10):LVAt (upd H A.a1 (.lst (us.set b v))) A { vw with rc:=vw.rc.set b cc }:=by
 have d:=I.diff
 have tk:EC H (upd H A.a1 (.lst (us.set b v))):=λy xs e2=>by rw[AS (DA e2 e (by intro z;cases z))];exact e2
 exact⟨by rw[AS d.v1];exact I.ob,I.n.keep (λv c=>NmV.keep tk) (λo e=>by rw[AS d.d01];exact e),LstAt.set AU (Paired.mapP P λv c=>RcV.keep tk) (RcV.keep tk hr),I.p.keep (λv c=>PcV.keep tk) (λo e=>by rw[AS d.d21];exact e),I.rm.keep (λv c=>MkV.keep tk) (λo e=>by rw[AS d.d31];exact e),I.pm.keep (λv c=>MkV.keep tk) (λo e=>by rw[AS d.d41];exact e),⟨λc h=>⟨by rw[List.length_set];exact(I.ok.n1 c h).1,(I.ok.n1 c h).2⟩,λc h=>(List.mem_or_eq_of_mem_set h).elim (I.ok.n2 c) λe=>hok c e.symm,λc h=>I.ok.n3 c h,(by rw[List.length_set];exact I.ok.l1),I.ok.l2,I.ok.bn,(by rw[List.length_set];exact I.ok.br),I.ok.bp⟩,I.nd,I.nv⟩
theorem LVAt.set2{A:LV}{vw:Vw}{us:List V}{b:Nat}{v:V}{cc:Option Str}(I:LVAt H A vw)(e:H A.a2=some (.lst us))(P:Paired (PcV H) us vw.pc)(hr:PcV H v cc)(hok:∀ c,cc=some c->PyData.strOk c=true):LVAt (upd H A.a2 (.lst (us.set b v))) A { vw with pc:=vw.pc.set b cc }:=by
 have d:=I.diff
 have tk:EC H (upd H A.a2 (.lst (us.set b v))):=λy xs e2=>by rw[AS (DA e2 e (by intro z;cases z))];exact e2
 exact⟨by rw[AS d.v2];exact I.ob,I.n.keep (λv c=>NmV.keep tk) (λo e=>by rw[AS d.d02];exact e),I.r.keep (λv c=>RcV.keep tk) (λo e=>by rw[AS d.d12];exact e),LstAt.set AU (Paired.mapP P λv c=>PcV.keep tk) (PcV.keep tk hr),I.rm.keep (λv c=>MkV.keep tk) (λo e=>by rw[AS d.d32];exact e),I.pm.keep (λv c=>MkV.keep tk) (λo e=>by rw[AS d.d42];exact e),⟨λc h=>I.ok.n1 c h,λc h=>⟨λp hp=>by rw[List.length_set];exact(I.ok.n2 c h).1 p hp,(I.ok.n2 c h).2⟩,λc h=>(List.mem_or_eq_of_mem_set h).elim (I.ok.n3 c) λe=>hok c e.symm,I.ok.l1,(by rw[List.length_set];exact I.ok.l2),I.ok.bn,I.ok.br,(by rw[List.length_set];exact I.ok.bp)⟩,I.nd,I.nv⟩
theorem LVAt.set3{A:LV}{vw:Vw}{us:List V}{b:Nat}{v:V}{cc:Option Int}(I:LVAt H A vw)(e:H A.a3=some (.lst us))(P:Paired (MkV H) us vw.rm)(hr:MkV H v cc)(hok:∀ c,cc=some c->True):LVAt (upd H A.a3 (.lst (us.set b v))) A { vw with rm:=vw.rm.set b cc }:=by
 have d:=I.diff
 have tk:EC H (upd H A.a3 (.lst (us.set b v))):=λy xs e2=>by rw[AS (DA e2 e (by intro z;cases z))];exact e2
 exact⟨by rw[AS d.v3];exact I.ob,I.n.keep (λv c=>NmV.keep tk) (λo e=>by rw[AS d.d03];exact e),I.r.keep (λv c=>RcV.keep tk) (λo e=>by rw[AS d.d13];exact e),I.p.keep (λv c=>PcV.keep tk) (λo e=>by rw[AS d.d23];exact e),LstAt.set AU (Paired.mapP P λv c=>MkV.keep tk) (MkV.keep tk hr),I.pm.keep (λv c=>MkV.keep tk) (λo e=>by rw[AS d.d43];exact e),⟨λc h=>I.ok.n1 c h,λc h=>I.ok.n2 c h,λc h=>I.ok.n3 c h,(by rw[List.length_set];exact I.ok.l1),I.ok.l2,I.ok.bn,I.ok.br,I.ok.bp⟩,I.nd,I.nv⟩
theorem LVAt.set4{A:LV}{vw:Vw}{us:List V}{b:Nat}{v:V}{cc:Option Int}(I:LVAt H A vw)(e:H A.a4=some (.lst us))(P:Paired (MkV H) us vw.pm)(hr:MkV H v cc)(hok:∀ c,cc=some c->True):LVAt (upd H A.a4 (.lst (us.set b v))) A { vw with pm:=vw.pm.set b cc }:=by
 have d:=I.diff
 have tk:EC H (upd H A.a4 (.lst (us.set b v))):=λy xs e2=>by rw[AS (DA e2 e (by intro z;cases z))];exact e2
 exact⟨by rw[AS d.v4];exact I.ob,I.n.keep (λv c=>NmV.keep tk) (λo e=>by rw[AS d.d04];exact e),I.r.keep (λv c=>RcV.keep tk) (λo e=>by rw[AS d.d14];exact e),I.p.keep (λv c=>PcV.keep tk) (λo e=>by rw[AS d.d24];exact e),I.rm.keep (λv c=>MkV.keep tk) (λo e=>by rw[AS d.d34];exact e),LstAt.set AU (Paired.mapP P λv c=>MkV.keep tk) (MkV.keep tk hr),⟨λc h=>I.ok.n1 c h,λc h=>I.ok.n2 c h,λc h=>I.ok.n3 c h,I.ok.l1,(by rw[List.length_set];exact I.ok.l2),I.ok.bn,I.ok.br,I.ok.bp⟩,I.nd,I.nv⟩
theorem y7(h:MN K a vs H Q E):RM K a (λ_=>E) (A8 Q) (A7 ["view","cell","names","xs","kind","where","value"] vs) H:=by
 obtain⟨A,cell,nl,zs,vw,n,r,c,rfl,I,⟨z1,z2,z3⟩,hn,hr,hc,hnl,hzl,hz,q⟩:=h
 push_cast[RM,↓tY,↓tZ]
 refine⟨⟨by decide,by decide⟩,cell / 6,8,rfl,by omega,λxl xs H1 hxl s1 el hxs hx=> ?_⟩
 obtain⟨k,ek,hk⟩:∃ k:Nat,cell % 6=k/\k<6:=⟨(cell % 6).toNat,by omega,by omega⟩
 rw[ek]
 push_cast[↓t0]
 refine⟨by decide,λp1 hp1=> ?_⟩
 have wL:∀ {H3:Hp} {y:Addr} {o:HO},y∈A.L->Same H H3->SameBut (· ∈A.L) H (upd H3 y o):=λ{H3 y o} hy s b o' e nb=>by
  have:b≠y:=λz=>nb (by rw[z];exact hy)
  rw[AS this];exact s _ _ e
 have m0:A.a0∈A.L:=by simp[LV.L]
 have m1:A.a1∈A.L:=by simp[LV.L]
 have m2:A.a2∈A.L:=by simp[LV.L]
 have m3:A.a3∈A.L:=by simp[LV.L]
 have m4:A.a4∈A.L:=by simp[LV.L]
 have main:∀ {H3:Hp} {v0:V} {cm:Option Int} {w0:Addr},Same H H3->H3 xl=some (.lst (xs.map V.int))->MkV H3 v0 cm->[A.a0,A.a1,A.a1,A.a2,A.a3,A.a4][k]? =some w0->AO (RL K a (λ_=>E) (λ_=>E)) (AO (NZ K a (λ_=>E) (λ_=>E)) (AO (N0 K a (λ_=>E) (λ_=>E)) (HB K a (λ_=>E) (λ_=>E)))) (A8 Q) [some (.ref A.v),some (.int cell),some (.ref nl),some (.ref xl),some (.int k),some (.ref w0),some v0] H3:=λ{H3 v0 cm w0} s3 el3 hv0 hw0=>by
  have I3:=I.same s3
  have fin0:∀ {H4:Hp} {v:V} {cc:G4},Same H H4->H4 xl=some (.lst (xs.map V.int))->NmV H4 v cc->(∀ c,cc=some c->c.2<vw.rc.length/\PyData.strOk c.1=true)->HB K a (λ_=>E) (λ_=>E) (A8 Q) [some (.ref A.v),some (.int cell),some (.ref nl),some (.ref xl),some (.int k),some (.ref A.a0),some v] H4:=λ{H4 v cc} s4 el4 hv hok=>by
   have I4:=I.same s4
   obtain⟨us,e,P⟩:=I4.n
   exact MZ e (by rw[P.length];omega) el4 hxs λb hb=>q _ _ (I4.set0 e P hv hok) ⟨by simp only[List.length_set];exact z1,z2,z3⟩ (wL m0 s4)
  have fin1:∀ {H4:Hp} {v:V} {cc:EV},Same H H4->H4 xl=some (.lst (xs.map V.int))->RcV H4 v cc->(∀ c,cc=some c->(∀ p∈c.2,p<vw.pc.length)/\c.2.length<=10)->HB K a (λ_=>E) (λ_=>E) (A8 Q) [some (.ref A.v),some (.int cell),some (.ref nl),some (.ref xl),some (.int k),some (.ref A.a1),some v] H4:=λ{H4 v cc} s4 el4 hv hok=>by
   have I4:=I.same s4
   obtain⟨us,e,P⟩:=I4.r
   exact MZ e (by rw[P.length];omega) el4 hxs λb hb=>q _ _ (I4.set1 e P hv hok) ⟨z1,by simp only[List.length_set];exact z2,z3⟩ (wL m1 s4)
  have fin2:∀ {H4:Hp} {v:V} {cc:Option Str},Same H H4->H4 xl=some (.lst (xs.map V.int))->PcV H4 v cc->(∀ c,cc=some c->PyData.strOk c=true)->HB K a (λ_=>E) (λ_=>E) (A8 Q) [some (.ref A.v),some (.int cell),some (.ref nl),some (.ref xl),some (.int k),some (.ref A.a2),some v] H4:=λ{H4 v cc} s4 el4 hv hok=>by
   have I4:=I.same s4
   obtain⟨us,e,P⟩:=I4.p
   exact MZ e (by rw[P.length];omega) el4 hxs λb hb=>q _ _ (I4.set2 e P hv hok) ⟨z1,z2,by simp only[List.length_set];exact z3⟩ (wL m2 s4)
  have l1:=I.ok.l1
  have l2:=I.ok.l2
  rcases(by omega:k=0\/k=1\/k=2\/k=3\/k=4\/k=5)with h | h | h | h | h | h<;>subst h<;>cases hw0
  ·push_cast[↓JU,↓t3]
   refine CW rfl ?_
   refine CO (k:=2) el3 (by omega) λy2 _=> ?_
   push_cast[]
   obtain⟨b2,eb2,hb2⟩:=IC y2 (n:=5) (by omega)
   rw[show((5:Nat):Int)=5 from rfl]at eb2
   rw[eb2]
   have ez:=List.getElem?_eq_getElem (l:=zs) (i:=b2) (by omega)
   refine BN (SqL.of (s3 _ _ hnl)) (n:=b2) rfl (by rw[List.getElem?_map,ez];rfl) ?_
   refine CO (k:=3) el3 (by omega) λy3 _=> ?_
   obtain⟨us,e,P⟩:=I3.r
   refine BN (SqL.of I3.ob) (n:=1) rfl rfl ⟨vw.rc.length,.inl ⟨_,SqL.of e,P.length.symm⟩,?_⟩
   push_cast[]
   obtain⟨b3,eb3,hb3⟩:=IC y3 (n:=vw.rc.length) (by omega)
   rw[eb3]
   refine⟨by omega,by decide,λt ht=> ?_⟩
   have s4:=AZ (o:=.tup [V.str (zs[b2]'(by omega)),V.int ↑b3]) ht
   have e4:upd H3 t (.tup [V.str (zs[b2]'(by omega)),V.int ↑b3]) t=some (.tup [V.str (zs[b2]'(by omega)),V.int ↑b3]):=AU
   revert s4 e4
   generalize upd H3 t (.tup [V.str (zs[b2]'(by omega)),V.int ↑b3])=H4
   intro s4 e4
   have el4:=s4 _ _ el3
   have s04:=s3.trans s4
   push_cast[↓t5]
   refine CO (k:=1) el4 (by omega) λy4 _=> ?_
   push_cast[]
   have t10:∀ {v:V} {cc:G4},NmV H4 v cc->(∀ c,cc=some c->c.2<vw.rc.length/\PyData.strOk c.1=true)->AO (NZ K a (λ_=>E) (λ_=>E)) (AO (N0 K a (λ_=>E) (λ_=>E)) (HB K a (λ_=>E) (λ_=>E))) (A8 Q) [some (.ref A.v),some (.int cell),some (.ref nl),some (.ref xl),some (.int ((0:Nat):Int)),some (.ref A.a0),some v] H4:=λhv hok=>by
    push_cast[↓JV]
    refine BT (by omega) (BT (by omega) ?_)
    push_cast[↓JW]
    refine BT (by omega) ?_
    exact fin0 s04 el4 hv hok
   by_cases h6:y4 % 6=0
   ·refine CW h6 ?_
    push_cast[↓t4]
    exact t10 (cc:=none) rfl λc hc=>by cases hc
   ·refine BT h6 ?_
    exact t10 (cc:=some (zs[b2]'(by omega),b3)) ⟨t,rfl,e4⟩ λc hc=>by cases hc;exact⟨hb3,hz _ (List.getElem_mem _)⟩
  ·push_cast[↓JU]
   refine BT (by omega) ?_
   push_cast[↓JV]
   refine CW rfl ?_
   push_cast[↓aJ]
   obtain⟨us,e,P⟩:=I3.p
   refine BN (SqL.of I3.ob) (n:=2) rfl rfl ⟨vw.pc.length,.inl ⟨_,SqL.of e,P.length.symm⟩,xl,xs,vw.pc.length,rfl,el3,hxs,hx,by omega,I.ok.bp,λv cc H4 s4 hv hok=> ?_⟩
   push_cast[↓JW]
   refine BT (by omega) ?_
   exact fin1 (s3.trans s4) (s4 _ _ el3) hv hok
  ·push_cast[↓JU]
   refine BT (by omega) ?_
   push_cast[↓JV]
   refine BT (by omega) (CW rfl ?_)
   push_cast[↓aJ]
   obtain⟨us,e,P⟩:=I3.p
   refine BN (SqL.of I3.ob) (n:=2) rfl rfl ⟨vw.pc.length,.inl ⟨_,SqL.of e,P.length.symm⟩,xl,xs,vw.pc.length,rfl,el3,hxs,hx,by omega,I.ok.bp,λv cc H4 s4 hv hok=> ?_⟩
   push_cast[↓JW]
   refine BT (by omega) ?_
   exact fin1 (s3.trans s4) (s4 _ _ el3) hv hok
  ·push_cast[↓JU]
   refine BT (by omega) ?_
   push_cast[↓JV]
   refine BT (by omega) (BT (by omega) ?_)
   push_cast[↓JW]
   refine CW rfl ?_
   push_cast[↓t6]
   refine CO (k:=2) el3 (by omega) λy2 _=>⟨y2,rfl,λz H4 hz4 s4=> ?_⟩
   have el4:=s4 _ _ el3
   push_cast[↓t8]
   refine CO (k:=1) el4 (by omega) λy4 _=> ?_
   push_cast[]
   by_cases h6:y4 % 6=0
   ·refine CW h6 ?_
    push_cast[↓t7]
    exact fin2 (cc:=none) (s3.trans s4) el4 rfl λc hc=>by cases hc
   ·refine BT h6 ?_
    exact fin2 (cc:=some z) (s3.trans s4) el4 rfl λc hc=>by cases hc;exact hz4
  ·push_cast[↓JU]
   refine BT (by omega) ?_
   push_cast[↓JV]
   refine BT (by omega) (BT (by omega) ?_)
   push_cast[↓JW]
   refine BT (by omega) ?_
   obtain⟨us,e,P⟩:=I3.rm
   exact MZ e (by rw[P.length];omega) el3 hxs λb hb=>q _ _ (I3.set3 (b:=b) e P hv0 λc hc=>trivial) ⟨z1,z2,z3⟩ (wL m3 s3)
  ·push_cast[↓JU]
   refine BT (by omega) ?_
   push_cast[↓JV]
   refine BT (by omega) (BT (by omega) ?_)
   push_cast[↓JW]
   refine BT (by omega) ?_
   obtain⟨us,e,P⟩:=I3.pm
   exact MZ e (by rw[P.length];omega) el3 hxs λb hb=>q _ _ (I3.set4 (b:=b) e P hv0 λc hc=>trivial) ⟨z1,z2,z3⟩ (wL m4 s3)
 have s2:=AZ (o:=.lst [V.int 0,V.int 1,V.int 1,V.int 2,V.int 3,V.int 4]) hp1
 have e2:upd H1 p1 (.lst [V.int 0,V.int 1,V.int 1,V.int 2,V.int 3,V.int 4]) p1=some (.lst [V.int 0,V.int 1,V.int 1,V.int 2,V.int 3,V.int 4]):=AU
 revert s2 e2
 generalize upd H1 p1 (.lst [V.int 0,V.int 1,V.int 1,V.int 2,V.int 3,V.int 4])=H2
 intro s2 e2
 have s02:=s1.trans s2
 have ob2:=s02 _ _ I.ob
 obtain⟨j,w0,ej,ew,ew'⟩:∃ (j:Nat) (w0:Addr),[V.int 0,V.int 1,V.int 1,V.int 2,V.int 3,V.int 4][k]? =some (.int j)/\[V.ref A.a0,V.ref A.a1,V.ref A.a2,V.ref A.a3,V.ref A.a4][j]? =some (.ref w0)/\[A.a0,A.a1,A.a1,A.a2,A.a3,A.a4][k]? =some w0:=by
  rcases(by omega:k=0\/k=1\/k=2\/k=3\/k=4\/k=5)with h | h | h | h | h | h<;>subst h
  ·exact⟨0,_,rfl,rfl,rfl⟩
  ·exact⟨1,_,rfl,rfl,rfl⟩
  ·exact⟨1,_,rfl,rfl,rfl⟩
  ·exact⟨2,_,rfl,rfl,rfl⟩
  ·exact⟨3,_,rfl,rfl,rfl⟩
  ·exact⟨4,_,rfl,rfl,rfl⟩
 refine BN (SqL.of e2) (n:=k) rfl ej (BN (SqL.of ob2) (n:=j) rfl ew ?_)
 push_cast[↓t1]
 refine⟨by decide,λp2 hp2=> ?_⟩
 have s3:=AZ (o:=.lst [V.non,V.int 0,V.int 1,V.int 1]) hp2
 have e3:upd H2 p2 (.lst [V.non,V.int 0,V.int 1,V.int 1]) p2=some (.lst [V.non,V.int 0,V.int 1,V.int 1]):=AU
 revert s3 e3
 generalize upd H2 p2 (.lst [V.non,V.int 0,V.int 1,V.int 1])=H3
 intro s3 e3
 have el3:=(s2.trans s3) _ _ el
 refine CO (k:=1) el3 (by omega) λy hy=> ?_
 push_cast[]
 obtain⟨b,eb,hb⟩:=IC y (n:=4) (by omega)
 rw[show((4:Nat):Int)=4 from rfl]at eb
 rw[eb]
 rcases(by omega:b=0\/b=1\/b=2\/b=3)with h | h | h | h<;>subst h
 ·exact BN (SqL.of e3) (n:=0) rfl rfl (main (cm:=none) (s02.trans s3) el3 rfl ew')
 ·exact BN (SqL.of e3) (n:=1) rfl rfl (main (cm:=some 0) (s02.trans s3) el3 rfl ew')
 ·exact BN (SqL.of e3) (n:=2) rfl rfl (main (cm:=some 1) (s02.trans s3) el3 rfl ew')
 ·exact BN (SqL.of e3) (n:=3) rfl rfl (main (cm:=some 1) (s02.trans s3) el3 rfl ew')
theorem zA(h:MN K a vs H Q E):vs.length=3:=by
 obtain⟨_,_,_,_,_,_,_,_,rfl,_⟩:=h
 rfl
def EY(w:Nat)(xs:List V)(i:Nat):List V:=(xs.drop (i * w)).take w
theorem cL{w:Nat}:∀ {M:Nat} {xs:List V},xs.length=M * w->((List.range M).map (EY w xs)).flatten=xs
 | 0,xs,h=>by
  have:xs=[]:=List.length_eq_zero_iff.mp (by omega)
  rw[this];rfl
 | M+1,xs,h=>by
  rw[List.range_succ_eq_map,List.map_cons,List.flatten_cons,List.map_map]
  have e:∀ i,EY w xs (i+1)=EY w (xs.drop w) i:=λi=>by
   unfold EY
   rw[List.drop_drop]
   congr 2
   rw[Nat.succ_mul];omega
  have e2:(List.range M).map (EY w xs ∘ Nat.succ)=(List.range M).map (EY w (xs.drop w)):=List.map_congr_left λi _=>e i
  rw[e2,cL (xs:=xs.drop w) (by rw[List.length_drop,h,Nat.succ_mul];omega)]
  unfold EY
  rw[Nat.zero_mul,List.drop_zero,List.take_append_drop]
theorem zB{w M i:Nat}{xs:List V}(h:xs.length=M * w)(hi:i<M):(EY w xs i).length=w:=by
 unfold EY
 rw[List.length_take,List.length_drop,h]
 have:(i+1) * w<=M * w:=Nat.mul_le_mul_right w hi
 rw[Nat.succ_mul]at this
 omega
theorem N6{l1 l2:Addr}{x1 x2:List V}{Q:VK}(e1:H l1=some (.lst x1))(e2:H l2=some (.lst x2))(hn:x1.length+x2.length<=10000)(q:newL (x1++x2) H Q):A4 K (.ref l1) (.ref l2) H Q :=
 .inl ⟨l1,l2,_,_,rfl,rfl,e1,e2,small _ (by omega),λp hp=>q p _ hp (AZ hp) AU⟩
theorem zC(h:MO K a vs H Q E):QW K a (λ_=>E) (A8 Q) (A7 ["view","cells","flat"] vs) H:=by
 obtain⟨A,vw,n,r,c,w,rfl,I,⟨z1,z2,z3⟩,w1,w6,n6,r6,c6,q⟩:=h
 have ok:=I.ok
 obtain⟨v1,e1,P1⟩:=I.n
 obtain⟨v2,e2,P2⟩:=I.r
 obtain⟨v3,e3,P3⟩:=I.p
 obtain⟨v4,e4,P4⟩:=I.rm
 obtain⟨v5,e5,P5⟩:=I.pm
 have q1:=P1.length
 have q2:=P2.length
 have q3:=P3.length
 have q4:=P4.length
 have q5:=P5.length
 have l1:=ok.l1
 have l2:=ok.l2
 have bn:=ok.bn
 have br:=ok.br
 have bp:=ok.bp
 push_cast[QW,↓p8]
 refine BN (SqL.of I.ob) (n:=0) rfl rfl (BN (SqL.of I.ob) (n:=1) rfl rfl (N6 e1 e2 (by omega) λb1 H1 _ s1 f1=> ?_))
 refine BN (SqL.of (s1 _ _ I.ob)) (n:=2) rfl rfl (N6 f1 (s1 _ _ e3) (by rw[List.length_append];omega) λb2 H2 _ s2 f2=> ?_)
 have s02:=s1.trans s2
 refine BN (SqL.of (s02 _ _ I.ob)) (n:=3) rfl rfl (N6 f2 (s02 _ _ e4) (by simp only[List.length_append];omega) λb3 H3 _ s3 f3=> ?_)
 have s03:=s02.trans s3
 refine BN (SqL.of (s03 _ _ I.ob)) (n:=4) rfl rfl (N6 f3 (s03 _ _ e5) (by simp only[List.length_append];omega) λb4 H4 _ s4 f4=> ?_)
 have s04:=s03.trans s4
 have fl:(v1++v2++v3++v4++v5).length=(n+r+c+r+c) * w:=by
  simp only[List.length_append,Nat.add_mul]
  omega
 generalize hM:n+r+c+r+c=M at fl ⊢
 generalize hF:v1++v2++v3++v4++v5=flat at f4 fl
 have fb:M * w<1000:=by rw[<-fl,<-hF];simp only[List.length_append];omega
 push_cast[↓p9]
 refine⟨M * w,.inl ⟨_,SqL.of f4,fl.symm⟩,M,w,rfl,rfl,w1,by omega,by omega,?_⟩
 have cut:∀ i,i<M->DI flat (some ((i:Int) * w)) (some ((i:Int) * w+w))=EY w flat i:=λi hi=>by
  have h1:(i+1) * w<=M * w:=Nat.mul_le_mul_right w hi
  rw[Nat.succ_mul]at h1
  unfold DI EY
  have a1:(i:Int) * w=((i * w:Nat):Int):=by simp
  have a2:(i:Int) * w+w=((i * w+w:Nat):Int):=by simp
  rw[a2,a1,HT.sIx_nat,HT.sIx_nat,fl,Nat.min_eq_left (by omega),Nat.min_eq_left (by omega)]
  congr 1
  omega
 refine nS (small _ (by
  have:M<=M * w:=Nat.le_mul_of_pos_right M (by omega)
  omega)) (λi ys H'=>Same H4 H'/\∃ ra:List Addr,ys=ra.map V.ref/\Paired (λl r=>H' l=some (.lst r)/\H4 l=none) ra ((List.range i).map (EY w flat))) ⟨Same.refl _,[],rfl,.nil⟩ (λi ys H' hi _ ⟨s,ra,e,P⟩=> ?_) (λys H' _ ⟨s,ra,e,P⟩ p hp=> ?_)
 ·push_cast[A5]
  refine VF (SqL.of (s _ _ f4)) λl hl=> ?_
  rw[cut i hi]
  refine⟨EX s hl,ra++[l],by rw[e,List.map_append];rfl,?_⟩
  rw[List.range_succ,List.map_append]
  exact Paired.snoc (Paired.mapP P λt r e=>⟨AZ hl _ _ e.1,e.2⟩) ⟨AU,s.free hl⟩
 ·subst e
  have s5:=s.trans (AZ (o:=.lst (ra.map V.ref)) hp)
  have s05:=s04.trans s5
  refine q p ra _ _ (s04.free (s.free hp)) s05 AU (Paired.mapP P λl r e=>AZ hp _ _ e.1) (λl hl=> ?_) (λr hr=> ?_) (by rw[List.length_map,List.length_range,hM]) ⟨⟨v1,v2,v3,v4,v5,by rw[cL fl,hF],Paired.mapP P1 λv c=>NmV.keep s05.tk,Paired.mapP P2 λv c=>RcV.keep s05.tk,Paired.mapP P3 λv c=>PcV.keep s05.tk,Paired.mapP P4 λv c=>MkV.keep s05.tk,Paired.mapP P5 λv c=>MkV.keep s05.tk⟩,z1,z2,z3,ok⟩
  ·obtain⟨k,ek⟩:=JI hl
   obtain⟨r',_,hx'⟩:=EF P ek
   exact s04.free hx'.2
  ·obtain⟨i,hi,rfl⟩:=List.mem_map.mp hr
   exact zB fl (List.mem_range.mp hi)
theorem zD(h:MO K a vs H Q E):vs.length=2:=by
 obtain⟨_,_,_,_,_,_,rfl,_⟩:=h
 rfl
theorem zE{te:TE}{cap:List Nat}{σ:St}{b:Addr}{xs:List V}(hn:xs.length<=sizeLine)(Pv:Nat->List V->Hp->Prop)(h0:Pv 0 [] H)(hq:∀ i ys H,i<=xs.length->Pv i ys H->SqT K H b xs)
  (hs:∀ i x ys H,xs[i]? =some x->ys.length=i->Pv i ys H->te (some x::A5 cap σ) H λy H2=>Pv (i+1) (ys++[y]) H2)
  (hd:∀ ys H,ys.length=xs.length->Pv xs.length ys H->∀ p,H p=none->Q (.ref p) (upd H p (.lst ys))) :
  C2 (F0 K b) (AJ 0) CY te 1 cap σ H Q:=by
 refine⟨λi m σ' ys H=>m=xs.length - i/\i<=xs.length/\ys.length=i/\(∃ x0,σ'=x0::A5 cap σ)/\Pv i ys H,⟨xs.length,by simp,Nat.zero_le _,rfl,⟨none,rfl⟩,h0⟩,?_⟩
 rintro i m σ' ys H ⟨rfl,hi,hl,⟨x0,rfl⟩,p⟩
 have q:=hq i ys H hi p
 by_cases hlt:i<xs.length
 ·refine .inr ⟨⟨xs,xs[i],q,by simp[hlt]⟩,by omega,λx H' y=> ?_⟩
  obtain⟨e,y⟩:=y
  subst e
  exact⟨_,λy H4 q=>⟨_,by omega,rfl,hlt,by simp[hl],⟨_,rfl⟩,q⟩,hs i x ys _ (y xs q) hl p⟩
 ·have e:i=xs.length:=by omega
  subst e
  exact .inl ⟨⟨xs,q,Nat.le_refl _⟩,hd ys H hl p⟩
theorem zF(k:Nat):(List.replicate k [V.non]).flatten=List.replicate k V.non:=by
 induction k with
 | zero=>rfl
 | succ k ih=>rw[List.replicate_succ,List.flatten_cons,ih];rfl
theorem zG{p:Addr}{k:Nat}{Q:VK}(e:H p=some (.lst [V.non]))(hk:k<=1000)(q:newL (List.replicate k V.non) H Q):CC K (.ref p) (.int k) H Q:=by
 refine .inl ⟨p,k,_,rfl,rfl,e,by omega,by omega,small _ (by simp;omega),λl hl=> ?_⟩
 rw[Int.toNat_natCast,zF]
 exact q l _ hl (AZ hl) AU
theorem JY{α β :Type}{F: α -> β ->Prop}{x: α}{y: β}(h:F x y):∀ n,Paired F (List.replicate n x) (List.replicate n y)
 | 0=>.nil
 | n+1=>.cons h (JY h n)
theorem zH(h:MP K a vs H Q E):RO K a (λ_=>E) (A8 Q) (A7 ["script","sizes","names","many","view","cell"] vs) H:=by
 obtain⟨s,z,nl,ns,zs,n,r,c,w,rfl,hs,hns,hz,n1,n6,r1,r6,c1,c6,w1,w6,hnl,hzl,hzs,q⟩:=h
 have bw:∀ k:Nat,k<=6->k * w<=36:=λk hk=>Nat.mul_le_mul hk w6
 have bn:=bw n n6
 have br:=bw r r6
 have bc:=bw c c6
 have cn:∀ k:Nat,((k:Int) * w)=((k * w:Nat):Int):=λk=>by simp
 push_cast[RO,↓uL]
 refine .inr ⟨z,_,rfl,SqT.of hz,by simp[HT.sIx],λt ht=>⟨t,rfl,.inr ⟨⟨_,SqT.of AU⟩,?_⟩⟩⟩
 have e1:upd H t (.tup (DI [.int n,.int r,.int c,.int w] none (some 3))) t=some (.tup [.int n,.int r,.int c]):=by rw[AU];rfl
 have s1:=AZ (o:=.tup (DI [.int n,.int r,.int c,.int w] none (some 3))) ht
 revert e1 s1
 generalize upd H t (.tup (DI [.int n,.int r,.int c,.int w] none (some 3)))=H1
 intro e1 s1
 refine zE (xs:=[.int n,.int r,.int c]) (small _ (by simp)) (λi ys H'=>H'=H1/\ys=([n * w,r * w,c * w].take i).map λ(k:Nat)=>V.int k) ⟨rfl,rfl⟩ (λi ys H' _ ⟨e,_⟩=>e ▸ SqT.of e1) (λi x ys H' hx _ ⟨e,e'⟩=> ?_) (λys H' _ ⟨e,e'⟩ l hl=> ?_)
 ·subst e
  push_cast[A5]
  obtain⟨k,rfl,hk6,ek⟩:∃ k:Nat,x=.int k/\k<=6/\[n * w,r * w,c * w][i]? =some (k * w):=by
   match i with
   | 0=>cases hx;exact⟨n,rfl,n6,rfl⟩
   | 1=>cases hx;exact⟨r,rfl,r6,rfl⟩
   | 2=>cases hx;exact⟨c,rfl,c6,rfl⟩
   | i+3=>simp at hx
  refine CU (s1 _ _ hz) (n:=3) rfl rfl ?_
  push_cast[]
  refine⟨.inl ⟨by omega,by omega⟩,?_⟩
  rw[cn k,e',DJ ek,List.map_append]
  rfl
 ·subst e
  have e':ys=[.int ((n * w:Nat):Int),.int ((r * w:Nat):Int),.int ((c * w:Nat):Int)]:=e'
  subst e'
  have s2:=AZ (o:=.lst [V.int ↑(n * w),V.int ↑(r * w),V.int ↑(c * w)]) hl
  have e2:upd H' l (.lst [V.int ↑(n * w),V.int ↑(r * w),V.int ↑(c * w)]) l=some (.lst [V.int ↑(n * w),V.int ↑(r * w),V.int ↑(c * w)]):=AU
  revert s2 e2
  generalize upd H' l (.lst [V.int ↑(n * w),V.int ↑(r * w),V.int ↑(c * w)])=H2
  intro s2 e2
  push_cast[↓uM]
  have st:∀ {H3:Hp} {j m:Nat} {Q':VK},Same H2 H3->[n * w,r * w,c * w][j]? =some m->m<=36->newL (List.replicate m V.non) H3 Q'->∀ p,H3 p=none->AL K (.ref l) (.int j) (upd H3 p (.lst [V.non])) λy H4=>CC K (.ref p) y H4 Q':=λ{H3 j m Q'} s3 ej hm q' p hp=>by
   have s4:=AZ (o:=.lst [V.non]) hp
   refine BN (SqL.of (s4 _ _ (s3 _ _ e2))) (n:=j) rfl (v:=.int m) ?_ (zG AU (by omega) (q'.of s4))
   match j with
   | 0=>cases ej;rfl
   | 1=>cases ej;rfl
   | 2=>cases ej;rfl
   | j+3=>simp at ej
  refine⟨by decide,st (j:=0) (Same.refl _) rfl bn λa0 H3 h3 s3 f0=>⟨by decide,st (j:=1) s3 rfl br λa1 H4 h4 s4 f1=>⟨by decide,st (j:=2) (s3.trans s4) rfl bc λa2 H5 h5 s5 f2=>⟨by decide,st (j:=1) ((s3.trans s4).trans s5) rfl br λa3 H6 h6 s6 f3=>⟨by decide,st (j:=2) (((s3.trans s4).trans s5).trans s6) rfl bc λa4 H7 h7 s7 f4=>⟨by decide,λv hv=> ?_⟩⟩⟩⟩⟩⟩
  have s37:=((s4.trans s5).trans s6).trans s7
  have s8:=AZ (o:=.lst [V.ref a0,V.ref a1,V.ref a2,V.ref a3,V.ref a4]) hv
  have e8:upd H7 v (.lst [V.ref a0,V.ref a1,V.ref a2,V.ref a3,V.ref a4]) v=some (.lst [V.ref a0,V.ref a1,V.ref a2,V.ref a3,V.ref a4]):=AU
  have g0:=s37 _ _ f0
  have g1:=((s5.trans s6).trans s7) _ _ f1
  have g2:=(s6.trans s7) _ _ f2
  have g3:=s7 _ _ f3
  have d01:a0≠a1:=BG f0 h4
  have d02:a0≠a2:=BG (s4 _ _ f0) h5
  have d03:a0≠a3:=BG ((s4.trans s5) _ _ f0) h6
  have d04:a0≠a4:=BG (((s4.trans s5).trans s6) _ _ f0) h7
  have d12:a1≠a2:=BG f1 h5
  have d13:a1≠a3:=BG (s5 _ _ f1) h6
  have d14:a1≠a4:=BG ((s5.trans s6) _ _ f1) h7
  have d23:a2≠a3:=BG f2 h6
  have d24:a2≠a4:=BG (s6 _ _ f2) h7
  have d34:a3≠a4:=BG f3 h7
  have v0:v≠a0:=(BG g0 hv).symm
  have v1:v≠a1:=(BG g1 hv).symm
  have v2:v≠a2:=(BG g2 hv).symm
  have v3:v≠a3:=(BG g3 hv).symm
  have v4:v≠a4:=(BG f4 hv).symm
  have s08:=((((s1.trans s2).trans s3).trans s37).trans s8)
  have nmem:∀ {α :Type} {k:Nat} {x: α},some x∉List.replicate k (none:Option α):=λh=>by have:=List.eq_of_mem_replicate h;cases this
  have I8:LVAt (upd H7 v (.lst [V.ref a0,V.ref a1,V.ref a2,V.ref a3,V.ref a4])) ⟨v,a0,a1,a2,a3,a4⟩ ⟨List.replicate (n * w) none,List.replicate (r * w) none,List.replicate (c * w) none,List.replicate (r * w) none,List.replicate (c * w) none⟩:=by
   refine⟨e8,⟨_,s8 _ _ g0,JY (F:=NmV _) (x:=.non) (y:=none) rfl _⟩,⟨_,s8 _ _ g1,JY (F:=RcV _) (x:=.non) (y:=none) rfl _⟩,⟨_,s8 _ _ g2,JY (F:=PcV _) (x:=.non) (y:=none) rfl _⟩,⟨_,s8 _ _ g3,JY (F:=MkV _) (x:=.non) (y:=none) rfl _⟩,⟨_,s8 _ _ f4,JY (F:=MkV _) (x:=.non) (y:=none) rfl _⟩,⟨λx h=>absurd h nmem,λx h=>absurd h nmem,λx h=>absurd h nmem,by simp,by simp,by simp;omega,by simp;omega,by simp;omega⟩,?_,?_⟩
   ·simp[LV.L,d01,d02,d03,d04,d12,d13,d14,d23,d24,d34]
   ·simp[LV.L,v0,v1,v2,v3,v4]
  have fA:∀ y∈LV.L ⟨v,a0,a1,a2,a3,a4⟩,H y=none:=λy hy=>by
   simp[LV.L]at hy
   have s02:=s1.trans s2
   rcases hy with rfl | rfl | rfl | rfl | rfl
   ·exact s02.free h3
   ·exact(s02.trans s3).free h4
   ·exact((s02.trans s3).trans s4).free h5
   ·exact(((s02.trans s3).trans s4).trans s5).free h6
   ·exact((((s02.trans s3).trans s4).trans s5).trans s6).free h7
  revert I8 s8 e8 s08
  generalize upd H7 v (.lst [V.ref a0,V.ref a1,V.ref a2,V.ref a3,V.ref a4])=H8
  intro s8 e8 s08 I8
  clear s8
  push_cast[↓uO]
  refine VF (s08.seq hs) λq0 hq0=> ?_
  obtain⟨ms,ems,hms⟩:∃ ms:List Int,DI (ns.map V.int) (some 2) none=ms.map V.int/\ms.length<=ns.length:=by
   unfold DI
   rw[<-List.map_drop,<-List.map_take]
   refine⟨_,rfl,?_⟩
   simp[HT.sIx]
  rw[ems]
  have s9:=AZ (o:=.lst (ms.map V.int)) hq0
  have e9:upd H8 q0 (.lst (ms.map V.int)) q0=some (.lst (ms.map V.int)):=AU
  have nq0:q0∉LV.L ⟨v,a0,a1,a2,a3,a4⟩:=λh=>by
   simp[LV.L]at h
   obtain⟨_,k0,_⟩:=I8.n
   obtain⟨_,k1,_⟩:=I8.r
   obtain⟨_,k2,_⟩:=I8.p
   obtain⟨_,k3,_⟩:=I8.rm
   obtain⟨_,k4,_⟩:=I8.pm
   rcases h with rfl | rfl | rfl | rfl | rfl
   ·rw[hq0]at k0;cases k0
   ·rw[hq0]at k1;cases k1
   ·rw[hq0]at k2;cases k2
   ·rw[hq0]at k3;cases k3
   ·rw[hq0]at k4;cases k4
  have I9:=I8.same s9
  have s09:=s08.trans s9
  revert e9 I9 s09
  generalize upd H8 q0 (.lst (ms.map V.int))=H9
  intro e9 I9 s09
  refine⟨q0,rfl,.inl ⟨⟨_,SqL.of e9⟩,G0 (xs:=ms.map V.int) (λi σ H'=>(∃ vw,LVAt H' ⟨v,a0,a1,a2,a3,a4⟩ vw/\MM vw (n * w) (r * w) (c * w)/\SameBut (· ∈LV.L ⟨v,a0,a1,a2,a3,a4⟩) H9 H')/\∃ y,σ=[some (.ref s),some (.ref z),some (.ref nl),some (.ref l),some (.ref v),y]) ⟨⟨_,I9,⟨by simp,by simp,by simp⟩,SameBut.refl _⟩,_,rfl⟩ (λi σ H' _ ⟨⟨_,_,_,sb⟩,_⟩=>SqL.of (sb _ _ e9 nq0)) (λi x σ H' hx ⟨⟨vw,I',sz,sb⟩,y,eσ⟩=> ?_) (λσ H' ⟨⟨vw,I',sz,sb⟩,y,eσ⟩=> ?_)⟩⟩
  ·subst eσ
   obtain⟨cell,_,rfl⟩:=List.mem_map.mp (List.mem_of_getElem? hx)
   push_cast[↓uN]
   have p1:1<=n * w:=Nat.mul_pos n1 w1
   have p2:1<=r * w:=Nat.mul_pos r1 w1
   have p3:1<=c * w:=Nat.mul_pos c1 w1
   refine⟨⟨v,a0,a1,a2,a3,a4⟩,cell,nl,zs,vw,n * w,r * w,c * w,rfl,I',sz,p1,p2,p3,sb _ _ (s09 _ _ hnl) (λh=> ?_),hzl,hzs,λvw' H2 I2 sz2 sb2=> ?_⟩
   ·have:=fA nl h
    rw[hnl]at this;cases this
   ·exact⟨vw',I2,sz2,sb.trans sb2⟩
  ·subst eσ
   push_cast[↓uP]
   refine q ⟨v,a0,a1,a2,a3,a4⟩ vw H' (λb o e=>sb _ _ (s09 _ _ e) λh=> ?_) I' sz
   rw[fA b h]at e;cases e
theorem zI(h:MP K a vs H Q E):vs.length=3:=by
 obtain⟨_,_,_,_,_,_,_,_,_,rfl,_⟩:=h
 rfl
def D5(n:Nat)(ks:List Nat):List V:=AW ((List.range n).map λk=>ks.count k)
theorem cM{n k:Nat}{ks:List Nat}(hk:k<n):(D5 n ks).set k (.int ((ks.count k:Int)+1))=D5 n (ks++[k]):=by
 unfold D5 AW
 refine List.ext_getElem? λj=> ?_
 by_cases hj:j<n
 ·rw[List.getElem?_map,GJ hj,List.count_append]
  by_cases z:k=j
  ·subst z
   rw[List.getElem?_set_self (by simpa using hj)]
   simp
  ·rw[List.getElem?_set_ne z,List.getElem?_map,GJ hj]
   have:List.count j [k]=0:=by simp[z]
   rw[this]
   rfl
 ·rw[List.getElem?_eq_none (by simp;omega),List.getElem?_eq_none (by simp;omega)]
theorem cN{n k:Nat}{ks:List Nat}(hk:k<n):(D5 n ks)[k]? =some (.int (ks.count k:Nat)):=MT (GJ hk)
theorem cO(n:Nat)(ks:List Nat):(D5 n ks).length=n:=by unfold D5;rw[CZ,FB]
theorem zJ(k:Nat):(List.replicate k [V.int 0]).flatten=D5 k []:=by
 unfold D5 AW
 rw[List.map_map]
 induction k with
 | zero=>rfl
 | succ k ih =>
  rw[List.replicate_succ',List.flatten_append,ih,List.range_succ,List.map_append]
  rfl
theorem cP{p:Addr}{k:Nat}{Q:VK}(e:H p=some (.lst [V.int 0]))(hk:k<=1000)(q:newL (D5 k []) H Q):CC K (.ref p) (.int k) H Q:=by
 refine .inl ⟨p,k,_,rfl,rfl,e,by omega,by omega,small _ (by simp;omega),λl hl=> ?_⟩
 rw[Int.toNat_natCast,zJ]
 exact q l _ hl (AZ hl) AU
theorem zK(h:MQ K a vs H Q E):QZ K a (λ_=>E) (A8 Q) (A7 ["view","led","named","cell","p"] vs) H:=by
 obtain⟨A,vw,rfl,I,q⟩:=h
 obtain⟨v1,e1,P1⟩:=I.n
 obtain⟨v2,e2,P2⟩:=I.r
 obtain⟨v3,e3,P3⟩:=I.p
 have ok:=I.ok
 have bn:=ok.bn
 have br:=ok.br
 have bp:=ok.bp
 push_cast[QZ,↓qU]
 refine⟨by decide,λp1 hp1=> ?_⟩
 have s1:=AZ (o:=.lst [V.int 0]) hp1
 refine BN (SqL.of (s1 _ _ I.ob)) (n:=1) rfl rfl ⟨vw.rc.length,.inl ⟨_,SqL.of (s1 _ _ e2),P2.length.symm⟩,cP AU (by omega) λl1 H2 hl1 s2 f1=> ?_⟩
 have s02:=s1.trans s2
 push_cast[↓qV]
 refine⟨by decide,λp2 hp2=> ?_⟩
 have s3:=AZ (o:=.lst [V.int 0]) hp2
 refine BN (SqL.of (s3 _ _ (s02 _ _ I.ob))) (n:=2) rfl rfl ⟨vw.pc.length,.inl ⟨_,SqL.of (s3 _ _ (s02 _ _ e3)),P3.length.symm⟩,cP AU (by omega) λl2 H4 hl2 s4 f2=> ?_⟩
 have s04:=(s02.trans s3).trans s4
 have f1':=(s3.trans s4) _ _ f1
 have hl1H:H l1=none:=s1.free hl1
 have hl2H:H l2=none:=(s02.trans s3).free hl2
 have n12:l1≠l2:=BG (s3 _ _ f1) hl2
 have q1:=P1.length
 have q2:=P2.length
 push_cast[↓qY]
 refine BN (SqL.of (s04 _ _ I.ob)) (n:=0) rfl rfl ⟨A.a0,rfl,.inl ⟨⟨_,SqL.of (s04 _ _ e1)⟩,G0 (xs:=v1) (λi σ H'=>(Same H H'/\H' l1=some (.lst (D5 vw.rc.length (DD (vw.nm.take i))))/\H' l2=some (.lst (D5 vw.pc.length [])))/\∃ y,σ=[some (.ref A.v),some (.ref l1),some (.ref l2),y,none]) ⟨⟨s04,f1',f2⟩,_,rfl⟩ (λi σ H' _ ⟨⟨s,_⟩,_⟩=>SqL.of (s _ _ e1)) (λi v σ H' hx ⟨⟨s,g1,g2⟩,y,eσ⟩=> ?_) (λσ H' ⟨⟨s,g1,g2⟩,y,eσ⟩=> ?_)⟩⟩
 ·subst eσ
  obtain⟨c,ec,hr⟩:=EF P1 hx
  push_cast[↓qX]
  have el:DD (vw.nm.take (i+1))=DD (vw.nm.take i)++DD [c]:=by
   rw[DJ ec]
   unfold DD
   rw[List.filterMap_append]
  rw[el]
  cases c with
  | none =>
   refine BT (λz=>z hr) ?_
   rw[show DD [none]=[]from rfl,List.append_nil]
   exact⟨s,g1,g2⟩
  | some c =>
   obtain⟨p,rfl,hp⟩:=hr
   have hc:=(ok.n1 c (List.mem_of_getElem? ec)).1
   refine CW (by simp) ?_
   push_cast[↓qW]
   refine CU (s _ _ hp) (n:=1) rfl rfl (BN (SqL.of g1) (n:=c.2) rfl (cN hc) ?_)
   push_cast[]
   refine CU (s _ _ hp) (n:=1) rfl rfl ⟨l1,_,_,c.2,rfl,rfl,g1,N5 (by rw[cO];exact hc),?_⟩
   rw[cM hc]
   exact⟨λy o e=>by rw[AS (BG e hl1H)];exact s _ _ e,AU,by rw[AS n12.symm];exact g2⟩
 ·subst eσ
  rw[q1,List.take_length]at g1
  push_cast[↓rC]
  refine BN (SqL.of (s _ _ I.ob)) (n:=1) rfl rfl ⟨A.a1,rfl,.inl ⟨⟨_,SqL.of (s _ _ e2)⟩,G0 (xs:=v2) (λi σ H'=>(Same H H'/\H' l1=some (.lst (D5 vw.rc.length (DD vw.nm)))/\H' l2=some (.lst (D5 vw.pc.length (CV (vw.rc.take i)))))/\∃ y y',σ=[some (.ref A.v),some (.ref l1),some (.ref l2),y,y']) ⟨⟨s,g1,g2⟩,_,_,rfl⟩ (λi σ H' _ ⟨⟨s,_⟩,_⟩=>SqL.of (s _ _ e2)) (λi v σ H' hx ⟨⟨s,g1,g2⟩,y,y',eσ⟩=> ?_) (λσ H' ⟨⟨s,g1,g2⟩,y,y',eσ⟩=> ?_)⟩⟩
  ·subst eσ
   obtain⟨c,ec,hr⟩:=EF P2 hx
   push_cast[↓rB]
   have el:CV (vw.rc.take (i+1))=CV (vw.rc.take i)++FN c:=by
    rw[DJ ec]
    unfold CV
    rw[List.flatMap_append]
    simp
   rw[el]
   cases c with
   | none =>
    refine BT (λz=>z hr) ?_
    rw[show FN none=[]from rfl,List.append_nil]
    exact⟨s,g1,g2⟩
   | some c =>
    obtain⟨p,t,rfl,hp,ht⟩:=hr
    have hc:=ok.n2 c (List.mem_of_getElem? ec)
    refine CW (by simp) ?_
    push_cast[↓rA]
    refine CU (s _ _ hp) (n:=1) rfl rfl ⟨t,rfl,.inr ⟨⟨_,SqT.of (s _ _ ht)⟩,UV (xs:=AW c.2) (λj σ H2=>(Same H H2/\H2 l1=some (.lst (D5 vw.rc.length (DD vw.nm)))/\H2 l2=some (.lst (D5 vw.pc.length (CV (vw.rc.take i)++c.2.take j))))/\∃ y',σ=[some (.ref A.v),some (.ref l1),some (.ref l2),some (.ref p),y']) ⟨⟨s,g1,by rw[List.take_zero,List.append_nil];exact g2⟩,_,rfl⟩ (λj σ H2 _ ⟨⟨s,_⟩,_⟩=>SqT.of (s _ _ ht)) (λj v σ H2 hx ⟨⟨s2,k1,k2⟩,y',eσ⟩=> ?_) (λσ H2 ⟨⟨s2,k1,k2⟩,y',eσ⟩=> ?_)⟩⟩
    ·subst eσ
     unfold AW at hx
     rw[List.getElem?_map,Option.map_eq_some_iff]at hx
     obtain⟨k,hk',rfl⟩:=hx
     have hk:=hc.1 k (List.mem_of_getElem? hk')
     push_cast[↓qZ]
     refine BN (SqL.of k2) (n:=k) rfl (cN hk) ?_
     push_cast[]
     refine⟨l2,_,_,k,rfl,rfl,k2,N5 (by rw[cO];exact hk),?_⟩
     rw[cM hk,DJ hk',<-List.append_assoc]
     exact⟨λy o e=>by rw[AS (BG e hl2H)];exact s2 _ _ e,by rw[AS n12];exact k1,AU⟩
    ·subst eσ
     rw[CZ,List.take_length]at k2
     exact⟨s2,k1,k2,_,_,rfl⟩
  ·subst eσ
   rw[q2,List.take_length]at g2
   push_cast[↓rD]
   refine⟨by decide,λt ht=> ?_⟩
   have s9:=AZ (o:=.tup [V.ref l1,V.ref l2]) ht
   exact q t l1 l2 _ (s.trans s9) AU (s9 _ _ g1) (s9 _ _ g2)
theorem zL(h:MQ K a vs H Q E):vs.length=1:=by
 obtain⟨_,_,rfl,_⟩:=h
 rfl
theorem LVAt.ixn{A:LV}{vw:Vw}{Q:VK}{k:Nat}(I:LVAt H A vw)(hk:k<vw.nm.length)(q:∀ v,NmV H v (AT vw.nm k)->Q v H):AL K (.ref A.a0) (.int k) H Q:=by
 obtain⟨us,v,e,_,ev,hr⟩:=I.n.at hk
 exact BN (SqL.of e) (n:=k) rfl ev (q v hr)
theorem LVAt.ixr{A:LV}{vw:Vw}{Q:VK}{k:Nat}(I:LVAt H A vw)(hk:k<vw.rc.length)(q:∀ v,RcV H v (AT vw.rc k)->Q v H):AL K (.ref A.v) (.int 1) H λx H1=>AL K x (.int k) H1 Q:=by
 obtain⟨us,v,e,_,ev,hr⟩:=I.r.at hk
 exact BN (SqL.of I.ob) (n:=1) rfl rfl (BN (SqL.of e) (n:=k) rfl ev (q v hr))
theorem LVAt.ixp{A:LV}{vw:Vw}{Q:VK}{k:Nat}(I:LVAt H A vw)(hk:k<vw.pc.length)(q:∀ v,PcV H v (AT vw.pc k)->Q v H):AL K (.ref A.v) (.int 2) H λx H1=>AL K x (.int k) H1 Q:=by
 obtain⟨us,v,e,_,ev,hr⟩:=I.p.at hk
 exact BN (SqL.of I.ob) (n:=2) rfl rfl (BN (SqL.of e) (n:=k) rfl ev (q v hr))
theorem LVAt.ixrm{A:LV}{vw:Vw}{Q:VK}{k:Nat}(I:LVAt H A vw)(hk:k<vw.rc.length)(q:∀ v,MkV H v (AT vw.rm k)->Q v H):AL K (.ref A.v) (.int 3) H λx H1=>AL K x (.int k) H1 Q:=by
 obtain⟨us,v,e,_,ev,hr⟩:=I.rm.at (k:=k) (by rw[I.ok.l1];exact hk)
 exact BN (SqL.of I.ob) (n:=3) rfl rfl (BN (SqL.of e) (n:=k) rfl ev (q v hr))
theorem LVAt.ixpm{A:LV}{vw:Vw}{Q:VK}{k:Nat}(I:LVAt H A vw)(hk:k<vw.pc.length)(q:∀ v,MkV H v (AT vw.pm k)->Q v H):AL K (.ref A.v) (.int 4) H λx H1=>AL K x (.int k) H1 Q:=by
 obtain⟨us,v,e,_,ev,hr⟩:=I.pm.at (k:=k) (by rw[I.ok.l2];exact hk)
 exact BN (SqL.of I.ob) (n:=4) rfl rfl (BN (SqL.of e) (n:=k) rfl ev (q v hr))
theorem zM{α :Type}{l:List (Option α)}{k:Nat}{c: α}(h:AT l k=some c):some c∈l:=by
 unfold AT at h
 cases e:l[k]? with
 | none=>rw[e]at h;cases h
 | some y =>
  rw[e]at h
  have h:y=some c:=h
  exact h ▸ List.mem_of_getElem? e
def FC(H:Hp)(l:Addr)(f:List (List V))(H':Hp):Prop:=SameBut (· =l) H H'/\FindsL H' l f
theorem cQ{l t:Addr}{f1:List (List V)}{f:List V}{H':Hp}{Q:VK}(h:FC H l f1 H')(hn:f1.length<=1000)(ht:H' t=some (.tup f))(q:∀ H2,FC H l (f1++[f]) H2->Q .non H2):NM (.ref l) [.ref t] H' Q:=by
 obtain⟨s,ps,e1,P1⟩:=h
 refine⟨l,_,_,rfl,rfl,e1,Nat.lt_of_lt_of_le (show(ps.map V.ref).length<10000 by rw[List.length_map,P1.length];omega) (by decide),q _ ⟨λy o e ny=>by rw[AS ny];exact s _ _ e ny,ps++[t],by rw[AU,List.map_append];rfl,?_⟩⟩
 have k:∀ {y:Addr} {g:List V} {o:HO},H' y=some (.tup g)->upd H' l (.lst (ps.map V.ref++[V.ref t])) y=some (.tup g):=λe=>by rw[AS (DA e e1 (by intro z;cases z))];exact e
 exact Paired.snoc (Paired.mapP P1 λq g e=>by rw[AS (DA e e1 (by intro z;cases z))];exact e) (by rw[AS (DA ht e1 (by intro z;cases z))];exact ht)
def FQ(vw:Vw)(j:Nat):Str:=match AT vw.nm j with
 | some c=>c.1
 | none=>Str.ofString ""
theorem zN{vw:Vw}{k:Nat}{c:Str × Nat}(hk:k<vw.nm.length)(hc:AT vw.nm k=some c):JE (.str c.1) ((((List.range vw.nm.length).filter λk=>(AT vw.nm k).isSome).filter λj=>decide (j<k)).map λj=>V.str (FQ vw j))=C3 vw k:=by
 rw[Bool.eq_iff_iff]
 unfold C3 JE
 simp only[hc,List.any_eq_true]
 constructor
 ·rintro ⟨v,hv,he⟩
  obtain⟨j,hj,rfl⟩:=List.mem_map.mp hv
  obtain⟨hj1,hj2⟩:=List.mem_filter.mp hj
  obtain⟨_,hs⟩:=DK hj1
  obtain⟨d,hd⟩:=Option.isSome_iff_exists.mp hs
  refine⟨j,List.mem_range.mpr (by simpa using hj2),?_⟩
  simp only[hd]
  have:FQ vw j=d.1:=by unfold FQ;rw[hd]
  rw[this]at he
  simp[EQ]at he
  simp[he]
 ·rintro ⟨j,hj,he⟩
  have hj:=List.mem_range.mp hj
  cases hd:AT vw.nm j with
  | none=>simp only[hd]at he;cases he
  | some d =>
   simp only[hd]at he
   refine⟨V.str (FQ vw j),List.mem_map.mpr ⟨j,List.mem_filter.mpr ⟨List.mem_filter.mpr ⟨List.mem_range.mpr (by omega),by rw[hd];rfl⟩,by simpa using hj⟩,rfl⟩,?_⟩
   have:FQ vw j=d.1:=by unfold FQ;rw[hd]
   rw[this]
   have he:d.1=c.1:=by simpa using he
   simp[EQ,he]
theorem zO(h:MR K a vs H Q E):QX K a (λ_=>E) (A8 Q) (A7 ["view","led","named","names","numbers","found","k","records"] vs) H:=by
 obtain⟨A,vw,l1,l2,rfl,I,hl1,hl2,q⟩:=h
 have ok:=I.ok
 have bn:=ok.bn
 have br:=ok.br
 have bp:=ok.bp
 obtain⟨v1,e1,P1⟩:=I.n
 have q1:=P1.length
 push_cast[QX,↓qA]
 refine BN (SqL.of I.ob) (n:=0) rfl rfl ?_
 push_cast[↓qB]
 refine⟨vw.nm.length,.inl ⟨_,SqL.of e1,q1.symm⟩,by omega,by omega,PJ (λk=>(AT vw.nm k).isSome) (small _ (by omega)) (λk hk QB qb=> ?_) λnb hnb=> ?_⟩
 ·push_cast[A5]
  refine I.ixn hk λv hv=> ?_
  push_cast[]
  rw[b8 hv]
  simpa using qb
 have s1:=AZ (o:=.lst (((List.range vw.nm.length).filter λk=>(AT vw.nm k).isSome).map λ(i:Nat)=>V.int i)) hnb
 have en:upd H nb (.lst (((List.range vw.nm.length).filter λk=>(AT vw.nm k).isSome).map λ(i:Nat)=>V.int i)) nb=some (.lst (AW ((List.range vw.nm.length).filter λk=>(AT vw.nm k).isSome))):=AU
 revert s1 en
 generalize upd H nb (.lst (((List.range vw.nm.length).filter λk=>(AT vw.nm k).isSome).map λ(i:Nat)=>V.int i))=H1
 intro s1 en
 have I1:=I.same s1
 push_cast[↓qC]
 refine .inl ⟨⟨_,SqL.of en⟩,FA (DX vw) (λk=>[.str "lost",.int k]) en (EE bn) (λk hk H' s QB qb=> ?_) (λk hk hp H' Q' s q'=> ?_) ?_⟩
 ·obtain⟨hk,hs⟩:=DK hk
  obtain⟨c,hc⟩:=Option.isSome_iff_exists.mp hs
  have I':=I1.same s
  push_cast[A5]
  have hcr:=(ok.n1 c (zM hc)).1
  obtain⟨us,v,e,_,ev,hr⟩:=I'.r.at hcr
  refine BN (SqL.of I'.ob) (n:=1) rfl rfl (I'.ixn hk λv' hv'=> ?_)
  rw[hc]at hv'
  obtain⟨p,rfl,hp⟩:=hv'
  refine CU hp (n:=1) rfl rfl (BN (SqL.of e) (n:=c.2) rfl ev ?_)
  rw[IA hr]
  unfold DX at qb
  rw[hc]at qb
  exact qb
 ·push_cast[]
  exact⟨by decide,q'⟩
 rw[ED (r:=DX vw) λk _=>by
  unfold DX
  cases AT vw.nm k<;>simp]
 intro fd H2 hfd s2 F2
 have I2:=I.same (s1.trans s2)
 have en2:=s2 _ _ en
 have nf:nb≠fd:=BG en hfd
 push_cast[↓qF]
 let is:=(List.range vw.nm.length).filter λk=>(AT vw.nm k).isSome
 have hil:is.length<=1000:=EE bn
 let LO:=B5 vw.nm.length (DX vw) (λk=>[.str "lost",.int k])
 have hLO:LO.length<=100:=B1 bn
 have fdH:H fd=none:=s1.free hfd
 have keep:∀ {H':Hp} {f:List (List V)},FC H2 fd f H'->Same H H':=λW y o e=>W.1 _ _ ((s1.trans s2) _ _ e) λz=>by rw[z,fdH]at e;cases e
 refine .inl ⟨⟨_,SqL.of en2⟩,G0 (xs:=AW is) (λi σ H'=>FC H2 fd (LO++DE is (C3 vw) (λk=>[.str "twice",.int k]) i) H'/\∃ y,σ=[some (.ref A.v),some (.ref l1),some (.ref l2),some (.ref A.a0),some (.ref nb),some (.ref fd),y,none]) ⟨⟨SameBut.refl _,by rw[show DE is (C3 vw) (λk=>[.str "twice",.int k]) 0=[]from rfl,List.append_nil];exact F2⟩,_,rfl⟩ (λi σ H' _ ⟨W,_⟩=>SqL.of (W.1 _ _ en2 nf)) (λi v σ H' hx ⟨W,y,eσ⟩=> ?_) (λσ H' ⟨W,y,eσ⟩=> ?_)⟩
 ·subst eσ
  unfold AW at hx
  rw[List.getElem?_map,Option.map_eq_some_iff]at hx
  obtain⟨k,hk',rfl⟩:=hx
  obtain⟨hk,hsm⟩:=DK (List.mem_of_getElem? hk')
  obtain⟨c,hc⟩:=Option.isSome_iff_exists.mp hsm
  have I':=I.same (keep W)
  have nb':=W.1 _ _ en2 nf
  push_cast[↓qE]
  refine I'.ixn hk λv' hv'=> ?_
  rw[hc]at hv'
  obtain⟨p,rfl,hp⟩:=hv'
  refine CU hp (n:=0) rfl rfl (.inl ⟨⟨_,SqL.of nb'⟩,?_⟩)
  have en':(AW is).length=is.length:=CZ is
  refine NT (xs:=AW is) (λi=>match is[i]? with
   | some j=>decide (j<k)
   | none=>false) (small _ (by omega)) (λi ys H3=>H3=H'/\ys=((is.take i).filter λj=>decide (j<k)).map λj=>V.str (FQ vw j)) ⟨rfl,rfl⟩ (λi ys H3 _ ⟨e,e'⟩=>⟨e ▸ SqL.of nb',?_⟩) (λi v ys H3 hv ⟨e,e'⟩ QB qb=> ?_) (λi v ys H3 hv hp' ⟨e,e'⟩=> ?_) (λi v ys H3 hv hp' ⟨e,e'⟩=>⟨e,?_⟩) (λys H3 ⟨e,e'⟩ sl hsl=> ?_)
  ·rw[e',List.length_map]
   exact Nat.le_trans (List.length_filter_le ..) (by rw[List.length_take];omega)
  ·subst e
   unfold AW at hv
   rw[List.getElem?_map,Option.map_eq_some_iff]at hv
   obtain⟨j,hj,rfl⟩:=hv
   simp only[hj]at qb
   push_cast[A5]
   rw[wZ]
   exact qb
  ·subst e
   unfold AW at hv
   rw[List.getElem?_map,Option.map_eq_some_iff]at hv
   obtain⟨j,hj,rfl⟩:=hv
   simp only[hj]at hp'
   obtain⟨hjn,hjs⟩:=DK (List.mem_of_getElem? hj)
   obtain⟨d,hd⟩:=Option.isSome_iff_exists.mp hjs
   push_cast[A5]
   refine I'.ixn hjn λv' hv'=> ?_
   rw[hd]at hv'
   obtain⟨p',rfl,hp2⟩:=hv'
   refine CU hp2 (n:=0) rfl rfl ⟨rfl,?_⟩
   rw[e',DJ hj,List.filter_append,List.map_append]
   have:FQ vw j=d.1:=by unfold FQ;rw[hd]
   simp[hp',this]
  ·unfold AW at hv
   rw[List.getElem?_map,Option.map_eq_some_iff]at hv
   obtain⟨j,hj,rfl⟩:=hv
   simp only[hj]at hp'
   rw[e',DJ hj,List.filter_append,List.map_append]
   have hp':¬ j<k:=by simpa using hp'
   simp[hp']
  subst e
  rw[en',List.take_length]at e'
  have tw:=zN hk hc
  have e'':ys=((((List.range vw.nm.length).filter λk=>(AT vw.nm k).isSome).filter λj=>decide (j<k)).map λj=>V.str (FQ vw j)):=e'
  rw[<-e'']at tw
  refine⟨sl,ys,rfl,.inl (SqL.of AU),rfl,?_,?_⟩
  ·rw[List.all_eq_true,e'']
   intro v hv
   obtain⟨j,_,rfl⟩:=List.mem_map.mp hv
   rfl
  rw[if_neg Bool.false_ne_true,tw]
  refine⟨_,rfl,?_⟩
  have W3:FC H2 fd (LO++DE is (C3 vw) (λk=>[.str "twice",.int k]) i) (upd H3 sl (.lst ys)):=⟨W.1.trans (AZ hsl).sb,W.2.same (AZ hsl)⟩
  revert W3
  generalize upd H3 sl (.lst ys)=H4
  intro W3
  rw[RV hk']
  have sl1:=RW (p:=C3 vw) (f:=λk=>[.str "twice",.int k]) (i:=i) hil
  cases hz:C3 vw k with
  | true =>
   refine CW rfl ?_
   push_cast[↓qD]
   obtain⟨ps2,ep2,_⟩:=W3.2
   refine⟨.inl ⟨rfl,_,SqL.of ep2⟩,by decide,λt ht=> ?_⟩
   have W4:FC H2 fd (LO++DE is (C3 vw) (λk=>[.str "twice",.int k]) i) (upd H4 t (.tup [V.str (Str.ofString "twice"),V.int ↑k])):=⟨W3.1.trans (AZ ht).sb,W3.2.same (AZ ht)⟩
   have sl2:(DE is (C3 vw) (λk=>[.str "twice",.int k]) i).length<=100:=by
    unfold DE
    rw[List.length_map]
    refine Nat.le_trans (List.length_filter_le ..) ?_
    rw[List.length_take]
    have:is.length<=vw.nm.length:=Nat.le_trans (List.length_filter_le ..) (by rw[List.length_range];omega)
    omega
   refine cQ W4 (by rw[List.length_append];omega) AU λH5 W5=> ?_
   rw[<-List.append_assoc]
   exact W5
  | false =>
   refine BT Bool.false_ne_true ?_
   exact W3
 ·subst eσ
  have F3:=W.2
  rw[CZ]at F3
  have g1:DE is (C3 vw) (λk=>[.str "twice",.int k]) is.length=B5 vw.nm.length (C3 vw) (λk=>[.str "twice",.int k]):=by
   unfold DE
   rw[List.take_length]
   exact ED λk _=>by
    unfold C3
    cases AT vw.nm k<;>simp
  rw[g1]at F3
  have F3:FindsL H' fd (JM vw):=F3
  have s3:=keep W
  have k1:=s3 _ _ hl1
  have k2:=s3 _ _ hl2
  have I3:=I.same s3
  have fn:=IB ok
  have nl2:(AW ((List.range vw.pc.length).map (named vw))).length=vw.pc.length:=by rw[CZ,FB]
  have nl1:(AW ((List.range vw.rc.length).map (led vw))).length=vw.rc.length:=by rw[CZ,FB]
  clear W
  push_cast[↓qG]
  refine⟨vw.pc.length,.inl ⟨_,SqL.of k2,nl2.symm⟩,by omega,by omega,MU (λp=>decide (1<named vw p)) (λp=>[.str "shared",.int p]) (by omega) (λk hk H4 s QB qb=> ?_) (λk hk hp H4 Q' s q'=> ?_) λa4 H4 h4 s4 F4=> ?_⟩
  ·push_cast[A5]
   refine D4 (s _ _ k2) hk ?_
   push_cast[]
   rw[cA]
   exact qb
  ·push_cast[]
   exact⟨by decide,q'⟩
  have n4:=B1 (p:=λp=>decide (1<named vw p)) (f:=λp=>[.str "shared",.int p]) bp
  refine DM (F3.same s4) F4 (by omega) λa5 H5 h5 s5 F5=> ?_
  have s35:=s4.trans s5
  push_cast[↓qH]
  refine⟨vw.pc.length,.inl ⟨_,SqL.of (s35 _ _ k2),nl2.symm⟩,by omega,by omega,MU (λp=>decide (0<named vw p) && (AT vw.pc p).isNone) (λp=>[.str "empty",.int p]) (by omega) (λk hk H4 s QB qb=> ?_) (λk hk hp H4 Q' s q'=> ?_) λa6 H6 h6 s6 F6=> ?_⟩
  ·have I':=I3.same (s35.trans s)
   push_cast[A5]
   refine D4 ((s35.trans s) _ _ k2) hk ?_
   push_cast[]
   by_cases h0:0<named vw k
   ·refine CW (by omega) (I'.ixp hk λv hv=> ?_)
    push_cast[]
    rw[b9 hv]
    rw[decide_eq_true h0,Bool.true_and]at qb
    exact qb
   ·refine BT (by omega) ?_
    rw[decide_eq_false h0,Bool.false_and]at qb
    exact qb
  ·push_cast[]
   exact⟨by decide,q'⟩
  have n6:=B1 (p:=λp=>decide (0<named vw p) && (AT vw.pc p).isNone) (f:=λp=>[.str "empty",.int p]) bp
  refine DM (F5.same s6) F6 (by rw[List.length_append];omega) λa7 H7 h7 s7 F7=> ?_
  have s37:=(s35.trans s6).trans s7
  push_cast[↓qI]
  refine⟨vw.rc.length,.inl ⟨_,SqL.of (s37 _ _ k1),nl1.symm⟩,by omega,by omega,PJ (λk=>(AT vw.rc k).isSome) (small _ (by omega)) (λk hk QB qb=> ?_) λrl hrl=> ?_⟩
  ·push_cast[A5]
   refine(I3.same s37).ixr hk λv hv=> ?_
   push_cast[]
   rw[IA hv]
   simpa using qb
  have s8:=AZ (o:=.lst (((List.range vw.rc.length).filter λk=>(AT vw.rc k).isSome).map λ(i:Nat)=>V.int i)) hrl
  have er:upd H7 rl (.lst (((List.range vw.rc.length).filter λk=>(AT vw.rc k).isSome).map λ(i:Nat)=>V.int i)) rl=some (.lst (AW ((List.range vw.rc.length).filter λk=>(AT vw.rc k).isSome))):=AU
  have F8:=F7.same s8
  revert s8 er F8
  generalize upd H7 rl (.lst (((List.range vw.rc.length).filter λk=>(AT vw.rc k).isSome).map λ(i:Nat)=>V.int i))=H8
  intro s8 er F8
  have s38:=s37.trans s8
  push_cast[↓qJ]
  refine .inl ⟨⟨_,SqL.of er⟩,FA (EW vw) (λr=>[.str "few",.int r]) er (EE br) (λk hk H4 s QB qb=> ?_) (λk hk hp H4 Q' s q'=> ?_) ?_⟩
  ·obtain⟨hk,hs⟩:=DK hk
   obtain⟨c,hc⟩:=Option.isSome_iff_exists.mp hs
   have s':=s38.trans s
   push_cast[A5]
   refine(I3.same s').ixr hk λv hv=> ?_
   rw[hc]at hv
   obtain⟨p,t,rfl,hp,ht⟩:=hv
   refine CU hp (n:=0) rfl rfl (D4 (s' _ _ k1) hk ?_)
   push_cast[]
   unfold EW at qb
   rw[hc]at qb
   exact qb
  ·push_cast[]
   exact⟨by decide,q'⟩
  rw[ED (r:=EW vw) λk _=>by
   unfold EW
   cases AT vw.rc k<;>simp]
  intro a9 H9 h9 s9 F9
  have n9:=B1 (p:=EW vw) (f:=λr=>[.str "few",.int r]) br
  refine DM (F8.same s9) F9 (by simp only[List.length_append];omega) λb1 H10 _ s10 F10=> ?_
  have s310:=(s38.trans s9).trans s10
  push_cast[↓qK]
  refine⟨vw.rc.length,.inl ⟨_,SqL.of (s310 _ _ k1),nl1.symm⟩,by omega,by omega,MU (λr=>decide (0<led vw r) && !decide (AT vw.rm r=some 1)) (λr=>[.str "free",.str "record",.int r]) (by omega) (λk hk H4 s QB qb=> ?_) (λk hk hp H4 Q' s q'=> ?_) λb2 H11 _ s11 F11=> ?_⟩
  ·have I':=I3.same (s310.trans s)
   push_cast[A5]
   refine D4 ((s310.trans s) _ _ k1) hk ?_
   push_cast[]
   by_cases h0:0<led vw k
   ·refine CW (by omega) (I'.ixrm hk λv hv=> ?_)
    rw[decide_eq_true h0,Bool.true_and]at qb
    exact N3 hv ⟨_,rfl,qb⟩
   ·refine BT (by omega) ?_
    rw[decide_eq_false h0,Bool.false_and]at qb
    exact qb
  ·push_cast[]
   exact⟨by decide,q'⟩
  have n11:=B1 (p:=λr=>decide (0<led vw r) && !decide (AT vw.rm r=some 1)) (f:=λr=>[.str "free",.str "record",.int r]) br
  refine DM (F10.same s11) F11 (by simp only[List.length_append];omega) λb3 H12 _ s12 F12=> ?_
  have s312:=(s310.trans s11).trans s12
  push_cast[↓qL]
  refine⟨vw.pc.length,.inl ⟨_,SqL.of (s312 _ _ k2),nl2.symm⟩,by omega,by omega,MU (λp=>decide (0<named vw p) && !decide (AT vw.pm p=some 1)) (λp=>[.str "free",.str "piece",.int p]) (by omega) (λk hk H4 s QB qb=> ?_) (λk hk hp H4 Q' s q'=> ?_) λb4 H13 _ s13 F13=> ?_⟩
  ·have I':=I3.same (s312.trans s)
   push_cast[A5]
   refine D4 ((s312.trans s) _ _ k2) hk ?_
   push_cast[]
   by_cases h0:0<named vw k
   ·refine CW (by omega) (I'.ixpm hk λv hv=> ?_)
    rw[decide_eq_true h0,Bool.true_and]at qb
    exact N3 hv ⟨_,rfl,qb⟩
   ·refine BT (by omega) ?_
    rw[decide_eq_false h0,Bool.false_and]at qb
    exact qb
  ·push_cast[]
   exact⟨by decide,q'⟩
  have n13:=B1 (p:=λp=>decide (0<named vw p) && !decide (AT vw.pm p=some 1)) (f:=λp=>[.str "free",.str "piece",.int p]) bp
  refine DM (F12.same s13) F13 (by simp only[List.length_append];omega) λb5 H14 h14 s14 F14=> ?_
  have s314:=(s312.trans s13).trans s14
  refine q b5 H14 (s3.free ((s312.trans s13).free h14)) (s3.trans s314) ?_
  unfold faults JN JO
  simp only[List.append_assoc]at F14 ⊢
  exact F14
theorem zP(h:MR K a vs H Q E):vs.length=3:=by
 obtain⟨_,_,_,_,rfl,_⟩:=h
 rfl
theorem zQ(l:List Nat):AW l=(l.map λ(k:Nat)=>(k:Int)).map V.int:=by
 unfold AW
 rw[List.map_map]
 rfl
theorem zR{p e0:Addr}{l:List Nat}(h1:H p=some (.lst (AW l)))(h2:H e0=some (.lst []))(q:Q (.bl (decide (l=[]))) H):BO K (.ref p) (.ref e0) H Q:=by
 refine U6 (n:=1) (by decide) (SqL.of h1) (by rw[zQ];exact U5 _) (SqL.of h2) ?_
 have:decide (AW l=[])=decide (l=[]):=by
  unfold AW
  rw[decide_eq_decide,List.map_eq_nil_iff]
 rw[this]
 exact q
theorem zS{tt:TT}{cap:List Nat}{σ:St}{b:Addr}{is:List Nat}(p:Nat->Bool)(hb:H b=some (.lst (AW is)))(hn:is.length<=1000)
  (ht:∀ k∈is,∀ QB:Bool->Hp->Prop,QB (p k) H->tt (some (.int (k:Int))::A5 cap σ) H QB) (hd:newL (AW (is.filter p)) H Q):C2 (EL K b) (AJ 0) tt (AA 0) 1 cap σ H Q:=by
 have at':∀ {i:Nat} {x:V},(AW is)[i]? =some x->∃ k,is[i]? =some k/\x=.int k:=λe=>by
  unfold AW at e
  rw[List.getElem?_map,Option.map_eq_some_iff]at e
  obtain⟨k,h1,h2⟩:=e
  exact⟨k,h1,h2.symm⟩
 refine NT (xs:=AW is) (λi=>match is[i]? with
  | some k=>p k
  | none=>false) (small _ (by rw[CZ];omega)) (λi ys H'=>H'=H/\ys=AW ((is.take i).filter p)) ⟨rfl,rfl⟩ (λi ys H' _ ⟨e,e'⟩=>⟨e ▸ SqL.of hb,?_⟩) (λi x ys H' hx ⟨e,e'⟩ QB qb=> ?_) (λi x ys H' hx hp ⟨e,e'⟩=> ?_) (λi x ys H' hx hp ⟨e,e'⟩=>⟨e,?_⟩) (λys H' ⟨e,e'⟩ q hq=> ?_)
 ·rw[e',CZ]
  exact Nat.le_trans (List.length_filter_le ..) (by rw[List.length_take];omega)
 ·subst e
  obtain⟨k,ek,rfl⟩:=at' hx
  simp only[ek]at qb
  exact ht k (List.mem_of_getElem? ek) QB qb
 ·subst e
  obtain⟨k,ek,rfl⟩:=at' hx
  simp only[ek]at hp
  rw[PF]
  refine⟨rfl,?_⟩
  rw[e',DJ ek,List.filter_append]
  unfold AW
  rw[List.map_append]
  simp[hp]
 ·obtain⟨k,ek,rfl⟩:=at' hx
  simp only[ek]at hp
  rw[e',DJ ek,List.filter_append]
  simp[hp]
 ·subst e
  rw[CZ,List.take_length]at e'
  subst e'
  exact hd q _ hq (AZ hq) AU
theorem zT{t:Addr}{ps:List Nat}{p:Nat}(ht:H t=some (.tup (AW ps)))(q:Q (.bl (decide (p∈ps))) H):NS K (.int p) (.ref t) H Q:=by
 refine⟨t,_,rfl,.inr (SqT.of ht),rfl,?_,?_⟩
 ·rw[List.all_eq_true]
  intro v hv
  obtain⟨i,_,rfl⟩:=List.mem_map.mp hv
  rfl
 ·rw[if_neg Bool.false_ne_true]
  have:JE (.int p) (AW ps)=decide (p∈ps):=by
   rw[Bool.eq_iff_iff]
   unfold JE AW
   rw[List.any_eq_true,decide_eq_true_eq]
   constructor
   ·rintro ⟨v,hv,he⟩
    obtain⟨k,hk,rfl⟩:=List.mem_map.mp hv
    simp[EQ]at he
    have he:k=p:=by omega
    exact he ▸ hk
   ·intro h
    exact⟨_,List.mem_map.mpr ⟨p,h,rfl⟩,by simp[EQ]⟩
  rw[this]
  exact q
def M0(vw:Vw)(p r:Nat):Bool:=decide (0<led vw r) && match AT vw.rc r with
 | none=>false
 | some c=>decide (p∈c.2)
theorem cR{vw:Vw}{p:Nat}:((((List.range vw.rc.length).filter λr=>(AT vw.rc r).isSome).filter (M0 vw p))=[])↔GI vw p=0:=by
 unfold GI
 rw[List.count_eq_zero,List.filter_eq_nil_iff]
 unfold CV GH
 constructor
 ·intro h hm
  obtain⟨c,hc,hp⟩:=List.mem_flatMap.mp hm
  obtain⟨r,hr,rfl⟩:=List.mem_map.mp hc
  obtain⟨hr1,hr2⟩:=DK hr
  cases e:AT vw.rc r with
  | none=>rw[e]at hp;cases hp
  | some c =>
   rw[e]at hp
   refine h r (List.mem_filter.mpr ⟨List.mem_range.mpr hr1,by rw[e];rfl⟩) ?_
   unfold M0
   rw[e,hr2]
   have hp:p∈c.2:=hp
   simp[hp]
 ·intro h r hr hb
  obtain⟨hr1,hr2⟩:=DK hr
  obtain⟨c,e⟩:=Option.isSome_iff_exists.mp hr2
  unfold M0 at hb
  rw[e,Bool.and_eq_true]at hb
  refine h (List.mem_flatMap.mpr ⟨_,List.mem_map.mpr ⟨r,List.mem_filter.mpr ⟨List.mem_range.mpr hr1,hb.1⟩,rfl⟩,?_⟩)
  rw[e]
  show p∈c.2
  simpa using hb.2
theorem zU(h:MS K a vs H Q E):QY K a (λ_=>E) (A8 Q) (A7 ["view","led","records","found","p","holders"] vs) H:=by
 obtain⟨A,vw,l1,rfl,I,hl1,q⟩:=h
 have ok:=I.ok
 have bn:=ok.bn
 have br:=ok.br
 have bp:=ok.bp
 have nl1:(AW ((List.range vw.rc.length).map (led vw))).length=vw.rc.length:=by rw[CZ,FB]
 push_cast[QY,↓qM]
 refine⟨vw.rc.length,.inl ⟨_,SqL.of hl1,nl1.symm⟩,by omega,by omega,PJ (λk=>(AT vw.rc k).isSome) (small _ (by omega)) (λk hk QB qb=> ?_) λrl hrl=> ?_⟩
 ·push_cast[A5]
  refine I.ixr hk λv hv=> ?_
  push_cast[]
  rw[IA hv]
  simpa using qb
 have s1:=AZ (o:=.lst (((List.range vw.rc.length).filter λk=>(AT vw.rc k).isSome).map λ(i:Nat)=>V.int i)) hrl
 have er:upd H rl (.lst (((List.range vw.rc.length).filter λk=>(AT vw.rc k).isSome).map λ(i:Nat)=>V.int i)) rl=some (.lst (AW ((List.range vw.rc.length).filter λk=>(AT vw.rc k).isSome))):=AU
 revert s1 er
 generalize upd H rl (.lst (((List.range vw.rc.length).filter λk=>(AT vw.rc k).isSome).map λ(i:Nat)=>V.int i))=H1
 intro s1 er
 push_cast[↓qN]
 refine .inl ⟨⟨_,SqL.of er⟩,FA (EB vw) (λr=>[.str "many",.int r,.int (led vw r)]) er (EE br) (λk hk H4 s QB qb=> ?_) (λk hk hp H4 Q' s q'=> ?_) ?_⟩
 ·obtain⟨hk,hs⟩:=DK hk
  obtain⟨c,hc⟩:=Option.isSome_iff_exists.mp hs
  have s':=s1.trans s
  unfold EB at qb
  simp only[hc]at qb
  push_cast[A5]
  refine D4 (s' _ _ hl1) hk ?_
  push_cast[]
  by_cases h0:0<led vw k
  ·refine CW (by omega) ((I.same s').ixr hk λv hv=> ?_)
   rw[hc]at hv
   obtain⟨p,t,rfl,hp,ht⟩:=hv
   refine CU hp (n:=0) rfl rfl (D4 (s' _ _ hl1) hk ?_)
   push_cast[]
   rw[decide_eq_true h0,Bool.true_and]at qb
   exact qb
  ·refine BT (by omega) ?_
   rw[decide_eq_false h0,Bool.false_and]at qb
   exact qb
 ·obtain⟨hk,hs⟩:=DK hk
  push_cast[A5]
  refine D4 ((s1.trans s) _ _ hl1) hk ?_
  exact⟨by decide,q'⟩
 rw[ED (r:=EB vw) λk _=>by
  unfold EB
  cases AT vw.rc k<;>simp]
 intro f2 H2 h2 s2 F2
 have n2:=B1 (p:=EB vw) (f:=λr=>[.str "many",.int r,.int (led vw r)]) br
 have s02:=s1.trans s2
 push_cast[↓qO]
 refine .inl ⟨⟨_,SqL.of (s2 _ _ er)⟩,FA (λr=>decide (led vw r=0)) (λr=>[.str "left",.str "record",.int r]) (s2 _ _ er) (EE br) (λk hk H4 s QB qb=> ?_) (λk hk hp H4 Q' s q'=> ?_) ?_⟩
 ·obtain⟨hk,hs⟩:=DK hk
  push_cast[A5]
  refine D4 ((s02.trans s) _ _ hl1) hk ?_
  push_cast[]
  rw[cB]
  exact qb
 ·push_cast[]
  exact⟨by decide,q'⟩
 rw[ED λk _=>rfl]
 intro f3 H3 h3 s3 F3
 have n3:=B1 (p:=λr=>(AT vw.rc r).isSome && decide (led vw r=0)) (f:=λr=>[.str "left",.str "record",.int r]) br
 refine DM (F2.same s3) F3 (by omega) λfd H4 hfd s4 F4=> ?_
 have s04:=(s02.trans s3).trans s4
 have er4:=((s2.trans s3).trans s4) _ _ er
 have fdH:H fd=none:=(s02.trans s3).free hfd
 have nrf:rl≠fd:=BG ((s2.trans s3) _ _ er) hfd
 have F4:FindsL H4 fd (E8 vw):=F4
 have I4:=I.same s04
 obtain⟨v5,e5,P5⟩:=I4.pm
 have q5:=P5.length
 have l2:=ok.l2
 obtain⟨_,_,_,n4,_,_⟩:=IB ok
 push_cast[↓qS]
 refine BN (SqL.of I4.ob) (n:=4) rfl rfl ⟨vw.pc.length,.inl ⟨_,SqL.of e5,by omega⟩,by omega,by omega,?_⟩
 let LP:=λi=>B5 i (λp=>decide (AT vw.pm p=some 1) && decide (GI vw p=0)) (λp=>[.str "left",.str "piece",.int p])
 have keep:∀ {H':Hp} {f:List (List V)},FC H4 fd f H'->Same H H':=λW y o e=>W.1 _ _ (s04 _ _ e) λz=>by rw[z,fdH]at e;cases e
 refine LM (λi σ H'=>FC H4 fd (E8 vw++LP i) H'/\∃ y y',σ=[some (.ref A.v),some (.ref l1),some (.ref rl),some (.ref fd),y,y']) ⟨⟨SameBut.refl _,by rw[show LP 0=[]from rfl,List.append_nil];exact F4⟩,_,_,rfl⟩ (λi σ H' hi ⟨W,y,y',eσ⟩=> ?_) (λσ H' ⟨W,y,y',eσ⟩=> ?_)
 ·subst eσ
  have s':=keep W
  have I':=I.same s'
  have er':=W.1 _ _ er4 nrf
  push_cast[↓qP,Int.zero_add]
  refine .inl ⟨⟨_,SqL.of er'⟩,zS (M0 vw i) er' (EE br) (λk hk QB qb=> ?_) λhd H5 hhd s5 ehd=> ?_⟩
  ·obtain⟨hk,hs⟩:=DK hk
   obtain⟨c,hc⟩:=Option.isSome_iff_exists.mp hs
   unfold M0 at qb
   simp only[hc]at qb
   push_cast[A5]
   refine D4 (s' _ _ hl1) hk ?_
   push_cast[]
   by_cases h0:0<led vw k
   ·refine CW (by omega) (I'.ixr hk λv hv=> ?_)
    rw[hc]at hv
    obtain⟨p,t,rfl,hp,ht⟩:=hv
    rw[decide_eq_true h0,Bool.true_and]at qb
    exact CU hp (n:=1) rfl rfl (zT ht ⟨_,rfl,qb⟩)
   ·refine BT (by omega) ?_
    rw[decide_eq_false h0,Bool.false_and]at qb
    exact qb
  have W5:FC H4 fd (E8 vw++LP i) H5:=⟨W.1.trans s5.sb,W.2.same s5⟩
  have I5:=I.same (keep W5)
  have hLP:LP (i+1)=if(decide (AT vw.pm i=some 1) && decide (GI vw i=0))=true then LP i++[[.str "left",.str "piece",.int i]]else LP i:=RU
  have nLP:(LP i).length<=100:=B1 (by omega)
  push_cast[↓qR]
  refine I5.ixpm hi λv hv=>N2 hv ?_
  refine⟨_,rfl,?_⟩
  rw[hLP]
  by_cases h1:AT vw.pm i=some 1
  ·refine CW (by simpa using h1) ⟨by decide,λe0 he0=> ?_⟩
   have s6:=AZ (o:=.lst []) he0
   refine zR (s6 _ _ ehd) AU ⟨_,rfl,?_⟩
   have W6:FC H4 fd (E8 vw++LP i) (upd H5 e0 (.lst [])):=⟨W5.1.trans s6.sb,W5.2.same s6⟩
   revert W6
   generalize upd H5 e0 (.lst [])=H6
   intro W6
   by_cases h2:GI vw i=0
   ·refine CW (by simpa using cR.mpr h2) ?_
    push_cast[↓qQ]
    obtain⟨ps2,ep2,_⟩:=W6.2
    refine⟨.inl ⟨rfl,_,SqL.of ep2⟩,by decide,λt ht=> ?_⟩
    have W7:FC H4 fd (E8 vw++LP i) (upd H6 t (.tup [V.str (Str.ofString "left"),V.str (Str.ofString "piece"),V.int ↑i])):=⟨W6.1.trans (AZ ht).sb,W6.2.same (AZ ht)⟩
    refine cQ W7 (by rw[List.length_append];omega) AU λH8 W8=> ?_
    rw[decide_eq_true h1,decide_eq_true h2,Bool.and_true,if_pos rfl,<-List.append_assoc]
    exact W8
   ·refine BT (by simpa using λz=>h2 (cR.mp z)) ?_
    rw[decide_eq_false h2,Bool.and_false,if_neg Bool.false_ne_true]
    exact W6
  ·refine BT (by simpa using h1) ?_
   rw[decide_eq_false h1,Bool.false_and,if_neg Bool.false_ne_true]
   exact W5
 ·subst eσ
  have s':=keep W
  have F5:FindsL H' fd (E8 vw++JP vw):=W.2
  obtain⟨_,_,_,m4,m5,m6⟩:=IB ok
  push_cast[↓qT]
  refine⟨vw.rc.length,.inl ⟨_,SqL.of (s' _ _ hl1),nl1.symm⟩,by omega,by omega,MU (λr=>decide (AT vw.rm r=some 1) && (AT vw.rc r).isNone) (λr=>[.str "marked",.int r]) (by omega) (λk hk H5 s QB qb=> ?_) (λk hk hp H5 Q' s q'=> ?_) λa6 H6 h6 s6 F6=> ?_⟩
  ·have I':=I.same (s'.trans s)
   push_cast[A5]
   refine I'.ixrm hk λv hv=>N2 hv ⟨_,rfl,?_⟩
   by_cases h1:AT vw.rm k=some 1
   ·refine CW (by simpa using h1) (I'.ixr hk λv2 hv2=> ?_)
    push_cast[]
    rw[IA hv2]
    rw[decide_eq_true h1,Bool.true_and]at qb
    exact qb
   ·refine BT (by simpa using h1) ?_
    rw[decide_eq_false h1,Bool.false_and]at qb
    exact qb
  ·push_cast[]
   exact⟨by decide,q'⟩
  have F6:FindsL H6 a6 (JQ vw):=F6
  exact DM (F5.same s6) F6 (by rw[List.length_append];omega) λl H7 hl s7 F7=>q l H7 (s'.free (s6.free hl)) ((s'.trans s6).trans s7) F7
theorem zV(h:MS K a vs H Q E):vs.length=2:=by
 obtain⟨_,_,_,rfl,_⟩:=h
 rfl
theorem cS{f:List V}(h:∀ v∈f,(∃ i,v=.int i)\/∃ s,v=.str s/\PyData.strOk s=true):∃ ds,Paired (Dat K H 1) f ds:=by
 induction f with
 | nil=>exact⟨[],.nil⟩
 | cons x r ih =>
  obtain⟨ds,hd⟩:=ih λv hv=>h v (List.mem_cons_of_mem _ hv)
  rcases h x List.mem_cons_self with⟨i,rfl⟩ | ⟨s,rfl,hs⟩
  ·exact⟨_,.cons (Dat.int i) hd⟩
  ·exact⟨_,.cons (⟨.str s,hs,Nat.zero_le _⟩:Dat K H 1 (.str s) (.str s)) hd⟩
theorem zW{l1 l2:Addr}{fs:List (List V)}(h1:FindsL H l1 fs)(h2:FindsL H l2 fs)(ok:FOk fs):∃ d,Dat K H 3 (.ref l1) d/\Dat K H 3 (.ref l2) d:=by
 have:∃ ds:List PyData,∀ ps:List Addr,Paired (λp f=>H p=some (.tup f)) ps fs->Paired (Dat K H 2) (ps.map V.ref) ds:=by
  clear h1 h2
  induction fs with
  | nil=>exact⟨[],λps P=>by cases P;exact .nil⟩
  | cons f r ih =>
   obtain⟨ds,hd⟩:=ih λg hg=>ok g (List.mem_cons_of_mem _ hg)
   obtain⟨d,hf⟩:=cS (K:=K) (H:=H) (ok f List.mem_cons_self).2.2
   refine⟨.tuple d::ds,λps P=> ?_⟩
   cases P with
   | cons e P=>exact .cons (Dat.tup (n:=1) (SqT.of e) hf) (hd _ P)
 obtain⟨ds,hd⟩:=this
 obtain⟨p1,e1,P1⟩:=h1
 obtain⟨p2,e2,P2⟩:=h2
 exact⟨.list ds,Dat.lst (n:=2) (SqL.of e1) (hd _ P1),Dat.lst (n:=2) (SqL.of e2) (hd _ P2)⟩
theorem zX(h:JT K a vs H Q E):Q0 K a (λ_=>E) (A8 Q) (A7 ["found","due","find","part"] vs) H:=by
 obtain⟨f,d,fs,rfl,F1,F2,ok,hn,q⟩:=h
 obtain⟨dd,D1,D2⟩:=zW (K:=K) F1 F2 ok
 obtain⟨ps,e1,P1⟩:=F1
 push_cast[Q0,↓rF]
 refine JH (.inl (.lst e1)) (.ty _) (b:=true) rfl ?_
 push_cast[]
 refine mP (n:=3) (by decide) D1 D2 ?_
 push_cast[↓rK]
 refine .inl ⟨⟨_,SqL.of e1⟩,G0 (xs:=ps.map V.ref) (λi σ H'=>Same H H'/\∃ y y',σ=[some (.ref f),some (.ref d),y,y']) ⟨Same.refl _,_,_,rfl⟩ (λi σ H' _ ⟨s,_⟩=>SqL.of (s _ _ e1)) (λi v σ H' hx ⟨s,y,y',eσ⟩=> ?_) (λσ H' ⟨s,y,y',eσ⟩=> ?_)⟩
 ·subst eσ
  rw[List.getElem?_map,Option.map_eq_some_iff]at hx
  obtain⟨p,hp,rfl⟩:=hx
  obtain⟨g,eg,et⟩:=EF P1 hp
  obtain⟨k1,k2,k3⟩:=ok g (List.mem_of_getElem? eg)
  push_cast[↓rJ]
  refine .inr ⟨p,g,rfl,SqT.of (s _ _ et),?_,λt ht=>⟨t,rfl,.inr ⟨⟨_,SqT.of AU⟩,?_⟩⟩⟩
  ·rintro ⟨h1,_⟩
   have:HT.sIx g.length 0 (some ((1:Nat):Int))=0:=h1
   rw[HT.sIx_nat]at this
   omega
  have st:=AZ (o:=.tup (DI g (some 1) none)) ht
  have et2:upd H' t (.tup (DI g (some 1) none)) t=some (.tup (DI g (some 1) none)):=AU
  revert st et2
  generalize upd H' t (.tup (DI g (some 1) none))=H2
  intro st et2
  refine UV (xs:=DI g (some 1) none) (λj σ H3=>H3=H2/\∃ y',σ=[some (.ref f),some (.ref d),some (.ref p),y']) ⟨rfl,_,rfl⟩ (λj σ H3 _ ⟨e,_⟩=>e ▸ SqT.of et2) (λj v σ H3 hx ⟨e,y',eσ⟩=> ?_) (λσ H3 ⟨e,y',eσ⟩=> ?_)
  ·subst e;subst eσ
   have hv:v∈g:=List.mem_of_mem_drop (List.mem_of_mem_take (List.mem_of_getElem? hx))
   push_cast[↓rH]
   rcases k3 v hv with⟨i,rfl⟩ | ⟨z,rfl,_⟩
   ·refine JH (.inl (.int i)) (.ty _) (b:=false) rfl ?_
    push_cast[]
    refine JH (.inl (.int i)) (.ty _) (b:=true) rfl ?_
    push_cast[]
    refine JH (.inl (.int i)) (.ty _) (b:=false) rfl ?_
    push_cast[]
   ·refine JH (.inl (.str z)) (.ty _) (b:=true) rfl ?_
    push_cast[]
  ·subst e;subst eσ
   exact⟨s.trans st,_,_,rfl⟩
 ·subst eσ
  push_cast[↓rM]
  exact q H' s
theorem zY(h:JT K a vs H Q E):vs.length=2:=by
 obtain⟨_,_,_,rfl,_⟩:=h
 rfl
theorem FOk.app{f g:List (List V)}(h1:FOk f)(h2:FOk g):FOk (f++g):=λx hx=>(List.mem_append.mp hx).elim (h1 x) (h2 x)
theorem FD{n:Nat}{p:Nat->Bool}{f:Nat->List V}(h:∀ k,(f k).length<=10/\1<=(f k).length/\∀ v∈f k,(∃ i,v=.int i)\/∃ s,v=.str s/\PyData.strOk s=true):FOk (B5 n p f):=λx hx=>by
 unfold B5 at hx
 obtain⟨k,_,rfl⟩:=List.mem_map.mp hx
 exact h k
theorem JZ{s:Str}{i:Int}(h:PyData.strOk s=true):([V.str s,.int i]:List V).length<=10/\1<=([V.str s,.int i]:List V).length/\∀ v∈[V.str s,.int i],(∃ i,v=.int i)\/∃ s,v=.str s/\PyData.strOk s=true:=by
 refine⟨by simp,by simp,λv hv=> ?_⟩
 simp only[List.mem_cons,List.not_mem_nil,or_false]at hv
 rcases hv with rfl | rfl
 ·exact .inr ⟨_,rfl,h⟩
 ·exact .inl ⟨_,rfl⟩
theorem M3{s:Str}{u:V}{i:Int}(h:PyData.strOk s=true)(hu:(∃ i,u=.int i)\/∃ s,u=.str s/\PyData.strOk s=true):([V.str s,u,.int i]:List V).length<=10/\1<=([V.str s,u,.int i]:List V).length/\∀ v∈[V.str s,u,.int i],(∃ i,v=.int i)\/∃ s,v=.str s/\PyData.strOk s=true:=by
 refine⟨by simp,by simp,λv hv=> ?_⟩
 simp only[List.mem_cons,List.not_mem_nil,or_false]at hv
 rcases hv with rfl | rfl | rfl
 ·exact .inr ⟨_,rfl,h⟩
 ·exact hu
 ·exact .inl ⟨_,rfl⟩
theorem cT(vw:Vw):FOk (faults vw):=by
 unfold faults JM JN JO
 refine(FOk.app (.app (FD λk=>JZ (by decide +kernel)) (FD λk=>JZ (by decide +kernel))) (.app (.app (FD λk=>JZ (by decide +kernel)) (FD λk=>JZ (by decide +kernel))) (FD λk=>JZ (by decide +kernel)))).app (.app (FD λk=>M3 (by decide +kernel) (.inr ⟨_,rfl,by decide +kernel⟩)) (FD λk=>M3 (by decide +kernel) (.inr ⟨_,rfl,by decide +kernel⟩)))
theorem zZ(vw:Vw):FOk (G5 vw):=by
 unfold G5 E8 JP JQ
 refine(FOk.app (.app (FD λk=>M3 (by decide +kernel) (.inl ⟨_,rfl⟩)) (FD λk=>M3 (by decide +kernel) (.inr ⟨_,rfl,by decide +kernel⟩))) (FD λk=>M3 (by decide +kernel) (.inr ⟨_,rfl,by decide +kernel⟩))).app (FD λk=>JZ (by decide +kernel))
theorem z0{l e0:Addr}{fs:List (List V)}(F:FindsL H l fs)(ok:FOk fs)(h2:H e0=some (.lst []))(q:Q (.bl (decide (fs=[]))) H):BO K (.ref l) (.ref e0) H Q:=by
 obtain⟨ps,e,P⟩:=F
 have:∃ ds,Paired (Dat K H 2) (ps.map V.ref) ds:=by
  clear e q
  induction P with
  | nil=>exact⟨[],.nil⟩
  | cons h t ih =>
   obtain⟨ds,hd⟩:=ih λg hg=>ok g (List.mem_cons_of_mem _ hg)
   obtain⟨d,hf⟩:=cS (K:=K) (H:=H) (ok _ List.mem_cons_self).2.2
   exact⟨_,.cons (Dat.tup (n:=1) (SqT.of h) hf) hd⟩
 obtain⟨ds,hd⟩:=this
 refine U6 (n:=2) (by decide) (SqL.of e) hd (SqL.of h2) ?_
 have:decide (ps.map V.ref=[])=decide (fs=[]):=by
  rw[decide_eq_decide,List.map_eq_nil_iff]
  cases P<;>simp
 rw[this]
 exact q
theorem PlV.good{rows:List (List V)}{n r c w:Nat}{vw:Vw}(h:PlV H rows n r c w vw):good7 H rows:=λrow hr v hv=>by
 obtain⟨v1,v2,v3,v4,v5,ef,P1,P2,P3,P4,P5⟩:=h.vs
 have hm:v∈rows.flatten:=List.mem_flatten.mpr ⟨row,hr,hv⟩
 rw[ef]at hm
 simp only[List.mem_append]at hm
 have mk:∀ {us:List V} {cs:List (Option Int)},Paired (MkV H) us cs->v∈us->GoodV 7 H v:=λP hm=>by
  obtain⟨i,hi⟩:=JI hm
  obtain⟨c,_,hc⟩:=EF P hi
  cases c with
  | none=>rw[show v=.non from hc];trivial
  | some i=>rw[show v=.int i from hc];trivial
 rcases hm with(((hm | hm) | hm) | hm) | hm
 ·obtain⟨i,hi⟩:=JI hm
  obtain⟨c,ec,hc⟩:=EF P1 hi
  cases c with
  | none=>rw[show v=.non from hc];trivial
  | some c =>
   obtain⟨p,rfl,hp⟩:=hc
   refine⟨_,hp,by simp,λu hu=> ?_⟩
   simp only[List.mem_cons,List.not_mem_nil,or_false]at hu
   rcases hu with rfl | rfl
   ·exact(h.ok.n1 c (List.mem_of_getElem? ec)).2
   ·trivial
 ·obtain⟨i,hi⟩:=JI hm
  obtain⟨c,ec,hc⟩:=EF P2 hi
  cases c with
  | none=>rw[show v=.non from hc];trivial
  | some c =>
   obtain⟨p,t,rfl,hp,ht⟩:=hc
   refine⟨_,hp,by simp,λu hu=> ?_⟩
   simp only[List.mem_cons,List.not_mem_nil,or_false]at hu
   rcases hu with rfl | rfl
   ·trivial
   ·refine⟨_,ht,?_,λu hu=> ?_⟩
    ·rw[CZ]
     have:=(h.ok.n2 c (List.mem_of_getElem? ec)).2
     omega
    ·obtain⟨k,_,rfl⟩:=List.mem_map.mp hu
     trivial
 ·obtain⟨i,hi⟩:=JI hm
  obtain⟨c,ec,hc⟩:=EF P3 hi
  cases c with
  | none=>rw[show v=.non from hc];trivial
  | some s =>
   rw[show v=.str s from hc]
   exact h.ok.n3 s (List.mem_of_getElem? ec)
 ·exact mk P4 hm
 ·exact mk P5 hm
theorem z6{l1 l2:Addr}{p1 p2:List Addr}{rows:List (List V)}(e1:H l1=some (.lst (p1.map V.ref)))(e2:H l2=some (.lst (p2.map V.ref)))(P1:Paired (λl r=>H l=some (.lst r)) p1 rows)(P2:Paired (λl r=>H l=some (.lst r)) p2 rows)(g:good7 H rows)(q:Q (.bl true) H):BO K (.ref l1) (.ref l2) H Q:=by
 have:∃ ds:List PyData,∀ ps:List Addr,Paired (λl r=>H l=some (.lst r)) ps rows->Paired (Dat K H 8) (ps.map V.ref) ds:=by
  clear P1 P2 e1 e2
  induction rows with
  | nil=>exact⟨[],λps P=>by cases P;exact .nil⟩
  | cons f r ih =>
   obtain⟨ds,hd⟩:=ih λr' hr=>g r' (List.mem_cons_of_mem _ hr)
   obtain⟨d,hf⟩:=wR (K:=K) (g f List.mem_cons_self)
   refine⟨.list d::ds,λps P=> ?_⟩
   cases P with
   | cons e P=>exact .cons (Dat.lst (n:=7) (SqL.of e) hf) (hd _ P)
 obtain⟨ds,hd⟩:=this
 exact mO (n:=9) (by decide) (Dat.lst (n:=8) (SqL.of e1) (hd _ P1)) (Dat.lst (n:=8) (SqL.of e2) (hd _ P2)) q
theorem z7{n r c w:Nat}{Q:Addr->Hp->Prop}(TL:DV K a)(h1:n<=100)(h2:r<=100)(h3:c<=100)(h4:1<=w)(h5:w<=100)(q:∀ x H2,LayAt a H2 x n r c w->Same H H2->Q x H2) :
  ∀ x dx,H x=none->H dx=none->dx≠x->JK K a [.ref x,.int n,.int r,.int c,.int w] (upd (upd H dx (.own x)) x (.ins (a "Layout") dx [])) (λv H2=>v=.non/\Q x H2) E:=λx dx hx hdx nd=>by
 have s0:Same H (upd (upd H dx (.own x)) x (.ins (a "Layout") dx [])):=(AZ hdx).trans (AZ (by rw[AS nd.symm];exact hx))
 exact⟨x,dx,n,r,c,w,rfl,TL,AU,h1,h2,h3,h4,h5,λH' L s=>⟨rfl,q x H' L λy o e=>s _ _ (s0 _ _ e) (BG e hx)⟩⟩
theorem z8(h:PZ K a vs H Q E):RR K a (λ_=>E) (A8 Q) (A7 ["script","sizes","view","rows","layout","plank","k","led","named","faults","due","found","sound"] vs) H:=by
 obtain⟨s,ns,rfl,T,TL,TP,hs,hns,q⟩:=h
 push_cast[RR,↓uT,↓VL]
 refine⟨ns,0,rfl,hs,by omega,_,rfl,λz n r c w H1 s1 ez n1 n6 r1 r6 c1 c6 w1 w6=> ?_⟩
 push_cast[↓uU,↓VL]
 refine⟨ns,1,rfl,s1.seq hs,by omega,_,5,rfl,by omega,λnl zs H2 hnl s2 enl hzl hzs=> ?_⟩
 have s02:=s1.trans s2
 refine⟨s,z,nl,ns,zs,n,r,c,w,rfl,s02.seq hs,hns,s2 _ _ ez,n1,n6,r1,r6,c1,c6,w1,w6,enl,hzl,hzs,λA vw H3 s3 I3 sz=> ?_⟩
 have ez3:=(s2.trans s3) _ _ ez
 push_cast[↓uV]
 refine CU ez3 (n:=3) rfl rfl ⟨A,vw,n,r,c,w,rfl,I3,sz,w1,w6,n6,r6,c6,λR ra rows H4 hR s4 eR Pra hra wd hrl pv=> ?_⟩
 have I4:=I3.same s4
 have ez4:=s4 _ _ ez3
 push_cast[↓uW]
 refine CU ez4 (n:=0) rfl rfl (CU ez4 (n:=1) rfl rfl (CU ez4 (n:=2) rfl rfl (CU ez4 (n:=3) rfl rfl ?_)))
 refine z7 TL (by omega) (by omega) (by omega) w1 (by omega) λly H5 L5 s5=> ?_
 obtain⟨dl,hly⟩:=L5.ob
 push_cast[↓uX]
 refine⟨_,_,hly,DW (by decide +kernel),ly,n,r,c,w,rfl,TL,TP,L5,λgp cl H6 hgp hcl P6 s6=> ?_⟩
 have s46:=s5.trans s6
 have nR:R≠gp/\R≠cl:=⟨BG (s5 _ _ eR) hgp,BG (s5 _ _ eR) hcl⟩
 generalize hM:n+r+c+r+c=M at P6 hrl
 have bM:M<=30:=by omega
 push_cast[↓uZ]
 refine⟨rows.length,.inl ⟨_,SqL.of (s46 _ _ eR),by rw[List.length_map,Pra.length]⟩,by omega,by omega,?_⟩
 let PR:=λi=>rows.take i++List.replicate (M - i) (List.replicate w V.non)
 refine LM (λi σ H'=>(Same H5 H'/\PlankAt a H' gp cl w (PR i) i)/\∃ y,σ=[some (.ref s),some (.ref z),some (.ref A.v),some (.ref R),some (.ref ly),some (.ref gp),y,none,none,none,none,none,none]) ⟨⟨s6,P6⟩,_,rfl⟩ (λi σ H' hi ⟨⟨s',P'⟩,y,eσ⟩=> ?_) (λσ H' ⟨⟨s',P'⟩,y,eσ⟩=> ?_)
 ·subst eσ
  obtain⟨dp,hob⟩:=P'.ob
  have er:=List.getElem?_eq_getElem (l:=rows) (i:=i) hi
  revert er
  generalize rows[i]=row
  intro er
  obtain⟨l,el,hl⟩:=NR Pra er
  have sR:=s5.trans s'
  have hw:=wd row (List.mem_of_getElem? er)
  push_cast[↓uY,Int.zero_add]
  refine⟨_,_,hob,vO _ _ _,BN (SqL.of (sR _ _ eR)) (n:=i) rfl (by rw[List.getElem?_map,el];rfl) ?_⟩
  push_cast[]
  refine⟨_,.inl (SqL.of (sR _ _ hl)),λl2 hl2=> ?_⟩
  have s9:=AZ (o:=.lst row) hl2
  have el2:upd H' l2 (.lst row) l2=some (.lst row):=AU
  revert s9 el2
  generalize upd H' l2 (.lst row)=H9
  intro s9 el2
  have hPR:(PR i).length=M:=by
   show(rows.take i++List.replicate (M - i) _).length=M
   rw[List.length_append,List.length_take,List.length_replicate]
   omega
  refine⟨gp,cl,w,PR i,i,(i:Int),l2,row,rfl,TP,P'.same s9,SqL.of el2,by omega,λb' eb' hb' hyl Ha Pa sa=> ?_,λz=>by rw[hPR]at z;omega⟩
  obtain rfl:i=b':=by omega
  have ePR:(PR i).set i row=PR (i+1):=by
   show(rows.take i++List.replicate (M - i) (List.replicate w V.non)).set i row=rows.take (i+1)++List.replicate (M - (i+1)) (List.replicate w V.non)
   rw[DJ er,List.set_append_right _ _ (by rw[List.length_take];omega),List.length_take,Nat.min_eq_left (by omega),Nat.sub_self]
   obtain⟨m,hm⟩:∃ m,M - i=m+1:=⟨M - i - 1,by omega⟩
   rw[hm,show M - (i+1)=m by omega,List.replicate_succ,List.set_cons_zero,List.append_assoc]
   rfl
  rw[ePR]at Pa
  refine⟨λy o e=>sa _ _ (s9 _ _ (s' _ _ e)) λz=> ?_,Pa⟩
  rcases z with z | z
  ·rw[z,hgp]at e;cases e
  ·rw[z,hcl]at e;cases e
 ·subst eσ
  have ePR:PR rows.length=rows:=by
   show rows.take rows.length++List.replicate (M - rows.length) _=rows
   rw[List.take_length,hrl,Nat.sub_self]
   simp
  rw[ePR]at P'
  have s47:=s5.trans s'
  have I7:=I4.same s47
  have G7:Ground K a H' ly gp vw:=⟨cl,n,r,c,w,rows,rows.length,T,TL,TP,L5.same s',P',by rw[hrl,hM],pv.same s47.tk⟩
  have eR7:=s47 _ _ eR
  have Pra7:=Paired.mapP Pra λl r (e:H4 l=some (.lst r))=>s47 _ _ e
  have gd7:=(pv.same s47.tk).good
  clear s' s47 I4 s46 s5 s6 P6 L5 hly hgp hcl pv Pra eR
  push_cast[↓u0]
  refine⟨A,vw,rfl,I7,λt l1 l2 H8 s8 et e1 e2=> ?_⟩
  refine⟨t,rfl,_,SqT.of et,rfl,_,_,rfl,_,_,rfl,rfl,?_⟩
  push_cast[↓vA]
  refine⟨A,vw,l1,l2,rfl,I7.same s8,e1,e2,λfa H9 hfa s9 F9=> ?_⟩
  push_cast[↓vB]
  refine⟨A,vw,l1,rfl,(I7.same s8).same s9,s9 _ _ e1,λle H10 hle s10 F10=> ?_⟩
  obtain⟨m1,m2,m3,m4,m5,m6⟩:=IB G7.ok
  have lenF:(faults vw).length<=700:=by
   unfold faults
   simp only[List.length_append]
   omega
  have lenL:(G5 vw).length<=400:=by
   unfold G5
   simp only[List.length_append]
   omega
  refine DM (F9.same s10) F10 (by omega) λdu H11 hdu s11 F11=> ?_
  have s711:=((s8.trans s9).trans s10).trans s11
  have F9':=F9.same (s10.trans s11)
  have ok:=(cT vw).app (zZ vw)
  push_cast[↓vC]
  refine⟨ly,gp,vw,rfl,G7.same s711,λfo H12 hfo s12 F12=> ?_⟩
  push_cast[↓vD]
  refine⟨ly,gp,vw,rfl,(G7.same s711).same s12,λH13 s13=> ?_⟩
  have s1113:=s12.trans s13
  push_cast[↓vF]
  refine⟨fo,du,_,rfl,F12.same s13,F11.same s1113,ok,by rw[List.length_append];omega,λH14 s14=>⟨true,rfl,BT (by decide) ?_⟩⟩
  refine JH (.inl (.bl _)) (.ty _) (b:=true) rfl ⟨true,rfl,BT (by decide) ⟨by decide,λe0 he0=> ?_⟩⟩
  have s15:=AZ (o:=.lst []) he0
  have s1115:=(s1113.trans s14).trans s15
  refine z0 (F9'.same s1115) (cT vw) AU ?_
  have F15:=F12.same ((s13.trans s14).trans s15)
  have F15d:=F11.same s1115
  have hfo':H11 fo=none:=hfo
  revert s15 s1115 F15 F15d
  generalize upd H14 e0 (.lst [])=H15
  intro s15 s1115 F15 F15d
  push_cast[]
  obtain⟨pf,ef,_⟩:=F15
  push_cast[↓vG]
  refine⟨.inl ⟨rfl,_,SqL.of ef⟩,fo,_,rfl,rfl,ef,?_⟩
  have s16:Same H11 (upd H15 fo (.lst [])):=λy o e=>by rw[AS (BG e hfo)];exact s1115 _ _ e
  revert s16
  generalize upd H15 fo (.lst [])=H16
  intro s16
  have s716:=s711.trans s16
  push_cast[↓vI]
  refine⟨ly,gp,vw,rfl,G7.same s716,λf2 H17 hf2 s17 F17=>⟨f2,du,_,rfl,F17,(F11.same s16).same s17,ok,by rw[List.length_append];omega,λH18 s18=>⟨true,rfl,BT (by decide) ?_⟩⟩⟩
  have s718:=(s716.trans s17).trans s18
  have P18:=P'.same s718
  obtain⟨dp18,hob18⟩:=P18.ob
  have eR18:=s718 _ _ eR7
  refine⟨_,_,hob18,vP _ _ _,_,_,_,_,_,rfl,TP,P18,?_⟩
  refine⟨rows.length,.inl ⟨_,SqL.of eR18,by rw[List.length_map,Pra7.length]⟩,?_⟩
  push_cast[]
  push_cast[↓vJ]
  refine⟨rows.length,.inl ⟨_,SqL.of eR18,by rw[List.length_map,Pra7.length]⟩,by omega,by omega,?_⟩
  refine HQ (small _ (by omega)) (λi ys H'=>Same H18 H'/\∃ ls:List Addr,ys=ls.map V.ref/\Paired (λl r=>H' l=some (.lst r)) ls (rows.take i)) ⟨Same.refl _,[],rfl,.nil⟩ (λi ys H19 hi _ ⟨s,ls,e,P⟩=> ?_) (λys H19 _ ⟨s,ls,e,P⟩ p hp=> ?_)
  ·have P19:=P18.same s
   obtain⟨dp19,hob19⟩:=P19.ob
   push_cast[A5,Int.zero_add]
   refine⟨_,_,hob19,bY _ _ _,gp,cl,w,rows,_,i,rfl,TP,P19,λb' row eb er l hl=> ?_,λz=>by omega⟩
   obtain rfl:i=b':=by omega
   refine⟨EX s hl,ls++[l],by rw[e,List.map_append];rfl,?_⟩
   rw[DJ er]
   exact Paired.snoc (Paired.mapP P λt r e=>AZ hl _ _ e) AU
  ·subst e
   rw[List.take_length]at P
   have s20:=s.trans (AZ (o:=.lst (ls.map V.ref)) hp)
   have s720:=s718.trans s20
   refine z6 AU (s720 _ _ eR7) (Paired.mapP P λl r e=>AZ hp _ _ e) (Paired.mapP Pra7 λl r e=>s720 _ _ e) (gd7.keep s720.tk) (q _)
theorem z9(h:PZ K a vs H Q E):vs.length=1:=by
 obtain⟨_,_,rfl,_⟩:=h
 rfl
end
end L2
namespace L2
def BL(i:Nat):Stmt:=PySem.Challenge.pw_holdback_k51_finds_of_drawn_planks.main.body.getD i (.Pass ⟨0,0,0,0⟩)
structure Txt(K:W.Frag)(mg:Str->Option Value)(a:Ad):Prop where
 DQ:Cls K (a "Layout")
 IT:Cls K (a "Plank")
 GN:Cls K (a "View")
 c9:mg "NoBlock"=some (.ref (a "NoBlock"))
 Hq:GV mg "NoBlock" (.ref (a "NoBlock"))
 dA:Exc K (a "NoBlock")
 c7:mg "bool"=none
 IS:mg "enumerate"=none
 SB:mg "int"=none
 M7:mg "isinstance"=none
 C4:mg "len"=none
 SC:mg "list"=none
 CP:mg "range"=none
 Gz:mg "str"=none
 c8:mg "tuple"=none
section
variable(P:Program)(w:World){K:W.Frag}{mg:Str->Option Value}(base:Heap){a:Ad}{f:Addr}{fd:FuncData}
seal wpAny
abbrev ID:Stmt:=C8 (BL 1) 1
theorem Ab:FnScope ["self"] ["self"] (AK ID):=.go
theorem Ac(T:Txt K mg a)(F:Fun K "records_led_to" "View.records_led_to" ID f fd)  :
  FP P w K mg base 1 f fd ["self"] (L9 K a) :=
 F.okF (P0 K a) Ab xD xC λ_ _ _ _ _ E hr hx=>(AX (BJ (CI (tn:=["record","value"]) (cn:=["self"]) (cap:=[0]) (BS (outer:=AK ID) (N:=["self"]) rfl rfl (by decide +kernel)) rfl (HS rfl T.IS (AE (BQ (AB 0) rfl) AI)) (λ_ _ _ _ _ _=>(FY rfl (DL (BF (i:=0) (show(["record","value","self"]:List Str).Nodup from by decide +kernel) rfl (Or.inl rfl)) (DL (BF (i:=1) (show(["record","value","self"]:List Str).Nodup from by decide +kernel) rfl (Or.inl rfl)) FX)))) (λ_ _ _ _ _ _=>(CB (A6 ET (AM AN (BQ (AB 2) rfl) (AB 0) (λ_ _=>rfl)) AH (A3 _)))) (λ_ _ _ _ _ _=>(AB 1)))))
abbrev IE:Stmt:=C8 (BL 1) 2
theorem Ag:FnScope ["self"] ["self"] (AK IE):=.go
theorem Ah(T:Txt K mg a)(F:Fun K "records_standing" "View.records_standing" IE f fd)  :
  FP P w K mg base 1 f fd ["self"] (HW K a) :=
 F.okF (P7 K a) Ag wY wX λ_ _ _ _ _ E hr hx=>(AX (BJ (CI (tn:=["record","value"]) (cn:=[]) (cap:=[]) (BS (outer:=AK IE) (N:=["self"]) rfl rfl (by decide +kernel)) rfl (HS rfl T.IS (AE (BQ (AB 0) rfl) AI)) (λ_ _ _ _ _ _=>(FY rfl (DL (BF (i:=0) (show(["record","value"]:List Str).Nodup from by decide +kernel) rfl (Or.inl rfl)) (DL (BF (i:=1) (show(["record","value"]:List Str).Nodup from by decide +kernel) rfl (Or.inl rfl)) FX)))) (λ_ _ _ _ _ _=>(CB (A6 GA (AB 1) CK (A3 _)))) (λ_ _ _ _ _ _=>(AB 0)))))
abbrev IF:Stmt:=C8 (BL 1) 3
theorem Aj:FnScope ["self"] ["self"] (AK IF):=.go
theorem Ak(T:Txt K mg a)(F:Fun K "pieces_named" "View.pieces_named" IF f fd)  :
  FP P w K mg base 1 f fd ["self"] (G8 K a) :=
 F.okF (P8 K a) Aj xB xA λ_ _ _ _ _ E hr hx=>(AX (BJ (CI (tn:=["piece","many"]) (cn:=[]) (cap:=[]) (BS (outer:=AK IF) (N:=["self"]) rfl rfl (by decide +kernel)) rfl (HS rfl T.IS (AE (BQ (AB 0) rfl) AI)) (λ_ _ _ _ _ _=>(FY rfl (DL (BF (i:=0) (show(["piece","many"]:List Str).Nodup from by decide +kernel) rfl (Or.inl rfl)) (DL (BF (i:=1) (show(["piece","many"]:List Str).Nodup from by decide +kernel) rfl (Or.inl rfl)) FX)))) (λ_ _ _ _ _ _=>(CB (A6 ET (AB 1) AH (A3 _)))) (λ_ _ _ _ _ _=>(AB 0)))))
abbrev J0:Stmt:=C8 (BL 1) 4
theorem Al:FnScope ["self","record"] ["self","record"] (AK J0):=.go
theorem Am(T:Txt K mg a)(F:Fun K "count_of" "View.count_of" J0 f fd)  :
  FP P w K mg base 1 f fd ["self","record"] (HX K a) :=
 F.okF (P9 K a) Al wW wV λ_ _ _ _ _ E hr hx=>(AX (BJ (AM AN (AM AN (BQ (AB 0) rfl) (AB 1) (λ_ _=>rfl)) AH (λ_ _=>rfl))))
abbrev J1:Stmt:=BL 5
theorem J2:FnScope ["view","lost","twice","seen","k","value"] ["view"] (AK J1):=.go
theorem Ap(T:Txt K mg a)(F:Fun K "faults_of_names" "faults_of_names" J1 f fd)  :
  FP P w K mg base 1 f fd ["view"] (MA K a) :=
 F.okF (QD K a) J2 xU xT λ_ _ _ _ _ E hr hx=>(AR (BD 1 J2.nd (DH AI))
   (AR (BD 2 J2.nd (DH AI))
   (AR (BD 3 J2.nd gY)
   (AR (DS hx.po rfl (HS rfl T.IS (AE (BQ (AB 0) rfl) AI)) (FY rfl (DL (DP 4 J2.nd) (DL (DP 5 J2.nd) FX))) (AX (CH (A6 GA (AB 5) CK (A3 _)) (AR (CH (A6 JA (AM AN (BQ (AB 0) rfl) (AM AN (AB 5) AH (λ_ _=>rfl)) (λ_ _=>rfl)) CK (A3 _)) (AX (D8 (FJ PySem.F.plainAttrs_list PySem.F.slot_list_append PySem.F.type_list_append GT (AB 1) (AE (B6 (AE BV (AE (AB 4) AI))) AI)))) CL)
   (AR (CH (dU (gT (UB hr) (AM AN (AB 5) AH (λ_ _=>rfl)) (AB 3)) (by with_unfolding_all rfl)) (AX (D8 (FJ PySem.F.plainAttrs_list PySem.F.slot_list_append PySem.F.type_list_append GT (AB 2) (AE (B6 (AE BV (AE (AB 4) AI))) AI)))) CL)
   (AX (gU (UB hr) (AB 3) (AM AN (AB 5) AH (λ_ _=>rfl)) IW rfl)))) CL)))
   (AX (BJ (AQ BC (AB 1) (AB 2))))))))
abbrev HC:Stmt:=BL 10
theorem cU:FnScope ["view","marked"] ["view"] (AK HC):=.go
theorem Aq(T:Txt K mg a)(F:Fun K "left_pieces" "left_pieces" HC f fd)  :
  FP P w K mg base 1 f fd ["view"] (ME K a) :=
 F.okF (QE K a) cU xF xE λ_ _ _ _ _ E hr hx=>(AR (DU (i:=1) (tn:=["piece","mark"]) (cn:=[]) (cap:=[]) (BS (outer:=AK HC) (N:=["view","marked"]) rfl rfl (by decide +kernel)) rfl cU.nd rfl rfl (HS rfl T.IS (AE (BQ (AB 0) rfl) AI)) (λ_ _ _ _ _ _=>(FY rfl (DL (BF (i:=0) (show(["piece","mark"]:List Str).Nodup from by decide +kernel) rfl (Or.inl rfl)) (DL (BF (i:=1) (show(["piece","mark"]:List Str).Nodup from by decide +kernel) rfl (Or.inl rfl)) FX)))) (λ_ _ _ _ _ _=>(CB (A6 (CT hr.units) (AB 1) AH (A3 _)))) (λ_ _ _ _ _ _=>(AB 0)))
   (AX (BJ (CI (tn:=["piece"]) (cn:=["view"]) (cap:=[0]) (BS (outer:=AK HC) (N:=["view","marked"]) rfl rfl (by decide +kernel)) rfl (CJ (AB 1)) (λ_ _ _ _ _ _=>(BF (i:=0) (show(["piece","view"]:List Str).Nodup from by decide +kernel) rfl (Or.inl rfl))) (λ_ _ _ _ _ _=>(CB (A6 (CT hr.units) (AM AN (BQ (AB 1) rfl) (AB 0) (λ_ _=>rfl)) AH (A3 _)))) (λ_ _ _ _ _ _=>(B6 (AE BV (AE BV (AE (AB 0) AI)))))))))
abbrev HD:Stmt:=BL 11
theorem cV:FnScope ["view","marked"] ["view"] (AK HD):=.go
theorem Av(T:Txt K mg a)(F:Fun K "marked_records" "marked_records" HD f fd)  :
  FP P w K mg base 1 f fd ["view"] (MF K a) :=
 F.okF (QF K a) cV xH xG λ_ _ _ _ _ E hr hx=>(AR (DU (i:=1) (tn:=["record","mark"]) (cn:=[]) (cap:=[]) (BS (outer:=AK HD) (N:=["view","marked"]) rfl rfl (by decide +kernel)) rfl cV.nd rfl rfl (HS rfl T.IS (AE (BQ (AB 0) rfl) AI)) (λ_ _ _ _ _ _=>(FY rfl (DL (BF (i:=0) (show(["record","mark"]:List Str).Nodup from by decide +kernel) rfl (Or.inl rfl)) (DL (BF (i:=1) (show(["record","mark"]:List Str).Nodup from by decide +kernel) rfl (Or.inl rfl)) FX)))) (λ_ _ _ _ _ _=>(CB (A6 (CT hr.units) (AB 1) AH (A3 _)))) (λ_ _ _ _ _ _=>(AB 0)))
   (AX (BJ (CI (tn:=["record"]) (cn:=["view"]) (cap:=[0]) (BS (outer:=AK HD) (N:=["view","marked"]) rfl rfl (by decide +kernel)) rfl (CJ (AB 1)) (λ_ _ _ _ _ _=>(BF (i:=0) (show(["record","view"]:List Str).Nodup from by decide +kernel) rfl (Or.inl rfl))) (λ_ _ _ _ _ _=>(CB (A6 JA (AM AN (BQ (AB 1) rfl) (AB 0) (λ_ _=>rfl)) CK (A3 _)))) (λ_ _ _ _ _ _=>(B6 (AE BV (AE (AB 0) AI))))))))
abbrev IG:Stmt:=BL 13
theorem RX:FnScope ["many","numbers","counts","number"] ["many","numbers"] (AK IG):=.go
theorem Aw(T:Txt K mg a)(F:Fun K "tally" "tally" IG f fd)  :
  FP P w K mg base 1 f fd ["many","numbers"] (HV K a) :=
 F.okF (QH K a) RX xY xX λ_ _ _ _ _ E hr hx=>(AR (DU (i:=2) (tn:=["k"]) (cn:=[]) (cap:=[]) (BS (outer:=AK IG) (N:=["many","numbers","counts","number"]) rfl rfl (by decide +kernel)) rfl RX.nd rfl rfl (CS rfl T.CP (AE (AB 0) AI)) (λ_ _ _ _ _ _=>(BF (i:=0) (show(["k"]:List Str).Nodup from by decide +kernel) rfl (Or.inl rfl))) (λ_ _ _ _ _ _=>EA) (λ_ _ _ _ _ _=>AH))
   (AR (DS hx.po rfl (CJ (AB 1)) (DP 3 RX.nd) (AX (m9 (AB 2) (AB 3) AH SY)))
   (AX (BJ (AB 2)))))
abbrev J3:Stmt:=BL 14
theorem RY:FnScope ["records","pieces","value"] ["records"] (AK J3):=.go
theorem Ax(T:Txt K mg a)(F:Fun K "pieces_in" "pieces_in" J3 f fd)  :
  FP P w K mg base 1 f fd ["records"] (JR K a) :=
 F.okF (QI K a) RY x5 xZ λ_ _ _ _ _ E hr hx=>(AR (BD 1 RY.nd (DH AI))
   (AR (DS hx.po rfl (CJ (AB 0)) (DP 2 RY.nd) (AX (CH (A6 GA (AB 2) CK (A3 _)) (AX (D8 (FJ PySem.F.plainAttrs_list PySem.F.slot_list_extend PySem.F.type_list_extend nD (AB 1) (AE (AM AN (AB 2) AH (λ_ _=>rfl)) AI)))) CL)))
   (AX (BJ (AB 1)))))
abbrev IH:Stmt:=C8 (BL 19) 0
theorem Ay:FnScope ["self","blocks","cells"] ["self","blocks","cells"] (AK IH):=.go
theorem Az(T:Txt K mg a)(F:Fun K "__init__" "Plank.__init__" IH f fd)  :
  FP P w K mg base 1 f fd ["self","blocks","cells"] (LQ K a) :=
 F.okF (QJ K a) Ay vQ vK λ_ _ _ _ _ E hr hx=>(AR (DZ (AB 0) (CI (tn:=["block"]) (cn:=["cells"]) (cap:=[2]) (BS (outer:=AK IH) (N:=["self","blocks","cells"]) rfl rfl (by decide +kernel)) rfl (CS rfl T.CP (AE (AB 1) AI)) (λ_ _ _ _ _ _=>(BF (i:=0) (show(["block","cells"]:List Str).Nodup from by decide +kernel) rfl (Or.inl rfl))) (λ_ _ _ _ _ _=>EA) (λ_ _ _ _ _ _=>(AQ DC (B6 (AE CK AI)) (AB 1)))) rfl)
   (AR (DZ (AB 0) (AB 2) rfl)
   (AX (DZ (AB 0) AH rfl))))
abbrev J4:Stmt:=C8 (BL 19) 3
theorem Bb:FnScope ["self"] ["self"] (AK J4):=.go
theorem Bc(T:Txt K mg a)(F:Fun K "writings" "Plank.writings" J4 f fd)  :
  FP P w K mg base 1 f fd ["self"] (LR K a) :=
 F.okF (QK K a) Bb vV vU λ_ _ _ _ _ E hr hx=>(AX (BJ (BQ (AB 0) rfl)))
abbrev J5:Stmt:=C8 (BL 19) 6
theorem Bd:FnScope ["self","block"] ["self","block"] (AK J5):=.go
theorem Bg(T:Txt K mg a)(F:Fun K "ask_for_block" "Plank.ask_for_block" J5 f fd)  :
  FP P w K mg base 1 f fd ["self","block"] (GF K a) :=
 F.okF (QL K a) Bd vR vL λ_ _ _ _ _ E hr hx=>(AX (CH (HE (eU iK LG AH (AB 1) (CG C1 rfl T.C4 (by rfl) (AE (BQ (AB 0) rfl) AI)))) (AX (UK hx T.dA rfl T.c9 (AE BV AI))) CL))
abbrev J6:Stmt:=C8 (BL 21) 0
theorem Bh:FnScope ["self","names","records","pieces","cells"] ["self","names","records","pieces","cells"] (AK J6):=.go
theorem Bj(T:Txt K mg a)(F:Fun K "__init__" "Layout.__init__" J6 f fd)  :
  FP P w K mg base 1 f fd ["self","names","records","pieces","cells"] (JK K a) :=
 F.okF (QM K a) Bh wF vY λ_ _ _ _ _ E hr hx=>(AR (DZ (AB 0) (AB 1) rfl)
   (AR (DZ (AB 0) (AB 2) rfl)
   (AR (DZ (AB 0) (AB 3) rfl)
   (AX (DZ (AB 0) (AB 4) rfl)))))
abbrev J7:Stmt:=C8 (BL 21) 6
theorem Bk:FnScope ["self"] ["self"] (AK J7):=.go
theorem Bl(T:Txt K mg a)(F:Fun K "counts" "Layout.counts" J7 f fd)  :
  FP P w K mg base 1 f fd ["self"] (L6 K a) :=
 F.okF (QN K a) Bk wP wD λ_ _ _ _ _ E hr hx=>(AX (BJ (B6 (AE (AQ DC (BQ (AB 0) rfl) (BQ (AB 0) rfl)) (AE (AQ DC (BQ (AB 0) rfl) (BQ (AB 0) rfl)) (AE (AQ DC (BQ (AB 0) rfl) (BQ (AB 0) rfl)) AI))))))
abbrev J8:Stmt:=C8 (BL 21) 9
theorem Bm:FnScope ["self"] ["self"] (AK J8):=.go
theorem Bp(T:Txt K mg a)(F:Fun K "blocks_ahead_of_marks" "Layout.blocks_ahead_of_marks" J8 f fd)  :
  FP P w K mg base 1 f fd ["self"] (GG K a) :=
 F.okF (QP K a) Bm wN wB λ_ _ _ _ _ E hr hx=>(AX (BJ (AQ BC (AQ BC (BQ (AB 0) rfl) (BQ (AB 0) rfl)) (BQ (AB 0) rfl))))
abbrev J9:Stmt:=C8 (BL 21) 10
theorem Bq:FnScope ["self","block","k"] ["self","block","k"] (AK J9):=.go
theorem Bv(T:Txt K mg a)(F:Fun K "place_from" "Layout.place_from" J9 f fd)  :
  FP P w K mg base 1 f fd ["self","block","k"] (EJ K a) :=
 F.okF (QQ K a) Bq wG vZ λ_ _ _ _ _ E hr hx=>(AX (BJ (B6 (AE (AQ BC (AB 1) (AQ E4 (AB 2) (BQ (AB 0) rfl))) (AE (AQ BZ (AB 2) (BQ (AB 0) rfl)) AI)))))
abbrev KA:Stmt:=BL 23
theorem Bw:FnScope ["script","k"] ["script","k"] (AK KA):=.go
theorem Bx(T:Txt K mg a)(F:Fun K "_law_cell_at" "_law_cell_at" KA f fd)  :
  FP P w K mg base 1 f fd ["script","k"] (G3 K a) :=
 F.okF (QR K a) Bw vX vW λ_ _ _ _ _ E hr hx=>(AR (CH (A6 LG (AB 1) (CG C1 rfl T.C4 (by rfl) (AE (AB 0) AI)) (A3 _)) (AX (BJ (AM AN (AB 0) (AB 1) (λ_ _=>rfl)))) CL)
   (AX (BJ AH)))
abbrev KB:Stmt:=BL 24
theorem II:FnScope ["cell","many","here","there","found","k"] ["cell","many"] (AK KB):=.go
theorem By(T:Txt K mg a)(F:Fun K "_law_spun" "_law_spun" KB f fd)  :
  FP P w K mg base 1 f fd ["cell","many"] (E9 K a) :=
 F.okF (QS K a) II yQ yP λ_ _ _ _ _ E hr hx=>(AR (BD 2 II.nd (AQ BC (AQ BZ (AB 0) AH) AH))
   (AR (BD 3 II.nd (AQ BC (AQ BZ (AQ E4 (AB 0) AH) AH) AH))
   (AR (BD 4 II.nd (DH AI))
   (AR (DS hx.po rfl (CS rfl T.CP (AE (AB 1) AI)) (DP 5 II.nd) (AR (BD 2 II.nd (AQ BZ (AQ BC (AQ DC (AB 2) AH) (AB 3)) AH))
   (AR (BD 3 II.nd (AQ BZ (AQ BC (AQ BC (AQ DC (AB 3) AH) (AQ DC (AB 2) (AB 2))) (AB 5)) AH))
   (AX (D8 (FJ PySem.F.plainAttrs_list PySem.F.slot_list_append PySem.F.type_list_append GT (AB 4) (AE (AQ BC (AB 2) (AB 3)) AI)))))))
   (AX (BJ (AB 4)))))))
abbrev IJ:Stmt:=BL 28
theorem RZ:FnScope ["xs","pieces","count"] ["xs","pieces"] (AK IJ):=.go
theorem Bz(T:Txt K mg a)(F:Fun K "_law_record" "_law_record" IJ f fd)  :
  FP P w K mg base 1 f fd ["xs","pieces"] (ML K a) :=
 F.okF (QU K a) RZ yY yX λ_ _ _ _ _ E hr hx=>(AR (CH (A6 (CT hr.units) (AQ BZ (AM AN (AB 0) AH (λ_ _=>rfl)) AH) AH (A3 _)) (AX (BJ CK)) CL)
   (AR (BD 2 RZ.nd (AQ BC AH (AQ BZ (AM AN (AB 0) AH (λ_ _=>rfl)) AH)))
   (AR (CH (A6 (CT hr.units) (AQ BZ (AQ E4 (AM AN (AB 0) AH (λ_ _=>rfl)) AH) AH) AH (A3 _)) (AX (BD 2 RZ.nd (AQ SL (AQ SM AH AH) (AQ DC (AM AN (AB 0) AH (λ_ _=>rfl)) (AQ SM AH AH))))) CL)
   (AX (BJ (B6 (AE (AB 2) (AE (JC UN rfl T.c8 (by rfl) (AE (CI (tn:=["k"]) (cn:=["xs","pieces"]) (cap:=[0,1]) (BS (outer:=AK IJ) (N:=["xs","pieces","count"]) rfl rfl (by decide +kernel)) rfl (CS rfl T.CP (AE (AQ BZ (AQ E4 (AM AN (AB 0) AH (λ_ _=>rfl)) AH) AH) AI)) (λ_ _ _ _ _ _=>(BF (i:=0) (show(["k","xs","pieces"]:List Str).Nodup from by decide +kernel) rfl (Or.inl rfl))) (λ_ _ _ _ _ _=>EA) (λ_ _ _ _ _ _=>(AQ BZ (AM AN (AB 1) (AQ BC AH (AB 0)) (λ_ _=>rfl)) (AB 2)))) AI)) AI))))))))
abbrev IK:Stmt:=BL 30
theorem cW:FnScope ["view","cells","flat"] ["view","cells"] (AK IK):=.go
theorem Cb(T:Txt K mg a)(F:Fun K "_law_rows" "_law_rows" IK f fd)  :
  FP P w K mg base 1 f fd ["view","cells"] (MO K a) :=
 F.okF (QW K a) cW zD zC λ_ _ _ _ _ E hr hx=>(AR (FZ (i:=2) cW.nd rfl (Or.inr rfl) (AQ BC (AQ BC (AQ BC (AQ BC (AM AN (AB 0) AH (λ_ _=>rfl)) (AM AN (AB 0) AH (λ_ _=>rfl))) (AM AN (AB 0) AH (λ_ _=>rfl))) (AM AN (AB 0) AH (λ_ _=>rfl))) (AM AN (AB 0) AH (λ_ _=>rfl))))
   (AX (BJ (CI (tn:=["k"]) (cn:=["flat","cells"]) (cap:=[2,1]) (BS (outer:=AK IK) (N:=["view","cells","flat"]) rfl rfl (by decide +kernel)) rfl (nJ rfl T.CP (AE AH (AE (CG C1 rfl T.C4 (by rfl) (AE (AB 2) AI)) (AE (AB 1) AI)))) (λ_ _ _ _ _ _=>(BF (i:=0) (show(["k","flat","cells"]:List Str).Nodup from by decide +kernel) rfl (Or.inl rfl))) (λ_ _ _ _ _ _=>EA) (λ_ _ _ _ _ _=>(NK NP (AB 1) (K9 (AB 0)) (K9 (AQ BC (AB 0) (AB 2)))))))))
abbrev D6:Stmt:=BL 32
theorem FR:FnScope ["view","led","named","names","numbers","found","k","records"] ["view","led","named"] (AK D6):=.go
theorem Cc(T:Txt K mg a)(F:Fun K "_law_faults" "_law_faults" D6 f fd)  :
  FP P w K mg base 1 f fd ["view","led","named"] (MR K a) :=
 F.okF (QX K a) FR zP zO λ_ _ _ _ _ E hr hx=>(AR (FZ (i:=3) FR.nd rfl (Or.inr rfl) (AM AN (AB 0) AH (λ_ _=>rfl)))
   (AR (DU (i:=4) (tn:=["k"]) (cn:=["names"]) (cap:=[3]) (BS (outer:=AK D6) (N:=["view","led","named","names","numbers","found","k","records"]) rfl rfl (by decide +kernel)) rfl FR.nd rfl rfl (CS rfl T.CP (AE (CG C1 rfl T.C4 (by rfl) (AE (AB 3) AI)) AI)) (λ_ _ _ _ _ _=>(BF (i:=0) (show(["k","names"]:List Str).Nodup from by decide +kernel) rfl (Or.inl rfl))) (λ_ _ _ _ _ _=>(CB (A6 GA (AM AN (AB 1) (AB 0) (λ_ _=>rfl)) CK (A3 _)))) (λ_ _ _ _ _ _=>(AB 0)))
   (AR (DU (i:=5) (tn:=["k"]) (cn:=["view","names"]) (cap:=[0,3]) (BS (outer:=AK D6) (N:=["view","led","named","names","numbers","found","k","records"]) rfl rfl (by decide +kernel)) rfl FR.nd rfl rfl (CJ (AB 4)) (λ_ _ _ _ _ _=>(BF (i:=0) (show(["k","view","names"]:List Str).Nodup from by decide +kernel) rfl (Or.inl rfl))) (λ_ _ _ _ _ _=>(CB (A6 JA (AM AN (AM AN (AB 1) AH (λ_ _=>rfl)) (AM AN (AM AN (AB 2) (AB 0) (λ_ _=>rfl)) AH (λ_ _=>rfl)) (λ_ _=>rfl)) CK (A3 _)))) (λ_ _ _ _ _ _=>(B6 (AE BV (AE (AB 0) AI)))))
   (AR (DS hx.po rfl (CJ (AB 4)) (BF (i:=6) FR.nd rfl (Or.inr rfl)) (AX (CH (A6 (U4 hr.units) (AM AN (AM AN (AB 3) (AB 6) (λ_ _=>rfl)) AH (λ_ _=>rfl)) (CI (tn:=["j"]) (cn:=["k","names"]) (cap:=[6,3]) (BS (outer:=AK D6) (N:=["view","led","named","names","numbers","found","k","records"]) rfl rfl (by decide +kernel)) rfl (CJ (AB 4)) (λ_ _ _ _ _ _=>(BF (i:=0) (show(["j","k","names"]:List Str).Nodup from by decide +kernel) rfl (Or.inl rfl))) (λ_ _ _ _ _ _=>(CB (A6 LG (AB 0) (AB 1) (A3 _)))) (λ_ _ _ _ _ _=>(AM AN (AM AN (AB 2) (AB 0) (λ_ _=>rfl)) AH (λ_ _=>rfl)))) (by with_unfolding_all rfl)) (AX (D8 (FJ PySem.F.plainAttrs_list PySem.F.slot_list_append PySem.F.type_list_append GT (AB 5) (AE (B6 (AE BV (AE (AB 6) AI))) AI)))) CL)))
   (AR (BD 5 FR.nd (AQ BC (AB 5) (CI (tn:=["p"]) (cn:=["named"]) (cap:=[2]) (BS (outer:=AK D6) (N:=["view","led","named","names","numbers","found","k","records"]) rfl rfl (by decide +kernel)) rfl (CS rfl T.CP (AE (CG C1 rfl T.C4 (by rfl) (AE (AB 2) AI)) AI)) (λ_ _ _ _ _ _=>(BF (i:=0) (show(["p","named"]:List Str).Nodup from by decide +kernel) rfl (Or.inl rfl))) (λ_ _ _ _ _ _=>(CB (A6 ET (AM AN (AB 1) (AB 0) (λ_ _=>rfl)) AH (A3 _)))) (λ_ _ _ _ _ _=>(B6 (AE BV (AE (AB 0) AI)))))))
   (AR (BD 5 FR.nd (AQ BC (AB 5) (CI (tn:=["p"]) (cn:=["named","view"]) (cap:=[2,0]) (BS (outer:=AK D6) (N:=["view","led","named","names","numbers","found","k","records"]) rfl rfl (by decide +kernel)) rfl (CS rfl T.CP (AE (CG C1 rfl T.C4 (by rfl) (AE (AB 2) AI)) AI)) (λ_ _ _ _ _ _=>(BF (i:=0) (show(["p","named","view"]:List Str).Nodup from by decide +kernel) rfl (Or.inl rfl))) (λ_ _ _ _ _ _=>(CB (PW.pt (GQ (A6 ET (AM AN (AB 1) (AB 0) (λ_ _=>rfl)) AH (A3 _)) (GP (A6 JA (AM AN (AM AN (AB 2) AH (λ_ _=>rfl)) (AB 0) (λ_ _=>rfl)) CK (A3 _))))))) (λ_ _ _ _ _ _=>(B6 (AE BV (AE (AB 0) AI)))))))
   (AR (DU (i:=7) (tn:=["r"]) (cn:=["view"]) (cap:=[0]) (BS (outer:=AK D6) (N:=["view","led","named","names","numbers","found","k","records"]) rfl rfl (by decide +kernel)) rfl FR.nd rfl rfl (CS rfl T.CP (AE (CG C1 rfl T.C4 (by rfl) (AE (AB 1) AI)) AI)) (λ_ _ _ _ _ _=>(BF (i:=0) (show(["r","view"]:List Str).Nodup from by decide +kernel) rfl (Or.inl rfl))) (λ_ _ _ _ _ _=>(CB (A6 GA (AM AN (AM AN (AB 1) AH (λ_ _=>rfl)) (AB 0) (λ_ _=>rfl)) CK (A3 _)))) (λ_ _ _ _ _ _=>(AB 0)))
   (AR (BD 5 FR.nd (AQ BC (AB 5) (CI (tn:=["r"]) (cn:=["view","led"]) (cap:=[0,1]) (BS (outer:=AK D6) (N:=["view","led","named","names","numbers","found","k","records"]) rfl rfl (by decide +kernel)) rfl (CJ (AB 7)) (λ_ _ _ _ _ _=>(BF (i:=0) (show(["r","view","led"]:List Str).Nodup from by decide +kernel) rfl (Or.inl rfl))) (λ_ _ _ _ _ _=>(CB (A6 LG (AM AN (AM AN (AM AN (AB 1) AH (λ_ _=>rfl)) (AB 0) (λ_ _=>rfl)) AH (λ_ _=>rfl)) (AM AN (AB 2) (AB 0) (λ_ _=>rfl)) (A3 _)))) (λ_ _ _ _ _ _=>(B6 (AE BV (AE (AB 0) AI)))))))
   (AR (BD 5 FR.nd (AQ BC (AB 5) (CI (tn:=["r"]) (cn:=["led","view"]) (cap:=[1,0]) (BS (outer:=AK D6) (N:=["view","led","named","names","numbers","found","k","records"]) rfl rfl (by decide +kernel)) rfl (CS rfl T.CP (AE (CG C1 rfl T.C4 (by rfl) (AE (AB 1) AI)) AI)) (λ_ _ _ _ _ _=>(BF (i:=0) (show(["r","led","view"]:List Str).Nodup from by decide +kernel) rfl (Or.inl rfl))) (λ_ _ _ _ _ _=>(CB (PW.pt (GQ (A6 ET (AM AN (AB 1) (AB 0) (λ_ _=>rfl)) AH (A3 _)) (GP (A6 (GW hr.units) (AM AN (AM AN (AB 2) AH (λ_ _=>rfl)) (AB 0) (λ_ _=>rfl)) AH (A3 _))))))) (λ_ _ _ _ _ _=>(B6 (AE BV (AE BV (AE (AB 0) AI))))))))
   (AX (BJ (AQ BC (AB 5) (CI (tn:=["p"]) (cn:=["named","view"]) (cap:=[2,0]) (BS (outer:=AK D6) (N:=["view","led","named","names","numbers","found","k","records"]) rfl rfl (by decide +kernel)) rfl (CS rfl T.CP (AE (CG C1 rfl T.C4 (by rfl) (AE (AB 2) AI)) AI)) (λ_ _ _ _ _ _=>(BF (i:=0) (show(["p","named","view"]:List Str).Nodup from by decide +kernel) rfl (Or.inl rfl))) (λ_ _ _ _ _ _=>(CB (PW.pt (GQ (A6 ET (AM AN (AB 1) (AB 0) (λ_ _=>rfl)) AH (A3 _)) (GP (A6 (GW hr.units) (AM AN (AM AN (AB 2) AH (λ_ _=>rfl)) (AB 0) (λ_ _=>rfl)) AH (A3 _))))))) (λ_ _ _ _ _ _=>(B6 (AE BV (AE BV (AE (AB 0) AI))))))))))))))))))
abbrev FE:Stmt:=BL 33
theorem KC:FnScope ["view","led","records","found","p","holders"] ["view","led"] (AK FE):=.go
theorem Cd(T:Txt K mg a)(F:Fun K "_law_leavings" "_law_leavings" FE f fd)  :
  FP P w K mg base 1 f fd ["view","led"] (MS K a) :=
 F.okF (QY K a) KC zV zU λ_ _ _ _ _ E hr hx=>(AR (DU (i:=2) (tn:=["r"]) (cn:=["view"]) (cap:=[0]) (BS (outer:=AK FE) (N:=["view","led","records","found","p","holders"]) rfl rfl (by decide +kernel)) rfl KC.nd rfl rfl (CS rfl T.CP (AE (CG C1 rfl T.C4 (by rfl) (AE (AB 1) AI)) AI)) (λ_ _ _ _ _ _=>(BF (i:=0) (show(["r","view"]:List Str).Nodup from by decide +kernel) rfl (Or.inl rfl))) (λ_ _ _ _ _ _=>(CB (A6 GA (AM AN (AM AN (AB 1) AH (λ_ _=>rfl)) (AB 0) (λ_ _=>rfl)) CK (A3 _)))) (λ_ _ _ _ _ _=>(AB 0)))
   (AR (DU (i:=3) (tn:=["r"]) (cn:=["led","view"]) (cap:=[1,0]) (BS (outer:=AK FE) (N:=["view","led","records","found","p","holders"]) rfl rfl (by decide +kernel)) rfl KC.nd rfl rfl (CJ (AB 2)) (λ_ _ _ _ _ _=>(BF (i:=0) (show(["r","led","view"]:List Str).Nodup from by decide +kernel) rfl (Or.inl rfl))) (λ_ _ _ _ _ _=>(CB (PW.pt (GQ (A6 ET (AM AN (AB 1) (AB 0) (λ_ _=>rfl)) AH (A3 _)) (GP (A6 ET (AM AN (AM AN (AM AN (AB 2) AH (λ_ _=>rfl)) (AB 0) (λ_ _=>rfl)) AH (λ_ _=>rfl)) (AM AN (AB 1) (AB 0) (λ_ _=>rfl)) (A3 _))))))) (λ_ _ _ _ _ _=>(B6 (AE BV (AE (AB 0) (AE (AM AN (AB 1) (AB 0) (λ_ _=>rfl)) AI))))))
   (AR (BD 3 KC.nd (AQ BC (AB 3) (CI (tn:=["r"]) (cn:=["led"]) (cap:=[1]) (BS (outer:=AK FE) (N:=["view","led","records","found","p","holders"]) rfl rfl (by decide +kernel)) rfl (CJ (AB 2)) (λ_ _ _ _ _ _=>(BF (i:=0) (show(["r","led"]:List Str).Nodup from by decide +kernel) rfl (Or.inl rfl))) (λ_ _ _ _ _ _=>(CB (A6 (CT hr.units) (AM AN (AB 1) (AB 0) (λ_ _=>rfl)) AH (A3 _)))) (λ_ _ _ _ _ _=>(B6 (AE BV (AE BV (AE (AB 0) AI))))))))
   (AR (DS hx.po rfl (CS rfl T.CP (AE (CG C1 rfl T.C4 (by rfl) (AE (AM AN (AB 0) AH (λ_ _=>rfl)) AI)) AI)) (BF (i:=4) KC.nd rfl (Or.inr rfl)) (AR (DU (i:=5) (tn:=["r"]) (cn:=["led","p","view"]) (cap:=[1,4,0]) (BS (outer:=AK FE) (N:=["view","led","records","found","p","holders"]) rfl rfl (by decide +kernel)) rfl KC.nd rfl rfl (CJ (AB 2)) (λ_ _ _ _ _ _=>(BF (i:=0) (show(["r","led","p","view"]:List Str).Nodup from by decide +kernel) rfl (Or.inl rfl))) (λ_ _ _ _ _ _=>(CB (PW.pt (GQ (A6 ET (AM AN (AB 1) (AB 0) (λ_ _=>rfl)) AH (A3 _)) (GP (A6 (U4 hr.units) (AB 2) (AM AN (AM AN (AM AN (AB 3) AH (λ_ _=>rfl)) (AB 0) (λ_ _=>rfl)) AH (λ_ _=>rfl)) (by with_unfolding_all rfl))))))) (λ_ _ _ _ _ _=>(AB 0)))
   (AX (CH (PW.pt (GQ (A6 (CT hr.units) (AM AN (AM AN (AB 0) AH (λ_ _=>rfl)) (AB 4) (λ_ _=>rfl)) AH (A3 _)) (GP (A6 (CT hr.units) (AB 5) (DH AI) (A3 _))))) (AX (D8 (FJ PySem.F.plainAttrs_list PySem.F.slot_list_append PySem.F.type_list_append GT (AB 3) (AE (B6 (AE BV (AE BV (AE (AB 4) AI)))) AI)))) CL))))
   (AX (BJ (AQ BC (AB 3) (CI (tn:=["r"]) (cn:=["view"]) (cap:=[0]) (BS (outer:=AK FE) (N:=["view","led","records","found","p","holders"]) rfl rfl (by decide +kernel)) rfl (CS rfl T.CP (AE (CG C1 rfl T.C4 (by rfl) (AE (AB 1) AI)) AI)) (λ_ _ _ _ _ _=>(BF (i:=0) (show(["r","view"]:List Str).Nodup from by decide +kernel) rfl (Or.inl rfl))) (λ_ _ _ _ _ _=>(CB (PW.pt (GQ (A6 (CT hr.units) (AM AN (AM AN (AB 1) AH (λ_ _=>rfl)) (AB 0) (λ_ _=>rfl)) AH (A3 _)) (GP (A6 JA (AM AN (AM AN (AB 1) AH (λ_ _=>rfl)) (AB 0) (λ_ _=>rfl)) CK (A3 _))))))) (λ_ _ _ _ _ _=>(B6 (AE BV (AE (AB 0) AI))))))))))))
abbrev KD:Stmt:=BL 34
theorem KE:FnScope ["view","led","named","cell","p"] ["view"] (AK KD):=.go
theorem Cg(T:Txt K mg a)(F:Fun K "_law_counted" "_law_counted" KD f fd)  :
  FP P w K mg base 1 f fd ["view"] (MQ K a) :=
 F.okF (QZ K a) KE zL zK λ_ _ _ _ _ E hr hx=>(AR (BD 1 KE.nd (AQ DC (DH (AE AH AI)) (CG C1 rfl T.C4 (by rfl) (AE (AM AN (AB 0) AH (λ_ _=>rfl)) AI))))
   (AR (BD 2 KE.nd (AQ DC (DH (AE AH AI)) (CG C1 rfl T.C4 (by rfl) (AE (AM AN (AB 0) AH (λ_ _=>rfl)) AI))))
   (AR (DS hx.po rfl (CJ (AM AN (AB 0) AH (λ_ _=>rfl))) (DP 3 KE.nd) (AX (CH (A6 GA (AB 3) CK (A3 _)) (AX (K4 (AQ BC (AM AN (AB 1) (AM AN (AB 3) AH (λ_ _=>rfl)) (λ_ _=>rfl)) AH) (NE (AB 1) (AM AN (AB 3) AH (λ_ _=>rfl)) LH))) CL)))
   (AR (DS hx.po rfl (CJ (AM AN (AB 0) AH (λ_ _=>rfl))) (DP 3 KE.nd) (AX (CH (A6 GA (AB 3) CK (A3 _)) (AX (DS hx.po rfl (CJ (AM AN (AB 3) AH (λ_ _=>rfl))) (DP 4 KE.nd) (AX (K4 (AQ BC (AM AN (AB 2) (AB 4) (λ_ _=>rfl)) AH) (NE (AB 2) (AB 4) LH))))) CL)))
   (AX (BJ (B6 (AE (AB 1) (AE (AB 2) AI)))))))))
abbrev KF:Stmt:=BL 35
theorem R0:FnScope ["found","due","find","part"] ["found","due"] (AK KF):=.go
theorem Cj(T:Txt K mg a)(F:Fun K "_law_alike" "_law_alike" KF f fd)  :
  FP P w K mg base 1 f fd ["found","due"] (JT K a) :=
 F.okF (Q0 K a) R0 zY zX λ_ _ _ _ _ E hr hx=>(AR (CH (PW.pt (IY (HE (HH (CG LK rfl T.M7 (by rfl) (AE (AB 0) (AE (K2 rfl T.SC (by rfl) rfl) AI))) (λ_=>rfl))) (K3 (A6 (GW hr.units) (AB 0) (AB 1) (A3 _))))) (AX (BJ IW)) CL)
   (AR (DS hx.po rfl (CJ (AB 0)) (DP 2 R0.nd) (AX (DS hx.po rfl (CJ (NK NP (AB 2) (K9 AH) OQ)) (DP 3 R0.nd) (AX (CH (PW.pt (GQ (HE (HH (CG LK rfl T.M7 (by rfl) (AE (AB 3) (AE (K2 rfl T.Gz (by rfl) rfl) AI))) (λ_=>rfl))) (GP (PW.pt (IY (HE (HH (CG LK rfl T.M7 (by rfl) (AE (AB 3) (AE (K2 rfl T.SB (by rfl) rfl) AI))) (λ_=>rfl))) (K3 (HH (CG LK rfl T.M7 (by rfl) (AE (AB 3) (AE (K2 rfl T.c7 (by rfl) rfl) AI))) (λ_=>rfl)))))))) (AX (BJ IW)) CL)))))
   (AX (BJ IW))))
abbrev GK:Stmt:=BL 6
theorem N7:FnScope ["view","shared","empty","few"] ["view"] (AK GK):=.go
theorem Ck(T:Txt K mg a)(F:Fun K "faults_of_things" "faults_of_things" GK f fd)(OB:B4 P w K mg base (a "View") 1 "pieces_named" ["self"] (G8 K a))(R9:B4 P w K mg base (a "View") 1 "records_standing" ["self"] (HW K a))(R8:B4 P w K mg base (a "View") 1 "count_of" ["self","record"] (HX K a)) :
  FP P w K mg base 2 f fd ["view"] (MB K a) :=
 F.okF (Q1 K a) N7 xP xO λ_ _ _ _ _ E hr hx=>(AR (DU (i:=1) (tn:=["piece"]) (cn:=["view"]) (cap:=[0]) (BS (outer:=AK GK) (N:=["view","shared","empty","few"]) rfl rfl (by decide +kernel)) rfl N7.nd rfl rfl (CJ (EI (AB 0) T.GN OB hr.m hx.passes)) (λ_ _ _ _ _ _=>(BF (i:=0) (show(["piece","view"]:List Str).Nodup from by decide +kernel) rfl (Or.inl rfl))) (λ_ _ _ _ _ _=>(CB (A6 ET (AM AN (BQ (AB 1) rfl) (AB 0) (λ_ _=>rfl)) AH (A3 _)))) (λ_ _ _ _ _ _=>(B6 (AE BV (AE (AB 0) AI)))))
   (AR (DU (i:=2) (tn:=["piece"]) (cn:=["view"]) (cap:=[0]) (BS (outer:=AK GK) (N:=["view","shared","empty","few"]) rfl rfl (by decide +kernel)) rfl N7.nd rfl rfl (CJ (EI (AB 0) T.GN OB hr.m hx.passes)) (λ_ _ _ _ _ _=>(BF (i:=0) (show(["piece","view"]:List Str).Nodup from by decide +kernel) rfl (Or.inl rfl))) (λ_ _ _ _ _ _=>(CB (A6 JA (AM AN (BQ (AB 1) rfl) (AB 0) (λ_ _=>rfl)) CK (A3 _)))) (λ_ _ _ _ _ _=>(B6 (AE BV (AE (AB 0) AI)))))
   (AR (DU (i:=3) (tn:=["record"]) (cn:=["view"]) (cap:=[0]) (BS (outer:=AK GK) (N:=["view","shared","empty","few"]) rfl rfl (by decide +kernel)) rfl N7.nd rfl rfl (CJ (EI (AB 0) T.GN R9 hr.m hx.passes)) (λ_ _ _ _ _ _=>(BF (i:=0) (show(["record","view"]:List Str).Nodup from by decide +kernel) rfl (Or.inl rfl))) (λ_ _ _ _ _ _=>(CB (A6 LG (DO (AB 1) T.GN R8 hr.m GU (AE (AB 0) AI)) (AM AN (BQ (AB 1) rfl) (AB 0) (λ_ _=>rfl)) (A3 _)))) (λ_ _ _ _ _ _=>(B6 (AE BV (AE (AB 0) AI)))))
   (AX (BJ (AQ BC (AQ BC (AB 1) (AB 2)) (AB 3)))))))
abbrev GL:Stmt:=BL 7
theorem N8:FnScope ["view","led_to","records","pieces"] ["view"] (AK GL):=.go
theorem Cl(T:Txt K mg a)(F:Fun K "faults_of_marks" "faults_of_marks" GL f fd)(OB:B4 P w K mg base (a "View") 1 "pieces_named" ["self"] (G8 K a)) :
  FP P w K mg base 2 f fd ["view"] (MC K a) :=
 F.okF (Q2 K a) N8 xN xM λ_ _ _ _ _ E hr hx=>(AR (DU (i:=1) (tn:=["record","many"]) (cn:=[]) (cap:=[]) (BS (outer:=AK GL) (N:=["view","led_to","records","pieces"]) rfl rfl (by decide +kernel)) rfl N8.nd rfl rfl (HS rfl T.IS (AE (BQ (AB 0) rfl) AI)) (λ_ _ _ _ _ _=>(FY rfl (DL (BF (i:=0) (show(["record","many"]:List Str).Nodup from by decide +kernel) rfl (Or.inl rfl)) (DL (BF (i:=1) (show(["record","many"]:List Str).Nodup from by decide +kernel) rfl (Or.inl rfl)) FX)))) (λ_ _ _ _ _ _=>(CB (A6 ET (AB 1) AH (A3 _)))) (λ_ _ _ _ _ _=>(AB 0)))
   (AR (DU (i:=2) (tn:=["record"]) (cn:=["view"]) (cap:=[0]) (BS (outer:=AK GL) (N:=["view","led_to","records","pieces"]) rfl rfl (by decide +kernel)) rfl N8.nd rfl rfl (CJ (AB 1)) (λ_ _ _ _ _ _=>(BF (i:=0) (show(["record","view"]:List Str).Nodup from by decide +kernel) rfl (Or.inl rfl))) (λ_ _ _ _ _ _=>(CB (A6 (GW hr.units) (AM AN (BQ (AB 1) rfl) (AB 0) (λ_ _=>rfl)) AH (A3 _)))) (λ_ _ _ _ _ _=>(B6 (AE BV (AE BV (AE (AB 0) AI))))))
   (AR (DU (i:=3) (tn:=["piece"]) (cn:=["view"]) (cap:=[0]) (BS (outer:=AK GL) (N:=["view","led_to","records","pieces"]) rfl rfl (by decide +kernel)) rfl N8.nd rfl rfl (CJ (EI (AB 0) T.GN OB hr.m hx.passes)) (λ_ _ _ _ _ _=>(BF (i:=0) (show(["piece","view"]:List Str).Nodup from by decide +kernel) rfl (Or.inl rfl))) (λ_ _ _ _ _ _=>(CB (A6 (GW hr.units) (AM AN (BQ (AB 1) rfl) (AB 0) (λ_ _=>rfl)) AH (A3 _)))) (λ_ _ _ _ _ _=>(B6 (AE BV (AE BV (AE (AB 0) AI))))))
   (AX (BJ (AQ BC (AB 2) (AB 3)))))))
abbrev KG:Stmt:=BL 9
theorem M4:FnScope ["view","many","left","record","leads"] ["view"] (AK KG):=.go
theorem Cm(T:Txt K mg a)(F:Fun K "leavings_of_records" "leavings_of_records" KG f fd)(R9:B4 P w K mg base (a "View") 1 "records_standing" ["self"] (HW K a))(R8:B4 P w K mg base (a "View") 1 "count_of" ["self","record"] (HX K a)) :
  FP P w K mg base 2 f fd ["view"] (MD K a) :=
 F.okF (Q3 K a) M4 xS xR λ_ _ _ _ _ E hr hx=>(AR (BD 1 M4.nd (DH AI))
   (AR (BD 2 M4.nd (DH AI))
   (AR (DS hx.po rfl (CJ (EI (AB 0) T.GN R9 hr.m hx.passes)) (DP 3 M4.nd) (AR (BD 4 M4.nd (AM AN (BQ (AB 0) rfl) (AB 3) (λ_ _=>rfl)))
   (AX (CH (A6 (CT hr.units) (AB 4) AH (A3 _)) (AX (D8 (FJ PySem.F.plainAttrs_list PySem.F.slot_list_append PySem.F.type_list_append GT (AB 2) (AE (B6 (AE BV (AE BV (AE (AB 3) AI)))) AI)))) (AX (CH (A6 ET (DO (AB 0) T.GN R8 hr.m hx.passes (AE (AB 3) AI)) (AB 4) (A3 _)) (AX (D8 (FJ PySem.F.plainAttrs_list PySem.F.slot_list_append PySem.F.type_list_append GT (AB 1) (AE (B6 (AE BV (AE (AB 3) (AE (AB 4) AI)))) AI)))) CL))))))
   (AX (BJ (AQ BC (AB 1) (AB 2)))))))
abbrev KH:Stmt:=C8 (BL 19) 4
theorem Cp:FnScope ["self","block"] ["self","block"] (AK KH):=.go
theorem Cq(T:Txt K mg a)(F:Fun K "read" "Plank.read" KH f fd)(R6:B4 P w K mg base (a "Plank") 1 "ask_for_block" ["self","block"] (GF K a)) :
  FP P w K mg base 2 f fd ["self","block"] (HU K a) :=
 F.okF (Q4 K a) Cp vS vM λ_ _ _ _ _ E hr hx=>(AR (D8 (DO (AB 0) T.IT R6 hr.m hx.passes (AE (AB 1) AI)))
   (AX (BJ (JC UM rfl T.SC (by rfl) (AE (AM AN (BQ (AB 0) rfl) (AB 1) (λ_ _=>rfl)) AI)))))
abbrev KI:Stmt:=C8 (BL 19) 5
theorem Cv:FnScope ["self","block","values"] ["self","block","values"] (AK KI):=.go
theorem Cw(T:Txt K mg a)(F:Fun K "write" "Plank.write" KI f fd)(R6:B4 P w K mg base (a "Plank") 1 "ask_for_block" ["self","block"] (GF K a)) :
  FP P w K mg base 2 f fd ["self","block","values"] (LS K a) :=
 F.okF (Q5 K a) Cv vT vN λ_ _ _ _ _ E hr hx=>(AR (D8 (DO (AB 0) T.IT R6 hr.m hx.passes (AE (AB 1) AI)))
   (AR (CH (A6 (GW hr.units) (CG C1 rfl T.C4 (by rfl) (AE (AB 2) AI)) (BQ (AB 0) rfl) (A3 _)) (AX (UK hx T.dA rfl T.c9 (AE BV AI))) CL)
   (AR (K4 (JC UN rfl T.c8 (by rfl) (AE (AB 2) AI)) (NE (BQ (AB 0) rfl) (AB 1) LH))
   (AX (fH (AB 0) AH SY)))))
abbrev KJ:Stmt:=C8 (BL 21) 1
theorem Cy:FnScope ["self","k"] ["self","k"] (AK KJ):=.go
theorem Cz(T:Txt K mg a)(F:Fun K "name_at" "Layout.name_at" KJ f fd)(GM:B4 P w K mg base (a "Layout") 1 "place_from" ["self","block","k"] (EJ K a)) :
  FP P w K mg base 2 f fd ["self","k"] (LU K a) :=
 F.okF (Q6 K a) Cy wH v6 λ_ _ _ _ _ E hr hx=>(AX (BJ (DO (AB 0) T.DQ GM hr.m hx.passes (AE AH (AE (AB 1) AI)))))
abbrev KK:Stmt:=C8 (BL 21) 2
theorem Db:FnScope ["self","k"] ["self","k"] (AK KK):=.go
theorem Dc(T:Txt K mg a)(F:Fun K "record_at" "Layout.record_at" KK f fd)(GM:B4 P w K mg base (a "Layout") 1 "place_from" ["self","block","k"] (EJ K a)) :
  FP P w K mg base 2 f fd ["self","k"] (LW K a) :=
 F.okF (Q7 K a) Db wI v7 λ_ _ _ _ _ E hr hx=>(AX (BJ (DO (AB 0) T.DQ GM hr.m hx.passes (AE (BQ (AB 0) rfl) (AE (AB 1) AI)))))
abbrev KL:Stmt:=C8 (BL 21) 3
theorem Dd:FnScope ["self","k"] ["self","k"] (AK KL):=.go
theorem Dg(T:Txt K mg a)(F:Fun K "piece_at" "Layout.piece_at" KL f fd)(GM:B4 P w K mg base (a "Layout") 1 "place_from" ["self","block","k"] (EJ K a)) :
  FP P w K mg base 2 f fd ["self","k"] (LX K a) :=
 F.okF (Q8 K a) Dd wJ v8 λ_ _ _ _ _ E hr hx=>(AX (BJ (DO (AB 0) T.DQ GM hr.m hx.passes (AE (AQ BC (BQ (AB 0) rfl) (BQ (AB 0) rfl)) (AE (AB 1) AI)))))
abbrev KM:Stmt:=C8 (BL 21) 4
theorem Dh:FnScope ["self","k"] ["self","k"] (AK KM):=.go
theorem Dj(T:Txt K mg a)(F:Fun K "record_mark" "Layout.record_mark" KM f fd)(M6:B4 P w K mg base (a "Layout") 1 "blocks_ahead_of_marks" ["self"] (GG K a))(GM:B4 P w K mg base (a "Layout") 1 "place_from" ["self","block","k"] (EJ K a)) :
  FP P w K mg base 2 f fd ["self","k"] (LY K a) :=
 F.okF (Q9 K a) Dh wK v9 λ_ _ _ _ _ E hr hx=>(AX (BJ (DO (AB 0) T.DQ GM hr.m hx.passes (AE (EI (AB 0) T.DQ M6 hr.m hx.passes) (AE (AB 1) AI)))))
abbrev KN:Stmt:=C8 (BL 21) 5
theorem Dk:FnScope ["self","k"] ["self","k"] (AK KN):=.go
theorem Dl(T:Txt K mg a)(F:Fun K "piece_mark" "Layout.piece_mark" KN f fd)(M6:B4 P w K mg base (a "Layout") 1 "blocks_ahead_of_marks" ["self"] (GG K a))(GM:B4 P w K mg base (a "Layout") 1 "place_from" ["self","block","k"] (EJ K a)) :
  FP P w K mg base 2 f fd ["self","k"] (LZ K a) :=
 F.okF (RA K a) Dk wM wA λ_ _ _ _ _ E hr hx=>(AX (BJ (DO (AB 0) T.DQ GM hr.m hx.passes (AE (AQ BC (EI (AB 0) T.DQ M6 hr.m hx.passes) (BQ (AB 0) rfl)) (AE (AB 1) AI)))))
abbrev KO:Stmt:=C8 (BL 21) 7
theorem Dm:FnScope ["self"] ["self"] (AK KO):=.go
theorem Dp(T:Txt K mg a)(F:Fun K "blocks" "Layout.blocks" KO f fd)(M6:B4 P w K mg base (a "Layout") 1 "blocks_ahead_of_marks" ["self"] (GG K a)) :
  FP P w K mg base 2 f fd ["self"] (L4 K a) :=
 F.okF (RB K a) Dm wO wC λ_ _ _ _ _ E hr hx=>(AX (BJ (AQ BC (AQ BC (EI (AB 0) T.DQ M6 hr.m hx.passes) (BQ (AB 0) rfl)) (BQ (AB 0) rfl))))
abbrev IL:Stmt:=BL 25
theorem EZ:FnScope ["cell","many","letters","xs","size","first","second","names","k","word","j","step"] ["cell","many"] (AK IL):=.go
theorem Dq(T:Txt K mg a)(F:Fun K "_law_names" "_law_names" IL f fd)(IR:B3 P w K mg base (1) "_law_spun" ["cell","many"] (E9 K a)) :
  FP P w K mg base 2 f fd ["cell","many"] (MK K a) :=
 F.okF (RC K a) EZ yW yV λ_ _ _ _ _ E hr hx=>(AR (FZ (i:=2) EZ.nd rfl (Or.inr rfl) BV)
   (AR (FZ (i:=3) EZ.nd rfl (Or.inr rfl) (BU IR hr.m hx.passes rfl (AE (AQ E4 (AB 0) AH) (AE AH AI))))
   (AR (CH (A6 (CT hr.units) (AQ BZ (AB 0) AH) AH (A3 _)) (AX (BJ (CI (tn:=["k"]) (cn:=["letters","xs"]) (cap:=[2,3]) (BS (outer:=AK IL) (N:=["cell","many","letters","xs","size","first","second","names","k","word","j","step"]) rfl rfl (by decide +kernel)) rfl (CS rfl T.CP (AE (AB 1) AI)) (λ_ _ _ _ _ _=>(BF (i:=0) (show(["k","letters","xs"]:List Str).Nodup from by decide +kernel) rfl (Or.inl rfl))) (λ_ _ _ _ _ _=>EA) (λ_ _ _ _ _ _=>(AQ DC (AM AN (AB 1) (AQ BZ (AQ BC (AM AN (AB 2) AH (λ_ _=>rfl)) (AQ E4 (AB 0) AH)) AH) (λ_ _=>rfl)) (AQ BC AH (AQ BZ (AB 0) AH))))))) CL)
   (AR (BD 4 EZ.nd (AQ BC AH (AQ BZ (AM AN (AB 3) AH (λ_ _=>rfl)) AH)))
   (AR (BD 5 EZ.nd (AQ BZ (AM AN (AB 3) AH (λ_ _=>rfl)) (AB 4)))
   (AR (BD 6 EZ.nd (AQ BZ (AQ BC (AQ BC (AB 5) AH) (AQ BZ (AM AN (AB 3) AH (λ_ _=>rfl)) (AQ SL (AB 4) AH))) (AB 4)))
   (AR (BD 7 EZ.nd (DH AI))
   (AR (DS hx.po rfl (CS rfl T.CP (AE (AB 1) AI)) (DP 8 EZ.nd) (AR (BD 9 EZ.nd BV)
   (AR (DS hx.po rfl (CS rfl T.CP (AE (AB 4) AI)) (DP 10 EZ.nd) (AR (BD 11 EZ.nd (AQ BC (AQ DC (AB 8) (JC ST rfl T.SB (by rfl) (AE (K6 (CT hr.units) (AB 10) (AB 5) (A3 _)) AI))) (AQ DC (AQ E4 (AB 8) AH) (JC ST rfl T.SB (by rfl) (AE (K6 (CT hr.units) (AB 10) (AB 6) (A3 _)) AI)))))
   (AX (BD 9 EZ.nd (AQ BC (AB 9) (AM AN (AB 2) (AQ BZ (AQ BC (AM AN (AB 3) (AQ BC AH (AB 10)) (λ_ _=>rfl)) (AB 11)) AH) (λ_ _=>rfl)))))))
   (AX (D8 (FJ PySem.F.plainAttrs_list PySem.F.slot_list_append PySem.F.type_list_append GT (AB 7) (AE (AB 9) AI)))))))
   (AX (BJ (AB 7)))))))))))
abbrev IM:Stmt:=BL 26
theorem KP:FnScope ["cell","signs","xs","size"] ["cell"] (AK IM):=.go
theorem Dv(T:Txt K mg a)(F:Fun K "_law_text" "_law_text" IM f fd)(IR:B3 P w K mg base (1) "_law_spun" ["cell","many"] (E9 K a)) :
  FP P w K mg base 2 f fd ["cell"] (MI K a) :=
 F.okF (RE K a) KP yU yT λ_ _ _ _ _ E hr hx=>(AR (FZ (i:=1) KP.nd rfl (Or.inr rfl) BV)
   (AR (FZ (i:=1) KP.nd rfl (Or.inr rfl) (AQ BC (AB 1) BV))
   (AR (FZ (i:=2) KP.nd rfl (Or.inr rfl) (BU IR hr.m hx.passes rfl (AE (AB 0) (AE AH AI))))
   (AR (BD 3 KP.nd (AQ BC AH (AQ BZ (AM AN (AB 2) AH (λ_ _=>rfl)) AH)))
   (AR (CH (A6 (CT hr.units) (AQ BZ (AQ E4 (AM AN (AB 2) AH (λ_ _=>rfl)) AH) AH) AH (A3 _)) (AX (BD 3 KP.nd AH)) CL)
   (AX (BJ (FJ PySem.F.plainAttrs_str PySem.F.slot_str_join PySem.F.type_str_join mQ BV (AE (CI (tn:=["k"]) (cn:=["signs","xs"]) (cap:=[1,2]) (BS (outer:=AK IM) (N:=["cell","signs","xs","size"]) rfl rfl (by decide +kernel)) rfl (CS rfl T.CP (AE (AB 3) AI)) (λ_ _ _ _ _ _=>(BF (i:=0) (show(["k","signs","xs"]:List Str).Nodup from by decide +kernel) rfl (Or.inl rfl))) (λ_ _ _ _ _ _=>EA) (λ_ _ _ _ _ _=>(AM AN (AB 1) (AQ BZ (AQ BC (AM AN (AB 2) AH (λ_ _=>rfl)) (AQ DC (AB 0) (AM AN (AB 2) AH (λ_ _=>rfl)))) AH) (λ_ _=>rfl)))) AI)))))))))
abbrev KQ:Stmt:=BL 27
theorem R1:FnScope ["cell","xs","most"] ["cell"] (AK KQ):=.go
theorem Dw(T:Txt K mg a)(F:Fun K "_law_layout" "_law_layout" KQ f fd)(IR:B3 P w K mg base (1) "_law_spun" ["cell","many"] (E9 K a)) :
  FP P w K mg base 2 f fd ["cell"] (MJ K a) :=
 F.okF (RG K a) R1 yS yR λ_ _ _ _ _ E hr hx=>(AR (BD 1 R1.nd (BU IR hr.m hx.passes rfl (AE (AQ E4 (AB 0) AH) (AE AH AI))))
   (AR (BD 2 R1.nd (dY (A6 (CT hr.units) (AQ BZ (AQ E4 (AB 0) AH) AH) AH (A3 _)) AH AH))
   (AX (BJ (B6 (AE (AQ BC AH (AQ BZ (AM AN (AB 1) AH (λ_ _=>rfl)) (AB 2))) (AE (AQ BC AH (AQ BZ (AM AN (AB 1) AH (λ_ _=>rfl)) (AB 2))) (AE (AQ BC AH (AQ BZ (AM AN (AB 1) AH (λ_ _=>rfl)) (AB 2))) (AE (AQ BC AH (AQ BZ (AB 0) AH)) AI)))))))))
abbrev KR:Stmt:=BL 4
theorem Dx:FnScope ["view"] ["view"] (AK KR):=.go
theorem Dy(T:Txt K mg a)(F:Fun K "faults_in" "faults_in" KR f fd)(Fb:B3 P w K mg base (1) "faults_of_names" ["view"] (MA K a))(Fc:B3 P w K mg base (2) "faults_of_things" ["view"] (MB K a))(Ez:B3 P w K mg base (2) "faults_of_marks" ["view"] (MC K a)) :
  FP P w K mg base 3 f fd ["view"] (HY K a) :=
 F.okF (RH K a) Dx xJ xI λ_ _ _ _ _ E hr hx=>(AX (BJ (AQ BC (AQ BC (BU Fb hr.m hx.passes rfl (AE (AB 0) AI)) (BU Fc hr.m hx.passes rfl (AE (AB 0) AI))) (BU Ez hr.m hx.passes rfl (AE (AB 0) AI)))))
abbrev KS:Stmt:=BL 8
theorem Dz:FnScope ["view"] ["view"] (AK KS):=.go
theorem Eb(T:Txt K mg a)(F:Fun K "leavings_in" "leavings_in" KS f fd)(Fy:B3 P w K mg base (2) "leavings_of_records" ["view"] (MD K a))(Fz:B3 P w K mg base (1) "left_pieces" ["view"] (ME K a))(Gb:B3 P w K mg base (1) "marked_records" ["view"] (MF K a)) :
  FP P w K mg base 3 f fd ["view"] (MG K a) :=
 F.okF (RI K a) Dz xL xK λ_ _ _ _ _ E hr hx=>(AX (BJ (AQ BC (AQ BC (BU Fy hr.m hx.passes rfl (AE (AB 0) AI)) (BU Fz hr.m hx.passes rfl (AE (AB 0) AI))) (BU Gb hr.m hx.passes rfl (AE (AB 0) AI)))))
abbrev IN:Stmt:=BL 12
theorem Ec:FnScope ["plank","places"] ["plank","places"] (AK IN):=.go
theorem Ed(T:Txt K mg a)(F:Fun K "values_at" "values_at" IN f fd)(R7:B4 P w K mg base (a "Plank") 2 "read" ["self","block"] (HU K a)) :
  FP P w K mg base 3 f fd ["plank","places"] (FO K a) :=
 F.okF (RJ K a) Ec xW xV λ_ _ _ _ _ E hr hx=>(AX (BJ (CI (tn:=["block","cell"]) (cn:=["plank"]) (cap:=[0]) (BS (outer:=AK IN) (N:=["plank","places"]) rfl rfl (by decide +kernel)) rfl (CJ (AB 1)) (λ_ _ _ _ _ _=>(FY rfl (DL (BF (i:=0) (show(["block","cell","plank"]:List Str).Nodup from by decide +kernel) rfl (Or.inl rfl)) (DL (BF (i:=1) (show(["block","cell","plank"]:List Str).Nodup from by decide +kernel) rfl (Or.inl rfl)) FX)))) (λ_ _ _ _ _ _=>EA) (λ_ _ _ _ _ _=>(AM AN (DO (AB 2) T.IT R7 hr.m GU (AE (AB 0) AI)) (AB 1) (λ_ _=>rfl))))))
abbrev KU:Stmt:=C8 (BL 21) 8
theorem Eg:FnScope ["self"] ["self"] (AK KU):=.go
theorem Eh(T:Txt K mg a)(F:Fun K "plank" "Layout.plank" KU f fd)(Gc:B4 P w K mg base (a "Layout") 2 "blocks" ["self"] (L4 K a))(Gy:LD P w K mg base (a "Plank") 1 "Plank" ["self","blocks","cells"] (LQ K a)) :
  FP P w K mg base 3 f fd ["self"] (L7 K a) :=
 F.okF (RK K a) Eg wQ wE λ_ _ _ _ _ E hr hx=>(AX (BJ (NO Gy hr.m hx.passes rfl (AE (EI (AB 0) T.DQ Gc hr.m hx.passes) (AE (BQ (AB 0) rfl) AI)))))
abbrev KW:Stmt:=BL 29
theorem FS:FnScope ["view","cell","names","xs","kind","where","value"] ["view","cell","names"] (AK KW):=.go
theorem Ej(T:Txt K mg a)(F:Fun K "_law_put" "_law_put" KW f fd)(IR:B3 P w K mg base (1) "_law_spun" ["cell","many"] (E9 K a))(Fp:B3 P w K mg base (1) "_law_record" ["xs","pieces"] (ML K a))(Fv:B3 P w K mg base (2) "_law_text" ["cell"] (MI K a)) :
  FP P w K mg base 3 f fd ["view","cell","names"] (MN K a) :=
 F.okF (RM K a) FS zA y7 λ_ _ _ _ _ E hr hx=>(AR (BD 3 FS.nd (BU IR hr.m hx.passes rfl (AE (AQ E4 (AB 1) AH) (AE AH AI))))
   (AR (BD 4 FS.nd (AQ BZ (AB 1) AH))
   (AR (BD 5 FS.nd (AM AN (AB 0) (AM AN (DH (AE AH (AE AH (AE AH (AE AH (AE AH (AE AH AI))))))) (AB 4) (λ_ _=>rfl)) (λ_ _=>rfl)))
   (AR (BD 6 FS.nd (AM AN (DH (AE CK (AE AH (AE AH (AE AH AI))))) (AQ BZ (AM AN (AB 3) AH (λ_ _=>rfl)) AH) (λ_ _=>rfl)))
   (AR (CH (A6 (CT hr.units) (AB 4) AH (A3 _)) (AR (BD 6 FS.nd (B6 (AE (AM AN (AB 2) (AQ BZ (AM AN (AB 3) AH (λ_ _=>rfl)) AH) (λ_ _=>rfl)) (AE (AQ BZ (AM AN (AB 3) AH (λ_ _=>rfl)) (CG C1 rfl T.C4 (by rfl) (AE (AM AN (AB 0) AH (λ_ _=>rfl)) AI))) AI))))
   (AX (CH (A6 (CT hr.units) (AQ BZ (AM AN (AB 3) AH (λ_ _=>rfl)) AH) AH (A3 _)) (AX (BD 6 FS.nd CK)) CL))) CL)
   (AR (CH (PW.pt (IY (A6 (CT hr.units) (AB 4) AH (A3 _)) (K3 (A6 (CT hr.units) (AB 4) AH (A3 _))))) (AX (BD 6 FS.nd (BU Fp hr.m hx.passes rfl (AE (AB 3) (AE (CG C1 rfl T.C4 (by rfl) (AE (AM AN (AB 0) AH (λ_ _=>rfl)) AI)) AI))))) CL)
   (AR (CH (A6 (CT hr.units) (AB 4) AH (A3 _)) (AR (BD 6 FS.nd (BU Fv hr.m hx.passes rfl (AE (AM AN (AB 3) AH (λ_ _=>rfl)) AI)))
   (AX (CH (A6 (CT hr.units) (AQ BZ (AM AN (AB 3) AH (λ_ _=>rfl)) AH) AH (A3 _)) (AX (BD 6 FS.nd CK)) CL))) CL)
   (AX (K4 (AB 6) (NE (AB 5) (AQ BZ (AM AN (AB 3) AH (λ_ _=>rfl)) (CG C1 rfl T.C4 (by rfl) (AE (AB 5) AI))) LH))))))))))
abbrev E3:Stmt:=C8 (BL 1) 0
theorem N9:FnScope ["self","layout","plank","counts","records","pieces"] ["self","layout","plank"] (AK E3):=.go
theorem Ek(T:Txt K mg a)(F:Fun K "__init__" "View.__init__" E3 f fd)(Gd:B4 P w K mg base (a "Layout") 1 "counts" ["self"] (L6 K a))(Gg:B4 P w K mg base (a "Layout") 2 "name_at" ["self","k"] (LU K a))(M5:B3 P w K mg base (3) "values_at" ["plank","places"] (FO K a))(Gm:B4 P w K mg base (a "Layout") 2 "record_at" ["self","k"] (LW K a))(Gh:B4 P w K mg base (a "Layout") 2 "piece_at" ["self","k"] (LX K a))(Gp:B4 P w K mg base (a "Layout") 2 "record_mark" ["self","k"] (LY K a))(Gj:B4 P w K mg base (a "Layout") 2 "piece_mark" ["self","k"] (LZ K a))(R5:B3 P w K mg base (1) "tally" ["many","numbers"] (HV K a))(c0:B3 P w K mg base (1) "pieces_in" ["records"] (JR K a))(Gw:B4 P w K mg base (a "View") 1 "records_led_to" ["self"] (L9 K a)) :
  FP P w K mg base 4 f fd ["self","layout","plank"] (HA K a) :=
 F.okF (RN K a) N9 yC yB λ_ _ _ _ _ E hr hx=>(AR (BD 3 N9.nd (EI (AB 1) T.DQ Gd hr.m hx.passes))
   (AR (BD 4 N9.nd (AM AN (AB 3) AH (λ_ _=>rfl)))
   (AR (BD 5 N9.nd (AM AN (AB 3) AH (λ_ _=>rfl)))
   (AR (DZ (AB 0) (BU M5 hr.m hx.passes rfl (AE (AB 2) (AE (CI (tn:=["k"]) (cn:=["layout"]) (cap:=[1]) (BS (outer:=AK E3) (N:=["self","layout","plank","counts","records","pieces"]) rfl rfl (by decide +kernel)) rfl (CS rfl T.CP (AE (AM AN (AB 3) AH (λ_ _=>rfl)) AI)) (λ_ _ _ _ _ _=>(BF (i:=0) (show(["k","layout"]:List Str).Nodup from by decide +kernel) rfl (Or.inl rfl))) (λ_ _ _ _ _ _=>EA) (λ_ _ _ _ _ _=>(DO (AB 1) T.DQ Gg hr.m GU (AE (AB 0) AI)))) AI))) rfl)
   (AR (DZ (AB 0) (BU M5 hr.m hx.passes rfl (AE (AB 2) (AE (CI (tn:=["k"]) (cn:=["layout"]) (cap:=[1]) (BS (outer:=AK E3) (N:=["self","layout","plank","counts","records","pieces"]) rfl rfl (by decide +kernel)) rfl (CS rfl T.CP (AE (AB 4) AI)) (λ_ _ _ _ _ _=>(BF (i:=0) (show(["k","layout"]:List Str).Nodup from by decide +kernel) rfl (Or.inl rfl))) (λ_ _ _ _ _ _=>EA) (λ_ _ _ _ _ _=>(DO (AB 1) T.DQ Gm hr.m GU (AE (AB 0) AI)))) AI))) rfl)
   (AR (DZ (AB 0) (BU M5 hr.m hx.passes rfl (AE (AB 2) (AE (CI (tn:=["k"]) (cn:=["layout"]) (cap:=[1]) (BS (outer:=AK E3) (N:=["self","layout","plank","counts","records","pieces"]) rfl rfl (by decide +kernel)) rfl (CS rfl T.CP (AE (AB 5) AI)) (λ_ _ _ _ _ _=>(BF (i:=0) (show(["k","layout"]:List Str).Nodup from by decide +kernel) rfl (Or.inl rfl))) (λ_ _ _ _ _ _=>EA) (λ_ _ _ _ _ _=>(DO (AB 1) T.DQ Gh hr.m GU (AE (AB 0) AI)))) AI))) rfl)
   (AR (DZ (AB 0) (BU M5 hr.m hx.passes rfl (AE (AB 2) (AE (CI (tn:=["k"]) (cn:=["layout"]) (cap:=[1]) (BS (outer:=AK E3) (N:=["self","layout","plank","counts","records","pieces"]) rfl rfl (by decide +kernel)) rfl (CS rfl T.CP (AE (AB 4) AI)) (λ_ _ _ _ _ _=>(BF (i:=0) (show(["k","layout"]:List Str).Nodup from by decide +kernel) rfl (Or.inl rfl))) (λ_ _ _ _ _ _=>EA) (λ_ _ _ _ _ _=>(DO (AB 1) T.DQ Gp hr.m GU (AE (AB 0) AI)))) AI))) rfl)
   (AR (DZ (AB 0) (BU M5 hr.m hx.passes rfl (AE (AB 2) (AE (CI (tn:=["k"]) (cn:=["layout"]) (cap:=[1]) (BS (outer:=AK E3) (N:=["self","layout","plank","counts","records","pieces"]) rfl rfl (by decide +kernel)) rfl (CS rfl T.CP (AE (AB 5) AI)) (λ_ _ _ _ _ _=>(BF (i:=0) (show(["k","layout"]:List Str).Nodup from by decide +kernel) rfl (Or.inl rfl))) (λ_ _ _ _ _ _=>EA) (λ_ _ _ _ _ _=>(DO (AB 1) T.DQ Gj hr.m GU (AE (AB 0) AI)))) AI))) rfl)
   (AR (DZ (AB 0) (BU R5 hr.m hx.passes rfl (AE (AB 4) (AE (CI (tn:=["value"]) (cn:=[]) (cap:=[]) (BS (outer:=AK E3) (N:=["self","layout","plank","counts","records","pieces"]) rfl rfl (by decide +kernel)) rfl (CJ (BQ (AB 0) rfl)) (λ_ _ _ _ _ _=>(BF (i:=0) (show(["value"]:List Str).Nodup from by decide +kernel) rfl (Or.inl rfl))) (λ_ _ _ _ _ _=>(CB (A6 GA (AB 0) CK (A3 _)))) (λ_ _ _ _ _ _=>(AM AN (AB 0) AH (λ_ _=>rfl)))) AI))) rfl)
   (AR (DZ (AB 0) (BU R5 hr.m hx.passes rfl (AE (AB 5) (AE (BU c0 hr.m hx.passes rfl (AE (BQ (AB 0) rfl) AI)) AI))) rfl)
   (AX (DZ (AB 0) (BU R5 hr.m hx.passes rfl (AE (AB 5) (AE (BU c0 hr.m hx.passes rfl (AE (EI (AB 0) T.GN Gw hr.m hx.passes) AI)) AI))) rfl))))))))))))
abbrev IP:Stmt:=BL 31
theorem OA:FnScope ["script","sizes","names","many","view","cell"] ["script","sizes","names"] (AK IP):=.go
theorem El(T:Txt K mg a)(F:Fun K "_law_view" "_law_view" IP f fd)(Fm:B3 P w K mg base (3) "_law_put" ["view","cell","names"] (MN K a)) :
  FP P w K mg base 4 f fd ["script","sizes","names"] (MP K a) :=
 F.okF (RO K a) OA zI zH λ_ _ _ _ _ E hr hx=>(AR (DU (i:=3) (tn:=["size"]) (cn:=["sizes"]) (cap:=[1]) (BS (outer:=AK IP) (N:=["script","sizes","names","many","view","cell"]) rfl rfl (by decide +kernel)) rfl OA.nd rfl rfl (CJ (NK NP (AB 1) OQ (K9 AH))) (λ_ _ _ _ _ _=>(BF (i:=0) (show(["size","sizes"]:List Str).Nodup from by decide +kernel) rfl (Or.inl rfl))) (λ_ _ _ _ _ _=>EA) (λ_ _ _ _ _ _=>(AQ DC (AB 0) (AM AN (AB 1) AH (λ_ _=>rfl)))))
   (AR (BD 4 OA.nd (DH (AE (AQ DC (DH (AE CK AI)) (AM AN (AB 3) AH (λ_ _=>rfl))) (AE (AQ DC (DH (AE CK AI)) (AM AN (AB 3) AH (λ_ _=>rfl))) (AE (AQ DC (DH (AE CK AI)) (AM AN (AB 3) AH (λ_ _=>rfl))) (AE (AQ DC (DH (AE CK AI)) (AM AN (AB 3) AH (λ_ _=>rfl))) (AE (AQ DC (DH (AE CK AI)) (AM AN (AB 3) AH (λ_ _=>rfl))) AI)))))))
   (AR (DS hx.po rfl (CJ (NK NP (AB 0) (K9 AH) OQ)) (DP 5 OA.nd) (AX (D8 (BU Fm hr.m hx.passes rfl (AE (AB 4) (AE (AB 5) (AE (AB 2) AI)))))))
   (AX (BJ (AB 4))))))
abbrev KY:Stmt:=BL 2
theorem cX:FnScope ["layout","plank","view"] ["layout","plank"] (AK KY):=.go
theorem Em(T:Txt K mg a)(F:Fun K "walk" "walk" KY f fd)(SA:LD P w K mg base (a "View") 4 "View" ["self","layout","plank"] (HA K a))(R4:B3 P w K mg base (3) "faults_in" ["view"] (HY K a))(Fx:B3 P w K mg base (3) "leavings_in" ["view"] (MG K a)) :
  FP P w K mg base 6 f fd ["layout","plank"] (JS K a) :=
 F.okF (RP K a) cX yE yD λ_ _ _ _ _ E hr hx=>(AR (BD 2 cX.nd (NO SA hr.m hx.passes rfl (AE (AB 0) (AE (AB 1) AI))))
   (AX (BJ (AQ BC (BU R4 hr.m hx.passes rfl (AE (AB 2) AI)) (BU Fx hr.m hx.passes rfl (AE (AB 2) AI))))))
abbrev KZ:Stmt:=BL 3
theorem Ep:FnScope ["layout","plank"] ["layout","plank"] (AK KZ):=.go
theorem Ev(T:Txt K mg a)(F:Fun K "is_sound" "is_sound" KZ f fd)(SA:LD P w K mg base (a "View") 4 "View" ["self","layout","plank"] (HA K a))(R4:B3 P w K mg base (3) "faults_in" ["view"] (HY K a)) :
  FP P w K mg base 6 f fd ["layout","plank"] (MH K a) :=
 F.okF (RQ K a) Ep yG yF λ_ _ _ _ _ E hr hx=>(AX (BJ (K6 (CT hr.units) (CG C1 rfl T.C4 (by rfl) (AE (BU R4 hr.m hx.passes rfl (AE (NO SA hr.m hx.passes rfl (AE (AB 0) (AE (AB 1) AI))) AI)) AI)) AH (A3 _))))
abbrev FT:Stmt:=BL 36
theorem EK:FnScope ["script","sizes","view","rows","layout","plank","k","led","named","faults","due","found","sound"] ["script"] (AK FT):=.go
theorem Ew(T:Txt K mg a)(F:Fun K "law" "law" FT f fd)(cZ:B3 P w K mg base (1) "_law_cell_at" ["script","k"] (G3 K a))(Fj:B3 P w K mg base (2) "_law_layout" ["cell"] (MJ K a))(Fl:B3 P w K mg base (2) "_law_names" ["cell","many"] (MK K a))(Fw:B3 P w K mg base (4) "_law_view" ["script","sizes","names"] (MP K a))(Fq:B3 P w K mg base (1) "_law_rows" ["view","cells"] (MO K a))(Gx:LD P w K mg base (a "Layout") 1 "Layout" ["self","names","records","pieces","cells"] (JK K a))(Gk:B4 P w K mg base (a "Layout") 3 "plank" ["self"] (L7 K a))(Gq:B4 P w K mg base (a "Plank") 2 "write" ["self","block","values"] (LS K a))(Fg:B3 P w K mg base (1) "_law_counted" ["view"] (MQ K a))(Fh:B3 P w K mg base (1) "_law_faults" ["view","led","named"] (MR K a))(Fk:B3 P w K mg base (1) "_law_leavings" ["view","led"] (MS K a))(c5:B3 P w K mg base (6) "walk" ["layout","plank"] (JS K a))(Fd:B3 P w K mg base (6) "is_sound" ["layout","plank"] (MH K a))(cY:B3 P w K mg base (1) "_law_alike" ["found","due"] (JT K a))(Gv:B4 P w K mg base (a "Plank") 1 "writings" ["self"] (LR K a))(R7:B4 P w K mg base (a "Plank") 2 "read" ["self","block"] (HU K a)) :
  FP P w K mg base 7 f fd ["script"] (PZ K a) :=
 F.okF (RR K a) EK z9 z8 λ_ _ _ _ _ E hr hx=>(AR (BD 1 EK.nd (BU Fj hr.m hx.passes rfl (AE (BU cZ hr.m hx.passes rfl (AE (AB 0) (AE AH AI))) AI)))
   (AR (BD 2 EK.nd (BU Fw hr.m hx.passes rfl (AE (AB 0) (AE (AB 1) (AE (BU Fl hr.m hx.passes rfl (AE (BU cZ hr.m hx.passes rfl (AE (AB 0) (AE AH AI))) (AE AH AI))) AI)))))
   (AR (BD 3 EK.nd (BU Fq hr.m hx.passes rfl (AE (AB 2) (AE (AM AN (AB 1) AH (λ_ _=>rfl)) AI))))
   (AR (BD 4 EK.nd (NO Gx hr.m hx.passes rfl (AE (AM AN (AB 1) AH (λ_ _=>rfl)) (AE (AM AN (AB 1) AH (λ_ _=>rfl)) (AE (AM AN (AB 1) AH (λ_ _=>rfl)) (AE (AM AN (AB 1) AH (λ_ _=>rfl)) AI))))))
   (AR (FZ (i:=5) EK.nd rfl (Or.inr rfl) (EI (AB 4) T.DQ Gk hr.m hx.passes))
   (AR (DS hx.po rfl (CS rfl T.CP (AE (CG C1 rfl T.C4 (by rfl) (AE (AB 3) AI)) AI)) (DP 6 EK.nd) (AX (D8 (DO (AB 5) T.IT Gq hr.m hx.passes (AE (AB 6) (AE (JC UM rfl T.SC (by rfl) (AE (AM AN (AB 3) (AB 6) (λ_ _=>rfl)) AI)) AI))))))
   (AR (K4 (BU Fg hr.m hx.passes rfl (AE (AB 2) AI)) (FY rfl (DL (DP 7 EK.nd) (DL (DP 8 EK.nd) FX))))
   (AR (BD 9 EK.nd (BU Fh hr.m hx.passes rfl (AE (AB 2) (AE (AB 7) (AE (AB 8) AI)))))
   (AR (BD 10 EK.nd (AQ BC (AB 9) (BU Fk hr.m hx.passes rfl (AE (AB 2) (AE (AB 7) AI)))))
   (AR (BD 11 EK.nd (BU c5 hr.m hx.passes rfl (AE (AB 4) (AE (AB 5) AI))))
   (AR (BD 12 EK.nd (BU Fd hr.m hx.passes rfl (AE (AB 4) (AE (AB 5) AI))))
   (AR (CH (PW.pt (IY (HE (HH (BU cY hr.m hx.passes rfl (AE (AB 11) (AE (AB 10) AI))) (λ_=>rfl))) (IY (HE (HH (CG LK rfl T.M7 (by rfl) (AE (AB 12) (AE (K2 rfl T.c7 (by rfl) rfl) AI))) (λ_=>rfl))) (K3 (A6 (GW hr.units) (AB 12) (K6 (CT hr.units) (AB 9) (DH AI) (A3 _)) (A3 _)))))) (AX (BJ IW)) CL)
   (AR (D8 (gH PySem.F.plainAttrs_list PySem.F.slot_list_clear PySem.F.type_list_clear gI (AB 11)))
   (AR (CH (PW.pt (IY (HE (HH (BU cY hr.m hx.passes rfl (AE (BU c5 hr.m hx.passes rfl (AE (AB 4) (AE (AB 5) AI))) (AE (AB 10) AI))) (λ_=>rfl))) (K3 (A6 (GW hr.units) (EI (AB 5) T.IT Gv hr.m hx.passes) (CG C1 rfl T.C4 (by rfl) (AE (AB 3) AI)) (A3 _))))) (AX (BJ IW)) CL)
   (AX (BJ (K6 (CT hr.units) (CI (tn:=["k"]) (cn:=["plank"]) (cap:=[5]) (BS (outer:=AK FT) (N:=["script","sizes","view","rows","layout","plank","k","led","named","faults","due","found","sound"]) rfl rfl (by decide +kernel)) rfl (CS rfl T.CP (AE (CG C1 rfl T.C4 (by rfl) (AE (AB 3) AI)) AI)) (λ_ _ _ _ _ _=>(BF (i:=0) (show(["k","plank"]:List Str).Nodup from by decide +kernel) rfl (Or.inl rfl))) (λ_ _ _ _ _ _=>EA) (λ_ _ _ _ _ _=>(DO (AB 1) T.IT R7 hr.m GU (AE (AB 0) AI)))) (AB 3) (A3 _))))))))))))))))))
end
end L2
namespace L2
theorem Ex(q78 q79 q7a q7b:Addr):∃ a:Ad,a "View"=q78/\a "NoBlock"=q79/\a "Plank"=q7a/\a "Layout"=q7b :=
 ⟨λs=>if s="View" then q78 else if s="NoBlock" then q79 else if s="Plank" then q7a else if s="Layout" then q7b else 0,by simp,by simp,by simp,by simp⟩
theorem C9{α :Type}{P:List α ->Prop}(h:∀ x0,P [x0]):∀ us:List α,us.length=1->P us
 | [],e=>by simp at e
 | [x0],_=>h x0
 | _::_::_,e=>by simp at e
theorem us2{α :Type}{P:List α ->Prop}(h:∀ x0 x1,P [x0,x1]):∀ us:List α,us.length=2->P us
 | [],e=>by simp at e
 | [_],e=>by simp at e
 | [x0,x1],_=>h x0 x1
 | _::_::_::_,e=>by simp at e
theorem IQ{α :Type}{P:List α ->Prop}(h:∀ x0 x1 x2,P [x0,x1,x2]):∀ us:List α,us.length=3->P us
 | [],e=>by simp at e
 | [_],e=>by simp at e
 | [_,_],e=>by simp at e
 | [x0,x1,x2],_=>h x0 x1 x2
 | _::_::_::_::_,e=>by simp at e
theorem Ey{α :Type}{P:List α ->Prop}(h:∀ x0 x1 x2 x3 x4,P [x0,x1,x2,x3,x4]):∀ us:List α,us.length=5->P us
 | [],e=>by simp at e
 | [_],e=>by simp at e
 | [_,_],e=>by simp at e
 | [_,_,_],e=>by simp at e
 | [_,_,_,_],e=>by simp at e
 | [x0,x1,x2,x3,x4],_=>h x0 x1 x2 x3 x4
 | _::_::_::_::_::_::_,e=>by simp at e
def R3(K:W.Frag):Sp:=λvs H Q _=>∃ (s:Addr) (ns:List Int),vs=[.ref s]/\SqL K H s (ns.map V.int)/\ns.length<=63/\∀ H',Q (.bl true) H'
theorem all_mk{l:W.OpenLaw}{w:World}{K:W.Frag}{h:Heap}{mg:Str->Option Value}{fa:Addr}{q78 q79 q7a q7b:Addr}{q7c q7d q7e q7f q7g q7h q7i q7j q7k q7l q7m q7n q7o q7p q7q q7r q7s q7t q7u q7v q7w q7x q7y q7z q80 q81 q82 q83 q84 q85 q86 q87 q88 q89 q8a q8b q8c q8d q8e q8f q8g q8h q8i q8j q8k q8l q8m q8n:Addr}{q8o qa0 qbc qco qe0 qfc q8p qa1 qbd qcp qe1 qfd q8q qa2 qbe qcq qe2 qfe q8r qa3 qbf qcr qe3 qff q8s qa4 qbg qcs qe4 qfg q8t qa5 qbh qct qe5 qfh q8u qa6 qbi qcu qe6 qfi q8v qa7 qbj qcv qe7 qfj q8w qa8 qbk qcw qe8 qfk q8x qa9 qbl qcx qe9 qfl q8y qaa qbm qcy qea qfm q8z qab qbn qcz qeb qfn q90 qac qbo qd0 qec qfo q91 qad qbp qd1 qed qfp q92 qae qbq qd2 qee qfq q93 qaf qbr qd3 qef qfr q94 qag qbs qd4 qeg qfs q95 qah qbt qd5 qeh qft q96 qai qbu qd6 qei qfu q97 qaj qbv qd7 qej qfv q98 qak qbw qd8 qek qfw q99 qal qbx qd9 qel qfx q9a qam qby qda qem qfy q9b qan qbz qdb qen qfz q9c qao qc0 qdc qeo qg0 q9d qap qc1 qdd qep qg1 q9e qaq qc2 qde qeq qg2 q9f qar qc3 qdf qer qg3 q9g qas qc4 qdg qes qg4 q9h qat qc5 qdh qet qg5 q9i qau qc6 qdi qeu qg6 q9j qav qc7 qdj qev qg7 q9k qaw qc8 qdk qew qg8 q9l qax qc9 qdl qex qg9 q9m qay qca qdm qey qga q9n qaz qcb qdn qez qgb q9o qb0 qcc qdo qf0 qgc q9p qb1 qcd qdp qf1 qgd q9q qb2 qce qdq qf2 qge q9r qb3 qcf qdr qf3 qgf q9s qb4 qcg qds qf4 qgg q9t qb5 qch qdt qf5 qgh q9u qb6 qci qdu qf6 qgi q9v qb7 qcj qdv qf7 qgj q9w qb8 qck qdw qf8 qgk q9x qb9 qcl qdx qf9 qgl q9y qba qcm qdy qfa qgm q9z qbb qcn qdz qfb qgn:Value}{qgo qi0 qgp qi1 qgq qi2 qgr qi3 qgs qi4 qgt qi5 qgu qi6 qgv qi7 qgw qi8 qgx qi9 qgy qia qgz qib qh0 qic qh1 qid qh2 qie qh3 qif qh4 qig qh5 qih qh6 qii qh7 qij qh8 qik qh9 qil qha qim qhb qin qhc qio qhd qip qhe qiq qhf qir qhg qis qhh qit qhi qiu qhj qiv qhk qiw qhl qix qhm qiy qhn qiz qho qj0 qhp qj1 qhq qj2 qhr qj3 qhs qj4 qht qj5 qhu qj6 qhv qj7 qhw qj8 qhx qj9 qhy qja qhz qjb:Option Addr}{qjc qjd qje qjf qjg qjh qji qjj qjk qjl qjm qjn qjo qjp qjq qjr qjs qjt qju qjv qjw qjx qjy qjz qk0 qk1 qk2 qk3 qk4 qk5 qk6 qk7 qk8 qk9 qka qkb qkc qkd qke qkf qkg qkh qki qkj qkk qkl qkm qkn:Array (Option Value)}(X:K.In h)(G:h.Ns mainGlobals mg)(hfa:mg "law"=some (.ref fa))
  (q0:W.nsIn K mainGlobals "View"=some (some (.ref q78)))
  (q1:W.nsIn K mainGlobals "NoBlock"=some (some (.ref q79)))
  (q2:W.nsIn K mainGlobals "Plank"=some (some (.ref q7a)))
  (q3:W.nsIn K mainGlobals "Layout"=some (some (.ref q7b)))
  (q4:W.plainGet K q7b Str.empty=true)
  (q5:W.hasDictIn K q7b=true)
  (q6:W.plainOver K q7b=true)
  (q7:W.findIn K (.ref q7b) "__setattr__"=some (some (.builtin "object.__setattr__")))
  (q8:W.plainGet K q7a Str.empty=true)
  (q9:W.hasDictIn K q7a=true)
  (qa:W.plainOver K q7a=true)
  (qb:W.findIn K (.ref q7a) "__setattr__"=some (some (.builtin "object.__setattr__")))
  (qc:W.plainGet K q78 Str.empty=true)
  (qd:W.hasDictIn K q78=true)
  (qe:W.plainOver K q78=true)
  (qf:W.findIn K (.ref q78) "__setattr__"=some (some (.builtin "object.__setattr__")))
  (qg:W.makesIn K q7b=true)
  (qh:W.keepIn K (.ref q7b)=true)
  (qi:W.makesIn K q7a=true)
  (qj:W.keepIn K (.ref q7a)=true)
  (qk:W.makesIn K q78=true)
  (ql:W.keepIn K (.ref q78)=true)
  (qm:W.excIn K q79 [.type "ValueError",.type "Exception",.type "BaseException",.type "object"] "ValueError.__new__"=true)
  (qn:W.nsIn K mainGlobals "bool"=some none)
  (qo:W.nsIn K mainGlobals "enumerate"=some none)
  (qp:W.nsIn K mainGlobals "int"=some none)
  (qq:W.nsIn K mainGlobals "isinstance"=some none)
  (qr:W.nsIn K mainGlobals "len"=some none)
  (qs:W.nsIn K mainGlobals "list"=some none)
  (qt:W.nsIn K mainGlobals "range"=some none)
  (qu:W.nsIn K mainGlobals "str"=some none)
  (qv:W.nsIn K mainGlobals "tuple"=some none)
  (qw:W.findIn K (.ref q78) "records_led_to"=some (some (.ref q7c)))
  (qx:W.isFn K (.ref q7c)=true)
  (qy:K.lookup q7c=some ⟨q8o,qgo,.func (W.fnOf "records_led_to" "View.records_led_to" (BE ID) (BB ID) (AK ID) .none qa0 qbc qco qi0 qe0 qfc),qjc⟩)
  (qz:W.codeIn K qe0 "View.records_led_to"=true)
  (q10:W.keepIn K (.ref q7c)=true)
  (q11:W.findIn K (.ref q78) "records_standing"=some (some (.ref q7d)))
  (q12:W.isFn K (.ref q7d)=true)
  (q13:K.lookup q7d=some ⟨q8p,qgp,.func (W.fnOf "records_standing" "View.records_standing" (BE IE) (BB IE) (AK IE) .none qa1 qbd qcp qi1 qe1 qfd),qjd⟩)
  (q14:W.codeIn K qe1 "View.records_standing"=true)
  (q15:W.keepIn K (.ref q7d)=true)
  (q16:W.findIn K (.ref q78) "pieces_named"=some (some (.ref q7e)))
  (q17:W.isFn K (.ref q7e)=true)
  (q18:K.lookup q7e=some ⟨q8q,qgq,.func (W.fnOf "pieces_named" "View.pieces_named" (BE IF) (BB IF) (AK IF) .none qa2 qbe qcq qi2 qe2 qfe),qje⟩)
  (q19:W.codeIn K qe2 "View.pieces_named"=true)
  (q1a:W.keepIn K (.ref q7e)=true)
  (q1b:W.findIn K (.ref q78) "count_of"=some (some (.ref q7f)))
  (q1c:W.isFn K (.ref q7f)=true)
  (q1d:K.lookup q7f=some ⟨q8r,qgr,.func (W.fnOf "count_of" "View.count_of" (BE J0) (BB J0) (AK J0) .none qa3 qbf qcr qi3 qe3 qff),qjf⟩)
  (q1e:W.codeIn K qe3 "View.count_of"=true)
  (q1f:W.keepIn K (.ref q7f)=true)
  (q1g:W.nsIn K mainGlobals "faults_of_names"=some (some (.ref q7g)))
  (q1h:K.lookup q7g=some ⟨q8s,qgs,.func (W.fnOf "faults_of_names" "faults_of_names" (BE J1) (BB J1) (AK J1) .none qa4 qbg qcs qi4 qe4 qfg),qjg⟩)
  (q1i:W.codeIn K qe4 "faults_of_names"=true)
  (q1j:W.keepIn K (.ref q7g)=true)
  (q1k:W.nsIn K mainGlobals "left_pieces"=some (some (.ref q7h)))
  (q1l:K.lookup q7h=some ⟨q8t,qgt,.func (W.fnOf "left_pieces" "left_pieces" (BE HC) (BB HC) (AK HC) .none qa5 qbh qct qi5 qe5 qfh),qjh⟩)
  (q1m:W.codeIn K qe5 "left_pieces"=true)
  (q1n:W.keepIn K (.ref q7h)=true)
  (q1o:W.nsIn K mainGlobals "marked_records"=some (some (.ref q7i)))
  (q1p:K.lookup q7i=some ⟨q8u,qgu,.func (W.fnOf "marked_records" "marked_records" (BE HD) (BB HD) (AK HD) .none qa6 qbi qcu qi6 qe6 qfi),qji⟩)
  (q1q:W.codeIn K qe6 "marked_records"=true)
  (q1r:W.keepIn K (.ref q7i)=true)
  (q1s:W.nsIn K mainGlobals "tally"=some (some (.ref q7j)))
  (q1t:K.lookup q7j=some ⟨q8v,qgv,.func (W.fnOf "tally" "tally" (BE IG) (BB IG) (AK IG) .none qa7 qbj qcv qi7 qe7 qfj),qjj⟩)
  (q1u:W.codeIn K qe7 "tally"=true)
  (q1v:W.keepIn K (.ref q7j)=true)
  (q1w:W.nsIn K mainGlobals "pieces_in"=some (some (.ref q7k)))
  (q1x:K.lookup q7k=some ⟨q8w,qgw,.func (W.fnOf "pieces_in" "pieces_in" (BE J3) (BB J3) (AK J3) .none qa8 qbk qcw qi8 qe8 qfk),qjk⟩)
  (q1y:W.codeIn K qe8 "pieces_in"=true)
  (q1z:W.keepIn K (.ref q7k)=true)
  (q20:W.findIn K (.ref q7a) "__init__"=some (some (.ref q7l)))
  (q21:W.isFn K (.ref q7l)=true)
  (q22:K.lookup q7l=some ⟨q8x,qgx,.func (W.fnOf "__init__" "Plank.__init__" (BE IH) (BB IH) (AK IH) .none qa9 qbl qcx qi9 qe9 qfl),qjl⟩)
  (q23:W.codeIn K qe9 "Plank.__init__"=true)
  (q24:W.keepIn K (.ref q7l)=true)
  (q25:W.findIn K (.ref q7a) "writings"=some (some (.ref q7m)))
  (q26:W.isFn K (.ref q7m)=true)
  (q27:K.lookup q7m=some ⟨q8y,qgy,.func (W.fnOf "writings" "Plank.writings" (BE J4) (BB J4) (AK J4) .none qaa qbm qcy qia qea qfm),qjm⟩)
  (q28:W.codeIn K qea "Plank.writings"=true)
  (q29:W.keepIn K (.ref q7m)=true)
  (q2a:W.findIn K (.ref q7a) "ask_for_block"=some (some (.ref q7n)))
  (q2b:W.isFn K (.ref q7n)=true)
  (q2c:K.lookup q7n=some ⟨q8z,qgz,.func (W.fnOf "ask_for_block" "Plank.ask_for_block" (BE J5) (BB J5) (AK J5) .none qab qbn qcz qib qeb qfn),qjn⟩)
  (q2d:W.codeIn K qeb "Plank.ask_for_block"=true)
  (q2e:W.keepIn K (.ref q7n)=true)
  (q2f:W.findIn K (.ref q7b) "__init__"=some (some (.ref q7o)))
  (q2g:W.isFn K (.ref q7o)=true)
  (q2h:K.lookup q7o=some ⟨q90,qh0,.func (W.fnOf "__init__" "Layout.__init__" (BE J6) (BB J6) (AK J6) .none qac qbo qd0 qic qec qfo),qjo⟩)
  (q2i:W.codeIn K qec "Layout.__init__"=true)
  (q2j:W.keepIn K (.ref q7o)=true)
  (q2k:W.findIn K (.ref q7b) "counts"=some (some (.ref q7p)))
  (q2l:W.isFn K (.ref q7p)=true)
  (q2m:K.lookup q7p=some ⟨q91,qh1,.func (W.fnOf "counts" "Layout.counts" (BE J7) (BB J7) (AK J7) .none qad qbp qd1 qid qed qfp),qjp⟩)
  (q2n:W.codeIn K qed "Layout.counts"=true)
  (q2o:W.keepIn K (.ref q7p)=true)
  (q2p:W.findIn K (.ref q7b) "blocks_ahead_of_marks"=some (some (.ref q7q)))
  (q2q:W.isFn K (.ref q7q)=true)
  (q2r:K.lookup q7q=some ⟨q92,qh2,.func (W.fnOf "blocks_ahead_of_marks" "Layout.blocks_ahead_of_marks" (BE J8) (BB J8) (AK J8) .none qae qbq qd2 qie qee qfq),qjq⟩)
  (q2s:W.codeIn K qee "Layout.blocks_ahead_of_marks"=true)
  (q2t:W.keepIn K (.ref q7q)=true)
  (q2u:W.findIn K (.ref q7b) "place_from"=some (some (.ref q7r)))
  (q2v:W.isFn K (.ref q7r)=true)
  (q2w:K.lookup q7r=some ⟨q93,qh3,.func (W.fnOf "place_from" "Layout.place_from" (BE J9) (BB J9) (AK J9) .none qaf qbr qd3 qif qef qfr),qjr⟩)
  (q2x:W.codeIn K qef "Layout.place_from"=true)
  (q2y:W.keepIn K (.ref q7r)=true)
  (q2z:W.nsIn K mainGlobals "_law_cell_at"=some (some (.ref q7s)))
  (q30:K.lookup q7s=some ⟨q94,qh4,.func (W.fnOf "_law_cell_at" "_law_cell_at" (BE KA) (BB KA) (AK KA) .none qag qbs qd4 qig qeg qfs),qjs⟩)
  (q31:W.codeIn K qeg "_law_cell_at"=true)
  (q32:W.keepIn K (.ref q7s)=true)
  (q33:W.nsIn K mainGlobals "_law_spun"=some (some (.ref q7t)))
  (q34:K.lookup q7t=some ⟨q95,qh5,.func (W.fnOf "_law_spun" "_law_spun" (BE KB) (BB KB) (AK KB) .none qah qbt qd5 qih qeh qft),qjt⟩)
  (q35:W.codeIn K qeh "_law_spun"=true)
  (q36:W.keepIn K (.ref q7t)=true)
  (q37:W.nsIn K mainGlobals "_law_record"=some (some (.ref q7u)))
  (q38:K.lookup q7u=some ⟨q96,qh6,.func (W.fnOf "_law_record" "_law_record" (BE IJ) (BB IJ) (AK IJ) .none qai qbu qd6 qii qei qfu),qju⟩)
  (q39:W.codeIn K qei "_law_record"=true)
  (q3a:W.keepIn K (.ref q7u)=true)
  (q3b:W.nsIn K mainGlobals "_law_rows"=some (some (.ref q7v)))
  (q3c:K.lookup q7v=some ⟨q97,qh7,.func (W.fnOf "_law_rows" "_law_rows" (BE IK) (BB IK) (AK IK) .none qaj qbv qd7 qij qej qfv),qjv⟩)
  (q3d:W.codeIn K qej "_law_rows"=true)
  (q3e:W.keepIn K (.ref q7v)=true)
  (q3f:W.nsIn K mainGlobals "_law_faults"=some (some (.ref q7w)))
  (q3g:K.lookup q7w=some ⟨q98,qh8,.func (W.fnOf "_law_faults" "_law_faults" (BE D6) (BB D6) (AK D6) .none qak qbw qd8 qik qek qfw),qjw⟩)
  (q3h:W.codeIn K qek "_law_faults"=true)
  (q3i:W.keepIn K (.ref q7w)=true)
  (q3j:W.nsIn K mainGlobals "_law_leavings"=some (some (.ref q7x)))
  (q3k:K.lookup q7x=some ⟨q99,qh9,.func (W.fnOf "_law_leavings" "_law_leavings" (BE FE) (BB FE) (AK FE) .none qal qbx qd9 qil qel qfx),qjx⟩)
  (q3l:W.codeIn K qel "_law_leavings"=true)
  (q3m:W.keepIn K (.ref q7x)=true)
  (q3n:W.nsIn K mainGlobals "_law_counted"=some (some (.ref q7y)))
  (q3o:K.lookup q7y=some ⟨q9a,qha,.func (W.fnOf "_law_counted" "_law_counted" (BE KD) (BB KD) (AK KD) .none qam qby qda qim qem qfy),qjy⟩)
  (q3p:W.codeIn K qem "_law_counted"=true)
  (q3q:W.keepIn K (.ref q7y)=true)
  (q3r:W.nsIn K mainGlobals "_law_alike"=some (some (.ref q7z)))
  (q3s:K.lookup q7z=some ⟨q9b,qhb,.func (W.fnOf "_law_alike" "_law_alike" (BE KF) (BB KF) (AK KF) .none qan qbz qdb qin qen qfz),qjz⟩)
  (q3t:W.codeIn K qen "_law_alike"=true)
  (q3u:W.keepIn K (.ref q7z)=true)
  (q3v:W.nsIn K mainGlobals "faults_of_things"=some (some (.ref q80)))
  (q3w:K.lookup q80=some ⟨q9c,qhc,.func (W.fnOf "faults_of_things" "faults_of_things" (BE GK) (BB GK) (AK GK) .none qao qc0 qdc qio qeo qg0),qk0⟩)
  (q3x:W.codeIn K qeo "faults_of_things"=true)
  (q3y:W.keepIn K (.ref q80)=true)
  (q3z:W.nsIn K mainGlobals "faults_of_marks"=some (some (.ref q81)))
  (q40:K.lookup q81=some ⟨q9d,qhd,.func (W.fnOf "faults_of_marks" "faults_of_marks" (BE GL) (BB GL) (AK GL) .none qap qc1 qdd qip qep qg1),qk1⟩)
  (q41:W.codeIn K qep "faults_of_marks"=true)
  (q42:W.keepIn K (.ref q81)=true)
  (q43:W.nsIn K mainGlobals "leavings_of_records"=some (some (.ref q82)))
  (q44:K.lookup q82=some ⟨q9e,qhe,.func (W.fnOf "leavings_of_records" "leavings_of_records" (BE KG) (BB KG) (AK KG) .none qaq qc2 qde qiq qeq qg2),qk2⟩)
  (q45:W.codeIn K qeq "leavings_of_records"=true)
  (q46:W.keepIn K (.ref q82)=true)
  (q47:W.findIn K (.ref q7a) "read"=some (some (.ref q83)))
  (q48:W.isFn K (.ref q83)=true)
  (q49:K.lookup q83=some ⟨q9f,qhf,.func (W.fnOf "read" "Plank.read" (BE KH) (BB KH) (AK KH) .none qar qc3 qdf qir qer qg3),qk3⟩)
  (q4a:W.codeIn K qer "Plank.read"=true)
  (q4b:W.keepIn K (.ref q83)=true)
  (q4c:W.findIn K (.ref q7a) "write"=some (some (.ref q84)))
  (q4d:W.isFn K (.ref q84)=true)
  (q4e:K.lookup q84=some ⟨q9g,qhg,.func (W.fnOf "write" "Plank.write" (BE KI) (BB KI) (AK KI) .none qas qc4 qdg qis qes qg4),qk4⟩)
  (q4f:W.codeIn K qes "Plank.write"=true)
  (q4g:W.keepIn K (.ref q84)=true)
  (q4h:W.findIn K (.ref q7b) "name_at"=some (some (.ref q85)))
  (q4i:W.isFn K (.ref q85)=true)
  (q4j:K.lookup q85=some ⟨q9h,qhh,.func (W.fnOf "name_at" "Layout.name_at" (BE KJ) (BB KJ) (AK KJ) .none qat qc5 qdh qit qet qg5),qk5⟩)
  (q4k:W.codeIn K qet "Layout.name_at"=true)
  (q4l:W.keepIn K (.ref q85)=true)
  (q4m:W.findIn K (.ref q7b) "record_at"=some (some (.ref q86)))
  (q4n:W.isFn K (.ref q86)=true)
  (q4o:K.lookup q86=some ⟨q9i,qhi,.func (W.fnOf "record_at" "Layout.record_at" (BE KK) (BB KK) (AK KK) .none qau qc6 qdi qiu qeu qg6),qk6⟩)
  (q4p:W.codeIn K qeu "Layout.record_at"=true)
  (q4q:W.keepIn K (.ref q86)=true)
  (q4r:W.findIn K (.ref q7b) "piece_at"=some (some (.ref q87)))
  (q4s:W.isFn K (.ref q87)=true)
  (q4t:K.lookup q87=some ⟨q9j,qhj,.func (W.fnOf "piece_at" "Layout.piece_at" (BE KL) (BB KL) (AK KL) .none qav qc7 qdj qiv qev qg7),qk7⟩)
  (q4u:W.codeIn K qev "Layout.piece_at"=true)
  (q4v:W.keepIn K (.ref q87)=true)
  (q4w:W.findIn K (.ref q7b) "record_mark"=some (some (.ref q88)))
  (q4x:W.isFn K (.ref q88)=true)
  (q4y:K.lookup q88=some ⟨q9k,qhk,.func (W.fnOf "record_mark" "Layout.record_mark" (BE KM) (BB KM) (AK KM) .none qaw qc8 qdk qiw qew qg8),qk8⟩)
  (q4z:W.codeIn K qew "Layout.record_mark"=true)
  (q50:W.keepIn K (.ref q88)=true)
  (q51:W.findIn K (.ref q7b) "piece_mark"=some (some (.ref q89)))
  (q52:W.isFn K (.ref q89)=true)
  (q53:K.lookup q89=some ⟨q9l,qhl,.func (W.fnOf "piece_mark" "Layout.piece_mark" (BE KN) (BB KN) (AK KN) .none qax qc9 qdl qix qex qg9),qk9⟩)
  (q54:W.codeIn K qex "Layout.piece_mark"=true)
  (q55:W.keepIn K (.ref q89)=true)
  (q56:W.findIn K (.ref q7b) "blocks"=some (some (.ref q8a)))
  (q57:W.isFn K (.ref q8a)=true)
  (q58:K.lookup q8a=some ⟨q9m,qhm,.func (W.fnOf "blocks" "Layout.blocks" (BE KO) (BB KO) (AK KO) .none qay qca qdm qiy qey qga),qka⟩)
  (q59:W.codeIn K qey "Layout.blocks"=true)
  (q5a:W.keepIn K (.ref q8a)=true)
  (q5b:W.nsIn K mainGlobals "_law_names"=some (some (.ref q8b)))
  (q5c:K.lookup q8b=some ⟨q9n,qhn,.func (W.fnOf "_law_names" "_law_names" (BE IL) (BB IL) (AK IL) .none qaz qcb qdn qiz qez qgb),qkb⟩)
  (q5d:W.codeIn K qez "_law_names"=true)
  (q5e:W.keepIn K (.ref q8b)=true)
  (q5f:W.nsIn K mainGlobals "_law_text"=some (some (.ref q8c)))
  (q5g:K.lookup q8c=some ⟨q9o,qho,.func (W.fnOf "_law_text" "_law_text" (BE IM) (BB IM) (AK IM) .none qb0 qcc qdo qj0 qf0 qgc),qkc⟩)
  (q5h:W.codeIn K qf0 "_law_text"=true)
  (q5i:W.keepIn K (.ref q8c)=true)
  (q5j:W.nsIn K mainGlobals "_law_layout"=some (some (.ref q8d)))
  (q5k:K.lookup q8d=some ⟨q9p,qhp,.func (W.fnOf "_law_layout" "_law_layout" (BE KQ) (BB KQ) (AK KQ) .none qb1 qcd qdp qj1 qf1 qgd),qkd⟩)
  (q5l:W.codeIn K qf1 "_law_layout"=true)
  (q5m:W.keepIn K (.ref q8d)=true)
  (q5n:W.nsIn K mainGlobals "faults_in"=some (some (.ref q8e)))
  (q5o:K.lookup q8e=some ⟨q9q,qhq,.func (W.fnOf "faults_in" "faults_in" (BE KR) (BB KR) (AK KR) .none qb2 qce qdq qj2 qf2 qge),qke⟩)
  (q5p:W.codeIn K qf2 "faults_in"=true)
  (q5q:W.keepIn K (.ref q8e)=true)
  (q5r:W.nsIn K mainGlobals "leavings_in"=some (some (.ref q8f)))
  (q5s:K.lookup q8f=some ⟨q9r,qhr,.func (W.fnOf "leavings_in" "leavings_in" (BE KS) (BB KS) (AK KS) .none qb3 qcf qdr qj3 qf3 qgf),qkf⟩)
  (q5t:W.codeIn K qf3 "leavings_in"=true)
  (q5u:W.keepIn K (.ref q8f)=true)
  (q5v:W.nsIn K mainGlobals "values_at"=some (some (.ref q8g)))
  (q5w:K.lookup q8g=some ⟨q9s,qhs,.func (W.fnOf "values_at" "values_at" (BE IN) (BB IN) (AK IN) .none qb4 qcg qds qj4 qf4 qgg),qkg⟩)
  (q5x:W.codeIn K qf4 "values_at"=true)
  (q5y:W.keepIn K (.ref q8g)=true)
  (q5z:W.findIn K (.ref q7b) "plank"=some (some (.ref q8h)))
  (q60:W.isFn K (.ref q8h)=true)
  (q61:K.lookup q8h=some ⟨q9t,qht,.func (W.fnOf "plank" "Layout.plank" (BE KU) (BB KU) (AK KU) .none qb5 qch qdt qj5 qf5 qgh),qkh⟩)
  (q62:W.codeIn K qf5 "Layout.plank"=true)
  (q63:W.keepIn K (.ref q8h)=true)
  (q64:W.nsIn K mainGlobals "_law_put"=some (some (.ref q8i)))
  (q65:K.lookup q8i=some ⟨q9u,qhu,.func (W.fnOf "_law_put" "_law_put" (BE KW) (BB KW) (AK KW) .none qb6 qci qdu qj6 qf6 qgi),qki⟩)
  (q66:W.codeIn K qf6 "_law_put"=true)
  (q67:W.keepIn K (.ref q8i)=true)
  (q68:W.findIn K (.ref q78) "__init__"=some (some (.ref q8j)))
  (q69:W.isFn K (.ref q8j)=true)
  (q6a:K.lookup q8j=some ⟨q9v,qhv,.func (W.fnOf "__init__" "View.__init__" (BE E3) (BB E3) (AK E3) .none qb7 qcj qdv qj7 qf7 qgj),qkj⟩)
  (q6b:W.codeIn K qf7 "View.__init__"=true)
  (q6c:W.keepIn K (.ref q8j)=true)
  (q6d:W.nsIn K mainGlobals "_law_view"=some (some (.ref q8k)))
  (q6e:K.lookup q8k=some ⟨q9w,qhw,.func (W.fnOf "_law_view" "_law_view" (BE IP) (BB IP) (AK IP) .none qb8 qck qdw qj8 qf8 qgk),qkk⟩)
  (q6f:W.codeIn K qf8 "_law_view"=true)
  (q6g:W.keepIn K (.ref q8k)=true)
  (q6h:W.nsIn K mainGlobals "walk"=some (some (.ref q8l)))
  (q6i:K.lookup q8l=some ⟨q9x,qhx,.func (W.fnOf "walk" "walk" (BE KY) (BB KY) (AK KY) .none qb9 qcl qdx qj9 qf9 qgl),qkl⟩)
  (q6j:W.codeIn K qf9 "walk"=true)
  (q6k:W.keepIn K (.ref q8l)=true)
  (q6l:W.nsIn K mainGlobals "is_sound"=some (some (.ref q8m)))
  (q6m:K.lookup q8m=some ⟨q9y,qhy,.func (W.fnOf "is_sound" "is_sound" (BE KZ) (BB KZ) (AK KZ) .none qba qcm qdy qja qfa qgm),qkm⟩)
  (q6n:W.codeIn K qfa "is_sound"=true)
  (q6o:W.keepIn K (.ref q8m)=true)
  (q6p:W.nsIn K mainGlobals "law"=some (some (.ref q8n)))
  (q6q:K.lookup q8n=some ⟨q9z,qhz,.func (W.fnOf "law" "law" (BE FT) (BB FT) (AK FT) .none qbb qcn qdz qjb qfb qgn),qkn⟩)
  (q6r:W.codeIn K qfb "law"=true)
  (q6s:W.keepIn K (.ref q8n)=true)
  (q6t:W.findIn K (.ref q7a) "contents"=some none)
  (q6u:W.findIn K (.ref q7a) "width"=some none)
  (q6v:W.findIn K (.ref q7a) "written"=some none)
  (q6w:W.findIn K (.ref q7b) "name_blocks"=some none)
  (q6x:W.findIn K (.ref q7b) "record_blocks"=some none)
  (q6y:W.findIn K (.ref q7b) "piece_blocks"=some none)
  (q6z:W.findIn K (.ref q7b) "width"=some none)
  (q70:W.findIn K (.ref q78) "name_values"=some none)
  (q71:W.findIn K (.ref q78) "record_values"=some none)
  (q72:W.findIn K (.ref q78) "piece_values"=some none)
  (q73:W.findIn K (.ref q78) "record_marks"=some none)
  (q74:W.findIn K (.ref q78) "piece_marks"=some none)
  (q75:W.findIn K (.ref q78) "leads"=some none)
  (q76:W.findIn K (.ref q78) "namings"=some none)
  (q77:W.findIn K (.ref q78) "reached"=some none) :
  ∃ fd:FuncData,(∀ (s:Shared) (v:Value),BindsTo s fd ⟨[v],[]⟩ [("script",v)])/\∀ base:Heap,K.In base->base.Ns mainGlobals mg->FnOk l.prog w K mg base (DB l.prog w) 7 fa fd ["script"] (R3 K):=by
 obtain⟨a,rfl,rfl,rfl,rfl⟩:=Ex q78 q79 q7a q7b
 have e:=hfa.symm.trans (W.mg_of X G q6p)
 cases e
 have T:Txt K mg a:=⟨⟨q4,q5,q6,q7⟩,⟨q8,q9,qa,qb⟩,⟨qc,qd,qe,qf⟩,W.mg_of X G q1,⟨_,W.mg_of X G q1,rfl⟩,⟨qm⟩,W.mg_none_of X G qn,W.mg_none_of X G qo,W.mg_none_of X G qp,W.mg_none_of X G qq,W.mg_none_of X G qr,W.mg_none_of X G qs,W.mg_none_of X G qt,W.mg_none_of X G qu,W.mg_none_of X G qv⟩
 have TPk:EU K a:=⟨T.IT,q6t,q6u,q6v⟩
 have TLy:DV K a:=⟨T.DQ,q6w,q6x,q6y,q6z⟩
 have TVw:TV K a:=⟨T.GN,q70,q71,q72,q73,q74,q75,q76,q77⟩
 have qko:=BK (st:=ID) qy qz q10
 have qm0:=qko.binds (ps:=["self"]) λ_ _ _ _ _ _=>C9 λ_=>rfl
 have qkp:=BK (st:=IE) q13 q14 q15
 have qm1:=qkp.binds (ps:=["self"]) λ_ _ _ _ _ _=>C9 λ_=>rfl
 have qkq:=BK (st:=IF) q18 q19 q1a
 have qm2:=qkq.binds (ps:=["self"]) λ_ _ _ _ _ _=>C9 λ_=>rfl
 have qkr:=BK (st:=J0) q1d q1e q1f
 have qm3:=qkr.binds (ps:=["self","record"]) λ_ _ _ _ _ _=>us2 λ_ _=>rfl
 have qks:=BK (st:=J1) q1h q1i q1j
 have qm4:=qks.binds (ps:=["view"]) λ_ _ _ _ _ _=>C9 λ_=>rfl
 have qkt:=BK (st:=HC) q1l q1m q1n
 have qm5:=qkt.binds (ps:=["view"]) λ_ _ _ _ _ _=>C9 λ_=>rfl
 have qku:=BK (st:=HD) q1p q1q q1r
 have qm6:=qku.binds (ps:=["view"]) λ_ _ _ _ _ _=>C9 λ_=>rfl
 have qkv:=BK (st:=IG) q1t q1u q1v
 have qm7:=qkv.binds (ps:=["many","numbers"]) λ_ _ _ _ _ _=>us2 λ_ _=>rfl
 have qkw:=BK (st:=J3) q1x q1y q1z
 have qm8:=qkw.binds (ps:=["records"]) λ_ _ _ _ _ _=>C9 λ_=>rfl
 have qkx:=BK (st:=IH) q22 q23 q24
 have qm9:=qkx.binds (ps:=["self","blocks","cells"]) λ_ _ _ _ _ _=>IQ λ_ _ _=>rfl
 have qky:=BK (st:=J4) q27 q28 q29
 have qma:=qky.binds (ps:=["self"]) λ_ _ _ _ _ _=>C9 λ_=>rfl
 have qkz:=BK (st:=J5) q2c q2d q2e
 have qmb:=qkz.binds (ps:=["self","block"]) λ_ _ _ _ _ _=>us2 λ_ _=>rfl
 have ql0:=BK (st:=J6) q2h q2i q2j
 have qmc:=ql0.binds (ps:=["self","names","records","pieces","cells"]) λ_ _ _ _ _ _=>Ey λ_ _ _ _ _=>rfl
 have ql1:=BK (st:=J7) q2m q2n q2o
 have qmd:=ql1.binds (ps:=["self"]) λ_ _ _ _ _ _=>C9 λ_=>rfl
 have ql2:=BK (st:=J8) q2r q2s q2t
 have qme:=ql2.binds (ps:=["self"]) λ_ _ _ _ _ _=>C9 λ_=>rfl
 have ql3:=BK (st:=J9) q2w q2x q2y
 have qmf:=ql3.binds (ps:=["self","block","k"]) λ_ _ _ _ _ _=>IQ λ_ _ _=>rfl
 have ql4:=BK (st:=KA) q30 q31 q32
 have qmg:=ql4.binds (ps:=["script","k"]) λ_ _ _ _ _ _=>us2 λ_ _=>rfl
 have ql5:=BK (st:=KB) q34 q35 q36
 have qmh:=ql5.binds (ps:=["cell","many"]) λ_ _ _ _ _ _=>us2 λ_ _=>rfl
 have ql6:=BK (st:=IJ) q38 q39 q3a
 have qmi:=ql6.binds (ps:=["xs","pieces"]) λ_ _ _ _ _ _=>us2 λ_ _=>rfl
 have ql7:=BK (st:=IK) q3c q3d q3e
 have qmj:=ql7.binds (ps:=["view","cells"]) λ_ _ _ _ _ _=>us2 λ_ _=>rfl
 have ql8:=BK (st:=D6) q3g q3h q3i
 have qmk:=ql8.binds (ps:=["view","led","named"]) λ_ _ _ _ _ _=>IQ λ_ _ _=>rfl
 have ql9:=BK (st:=FE) q3k q3l q3m
 have qml:=ql9.binds (ps:=["view","led"]) λ_ _ _ _ _ _=>us2 λ_ _=>rfl
 have qla:=BK (st:=KD) q3o q3p q3q
 have qmm:=qla.binds (ps:=["view"]) λ_ _ _ _ _ _=>C9 λ_=>rfl
 have qlb:=BK (st:=KF) q3s q3t q3u
 have qmn:=qlb.binds (ps:=["found","due"]) λ_ _ _ _ _ _=>us2 λ_ _=>rfl
 have qlc:=BK (st:=GK) q3w q3x q3y
 have qmo:=qlc.binds (ps:=["view"]) λ_ _ _ _ _ _=>C9 λ_=>rfl
 have qld:=BK (st:=GL) q40 q41 q42
 have qmp:=qld.binds (ps:=["view"]) λ_ _ _ _ _ _=>C9 λ_=>rfl
 have qle:=BK (st:=KG) q44 q45 q46
 have qmq:=qle.binds (ps:=["view"]) λ_ _ _ _ _ _=>C9 λ_=>rfl
 have qlf:=BK (st:=KH) q49 q4a q4b
 have qmr:=qlf.binds (ps:=["self","block"]) λ_ _ _ _ _ _=>us2 λ_ _=>rfl
 have qlg:=BK (st:=KI) q4e q4f q4g
 have qms:=qlg.binds (ps:=["self","block","values"]) λ_ _ _ _ _ _=>IQ λ_ _ _=>rfl
 have qlh:=BK (st:=KJ) q4j q4k q4l
 have qmt:=qlh.binds (ps:=["self","k"]) λ_ _ _ _ _ _=>us2 λ_ _=>rfl
 have qli:=BK (st:=KK) q4o q4p q4q
 have qmu:=qli.binds (ps:=["self","k"]) λ_ _ _ _ _ _=>us2 λ_ _=>rfl
 have qlj:=BK (st:=KL) q4t q4u q4v
 have qmv:=qlj.binds (ps:=["self","k"]) λ_ _ _ _ _ _=>us2 λ_ _=>rfl
 have qlk:=BK (st:=KM) q4y q4z q50
 have qmw:=qlk.binds (ps:=["self","k"]) λ_ _ _ _ _ _=>us2 λ_ _=>rfl
 have qll:=BK (st:=KN) q53 q54 q55
 have qmx:=qll.binds (ps:=["self","k"]) λ_ _ _ _ _ _=>us2 λ_ _=>rfl
 have qlm:=BK (st:=KO) q58 q59 q5a
 have qmy:=qlm.binds (ps:=["self"]) λ_ _ _ _ _ _=>C9 λ_=>rfl
 have qln:=BK (st:=IL) q5c q5d q5e
 have qmz:=qln.binds (ps:=["cell","many"]) λ_ _ _ _ _ _=>us2 λ_ _=>rfl
 have qlo:=BK (st:=IM) q5g q5h q5i
 have qn0:=qlo.binds (ps:=["cell"]) λ_ _ _ _ _ _=>C9 λ_=>rfl
 have qlp:=BK (st:=KQ) q5k q5l q5m
 have qn1:=qlp.binds (ps:=["cell"]) λ_ _ _ _ _ _=>C9 λ_=>rfl
 have qlq:=BK (st:=KR) q5o q5p q5q
 have qn2:=qlq.binds (ps:=["view"]) λ_ _ _ _ _ _=>C9 λ_=>rfl
 have qlr:=BK (st:=KS) q5s q5t q5u
 have qn3:=qlr.binds (ps:=["view"]) λ_ _ _ _ _ _=>C9 λ_=>rfl
 have qls:=BK (st:=IN) q5w q5x q5y
 have qn4:=qls.binds (ps:=["plank","places"]) λ_ _ _ _ _ _=>us2 λ_ _=>rfl
 have qlt:=BK (st:=KU) q61 q62 q63
 have qn5:=qlt.binds (ps:=["self"]) λ_ _ _ _ _ _=>C9 λ_=>rfl
 have qlu:=BK (st:=KW) q65 q66 q67
 have qn6:=qlu.binds (ps:=["view","cell","names"]) λ_ _ _ _ _ _=>IQ λ_ _ _=>rfl
 have qlv:=BK (st:=E3) q6a q6b q6c
 have qn7:=qlv.binds (ps:=["self","layout","plank"]) λ_ _ _ _ _ _=>IQ λ_ _ _=>rfl
 have qlw:=BK (st:=IP) q6e q6f q6g
 have qn8:=qlw.binds (ps:=["script","sizes","names"]) λ_ _ _ _ _ _=>IQ λ_ _ _=>rfl
 have qlx:=BK (st:=KY) q6i q6j q6k
 have qn9:=qlx.binds (ps:=["layout","plank"]) λ_ _ _ _ _ _=>us2 λ_ _=>rfl
 have qly:=BK (st:=KZ) q6m q6n q6o
 have qna:=qly.binds (ps:=["layout","plank"]) λ_ _ _ _ _ _=>us2 λ_ _=>rfl
 have qlz:=BK (st:=FT) q6q q6r q6s
 have qnb:=qlz.binds (ps:=["script"]) λ_ _ _ _ _ _=>C9 λ_=>rfl
 refine⟨W.fnOf "law" "law" (BE FT) (BB FT) (AK FT) .none qbb qcn qdz qjb qfb qgn,λs v=>.of_eq rfl,λbase _ _=> ?_⟩
 have qnc:=Ac l.prog w base T qko
 have qnd:=Ah l.prog w base T qkp
 have qne:=Ak l.prog w base T qkq
 have qnf:=Am l.prog w base T qkr
 have qng:=Ap l.prog w base T qks
 have qnh:=Aq l.prog w base T qkt
 have qni:=Av l.prog w base T qku
 have qnj:=Aw l.prog w base T qkv
 have qnk:=Ax l.prog w base T qkw
 have qnl:=Az l.prog w base T qkx
 have qnm:=Bc l.prog w base T qky
 have qnn:=Bg l.prog w base T qkz
 have qno:=Bj l.prog w base T ql0
 have qnp:=Bl l.prog w base T ql1
 have qnq:=Bp l.prog w base T ql2
 have qnr:=Bv l.prog w base T ql3
 have qns:=Bx l.prog w base T ql4
 have qnt:=By l.prog w base T ql5
 have qnu:=Bz l.prog w base T ql6
 have qnv:=Cb l.prog w base T ql7
 have qnw:=Cc l.prog w base T ql8
 have qnx:=Cd l.prog w base T ql9
 have qny:=Cg l.prog w base T qla
 have qnz:=Cj l.prog w base T qlb
 have qo0:=Ck l.prog w base T qlc ⟨_,_,qne,⟨q16,q17,q1a⟩,qm2⟩ ⟨_,_,qnd,⟨q11,q12,q15⟩,qm1⟩ ⟨_,_,qnf,⟨q1b,q1c,q1f⟩,qm3⟩
 have qo1:=Cl l.prog w base T qld ⟨_,_,qne,⟨q16,q17,q1a⟩,qm2⟩
 have qo2:=Cm l.prog w base T qle ⟨_,_,qnd,⟨q11,q12,q15⟩,qm1⟩ ⟨_,_,qnf,⟨q1b,q1c,q1f⟩,qm3⟩
 have qo3:=Cq l.prog w base T qlf ⟨_,_,qnn,⟨q2a,q2b,q2e⟩,qmb⟩
 have qo4:=Cw l.prog w base T qlg ⟨_,_,qnn,⟨q2a,q2b,q2e⟩,qmb⟩
 have qo5:=Cz l.prog w base T qlh ⟨_,_,qnr,⟨q2u,q2v,q2y⟩,qmf⟩
 have qo6:=Dc l.prog w base T qli ⟨_,_,qnr,⟨q2u,q2v,q2y⟩,qmf⟩
 have qo7:=Dg l.prog w base T qlj ⟨_,_,qnr,⟨q2u,q2v,q2y⟩,qmf⟩
 have qo8:=Dj l.prog w base T qlk ⟨_,_,qnq,⟨q2p,q2q,q2t⟩,qme⟩ ⟨_,_,qnr,⟨q2u,q2v,q2y⟩,qmf⟩
 have qo9:=Dl l.prog w base T qll ⟨_,_,qnq,⟨q2p,q2q,q2t⟩,qme⟩ ⟨_,_,qnr,⟨q2u,q2v,q2y⟩,qmf⟩
 have qoa:=Dp l.prog w base T qlm ⟨_,_,qnq,⟨q2p,q2q,q2t⟩,qme⟩
 have qob:=Dq l.prog w base T qln ⟨_,_,qnt,W.mg_of X G q33,q36,qmh⟩
 have qoc:=Dv l.prog w base T qlo ⟨_,_,qnt,W.mg_of X G q33,q36,qmh⟩
 have qod:=Dw l.prog w base T qlp ⟨_,_,qnt,W.mg_of X G q33,q36,qmh⟩
 have qoe:=Dy l.prog w base T qlq ⟨_,_,qng,W.mg_of X G q1g,q1j,qm4⟩ ⟨_,_,qo0,W.mg_of X G q3v,q3y,qmo⟩ ⟨_,_,qo1,W.mg_of X G q3z,q42,qmp⟩
 have qof:=Eb l.prog w base T qlr ⟨_,_,qo2,W.mg_of X G q43,q46,qmq⟩ ⟨_,_,qnh,W.mg_of X G q1k,q1n,qm5⟩ ⟨_,_,qni,W.mg_of X G q1o,q1r,qm6⟩
 have qog:=Ed l.prog w base T qls ⟨_,_,qo3,⟨q47,q48,q4b⟩,qmr⟩
 have qoh:=Eh l.prog w base T qlt ⟨_,_,qoa,⟨q56,q57,q5a⟩,qmy⟩ ⟨_,_,qnl,⟨qi,q20,q21,qj⟩,W.mg_of X G q2,qm9⟩
 have qoi:=Ej l.prog w base T qlu ⟨_,_,qnt,W.mg_of X G q33,q36,qmh⟩ ⟨_,_,qnu,W.mg_of X G q37,q3a,qmi⟩ ⟨_,_,qoc,W.mg_of X G q5f,q5i,qn0⟩
 have qoj:=Ek l.prog w base T qlv ⟨_,_,qnp,⟨q2k,q2l,q2o⟩,qmd⟩ ⟨_,_,qo5,⟨q4h,q4i,q4l⟩,qmt⟩ ⟨_,_,qog,W.mg_of X G q5v,q5y,qn4⟩ ⟨_,_,qo6,⟨q4m,q4n,q4q⟩,qmu⟩ ⟨_,_,qo7,⟨q4r,q4s,q4v⟩,qmv⟩ ⟨_,_,qo8,⟨q4w,q4x,q50⟩,qmw⟩ ⟨_,_,qo9,⟨q51,q52,q55⟩,qmx⟩ ⟨_,_,qnj,W.mg_of X G q1s,q1v,qm7⟩ ⟨_,_,qnk,W.mg_of X G q1w,q1z,qm8⟩ ⟨_,_,qnc,⟨qw,qx,q10⟩,qm0⟩
 have qok:=El l.prog w base T qlw ⟨_,_,qoi,W.mg_of X G q64,q67,qn6⟩
 have qol:=Em l.prog w base T qlx ⟨_,_,qoj,⟨qk,q68,q69,ql⟩,W.mg_of X G q0,qn7⟩ ⟨_,_,qoe,W.mg_of X G q5n,q5q,qn2⟩ ⟨_,_,qof,W.mg_of X G q5r,q5u,qn3⟩
 have qom:=Ev l.prog w base T qly ⟨_,_,qoj,⟨qk,q68,q69,ql⟩,W.mg_of X G q0,qn7⟩ ⟨_,_,qoe,W.mg_of X G q5n,q5q,qn2⟩
 have qon:=Ew l.prog w base T qlz ⟨_,_,qns,W.mg_of X G q2z,q32,qmg⟩ ⟨_,_,qod,W.mg_of X G q5j,q5m,qn1⟩ ⟨_,_,qob,W.mg_of X G q5b,q5e,qmz⟩ ⟨_,_,qok,W.mg_of X G q6d,q6g,qn8⟩ ⟨_,_,qnv,W.mg_of X G q3b,q3e,qmj⟩ ⟨_,_,qno,⟨qg,q2f,q2g,qh⟩,W.mg_of X G q3,qmc⟩ ⟨_,_,qoh,⟨q5z,q60,q63⟩,qn5⟩ ⟨_,_,qo4,⟨q4c,q4d,q4g⟩,qms⟩ ⟨_,_,qny,W.mg_of X G q3n,q3q,qmm⟩ ⟨_,_,qnw,W.mg_of X G q3f,q3i,qmk⟩ ⟨_,_,qnx,W.mg_of X G q3j,q3m,qml⟩ ⟨_,_,qol,W.mg_of X G q6h,q6k,qn9⟩ ⟨_,_,qom,W.mg_of X G q6l,q6o,qna⟩ ⟨_,_,qnz,W.mg_of X G q3r,q3u,qmn⟩ ⟨_,_,qnm,⟨q25,q26,q29⟩,qma⟩ ⟨_,_,qo3,⟨q47,q48,q4b⟩,qmr⟩
 exact qon.imp (λvs H Q E ⟨s,ns,e,hs,hn,q⟩=>⟨s,ns,e,TVw,TLy,TPk,hs,hn,q⟩)
theorem walk{l:W.OpenLaw}{q:Program}{loose:List Str}{XP:(Str->Option Value)->Heap->Prop}{YP:World->Heap->Prop}{d:DefRec}{K:Params->W.Frag}(hn:l.most=some 63)(hdf:d.params.defaults=[])
  (hY:∀ (w:World) (h:Heap),YP w h->(K w.params).In h)
  (F:∀ (w:World) (mg:Str->Option Value) (fa:Addr) (h:Heap),(K w.params).In h->h.Ns mainGlobals mg->mg d.name=some (.ref fa) →
   ∃ fd:FuncData,(∀ (s:Shared) (u:Value),BindsTo s fd ⟨[u],[]⟩ [("script",u)])/\∀ base:Heap,(K w.params).In base->base.Ns mainGlobals mg->FnOk l.prog w (K w.params) mg base (DB l.prog w) 7 fa fd ["script"] (R3 (K w.params))) :
  W.WalkO q loose XP YP l.row.toRowW d [] (λf vs=>PySem.call f vs) :=
 L2.walk_of (n:=63) (k:=7) (x:="script") (CX:=λw=>DB l.prog w) (sp:=λw=>R3 (K w.params)) hn (by decide) hdf ⟨rfl,by decide,by decide⟩ hY F (λ_ _ a ns hl _ hS=>⟨a,ns,rfl,hS,hl,λ_=>rfl⟩) λ_ _ _ _ _ z=>UJ z
end L2
namespace PySem.W.Fast
def tw250827364036499537:=()
def tw695784702192431752:=()
def tw1370422756455674032:=()
def tw9230693893082771996:=()
def tw12707123495787595258:=()
def tw17129194460427556810:=()
def tw12823186207678173347:=()
def tw11454498487057220838:=()
def tw15139753498699756:=()
def tw1897886490345092707:=()
def tw5858773074671007611:=()
def tw17167117871831484616:=()
def tw662315440693486051:=()
def tw7279458211186220663:=()
def tw6636274620967653685:=()
def tw4502729257383130759:=()
def tw13300936959453788057:=()
def tw12150799550150568371:=()
def tw8673069691379043969:=()
def tw894217435828532862:=()
def tw15675507344251031970:=()
def tw6593639790312023769:=()
def tw10705141028839086936:=()
def tw15330533608906292773:=()
def tw17287360970308427693:=()
def tw4275410366618275377:=()
def tw9246956846260070436:=()
def tw16115670126729388086:=()
def tw2592786641655454502:=()
def tw6778755992018733194:=()
def tw3449804246131868582:=()
def tw12292388251079793311:=()
def tw9252601228784351661:=()
def tw8294552935790860717:=()
def tw16629211383018786595:=()
def tw3485882356909255742:=()
def tw18122816221678502701:=()
def tw7917097261088002729:=()
def tw785880709194677399:=()
def tw15044947594190643344:=()
def tw340641261128388452:=()
def tw14665687169922782765:=()
def tw16049861635612017846:=()
def tw8391686626011172414:=()
def tw12482518481500266501:=()
def tw6500295212393621114:=()
def tw1588712917007535787:=()
def tw12010525095313112297:=()
def tw18419927519062631208:=()
def tw14318121336959875360:=()
def tw9765922358171103934:=()
def tw10455267970419107923:=()
def tw6275715817541134433:=()
def tw17908349940417032840:=()
def tw6721290886732270431:=()
def tw11615153894752176309:=()
def tw802870376259679869:=()
def tw6838072970328219557:=()
def tw5246529030947857848:=()
def tw12913508151733766678:=()
def tw5467646536434625285:=()
def tw10882221626114910005:=()
def tw17529205054321412898:=()
def tw17249645222409339298:=()
def tw2760577707325136526:=()
def tw596064508212742384:=()
def tw11507438894081938288:=()
def tw3814158461473212638:=()
def tw12038835937055289223:=()
def tw10778378220527303951:=()
def tw3280346427031160178:=()
def tw12174597183894687710:=()
def tw16651534773719388284:=()
def tw2990583639730515172:=()
def tw7993353944914753111:=()
def tw1544925521936538206:=()
def tw5293689011833303920:=()
def tw6982042535123777056:=()
def tw11722152245131458381:=()
def tw8408374832134261446:=()
def tw14136146403043905022:=()
def tw2790976610630356969:=()
def tw7862338935633712336:=()
def tw12283570814297268442:=()
def tw13755642104899416274:=()
def tw13492836901793228936:=()
def tw6334421427924438027:=()
def tw8046402616979861540:=()
def tw10586793516753596633:=()
def tw1974495393669071238:=()
def tw7704343730953644340:=()
def tw14885766436264451793:=()
def tw8556229980887866369:=()
def tw12710064370163509955:=()
def tw9402635258848038223:=()
def tw631465472110222029:=()
def tw5361897540445001243:=()
def tw9104233490318009962:=()
def tw16278022822012989827:=()
def tw1547171342197520675:=()
def tw2720886448428745301:=()
def tw14065883507066336689:=()
def tw7881674648821192795:=()
def tw4588860692826186898:=()
def tw15140556553500486432:=()
def tw16469663224668372017:=()
def tw6341920592298123084:=()
def tw15792299098068215305:=()
def tw4246493240538001073:=()
def tw11103841299098059336:=()
def tw14958001780650098855:=()
def tw2043710671954413928:=()
def tw6531272046695064319:=()
def tw3131882411812256327:=()
def tw5606201783777929680:=()
def tw1494730563750488651:=()
def tw4524694287896540304:=()
def tw1213693071066152230:=()
def tw16662139902644248848:=()
def tw12173173773573565343:=()
def tw12430812192380012257:=()
def tw13073166969397775568:=()
def tw13091141967081794236:=()
def tw11130799136907323084:=()
def tw823377019382481968:=()
def tw10602801260631071588:=()
def tw14732861990508529042:=()
def tw14748070268107069883:=()
def tw2603600201227449114:=()
def tw9489254398575010585:=()
def tw10532897388442601065:=()
def tw15844670753975150866:=()
def tw5018318941002102090:=()
def tw5262559089551268569:=()
def tw16395640307375460154:=()
def tw3824128057481823978:=()
def tw12960983525868638277:=()
def tw17645902030741134789:=()
def tw14026640109111511847:=()
def tw1939539857471533570:=()
def tw6489798265185104333:=()
def tw6617454210828940421:=()
def tw11817091742375280521:=()
def tw10256661786286449000:=()
def tw14603641961379118463:=()
def tw15836592465718646372:=()
def tw15972170458182663353:=()
def tw8863303021343851512:=()
def tw11448365284966224689:=()
def tw16404220327662701575:=()
def tw7006296044634434877:=()
def tw14088788691858201776:=()
def tw5468904798831219044:=()
def tw17388052228618603938:=()
def tw6193731586840380580:=()
def tw12510563637911125832:=()
def tw6991182814240863845:=()
def tw8421020041822152160:=()
def tw13920257489548006403:=()
def tw10031877031929636851:=()
def tw9288115465838857239:=()
def tw17940666498152605776:=()
def tw3443106964613446495:=()
def tw855289846394862590:=()
def tw5120359858371602424:=()
def tw7633424985921263824:=()
def tw10643986966408679317:=()
def tw8089674955810327240:=()
def tw54366145816203406:=()
def tw9190536775705759544:=()
def tw10084008037576500350:=()
def tw14929044720778789539:=()
def tw2001916756278216173:=()
def tw3732023453833041781:=()
def tw9564100905112091092:=()
def tw12925217724386435207:=()
def tw3070221290992290030:=()
def tw579575001915902999:=()
def tw15394675801928029729:=()
def tw14387019542885976142:=()
def tw5598627241950976109:=()
def tw18218552843861846538:=()
def tw14302530848116933476:=()
def tw8321592891599893792:=()
def tw14763413984032795522:=()
def tw10127889953658393057:=()
def tw13488845555658097733:=()
def tw18372086400326923460:=()
def tw6890238485109760384:=()
def tw835557119460463244:=()
def tw8464169109276104665:=()
def tw13816316255984747006:=()
def tw4534596196510605436:=()
def tw11355615220152628594:=()
def tw13577735125775153699:=()
def tw11017027947496995209:=()
def tw9395805334755809341:=()
def tw2581453033268437446:=()
def tw11118352005698383403:=()
def tw2658983536360304704:=()
def tw4127528818440534627:=()
def tw10032860892647044001:=()
def tw11159776229847717396:=()
def tw2231856837378860567:=()
def tw4287549885894081603:=()
def tw2866886738121446053:=()
def tw14232683728336556810:=()
def tw10458172745438329061:=()
def tw10890089354846609081:=()
def tw2112517606830552121:=()
def tw17426069959233691109:=()
def tw12717697001391766082:=()
def tw5637121687629895908:=()
def tw4659398315570504632:=()
def tw6379256720639834814:=()
def tw5089722799266987220:=()
def tw11193882883617035995:=()
def tw5116268828207572208:=()
def tw2853831692460838945:=()
def tw11930415799214243250:=()
def tw10189018092594195285:=()
def tw9498620153581541241:=()
def tw12095867111608146439:=()
def tw9246094286310697511:=()
def tw13796490341685924965:=()
def tw16030986663243429710:=()
def tw4313902992185637789:=()
def tw17907252025472289520:=()
def tw11775669018723932530:=()
def tw5333136111985907163:=()
def tw5999382653212512728:=()
def tw8263589211174316391:=()
def tw10636067218513449693:=()
def tw9532778895619220501:=()
def tw982446735582259263:=()
def tw9028799184905212622:=()
def tw7328989348765702910:=()
def tw13601199906292935477:=()
def tw563951152306025171:=()
def tw10650048145535100779:=()
def tw12638488902775462017:=()
def tw9438596501973122470:=()
def tw3571672934748352485:=()
def tw15939300777760474574:=()
def tw4290928446767022031:=()
def tw12012491766732846594:=()
def tw9662038344266368012:=()
def tw2243277933245747063:=()
def tw2571119308686932709:=()
def tw5837188259392489898:=()
def tw10605433715293214517:=()
def tw18274544976353432287:=()
def tw13347947792775188868:=()
def tw2842698773690649279:=()
def tw13283965639614767363:=()
def tw13923170015290690224:=()
def tw17696441517700832227:=()
def tw2716903614823824503:=()
def tw12919840332582092752:=()
def tw11328752916659394849:=()
def tw16276393184331624912:=()
def tw7096933397355703059:=()
def tw5629256629307076626:=()
def tw3624849063124432373:=()
def tw7564211141838527096:=()
def tw3429830683727734864:=()
def tw10357616117810673198:=()
def tw18285275243691664251:=()
def tw9961741297708014220:=()
def tw12205050776218870028:=()
def tw16477947678796613080:=()
def tw8703015180641734033:=()
def tw14992914374664174529:=()
def tw17847902547633136002:=()
def tw4983300038308579122:=()
def tw3879181035194176064:=()
def tw3227094298491342137:=()
def tw548115848723348962:=()
def tw3536905371881759893:=()
def tw1380501601634652555:=()
def tw6428851252077316671:=()
def tw12547200273998542150:=()
def tw7921582669705261421:=()
def tw775169249264532399:=()
def tw15520821902677993825:=()
def tw7568882103840490609:=()
def tw8061915252659781590:=()
def tw12576282992345784845:=()
def tw5353675217372090718:=()
def tw10067748840749341480:=()
def tw7242685243046090809:=()
def tw7115101708704333182:=()
def tw18268075108199671243:=()
def tw17748879222989726619:=()
def tw5848981974771274411:=()
def tw1793469918011581457:=()
def tw5545707169117516009:=()
def tw17790668369955934769:=()
def tw1728788892487124144:=()
def tw15742045807005596840:=()
def tw9076178505158858994:=()
def tw16082727356937766868:=()
def tw5955396098907732100:=()
def tw6672917453648455986:=()
def tw13077006767785979537:=()
def tw4871486695454768707:=()
def tw17748170463027863832:=()
def tw14159855015551135895:=()
def tw9480313511759832832:=()
def tw7374362213841826769:=()
def tw18369501656746319229:=()
def tw11031702246618239047:=()
def tw17106150540672044148:=()
def tw1312907580003394183:=()
def tw1668942314700628200:=()
def tw405430494270152686:=()
def tw14988085984583234470:=()
def tw1638782949964366889:=()
def tw12656100523165880994:=()
def tw17391985490957739497:=()
def tw8501929428640622304:=()
def tw1811760351391727812:=()
def tw16900234838356562388:=()
def tw10908555520855736126:=()
def tw13865253039135310927:=()
def tw4127799765963534270:=()
def tw15547310047566006378:=()
def tw3531734947121343211:=()
def tw1916284152622859176:=()
def tw2485340272709293458:=()
def tw13348135133984887539:=()
def tw6398728528815888830:=()
def tw13290088640289289799:=()
def tw17498479008096065436:=()
def tw9444584695032978141:=()
def tw4077111939955928104:=()
def tw9969015625568841469:=()
def tw6259440374247245002:=()
def tw4622899692382529112:=()
def tw9450824565293912751:=()
def tw13088909400068009765:=()
def tw3508581434451108641:=()
def tw9688094808949106200:=()
def tw5381626088853582897:=()
def tw8779586518016105276:=()
def tw2544301016122678989:=()
def tw9604846359136813042:=()
def tw16780310780073837471:=()
def tw15802312725863781067:=()
def tw17293008371833061118:=()
def tw9973916140527594416:=()
def tw11221915498583992430:=()
end PySem.W.Fast
open PySem PySem.W PyProof.Rows
set_option Elab.async false
set_option maxRecDepth 100000 in
set_option maxHeartbeats 0 in
theorem PySem.Challenge.cw_holdback_k51_finds_of_drawn_planks_holds : PySem.Challenge.rw_holdback_k51_finds_of_drawn_planks.Holds := by
 w_on;o_law;k_head;(case hw=>w_witness2)
 k_fill
 refine L2.walk (l:=PySem.Challenge.rw_holdback_k51_finds_of_drawn_planks) rfl rfl (λw h Y=>PySem.W.kIn_of Y) ?F
 case F =>
  intro w mg fa h KX G hmg
  refine' L2.all_mk KX G hmg ?q0 ?q1 ?q2 ?q3 ?q4 ?q5 ?q6 ?q7 ?q8 ?q9 ?qa ?qb ?qc ?qd ?qe ?qf ?qg ?qh ?qi ?qj ?qk ?ql ?qm ?qn ?qo ?qp ?qq ?qr ?qs ?qt ?qu ?qv ?qw ?qx ?qy ?qz ?q10 ?q11 ?q12 ?q13 ?q14 ?q15 ?q16 ?q17 ?q18 ?q19 ?q1a ?q1b ?q1c ?q1d ?q1e ?q1f ?q1g ?q1h ?q1i ?q1j ?q1k ?q1l ?q1m ?q1n ?q1o ?q1p ?q1q ?q1r ?q1s ?q1t ?q1u ?q1v ?q1w ?q1x ?q1y ?q1z ?q20 ?q21 ?q22 ?q23 ?q24 ?q25 ?q26 ?q27 ?q28 ?q29 ?q2a ?q2b ?q2c ?q2d ?q2e ?q2f ?q2g ?q2h ?q2i ?q2j ?q2k ?q2l ?q2m ?q2n ?q2o ?q2p ?q2q ?q2r ?q2s ?q2t ?q2u ?q2v ?q2w ?q2x ?q2y ?q2z ?q30 ?q31 ?q32 ?q33 ?q34 ?q35 ?q36 ?q37 ?q38 ?q39 ?q3a ?q3b ?q3c ?q3d ?q3e ?q3f ?q3g ?q3h ?q3i ?q3j ?q3k ?q3l ?q3m ?q3n ?q3o ?q3p ?q3q ?q3r ?q3s ?q3t ?q3u ?q3v ?q3w ?q3x ?q3y ?q3z ?q40 ?q41 ?q42 ?q43 ?q44 ?q45 ?q46 ?q47 ?q48 ?q49 ?q4a ?q4b ?q4c ?q4d ?q4e ?q4f ?q4g ?q4h ?q4i ?q4j ?q4k ?q4l ?q4m ?q4n ?q4o ?q4p ?q4q ?q4r ?q4s ?q4t ?q4u ?q4v ?q4w ?q4x ?q4y ?q4z ?q50 ?q51 ?q52 ?q53 ?q54 ?q55 ?q56 ?q57 ?q58 ?q59 ?q5a ?q5b ?q5c ?q5d ?q5e ?q5f ?q5g ?q5h ?q5i ?q5j ?q5k ?q5l ?q5m ?q5n ?q5o ?q5p ?q5q ?q5r ?q5s ?q5t ?q5u ?q5v ?q5w ?q5x ?q5y ?q5z ?q60 ?q61 ?q62 ?q63 ?q64 ?q65 ?q66 ?q67 ?q68 ?q69 ?q6a ?q6b ?q6c ?q6d ?q6e ?q6f ?q6g ?q6h ?q6i ?q6j ?q6k ?q6l ?q6m ?q6n ?q6o ?q6p ?q6q ?q6r ?q6s ?q6t ?q6u ?q6v ?q6w ?q6x ?q6y ?q6z ?q70 ?q71 ?q72 ?q73 ?q74 ?q75 ?q76 ?q77
  (case q0=>k_is)
  (case q1=>k_is)
  (case q2=>k_is)
  (case q3=>k_is)
  (case q4=>k_is)
  (case q5=>k_is)
  (case q6=>k_is)
  (case q7=>k_is)
  (case q8=>k_is)
  (case q9=>k_is)
  (case qa=>k_is)
  (case qb=>k_is)
  (case qc=>k_is)
  (case qd=>k_is)
  (case qe=>k_is)
  (case qf=>k_is)
  (case qg=>k_is)
  (case qh=>k_is)
  (case qi=>k_is)
  (case qj=>k_is)
  (case qk=>k_is)
  (case ql=>k_is)
  (case qm=>k_exc)
  (case qn=>k_is)
  (case qo=>k_is)
  (case qp=>k_is)
  (case qq=>k_is)
  (case qr=>k_is)
  (case qs=>k_is)
  (case qt=>k_is)
  (case qu=>k_is)
  (case qv=>k_is)
  (case qw=>k_is)
  (case qx=>k_is)
  (case qy=>k_is)
  (case qz=>k_is)
  (case q10=>k_is)
  (case q11=>k_is)
  (case q12=>k_is)
  (case q13=>k_is)
  (case q14=>k_is)
  (case q15=>k_is)
  (case q16=>k_is)
  (case q17=>k_is)
  (case q18=>k_is)
  (case q19=>k_is)
  (case q1a=>k_is)
  (case q1b=>k_is)
  (case q1c=>k_is)
  (case q1d=>k_is)
  (case q1e=>k_is)
  (case q1f=>k_is)
  (case q1g=>k_is)
  (case q1h=>k_is)
  (case q1i=>k_is)
  (case q1j=>k_is)
  (case q1k=>k_is)
  (case q1l=>k_is)
  (case q1m=>k_is)
  (case q1n=>k_is)
  (case q1o=>k_is)
  (case q1p=>k_is)
  (case q1q=>k_is)
  (case q1r=>k_is)
  (case q1s=>k_is)
  (case q1t=>k_is)
  (case q1u=>k_is)
  (case q1v=>k_is)
  (case q1w=>k_is)
  (case q1x=>k_is)
  (case q1y=>k_is)
  (case q1z=>k_is)
  (case q20=>k_is)
  (case q21=>k_is)
  (case q22=>k_is)
  (case q23=>k_is)
  (case q24=>k_is)
  (case q25=>k_is)
  (case q26=>k_is)
  (case q27=>k_is)
  (case q28=>k_is)
  (case q29=>k_is)
  (case q2a=>k_is)
  (case q2b=>k_is)
  (case q2c=>k_is)
  (case q2d=>k_is)
  (case q2e=>k_is)
  (case q2f=>k_is)
  (case q2g=>k_is)
  (case q2h=>k_is)
  (case q2i=>k_is)
  (case q2j=>k_is)
  (case q2k=>k_is)
  (case q2l=>k_is)
  (case q2m=>k_is)
  (case q2n=>k_is)
  (case q2o=>k_is)
  (case q2p=>k_is)
  (case q2q=>k_is)
  (case q2r=>k_is)
  (case q2s=>k_is)
  (case q2t=>k_is)
  (case q2u=>k_is)
  (case q2v=>k_is)
  (case q2w=>k_is)
  (case q2x=>k_is)
  (case q2y=>k_is)
  (case q2z=>k_is)
  (case q30=>k_is)
  (case q31=>k_is)
  (case q32=>k_is)
  (case q33=>k_is)
  (case q34=>k_is)
  (case q35=>k_is)
  (case q36=>k_is)
  (case q37=>k_is)
  (case q38=>k_is)
  (case q39=>k_is)
  (case q3a=>k_is)
  (case q3b=>k_is)
  (case q3c=>k_is)
  (case q3d=>k_is)
  (case q3e=>k_is)
  (case q3f=>k_is)
  (case q3g=>k_is)
  (case q3h=>k_is)
  (case q3i=>k_is)
  (case q3j=>k_is)
  (case q3k=>k_is)
  (case q3l=>k_is)
  (case q3m=>k_is)
  (case q3n=>k_is)
  (case q3o=>k_is)
  (case q3p=>k_is)
  (case q3q=>k_is)
  (case q3r=>k_is)
  (case q3s=>k_is)
  (case q3t=>k_is)
  (case q3u=>k_is)
  (case q3v=>k_is)
  (case q3w=>k_is)
  (case q3x=>k_is)
  (case q3y=>k_is)
  (case q3z=>k_is)
  (case q40=>k_is)
  (case q41=>k_is)
  (case q42=>k_is)
  (case q43=>k_is)
  (case q44=>k_is)
  (case q45=>k_is)
  (case q46=>k_is)
  (case q47=>k_is)
  (case q48=>k_is)
  (case q49=>k_is)
  (case q4a=>k_is)
  (case q4b=>k_is)
  (case q4c=>k_is)
  (case q4d=>k_is)
  (case q4e=>k_is)
  (case q4f=>k_is)
  (case q4g=>k_is)
  (case q4h=>k_is)
  (case q4i=>k_is)
  (case q4j=>k_is)
  (case q4k=>k_is)
  (case q4l=>k_is)
  (case q4m=>k_is)
  (case q4n=>k_is)
  (case q4o=>k_is)
  (case q4p=>k_is)
  (case q4q=>k_is)
  (case q4r=>k_is)
  (case q4s=>k_is)
  (case q4t=>k_is)
  (case q4u=>k_is)
  (case q4v=>k_is)
  (case q4w=>k_is)
  (case q4x=>k_is)
  (case q4y=>k_is)
  (case q4z=>k_is)
  (case q50=>k_is)
  (case q51=>k_is)
  (case q52=>k_is)
  (case q53=>k_is)
  (case q54=>k_is)
  (case q55=>k_is)
  (case q56=>k_is)
  (case q57=>k_is)
  (case q58=>k_is)
  (case q59=>k_is)
  (case q5a=>k_is)
  (case q5b=>k_is)
  (case q5c=>k_is)
  (case q5d=>k_is)
  (case q5e=>k_is)
  (case q5f=>k_is)
  (case q5g=>k_is)
  (case q5h=>k_is)
  (case q5i=>k_is)
  (case q5j=>k_is)
  (case q5k=>k_is)
  (case q5l=>k_is)
  (case q5m=>k_is)
  (case q5n=>k_is)
  (case q5o=>k_is)
  (case q5p=>k_is)
  (case q5q=>k_is)
  (case q5r=>k_is)
  (case q5s=>k_is)
  (case q5t=>k_is)
  (case q5u=>k_is)
  (case q5v=>k_is)
  (case q5w=>k_is)
  (case q5x=>k_is)
  (case q5y=>k_is)
  (case q5z=>k_is)
  (case q60=>k_is)
  (case q61=>k_is)
  (case q62=>k_is)
  (case q63=>k_is)
  (case q64=>k_is)
  (case q65=>k_is)
  (case q66=>k_is)
  (case q67=>k_is)
  (case q68=>k_is)
  (case q69=>k_is)
  (case q6a=>k_is)
  (case q6b=>k_is)
  (case q6c=>k_is)
  (case q6d=>k_is)
  (case q6e=>k_is)
  (case q6f=>k_is)
  (case q6g=>k_is)
  (case q6h=>k_is)
  (case q6i=>k_is)
  (case q6j=>k_is)
  (case q6k=>k_is)
  (case q6l=>k_is)
  (case q6m=>k_is)
  (case q6n=>k_is)
  (case q6o=>k_is)
  (case q6p=>k_is)
  (case q6q=>k_is)
  (case q6r=>k_is)
  (case q6s=>k_is)
  (case q6t=>k_is)
  (case q6u=>k_is)
  (case q6v=>k_is)
  (case q6w=>k_is)
  (case q6x=>k_is)
  (case q6y=>k_is)
  (case q6z=>k_is)
  (case q70=>k_is)
  (case q71=>k_is)
  (case q72=>k_is)
  (case q73=>k_is)
  (case q74=>k_is)
  (case q75=>k_is)
  (case q76=>k_is)
  (case q77=>k_is)
