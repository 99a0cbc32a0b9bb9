import PyProof.Rows.All
import Wide.All
import OpenK.AllK
import Wide.FinOn
import Lean
import PyProof.EqAt
import PyProof.EqKinds
import PyProof.TupleCall
import PyProof.SetScanFacts
import PyProof.Rows.SetFrom
import PyProof.Rows.SortWalk
import PyProof.CollectWalk
import PyProof.DictWalks
import PySem.Challenge.RW_holdback_k52_sound_and_one_fault
set_option linter.all false
set_option maxRecDepth 100000
set_option maxHeartbeats 8000000
open PySem PySem.Spec PyProof.Rows
set_option Elab.async false
namespace L2
abbrev BD:=Sum Int Str
def KB:BD->Value->Bool
 | .inl k,v=>Value.isInt k v
 | .inr x,v=>Value.isStrOf x v
def jN(w:World):BD->Int
 | .inl k=>hashInt k
 | .inr x=>hashStr w x
theorem GU:∀ {k:BD} {v:Value},KB k v=true->(∃ i t,k=Sum.inl i/\v=Value.int i t)\/(∃ x t,k=Sum.inr x/\v=Value.str x t)
 | .inl i,v,h=>by
  obtain⟨t,e⟩:=Value.isInt_shape (k:=i) (v:=v) h
  exact .inl ⟨i,t,rfl,e⟩
 | .inr x,v,h=>by
  obtain⟨t,e⟩:=Value.isStrOf_shape (x:=x) (v:=v) h
  exact .inr ⟨x,t,rfl,e⟩
theorem jO(i:Int)(t:Tok):KB (.inl i) (.int i t)=true:=by simp[KB,Value.isInt]
theorem jP(x:Str)(t:Tok):KB (.inr x) (.str x t)=true:=by simp[KB,Value.isStrOf]
theorem jQ(a b:Int):decide ((Sum.inl a:BD)=Sum.inl b)=(a == b):=by
 by_cases e:a=b
 ·subst e;simp
 ·have h:¬ (Sum.inl a:BD)=Sum.inl b:=λq=>e (Sum.inl.inj q)
  rw[decide_eq_false h]
  exact(beq_eq_false_iff_ne.mpr e).symm
theorem jR(a b:Str):decide ((Sum.inr a:BD)=Sum.inr b)=decide (a=b):=by
 by_cases e:a=b
 ·subst e;simp
 ·have h:¬ (Sum.inr a:BD)=Sum.inr b:=λq=>e (Sum.inr.inj q)
  rw[decide_eq_false h,decide_eq_false e]
theorem jS(a:Int)(b:Str):decide ((Sum.inl a:BD)=Sum.inr b)=false:=decide_eq_false (λq=>nomatch q)
theorem jT(a:Str)(b:Int):decide ((Sum.inr a:BD)=Sum.inl b)=false:=decide_eq_false (λq=>nomatch q)
def EF(prog:Program)(w:World):PySem.KeyKind prog w BD where
 is:=KB
 hash:=jN w
 inj:=λv a b ha hb=>by
  rcases GU ha with⟨i,t,rfl,rfl⟩ | ⟨x,t,rfl,rfl⟩
  ·rcases GU hb with⟨j,u,rfl,e⟩ | ⟨y,u,rfl,e⟩
   ·injection e with e1 _;rw[e1]
   ·exact nomatch e
  ·rcases GU hb with⟨j,u,rfl,e⟩ | ⟨y,u,rfl,e⟩
   ·exact nomatch e
   ·injection e with e1 _;rw[e1]
 byValue:=λk v h=>by
  rcases GU h with⟨i,t,rfl,rfl⟩ | ⟨x,t,rfl,rfl⟩<;>rfl
 pyHash:=λhv h=>by
  rcases GU hv with⟨i,t,rfl,rfl⟩ | ⟨x,t,rfl,rfl⟩
  ·exact wpAny_pyHash_int h
  ·exact wpAny_pyHash_str h
 eqBool:=λhu hv h=>by
  rcases GU hu with⟨i,t,rfl,rfl⟩ | ⟨x,t,rfl,rfl⟩
  ·rcases GU hv with⟨j,u,rfl,rfl⟩ | ⟨y,u,rfl,rfl⟩
   ·rw[jQ]at h;exact wpAny_eqBool_int h
   ·rw[jS]at h;exact SeqAt.EqAt.int_str i t y u _ _ _ _ h
  ·rcases GU hv with⟨j,u,rfl,rfl⟩ | ⟨y,u,rfl,rfl⟩
   ·rw[jT]at h;exact SeqAt.EqAt.str_int x t j u _ _ _ _ h
   ·rw[jR]at h;exact wpAny_eqBool_str h
 «strs» :=λk x t v h=>by
  rcases GU h with⟨i,u,rfl,e⟩ | ⟨y,u,rfl,e⟩
  ·exact nomatch e
  ·injection e with e1 _
   subst e1
   cases v<;>rfl
theorem jU(prog:Program)(w:World)(i:Int)(t:Tok):(EF prog w).is (.inl i) (.int i t)=true:=jO i t
theorem jV(prog:Program)(w:World)(x:Str)(t:Tok):(EF prog w).is (.inr x) (.str x t)=true:=jP x t
end L2
namespace L2
inductive V where
 | non | bl (b:Bool) | int (i:Int) | str (x:Str) | byt (b:Array UInt8) | flt (b:UInt64) | ref (a:Addr) | ty (n:String)
 deriving DecidableEq
def RelV:V->Value->Prop
 | .non,u=>u=Value.none
 | .bl b,u=>u=Value.bool b
 | .int i,u=>∃ t,u=Value.int i t
 | .str x,u=>∃ t,u=Value.str x t
 | .byt b,u=>∃ t,u=Value.bytes b t
 | .flt b,u=>∃ t,u=Value.float b t
 | .ref a,u=>u=Value.ref a
 | .ty n,u=>u=Value.type n
abbrev Vals:List V->List Value->Prop:=Paired RelV
theorem Vals.length{xs:List V}{us:List Value}(r:Vals xs us):xs.length=us.length:=Paired.length r
theorem Vals.get:∀ {xs:List V} {us:List Value} {i:Nat} {x:V},Vals xs us->xs[i]? =some x->∃ u,us[i]? =some u/\RelV x u
 | _,_,_,_,.nil,e=>by simp at e
 | _,_,0,_,.cons r _,e=>by simp at e;subst e;exact⟨_,rfl,r⟩
 | _,_,i+1,x,.cons _ t,e=>by
  obtain⟨u,h1,h2⟩:=Vals.get (i:=i) (x:=x) t (by simpa using e)
  exact⟨u,by simpa using h1,h2⟩
theorem Vals.set{x:V}{u:Value}(r:RelV x u):∀ {xs:List V} {us:List Value} (i:Nat),Vals xs us->Vals (xs.set i x) (us.set i u)
 | _,_,_,.nil=>.nil
 | _,_,0,.cons _ t=>.cons r t
 | _,_,i+1,.cons q t=>.cons q (Vals.set r i t)
theorem Vals.append:∀ {xs ys:List V} {us ws:List Value},Vals xs us->Vals ys ws->Vals (xs++ys) (us++ws)
 | _,_,_,_,.nil,s=>s
 | _,_,_,_,.cons r t,s=>.cons r (Vals.append t s)
theorem Vals.take:∀ {xs:List V} {us:List Value} (n:Nat),Vals xs us->Vals (xs.take n) (us.take n)
 | _,_,0,_=>.nil
 | _,_,_+1,.nil=>.nil
 | _,_,n+1,.cons r t=>.cons r (Vals.take n t)
theorem Vals.drop:∀ {xs:List V} {us:List Value} (n:Nat),Vals xs us->Vals (xs.drop n) (us.drop n)
 | _,_,0,r=>r
 | _,_,_+1,.nil=>.nil
 | _,_,n+1,.cons _ t=>Vals.drop n t
theorem Vals.none_of:∀ {xs:List V} {us:List Value} {i:Nat},Vals xs us->xs[i]? =none->us[i]? =none:=λ{xs us i} r e=>by
 have h1:=r.length
 have h2:xs.length<=i:=List.getElem?_eq_none_iff.mp e
 exact List.getElem?_eq_none_iff.mpr (by omega)
def RelO:Option V->Option Value->Prop
 | some v,some u=>RelV v u
 | none,none=>True
 | _,_=>False
def KV{κ :Type}:List (κ × V)->List (κ × Value)->Prop:=Paired λ(p: κ × V) (q: κ × Value)=>p.1=q.1/\RelV p.2 q.2
def kV:BD->V
 | .inl i=>.int i
 | .inr x=>.str x
inductive HO where
 /-- a list -/
 | lst (xs:List V)
 /-- a tuple (never changes) -/
 | tup (xs:List V)
 /-- a dict whose keys are ints and texts;one whose keys are tuples of ints and texts (the empty one is both) -/
 | dK (kvs:List (BD × V)) | dT (kvs:List (List BD × V))
 /-- a set of ints: its members,its size -/
 | set (S:Int->Bool) (n:Nat)
 /-- an instance of the class at C,its dict at dx,its attributes -/
 | ins (C dx:Addr) (fs:List (Str × V))
 /-- the dict of the instance at x -/
 | own (x:Addr)
 /-- the dict of an exception -/
 | xd (fs:List (Str × V))
 /-- a bound method,f of x -/
 | met (f x:Addr)
 /-- a range object lo,lo+1,.. below hi -/
 | rng (lo hi:Int)
 /-- a thing that is known to the object (the script;a dict while a loop walks it): read,never written while it is so -/
 | frz (o:Obj) (u:HO)
 /-- a code object's table -/
 | tbl (ps:Array Value)
 /-- any other thing,by what is true of its one object (a def of one's own: SetO a S n:=HO.ext λh=>..) -/
 | ext (φ :Heap->Prop)
abbrev Hp:=Addr->Option HO
def upd(H:Hp)(a:Addr)(o:HO):Hp:=λb=>if b=a then some o else H b
theorem AS{H:Hp}{a:Addr}{o:HO}:upd H a o a=some o:=by unfold upd;rw[if_pos rfl]
theorem AW{H:Hp}{a b:Addr}{o:HO}(h:b≠a):upd H a o b=H b:=by unfold upd;rw[if_neg h]
theorem MG{H:Hp}{a:Addr}{o u:HO}:upd (upd H a o) a u=upd H a u:=by
 funext b;unfold upd;split<;>rfl
theorem DU{H:Hp}{a b:Addr}{o u:HO}(h:H a=some o)(h':H b=some u)(d:o≠u):a≠b:=by
 intro e;subst e;rw[h]at h';exact d (Option.some.inj h')
theorem BX{H:Hp}{a b:Addr}{o:HO}(h:H a=some o)(h':H b=none):a≠b:=by
 intro e;subst e;rw[h]at h';cases h'
section
variable(P:Program)(w:World)
def ObjOk(H:Hp)(h:Heap)(a:Addr):HO->Prop
 | .lst xs=>xs.length<=sizeLine/\∃ (its:List Value) (n:Nat),Vals xs its/\h.get? a=some { cls:=.type "list",data:=.seq its.toArray n }
 | .tup xs=>xs.length<=sizeLine/\∃ its:List Value,Vals xs its/\IsTup h a its.toArray
 | .dK kvs=>kvs.length<=sizeLine/\(a == sysModules)=false/\∃ vs,KV kvs vs/\h.DictOf (EF P w) a vs
 | .dT kvs=>kvs.length<=sizeLine/\(a == sysModules)=false/\∃ xs:List (List BD × Addr × Value),
   Paired (λ(p:List BD × V) (q:List BD × Addr × Value)=>p.1=q.1/\H q.2.1=some (.tup (p.1.map kV))/\RelV p.2 q.2.2) kvs xs ∧
   ∃ o es ep,h.get? a=some o/\o.ExactDict/\o.data=.dict es ep/\es.toList=xs.map (entryOfKey (tupleKind (EF P w)))/\(xs.map (·.1)).Nodup
 | .set S n=>h.SetOf (intKind P w) a S n
 | .ins C dx fs=>H dx=some (.own a)/\fs.length<=1000/\dx≠a/\h.get? a=some (W.instObj C dx) ∧
   ∃ mA,h.Ns1 dx mA/\(∀ f,RelO (fs.lookup f) (mA f))/\PySem.Within mA (fs.map (·.1))
 | .own _=>∃ o,h.get? a=some o
 | .xd fs=>∃ mA,h.Ns1 a mA/\∀ f,RelO (fs.lookup f) (mA f)
 | .rng lo hi=>∃ t u v,h.get? a=some { cls:=.type "range",data:=.fields #[.int lo t,.int hi u,.int 1 v] }
 | .frz o u=>h.get? a=some o/\ObjOk H h a u
 | .tbl ps=>h.get? a=some { cls:=.none,data:=.fields ps }
 | .met f x=>h.get? a=some (W.methodObj (.ref f) (.ref x))
 | .ext φ => φ h/\(∃ o,h.get? a=some o)/\∀ h1 h2:Heap,φ h1->(∀ o,h1.get? a=some o->h2.get? a=some o)-> φ h2
def HOk(H:Hp)(h:Heap):Prop:=∀ a o,H a=some o->ObjOk P w H h a o
end
section
variable{P:Program}{w:World}{H H':Hp}{h h':Heap}{a:Addr}{o:HO}
theorem ObjOk.lt(x:ObjOk P w H h a o):a<h.objs.size:=by
 cases o with
 | lst xs=>obtain⟨_,_,_,_,e⟩:=x;exact Heap.lt_size e
 | tup xs=>obtain⟨_,_,_,p⟩:=x;exact p.lt
 | dK kvs=>obtain⟨_,_,_,_,o,_,_,e,_⟩:=x;exact Heap.lt_size e
 | dT kvs=>obtain⟨_,_,_,_,o,_,_,e,_⟩:=x;exact Heap.lt_size e
 | set S n=>obtain⟨o,_,_,_,e,_⟩:=x;exact Heap.lt_size e
 | ins C dx fs=>obtain⟨_,_,_,e,_⟩:=x;exact Heap.lt_size e
 | own y=>obtain⟨_,e⟩:=x;exact Heap.lt_size e
 | xd fs=>obtain⟨_,⟨_,_,_,e,_⟩,_⟩:=x;exact Heap.lt_size e
 | rng lo hi=>obtain⟨_,_,_,e⟩:=x;exact Heap.lt_size e
 | frz ob u=>obtain⟨e,_⟩:=x;exact Heap.lt_size e
 | tbl ps=>exact Heap.lt_size (show h.get? a=some _ from x)
 | met f y=>exact Heap.lt_size (show h.get? a=some _ from x)
 | ext φ =>obtain⟨_,⟨_,e⟩,_⟩:=x;exact Heap.lt_size e
theorem Paired.mapP{α β :Type}{F G: α -> β ->Prop}:∀ {l₁:List α} {l₂:List β},Paired F l₁ l₂->(∀ a b,F a b->G a b)->Paired G l₁ l₂
 | _,_,.nil,_=>.nil
 | _,_,.cons r t,f=>.cons (f _ _ r) (Paired.mapP t f)
theorem ObjOk.stay(x:ObjOk P w H h a o)(k:∀ b u,(b=a\/H b=some (.own a))->h.get? b=some u->h'.get? b=some u)
  (ho:∀ b,H b=some (.own a)->H' b=some (.own a)) (ht:∀ b xs,H b=some (.tup xs)->H' b=some (.tup xs)):ObjOk P w H' h' a o:=by
 induction o with
 | lst xs=>obtain⟨z,its,n,r,e⟩:=x;exact⟨z,its,n,r,k _ _ (.inl rfl) e⟩
 | tup xs=>obtain⟨z,its,r,ob,e,c⟩:=x;exact⟨z,its,r,ob,k _ _ (.inl rfl) e,c⟩
 | dK kvs=>obtain⟨z,y,vs,r,ob,es,ep,e,c⟩:=x;exact⟨z,y,vs,r,ob,es,ep,k _ _ (.inl rfl) e,c⟩
 | dT kvs =>
  obtain⟨z,y,xs,r,ob,es,ep,e,c⟩:=x
  exact⟨z,y,xs,Paired.mapP r λp q z=>⟨z.1,ht _ _ z.2.1,z.2.2⟩,ob,es,ep,k _ _ (.inl rfl) e,c⟩
 | set S n=>obtain⟨ob,es,ep,t,e,c⟩:=x;exact⟨ob,es,ep,t,k _ _ (.inl rfl) e,c⟩
 | ins C dx fs =>
  obtain⟨d,z,ne,e,mA,⟨od,es,ep,e2,c⟩,r⟩:=x
  exact⟨ho _ d,z,ne,k _ _ (.inl rfl) e,mA,⟨od,es,ep,k _ _ (.inr d) e2,c⟩,r⟩
 | own y=>obtain⟨ob,e⟩:=x;exact⟨ob,k _ _ (.inl rfl) e⟩
 | xd fs=>obtain⟨mA,⟨od,es,ep,e,c⟩,r⟩:=x;exact⟨mA,⟨od,es,ep,k _ _ (.inl rfl) e,c⟩,r⟩
 | rng lo hi=>obtain⟨t,u,v,e⟩:=x;exact⟨t,u,v,k _ _ (.inl rfl) e⟩
 | frz ob u ih=>obtain⟨e,q⟩:=x;exact⟨k _ _ (.inl rfl) e,ih q⟩
 | tbl ps =>
  have e:h.get? a=some { cls:=.none,data:=.fields ps }:=x
  show h'.get? a=some { cls:=.none,data:=.fields ps }
  exact k a _ (.inl rfl) e
 | met f y =>
  have e:h.get? a=some (W.methodObj (.ref f) (.ref y)):=x
  show h'.get? a=some (W.methodObj (.ref f) (.ref y))
  exact k a _ (.inl rfl) e
 | ext φ =>obtain⟨p,⟨o,e⟩,st⟩:=x;exact⟨st _ _ p λo q=>k _ _ (.inl rfl) q,⟨o,k _ _ (.inl rfl) e⟩,st⟩
theorem HOk.lt(x:HOk P w H h)(e:H a=some o):a<h.objs.size:=(x a o e).lt
theorem HOk.fresh(x:HOk P w H h)(e:h.objs.size<=a):H a=none:=by
 cases q:H a with
 | none=>rfl
 | some u=>exact absurd (Nat.lt_of_lt_of_le (x.lt q) e) (Nat.lt_irrefl _)
theorem HOk.kept(x:HOk P w H h)(k:∀ b u,h.get? b=some u->h'.get? b=some u):HOk P w H h':=λa o e =>
 (x a o e).stay (λb u _ q=>k b u q) (λ_ q=>q) λ_ _ q=>q
theorem HOk.laid(x:HOk P w H h)(k:∀ b u,h.get? b=some u->h'.get? b=some u)(hp:h.objs.size<=a)(new:ObjOk P w (upd H a o) h' a o):HOk P w (upd H a o) h':=λb u e=>by
 have hn:=x.fresh hp
 by_cases hb:b=a
 ·subst hb;rw[AS]at e;cases e;exact new
 ·rw[AW hb]at e
  exact(x b u e).stay (λc v _ q=>k c v q) (λc q=>by rw[AW (BX q hn)];exact q) λc xs q=>by rw[AW (BX q hn)];exact q
end
def Rd(H:Hp)(a:Addr)(u:HO):Prop:=H a=some u\/∃ o,H a=some (.frz o u)
theorem Rd.of{H:Hp}{a:Addr}{u:HO}(h:H a=some u):Rd H a u:=.inl h
theorem Rd.ok{P:Program}{w:World}{H:Hp}{h:Heap}{a:Addr}{u:HO}(r:Rd H a u)(x:HOk P w H h):ObjOk P w H h a u:=by
 rcases r with r | ⟨o,r⟩
 ·exact x a u r
 ·obtain⟨_,q⟩:=x a _ r
  exact q
def MH:Option HO->Prop
 | some (.lst _)=>True
 | some (.dK _)=>True
 | some (.dT _)=>True
 | some (.set _ _)=>True
 | some (.ins _ _ _)=>True
 | some (.ext _)=>True
 | _=>False
section
variable{P:Program}{w:World}{H:Hp}{h h':Heap}{x e:Addr}{o':HO}
theorem HOk.write(ok:HOk P w H h)(mu:MH (H x))(he:e=x\/H e=some (.own x))(k:∀ b u,b≠e->h.get? b=some u->h'.get? b=some u)(heo:∃ u,h'.get? e=some u)
  (new:ObjOk P w (upd H x o') h' x o'):HOk P w (upd H x o') h':=λb u q=>by
 have nown:∀ c y,H c=some (.own y)->c≠x:=λc y r z=>by subst z;rw[r]at mu;exact mu
 have ntup:∀ c xs,H c=some (.tup xs)->c≠x:=λc xs r z=>by subst z;rw[r]at mu;exact mu
 by_cases hb:b=x
 ·subst hb;rw[AS]at q;cases q;exact new
 ·rw[AW hb]at q
  by_cases hbe:b=e
  ·have q':H b=some (.own x):=by
    rcases he with z | z
    ·exact absurd (hbe.trans z) hb
    ·rw[hbe];exact z
   rw[q]at q';cases q'
   obtain⟨v,hv⟩:=heo
   exact⟨v,by rw[hbe];exact hv⟩
  ·refine(ok b u q).stay (λc v hc r=>k c v ?_ r) (λc r=>by rw[AW (nown c b r)];exact r) λc xs r=>by rw[AW (ntup c xs r)];exact r
   rcases hc with rfl | hc
   ·exact hbe
   ·rintro rfl
    rcases he with z | z
    ·exact nown c b hc z
    ·rw[hc]at z;cases z;exact hb rfl
end
structure Un(fs ex:List Addr)(H H':Hp)(h h':Heap):Prop where
 keep:∀ b o,h.get? b=some o->H b=none->b∉fs->b∉ex->h'.get? b=some o
 slot:∀ b o,h.get? b=some o->H b=none->b∈fs->b∉ex->∃ sl,h'.get? b=some { o with slots:=sl }
 free:∀ b o,h.get? b=some o->H b=none->b∉ex->H' b=none
 there:∀ b o,h.get? b=some o->b∉ex->∃ o',h'.get? b=some o'
 tups:∀ b xs,H b=some (.tup xs)->H' b=some (.tup xs)
 frzs:∀ b o u,H b=some (.frz o u)->H' b=some (.frz o u)
 tbls:∀ b ps,H b=some (.tbl ps)->∃ more,H' b=some (.tbl (ps++more))
section
variable{fs fs' ex ex':List Addr}{H H1 H2:Hp}{h h1 h2 h':Heap}{a x e:Addr}{o:HO}
theorem Un.any(u:Un fs ex H H1 h h1){b:Addr}{ob:Obj}(q:h.get? b=some ob)(n:H b=none)(hx:b∉ex):∃ sl,h1.get? b=some { ob with slots:=sl }:=by
 by_cases hb:b∈fs
 ·exact u.slot b ob q n hb hx
 ·exact⟨ob.slots,u.keep b ob q n hb hx⟩
theorem Un.trans(a:Un fs ex H H1 h h1)(b:Un fs ex H1 H2 h1 h2):Un fs ex H H2 h h2 where
 keep:=λc ob q n hc hx=>b.keep c ob (a.keep c ob q n hc hx) (a.free c ob q n hx) hc hx
 slot:=λc ob q n hc hx=>by
  obtain⟨sl,e1⟩:=a.slot c ob q n hc hx
  obtain⟨sl',e2⟩:=b.slot c _ e1 (a.free c ob q n hx) hc hx
  exact⟨sl',e2⟩
 free:=λc ob q n hx=>by
  obtain⟨o',e1⟩:=a.there c ob q hx
  exact b.free c o' e1 (a.free c ob q n hx) hx
 there:=λc ob q hx=>by
  obtain⟨o',e1⟩:=a.there c ob q hx
  exact b.there c o' e1 hx
 tups:=λc xs q=>b.tups c xs (a.tups c xs q)
 frzs:=λc ob xs q=>b.frzs c ob xs (a.frzs c ob xs q)
 tbls:=λc ps q=>by
  obtain⟨m1,e1⟩:=a.tbls c ps q
  obtain⟨m2,e2⟩:=b.tbls c _ e1
  exact⟨m1++m2,by rw[e2,Array.append_assoc]⟩
theorem Un.kept(k:∀ b u,h.get? b=some u->h'.get? b=some u):Un fs ex H H h h' :=
 ⟨λb ob q _ _ _=>k b ob q,λb ob q _ _ _=>⟨ob.slots,k b ob q⟩,λ_ _ _ n _=>n,λb ob q _=>⟨ob,k b ob q⟩,λ_ _ q=>q,λ_ _ _ q=>q,λ_ ps q=>⟨#[],by rw[q];simp⟩⟩
theorem Un.refl:Un fs ex H H h h:=Un.kept λ_ _ q=>q
theorem Un.laid(k:∀ b u,h.get? b=some u->h'.get? b=some u)(hp:h.objs.size<=a)(hn:H a=none):Un fs ex H (upd H a o) h h' where
 keep:=λb u q _ _ _=>k b u q
 slot:=λb u q _ _ _=>⟨u.slots,k b u q⟩
 free:=λb u q n _=>by rw[AW (Nat.ne_of_lt (Nat.lt_of_lt_of_le (Heap.lt_size q) hp))];exact n
 there:=λb u q _=>⟨u,k b u q⟩
 tups:=λb xs q=>by rw[AW (BX q hn)];exact q
 frzs:=λb u xs q=>by rw[AW (BX q hn)];exact q
 tbls:=λb ps q=>⟨#[],by rw[AW (BX q hn),q];simp⟩
theorem Un.write(mu:MH (H x))(he:e=x\/H e=some (.own x))(k:∀ b u,b≠e->h.get? b=some u->h'.get? b=some u)(heo:∃ u,h'.get? e=some u):Un fs ex H (upd H x o) h h':=by
 have hx:∀ b,H b=none->b≠x:=λb n z=>by subst z;rw[n]at mu;exact mu
 have hb:∀ b,H b=none->b≠e:=λb n z=>by
  subst z
  rcases he with r | r
  ·exact hx b n r
  ·rw[n]at r;cases r
 have hm:∀ b u,H b=some u->¬ MH (some u)->b≠x:=λb u q nm z=>by subst z;rw[q]at mu;exact nm mu
 refine⟨λb u q n _ _=>k b u (hb b n) q,λb u q n _ _=>⟨u.slots,k b u (hb b n) q⟩,λb u q n _=>by rw[AW (hx b n)];exact n,λb u q _=> ?_,
  λb xs q=>by rw[AW (hm b _ q λz=>z)];exact q,λb u xs q=>by rw[AW (hm b _ q λz=>z)];exact q,λb ps q=>⟨#[],by rw[AW (hm b _ q λz=>z),q];simp⟩⟩
 by_cases hbe:b=e
 ·subst hbe;exact heo
 ·exact⟨u,k b u hbe q⟩
theorem Un.mono(u:Un fs ex H H1 h h1)(hs:∀ b∈fs,b∈fs')(hx:∀ b∈ex,b∈ex'):Un fs' ex' H H1 h h1 :=
 ⟨λb ob q n hb he=>u.keep b ob q n (λz=>hb (hs b z)) λz=>he (hx b z),λ_ _ q n _ he=>u.any q n λz=>he (hx _ z),λb ob q n he=>u.free b ob q n λz=>he (hx b z),λb ob q he=>u.there b ob q λz=>he (hx b z),u.tups,u.frzs,u.tbls⟩
end
def OH(h:Heap)(H:Hp):List Addr:=(List.range h.objs.size).filter λa=>(H a).isSome
def GW(h:Heap)(H:Hp):Heap:=W.hideAll h (OH h H)
theorem jW(h:Heap)(H:Hp):(GW h H).objs.size=h.objs.size:=W.hideAll_size _ _
theorem jX{h:Heap}{H:Hp}{b:Addr}{o:Obj}(e:h.get? b=some o)(n:H b=none):(GW h H).get? b=some o :=
 W.hideAll_get _ e λhm=>by
  have q:(H b).isSome=true:=(List.mem_filter.mp hm).2
  rw[n]at q;simp at q
theorem jY{h:Heap}{H:Hp}{b:Addr}{o:Obj}(e:(GW h H).get? b=some o):h.get? b=some o/\H b=none:=by
 have e':h.get? b=some o:=W.of_hideAll (OH h H) e
 refine⟨e',?_⟩
 cases q:H b with
 | none=>rfl
 | some x =>
  have hm:b∈OH h H:=List.mem_filter.mpr ⟨List.mem_range.mpr (Heap.lt_size e'),by simp[q]⟩
  have z:(GW h H).get? b=none:=W.hideAll_none (OH h H) hm
  rw[z]at e;cases e
def jZ(g h:Heap)(L:Addr):List (Addr × Obj):=(List.range h.objs.size).filterMap λa=>if a=L\/(g.get? a).isSome=true then none else(h.get? a).map λo=>(a,o)
def DX(g h:Heap)(L d:Addr):List (Addr × Obj):=(jZ g h L).filter λp=>decide (p.1≠d)
end L2
namespace L2
structure Mod(K:W.Frag)(mg:Str->Option Value)(base:Heap):Prop where
 kin:K.In base
 glob:base.Ns mainGlobals mg
 blt:∃ mb,base.Ns builtinsNs mb/\∀ x:Str,x≠"__name__"->mb x=bootBuiltins x
 nolimit:base.NoLimit
structure Cx where
 prog:Program
 w:World
 K:W.Frag
 mg:Str->Option Value
 base:Heap
 A:Around
 N:List Str
 s₀:Shared
 H₀:Hp
 env:Env
 outer:List Env
 stack:List Env
 ex:List Addr
 fn:Str->Bool
 calm:Bool
 pn:List (Addr × Obj)
 xe:Value->Shared->Prop
def DN(l:List Env):List Addr:=l.filterMap (·.frame)
abbrev Cx.fs(X:Cx):List Addr:=DN X.outer
def OI(sc:Scope)(x:Str):Prop:=sc.names.lookup x=some .local\/sc.names.lookup x=some .cell\/sc.names.lookup x=some .free
def KC(sc:Scope)(x:Str):Prop:=sc.names.lookup x=some .local\/sc.names.lookup x=some .cell
def j0(env:Env)(h:Heap)(m:Str->Option Value)(x:Str)(u:Value):Prop :=
 (env.kindOf x=some .local/\m x=some u)\/((env.kindOf x=some .cell\/env.kindOf x=some .free)/\∃ c,env.cells.lookup x=some c/\h.IsCell c (some u))
structure Cx.Ok(X:Cx):Prop where
 mod:Mod X.K X.mg X.base
 kind:X.env.scope.kind=.function
 glob:X.env.globals=mainGlobals
 blt:X.env.builtins=builtinsNs
 above:X.s₀.heap.objs.size<=X.env.locals
 inj:∀ x y c,X.env.cells.lookup x=some c->X.env.cells.lookup y=some c->x=y
 has:∀ x,(X.env.kindOf x=some .cell\/X.env.kindOf x=some .free)->∃ c,X.env.cells.lookup x=some c
 cab:∀ x c,X.fn x=true->X.env.cells.lookup x=some c->X.s₀.heap.objs.size<=c
 hd:X.calm=true->X.A.handled=none
 frames:X.A.frames=some X.stack
 stk:X.stack=X.outer\/(X.stack=X.env::X.outer/\X.env.frame=some X.env.locals)
 exf:∀ b∈X.ex,b≠X.env.locals/\∀ x c,X.env.cells.lookup x=some c->c≠b
 bs:∀ b o,X.base.get? b=some o->X.s₀.heap.get? b=some o/\X.H₀ b=none
 bsz:X.base.objs.size<=X.s₀.heap.objs.size
 noex:∀ b o,X.base.get? b=some o->b∉X.ex
 exfs:∀ b∈X.ex,b∉X.fs
 funs:X.s₀.heap.FunFrames X.base X.outer
 frf:∀ b∈X.fs,X.H₀ b=none
structure Inv(X:Cx)(pins:List (Addr × Obj))(σ:List (Option V))(H:Hp)(s:Shared):Prop where
 ok:X.Ok
 os:s.os=X.s₀.os
 bare:AllBare s.gens
 base:Un X.fs X.ex X.H₀ H X.s₀.heap s.heap
 loc:∃ m,s.heap.Ns X.env.locals m/\∀ (i:Nat) (x:Str) (v:V),X.N[i]? =some x->σ[i]? =some (some v)->OI X.env.scope x->∃ u,RelV v u/\j0 X.env s.heap m x u
 cell:∀ x c,X.env.cells.lookup x=some c->∃ v,s.heap.IsCell c v
 free:H X.env.locals=none
 freeC:∀ x c,X.env.cells.lookup x=some c->H c=none
 pin:∀ p∈X.pn++pins,s.heap.get? p.1=some p.2/\H p.1=none/\p.1≠X.env.locals/\p.1∉X.fs/\∀ v,p.2.data≠.cell v
 hok:HOk X.prog X.w H s.heap
 len:σ.length=X.N.length
section
variable{X:Cx}{pins:List (Addr × Obj)}{σ:List (Option V)}{H H':Hp}{s:Shared}{h':Heap}
theorem Cx.Ok.nofr(ok:X.Ok){b:Addr}{o:Obj}(e:X.base.get? b=some o):b∉X.fs:=λhb=>by
 have:=(ok.funs.mem hb).1
 rw[e]at this;cases this
theorem Inv.bs(I:Inv X pins σ H s):∀ b o,X.base.get? b=some o->s.heap.get? b=some o/\H b=none:=λb o e =>
 ⟨I.base.keep b o (I.ok.bs b o e).1 (I.ok.bs b o e).2 (I.ok.nofr e) (I.ok.noex b o e),I.base.free b o (I.ok.bs b o e).1 (I.ok.bs b o e).2 (I.ok.noex b o e)⟩
theorem Inv.bk(I:Inv X pins σ H s):∀ b o,X.base.get? b=some o->s.heap.get? b=some o:=λb o e=>(I.bs b o e).1
theorem Inv.mod(I:Inv X pins σ H s):Mod X.K X.mg X.base:=I.ok.mod
theorem Inv.kIn(I:Inv X pins σ H s):X.K.In s.heap:=I.ok.mod.kin.keeps I.bk
theorem Inv.nolimit(I:Inv X pins σ H s):s.heap.NoLimit:=I.ok.mod.nolimit.keeps I.bk
theorem Inv.fr(I:Inv X pins σ H s):∃ m,Fr X.base X.env.locals s.heap m :=
 let ⟨m,hn,_⟩:=I.loc
 ⟨m,hn,I.bk,Nat.le_trans I.ok.bsz I.ok.above⟩
theorem Inv.lt(I:Inv X pins σ H s):X.env.locals<s.heap.objs.size:=let ⟨_,hn,_⟩:=I.loc;hn.lt
theorem Inv.sz(I:Inv X pins σ H s):X.s₀.heap.objs.size<=s.heap.objs.size:=Nat.le_trans I.ok.above (Nat.le_of_lt I.lt)
theorem Inv.nofs(I:Inv X pins σ H s){a:Addr}(h:s.heap.objs.size<=a):a∉X.fs:=λhb=>by
 obtain⟨_,o,ho,_⟩:=I.ok.funs.mem hb
 exact absurd (Nat.lt_of_lt_of_le (Heap.lt_size ho) (Nat.le_trans I.sz h)) (Nat.lt_irrefl _)
theorem Inv.cne(I:Inv X pins σ H s):∀ x c,X.env.cells.lookup x=some c->c≠X.env.locals:=λx c e z=>by
 obtain⟨v,o,ho,hd⟩:=I.cell x c e
 obtain⟨m,⟨o',es,ep,ho',hd',_⟩,_⟩:=I.loc
 rw[z,ho']at ho;cases ho;rw[hd']at hd;cases hd
theorem Inv.funs(I:Inv X pins σ H s):s.heap.FunFrames X.base X.outer:=by
 have all:∀ (l:List Env),(∀ b∈DN l,b∈X.fs)->X.s₀.heap.FunFrames X.base l->s.heap.FunFrames X.base l:=by
  intro l
  induction l with
  | nil=>intro _ _;trivial
  | cons env r ih =>
   intro hs hl
   obtain⟨hk,⟨L,o,hf,hn,ho,hd⟩,hr⟩:=hl
   have hL:L∈X.fs:=hs L (by unfold DN;rw[List.filterMap_cons,hf];exact List.mem_cons_self)
   obtain⟨sl,e⟩:=I.base.slot L o ho (I.ok.frf L hL) hL λz=>I.ok.exfs L z hL
   exact⟨hk,⟨L,_,hf,hn,e,hd⟩,ih (λb hb=>hs b (by unfold DN;rw[List.filterMap_cons,hf];exact List.mem_cons_of_mem _ hb)) hr⟩
 exact all X.outer (λ_ hb=>hb) I.ok.funs
theorem Inv.stack(I:Inv X pins σ H s):s.heap.FunFrames X.base X.stack:=by
 rcases I.ok.stk with e | ⟨e,hf⟩
 ·rw[e];exact I.funs
 ·rw[e]
  obtain⟨m,hn,_⟩:=I.loc
  refine .cons (by rw[I.ok.kind];decide) hf hn ?_ I.funs
  exact Heap.get?_none_of_le (Nat.le_trans I.ok.bsz I.ok.above)
theorem Inv.stkSub(I:Inv X pins σ H s):∀ b∈DN X.stack,b∈X.env.locals::X.fs:=λb hb=>by
 rcases I.ok.stk with e | ⟨e,hf⟩
 ·rw[e]at hb;exact List.mem_cons_of_mem _ hb
 ·rw[e]at hb
  unfold DN at hb
  rw[List.filterMap_cons,hf]at hb
  exact hb
theorem Inv.stkFree(I:Inv X pins σ H s):∀ b∈DN X.stack,H b=none:=λb hb=>by
 rcases List.mem_cons.mp (I.stkSub b hb)with e | hb
 ·rw[e];exact I.free
 ·obtain⟨_,o,ho,_⟩:=I.ok.funs.mem hb
  exact I.base.free b o ho (I.ok.frf b hb) λz=>I.ok.exfs b z hb
theorem Inv.step{g':Array GenState}{t':Nat}{d':Drawn}{ch:List Addr}(I:Inv X pins σ H s)
  (hch:∀ b∈ch,(b∈X.ex\/X.s₀.heap.objs.size<=b)/\b≠X.env.locals/\(∀ x c,X.env.cells.lookup x=some c->c≠b)/\∀ p∈X.pn++pins,p.1≠b)
  (keep:∀ b o,b≠X.env.locals->b∉X.fs->b∉ch->s.heap.get? b=some o->H b=none->h'.get? b=some o)
  (slot:∀ b o,b≠X.env.locals->b∈X.fs->b∉ch->s.heap.get? b=some o->H b=none->∃ sl,h'.get? b=some { o with slots:=sl }) (free:∀ b o,b∉ch->s.heap.get? b=some o->H b=none->H' b=none)
  (there:∀ b o,b∉ch->s.heap.get? b=some o->∃ o',h'.get? b=some o')
  (tups:∀ b xs,H b=some (.tup xs)->H' b=some (.tup xs)) (frzs:∀ b o u,H b=some (.frz o u)->H' b=some (.frz o u)) (tbls:∀ b ps,H b=some (.tbl ps)->∃ more,H' b=some (.tbl (ps++more)))
  (ns:∀ m,s.heap.Ns X.env.locals m->h'.Ns X.env.locals m) (hok:HOk X.prog X.w H' h') (hg:AllBare g') :
  Inv X pins σ H' { s with heap:=h',gens:=g',drawn:=d',toks:=t' }:=by
 have neL:∀ b o,X.s₀.heap.get? b=some o->b≠X.env.locals:=λb o e=>Nat.ne_of_lt (Nat.lt_of_lt_of_le (Heap.lt_size e) I.ok.above)
 have neC:∀ b o,X.s₀.heap.get? b=some o->b∉X.ex->b∉ch:=λb o e hx hb=>by
  rcases(hch b hb).1 with z | z
  ·exact hx z
  ·exact absurd (Nat.lt_of_lt_of_le (Heap.lt_size e) z) (Nat.lt_irrefl _)
 have cellK:∀ x c,X.env.cells.lookup x=some c->∀ v,s.heap.IsCell c v->h'.IsCell c v:=λx c e v ⟨o,ho,hd⟩=>by
  have nch:c∉ch:=λz=>(hch c z).2.2.1 x c e rfl
  by_cases hc:c∈X.fs
  ·obtain⟨sl,q⟩:=slot c o (I.cne x c e) hc nch ho (I.freeC x c e)
   exact⟨_,q,hd⟩
  ·exact⟨o,keep c o (I.cne x c e) hc nch ho (I.freeC x c e),hd⟩
 refine⟨I.ok,I.os,hg,⟨λb o e n hb hx=> ?_,λb o e n hb hx=> ?_,λb o e n hx=> ?_,λb o e hx=> ?_,λb xs e=>tups b xs (I.base.tups b xs e),λb o xs e=>frzs b o xs (I.base.frzs b o xs e),λb ps e=> ?_⟩,?_,λx c e=> ?_,?_,λx c e=> ?_,λp hp=> ?_,hok,I.len⟩
 ·exact keep b o (neL b o e) hb (neC b o e hx) (I.base.keep b o e n hb hx) (I.base.free b o e n hx)
 ·obtain⟨sl,e1⟩:=I.base.slot b o e n hb hx
  obtain⟨sl',e2⟩:=slot b _ (neL b o e) hb (neC b o e hx) e1 (I.base.free b o e n hx)
  exact⟨sl',e2⟩
 ·obtain⟨o',e1⟩:=I.base.there b o e hx
  exact free b o' (neC b o e hx) e1 (I.base.free b o e n hx)
 ·obtain⟨o',e1⟩:=I.base.there b o e hx
  exact there b o' (neC b o e hx) e1
 ·obtain⟨m1,e1⟩:=I.base.tbls b ps e
  obtain⟨m2,e2⟩:=tbls b _ e1
  exact⟨m1++m2,by rw[e2,Array.append_assoc]⟩
 ·obtain⟨m,hn,hl⟩:=I.loc
  refine⟨m,ns m hn,λi x v e1 e2 e3=> ?_⟩
  obtain⟨u,r,l⟩:=hl i x v e1 e2 e3
  refine⟨u,r,?_⟩
  rcases l with l | ⟨k,c,e,z⟩
  ·exact .inl l
  ·exact .inr ⟨k,c,e,cellK x c e _ z⟩
 ·obtain⟨v,z⟩:=I.cell x c e
  exact⟨v,cellK x c e v z⟩
 ·obtain⟨m,⟨o,_,_,ho,_⟩,_⟩:=I.loc
  exact free _ o (λz=>(hch _ z).2.1 rfl) ho I.free
 ·obtain⟨v,o,ho,hd⟩:=I.cell x c e
  exact free c o (λz=>(hch c z).2.2.1 x c e rfl) ho (I.freeC x c e)
 ·obtain⟨e,n,ne,nf,d⟩:=I.pin p hp
  have nch:p.1∉ch:=λz=>(hch p.1 z).2.2.2 p hp rfl
  exact⟨keep p.1 p.2 ne nf nch e n,free p.1 p.2 nch e n,ne,nf,d⟩
theorem Inv.un{t':Nat}(I:Inv X pins σ H s)(u:Un X.fs [] H H' s.heap h')(hok:HOk X.prog X.w H' h'):Inv X pins σ H' { s with heap:=h',toks:=t' }:=by
 obtain⟨m,⟨o,es,ep,ho,r⟩,_⟩:=id I.loc
 obtain⟨sl,hL⟩:=u.any ho I.free (by simp)
 exact I.step (g':=s.gens) (d':=s.drawn) (ch:=[]) (λ_ z=>nomatch z) (λb o _ hb _ e n=>u.keep b o e n hb (by simp)) (λb o _ hb _ e n=>u.slot b o e n hb (by simp)) (λb o _ e n=>u.free b o e n (by simp)) (λb o _ e=>u.there b o e (by simp)) u.tups u.frzs u.tbls (λm' hm=>by
  obtain⟨o',es',ep',ho',r'⟩:=hm
  rw[ho]at ho';cases ho'
  exact⟨_,es',ep',hL,r'⟩) hok I.bare
theorem Inv.call{g':Array GenState}{t':Nat}{d':Drawn}{ch:List Addr}(I:Inv X pins σ H s)(u:Un (DN X.stack) ch H H' s.heap h')(hok:HOk X.prog X.w H' h')(hg:AllBare g')
  (hch:∀ b∈ch,(b∈X.ex\/X.s₀.heap.objs.size<=b)/\b≠X.env.locals/\(∀ x c,X.env.cells.lookup x=some c->c≠b)/\∀ p∈X.pn++pins,p.1≠b) :
  Inv X pins σ H' { s with heap:=h',gens:=g',drawn:=d',toks:=t' }:=by
 obtain⟨m,⟨o,es,ep,ho,r⟩,_⟩:=id I.loc
 obtain⟨sl,hL⟩:=u.any ho I.free λz=>(hch _ z).2.1 rfl
 exact I.step (ch:=ch) hch (λb o hL hb hc e n=>u.keep b o e n (λz=>(List.mem_cons.mp (I.stkSub b z)).elim hL hb) hc) (λb o _ _ hc e n=>u.any e n hc) (λb o hc e n=>u.free b o e n hc) (λb o hc e=>u.there b o e hc) u.tups u.frzs u.tbls (λm' hm=>by
  obtain⟨o',es',ep',ho',r'⟩:=hm
  rw[ho]at ho';cases ho'
  exact⟨_,es',ep',hL,r'⟩) hok hg
theorem Inv.turned{t':Nat}{it:Addr}(I:Inv X pins σ H s)(k:∀ b o,b≠it->s.heap.get? b=some o->h'.get? b=some o)(hn:H it=none)(hL:it≠X.env.locals)
  (h1:it∈X.ex\/X.s₀.heap.objs.size<=it) (h2:∀ x c,X.env.cells.lookup x=some c->c≠it) (h3:∀ p∈X.pn++pins,p.1≠it):Inv X pins σ H { s with heap:=h',toks:=t' }:=by
 have nit:∀ b u,H b=some u->b≠it:=λb u e z=>by rw[z,hn]at e;cases e
 refine I.step (g':=s.gens) (d':=s.drawn) (ch:=[it]) (λb hb=> ?_) (λb o _ _ hc e _=>k b o (λz=>hc (by simp[z])) e) (λb o _ _ hc e _=>⟨o.slots,k b o (λz=>hc (by simp[z])) e⟩) (λ_ _ _ _ n=>n)
  (λb o hc e=>⟨o,k b o (λz=>hc (by simp[z])) e⟩) (λ_ _ e=>e) (λ_ _ _ e=>e) (λb ps e=>⟨#[],by rw[e];simp⟩) (λm hm=> ?_) (λb u e=> ?_) I.bare
 ·have e:b=it:=by simpa using hb
  subst e
  exact⟨h1,hL,h2,h3⟩
 ·obtain⟨o,es,ep,ho,r⟩:=hm
  exact⟨o,es,ep,k _ o (Ne.symm hL) ho,r⟩
 ·refine(I.hok b u e).stay (λc v hc q=>k c v ?_ q) (λ_ q=>q) λ_ _ q=>q
  rcases hc with z | z
  ·rw[z];exact nit b u e
  ·exact nit c _ z
theorem Inv.tok(I:Inv X pins σ H s)(t:Nat):Inv X pins σ H { s with toks:=t }:=I.un (h':=s.heap) (t':=t) Un.refl I.hok
theorem Inv.kept{t':Nat}(I:Inv X pins σ H s)(k:∀ b u,s.heap.get? b=some u->h'.get? b=some u):Inv X pins σ H { s with heap:=h',toks:=t' }:=I.un (Un.kept k) (I.hok.kept k)
theorem Inv.laid{a:Addr}{o:HO}{t':Nat}(I:Inv X pins σ H s)(k:∀ b u,s.heap.get? b=some u->h'.get? b=some u)(hp:s.heap.objs.size<=a)(new:ObjOk X.prog X.w (upd H a o) h' a o) :
  Inv X pins σ (upd H a o) { s with heap:=h',toks:=t' }:=I.un (Un.laid k hp (I.hok.fresh hp)) (I.hok.laid k hp new)
theorem Inv.write{x e:Addr}{o:HO}{t':Nat}(I:Inv X pins σ H s)(mu:MH (H x))(he:e=x\/H e=some (.own x))(k:∀ b u,b≠e->s.heap.get? b=some u->h'.get? b=some u)(heo:∃ u,h'.get? e=some u)
  (new:ObjOk X.prog X.w (upd H x o) h' x o):Inv X pins σ (upd H x o) { s with heap:=h',toks:=t' }:=I.un (Un.write mu he k heo) (I.hok.write mu he k heo new)
theorem Inv.pins_of{pins':List (Addr × Obj)}(I:Inv X pins σ H s)(h:∀ p∈pins',s.heap.get? p.1=some p.2/\H p.1=none/\p.1≠X.env.locals/\p.1∉X.fs/\∀ v,p.2.data≠.cell v):Inv X pins' σ H s :=
 ⟨I.ok,I.os,I.bare,I.base,I.loc,I.cell,I.free,I.freeC,λp hp=>(List.mem_append.mp hp).elim (λz=>I.pin p (List.mem_append_left _ z)) (h p),I.hok,I.len⟩
theorem U7{N:List Str}(hN:N.Nodup){i j:Nat}{x:Str}(a:N[i]? =some x)(b:N[j]? =some x):i=j:=by
 obtain⟨h1,e1⟩:=List.getElem?_eq_some_iff.mp a
 obtain⟨h2,e2⟩:=List.getElem?_eq_some_iff.mp b
 exact(List.getElem_inj hN).mp (e1.trans e2.symm)
theorem U8{M:Model}{A:Around}{E:Value->Shared->Prop}{i:Nat}{x:Str}{v:V}{u:Value}{Q:Unit->Shared->Prop}(I:Inv X pins σ H s)(hN:X.N.Nodup)(hi:X.N[i]? =some x)(hx:KC X.env.scope x)(r:RelV v u)
  (h:∀ s',Inv X pins (σ.set i (some v)) H s'->(∃ a,Heap.SameBut a s.heap s'.heap/\(a=X.env.locals\/X.env.cells.lookup x=some a))->Q () s') (hf:X.fn x=true\/X.env.scope.names.lookup x=some .local:=by first | exact .inl rfl | exact .inr rfl | assumption):wpAny M A (storeName X.env x u) Q E s:=by
 obtain⟨m,hn,hl⟩:=id I.loc
 have hcls:(X.env.scope.kind == .class || (X.env.scope.kind == .module && X.env.locals != X.env.globals))=false:=by rw[I.ok.kind];rfl
 have hiσ:i<σ.length:=by rw[I.len];exact(List.getElem?_eq_some_iff.mp hi).1
 have cne:=I.cne
 have tracked:∀ {a:Addr} {h':Heap},(∃ o,s.heap.get? a=some o/\H a=none)->Heap.SameBut a s.heap h'->HOk X.prog X.w H h':=λ{a h'} ha hs b ob e=>by
  obtain⟨_,_,hfree⟩:=ha
  refine(I.hok b ob e).stay (λc w' hc q=>(hs.2 c ?_).trans q) (λ_ q=>q) λ_ _ q=>q
  rintro rfl
  rcases hc with rfl | hc
  ·rw[hfree]at e;cases e
  ·rw[hfree]at hc;cases hc
 rcases hx with hk | hk
 ·refine wpAny_storeName_local hk hn (λh' hn' hs=> ?_) hcls
  obtain⟨oL,_,_,hoL,_⟩:=id hn
  refine h _ ⟨I.ok,I.os,I.bare,⟨λb o e n hb hx=> ?_,λb o e n hb hx=> ?_,I.base.free,λb o e hx=> ?_,I.base.tups,I.base.frzs,I.base.tbls⟩,⟨_,hn',λj y v' e1 e2 e3=> ?_⟩,λy c e=> ?_,I.free,I.freeC,λp hp=> ?_,tracked ⟨oL,hoL,I.free⟩ hs,by simpa using I.len⟩ ⟨_,hs,.inl rfl⟩
  ·exact(hs.2 b (Nat.ne_of_lt (Nat.lt_of_lt_of_le (Heap.lt_size e) I.ok.above))).trans (I.base.keep b o e n hb hx)
  ·obtain⟨sl,e1⟩:=I.base.slot b o e n hb hx
   exact⟨sl,(hs.2 b (Nat.ne_of_lt (Nat.lt_of_lt_of_le (Heap.lt_size e) I.ok.above))).trans e1⟩
  ·obtain⟨o',e1⟩:=I.base.there b o e hx
   exact⟨o',(hs.2 b (Nat.ne_of_lt (Nat.lt_of_lt_of_le (Heap.lt_size e) I.ok.above))).trans e1⟩
  ·by_cases hj:j=i
   ·subst hj
    rw[hi]at e1;cases e1
    rw[List.getElem?_set_self hiσ]at e2
    cases e2
    exact⟨u,r,.inl ⟨hk,by simp⟩⟩
   ·rw[List.getElem?_set_ne (Ne.symm hj)]at e2
    obtain⟨u',r',q⟩:=hl j y v' e1 e2 e3
    refine⟨u',r',?_⟩
    rcases q with⟨k,e⟩ | ⟨k,c,e,z⟩
    ·refine .inl ⟨k,?_⟩
     have:y≠x:=λe=>hj (U7 hN e1 (e ▸ hi))
     simp[this,e]
    ·exact .inr ⟨k,c,e,z.sameBut hs (cne y c e)⟩
  ·obtain⟨w',z⟩:=I.cell y c e
   exact⟨w',z.sameBut hs (cne y c e)⟩
  ·obtain⟨e,n,ne,nf,d⟩:=I.pin p hp
   exact⟨(hs.2 p.1 ne).trans e,n,ne,nf,d⟩
 ·have hfn:X.fn x=true:=by
   rcases hf with z | z
   ·exact z
   ·rw[z]at hk;cases hk
  obtain⟨c,hc⟩:=I.ok.has x (.inl hk)
  obtain⟨w',z⟩:=I.cell x c hc
  refine wpAny_storeName_cell I.ok.kind hk hc z (λh' hc' hs=> ?_)
  obtain⟨oc,hoc,hocd⟩:=id z
  refine h { s with heap:=h' } ⟨I.ok,I.os,I.bare,⟨λb o e n hb hx=> ?_,λb o e n hb hx=> ?_,I.base.free,λb o e hx=> ?_,I.base.tups,I.base.frzs,I.base.tbls⟩,⟨m,hn.sameBut hs (Ne.symm (cne x c hc)),λj y v' e1 e2 e3=> ?_⟩,λy c' e=> ?_,I.free,I.freeC,λp hp=> ?_,tracked ⟨oc,hoc,I.freeC x c hc⟩ hs,by simpa using I.len⟩ ⟨c,hs,.inr hc⟩
  ·exact(hs.2 b (Nat.ne_of_lt (Nat.lt_of_lt_of_le (Heap.lt_size e) (I.ok.cab x c hfn hc)))).trans (I.base.keep b o e n hb hx)
  ·obtain⟨sl,e1⟩:=I.base.slot b o e n hb hx
   exact⟨sl,(hs.2 b (Nat.ne_of_lt (Nat.lt_of_lt_of_le (Heap.lt_size e) (I.ok.cab x c hfn hc)))).trans e1⟩
  ·obtain⟨o',e1⟩:=I.base.there b o e hx
   exact⟨o',(hs.2 b (Nat.ne_of_lt (Nat.lt_of_lt_of_le (Heap.lt_size e) (I.ok.cab x c hfn hc)))).trans e1⟩
  ·by_cases hj:j=i
   ·subst hj
    rw[hi]at e1;cases e1
    rw[List.getElem?_set_self hiσ]at e2
    cases e2
    exact⟨u,r,.inr ⟨.inl hk,c,hc,hc'⟩⟩
   ·rw[List.getElem?_set_ne (Ne.symm hj)]at e2
    obtain⟨u',r',q⟩:=hl j y v' e1 e2 e3
    refine⟨u',r',?_⟩
    rcases q with q | ⟨k,c',e,z'⟩
    ·exact .inl q
    ·refine .inr ⟨k,c',e,z'.sameBut hs ?_⟩
     rintro rfl
     exact hj (U7 hN e1 (I.ok.inj _ _ _ e hc ▸ hi))
  ·by_cases hcc:c'=c
   ·subst hcc;exact⟨_,hc'⟩
   ·obtain⟨w2,z2⟩:=I.cell y c' e
    exact⟨w2,z2.sameBut hs hcc⟩
  ·obtain⟨e,n,ne,nf,d⟩:=I.pin p hp
   refine⟨(hs.2 p.1 ?_).trans e,n,ne,nf,d⟩
   intro q
   rw[q,hoc]at e
   have q':oc=p.2:=Option.some.inj e
   exact d w' (by rw[<-q'];exact hocd)
theorem U9{M:Model}{A:Around}{E:Value->Shared->Prop}{i:Nat}{x:Str}{v:V}{u:Value}{Q:Unit->Shared->Prop}(I:Inv X pins σ H s)(hN:X.N.Nodup)(hi:X.N[i]? =some x)(hx:KC X.env.scope x)(r:RelV v u)
  (h:∀ s',Inv X pins (σ.set i (some v)) H s'->Q () s') (hf:X.fn x=true\/X.env.scope.names.lookup x=some .local:=by first | exact .inl rfl | exact .inr rfl | assumption):wpAny M A (storeName X.env x u) Q E s :=
 U8 I hN hi hx r (λs' I' _=>h s' I') hf
theorem Inv.call'{s':Shared}{ch:List Addr}(I:Inv X pins σ H s)(ho:s'.os=s.os)(u:Un (DN X.stack) ch H H' s.heap s'.heap)(hok:HOk X.prog X.w H' s'.heap)(hg:AllBare s'.gens)
  (hch:∀ b∈ch,(b∈X.ex\/X.s₀.heap.objs.size<=b)/\b≠X.env.locals/\(∀ x c,X.env.cells.lookup x=some c->c≠b)/\∀ p∈X.pn++pins,p.1≠b):Inv X pins σ H' s':=by
 obtain⟨h',g',d',t',o'⟩:=s'
 have e:o'=s.os:=ho
 subst e
 exact I.call (g':=g') (t':=t') (d':=d') u hok hg hch
end
abbrev XK:=Value->Option Addr->Hp->Prop
abbrev St:=List (Option V)
abbrev VK:=V->Hp->Prop
abbrev TE:=St->Hp->VK->Prop
abbrev TT:=St->Hp->(Bool->Hp->Prop)->Prop
abbrev TA:=St->Hp->(List V->Hp->Prop)->Prop
structure Ends where
 nx:St->Hp->Prop
 rt:VK
 bk:St->Hp->Prop:=λ_ _=>False
 ct:St->Hp->Prop:=λ_ _=>False
abbrev TS:=Ends->St->Hp->Prop
def EP(X:Cx)(pins:List (Addr × Obj))(σ:St)(Q:VK)(u:Value)(s':Shared):Prop:=∃ v H',Inv X pins σ H' s'/\RelV v u/\Q v H'
def TP(X:Cx)(pins:List (Addr × Obj))(σ:St)(Q:Bool->Hp->Prop)(b:Bool)(s':Shared):Prop:=∃ H',Inv X pins σ H' s'/\Q b H'
def AP(X:Cx)(pins:List (Addr × Obj))(σ:St)(Q:List V->Hp->Prop)(us:List Value)(s':Shared):Prop:=∃ vs H',Inv X pins σ H' s'/\Vals vs us/\Q vs H'
def SP(X:Cx)(pins:List (Addr × Obj))(D:Ends)(f:Flow)(s':Shared):Prop :=
 match f with
 | .next=>∃ σ' H',Inv X pins σ' H' s'/\D.nx σ' H'
 | .brk=>∃ σ' H',Inv X pins σ' H' s'/\D.bk σ' H'
 | .cont=>∃ σ' H',Inv X pins σ' H' s'/\D.ct σ' H'
 | .ret u=>∃ v σ' H',Inv X pins σ' H' s'/\RelV v u/\D.rt v H'
def PE(X:Cx)(e:Expr)(t:TE):Prop :=
 ∀ (pins:List (Addr × Obj)) (s:Shared) (σ:St) (H:Hp) (Q:VK),Inv X pins σ H s->t σ H Q->wpAny (model X.prog X.w) X.A (eval e X.env) (EP X pins σ Q) X.xe s
def PT(X:Cx)(e:Expr)(t:TT):Prop :=
 ∀ (pins:List (Addr × Obj)) (s:Shared) (σ:St) (H:Hp) (Q:Bool->Hp->Prop),Inv X pins σ H s->t σ H Q->wpAny (model X.prog X.w) X.A (isTrue e X.env (eval e X.env)) (TP X pins σ Q) X.xe s
def PW(X:Cx)(e:Expr)(t:TT):Prop :=
 ∀ (whole:Sem Value) (pins:List (Addr × Obj)) (s:Shared) (σ:St) (H:Hp) (Q:Bool->Hp->Prop),Inv X pins σ H s->t σ H Q->wpAny (model X.prog X.w) X.A (isTrue e X.env whole) (TP X pins σ Q) X.xe s
theorem PW.pt{X:Cx}{e:Expr}{t:TT}(h:PW X e t):PT X e t:=h _
def PA(X:Cx)(es:List Expr)(t:TA):Prop :=
 ∀ (pos:Pos) (pins:List (Addr × Obj)) (s:Shared) (σ:St) (H:Hp) (Q:List V->Hp->Prop),Inv X pins σ H s->t σ H Q->wpAny (model X.prog X.w) X.A (spliced (backTo pos (starEach es X.env))) (AP X pins σ Q) X.xe s
def PS(X:Cx)(st:Stmt)(t:TS):Prop :=
 ∀ (pins:List (Addr × Obj)) (s:Shared) (σ:St) (H:Hp) (D:Ends),Inv X pins σ H s->t D σ H->wpAny (model X.prog X.w) X.A (exec st X.env) (SP X pins D) X.xe s
def PSs(X:Cx)(st:List Stmt)(t:TS):Prop :=
 ∀ (pins:List (Addr × Obj)) (s:Shared) (σ:St) (H:Hp) (D:Ends),Inv X pins σ H s->t D σ H->wpAny (model X.prog X.w) X.A (execs st X.env) (SP X pins D) X.xe s
theorem AZ{α :Type}{t:Sem α}{Q Q': α ->Shared->Prop}{M:Model}{A:Around}{E:Value->Shared->Prop}{s:Shared}(h:wpAny M A t Q E s)(hQ:∀ a s,Q a s->Q' a s):wpAny M A t Q' E s:=wpAny_mono h hQ λ_ _ x=>x
end L2
namespace L2
section
variable{X:Cx}
def OJ(i:Nat):TE:=λσ H Q=>∃ v,σ[i]? =some (some v)/\Q v H
def tC(v:V):TE:=λ_ H Q=>Q v H
theorem VB{i:Nat}{x:Str}{pos:Pos}(hN:X.N[i]? =some x)(hv:OI X.env.scope x)(hd:(x ==("__debug__":Str))=false:=by decide)(hcd:(x ==("__classdict__":Str))=false:=by decide):PE X (.Name x pos) (OJ i):=by
 intro pins s σ H Q I h
 obtain⟨v,e,h⟩:=h
 obtain⟨m,hn,hl⟩:=I.loc
 obtain⟨u,r,l⟩:=hl i x v hN e hv
 have fin:EP X pins σ Q u s:=⟨v,H,I,r,h⟩
 rcases l with⟨hk,hm⟩ | ⟨hk,c,hc,hcell⟩
 ·exact wpAny_Name (wpAny_loadName_local I.ok.kind hk hn hm fin) hd
 ·rcases hk with hk | hk
  ·exact wpAny_Name (wpAny_loadName_cell I.ok.kind hk hc hcell fin) hd
  ·exact wpAny_Name (wpAny_loadName_free I.ok.kind hk hc hcell fin hcd) hd
theorem AG{i j pos}:PE X (.Constant (.int i) j pos) (tC (.int i)):=λ_ _ _ H _ I h=>wpAny_Constant_int ⟨.int i,H,I.tok _,⟨_,rfl⟩,h⟩
theorem HH{b j pos}:PE X (.Constant (.bool b) j pos) (tC (.bl b)):=λ_ _ _ H _ I h=>Constant_bool ⟨.bl b,H,I,rfl,h⟩
theorem CV{j pos}:PE X (.Constant .none j pos) (tC .non):=λ_ _ _ H _ I h=>Constant_none ⟨.non,H,I,rfl,h⟩
theorem BY{x j pos}:PE X (.Constant (.str x) j pos) (tC (.str x)):=λ_ _ _ H _ I h=>Calls.Constant_str ⟨.str x,H,I.tok _,⟨_,rfl⟩,h⟩
def Gl(X:Cx)(x:Str):Prop:=X.env.kindOf x=some .globalImplicit
theorem QE{E:Value->Shared->Prop}{pins:List (Addr × Obj)}{s:Shared}{σ:St}{H:Hp}{x:Str}{u:Value}{pos:Pos}{Q:Value->Shared->Prop}(I:Inv X pins σ H s)(hg:Gl X x)(hm:X.mg x=some u)(h:Q u s)
  (hd:(x ==("__debug__":Str))=false:=by decide):wpAny (model X.prog X.w) X.A (eval (.Name x pos) X.env) Q E s :=
 Calls.Name_function_global I.ok.kind hg (Calls.loadGlobal_global (by rw[I.ok.glob];exact I.mod.glob.keeps I.bk) hm h) hd
theorem KD{E:Value->Shared->Prop}{pins:List (Addr × Obj)}{s:Shared}{σ:St}{H:Hp}{x:Str}{u:Value}{pos:Pos}{Q:Value->Shared->Prop}(I:Inv X pins σ H s)(hg:Gl X x)(hm:X.mg x=none)(hv:bootBuiltins x=some u)(h:Q u s)
  (hn:x≠"__name__":=by decide) (hd:(x ==("__debug__":Str))=false:=by decide):wpAny (model X.prog X.w) X.A (eval (.Name x pos) X.env) Q E s:=by
 obtain⟨mb,h1,h2⟩:=I.mod.blt
 exact Calls.Name_function_global I.ok.kind hg (Calls.loadGlobal_builtin (by rw[I.ok.glob];exact I.mod.glob.keeps I.bk) hm (by rw[I.ok.blt];exact h1.keeps I.bk) ((h2 x hn).trans hv) h) hd
theorem j3{x:Str}{v:V}{u:Value}{pos:Pos}(hg:Gl X x)(hm:X.mg x=none)(hv:bootBuiltins x=some u)(r:RelV v u)(hn:x≠"__name__":=by decide)(hd:(x ==("__debug__":Str))=false:=by decide):PE X (.Name x pos) (tC v) :=
 λ_ _ _ H _ I h=>KD I hg hm hv ⟨v,H,I,r,h⟩ hn hd
variable{a b:Expr}{ta tb:TE}{pos:Pos}
def PC(X:Cx)(op:CmpOp)(a b:Expr)(t:TE):Prop :=
 ∀ (pins:List (Addr × Obj)) (s:Shared) (σ:St) (H:Hp) (Q:VK),Inv X pins σ H s->t σ H Q →
  wpAny (model X.prog X.w) X.A (eval a X.env) (λv s₁=>wpAny (model X.prog X.w) X.A (eval b X.env) (λu s₂=>wpAny (model X.prog X.w) X.A (compareOp op v u) (EP X pins σ Q) X.xe s₂) X.xe s₁) X.xe s
theorem j4(b:Expr){op:CmpOp}(h:op≠.In)(h2:op≠.NotIn):behindInMarks op b=false:=by
 have e1:(op == CmpOp.In)=false:=by cases op<;>first | rfl | exact absurd rfl h
 have e2:(op == CmpOp.NotIn)=false:=by cases op<;>first | rfl | exact absurd rfl h2
 cases b<;>simp[behindInMarks,e1,e2]
def tB(t:TE):TT:=λσ H Q=>t σ H λx H1=>∃ c,x=.bl c/\Q c H1
theorem j5{op:CmpOp}{t:TE}(h:PC X op a b t)(h1:behindInMarks op b=false:=by first | exact j4 _ (by decide) (by decide) | rfl):PT X (.Compare a [op] [b] pos) (tB t):=by
 intro pins s σ H Q I hw
 refine wpAny_isTrue_Compare1 (AZ (h pins s σ H _ I hw) λv s1 h1=>AZ h1 λu s2 h2=>AZ h2 λc s3 ⟨x,H1,I1,r1,q1⟩=> ?_) h1
 obtain⟨d,rfl,q⟩:=q1
 cases r1
 exact wpAny_truthy_bool ⟨H1,I1,q⟩
variable{tA tB':TT}{DX:List Expr}
def FO(t u:TT):TT:=λσ H Q=>t σ H λc H1=>if c=true then u σ H1 Q else Q false H1
def KE(t u:TT):TT:=λσ H Q=>t σ H λc H1=>if c=true then Q true H1 else u σ H1 Q
def OK(t:TT):TT:=λσ H Q=>t σ H λc H1=>Q (!c) H1
theorem GX(ha:PT X a tA):PW X (.BoolOp .And [a] pos) tA:=by
 intro wh pins s σ H Q I h
 refine isTrue_and (AZ (ha pins s σ H Q I h) λc s1 e=> ?_)
 cases c with
 | true=>exact isTrue_and_nil e
 | false=>exact e
theorem OL(ha:PT X a tA):PW X (.BoolOp .Or [a] pos) tA:=by
 intro wh pins s σ H Q I h
 refine isTrue_or (AZ (ha pins s σ H Q I h) λc s1 e=> ?_)
 cases c with
 | false=>exact isTrue_or_nil e
 | true=>exact e
theorem GY(ha:PT X a tA)(hb:PW X (.BoolOp .And (b::DX) pos) tB'):PW X (.BoolOp .And (a::b::DX) pos) (FO tA tB'):=by
 intro wh pins s σ H Q I h
 refine isTrue_and (AZ (ha pins s σ H _ I h) λc s1 ⟨H1,I1,q1⟩=> ?_)
 cases c with
 | true=>exact hb wh pins s1 σ H1 Q I1 q1
 | false=>exact⟨H1,I1,q1⟩
theorem OM(ha:PT X a tA)(hb:PW X (.BoolOp .Or (b::DX) pos) tB'):PW X (.BoolOp .Or (a::b::DX) pos) (KE tA tB'):=by
 intro wh pins s σ H Q I h
 refine isTrue_or (AZ (ha pins s σ H _ I h) λc s1 ⟨H1,I1,q1⟩=> ?_)
 cases c with
 | true=>exact⟨H1,I1,q1⟩
 | false=>exact hb wh pins s1 σ H1 Q I1 q1
theorem VC(ha:PT X a tA):PT X (.UnaryOp .Not a pos) (OK tA):=by
 intro pins s σ H Q I h
 exact isTrue_not (ha pins s σ H (λc H1=>Q (!c) H1) I h)
def ON(ta tb:TE):TE:=λσ H Q=>ta σ H λx H1=>∃ c,x=.bl c/\if c=true then tb σ H1 Q else Q (.bl false) H1
def j6(ta tb:TE):TE:=λσ H Q=>ta σ H λx H1=>∃ c,x=.bl c/\if c=true then Q (.bl true) H1 else tb σ H1 Q
theorem j7{op}{t:TE}(h:PE X a t):PE X (.BoolOp op [a] pos) t:=λpins s σ H Q I hw=>BoolOp_one (h pins s σ H Q I hw)
theorem VD(ha:PE X a ta)(hb:PE X (.BoolOp .And (b::DX) pos) tb):PE X (.BoolOp .And (a::b::DX) pos) (ON ta tb):=by
 intro pins s σ H Q I h
 refine BoolOp_and (AZ (ha pins s σ H _ I h) λv s1 ⟨x,H1,I1,r1,q1⟩=> ?_)
 obtain⟨c,rfl,q1⟩:=q1
 cases r1
 refine wpAny_truthy_bool ?_
 cases c with
 | true=>exact hb pins s1 σ H1 Q I1 q1
 | false=>exact⟨.bl false,H1,I1,rfl,q1⟩
def QF(t:TT)(ta tb:TE):TE:=λσ H Q=>t σ H λc H1=>if c=true then ta σ H1 Q else tb σ H1 Q
theorem j8{c:Expr}(hc:PT X c tA)(ha:PE X a ta)(hb:PE X b tb):PE X (.IfExp c a b pos) (QF tA ta tb):=by
 intro pins s σ H Q I h
 refine wpAny_IfExp (AZ (hc pins s σ H _ I h) λd s1 ⟨H1,I1,q1⟩=> ?_)
 cases d with
 | true=>exact ha pins s1 σ H1 Q I1 q1
 | false=>exact hb pins s1 σ H1 Q I1 q1
end
end L2
namespace L2
def SqL(K:W.Frag)(H:Hp)(a:Addr)(xs:List V):Prop :=
 Rd H a (.lst xs) ∨
  ∃ (o:Obj) (its:Array Value) (n:Nat),K.lookup a=some o/\o.cls=.type "list"/\o.dict=none/\o.data=.seq its n/\its.size<=sizeLine/\Vals xs its.toList
def SqT(K:W.Frag)(H:Hp)(a:Addr)(xs:List V):Prop :=
 Rd H a (.tup xs) ∨
  ∃ (o:Obj) (its:Array Value) (n:Nat),K.lookup a=some o/\o.cls=.type "tuple"/\o.data=.seq its n/\its.size<=sizeLine/\Vals xs its.toList
def j9:Value->Option V
 | .none=>some .non
 | .bool b=>some (.bl b)
 | .int i _=>some (.int i)
 | .str x _=>some (.str x)
 | .bytes b _=>some (.byt b)
 | .float b _=>some (.flt b)
 | .ref a=>some (.ref a)
 | .type n=>some (.ty n)
 | _=>none
theorem RelV.abs{x:V}{u:Value}(r:RelV x u):j9 u=some x:=by
 cases x with
 | non=>cases r;rfl
 | bl _=>cases r;rfl
 | int _=>obtain⟨t,rfl⟩:=r;rfl
 | str _=>obtain⟨t,rfl⟩:=r;rfl
 | byt _=>obtain⟨t,rfl⟩:=r;rfl
 | flt _=>obtain⟨t,rfl⟩:=r;rfl
 | ref _=>cases r;rfl
 | ty _=>cases r;rfl
theorem RelV.inj{x y:V}{u:Value}(r:RelV x u)(q:RelV y u):x=y:=Option.some.inj (r.abs.symm.trans q.abs)
theorem Vals.inj:∀ {xs ys:List V} {us:List Value},Vals xs us->Vals ys us->xs=ys
 | _,_,_,.nil,.nil=>rfl
 | _,_,_,.cons r t,.cons r' t'=>by rw[r.inj r',Vals.inj t t']
section
variable{X:Cx}{pins:List (Addr × Obj)}{σ:St}{H:Hp}{s:Shared}{a:Addr}{xs ys:List V}
theorem SqL.of{K:W.Frag}(h:H a=some (.lst xs)):SqL K H a xs:=.inl (.inl h)
theorem SqT.of{K:W.Frag}(h:H a=some (.tup xs)):SqT K H a xs:=.inl (.inl h)
theorem Inv.list(I:Inv X pins σ H s)(h:SqL X.K H a xs):∃ its:List Value,Vals xs its/\PlainL s.heap a its.toArray/\xs.length<=sizeLine:=by
 rcases h with h | ⟨o,its,n,hk,hc,hd,hs,hz,r⟩
 ·obtain⟨z,its,n,r,e⟩:=h.ok I.hok
  exact⟨its,r,⟨_,n,e,rfl,rfl,rfl⟩,z⟩
 ·refine⟨its.toList,r,⟨o,n,I.kIn a o hk,hc,hd,by simpa using hs⟩,?_⟩
  have e:=r.length
  simp only[Array.length_toList]at e
  omega
theorem Inv.tuple(I:Inv X pins σ H s)(h:SqT X.K H a xs):∃ its:List Value,Vals xs its/\IsTup s.heap a its.toArray/\xs.length<=sizeLine:=by
 rcases h with h | ⟨o,its,n,hk,hc,hs,hz,r⟩
 ·obtain⟨z,its,r,p⟩:=h.ok I.hok
  exact⟨its,r,p,z⟩
 ·refine⟨its.toList,r,⟨o,I.kIn a o hk,hc,n,by simpa using hs⟩,?_⟩
  have e:=r.length
  simp only[Array.length_toList]at e
  omega
theorem Inv.list_inj(I:Inv X pins σ H s)(h:SqL X.K H a xs)(h':SqL X.K H a ys):xs=ys:=by
 obtain⟨its,r,⟨o,n,e,_,_,d⟩,_⟩:=I.list h
 obtain⟨its',r',⟨o',n',e',_,_,d'⟩,_⟩:=I.list h'
 rw[e]at e';cases e'
 rw[d]at d'
 injection d' with d1 _
 have:its=its':=by simpa using congrArg Array.toList d1
 subst this
 exact r.inj r'
theorem Inv.tuple_inj(I:Inv X pins σ H s)(h:SqT X.K H a xs)(h':SqT X.K H a ys):xs=ys:=by
 obtain⟨its,r,⟨o,e,_,n,d⟩,_⟩:=I.tuple h
 obtain⟨its',r',⟨o',e',_,n',d'⟩,_⟩:=I.tuple h'
 rw[e]at e';cases e'
 rw[d]at d'
 injection d' with d1 _
 have:its=its':=by simpa using congrArg Array.toList d1
 subst this
 exact r.inj r'
end
abbrev Cx.wish(X:Cx)(E:Value->Shared->Prop):Cx:={ X with xe:=E }
abbrev Cx.nox(X:Cx):Cx:=X.wish λ_ _=>False
theorem Cx.Ok.wish{X:Cx}(ok:X.Ok)(E:Value->Shared->Prop):(X.wish E).Ok :=
 ⟨ok.mod,ok.kind,ok.glob,ok.blt,ok.above,ok.inj,ok.has,ok.cab,ok.hd,ok.frames,ok.stk,ok.exf,ok.bs,ok.bsz,ok.noex,ok.exfs,ok.funs,ok.frf⟩
theorem Cx.Ok.unwish{X:Cx}{E:Value->Shared->Prop}(ok:(X.wish E).Ok):X.Ok :=
 ⟨ok.mod,ok.kind,ok.glob,ok.blt,ok.above,ok.inj,ok.has,ok.cab,ok.hd,ok.frames,ok.stk,ok.exf,ok.bs,ok.bsz,ok.noex,ok.exfs,ok.funs,ok.frf⟩
section
variable{X:Cx}{pins:List (Addr × Obj)}{σ:St}{H:Hp}{s:Shared}{E:Value->Shared->Prop}
theorem Inv.wish(I:Inv X pins σ H s)(E:Value->Shared->Prop):Inv (X.wish E) pins σ H s:=⟨I.ok.wish E,I.os,I.bare,I.base,I.loc,I.cell,I.free,I.freeC,I.pin,I.hok,I.len⟩
theorem Inv.unwish(I:Inv (X.wish E) pins σ H s):Inv X pins σ H s:=⟨I.ok.unwish,I.os,I.bare,I.base,I.loc,I.cell,I.free,I.freeC,I.pin,I.hok,I.len⟩
theorem SP.unwish{D:Ends}{f:Flow}{s':Shared}(h:SP (X.wish E) pins D f s'):SP X pins D f s':=by
 cases f with
 | next=>obtain⟨σ',H',I,q⟩:=h;exact⟨σ',H',I.unwish,q⟩
 | brk=>obtain⟨σ',H',I,q⟩:=h;exact⟨σ',H',I.unwish,q⟩
 | cont=>obtain⟨σ',H',I,q⟩:=h;exact⟨σ',H',I.unwish,q⟩
 | ret u=>obtain⟨v,σ',H',I,r,q⟩:=h;exact⟨v,σ',H',I.unwish,r,q⟩
theorem PE.nox{e:Expr}{t:TE}(h:PE X.nox e t):PE X e t:=λpins s σ H Q I hw =>
 wpAny_mono (h pins s σ H Q (I.wish _) hw) (λ_ _ ⟨v,H',I',r,q⟩=>⟨v,H',I'.unwish,r,q⟩) λ_ _ z=>False.elim z
theorem PT.nox{e:Expr}{t:TT}(h:PT X.nox e t):PT X e t:=λpins s σ H Q I hw =>
 wpAny_mono (h pins s σ H Q (I.wish _) hw) (λ_ _ ⟨H',I',q⟩=>⟨H',I'.unwish,q⟩) λ_ _ z=>False.elim z
theorem PSs.nox{st:List Stmt}{t:TS}(h:PSs X.nox st t):PSs X st t:=λpins s σ H D I hw =>
 wpAny_mono (h pins s σ H D (I.wish _) hw) (λ_ _ q=>q.unwish) λ_ _ z=>False.elim z
end
section
variable{X:Cx}{st:Stmt}{DX:List Stmt}{t u:TS}{e:Expr}{te:TE}{pos:Pos}
def CK:TS:=λD σ H=>D.nx σ H
def AQ(t u:TS):TS:=λD σ H=>t { D with nx:=u D } σ H
theorem CN:PSs X [] CK:=λ_ _ σ H _ I h=>wpAny_execs_nil ⟨σ,H,I,h⟩
theorem AR(h1:PS X st t)(h2:PSs X DX u):PSs X (st::DX) (AQ t u):=by
 intro pins s σ H D I h
 refine wpAny_execs_cons (AZ (h1 pins s σ H { D with nx:=u D } I h) λf s1 q=> ?_)
 cases f with
 | next =>
  obtain⟨σ',H',I',q⟩:=q
  exact h2 pins s1 σ' H' D I' q
 | ret v=>exact q
 | brk=>exact q
 | cont=>exact q
theorem AX(h1:PS X st t):PSs X [st] t:=by
 intro pins s σ H D I h
 refine wpAny_execs_cons (AZ (h1 pins s σ H D I h) λf s1 q=> ?_)
 cases f with
 | next=>exact wpAny_execs_nil q
 | ret v=>exact q
 | brk=>exact q
 | cont=>exact q
def kA:TS:=λD σ H=>D.bk σ H
def kB:TS:=λD σ H=>D.ct σ H
theorem Inv.quiet{pins:List (Addr × Obj)}{σ:St}{H:Hp}{s:Shared}(I:Inv X pins σ H s):interactive X.env=false:=by simp[interactive,I.ok.kind]
def C6(te:TE):TS:=λD σ H=>te σ H λ_ H1=>D.nx σ H1
theorem DK(he:PE X e te)(hs:swapsWith e none pos.line X.env=pure false:=by rfl):PS X (.Expr e pos) (C6 te):=by
 intro pins s σ H D I h
 exact wpAny_Expr_any (AZ (he pins s σ H _ I h) λv s1 ⟨x,H1,I1,r1,q1⟩=>⟨σ,H1,I1,q1⟩) I.quiet hs
def BB(te:TE):TS:=λD σ H=>te σ H D.rt
theorem BE(he:PE X e te):PS X (.Return (some e) pos) (BB te):=by
 intro pins s σ H D I h
 exact wpAny_Return_some (AZ (he pins s σ H _ I h) λv s1 ⟨x,H1,I1,r1,q1⟩=>⟨x,σ,H1,I1,r1,q1⟩)
def QH:TS:=λD _ H=>D.rt .non H
theorem kC:PS X (.Return none pos) QH:=λ_ _ σ H _ I h=>wpAny_Return_none ⟨.non,σ,H,I,rfl,h⟩
def B7(c:TT)(t u:TS):TS:=λD σ H=>c σ H λb H1=>if b=true then t D σ H1 else u D σ H1
theorem CD{c:Expr}{a b:List Stmt}{tc:TT}(hc:PT X c tc)(ha:PSs X a t)(hb:PSs X b u):PS X (.If c a b pos) (B7 tc t u):=by
 intro pins s σ H D I h
 refine wpAny_If (AZ (hc pins s σ H _ I h) λd s1 ⟨H1,I1,q1⟩=> ?_)
 cases d with
 | true=>exact ha pins s1 σ H1 D I1 q1
 | false=>exact hb pins s1 σ H1 D I1 q1
end
abbrev TG:=V->St->Hp->(St->Hp->Prop)->Prop
abbrev HI:=List V->St->Hp->(St->Hp->Prop)->Prop
def PG(X:Cx)(target:Expr)(t:TG):Prop :=
 ∀ (pins:List (Addr × Obj)) (s:Shared) (σ:St) (H:Hp) (v:V) (u:Value) (Q:St->Hp->Prop),Inv X pins σ H s->RelV v u->t v σ H Q →
  wpAny (model X.prog X.w) X.A (assign target X.env u) (λ_ s'=>∃ σ' H',Inv X pins σ' H' s'/\Q σ' H') X.xe s
def OO(X:Cx)(ts:List Expr)(t:HI):Prop :=
 ∀ (pins:List (Addr × Obj)) (s:Shared) (σ:St) (H:Hp) (vs:List V) (us:List Value) (Q:St->Hp->Prop),Inv X pins σ H s->Vals vs us->t vs σ H Q →
  wpAny (model X.prog X.w) X.A (assignInOrder ((assignEach ts X.env).map (·.2)) us) (λ_ s'=>∃ σ' H',Inv X pins σ' H' s'/\Q σ' H') X.xe s
abbrev OP:=V->V->V->Hp->(Hp->Prop)->Prop
def QI(X:Cx)(t:OP):Prop :=
 ∀ (pins:List (Addr × Obj)) (s:Shared) (σ:St) (H:Hp) (o i v:V) (ov iv u:Value) (Q:Hp->Prop),Inv X pins σ H s->RelV o ov->RelV i iv->RelV v u->t o i v H Q →
  wpAny (model X.prog X.w) X.A (setItem ov iv u) (λ_ s'=>∃ H',Inv X pins σ H' s'/\Q H') X.xe s
abbrev OQ:=V->V->Hp->VK->Prop
section
variable{X:Cx}{pos:Pos}
def AN(i:Nat):TG:=λv σ H Q=>Q (σ.set i (some v)) H
theorem BP{i:Nat}{x:Str}(hN:X.N.Nodup)(hi:X.N[i]? =some x)(hx:KC X.env.scope x)(hf:X.fn x=true\/X.env.scope.names.lookup x=some .local:=by first | exact .inl rfl | exact .inr rfl | assumption):PG X (.Name x pos) (AN i):=by
 intro pins s σ H v u Q I r h
 exact wpAny_assign_Name (U9 I hN hi hx r (λs' I'=>⟨_,H,I',h⟩) hf)
def FA:HI:=λvs σ H Q=>vs=[]/\Q σ H
def DL(t:TG)(u:HI):HI:=λvs σ H Q=>∃ v r,vs=v::r/\t v σ H λσ' H'=>u r σ' H' Q
theorem HJ:OO X [] FA:=by
 intro pins s σ H vs us Q I r h
 obtain⟨e,h⟩:=h
 subst e
 cases r
 exact assignInOrder_nil ⟨σ,H,I,h⟩
theorem D4{e:Expr}{es:List Expr}{t:TG}{u:HI}(h1:PG X e t)(h2:OO X es u)
  (hs:(assignEach (e::es) X.env).map (·.2)=assign e X.env::(assignEach es X.env).map (·.2):=by rfl):OO X (e::es) (DL t u):=by
 intro pins s σ H vs us Q I r h
 obtain⟨v,vr,e1,h⟩:=h
 subst e1
 cases r with
 | cons r rr =>
  rw[hs]
  refine assignInOrder_cons (AZ (h1 pins s σ H _ _ _ I r h) λ_ s1 ⟨σ1,H1,I1,q1⟩=> ?_)
  exact h2 pins s1 σ1 H1 _ _ Q I1 rr q1
def FB(K:W.Frag)(n:Nat)(t:HI):TG:=λv σ H Q=>∃ a xs,v=.ref a/\SqT K H a xs/\xs.length=n/\t xs σ H Q
theorem HK{es:List Expr}{k:Nat}{t:HI}{n:Nat}(hc:X.calm=true)(h:OO X es t)
  (hn:(assignEach es X.env).length=n:=by rfl) (hst:(assignEach es X.env).findIdx? (·.1)=none:=by rfl):PG X (.Tuple es k pos) (FB X.K n t):=by
 intro pins s σ H v u Q I r hw
 obtain⟨a,xs,e1,hq,hl,hw⟩:=hw
 subst e1
 cases r
 obtain⟨its,rv,ht,hz⟩:=I.tuple hq
 refine assign_Tuple_tuple (I.ok.hd hc) ht (by simp[hn,<-hl,rv.length]) hst λh' hx=> ?_
 have I1:Inv X pins σ H { s with heap:=h' }:=I.kept (t':=s.toks) λb o e=>hx b o (Nat.ne_of_lt (Heap.lt_size e)) e
 exact h pins _ σ H xs _ Q I1 (by simpa using rv) hw
def CZ(to ti:TE)(t:OP):TG:=λv σ H Q=>to σ H λo H1=>ti σ H1 λi H2=>t o i v H2 λH3=>Q σ H3
theorem DF{o i:Expr}{to ti:TE}{t:OP}(ho:PE X o to)(hi:PE X i ti)(hs:QI X t)
  (ha:∀ v,assign (.Subscript o i pos) X.env v=(do
   let ov ← holding [v] (eval o X.env)
   let iv ← holding [v,ov] (eval i X.env)
   standAt pos
   holding [v,ov,iv] (setItem ov iv v)
   release [v,ov,iv] []):=by intro _;rfl):PG X (.Subscript o i pos) (CZ to ti t):=by
 intro pins s σ H v u Q I r h
 rw[ha]
 refine wpAny_bind (wpAny_holding (AZ (ho pins s σ H _ I h) λov s1 ⟨x,H1,I1,r1,q1⟩=> ?_))
 refine wpAny_bind (wpAny_holding (AZ (hi pins s1 σ H1 _ I1 q1) λiv s2 ⟨y,H2,I2,r2,q2⟩=> ?_))
 refine wpAny_bind (wpAny_standAt (wpAny_bind (wpAny_holding (AZ (hs pins s2 σ H2 x y v ov iv u _ I2 r1 r2 r q2) λ_ s3 ⟨H3,I3,q3⟩=> ?_))))
 exact wpAny_release ⟨σ,H3,I3,q3⟩
def AU(te:TE)(g:TG):TS:=λD σ H=>te σ H λx H1=>g x σ H1 D.nx
theorem DG{tg e:Expr}{te:TE}{g:TG}(he:PE X e te)(hg:PG X tg g)(hs:swapsWithSole [tg] e pos.line X.env=pure false:=by rfl)(hw:swappedStores [tg] e X.env=pure none:=by rfl)
  (h1:(assignEach [tg] X.env).map (·.2)=[assign tg X.env]:=by rfl):PS X (.Assign [tg] e pos) (AU te g):=by
 intro pins s σ H D I h
 refine wpAny_Assign_stores (AZ (he pins s σ H _ I h) λv s1 ⟨x,H1,I1,r1,q1⟩=> ?_) hs hw
 rw[h1]
 exact AZ (hg pins s1 σ H1 x v _ I1 r1 q1) λ_ s2 q=>q
theorem FQ{i:Nat}{x:Str}{e:Expr}{te:TE}{pos':Pos}(hN:X.N.Nodup)(hi:X.N[i]? =some x)(hx:KC X.env.scope x)(he:PE X e te)(hs:swapsWith e (some (.Name x pos')) pos.line X.env=pure false:=by rfl)(hf:X.fn x=true\/X.env.scope.names.lookup x=some .local:=by first | exact .inl rfl | exact .inr rfl | assumption) :
  PS X (.Assign [.Name x pos'] e pos) (AU te (AN i)):=by
 intro pins s σ H D I h
 refine wpAny_Assign_Name (AZ (he pins s σ H _ I h) λv s1 ⟨y,H1,I1,r1,q1⟩=> ?_) hs
 exact U9 I1 hN hi hx r1 (λs2 I2=>⟨_,H1,I2,q1⟩) hf
def kD(i:Nat)(te:TE)(ti:OQ):TS:=λD σ H=>∃ x,σ[i]? =some (some x)/\te σ H λy H1=>ti x y H1 λz H2=>D.nx (σ.set i (some z)) H2
def QJ(f:Int->Int->Int):OQ:=λx y H Q=>∃ i j,x=.int i/\y=.int j/\Q (.int (f i j)) H
end
section
variable{X:Cx}{pos:Pos}
end
structure It where
 go:Nat->Hp->Prop
 yld:Nat->Hp->V->Hp->Prop
 stop:Nat->Hp->Prop
def FpOk(X:Cx)(pins:List (Addr × Obj))(H:Hp)(b:Addr):Prop :=
 H b=none/\b≠X.env.locals/\b∉X.fs/\(b∈X.ex\/X.s₀.heap.objs.size<=b)/\(∀ x c,X.env.cells.lookup x=some c->c≠b)/\∀ p∈X.pn++pins,p.1≠b
theorem Inv.fpOk{X:Cx}{pins:List (Addr × Obj)}{σ:St}{H H':Hp}{s:Shared}{b:Addr}(I:Inv X pins σ H s)(hb:s.heap.objs.size<=b)(hn:H' b=none):FpOk X pins H' b:=by
 refine⟨hn,Nat.ne_of_gt (Nat.lt_of_lt_of_le I.lt hb),I.nofs hb,.inr (Nat.le_trans I.sz hb),λx c e z=> ?_,λp hp z=> ?_⟩
 ·obtain⟨v,q⟩:=I.cell x c e
  exact absurd (Nat.lt_of_lt_of_le q.lt (by rw[z];exact hb)) (Nat.lt_irrefl _)
 ·exact absurd (Nat.lt_of_lt_of_le (Heap.lt_size (I.pin p hp).1) (by rw[z];exact hb)) (Nat.lt_irrefl _)
structure IG(P:Program)(w:World)(K:W.Frag)(tg:Expr)(J:It)(fp:List Addr)(it:Addr)(tn:Nat->Heap->Prop):Prop where
 mem:it∈fp
 obj:∀ i h,tn i h->∀ b∈fp,∃ o,h.get? b=some o/\∀ v,o.data≠.cell v
 keep:∀ i h h',tn i h->(∀ b∈fp,∀ o,h.get? b=some o->h'.get? b=some o)->tn i h'
 item:∀ (X:Cx),X.prog=P->X.w=w->X.K=K->X.calm=true->∀ (i:Nat) (pins:List (Addr × Obj)) (s:Shared) (σ:St) (H:Hp) (E:Value->Shared->Prop),Inv X pins σ H s->(∀ b∈fp,FpOk X pins H b)->tn i s.heap->J.go i H →
  wpAny (model P w) X.A (pyNext (.ref it)) (λr s1=>∃ u,r=some u ∧
   wpAny (model P w) X.A (letOwnedTupleGo tg (.ref it) u) (λ_ s2=>∃ x H',Inv X pins σ H' s2/\RelV x u/\J.yld i H x H'/\tn (i+1) s2.heap/\∀ b∈fp,H' b=none) E s1) E s
 done:∀ (X:Cx),X.prog=P->X.w=w->X.K=K->X.calm=true->∀ (i:Nat) (pins:List (Addr × Obj)) (s:Shared) (σ:St) (H:Hp) (E:Value->Shared->Prop),Inv X pins σ H s->(∀ b∈fp,FpOk X pins H b)->tn i s.heap->J.stop i H →
  wpAny (model P w) X.A (pyNext (.ref it)) (λr s1=>r=none/\Inv X pins σ H s1) E s
 self:∀ (A:Around) (i:Nat) (s:Shared) (Q:Value->Shared->Prop) (E:Value->Shared->Prop),tn i s.heap->Q (.ref it) s->wpAny (model P w) A (pyIter (.ref it)) Q E s
abbrev TI:=St->Hp->(It->Hp->Prop)->Prop
def QK(X:Cx)(pins:List (Addr × Obj))(σ:St)(tg:Expr)(R:It->Hp->Prop)(itv:Value)(s2:Shared):Prop :=
 ∃ (it:Addr) (fp:List Addr) (tn:Nat->Heap->Prop) (J:It) (H':Hp),itv=.ref it/\Inv X pins σ H' s2/\IG X.prog X.w X.K tg J fp it tn/\tn 0 s2.heap/\(∀ b∈fp,FpOk X pins H' b)/\R J H'
def PI(X:Cx)(tg iter:Expr)(wi:TI):Prop :=
 ∀ (pins:List (Addr × Obj)) (s:Shared) (σ:St) (H:Hp) (R:It->Hp->Prop),Inv X pins σ H s->wi σ H R →
  wpAny (model X.prog X.w) X.A (eval iter X.env) (λv s1=>wpAny (model X.prog X.w) X.A (pyIter v) (QK X pins σ tg R) X.xe s1) X.xe s
theorem OR{M:Model}{A:Around}{E:Value->Shared->Prop}{s:Shared}{tg:Expr}{it:Addr}{u:Value}{o:Obj}{n:String}{vs:Array Value}{Q:Unit->Shared->Prop}(ho:s.heap.get? it=some o)(hc:o.cls=.type n)(hd:o.data=.fields vs)
    (hn:["enumerate","zip","dict_itemiterator","dict_reverseitemiterator","odict_iterator","itertools.zip_longest","itertools.pairwise"].contains n=false) (hQ:Q () s):wpAny M A (letOwnedTupleGo tg (.ref it) u) Q E s:=by
  unfold letOwnedTupleGo
  cases tg<;>first
    | exact wpAny_pure hQ
    | (cases u<;>first
        | exact wpAny_pure hQ
        | (refine wpAny_bind (wpAny_load ho ?_)
           rw[hc,hd]
           show wpAny M A (if(["enumerate","zip","dict_itemiterator","dict_reverseitemiterator","odict_iterator","itertools.zip_longest","itertools.pairwise"].contains n && vs[0]? == some (rawInt _))=true then _ else _) Q E s
           rw[if_neg (by intro h;rw[hn,Bool.false_and]at h;cases h)]
           exact wpAny_pure hQ))
def EG(K:W.Frag)(a:Addr):It :=
 ⟨λi H=>∃ xs x,SqL K H a xs/\xs[i]? =some x,λi H x H'=>H'=H/\∀ xs,SqL K H a xs->xs[i]? =some x,λi H=>∃ xs,SqL K H a xs/\xs.length<=i⟩
def MI(K:W.Frag)(a:Addr):It :=
 ⟨λi H=>∃ xs x,SqT K H a xs/\xs[i]? =some x,λi H x H'=>H'=H/\∀ xs,SqT K H a xs->xs[i]? =some x,λi H=>∃ xs,SqT K H a xs/\xs.length<=i⟩
def DV(lo:Int)(n:Nat):It:=⟨λi _=>i<n,λi H x H'=>H'=H/\x=.int (lo+i),λi _=>n<=i⟩
theorem kE{P:Program}{w:World}{K:W.Frag}{tg:Expr}(a it:Addr):IG P w K tg (EG K a) [it] it (λi h=>h.IsListIter it a i) where
 mem:=by simp
 obj:=λi h st b hb=>by
  have e:b=it:=by simpa using hb
  subst e
  obtain⟨o,e,c,d⟩:=st
  exact⟨o,e,λv z=>by rw[d]at z;cases z⟩
 keep:=λi h h' st k=>st.at λo e=>k it (by simp) o e
 item:=by
  intro X hP hw hK hc i pins s σ H E I hf st hg
  subst hP hw hK
  obtain⟨xs,x,hq,hx⟩:=hg
  obtain⟨its,rv,p,hz⟩:=I.list hq
  obtain⟨u,hu,ru⟩:=rv.get hx
  obtain⟨f0,f1,f2,f3,f4,f5⟩:=hf it (by simp)
  refine wpAny_pyNext_list_item st p.isList (x:=u) (by simpa using hu) λh' st' sb=> ?_
  have I1:Inv X pins σ H { s with heap:=h' }:=I.turned (t':=s.toks) (λb o hb e=>(sb.2 b hb).trans e) f0 f1 f3 f4 f5
  obtain⟨o,e,c,d⟩:=id st'
  exact⟨u,rfl,OR (s:={ s with heap:=h' }) e c d (by decide) ⟨x,H,I1,ru,⟨rfl,λys hy=>by rw[I.list_inj hy hq];exact hx⟩,st',λb hb=>(hf b hb).1⟩⟩
 done:=by
  intro X hP hw hK hc i pins s σ H E I hf st hg
  subst hP hw hK
  obtain⟨xs,hq,hx⟩:=hg
  obtain⟨its,rv,p,hz⟩:=I.list hq
  obtain⟨f0,f1,f2,f3,f4,f5⟩:=hf it (by simp)
  have hl:=rv.length
  exact wpAny_pyNext_list_end (I.ok.hd hc) st p.isList (by simp;omega) λh' eb=>⟨rfl,I.turned (t':=s.toks) (λb o hb e=>eb b o hb e) f0 f1 f3 f4 f5⟩
 self:=λ_ _ _ _ _ st h=>wpAny_pyIter_listiter st h
theorem kF{P:Program}{w:World}{K:W.Frag}{tg:Expr}(a it:Addr):IG P w K tg (MI K a) [it] it (λi h=>h.IsTupleIter it a i) where
 mem:=by simp
 obj:=λi h st b hb=>by
  have e:b=it:=by simpa using hb
  subst e
  obtain⟨o,e,c,d⟩:=st
  exact⟨o,e,λv z=>by rw[d]at z;cases z⟩
 keep:=λi h h' st k=>st.at λo e=>k it (by simp) o e
 item:=by
  intro X hP hw hK hc i pins s σ H E I hf st hg
  subst hP hw hK
  obtain⟨xs,x,hq,hx⟩:=hg
  obtain⟨its,rv,p,hz⟩:=I.tuple hq
  obtain⟨u,hu,ru⟩:=rv.get hx
  obtain⟨f0,f1,f2,f3,f4,f5⟩:=hf it (by simp)
  refine wpAny_pyNext_tuple_item st (show s.heap.IsTuple a its.toArray from p) (x:=u) (by simpa using hu) λh' st' sb=> ?_
  have I1:Inv X pins σ H { s with heap:=h' }:=I.turned (t':=s.toks) (λb o hb e=>(sb.2 b hb).trans e) f0 f1 f3 f4 f5
  obtain⟨o,e,c,d⟩:=id st'
  exact⟨u,rfl,OR (s:={ s with heap:=h' }) e c d (by decide) ⟨x,H,I1,ru,⟨rfl,λys hy=>by rw[I.tuple_inj hy hq];exact hx⟩,st',λb hb=>(hf b hb).1⟩⟩
 done:=by
  intro X hP hw hK hc i pins s σ H E I hf st hg
  subst hP hw hK
  obtain⟨xs,hq,hx⟩:=hg
  obtain⟨its,rv,p,hz⟩:=I.tuple hq
  obtain⟨f0,f1,f2,f3,f4,f5⟩:=hf it (by simp)
  have hl:=rv.length
  exact wpAny_pyNext_tuple_end (I.ok.hd hc) st (show s.heap.IsTuple a its.toArray from p) (by simp;omega) λh' eb=>⟨rfl,I.turned (t':=s.toks) (λb o hb e=>eb b o hb e) f0 f1 f3 f4 f5⟩
 self:=λ_ _ _ _ _ st h=>wpAny_pyIter_tupleiter st h
theorem kG{P:Program}{w:World}{K:PySem.W.Frag}{tg:Expr}(it:Addr)(lo:Int)(n:Nat):IG P w K tg (DV lo n) [it] it (λi h=>IsRangeIter h it (lo+(i:Nat) * 1) ((n:Int) - (i:Nat)) 1) where
 mem:=by simp
 obj:=λi h st b hb=>by
  have e:b=it:=by simpa using hb
  subst e
  exact⟨_,st,λv z=>by
   have z':Data.fields _=Data.cell v:=z
   cases z'⟩
 keep:=λi h h' st k=>k it (by simp) _ st
 item:=by
  intro X hP hw hK hc i pins s σ H E I hf st hg
  subst hP hw hK
  obtain⟨f0,f1,f2,f3,f4,f5⟩:=hf it (by simp)
  have W:=Walks.range (prog:=X.prog) (w:=X.w) (I.ok.hd hc) it lo 1 n
  refine W.item i s _ _ hg st λv h' tk hv st' kk=> ?_
  obtain⟨t,rfl⟩:=hv
  have I1:Inv X pins σ H { s with heap:=h',toks:=tk }:=I.turned (λb o hb e=>kk b o (by simpa using hb) e) f0 f1 f3 f4 f5
  refine⟨_,rfl,OR (s:={ s with heap:=h',toks:=tk }) (n:="range_iterator") st' rfl rfl (by decide) ⟨.int (lo+i),H,I1,⟨t,?_⟩,⟨rfl,rfl⟩,st',λb hb=>(hf b hb).1⟩⟩
  rw[Int.mul_one]
 done:=by
  intro X hP hw hK hc i pins s σ H E I hf st hg
  subst hP hw hK
  obtain⟨f0,f1,f2,f3,f4,f5⟩:=hf it (by simp)
  exact wpAny_pyNext_range_end (I.ok.hd hc) st (by have:n<=i:=hg;omega) λh' eb=>⟨rfl,I.turned (t':=s.toks) (λb o hb e=>eb b o hb e) f0 f1 f3 f4 f5⟩
 self:=λ_ _ _ _ _ st h=>wpAny_pyIter_rangeiter st h
end L2
namespace L2
section
variable{X:Cx}{tg:Expr}
theorem kH{pins:List (Addr × Obj)}{σ:St}{H:Hp}{s:Shared}{R:It->Hp->Prop}{E:Value->Shared->Prop}{lo hi:Int}{t u v:Tok}{tk:Nat}(I:Inv X pins σ H s)(h1: -(2 ^ 62)<=lo)(h2:lo<2 ^ 62)(h3: -(2 ^ 62)<=hi)(h4:hi<2 ^ 62)
  (q:R (DV lo (hi - lo).toNat) H):wpAny (model X.prog X.w) X.A (pyIter (.ref s.heap.objs.size)) (QK X pins σ tg R) E { s with heap:=s.heap.push { cls:=.type "range",data:=.fields #[.int lo t,.int hi u,.int 1 v] },toks:=tk }:=by
 refine wpAny_pyIter_range (IsRange.new ..) (small_one h1 h2 h3 h4) ?_
 have I1:Inv X pins σ H { s with heap:=s.heap.push { cls:=.type "range",data:=.fields #[.int lo t,.int hi u,.int 1 v] },toks:=tk }:=I.kept λb o e=>Heap.get?_push_of_some _ e
 refine⟨(s.heap.push { cls:=.type "range",data:=.fields #[.int lo t,.int hi u,.int 1 v] }).objs.size,[(s.heap.push { cls:=.type "range",data:=.fields #[.int lo t,.int hi u,.int 1 v] }).objs.size],_,_,H,rfl,
  I1.kept (t':=tk) λb o e=>Heap.get?_push_of_some _ e,kG _ lo (hi - lo).toNat,?_,λb hb=> ?_,q⟩
 ·have e1:lo+((0:Nat):Int) * 1=lo:=by simp
  have e2:(((hi - lo).toNat:Nat):Int) - ((0:Nat):Int)=Builtin.Range.rangeSize lo hi 1:=by rw[rangeSize_one];split<;>omega
  show IsRangeIter _ _ (lo+((0:Nat):Int) * 1) ((((hi - lo).toNat:Nat):Int) - ((0:Nat):Int)) 1
  rw[e1,e2]
  exact Heap.get?_push_size _ rfl
 ·have e:b=(s.heap.push { cls:=.type "range",data:=.fields #[.int lo t,.int hi u,.int 1 v] }).objs.size:=by simpa using hb
  subst e
  exact I1.fpOk (Nat.le_refl _) (I1.hok.fresh (Nat.le_refl _))
def CY(ta:TA):TI:=λσ H R=>ta σ H λvs H1=>∃ j:Int,vs=[.int j]/\ -(2 ^ 62)<=j/\j<2 ^ 62/\R (DV 0 j.toNat) H1
def VE(ta:TA):TI:=λσ H R=>ta σ H λvs H1=>∃ i j:Int,vs=[.int i,.int j]/\(-(2 ^ 62)<=i/\i<2 ^ 62/\ -(2 ^ 62)<=j/\j<2 ^ 62)/\R (DV i (j - i).toNat) H1
theorem DH{a:Expr}{ta:TA}{p pos:Pos}(hg:Gl X "range")(hm:X.mg "range"=none)(ha:PA X [a] ta)(hs:starEach [a] X.env=[(false,eval a X.env)]:=by rfl):PI X tg (.Call (.Name "range" p) [a] [] pos) (CY ta):=by
 intro pins s σ H R I h
 refine Call_ (KD I hg hm boot_range (PyProof.Rows.callWith_type1 (AZ (ha pos pins s σ H _ I h) λus s1 ⟨vs,H1,I1,r1,q1⟩=> ?_) hs rfl))
 obtain⟨j,e,q1,q2,q⟩:=q1
 subst e
 cases r1 with
 | cons r rr =>
  cases rr
  obtain⟨t,rfl⟩:=r
  exact call_range_1 (kH I1 (by omega) (by omega) q1 q2 (by simpa using q))
def DW(wi:TI)(g:TG)(tb:TS):TS:=λD σ H=>wi σ H λJ H1=>∃ W:Nat->Nat->St->Hp->Prop,(∃ m,W 0 m σ H1)/\∀ i m σ H,W i m σ H →
 (J.stop i H/\D.nx σ H)\/(J.go i H/\∃ N:St->Hp->Prop,(∀ σ' H',N σ' H'->∃ m',m'<m/\W (i+1) m' σ' H')/\∀ x H',J.yld i H x H'->g x σ H' λσ2 H2=>tb { D with nx:=N,ct:=N,bk:=D.nx } σ2 H2)
def MJ(fp:List Addr)(h:Heap):List (Addr × Obj):=fp.filterMap λb=>(h.get? b).map λo=>(b,o)
theorem OS{fp:List Addr}{h:Heap}{b:Addr}{o:Obj}(hb:b∈fp)(e:h.get? b=some o):(b,o)∈MJ fp h:=List.mem_filterMap.mpr ⟨b,hb,by rw[e];rfl⟩
theorem kI{fp:List Addr}{h:Heap}{p:Addr × Obj}(hp:p∈MJ fp h):p.1∈fp/\h.get? p.1=some p.2:=by
 obtain⟨b,hb,e⟩:=List.mem_filterMap.mp hp
 cases q:h.get? b with
 | none=>rw[q]at e;cases e
 | some o =>
  rw[q]at e
  have e':(b,o)=p:=Option.some.inj e
  subst e'
  exact⟨hb,q⟩
theorem Inv.pinned{pins:List (Addr × Obj)}{σ:St}{H:Hp}{s:Shared}{fp:List Addr}(I:Inv X pins σ H s)(hf:∀ b∈fp,FpOk X pins H b)(ho:∀ b∈fp,∃ o,s.heap.get? b=some o/\∀ v,o.data≠.cell v):Inv X (pins++MJ fp s.heap) σ H s :=
 I.pins_of λp hp=>(List.mem_append.mp hp).elim (λz=>I.pin p (List.mem_append_right _ z)) λz=>by
  obtain⟨hb,e⟩:=kI z
  obtain⟨f0,f1,f2,_⟩:=hf p.1 hb
  obtain⟨o,e',d⟩:=ho p.1 hb
  rw[e]at e';cases e'
  exact⟨e,f0,f1,f2,d⟩
theorem Inv.unpinned{pins pl:List (Addr × Obj)}{σ:St}{H:Hp}{s:Shared}(I:Inv X (pins++pl) σ H s):Inv X pins σ H s:=I.pins_of λp hp=>I.pin p (List.mem_append_right _ (List.mem_append_left _ hp))
theorem FC{iter:Expr}{body:List Stmt}{wi:TI}{g:TG}{tb:TS}{pos:Pos}(hp:PassesOwn (model X.prog X.w) X.A X.env X.xe)(hc:X.calm=true)(hi:PI X tg iter wi)(hg:PG X tg g)(hb:PSs X body tb)
  (hs:∀ x,foldedSetIterable iter X.env x=pure x:=by intro _;rfl):PS X (.For tg iter body [] pos) (DW wi g tb):=by
 intro pins s σ H D I h
 refine wpAny_For (AZ (hi pins s σ H _ I h) λv s1 h1=>AZ h1 λitv s2 h2=> ?_) hs
 obtain⟨it,fp,tn,J,H2,e,I2,T,st2,f2,W,⟨m0,w0⟩,turn⟩:=h2
 subst e
 have stat:∀ {H':Hp},(∀ b∈fp,H' b=none)->∀ b∈fp,FpOk X pins H' b:=λhn b hb=>⟨hn b hb,(f2 b hb).2⟩
 refine codeAny_forLoop_any (λn s'=>∃ i σ' H',Inv X pins σ' H' s'/\tn i s'.heap/\(∀ b∈fp,H' b=none)/\W i n σ' H') ?_ m0 ⟨0,σ,H2,I2,st2,λb hb=>(f2 b hb).1,w0⟩
 rintro n s3 ⟨i,σ3,H3,I3,st3,fr3,w3⟩
 rcases turn i n σ3 H3 w3 with⟨stop,qn⟩ | ⟨go,N,hN,step⟩
 ·refine wpAny_passesOwn hp (AZ (T.done X rfl rfl rfl hc i pins s3 σ3 H3 X.xe I3 (stat fr3) st3 stop) λr s4 ⟨hr,I4⟩=> ?_)
  subst hr
  exact wpAny_execs_nil ⟨σ3,H3,I4,qn⟩
 ·refine wpAny_passesOwn hp (AZ (T.item X rfl rfl rfl hc i pins s3 σ3 H3 X.xe I3 (stat fr3) st3 go) λr s4 ⟨u,hr,h4⟩=> ?_)
  subst hr
  refine wpAny_passesOwn hp (AZ h4 λ_ s5 ⟨x,H5,I5,r5,y5,st5,fr5⟩=> ?_)
  have I5':=I5.pinned (stat fr5) (T.obj _ _ st5)
  refine wpAny_passesOwn hp (AZ (hg _ s5 σ3 H5 x u _ I5' r5 (step x H5 y5)) λ_ s6 ⟨σ6,H6,I6,q6⟩=> ?_)
  refine wpAny_passesOwn hp (AZ (hb _ s6 σ6 H6 _ I6 q6) λf s7 q7=> ?_)
  have again:∀ {σ7:St} {H7:Hp},Inv X (pins++MJ fp s5.heap) σ7 H7 s7->N σ7 H7->∃ m,m<n/\∃ i σ' H',Inv X pins σ' H' s7/\tn i s7.heap/\(∀ b∈fp,H' b=none)/\W i m σ' H':=λ{σ7 H7} I7 n7=>by
   obtain⟨m',hm,w7⟩:=hN σ7 H7 n7
   refine⟨m',hm,i+1,σ7,H7,I7.unpinned,T.keep _ _ _ st5 λb hb o e=>(I7.pin (b,o) (List.mem_append_right _ (List.mem_append_right _ (OS hb e)))).1,λb hb=> ?_,w7⟩
   obtain⟨o,e,d⟩:=T.obj _ _ st5 b hb
   exact(I7.pin (b,o) (List.mem_append_right _ (List.mem_append_right _ (OS hb e)))).2.1
  cases f with
  | next=>obtain⟨σ7,H7,I7,n7⟩:=q7;exact again I7 n7
  | cont=>obtain⟨σ7,H7,I7,n7⟩:=q7;exact again I7 n7
  | brk=>obtain⟨σ7,H7,I7,q7⟩:=q7;exact⟨σ7,H7,I7.unpinned,q7⟩
  | ret v=>obtain⟨x7,σ7,H7,I7,r7,q7⟩:=q7;exact⟨x7,σ7,H7,I7.unpinned,r7,q7⟩
end
theorem kJ{K:PySem.W.Frag}{a:Addr}{xs:List V}{g:TG}{tb:TS}{D:Ends}{σ:St}{H:Hp}(Pv:Nat->St->Hp->Prop)(h0:Pv 0 σ H)(hl:∀ i σ H,i<=xs.length->Pv i σ H->SqL K H a xs)
  (hs:∀ i x σ H,xs[i]? =some x->Pv i σ H->g x σ H λσ2 H2=>tb { D with nx:=Pv (i+1),ct:=Pv (i+1),bk:=D.nx } σ2 H2) (hd:∀ σ H,Pv xs.length σ H->D.nx σ H) :
  ∃ W:Nat->Nat->St->Hp->Prop,(∃ m,W 0 m σ H)/\∀ i m σ H,W i m σ H →
   ((EG K a).stop i H/\D.nx σ H)\/((EG K a).go i H/\∃ N:St->Hp->Prop,(∀ σ' H',N σ' H'->∃ m',m'<m/\W (i+1) m' σ' H')/\∀ x H',(EG K a).yld i H x H'->g x σ H' λσ2 H2=>tb { D with nx:=N,ct:=N,bk:=D.nx } σ2 H2):=by
 refine⟨λi m σ H=>m=xs.length - i/\i<=xs.length/\Pv i σ H,⟨xs.length,by simp,Nat.zero_le _,h0⟩,?_⟩
 rintro i m σ H ⟨rfl,hi,p⟩
 have q:=hl i σ H hi p
 by_cases hlt:i<xs.length
 ·refine .inr ⟨⟨xs,xs[i],q,by simp[hlt]⟩,Pv (i+1),λσ' H' p'=>⟨xs.length - (i+1),by omega,rfl,hlt,p'⟩,λx H' y=> ?_⟩
  obtain⟨e,y⟩:=y
  subst e
  exact hs i x σ _ (y xs q) p
 ·have e:i=xs.length:=by omega
  subst e
  exact .inl ⟨⟨xs,q,Nat.le_refl _⟩,hd σ H p⟩
theorem kK{lo:Int}{n:Nat}{g:TG}{tb:TS}{D:Ends}{σ:St}{H:Hp}(Pv:Nat->St->Hp->Prop)(h0:Pv 0 σ H)
  (hs:∀ i σ H,i<n->Pv i σ H->g (.int (lo+i)) σ H λσ2 H2=>tb { D with nx:=Pv (i+1),ct:=Pv (i+1),bk:=D.nx } σ2 H2) (hd:∀ σ H,Pv n σ H->D.nx σ H) :
  ∃ W:Nat->Nat->St->Hp->Prop,(∃ m,W 0 m σ H)/\∀ i m σ H,W i m σ H →
   ((DV lo n).stop i H/\D.nx σ H)\/((DV lo n).go i H/\∃ N:St->Hp->Prop,(∀ σ' H',N σ' H'->∃ m',m'<m/\W (i+1) m' σ' H')/\∀ x H',(DV lo n).yld i H x H'->g x σ H' λσ2 H2=>tb { D with nx:=N,ct:=N,bk:=D.nx } σ2 H2):=by
 refine⟨λi m σ H=>m=n - i/\i<=n/\Pv i σ H,⟨n,by simp,Nat.zero_le _,h0⟩,?_⟩
 rintro i m σ H ⟨rfl,hi,p⟩
 by_cases hlt:i<n
 ·refine .inr ⟨hlt,Pv (i+1),λσ' H' p'=>⟨n - (i+1),by omega,rfl,hlt,p'⟩,λx H' y=> ?_⟩
  obtain⟨e,y⟩:=y
  subst e y
  exact hs i σ _ hlt p
 ·have e:i=n:=by omega
  subst e
  exact .inl ⟨Nat.le_refl _,hd σ H p⟩
end L2
namespace L2
abbrev R2:=V->V->Hp->VK->Prop
def OpR(X:Cx)(f:Value->Value->Sem Value)(r:R2):Prop :=
 ∀ (pins:List (Addr × Obj)) (s:Shared) (σ:St) (H:Hp) (x y:V) (v u:Value) (Q:VK),Inv X pins σ H s->RelV x v->RelV y u->r x y H Q →
  wpAny (model X.prog X.w) X.A (f v u) (EP X pins σ Q) X.xe s
def CallR(X:Cx)(f:Value)(r:List V->Hp->VK->Prop):Prop :=
 ∀ (pins:List (Addr × Obj)) (s:Shared) (σ:St) (H:Hp) (xs:List V) (us:List Value) (Q:VK),Inv X pins σ H s->Vals xs us->r xs H Q →
  wpAny (model X.prog X.w) X.A (call f us) (EP X pins σ Q) X.xe s
def kL(X:Cx)(r:V->Hp->(Bool->Hp->Prop)->Prop):Prop :=
 ∀ (pins:List (Addr × Obj)) (s:Shared) (σ:St) (H:Hp) (x:V) (v:Value) (Q:Bool->Hp->Prop),Inv X pins σ H s->RelV x v->r x H Q →
  wpAny (model X.prog X.w) X.A (truthy v) (TP X pins σ Q) X.xe s
def AC(r:R2)(ta tb:TE):TE:=λσ H Q=>ta σ H λx H1=>tb σ H1 λy H2=>r x y H2 Q
def kM(r:V->Hp->VK->Prop)(ta:TE):TE:=λσ H Q=>ta σ H λx H1=>r x H1 Q
def rI(C:Int->Int->Prop)(g:Int->Int->V):R2:=λx y H Q=>∃ i j,x=.int i/\y=.int j/\C i j/\Q (g i j) H
def FR(g:Int->Int->V):R2:=λx y H Q=>∃ i j,x=.int i/\y=.int j/\Q (g i j) H
def rU(g:Int->V):V->Hp->VK->Prop:=λx H Q=>∃ i,x=.int i/\Q (g i) H
section
variable{X:Cx}{a b c:Expr}{ta tb tc:TE}{pos:Pos}
theorem QL(ha:PE X a ta)(hb:PE X b tb){pins:List (Addr × Obj)}{s:Shared}{σ:St}{H:Hp}{R:V->V->Hp->Prop}(I:Inv X pins σ H s)
  (h:ta σ H λx H1=>tb σ H1 λy H2=>R x y H2) {Q:Value->Shared->Prop} {f:Value->Value->Sem Value}
  (hf:∀ v u s2 x y H2,Inv X pins σ H2 s2->RelV x v->RelV y u->R x y H2->wpAny (model X.prog X.w) X.A (f v u) Q X.xe s2) :
  wpAny (model X.prog X.w) X.A (eval a X.env) (λv s₁=>wpAny (model X.prog X.w) X.A (eval b X.env) (λu s₂=>wpAny (model X.prog X.w) X.A (f v u) Q X.xe s₂) X.xe s₁) X.xe s:=by
 refine AZ (ha pins s σ H _ I h) λv s1 ⟨x,H1,I1,r1,q1⟩=> ?_
 refine AZ (hb pins s1 σ H1 _ I1 q1) λu s2 ⟨y,H2,I2,r2,q2⟩=> ?_
 exact hf v u s2 x y H2 I2 r1 r2 q2
theorem AT{op:Operator}{r:R2}(ho:OpR X (binaryOp op) r)(ha:PE X a ta)(hb:PE X b tb):PE X (.BinOp a op b pos) (AC r ta tb):=by
 intro pins s σ H Q I h
 exact wpAny_BinOp (QL ha hb I h λv u s2 x y H2 I2 rx ry q=>ho pins s2 σ H2 x y v u Q I2 rx ry q)
theorem OT{f:Value->Value->Sem Value}{C:Int->Int->Prop}{g:Int->Int->Int}
  (rule:∀ (i j:Int) (t u:Tok) (s:Shared) (Q:Value->Shared->Prop) (E:Value->Shared->Prop),C i j->Q (.int (g i j) s.toks) { s with toks:=s.toks+1 }->wpAny (model X.prog X.w) X.A (f (.int i t) (.int j u)) Q E s) :
  OpR X f (rI C λi j=>.int (g i j)):=by
 intro pins s σ H x y v u Q I rx ry h
 obtain⟨i,j,rfl,rfl,hc,q⟩:=h
 obtain⟨t,rfl⟩:=rx
 obtain⟨t',rfl⟩:=ry
 exact rule i j t t' s _ _ hc ⟨.int (g i j),H,I.tok _,⟨_,rfl⟩,q⟩
theorem VF{f:Value->Value->Sem Value}{g:Int->Int->Int}
  (rule:∀ (i j:Int) (t u:Tok) (s:Shared) (Q:Value->Shared->Prop) (E:Value->Shared->Prop),Q (.int (g i j) s.toks) { s with toks:=s.toks+1 }->wpAny (model X.prog X.w) X.A (f (.int i t) (.int j u)) Q E s) :
  OpR X f (FR λi j=>.int (g i j)):=by
 intro pins s σ H x y v u Q I rx ry h
 obtain⟨i,j,rfl,rfl,q⟩:=h
 obtain⟨t,rfl⟩:=rx
 obtain⟨t',rfl⟩:=ry
 exact rule i j t t' s _ _ ⟨.int (g i j),H,I.tok _,⟨_,rfl⟩,q⟩
theorem OU{f:Value->Value->Sem Value}{g:Int->Int->Bool}
  (rule:∀ (i j:Int) (t u:Tok) (s:Shared) (Q:Value->Shared->Prop) (E:Value->Shared->Prop),Q (.bool (g i j)) s->wpAny (model X.prog X.w) X.A (f (.int i t) (.int j u)) Q E s) :
  OpR X f (FR λi j=>.bl (g i j)):=by
 intro pins s σ H x y v u Q I rx ry h
 obtain⟨i,j,rfl,rfl,q⟩:=h
 obtain⟨t,rfl⟩:=rx
 obtain⟨t',rfl⟩:=ry
 exact rule i j t t' s _ _ ⟨.bl (g i j),H,I,rfl,q⟩
def VG(i j:Int):Prop:=0<j/\j<1073741824
def VH(i j:Int):Prop:=0<=j/\j<=1000000/\i.natAbs<2 ^ 64
def CMul(i j:Int):Prop:=(-(2 ^ 64)<i/\i<2 ^ 64)\/(-(2 ^ 64)<j/\j<2 ^ 64)
theorem CMul.ok{i j:Int}(h:CMul i j):IntMulOk i j:=by
 rcases h with⟨h1,h2⟩ | ⟨h1,h2⟩
 ·exact .of_left (intBits_le_64 h1 h2)
 ·exact .of_right (intBits_le_64 h1 h2)
theorem kN:OpR X (binaryOp .Add) (FR λi j=>.int (i+j)):=VF λ_ _ _ _ _ _ _ q=>add_int q
theorem OV:OpR X (binaryOp .Sub) (FR λi j=>.int (i - j)):=VF λ_ _ _ _ _ _ _ q=>sub_int q
theorem kO:OpR X (binaryOp .Mult) (rI CMul λi j=>.int (i * j)):=OT λ_ _ _ _ _ _ _ hc q=>mul_int q hc.ok
theorem FD:OpR X (binaryOp .FloorDiv) (rI VG λi j=>.int (i / j)):=OT λi j _ _ _ _ _ hc q=>by
 have h1:(0:Int)<j:=hc.1
 have h2:j<1073741824:=hc.2
 exact floordiv_int (by omega) (by rw[Int.fdiv_eq_ediv_of_nonneg i (by omega)];exact q) (.inl (PyProof.noPylong_small (by omega)))
theorem BO:OpR X (binaryOp .Mod) (rI (λ_ j=>0<j) λi j=>.int (i % j)):=OT λi j _ _ _ _ _ hc q=>by
 have h1:(0:Int)<j:=hc
 exact mod_int' (by omega) (by rw[Int.fmod_eq_emod_of_nonneg i (by omega)];exact q)
theorem kP:OpR X (binaryOp .Pow) (rI VH λi j=>.int (i ^ j.toNat)):=OT λ_ _ _ _ _ _ _ hc q=>pow_int_small hc.1 hc.2.1 hc.2.2 q
end
def DQ:V->V->Bool
 | .non,.non=>true | .non,.int _=>true | .int _,.non=>true | .non,.bl _=>true | .bl _,.non=>true | .non,.str _=>true | .str _,.non=>true
 | .int _,.int _=>true | .bl _,.bl _=>true | .str _,.str _=>true | .byt _,.byt _=>true
 | .int _,.str _=>true | .str _,.int _=>true | .bl _,.str _=>true | .str _,.bl _=>true
 | _,_=>false
def kQ:R2:=λx y H Q=>DQ x y=true/\Q (.bl (decide (x=y))) H
def kR:R2:=λx y H Q=>DQ x y=true/\Q (.bl (!decide (x=y))) H
theorem VJ{i j:Int}:decide (V.int i=V.int j)=(i == j):=by
 rw[Bool.eq_iff_iff]
 simp
theorem VL{i j:Bool}:decide (V.bl i=V.bl j)=(i == j):=by
 rw[Bool.eq_iff_iff]
 simp
theorem VM{i j:Str}:decide (V.str i=V.str j)=(i == j):=by
 rw[Bool.eq_iff_iff]
 simp
theorem VN{i j:Array UInt8}:decide (V.byt i=V.byt j)=(i.toList == j.toList):=by
 rw[Bool.eq_iff_iff]
 cases i
 cases j
 simp
section
variable{X:Cx}{a b c:Expr}{ta tb tc:TE}{pos:Pos}
theorem CL{pins:List (Addr × Obj)}{σ:St}{H:Hp}{s:Shared}{Q:VK}{k k':Bool}(I:Inv X pins σ H s)(q:Q (.bl k) H)(e:k=k'):EP X pins σ Q (.bool k') s:=by
 subst e
 exact⟨.bl k,H,I,rfl,q⟩
theorem kS:OpR X (compareOp .Eq) kQ:=by
 intro pins s σ H x y v u Q I rx ry h
 obtain⟨hs,q⟩:=h
 cases x with
 | non =>
  cases rx
  cases y with
  | non=>cases ry;exact PySem.EqNone.eq_none_none (CL I q (by simp))
  | bl j=>cases ry;exact PySem.EqNone.eq_none_bool (CL I q (by simp))
  | int j=>obtain⟨t',rfl⟩:=ry;exact PySem.EqNone.eq_none_int (CL I q (by simp))
  | str j=>obtain⟨t',rfl⟩:=ry;exact PySem.EqNone.eq_none_str (CL I q (by simp))
  | _=>exact absurd (show false=true from hs) Bool.false_ne_true
 | bl i =>
  cases rx
  cases y with
  | non=>cases ry;exact PySem.EqNone.eq_bool_none (CL I q (by simp))
  | bl j=>cases ry;exact eq_bool (CL I q VL)
  | str j=>obtain⟨t',rfl⟩:=ry;exact PySem.EqMixed.eq_bool_str (CL I q (by simp))
  | _=>exact absurd (show false=true from hs) Bool.false_ne_true
 | int i =>
  obtain⟨t,rfl⟩:=rx
  cases y with
  | non=>cases ry;exact PySem.EqNone.eq_int_none (CL I q (by simp))
  | int j=>obtain⟨t',rfl⟩:=ry;exact eq_int (CL I q VJ)
  | str j=>obtain⟨t',rfl⟩:=ry;exact PySem.EqMixed.eq_int_str (CL I q (by simp))
  | _=>exact absurd (show false=true from hs) Bool.false_ne_true
 | str i =>
  obtain⟨t,rfl⟩:=rx
  cases y with
  | non=>cases ry;exact PySem.EqNone.eq_str_none (CL I q (by simp))
  | bl j=>cases ry;exact PySem.EqMixed.eq_str_bool (CL I q (by simp))
  | int j=>obtain⟨t',rfl⟩:=ry;exact PySem.EqMixed.eq_str_int (CL I q (by simp))
  | str j=>obtain⟨t',rfl⟩:=ry;exact eq_str (CL I q VM)
  | _=>exact absurd (show false=true from hs) Bool.false_ne_true
 | byt i =>
  obtain⟨t,rfl⟩:=rx
  cases y with
  | byt j=>obtain⟨t',rfl⟩:=ry;exact W.eq_bytes (CL I q VN)
  | _=>exact absurd (show false=true from hs) Bool.false_ne_true
 | _=>cases y<;>exact absurd (show false=true from hs) Bool.false_ne_true
theorem kT:OpR X (compareOp .NotEq) kR:=by
 intro pins s σ H x y v u Q I rx ry h
 obtain⟨hs,q⟩:=h
 cases x with
 | non =>
  cases rx
  cases y with
  | non=>cases ry;exact PySem.EqNone.ne_none_none (CL I q (by simp))
  | bl j=>cases ry;exact PySem.EqNone.ne_none_bool (CL I q (by simp))
  | int j=>obtain⟨t',rfl⟩:=ry;exact PySem.EqNone.ne_none_int (CL I q (by simp))
  | str j=>obtain⟨t',rfl⟩:=ry;exact PySem.EqNone.ne_none_str (CL I q (by simp))
  | _=>exact absurd (show false=true from hs) Bool.false_ne_true
 | bl i =>
  cases rx
  cases y with
  | non=>cases ry;exact PySem.EqNone.ne_bool_none (CL I q (by simp))
  | bl j=>cases ry;exact ne_bool (CL I q (congrArg not VL))
  | str j=>obtain⟨t',rfl⟩:=ry;exact PySem.EqMixed.ne_bool_str (CL I q (by simp))
  | _=>exact absurd (show false=true from hs) Bool.false_ne_true
 | int i =>
  obtain⟨t,rfl⟩:=rx
  cases y with
  | non=>cases ry;exact PySem.EqNone.ne_int_none (CL I q (by simp))
  | int j=>obtain⟨t',rfl⟩:=ry;exact ne_int (CL I q (congrArg not VJ))
  | str j=>obtain⟨t',rfl⟩:=ry;exact PySem.EqMixed.ne_int_str (CL I q (by simp))
  | _=>exact absurd (show false=true from hs) Bool.false_ne_true
 | str i =>
  obtain⟨t,rfl⟩:=rx
  cases y with
  | non=>cases ry;exact PySem.EqNone.ne_str_none (CL I q (by simp))
  | bl j=>cases ry;exact PySem.EqMixed.ne_str_bool (CL I q (by simp))
  | int j=>obtain⟨t',rfl⟩:=ry;exact PySem.EqMixed.ne_str_int (CL I q (by simp))
  | str j=>obtain⟨t',rfl⟩:=ry;exact ne_str (CL I q (congrArg not VM))
  | _=>exact absurd (show false=true from hs) Bool.false_ne_true
 | byt i =>
  obtain⟨t,rfl⟩:=rx
  cases y with
  | byt j=>obtain⟨t',rfl⟩:=ry;exact W.ne_bytes (CL I q (congrArg not VN))
  | _=>exact absurd (show false=true from hs) Bool.false_ne_true
 | _=>cases y<;>exact absurd (show false=true from hs) Bool.false_ne_true
theorem kU:OpR X (compareOp .Lt) (FR λi j=>.bl (decide (i<j))):=OU λ_ _ _ _ _ _ _ q=>lt_int q
theorem kW:OpR X (compareOp .LtE) (FR λi j=>.bl (decide (i<=j))):=OU λ_ _ _ _ _ _ _ q=>le_int q
theorem kX:OpR X (compareOp .Gt) (FR λi j=>.bl (decide (j<i))):=OU λ_ _ _ _ _ _ _ q=>gt_int q
theorem kY:OpR X (compareOp .GtE) (FR λi j=>.bl (decide (j<=i))):=OU λ_ _ _ _ _ _ _ q=>ge_int q
theorem FS:OpR X (compareOp .Is) (λx y H Q=>y=.non/\Q (.bl (decide (x=.non))) H):=by
 intro pins s σ H x y v u Q I rx ry h
 obtain⟨rfl,q⟩:=h
 cases ry
 refine is_none_gen (CL I q ?_)
 cases x<;>first
  | (cases rx;rfl)
  | (obtain⟨t,rfl⟩:=rx;rfl)
theorem HL:OpR X (compareOp .IsNot) (λx y H Q=>y=.non/\Q (.bl (!decide (x=.non))) H):=by
 intro pins s σ H x y v u Q I rx ry h
 obtain⟨rfl,q⟩:=h
 cases ry
 refine isnot_none_gen (CL I q ?_)
 cases x<;>first
  | (cases rx;rfl)
  | (obtain⟨t,rfl⟩:=rx;rfl)
theorem OpR.or{f:Value->Value->Sem Value}{r r':R2}(h:OpR X f r)(h':OpR X f r'):OpR X f (λx y H Q=>r x y H Q\/r' x y H Q):=by
 intro pins s σ H x y v u Q I rx ry q
 rcases q with q | q
 ·exact h pins s σ H x y v u Q I rx ry q
 ·exact h' pins s σ H x y v u Q I rx ry q
theorem A0(b:Expr){op:CmpOp}(h:op≠.In:=by decide)(h2:op≠.NotIn:=by decide):behindInMarks op b=false:=by
 have e1:(op == CmpOp.In)=false:=by cases op<;>first | rfl | exact absurd rfl h
 have e2:(op == CmpOp.NotIn)=false:=by cases op<;>first | rfl | exact absurd rfl h2
 cases b<;>simp[behindInMarks,e1,e2]
theorem KF{op:CmpOp}{r:R2}(ho:OpR X (compareOp op) r)(ha:PE X a ta)(hb:PE X b tb)(hm:behindInMarks op b=false):PE X (.Compare a [op] [b] pos) (AC r ta tb):=by
 intro pins s σ H Q I h
 exact wpAny_Compare1 (QL ha hb I h λv u s2 x y H2 I2 rx ry q=>ho pins s2 σ H2 x y v u Q I2 rx ry q) hm
def A1(t:TE):TT:=λσ H Q=>t σ H λx H'=>∃ k,x=.bl k/\Q k H'
theorem A4{op:CmpOp}{r:R2}(ho:OpR X (compareOp op) r)(ha:PE X a ta)(hb:PE X b tb)(hm:behindInMarks op b=false):PT X (.Compare a [op] [b] pos) (A1 (AC r ta tb)):=by
 intro pins s σ H Q I h
 refine wpAny_isTrue_Compare1 (AZ (ha pins s σ H _ I h) λv s1 ⟨x,H1,I1,r1,q1⟩=>AZ (hb pins s1 σ H1 _ I1 q1) λu s2 ⟨y,H2,I2,r2,q2⟩ =>
  AZ (ho pins s2 σ H2 x y v u _ I2 r1 r2 q2) λc s3 ⟨z,H3,I3,r3,k,e,q3⟩=> ?_) hm
 subst e
 cases r3
 exact wpAny_truthy_bool ⟨H3,I3,q3⟩
def QM(r r':R2)(ta tb tc:TE):TE:=λσ H Q=>ta σ H λx H1=>tb σ H1 λy H2=>r x y H2 λz H3=>∃ k,z=.bl k ∧
 (if k=true then tc σ H3 λw' H4=>r' y w' H4 Q else Q (.bl false) H3)
theorem kZ{op op':CmpOp}{r r':R2}(ho:OpR X (compareOp op) r)(ho':OpR X (compareOp op') r')(ha:PE X a ta)(hb:PE X b tb)(hc:PE X c tc)
  (hm:lastMarks [op,op'] [b,c]=false:=by with_unfolding_all rfl):PT X (.Compare a [op,op'] [b,c] pos) (A1 (QM r r' ta tb tc)):=by
 intro pins s σ H Q I h
 refine isTrue_chain (AZ (ha pins s σ H _ I h) λv s1 ⟨x,H1,I1,r1,q1⟩=>test_link (AZ (hb pins s1 σ H1 _ I1 q1) λu s2 ⟨y,H2,I2,r2,q2⟩ =>
  AZ (ho pins s2 σ H2 x y v u _ I2 r1 r2 q2) λd s3 ⟨z,H3,I3,r3,k,e,q3⟩=> ?_)) hm
 subst e
 cases r3
 refine wpAny_truthy_bool ?_
 cases k with
 | false =>
  obtain⟨k',e',q'⟩:=q3
  cases e'
  exact ite_ff ⟨H3,I3,q'⟩
 | true =>
  refine ite_tt (test_last (AZ (hc pins s3 σ H3 _ I3 q3) λw' s4 ⟨z',H4,I4,r4,q4⟩=>AZ (ho' pins s4 σ H4 y z' u w' _ I4 r2 r4 q4) λd' s5 ⟨z2,H5,I5,r5,k2,e2,q5⟩=> ?_))
  subst e2
  cases r5
  exact wpAny_truthy_bool ⟨H5,I5,q5⟩
def FE(K:W.Frag)(x:V)(H:Hp)(k:Bool):Prop :=
 match x with
 | .non=>k=false
 | .bl b=>k=b
 | .int i=>k=(i != 0)
 | .str y=>y.length<=sizeLine/\k=((y.length:Int) != 0)
 | .byt y=>y.size<=sizeLine/\k=((y.size:Int) != 0)
 | .ref p=>(∃ xs,SqL K H p xs/\k= !xs.isEmpty)\/(∃ xs,SqT K H p xs/\k= !xs.isEmpty)\/∃ kvs,H p=some (.dK kvs)/\k= !kvs.isEmpty
 | _=>False
theorem k7{κ :Type}{kvs:List (κ × V)}{vs:List (κ × Value)}(r:KV kvs vs):(!vs.isEmpty)= !kvs.isEmpty:=by
 cases r<;>rfl
theorem VO{xs:List V}{its:List Value}(r:Vals xs its):(!its.toArray.isEmpty)= !xs.isEmpty:=by
 cases r<;>simp
theorem IH:(sizeLine:Nat)<2 ^ 63:=by rw[sizeLine_eq];decide
theorem k8:kL X (λx H Q=>∃ k,FE X.K x H k/\Q k H):=by
 intro pins s σ H x v Q I rx h
 obtain⟨k,e,q⟩:=h
 have hl:=IH
 have hs:sizeLine=16777216:=sizeLine_eq
 cases x with
 | non =>
  cases rx
  have e':k=false:=e
  subst e'
  exact truthy_none ⟨H,I,q⟩
 | bl b =>
  cases rx
  have e':k=b:=e
  subst e'
  exact wpAny_truthy_bool ⟨H,I,q⟩
 | int i =>
  obtain⟨t,rfl⟩:=rx
  have e':k=(i != 0):=e
  subst e'
  exact PySem.P.truthy_int ⟨H,I,q⟩
 | str y =>
  obtain⟨t,rfl⟩:=rx
  obtain⟨hy,e'⟩:y.length<=sizeLine/\k=((y.length:Int) != 0):=e
  subst e'
  exact PySem.P.truthy_str (by omega) ⟨H,I.tok _,q⟩
 | byt y =>
  obtain⟨t,rfl⟩:=rx
  obtain⟨hy,e'⟩:y.size<=sizeLine/\k=((y.size:Int) != 0):=e
  subst e'
  exact W.truthy_bytes (by omega) ⟨H,I.tok _,q⟩
 | ref p =>
  cases rx
  have e':(∃ xs,SqL X.K H p xs/\k= !xs.isEmpty)\/(∃ xs,SqT X.K H p xs/\k= !xs.isEmpty)\/∃ kvs,H p=some (.dK kvs)/\k= !kvs.isEmpty:=e
  rcases e' with⟨xs,hx,e'⟩ | ⟨xs,hx,e'⟩ | ⟨kvs,hx,e'⟩
  ·subst e'
   obtain⟨its,r,pl,hz⟩:=I.list hx
   have hlen:=r.length
   exact wpAny_truthy_list pl.isList (by simp only[List.size_toArray];omega) ⟨H,I.tok _,by rw[VO r];exact q⟩
  ·subst e'
   obtain⟨its,r,pl,hz⟩:=I.tuple hx
   have hlen:=r.length
   exact truthy_tuple pl (by simp only[List.size_toArray];omega) ⟨H,I.tok _,by rw[VO r];exact q⟩
  ·subst e'
   obtain⟨hz,hS,vs,r,m⟩:kvs.length<=sizeLine/\(p == sysModules)=false/\∃ vs,KV kvs vs/\s.heap.DictOf (EF X.prog X.w) p vs:=I.hok p _ hx
   have hlen:kvs.length=vs.length:=Paired.length r
   exact wpAny_truthy_dict hS m (by omega) ⟨H,I.tok _,by rw[k7 r];exact q⟩
 | _=>exact(show False from e).elim
theorem QN(ha:PE X a ta)(he:∀ whole,isTrue a X.env whole=(do let v ← whole;standAt a.pos;holding [v] (truthy v))) :
  PT X a (λσ H Q=>ta σ H λx H'=>∃ k,FE X.K x H' k/\Q k H'):=by
 intro pins s σ H Q I h
 exact isTrue_plain (AZ (ha pins s σ H _ I h) λv s1 ⟨x,H1,I1,r1,q1⟩=>k8 pins s1 σ H1 x v Q I1 r1 q1) (he _)
theorem k9:OpR X (binaryOp .Add) (λx y H Q=>∃ i j,x=.str i/\y=.str j/\i.length+j.length<=sizeLine/\Q (.str (i++j)) H):=by
 intro pins s σ H x y v u Q I rx ry h
 obtain⟨i,j,rfl,rfl,hz,q⟩:=h
 obtain⟨t,rfl⟩:=rx
 obtain⟨t',rfl⟩:=ry
 exact add_str (λt' tk=>⟨.str (i++j),H,I.tok _,⟨_,rfl⟩,q⟩) hz
theorem II{x:V}{us:List Value}(r:Vals [x] us):∃ u,us=[u]/\RelV x u:=by
 cases r with
 | cons r1 r2=>cases r2;exact⟨_,rfl,r1⟩
theorem lA{x y:V}{us:List Value}(r:Vals [x,y] us):∃ u w',us=[u,w']/\RelV x u/\RelV y w':=by
 cases r with
 | cons r1 r2 =>
  cases r2 with
  | cons r3 r4=>cases r4;exact⟨_,_,rfl,r1,r3⟩
theorem lB(hc:X.calm=true):CallR X (.builtin "max") (λxs H Q=>∃ i j,xs=[.int i,.int j]/\Q (.int (if j > i then j else i)) H):=by
 intro pins s σ H xs us Q I r h
 obtain⟨i,j,rfl,q⟩:=h
 obtain⟨u,w',rfl,⟨t,rfl⟩,⟨t',rfl⟩⟩:=lA r
 refine max_two_ints (I.ok.hd hc) λh' tk k=>⟨_,H,I.kept k,?_,q⟩
 by_cases hj:j > i
 ·rw[if_pos hj,if_pos hj];exact⟨_,rfl⟩
 ·rw[if_neg hj,if_neg hj];exact⟨_,rfl⟩
theorem QP:CallR X (.type "int") (λxs H Q=>(∃ i,xs=[.int i]/\Q (.int i) H)\/∃ k,xs=[.bl k]/\Q (.int (if k then 1 else 0)) H):=by
 intro pins s σ H xs us Q I r h
 rcases h with⟨i,rfl,q⟩ | ⟨k,rfl,q⟩
 ·obtain⟨u,rfl,t,rfl⟩:=II r
  exact call_int_int ⟨.int i,H,I,⟨_,rfl⟩,q⟩
 ·obtain⟨u,rfl,r1⟩:=II r
  cases r1
  exact call_int_bool ⟨.int (if k then 1 else 0),H,I.tok _,⟨_,rfl⟩,q⟩
def KG(K:W.Frag)(x:V)(H:Hp)(n:Nat):Prop :=
 match x with
 | .str y=>y.length<=sizeLine/\n=y.length
 | .byt y=>y.size<=sizeLine/\n=y.size
 | .ref p=>(∃ xs,SqL K H p xs/\n=xs.length)\/∃ xs,SqT K H p xs/\n=xs.length
 | _=>False
theorem lC:CallR X (.builtin "len") (λxs H Q=>∃ x n,xs=[x]/\KG X.K x H n/\Q (.int n) H):=by
 intro pins s σ H xs us Q I r h
 obtain⟨x,n,rfl,e,q⟩:=h
 obtain⟨u,rfl,rx⟩:=II r
 have hl:=IH
 have hs:sizeLine=16777216:=sizeLine_eq
 cases x with
 | str y =>
  obtain⟨t,rfl⟩:=rx
  obtain⟨hy,e'⟩:y.length<=sizeLine/\n=y.length:=e
  subst e'
  exact len_str (by omega) ⟨.int _,H,I.tok _,⟨_,rfl⟩,q⟩
 | byt y =>
  obtain⟨t,rfl⟩:=rx
  obtain⟨hy,e'⟩:y.size<=sizeLine/\n=y.size:=e
  subst e'
  exact W.len_bytes (by omega) ⟨.int _,H,I.tok _,⟨_,rfl⟩,q⟩
 | ref p =>
  cases rx
  have e':(∃ xs,SqL X.K H p xs/\n=xs.length)\/∃ xs,SqT X.K H p xs/\n=xs.length:=e
  rcases e' with⟨xs,hx,e'⟩ | ⟨xs,hx,e'⟩
  ·subst e'
   obtain⟨its,r',pl,hz⟩:=I.list hx
   have hlen:=r'.length
   exact Calls.call_len_list pl.isList (by simp only[List.size_toArray];omega) ⟨.int xs.length,H,I.tok _,⟨_,by simp only[List.size_toArray];rw[hlen]⟩,q⟩
  ·subst e'
   obtain⟨its,r',pl,hz⟩:=I.tuple hx
   have hlen:=r'.length
   exact len_tuple pl (by simp only[List.size_toArray];omega) ⟨.int xs.length,H,I.tok _,⟨_,by simp only[List.size_toArray];rw[hlen]⟩,q⟩
 | _=>exact(show False from e).elim
end
end L2
namespace L2
structure ObjM(h:Heap)(x dx C:Addr)(mA:Str->Option Value):Prop where
 obj:h.get? x=some (W.instObj C dx)
 ns:h.Ns1 dx mA
 ne:dx≠x
theorem lD{h:Heap}{dx:Addr}{mA:Str->Option Value}(n:h.Ns1 dx mA):∃ od,h.get? dx=some od/\∀ name,W.lookIn name od=some (mA name):=by
 obtain⟨o,es,ep,ho,hd,hk,_,hm⟩:=n
 refine⟨o,ho,λname=> ?_⟩
 have e:=hm name
 unfold nsFind findBy at e
 rw[<-Array.find?_toList]at e
 unfold W.lookIn
 rw[hd]
 dsimp only
 split
 ·rename_i y q
  rw[q]at e
  exact congrArg some e
 ·rename_i q
  rw[q]at e
  have a:es.toList.any (·.refKey)=false:=by
   rw[List.any_eq_false]
   intro y hy
   obtain⟨z,t,hkey⟩:=hk y (Array.mem_toList_iff.mp hy)
   simp[DictEntry.refKey,hkey]
  have a':¬ es.toList.any (·.refKey)=true:=by rw[a];exact Bool.false_ne_true
  rw[if_neg a']
  exact congrArg some e
theorem ObjM.look{h:Heap}{x dx C:Addr}{mA:Str->Option Value}(I:ObjM h x dx C mA):∃ od,W.InstAt h x (W.instObj C dx) C (some od)/\∀ name,W.lookIn name od=some (mA name) :=
 let ⟨od,ho,hl⟩:=lD I.ns
 ⟨od,⟨I.obj,rfl,rfl,ho⟩,hl⟩
section
variable{prog:Program}{w:World}{A:Around}{E:Value->Shared->Prop}{s:Shared}{K:W.Frag}{x dx C f:Addr}{mA:Str->Option Value}{name:Str}{v:Value}
theorem lE{expr:Bool}{Q:Value->Shared->Prop}(X:K.In s.heap)(I:ObjM s.heap x dx C mA)(hg:W.plainGet K C name=true)(hh:W.hasDictIn K C=true)
  (ha:W.findIn K (.ref C) name=some none) (hv:mA name=some v) (hv':W.handedIn v=true) (h:Q v { s with toks:=s.toks+1 }) :
  wpAny (model prog w) A (getAttr (.ref x) name expr) Q E s:=by
 obtain⟨od,J,hl⟩:=I.look
 exact W.get_value X J (W.plainGet_of hg).1 (W.findObj_own hh ha rfl (by rw[hl,hv])) hv' h
theorem lF{pl:Sem Bool}{Q:Value × List Value->Shared->Prop}(X:K.In s.heap)(I:ObjM s.heap x dx C mA)(hg:W.plainGet K C name=true)
  (hf:W.findIn K (.ref C) name=some (some (.ref f))) (ht:W.isFn K (.ref f)=true) (hv:mA name=none) (h:Q (.ref f,[.ref x]) s) :
  wpAny (model prog w) A (getMethod (.ref x) name pl) Q E s:=by
 obtain⟨od,J,hl⟩:=I.look
 exact W.method_fn X J (W.plainGet_of hg).1 (W.plainGet_of hg).2 hf (beq_iff_eq.mp ht) (by show(W.lookIn name od).map (·.isSome)=some false;rw[hl,hv];rfl) h
theorem lG{ns:List Str}{Q:Unit->Shared->Prop}(X:K.In s.heap)(I:ObjM s.heap x dx C mA)
  (hs:W.findIn K (.ref C) "__setattr__"=some (some (.builtin "object.__setattr__"))) (hp:W.plainOver K C=true) (ht:W.takerIn K C name=some none) (hh:W.hasDictIn K C=true)
  (hw:PySem.Within mA ns) (hsz:ns.length<=sizeLine)
  (h:∀ h',ObjM h' x dx C (λy=>if y=name then some v else mA y)->Heap.SameBut dx s.heap h'->Q () { s with heap:=h',toks:=s.toks+2 }) :
  wpAny (model prog w) A (setAttr (.ref x) name v) Q E s:=by
 obtain⟨od,J,hl⟩:=I.look
 refine W.set_plain X J hs (W.osa_open (s:={ s with toks:=s.toks+1 }) (r:=none) X J hp ht λb=> ?_)
 obtain⟨cd,hc,hd'⟩:=W.any_some hh
 have hx:s.heap.get? x=some ⟨.ref C,some dx,.plain,#[]⟩:=I.obj
 refine wpAny_bind (wpAny_pure (wpAny_bind (wpAny_bind (wpAny_loadPart hx (wpAny_bind (W.Looks.here (s:={ s with toks:=s.toks+1 }) (W.looks_clsIn X hc) ?_))))))
 rw[hd']
 refine wpAny_pure (a:=some dx) (wpAny_bind (wpAny_pure (wpAny_bind ?_)))
 refine wpAny_nsSet1 (s:={ s with toks:=s.toks+1 }) I.ns λh' hn2 hs2=> ?_
 obtain⟨oD,esD,epD,hoD,hdD,hcD⟩:=hn2.count (PySem.Within.cons name v hw)
 refine wpAny_bind (wpAny_lookBehind hoD (by rw[hdD];exact pastItsLine_dict (Nat.le_trans hcD (by rw[List.length_cons];omega))) ?_)
 exact wpAny_pure (h _ ⟨(hs2.2 _ (Ne.symm I.ne)).trans I.obj,hn2,I.ne⟩ hs2)
theorem lH{R:Result->Shared->Prop}{vs:List Value}{kw:List (Str × Value)}(X:K.In s.heap)(hm:W.makesIn K C=true)
  (hi:W.findIn K (.ref C) "__init__"=some (some (.ref f))) (hf:W.typeIn K (.ref f)=some (.type "function"))
  (h:codeAny (model prog w) (A.under (.builtin "type.__call__" ⟨.ref C::vs,kw⟩)) (.call (.ref f) ⟨.ref (s.heap.objs.size+1)::vs,kw⟩) (W.InitBack (s.heap.objs.size+1) R)
   { s with heap:=(s.heap.push W.emptyDict).push (W.instObj C s.heap.objs.size) }) :
  codeAny (model prog w) A (.call (.ref C) ⟨vs,kw⟩) R s:=by
 obtain⟨hh,g,d,t,os⟩:=s
 exact W.make_core (W.makes_of X hm) (W.looks_findIn X hi) (λself=>W.bind_fn X self hf) (.inl rfl) h
end
def BT(f:Str)(v:V):List (Str × V)->List (Str × V)
 | []=>[(f,v)]
 | (g,x)::r=>if g=f then(g,v)::r else(g,x)::BT f v r
theorem VP(f g:Str)(v:V):∀ fs:List (Str × V),(BT f v fs).lookup g=if g=f then some v else fs.lookup g
 | []=>by
  show List.lookup g [(f,v)]=_
  by_cases h:g=f
  ·have hb:(g == f)=true:=beq_iff_eq.mpr h
   simp only[List.lookup,hb,if_pos h]
  ·have hb:(g == f)=false:=beq_eq_false_iff_ne.mpr h
   simp only[List.lookup,hb,if_neg h]
 | (k,x)::r=>by
  have ih:=VP f g v r
  rw[show BT f v ((k,x)::r)=(if k=f then(k,v)::r else(k,x)::BT f v r)from rfl]
  by_cases hk:k=f
  ·rw[if_pos hk]
   by_cases h:g=k
   ·have hb:(g == k)=true:=beq_iff_eq.mpr h
    simp only[List.lookup,hb,if_pos (h.trans hk)]
   ·have hb:(g == k)=false:=beq_eq_false_iff_ne.mpr h
    simp only[List.lookup,hb,if_neg (λe:g=f=>h (e.trans hk.symm))]
  ·rw[if_neg hk]
   by_cases h:g=k
   ·have hb:(g == k)=true:=beq_iff_eq.mpr h
    simp only[List.lookup,hb,if_neg (λe:g=f=>hk (h.symm.trans e))]
   ·have hb:(g == k)=false:=beq_eq_false_iff_ne.mpr h
    simp only[List.lookup,hb]
    exact ih
theorem QQ(f:Str)(v:V):∀ fs:List (Str × V),f∈(BT f v fs).map (·.1)/\∀ g,g∈fs.map (·.1)->g∈(BT f v fs).map (·.1)
 | []=>⟨by simp[BT],λg h=>by simp at h⟩
 | (k,x)::r=>by
  obtain⟨i1,i2⟩:=QQ f v r
  rw[show BT f v ((k,x)::r)=(if k=f then(k,v)::r else(k,x)::BT f v r)from rfl]
  by_cases hk:k=f
  ·rw[if_pos hk]
   subst hk
   exact⟨by simp,λg h=>by simpa using h⟩
  ·rw[if_neg hk]
   refine⟨?_,λg h=> ?_⟩
   ·rw[List.map_cons]
    exact List.mem_cons_of_mem _ i1
   ·rw[List.map_cons]at h ⊢
    rcases List.mem_cons.mp h with e | e
    ·exact List.mem_cons.mpr (.inl e)
    ·exact List.mem_cons_of_mem _ (i2 g e)
theorem QR(f:Str)(v:V):∀ fs:List (Str × V),(BT f v fs).length<=fs.length+1
 | []=>by simp[BT]
 | (k,x)::r=>by
  have ih:=QR f v r
  rw[show BT f v ((k,x)::r)=(if k=f then(k,v)::r else(k,x)::BT f v r)from rfl]
  by_cases hk:k=f
  ·rw[if_pos hk,List.length_cons,List.length_cons];omega
  ·rw[if_neg hk,List.length_cons,List.length_cons];omega
theorem RelO.some_of{v:V}{o:Option Value}(r:RelO (some v) o):∃ u,o=some u/\RelV v u:=by
 cases o with
 | none=>exact(show False from r).elim
 | some u=>exact⟨u,rfl,r⟩
theorem RelO.none_of{o:Option Value}(r:RelO none o):o=none:=by
 cases o with
 | none=>rfl
 | some u=>exact(show False from r).elim
theorem lI{v:V}{u:Value}(r:RelV v u):W.handedIn u=true:=by
 cases v with
 | non=>cases (show u=Value.none from r);rfl
 | bl b=>cases (show u=Value.bool b from r);rfl
 | int i=>obtain⟨t,e⟩:=(show ∃ t,u=Value.int i t from r);cases e;rfl
 | str x=>obtain⟨t,e⟩:=(show ∃ t,u=Value.str x t from r);cases e;rfl
 | byt b=>obtain⟨t,e⟩:=(show ∃ t,u=Value.bytes b t from r);cases e;rfl
 | flt b=>obtain⟨t,e⟩:=(show ∃ t,u=Value.float b t from r);cases e;rfl
 | ref a=>cases (show u=Value.ref a from r);rfl
 | ty n=>cases (show u=Value.type n from r);rfl
section
variable{P:Program}{w:World}{H H':Hp}{h h':Heap}{a C dx:Addr}{fs fs':List (Str × V)}
theorem OW(hok:HOk P w H h)(e:H a=some (.ins C dx fs)):∃ mA,ObjM h a dx C mA/\(∀ f,RelO (fs.lookup f) (mA f))/\PySem.Within mA (fs.map (·.1))/\fs.length<=1000/\H dx=some (.own a):=by
 obtain⟨d,z,ne,ob,mA,n,r,q⟩:=(show ObjOk P w H h a (.ins C dx fs)from hok a _ e)
 exact⟨mA,⟨ob,n,ne⟩,r,q,z,d⟩
end
structure Cls(K:W.Frag)(C:Addr):Prop where
 pg:W.plainGet K C Str.empty=true
 hd:W.hasDictIn K C=true
 po:W.plainOver K C=true
 sa:W.findIn K (.ref C) "__setattr__"=some (some (.builtin "object.__setattr__"))
theorem Cls.get{K:W.Frag}{C:Addr}(c:Cls K C)(f:Str):W.plainGet K C f=true:=c.pg
def NoAttr(K:W.Frag)(C:Addr)(f:Str):Prop:=W.findIn K (.ref C) f=some none
theorem NoAttr.taker{K:W.Frag}{C:Addr}{f:Str}(n:NoAttr K C f):W.takerIn K C f=some none:=by
 unfold W.takerIn
 rw[show W.findIn K (.ref C) f=some none from n]
 rfl
structure Con(K:W.Frag)(C:Addr)(f:Str)(v:V)(u:Value):Prop where
 at_:W.findIn K (.ref C) f=some (some u)
 rel:RelV v u
 get:W.specialIn K u "__get__"=some none
 cp:W.copiedNames.contains f=false
structure OX(K:W.Frag)(C:Addr)(m:Str)(f:Addr):Prop where
 at_:W.findIn K (.ref C) m=some (some (.ref f))
 fn:W.isFn K (.ref f)=true
 kp:W.keepIn K (.ref f)=true
section
variable{X:Cx}{pins:List (Addr × Obj)}{σ:St}{H:Hp}{s:Shared}{a C dx:Addr}{fs:List (Str × V)}{f:Str}{v:V}{A:Around}{E:Value->Shared->Prop}
theorem VQ{b:Bool}{Q:Value->Shared->Prop}(I:Inv X pins σ H s)(e:H a=some (.ins C dx fs))(c:Cls X.K C)(n:NoAttr X.K C f)(l:fs.lookup f=some v)
  (h:∀ u s',Inv X pins σ H s'->RelV v u->Q u s'):wpAny (model X.prog X.w) A (getAttr (.ref a) f b) Q E s:=by
 obtain⟨mA,O,r,_,_,_⟩:=OW I.hok e
 obtain⟨u,hu,ru⟩:=RelO.some_of (v:=v) (o:=mA f) (by rw[<-l];exact r f)
 exact lE I.kIn O (c.get f) c.hd n hu (lI ru) (h u _ (I.tok _) ru)
theorem VR{m:Str}{g:Addr}{pl:Sem Bool}{Q:Value × List Value->Shared->Prop}(I:Inv X pins σ H s)(e:H a=some (.ins C dx fs))(c:Cls X.K C)(k:OX X.K C m g)(l:fs.lookup m=none)
  (h:Q (.ref g,[.ref a]) s):wpAny (model X.prog X.w) A (getMethod (.ref a) m pl) Q E s:=by
 obtain⟨mA,O,r,_,_,_⟩:=OW I.hok e
 have hn:mA m=none:=RelO.none_of (by rw[<-l];exact r m)
 exact lF I.kIn O (c.get m) k.at_ k.fn hn h
theorem VS{y:V}{u:Value}{Q:Unit->Shared->Prop}(I:Inv X pins σ H s)(e:H a=some (.ins C dx fs))(c:Cls X.K C)(n:NoAttr X.K C f)(hl:fs.length<1000)(ry:RelV y u)
  (h:∀ s',Inv X pins σ (upd H a (.ins C dx (BT f y fs))) s'->Q () s'):wpAny (model X.prog X.w) A (setAttr (.ref a) f u) Q E s:=by
 obtain⟨mA,O,r,wi,_,ho⟩:=OW I.hok e
 have hz:(fs.map (·.1)).length<=sizeLine:=by rw[List.length_map,sizeLine_eq];omega
 refine lG I.kIn O c.sa c.po n.taker c.hd wi hz λh' O' sb=>h _ ?_
 have hd:∃ o,h'.get? dx=some o:=let ⟨o,_,_,e',_⟩:=O'.ns;⟨o,e'⟩
 refine I.write (x:=a) (e:=dx) (by rw[e];exact True.intro) (.inr ho) (λb q hb z=>(sb.2 b hb).trans z) hd ?_
 refine⟨by rw[AW O.ne];exact ho,?_,O.ne,O'.obj,_,O'.ns,λg=> ?_,λg hg=> ?_⟩
 ·have:=QR f y fs;omega
 ·show RelO ((BT f y fs).lookup g) (if g=f then some u else mA g)
  rw[VP]
  by_cases q:g=f
  ·rw[if_pos q,if_pos q];exact ry
  ·rw[if_neg q,if_neg q];exact r g
 ·by_cases q:g=f
  ·rw[q];exact(QQ f y fs).1
  ·refine(QQ f y fs).2 g (wi g λz=>hg ?_)
   show(if g=f then some u else mA g)=none
   rw[if_neg q];exact z
theorem Inv.made(I:Inv X pins σ H s):Inv X pins σ (upd (upd H s.heap.objs.size (.own (s.heap.objs.size+1))) (s.heap.objs.size+1) (.ins C s.heap.objs.size []))
  { s with heap:=(s.heap.push W.emptyDict).push (W.instObj C s.heap.objs.size) }:=by
 have e1:(s.heap.push W.emptyDict).get? s.heap.objs.size=some W.emptyDict:=Heap.get?_push_size s.heap rfl
 have e2:((s.heap.push W.emptyDict).push (W.instObj C s.heap.objs.size)).get? (s.heap.objs.size+1)=some (W.instObj C s.heap.objs.size):=by
  have:=Heap.get?_push_size (s.heap.push W.emptyDict) (o:=W.instObj C s.heap.objs.size) rfl
  rwa [Heap.size_push]at this
 have e3:(s.heap.push W.emptyDict).Ns s.heap.objs.size (λ_=>none):=⟨W.emptyDict,#[],_,e1,rfl,(λe he=>absurd he (by simp)),λ_=>rfl⟩
 have I1:=I.laid (a:=s.heap.objs.size) (o:=.own (s.heap.objs.size+1)) (h':=s.heap.push W.emptyDict) (t':=s.toks) (λb u q=>Heap.get?_push_of_some _ q) (Nat.le_refl _) ⟨_,e1⟩
 refine I1.laid (a:=s.heap.objs.size+1) (o:=.ins C s.heap.objs.size []) (t':=s.toks) (λb u q=>Heap.get?_push_of_some _ q) (Nat.le_of_eq (Heap.size_push _ _)) ?_
 have ne:s.heap.objs.size≠s.heap.objs.size+1:=Nat.ne_of_lt (Nat.lt_succ_self _)
 refine⟨by rw[AW ne,AS],Nat.zero_le _,ne,e2,λ_=>none,(Heap.Ns1.of_empty e3).at λo q=>Heap.get?_push_of_some _ q,λ_=>True.intro,λy hy=>absurd rfl hy⟩
theorem lJ{prog:Program}{w:World}{env:Env}{e:Expr}{f:Str}{pos:Pos}{s:Shared}{Q:Value->Shared->Prop}(hb:attributeBase e f env (eval e env)=eval e env)
  (h:wpAny (model prog w) A (eval e env) (λo s₁=>wpAny (model prog w) A (getAttr o f true) Q E s₁) E s):wpAny (model prog w) A (eval (.Attribute e f pos) env) Q E s :=
 Attribute_any_ h (by rw[arm_eval_Attribute,hb])
end
def BV(K:W.Frag)(ta:TE)(f:Str):TE:=λσ H Q=>ta σ H λx H1=>∃ a C dx fs v,x=.ref a/\H1 a=some (.ins C dx fs)/\Cls K C/\NoAttr K C f/\fs.lookup f=some v/\Q v H1
def DY(K:W.Frag)(ta tv:TE)(f:Str):TS:=λD σ H=>tv σ H λy H1=>ta σ H1 λx H2=>∃ a C dx fs,x=.ref a/\H2 a=some (.ins C dx fs)/\Cls K C/\NoAttr K C f/\fs.length<1000 ∧
 D.nx σ (upd H2 a (.ins C dx (BT f y fs)))
def QS(X:Cx)(op:Operator)(rd:V->V->Hp->VK->Prop):Prop :=
 ∀ (pins:List (Addr × Obj)) (s:Shared) (σ:St) (H:Hp) (x y:V) (u v:Value) (Q:VK),Inv X pins σ H s->RelV x u->RelV y v->rd x y H Q->wpAny (model X.prog X.w) X.A (inplaceOp op u v) (EP X pins σ Q) X.xe s
def QT(K:W.Frag)(ta tv:TE)(rd:V->V->Hp->VK->Prop)(f:Str):TS:=λD σ H=>ta σ H λx H1=>∃ a C dx fs v,x=.ref a/\H1 a=some (.ins C dx fs)/\Cls K C/\NoAttr K C f/\fs.lookup f=some v ∧
 tv σ H1 λy H2=>rd v y H2 λz H3=>∃ dx' fs',H3 a=some (.ins C dx' fs')/\fs'.length<1000/\D.nx σ (upd H3 a (.ins C dx' (BT f z fs')))
section
variable{X:Cx}{o e value:Expr}{f:Str}{pos pos' tpos:Pos}{ta tv:TE}
theorem B0(he:PE X e ta)(hb:attributeBase e f X.env (eval e X.env)=eval e X.env):PE X (.Attribute e f pos) (BV X.K ta f):=by
 intro pins s σ H Q I h
 refine lJ hb (AZ (he pins s σ H _ I h) λu s1 ⟨x,H1,I1,rx,a,C,dx,fs,v,ex,ea,c,n,l,q⟩=> ?_)
 subst ex
 obtain rfl:u=Value.ref a:=rx
 exact VQ I1 ea c n l λu' s2 I2 ru=>⟨v,H1,I2,ru,q⟩
theorem EA(ha:PE X o ta)(hv:PE X value tv)(hs:swapsWith value (some (.Attribute o f pos')) pos.line X.env=pure false):PS X (.Assign [.Attribute o f pos'] value pos) (DY X.K ta tv f):=by
 intro pins s σ H D I h
 refine plainObj_wpAny_Assign_Attribute (AZ (hv pins s σ H _ I h) λu s1 ⟨y,H1,I1,ry,q⟩=>AZ (ha pins s1 σ H1 _ I1 q) λov s2 ⟨x,H2,I2,rx,a,C,dx,fs,ex,ea,c,n,l,q2⟩=> ?_) hs
 subst ex
 obtain rfl:ov=Value.ref a:=rx
 exact VS I2 ea c n l ry λs3 I3=>⟨σ,_,I3,q2⟩
theorem lK{op:Operator}{rd:V->V->Hp->VK->Prop}(ha:PE X o ta)(hv:PE X value tv)(hop:QS X op rd):PS X (.AugAssign (.Attribute o f tpos) op value pos) (QT X.K ta tv rd f):=by
 intro pins s σ H D I h
 refine wpAny_AugAssign_AttributeAny (AZ (ha pins s σ H _ I h) λov s1 ⟨x,H1,I1,rx,a,C,dx,fs,v,ex,ea,c,n,l,q⟩=> ?_)
 subst ex
 obtain rfl:ov=Value.ref a:=rx
 refine VQ I1 ea c n l λu s2 I2 ru=>AZ (hv pins s2 σ H1 _ I2 q) λw3 s3 ⟨y,H2,I3,ry,q3⟩=>AZ (hop pins s3 σ H2 v y u w3 _ I3 ru ry q3) λw4 s4 ⟨z,H3,I4,rz,dx',fs',ea',l',q4⟩=> ?_
 exact VS I4 ea' c n l' rz λs5 I5=>⟨σ,_,I5,q4⟩
def MK:V->V->Hp->VK->Prop:=λx y H Q=>∃ i j,x=.int i/\y=.int j/\Q (.int (i+j)) H
theorem VT:QS X .Add MK:=by
 rintro pins s σ H x y u v Q I rx ry ⟨i,j,rfl,rfl,q⟩
 obtain⟨t,rfl⟩:=(show ∃ t,u=Value.int i t from rx)
 obtain⟨t',rfl⟩:=(show ∃ t',v=Value.int j t' from ry)
 exact PyProof.Rows.iadd_int ⟨.int (i+j),H,I.tok _,⟨_,rfl⟩,q⟩
end
section
variable{X:Cx}{pins:List (Addr × Obj)}{σ:St}{H:Hp}{s:Shared}{A:Around}{E:Value->Shared->Prop}{Q:Value->Shared->Prop}{c:Value}{b:Bool}
inductive FF(K:W.Frag)(H:Hp):V->Value->Prop where
 | non:FF K H .non (.type "NoneType")
 | bl (x:Bool):FF K H (.bl x) (.type "bool")
 | int (i:Int):FF K H (.int i) (.type "int")
 | str (x:Str):FF K H (.str x) (.type "str")
 | flt (x:UInt64):FF K H (.flt x) (.type "float")
 | lst {a:Addr} {xs:List V} (e:H a=some (.lst xs)):FF K H (.ref a) (.type "list")
 | frz {a:Addr} {o:Obj} {xs:List V} (e:H a=some (.frz o (.lst xs))):FF K H (.ref a) (.type "list")
 | tup {a:Addr} {xs:List V} (e:H a=some (.tup xs)):FF K H (.ref a) (.type "tuple")
 | dK {a:Addr} {kvs:List (BD × V)} (e:H a=some (.dK kvs)):FF K H (.ref a) (.type "dict")
 | dT {a:Addr} {kvs:List (List BD × V)} (e:H a=some (.dT kvs)):FF K H (.ref a) (.type "dict")
 | ins {a C dx:Addr} {fs:List (Str × V)} (e:H a=some (.ins C dx fs)) (cl:Cls K C) (ha:W.findIn K (.ref C) "__class__"=some (some (.builtin "object.__class__")))
   (hn:W.specialIn K (.builtin "object.__class__") "__get__"=some (some (.builtin "getset_descriptor.__get__"))) (htk:W.takesIn K (.builtin "object.__class__")=some true)
   (hm:W.mroIn K C (.type "object")=some true):FF K H (.ref a) (.ref C)
end
end L2
namespace L2
structure Room(k:Nat)(A:Around):Prop where
 hd:A.handled=none
 dp:A.depth+3 * k+5<recursionLimit
 un:A.units+16 * k+200<cLine
theorem Room.mono{j k:Nat}{A:Around}(r:Room k A)(h:j<=k):Room j A:=⟨r.hd,by have:=r.dp;omega,by have:=r.un;omega⟩
theorem Room.deeper{k:Nat}{A:Around}(r:Room (k+1) A)(env:Env):Room k (A.deeper env) :=
 ⟨r.hd,by have:=r.dp;show A.depth+1+3 * k+5<_;omega,by have:=r.un;show A.units+3+16 * k+200<_;omega⟩
theorem Room.in1{k:Nat}{A:Around}(r:Room (k+1) A):Room k A.in1 :=
 ⟨r.hd,by have:=r.dp;show A.depth+3 * k+5<_;omega,by have:=r.un;show A.units+1+16 * k+200<_;omega⟩
theorem lL{A:Around}{C:Addr}{us:List Value}{kw:List (Str × Value)}:(A.under (.builtin "type.__call__" ⟨.ref C::us,kw⟩)).depth=A.depth+1:=by
 first | rfl | simp[Around.under,Code.weight,Code.isCreation,Code.isGuard,Code.isCaller,Code.frames,Code.isFrame,guardIds]
theorem lM{A:Around}{C:Addr}{us:List Value}{kw:List (Str × Value)}:(A.under (.builtin "type.__call__" ⟨.ref C::us,kw⟩)).units=A.units+1:=by
 first | rfl | simp[Around.under,Code.cUnits,Code.frames,Code.isFrame]
theorem Room.make{k:Nat}{A:Around}(r:Room (k+1) A)(C:Addr)(us:List Value)(kw:List (Str × Value)):Room k (A.under (.builtin "type.__call__" ⟨.ref C::us,kw⟩)) :=
 ⟨r.hd,by have:=r.dp;rw[lL];omega,by have:=r.un;rw[lM];omega⟩
theorem Room.depth{k:Nat}{A:Around}(r:Room k A):A.depth<recursionLimit:=by have:=r.dp;omega
theorem Room.units{k:Nat}{A:Around}(r:Room k A):A.units+64<cLine:=by have:=r.un;omega
def AI:TA:=λ_ H Q=>Q [] H
def AD(ta:TE)(tr:TA):TA:=λσ H Q=>ta σ H λx H1=>tr σ H1 λxs H2=>Q (x::xs) H2
section
variable{X:Cx}{e:Expr}{es:List Expr}{te:TE}{t:TA}{pos:Pos}
theorem AJ:PA X [] AI:=λ_ _ _ _ H Q I h=>Calls.spliced_nil ⟨[],H,I,.nil,h⟩
theorem AE(ha:PE X e te)(hr:PA X es t)(hs:starEach (e::es) X.env=(false,eval e X.env)::starEach es X.env:=by rfl):PA X (e::es) (AD te t):=by
 intro pos pins s σ H Q I h
 rw[hs]
 show wpAny _ _ (spliced ((false,eval e X.env)::backTo pos (starEach es X.env))) _ _ s
 refine Calls.spliced_cons (AZ (ha pins s σ H _ I h) λu s1 ⟨x,H1,I1,r1,q1⟩=> ?_)
 exact AZ (hr pos pins s1 σ H1 _ I1 q1) λus s2 ⟨xs,H2,I2,r2,q2⟩=>⟨x::xs,H2,I2,.cons r1 r2,q2⟩
def B6(t:TA):TE:=λσ H Q=>t σ H λxs H1=>xs.length<=sizeLine/\∀ p,H1 p=none->Q (.ref p) (upd H1 p (.tup xs))
def CB(t:TA):TE:=λσ H Q=>t σ H λxs H1=>xs.length<=sizeLine/\∀ p,H1 p=none->Q (.ref p) (upd H1 p (.lst xs))
theorem B8{x1}(h:PA X es t):PE X (.Tuple es x1 pos) (B6 t):=by
 intro pins s σ H Q I hq
 refine wpAny_Tuple_spliced (AZ (h pos pins s σ H _ I hq) λus s1 ⟨xs,H1,I1,r,z,q⟩=>⟨by rw[<-r.length];exact z,?_⟩)
 have hf:H1 s1.heap.objs.size=none:=I1.hok.fresh (Nat.le_refl _)
 refine⟨.ref s1.heap.objs.size,upd H1 s1.heap.objs.size (.tup xs),I1.laid (t':=s1.toks) (λb u e=>Heap.get?_push_of_some _ e) (Nat.le_refl _) ?_,rfl,q _ hf⟩
 exact⟨z,us,r,⟨_,Heap.get?_push_size _ rfl,rfl,_,rfl⟩⟩
theorem CF(h:PA X es t):PE X (.List es pos) (CB t):=by
 intro pins s σ H Q I hq
 refine wpAny_List_spliced (AZ (h pos pins s σ H _ I hq) λus s1 ⟨xs,H1,I1,r,z,q⟩=>⟨by rw[<-r.length];exact z,?_⟩)
 have hf:H1 s1.heap.objs.size=none:=I1.hok.fresh (Nat.le_refl _)
 refine⟨.ref s1.heap.objs.size,upd H1 s1.heap.objs.size (.lst xs),I1.laid (t':=s1.toks) (λb u e=>Heap.get?_push_of_some _ e) (Nat.le_refl _) ?_,rfl,q _ hf⟩
 exact⟨z,us,0,r,Heap.get?_push_size _ rfl⟩
end
abbrev Sp:=List V->Hp->VK->XK->Prop
abbrev EH:=List Env->Hp->Shared->XK->Value->Shared->Prop
structure Env0(P:Program)(w:World)(K:W.Frag)(mg:Str->Option Value)(base:Heap)(A:Around)(outer:List Env)(s:Shared)(H:Hp):Prop where
 frames:A.frames=some outer
 mod:Mod K mg base
 bs:∀ b o,base.get? b=some o->s.heap.get? b=some o/\H b=none
 bsz:base.objs.size<=s.heap.objs.size
 funs:s.heap.FunFrames base outer
 frf:∀ b∈DN outer,H b=none
 hok:HOk P w H s.heap
 bare:AllBare s.gens
def CE(outer:List Env)(P:Program)(w:World)(H:Hp)(s:Shared)(Q:VK)(u:Value)(s':Shared):Prop :=
 ∃ v H',s'.os=s.os/\AllBare s'.gens/\Un (DN outer) [] H H' s.heap s'.heap/\HOk P w H' s'.heap/\RelV v u/\Q v H'
def CR(CX:EH)(outer:List Env)(P:Program)(w:World)(H:Hp)(s:Shared)(Q:VK)(E:XK)(r:Result)(s':Shared):Prop :=
 match r with
 | .ok (.ret u)=>CE outer P w H s Q u s'
 | .ok _=>False
 | .error e=>CX outer H s E e s'
structure FnOk(P:Program)(w:World)(K:W.Frag)(mg:Str->Option Value)(base:Heap)(CX:EH)(k:Nat)(f:Addr)(fd:FuncData)(ps:List Str)(sp:Sp):Prop where
 len:∀ vs H Q E,sp vs H Q E->vs.length=ps.length
 run:∀ (A:Around) (outer:List Env) (s:Shared) (H:Hp) (args:Args) (us:List Value) (vs:List V) (Q:VK) (E:XK),Room k A->Env0 P w K mg base A outer s H->BindsTo s fd args (ps.zip us)->Vals vs us->sp vs H Q E →
  codeAny (model P w) A (.call (.ref f) args) (CR CX outer P w H s Q E) s
theorem FnOk.mono{P:Program}{w:World}{K:W.Frag}{mg:Str->Option Value}{base:Heap}{CX:EH}{j k:Nat}{f:Addr}{fd:FuncData}{ps:List Str}{sp:Sp}(F:FnOk P w K mg base CX j f fd ps sp)(h:j<=k) :
  FnOk P w K mg base CX k f fd ps sp:=⟨F.len,λA outer s H args us vs Q E hr=>F.run A outer s H args us vs Q E (hr.mono h)⟩
theorem FnOk.imp{P:Program}{w:World}{K:W.Frag}{mg:Str->Option Value}{base:Heap}{CX:EH}{k:Nat}{f:Addr}{fd:FuncData}{ps:List Str}{sp sp':Sp}(F:FnOk P w K mg base CX k f fd ps sp)
  (h:∀ vs H Q E,sp' vs H Q E->sp vs H Q E):FnOk P w K mg base CX k f fd ps sp' :=
 ⟨λvs H Q E q=>F.len vs H Q E (h _ _ _ _ q),λA outer s H args us vs Q E hr he hb hv hs=>F.run A outer s H args us vs Q E hr he hb hv (h _ _ _ _ hs)⟩
theorem Env0.make{P:Program}{w:World}{K:W.Frag}{mg:Str->Option Value}{base:Heap}{A:Around}{outer:List Env}{s:Shared}{H:Hp}(e:Env0 P w K mg base A outer s H)(C:Addr)(us:List Value)(kw:List (Str × Value)) :
  Env0 P w K mg base (A.under (.builtin "type.__call__" ⟨.ref C::us,kw⟩)) outer s H:=⟨by first | exact e.frames | (simpa [Around.under,Code.envs,Code.isFrame,pushEnvs]using e.frames),e.mod,e.bs,e.bsz,e.funs,e.frf,e.hok,e.bare⟩
theorem Env0.in1{P:Program}{w:World}{K:W.Frag}{mg:Str->Option Value}{base:Heap}{A:Around}{outer:List Env}{s:Shared}{H:Hp}(e:Env0 P w K mg base A outer s H) :
  Env0 P w K mg base A.in1 outer s H:=⟨e.frames,e.mod,e.bs,e.bsz,e.funs,e.frf,e.hok,e.bare⟩
section
variable{X:Cx}{pins:List (Addr × Obj)}{σ:St}{H:Hp}{s s':Shared}
theorem Inv.env0(I:Inv X pins σ H s):Env0 X.prog X.w X.K X.mg X.base X.A X.stack s H :=
 ⟨I.ok.frames,I.ok.mod,I.bs,Nat.le_trans I.ok.bsz I.sz,I.stack,I.stkFree,I.hok,I.bare⟩
theorem Inv.after{Q:VK}{u:Value}(I:Inv X pins σ H s)(h:CE X.stack X.prog X.w H s Q u s'):EP X pins σ Q u s':=by
 obtain⟨v,H',os,bare,un,hok,r,q⟩:=h
 obtain⟨hh,g,d,t,os'⟩:=s'
 obtain rfl:os'=s.os:=os
 exact⟨v,H',I.call (h':=hh) (g':=g) (d':=d) (t':=t) (ch:=[]) un hok bare (λb z=>absurd z (by simp)),r,q⟩
end
def A3(sp:Sp)(dvs:List V)(E:St->XK)(t:TA):TE:=λσ H Q=>t σ H λvs H1=>sp (vs++dvs) H1 Q (E σ)
def CJ(C:Addr)(m:Str)(sp:Sp)(dvs:List V)(E:St->XK)(ta:TE)(t:TA):TE:=λσ H Q=>ta σ H λx H1=>∃ a dx fs,x=.ref a/\H1 a=some (.ins C dx fs)/\fs.lookup m=none ∧
 t σ H1 λvs H2=>sp (x::(vs++dvs)) H2 Q (E σ)
def IJ(C:Addr)(sp:Sp)(dvs:List V)(E:St->XK)(t:TA):TE:=λσ H Q=>t σ H λvs H1=>∀ x dx,H1 x=none->H1 dx=none->dx≠x →
 sp (.ref x::(vs++dvs)) (upd (upd H1 dx (.own x)) x (.ins C dx [])) (λv H2=>v=.non/\Q (.ref x) H2) (E σ)
def Binds(K:W.Frag)(fd:FuncData)(ps:List Str)(ds:List Value):Prop :=
 ∀ (s:Shared) (us:List Value),K.In s.heap->(us++ds).length=ps.length->BindsTo s fd ⟨us,[]⟩ (ps.zip (us++ds))
theorem Binds.all{K:W.Frag}{fd:FuncData}{ps:List Str}(h:∀ us:List Value,us.length=ps.length->bindArgs fd ⟨us,[]⟩=pure (ps.zip us)):Binds K fd ps []:=λs us _ hl=>by
 rw[List.append_nil]at hl ⊢
 exact .of_eq (h us hl)
def FG(CX:EH)(X:Cx)(E:St->XK):Prop:=∀ (pins:List (Addr × Obj)) (σ:St) (H:Hp) (s:Shared) (e:Value) (s':Shared),Inv X pins σ H s->CX X.stack H s (E σ) e s'->X.xe e s'
section
variable{X:Cx}{CX:EH}{k:Nat}{f C:Addr}{fd:FuncData}{ps:List Str}{sp:Sp}{dvs:List V}{ds:List Value}{E:St->XK}{x m:Str}{p pos apos:Pos}{e o:Expr}{es:List Expr}{ta:TE}{t:TA}
theorem QU{pins:List (Addr × Obj)}{σ:St}{H:Hp}{s:Shared}{Q:VK}{us:List Value}{vs:List V}(F:FnOk X.prog X.w X.K X.mg X.base CX k f fd ps sp)(hr:Room k X.A)(hb:Binds X.K fd ps ds)(hd:Vals dvs ds)(hx:FG CX X E)
  (I:Inv X pins σ H s) (r:Vals vs us) (h:sp (vs++dvs) H Q (E σ)):wpAny (model X.prog X.w) X.A (call (.ref f) us) (EP X pins σ Q) X.xe s:=by
 have r2:Vals (vs++dvs) (us++ds):=r.append hd
 have hl:(us++ds).length=ps.length:=by rw[<-r2.length];exact F.len _ _ _ _ h
 refine wpAny_call (codeAny_mono (F.run X.A X.stack s H ⟨us,[]⟩ (us++ds) (vs++dvs) Q (E σ) hr I.env0 (hb s us I.kIn hl) r2 h) λr s' hq=> ?_)
 cases r with
 | error e=>exact hx pins σ H s e s' I hq
 | ok fl =>
  cases fl with
  | ret u=>exact I.after hq
  | next=>exact False.elim hq
  | brk=>exact False.elim hq
  | cont=>exact False.elim hq
theorem lN(F:FnOk X.prog X.w X.K X.mg X.base CX k f fd ps sp)(hr:Room k X.A)(hg:Gl X x)(hm:X.mg x=some (.ref f))(hk:W.keepIn X.K (.ref f)=true)(hb:Binds X.K fd ps ds)(hd:Vals dvs ds)(hx:FG CX X E)
  (ha:PA X (e::es) t) (hdb:(x ==("__debug__":Str))=false:=by decide) (he:starEach (e::es) X.env=(false,eval e X.env)::starEach es X.env:=by rfl) (hpl:(backTo pos (starEach es X.env)).any (·.1)=false:=by rfl) :
  PE X (.Call (.Name x p) (e::es) [] pos) (A3 sp dvs E t):=by
 intro pins s σ H Q I h
 refine wpAny_Call_Name_kw (QE I hg hm ?_ hdb)
 refine W.callWith_K (h₀:=X.base) I.ok.mod.kin hk (AZ (ha pos pins s σ H _ I h) λus s1 ⟨vs,H1,I1,r,q⟩=>⟨I1.kIn,?_⟩) he hpl
 exact QU F hr hb hd hx I1 r q
theorem lO{pl:Sem Bool}(he:PE X o ta)(c:Cls X.K C)(hm:OX X.K C m f)(F:FnOk X.prog X.w X.K X.mg X.base CX k f fd ps sp)(hr:Room k X.A)(hb:Binds X.K fd ps ds)(hd:Vals dvs ds)(hx:FG CX X E)(ha:PA X (e::es) t)
  (hst:starEach (e::es) X.env=(false,eval e X.env)::starEach es X.env:=by rfl) (hpl:(backTo pos (starEach es X.env)).any (·.1)=false:=by rfl)
  (ht:eval (.Call (.Attribute o m apos) (e::es) [] pos) X.env=(do
   let ov ← eval o X.env
   standAt apos.atName
   let (f,first) ← holding [ov] (getMethod ov m pl)
   callWith pos f first (backTo pos (starEach (e::es) X.env)) (backToKw pos (keywordEach [] X.env))):=by rfl) :
  PE X (.Call (.Attribute o m apos) (e::es) [] pos) (CJ C m sp dvs E ta t):=by
 intro pins s σ H Q I h
 refine W.methodCall_KW (pl:=pl) (AZ (he pins s σ H _ I h) λu s1 ⟨x,H1,I1,rx,a,dx,fs,ex,ea,l,q⟩=> ?_) ht
 subst ex
 obtain rfl:u=Value.ref a:=rx
 refine VR I1 ea c hm l ?_
 refine W.callWith_K (first:=[.ref a]) (h₀:=X.base) I.ok.mod.kin hm.kp (AZ (ha pos pins s1 σ H1 _ I1 q) λus s2 ⟨vs,H2,I2,r,q2⟩=>⟨I2.kIn,?_⟩) hst hpl
 exact QU (us:=.ref a::us) (vs:=.ref a::vs) F hr hb hd hx I2 (.cons rfl r) q2
theorem lP{pl:Sem Bool}(he:PE X o ta)(c:Cls X.K C)(hm:OX X.K C m f)(F:FnOk X.prog X.w X.K X.mg X.base CX k f fd ps sp)(hr:Room k X.A)(hb:Binds X.K fd ps ds)(hd:Vals dvs ds)(hx:FG CX X E)
  (ht:eval (.Call (.Attribute o m apos) [] [] pos) X.env=(do
   let ov ← eval o X.env
   standAt apos.atName
   let (f,first) ← holding [ov] (getMethod ov m pl)
   callWith pos f first (backTo pos (starEach [] X.env)) (backToKw pos (keywordEach [] X.env))):=by rfl) :
  PE X (.Call (.Attribute o m apos) [] [] pos) (CJ C m sp dvs E ta AI):=by
 intro pins s σ H Q I h
 refine W.methodCall_KW (pl:=pl) (AZ (he pins s σ H _ I h) λu s1 ⟨x,H1,I1,rx,a,dx,fs,ex,ea,l,q⟩=> ?_) ht
 subst ex
 obtain rfl:u=Value.ref a:=rx
 refine VR I1 ea c hm l ?_
 exact W.callWith_K0 (first:=[.ref a]) I1.kIn hm.kp (QU (us:=[.ref a]) (vs:=[.ref a]) F hr hb hd hx I1 (.cons rfl .nil) q)
structure Mk(K:W.Frag)(C f:Addr):Prop where
 makes:W.makesIn K C=true
 init:W.findIn K (.ref C) "__init__"=some (some (.ref f))
 fn:W.isFn K (.ref f)=true
 kp:W.keepIn K (.ref C)=true
theorem lQ{pins:List (Addr × Obj)}{σ:St}{H:Hp}{s:Shared}{Q:VK}{us:List Value}{vs:List V}(M:Mk X.K C f)(F:FnOk X.prog X.w X.K X.mg X.base CX k f fd ps sp)(hr:Room (k+1) X.A)(hb:Binds X.K fd ps ds)(hd:Vals dvs ds)
  (hx:FG CX X E) (I:Inv X pins σ H s) (r:Vals vs us)
  (h:∀ x dx,H x=none->H dx=none->dx≠x->sp (.ref x::(vs++dvs)) (upd (upd H dx (.own x)) x (.ins C dx [])) (λv H2=>v=.non/\Q (.ref x) H2) (E σ)) :
  wpAny (model X.prog X.w) X.A (call (.ref C) us) (EP X pins σ Q) X.xe s:=by
 have hq:=h (s.heap.objs.size+1) s.heap.objs.size (I.hok.fresh (Nat.le_succ _)) (I.hok.fresh (Nat.le_refl _)) (Nat.ne_of_lt (Nat.lt_succ_self _))
 have I2:=Inv.made (C:=C) I
 have r2:Vals (V.ref (s.heap.objs.size+1)::(vs++dvs)) (Value.ref (s.heap.objs.size+1)::(us++ds)):=.cons rfl (r.append hd)
 have hl:(Value.ref (s.heap.objs.size+1)::us++ds).length=ps.length:=by
  have e:=r2.length
  rw[F.len _ _ _ _ hq]at e
  exact e.symm
 refine wpAny_call (lH (f:=f) I.kIn M.makes M.init (beq_iff_eq.mp M.fn) (codeAny_mono (F.run _ X.stack _ _ ⟨Value.ref (s.heap.objs.size+1)::us,[]⟩ (Value.ref (s.heap.objs.size+1)::(us++ds)) _ _ (E σ) (hr.make C us [])
  (I2.env0.make C us []) (hb _ (Value.ref (s.heap.objs.size+1)::us) I2.kIn hl) r2 hq) λr s' hq'=> ?_))
 cases r with
 | error e=>exact hx pins σ _ _ e s' I2 hq'
 | ok fl =>
  cases fl with
  | ret u =>
   obtain⟨v,H',I3,rv,ev,q3⟩:=I2.after hq'
   subst ev
   exact⟨rv,⟨V.ref (s.heap.objs.size+1),H',I3,rfl,q3⟩⟩
  | next=>exact False.elim hq'
  | brk=>exact False.elim hq'
  | cont=>exact False.elim hq'
theorem lR(M:Mk X.K C f)(F:FnOk X.prog X.w X.K X.mg X.base CX k f fd ps sp)(hr:Room (k+1) X.A)(hg:Gl X x)(hm:X.mg x=some (.ref C))(hb:Binds X.K fd ps ds)(hd:Vals dvs ds)(hx:FG CX X E)
  (ha:PA X (e::es) t) (hdb:(x ==("__debug__":Str))=false:=by decide) (he:starEach (e::es) X.env=(false,eval e X.env)::starEach es X.env:=by rfl) (hpl:(backTo pos (starEach es X.env)).any (·.1)=false:=by rfl) :
  PE X (.Call (.Name x p) (e::es) [] pos) (IJ C sp dvs E t):=by
 intro pins s σ H Q I h
 refine wpAny_Call_Name_kw (QE I hg hm ?_ hdb)
 refine W.callWith_K (h₀:=X.base) I.ok.mod.kin M.kp (AZ (ha pos pins s σ H _ I h) λus s1 ⟨vs,H1,I1,r,q⟩=>⟨I1.kIn,?_⟩) he hpl
 exact lQ M F hr hb hd hx I1 r q
end
section
variable{X:Cx}{CX:EH}{k:Nat}{f C:Addr}{fd:FuncData}{ps ks:List Str}{sp:Sp}{E:St->XK}{x m:Str}{p pos apos kpos:Pos}{e o:Expr}{es:List Expr}{kws:List Keyword}{te ta:TE}{t tk:TA}{nm:Option Str}
structure zba(K:W.Frag)(fd:FuncData)(ps ks:List Str)(g:List Value->List Value->List Value)(gV:List V->List V->List V):Prop where
 to:∀ (s:Shared) (us ws:List Value),K.In s.heap->(g us ws).length=ps.length->BindsTo s fd ⟨us,ks.zip ws⟩ (ps.zip (g us ws))
 rel:∀ {vs:List V} {us:List Value} {zs:List V} {ws:List Value},Vals vs us->Vals zs ws->Vals (gV vs zs) (g us ws)
variable{g:List Value->List Value->List Value}{gV:List V->List V->List V}
end
structure FnScope(N P:List Str)(sc:Scope):Prop where
 kind:sc.kind=.function
 co:sc.isCoroutine=false
 gen:sc.isGenerator=false
 nd:N.Nodup
 pre:N.take P.length=P
 par:∀ x∈P,sc.names.lookup x=some .local\/sc.names.lookup x=some .cell
 nofree:∀ y∈sc.names,y.2≠.free
theorem VU{kindOf:Str->Option NameKind}{x:Str}:∀ {binds:List (Str × Value)} {m:Str->Option Value},(∀ v,(x,v)∉binds)->bindL kindOf binds m x=m x
 | [],_,_=>rfl
 | (n,v)::r,m,h=>by
  unfold bindL
  rw[VU λw hw=>h w (List.mem_cons_of_mem _ hw)]
  split
  ·have:x≠n:=by rintro rfl;exact h v List.mem_cons_self
   simp[this]
  ·rfl
theorem VV{kindOf:Str->Option NameKind}{x:Str}:∀ {binds:List (Str × Value)} {m:Str->Option Value},(∀ v,(x,v)∉binds)->bindC kindOf binds m x=m x
 | [],_,_=>rfl
 | (n,v)::r,m,h=>by
  unfold bindC
  rw[VV λw hw=>h w (List.mem_cons_of_mem _ hw)]
  split
  ·rfl
  ·have:x≠n:=by rintro rfl;exact h v List.mem_cons_self
   simp[this]
theorem VW{kindOf:Str->Option NameKind}{x:Str}{v:Value}:∀ {P:List Str} {vs:List Value} {i:Nat} {m:Str->Option Value},P.Nodup->P[i]? =some x->vs[i]? =some v->kindOf x=some .local →
  bindL kindOf (P.zip vs) m x=some v
 | [],_,_,_,_,h,_,_=>by simp at h
 | _::_,[],_,_,_,_,h,_=>by simp at h
 | p::P,w::vs,0,m,nd,h1,h2,hk=>by
  simp at h1 h2;subst h1;subst h2
  show bindL kindOf ((p,w)::P.zip vs) m p=_
  unfold bindL
  rw[VU λv hv=>(List.nodup_cons.mp nd).1 (List.of_mem_zip hv).1,if_pos hk]
  simp
 | p::P,w::vs,i+1,m,nd,h1,h2,hk=>by
  show bindL kindOf ((p,w)::P.zip vs) m x=_
  unfold bindL
  exact VW (i:=i) (List.nodup_cons.mp nd).2 (by simpa using h1) (by simpa using h2) hk
theorem VX{kindOf:Str->Option NameKind}{x:Str}{v:Value}:∀ {P:List Str} {vs:List Value} {i:Nat} {m:Str->Option Value},P.Nodup->P[i]? =some x->vs[i]? =some v->kindOf x≠some .local →
  bindC kindOf (P.zip vs) m x=some v
 | [],_,_,_,_,h,_,_=>by simp at h
 | _::_,[],_,_,_,_,h,_=>by simp at h
 | p::P,w::vs,0,m,nd,h1,h2,hk=>by
  simp at h1 h2;subst h1;subst h2
  show bindC kindOf ((p,w)::P.zip vs) m p=_
  unfold bindC
  rw[VV λv hv=>(List.nodup_cons.mp nd).1 (List.of_mem_zip hv).1,if_neg hk]
  simp
 | p::P,w::vs,i+1,m,nd,h1,h2,hk=>by
  show bindC kindOf ((p,w)::P.zip vs) m x=_
  unfold bindC
  exact VX (i:=i) (List.nodup_cons.mp nd).2 (by simpa using h1) (by simpa using h2) hk
def A6(N:List Str)(vs:List V):St:=vs.map some++List.replicate (N.length - vs.length) none
def GD(CX:EH)(P:Program)(w:World)(K:W.Frag)(mg:Str->Option Value)(base:Heap)(N:List Str)(qual:Str)(scope:Scope)(f:Addr)(cd:Value)(A:Around)(outer:List Env)(s:Shared)(H:Hp)(E:XK):Cx where
 prog:=P
 w:=w
 K:=K
 mg:=mg
 base:=base
 A:=A.deeper (envOfC qual scope s.heap.objs.size f cd)
 N:=N
 s₀:=s
 H₀:=H
 env:=envOfC qual scope s.heap.objs.size f cd
 outer:=outer
 stack:=envOfC qual scope s.heap.objs.size f cd::outer
 ex:=[]
 calm:=true
 fn:=λ_=>true
 pn:=[]
 xe:=λe s'=>wpAny (model P w) (A.deeper (envOfC qual scope s.heap.objs.size f cd)) (leaving (envOfC qual scope s.heap.objs.size f cd) e) (λ_ s''=>CX outer H s E e s'') (λe' s''=>CX outer H s E e' s'') s'
theorem VY{sc:Scope}{n:Nat}{x:Str}(h:sc.names.lookup x=some .cell):∃ c,(cellsFrom n sc.names []).lookup x=some c:=by
 have q:=W.cellsFrom_some sc.names n [] (.inl h)
 exact Option.isSome_iff_exists.mp q
theorem lS{CX:EH}{P:Program}{w:World}{K:W.Frag}{mg:Str->Option Value}{base:Heap}{N ps:List Str}{qual:Str}{scope:Scope}{f:Addr}{cd:Value}{A:Around}{outer:List Env}{s s1:Shared}{H:Hp}{E:XK}{us:List Value}{vs:List V}
  (S:FnScope N ps scope) (hd:A.handled=none) (e0:Env0 P w K mg base A outer s H) (hl:vs.length=ps.length) (r:Vals vs us)
  (x:InCallC s s.heap.objs.size (bindL (envOfC qual scope s.heap.objs.size f cd).kindOf (ps.zip us) λ_=>none) (cellsFrom (s.heap.objs.size+1) scope.names []) (bindC (envOfC qual scope s.heap.objs.size f cd).kindOf (ps.zip us) λ_=>none) s1) :
  Inv (GD CX P w K mg base N qual scope f cd A outer s H E) [] (A6 N vs) H s1:=by
 have hpl:ps.length<=N.length:=by have:=congrArg List.length S.pre;rw[List.length_take]at this;omega
 obtain⟨h1,tk,rfl,hk⟩:=x.done
 have noA:∀ b:Addr,b∉(GD CX P w K mg base N qual scope f cd A outer s H E).ex:=λb z=>absurd (show b∈([]:List Addr)from z) (by simp)
 refine⟨⟨e0.mod,S.kind,rfl,rfl,Nat.le_refl _,λy z c h1 h2=> ?_,λy hy=> ?_,λy c _ h=> ?_,λ_=>hd,Around.frames_deeper e0.frames,.inr ⟨rfl,rfl⟩,λb z=>absurd z (noA b),e0.bs,e0.bsz,λb _ _=>noA b,λb z=>absurd z (noA b),e0.funs,e0.frf⟩,
  rfl,e0.bare,Un.kept hk,⟨_,x.toInCall.ns,λi y v h1 h2 h3=> ?_⟩,λy c h=>⟨_,x.cell y c h⟩,e0.hok.fresh (Nat.le_refl _),λy c h=> ?_,λp hp=>absurd (show p∈([]:List (Addr × Obj))from hp) (by simp),e0.hok.kept hk,?_⟩
 ·exact name_of_addr x.apart (PySem.mem_of_lookup h1) (PySem.mem_of_lookup h2)
 ·have hy:scope.names.lookup y=some .cell\/scope.names.lookup y=some .free:=hy
  rcases hy with hy | hy
  ·exact VY hy
  ·exact absurd rfl (S.nofree _ (PySem.mem_of_lookup hy))
 ·exact Nat.le_of_lt (x.above y c (PySem.mem_of_lookup h))
 ·have hi:i<vs.length:=by
   unfold A6 at h2
   by_cases hi:i<vs.length
   ·exact hi
   ·rw[List.getElem?_append_right (by simpa using hi)]at h2
    rw[List.getElem?_replicate]at h2
    split at h2<;>cases h2
  have ha:vs[i]? =some v:=by
   unfold A6 at h2
   rw[List.getElem?_append_left (by simpa using hi),List.getElem?_map]at h2
   cases e:vs[i]? with
   | none=>rw[e]at h2;cases h2
   | some a=>rw[e]at h2;cases h2;rfl
  obtain⟨u,hu,rv⟩:=r.get ha
  have hp:ps[i]? =some y:=by
   rw[<-S.pre,List.getElem?_take_of_lt (by omega)];exact h1
  have ndP:ps.Nodup:=by rw[<-S.pre];exact S.nd.sublist (List.take_sublist _ _)
  refine⟨u,rv,?_⟩
  rcases S.par y (List.mem_of_getElem? hp)with k | k
  ·exact .inl ⟨k,VW ndP hp hu k⟩
  ·obtain⟨c,e⟩:=VY (n:=s.heap.objs.size+1) k
   refine .inr ⟨.inl k,c,e,?_⟩
   have q:=x.cell y c e
   rw[VX ndP hp hu (by show scope.names.lookup y≠_;rw[k];decide)]at q
   exact q
 ·exact e0.hok.fresh (Nat.le_of_lt (x.above y c (PySem.mem_of_lookup h)))
 ·unfold A6
  show _=N.length
  rw[List.length_append,List.length_map,List.length_replicate]
  omega
theorem VZ{CX:EH}{P:Program}{w:World}{K:W.Frag}{mg:Str->Option Value}{base:Heap}{k:Nat}{f:Addr}{name qual:Str}{params:Arguments}{body:List Stmt}{scope:Scope}{dV kV doc pm cdv ct oc:Value}{an od:Option Addr}
  {osl:Array (Option Value)} {N ps:List Str} {sp:Sp} (lk:K.lookup f=some ⟨oc,od,.func (W.fnOf name qual params body scope dV kV doc pm an cdv ct),osl⟩) (hcd:W.codeIn K cdv qual=true) (S:FnScope N ps scope)
  (len:∀ vs H Q E,sp vs H Q E->vs.length=ps.length)
  (hbody:∀ (A:Around) (outer:List Env) (s:Shared) (H:Hp) (vs:List V) (Q:VK) (E:XK),Room k (A.deeper (envOfC qual scope s.heap.objs.size f cdv))->sp vs H Q E →
   ∃ t,PSs (GD CX P w K mg base N qual scope f cdv A outer s H E) body t/\t { nx:=λ_ H'=>Q .non H',rt:=Q } (A6 N vs) H) :
  FnOk P w K mg base CX (k+1) f (W.fnOf name qual params body scope dV kV doc pm an cdv ct) ps sp:=by
 refine⟨len,λA outer s H args us vs Q E hr e0 hb r hsp=> ?_⟩
 have hl:=len _ _ _ _ hsp
 have KX:K.In s.heap:=e0.mod.kin.keeps λb o e=>(e0.bs b o e).1
 have lim:s.heap.NoLimit:=e0.mod.nolimit.keeps λb o e=>(e0.bs b o e).1
 have hkind:∀ y∈ps.zip us,scope.names.lookup y.1=some .local\/(scope.names.lookup y.1=some .cell/\((cellsFrom (s.heap.objs.size+1) scope.names []).lookup y.1).isSome=true):=λ⟨n,v⟩ hy=>by
  rcases S.par n (List.of_mem_zip hy).1 with q | q
  ·exact .inl q
  ·exact .inr ⟨q,W.cellsFrom_some _ _ _ (.inl q)⟩
 refine codeAny_call_function hr.depth (KX _ _ lk) rfl S.co S.gen rfl (W.codeRec_of KX hcd) (hb _ _ _ _ ?_)
 refine wpAny_newFunctionEnv_cells S.kind hkind λenv he s1 x=> ?_
 subst he
 refine⟨lim.keeps x.toInCall.keep,codeAny_func ?_⟩
 obtain⟨t,ht,hq⟩:=hbody A outer s H vs Q E (hr.deeper _) hsp
 have I:Inv (GD CX P w K mg base N qual scope f cdv A outer s H E) [] (A6 N vs) H s1:=lS S hr.hd e0 hl r x
 refine wpAny_mono (ht [] s1 (A6 N vs) H _ I hq) (λfl s' hs=> ?_) λe s' hs=>hs
 have fin:∀ {σ':St} {H':Hp} {v:V} {u:Value},Inv (GD CX P w K mg base N qual scope f cdv A outer s H E) [] σ' H' s'->RelV v u->Q v H'->CE outer P w H s Q u s' :=
  λ{σ' H' v u} J rv q=>⟨v,H',J.os,J.bare,J.base,J.hok,rv,q⟩
 cases fl with
 | ret u =>
  obtain⟨v,σ',H',J,rv,q⟩:=hs
  exact fin J rv q
 | next =>
  obtain⟨σ',H',J,q⟩:=hs
  exact fin (v:=V.non) (u:=Value.none) J rfl q
 | brk =>
  obtain⟨_,_,_,q⟩:=hs
  exact False.elim q
 | cont =>
  obtain⟨_,_,_,q⟩:=hs
  exact False.elim q
end L2
namespace L2
section
variable{X:Cx}{x:Str}{p pos:Pos}{e:Expr}{es:List Expr}{t:TA}{id T:String}{r:List V->Hp->VK->Prop}
def BQ(r:List V->Hp->VK->Prop)(t:TA):TE:=λσ H Q=>t σ H λvs H1=>r vs H1 Q
theorem B9(hc:CallR X (.builtin id) r)(hg:Gl X x)(hm:X.mg x=none)(hv:bootBuiltins x=some (.builtin id))(ha:PA X (e::es) t)(hn:x≠"__name__":=by decide)(hdb:(x ==("__debug__":Str))=false:=by decide)
  (he:starEach (e::es) X.env=(false,eval e X.env)::starEach es X.env:=by rfl) (hpl:(backTo pos (starEach es X.env)).any (·.1)=false:=by rfl):PE X (.Call (.Name x p) (e::es) [] pos) (BQ r t):=by
 intro pins s σ H Q I h
 refine wpAny_Call_Name_kw (KD I hg hm hv ?_ hn hdb)
 exact PyProof.Rows.callWith_builtin1 (AZ (ha pos pins s σ H _ I h) λus s1 ⟨vs,H1,I1,r1,q1⟩=>hc pins s1 σ H1 vs us Q I1 r1 q1) he hpl
theorem GZ(hc:CallR X (.type T) r)(hg:Gl X x)(hm:X.mg x=none)(hv:bootBuiltins x=some (.type T))(ha:PA X (e::es) t)(hn:x≠"__name__":=by decide)(hdb:(x ==("__debug__":Str))=false:=by decide)
  (he:starEach (e::es) X.env=(false,eval e X.env)::starEach es X.env:=by rfl) (hpl:(backTo pos (starEach es X.env)).any (·.1)=false:=by rfl):PE X (.Call (.Name x p) (e::es) [] pos) (BQ r t):=by
 intro pins s σ H Q I h
 refine wpAny_Call_Name_kw (KD I hg hm hv ?_ hn hdb)
 exact PyProof.Rows.callWith_type1 (AZ (ha pos pins s σ H _ I h) λus s1 ⟨vs,H1,I1,r1,q1⟩=>hc pins s1 σ H1 vs us Q I1 r1 q1) he hpl
end
end L2
namespace HT
open PySem PyProof.Rows
section
open PySem.SeqAt
open PySem.AutoSeq1 (wpAny_loadPart')
open PySem.MeetsSeq PySem.MeetsSeq2 PySem.MeetsSeq3
end
section
variable{prog:Program}{w:World}{A:Around}{E:Value->Shared->Prop}{s:Shared}
theorem cat_tup{t b:Addr}{vs ws:List Value}{Q:Value->Shared->Prop}(ht:IsTup s.heap t vs.toArray)(hb:IsTup s.heap b ws.toArray)(hv:vs≠[])
  (h1:ws=[]->Q (.ref t) s) (h2:ws≠[]->Q (.ref s.heap.objs.size) { s with heap:=s.heap.push { cls:=.type "tuple",data:=.seq (vs++ws).toArray } })
  (hsz:vs.length+ws.length<=sizeLine):wpAny (model prog w) A (binaryOp .Add (.ref t) (.ref b)) Q E s:=by
 obtain⟨⟨cls,dd,data,sl⟩,ho,hc,n,hd⟩:=id ht
 obtain⟨⟨cls2,dd2,data2,sl2⟩,ho2,hc2,n2,hd2⟩:=id hb
 simp only at hc hd hc2 hd2
 subst hc hd hc2 hd2
 have e:vs.toArray++ws.toArray=(vs++ws).toArray:=by simp
 by_cases hw:ws=[]
 ·exact concat_meets ⟨_,ho,rfl⟩ ⟨_,ho2,rfl⟩ noFill_tuple_add seq_tuple_add PySem.F.slot_tuple_add PySem.F.entry_tuple_add (PySem.F.args_tuple_add_2 _ _)
   (tuple_addW1 t b vs.toArray ws.toArray n n2 dd dd2 sl sl2 (by simpa using hv) (by simp[hw])) ⟨ho,ho2,h1 hw⟩
 ·refine concat_meets ⟨_,ho,rfl⟩ ⟨_,ho2,rfl⟩ noFill_tuple_add seq_tuple_add PySem.F.slot_tuple_add PySem.F.entry_tuple_add (PySem.F.args_tuple_add_2 _ _)
   (tuple_addW2 t b vs.toArray ws.toArray n n2 dd dd2 sl sl2 (by simpa using hv) (by simpa using hw) (by rw[List.size_toArray,List.size_toArray];exact hsz)) ⟨ho,ho2,?_⟩
  rw[e]
  exact h2 hw
def sIx(n d:Nat):Option Int->Nat
 | none=>d
 | some v=>if v<0 then(v+(n:Int)).toNat else min v.toNat n
theorem sIx_nat(n d k:Nat):sIx n d (some (k:Int))=min k n:=by
 show(if(k:Int)<0 then((k:Int)+(n:Int)).toNat else min (k:Int).toNat n)=min k n
 rw[if_neg (by omega),Int.toNat_natCast]
theorem lT(n d:Nat)(hd:d<=n)(o:Option Int):sIx n d o<=n:=by
 cases o with
 | none=>exact hd
 | some v =>
  show(if v<0 then(v+(n:Int)).toNat else min v.toNat n)<=n
  by_cases hv:v<0
  ·rw[if_pos hv];omega
  ·rw[if_neg hv];exact Nat.min_le_right _ _
theorem V0(v:Int)(n d:Nat):(if v<0 then max (v+(n:Int)) 0 else min v (n:Int))=((sIx n d (some v):Nat):Int):=by
 show(if v<0 then max (v+(n:Int)) 0 else min v (n:Int))=(((if v<0 then(v+(n:Int)).toNat else min v.toNat n):Nat):Int)
 by_cases hv:v<0
 ·simp only[if_pos hv];omega
 ·simp only[if_neg hv];omega
theorem lU(lo hi:Option Int)(n:Nat):Builtin.Slice.sliceAdjust lo hi 1 (n:Int)=(((sIx n 0 lo:Nat):Int),((sIx n n hi:Nat):Int)):=by
 have h1:¬ ((1:Int)<0):=by omega
 unfold Builtin.Slice.sliceAdjust
 simp only[h1,if_false]
 refine Prod.ext ?_ ?_
 ·cases lo with
  | none=>rfl
  | some v=>exact V0 v n 0
 ·cases hi with
  | none=>rfl
  | some v=>exact V0 v n n
theorem lV(i j:Nat):Builtin.Slice.slicePlaces (i:Int) (j:Int) 1=j - i:=by
 unfold Builtin.Slice.slicePlaces
 have h1:(1:Int) > 0:=by omega
 simp only[h1,if_true,Int.ediv_one]
 split<;>omega
theorem WA{v:Value}{o:Option Int}{Q:Option Int->Shared->Prop}(p:IsPart v o)(h:Q o s):wpAny (model prog w) A (Builtin.Slice.slicePartIndex v) Q E s:=by
 cases p with
 | none=>exact slicePart_none h
 | int i t=>exact slicePart_int h
theorem lW{sl:Addr}{vl vu:Value}{lo hi:Option Int}{n:Nat}{Q:Int × Int × Nat->Shared->Prop}(hs:s.heap.IsSliceOf sl vl vu .none)(pl:IsPart vl lo)(pu:IsPart vu hi)
  (h:Q (((sIx n 0 lo:Nat):Int),1,sIx n n hi - sIx n 0 lo) s):wpAny (model prog w) A (Builtin.Slice.sliceApplied (.ref sl) (pure (n:Int))) Q E s:=by
 obtain⟨os,hos,hcs,hds⟩:=id hs
 unfold Builtin.Slice.sliceApplied Builtin.Slice.sliceFields
 refine wpAny_bind (wpAny_bind (wpAny_field hos hds (x:=vl) rfl (wpAny_bind (wpAny_field hos hds (x:=vu) rfl (wpAny_bind (wpAny_field hos hds (x:=.none) rfl (wpAny_pure ?_)))))))
 refine wpAny_bind (slicePart_none ?_)
 show wpAny _ _ (if((1:Int) == 0)=true then _ else _) _ _ s
 rw[if_neg (by decide)]
 refine wpAny_bind (WA pl (wpAny_bind (WA pu (wpAny_bind (wpAny_pure ?_)))))
 show wpAny _ _ (match Builtin.Slice.sliceAdjust lo hi 1 (n:Int)with | (lo,hi)=>pure (lo,(1:Int),Builtin.Slice.slicePlaces lo hi 1)) _ _ s
 rw[lU lo hi n]
 show wpAny _ _ (pure (((sIx n 0 lo:Nat):Int),(1:Int),Builtin.Slice.slicePlaces ((sIx n 0 lo:Nat):Int) ((sIx n n hi:Nat):Int) 1)) _ _ s
 rw[lV]
 exact wpAny_pure h
theorem lX(xs:Array Value)(i k:Nat):((List.range k).filterMap λ(m:Nat)=>xs[((i:Int)+(m:Int) * 1).toNat]?).toArray=((xs.toList.drop i).take k).toArray:=by
 have e:(λ(m:Nat)=>xs[((i:Int)+(m:Int) * 1).toNat]?)=λm=>xs[i+m]? :=by
  funext m
  have:((i:Int)+(m:Int) * 1).toNat=i+m:=by omega
  rw[this]
 rw[e]
 have:=pick_run xs i k
 rw[List.filterMap_map]at this
 have e2:((λx=>xs[x]?) ∘ λx=>i+x)=λm=>xs[i+m]? :=rfl
 rw[e2]at this
 rw[this]
theorem getItem_tuple_cut{t sl:Addr}{items:Array Value}{vl vu:Value}{lo hi:Option Int}{Q:Value->Shared->Prop}(ht:IsTup s.heap t items)(hs:s.heap.IsSliceOf sl vl vu .none)(pl:IsPart vl lo)(pu:IsPart vu hi)
  (hw:¬ (sIx items.size 0 lo=0/\sIx items.size items.size hi=items.size))
  (h:Q (.ref s.heap.objs.size) { s with heap:=s.heap.push { cls:=.type "tuple",data:=.seq ((items.toList.drop (sIx items.size 0 lo)).take (sIx items.size items.size hi - sIx items.size 0 lo)).toArray } })
  (hsz:items.size<=sizeLine):wpAny (model prog w) A (getItem (.ref t) (.ref sl)) Q E s:=by
 have htake:sizeOk (.seq ((items.toList.drop (sIx items.size 0 lo)).take (sIx items.size items.size hi - sIx items.size 0 lo)).toArray):=by
  show((items.toList.drop (sIx items.size 0 lo)).take (sIx items.size items.size hi - sIx items.size 0 lo)).toArray.size<=sizeLine
  rw[List.size_toArray,List.length_take,List.length_drop,Array.length_toList]
  omega
 have hj:sIx items.size items.size hi<=items.size:=lT _ _ (Nat.le_refl _) hi
 obtain⟨os,hos,hcs,hds⟩:=id hs
 have hTs:s.TypeIs (.ref sl) "slice":=⟨os,hos,hcs⟩
 unfold getItem
 try with_reducible refine wpAny_holding ?_
 first | refine wpAny_bind (wpAny_pure ?_) | skip
 refine wpAny_bind (wpAny_sequenceKey ht.typeIs (by decide) ?_)
 refine wpAny_bind (wpAny_callSpecial?_slot (name:=Str.ofString "__getitem__") ht.typeIs PyProof.Rows.slot_tuple_getitem
  (wpAny_call_entry PyProof.Rows.slot_tuple_getitem ht.typeIs entry_tuple_getitem ?_ (args_tuple_getitem _ _)))
 show wpAny _ _ (Builtin.Tuple.tupleItemsOf (.ref t) >>= _) _ _ s
 refine wpAny_bind (tupleItemsOf_ ht ?_)
 refine wpAny_bind (wpAny_typeOf hTs ?_)
 rw[if_pos (by decide)]
 refine wpAny_bind (lW hs pl pu ?_)
 have hno:¬ ((((sIx items.size 0 lo:Nat):Int) == 0 && (1:Int) == 1 && (sIx items.size items.size hi - sIx items.size 0 lo) == items.size)=true):=by
  intro q
  rw[Bool.and_eq_true,Bool.and_eq_true]at q
  have q1:((sIx items.size 0 lo:Nat):Int)=0:=eq_of_beq q.1.1
  have q2:sIx items.size items.size hi - sIx items.size 0 lo=items.size:=eq_of_beq q.2
  exact hw ⟨by omega,by omega⟩
 show wpAny _ _ (if(((sIx items.size 0 lo:Nat):Int) == 0 && (1:Int) == 1 && (sIx items.size items.size hi - sIx items.size 0 lo) == items.size)=true then _ else _) _ _ s
 rw[if_neg hno,lX]
 first
  | exact wpAny_bind (m:=Builtin.Tuple.tupleExact _) (wpAny_newObj_type (wpAny_pure ⟨_,rfl,wpAny_pure h⟩) htake)
  | exact wpAny_bind (m:=Builtin.Tuple.tupleExact _) (wpAny_newObj_type (wpAny_bind (wpAny_pure (wpAny_pure ⟨_,rfl,wpAny_pure h⟩))) htake)
  | exact wpAny_bind (wpAny_bind (m:=Builtin.Tuple.tupleExact _) (wpAny_newObj_type (wpAny_pure (wpAny_pure ⟨_,rfl,wpAny_pure h⟩)) htake))
  | exact wpAny_bind (wpAny_bind (m:=Builtin.Tuple.tupleExact _) (wpAny_newObj_type (wpAny_pure ⟨_,rfl,wpAny_pure h⟩) htake))
end
end HT
namespace L2
abbrev TO:=St->Hp->(Option Int->Hp->Prop)->Prop
def PO(X:Cx)(e:Option Expr)(t:TO):Prop :=
 ∀ (pins:List (Addr × Obj)) (s:Shared) (σ:St) (H:Hp) (Q:Option Int->Hp->Prop),Inv X pins σ H s->t σ H Q →
  wpAny (model X.prog X.w) X.A (evalPart e X.env) (λu s'=>∃ o H',Inv X pins σ H' s'/\IsPart u o/\Q o H') X.xe s
def OY:TO:=λ_ H Q=>Q none H
def HM(t:TE):TO:=λσ H Q=>t σ H λx H1=>∃ i,x=.int i/\Q (some i) H1
section
variable{X:Cx}{e:Expr}{te:TE}{lo hi:Option Expr}{tl th:TO}{pos p2:Pos}
theorem WB:PO X none OY:=by
 intro pins s σ H Q I h
 rw[evalPart_none]
 exact wpAny_pure ⟨none,H,I,.none,h⟩
theorem KH(h:PE X e te):PO X (some e) (HM te):=by
 intro pins s σ H Q I hw
 rw[evalPart_some]
 refine AZ (h pins s σ H _ I hw) λu s1 ⟨x,H1,I1,r1,q1⟩=> ?_
 obtain⟨i,rfl,q⟩:=q1
 obtain⟨t,rfl⟩:=r1
 exact⟨some i,H1,I1,.int i t,q⟩
def SlR(X:Cx)(r:V->Option Int->Option Int->Hp->VK->Prop):Prop :=
 ∀ (pins:List (Addr × Obj)) (s:Shared) (σ:St) (H:Hp) (x:V) (v vl vu:Value) (lo hi:Option Int) (sl:Addr) (Q:VK),Inv X pins σ H s->RelV x v->s.heap.IsSliceOf sl vl vu .none->IsPart vl lo->IsPart vu hi->r x lo hi H Q →
  ∃ T id,typeLookup (.type T) "__getitem__"=pure (some (.builtin id))/\s.TypeIs v T/\wpAny (model X.prog X.w) X.A (getItem v (.ref sl)) (EP X pins σ Q) X.xe s
theorem SlR.or{r r':V->Option Int->Option Int->Hp->VK->Prop}(h:SlR X r)(h':SlR X r'):SlR X (λx lo hi H Q=>r x lo hi H Q\/r' x lo hi H Q):=by
 intro pins s σ H x v vl vu lo hi sl Q I rx hs pl pu q
 rcases q with q | q
 ·exact h pins s σ H x v vl vu lo hi sl Q I rx hs pl pu q
 ·exact h' pins s σ H x v vl vu lo hi sl Q I rx hs pl pu q
def KI(r:V->Option Int->Option Int->Hp->VK->Prop)(te:TE)(tl th:TO):TE:=λσ H Q=>te σ H λx H1=>tl σ H1 λl H2=>th σ H2 λu H3=>r x l u H3 Q
theorem OZ{r:V->Option Int->Option Int->Hp->VK->Prop}(hr:SlR X r)(he:PE X e te)(hl:PO X lo tl)(hu:PO X hi th):PE X (.Subscript e (.Slice lo hi none p2) pos) (KI r te tl th):=by
 intro pins s σ H Q I h
 refine Subscript_ (AZ (he pins s σ H _ I h) λv s1 ⟨x,H1,I1,r1,q1⟩=> ?_)
 refine wpAny_Slice (AZ (hl pins s1 σ H1 _ I1 q1) λvl s2 ⟨l,H2,I2,pl,q2⟩=>AZ (hu pins s2 σ H2 _ I2 q2) λvu s3 ⟨u,H3,I3,pu,q3⟩=> ?_)
 rw[evalPart_none]
 refine wpAny_pure ?_
 have I4:Inv X pins σ H3 { s3 with heap:=s3.heap.push { cls:=.type "slice",data:=.fields #[vl,vu,.none] } }:=I3.kept (t':=s3.toks) λb ob q=>Heap.get?_push_of_some _ q
 obtain⟨T,id,hT,ht,hg⟩:=hr pins { s3 with heap:=s3.heap.push { cls:=.type "slice",data:=.fields #[vl,vu,.none] } } σ H3 x v vl vu l u s3.heap.objs.size Q I4 r1 (Heap.IsSliceOf.new ..) pl pu q3
 show wpAny (model X.prog X.w) X.A (subscriptTail e (.Slice lo hi none p2) v (.ref s3.heap.objs.size)) (EP X pins σ Q) X.xe { s3 with heap:=s3.heap.push { cls:=.type "slice",data:=.fields #[vl,vu,.none] } }
 exact tail_any (ops:=[.ref s3.heap.objs.size,v]) ht hT hg (by with_unfolding_all rfl)
def D5(xs:List V)(lo hi:Option Int):List V:=(xs.drop (HT.sIx xs.length 0 lo)).take (HT.sIx xs.length xs.length hi - HT.sIx xs.length 0 lo)
theorem WC(xs:List V)(lo hi:Option Int):(D5 xs lo hi).length<=xs.length:=by
 unfold D5
 rw[List.length_take,List.length_drop]
 omega
def WD(K:W.Frag):V->Option Int->Option Int->Hp->VK->Prop:=λx lo hi H Q=>∃ a xs,x=.ref a/\SqT K H a xs ∧
 ¬ (HT.sIx xs.length 0 lo=0/\HT.sIx xs.length xs.length hi=xs.length)/\∀ p,H p=none->Q (.ref p) (upd H p (.tup (D5 xs lo hi)))
theorem lY:SlR X (WD X.K):=by
 intro pins s σ H x v vl vu lo hi sl Q I rx hs pl pu h
 obtain⟨a,xs,rfl,hx,hw,q⟩:=h
 cases rx
 obtain⟨its,r,ht,hz⟩:=I.tuple hx
 have hlen:its.toArray.size=xs.length:=by rw[List.size_toArray];exact r.length.symm
 refine⟨"tuple",_,PyProof.Rows.slot_tuple_getitem.lookup,ht.typeIs,?_⟩
 refine HT.getItem_tuple_cut ht hs pl pu (by rw[hlen];exact hw) ?_ (by rw[hlen];exact hz)
 rw[hlen]
 refine⟨.ref s.heap.objs.size,_,I.laid (t':=s.toks) (o:=.tup (D5 xs lo hi)) (λb ob q=>Heap.get?_push_of_some _ q) (Nat.le_refl _) ?_,rfl,q _ (I.hok.fresh (Nat.le_refl _))⟩
 exact⟨Nat.le_trans (WC xs lo hi) hz,_,(r.drop (HT.sIx xs.length 0 lo)).take (HT.sIx xs.length xs.length hi - HT.sIx xs.length 0 lo),IsTup.new _ _⟩
def QW(K:W.Frag):R2:=λx y H Q=>∃ a b xs ys,x=.ref a/\y=.ref b/\SqT K H a xs/\SqT K H b ys/\xs≠[]/\xs.length+ys.length<=sizeLine ∧
 (ys=[]->Q (.ref a) H)/\(ys≠[]->∀ p,H p=none->Q (.ref p) (upd H p (.tup (xs++ys))))
theorem Vals.nil_iff{xs:List V}{us:List Value}(r:Vals xs us):us=[]↔xs=[]:=by
 cases r with
 | nil=>simp
 | cons _ _=>simp
theorem lZ:OpR X (binaryOp .Add) (QW X.K):=by
 intro pins s σ H x y v u Q I rx ry h
 obtain⟨a,b,xs,ys,rfl,rfl,ha,hb,hx,hz,q1,q2⟩:=h
 cases rx
 cases ry
 obtain⟨its,r1,p1,_⟩:=I.tuple ha
 obtain⟨its2,r2,p2,_⟩:=I.tuple hb
 refine HT.cat_tup p1 p2 (λz=>hx (r1.nil_iff.mp z)) (λz=>⟨.ref a,H,I,rfl,q1 (r2.nil_iff.mp z)⟩) (λz=> ?_) (by rw[<-r1.length,<-r2.length];exact hz)
 refine⟨.ref s.heap.objs.size,_,I.laid (t':=s.toks) (o:=.tup (xs++ys)) (λb ob q=>Heap.get?_push_of_some _ q) (Nat.le_refl _) ?_,rfl,q2 (λw=>z (r2.nil_iff.mpr w)) _ (I.hok.fresh (Nat.le_refl _))⟩
 exact⟨by rw[List.length_append];exact hz,_,r1.append r2,IsTup.new _ _⟩
end
end L2
namespace L2
def GE(n:Nat)(i:Int):Option Nat:=if 0<=i then(if i<n then some i.toNat else none)else if -(n:Int)<=i then some (i+n).toNat else none
def IK{α :Type}(xs:List α)(i:Int):Option α :=(GE xs.length i).bind λj=>xs[j]?
theorem WE{n:Nat}{i:Int}{j:Nat}(h:GE n i=some j):seqIndex? i n=some j/\j<n/\ -(n:Int)<=i/\i<n:=by
 unfold GE at h
 by_cases h0:0<=i
 ·rw[if_pos h0]at h
  by_cases h1:i<n
  ·rw[if_pos h1]at h
   have e:i.toNat=j:=Option.some.inj h
   exact⟨by rw[seqIndex_of h0 h1,e],by omega,by omega,h1⟩
  ·rw[if_neg h1]at h;cases h
 ·rw[if_neg h0]at h
  by_cases h1: -(n:Int)<=i
  ·rw[if_pos h1]at h
   have e:(i+n).toNat=j:=Option.some.inj h
   exact⟨by rw[seqIndex_neg (by omega) h1,e],by omega,h1,by omega⟩
  ·rw[if_neg h1]at h;cases h
theorem QX{α :Type}{xs:List α}{i:Int}{v: α}(h:IK xs i=some v):∃ j,seqIndex? i xs.length=some j/\xs[j]? =some v/\j<xs.length/\ -(xs.length:Int)<=i/\i<xs.length:=by
 unfold IK at h
 cases e:GE xs.length i with
 | none=>rw[e]at h;cases h
 | some j =>
  rw[e]at h
  obtain⟨h1,h2,h3,h4⟩:=WE e
  exact⟨j,h1,h,h2,h3,h4⟩
theorem QY{α :Type}{xs:List α}{j:Nat}{v: α}(h:xs[j]? =some v):IK xs (j:Int)=some v:=by
 have hj:j<xs.length:=(List.getElem?_eq_some_iff.mp h).1
 have e:GE xs.length (j:Int)=some j:=by
  unfold GE
  rw[if_pos (by omega),if_pos (by omega)];simp
 unfold IK;rw[e];exact h
def l8(b:Expr):Prop:=∀ o i,subscripted b false o i=operate [o,i] (getItem o i)
def IxR(X:Cx)(r:R2):Prop :=
 ∀ (value slice:Expr) (pins:List (Addr × Obj)) (s:Shared) (σ:St) (H:Hp) (x y:V) (v u:Value) (Q:VK),Inv X pins σ H s->RelV x v->RelV y u->r x y H Q →
  subscripted slice false v u=operate [v,u] (getItem v u)->wpAny (model X.prog X.w) X.A (subscriptTail value slice v u) (EP X pins σ Q) X.xe s
def MtR(X:Cx)(id:String)(r:V->List V->Hp->VK->Prop):Prop :=
 ∀ (pins:List (Addr × Obj)) (s:Shared) (σ:St) (H:Hp) (x:V) (xs:List V) (v:Value) (us:List Value) (Q:VK),Inv X pins σ H s->RelV x v->Vals xs us->r x xs H Q →
  wpAny (model X.prog X.w) X.A (call (.builtin id) (v::us)) (EP X pins σ Q) X.xe s
section
variable{X:Cx}{a b:Expr}{ta tb:TE}{pos:Pos}
theorem IxR.or{r r':R2}(h:IxR X r)(h':IxR X r'):IxR X (λx y H Q=>r x y H Q\/r' x y H Q):=by
 intro value slice pins s σ H x y v u Q I rx ry q hs
 rcases q with q | q
 ·exact h value slice pins s σ H x y v u Q I rx ry q hs
 ·exact h' value slice pins s σ H x y v u Q I rx ry q hs
theorem MtR.or{id:String}{r r':V->List V->Hp->VK->Prop}(h:MtR X id r)(h':MtR X id r'):MtR X id (λx xs H Q=>r x xs H Q\/r' x xs H Q):=by
 intro pins s σ H x xs v us Q I rx rs q
 rcases q with q | q
 ·exact h pins s σ H x xs v us Q I rx rs q
 ·exact h' pins s σ H x xs v us Q I rx rs q
theorem AL{r:R2}(hr:IxR X r)(ha:PE X a ta)(hb:PE X b tb)(hs:l8 b):PE X (.Subscript a b pos) (AC r ta tb):=by
 intro pins s σ H Q I h
 exact Subscript_ (QL ha hb I h λv u s2 x y H2 I2 rx ry q=>hr a b pins s2 σ H2 x y v u Q I2 rx ry q (hs _ _))
def WF(K:W.Frag):R2:=λx y H Q=>∃ p xs i v,x=.ref p/\y=.int i/\SqL K H p xs/\IK xs i=some v/\Q v H
def WG(K:W.Frag):R2:=λx y H Q=>∃ p xs i v,x=.ref p/\y=.int i/\SqT K H p xs/\IK xs i=some v/\Q v H
def WH:R2:=λx y H Q=>∃ z i c,x=.str z/\y=.int i/\z.length<=sizeLine/\IK z.cps.toList i=some c/\Q (.str ⟨#[c]⟩) H
theorem l9:IxR X (WF X.K):=by
 intro value slice pins s σ H x y v u Q I rx ry h hs
 obtain⟨p,xs,i,z,rfl,rfl,hq,he,q⟩:=h
 cases rx
 obtain⟨t,rfl⟩:=ry
 obtain⟨its,r,pl,hz⟩:=I.list hq
 obtain⟨j,h1,h2,h3,h4,h5⟩:=QX he
 obtain⟨w,ew,rw'⟩:=r.get h2
 have hl:=r.length
 have hn:=IH
 have fin:EP X pins σ Q w s:=⟨z,H,I,rw',q⟩
 by_cases h0:0<=i
 ·have hj:i.toNat=j:=by
   rw[seqIndex_of h0 h5]at h1
   exact Option.some.inj h1
  exact item_listR pl.isList h0 (by omega) (by rw[hj];simpa using ew) fin hs
 ·have hj:(i+(its.toArray.size:Int)).toNat=j:=by
   rw[seqIndex_neg (by omega) h4]at h1
   rw[List.size_toArray,<-hl]
   exact Option.some.inj h1
  exact subscriptTail_builtinR (x:=w) pl.isList.typeIs slot_list_getitem.lookup
   (wpAny_getItem_list_neg (Q:=λr s'=>r=w/\EP X pins σ Q r s') pl.isList (by omega) (by rw[List.size_toArray]<;>omega) (by omega) (by rw[hj];simpa using ew) ⟨rfl,fin⟩) hs
theorem mB:IxR X (WG X.K):=by
 intro value slice pins s σ H x y v u Q I rx ry h hs
 obtain⟨p,xs,i,z,rfl,rfl,hq,he,q⟩:=h
 cases rx
 obtain⟨t,rfl⟩:=ry
 obtain⟨its,r,pl,hz⟩:=I.tuple hq
 obtain⟨j,h1,h2,h3,h4,h5⟩:=QX he
 obtain⟨w,ew,rw'⟩:=r.get h2
 have hl:=r.length
 have hn:=IH
 have fin:EP X pins σ Q w s:=⟨z,H,I,rw',q⟩
 exact subscriptTail_builtinR (x:=w) pl.typeIs slot_tuple_getitem.lookup
  (getItem_tuple (j:=j) (Q:=λr s'=>r=w/\EP X pins σ Q r s') pl (by omega) (by omega) (by rw[List.size_toArray,<-hl];exact h1) (by simpa using ew) ⟨rfl,fin⟩) hs
theorem mC:IxR X WH:=by
 intro value slice pins s σ H x y v u Q I rx ry h hs
 obtain⟨z,i,c,rfl,rfl,hz,he,q⟩:=h
 obtain⟨t,rfl⟩:=rx
 obtain⟨t',rfl⟩:=ry
 obtain⟨j,h1,h2,h3,h4,h5⟩:=QX he
 have hl:z.cps.toList.length=z.length:=by simp[Str.length]
 rw[hl]at h1 h4 h5
 have hn:=IH
 exact tail_any (typeIs_str s z t) slot_str_getitem.lookup (getItem_str (c:=c) (by
  have e1:decide (i< -(2 ^ 63:Int))=false:=decide_eq_false (by omega)
  have e2:decide (i ≥ 2 ^ 63)=false:=decide_eq_false (by omega)
  rw[e1,e2,Bool.or_false]) (by rw[h1];simpa using h2) ⟨.str ⟨#[c]⟩,H,I.tok _,⟨_,rfl⟩,q⟩) hs
def WI(K:W.Frag):R2:=λx y H Q=>WF K x y H Q\/WG K x y H Q\/WH x y H Q
theorem mD:IxR X (WI X.K):=l9.or (mB.or mC)
theorem mE(its:List Value)(n j:Nat)(u:Value):Obj.mapSeq (·.setIfInBounds j u) { cls:=.type "list",data:=.seq its.toArray n }={ cls:=.type "list",data:=.seq (its.set j u).toArray n }:=by
 simp[Obj.mapSeq]
theorem Inv.lst{pins:List (Addr × Obj)}{σ:St}{H:Hp}{s:Shared}{p:Addr}{xs:List V}(I:Inv X pins σ H s)(h:H p=some (.lst xs)) :
  ∃ (its:List Value) (n:Nat),Vals xs its/\s.heap.get? p=some { cls:=.type "list",data:=.seq its.toArray n }/\xs.length<=sizeLine:=by
 obtain⟨z,its,n,r,e⟩:=I.hok p _ h
 exact⟨its,n,r,e,z⟩
theorem Inv.lstUpd{pins:List (Addr × Obj)}{σ:St}{H:Hp}{s:Shared}{p:Addr}{xs ys:List V}{its its':List Value}{n n':Nat}{f:Obj->Obj}(I:Inv X pins σ H s)(h:H p=some (.lst xs))
  (ho:s.heap.get? p=some { cls:=.type "list",data:=.seq its.toArray n }) (hf:f { cls:=.type "list",data:=.seq its.toArray n }={ cls:=.type "list",data:=.seq its'.toArray n' }) (r:Vals ys its') (hz:ys.length<=sizeLine) (t:Nat) :
  Inv X pins σ (upd H p (.lst ys)) { s with heap:=s.heap.update p f,toks:=t }:=by
 have e:(s.heap.update p f).get? p=some { cls:=.type "list",data:=.seq its'.toArray n' }:=by
  rw[Heap.get?_update_self f ho (by rw[hf]<;>rfl),hf]
 refine I.write (x:=p) (e:=p) (by rw[h];trivial) (.inl rfl) (λb u hb q=>(Heap.get?_update_other _ _ (Ne.symm hb)).trans q) ⟨_,e⟩ ?_
 exact⟨hz,its',n',r,e⟩
def WJ:V->V->V->Hp->(Hp->Prop)->Prop:=λo i v H Q=>∃ p xs k j,o=.ref p/\i=.int k/\H p=some (.lst xs)/\GE xs.length k=some j/\Q (upd H p (.lst (xs.set j v)))
theorem mF:QI X WJ:=by
 intro pins s σ H o i v ov iv u Q I ro ri rv h
 obtain⟨p,xs,k,j,rfl,rfl,hp,hj,q⟩:=h
 cases ro
 obtain⟨t,rfl⟩:=ri
 obtain⟨its,n,r,ho,hz⟩:=I.lst hp
 obtain⟨h1,h2,h3,h4⟩:=WE hj
 have hl:=r.length
 have hn:=IH
 have I':Inv X pins σ (upd H p (.lst (xs.set j v))) { s with heap:=s.heap.update p (Obj.mapSeq (·.setIfInBounds j u)) } :=
  I.lstUpd hp ho (mE its n j u) (r.set rv j) (by rw[List.length_set];exact hz) s.toks
 by_cases h0:0<=k
 ·have hk:k.toNat=j:=by
   rw[seqIndex_of h0 h4]at h1
   exact Option.some.inj h1
  exact W.ki_setAt ho h0 (by omega) (by rw[List.size_toArray,<-hl];exact h4) (by rw[hk];exact⟨_,I',q⟩)
 ·have hk:(k+(its.toArray.size:Int)).toNat=j:=by
   rw[seqIndex_neg (by omega) h3]at h1
   rw[List.size_toArray,<-hl]
   exact Option.some.inj h1
  exact W.ki_setBack ho (by omega) (by rw[List.size_toArray,<-hl];exact h3) (by omega) (by rw[hk];exact⟨_,I',q⟩)
theorem mG(lo hi:Option Int)(n:Nat):(sliceBounds lo hi none n).1=((HT.sIx n 0 lo:Nat):Int)/\(sliceBounds lo hi none n).2.1=((HT.sIx n n hi:Nat):Int)/\(sliceBounds lo hi none n).2.2=1:=by
 refine⟨?_,?_,rfl⟩
 ·cases lo with
  | none=>simp[sliceBounds,HT.sIx]
  | some i =>
   simp only[sliceBounds,HT.sIx,Option.getD_none,show(1:Int) > 0 by decide,if_true]
   by_cases h:i<0
   ·simp only[h,if_true]<;>omega
   ·simp only[h,if_false]<;>omega
 ·cases hi with
  | none=>simp[sliceBounds,HT.sIx]
  | some i =>
   simp only[sliceBounds,HT.sIx,Option.getD_none,show(1:Int) > 0 by decide,if_true]
   by_cases h:i<0
   ·simp only[h,if_true]<;>omega
   ·simp only[h,if_false]<;>omega
theorem mH(its:List Value)(lo hi:Option Int):slicePick its.toArray lo hi none=((its.drop (HT.sIx its.length 0 lo)).take (HT.sIx its.length its.length hi - HT.sIx its.length 0 lo)).toArray:=by
 obtain⟨h1,h2,h3⟩:=mG lo hi its.toArray.size
 unfold slicePick
 rw[h1,h2,h3]
 simp only[sliceRange_one,pick_run,List.size_toArray]<;>rfl
def WK(K:W.Frag):V->Option Int->Option Int->Hp->VK->Prop:=λx lo hi H Q=>∃ a xs,x=.ref a/\SqL K H a xs/\∀ p,H p=none->Q (.ref p) (upd H p (.lst (D5 xs lo hi)))
theorem mI:SlR X (WK X.K):=by
 intro pins s σ H x v vl vu lo hi sl Q I rx hs pl pu h
 obtain⟨a,xs,rfl,hx,q⟩:=h
 cases rx
 obtain⟨its,r,ht,hz⟩:=I.list hx
 have hlen:=r.length
 refine⟨"list",_,slot_list_getitem.lookup,ht.isList.typeIs,?_⟩
 refine wpAny_getItem_list_slice ht.isList hs pl pu .none (by simp) ?_ (by rw[List.size_toArray]<;>omega)
 rw[mH,<-hlen]
 refine⟨.ref s.heap.objs.size,_,I.laid (t':=s.toks) (o:=.lst (D5 xs lo hi)) (λb ob q=>Heap.get?_push_of_some _ q) (Nat.le_refl _) ?_,rfl,q _ (I.hok.fresh (Nat.le_refl _))⟩
 exact⟨Nat.le_trans (WC xs lo hi) hz,_,0,(r.drop (HT.sIx xs.length 0 lo)).take (HT.sIx xs.length xs.length hi - HT.sIx xs.length 0 lo),Heap.get?_push_size _ rfl⟩
def HN:V->Bool
 | .non=>true
 | .bl _=>true
 | .int _=>true
 | .str _=>true
 | _=>false
def GF:V->V->Bool
 | .non,.non=>true
 | .bl a,.bl b=>a == b
 | .bl a,.int b=>(if a then 1 else 0) == b
 | .int a,.bl b=>a ==(if b then 1 else 0)
 | .int a,.int b=>a == b
 | .str a,.str b=>a == b
 | _,_=>false
theorem mJ{A:Around}{s:Shared}{y x:V}{u v:Value}(ry:RelV y u)(rx:RelV x v)(fy:HN y=true)(fx:HN x=true):SeqAt.EqAt A s u v (GF y x):=by
 cases y with
 | non =>
  cases ry
  cases x with
  | non=>cases rx;exact SeqAt.EqAt.same _
  | bl b=>cases rx;exact SeqAt.EqAt.none_bool b
  | int b=>obtain⟨t,rfl⟩:=rx;exact SeqAt.EqAt.none_int b t
  | str b=>obtain⟨t,rfl⟩:=rx;exact SeqAt.EqAt.none_str b t
  | _=>exact absurd (show false=true from fx) Bool.false_ne_true
 | bl a =>
  cases ry
  cases x with
  | non=>cases rx;exact SeqAt.EqAt.bool_none a
  | bl b=>cases rx;exact SeqAt.EqAt.bool_bool a b
  | int b=>obtain⟨t,rfl⟩:=rx;exact SeqAt.EqAt.bool_int a b t
  | str b=>obtain⟨t,rfl⟩:=rx;exact SeqAt.EqAt.bool_str a b t
  | _=>exact absurd (show false=true from fx) Bool.false_ne_true
 | int a =>
  obtain⟨t',rfl⟩:=ry
  cases x with
  | non=>cases rx;exact SeqAt.EqAt.int_none a t'
  | bl b=>cases rx;exact SeqAt.EqAt.int_bool a t' b
  | int b=>obtain⟨t,rfl⟩:=rx;exact SeqAt.EqAt.int_int a t' b t
  | str b=>obtain⟨t,rfl⟩:=rx;exact SeqAt.EqAt.int_str a t' b t
  | _=>exact absurd (show false=true from fx) Bool.false_ne_true
 | str a =>
  obtain⟨t',rfl⟩:=ry
  cases x with
  | non=>cases rx;exact SeqAt.EqAt.str_none a t'
  | bl b=>cases rx;exact SeqAt.EqAt.str_bool a t' b
  | int b=>obtain⟨t,rfl⟩:=rx;exact SeqAt.EqAt.str_int a t' b t
  | str b=>obtain⟨t,rfl⟩:=rx;exact SeqAt.EqAt.str_str a t' b t
  | _=>exact absurd (show false=true from fx) Bool.false_ne_true
 | _=>exact absurd (show false=true from fy) Bool.false_ne_true
def G0(x:V)(u:Value):Bool:=match u with
 | .none=>GF .non x
 | .bool b=>GF (.bl b) x
 | .int i _=>GF (.int i) x
 | .str z _=>GF (.str z) x
 | _=>false
theorem WL{x y:V}{u:Value}(r:RelV y u)(f:HN y=true):G0 x u=GF y x:=by
 cases y with
 | non=>cases r;rfl
 | bl b=>cases r;rfl
 | int i=>obtain⟨t,rfl⟩:=r;rfl
 | str z=>obtain⟨t,rfl⟩:=r;rfl
 | _=>exact absurd (show false=true from f) Bool.false_ne_true
theorem QZ{x:V}:∀ {xs:List V} {us:List Value},Vals xs us->xs.all HN=true->us.any (G0 x)=xs.any λy=>GF y x
 | _,_,.nil,_=>rfl
 | y::xs,u::us,.cons r t,f=>by
  rw[List.all_cons,Bool.and_eq_true]at f
  rw[List.any_cons,List.any_cons,WL r f.1,QZ t f.2]
theorem Q0{A:Around}{s:Shared}{x:V}{v:Value}(rx:RelV x v)(fx:HN x=true):∀ {xs:List V} {us:List Value},Vals xs us->xs.all HN=true->∀ u∈us,SeqAt.EqAt A s u v (G0 x u)
 | _,_,.nil,_=>λu hu=>by cases hu
 | y::xs,u::us,.cons r t,f=>λu' hu=>by
  rw[List.all_cons,Bool.and_eq_true]at f
  rcases List.mem_cons.mp hu with rfl | hu
  ·rw[WL r f.1];exact mJ r rx f.1 fx
  ·exact Q0 rx fx t f.2 u' hu
def ML(x:V)(xs:List V):Bool:=xs.any λy=>GF y x
def WM(K:W.Frag)(neg:Bool):R2:=λx y H Q=>∃ p xs,y=.ref p/\(SqL K H p xs\/SqT K H p xs)/\HN x=true/\xs.all HN=true/\Q (.bl (if neg then !ML x xs else ML x xs)) H
theorem mK:OpR X (compareOp .In) (WM X.K false):=by
 intro pins s σ H x y v u Q I rx ry h
 obtain⟨p,xs,rfl,hq,fx,fs,q⟩:=h
 cases ry
 rcases hq with hq | hq
 ·obtain⟨its,r,pl,hz⟩:=I.list hq
  refine SeqAt.in_listAt (G0 x) pl.isList (λw hw=>Q0 rx fx r fs w (by simpa using hw)) ⟨.bl _,H,I,rfl,?_⟩
  rw[show its.toArray.any (G0 x)=its.any (G0 x) by simp,QZ r fs]
  exact q
 ·obtain⟨its,r,pl,hz⟩:=I.tuple hq
  refine SeqAt.in_tupleAt (G0 x) pl (λw hw=>Q0 rx fx r fs w (by simpa using hw)) ⟨.bl _,H,I,rfl,?_⟩
  rw[show its.toArray.any (G0 x)=its.any (G0 x) by simp,QZ r fs]
  exact q
theorem CallR.or{f:Value}{r r':List V->Hp->VK->Prop}(h:CallR X f r)(h':CallR X f r'):CallR X f (λxs H Q=>r xs H Q\/r' xs H Q):=by
 intro pins s σ H xs us Q I rs q
 rcases q with q | q
 ·exact h pins s σ H xs us Q I rs q
 ·exact h' pins s σ H xs us Q I rs q
theorem mM:CallR X (.type "list") (λxs H Q=>∃ p ys,xs=[.ref p]/\(SqL X.K H p ys\/SqT X.K H p ys)/\∀ l,H l=none->Q (.ref l) (upd H l (.lst ys))):=by
 intro pins s σ H xs us Q I r h
 obtain⟨p,ys,rfl,hq,q⟩:=h
 obtain⟨u,rfl,rx⟩:=II r
 cases rx
 have fin:∀ (its:List Value),Vals ys its->ys.length<=sizeLine->∀ (h':Heap) (c':Nat),(∀ b o',s.heap.get? b=some o'->h'.get? b=some o') →
   h'.get? s.heap.objs.size=some { cls:=.type "list",dict:=none,data:=.seq its.toArray c',slots:= #[] }->EP X pins σ Q (.ref s.heap.objs.size) { s with heap:=h' }:=λits r' hz h' c' kp e =>
  ⟨.ref s.heap.objs.size,_,I.laid (t':=s.toks) kp (Nat.le_refl _) (show ObjOk X.prog X.w _ h' _ (.lst ys)from⟨hz,its,c',r',e⟩),rfl,q _ (I.hok.fresh (Nat.le_refl _))⟩
 rcases hq with hq | hq
 ·obtain⟨its,r',pl,hz⟩:=I.list hq
  have hlen:=r'.length
  obtain⟨o,ho,hc,n,hd⟩:=pl.isList
  exact call_list_seq p (.inl rfl) ho hc hd (λh' c' kp e=>fin its r' hz h' c' kp e) (by simp only[List.size_toArray]<;>omega)
 ·obtain⟨its,r',pl,hz⟩:=I.tuple hq
  have hlen:=r'.length
  obtain⟨o,ho,hc,n,hd⟩:=pl
  exact call_list_seq p (.inr rfl) ho hc hd (λh' c' kp e=>fin its r' hz h' c' kp e) (by simp only[List.size_toArray]<;>omega)
theorem mO:CallR X (.type "tuple") (λxs H Q=>∃ p ys,xs=[.ref p]/\((SqL X.K H p ys/\∀ l,H l=none->Q (.ref l) (upd H l (.tup ys)))\/(SqT X.K H p ys/\Q (.ref p) H))):=by
 intro pins s σ H xs us Q I r h
 obtain⟨p,ys,rfl,h⟩:=h
 obtain⟨u,rfl,rx⟩:=II r
 cases rx
 rcases h with⟨hq,q⟩ | ⟨hq,q⟩
 ·obtain⟨its,r',pl,hz⟩:=I.list hq
  have hlen:=r'.length
  refine call_tuple_list pl.isList (λh' kp=> ?_) (by simp only[List.size_toArray]<;>omega)
  have I1:Inv X pins σ H { s with heap:=h' }:=I.kept (t':=s.toks) kp
  have I2:Inv X pins σ (upd H h'.objs.size (.tup ys)) { s with heap:=h'.push { cls:=.type "tuple",data:=.seq its.toArray } } :=
   I1.laid (t':=s.toks) (λb o e=>Heap.get?_push_of_some _ e) (Nat.le_refl _) (show ObjOk X.prog X.w _ _ _ (.tup ys)from⟨hz,its,r',IsTup.new _ _⟩)
  exact⟨.ref h'.objs.size,_,I2,rfl,q _ (I1.hok.fresh (Nat.le_refl _))⟩
 ·obtain⟨its,r',pl,hz⟩:=I.tuple hq
  exact call_tuple_same pl ⟨.ref p,H,I,rfl,q⟩
def MM(K:W.Frag)(T:String)(x:V)(H:Hp):Prop:=match x with
 | .str _=>T="str"
 | .int _=>T="int"
 | .ref p=>(T="list"/\∃ xs,SqL K H p xs)\/(T="tuple"/\∃ o,K.lookup p=some o/\o.cls=.type "tuple"/\o.dict=none) ∨
   (T="dict"/\((∃ kvs,H p=some (.dK kvs))\/∃ kvs,H p=some (.dT kvs)))\/(T="set"/\∃ S n,H p=some (.set S n))
 | _=>False
theorem mP{pins:List (Addr × Obj)}{σ:St}{H:Hp}{s:Shared}{T:String}{x:V}{v:Value}(I:Inv X pins σ H s)(r:RelV x v)(ty:MM X.K T x H) :
  s.TypeIs v T/\∀ a,v=.ref a->∃ ob,s.heap.get? a=some ob/\ob.dict=none:=by
 cases x with
 | str z =>
  obtain⟨t,rfl⟩:=r
  cases (show T="str" from ty)
  exact⟨typeIs_str s z t,λ_ e=>nomatch e⟩
 | int i =>
  obtain⟨t,rfl⟩:=r
  cases (show T="int" from ty)
  exact⟨typeIs_int s i t,λ_ e=>nomatch e⟩
 | ref p =>
  cases r
  rcases ty with⟨rfl,xs,hq⟩ | ⟨rfl,o,hk,hc,hd⟩ | ⟨rfl,hk⟩ | ⟨rfl,S,n,hk⟩
  ·obtain⟨its,_,pl,_⟩:=I.list hq
   refine⟨pl.isList.typeIs,λa e=> ?_⟩
   cases e
   obtain⟨o,n,e,c,hd,_⟩:=pl
   exact⟨o,e,hd⟩
  ·refine⟨⟨o,I.kIn p o hk,hc⟩,λa e=> ?_⟩
   cases e
   exact⟨o,I.kIn _ o hk,hd⟩
  ·have z:∃ o,s.heap.get? p=some o/\o.ExactDict:=by
    rcases hk with⟨kvs,hk⟩ | ⟨kvs,hk⟩
    ·obtain⟨_,_,_,_,o,_,_,e,ex,_⟩:=I.hok p _ hk
     exact⟨o,e,ex⟩
    ·obtain⟨_,_,_,_,o,_,_,e,ex,_⟩:=I.hok p _ hk
     exact⟨o,e,ex⟩
   obtain⟨o,e,ex⟩:=z
   refine⟨⟨o,e,ex.1⟩,λa e2=> ?_⟩
   cases e2
   exact⟨o,e,ex.2.1⟩
  ·obtain⟨o,_,_,_,e,ex,_⟩:=I.hok p _ hk
   refine⟨⟨o,e,ex.1⟩,λa e2=> ?_⟩
   cases e2
   exact⟨o,e,ex.2.1⟩
 | _=>exact False.elim ty
def mQ(K:W.Frag)(T:String)(r:V->List V->Hp->VK->Prop)(to:TE):TE:=λσ H Q=>to σ H λx H1=>MM K T x H1/\r x [] H1 Q
def ET(K:W.Frag)(T:String)(r:V->List V->Hp->VK->Prop)(to:TE)(t:TA):TE:=λσ H Q=>to σ H λx H1=>MM K T x H1/\t σ H1 λxs H2=>r x xs H2 Q
variable{o e:Expr}{es:List Expr}{to:TE}{t:TA}{name:Str}{apos cpos:Pos}{T id:String}{r:V->List V->Hp->VK->Prop}
theorem FT(pa:PlainAttrs T)(slot:Slot T name id)(hty:typeOf (.builtin id)=pure (.type "method_descriptor"))(hm:MtR X id r)(ho:PE X o to)(ha:PA X (e::es) t)
  (hbase:attributeBase o name X.env (eval o X.env)=eval o X.env:=by rfl)
  (hfew:((backTo cpos (starEach (e::es) X.env)).all (λx=> !x.1) && (backToKw cpos (keywordEach [] X.env)).all (λx=>x.1.isSome)
   && decide ((e::es).length+([]:List Keyword).length+(if([]:List Keyword).isEmpty then 0 else 1)<30))=true:=by rfl)
  (hline:(apos.endLine == cpos.line)=true:=by rfl) (hs:starEach (e::es) X.env=(false,eval e X.env)::starEach es X.env:=by rfl) (hplain:(backTo cpos (starEach es X.env)).any (·.1)=false:=by rfl) :
  PE X (.Call (.Attribute o name apos) (e::es) [] cpos) (ET X.K T r to t):=by
 intro pins s σ H Q I h
 refine wpAny_Call_method_late hbase hfew hline rfl (AZ (ho pins s σ H _ I h) λv s1 ⟨x,H1,I1,r1,ty,q1⟩=> ?_)
 obtain⟨h1,h2⟩:=mP I1 r1 ty
 refine⟨T,id,pa,slot,hty,h1,h2,?_⟩
 have hA:=ha cpos pins s1 σ H1 _ I1 q1
 rw[hs]at hA ⊢
 refine Calls.callWith_builtin (by show(false || (backTo cpos (starEach es X.env)).any (·.1))=false;rw[hplain]<;>rfl) (Calls.evalArgs_plain ?_)
 exact AZ hA λus s2 ⟨vs,H2,I2,r2,q2⟩=>hm pins s2 σ H2 x vs v us Q I2 r1 r2 q2
end
end L2
namespace L2
def Q1(X:Cx)(id:String)(r:V->List V->Hp->VK->Prop):Prop :=
 ∀ (pins:List (Addr × Obj)) (s:Shared) (σ:St) (H:Hp) (x:V) (xs:List V) (v:Value) (us:List Value) (Q:VK),Inv X pins σ H s->RelV x v->Vals xs us->r x xs H Q →
  wpAny (model X.prog X.w) X.A (call (.builtin id) (v::us)) (EP X pins σ Q) X.xe s
theorem Vals.one:∀ {x:V} {us:List Value},Vals [x] us->∃ u,us=[u]/\RelV x u
 | _,_,.cons r .nil=>⟨_,rfl,r⟩
theorem Vals.two:∀ {x y:V} {us:List Value},Vals [x,y] us->∃ u v,us=[u,v]/\RelV x u/\RelV y v
 | _,_,_,.cons r (.cons q .nil)=>⟨_,_,rfl,r,q⟩
theorem Vals.zero:∀ {us:List Value},Vals [] us->us=[]
 | _,.nil=>rfl
theorem Vals.reverse{xs:List V}{us:List Value}(h:Vals xs us):Vals xs.reverse us.reverse:=by
 induction h with
 | nil=>exact .nil
 | cons r t ih=>rw[List.reverse_cons,List.reverse_cons];exact Vals.append ih (.cons r .nil)
theorem Vals.rep{xs:List V}{us:List Value}(h:Vals xs us):∀ k:Nat,Vals (List.replicate k xs).flatten (List.replicate k us).flatten
 | 0=>.nil
 | k+1=>by
  rw[List.replicate_succ,List.replicate_succ,List.flatten_cons,List.flatten_cons]
  exact Vals.append h (Vals.rep h k)
theorem O0(its:List Value):∀ (k:Nat) (acc:List Value),
  List.foldl (λx1 x2=>x1++x2) acc.toArray (List.replicate k its.toArray)=(acc++(List.replicate k its).flatten).toArray
 | 0,acc=>by simp
 | k+1,acc=>by
  have e:acc.toArray++its.toArray=(acc++its).toArray:=by simp
  have e2:(acc++its)++(List.replicate k its).flatten=acc++(List.replicate (k+1) its).flatten:=by
   rw[List.replicate_succ,List.flatten_cons,List.append_assoc]
  rw[<-e2,<-O0 its k (acc++its),<-e,List.replicate_succ,List.foldl_cons]
section
variable{X:Cx}{pins:List (Addr × Obj)}{σ:St}{H:Hp}{s:Shared}{l b:Addr}{xs ys zs:List V}
theorem Inv.lset{its its':List Value}{n:Nat}{f:Array Value->Array Value}{t':Nat}(I:Inv X pins σ H s)(hH:H l=some (.lst xs))
  (e:s.heap.get? l=some { cls:=.type "list",data:=.seq its.toArray n }) (hf:f its.toArray=its'.toArray) (hv:Vals ys its') (hz:ys.length<=sizeLine) :
  Inv X pins σ (upd H l (.lst ys)) { s with heap:=s.heap.update l (Obj.mapSeq f),toks:=t' }:=by
 have q:=PySem.IsL.update e f
 rw[hf]at q
 refine I.write (x:=l) (e:=l) (by rw[hH];exact trivial) (.inl rfl) (λb' u hb hu=>(Heap.get?_update_other s.heap (Obj.mapSeq f) (Ne.symm hb)).trans hu) ⟨_,q⟩ ?_
 exact⟨hz,its',_,hv,q⟩
theorem Inv.lnew{its:List Value}{t':Nat}(I:Inv X pins σ H s)(hv:Vals ys its)(hz:ys.length<=sizeLine) :
  Inv X pins σ (upd H s.heap.objs.size (.lst ys)) { s with heap:=s.heap.push { cls:=.type "list",data:=.seq its.toArray },toks:=t' } :=
 I.laid (λ_ _ q=>Heap.get?_push_of_some _ q) (Nat.le_refl _) ⟨hz,its,0,hv,Heap.get?_push_size _ rfl⟩
theorem Inv.fresh(I:Inv X pins σ H s):H s.heap.objs.size=none:=I.hok.fresh (Nat.le_refl _)
theorem Inv.lstM(I:Inv X pins σ H s)(hH:H l=some (.lst xs)):xs.length<=sizeLine/\∃ (its:List Value) (n:Nat),Vals xs its/\xs.length=its.length/\s.heap.get? l=some { cls:=.type "list",data:=.seq its.toArray n }:=by
 obtain⟨z,its,n,r,e⟩:=I.hok l _ hH
 exact⟨z,its,n,r,r.length,e⟩
theorem Q2{n:Nat}(h:n<=sizeLine):Builtin.List.listTooLong n=false:=by
 unfold Builtin.List.listTooLong
 exact decide_eq_false (by omega)
end
section
variable{X:Cx}
def Q3:V->List V->Hp->VK->Prop:=λx vs H Q=>∃ l xs y,x=.ref l/\vs=[y]/\H l=some (.lst xs)/\xs.length<sizeLine/\Q .non (upd H l (.lst (xs++[y])))
theorem HP:Q1 X "list.append" Q3:=by
 intro pins s σ H x vs v us Q I rx rv h
 obtain⟨l,xs,y,rfl,rfl,hH,hz,q⟩:=h
 cases rx
 obtain⟨u,rfl,ru⟩:=rv.one
 obtain⟨z,its,n,r,hl,e⟩:=I.lstM hH
 refine call_meets F.slot_list_append ⟨_,e,rfl⟩ F.entry_list_append (F.args_list_append_2 _ _) (PySem.list_append l its.toArray n u (by rw[List.size_toArray];omega)) ⟨e,?_⟩
 refine⟨.non,_,I.lset (its':=its++[u]) hH e (by simp) (r.append (.cons ru .nil)) ?_,rfl,q⟩
 rw[List.length_append,List.length_singleton]
 omega
def WN:V->List V->Hp->VK->Prop:=λx vs H Q=>∃ l b xs zs,x=.ref l/\vs=[.ref b]/\H l=some (.lst xs)/\H b=some (.lst zs)/\xs.length+zs.length<=sizeLine/\Q .non (upd H l (.lst (xs++zs)))
theorem mR:Q1 X "list.extend" WN:=by
 intro pins s σ H x vs v us Q I rx rv h
 obtain⟨l,b,xs,zs,rfl,rfl,hH,hB,hz,q⟩:=h
 cases rx
 obtain⟨u,rfl,ru⟩:=rv.one
 cases ru
 obtain⟨z,its,n,r,hl,e⟩:=I.lstM hH
 obtain⟨z2,its2,n2,r2,hl2,e2⟩:=I.lstM hB
 have hsz:its.toArray.size+its2.toArray.size<=sizeLine:=by rw[List.size_toArray,List.size_toArray];omega
 have hlong:¬ (!its.toArray.isEmpty && Builtin.List.listTooLong (its.toArray.size+its2.toArray.size))=true:=by
  rw[Q2 hsz,Bool.and_false]
  exact Bool.false_ne_true
 refine call_meets F.slot_list_extend ⟨_,e,rfl⟩ F.entry_list_extend (F.args_list_extend_2 _ _)
  (AutoSeq1.list_extend_list_list_0 l its.toArray n b its2.toArray n2 hlong (by rw[List.size_toArray];omega) (by omega)) ⟨e,e2,?_⟩
 refine⟨.non,_,I.lset (its':=its++its2) hH e (by simp) (r.append r2) ?_,rfl,q⟩
 rw[List.length_append]
 omega
def Q4:R2:=λx y H Q=>∃ l b xs zs,x=.ref l/\y=.ref b/\H l=some (.lst xs)/\H b=some (.lst zs)/\xs.length+zs.length<=sizeLine/\∀ p,H p=none->Q (.ref p) (upd H p (.lst (xs++zs)))
theorem mS:OpR X (binaryOp .Add) Q4:=by
 intro pins s σ H x y v u Q I rx ry h
 obtain⟨l,b,xs,zs,rfl,rfl,hH,hB,hz,q⟩:=h
 cases rx
 cases ry
 obtain⟨z,its,n,r,hl,e⟩:=I.lstM hH
 obtain⟨z2,its2,n2,r2,hl2,e2⟩:=I.lstM hB
 refine PySem.P.add_list e e2 ?_ (by rw[List.size_toArray,List.size_toArray];omega)
 have ea:its.toArray++its2.toArray=(its++its2).toArray:=by simp
 rw[ea]
 exact⟨.ref _,_,I.lnew (t':=s.toks) (r.append r2) (by rw[List.length_append];omega),rfl,q _ I.fresh⟩
def Q5:R2:=λx y H Q=>∃ l k xs,x=.ref l/\y=.int k/\H l=some (.lst xs)/\ -(2 ^ 63)<=k/\k<2 ^ 63/\xs.length * k.toNat<=sizeLine ∧
 ∀ p,H p=none->Q (.ref p) (upd H p (.lst (List.replicate k.toNat xs).flatten))
theorem WO{α :Type}(xs:List α)(k:Nat):(List.replicate k xs).flatten.length=k * xs.length:=by
 induction k with
 | zero=>simp
 | succ k ih=>rw[List.replicate_succ,List.flatten_cons,List.length_append,ih,Nat.succ_mul,Nat.add_comm]
theorem mT:OpR X (binaryOp .Mult) Q5:=by
 intro pins s σ H x y v u Q I rx ry h
 obtain⟨l,k,xs,rfl,rfl,hH,h1,h2,hz,q⟩:=h
 cases rx
 obtain⟨t,rfl⟩:=ry
 obtain⟨z,its,n,r,hl,e⟩:=I.lstM hH
 have hlen:its.toArray.size * k.toNat<=sizeLine:=by rw[List.size_toArray,<-hl];exact hz
 have hcap:¬ its.toArray.size * k.toNat >(2 ^ 63 - 1) / 8:=by
  have:(sizeLine:Nat)<=(2 ^ 63 - 1) / 8:=by decide
  omega
 have hfit:¬ (!Builtin.List.listFitsIndex k)=true:=by
  rw[fitsIndex_both h1 h2]
  exact Bool.false_ne_true
 have hlong:¬ Builtin.List.listTooLong (its.toArray.size * k.toNat)=true:=by
  rw[Q2 hlen]
  exact Bool.false_ne_true
 have hnew:List.foldl (λx1 x2=>x1++x2) #[] (List.replicate (if its.toArray.isEmpty=true then 0 else k.toNat) its.toArray)=(List.replicate k.toNat its).flatten.toArray:=by
  have f0:∀ m:Nat,List.foldl (λx1 x2=>x1++x2) #[] (List.replicate m its.toArray)=(List.replicate m its).flatten.toArray:=λm=>by
   have:=O0 its m []
   rw[List.nil_append]at this
   exact this
  rw[f0]
  cases its with
  | nil=>simp
  | cons a r'=>rw[if_neg (by simp)]
 refine wpAny_binaryOp_repeat_ref (T:="list") (U:="int") (by decide) ⟨_,e,rfl⟩ (λs'=>typeIs_int s' k t) noFill_list_mul F.fills_int_mul F.slot_int_rmul repeat_list F.slot_int_index.lookup
  (call_meets F.slot_int_rmul (typeIs_int s k t) F.entry_int_rmul (F.args_int_rmul_2 _ _) (int___rmul___int_list k t l its.toArray n)
   ⟨e,rfl,⟨_,e,rfl⟩,call_meets F.slot_list_mul ⟨_,e,rfl⟩ F.entry_list_mul (F.args_list_mul_2 _ _) (AutoListH.list___mul___list_int_3 l its.toArray n k t hfit hcap hlong) ⟨e,?_⟩⟩)
 rw[hnew]
 exact⟨.ref _,_,I.lnew (t':=s.toks) (r.rep k.toNat) (by rw[WO,Nat.mul_comm];exact hz),rfl,q _ I.fresh⟩
end
section
variable{prog:Program}{w:World}{A:Around}{E:Value->Shared->Prop}{s:Shared}
set_option maxRecDepth 100000 in
end
section
variable{X:Cx}
end
end L2
namespace L2
section
variable{κ :Type}[DecidableEq κ]
def CS(kvs:List (κ × V))(k: κ):Option V:=(kvs.find? λkv=>decide (kv.1=k)).map (·.2)
def DO(kvs:List (κ × V))(k: κ)(v:V):List (κ × V) :=
 if(kvs.any λkv=>decide (kv.1=k))=true then kvs.map (λkv=>if kv.1=k then(kv.1,v)else kv)else kvs++[(k,v)]
def WP(kvs:List (κ × V))(k: κ):List (κ × V):=kvs.filter λkv=>decide (kv.1≠k)
theorem FU{p: κ × V}{r:List (κ × V)}{k: κ}(e:p.1=k):CS (p::r) k=some p.2:=by simp[CS,List.find?_cons,e]
theorem FV{p: κ × V}{r:List (κ × V)}{k: κ}(e:¬ p.1=k):CS (p::r) k=CS r k:=by simp[CS,List.find?_cons,e]
theorem KJ(k: κ):∀ kvs:List (κ × V),(kvs.any λkv=>decide (kv.1=k))=(CS kvs k).isSome
 | []=>rfl
 | p::r=>by
  rw[List.any_cons]
  by_cases e:p.1=k
  ·simp only[FU e,decide_eq_true e,Bool.true_or,Option.isSome_some]
  ·rw[FV e,decide_eq_false e,Bool.false_or];exact KJ k r
theorem WQ(k j: κ)(y:V):∀ kvs:List (κ × V),CS (kvs.map λkv=>if kv.1=k then(kv.1,y)else kv) j=(CS kvs j).map λx=>if j=k then y else x
 | []=>rfl
 | p::r=>by
  have ih:=WQ k j y r
  rw[List.map_cons]
  by_cases h:p.1=k
  ·rw[if_pos h]
   by_cases e:p.1=j
   ·rw[FU (p:=(p.1,y)) e,FU e,Option.map_some,if_pos (e.symm.trans h)]
   ·rw[FV (p:=(p.1,y)) e,FV e,ih]
  ·rw[if_neg h]
   by_cases e:p.1=j
   ·rw[FU (p:=p) e,FU e,Option.map_some,if_neg (λz=>h (e.trans z))]
   ·rw[FV (p:=p) e,FV e,ih]
theorem WR(k j: κ)(y:V):∀ kvs:List (κ × V),CS kvs k=none->CS (kvs++[(k,y)]) j=if j=k then some y else CS kvs j
 | [],_=>by
  by_cases e:k=j
  ·rw[if_pos e.symm];exact FU (p:=(k,y)) e
  ·rw[if_neg (λz=>e z.symm)];exact FV (p:=(k,y)) e
 | p::r,hn=>by
  rw[List.cons_append]
  have hk:¬ p.1=k:=λz=>by rw[FU z]at hn;cases hn
  rw[FV hk]at hn
  have ih:=WR k j y r hn
  by_cases e:p.1=j
  ·rw[FU e,FU e,if_neg (λz=>hk (e.trans z))]
  ·rw[FV e,FV e,ih]
theorem mU(kvs:List (κ × V))(k j: κ)(y:V):CS (DO kvs k y) j=if j=k then some y else CS kvs j:=by
 unfold DO
 by_cases a:(kvs.any λkv=>decide (kv.1=k))=true
 ·rw[if_pos a,WQ]
  rw[KJ]at a
  by_cases e:j=k
  ·obtain⟨x,hx⟩:=Option.isSome_iff_exists.mp a
   rw[if_pos e,e,hx,Option.map_some,if_pos rfl]
  ·rw[if_neg e]
   cases CS kvs j with
   | none=>rfl
   | some x=>rw[Option.map_some,if_neg e]
 ·rw[if_neg a]
  refine WR k j y kvs ?_
  rw[KJ]at a
  cases q:CS kvs k with
  | none=>rfl
  | some x=>rw[q]at a;exact(a rfl).elim
theorem Q6(kvs:List (κ × V))(k: κ)(v:V):(DO kvs k v).length<=kvs.length+1:=by
 unfold DO
 split
 ·rw[List.length_map];omega
 ·rw[List.length_append,List.length_cons,List.length_nil];omega
theorem WS{kvs:List (κ × V)}{k: κ}(v:V)(h:CS kvs k=none):DO kvs k v=kvs++[(k,v)]:=by
 unfold DO
 rw[KJ,h]
 exact if_neg (by decide)
theorem RelO.isSome_eq{o:Option V}{u:Option Value}(r:RelO o u):o.isSome=u.isSome:=by
 cases o with
 | none=>cases u with
  | none=>rfl
  | some _=>exact(show False from r).elim
 | some _=>cases u with
  | none=>exact(show False from r).elim
  | some _=>rfl
theorem RelO.getD{o:Option V}{u:Option Value}{d:V}{d':Value}(r:RelO o u)(rd:RelV d d'):RelV (o.getD d) (u.getD d'):=by
 cases o with
 | none=>cases u with
  | none=>exact rd
  | some _=>exact(show False from r).elim
 | some _=>cases u with
  | none=>exact(show False from r).elim
  | some _=>exact r
theorem KV.val{kvs:List (κ × V)}{vs:List (κ × Value)}(r:KV kvs vs)(k: κ):RelO (CS kvs k) (valueAt vs k):=by
 unfold KV at r
 induction r with
 | nil=>exact True.intro
 | @cons p q ps qs h t ih =>
  obtain⟨h1,h2⟩:=h
  by_cases e:p.1=k
  ·have e':q.1=k:=h1.symm.trans e
   have b:valueAt (q::qs) k=some q.2:=by simp[valueAt,List.find?_cons,e']
   rw[FU e,b];exact h2
  ·have e':¬ q.1=k:=λz=>e (h1.trans z)
   have b:valueAt (q::qs) k=valueAt qs k:=by simp[valueAt,List.find?_cons,e']
   rw[FV e,b];exact ih
theorem KV.any{kvs:List (κ × V)}{vs:List (κ × Value)}(r:KV kvs vs)(k: κ):(kvs.any λkv=>decide (kv.1=k))=vs.any λkv=>decide (kv.1=k):=by
 unfold KV at r
 induction r with
 | nil=>rfl
 | cons h t ih=>rw[List.any_cons,List.any_cons,ih,h.1]
theorem KV.repl{kvs:List (κ × V)}{vs:List (κ × Value)}(r:KV kvs vs)(k: κ){y:V}{u:Value}(ry:RelV y u) :
  KV (kvs.map λkv=>if kv.1=k then(kv.1,y)else kv) (vs.map λkv=>if kv.1=k then(kv.1,u)else kv):=by
 unfold KV at r ⊢
 induction r with
 | nil=>exact .nil
 | @cons p q ps qs h t ih =>
  rw[List.map_cons,List.map_cons]
  refine .cons ?_ ih
  obtain⟨h1,h2⟩:=h
  by_cases e:p.1=k
  ·rw[if_pos e,if_pos (h1.symm.trans e)];exact⟨h1,ry⟩
  ·rw[if_neg e,if_neg (λz=>e (h1.trans z))];exact⟨h1,h2⟩
theorem KV.put{kvs:List (κ × V)}{vs:List (κ × Value)}(r:KV kvs vs)(k: κ){y:V}{u:Value}(ry:RelV y u):KV (DO kvs k y) (stored vs k u):=by
 unfold DO stored
 rw[r.any k]
 by_cases e:(vs.any λkv=>decide (kv.1=k))=true
 ·rw[if_pos e,if_pos e];exact r.repl k ry
 ·rw[if_neg e,if_neg e];exact Paired.snoc r ⟨rfl,ry⟩
theorem KV.drop{kvs:List (κ × V)}{vs:List (κ × Value)}(r:KV kvs vs)(k: κ):KV (WP kvs k) (without vs k):=by
 unfold KV at r ⊢
 unfold WP without
 induction r with
 | nil=>exact .nil
 | @cons p q ps qs h t ih =>
  obtain⟨h1,h2⟩:=h
  rw[List.filter_cons,List.filter_cons]
  by_cases e:p.1=k
  ·have a:¬ decide (p.1≠k)=true:=by simp[e]
   have b:¬ decide (q.1≠k)=true:=by simp[h1.symm.trans e]
   rw[if_neg a,if_neg b];exact ih
  ·have e':¬ q.1=k:=λz=>e (h1.trans z)
   have a:decide (p.1≠k)=true:=by simp[e]
   have b:decide (q.1≠k)=true:=by simp[e']
   rw[if_pos a,if_pos b];exact .cons ⟨h1,h2⟩ ih
theorem KV.keys{kvs:List (κ × V)}{vs:List (κ × Value)}(r:KV kvs vs):kvs.map (·.1)=vs.map (·.1):=by
 unfold KV at r
 induction r with
 | nil=>rfl
 | cons h t ih=>rw[List.map_cons,List.map_cons,ih,h.1]
theorem KV.length{kvs:List (κ × V)}{vs:List (κ × Value)}(r:KV kvs vs):kvs.length=vs.length:=Paired.length r
end
theorem Q7{P:Program}{w:World}{k:BD}{u:Value}(r:RelV (kV k) u):(EF P w).is k u=true:=by
 cases k with
 | inl i=>obtain⟨t,e⟩:=(show ∃ t,u=Value.int i t from r);subst e;exact jU P w i t
 | inr x=>obtain⟨t,e⟩:=(show ∃ t,u=Value.str x t from r);subst e;exact jV P w x t
theorem WT{P:Program}{w:World}:∀ {ks:List BD} {us:List Value},Vals (ks.map kV) us->ItemsAre (EF P w) ks us
 | [],_,r=>by rw[List.map_nil]at r;cases r;exact .nil
 | k::ks,_,r=>by
  rw[List.map_cons]at r
  cases r with
  | cons h t=>exact .cons (Q7 h) (WT t)
abbrev KT(H:Hp):List (List BD × V)->List (List BD × Addr × Value)->Prop:=Paired λp q=>p.1=q.1/\H q.2.1=some (.tup (p.1.map kV))/\RelV p.2 q.2.2
theorem KT.val{H:Hp}{kvs:List (List BD × V)}{xs:List (List BD × Addr × Value)}(r:KT H kvs xs)(k:List BD):RelO (CS kvs k) ((atKey xs k).map (·.2)):=by
 induction r with
 | nil=>exact True.intro
 | @cons p q ps qs h t ih =>
  obtain⟨h1,_,h2⟩:=h
  by_cases e:p.1=k
  ·have e':q.1=k:=h1.symm.trans e
   have b:atKey (q::qs) k=some q.2:=by simp[atKey,List.find?_cons,e']
   rw[FU e,b];exact h2
  ·have e':¬ q.1=k:=λz=>e (h1.trans z)
   have b:atKey (q::qs) k=atKey qs k:=by simp[atKey,List.find?_cons,e']
   rw[FV e,b];exact ih
theorem KT.repl{H:Hp}{kvs:List (List BD × V)}{xs:List (List BD × Addr × Value)}(r:KT H kvs xs)(k:List BD){y:V}{u:Value}(ry:RelV y u) :
  KT H (kvs.map λkv=>if kv.1=k then(kv.1,y)else kv) (xs.map (putAt k u)):=by
 induction r with
 | nil=>exact .nil
 | @cons p q ps qs h t ih =>
  rw[List.map_cons,List.map_cons]
  refine .cons ?_ ih
  obtain⟨h1,h2,h3⟩:=h
  unfold putAt
  by_cases e:p.1=k
  ·rw[if_pos e,if_pos (h1.symm.trans e)];exact⟨h1,h2,ry⟩
  ·rw[if_neg e,if_neg (λz=>e (h1.trans z))];exact⟨h1,h2,h3⟩
theorem KT.put{H:Hp}{kvs:List (List BD × V)}{xs:List (List BD × Addr × Value)}(r:KT H kvs xs)(k:List BD){b:Addr}{y:V}{u:Value}(hb:H b=some (.tup (k.map kV)))(ry:RelV y u) :
  KT H (DO kvs k y) (storedH xs k b u):=by
 have e:(kvs.any λkv=>decide (kv.1=k))=(atKey xs k).isSome:=by
  rw[KJ,(r.val k).isSome_eq,Option.isSome_map]
 unfold DO storedH
 rw[e]
 by_cases q:(atKey xs k).isSome=true
 ·rw[if_pos q,if_pos q];exact r.repl k ry
 ·rw[if_neg q,if_neg q];exact Paired.snoc r ⟨rfl,hb,ry⟩
theorem KT.keeps{H H':Hp}{kvs:List (List BD × V)}{xs:List (List BD × Addr × Value)}(r:KT H kvs xs)(ht:∀ b ys,H b=some (.tup ys)->H' b=some (.tup ys)):KT H' kvs xs :=
 Paired.mapP r λ_ _ z=>⟨z.1,ht _ _ z.2.1,z.2.2⟩
section
variable{P:Program}{w:World}{H:Hp}{h:Heap}{a:Addr}
theorem WU{u:HO}(ok:HOk P w H h)(e:Rd H a u):ObjOk P w H h a u:=e.ok ok
theorem WV{kvs:List (BD × V)}(ok:HOk P w H h)(e:Rd H a (.dK kvs)):kvs.length<=sizeLine/\(a == sysModules)=false/\∃ vs,KV kvs vs/\h.DictOf (EF P w) a vs :=
 show ObjOk P w H h a (.dK kvs)from WU ok e
theorem mV{kvs:List (BD × V)}(ok:HOk P w H h)(e:H a=some (.dK kvs)):kvs.length<=sizeLine/\(a == sysModules)=false/\∃ vs,KV kvs vs/\h.DictOf (EF P w) a vs:=WV ok (.inl e)
theorem Q8{ks:List BD}(ok:HOk P w H h)(e:H a=some (.tup (ks.map kV))):(tupleKind (EF P w)).is h ks a:=by
 obtain⟨_,its,r,o,h1,h2,n,h3⟩:=(show ObjOk P w H h a (.tup (ks.map kV))from ok a _ e)
 exact⟨o,its.toArray,n,h1,h2,h3,by simpa using WT r⟩
theorem WW{kvs:List (List BD × V)}(ok:HOk P w H h)(e:Rd H a (.dT kvs)):kvs.length<=sizeLine/\(a == sysModules)=false ∧
  ∃ xs,KT H kvs xs/\h.DictOfH (tupleKind (EF P w)) a xs:=by
 obtain⟨z,y,xs,r,o,es,ep,h1,h2,h3,h4,h5⟩:=(show ObjOk P w H h a (.dT kvs)from WU ok e)
 refine⟨z,y,xs,r,o,es,ep,h1,h2,h3,h4,λx hx=> ?_,h5⟩
 have all:∀ {l:List (List BD × V)} {m:List (List BD × Addr × Value)},KT H l m->∀ x∈m,(tupleKind (EF P w)).is h x.1 x.2.1:=by
  intro l m q
  induction q with
  | nil=>intro x hx;exact nomatch hx
  | @cons p q ps qs hq t ih =>
   intro x hx
   rcases List.mem_cons.mp hx with e | hx
   ·subst e
    exact Q8 ok (by rw[<-hq.1];exact hq.2.1)
   ·exact ih x hx
 exact all r x hx
theorem mW{kvs:List (List BD × V)}(ok:HOk P w H h)(e:H a=some (.dT kvs)):kvs.length<=sizeLine/\(a == sysModules)=false ∧
  ∃ xs,KT H kvs xs/\h.DictOfH (tupleKind (EF P w)) a xs:=WW ok (.inl e)
end
def DGet(H:Hp)(a:Addr)(y:V)(r:Option V):Prop :=
 (∃ kvs k,Rd H a (.dK kvs)/\y=kV k/\r=CS kvs k)\/∃ kvs k b,Rd H a (.dT kvs)/\y=.ref b/\H b=some (.tup (k.map kV))/\r=CS kvs k
def DPut(H:Hp)(a:Addr)(y v:V)(H':Hp):Prop :=
 (∃ kvs k,H a=some (.dK kvs)/\y=kV k/\kvs.length<sizeLine/\H'=upd H a (.dK (DO kvs k v))) ∨
 ∃ kvs k b,H a=some (.dT kvs)/\y=.ref b/\H b=some (.tup (k.map kV))/\kvs.length<sizeLine/\H'=upd H a (.dT (DO kvs k v))
theorem DGet.k{H:Hp}{a:Addr}{kvs:List (BD × V)}{k:BD}(e:H a=some (.dK kvs)):DGet H a (kV k) (CS kvs k):=.inl ⟨kvs,k,.inl e,rfl,rfl⟩
theorem DGet.t{H:Hp}{a b:Addr}{kvs:List (List BD × V)}{k:List BD}(e:H a=some (.dT kvs))(eb:H b=some (.tup (k.map kV))):DGet H a (.ref b) (CS kvs k):=.inr ⟨kvs,k,b,.inl e,rfl,eb,rfl⟩
theorem DPut.k{H:Hp}{a:Addr}{kvs:List (BD × V)}{k:BD}{v:V}(e:H a=some (.dK kvs))(hl:kvs.length<sizeLine):DPut H a (kV k) v (upd H a (.dK (DO kvs k v))):=.inl ⟨kvs,k,e,rfl,hl,rfl⟩
theorem DPut.t{H:Hp}{a b:Addr}{kvs:List (List BD × V)}{k:List BD}{v:V}(e:H a=some (.dT kvs))(eb:H b=some (.tup (k.map kV)))(hl:kvs.length<sizeLine) :
  DPut H a (.ref b) v (upd H a (.dT (DO kvs k v))):=.inr ⟨kvs,k,b,e,rfl,eb,hl,rfl⟩
section
variable{X:Cx}{pins:List (Addr × Obj)}{σ:St}{H:Hp}{s:Shared}{a:Addr}{y v:V}{u r:Value}{o:Option V}{A:Around}{E:Value->Shared->Prop}
theorem Inv.big(I:Inv X pins σ H s):sysModules<s.heap.objs.size:=by
 have h:mainGlobals<s.heap.objs.size:=(I.mod.glob.keeps I.bk).lt
 exact Nat.lt_trans (by decide) h
theorem mX{Q:Value->Shared->Prop}(hu:A.units+1<cLine)(I:Inv X pins σ H s)(g:DGet H a y o)(ry:RelV y u)(h:∀ s',Inv X pins σ H s'->Q (.bool o.isSome) s') :
  wpAny (model X.prog X.w) A (compareOp .In u (.ref a)) Q E s:=by
 rcases g with⟨kvs,k,e,ey,l⟩ | ⟨kvs,k,b,e,ey,eb,l⟩
 ·subst ey
  obtain⟨z,hd,vs,rel,dd⟩:=WV I.hok e
  refine wpAny_in_of (Q7 ry) hd dd.mapOf ?_
  rw[<-(rel.val k).isSome_eq,<-l]
  exact h _ (I.tok _)
 ·subst ey
  cases (show u=Value.ref b from ry)
  obtain⟨z,hd,xs,rel,dd⟩:=WW I.hok e
  refine wpAny_in_heap (tupleKind_room_in1 hu) (Q8 I.hok eb) hd dd ?_
  have q:=(rel.val k).isSome_eq
  rw[Option.isSome_map]at q
  rw[<-q,<-l]
  exact h _ (I.tok _)
theorem WX{h':Heap}{t':Nat}{ob:HO}(I:Inv X pins σ H s)(mu:MH (H a))(hs:Heap.SameBut a s.heap h')(he:∃ q,h'.get? a=some q)(new:ObjOk X.prog X.w (upd H a ob) h' a ob) :
  Inv X pins σ (upd H a ob) { s with heap:=h',toks:=t' } :=
 I.write (x:=a) (e:=a) mu (.inl rfl) (λb q hb z=>(hs.2 b hb).trans z) he new
theorem mY{P:Program}{w:World}{H':Hp}{h':Heap}{kvs:List (BD × V)}{vs:List (BD × Value)}(z:kvs.length<=sizeLine)(hd:(a == sysModules)=false)(rel:KV kvs vs)(dd:h'.DictOf (EF P w) a vs) :
  ObjOk P w H' h' a (.dK kvs):=⟨z,hd,vs,rel,dd⟩
theorem mZ{H':Hp}{Q:Unit->Shared->Prop}(hu:A.units+1<cLine)(I:Inv X pins σ H s)(g:DPut H a y v H')(ry:RelV y u)(rv:RelV v r)(h:∀ s',Inv X pins σ H' s'->Q () s') :
  wpAny (model X.prog X.w) A (setItem (.ref a) u r) Q E s:=by
 rcases g with⟨kvs,k,e,ey,l,eH⟩ | ⟨kvs,k,b,e,ey,eb,l,eH⟩
 ·subst ey eH
  obtain⟨z,hd,vs,rel,dd⟩:=mV I.hok e
  have hz:vs.length<=sizeLine:=by rw[<-rel.length];exact z
  have hl:(DO kvs k v).length<=sizeLine:=by have:=Q6 kvs k v;omega
  refine wpAny_setItem_pairs (hsz:=hz) (Q7 ry) dd λh' dd' hs=>h _ ?_
  have he:∃ q,h'.get? a=some q:=let ⟨q,_,_,hq,_⟩:=dd';⟨q,hq⟩
  exact WX I (by rw[e];exact True.intro) hs he (mY hl hd (rel.put k rv) dd')
 ·subst ey eH
  cases (show u=Value.ref b from ry)
  obtain⟨z,hd,xs,rel,dd⟩:=mW I.hok e
  have hz:xs.length<=sizeLine:=by rw[<-Paired.length rel];exact z
  have hl:(DO kvs k v).length<=sizeLine:=by have:=Q6 kvs k v;omega
  refine wpAny_setItem_heap (hsz:=hz) (tupleKind_room_in1 hu) (Q8 I.hok eb) dd λh' dd' hs=>h _ ?_
  obtain⟨q,es,ep,hq,h2,h3,h4,_,h5⟩:=dd'
  refine WX I (by rw[e];exact True.intro) hs ⟨q,hq⟩ ⟨hl,hd,_,(rel.put k eb rv).keeps λc ys ec=> ?_,q,es,ep,hq,h2,h3,h4,h5⟩
  rw[AW (DU ec e (λz=>nomatch z))]
  exact ec
end
section
variable{X:Cx}{pins:List (Addr × Obj)}{σ:St}{H:Hp}{s:Shared}{a:Addr}{kvs:List (BD × V)}{k:BD}{u:Value}{A:Around}{E:Value->Shared->Prop}
end
def m8(td ty:TE):TE:=λσ H Q=>td σ H λx H1=>ty σ H1 λy H2=>∃ a v,x=.ref a/\DGet H2 a y (some v)/\Q v H2
def Q9(ty td:TE):TE:=λσ H Q=>ty σ H λy H1=>td σ H1 λx H2=>∃ a o,x=.ref a/\DGet H2 a y o/\Q (.bl o.isSome) H2
def m9(ty td:TE):TE:=λσ H Q=>ty σ H λy H1=>td σ H1 λx H2=>∃ a o,x=.ref a/\DGet H2 a y o/\Q (.bl (!o.isSome)) H2
def RA(td ty tv:TE):TS:=λD σ H=>tv σ H λv H1=>td σ H1 λx H2=>ty σ H2 λy H3=>∃ a H4,x=.ref a/\DPut H3 a y v H4/\D.nx σ H4
section
variable{X:Cx}{o i e value:Expr}{pos pos' tpos:Pos}{td ty tv:TE}
theorem nB(hu:X.A.units+1<cLine)(hi:PE X i ty)(ho:PE X o td):PC X .In i o (Q9 ty td):=by
 intro pins s σ H Q I h
 refine AZ (hi pins s σ H _ I h) λiv s1 ⟨y,H1,I1,ry,q1⟩=>AZ (ho pins s1 σ H1 _ I1 q1) λu s2 ⟨x,H2,I2,rx,a,ov,ex,g,q2⟩=> ?_
 subst ex
 obtain rfl:u=Value.ref a:=rx
 exact mX hu I2 g ry λs3 I3=>⟨.bl ov.isSome,H2,I3,rfl,q2⟩
theorem nD(hu:X.A.units+1<cLine)(ho:PE X o td)(hi:PE X i ty)(hv:PE X value tv)(hs:swapsWith value (some (.Subscript o i pos')) pos.line X.env=pure false) :
  PS X (.Assign [.Subscript o i pos'] value pos) (RA td ty tv):=by
 intro pins s σ H D I h
 refine wpAny_Assign_Subscript (AZ (hv pins s σ H _ I h) λr s1 ⟨v,H1,I1,rv,q1⟩=>AZ (ho pins s1 σ H1 _ I1 q1) λu s2 ⟨x,H2,I2,rx,q2⟩=>AZ (hi pins s2 σ H2 _ I2 q2) λiv s3 ⟨y,H3,I3,ry,a,H4,ex,g,q3⟩=> ?_) hs
 subst ex
 obtain rfl:u=Value.ref a:=rx
 exact mZ hu I3 g ry rv λs4 I4=>⟨σ,H4,I4,q3⟩
end
theorem nE{P:Program}{w:World}{H:Hp}(h:Heap)(hb:sysModules<h.objs.size):ObjOk P w H (h.push { cls:=.type "dict",data:=.dict #[] }) h.objs.size (.dK []) :=
 ⟨Nat.zero_le _,beq_eq_false_iff_ne.mpr (Ne.symm (Nat.ne_of_lt hb)),[],.nil,Heap.DictOf.new h⟩
def RB:TE:=λ_ H Q=>∀ p,H p=none->Q (.ref p) (upd H p (.dK []))
def nF:TE:=λ_ H Q=>∀ p,H p=none->Q (.ref p) (upd H p (.dT []))
section
variable{X:Cx}{pos:Pos}
theorem nH:PE X (.Dict [] [] pos) RB:=λpins s σ H Q I h =>
 wpAny_Dict_empty ⟨.ref s.heap.objs.size,_,I.laid (a:=s.heap.objs.size) (o:=.dK []) (t':=s.toks) (λ_ _ q=>Heap.get?_push_of_some _ q) (Nat.le_refl _) (nE s.heap I.big),rfl,h _ (I.hok.fresh (Nat.le_refl _))⟩
end
structure M1(X:Cx)(o:Expr)(m:Str)(apos:Pos)(e:Expr)(cpos:Pos):Prop where
 base:attributeBase o m X.env (eval o X.env)=eval o X.env
 few:((backTo cpos (starEach [e] X.env)).all (λx=> !x.1) && (backToKw cpos (keywordEach [] X.env)).all (λx=>x.1.isSome)
  && decide (([e]:List Expr).length+([]:List Keyword).length+(if([]:List Keyword).isEmpty then 0 else 1)<30))=true
 line:(apos.endLine == cpos.line)=true
 trees:backTo cpos (starEach [e] X.env)=[(false,eval e X.env)]
structure M2(X:Cx)(o:Expr)(m:Str)(apos:Pos)(e f:Expr)(cpos:Pos):Prop where
 base:attributeBase o m X.env (eval o X.env)=eval o X.env
 few:((backTo cpos (starEach [e,f] X.env)).all (λx=> !x.1) && (backToKw cpos (keywordEach [] X.env)).all (λx=>x.1.isSome)
  && decide (([e,f]:List Expr).length+([]:List Keyword).length+(if([]:List Keyword).isEmpty then 0 else 1)<30))=true
 line:(apos.endLine == cpos.line)=true
 trees:backTo cpos (starEach [e,f] X.env)=[(false,eval e X.env),(false,eval f X.env)]
def WY(H:Hp)(a:Addr):Prop:=(∃ kvs,Rd H a (.dK kvs))\/∃ kvs,Rd H a (.dT kvs)
section
variable{X:Cx}{pins:List (Addr × Obj)}{σ:St}{H:Hp}{s:Shared}{a:Addr}{y d:V}{u r:Value}{o:Option V}{A:Around}{E:Value->Shared->Prop}
end
def nJ(td ty:TE):TE:=λσ H Q=>td σ H λx H1=>∃ a,x=.ref a/\WY H1 a/\ty σ H1 λy H2=>∃ o,DGet H2 a y o/\Q (o.getD .non) H2
section
variable{X:Cx}{o e f:Expr}{apos cpos:Pos}{td ty tx:TE}
end
section
variable{X:Cx}{pins:List (Addr × Obj)}{σ:St}{H:Hp}{s:Shared}{a:Addr}{kvs:List (BD × V)}{A:Around}{E:Value->Shared->Prop}
end
section
variable{X:Cx}{pins:List (Addr × Obj)}{σ:St}{H:Hp}{s:Shared}{a:Addr}{y:V}{u:Value}{A:Around}{E:Value->Shared->Prop}
end
end L2
namespace Att
open PySem PySem.W PySem.Calls PyProof.Rows
theorem nK{P:Params}{h:Heap}:∀ (ns:List Int) (vs:List Value),WellAll P h vs (ns.map WData.int)->IntsAre vs ns:=by
 intro ns
 induction ns with
 | nil =>
  intro vs w
  rw[List.map_nil]at w
  cases w
  exact .nil
 | cons n ns ih =>
  intro vs w
  rw[List.map_cons]at w
  cases w with
  | cons a b =>
   cases a
   exact .cons _ _ (ih _ b)
theorem nQ{l:OpenLaw}{n:Nat}(hn:l.most=some n){P:Params}{h:Heap}{args:List WData}{vals:List Value}
  (hpre:l.row.toRowW.claim.pre args=true) (hwl:WellAll P h vals args) :
  ∃ a vs ns,vals=[Value.ref a]/\args=[WData.list (ns.map WData.int)]/\h.get? a=some { cls:=.type "list",data:=.seq vs.toArray }/\IntsAre vs ns/\ns.length<=n:=by
 have hsh:WShape.hasAll [] args [.list .int]=true:=(pre_splitW hpre).1
 have hc:l.pre.holds [] { args:=args }=true:=(pre_splitW hpre).2
 obtain⟨d,r,rfl,h1,h2⟩:=hasAllW_cons hsh
 obtain rfl:=hasAllW_nil h2
 obtain⟨xs,rfl,h3⟩:=hasW_list h1
 obtain⟨ns,rfl⟩:=items_int h3
 have hlen:ns.length<=n:=by
  unfold OpenLaw.pre at hc
  have h4:(WTm.not (.lt (.lit (.int (n:Int))) (.len (.arg 0)))).holds [] { args:=[.list (ns.map .int)] }=true:=by
   have h4:=(holds_andW hc).1
   rw[hn]at h4
   exact h4
  have h5:=condW_of h4 (w_not (w_lt w_lit (w_len_list (w_arg rfl))))
  rw[List.length_map]at h5
  refine Nat.le_of_not_lt λq=> ?_
  have q':(n:Int)<((ns.length:Nat):Int):=by omega
  first
   | (rw[decide_eq_true q']at h5;exact absurd h5 (by decide))
   | (simp at h5;omega)
 cases hwl with
 | cons w1 w2 =>
  cases w2
  cases w1 with
  | list ho hall=>exact⟨_,_,ns,rfl,rfl,ho,nK ns _ hall,hlen⟩
theorem nR(l:OpenLaw)(args:List WData):l.row.toRowW.claim.post args (.bool true) args=true :=
 postW_of (r:=l.row.toRowW) (X:=(true == true))
  (show WShape.has [] (.bool true) .bool=true by first | rfl | decide | simp[WShape.has,WShape.arms,WShape.armsAll])
  (show(WTm.eq .res (.lit (.bool true))).value [] { args:=args,res:=some (.bool true),after:=args }=some (.bool (true == true))from w_eq_bool (w_res rfl) w_lit) rfl
theorem attach_call{l:OpenLaw}{n:Nat}{q:Program}{loose:List Str}{XP:(Str->Option Value)->Heap->Prop}{YP:World->Heap->Prop}{d:DefRec}
  (hn:l.most=some n) (hdf:d.params.defaults=[])
  (call:∀ (w:World) (s₀ s₁:Shared) (mg mb:Str->Option Value) (fa:Addr) (o:Obj) (pm cd doc:Value) (a:Addr) (vs:List Value) (ns:List Int),
   Ground q loose [] XP w s₀ mg mb s₁.heap->YP w s₁.heap →
   s₁.heap.get? fa=some o->o.data=.func (docDef d.name d.params d.body d.scope pm cd doc)->s₁.heap.CodeRec cd d.name->mg d.name=some (.ref fa) →
   s₁.heap.get? a=some { cls:=.type "list",data:=.seq vs.toArray }->IntsAre vs ns->ns.length<=n->s₁.gens= #[] →
   codeAny (model l.prog w) callerA (.call (.ref fa) ⟨[.ref a],[]⟩) (λr s'=>r=.ok (.ret (.bool true))/\OldK s₁.heap s'.heap/\s'.os=s₁.os/\AllBare s'.gens) s₁) :
  WalkO q loose XP YP l.row.toRowW d [] (λf vs=>PySem.call f vs):=by
 intro w s₀ s₁ mg mb G Y fa o pm cd doc dV kV ho hd hcd hD hmg hg args vals as hpre hlay hrd hwl hlo
 obtain rfl:dV=.none:=Dflts.none hD hdf
 obtain rfl:kV=.none:=Dflts.noKw hD
 obtain⟨a,vs,ns,rfl,rfl,hobj,hints,hlen⟩:=nQ hn hpre hwl
 refine enter_call (codeAny_mono (call w s₀ s₁ mg mb fa o pm cd doc a vs ns G Y ho (fd_plain hd) hcd hmg hobj hints hlen hg) λr s' hq=> ?_)
 obtain⟨rfl,h2,h3,h4⟩:=hq
 exact⟨.inl ⟨.bool true,.bool true,[],rfl,λ_=>rfl,.bool true,nR l _,λ_=>⟨List.Pairwise.nil,λ_ hm=>(nomatch hm)⟩⟩,h2,h3,h4⟩
section
variable{prog:Program}{w:World}{A:Around}{E:Value->Shared->Prop}{s:Shared}{K:Frag}
def zbb(h:Heap)(L d:Addr):List (Addr × Obj):=(List.range h.objs.size).filterMap λa=>if a=L\/a=d then none else(h.get? a).map λo=>(a,o)
end
end Att
namespace L2
theorem RC:∀ {vs:List Value} {ns:List Int},IntsAre vs ns->Vals (ns.map V.int) vs
 | _,_,.nil=>.nil
 | _,_,.cons n t h=>.cons ⟨t,rfl⟩ (RC h)
def RD(H:Hp):Prop:=∀ b,H b=none\/∃ o xs,H b=some (.frz o (.lst xs))
theorem nS {P:Program} {w:World} {K:W.Frag} {mg mb:Str->Option Value} {CX:EH} {k:Nat} {fa a:Addr} {fd:FuncData} {x:Str} {sp:Sp} {s₁:Shared} {vs:List Value} {ns:List Int}
    (KX:K.In s₁.heap) (hns:s₁.heap.Ns mainGlobals mg) (hb:s₁.heap.Ns builtinsNs mb) (hbb:∀ x:Str,x≠"__name__"->mb x=bootBuiltins x) (hlim:s₁.heap.NoLimit) (hg:s₁.gens= #[])
    (ha:s₁.heap.get? a=some { cls:=.type "list",data:=.seq vs.toArray }) (hi:IntsAre vs ns) (hl:ns.length<=sizeLine) (hr:Room k callerA)
    (F:∀ base:Heap,K.In base->base.Ns mainGlobals mg->FnOk P w K mg base CX k fa fd [x] sp) (hbind:∀ (s:Shared) (u:Value),BindsTo s fd ⟨[u],[]⟩ [(x,u)])
    (hsp:∀ H:Hp,RD H->SqL K H a (ns.map V.int)->sp [.ref a] H (λv _=>v=.bl true) λ_ _ _=>False)
    (hCX:∀ H e s',CX [] H s₁ (λ_ _ _=>False) e s'->False) :
    codeAny (model P w) callerA (.call (.ref fa) ⟨[.ref a],[]⟩) (λr s'=>r=.ok (.ret (.bool true))/\OldK s₁.heap s'.heap/\s'.os=s₁.os/\AllBare s'.gens) s₁:=by
  have rv:=RC hi
  have lenV:=hi.length
  have core:∀ H:Hp,RD H->SqL K H a (ns.map V.int)->HOk P w H s₁.heap->(∀ b,H b≠none->b=a)->(H a≠none->K.lookup a=none) →
      codeAny (model P w) callerA (.call (.ref fa) ⟨[.ref a],[]⟩) (λr s'=>r=.ok (.ret (.bool true))/\OldK s₁.heap s'.heap/\s'.os=s₁.os/\AllBare s'.gens) s₁:=by
    intro H hO hS hok hA hK
    have base_of:∀ {b:Addr} {o:Obj},s₁.heap.get? b=some o->H b=none->(GW s₁.heap H).get? b=some o:=λe n=>jX e n
    have noA:∀ {b:Addr} {o:Obj} {es:Array DictEntry} {ep:Nat},s₁.heap.get? b=some o->o.data=.dict es ep->H b=none:=λ{b o es ep} e d=>by
      cases q:H b with
      | none=>rfl
      | some u =>
        have e':b=a:=hA b (by rw[q];simp)
        subst e'
        rw[ha]at e;cases e
        have d':Data.seq vs.toArray _=Data.dict es ep:=d
        cases d'
    have nsK:∀ {b:Addr} {m:Str->Option Value},s₁.heap.Ns b m->(GW s₁.heap H).Ns b m:=λ{b m} ⟨o,es,ep,e,d,r⟩=>⟨o,es,ep,base_of e (noA e d),d,r⟩
    have hKb:K.In (GW s₁.heap H):=λb o e=>base_of (KX b o e) (by
      cases q:H b with
      | none=>rfl
      | some u =>
        have e':b=a:=hA b (by rw[q];simp)
        subst e'
        rw[hK (by rw[q];simp)]at e;cases e)
    have hM:Mod K mg (GW s₁.heap H):=⟨hKb,nsK hns,⟨mb,nsK hb,hbb⟩,let ⟨mc,h1,h2⟩:=hlim;⟨mc,nsK h1,h2⟩⟩
    have e0:Env0 P w K mg (GW s₁.heap H) callerA [] s₁ H:=⟨rfl,hM,λb o e=>jY e,Nat.le_of_eq (jW _ _),trivial,λb hb=>absurd (show b∈([]:List Addr)from hb) (by simp),hok,.of_eq hg⟩
    refine codeAny_mono ((F _ hKb (nsK hns)).run callerA [] s₁ H ⟨[.ref a],[]⟩ [.ref a] [.ref a] _ _ hr e0 (hbind s₁ (.ref a)) (.cons rfl .nil) (hsp H hO hS)) λr s' h=> ?_
    cases r with
    | error e=>exact(hCX H e s' h).elim
    | ok fl =>
      cases fl with
      | next=>exact False.elim h
      | brk=>exact False.elim h
      | cont=>exact False.elim h
      | ret u =>
        obtain⟨v,H',os,bare,un,hok',r',q⟩:=h
        have q':v=.bl true:=q
        subst q'
        obtain rfl:u=Value.bool true:=r'
        refine⟨rfl,OldK.of_keep λb o e=> ?_,os,bare⟩
        cases q:H b with
        | none=>exact un.keep b o e q (by intro z;exact absurd (show b∈([]:List Addr)from z) (by simp)) (by simp)
        | some u =>
          rcases hO b with z | ⟨ob,xs,z⟩
          ·rw[q]at z;cases z
          · have z2:=un.frzs b ob _ z
            obtain⟨e1,_⟩:=hok b _ z
            obtain⟨e2,_⟩:=hok' b _ z2
            rw[e]at e1;cases e1
            exact e2
  cases hk:K.lookup a with
  | some o =>
    have e:=KX a o hk
    rw[ha]at e
    cases e
    refine core (λ_=>none) (λ_=>.inl rfl) (.inr ⟨_,vs.toArray,_,hk,rfl,rfl,rfl,by rw[List.size_toArray,lenV];exact hl,by simpa using rv⟩) (λb u z=>by have z':(none:Option HO)=some u:=z;cases z') (λb z=>absurd rfl z) λz=>absurd rfl z
  | none =>
    refine core (λb=>if b=a then some (.frz { cls:=.type "list",data:=.seq vs.toArray } (.lst (ns.map V.int)))else none) (λb=> ?_) (.inl (.inr ⟨{ cls:=.type "list",data:=.seq vs.toArray },if_pos rfl⟩)) (λb u z=> ?_) (λb z=> ?_) λ_=>hk
    · by_cases hb:b=a
      ·exact .inr ⟨_,_,if_pos hb⟩
      ·exact .inl (if_neg hb)
    · by_cases hb:b=a
      · have z':=(if_pos hb).symm.trans z
        cases z'
        subst hb
        exact⟨ha,by rw[List.length_map];exact hl,vs,_,rv,ha⟩
      · have z':=(if_neg hb).symm.trans z
        cases z'
    · by_cases hb:b=a
      ·exact hb
      ·exact absurd (if_neg hb) z
end L2
namespace L2
abbrev KOf{K:W.Frag}{h:Heap}(_:K.In h):W.Frag:=K
theorem walk_of{l:W.OpenLaw}{n k:Nat}{q:Program}{loose:List Str}{XP:(Str->Option Value)->Heap->Prop}{YP:World->Heap->Prop}{d:DefRec}{K:Params->W.Frag}{CX:World->EH}{sp:World->Sp}{x:Str}
  (hn:l.most=some n) (hn2:n<=sizeLine) (hdf:d.params.defaults=[]) (hr:Room k callerA)
  (hY:∀ (w:World) (h:Heap),YP w h->(K w.params).In h)
  (F:∀ (w:World) (mg:Str->Option Value) (fa:Addr) (h:Heap),(K w.params).In h->h.Ns mainGlobals mg->mg d.name=some (.ref fa) →
   ∃ fd:FuncData,(∀ (s:Shared) (u:Value),BindsTo s fd ⟨[u],[]⟩ [(x,u)]) ∧
    ∀ base:Heap,(K w.params).In base->base.Ns mainGlobals mg->FnOk l.prog w (K w.params) mg base (CX w) k fa fd [x] (sp w))
  (hsp:∀ (w:World) (H:Hp) (a:Addr) (ns:List Int),ns.length<=n->RD H->SqL (K w.params) H a (ns.map V.int)->sp w [.ref a] H (λv _=>v=.bl true) λ_ _ _=>False)
  (hCX:∀ (w:World) (H:Hp) (s:Shared) (e:Value) (s':Shared),CX w [] H s (λ_ _ _=>False) e s'->False) :
  W.WalkO q loose XP YP l.row.toRowW d [] (λf vs=>PySem.call f vs):=by
 refine Att.attach_call hn hdf λw s₀ s₁ mg mb fa o pm cd doc a vs ns G Y ho hd hcd hmg hobj hints hlen hg=> ?_
 have KX:=hY w _ Y
 obtain⟨fd,hb,hF⟩:=F w mg fa _ KX G.T.g hmg
 exact nS KX G.T.g G.T.b G.T.builtins G.T.nolimit hg hobj hints (Nat.le_trans hlen hn2) hr hF hb (λH hO hS=>hsp w H a ns hlen hO hS) λH e s'=>hCX w H s₁ e s'
end L2
namespace L2
def DR(s:Stmt)(j:Nat):Stmt:=match s with
 | .ClassDef _ _ _ body _ _ _ _ _ _ _=>body.getD j (.Pass ⟨0,0,0,0⟩)
 | _=>.Pass ⟨0,0,0,0⟩
def BF(s:Stmt):Arguments:=match s with
 | .FunctionDef _ a _ _ _ _ _ _ _ _=>a
 | _=>{ posonlyargs:=[],args:=[],vararg:=none,kwonlyargs:=[],kw_defaults:=[],kwarg:=none,defaults:=[] }
def A9(s:Stmt):List Stmt:=match s with
 | .FunctionDef _ _ b _ _ _ _ _ _ _=>b
 | _=>[]
def AO(s:Stmt):Scope:=match s with
 | .FunctionDef _ _ _ _ _ _ sc _ _ _=>sc
 | _=>{ kind:=.function,names:=[],isGenerator:=false,isCoroutine:=false }
abbrev WZ:EH:=λ_ _ _ _ _ _=>False
abbrev E0:XK:=λ_ _ _=>False
structure Fun(K:W.Frag)(x qual:Str)(st:Stmt)(f:Addr)(fd:FuncData):Prop where
 ex:∃ (oc:Value) (od:Option Addr) (kV doc pm:Value) (an:Option Addr) (cdv ct:Value) (osl:Array (Option Value)),
  fd=W.fnOf x qual (BF st) (A9 st) (AO st) .none kV doc pm an cdv ct/\K.lookup f=some ⟨oc,od,.func fd,osl⟩/\W.codeIn K cdv qual=true
 kp:W.keepIn K (.ref f)=true
section
variable{P:Program}{w:World}{K:W.Frag}{mg:Str->Option Value}{base:Heap}
theorem Fun.ok{x qual:Str}{st:Stmt}{f:Addr}{fd:FuncData}{N ps:List Str}{k:Nat}{sp:Sp}(F:Fun K x qual st f fd)(S:FnScope N ps (AO st))(len:∀ vs H Q E,sp vs H Q E->vs.length=ps.length)
  (hbody:∀ (cdv:Value) (A:Around) (outer:List Env) (s:Shared) (H:Hp) (vs:List V) (Q:VK) (E:XK),Room k (A.deeper (envOfC qual (AO st) s.heap.objs.size f cdv))->sp vs H Q E →
   ∃ t,PSs (GD WZ P w K mg base N qual (AO st) f cdv A outer s H E).nox (A9 st) t/\t { nx:=λ_ H'=>Q .non H',rt:=Q } (A6 N vs) H):FnOk P w K mg base WZ (k+1) f fd ps sp:=by
 obtain⟨oc,od,kV,doc,pm,an,cdv,ct,osl,rfl,lk,hcd⟩:=F.ex
 refine VZ lk hcd S len λA outer s H vs Q E hr hsp=> ?_
 obtain⟨t,h,q⟩:=hbody cdv A outer s H vs Q E hr hsp
 exact⟨t,h.nox,q⟩
theorem Fun.binds{x qual:Str}{st:Stmt}{f:Addr}{fd:FuncData}{ps:List Str}(F:Fun K x qual st f fd)
  (h:∀ (kV doc pm:Value) (an:Option Addr) (cdv ct:Value) (us:List Value),us.length=ps.length->bindArgs (W.fnOf x qual (BF st) (A9 st) (AO st) .none kV doc pm an cdv ct) ⟨us,[]⟩=pure (ps.zip us)):Binds K fd ps []:=by
 obtain⟨oc,od,kV,doc,pm,an,cdv,ct,osl,rfl,lk,hcd⟩:=F.ex
 exact .all (h kV doc pm an cdv ct)
theorem BI{x qual:Str}{st:Stmt}{f:Addr}{oc:Value}{od an:Option Addr}{osl:Array (Option Value)}{kV doc pm cdv ct:Value}(l:K.lookup f=some ⟨oc,od,.func (W.fnOf x qual (BF st) (A9 st) (AO st) .none kV doc pm an cdv ct),osl⟩)
  (c:W.codeIn K cdv qual=true) (k:W.keepIn K (.ref f)=true):Fun K x qual st f (W.fnOf x qual (BF st) (A9 st) (AO st) .none kV doc pm an cdv ct):=⟨⟨oc,od,kV,doc,pm,an,cdv,ct,osl,rfl,l,c⟩,k⟩
end
theorem W1{A:Around}{k:Nat}(hr:Room k A):A.units+1<cLine:=Nat.lt_of_le_of_lt (Nat.add_le_add_left (by decide:1<=64) _) hr.units
section
variable{X:Cx}
theorem pv(i:Nat){x:Str}{pos:Pos}(hN:X.N[i]? =some x:=by rfl)(hv:OI X.env.scope x:=by first | exact Or.inl rfl | exact Or.inr (Or.inl rfl) | exact Or.inr (Or.inr rfl))(hd:(x ==("__debug__":Str))=false:=by decide)
  (hcd:(x ==("__classdict__":Str))=false:=by decide):PE X (.Name x pos) (OJ i):=VB hN hv hd hcd
end
def Same(H H':Hp):Prop:=∀ b o,H b=some o->H' b=some o
theorem Same.refl(H:Hp):Same H H:=λ_ _ h=>h
theorem Same.trans{H H1 H2:Hp}(a:Same H H1)(b:Same H1 H2):Same H H2:=λc o h=>b c o (a c o h)
theorem Same.free{H H':Hp}(e:Same H H'){l:Addr}(h:H' l=Option.none):H l=Option.none:=by
 cases q:H l with
 | none=>rfl
 | some o =>
  rw[e l o q]at h
  cases h
theorem Same.seq{K:W.Frag}{H H':Hp}{a:Addr}{xs:List V}(e:Same H H')(h:SqL K H a xs):SqL K H' a xs:=by
 rcases h with(h | ⟨o,h⟩) | h
 ·exact .inl (.inl (e _ _ h))
 ·exact .inl (.inr ⟨o,e _ _ h⟩)
 ·exact .inr h
section
variable{κ :Type}[DecidableEq κ]
theorem nT{kvs:List (κ × V)}{k: κ}(h:CS kvs k=none):¬ k∈kvs.map (·.1):=by
 intro m
 obtain⟨p,hp,e⟩:=List.mem_map.mp m
 have q:(kvs.any λkv=>decide (kv.1=k))=true:=List.any_eq_true.mpr ⟨p,hp,decide_eq_true e⟩
 rw[KJ,h]at q
 exact absurd q (by simp)
theorem W2:∀ {l:List κ} {k: κ},l.Nodup->¬ k∈l->(l++[k]).Nodup
 | [],k,_,_=>by simp
 | a::r,k,h,hk=>by
  obtain⟨h1,h2⟩:=List.nodup_cons.mp h
  show(a::(r++[k])).Nodup
  refine List.nodup_cons.mpr ⟨λm=> ?_,W2 h2 λm=>hk (List.mem_cons.mpr (Or.inr m))⟩
  rcases List.mem_append.mp m with q | q
  ·exact h1 q
  ·exact hk (List.mem_cons.mpr (Or.inl (List.mem_singleton.mp q).symm))
theorem nU{kvs:List (κ × V)}{k: κ}(v:V)(hn:(kvs.map (·.1)).Nodup)(h:CS kvs k=none):((DO kvs k v).map (·.1)).Nodup:=by
 rw[WS v h,List.map_append]
 exact W2 hn (nT h)
end
end L2
namespace L2
theorem RE{env:Env}:∀ (names:List (Str × NameKind)) (cs:List (Str × Addr)),
  (∀ x∈names,x.2=.free->∃ c,env.cells.lookup x.1=some c)->(∀ x c,cs.lookup x=some c->env.cells.lookup x=some c) →
  ∃ cl,(forIn names cs λx r=>(if(x.2 == NameKind.free)=true then do let a ← cellOf env x.1;pure (ForInStep.yield ((x.1,a)::r))else pure (ForInStep.yield r):Sem (ForInStep (List (Str × Addr)))))=pure cl ∧
   (∀ x c,cl.lookup x=some c->env.cells.lookup x=some c)/\(∀ x,(cs.lookup x).isSome=true->(cl.lookup x).isSome=true) ∧
   ∀ x∈names,x.2=.free->(cl.lookup x.1).isSome=true
 | [],cs,_,h=>⟨cs,rfl,h,λ_ z=>z,λ_ z=>nomatch z⟩
 | (n,k)::r,cs,hf,h=>by
  by_cases hk:k=.free
  ·subst hk
   obtain⟨c,hc⟩:=hf (n,.free) List.mem_cons_self rfl
   obtain⟨cl,e,h1,h2,h3⟩:=RE r ((n,c)::cs) (λx hx=>hf x (List.mem_cons_of_mem _ hx)) (λx c' hx=>by
    by_cases hxn:x=n
    ·subst hxn;simp only[List.lookup_cons,beq_self_eq_true]at hx;cases hx;exact hc
    ·have:(x == n)=false:=beq_eq_false_iff_ne.mpr hxn
     simp only[List.lookup_cons,this]at hx;exact h x c' hx)
   refine⟨cl,?_,h1,λx hx=>h2 x ?_,λx hx hxf=> ?_⟩
   ·rw[List.forIn_cons]
    show((if(NameKind.free == NameKind.free)=true then _ else _) >>= _)=_
    rw[if_pos (show(NameKind.free == NameKind.free)=true from rfl)]
    unfold cellOf
    show(((match env.cells.lookup n with | some a=>pure a | none=>_) >>= _) >>= _)=_
    rw[hc]
    exact e
   ·by_cases hxn:x=n
    ·subst hxn;simp
    ·have:(x == n)=false:=beq_eq_false_iff_ne.mpr hxn
     simp only[List.lookup_cons,this];exact hx
   ·rcases List.mem_cons.mp hx with rfl | hx
    ·exact h2 n (by simp)
    ·exact h3 x hx hxf
  ·obtain⟨cl,e,h1,h2,h3⟩:=RE r cs (λx hx=>hf x (List.mem_cons_of_mem _ hx)) h
   refine⟨cl,?_,h1,h2,λx hx hxf=> ?_⟩
   ·rw[List.forIn_cons]
    have hb:(k == NameKind.free)=false:=by simpa using hk
    show((if(k == NameKind.free)=true then _ else _) >>= _)=_
    rw[if_neg (by simp[hb])]
    exact e
   ·rcases List.mem_cons.mp hx with rfl | hx
    ·exact absurd hxf hk
    ·exact h3 x hx hxf
theorem W3{env:Env}{scope:Scope}(hf:∀ x∈scope.names,x.2=.free->∃ c,env.cells.lookup x.1=some c) :
  ∃ cl,closureFor scope env=pure cl/\(∀ x c,cl.lookup x=some c->env.cells.lookup x=some c)/\∀ x∈scope.names,x.2=.free->(cl.lookup x.1).isSome=true:=by
 obtain⟨cl,e,h1,_,h3⟩:=RE (env:=env) scope.names [] hf (λx c h=>by simp at h)
 refine⟨cl,?_,h1,h3⟩
 unfold closureFor
 show(forIn scope.names ([]:List (Str × Addr)) _ >>= _)=_
 have:(forIn scope.names ([]:List (Str × Addr)) λx r=>(if(x.2 == NameKind.free)=true then do let a ← cellOf env x.1;pure (ForInStep.yield ((x.1,a)::r))else pure (ForInStep.yield r):Sem (ForInStep (List (Str × Addr))))) >>=(λr=>(pure r:Sem _))=(pure cl:Sem _):=by rw[e];rfl
 exact this
theorem W8{env:Env}:∀ {names:List (Str × NameKind)} {x:Str},names.lookup x=some .free →
  (names.map λ(n,k)=>if(k == NameKind.free && env.scope.kind == .function && env.kindOf n == some .cell)then(n,NameKind.cell)else(n,k)).lookup x=some .cell ∨
  (names.map λ(n,k)=>if(k == NameKind.free && env.scope.kind == .function && env.kindOf n == some .cell)then(n,NameKind.cell)else(n,k)).lookup x=some .free
 | [],_,h=>by simp at h
 | (n,k)::r,x,h=>by
  by_cases hx:x=n
  ·subst hx
   simp only[List.lookup_cons,beq_self_eq_true]at h
   cases h
   show List.lookup x ((if _ then(x,NameKind.cell)else(x,NameKind.free))::_)=_\/List.lookup x ((if _ then(x,NameKind.cell)else(x,NameKind.free))::_)=_
   split
   ·exact .inl (by simp)
   ·exact .inr (by simp)
  ·have hb:(x == n)=false:=beq_eq_false_iff_ne.mpr hx
   simp only[List.lookup_cons,hb]at h
   have ih:=W8 (env:=env) h
   show List.lookup x ((if _ then(n,NameKind.cell)else(n,k))::_)=_\/List.lookup x ((if _ then(n,NameKind.cell)else(n,k))::_)=_
   split<;>(simp only[List.lookup_cons,hb];exact ih)
theorem W9{env:Env}:∀ {names:List (Str × NameKind)} {x:Str},
  ((names.map λ(n,k)=>if(k == NameKind.free && env.scope.kind == .function && env.kindOf n == some .cell)then(n,NameKind.cell)else(n,k)).lookup x=some .cell ∨
  (names.map λ(n,k)=>if(k == NameKind.free && env.scope.kind == .function && env.kindOf n == some .cell)then(n,NameKind.cell)else(n,k)).lookup x=some .free)->(x,NameKind.free)∈names\/(x,NameKind.cell)∈names
 | [],_,h=>by simp at h
 | (n,k)::r,x,h=>by
  by_cases hx:x=n
  ·subst hx
   have h:List.lookup x ((if(k == NameKind.free && env.scope.kind == .function && env.kindOf x == some .cell)=true then(x,NameKind.cell)else(x,k))::_)=some .cell\/List.lookup x ((if(k == NameKind.free && env.scope.kind == .function && env.kindOf x == some .cell)=true then(x,NameKind.cell)else(x,k))::_)=some .free:=h
   split at h
   ·rename_i hc
    rw[Bool.and_eq_true,Bool.and_eq_true]at hc
    have:k=.free:=by simpa using hc.1.1
    subst this
    exact .inl List.mem_cons_self
   ·simp only[List.lookup_cons,beq_self_eq_true]at h
    rcases h with h | h
    ·cases h;exact .inr List.mem_cons_self
    ·cases h;exact .inl List.mem_cons_self
  ·have hb:(x == n)=false:=beq_eq_false_iff_ne.mpr hx
   have h:List.lookup x ((if(k == NameKind.free && env.scope.kind == .function && env.kindOf n == some .cell)=true then(n,NameKind.cell)else(n,k))::_)=some .cell\/List.lookup x ((if(k == NameKind.free && env.scope.kind == .function && env.kindOf n == some .cell)=true then(n,NameKind.cell)else(n,k))::_)=some .free:=h
   have h':=h
   split at h'
   all_goals
    simp only[List.lookup_cons,hb]at h'
    exact(W9 h').imp (List.mem_cons_of_mem _) (List.mem_cons_of_mem _)
theorem D6{a b:Addr}{n:Nat}(h:a<n)(h2:n<=b):a≠b:=Nat.ne_of_lt (Nat.lt_of_lt_of_le h h2)
def Cx.block(X:Cx)(pins:List (Addr × Obj))(s:Shared)(H:Hp)(Nc:List Str)(scope:Scope)(cl:List (Str × Addr))(C:Addr)(fp:List Addr):Cx where
 prog:=X.prog
 w:=X.w
 K:=X.K
 mg:=X.mg
 base:=X.base
 A:=X.A
 N:=Nc
 s₀:=s
 H₀:=H
 env:=compEnvC scope cl C X.env
 outer:=X.stack
 stack:=X.stack
 ex:=fp
 fn:=λ_=>false
 calm:=X.calm
 pn:=X.pn++pins
 xe:=λ_ _=>False
structure MN(X:Cx)(scope:Scope)(tn cn:List Str)(cap:List Nat):Prop where
 kind:scope.kind=.function
 nocell:∀ y∈scope.names,y.2≠.cell
 names:∀ y∈scope.names,y.2=.local->scope.names.lookup y.1=some .local
 free:∀ y∈scope.names,y.2=.free->X.env.kindOf y.1=some .cell\/X.env.kindOf y.1=some .free
 drawn:∀ x∈cn,scope.names.lookup x=some .free
 caps:cap.map (λi=>X.N[i]?)=cn.map some
def G1(k:Nat)(cap:List Nat)(σ:St):St:=List.replicate k none++cap.map λi=>(σ[i]?).join
theorem HOk.track{P:Program}{w:World}{H:Hp}{h:Heap}{a:Addr}{o:HO}(x:HOk P w H h)(hn:H a=none)(new:ObjOk P w (upd H a o) h a o):HOk P w (upd H a o) h:=λb u e=>by
 by_cases hb:b=a
 ·subst hb;rw[AS]at e;cases e;exact new
 ·rw[AW hb]at e
  refine(x b u e).stay (λ_ _ _ q=>q) (λc q=> ?_) λc xs q=> ?_
  ·rw[AW (BX q hn)];exact q
  ·rw[AW (BX q hn)];exact q
section
variable{X:Cx}{pins:List (Addr × Obj)}{σ:St}{H:Hp}{s:Shared}
theorem Inv.pinlt(I:Inv X pins σ H s){p:Addr × Obj}(hp:p∈X.pn++pins):p.1<s.heap.objs.size:=Heap.lt_size (I.pin p hp).1
theorem Inv.stkne(I:Inv X pins σ H s){b:Addr}(h1:b≠X.env.locals)(h2:b∉X.fs):b∉DN X.stack:=λz=>(List.mem_cons.mp (I.stkSub b z)).elim h1 h2
theorem Inv.stklt(I:Inv X pins σ H s){b:Addr}(h:b∈DN X.stack):b<s.heap.objs.size:=by
 obtain⟨_,o,ho,_⟩:=I.stack.mem h
 exact Heap.lt_size ho
theorem Inv.block{scope:Scope}{tn cn:List Str}{cap:List Nat}{cl:List (Str × Addr)}{C:Addr}{fp:List Addr}{pins':List (Addr × Obj)}{s1:Shared}(I:Inv X pins σ H s)(S:MN X scope tn cn cap)
  (hcl:∀ x c,cl.lookup x=some c->X.env.cells.lookup x=some c) (hcl2:∀ x∈scope.names,x.2=.free->(cl.lookup x.1).isSome=true)
  (hf:∀ b∈fp,FpOk X pins H b) (hfl:∀ b∈fp,b<s.heap.objs.size) (hC:s.heap.objs.size<=C) (k:∀ b o,s.heap.get? b=some o->s1.heap.get? b=some o)
  (hos:s1.os=s.os) (hg:s1.gens=s.gens) (hns:∃ m,s1.heap.Ns C m)
  (hp:∀ p∈pins',s1.heap.get? p.1=some p.2/\H p.1=none/\p.1≠C/\p.1∉DN X.stack/\∀ v,p.2.data≠.cell v) :
  Inv (X.block pins s H (tn++cn) scope cl C fp) pins' (G1 tn.length cap σ) H s1:=by
 have ok:(X.block pins s H (tn++cn) scope cl C fp).Ok:=by
  refine⟨I.ok.mod,S.kind,I.ok.glob,I.ok.blt,hC,λx y c h1 h2=>I.ok.inj x y c (hcl x c h1) (hcl y c h2),λx hx=> ?_,λx c z _=>(by cases z),I.ok.hd,I.ok.frames,.inl rfl,λb hb=>⟨?_,λx c e=>(hf b hb).2.2.2.2.1 x c (hcl x c e)⟩,I.bs,Nat.le_trans I.ok.bsz I.sz,λb o e hb=> ?_,λb hb=>I.stkne (hf b hb).2.1 (hf b hb).2.2.1,I.stack,I.stkFree⟩
  ·rcases W9 (env:=X.env) hx with z | z
   ·exact Option.isSome_iff_exists.mp (hcl2 _ z rfl)
   ·exact absurd rfl (S.nocell _ z)
  ·exact Nat.ne_of_lt (Nat.lt_of_lt_of_le (hfl b hb) hC)
  ·rcases(hf b hb).2.2.2.1 with z | z
   ·exact I.ok.noex b o e z
   ·have h1:b<X.base.objs.size:=Heap.lt_size e
    exact absurd (Nat.lt_of_lt_of_le h1 (Nat.le_trans I.ok.bsz z)) (Nat.lt_irrefl _)
 refine⟨ok,hos,by rw[hg];exact I.bare,Un.kept k,?_,λx c e=> ?_,I.hok.fresh hC,λx c e=>I.freeC x c (hcl x c e),λp hp'=> ?_,I.hok.kept k,?_⟩
 ·obtain⟨m,hm⟩:=hns
  refine⟨m,hm,λi x v h1 h2 h3=> ?_⟩
  have hi:tn.length<=i:=by
   rcases Nat.lt_or_ge i tn.length with z | z
   ·unfold G1 at h2
    rw[List.getElem?_append_left (by simpa using z),List.getElem?_replicate]at h2
    split at h2<;>cases h2
   ·exact z
  unfold G1 at h2
  rw[List.getElem?_append_right (by simpa using hi),List.length_replicate,List.getElem?_map]at h2
  have h1':cn[i - tn.length]? =some x:=by
   have:(tn++cn)[i]? =some x:=h1
   rwa [List.getElem?_append_right hi]at this
  cases hq:cap[i - tn.length]? with
  | none=>rw[hq]at h2;cases h2
  | some j =>
   rw[hq]at h2
   have hj:X.N[j]? =some x:=by
    have:=congrArg (λl=>l[i - tn.length]?) S.caps
    simp only[List.getElem?_map,hq,h1',Option.map_some]at this
    exact Option.some.inj this
   have hv:σ[j]? =some (some v):=by
    cases hs:σ[j]? with
    | none=>simp[hs]at h2
    | some y=>simp only[Option.map_some,hs,Option.join_some]at h2;cases h2;rfl
   have hxf:(x,NameKind.free)∈scope.names:=PySem.mem_of_lookup (S.drawn x (List.mem_of_getElem? h1'))
   have hk:=S.free _ hxf rfl
   obtain⟨m0,_,hl0⟩:=I.loc
   obtain⟨u,r,q⟩:=hl0 j x v hj hv (hk.elim (λz=>.inr (.inl z)) λz=>.inr (.inr z))
   refine⟨u,r,.inr ⟨W8 (S.drawn x (List.mem_of_getElem? h1')),?_⟩⟩
   rcases q with⟨kl,_⟩ | ⟨_,c,hc,z⟩
   ·have kl':X.env.kindOf x=some .local:=kl
    rcases hk with hk | hk<;>(rw[kl']at hk;cases hk)
   ·obtain⟨c',hc'⟩:=Option.isSome_iff_exists.mp (hcl2 _ hxf rfl)
    have:=hcl _ _ hc'
    rw[hc]at this
    cases this
    exact⟨c,hc',z.keeps k⟩
 ·obtain⟨v,z⟩:=I.cell x c (hcl x c e)
  exact⟨v,z.keeps k⟩
 ·rcases List.mem_append.mp hp' with z | z
  ·obtain⟨e,n,ne,nf,d⟩:=I.pin p z
   exact⟨k _ _ e,n,Nat.ne_of_lt (Nat.lt_of_lt_of_le (Heap.lt_size e) hC),I.stkne ne nf,d⟩
  ·exact hp p z
 ·unfold G1
  show _=(tn++cn).length
  have:=congrArg List.length S.caps
  simp only[List.length_map]at this
  simp[this]
end
def DA:TT:=λ_ H Q=>Q true H
def MO(X:Cx)(ifs:List Expr)(t:TT):Prop :=
 ∀ (pins:List (Addr × Obj)) (s:Shared) (σ:St) (H:Hp) (Q:Bool->Hp->Prop),Inv X pins σ H s->t σ H Q →
  wpAny (model X.prog X.w) X.A (forIn ifs true λc r=>if r=true then do let ok ← isTrue c X.env (eval c X.env);pure (ForInStep.yield ok)else pure (ForInStep.yield r)) (TP X pins σ Q) X.xe s
theorem EI{X:Cx}:MO X [] DA:=λpins s σ H Q I h=>wpAny_tests_nil ⟨H,I,h⟩
theorem CW{X:Cx}{c:Expr}{t:TT}(h:PT X c t):MO X [c] t:=λpins s σ H Q I q=>wpAny_tests_one (h pins s σ H Q I q)
theorem nX {prog:Program} {w:World} {A:Around} {R:Result->Shared->Prop} {s:Shared} {elt target iter:Expr} {ifs:List Expr} {scope:Scope} {pos:Pos} {it acc:Value} {env:Env} (Jn:Nat->Shared->Prop)
    (turn:∀ n s,Jn n s->wpAny (model prog w) A (pyNext it) (λr s₁=>match r with
      | none=>R (.ok .next) s₁
      | some v=>wpAny (model prog w) A (letOwnedTupleGo target it v) (λ_ s₂=>wpAny (model prog w) A (assign target env v) (λ_ s₃ =>
          wpAny (model prog w) A (forIn ifs true λc r=>if r=true then do let ok ← isTrue c env (eval c env);pure (ForInStep.yield ok)else pure (ForInStep.yield r)) (λok s₄ =>
            if ok=true then wpAny (model prog w) A (eval elt env) (λx s₅ =>
              wpAny (model prog w) A (call (.builtin "list.append") [acc,x]) (λ_ s₆=>∃ m,m<n/\Jn m s₆) (λ_ _=>False) s₅) (λ_ _=>False) s₄
            else ∃ m,m<n/\Jn m s₄) (λ_ _=>False) s₃) (λ_ _=>False) s₂) (λ_ _=>False) s₁) (λ_ _=>False) s)
    (n:Nat) (h:Jn n s):codeAny (model prog w) A (.compLoop (.ListComp elt [⟨target,iter,ifs,0⟩] scope pos) 0 it acc env) R s:=by
  refine codeAny_loop rfl Jn (λn' s' hJ=> ?_) n h
  show wpAny _ A ((compTurn (.ListComp elt [⟨target,iter,ifs,0⟩] scope pos) 0 it acc env).onRaise (λx'=>do noteFrame x' env;theTreesLotGoes x')) _ _ s'
  refine wpAny_noted (wpAny_noRaise ?_)
  rw[compTurn_list]
  refine wpAny_bind (wpAny_standAt (wpAny_bind (AZ (turn n' s' hJ) λr s₁ h₁=> ?_)))
  cases r with
  | none=>exact wpAny_pure h₁
  | some v =>
    refine wpAny_bind (AZ h₁ λ_ s₂ h₂=> ?_)
    refine wpAny_bind (AZ h₂ λ_ s₃ h₃=>wpAny_bind (AZ h₃ λok s₄ h₄=> ?_))
    cases ok with
    | false=>exact wpAny_pure ⟨rfl,h₄⟩
    | true=>exact wpAny_bind (wpAny_bind (AZ h₄ λx' s₅ h₅=>wpAny_bind (AZ h₅ λ_ s₆ h₆=>wpAny_pure (wpAny_pure ⟨rfl,h₆⟩))))
def BR(wi:TI)(g:TG)(tt:TT)(te:TE)(k:Nat)(cap:List Nat):TE:=λσ H Q=>wi σ H λJ H1 =>
 ∃ W:Nat->Nat->St->List V->Hp->Prop,(∃ m,W 0 m (G1 k cap σ) [] H1)/\∀ i m σ' ys H,W i m σ' ys H →
  (J.stop i H/\∀ p,H p=none->Q (.ref p) (upd H p (.lst ys))) ∨
  (J.go i H/\ys.length<sizeLine/\∀ x H',J.yld i H x H'->g x σ' H' λσ2 H2=>tt σ2 H2 λb H3 =>
   if b=true then ∃ N:VK,(∀ y H4,N y H4->∃ m',m'<m/\W (i+1) m' σ2 (ys++[y]) H4)/\te σ2 H3 N else ∃ m',m'<m/\W (i+1) m' σ2 ys H3)
structure CompDone(X:Cx)(fp:List Addr)(H:Hp)(s:Shared)(Q:VK)(acc:Value)(C:Addr)(r:Result)(s':Shared):Prop where
 ok:r=.ok .next
 ex:∃ (D:Addr) (ys:List V) (its:List Value) (n:Nat) (H':Hp),acc=.ref D/\Vals ys its/\ys.length<=sizeLine/\s'.heap.get? D=some { cls:=.type "list",data:=.seq its.toArray n }/\s.heap.objs.size<=D/\D≠C/\H' D=none/\H' C=none ∧
  (∃ m,s'.heap.Ns C m)/\Un (DN X.stack) fp H H' s.heap s'.heap/\HOk X.prog X.w H' s'.heap/\∀ p,H' p=none->Q (.ref p) (upd H' p (.lst ys))
 ge:s.heap.objs.size<=C
 os:s'.os=s.os
 bare:AllBare s'.gens
section
variable{X:Cx}{pins:List (Addr × Obj)}{σ:St}{H:Hp}{s:Shared}
theorem XA {tg iter elt:Expr} {ifs:List Expr} {scope:Scope} {pos:Pos} {g:TG} {tt:TT} {te:TE} {tn cn:List Str} {cap:List Nat} {cl:List (Str × Addr)} {it:Addr} {fp:List Addr} {tn':Nat->Heap->Prop} {J:It} {Q:VK} {E:Value->Shared->Prop}
    (I:Inv X pins σ H s) (S:MN X scope tn cn cap) (hc:X.calm=true)
    (hcl:∀ x c,cl.lookup x=some c->X.env.cells.lookup x=some c) (hcl2:∀ x∈scope.names,x.2=.free->(cl.lookup x.1).isSome=true)
    (T:IG X.prog X.w X.K tg J fp it tn') (st:tn' 0 s.heap) (hf:∀ b∈fp,FpOk X pins H b)
    (hg:∀ C,PG (X.block pins s H (tn++cn) scope cl C fp) tg g) (ht:∀ C,MO (X.block pins s H (tn++cn) scope cl C fp) ifs tt) (he:∀ C,PE (X.block pins s H (tn++cn) scope cl C fp) elt te)
    (W:Nat->Nat->St->List V->Hp->Prop) {m0:Nat} (w0:W 0 m0 (G1 tn.length cap σ) [] H)
    (step:∀ i m σ' ys H,W i m σ' ys H →
      (J.stop i H/\∀ p,H p=none->Q (.ref p) (upd H p (.lst ys))) ∨
      (J.go i H/\ys.length<sizeLine/\∀ x H',J.yld i H x H'->g x σ' H' λσ2 H2=>tt σ2 H2 λb H3 =>
        if b=true then ∃ N:VK,(∀ y H4,N y H4->∃ m',m'<m/\W (i+1) m' σ2 (ys++[y]) H4)/\te σ2 H3 N else ∃ m',m'<m/\W (i+1) m' σ2 ys H3)) :
    wpAny (model X.prog X.w) X.A (newList []) (λacc s₃=>wpAny (model X.prog X.w) X.A (newFunctionEnv scope X.env.globals cl [] X.env.qual none .none (some X.env)) (λcenv s₄ =>
      codeAny (model X.prog X.w) X.A (.compStart (.ListComp elt [⟨tg,iter,ifs,0⟩] scope pos) 0 (.ref it) acc { cenv with scope:=relabel scope X.env }) (CompDone X fp H s Q acc cenv.locals) s₄) E s₃) E s:=by
  refine wpAny_newObj_type (wpAny_newFunctionEnv S.nocell (by intro y hy;simp at hy) (λh₁ hns₁ hsb₁=> ?_) S.kind)
  dsimp only at hns₁ hsb₁ ⊢
  generalize hH2:s.heap.push { cls:=.type "list",dict:=none,data:=.seq ([]:List Value).toArray }=H2 at hns₁ hsb₁ ⊢
  have hCs:H2.objs.size=s.heap.objs.size+1:=by rw[<-hH2,Heap.size_push]
  generalize hCe:H2.objs.size=C at hns₁ hsb₁ ⊢
  have hC:C=s.heap.objs.size+1:=hCe.symm.trans hCs
  generalize hD:s.heap.objs.size=D at *
  have hDC:D≠C:=by rw[hC];exact Nat.ne_of_lt (Nat.lt_succ_self _)
  have old:∀ b o,s.heap.get? b=some o->h₁.get? b=some o:=λb o e=>by
    have hb:b<D:=by rw[<-hD];exact Heap.lt_size e
    have hbC:b≠C:=D6 hb (by rw[hC];exact Nat.le_succ _)
    exact hsb₁.extBut b o hbC (Heap.get?_push_of_some _ (hH2 ▸ Heap.get?_push_of_some _ e))
  have hDo:h₁.get? D=some { cls:=.type "list",data:=.seq ([]:List Value).toArray }:=by
    refine hsb₁.extBut _ _ hDC (Heap.get?_push_of_some _ ?_)
    rw[<-hH2,<-hD]
    exact Heap.get?_push_size _ rfl
  have hfl:∀ b∈fp,b<s.heap.objs.size:=λb hb=>by
    obtain⟨o,e,_⟩:=T.obj 0 _ st b hb
    exact Heap.lt_size e
  have hDn:H D=none:=by rw[<-hD];exact I.hok.fresh (Nat.le_refl _)
  have hDs:D∉DN X.stack:=λz=>D6 (I.stklt z) (Nat.le_of_eq hD) rfl
  have I0:Inv (X.block pins s H (tn++cn) scope cl C fp) [(D,{ cls:=.type "list",data:=.seq ([]:List Value).toArray 0 })] (G1 tn.length cap σ) H { s with heap:=h₁,toks:=s.toks+([]:List (Str × Value)).length } :=
    I.block S hcl hcl2 hf hfl (by omega) old rfl rfl ⟨_,hns₁⟩ λp hp=>by
      rw[List.mem_singleton]at hp
      subst hp
      exact⟨hDo,hDn,hDC,hDs,λv z=>nomatch z⟩
  have fpok:∀ {H':Hp} {o:Obj},(∀ b∈fp,H' b=none)->∀ b∈fp,FpOk (X.block pins s H (tn++cn) scope cl C fp) [(D,o)] H' b:=λ{H' o} hn b hb=>by
    obtain⟨_,f1,f2,f3,f4,f5⟩:=hf b hb
    have hbl:=hfl b hb
    refine⟨hn b hb,?_,I.stkne f1 f2,.inl hb,λx c e=>f4 x c (hcl x c e),λp hp=> ?_⟩
    ·exact D6 hbl (by rw[hD,hC];exact Nat.le_succ _)
    · rcases List.mem_append.mp hp with z | z
      ·exact f5 p z
      ·rw[List.mem_singleton]at z;subst z;exact Ne.symm (D6 hbl (Nat.le_of_eq hD))
  have st1:tn' 0 h₁:=T.keep _ _ _ st λb _ o e=>old b o e
  have loop:∀ s₃:Shared,s₃={ s with heap:=h₁,toks:=s.toks+([]:List (Str × Value)).length } →
      codeAny (model X.prog X.w) X.A (.compLoop (.ListComp elt [⟨tg,iter,ifs,0⟩] scope pos) 0 (.ref it) (.ref D) (compEnvC scope cl C X.env)) (CompDone X fp H s Q (.ref D) C) s₃:=by
    rintro s₃ rfl
    refine nX (λn s'=>∃ i σ' ys its nn H',Inv (X.block pins s H (tn++cn) scope cl C fp) [(D,{ cls:=.type "list",data:=.seq (its:List Value).toArray nn })] σ' H' s'/\tn' i s'.heap/\(∀ b∈fp,H' b=none)/\Vals ys its/\ys.length<=sizeLine/\W i n σ' ys H') ?_ m0
      ⟨0,_,[],[],0,H,I0,st1,λb hb=>(hf b hb).1,.nil,Nat.zero_le _,w0⟩
    rintro n s4 ⟨i,σ4,ys,its,nn,H4,I4,st4,fr4,r4,l4,w4⟩
    rcases step i n σ4 ys H4 w4 with⟨stop,qn⟩ | ⟨go,hlt,next⟩
    · refine AZ (T.done (X.block pins s H (tn++cn) scope cl C fp) rfl rfl rfl hc i _ s4 σ4 H4 _ I4 (fpok fr4) st4 stop) λr s5 ⟨hr,I5⟩=> ?_
      subst hr
      have hp:=I5.pin (D,_) (List.mem_append_right _ List.mem_cons_self)
      obtain⟨m5,hm5,_⟩:=I5.loc
      exact⟨rfl,⟨D,ys,its,nn,H4,rfl,r4,l4,hp.1,by omega,hDC,hp.2.1,I5.free,⟨m5,hm5⟩,I5.base,I5.hok,qn⟩,by omega,I5.os,I5.bare⟩
    · refine AZ (T.item (X.block pins s H (tn++cn) scope cl C fp) rfl rfl rfl hc i _ s4 σ4 H4 _ I4 (fpok fr4) st4 go) λr s5 ⟨u,hr,h5⟩=> ?_
      subst hr
      refine AZ h5 λ_ s6 ⟨x,H6,I6,r6,y6,st6,fr6⟩=> ?_
      have I6':=I6.pinned (fpok fr6) (T.obj _ _ st6)
      refine AZ (hg C _ s6 σ4 H6 x u _ I6' r6 (next x H6 y6)) λ_ s7 ⟨σ7,H7,I7,q7⟩=> ?_
      refine AZ (ht C _ s7 σ7 H7 _ I7 q7) λok s8 ⟨H8,I8,q8⟩=> ?_
      have keepst:∀ {σ9:St} {H9:Hp} {s9:Shared},Inv (X.block pins s H (tn++cn) scope cl C fp) ([(D,{ cls:=.type "list",data:=.seq its.toArray nn })]++MJ fp s6.heap) σ9 H9 s9->(∀ b∈fp,∀ o,s6.heap.get? b=some o->s9.heap.get? b=some o)/\∀ b∈fp,H9 b=none:=λ{σ9 H9 s9} I9=>by
        refine⟨λb hb o e=>(I9.pin (b,o) (List.mem_append_right _ (List.mem_append_right _ (OS hb e)))).1,λb hb=> ?_⟩
        obtain⟨o,e,_⟩:=T.obj _ _ st6 b hb
        exact(I9.pin (b,o) (List.mem_append_right _ (List.mem_append_right _ (OS hb e)))).2.1
      cases ok with
      | false =>
        obtain⟨m',hm',w'⟩:=q8
        obtain⟨k1,k2⟩:=keepst I8
        exact⟨m',hm',i+1,σ7,ys,its,nn,H8,I8.unpinned,T.keep _ _ _ st6 k1,k2,r4,l4,w'⟩
      | true =>
        obtain⟨Nw,hN,q8⟩:=q8
        refine AZ (he C _ s8 σ7 H8 Nw I8 q8) λv s9 ⟨y,H9,I9,r9,n9⟩=> ?_
        obtain⟨m',hm',w'⟩:=hN y H9 n9
        obtain⟨k1,k2⟩:=keepst I9
        have hp:=I9.pin (D,_) (List.mem_append_right _ (List.mem_append_left _ List.mem_cons_self))
        have e:=hp.1
        have hlen:=r4.length
        refine call_meets F.slot_list_append ⟨_,e,rfl⟩ F.entry_list_append (F.args_list_append_2 _ _) (PySem.list_append D its.toArray nn v (by rw[List.size_toArray];omega)) ⟨e,?_⟩
        have q:=PySem.IsL.update e (λxs=>xs.push v)
        have Ia:Inv (X.block pins s H (tn++cn) scope cl C fp) [] σ7 H9 s9:=I9.pins_of λp hp=>nomatch hp
        have Ib:=Ia.turned (h':=s9.heap.update D (Obj.mapSeq (·.push v))) (t':=s9.toks) (it:=D) (λb o hb eb=>(Heap.get?_update_other _ _ (Ne.symm hb)).trans eb) hp.2.1 hDC (.inr (by show s.heap.objs.size<=D;omega))
          (λx c ec z=>by
            obtain⟨vv,zc⟩:=I.cell x c (hcl x c ec)
            exact D6 zc.lt (Nat.le_of_eq hD) z)
          (λp hp'=>by
            rw[List.append_nil]at hp'
            exact D6 (I.pinlt hp') (Nat.le_of_eq hD))
        have q':(s9.heap.update D (Obj.mapSeq (·.push v))).get? D=some { cls:=.type "list",data:=.seq (its++[v]).toArray (nn+1) }:=by
          rw[if_neg (by simp)]at q
          rw[<-List.push_toArray]
          exact q
        refine⟨m',hm',i+1,σ7,ys++[y],its++[v],nn+1,H9,Ib.pins_of (λp hp'=> ?_),T.keep _ _ _ st6 λb hb o eb=> ?_,k2,r4.append (.cons r9 .nil),?_,w'⟩
        · rw[List.mem_singleton]at hp'
          subst hp'
          exact⟨q',hp.2.1,hDC,hDs,λv' z=>nomatch z⟩
        · have hbl:=hfl b hb
          exact(Heap.get?_update_other _ _ (Ne.symm (D6 hbl (Nat.le_of_eq hD)))).trans (k1 b hb o eb)
        · rw[List.length_append,List.length_singleton]
          omega
  exact codeAny_compStart_list (loop _ rfl) (T.self _ 0 _ _ _ st1 (loop _ rfl))
theorem CompDone.inv{Q:VK}{acc:Value}{C:Addr}{r:Result}{s':Shared}{fp:List Addr}(I:Inv X pins σ H s)(hf:∀ b∈fp,FpOk X pins H b)(h:CompDone X fp H s Q acc C r s') :
  ∃ D H',acc=.ref D/\Inv X pins σ H' s'/\Q (.ref D) H'/\H' C=none/\∃ m,s'.heap.Ns C m:=by
 obtain⟨_,⟨D,ys,its,n,H',rfl,r4,l4,e,hD,hDC,hDn,hCn,hm,u,ok,q⟩,hC,os,bare⟩:=h
 have lt:∀ b o,s.heap.get? b=some o->b≠D:=λb o eb=>D6 (Heap.lt_size eb) hD
 have ltH:∀ b o,H b=some o->b≠D:=λb o eb=>D6 (I.hok.lt eb) hD
 refine⟨D,upd H' D (.lst ys),rfl,I.call' (ch:=fp) os ⟨u.keep,u.slot,λb o eb n' hx=> ?_,u.there,λb xs eb=> ?_,λb o x eb=> ?_,λb ps eb=> ?_⟩ (ok.track hDn ⟨l4,its,n,r4,e⟩) bare (λb hb=> ?_),q D hDn,?_,hm⟩
 ·rw[AW (lt b o eb)];exact u.free b o eb n' hx
 ·rw[AW (ltH b _ eb)];exact u.tups b xs eb
 ·rw[AW (ltH b _ eb)];exact u.frzs b o x eb
 ·rw[AW (ltH b _ eb)];exact u.tbls b ps eb
 ·obtain⟨_,f1,f2,f3,f4,f5⟩:=hf b hb
  exact⟨f3,f1,f4,f5⟩
 ·rw[AW (Ne.symm hDC)];exact hCn
theorem Inv.letgo{C:Addr}{h':Heap}{s1:Shared}{σ1:St}{H1:Hp}(I:Inv X pins σ H s)(hC:s.heap.objs.size<=C)(I1:Inv X pins σ1 H1 s1)(hn:H1 C=none)(hs:Heap.SameBut C s1.heap h'):Inv X pins σ1 H1 { s1 with heap:=h' }:=by
 refine I1.turned (t':=s1.toks) (it:=C) (λb o hb e=>(hs.2 b hb).trans e) hn (λz=> ?_) (.inr ?_) (λx c e z=> ?_) λp hp z=> ?_
 ·exact D6 I.lt hC z.symm
 ·exact Nat.le_trans I.sz hC
 ·obtain⟨v,zc⟩:=I.cell x c e
  exact D6 zc.lt hC z
 ·exact D6 (I.pinlt hp) hC z
variable{tg iter elt:Expr}{ifs:List Expr}{scope:Scope}{pos:Pos}{wi:TI}{g:TG}{tt:TT}{te:TE}{tn cn:List Str}{cap:List Nat}
theorem DB(S:MN X scope tn cn cap)(hc:X.calm=true)(hi:PI X tg iter wi)
  (hg:∀ pins s H cl C fp,PG (X.block pins s H (tn++cn) scope cl C fp) tg g) (ht:∀ pins s H cl C fp,MO (X.block pins s H (tn++cn) scope cl C fp) ifs tt) (he:∀ pins s H cl C fp,PE (X.block pins s H (tn++cn) scope cl C fp) elt te)
  (hs:∀ x,foldedSetIterable iter X.env x=pure x:=by intro _;rfl):PE X (.ListComp elt [⟨tg,iter,ifs,0⟩] scope pos) (BR wi g tt te tn.length cap):=by
 intro pins s σ H Q I h
 obtain⟨cl,ecl,hcl,hcl2⟩:=W3 (env:=X.env) (scope:=scope) λx hx hxf=>I.ok.has x.1 (S.free x hx hxf)
 rw[eval_ListComp]
 refine wpAny_comprehension_free (use:=none) rfl hs ecl S.kind S.names (AZ (hi pins s σ H _ I h) λv s1 h1=>AZ h1 λitv s2 h2=> ?_)
 obtain⟨it,fp,tn',J,H2,e,I2,T,st2,f2,W,⟨m0,w0⟩,turn⟩:=h2
 subst e
 refine AZ (XA I2 S hc hcl hcl2 T st2 f2 (λC=>hg _ _ _ _ C _) (λC=>ht _ _ _ _ C _) (λC=>he _ _ _ _ C _) W w0 turn) λacc s3 h3=>AZ h3 λcenv s4 h4=>codeAny_mono h4 λr s5 h5=> ?_
 have hr:=h5.ok
 subst hr
 obtain⟨D,H',rfl,I5,q5,hCn,m,hm⟩:=h5.inv I2 f2
 exact⟨m,hm,λh' hs'=>⟨.ref D,H',I2.letgo h5.ge I5 hCn hs',rfl,q5⟩⟩
theorem DZ{i:Nat}{x:Str}{px spos:Pos}(S:MN X scope tn cn cap)(hc:X.calm=true)(hN:X.N.Nodup)(hi':X.N[i]? =some x)(hx:X.env.scope.names.lookup x=some .local)(hi:PI X tg iter wi)
  (hg:∀ pins s H cl C fp,PG (X.block pins s H (tn++cn) scope cl C fp) tg g) (ht:∀ pins s H cl C fp,MO (X.block pins s H (tn++cn) scope cl C fp) ifs tt) (he:∀ pins s H cl C fp,PE (X.block pins s H (tn++cn) scope cl C fp) elt te)
  (hsw:swapsWith (.ListComp elt [⟨tg,iter,ifs,0⟩] scope pos) (some (.Name x px)) spos.line X.env=pure true:=by rfl)
  (hs:∀ x,foldedSetIterable iter X.env x=pure x:=by intro _;rfl):PS X (.Assign [.Name x px] (.ListComp elt [⟨tg,iter,ifs,0⟩] scope pos) spos) (AU (BR wi g tt te tn.length cap) (AN i)):=by
 intro pins s σ H D I h
 obtain⟨cl,ecl,hcl,hcl2⟩:=W3 (env:=X.env) (scope:=scope) λx hx hxf=>I.ok.has x.1 (S.free x hx hxf)
 rw[exec_Assign_Name_used _ _ _ _ hsw]
 refine wpAny_bind (wpAny_standAt (wpAny_bind ?_))
 unfold evalThenUse
 refine wpAny_bind ?_
 refine wpAny_comprehension_free (use:=some (assign (.Name x px) X.env)) rfl hs ecl S.kind S.names (AZ (hi pins s σ H _ I h) λv s1 h1=>AZ h1 λitv s2 h2=> ?_)
 obtain⟨it,fp,tn',J,H2,e,I2,T,st2,f2,W,⟨m0,w0⟩,turn⟩:=h2
 subst e
 refine AZ (XA (Q:=λx' H1=>AN i x' σ H1 D.nx) I2 S hc hcl hcl2 T st2 f2 (λC=>hg _ _ _ _ C _) (λC=>ht _ _ _ _ C _) (λC=>he _ _ _ _ C _) W w0 turn) λacc s3 h3=>AZ h3 λcenv s4 h4=>codeAny_mono h4 λr s5 h5=> ?_
 have hr:=h5.ok
 subst hr
 obtain⟨Da,H',rfl,I5,q5,hCn,m,hm⟩:=h5.inv I2 f2
 show wpAny _ _ (assign (.Name x px) X.env (.ref Da)) _ _ s5
 refine wpAny_assign_Name (U8 I5 hN hi' (.inl hx) (show RelV (.ref Da) (.ref Da)from rfl) (λs6 I6 ⟨a,hsb,ha⟩=> ?_) (.inr hx))
 refine⟨m,hm.sameBut hsb ?_,λh' hs'=> ?_⟩
 ·rcases ha with z | z
  ·exact Ne.symm (z ▸ D6 I2.lt h5.ge)
  ·obtain⟨vv,zc⟩:=I2.cell x a z
   exact Ne.symm (D6 zc.lt h5.ge)
 ·exact wpAny_pure (wpAny_pure ⟨σ.set i (some (.ref Da)),H',I2.letgo h5.ge I6 hCn hs',q5⟩)
end
end L2
namespace L2
theorem ObjOk.there{P:Program}{w:World}{H:Hp}{h:Heap}{a:Addr}{o:HO}(x:ObjOk P w H h a o):∃ ob,h.get? a=some ob:=by
 cases o with
 | lst xs=>obtain⟨_,_,_,_,e⟩:=x;exact⟨_,e⟩
 | tup xs=>obtain⟨_,_,_,ob,e,_⟩:=x;exact⟨_,e⟩
 | dK kvs=>obtain⟨_,_,_,_,ob,_,_,e,_⟩:=x;exact⟨_,e⟩
 | dT kvs=>obtain⟨_,_,_,_,ob,_,_,e,_⟩:=x;exact⟨_,e⟩
 | set S n=>obtain⟨ob,_,_,_,e,_⟩:=x;exact⟨_,e⟩
 | ins C dx fs=>obtain⟨_,_,_,e,_⟩:=x;exact⟨_,e⟩
 | own y=>exact x
 | xd fs=>obtain⟨_,⟨ob,_,_,e,_⟩,_⟩:=x;exact⟨_,e⟩
 | rng lo hi=>obtain⟨_,_,_,e⟩:=x;exact⟨_,e⟩
 | frz ob u=>obtain⟨e,_⟩:=x;exact⟨_,e⟩
 | tbl ps=>exact⟨_,show h.get? a=some _ from x⟩
 | met f y=>exact⟨_,show h.get? a=some _ from x⟩
 | ext φ =>exact x.2.1
theorem HOk.nh{P:Program}{w:World}{H:Hp}{h:Heap}{a:Addr}(x:HOk P w H h)(e:h.get? a=none):H a=none:=by
 cases q:H a with
 | none=>rfl
 | some o =>
  obtain⟨ob,e'⟩:=(x a o q).there
  rw[e]at e';cases e'
section
variable{X:Cx}{pins:List (Addr × Obj)}{σ:St}{H H':Hp}{s:Shared}{h':Heap}
theorem Inv.stepN{g':Array GenState}{t':Nat}{d':Drawn}{ch:List Addr}(I:Inv X pins σ H s)
  (hch:∀ b∈ch,(b∈X.ex\/X.s₀.heap.get? b=none)/\b≠X.env.locals/\(∀ x c,X.env.cells.lookup x=some c->c≠b)/\∀ p∈X.pn++pins,p.1≠b)
  (keep:∀ b o,b≠X.env.locals->b∉X.fs->b∉ch->s.heap.get? b=some o->H b=none->h'.get? b=some o)
  (slot:∀ b o,b≠X.env.locals->b∈X.fs->b∉ch->s.heap.get? b=some o->H b=none->∃ sl,h'.get? b=some { o with slots:=sl }) (free:∀ b o,b∉ch->s.heap.get? b=some o->H b=none->H' b=none)
  (there:∀ b o,b∉ch->s.heap.get? b=some o->∃ o',h'.get? b=some o')
  (tups:∀ b xs,H b=some (.tup xs)->H' b=some (.tup xs)) (frzs:∀ b o u,H b=some (.frz o u)->H' b=some (.frz o u)) (tbls:∀ b ps,H b=some (.tbl ps)->∃ more,H' b=some (.tbl (ps++more)))
  (ns:∀ m,s.heap.Ns X.env.locals m->h'.Ns X.env.locals m) (hok:HOk X.prog X.w H' h') (hg:AllBare g') :
  Inv X pins σ H' { s with heap:=h',gens:=g',drawn:=d',toks:=t' }:=by
 have neL:∀ b o,X.s₀.heap.get? b=some o->b≠X.env.locals:=λb o e=>Nat.ne_of_lt (Nat.lt_of_lt_of_le (Heap.lt_size e) I.ok.above)
 have neC:∀ b o,X.s₀.heap.get? b=some o->b∉X.ex->b∉ch:=λb o e hx hb=>by
  rcases(hch b hb).1 with z | z
  ·exact hx z
  ·rw[e]at z;cases z
 have cellK:∀ x c,X.env.cells.lookup x=some c->∀ v,s.heap.IsCell c v->h'.IsCell c v:=λx c e v ⟨o,ho,hd⟩=>by
  have nch:c∉ch:=λz=>(hch c z).2.2.1 x c e rfl
  by_cases hc:c∈X.fs
  ·obtain⟨sl,q⟩:=slot c o (I.cne x c e) hc nch ho (I.freeC x c e)
   exact⟨_,q,hd⟩
  ·exact⟨o,keep c o (I.cne x c e) hc nch ho (I.freeC x c e),hd⟩
 refine⟨I.ok,I.os,hg,⟨λb o e n hb hx=> ?_,λb o e n hb hx=> ?_,λb o e n hx=> ?_,λb o e hx=> ?_,λb xs e=>tups b xs (I.base.tups b xs e),λb o xs e=>frzs b o xs (I.base.frzs b o xs e),λb ps e=> ?_⟩,?_,λx c e=> ?_,?_,λx c e=> ?_,λp hp=> ?_,hok,I.len⟩
 ·exact keep b o (neL b o e) hb (neC b o e hx) (I.base.keep b o e n hb hx) (I.base.free b o e n hx)
 ·obtain⟨sl,e1⟩:=I.base.slot b o e n hb hx
  obtain⟨sl',e2⟩:=slot b _ (neL b o e) hb (neC b o e hx) e1 (I.base.free b o e n hx)
  exact⟨sl',e2⟩
 ·obtain⟨o',e1⟩:=I.base.there b o e hx
  exact free b o' (neC b o e hx) e1 (I.base.free b o e n hx)
 ·obtain⟨o',e1⟩:=I.base.there b o e hx
  exact there b o' (neC b o e hx) e1
 ·obtain⟨m1,e1⟩:=I.base.tbls b ps e
  obtain⟨m2,e2⟩:=tbls b _ e1
  exact⟨m1++m2,by rw[e2,Array.append_assoc]⟩
 ·obtain⟨m,hn,hl⟩:=I.loc
  refine⟨m,ns m hn,λi x v e1 e2 e3=> ?_⟩
  obtain⟨u,r,l⟩:=hl i x v e1 e2 e3
  refine⟨u,r,?_⟩
  rcases l with l | ⟨k,c,e,z⟩
  ·exact .inl l
  ·exact .inr ⟨k,c,e,cellK x c e _ z⟩
 ·obtain⟨v,z⟩:=I.cell x c e
  exact⟨v,cellK x c e v z⟩
 ·obtain⟨m,⟨o,_,_,ho,_⟩,_⟩:=I.loc
  exact free _ o (λz=>(hch _ z).2.1 rfl) ho I.free
 ·obtain⟨v,o,ho,hd⟩:=I.cell x c e
  exact free c o (λz=>(hch c z).2.2.1 x c e rfl) ho (I.freeC x c e)
 ·obtain⟨e,n,ne,nf,d⟩:=I.pin p hp
  have nch:p.1∉ch:=λz=>(hch p.1 z).2.2.2 p hp rfl
  exact⟨keep p.1 p.2 ne nf nch e n,free p.1 p.2 nch e n,ne,nf,d⟩
end
structure Fly(bad:Addr->Prop)(H:Hp)(h:Heap)(e:Addr)(cls:Value):Prop where
 nb:¬ bad e
 free:H e=none
 ex:∃ (oe:Obj) (vs:Array Value),h.get? e=some oe/\oe.cls=cls/\oe.dict=none/\oe.data=.fields vs/\(vs[1]? =some .none ∨
  ∃ (T:Addr) (oT:Obj) (ts:Array Value),vs[1]? =some (.ref T)/\¬ bad T/\H T=none/\T≠e/\h.get? T=some oT/\oT.data=.fields ts/\ts[3]? =some .none)
theorem Fly.mono{bad bad':Addr->Prop}{H:Hp}{h:Heap}{e:Addr}{cls:Value}(F:Fly bad H h e cls)(k:∀ a,bad' a->bad a):Fly bad' H h e cls:=by
 obtain⟨nb,fr,oe,vs,h1,h2,h3,h4,h5⟩:=F
 refine⟨λz=>nb (k _ z),fr,oe,vs,h1,h2,h3,h4,?_⟩
 rcases h5 with z | ⟨T,oT,ts,a,b,c⟩
 ·exact .inl z
 ·exact .inr ⟨T,oT,ts,a,λz=>b (k _ z),c⟩
section
variable{M:Model}{A:Around}{E:Value->Shared->Prop}{s:Shared}
theorem XB{base:Heap}{env:Env}{outer:List Env}{L e:Addr}{oe:Obj}{vs:Array Value}{hd:Value}{nx:Bool}{Q:Unit->Shared->Prop}
  (hfr:A.frames=some (env::outer)) (hl:s.heap.FunFrames base (env::outer)) (hf:env.frame=some L) (he:s.heap.get? e=some oe) (hdt:oe.data=.fields vs) (hsz:1<vs.size)
  (h:∀ h' T oT ts,(∀ b o,s.heap.get? b=some o->b≠e->b∉DN (env::outer)->h'.get? b=some o)->(∀ b o,s.heap.get? b=some o->b≠e->∃ sl,h'.get? b=some { o with slots:=sl }) →
   h'.get? e=some (oe.mapFields (·.setIfInBounds 1 (.ref T)))->s.heap.objs.size<=T->h'.get? T=some oT->oT.data=.fields ts->ts[3]? =some (rawInt L)->Q () { s with heap:=h' }) :
  wpAny M A (do let a ← frameOf env;let pl ← entryPlaceOf L nx;let b ← EntryCells.newEntry hd a .none (rawInt L) .none pl;setField (.ref e) 1 b) Q E s:=by
 have hne:e∉(env::outer).filterMap (·.frame):=λz=>by
  obtain⟨_,o,ho,hn⟩:=hl.mem z
  rw[he]at ho;cases ho
  exact hn vs hdt
 refine wpAny_bind (wpAny_frameOf_fun hfr hl hf λh1 hs1=> ?_)
 refine wpAny_bind (wpAny_entryPlaceOf λpl hpl=> ?_)
 unfold EntryCells.newEntry newFields
 refine wpAny_bind (wpAny_newObj_type ?_ (hpl.sizeOk5 _ _ _ _ _))
 have he1:h1.get? e=some oe:=(hs1.2.1 e hne).trans he
 refine wpAny_setField (Heap.get?_push_of_some _ he1) hdt hsz ?_
 have hTe:h1.objs.size≠e:=Nat.ne_of_gt (Heap.lt_size he1)
 have hd3:=Obj.data_mapFields hdt (·.setIfInBounds 1 (Value.ref h1.objs.size))
 have keep:∀ b o,b≠e->h1.get? b=some o->((h1.push { cls:=.type "traceback",dict:=none,data:=.fields ([hd,.ref L,.none,rawInt L,.none]++(if pl.isEmpty then List.replicate 6 Value.none else pl)).toArray }).update e (Obj.mapFields (·.setIfInBounds 1 (Value.ref h1.objs.size)))).get? b=some o:=λb o hb e1=>by
  rw[Heap.get?_update_other _ _ (Ne.symm hb)]
  exact Heap.get?_push_of_some _ e1
 refine h _ h1.objs.size _ _ (λb o e1 hb hnf=>keep b o hb ((hs1.2.1 b hnf).trans e1)) (λb o e1 hb=> ?_) (Heap.get?_update_self _ (Heap.get?_push_of_some _ he1) (Obj.isFreed_of_fields hd3)) (by rw[hs1.1];exact Nat.le_refl _)
  ((Heap.get?_update_other _ _ (Ne.symm hTe)).trans (Heap.get?_push_size _ rfl)) rfl ?_
 ·obtain⟨sl,e2⟩:=hs1.2.2 b o e1
  exact⟨sl,keep b _ hb e2⟩
 ·first | (simp;done) | (rcases hpl with rfl | ⟨_,_,_,_,_,_,_,rfl⟩<;>simp)
structure XC(fr:List Addr)(bad:Addr->Prop)(H:Hp)(e:Addr)(cls:Value)(h h':Heap):Prop where
 ch:∃ ch:List Addr,(∀ b∈ch,¬ bad b/\H b=none/\∃ o vs,h.get? b=some o/\o.data=.fields vs)/\(∀ b o,h.get? b=some o->b∉ch->b∉fr->h'.get? b=some o) ∧
  (∀ b o,h.get? b=some o->b∉ch->∃ sl,h'.get? b=some { o with slots:=sl })
 fly:Fly bad H h' e cls
theorem nY{A2:Around}{E2:Value->Shared->Prop}{base:Heap}{env:Env}{outer:List Env}{L e:Addr}{cls:Value}{bad:Addr->Prop}{H:Hp}{Q:Unit->Shared->Prop}
  (hfr:A.frames=some (env::outer)) (hl:s.heap.FunFrames base (env::outer)) (hf:env.frame=some L) (F:Fly bad H s.heap e cls) (hb:∀ a,s.heap.objs.size<=a->¬ bad a) (hH:∀ a,s.heap.objs.size<=a->H a=none)
  (h:∀ h',XC (DN (env::outer)) bad H e cls s.heap h'->Q () { s with heap:=h' }) :
  wpAny M A (noteFrame (.ref e) env) (λ_ s2=>wpAny M A2 (setFlight (.ref e) none) Q E2 s2) E s:=by
 obtain⟨nb,fr,oe,vs,he,hcls,hdict,hd,htb⟩:=F
 have DX:∀ (s1:Shared) (ch:List Addr) (h':Heap) (T:Addr) (oT:Obj) (ts:Array Value) (oe1:Obj),(∀ b o,s.heap.get? b=some o->s1.heap.get? b=some o\/b∈ch)->s1.heap.objs.size=s.heap.objs.size->e∈ch->(∀ b∈ch,¬ bad b/\H b=none/\∃ o vs,s.heap.get? b=some o/\o.data=.fields vs) →
   oe1.cls=cls->oe1.dict=none->oe1.data=.fields vs->1<vs.size →
   (∀ b o,s1.heap.get? b=some o->b≠e->b∉DN (env::outer)->h'.get? b=some o)->(∀ b o,s1.heap.get? b=some o->b≠e->∃ sl,h'.get? b=some { o with slots:=sl }) →
   h'.get? e=some (oe1.mapFields (·.setIfInBounds 1 (.ref T)))->s1.heap.objs.size<=T->h'.get? T=some oT->oT.data=.fields ts->ts[3]? =some (rawInt L)->wpAny M A2 (setFlight (.ref e) none) Q E2 { s with heap:=h' }:=by
  intro s1 ch h' T oT ts oe1 hk1 hsz hech hch hcls1 hdict1 hd1 hv k1 k2 e1 hT e2 hdT h3
  have hT':s.heap.objs.size<=T:=hsz ▸ hT
  have hTe:T≠e:=Ne.symm (D6 (Heap.lt_size he) hT')
  have hde:=Obj.data_mapFields hd1 (·.setIfInBounds 1 (Value.ref T))
  unfold setFlight
  refine wpAny_bind (wpAny_field e1 hde (x:=.ref T) (by simp[hv]) ?_)
  rw[if_pos (show(Value.ref T != Value.none)=true from by simp)]
  have hs3:3<ts.size:=(Array.getElem?_eq_some_iff.mp h3).1
  refine wpAny_setField e2 hdT hs3 (h _ ?_)
  have oth:∀ b,b≠T->(h'.update T (Obj.mapFields (·.setIfInBounds 3 ((none:Option Addr).elim Value.none λf=>rawInt f)))).get? b=h'.get? b:=λb hb'=>Heap.get?_update_other _ _ (Ne.symm hb')
  have ltT:∀ b o,s.heap.get? b=some o->b≠T:=λb o eb=>D6 (Heap.lt_size eb) hT'
  refine⟨⟨ch,hch,λb o eb hbc hbf=> ?_,λb o eb hbc=> ?_⟩,nb,fr,_,_,(oth e (Ne.symm hTe)).trans e1,(Obj.cls_mapFields _ _).trans hcls1,?_,hde,.inr ⟨T,_,_,by simp[hv],hb T hT',hH T hT',hTe,Heap.get?_update_self _ e2 (Obj.isFreed_of_fields (Obj.data_mapFields hdT _)),Obj.data_mapFields hdT _,by simp[hs3]⟩⟩
  ·rw[oth b (ltT b o eb)]
   rcases hk1 b o eb with z | z
   ·exact k1 b o z (λz'=>hbc (z' ▸ hech)) hbf
   ·exact absurd z hbc
  ·rw[oth b (ltT b o eb)]
   rcases hk1 b o eb with z | z
   ·exact k2 b o z (λz'=>hbc (z' ▸ hech))
   ·exact absurd z hbc
  ·obtain⟨c1,c2,c3,c4⟩:=oe1
   dsimp only at hd1
   subst hd1
   exact hdict1
 unfold noteFrame
 simp only[hf]
 rcases htb with h1 | ⟨T0,oT0,ts0,h1,nbT,frT,neT,eT,dT,h3⟩
 ·have hv:1<vs.size:=(Array.getElem?_eq_some_iff.mp h1).1
  refine wpAny_bind (wpAny_field he hd h1 ?_)
  rw[if_neg (by decide)]
  refine XB hfr hl hf he hd hv λh' T oT ts k1 k2 e1 hT e2 hdT h3=> ?_
  exact DX s [e] h' T oT ts oe (λb o eb=>.inl eb) rfl (by simp) (λb hb'=>by rw[List.mem_singleton]at hb';subst hb';exact⟨nb,fr,oe,vs,he,hd⟩) hcls hdict hd hv k1 k2 e1 hT e2 hdT h3
 ·have hv:1<vs.size:=(Array.getElem?_eq_some_iff.mp h1).1
  refine wpAny_bind (wpAny_field he hd h1 ?_)
  rw[if_pos (show(Value.ref T0 != Value.none)=true from by simp)]
  refine wpAny_bind (wpAny_field eT dT h3 ?_)
  rw[if_neg (show ¬ ((Value.none == rawInt L)=true)from by simp[rawInt])]
  refine wpAny_bind (wpAny_setField eT dT (Array.getElem?_eq_some_iff.mp h3).1 ?_)
  have oth:∀ b,b≠T0->(s.heap.update T0 (Obj.mapFields (·.setIfInBounds 3 Value.none))).get? b=s.heap.get? b:=λb hb'=>Heap.get?_update_other _ _ (Ne.symm hb')
  have nf:∀ b o,s.heap.get? b=some o->(∀ vs,o.data≠.fields vs)->b≠T0:=λb o eb hn z=>by rw[z,eT]at eb;cases eb;exact hn ts0 dT
  refine XB hfr (hl.of_keeps λb o eb hn=>⟨o,(oth b (nf b o eb hn)).trans eb,rfl⟩) hf ((oth e (Ne.symm neT)).trans he) hd hv λh' T oT ts k1 k2 e1 hT e2 hdT h3'=> ?_
  exact DX { s with heap:=s.heap.update T0 (Obj.mapFields (·.setIfInBounds 3 Value.none)) } [e,T0] h' T oT ts oe
   (λb o eb=>by
    by_cases z:b=T0
    ·exact .inr (by simp[z])
    ·exact .inl ((oth b z).trans eb))
   (Heap.size_after_update ..) (by simp)
   (λb hb'=>by
    rcases List.mem_cons.mp hb' with z | z
    ·subst z;exact⟨nb,fr,oe,vs,he,hd⟩
    ·rw[List.mem_singleton]at z;subst z;exact⟨nbT,frT,oT0,ts0,eT,dT⟩)
   hcls hdict hd hv k1 k2 e1 hT e2 hdT h3'
end
def Cx.bad(X:Cx)(pins:List (Addr × Obj)):Addr->Prop:=λa=>X.s₀.heap.get? a≠none\/∃ p∈X.pn++pins,p.1=a
structure XOk(X:Cx)(E:St->XK):Prop where
 po:PassesOwn (model X.prog X.w) X.A X.env X.xe
 ex:X.ex=[]
 calm:X.calm=true
 go:∀ (pins:List (Addr × Obj)) (σ:St) (H:Hp) (s:Shared) (e:Addr) (cls:Value),Inv X pins σ H s->Fly (X.bad pins) H s.heap e cls->E σ cls none H->X.xe (.ref e) s
section
variable{X:Cx}{pins:List (Addr × Obj)}{σ:St}{H:Hp}{s:Shared}
theorem Inv.notbad(I:Inv X pins σ H s)(hx:X.ex=[]){a:Addr}(h:s.heap.get? a=none):¬ X.bad pins a:=λz=>by
 rcases z with z | ⟨p,hp,rfl⟩
 ·cases q:X.s₀.heap.get? a with
  | none=>exact z q
  | some o =>
   obtain⟨o',e⟩:=I.base.there a o q (by rw[hx];simp)
   rw[h]at e;cases e
 ·have:=(I.pin p hp).1
  rw[h]at this;cases this
theorem nZ{h:Heap}{a:Addr}(z:h.objs.size<=a):h.get? a=none:=by
 cases q:h.get? a with
 | none=>rfl
 | some o=>exact absurd (Nat.lt_of_lt_of_le (Heap.lt_size q) z) (Nat.lt_irrefl _)
theorem Inv.noted{e:Addr}{cls:Value}{h':Heap}(I:Inv X pins σ H s)(N:XC (DN X.stack) (X.bad pins) H e cls s.heap h'):Inv X pins σ H { s with heap:=h' }:=by
 obtain⟨⟨ch,hch,k1,k2⟩,_⟩:=N
 obtain⟨mL,⟨oL,esL,epL,hoL,dL,rL⟩,_⟩:=id I.loc
 have chne:∀ b∈ch,∀ o,s.heap.get? b=some o->∃ vs,o.data=.fields vs:=λb hb o eb=>by
  obtain⟨_,_,o',vs,e',d⟩:=hch b hb
  rw[eb]at e';cases e'
  exact⟨vs,d⟩
 have hL:X.env.locals∉ch:=λz=>by
  obtain⟨vs,d⟩:=chne _ z _ hoL
  rw[dL]at d;cases d
 refine I.stepN (g':=s.gens) (t':=s.toks) (d':=s.drawn) (ch:=ch) (λb hb=>⟨.inr ?_,λz=>hL (z ▸ hb),λx c ec z=> ?_,λp hp z=>(hch b hb).1 (.inr ⟨p,hp,z⟩)⟩)
  (λb o hbL hbf hbc eb _=>k1 b o eb hbc λz=>(List.mem_cons.mp (I.stkSub b z)).elim hbL hbf) (λb o _ _ hbc eb _=>k2 b o eb hbc) (λ_ _ _ _ n=>n) (λb o hbc eb=> ?_) (λ_ _ q=>q) (λ_ _ _ q=>q) (λb ps q=>⟨#[],by rw[q];simp⟩) (λm hm=> ?_) (λb o eb=> ?_) I.bare
 ·cases q:X.s₀.heap.get? b with
  | none=>rfl
  | some o=>exact absurd (.inl (by rw[q];simp)) (hch b hb).1
 ·obtain⟨v,oc,hoc,hd⟩:=I.cell x c ec
  obtain⟨vs,d⟩:=chne c (z ▸ hb) oc hoc
  rw[hd]at d;cases d
 ·obtain⟨sl,q⟩:=k2 b o eb hbc
  exact⟨_,q⟩
 ·obtain⟨o',es',ep',ho',r'⟩:=hm
  rw[hoL]at ho';cases ho'
  obtain⟨sl,q⟩:=k2 _ _ hoL hL
  exact⟨_,es',ep',q,r'⟩
 ·refine(I.hok b o eb).stay (λc u hc q=>k1 c u q ?_ ?_) (λ_ q=>q) λ_ _ q=>q
  ·intro z
   have fr:=(hch c z).2.1
   rcases hc with rfl | hc
   ·rw[eb]at fr;cases fr
   ·rw[hc]at fr;cases fr
  ·intro z
   have fr:=I.stkFree c z
   rcases hc with rfl | hc
   ·rw[eb]at fr;cases fr
   ·rw[hc]at fr;cases fr
def DS(P:Program)(w:World):EH:=λouter H s E e s'=>∃ (ea:Addr) (cls:Value) (H':Hp),e=.ref ea/\s'.os=s.os/\AllBare s'.gens/\Un (DN outer) [] H H' s.heap s'.heap/\HOk P w H' s'.heap/\Fly (λa=>s.heap.get? a≠none) H' s'.heap ea cls/\E cls none H'
theorem XD{P:Program}{w:World}{outer:List Env}{H:Hp}{s:Shared}{e:Value}{s':Shared}(h:DS P w outer H s (λ_ _ _=>False) e s'):False:=by
 obtain⟨_,_,_,_,_,_,_,_,_,f⟩:=h
 exact f
theorem XOk.passes{E:St->XK}(x:XOk X E):FG (DS X.prog X.w) X E:=λpins σ H s e s' I h=>by
 obtain⟨ea,cls,H',rfl,os,bare,un,hok,F,q⟩:=h
 refine x.go pins σ H' s' ea cls (I.call' (ch:=[]) os un hok bare λb z=>absurd z (by simp)) (F.mono λa z=> ?_) q
 rcases z with z | ⟨p,hp,rfl⟩
 ·cases q0:X.s₀.heap.get? a with
  | none=>exact absurd q0 z
  | some o =>
   obtain⟨o',e⟩:=I.base.there a o q0 (by rw[x.ex];simp)
   rw[e];simp
 ·rw[(I.pin p hp).1];simp
theorem IL{P:Program}{w:World}:FG (DS P w) X (λ_=>E0):=λ_ _ _ _ _ _ _ h=>(XD h).elim
end
theorem n0{P:Program}{w:World}{K:W.Frag}{mg:Str->Option Value}{base:Heap}{N:List Str}{qual:Str}{scope:Scope}{f:Addr}{cd:Value}{A:Around}{outer:List Env}{s:Shared}{H:Hp}{E:XK} :
  XOk (GD (DS P w) P w K mg base N qual scope f cd A outer s H E) (λ_=>E) where
 po:=PassesOwn.leaving
 ex:=rfl
 calm:=rfl
 go:=λpins σ H' s' e cls I F q=>by
  have hfr:(A.deeper (envOfC qual scope s.heap.objs.size f cd)).frames=some (envOfC qual scope s.heap.objs.size f cd::outer):=I.ok.frames
  show wpAny _ _ (leaving _ _) _ _ _
  unfold leaving
  refine wpAny_bind (nY hfr I.stack rfl F (λa z=>I.notbad rfl (nZ z)) (λa z=>I.hok.fresh z) λh' N=> ?_)
  have I':=I.noted N
  exact⟨e,cls,H',rfl,I'.os,I'.bare,I'.base,I'.hok,N.fly.mono λa z=>.inl z,q⟩
structure Exc(K:W.Frag)(C:Addr):Prop where
 ex:W.excIn K C [.type "ValueError",.type "Exception",.type "BaseException",.type "object"] "ValueError.__new__"=true
theorem Exc.obj{K:W.Frag}{C:Addr}{h:Heap}(x:Exc K C)(X:K.In h):∃ (tl:List Value) (N:Addr) (nm q:Str) (bs:List Value) (hdct:Bool) (sn:List Str) (sub:List Value) (ab:Bool) (col:Option Bool) (dd:Option Addr) (k0 k1 k2 k3 k5:Option Value) (mN:Str->Option Value),
  h.get? C=some (excClassObj nm q C N bs tl hdct sn sub ab col dd k0 k1 k2 k3 k5 "ValueError.__new__")/\h.Ns N mN/\mN "__init__"=none/\OwnTail h [.type "ValueError",.type "Exception",.type "BaseException",.type "object"] tl:=by
 have q:=x.ex
 unfold W.excIn at q
 split at q
 ·rename_i dd cd sl ho
  split at q
  ·rename_i C' bm k0 k1 k2 k3 n k5 hm hs
   simp only[Bool.and_eq_true,beq_iff_eq,Bool.not_eq_true']at q
   obtain⟨⟨⟨⟨⟨rfl,rfl⟩,hdel⟩,ht⟩,hok⟩,hni⟩:=q
   obtain⟨nm,bs,mro,ns,qn,hd,sn,sub,ab,col,del⟩:=cd
   dsimp only at hm hdel hok hni
   subst hm hdel
   obtain⟨l⟩:=sl
   simp only at hs
   subst hs
   exact⟨bm,ns,nm,qn,bs,hd,sn,sub,ab,col,dd,k0,k1,k2,k3,k5,_,X _ _ ho,.of_isNs (W.isNs_of_in X hok),W.nsMap_none_of_in X hok hni,W.tail_of_in X ht⟩
  ·cases q
 ·cases q
def O1(C:Addr)(E:St->XK)(t:TA):TS:=λ_ σ H=>t σ H λvs H1=>vs.length<=sizeLine/\E σ (.ref C) none H1
section
variable{X:Cx}{E:St->XK}{C:Addr}{x:Str}{np cpos pos:Pos}{e:Expr}{es:List Expr}{t:TA}
theorem XF(hx:XOk X E)(c:Exc X.K C)(hg:Gl X x)(hm:X.mg x=some (.ref C))(ha:PA X (e::es) t)(hdb:(x ==("__debug__":Str))=false:=by decide)
  (he:starEach (e::es) X.env=(false,eval e X.env)::starEach es X.env:=by rfl) (hpl:(backTo cpos (starEach es X.env)).any (·.1)=false:=by rfl) :
  PS X (.Raise (some (.Call (.Name x np) (e::es) [] cpos)) none pos) (O1 C E t):=by
 intro pins s σ H D I h
 obtain⟨tl,N,nm,q,bs,hdct,sn,sub,ab,col,dd,k0,k1,k2,k3,k5,mN,hC,hN,hni,T⟩:=c.obj I.mod.kin
 have hpl2:(backTo cpos (starEach (e::es) X.env)).any (·.1)=false:=by
  rw[he]
  show(false || (backTo cpos (starEach es X.env)).any (·.1))=false
  rw[hpl];rfl
 refine wpAny_Raise_call_subT (C:=C) (nm:=nm) (q:=q) (N:=N) (bs:=bs) (bm:=tl) (hdct:=hdct) (sn:=sn) (sub:=sub) (ab:=ab) (col:=col) (dd:=dd) (k0:=k0) (k1:=k1) (k2:=k2) (k3:=k3) (k5:=k5)
  PySem.F.excBase_ValueError (mN:=mN) (T.hasType PySem.F.excBase_ValueError.hasBase) (I.ok.hd hx.calm) hpl2 hni (QE I hg hm ⟨rfl,?_⟩ hdb)
 have hq:=ha cpos pins s σ H _ I h
 rw[he]at hq ⊢
 refine Calls.evalArgs_plain (AZ hq λus s1 ⟨vs,H1,I1,r,hz,q1⟩=>⟨rfl,?_,I1.bk _ _ hC,hN.keeps I1.bk,T.keeps I1.bk,λh' ea hM=> ?_⟩)
 ·show us.length<=_
  rw[<-r.length];exact hz
 ·have I2:Inv X pins σ H1 { s1 with heap:=h' }:=I1.kept (t':=s1.toks) hM.keeps
  obtain⟨tt,h1,h2,h3⟩:=hM.there
  refine hx.go pins σ H1 _ ea (.ref C) I2 ⟨λz=>I1.notbad hx.ex hM.new z,I1.hok.nh hM.new,_,_,h1,rfl,rfl,rfl,.inl rfl⟩ q1
end
end L2
namespace L2
section
variable(P:Program)(w:World)(K:W.Frag)(mg:Str->Option Value)(base:Heap)
structure BJ(k:Nat)(x:Str)(ps:List Str)(sp:Sp):Prop where
 ex:∃ (f:Addr) (fd:FuncData),FnOk P w K mg base (DS P w) k f fd ps sp/\mg x=some (.ref f)/\W.keepIn K (.ref f)=true/\Binds K fd ps []
structure CT(C:Addr)(k:Nat)(m:Str)(ps:List Str)(sp:Sp):Prop where
 ex:∃ (f:Addr) (fd:FuncData),FnOk P w K mg base (DS P w) k f fd ps sp/\OX K C m f/\Binds K fd ps []
structure MP(C:Addr)(k:Nat)(x:Str)(ps:List Str)(sp:Sp):Prop where
 ex:∃ (f:Addr) (fd:FuncData),FnOk P w K mg base (DS P w) k f fd ps sp/\Mk K C f/\mg x=some (.ref C)/\Binds K fd ps []
end
section
variable{X:Cx}{E:St->XK}{k:Nat}{x m:Str}{ps:List Str}{sp:Sp}{C:Addr}{p pos apos:Pos}{e o:Expr}{es:List Expr}{ta:TE}{t:TA}
theorem A5(c:BJ X.prog X.w X.K X.mg X.base k x ps sp)(hr:Room k X.A)(hp:FG (DS X.prog X.w) X E)(hg:Gl X x)(ha:PA X (e::es) t)(hdb:(x ==("__debug__":Str))=false:=by decide)
  (he:starEach (e::es) X.env=(false,eval e X.env)::starEach es X.env:=by rfl) (hpl:(backTo pos (starEach es X.env)).any (·.1)=false:=by rfl):PE X (.Call (.Name x p) (e::es) [] pos) (A3 sp [] E t):=by
 obtain⟨f,fd,F,hm,hk,hb⟩:=c.ex
 exact lN F hr hg hm hk hb .nil hp ha hdb he hpl
theorem D7{pl:Sem Bool}(he:PE X o ta)(cl:Cls X.K C)(c:CT X.prog X.w X.K X.mg X.base C k m ps sp)(hr:Room k X.A)(hp:FG (DS X.prog X.w) X E)(ha:PA X (e::es) t)
  (hst:starEach (e::es) X.env=(false,eval e X.env)::starEach es X.env:=by rfl) (hpl:(backTo pos (starEach es X.env)).any (·.1)=false:=by rfl)
  (ht:eval (.Call (.Attribute o m apos) (e::es) [] pos) X.env=(do
   let ov ← eval o X.env
   standAt apos.atName
   let (f,first) ← holding [ov] (getMethod ov m pl)
   callWith pos f first (backTo pos (starEach (e::es) X.env)) (backToKw pos (keywordEach [] X.env))):=by rfl):PE X (.Call (.Attribute o m apos) (e::es) [] pos) (CJ C m sp [] E ta t):=by
 obtain⟨f,fd,F,hm,hb⟩:=c.ex
 exact lO he cl hm F hr hb .nil hp ha hst hpl ht
theorem FH{pl:Sem Bool}(he:PE X o ta)(cl:Cls X.K C)(c:CT X.prog X.w X.K X.mg X.base C k m ps sp)(hr:Room k X.A)(hp:FG (DS X.prog X.w) X E)
  (ht:eval (.Call (.Attribute o m apos) [] [] pos) X.env=(do
   let ov ← eval o X.env
   standAt apos.atName
   let (f,first) ← holding [ov] (getMethod ov m pl)
   callWith pos f first (backTo pos (starEach [] X.env)) (backToKw pos (keywordEach [] X.env))):=by rfl):PE X (.Call (.Attribute o m apos) [] [] pos) (CJ C m sp [] E ta AI):=by
 obtain⟨f,fd,F,hm,hb⟩:=c.ex
 exact lP he cl hm F hr hb .nil hp ht
theorem O2(c:MP X.prog X.w X.K X.mg X.base C k x ps sp)(hr:Room (k+1) X.A)(hp:FG (DS X.prog X.w) X E)(hg:Gl X x)(ha:PA X (e::es) t)(hdb:(x ==("__debug__":Str))=false:=by decide)
  (he:starEach (e::es) X.env=(false,eval e X.env)::starEach es X.env:=by rfl) (hpl:(backTo pos (starEach es X.env)).any (·.1)=false:=by rfl):PE X (.Call (.Name x p) (e::es) [] pos) (IJ C sp [] E t):=by
 obtain⟨f,fd,F,M,hm,hb⟩:=c.ex
 exact lR M F hr hg hm hb .nil hp ha hdb he hpl
end
theorem Fun.okE{P:Program}{w:World}{K:W.Frag}{mg:Str->Option Value}{base:Heap}{x qual:Str}{st:Stmt}{f:Addr}{fd:FuncData}{N ps:List Str}{k:Nat}{sp:Sp}(F:Fun K x qual st f fd)(S:FnScope N ps (AO st))(len:∀ vs H Q E,sp vs H Q E->vs.length=ps.length)
  (hbody:∀ (cdv:Value) (A:Around) (outer:List Env) (s:Shared) (H:Hp) (vs:List V) (Q:VK) (E:XK),Room k (A.deeper (envOfC qual (AO st) s.heap.objs.size f cdv))->sp vs H Q E →
   ∃ t,PSs (GD (DS P w) P w K mg base N qual (AO st) f cdv A outer s H E) (A9 st) t/\t { nx:=λ_ H'=>Q .non H',rt:=Q } (A6 N vs) H):FnOk P w K mg base (DS P w) (k+1) f fd ps sp:=by
 obtain⟨oc,od,kV,doc,pm,an,cdv,ct,osl,rfl,l,c⟩:=F.ex
 exact VZ l c S len λA outer s H vs Q E hr h=>hbody cdv A outer s H vs Q E hr h
def GV(mg:Str->Option Value)(x:Str)(v:V):Prop:=∃ u,mg x=some u/\RelV v u
abbrev Cx.tri(X:Cx)(pn:List (Addr × Obj))(xe:Value->Shared->Prop):Cx:={ X with pn:=pn,xe:=xe }
abbrev Cx.hand(X:Cx)(e:Addr):Cx:={ X with A:=X.A.mark (some (.ref e)),calm:=false,xe:=λ_ _=>False }
section
variable{X:Cx}{pins:List (Addr × Obj)}{σ:St}{H:Hp}{s:Shared}
theorem Cx.Ok.tri{pn:List (Addr × Obj)}{xe:Value->Shared->Prop}(ok:X.Ok):(X.tri pn xe).Ok :=
 ⟨ok.mod,ok.kind,ok.glob,ok.blt,ok.above,ok.inj,ok.has,ok.cab,ok.hd,ok.frames,ok.stk,ok.exf,ok.bs,ok.bsz,ok.noex,ok.exfs,ok.funs,ok.frf⟩
theorem Inv.tri{xe:Value->Shared->Prop}(I:Inv X pins σ H s):Inv (X.tri (X.pn++pins) xe) [] σ H s :=
 ⟨I.ok.tri,I.os,I.bare,I.base,I.loc,I.cell,I.free,I.freeC,λp hp=>I.pin p (by simpa using hp),I.hok,I.len⟩
theorem Cx.Ok.untri{pn:List (Addr × Obj)}{xe:Value->Shared->Prop}(ok:(X.tri pn xe).Ok):X.Ok :=
 ⟨ok.mod,ok.kind,ok.glob,ok.blt,ok.above,ok.inj,ok.has,ok.cab,ok.hd,ok.frames,ok.stk,ok.exf,ok.bs,ok.bsz,ok.noex,ok.exfs,ok.funs,ok.frf⟩
theorem Inv.untri{pl:List (Addr × Obj)}{xe:Value->Shared->Prop}(I:Inv (X.tri (X.pn++pins) xe) pl σ H s):Inv X pins σ H s :=
 ⟨I.ok.untri,I.os,I.bare,I.base,I.loc,I.cell,I.free,I.freeC,λp hp=>I.pin p (List.mem_append_left _ hp),I.hok,I.len⟩
theorem Cx.Ok.hand{e:Addr}(ok:X.Ok):(X.hand e).Ok :=
 ⟨ok.mod,ok.kind,ok.glob,ok.blt,ok.above,ok.inj,ok.has,ok.cab,(λz=>nomatch z),ok.frames,ok.stk,ok.exf,ok.bs,ok.bsz,ok.noex,ok.exfs,ok.funs,ok.frf⟩
theorem Inv.hand{e:Addr}(I:Inv X pins σ H s):Inv (X.hand e) pins σ H s:=⟨I.ok.hand,I.os,I.bare,I.base,I.loc,I.cell,I.free,I.freeC,I.pin,I.hok,I.len⟩
theorem Inv.unhand{e:Addr}(ok:X.Ok)(I:Inv (X.hand e) pins σ H s):Inv X pins σ H s:=⟨ok,I.os,I.bare,I.base,I.loc,I.cell,I.free,I.freeC,I.pin,I.hok,I.len⟩
end
def MQ(e:Addr)(cls:Value):Heap->Prop:=λh=>∃ oe vs,h.get? e=some oe/\oe.cls=cls/\oe.dict=none/\oe.data=.fields vs
abbrev TH:=Value->Ends->St->Hp->Prop
def Ends.drop(D:Ends)(i:Nat):Ends:={ nx:=λσ H=>D.nx (σ.set i none) H,rt:=D.rt,bk:=λσ H=>D.bk (σ.set i none) H,ct:=λσ H=>D.ct (σ.set i none) H }
def oA(tb:(St->XK)->TS)(th:TH):TS:=λD σ H=>tb (λσ' cls _ H'=>th cls D σ' H') D σ H
section
variable{X:Cx}{hs:List ExceptHandler}{h₀:ExceptHandler}{th:TH}{body:List Stmt}{tb:(St->XK)->TS}{pos:Pos}
theorem SP.unhand{pins:List (Addr × Obj)}{D:Ends}{e:Addr}{f:Flow}{s:Shared}(ok:X.Ok)(h:SP (X.hand e) pins D f s):SP X pins D f s:=by
 cases f with
 | next=>obtain⟨σ1,H1,I1,q⟩:=h;exact⟨σ1,H1,I1.unhand ok,q⟩
 | brk=>obtain⟨σ1,H1,I1,q⟩:=h;exact⟨σ1,H1,I1.unhand ok,q⟩
 | cont=>obtain⟨σ1,H1,I1,q⟩:=h;exact⟨σ1,H1,I1.unhand ok,q⟩
 | ret u=>obtain⟨v,σ1,H1,I1,r,q⟩:=h;exact⟨v,σ1,H1,I1.unhand ok,r,q⟩
end
end L2
namespace L2
mutual
inductive Rep(K:W.Frag)(H:Hp):V->PyData->Prop
 | non:Rep K H .non .none
 | bl (b:Bool):Rep K H (.bl b) (.bool b)
 | int (i:Int):Rep K H (.int i) (.int i)
 | str (x:Str):Rep K H (.str x) (.str x)
 | lst {a:Addr} {xs:List V} {ds:List PyData}:SqL K H a xs->RepAll K H xs ds->Rep K H (.ref a) (.list ds)
 | tup {a:Addr} {xs:List V} {ds:List PyData}:SqT K H a xs->RepAll K H xs ds->Rep K H (.ref a) (.tuple ds)
inductive RepAll(K:W.Frag)(H:Hp):List V->List PyData->Prop
 | nil:RepAll K H [] []
 | cons {v:V} {d:PyData} {vs:List V} {ds:List PyData}:Rep K H v d->RepAll K H vs ds->RepAll K H (v::vs) (d::ds)
end
section
variable{X:Cx}{pins:List (Addr × Obj)}{σ:St}{H:Hp}{s:Shared}
mutual
theorem Rep.reads(I:Inv X pins σ H s):∀ {v:V} {d:PyData} {u:Value},Rep X.K H v d->RelV v u->∃ as,Reads s.heap u d as
 | _,_,_,.non,r=>by cases (show _=Value.none from r);exact⟨_,.none⟩
 | _,_,_,.bl b,r=>by cases (show _=Value.bool b from r);exact⟨_,.bool b⟩
 | _,_,_,.int i,r=>by obtain⟨t,e⟩:=(show ∃ t,_=Value.int i t from r);cases e;exact⟨_,.int i t⟩
 | _,_,_,.str x,r=>by obtain⟨t,e⟩:=(show ∃ t,_=Value.str x t from r);cases e;exact⟨_,.str x t⟩
 | _,_,_,.lst (a:=a) h hr,r=>by
  cases (show _=Value.ref a from r)
  obtain⟨its,rv,p,_⟩:=I.list h
  obtain⟨as,q⟩:=RepAll.reads I hr rv
  obtain⟨o,e1,e2,n,e3⟩:=p.isList
  exact⟨_,.list e1 e2 e3 q⟩
 | _,_,_,.tup (a:=a) h hr,r=>by
  cases (show _=Value.ref a from r)
  obtain⟨its,rv,p,_⟩:=I.tuple h
  obtain⟨as,q⟩:=RepAll.reads I hr rv
  obtain⟨o,e1,e2,n,e3⟩:=p
  exact⟨_,.tuple e1 e2 e3 q⟩
theorem RepAll.reads(I:Inv X pins σ H s):∀ {vs:List V} {ds:List PyData} {us:List Value},RepAll X.K H vs ds->Vals vs us->∃ as,ReadsAll s.heap us ds as
 | _,_,_,.nil,.nil=>⟨_,.nil⟩
 | _,_,_,.cons h hr,.cons r rr=>by
  obtain⟨as,q⟩:=Rep.reads I h r
  obtain⟨bs,q2⟩:=RepAll.reads I hr rr
  exact⟨_,.cons q q2⟩
end
end
abbrev shp(d:PyData):Prop:=PySem.SeqAt.shaped d=true
def BM(K:W.Frag):R2:=λx y H Q=>if DQ x y=true then Q (.bl (decide (x=y))) H else ∃ d e,Rep K H x d/\Rep K H y e/\shp d/\shp e/\Q (.bl (PyData.eqv d e)) H
def CO(K:W.Frag):R2:=λx y H Q=>if DQ x y=true then Q (.bl (!decide (x=y))) H else ∃ d e,Rep K H x d/\Rep K H y e/\shp d/\shp e/\Q (.bl (!PyData.eqv d e)) H
section
variable{X:Cx}
theorem CM(hu:X.A.units+64<cLine):OpR X (compareOp .Eq) (BM X.K):=by
 intro pins s σ H x y v u Q I rx ry h
 unfold BM at h
 split at h
 ·rename_i hs
  exact kS pins s σ H x y v u Q I rx ry ⟨hs,h⟩
 ·obtain⟨d,e,rd,re,sd,se,q⟩:=h
  obtain⟨as,ra⟩:=rd.reads I rx
  obtain⟨bs,rb⟩:=re.reads I ry
  exact eq_dataH ra rb sd se hu ⟨.bl _,H,I,rfl,q⟩
theorem GG(hu:X.A.units+64<cLine):OpR X (compareOp .NotEq) (CO X.K):=by
 intro pins s σ H x y v u Q I rx ry h
 unfold CO at h
 split at h
 ·rename_i hs
  exact kT pins s σ H x y v u Q I rx ry ⟨hs,h⟩
 ·obtain⟨d,e,rd,re,sd,se,q⟩:=h
  obtain⟨as,ra⟩:=rd.reads I rx
  obtain⟨bs,rb⟩:=re.reads I ry
  exact ne_dataH ra rb sd se hu ⟨.bl _,H,I,rfl,q⟩
def RF(K:W.Frag):R2:=λx y H Q=>∃ a b ys,x=.ref a/\y=.ref b/\SqT K H a []/\SqT K H b ys/\Q (.ref b) H
theorem oB:OpR X (binaryOp .Add) (RF X.K):=by
 intro pins s σ H x y v u Q I rx ry h
 obtain⟨a,b,ys,rfl,rfl,ha,hb,q⟩:=h
 cases rx
 cases ry
 obtain⟨its,r1,⟨⟨c1,c2,c3,c4⟩,e1,e2,n1,e3⟩,_⟩:=I.tuple ha
 obtain⟨its2,r2,⟨⟨d1,d2,d3,d4⟩,f1,f2,n2,f3⟩,_⟩:=I.tuple hb
 obtain rfl:c1=_:=e2
 obtain rfl:c3=_:=e3
 obtain rfl:d1=_:=f2
 obtain rfl:d3=_:=f3
 cases r1
 exact concat_meets ⟨_,e1,rfl⟩ ⟨_,f1,rfl⟩ noFill_tuple_add seq_tuple_add PySem.F.slot_tuple_add PySem.F.entry_tuple_add (PySem.F.args_tuple_add_2 _ _) (tuple_addW0 a b #[] its2.toArray n1 n2 c2 d2 c4 d4 rfl) ⟨e1,f1,.ref b,H,I,rfl,q⟩
def BC(K:W.Frag):R2:=λx y H Q=>match x,y with
 | .int i,.int j=>Q (.int (i+j)) H
 | .str i,.str j=>i.length+j.length<=sizeLine/\Q (.str (i++j)) H
 | .ref _,.ref _=>Q4 x y H Q\/QW K x y H Q\/RF K x y H Q
 | _,_=>False
theorem BL:OpR X (binaryOp .Add) (BC X.K):=by
 intro pins s σ H x y v u Q I rx ry h
 cases x<;>cases y<;>simp only[BC]at h
 ·exact kN pins s σ H _ _ v u Q I rx ry ⟨_,_,rfl,rfl,h⟩
 ·exact k9 pins s σ H _ _ v u Q I rx ry ⟨_,_,rfl,rfl,h⟩
 ·rcases h with h | h
  ·exact mS pins s σ H _ _ v u Q I rx ry h
  rcases h with h | h
  ·exact lZ pins s σ H _ _ v u Q I rx ry h
  ·exact oB pins s σ H _ _ v u Q I rx ry h
def HQ:R2:=λx y H Q=>match x,y with
 | .int i,.int j=>Q (.bl (decide (i<j))) H
 | .str i,.str j=>Q (.bl (decide (i.cps.toList<j.cps.toList))) H
 | _,_=>False
def MR:R2:=λx y H Q=>match x,y with
 | .int i,.int j=>Q (.bl (decide (i<=j))) H
 | .str i,.str j=>Q (.bl (!decide (j.cps.toList<i.cps.toList))) H
 | _,_=>False
end
end L2
namespace L2
theorem oC:fillsNumberSlot (.type "tuple") "mul"=pure false :=
 PySem.fillsNumberSlot_seq (id:="tuple.__mul__") (r:=some (.builtin "tuple.__rmul__")) F.slot_tuple_mul.lookup (by decide +kernel) F.slot_tuple_rmul.lookup (by decide +kernel)
theorem oE:seqRepeat? (.type "tuple")=pure (some (.builtin "tuple.__mul__")):=by
 unfold seqRepeat?
 rw[PySem.seqSlot_of (T:="tuple") (name:="__mul__") (id:="tuple.__mul__") F.slot_tuple_mul.lookup (by decide +kernel),PySem.seqSlot_of (T:="tuple") (name:="__rmul__") (id:="tuple.__rmul__") F.slot_tuple_rmul.lookup (by decide +kernel)]
 rfl
theorem oF(a:Int)(t:Tok)(l:Addr)(items:Array Value)(dd:Option Addr)(n:Nat)(sl:Array (Option Value)) :
  Meets (Builtin.«int.__rmul__» ⟨[.int a t,.ref l],[]⟩) (λ_ R s=>s.heap.get? l=some ⟨.type "tuple",dd,.seq items n,sl⟩/\R (.ok (.ret Value.notImplemented)) s) :=
 .of_wp λprog w A R s h=>by obtain⟨hp,g,d,tk,os⟩:=s;obtain⟨hl,h⟩:=h;wp_walk;exact⟨_,rfl,h⟩
theorem oG(l:Addr)(items:Array Value)(dd:Option Addr)(n:Nat)(sl:Array (Option Value))(x:Int)(u:Tok)(h1:1<x)(h2:x<2 ^ 63)(hne:items.isEmpty=false)(hz:items.size * x.toNat<=sizeLine) :
  Meets (Builtin.«tuple.__mul__» ⟨[.ref l,.int x u],[]⟩) (λ_ R s=>s.heap.get? l=some ⟨.type "tuple",dd,.seq items n,sl⟩ ∧
   R (.ok (.ret (Value.ref s.heap.objs.size))) { s with heap:=s.heap.push { cls:=Value.type "tuple",data:=Data.seq (List.foldl (λx1 x2=>x1++x2) #[] (List.replicate x.toNat items)) } }) :=
 .of_wp λprog w A R s h=>by
  obtain⟨hp,g,d,tk,os⟩:=s;obtain⟨hl,h⟩:=h
  have hsl:(sizeLine:Nat)<=(2 ^ 63 - 1) / 8:=by decide
  have hlen:(List.foldl (λx1 x2=>x1++x2) #[] (List.replicate x.toNat items)).size<=sizeLine:=by
   have:=O0 items.toList x.toNat []
   simp only[List.nil_append,Array.toArray_toList]at this
   rw[this]
   simp only[List.size_toArray,List.length_flatten,List.map_replicate,List.sum_replicate_nat,Array.length_toList]
   rw[Nat.mul_comm];exact hz
  have hx:∃ N:Nat,(items.size:Int) * x=(N:Int)/\N<=sizeLine:=⟨items.size * x.toNat,by rw[Int.natCast_mul,Int.toNat_of_nonneg (by omega)],hz⟩
  obtain⟨N,hx,hN⟩:=hx
  unfold Builtin.«tuple.__mul__»
  wp_walk
  refine wpAny_ite_false (by simp;omega) ?_
  wp_walk
  refine wpAny_ite_false (by simp only[hne,Bool.false_or];simp;omega) ?_
  refine wpAny_ite_false (by simp only[hne,Bool.or_false];simp;omega) ?_
  refine wpAny_ite_false (by rw[hx];exact decide_eq_false (by omega)) ?_
  refine wpAny_ite_false (by rw[hx];unfold Builtin.Tuple.tupleTooMany;simp;omega) ?_
  wp_walk
  exact⟨_,rfl,h⟩
theorem oH(l:Addr)(items:Array Value)(dd:Option Addr)(n:Nat)(sl:Array (Option Value))(u:Tok) :
  Meets (Builtin.«tuple.__mul__» ⟨[.ref l,.int 1 u],[]⟩) (λ_ R s=>s.heap.get? l=some ⟨.type "tuple",dd,.seq items n,sl⟩/\R (.ok (.ret (Value.ref l))) s) :=
 .of_wp λprog w A R s h=>by
  obtain⟨hp,g,d,tk,os⟩:=s;obtain⟨hl,h⟩:=h
  unfold Builtin.«tuple.__mul__»
  wp_walk
  exact⟨_,rfl,h⟩
def RG(K:W.Frag):R2:=λx y H Q=>∃ a k xs,x=.ref a/\y=.int k/\SqT K H a xs/\xs≠[]/\1<=k/\k<2 ^ 63/\xs.length * k.toNat<=sizeLine ∧
 (k=1->Q (.ref a) H)/\(k≠1->∀ p,H p=none->Q (.ref p) (upd H p (.tup (List.replicate k.toNat xs).flatten)))
section
variable{X:Cx}
theorem Inv.tnew{pins:List (Addr × Obj)}{σ:St}{H:Hp}{s:Shared}{ys:List V}{its:List Value}(I:Inv X pins σ H s)(hv:Vals ys its)(hz:ys.length<=sizeLine) :
  Inv X pins σ (upd H s.heap.objs.size (.tup ys)) { s with heap:=s.heap.push { cls:=.type "tuple",data:=.seq its.toArray } } :=
 I.laid (t':=s.toks) (λ_ _ q=>Heap.get?_push_of_some _ q) (Nat.le_refl _) ⟨hz,its,hv,_,Heap.get?_push_size _ rfl,rfl,0,rfl⟩
theorem oI:OpR X (binaryOp .Mult) (RG X.K):=by
 intro pins s σ H x y v u Q I rx ry h
 obtain⟨a,k,xs,rfl,rfl,hx,hne,h1,h2,hz,q1,q2⟩:=h
 cases rx
 obtain⟨t,rfl⟩:=ry
 obtain⟨its,r,⟨⟨c1,c2,c3,c4⟩,e1,e2,n,e3⟩,_⟩:=I.tuple hx
 obtain rfl:c1=_:=e2
 obtain rfl:c3=_:=e3
 have hl:=r.length
 have he:its.toArray.isEmpty=false:=by
  cases its with
  | nil=>exact absurd (List.length_eq_zero_iff.mp hl) hne
  | cons b t=>rfl
 refine wpAny_binaryOp_repeat_ref (T:="tuple") (U:="int") (by decide) ⟨_,e1,rfl⟩ (λs'=>typeIs_int s' k t) oC F.fills_int_mul F.slot_int_rmul oE F.slot_int_index.lookup
  (call_meets F.slot_int_rmul (typeIs_int s k t) F.entry_int_rmul (F.args_int_rmul_2 _ _) (oF k t a its.toArray c2 n c4) ⟨e1,rfl,⟨_,e1,rfl⟩,?_⟩)
 by_cases hk:k=1
 ·subst hk
  exact call_meets F.slot_tuple_mul ⟨_,e1,rfl⟩ F.entry_tuple_mul (F.args_tuple_mul_2 _ _) (oH a its.toArray c2 n c4 t) ⟨e1,.ref a,H,I,rfl,q1 rfl⟩
 ·refine call_meets F.slot_tuple_mul ⟨_,e1,rfl⟩ F.entry_tuple_mul (F.args_tuple_mul_2 _ _) (oG a its.toArray c2 n c4 k t (by omega) h2 he (by rw[List.size_toArray,<-hl];exact hz)) ⟨e1,?_⟩
  have f0:=O0 its k.toNat []
  rw[List.nil_append]at f0
  rw[f0]
  exact⟨.ref _,_,I.tnew (r.rep k.toNat) (by rw[WO,Nat.mul_comm];exact hz),rfl,q2 hk _ I.fresh⟩
abbrev MS:R2:=FR λi j=>.int (i - j)
abbrev BN:R2:=rI (λ_ j=>0<j) λi j=>.int (i % j)
abbrev EU:R2:=rI VG λi j=>.int (i / j)
abbrev XG:R2:=rI VH λi j=>.int (i ^ j.toNat)
abbrev oJ:V->Hp->VK->Prop:=rU λi=>.int (-i)
abbrev oK:OQ:=QJ λi j=>i+j
def HR(z:Str)(k:Int):Str:=if k<1 then Str.empty else if(k == 1 || z.length == 0)=true then z else⟨(List.replicate k.toNat z.cps).foldl (· ++·) #[]⟩
theorem oM(z:Str)(k:Nat):(Str.mk ((List.replicate k z.cps).foldl (· ++·) #[])).length=k * z.length:=by
 have e:∀ (m:Nat) (acc:Array Nat),((List.replicate m z.cps).foldl (· ++·) acc).size=acc.size+m * z.cps.size:=λm=>by
  induction m with
  | zero=>intro acc;simp
  | succ m ih=>intro acc;rw[List.replicate_succ,List.foldl_cons,ih,Array.size_append,Nat.succ_mul];omega
 have:=e k #[]
 simpa [Str.length]using this
def oN:R2:=λx y H Q=>∃ z k,x=.str z/\y=.int k/\0<=k/\k<=1000/\z.length<=1000/\Q (.str (HR z k)) H
theorem oO:OpR X (binaryOp .Mult) oN:=by
 intro pins s σ H x y v u Q I rx ry h
 obtain⟨z,k,rfl,rfl,h1,h2,h3,q⟩:=h
 obtain⟨t,rfl⟩:=rx
 obtain⟨t',rfl⟩:=ry
 refine PySem.P.mul_str (by simp;omega) (λa _=> ?_) (λa _=> ?_) ?_
 ·have:(1000:Int)<=(2 ^ 63 - 1) / k:=(Int.le_ediv_iff_mul_le (by omega)).mpr (by omega)
  omega
 ·have h4:z.length * k.toNat<=1000 * 1000:=Nat.mul_le_mul h3 (by omega)
  have h5:(1000 * 1000:Nat)<=sizeLine:=by decide
  unfold Builtin.Str.tooLong
  exact decide_eq_false (by omega)
 ·unfold HR at q
  split
  ·rename_i c
   rw[if_pos c]at q
   exact⟨by show(0:Nat)<=sizeLine;omega,.str _,H,I.tok _,⟨_,rfl⟩,q⟩
  ·rename_i c
   rw[if_neg c]at q
   split
   ·rename_i d
    rw[if_pos d]at q
    exact⟨.str _,H,I,⟨_,rfl⟩,q⟩
   ·rename_i d
    rw[if_neg d]at q
    exact⟨by rw[oM];have:=Nat.mul_le_mul (show k.toNat<=1000 by omega) h3;show _<=2 ^ 24;omega,.str _,H,I.tok _,⟨_,rfl⟩,q⟩
def DP(K:W.Frag):R2:=λx y H Q=>match x,y with
 | .int i,.int j=>CMul i j/\Q (.int (i * j)) H
 | .str z,.int k=>0<=k/\k<=1000/\z.length<=1000/\Q (.str (HR z k)) H
 | .ref _,.int _=>Q5 x y H Q\/RG K x y H Q
 | _,_=>False
theorem EJ:OpR X (binaryOp .Mult) (DP X.K):=by
 intro pins s σ H x y v u Q I rx ry h
 cases x<;>cases y<;>simp only[DP]at h
 ·exact kO pins s σ H _ _ v u Q I rx ry ⟨_,_,rfl,rfl,h⟩
 ·exact oO pins s σ H _ _ v u Q I rx ry ⟨_,_,rfl,rfl,h⟩
 ·rcases h with h | h
  ·exact mT pins s σ H _ _ v u Q I rx ry h
  ·exact oI pins s σ H _ _ v u Q I rx ry h
def FW:R2:=λx y H Q=>match x,y with
 | .int i,.int j=>Q (.bl (decide (j<i))) H
 | _,_=>False
def O3:R2:=λx y H Q=>match x,y with
 | .int i,.int j=>Q (.bl (decide (j<=i))) H
 | _,_=>False
theorem O4:OpR X (compareOp .Lt) HQ:=by
 intro pins s σ H x y v u Q I rx ry h
 cases x<;>cases y<;>simp only[HQ]at h
 ·exact kU pins s σ H _ _ v u Q I rx ry ⟨_,_,rfl,rfl,h⟩
 ·obtain⟨t,rfl⟩:=rx
  obtain⟨t',rfl⟩:=ry
  exact PySem.P.lt_str ⟨.bl _,H,I,rfl,h⟩
theorem oP:OpR X (compareOp .LtE) MR:=by
 intro pins s σ H x y v u Q I rx ry h
 cases x<;>cases y<;>simp only[MR]at h
 ·exact kW pins s σ H _ _ v u Q I rx ry ⟨_,_,rfl,rfl,h⟩
 ·obtain⟨t,rfl⟩:=rx
  obtain⟨t',rfl⟩:=ry
  exact PySem.P.le_str ⟨.bl _,H,I,rfl,h⟩
theorem HS:OpR X (compareOp .Gt) FW:=by
 intro pins s σ H x y v u Q I rx ry h
 cases x<;>cases y<;>simp only[FW]at h
 exact kX pins s σ H _ _ v u Q I rx ry ⟨_,_,rfl,rfl,h⟩
theorem oQ:OpR X (compareOp .GtE) O3:=by
 intro pins s σ H x y v u Q I rx ry h
 cases x<;>cases y<;>simp only[O3]at h
 exact kY pins s σ H _ _ v u Q I rx ry ⟨_,_,rfl,rfl,h⟩
abbrev EV:R2:=λx y H Q=>y=.non/\Q (.bl (decide (x=.non))) H
abbrev GH:R2:=λx y H Q=>y=.non/\Q (.bl (!decide (x=.non))) H
variable{a:Expr}{ta:TE}{tA:TT}{pos:Pos}
abbrev O5(K:W.Frag)(ta:TE):TT:=λσ H Q=>ta σ H λx H'=>∃ k,FE K x H' k/\Q k H'
def AK(K:W.Frag):R2:=WI K
theorem AM:IxR X (AK X.K):=mD
def oR:V->Option Int->Option Int->Hp->VK->Prop:=λx lo hi H Q=>∃ z,x=.str z/\z.length<=sizeLine/\Q (.str (Txt.slice z lo hi)) H
theorem XH{v:Value}{lo:Option Int}(p:IsPart v lo):∃ l:Option (Int × Tok),v=partValue l/\l.map (·.1)=lo:=by
 cases p with
 | none=>exact⟨none,rfl,rfl⟩
 | int i t=>exact⟨some (i,t),rfl,rfl⟩
theorem oS:SlR X oR:=by
 intro pins s σ H x v vl vu lo hi sl Q I rx hs pl pu h
 obtain⟨z,rfl,hz,q⟩:=h
 obtain⟨t,rfl⟩:=rx
 obtain⟨l,rfl,rfl⟩:=XH pl
 obtain⟨u,rfl,rfl⟩:=XH pu
 refine⟨"str",_,PySem.F.slot_str_getitem.lookup,typeIs_str _ _ _,?_⟩
 exact wpAny_getItem_str_slice (l:=l) (u:=u) (st:=none) hs rfl (post_val_or_str ⟨Nat.le_trans (Txt.slice_le z _ _) hz,λt' k=>⟨.str _,H,I.tok k,⟨t',rfl⟩,q⟩⟩)
def IM(K:W.Frag):V->Option Int->Option Int->Hp->VK->Prop:=λx lo hi H Q=>match x with
 | .str z=>z.length<=sizeLine/\Q (.str (Txt.slice z lo hi)) H
 | _=>WK K x lo hi H Q\/WD K x lo hi H Q
theorem O6:SlR X (IM X.K):=by
 intro pins s σ H x v vl vu lo hi sl Q I rx hs pl pu h
 cases x<;>first
  | exact oS pins s σ H _ v vl vu lo hi sl Q I rx hs pl pu ⟨_,rfl,h⟩
  | exact(SlR.or mI lY) pins s σ H _ v vl vu lo hi sl Q I rx hs pl pu h
abbrev CG:V->V->V->Hp->(Hp->Prop)->Prop:=WJ
theorem DC:QI X CG:=mF
def C0(K:W.Frag)(tl:TE):TI:=λσ H R=>tl σ H λx H1=>∃ a,x=.ref a/\(((∃ xs,SqL K H1 a xs)/\R (EG K a) H1)\/((∃ xs,SqT K H1 a xs)/\R (MI K a) H1))
theorem PI.or{tg it:Expr}{w1 w2:TI}(h1:PI X tg it w1)(h2:PI X tg it w2):PI X tg it (λσ H R=>w1 σ H R\/w2 σ H R):=λpins s σ H R I h=>h.elim (h1 pins s σ H R I) (h2 pins s σ H R I)
def CA(K:W.Frag):List V->Hp->VK->Prop:=λxs H Q=>∃ x n,xs=[x]/\KG K x H n/\Q (.int n) H
theorem CH:CallR X (.builtin "len") (CA X.K):=lC
def IN(K:W.Frag):List V->Hp->VK->Prop:=λxs H Q=>∃ p ys,xs=[.ref p]/\(SqL K H p ys\/SqT K H p ys)/\∀ l,H l=none->Q (.ref l) (upd H l (.lst ys))
theorem O7:CallR X (.type "list") (IN X.K):=mM
def MT(K:W.Frag):List V->Hp->VK->Prop:=λxs H Q=>∃ p ys,xs=[.ref p]/\((SqL K H p ys/\∀ l,H l=none->Q (.ref l) (upd H l (.tup ys)))\/(SqT K H p ys/\Q (.ref p) H))
theorem XI:CallR X (.type "tuple") (MT X.K):=mO
def IP(K:W.Frag):List V->Hp->VK->Prop:=λxs H Q=>(∃ i,xs=[.int i]/\Q (.int i) H)\/∃ k,xs=[.bl k]/\Q (.int (if k then 1 else 0)) H
abbrev HU:=Q3
abbrev oU:=WN
end
end L2
namespace L2
section
variable{X:Cx}{tg a:Expr}{ta:TE}{pos:Pos}
theorem DM{l:Expr}{tl:TE}(hl:PE X l tl):PI X tg l (C0 X.K tl):=by
 intro pins s σ H R I h
 refine AZ (hl pins s σ H _ I h) λv s1 ⟨x,H1,I1,r1,q1⟩=> ?_
 obtain⟨a,e,q1⟩:=q1
 subst e
 cases r1
 have fp1:∀ b∈[s1.heap.objs.size],FpOk X pins H1 b:=λb hb=>by
  have e:b=s1.heap.objs.size:=by simpa using hb
  subst e
  exact I1.fpOk (Nat.le_refl _) (I1.hok.fresh (Nat.le_refl _))
 rcases q1 with⟨⟨xs,hq⟩,q⟩ | ⟨⟨xs,hq⟩,q⟩
 ·obtain⟨its,rv,p,hz⟩:=I1.list hq
  refine wpAny_pyIter_list p.isList ?_
  exact⟨s1.heap.objs.size,[s1.heap.objs.size],_,_,H1,rfl,I1.kept (t':=s1.toks) λb o e=>Heap.get?_push_of_some _ e,kE a _,⟨_,Heap.get?_push_size _ rfl,rfl,rfl⟩,fp1,q⟩
 ·obtain⟨its,rv,p,hz⟩:=I1.tuple hq
  refine wpAny_pyIter_tuple (show s1.heap.IsTuple a its.toArray from p) ?_
  exact⟨s1.heap.objs.size,[s1.heap.objs.size],_,_,H1,rfl,I1.kept (t':=s1.toks) λb o e=>Heap.get?_push_of_some _ e,kF a _,⟨_,Heap.get?_push_size _ rfl,rfl,rfl⟩,fp1,q⟩
def oV(K:W.Frag)(ta:TE):TE:=λσ H Q=>ta σ H λx H1=>∃ k,FE K x H1 k/\Q (.bl (!k)) H1
end
def XJ(scope outer:Scope)(N cn:List Str)(cap:List Nat):Bool :=
 scope.kind == .function && scope.names.all (λy=>y.2 != .cell) && scope.names.all (λy=>y.2 != .local || scope.names.lookup y.1 == some .local) &&
 scope.names.all (λy=>y.2 != .free || outer.names.lookup y.1 == some .cell || outer.names.lookup y.1 == some .free) && cn.all (λx=>scope.names.lookup x == some .free) && (cap.map (λi=>N[i]?) == cn.map some)
theorem B2{X:Cx}{scope outer:Scope}{N tn cn:List Str}{cap:List Nat}(h1:X.env.scope=outer)(h2:X.N=N)(h:XJ scope outer N cn cap=true):MN X scope tn cn cap:=by
 unfold XJ at h
 simp only[Bool.and_eq_true,List.all_eq_true,Bool.or_eq_true,bne_iff_ne,beq_iff_eq]at h
 obtain⟨⟨⟨⟨⟨k1,k2⟩,k3⟩,k4⟩,k5⟩,k6⟩:=h
 refine⟨k1,k2,λy hy hl=>(k3 y hy).resolve_left λz=>z hl,λy hy hf=> ?_,k5,by rw[h2];exact k6⟩
 have z:=k4 y hy
 show X.env.scope.names.lookup y.1=_\/X.env.scope.names.lookup y.1=_
 rw[h1]
 rcases z with(z | z) | z
 ·exact absurd hf z
 ·exact .inl z
 ·exact .inr z
structure O8(K:W.Frag)(C:Addr):Prop where
 ga:W.findIn K (.ref C) "__getattribute__"=some (some (.builtin "BaseException.__getattribute__"))
 gt:W.findIn K (.ref C) "__getattr__"=some none
 be:W.mroIn K C (.type "BaseException")=some true
 cl:W.isClsIn K C=true
 ha:W.findIn K (.ref C) "__class__"=some (some (.builtin "object.__class__"))
 hn:W.specialIn K (.builtin "object.__class__") "__get__"=some (some (.builtin "getset_descriptor.__get__"))
 tk:W.takesIn K (.builtin "object.__class__")=some true
 mr:W.mroIn K C (.type "object")=some true
theorem oW{K:W.Frag}{C:Addr}{od:Option Obj}{name:Str}{a g:Value}(hc:(W.clsIn K C).isSome=true)(ha:W.findIn K (.ref C) name=some (some a))(hg:W.specialIn K a "__get__"=some (some g))(ht:W.takesIn K a=some true) :
  W.findObj K C od name=some (.bind g a):=by
 obtain⟨cd,hc⟩:=Option.isSome_iff_exists.mp hc
 unfold W.findObj
 rw[hc,Option.bind_some,ha,Option.bind_some]
 simp[hg,ht]
theorem oX{K:W.Frag}{M:Model}{A:Around}{E:Value->Shared->Prop}{Q:Unit->Shared->Prop}{s:Shared}{x D:Addr}{ox:Obj}{nm:Value}(c:O8 K D)(X:K.In s.heap)(I:W.InstAt s.heap x ox D none)(k:Q () s) :
  wpAny M A (checkBuiltinCall "BaseException.__getattribute__" ⟨[.ref x,nm],[]⟩) Q E s:=by
 have e1:builtinKind "BaseException.__getattribute__"=some .slot:=by decide +kernel
 have e2:splitId "BaseException.__getattribute__"=some ("BaseException","__getattribute__"):=by decide +kernel
 have L:W.Looks M s.heap (isInstance (.ref x) (.type "BaseException")) true:=(I.type (M:=M)).andThen (W.looks_mroIn (M:=M) X c.be)
 have ar:=PySem.F.args_bexc_ga (.ref x) nm
 obtain⟨hh,g,d,t,os⟩:=s
 simp only[checkBuiltinCall,e1,e2]
 refine wpAny_bind (L.at ?_)
 simp only[Bool.not_true,Bool.false_eq_true,if_false]
 cases hs:Manifest.signature? "BaseException.__getattribute__" with
 | none=>exact wpAny_pure k
 | some sig =>
  simp only[argsOk,hs]at ar
  have z:Bind.checkArgs "BaseException.__getattribute__" sig ⟨[.ref x,nm],[]⟩=pure ():=ar
  show wpAny M A (Bind.checkArgs "BaseException.__getattribute__" sig ⟨[.ref x,nm],[]⟩) Q E _
  rw[z];exact wpAny_pure k
theorem oY{K:W.Frag}{prog:Program}{w:World}{A:Around}{E:Value->Shared->Prop}{Q:Option Value->Shared->Prop}{s:Shared}{x D:Addr}{ox:Obj}(c:O8 K D)(X:K.In s.heap)(I:W.InstAt s.heap x ox D none)
  (k:Q (some (.ref D)) { s with toks:=s.toks+1 }):wpAny (model prog w) A (getAttr? (.ref x) "__class__") Q E s:=by
 obtain⟨hh,g,d,t,os⟩:=s
 have L0:=I.type (M:=model prog w)
 have L1:=W.looks_findIn (M:=model prog w) X c.ga
 have L2:=W.looks_findIn (M:=model prog w) X c.gt
 have L3:=W.looks_find (M:=model prog w) X I (oW (name:="__class__") c.cl c.ha c.hn c.tk)
 unfold getAttr? getAttrBy? getAttrBy
 refine wpAny_bind (wpAny_mkText (wpAny_bind (wpAny_attempt (wpAny_holding (wpAny_bind (L0.at (wpAny_bind (L1.at ?_))))))))
 show wpAny _ _ (getAttrByItsOwn _ _ _ _ _ _) _ _ _
 unfold getAttrByItsOwn
 refine wpAny_bind (L2.at (wpAny_bind (wpAny_attempt (wpAny_holding ?_))))
 show wpAny _ _ (boundAndCalled _ _ _) _ _ _
 unfold boundAndCalled
 rw[PySem.F.attr_ValueError.ga.bind (.ref x)]
 refine wpAny_bind (wpAny_pure (wpAny_call (codeAny_call_builtin PySem.F.attr_ValueError.ga.plain PySem.F.entry_bexc_ga (oX c X I ?_))))
 refine wpAny_bind (wpAny_pure (wpAny_bind (wpAny_pure (wpAny_bind (L0.at (wpAny_bind (L3.at ?_)))))))
 show wpAny _ _ (holding [_] (call _ _) >>= ret) _ _ _
 refine wpAny_bind (wpAny_holding (wpAny_call (W.class_get (ox:=ox) (od:=none) X I c.mr (wpAny_pure ?_))))
 exact W.handed_on rfl (wpAny_pure k)
theorem oZ{K:W.Frag}{x D:Addr}(c:O8 K D):W.KitX K (.ref x) (.ref D) (MQ x (.ref D)):=by
 have inst:∀ {h:Heap},MQ x (.ref D) h->∃ ox,W.InstAt h x ox D none:=λ{h} ⟨oe,vs,e1,e2,e3,e4⟩=>by
  refine⟨oe,e1,e2,?_,?_⟩
  ·unfold W.notCls;rw[e4]
  ·rw[e3];trivial
 have cls:∃ cd,W.clsIn K D=some cd:=Option.isSome_iff_exists.mp c.cl
 refine⟨λM h _ p=>(inst p).elim λ_ I=>I.type,λM h X p=> ?_,λh tp dd its n sl X htp=> ?_,λ{prog w A E Q s} X p k=> ?_⟩
 ·obtain⟨cd,hc⟩:=cls
  unfold W.clsIn at hc
  split at hc
  ·rename_i c' d' cd' sl' ho
   intro A' Q' E' s' k q
   unfold isType loadHead
   exact wpAny_bind (wpAny_loadPart (k _ _ (X _ _ ho)) (wpAny_pure q))
  ·cases hc
 ·obtain⟨cd,hc⟩:=cls
  refine Bool.eq_false_iff.mpr λq=> ?_
  have e:D=tp:=Value.ref.inj (beq_iff_eq.mp q)
  subst e
  unfold W.clsIn at hc
  split at hc
  ·rename_i c' d' cd' sl' ho
   have z:=(X _ _ ho).symm.trans htp
   cases z
  ·cases hc
 ·obtain⟨ox,I⟩:=inst p
  exact oY c X I k
def TyX(K:W.Frag)(H:Hp)(x:V)(t:Value):Prop:=FF K H x t\/∃ a C,x=.ref a/\t=.ref C/\H a=some (.ext (MQ a (.ref C)))/\O8 K C
inductive ClsV:V->Value->Prop
 | own (C:Addr):ClsV (.ref C) (.ref C)
 | ty (n:String):ClsV (.ty n) (.type n)
theorem ClsV.rel{y:V}{c u:Value}(h:ClsV y c)(r:RelV y u):u=c:=by
 cases h<;>exact r
theorem XL:∀ {ys:List V} {cs us:List Value},Paired ClsV ys cs->Vals ys us->us=cs
 | _,_,_,.nil,.nil=>rfl
 | _,_,_,.cons h t,.cons r rr=>by rw[h.rel r,XL t rr]
def RH(K:W.Frag):List V->Hp->VK->Prop:=λxs H Q=>∃ x y t b,xs=[x,y]/\TyX K H x t ∧
 ((∃ c,ClsV y c/\W.kitOne K t c=some b)\/∃ p ys cs,y=.ref p/\SqT K H p ys/\Paired ClsV ys cs/\W.kitAny K t cs=some b)/\Q (.bl b) H
section
variable{X:Cx}
theorem TyX.kit{pins:List (Addr × Obj)}{σ:St}{H:Hp}{s:Shared}{x:V}{t u:Value}(I:Inv X pins σ H s)(h:TyX X.K H x t)(r:RelV x u):∃ φ :Heap->Prop,W.KitX X.K u t φ /\ φ s.heap/\u≠.builtin "__main__.__loader__#opaque":=by
 rcases h with h | ⟨a,C,rfl,rfl,e,c⟩
 ·cases h with
  | non=>cases (show u=Value.none from r);exact⟨_,W.kitx_none,trivial,λz=>nomatch z⟩
  | bl y=>cases (show u=Value.bool y from r);exact⟨_,W.kitx_bool,trivial,λz=>nomatch z⟩
  | int i=>obtain⟨t,q⟩:=(show ∃ t,u=Value.int i t from r);cases q;exact⟨_,W.kitx_int,trivial,λz=>nomatch z⟩
  | str y=>obtain⟨t,q⟩:=(show ∃ t,u=Value.str y t from r);cases q;exact⟨_,W.kitx_str,trivial,λz=>nomatch z⟩
  | flt y=>obtain⟨t,q⟩:=(show ∃ t,u=Value.float y t from r);cases q;exact⟨_,W.kitx_float,trivial,λz=>nomatch z⟩
  | @lst a xs ea =>
   cases (show u=Value.ref a from r)
   obtain⟨_,_,n,_,h1⟩:=(show ObjOk X.prog X.w H s.heap a (.lst xs)from I.hok a _ ea)
   exact⟨_,W.kitx_list,⟨_,h1,rfl⟩,λz=>nomatch z⟩
  | @frz a ob xs ea =>
   cases (show u=Value.ref a from r)
   obtain⟨_,_,_,n,_,h1⟩:=(show ObjOk X.prog X.w H s.heap a (.frz ob (.lst xs))from I.hok a _ ea)
   exact⟨_,W.kitx_list,⟨_,h1,rfl⟩,λz=>nomatch z⟩
  | @tup a xs ea =>
   cases (show u=Value.ref a from r)
   obtain⟨_,_,_,p⟩:=(show ObjOk X.prog X.w H s.heap a (.tup xs)from I.hok a _ ea)
   obtain⟨o,h1,h2,_⟩:=p
   exact⟨_,W.kitx_tuple,⟨o,h1,h2⟩,λz=>nomatch z⟩
  | @dK a kvs ea =>
   cases (show u=Value.ref a from r)
   obtain⟨_,_,vs,_,p⟩:=(show ObjOk X.prog X.w H s.heap a (.dK kvs)from I.hok a _ ea)
   obtain⟨o,es,ep,h1,h2,_⟩:=p
   exact⟨_,W.kitx_dict,⟨o,h1,h2.1⟩,λz=>nomatch z⟩
  | @dT a kvs ea =>
   cases (show u=Value.ref a from r)
   obtain⟨_,_,xs,_,o,es,ep,h1,h2,_⟩:=(show ObjOk X.prog X.w H s.heap a (.dT kvs)from I.hok a _ ea)
   exact⟨_,W.kitx_dict,⟨o,h1,h2.1⟩,λz=>nomatch z⟩
  | @ins a C dx fs ea cl ha hn htk hm =>
   cases (show u=Value.ref a from r)
   obtain⟨mA,O,_⟩:=OW I.hok ea
   obtain⟨od,J,_⟩:=O.look
   exact⟨_,W.kitx_own (cl.get _) cl.hd ha hn htk hm,J,λz=>nomatch z⟩
 ·cases (show u=Value.ref a from r)
  have p:MQ a (.ref C) s.heap:=(show ObjOk X.prog X.w H s.heap a (.ext (MQ a (.ref C)))from I.hok a _ e).1
  exact⟨_,oZ c,p,λz=>nomatch z⟩
theorem o0:CallR X (.builtin "isinstance") (RH X.K):=by
 intro pins s σ H xs us Q I r h
 obtain⟨x,y,t,b,rfl,ty,hc,q⟩:=h
 obtain⟨u,v,rfl,rx,ry⟩:=Vals.two r
 obtain⟨φ,Z,p,ne⟩:=ty.kit I rx
 rcases hc with⟨c,hy,e⟩ | ⟨pt,ys,cs,rfl,hs,hcs,e⟩
 ·have:=hy.rel ry
  subst this
  exact W.kia_one Z I.kIn p e ne λtk=>⟨.bl b,H,I.tok tk,rfl,q⟩
 ·cases (show v=Value.ref pt from ry)
  obtain⟨its,rv,⟨⟨c1,c2,c3,c4⟩,e1,e2,n,e3⟩,_⟩:=I.tuple hs
  obtain rfl:c1=_:=e2
  obtain rfl:c3=_:=e3
  have:=XL hcs rv
  subst this
  exact W.kia_tup Z I.kIn p e1 e ne λtk=>⟨.bl b,H,I.tok tk,rfl,q⟩
end
end L2
namespace L2
def DI(J:It)(g:TG)(tt:TT)(te:TE)(k:Nat)(cap:List Nat)(σ:St)(H1:Hp)(Q:VK):Prop :=
 ∃ W:Nat->Nat->St->List V->Hp->Prop,(∃ m,W 0 m (G1 k cap σ) [] H1)/\∀ i m σ' ys H,W i m σ' ys H →
  (J.stop i H/\∀ p,H p=none->Q (.ref p) (upd H p (.lst ys))) ∨
  (J.go i H/\ys.length<sizeLine/\∀ x H',J.yld i H x H'->g x σ' H' λσ2 H2=>tt σ2 H2 λb H3 =>
   if b=true then ∃ N:VK,(∀ y H4,N y H4->∃ m',m'<m/\W (i+1) m' σ2 (ys++[y]) H4)/\te σ2 H3 N else ∃ m',m'<m/\W (i+1) m' σ2 ys H3)
def FX(J:It)(g:TG)(tb:TS)(D:Ends)(σ:St)(H1:Hp):Prop :=
 ∃ W:Nat->Nat->St->Hp->Prop,(∃ m,W 0 m σ H1)/\∀ i m σ H,W i m σ H →
  (J.stop i H/\D.nx σ H)\/(J.go i H/\∃ N:St->Hp->Prop,(∀ σ' H',N σ' H'->∃ m',m'<m/\W (i+1) m' σ' H')/\∀ x H',J.yld i H x H'->g x σ H' λσ2 H2=>tb { D with nx:=N,ct:=N,bk:=D.nx } σ2 H2)
section
variable{K:W.Frag}{ta tb tc to ti tv tl:TE}{tt tA tB' tu:TT}{s1 s2:TS}{r r':R2}{σ:St}{H:Hp}{Q:VK}{D:Ends}{QB:Bool->Hp->Prop}{as:TA}{g:TG}{gs:HI}{te:TE}{k i:Nat}{cap:List Nat}{f m:Str}{C:Addr}{sp:Sp}{dvs:List V}{E:St->XK}{v:V}{vs:List V}{QA:List V->Hp->Prop}{QG:St->Hp->Prop}{QO:Option Int->Hp->Prop}
theorem o1:AQ s1 s2 D σ H=(s1 { D with nx:=s2 D } σ H):=rfl
theorem o2:CK D σ H=(D.nx σ H):=rfl
theorem o3:kA D σ H=(D.bk σ H):=rfl
theorem o6:kB D σ H=(D.ct σ H):=rfl
theorem o7:AU ta g D σ H=(ta σ H λx H1=>g x σ H1 D.nx):=rfl
theorem o8:C6 ta D σ H=(ta σ H λ_ H1=>D.nx σ H1):=rfl
theorem o9:BB ta D σ H=(ta σ H D.rt):=rfl
theorem pA:QH D σ H=(D.rt .non H):=rfl
theorem pB:B7 tt s1 s2 D σ H=(tt σ H λb H1=>if b=true then s1 D σ H1 else s2 D σ H1):=rfl
theorem pC:tC v σ H Q=(Q v H):=rfl
theorem pD:AC r ta tb σ H Q=(ta σ H λx H1=>tb σ H1 λy H2=>r x y H2 Q):=rfl
theorem pE:A1 ta σ H QB=(ta σ H λx H'=>∃ k,x=.bl k/\QB k H'):=rfl
theorem pF:QM r r' ta tb tc σ H Q=(ta σ H λx H1=>tb σ H1 λy H2=>r x y H2 λz H3=>∃ k,z=.bl k/\(if k=true then tc σ H3 λw' H4=>r' y w' H4 Q else Q (.bl false) H3)):=rfl
theorem pG:OK tt σ H QB=(tt σ H λc H1=>QB (!c) H1):=rfl
theorem pH:FO tt tu σ H QB=(tt σ H λc H1=>if c=true then tu σ H1 QB else QB false H1):=rfl
theorem pI:KE tt tu σ H QB=(tt σ H λc H1=>if c=true then QB true H1 else tu σ H1 QB):=rfl
theorem pJ:ON ta tb σ H Q=(ta σ H λx H1=>∃ c,x=.bl c/\if c=true then tb σ H1 Q else Q (.bl false) H1):=rfl
theorem pK:j6 ta tb σ H Q=(ta σ H λx H1=>∃ c,x=.bl c/\if c=true then Q (.bl true) H1 else tb σ H1 Q):=rfl
theorem pL:oV K ta σ H Q=(ta σ H λx H1=>∃ k,FE K x H1 k/\Q (.bl (!k)) H1):=rfl
theorem pM:O5 K ta σ H QB=(ta σ H λx H'=>∃ k,FE K x H' k/\QB k H'):=rfl
theorem pN:QF tt ta tb σ H Q=(tt σ H λc H1=>if c=true then ta σ H1 Q else tb σ H1 Q):=rfl
theorem pO:AI σ H QA=(QA [] H):=rfl
theorem pP:AD ta as σ H QA=(ta σ H λx H1=>as σ H1 λxs H2=>QA (x::xs) H2):=rfl
theorem pQ:B6 as σ H Q=(as σ H λxs H1=>xs.length<=sizeLine/\∀ p,H1 p=none->Q (.ref p) (upd H1 p (.tup xs))):=rfl
theorem pR:CB as σ H Q=(as σ H λxs H1=>xs.length<=sizeLine/\∀ p,H1 p=none->Q (.ref p) (upd H1 p (.lst xs))):=rfl
theorem pT:A3 sp dvs E as σ H Q=(as σ H λvs H1=>sp (vs++dvs) H1 Q (E σ)):=rfl
theorem pU:CJ C m sp dvs E ta as σ H Q=(ta σ H λx H1=>∃ a dx fs,x=.ref a/\H1 a=some (.ins C dx fs)/\fs.lookup m=none/\as σ H1 λvs H2=>sp (x::(vs++dvs)) H2 Q (E σ)):=rfl
theorem pV:IJ C sp dvs E as σ H Q=(as σ H λvs H1=>∀ x dx,H1 x=none->H1 dx=none->dx≠x->sp (.ref x::(vs++dvs)) (upd (upd H1 dx (.own x)) x (.ins C dx [])) (λv H2=>v=.non/\Q (.ref x) H2) (E σ)):=rfl
theorem pW:BV K ta f σ H Q=(ta σ H λx H1=>∃ a C dx fs v,x=.ref a/\H1 a=some (.ins C dx fs)/\Cls K C/\NoAttr K C f/\fs.lookup f=some v/\Q v H1):=rfl
theorem pX:DY K ta tv f D σ H=(tv σ H λy H1=>ta σ H1 λx H2=>∃ a C dx fs,x=.ref a/\H2 a=some (.ins C dx fs)/\Cls K C/\NoAttr K C f/\fs.length<1000/\D.nx σ (upd H2 a (.ins C dx (BT f y fs)))):=rfl
theorem pY{ru:V->Hp->VK->Prop}:kM ru ta σ H Q=ta σ H λx H1=>ru x H1 Q:=rfl
theorem pZ{rc:List V->Hp->VK->Prop}:BQ rc as σ H Q=as σ H λvs H1=>rc vs H1 Q:=rfl
theorem p0:O1 C E as D σ H=(as σ H λvs H1=>vs.length<=sizeLine/\E σ (.ref C) none H1):=rfl
theorem p5{sb:(St->XK)->TS}{th:TH}:oA sb th D σ H=sb (λσ' cls _ H'=>th cls D σ' H') D σ H:=rfl
theorem p6:AN i v σ H QG=(QG (σ.set i (some v)) H):=rfl
theorem p7{rs:OP}:CZ to ti rs v σ H QG=to σ H λo H1=>ti σ H1 λi H2=>rs o i v H2 λH3=>QG σ H3:=rfl
theorem p8:FB K k gs v σ H QG=(∃ a xs,v=.ref a/\SqT K H a xs/\xs.length=k/\gs xs σ H QG):=rfl
theorem p9:FA vs σ H QG=((vs=[]/\QG σ H)):=rfl
theorem qA:DL g gs vs σ H QG=(∃ v r,vs=v::r/\g v σ H λσ' H'=>gs r σ' H' QG):=rfl
theorem qB{rs:V->Option Int->Option Int->Hp->VK->Prop}{ol oh:TO}:KI rs ta ol oh σ H Q=ta σ H λx H1=>ol σ H1 λl H2=>oh σ H2 λu H3=>rs x l u H3 Q:=rfl
theorem qC:OY σ H QO=(QO none H):=rfl
theorem qD:HM ta σ H QO=(ta σ H λx H1=>∃ i,x=.int i/\QO (some i) H1):=rfl
theorem qE{T:String}{rm:V->List V->Hp->VK->Prop}:ET K T rm ta as σ H Q=ta σ H λx H1=>MM K T x H1/\as σ H1 λxs H2=>rm x xs H2 Q:=rfl
theorem qF{T:String}{rm:V->List V->Hp->VK->Prop}:mQ K T rm ta σ H Q=ta σ H λx H1=>MM K T x H1/\rm x [] H1 Q:=rfl
theorem qG{tip:OQ}:kD i ta tip D σ H=∃ x,σ[i]? =some (some x)/\ta σ H λy H1=>tip x y H1 λz H2=>D.nx (σ.set i (some z)) H2:=rfl
theorem qH:DA σ H QB=(QB true H):=rfl
theorem qI:BR (CY as) g tt te k cap σ H Q=(as σ H λvs H1=>∃ j:Int,vs=[.int j]/\ -(2 ^ 62)<=j/\j<2 ^ 62/\DI (DV 0 j.toNat) g tt te k cap σ H1 Q):=rfl
theorem qJ:BR (VE as) g tt te k cap σ H Q=(as σ H λvs H1=>∃ i j:Int,vs=[.int i,.int j]/\(-(2 ^ 62)<=i/\i<2 ^ 62/\ -(2 ^ 62)<=j/\j<2 ^ 62)/\DI (DV i (j - i).toNat) g tt te k cap σ H1 Q):=rfl
theorem qK:BR (C0 K tl) g tt te k cap σ H Q=(tl σ H λx H1=>∃ a,x=.ref a/\(((∃ xs,SqL K H1 a xs)/\DI (EG K a) g tt te k cap σ H1 Q)\/((∃ xs,SqT K H1 a xs)/\DI (MI K a) g tt te k cap σ H1 Q))):=rfl
theorem qL:DW (CY as) g s1 D σ H=(as σ H λvs H1=>∃ j:Int,vs=[.int j]/\ -(2 ^ 62)<=j/\j<2 ^ 62/\FX (DV 0 j.toNat) g s1 D σ H1):=rfl
theorem qM:DW (VE as) g s1 D σ H=(as σ H λvs H1=>∃ i j:Int,vs=[.int i,.int j]/\(-(2 ^ 62)<=i/\i<2 ^ 62/\ -(2 ^ 62)<=j/\j<2 ^ 62)/\FX (DV i (j - i).toNat) g s1 D σ H1):=rfl
theorem qN:DW (C0 K tl) g s1 D σ H=(tl σ H λx H1=>∃ a,x=.ref a/\(((∃ xs,SqL K H1 a xs)/\FX (EG K a) g s1 D σ H1)\/((∃ xs,SqT K H1 a xs)/\FX (MI K a) g s1 D σ H1))):=rfl
theorem qO{rd:V->V->Hp->VK->Prop}:QT K ta tv rd f D σ H=(ta σ H λx H1=>∃ a C dx fs v,x=.ref a/\H1 a=some (.ins C dx fs)/\Cls K C/\NoAttr K C f/\fs.lookup f=some v/\tv σ H1 λy H2=>rd v y H2 λz H3=>∃ dx' fs',H3 a=some (.ins C dx' fs')/\fs'.length<1000/\D.nx σ (upd H3 a (.ins C dx' (BT f z fs')))):=rfl
end
end L2
namespace L2
section
variable{K:W.Frag}{σ:St}{H:Hp}{Q:VK}{P:Bool->Prop}{PI':Int->Prop}{PV:V->Prop}{QB:Bool->Hp->Prop}{v:V}{x:Option V}{i j:Int}{n:Nat}{b b':Bool}{s s':Str}{p q:Addr}{f:Int->Int->V}{C:Int->Int->Prop}
def AA(i:Nat):TE:=λσ H Q=>match σ[i]? with
 | some (some v)=>Q v H
 | _=>False
theorem RI:AA 0 (some v::σ) H Q=Q v H:=rfl
theorem qP:AA (n+1) (x::σ) H Q=AA n σ H Q:=rfl
theorem qQ(i:Nat):AA i=OJ i:=by
 funext σ H Q
 unfold AA OJ
 cases σ[i]? with
 | none=>simp
 | some o=>cases o<;>simp
theorem qR{P:Bool->Prop}:(∃ k,V.bl b=V.bl k/\P k)=P b:=by simp
theorem qS{P:Int->Prop}:(∃ k,V.int i=V.int k/\P k)=P i:=by simp
theorem qT{P:Addr->Prop}:(∃ k,V.ref p=V.ref k/\P k)=P p:=by simp
theorem qU{P:Bool->Prop}:(∃ k,FE K (.bl b) H k/\P k)=P b:=by simp[FE]
theorem qV{P:Bool->Prop}:(∃ k,FE K (.int i) H k/\P k)=P (i != 0):=by simp[FE]
theorem qW{P:Bool->Prop}:(∃ k,FE K .non H k/\P k)=P false:=by simp[FE]
theorem qX:BC K (.int i) (.int j) H Q=Q (.int (i+j)) H:=rfl
theorem qY:BC K (.str s) (.str s') H Q=(s.length+s'.length<=sizeLine/\Q (.str (s++s')) H):=rfl
theorem XM:BC K (.ref p) (.ref q) H Q=(Q4 (.ref p) (.ref q) H Q\/QW K (.ref p) (.ref q) H Q\/RF K (.ref p) (.ref q) H Q):=rfl
theorem qZ{x y:Str}:MR (.str x) (.str y) H Q=Q (.bl (!decide (y.cps.toList<x.cps.toList))) H:=rfl
theorem rA{x y:Str}:HQ (.str x) (.str y) H Q=Q (.bl (decide (x.cps.toList<y.cps.toList))) H:=rfl
theorem rB{x:Str}{lo hi:Option Int}:IM K (.str x) lo hi H Q=(x.length<=sizeLine/\Q (.str (Txt.slice x lo hi)) H):=rfl
theorem rC:DP K (.int i) (.int j) H Q=(CMul i j/\Q (.int (i * j)) H):=rfl
theorem rD{z:Str}{j:Int}:DP K (.str z) (.int j) H Q=(0<=j/\j<=1000/\z.length<=1000/\Q (.str (HR z j)) H):=rfl
theorem rE:DP K (.ref p) (.int j) H Q=(Q5 (.ref p) (.int j) H Q\/RG K (.ref p) (.int j) H Q):=rfl
theorem rF:FR f (.int i) (.int j) H Q=Q (f i j) H:=by simp[FR]
theorem rG:rI C f (.int i) (.int j) H Q=(C i j/\Q (f i j) H):=by simp[rI]
theorem rH{g:Int->V}:rU g (.int i) H Q=Q (g i) H:=by simp[rU]
theorem rJ:HQ (.int i) (.int j) H Q=Q (.bl (decide (i<j))) H:=rfl
theorem rK:MR (.int i) (.int j) H Q=Q (.bl (decide (i<=j))) H:=rfl
theorem rM:FW (.int i) (.int j) H Q=Q (.bl (decide (j<i))) H:=rfl
theorem rN:O3 (.int i) (.int j) H Q=Q (.bl (decide (j<=i))) H:=rfl
theorem XN:BM K (.int i) (.int j) H Q=Q (.bl (decide (i=j))) H:=by simp[BM,DQ]
theorem rO:BM K (.str s) (.str s') H Q=Q (.bl (decide (s=s'))) H:=by simp[BM,DQ]
theorem rP:BM K (.bl b) (.bl b') H Q=Q (.bl (decide (b=b'))) H:=by simp[BM,DQ]
theorem XO:BM K .non (.int j) H Q=Q (.bl false) H:=by simp[BM,DQ]
theorem rQ:BM K (.int j) .non H Q=Q (.bl false) H:=by simp[BM,DQ]
theorem rR:BM K .non .non H Q=Q (.bl true) H:=by simp[BM,DQ]
theorem XQ:CO K (.int i) (.int j) H Q=Q (.bl (!decide (i=j))) H:=by simp[CO,DQ]
theorem rS:CO K (.str s) (.str s') H Q=Q (.bl (!decide (s=s'))) H:=by simp[CO,DQ]
theorem rT:CO K (.bl b) (.bl b') H Q=Q (.bl (!decide (b=b'))) H:=by simp[CO,DQ]
theorem XR:CO K .non (.int j) H Q=Q (.bl true) H:=by simp[CO,DQ]
theorem rV:CO K (.int j) .non H Q=Q (.bl true) H:=by simp[CO,DQ]
theorem rW:CO K .non .non H Q=Q (.bl false) H:=by simp[CO,DQ]
theorem rX:EV v .non H Q=Q (.bl (decide (v=.non))) H:=by simp[EV]
theorem rY:GH v .non H Q=Q (.bl (!decide (v=.non))) H:=by simp[GH]
theorem rZ{g:Int->Int->Int}:QJ g (.int i) (.int j) H Q=Q (.int (g i j)) H:=by simp[QJ]
theorem r8:MK (.int i) (.int j) H Q=Q (.int (i+j)) H:=by simp[MK]
theorem sA:CA K [v] H Q=∃ n:Nat,KG K v H n/\Q (.int n) H:=by simp[CA]
theorem sB:IP K [.bl b] H Q=Q (.int (if b then 1 else 0)) H:=by simp[IP]
theorem sC:IP K [.int i] H Q=Q (.int i) H:=by simp[IP]
theorem XS:IN K [.ref p] H Q=∃ ys,(SqL K H p ys\/SqT K H p ys)/\∀ l,H l=none->Q (.ref l) (upd H l (.lst ys)):=by simp[IN]
theorem sD:MT K [.ref p] H Q=∃ ys,((SqL K H p ys/\∀ l,H l=none->Q (.ref l) (upd H l (.tup ys)))\/(SqT K H p ys/\Q (.ref p) H)):=by simp[MT]
end
theorem AB{X:Cx}(i:Nat){x:Str}{pos:Pos}(hN:X.N[i]? =some x:=by rfl)(hv:OI X.env.scope x:=by first | exact Or.inl rfl | exact Or.inr (Or.inl rfl) | exact Or.inr (Or.inr rfl))(hd:(x ==("__debug__":Str))=false:=by decide)
  (hcd:(x ==("__classdict__":Str))=false:=by decide):PE X (.Name x pos) (AA i):=by
 rw[qQ]
 exact VB hN hv hd hcd
end L2
namespace L2
abbrev A7(Q:VK):Ends:={ nx:=λ_ H'=>Q .non H',rt:=Q }
abbrev BG(cap:List Nat)(σ:St):St:=cap.map λi=>(σ[i]?).join
section
variable{K:W.Frag}{te:TE}{cap:List Nat}{σ:St}{H:Hp}{Q:VK}
theorem MU{lo:Int}{n:Nat}(hn:n<=sizeLine)(Pv:Nat->List V->Hp->Prop)(h0:Pv 0 [] H)(hs:∀ i ys H,i<n->ys.length=i->Pv i ys H->te (some (.int (lo+i))::BG cap σ) H λy H2=>Pv (i+1) (ys++[y]) H2)
  (hd:∀ ys H,ys.length=n->Pv n ys H->∀ p,H p=none->Q (.ref p) (upd H p (.lst ys))) :
  DI (DV lo n) (AN 0) DA te 1 cap σ H Q:=by
 refine⟨λi m σ' ys H=>m=n - i/\i<=n/\ys.length=i/\(∃ x0,σ'=x0::BG cap σ)/\Pv i ys H,⟨n,by simp,Nat.zero_le _,rfl,⟨none,rfl⟩,h0⟩,?_⟩
 rintro i m σ' ys H ⟨rfl,hi,hl,⟨x0,rfl⟩,p⟩
 by_cases hlt:i<n
 ·refine .inr ⟨hlt,by omega,λx H' y=> ?_⟩
  obtain⟨e,y⟩:=y
  subst e y
  simp only[AN,DA,if_true]
  refine⟨_,λy H4 q=>⟨n - (i+1),by omega,rfl,hlt,?_,⟨_,rfl⟩,q⟩,hs i ys _ hlt hl p⟩
  rw[List.length_append,List.length_singleton,hl]
 ·have e:i=n:=by omega
  subst e
  exact .inl ⟨Nat.le_refl _,hd ys H hl p⟩
theorem XT{b:Addr}{xs:List V}(hn:xs.length<=sizeLine)(Pv:Nat->List V->Hp->Prop)(h0:Pv 0 [] H)(hq:∀ i ys H,i<=xs.length->Pv i ys H->SqL K H b xs)
  (hs:∀ i x ys H,xs[i]? =some x->ys.length=i->Pv i ys H->te (some x::BG cap σ) H λy H2=>Pv (i+1) (ys++[y]) H2)
  (hd:∀ ys H,ys.length=xs.length->Pv xs.length ys H->∀ p,H p=none->Q (.ref p) (upd H p (.lst ys))) :
  DI (EG K b) (AN 0) DA te 1 cap σ H Q:=by
 refine⟨λi m σ' ys H=>m=xs.length - i/\i<=xs.length/\ys.length=i/\(∃ x0,σ'=x0::BG cap σ)/\Pv i ys H,⟨xs.length,by simp,Nat.zero_le _,rfl,⟨none,rfl⟩,h0⟩,?_⟩
 rintro i m σ' ys H ⟨rfl,hi,hl,⟨x0,rfl⟩,p⟩
 have q:=hq i ys H hi p
 by_cases hlt:i<xs.length
 ·refine .inr ⟨⟨xs,xs[i],q,by simp[hlt]⟩,by omega,λx H' y=> ?_⟩
  obtain⟨e,y⟩:=y
  subst e
  have hx:=y xs q
  simp only[AN,DA,if_true]
  refine⟨_,λy H4 q=>⟨xs.length - (i+1),by omega,rfl,hlt,?_,⟨_,rfl⟩,q⟩,hs i x ys _ hx hl p⟩
  rw[List.length_append,List.length_singleton,hl]
 ·have e:i=xs.length:=by omega
  subst e
  exact .inl ⟨⟨xs,q,Nat.le_refl _⟩,hd ys H hl p⟩
theorem sE{lo:Int}{n:Nat}(hn:n<=sizeLine)(f:Nat->V)(hs:∀ i,i<n->∀ Q':VK,Q' (f i) H->te (some (.int (lo+i))::BG cap σ) H Q')
  (hd:∀ p,H p=none->Q (.ref p) (upd H p (.lst ((List.range n).map f)))) :
  DI (DV lo n) (AN 0) DA te 1 cap σ H Q:=by
 refine MU hn (λi ys H'=>H'=H/\ys=(List.range i).map f) ⟨rfl,rfl⟩ (λi ys H' hi hl ⟨e1,e2⟩=> ?_) (λys H' hl ⟨e1,e2⟩=> ?_)
 ·subst e1
  refine hs i hi _ ⟨rfl,?_⟩
  rw[e2,List.range_succ,List.map_append];rfl
 ·subst e1;subst e2;exact hd
theorem KK{b:Addr}{xs:List V}{g:TG}{tb:TS}{D:Ends}(Pv:Nat->St->Hp->Prop)(h0:Pv 0 σ H)(hl:∀ i σ H,i<=xs.length->Pv i σ H->SqL K H b xs)
  (hs:∀ i x σ H,xs[i]? =some x->Pv i σ H->g x σ H λσ2 H2=>tb { D with nx:=Pv (i+1),ct:=Pv (i+1),bk:=D.nx } σ2 H2) (hd:∀ σ H,Pv xs.length σ H->D.nx σ H):FX (EG K b) g tb D σ H:=kJ Pv h0 hl hs hd
theorem O9{lo:Int}{n:Nat}{g:TG}{tb:TS}{D:Ends}(Pv:Nat->St->Hp->Prop)(h0:Pv 0 σ H)
  (hs:∀ i σ H,i<n->Pv i σ H->g (.int (lo+i)) σ H λσ2 H2=>tb { D with nx:=Pv (i+1),ct:=Pv (i+1),bk:=D.nx } σ2 H2) (hd:∀ σ H,Pv n σ H->D.nx σ H):FX (DV lo n) g tb D σ H:=kK Pv h0 hs hd
end
theorem sF{K:W.Frag}{H:Hp}{x y:V}{t c:Value}{b:Bool}{Q:VK}(ty:TyX K H x t)(cv:ClsV y c)(k:W.kitOne K t c=some b)(q:Q (.bl b) H):RH K [x,y] H Q:=⟨x,y,t,b,rfl,ty,.inl ⟨c,cv,k⟩,q⟩
theorem AY{H:Hp}{p:Addr}{o:HO}(h:H p=none):Same H (upd H p o):=λb u e=>by rw[AW (BX e h)];exact e
theorem RJ{α β :Type}{F: α -> β ->Prop}:∀ {l:List α} {m:List β} {i:Nat} {y: β},Paired F l m->m[i]? =some y->∃ x,l[i]? =some x/\F x y
 | _,_,_,_,.nil,e=>by simp at e
 | _,_,0,_,.cons r _,e=>by simp at e;subst e;exact⟨_,rfl,r⟩
 | _,_,i+1,y,.cons _ t,e=>by
  obtain⟨u,h1,h2⟩:=RJ (i:=i) (y:=y) t (by simpa using e)
  exact⟨u,by simpa using h1,h2⟩
theorem RK{α β :Type}{F: α -> β ->Prop}{x: α}{y: β}(r:F x y):∀ {l:List α} {m:List β} (i:Nat),Paired F l m->Paired F (l.set i x) (m.set i y)
 | _,_,_,.nil=>.nil
 | _,_,0,.cons _ t=>.cons r t
 | _,_,i+1,.cons q t=>.cons q (RK r i t)
theorem BU{K:W.Frag}{H:Hp}{p:Addr}{xs:List V}{i:Int}{n:Nat}{v:V}{Q:VK}(h:SqL K H p xs)(hi:i=n)(hx:xs[n]? =some v)(q:Q v H):AK K (.ref p) (.int i) H Q :=
 .inl ⟨p,xs,i,v,rfl,rfl,h,hi ▸ QY hx,q⟩
theorem small(n:Nat)(h:n<=100000):n<=sizeLine:=Nat.le_trans h (by decide)
theorem XU{α :Type}(x: α):∀ w:Nat,(List.replicate w [x]).flatten=List.replicate w x
 | 0=>rfl
 | w+1=>by rw[List.replicate_succ,List.flatten_cons,XU x w];rfl
theorem G2{f:Str}{v:V}{fs:List (Str × V)}{n:Nat}(h:fs.length+1<n):(BT f v fs).length<n:=Nat.lt_of_le_of_lt (QR f v fs) h
theorem XV{d:PyData}(h:shp d):PyData.eqv d d=true:=PySem.SeqAt.eqv_refl d (PySem.SeqAt.canLay_of_shaped h)
end L2
namespace L2
def ItK(k:Bool)(h:Heap)(j a:Addr)(i:Nat):Prop:=if k then h.IsListIter j a i else h.IsTupleIter j a i
def SeqK(k:Bool)(h:Heap)(a:Addr)(xs:Array Value):Prop:=if k then h.IsList a xs else h.IsTuple a xs
theorem ItK.up{k:Bool}{h h':Heap}{j a:Addr}{i:Nat}(x:ItK k h j a i)(q:∀ o,h.get? j=some o->h'.get? j=some o):ItK k h' j a i:=by
 cases k<;>exact(let ⟨o,e,r⟩:=x;⟨o,q o e,r⟩)
theorem SeqK.up{k:Bool}{h h':Heap}{a:Addr}{xs:Array Value}(x:SeqK k h a xs)(q:∀ o,h.get? a=some o->h'.get? a=some o):SeqK k h' a xs:=by
 cases k<;>exact(let ⟨o,e,r⟩:=x;⟨o,q o e,r⟩)
theorem ItK.ob{k:Bool}{h:Heap}{j a:Addr}{i:Nat}(x:ItK k h j a i):∃ o,h.get? j=some o/\o.data=.fields #[.ref a,.int i 0]:=by
 cases k<;>exact(let ⟨o,e,_,r⟩:=x;⟨o,e,r⟩)
section
variable{P:Program}{w:World}{A:Around}{E:Value->Shared->Prop}{s:Shared}
theorem sG{j t:Addr}{i:Nat}{its:Array Value}{Q:Value->Shared->Prop}(z:A.handled=none)(c:s.heap.IsTupleIter j t i)(d:s.heap.IsTuple t its)(e:its[i]? =none)
  (q:∀ h' x,Heap.ExtBut j s.heap h'->(∃ o,h'.get? x=some o/\o.cls=.type "StopIteration")->E (.ref x) { s with heap:=h' }):wpAny (model P w) A (Builtin.SmallTypes.nextOf (.ref j)) Q E s:=by
 obtain⟨oj,e1,e2,e3⟩:=id c
 obtain⟨ot,f1,_,n,f2⟩:=d
 unfold Builtin.SmallTypes.nextOf
 refine wpAny_bind (wpAny_callSpecial?_slot (name:=Str.ofString "__next__") c.typeIs F.slot_tuple_iterator_next (wpAny_call_entry F.slot_tuple_iterator_next c.typeIs F.entry_tuple_iterator_next ?_ (F.args_tuple_iterator_next_1 _)))
 show wpAny (model P w) _ (field (.ref j) 0 >>= _) _ _ s
 refine wpAny_bind (wpAny_field e1 e3 (x:=.ref t) rfl ?_)
 show wpAny (model P w) _ (field (.ref j) 1 >>= _) _ _ s
 refine wpAny_bind (wpAny_field e1 e3 (x:=.int i 0) rfl ?_)
 show wpAny (model P w) _ (seqItems? (.ref t) >>= _) _ _ s
 refine wpAny_bind (wpAny_seqItems f1 f2 ?_)
 simp only[Int.toNat_natCast,e]
 refine wpAny_bind (wpAny_rule (wpAny_bind (wpAny_setField e1 e3 (by simp) ?_)))
 show wpAny (model P w) _ (newExc (.type "StopIteration") [] >>= _) _ _ _
 refine wpAny_bind ?_
 simp only[newExc,newTuple]
 refine wpAny_bind (wpAny_newObj_type (wpAny_bind (m:=firstArgMember _ _) (wpAny_of_eq (a:=Value.none) (by first | rfl | (simp only[firstArgMember];rfl)) (wpAny_newObj_type ?_ (by size_fits)))) (by size_fits))
 simp only[raiseNew]
 refine wpAny_bind (wpAny_handled ?_)
 rw[show A.in1.handled=none from z]
 exact wpAny_bind (wpAny_pure (wpAny_throw (q _ _ (((Heap.SameBut.update ..).extBut.push _).push _) ⟨_,Heap.get?_push_size _ rfl,rfl⟩)))
theorem sH{k:Bool}{j t:Addr}{i:Nat}{its:Array Value}{Q:Value->Shared->Prop}(z:A.handled=none)(c:ItK k s.heap j t i)(d:SeqK k s.heap t its)(e:its[i]? =none)
  (q:∀ h' x,Heap.ExtBut j s.heap h'->(∃ o,h'.get? x=some o/\o.cls=.type "StopIteration")->E (.ref x) { s with heap:=h' }):wpAny (model P w) A (Builtin.SmallTypes.nextOf (.ref j)) Q E s:=by
 cases k
 ·exact sG z c d e q
 ·exact wpAny_nextOf_list_end z c d e q
end
section
variable{P:Program}{w:World}{A:Around}{E:Value->Shared->Prop}{s:Shared}
end
theorem Inv.turnedS{X:Cx}{pins:List (Addr × Obj)}{σ:St}{H:Hp}{s:Shared}{h':Heap}{t':Nat}{fp:List Addr}(I:Inv X pins σ H s)(k:∀ b o,b∉fp->s.heap.get? b=some o->h'.get? b=some o)(hf:∀ b∈fp,FpOk X pins H b):Inv X pins σ H { s with heap:=h',toks:=t' }:=by
 have nit:∀ b u,H b=some u->b∉fp:=λb u e z=>by rw[(hf b z).1]at e;cases e
 refine I.step (g':=s.gens) (d':=s.drawn) (ch:=fp) (λb hb=> ?_) (λb o _ _ hc e _=>k b o hc e) (λb o _ _ hc e _=>⟨o.slots,k b o hc e⟩) (λ_ _ _ _ n=>n)
  (λb o hc e=>⟨o,k b o hc e⟩) (λ_ _ e=>e) (λ_ _ _ e=>e) (λb ps e=>⟨#[],by rw[e];simp⟩) (λm hm=> ?_) (λb u e=> ?_) I.bare
 ·obtain⟨_,f1,_,f3,f4,f5⟩:=hf b hb
  exact⟨f3,f1,f4,f5⟩
 ·obtain⟨o,es,ep,ho,r⟩:=hm
  exact⟨o,es,ep,k _ o (λz=>(hf _ z).2.1 rfl) ho,r⟩
 ·refine(I.hok b u e).stay (λc v hc q=>k c v ?_ q) (λ_ q=>q) λ_ _ q=>q
  rcases hc with z | z
  ·rw[z];exact nit b u e
  ·exact nit c _ z
def SqB(K:W.Frag)(k:Bool)(H:Hp)(a:Addr)(xs:List V):Prop:=if k then SqL K H a xs else SqT K H a xs
theorem Inv.seqK{X:Cx}{pins:List (Addr × Obj)}{σ:St}{H:Hp}{s:Shared}{k:Bool}{a:Addr}{xs:List V}(I:Inv X pins σ H s)(q:SqB X.K k H a xs):∃ its,Vals xs its/\SeqK k s.heap a its.toArray:=by
 cases k
 ·obtain⟨its,rv,p,_⟩:=I.tuple q
  exact⟨its,rv,p⟩
 ·obtain⟨its,rv,p,_⟩:=I.list q
  exact⟨its,rv,p.isList⟩
theorem Inv.seqK_inj{X:Cx}{pins:List (Addr × Obj)}{σ:St}{H:Hp}{s:Shared}{k:Bool}{a:Addr}{xs ys:List V}(I:Inv X pins σ H s)(p:SqB X.K k H a xs)(q:SqB X.K k H a ys):xs=ys:=by
 cases k
 ·exact I.tuple_inj p q
 ·exact I.list_inj p q
theorem SeqK.lt{k:Bool}{h:Heap}{a:Addr}{xs:Array Value}(x:SeqK k h a xs):a<h.objs.size:=by
 cases k<;>exact(let ⟨_,e,_⟩:=x;Heap.lt_size e)
theorem SeqK.nit{k:Bool}{h:Heap}{a b:Addr}{xs:Array Value}(x:SeqK k h a xs){o:Obj}(e:h.get? b=some o)(n:∀ its m,o.data≠.seq its m):a≠b:=by
 intro z
 subst z
 cases k<;>(obtain⟨o',e',_,m,d⟩:=x;rw[e]at e';cases e';exact n _ _ d)
def ZipSt(k k':Bool)(z l l':Addr)(f:Value)(i:Nat)(h:Heap)(T U j j':Addr):Prop :=
 IsZip h z T U f/\IsPair h T (.ref j) (.ref j')/\(∃ a b,IsPair h U a b)/\ItK k h j l i/\ItK k' h j' l' i
structure Five(z T U j j':Addr):Prop where
 a1:T≠z
 a2:U≠z
 a3:j≠z
 a4:j'≠z
 a5:T≠U
 a6:T≠j
 a7:T≠j'
 a8:U≠j
 a9:U≠j'
 a10:j≠j'
theorem SqB.off{X:Cx}{pins:List (Addr × Obj)}{σ:St}{H:Hp}{s:Shared}{k:Bool}{m b:Addr}{zs:List V}(I:Inv X pins σ H s)(q:SqB X.K k H m zs)(f:FpOk X pins H b):m≠b:=by
 intro e
 subst e
 obtain⟨f0,_,_,f3,_⟩:=f
 have no:∀ o,X.K.lookup m=some o->False:=λo hk=>by
  have e:=I.mod.kin m o hk
  rcases f3 with z | z
  ·exact I.ok.noex _ _ e z
  ·exact absurd (Heap.lt_size (I.ok.bs _ _ e).1) (Nat.not_lt.mpr z)
 have nr:∀ u,Rd H m u->False:=λu r=>by
  rcases r with r | ⟨o,r⟩<;>(rw[f0]at r;cases r)
 cases k
 ·rcases q with q | ⟨o,_,_,hk,_⟩
  ·exact nr _ q
  ·exact no o hk
 ·rcases q with q | ⟨o,_,_,hk,_⟩
  ·exact nr _ q
  ·exact no o hk
theorem FpOk.upd{X:Cx}{pins:List (Addr × Obj)}{H:Hp}{a b:Addr}{o:HO}(f:FpOk X pins H b)(n:b≠a):FpOk X pins (upd H a o) b:=⟨(AW n).trans f.1,f.2⟩
theorem ZipSt.lt{k k':Bool}{z l l' T U j j':Addr}{f:Value}{i:Nat}{h:Heap}(q:ZipSt k k' z l l' f i h T U j j'):∀ b∈[z,T,U,j,j'],b<h.objs.size:=by
 obtain⟨h1,h2,⟨a,b',h3⟩,h4,h5⟩:=q
 obtain⟨o4,e4,_⟩:=h4.ob
 obtain⟨o5,e5,_⟩:=h5.ob
 intro b hb
 simp only[List.mem_cons,List.not_mem_nil,or_false]at hb
 rcases hb with rfl | rfl | rfl | rfl | rfl
 ·exact Heap.lt_size h1
 ·exact Heap.lt_size h2
 ·exact Heap.lt_size h3
 ·exact Heap.lt_size e4
 ·exact Heap.lt_size e5
theorem Five.apart{z T U j j' l l':Addr}(D:Five z T U j j')(n:∀ b∈[z,T,U,j,j'],l≠b)(n':∀ b∈[z,T,U,j,j'],l'≠b):ZipApart z T U j j' l l' :=
 ⟨D.a1,D.a2,D.a3,D.a4,D.a5,D.a6,D.a7,D.a8,D.a9,D.a10,n _ (by simp),n _ (by simp),n _ (by simp),n _ (by simp),n' _ (by simp),n' _ (by simp),n' _ (by simp),n' _ (by simp)⟩
section
variable{X:Cx}{tg:Expr}
end
theorem Fun.none{P:Program}{w:World}{K:W.Frag}{mg:Str->Option Value}{base:Heap}{x qual:Str}{st:Stmt}{f:Addr}{fd:FuncData}{N ps:List Str}{k:Nat}{sp:Sp}(F:Fun K x qual st f fd)(S:FnScope N ps (AO st))(no:∀ vs H Q E,sp vs H Q E->False):FnOk P w K mg base (DS P w) (k+1) f fd ps sp :=
 F.okE S (λvs H Q E h=>(no vs H Q E h).elim) λ_ _ _ _ H vs Q E _ h=>(no vs H Q E h).elim
end L2
namespace L2
def XW(z:Str):It:=⟨λi _=>i<z.cps.size,λi H x H'=>H'=H/\∃ c,z.cps[i]? =some c/\x=.str ⟨#[c]⟩,λi _=>z.cps.size<=i⟩
def sI(tl:TE):TI:=λσ H R=>tl σ H λx H1=>∃ z,x=.str z/\R (XW z) H1
section
variable{X:Cx}{tg:Expr}
def XX(K:W.Frag):List V->Hp->VK->Prop:=λxs H Q=>∃ x,xs=[.str x]/\x.length=1/\Q (.int (x.cps.getD 0 0:Nat)) H
def RM(K:W.Frag):List V->Hp->VK->Prop:=λxs H Q=>∃ i j,xs=[.int i,.int j]/\Q (.int (if j > i then j else i)) H
theorem sJ(hc:X.calm=true):CallR X (.builtin "max") (RM X.K):=lB hc
def XY:R2:=λx y H Q=>∃ b c,x=.bl b/\y=.bl c/\Q (.bl (decide (b=c))) H
def XZ:R2:=λx y H Q=>∃ b c,x=.bl b/\y=.bl c/\Q (.bl (!decide (b=c))) H
theorem sK:OpR X (compareOp .Is) XY:=by
 intro pins s σ H x y v u Q I rx ry h
 obtain⟨b,c,rfl,rfl,q⟩:=h
 cases (show v=Value.bool b from rx)
 cases (show u=Value.bool c from ry)
 exact wpAny_pure ⟨.bl _,H,I,(by cases b<;>cases c<;>rfl),q⟩
theorem sL:OpR X (compareOp .IsNot) XZ:=by
 intro pins s σ H x y v u Q I rx ry h
 obtain⟨b,c,rfl,rfl,q⟩:=h
 cases (show v=Value.bool b from rx)
 cases (show u=Value.bool c from ry)
 exact wpAny_pure ⟨.bl _,H,I,(by cases b<;>cases c<;>rfl),q⟩
end
theorem sM{K:W.Frag}{x:Str}{H:Hp}{Q:VK}:XX K [.str x] H Q=(x.length=1/\Q (.int (x.cps.getD 0 0:Nat)) H):=by simp[XX]
theorem sO{K:W.Frag}{i j:Int}{H:Hp}{Q:VK}:RM K [.int i,.int j] H Q=Q (.int (if j > i then j else i)) H:=propext ⟨λ⟨_,_,e,q⟩=>by cases e;exact q,λq=>⟨_,_,rfl,q⟩⟩
section
variable{P:Program}{w:World}{A:Around}{E:Value->Shared->Prop}{s:Shared}
end
section
variable{X:Cx}
def X0(k:Nat):List V:=(List.range k).map λ(i:Nat)=>V.int (i:Int)
end
theorem sP{tl:TE}{g:TG}{tt:TT}{te:TE}{k:Nat}{cap:List Nat}{σ:St}{H:Hp}{Q:VK}:BR (sI tl) g tt te k cap σ H Q=(tl σ H λx H1=>∃ z,x=.str z/\DI (XW z) g tt te k cap σ H1 Q):=rfl
end L2
namespace L2
open PySem
abbrev X6(l:List Nat):Prop:=l.Pairwise (· <·)
structure Below(xs:Array Nat)(j r:Nat):Prop where
 le:r<=xs.size
 lo:∀ i v,i<r->xs.toList[i]? =some v->v<j
 hi:∀ i v,r<=i->xs.toList[i]? =some v->j<=v
theorem Below.uniq{xs:Array Nat}{j r r':Nat}(a:Below xs j r)(b:Below xs j r'):r=r':=by
 rcases Nat.lt_trichotomy r r' with h | h | h
 ·have hs:r<xs.size:=Nat.lt_of_lt_of_le h b.le
  have e:xs.toList[r]? =some (xs[r]):=by simp[hs]
  have:=b.lo _ _ h e
  have:=a.hi _ _ (Nat.le_refl _) e
  omega
 ·exact h
 ·have hs:r'<xs.size:=Nat.lt_of_lt_of_le h a.le
  have e:xs.toList[r']? =some (xs[r']):=by simp[hs]
  have:=a.lo _ _ h e
  have:=b.hi _ _ (Nat.le_refl _) e
  omega
def NotIn(t:SetTable)(j:Nat):Prop:=t.place[SetTable.below t.place j]? ≠some j
theorem sQ(n:Nat):X6 (Array.range n).toList:=by
 rw[Array.toList_range]
 exact List.pairwise_lt_range
structure Led(led:Bool)(t:SetTable):Prop where
 rise:X6 t.place.toList
 led:t.led=led
theorem Led.standIn{led:Bool}{t:SetTable}(h:t.led=led)(n:Nat):Led led (t.standIn n):=⟨sQ n,h⟩
theorem Led.or{led:Bool}{t:SetTable}(h:Led led t)(n:Nat):Led led (t.orStandIn n):=by
 unfold SetTable.orStandIn
 split
 ·exact h
 ·exact .standIn h.led n
theorem Led.fresh(led:Bool):Led led (.fresh 0 0 led):=⟨List.Pairwise.nil,rfl⟩
end L2
namespace L2
open PySem PyProof.Rows
def leads(w:World):Bool:= !w.params.followText "set-order"
def iv:Value->Int
 | .int n _=>n
 | _=>0
def IntSet(P:Program)(w:World)(h:Heap)(a:Addr)(ms:List Int):Prop :=
 ∃ (o:Obj) (es:Array (Int × Value)) (ep:Nat) (t:SetTable),h.get? a=some o/\o.ExactSet/\o.data=.set es ep t/\ElemsOf (intKind P w) es.toList ∧
  List.Perm (es.toList.map λe=>iv e.2) ms/\es.size<scanBound/\t.fits es.size=true/\Led (leads w) t
section
variable{P:Program}{w:World}{A:Around}{E:Value->Shared->Prop}{s:Shared}
theorem IntSet.at{h h':Heap}{a:Addr}{ms:List Int}(x:IntSet P w h a ms)(k:∀ o,h.get? a=some o->h'.get? a=some o):IntSet P w h' a ms:=by
 obtain⟨o,es,ep,t,ho,r⟩:=x
 exact⟨o,es,ep,t,k _ ho,r⟩
end
section
variable{P:Program}{w:World}{A:Around}{R:Result->Shared->Prop}{I:Addr}{fp wr:List Addr}{G:Array GenState->Array GenState->Prop}{n:Nat}{T:Nat->Value->Prop}{St:Nat->Shared->Prop}
end
section
variable{P:Program}{w:World}{A:Around}{E:Value->Shared->Prop}{s:Shared}
end
end L2
namespace L2
open PySem PyProof.Rows
section
variable{P:Program}{w:World}{A:Around}{E:Value->Shared->Prop}{s:Shared}
end
end L2
namespace L2
open PySem PyProof.Rows
structure zbd(P:Program)(w:World)(A:Around)(h h1:Heap)(a I:Addr)(ms:List Int):Prop where
 ex:∃ (fp:List Addr) (ord:List Value) (ks:List Int) (St:Nat->Heap->Prop),(∀ b∈fp,b=a\/h.objs.size<=b)/\Walks P w A I fp [I] ord.length (λi v=>ord[i]? =some v) St/\St 0 h1/\IntsAre ord ks/\ks.Perm ms
 new:h.objs.size<=I
section
variable{P:Program}{w:World}{A:Around}{E:Value->Shared->Prop}{s:Shared}
end
end L2
namespace L2
open PySem PyProof.Rows
section
variable{P:Program}{w:World}{A:Around}{E:Value->Shared->Prop}{s:Shared}
end
end L2
namespace L2
section
variable{X:Cx}
theorem Inv.drawn{pins:List (Addr × Obj)}{σ:St}{H:Hp}{s:Shared}(I:Inv X pins σ H s)(d):Inv X pins σ H { s with drawn:=d } :=
 { ok:=I.ok,os:=I.os,bare:=I.bare,base:=I.base,loc:=I.loc,cell:=I.cell,free:=I.free,freeC:=I.freeC,pin:=I.pin,hok:=I.hok,len:=I.len }
theorem X7:∀ {ns:List Int} {us:List Value},Vals (ns.map V.int) us->IntsAre us ns
 | [],_,.nil=>.nil
 | n::r,_,.cons h t=>by
  obtain⟨tk,rfl⟩:=h
  exact .cons _ _ (X7 t)
def sR(K:W.Frag)(te:TE):TE:=λσ H Q=>te σ H λx H1=>∃ (p:Addr) (ns:List Int),x=.ref p/\SqL K H1 p (ns.map V.int)/\ns.length<64 ∧
 ∀ (a:Addr) (o:HO) (D:Addr) (ks:List Int),H1 a=none->upd H1 a o D=none->ks.Pairwise (· <·)->(∀ x,x∈ks↔x∈ns)->ks.length<=ns.length->Q (.ref D) (upd (upd H1 a o) D (.lst (ks.map V.int)))
def clo(te:TE):TE:=λσ H Q=>∃ C:VK,te σ H C/\∀ x H1,C x H1->Q x H1
theorem PE.clo{e:Expr}{te:TE}(h:PE X e te):PE X e (clo te):=λpins s σ H Q I ⟨C,q,m⟩=>AZ (h pins s σ H C I q) λv s' ⟨x,H1,I1,r1,q1⟩=>⟨x,H1,I1,r1,m _ _ q1⟩
end
end L2
namespace L2
def X8(K:W.Frag)(a:Addr)(n:Nat):It :=
 ⟨λi H=>i<n/\∃ xs,SqL K H a xs/\xs.length=n,λi H x H'=>H'=H/\∀ xs,SqL K H a xs->xs[n - 1 - i]? =some x,λi _=>n<=i⟩
def sT(K:W.Frag)(ta:TA):TI:=λσ H R=>ta σ H λvs H1=>∃ a xs,vs=[.ref a]/\SqL K H1 a xs/\R (X8 K a xs.length) H1
section
variable{X:Cx}{tg:Expr}
def sU(K:W.Frag)(te:TE)(ts:TO):TE:=λσ H Q=>te σ H λx H1=>ts σ H1 λk H2=>k=some (-1)/\∃ a xs,x=.ref a/\SqL K H2 a xs/\∀ p,H2 p=none->Q (.ref p) (upd H2 p (.lst xs.reverse))
theorem sV{K:W.Frag}{te:TE}{ts:TO}{σ:St}{H:Hp}{Q:VK}:sU K te ts σ H Q=(te σ H λx H1=>ts σ H1 λk H2=>k=some (-1)/\∃ a xs,x=.ref a/\SqL K H2 a xs/\∀ p,H2 p=none->Q (.ref p) (upd H2 p (.lst xs.reverse))):=rfl
def sW(ta:TA):TE:=λσ H Q=>ta σ H λvs H1=>∃ k:Nat,vs=[.int k]/\k<=100000/\∀ p,H1 p=none->Q (.ref p) (upd H1 p (.lst (X0 k)))
theorem sX{ta:TA}{σ:St}{H:Hp}{Q:VK}:sW ta σ H Q=(ta σ H λvs H1=>∃ k:Nat,vs=[.int k]/\k<=100000/\∀ p,H1 p=none->Q (.ref p) (upd H1 p (.lst (X0 k)))):=rfl
def X9(K:W.Frag):List V->Hp->VK->Prop:=λxs H Q=>∃ (p:Addr) (kvs:List (BD × V)),xs=[.ref p]/\H p=some (.dK kvs)/\∀ l,H l=none->Q (.ref l) (upd H l (.dK kvs))
theorem sY{K:W.Frag}{p:Addr}{H:Hp}{Q:VK}:X9 K [.ref p] H Q=∃ kvs,H p=some (.dK kvs)/\∀ l,H l=none->Q (.ref l) (upd H l (.dK kvs)):=by simp[X9]
end
theorem sZ{K:W.Frag}{as:TA}{g:TG}{s1:TS}{D:Ends}{σ:St}{H:Hp}:DW (sT K as) g s1 D σ H=(as σ H λvs H1=>∃ a xs,vs=[.ref a]/\SqL K H1 a xs/\FX (X8 K a xs.length) g s1 D σ H1):=rfl
section
variable{K:W.Frag}{tt:TT}{cap:List Nat}{σ:St}{H:Hp}{Q:VK}
theorem G3{n:Nat}(p:Nat->Bool)(hn:n<=sizeLine)(ht:∀ i,i<n->∀ QB:Bool->Hp->Prop,QB (p i) H->tt (some (.int (i:Int))::BG cap σ) H QB)
  (hd:∀ q,H q=none->Q (.ref q) (upd H q (.lst (((List.range n).filter p).map λ(i:Nat)=>V.int i)))):DI (DV 0 n) (AN 0) tt (AA 0) 1 cap σ H Q:=by
 refine⟨λi m σ' ys H'=>m=n - i/\i<=n/\H'=H/\(∃ x0,σ'=x0::BG cap σ)/\ys=((List.range i).filter p).map λ(i:Nat)=>V.int i,⟨n,by simp,Nat.zero_le _,rfl,⟨none,rfl⟩,rfl⟩,?_⟩
 rintro i m σ' ys H' ⟨rfl,hi,rfl,⟨x0,rfl⟩,rfl⟩
 by_cases hlt:i<n
 ·refine .inr ⟨hlt,?_,λx H2 y=> ?_⟩
  ·rw[List.length_map]
   have:=List.length_filter_le p (List.range i)
   rw[List.length_range]at this
   omega
  ·obtain⟨e,y⟩:=y
   subst e y
   rw[Int.zero_add]
   simp only[AN,List.set_cons_zero]
   refine ht i hlt _ ?_
   cases hp:p i with
   | true =>
    rw[if_pos rfl]
    refine⟨λv H4=>v=.int i/\H4=H2,λy H4 ⟨e1,e2⟩=>⟨n - (i+1),by omega,rfl,hlt,e2,⟨_,rfl⟩,?_⟩,?_⟩
    ·rw[e1,List.range_succ,List.filter_append,List.map_append]
     simp[hp]
    ·simp[AA]
   | false =>
    rw[if_neg Bool.false_ne_true]
    refine⟨n - (i+1),by omega,rfl,hlt,rfl,⟨_,rfl⟩,?_⟩
    rw[List.range_succ,List.filter_append,List.map_append]
    simp[hp]
 ·have e:i=n:=by omega
  subst e
  exact .inl ⟨Nat.le_refl _,hd⟩
end
section
variable{K:W.Frag}{td ty tv te:TE}{D:Ends}{σ:St}{H:Hp}{Q:VK}{QB:Bool->Hp->Prop}
theorem tD:m8 td ty σ H Q=(td σ H λx H1=>ty σ H1 λy H2=>∃ a v,x=.ref a/\DGet H2 a y (some v)/\Q v H2):=rfl
theorem tE:Q9 ty td σ H Q=(ty σ H λy H1=>td σ H1 λx H2=>∃ a o,x=.ref a/\DGet H2 a y o/\Q (.bl o.isSome) H2):=rfl
theorem tF:m9 ty td σ H Q=(ty σ H λy H1=>td σ H1 λx H2=>∃ a o,x=.ref a/\DGet H2 a y o/\Q (.bl (!o.isSome)) H2):=rfl
theorem tG:RA td ty tv D σ H=(tv σ H λv H1=>td σ H1 λx H2=>ty σ H2 λy H3=>∃ a H4,x=.ref a/\DPut H3 a y v H4/\D.nx σ H4):=rfl
theorem tH:nJ td ty σ H Q=(td σ H λx H1=>∃ a,x=.ref a/\WY H1 a/\ty σ H1 λy H2=>∃ o,DGet H2 a y o/\Q (o.getD .non) H2):=rfl
theorem tI:RB σ H Q=(∀ p,H p=none->Q (.ref p) (upd H p (.dK []))):=rfl
theorem tJ:nF σ H Q=(∀ p,H p=none->Q (.ref p) (upd H p (.dT []))):=rfl
theorem tK:tB te σ H QB=(te σ H λx H1=>∃ c,x=.bl c/\QB c H1):=rfl
theorem tL:sR K te σ H Q=(te σ H λx H1=>∃ (p:Addr) (ns:List Int),x=.ref p/\SqL K H1 p (ns.map V.int)/\ns.length<64 ∧
 ∀ (a:Addr) (o:HO) (D:Addr) (ks:List Int),H1 a=none->upd H1 a o D=none->ks.Pairwise (· <·)->(∀ x,x∈ks↔x∈ns)->ks.length<=ns.length->Q (.ref D) (upd (upd H1 a o) D (.lst (ks.map V.int)))):=rfl
variable{a b:Addr}{i j:Int}{z:Str}{kvs:List (BD × V)}{kvt:List (List BD × V)}{v:V}
theorem dS(e:H a=some (.dK kvs)):DGet H a (.str z) (CS kvs (.inr z)):=DGet.k (k:=.inr z) e
theorem pS(e:H a=some (.dK kvs))(hl:kvs.length<100000):DPut H a (.str z) v (upd H a (.dK (DO kvs (.inr z) v))):=DPut.k (k:=.inr z) e (Nat.lt_of_lt_of_le hl (by decide))
end
end L2
namespace L2
section
variable{X:Cx}
abbrev MV(K:W.Frag):R2:=WM K false
theorem YA(hu:X.A.units+64<cLine):OpR X (compareOp .In) (MV X.K):=mK
end
theorem SqT.same{K:W.Frag}{H H':Hp}{a:Addr}{xs:List V}(e:Same H H')(h:SqT K H a xs):SqT K H' a xs:=by
 rcases h with(h | ⟨o,h⟩) | h
 ·exact .inl (.inl (e _ _ h))
 ·exact .inl (.inr ⟨o,e _ _ h⟩)
 ·exact .inr h
mutual
theorem Rep.same{K:W.Frag}{H H':Hp}(s:Same H H'):∀ {v:V} {d:PyData},Rep K H v d->Rep K H' v d
 | _,_,.non=>.non
 | _,_,.bl b=>.bl b
 | _,_,.int i=>.int i
 | _,_,.str x=>.str x
 | _,_,.lst h r=>.lst (s.seq h) (RepAll.same s r)
 | _,_,.tup h r=>.tup (SqT.same s h) (RepAll.same s r)
theorem RepAll.same{K:W.Frag}{H H':Hp}(s:Same H H'):∀ {vs:List V} {ds:List PyData},RepAll K H vs ds->RepAll K H' vs ds
 | _,_,.nil=>.nil
 | _,_,.cons h r=>.cons (Rep.same s h) (RepAll.same s r)
end
def Dat(K:W.Frag)(H:Hp)(n:Nat)(v:V)(d:PyData):Prop:=Rep K H v d/\d.canLay0=true/\d.depth<=n
section
variable{K:W.Frag}{H:Hp}{n:Nat}{Q:VK}
theorem Dat.int(i:Int):Dat K H n (.int i) (.int i):=⟨.int i,rfl,Nat.zero_le _⟩
theorem Dat.non:Dat K H n .non .none:=⟨.non,rfl,Nat.zero_le _⟩
theorem RN:∀ {xs:List V} {ds:List PyData},Paired (Dat K H n) xs ds->RepAll K H xs ds/\PyData.canLayAll0 ds=true/\PyData.depthAll ds<=n
 | _,_,.nil=>⟨.nil,rfl,Nat.zero_le _⟩
 | _,_,.cons h t=>by
  obtain⟨a1,a2,a3⟩:=RN t
  refine⟨.cons h.1 a1,?_,?_⟩
  ·simp[PyData.canLayAll0,h.2.1,a2]
  ·simp only[PyData.depthAll];exact Nat.max_le.mpr ⟨h.2.2,a3⟩
theorem Dat.lst{p:Addr}{xs:List V}{ds:List PyData}(h:SqL K H p xs)(hs:Paired (Dat K H n) xs ds):Dat K H (n+1) (.ref p) (.list ds):=by
 obtain⟨a1,a2,a3⟩:=RN hs
 exact⟨.lst h a1,by simpa [PyData.canLay0]using a2,by simpa [PyData.depth]using a3⟩
theorem Dat.tup{p:Addr}{xs:List V}{ds:List PyData}(h:SqT K H p xs)(hs:Paired (Dat K H n) xs ds):Dat K H (n+1) (.ref p) (.tuple ds):=by
 obtain⟨a1,a2,a3⟩:=RN hs
 exact⟨.tup h a1,by simpa [PyData.canLay0]using a2,by simpa [PyData.depth]using a3⟩
theorem Dat.shp{v:V}{d:PyData}(h:Dat K H n v d)(hn:n<=64):shp d:=by
 unfold L2.shp PySem.SeqAt.shaped
 rw[h.2.1]
 simpa using Nat.le_trans h.2.2 hn
theorem RO:∀ (l:List Int),Paired (Dat K H n) (l.map V.int) (l.map PyData.int)
 | []=>.nil
 | x::r=>.cons (.int x) (RO r)
theorem tM{p q:Addr}{d:PyData}(hn:n<=64)(h1:Dat K H n (.ref p) d)(h2:Dat K H n (.ref q) d)(hq:Q (.bl true) H):BM K (.ref p) (.ref q) H Q:=by
 unfold BM
 rw[if_neg (by simp[DQ])]
 refine⟨_,_,h1.1,h2.1,h1.shp hn,h1.shp hn,?_⟩
 rw[XV (h1.shp hn)]
 exact hq
theorem tN{p q:Addr}{d:PyData}(hn:n<=64)(h1:Dat K H n (.ref p) d)(h2:Dat K H n (.ref q) d)(hq:Q (.bl false) H):CO K (.ref p) (.ref q) H Q:=by
 unfold CO
 rw[if_neg (by simp[DQ])]
 refine⟨_,_,h1.1,h2.1,h1.shp hn,h1.shp hn,?_⟩
 rw[XV (h1.shp hn)]
 exact hq
theorem tO{p q:Addr}{xs:List V}{ds:List PyData}(hn:n<=63)(h1:SqL K H p xs)(hd:Paired (Dat K H n) xs ds)(h2:SqL K H q [])(hq:Q (.bl (!decide (xs=[]))) H):CO K (.ref p) (.ref q) H Q:=by
 unfold CO
 rw[if_neg (by simp[DQ])]
 have e1:=Dat.lst h1 hd
 have e2:Dat K H 1 (.ref q) (.list []):=Dat.lst h2 .nil
 refine⟨_,_,e1.1,e2.1,e1.shp (by omega),e2.shp (by omega),?_⟩
 cases hd with
 | nil=>exact hq
 | cons _ _=>exact hq
theorem tP{p q:Addr}{xs:List V}{ds:List PyData}(hn:n<=63)(h1:SqL K H p xs)(hd:Paired (Dat K H n) xs ds)(h2:SqL K H q [])(hq:Q (.bl (decide (xs=[]))) H):BM K (.ref p) (.ref q) H Q:=by
 unfold BM
 rw[if_neg (by simp[DQ])]
 have e1:=Dat.lst h1 hd
 have e2:Dat K H 1 (.ref q) (.list []):=Dat.lst h2 .nil
 refine⟨_,_,e1.1,e2.1,e1.shp (by omega),e2.shp (by omega),?_⟩
 cases hd with
 | nil=>exact hq
 | cons _ _=>exact hq
end
end L2
namespace L2
end L2
namespace L2
section
variable{prog:Program}{w:World}{A:Around}{E:Value->Shared->Prop}{s:Shared}{d it:Addr}{od:Obj}{es:Array DictEntry}{ep i:Nat}
end
end L2
namespace L2
theorem YB:∀ {ys:List Str} {us:List Value},Vals (ys.map V.str) us->StrsAre us ys
 | [],_,.nil=>.nil
 | y::r,_,.cons h t=>by
  obtain⟨tk,rfl⟩:=h
  exact .cons _ _ (YB t)
section
variable{X:Cx}
def YC(K:W.Frag):V->List V->Hp->VK->Prop:=λx vs H Q=>∃ (z:Str) (p:Addr) (ys:List Str),x=.str z/\vs=[.ref p]/\SqL K H p (ys.map V.str)/\z.length<=16/\(ys.map (·.length)).sum+ys.length<=1048576/\Q (.str (Txt.join z ys)) H
theorem tQ:MtR X "str.join" (YC X.K):=by
 intro pins s σ H x vs v us Q I rx rv h
 obtain⟨z,p,ys,rfl,rfl,hp,hz,hw,q⟩:=h
 obtain⟨t,rfl⟩:=rx
 obtain⟨u,rfl,ru⟩:=rv.one
 cases ru
 obtain⟨its,r,pl,hz'⟩:=I.list hp
 exact join_listW pl.isList (YB r) hz hw λt' k=>⟨.str _,H,I.tok k,⟨t',rfl⟩,q⟩
end
section
variable{K:W.Frag}{tt:TT}{te:TE}{cap:List Nat}{σ:St}{H:Hp}{Q:VK}
end
end L2
namespace L2
section
variable{X:Cx}{tg:Expr}
end
section
variable{K:W.Frag}{tt:TT}{cap:List Nat}{σ:St}{H:Hp}{Q:VK}
def zbe(lo:Int)(n:Nat):List Int:=(List.range n).map λ(i:Nat)=>lo - (i:Int)
end
def RP(n i:Nat)(P:Prop):Prop:=∃ m',m'<n - i/\m'=n - (i+1)/\i+1<=n/\P
theorem tR{n i:Nat}{P:Prop}(h:i<n)(p:P):RP n i P:=⟨_,by omega,rfl,h,p⟩
theorem tS{K:W.Frag}{g:TG}{tt:TT}{te:TE}{k:Nat}{cap:List Nat}{σ:St}{H:Hp}{Q:VK}{b:Addr}{xs:List V}(hn:xs.length<=sizeLine)(Pv:Nat->St->List V->Hp->Prop)(h0:Pv 0 (G1 k cap σ) [] H)(hq:∀ i σ' ys H,Pv i σ' ys H->SqL K H b xs/\ys.length<=i)
  (hs:∀ i x σ' ys H,i<xs.length->xs[i]? =some x->Pv i σ' ys H->g x σ' H λσ2 H2=>tt σ2 H2 λc H3=>if c=true then ∃ N:VK,(∀ y H4,N y H4->RP xs.length i (Pv (i+1) σ2 (ys++[y]) H4))/\te σ2 H3 N else RP xs.length i (Pv (i+1) σ2 ys H3))
  (hd:∀ σ' ys H,Pv xs.length σ' ys H->∀ p,H p=none->Q (.ref p) (upd H p (.lst ys))):DI (EG K b) g tt te k cap σ H Q:=by
 refine⟨λi m σ' ys H=>m=xs.length - i/\i<=xs.length/\Pv i σ' ys H,⟨xs.length,by simp,Nat.zero_le _,h0⟩,?_⟩
 rintro i m σ' ys H ⟨rfl,hi,p⟩
 obtain⟨q,hl⟩:=hq i σ' ys H p
 by_cases hlt:i<xs.length
 ·refine .inr ⟨⟨xs,xs[i],q,by simp[hlt]⟩,by omega,λx H' y=> ?_⟩
  obtain⟨e,y⟩:=y
  subst e
  exact hs i x σ' ys _ hlt (y xs q) p
 ·have e:i=xs.length:=by omega
  subst e
  exact .inl ⟨⟨xs,q,Nat.le_refl _⟩,hd σ' ys H p⟩
section
variable{P:Program}{w:World}{A:Around}{E:Value->Shared->Prop}{s:Shared}
end
section
variable{X:Cx}
end
end L2
namespace L2
section
variable{P:Program}{w:World}{A:Around}{E:Value->Shared->Prop}{s:Shared}
theorem tT{e it l:Addr}{i:Nat}{items:Array Value}{x old:Value}{Q:Option Value->Shared->Prop}(he:IsEnum s.heap e it i old)(hi:s.heap.IsListIter it l i)(hl:s.heap.IsList l items)(ex:items[i]? =some x)(ne:e≠it)
  (q:∀ h',IsEnumOut h' e it (i+1) x s.heap.objs.size->h'.IsListIter it l (i+1)->h'.get? s.heap.objs.size=some { cls:=Value.type "tuple",data:=Data.seq #[Value.int i s.toks,x] }->(∀ b o,b≠e->b≠it->s.heap.get? b=some o->h'.get? b=some o) →
   Q (some (.ref s.heap.objs.size)) { s with heap:=h',toks:=s.toks+1 }):wpAny (model P w) A (pyNext (.ref e)) Q E s:=by
 have ty:s.TypeIs (.ref e) "enumerate":=⟨_,he,rfl⟩
 unfold pyNext
 exact wpAny_bind (wpAny_attempt (wpAny_callSpecial?_slot (name:=Str.ofString "__next__") ty F.slot_enumerate_next (wpAny_call_entry F.slot_enumerate_next ty F.entry_enumerate_next
  (enumerate_next_item he hi hl ex ne λh' a1 a2 a3 _ a4=>wpAny_pure (q h' a1 a2 a3 a4)) (F.args_enumerate_next_1 _))))
theorem tU{e it l:Addr}{i:Nat}{items:Array Value}{old:Value}{Q:Fin->Shared->Prop}(hh:A.handled=none)(he:IsEnum s.heap e it i old)(hi:s.heap.IsListIter it l i)(hl:s.heap.IsList l items)(ex:items[i]? =none)
  (q:∀ h' x,Heap.ExtBut it s.heap h'->(∃ o,h'.get? x=some o/\o.cls=.type "StopIteration")->E (.ref x) { s with heap:=h' }):wpAny (model P w) A (Builtin.«enumerate.__next__» ⟨[.ref e],[]⟩) Q E s:=by
 show wpAny (model P w) A (field (.ref e) 2 >>= _) _ _ s
 refine wpAny_bind (wpAny_field he rfl (x:=.ref it) rfl ?_)
 exact wpAny_bind (sH (k:=true) hh hi hl ex q)
theorem tV{e it l:Addr}{i:Nat}{items:Array Value}{old:Value}{Q:Option Value->Shared->Prop}(hh:A.handled=none)(he:IsEnum s.heap e it i old)(hi:s.heap.IsListIter it l i)(hl:s.heap.IsList l items)(ex:items[i]? =none)
  (q:∀ h',Heap.ExtBut it s.heap h'->Q none { s with heap:=h' }):wpAny (model P w) A (pyNext (.ref e)) Q E s:=by
 have ty:s.TypeIs (.ref e) "enumerate":=⟨_,he,rfl⟩
 unfold pyNext
 refine wpAny_bind (wpAny_attempt (wpAny_callSpecial?_slot (name:=Str.ofString "__next__") ty F.slot_enumerate_next (wpAny_call_entry F.slot_enumerate_next ty F.entry_enumerate_next (tU hh he hi hl ex λh' x kk ⟨o,e1,e2⟩=> ?_) (F.args_enumerate_next_1 _))))
 exact wpAny_bind (wpAny_isInstance (T:="StopIteration") (b:=true) ⟨o,e1,e2⟩ isSubtype_stop (wpAny_pure (q _ kk)))
end
def IQ(K:W.Frag)(a:Addr):It :=
  ⟨λi H=>∃ xs x,SqL K H a xs/\xs[i]? =some x,
   λi H v H'=>∃ t,H t=none/\v=.ref t/\∃ x,H'=upd H t (.tup [.int (i:Int),x])/\∀ xs,SqL K H a xs->xs[i]? =some x,
   λi H=>∃ xs,SqL K H a xs/\xs.length<=i⟩
def EnSt(e it l:Addr)(i:Nat)(h:Heap):Prop:=(∃ old,IsEnum h e it i old)/\h.IsListIter it l i
theorem EnSt.lt{e it l:Addr}{i:Nat}{h:Heap}(q:EnSt e it l i h):∀ b∈[e,it],b<h.objs.size:=by
 obtain⟨⟨old,h1⟩,o,h2,_⟩:=q
 intro b hb
 simp only[List.mem_cons,List.not_mem_nil,or_false]at hb
 rcases hb with rfl | rfl
 ·exact Heap.lt_size h1
 ·exact Heap.lt_size h2
theorem tW{P:Program}{w:World}{K:W.Frag}{elts:List Expr}{kn:Nat}{pos:Pos}{e it l:Addr}(ne:e≠it) :
  IG P w K (.Tuple elts kn pos) (IQ K l) [e,it] e (λi h=>EnSt e it l i h) where
 mem:=by simp
 obj:=λi h st b hb=>by
  obtain⟨⟨old,h1⟩,h2⟩:=st
  obtain⟨o4,e4,d4⟩:=ItK.ob (k:=true) h2
  simp only[List.mem_cons,List.not_mem_nil,or_false]at hb
  rcases hb with rfl | rfl
  ·exact⟨_,h1,λv q=>by cases q⟩
  ·exact⟨_,e4,λv q=>by rw[d4]at q;cases q⟩
 keep:=λi h h' ⟨⟨old,h1⟩,h2⟩ q=>⟨⟨old,q e (by simp) _ h1⟩,ItK.up (k:=true) h2 λo x=>q it (by simp) o x⟩
 item:=by
  intro X hP hw hK hc i pins s σ H E I hf st hg
  subst hP hw hK
  obtain⟨xs,x,hx,ex⟩:=hg
  obtain⟨its,rv,d1⟩:=I.seqK (k:=true) hx
  obtain⟨u,hu,ru⟩:=rv.get ex
  have lt:=EnSt.lt st
  obtain⟨⟨old,h1⟩,h2⟩:=st
  refine tT h1 h2 d1 (x:=u) (by simpa using hu) ne λh' g1 g2 g3 kk=>⟨_,rfl,?_⟩
  refine wpAny_letOwnedTupleGo_enum g1 λh2' z2 sb=> ?_
  have I1:=I.tnew (ys:=[.int (i:Int),x]) (its:=[Value.int (i:Int) s.toks,u]) (.cons (show RelV (.int (i:Int)) (Value.int (i:Int) s.toks)from⟨s.toks,rfl⟩) (.cons ru .nil)) (by show 2<=sizeLine;decide)
  have f':∀ b∈[e,it],b≠s.heap.objs.size:=λb hb=>Nat.ne_of_lt (lt b hb)
  have nz:s.heap.objs.size≠e:=(f' e (by simp)).symm
  have I2:Inv X pins σ (upd H s.heap.objs.size (.tup [.int (i:Int),x])) { s with heap:=h2',toks:=s.toks+1 }:=by
   refine Inv.turnedS (s:={ s with heap:=s.heap.push { cls:=Value.type "tuple",data:=Data.seq #[Value.int i s.toks,u] } }) (t':=s.toks+1) (fp:=[e,it]) I1 (λb o hb eo=> ?_) λb hb=>(hf b hb).upd (f' b hb)
   simp only[List.mem_cons,List.not_mem_nil,or_false,not_or]at hb
   rcases Heap.get?_push_cases eo with⟨e1,e2⟩ | e1
   ·subst e1 e2
    exact sb.extBut _ _ nz g3
   ·exact sb.extBut _ _ hb.1 (kk _ _ hb.1 hb.2 e1)
  exact⟨.ref s.heap.objs.size,_,I2,rfl,⟨s.heap.objs.size,I.fresh,rfl,x,rfl,λys' q=>by rw[I.seqK_inj (k:=true) q hx];exact ex⟩,
   ⟨⟨_,z2⟩,ItK.up (k:=true) g2 λo x=>sb.extBut _ _ ne.symm x⟩,λb hb=>((hf b hb).upd (f' b hb)).1⟩
 done:=by
  intro X hP hw hK hc i pins s σ H E I hf st hg
  subst hP hw hK
  obtain⟨xs,hx,en⟩:=hg
  obtain⟨its,rv,d1⟩:=I.seqK (k:=true) hx
  obtain⟨⟨old,h1⟩,h2⟩:=st
  have e1:=rv.length
  refine tV (I.ok.hd hc) h1 h2 d1 (by simp;omega) λh' kk=>⟨rfl,I.turnedS (t':=s.toks) (fp:=[e,it]) (λb o hb eo=> ?_) hf⟩
  simp only[List.mem_cons,List.not_mem_nil,or_false,not_or]at hb
  exact kk _ _ hb.2 eo
 self:=λ_ _ _ _ _ st h=>by
  obtain⟨⟨old,h1⟩,_⟩:=st
  exact wpAny_pyIter_enum h1 h
section
variable{X:Cx}
def GI(K:W.Frag)(ta:TA):TI:=λσ H R=>ta σ H λvs H1=>∃ a:Addr,vs=[.ref a]/\(∃ xs,SqL K H1 a xs)/\R (IQ K a) H1
theorem IR{a:Expr}{ta:TA}{p pos p2:Pos}{elts:List Expr}{kn:Nat}(hg:Gl X "enumerate")(hm:X.mg "enumerate"=none)(ha:PA X [a] ta)(hs:starEach [a] X.env=[(false,eval a X.env)]:=by rfl) :
  PI X (.Tuple elts kn p2) (.Call (.Name "enumerate" p) [a] [] pos) (GI X.K ta):=by
 intro pins s σ H R I h
 refine Call_ (KD I hg hm boot_enumerate (PyProof.Rows.callWith_type1 (AZ (ha pos pins s σ H _ I h) λus s1 ⟨vs,H1,I1,r1,q1⟩=> ?_) (by rw[hs];rfl) (by rfl)))
 obtain⟨l,e,⟨xs,hx⟩,q⟩:=q1
 subst e
 obtain⟨u,rfl,rx⟩:=II r1
 cases rx
 obtain⟨its,rv,d1⟩:=I1.seqK (k:=true) hx
 refine call_enumerate_list d1 λh' z1 z2 sz kk=>wpAny_pyIter_enum z1 ?_
 have I2:Inv X pins σ H1 { s1 with heap:=h' }:=I1.kept (t':=s1.toks) kk
 refine⟨_,[s1.heap.objs.size+1,s1.heap.objs.size],_,_,H1,rfl,I2,tW (Nat.ne_of_gt (by omega)),⟨⟨_,z1⟩,z2⟩,λb hb=>I1.fpOk ?_ (I1.hok.fresh ?_),q⟩
 all_goals
  simp only[List.mem_cons,List.not_mem_nil,or_false]at hb
  rcases hb with rfl | rfl<;>omega
end
theorem tX{K:W.Frag}{as:TA}{g:TG}{s1:TS}{D:Ends}{σ:St}{H:Hp}:DW (GI K as) g s1 D σ H=(as σ H λvs H1=>∃ a:Addr,vs=[.ref a]/\(∃ xs,SqL K H1 a xs)/\FX (IQ K a) g s1 D σ H1):=rfl
theorem tY{K:W.Frag}{σ:St}{H:Hp}{a:Addr}{xs:List V}{g:TG}{tb:TS}{D:Ends}(Pv:Nat->St->Hp->Prop)(h0:Pv 0 σ H)(ha:∀ i σ H,i<=xs.length->Pv i σ H->SqL K H a xs)
  (hs:∀ i x σ H t,xs[i]? =some x->Pv i σ H->H t=none->g (.ref t) σ (upd H t (.tup [.int (i:Int),x])) λσ2 H2=>tb { D with nx:=Pv (i+1),ct:=Pv (i+1),bk:=D.nx } σ2 H2) (hd:∀ σ H,Pv xs.length σ H->D.nx σ H):FX (IQ K a) g tb D σ H:=by
 refine⟨λi m σ H=>i+m=xs.length/\Pv i σ H,⟨xs.length,by omega,h0⟩,λi m σ H ⟨e,p⟩=> ?_⟩
 have h1:=ha i σ H (by omega) p
 by_cases hi:i<xs.length
 ·refine .inr ⟨⟨xs,xs[i],h1,List.getElem?_eq_getElem hi⟩,Pv (i+1),λσ' H' q=>⟨m - 1,by omega,by omega,q⟩,λv H' ⟨t,ht,e,x,e',q1⟩=> ?_⟩
  subst e e'
  exact hs i x σ H t (q1 _ h1) p ht
 ·have e:i=xs.length:=by omega
  subst e
  exact .inl ⟨⟨xs,h1,Nat.le_refl _⟩,hd _ _ p⟩
end L2
namespace L2
section
variable{X:Cx}
def YD(K:W.Frag):List V->Hp->VK->Prop:=λxs H Q=>∃ (p:Addr) (ns:List Int),xs=[.ref p]/\SqL K H p (ns.map V.int)/\ns.length<64 ∧
  ∀ (D:Addr) (ks:List Int),H D=none->ks.Perm ns->ks.Pairwise (· <=·)->Q (.ref D) (upd H D (.lst (ks.map V.int)))
theorem tZ(hc:X.calm=true):CallR X (.builtin "sorted") (YD X.K):=by
 intro pins s σ H xs us Q I r h
 obtain⟨p,ns,rfl,hp,hn,q⟩:=h
 obtain⟨u,rfl,rx⟩:=II r
 cases rx
 obtain⟨its,rv,pl,hz⟩:=I.list hp
 have hi:=X7 rv
 refine sorted_ints pl.isList hi (by rw[hi.length];exact hn) λout ks ho pk hr=> ?_
 obtain⟨c,g⟩:=sortedAll_at s.heap its out
 have hD:s.heap.objs.size<=s.heap.objs.size+1:=Nat.le_succ _
 refine⟨.ref _,_,I.laid (t':=s.toks) (λb o e=>sortedAll_old e) hD ?_,rfl,q _ ks (I.hok.fresh hD) pk hr⟩
 have hl:ks.length<64:=by rw[pk.length_eq];exact hn
 exact⟨by rw[List.length_map,sizeLine_eq];omega,out.toList,c,RC ho,g⟩
def t0(K:W.Frag):List V->Hp->VK->Prop:=λxs H Q=>∃ i j,xs=[.int i,.int j]/\Q (.int (if j<i then j else i)) H
theorem t5{K:W.Frag}{i j:Int}{H:Hp}{Q:VK}:t0 K [.int i,.int j] H Q=Q (.int (if j<i then j else i)) H:=propext ⟨λ⟨_,_,e,q⟩=>by cases e;exact q,λq=>⟨_,_,rfl,q⟩⟩
end
end L2
namespace L2
section
variable{P:Program}{w:World}{A:Around}{E:Value->Shared->Prop}{s:Shared}
end
section
variable{X:Cx}
end
end L2
namespace L2
section
variable{X:Cx}{pins:List (Addr × Obj)}{σ:St}{H:Hp}{s:Shared}
variable{tg iter elt:Expr}{ifs:List Expr}{scope:Scope}{pos:Pos}{td:TE}{g:TG}{tt:TT}{te:TE}{tn cn:List Str}{cap:List Nat}
end
end L2
namespace L2
theorem FnScope.go{N P:List Str}{sc:Scope}(h1:sc.kind=.function:=by exact rfl)(h2:sc.isCoroutine=false:=by exact rfl)(h3:sc.isGenerator=false:=by exact rfl)(h4:N.Nodup:=by decide +kernel)(h5:N.take P.length=P:=by exact rfl)(h6:∀ x∈P,sc.names.lookup x=some .local\/sc.names.lookup x=some .cell:=by decide +kernel)(h7:∀ y∈sc.names,y.2≠.free:=by decide +kernel):FnScope N P sc:=⟨h1,h2,h3,h4,h5,h6,h7⟩
theorem Room.m{j k:Nat}{A:Around}(r:Room k A)(h:j<=k:=by decide):Room j A:=r.mono h
abbrev FP(P:Program)(w:World)(K:W.Frag)(mg:Str->Option Value)(base:Heap)(k:Nat)(f:Addr)(fd:FuncData)(ps:List Str)(sp:Sp):Prop:=FnOk P w K mg base (DS P w) k f fd ps sp
theorem Fun.okF{P:Program}{w:World}{K:W.Frag}{mg:Str->Option Value}{base:Heap}{x qual:Str}{st:Stmt}{f:Addr}{fd:FuncData}{N ps:List Str}{k:Nat}{sp:Sp}(F:Fun K x qual st f fd)(rd:(St->XK)->TS)(S:FnScope N ps (AO st))(len:∀ {vs H Q E},sp vs H Q E->vs.length=ps.length)
  (ok:∀ {vs H Q E},sp vs H Q E->rd (λ_=>E) { nx:=λ_ H'=>Q .non H',rt:=Q } (A6 N vs) H)
  (hb:∀ (cdv:Value) (A:Around) (outer:List Env) (s:Shared) (H:Hp) (E:XK),Room k (A.deeper (envOfC qual (AO st) s.heap.objs.size f cdv))->XOk (GD (DS P w) P w K mg base N qual (AO st) f cdv A outer s H E) (λ_=>E) →
   PSs (GD (DS P w) P w K mg base N qual (AO st) f cdv A outer s H E) (A9 st) (rd λ_=>E)):FP P w K mg base (k+1) f fd ps sp :=
 F.okE S (λ_ _ _ _=>len) λcdv A outer s H _ _ E hr h=>⟨_,hb cdv A outer s H E hr n0,ok h⟩
section
variable{X:Cx}{pos:Pos}
theorem A8(i:Nat){x:Str}{e:Expr}{te:TE}{pos':Pos}(hN:X.N.Nodup)(he:PE X e te)(hi:X.N[i]? =some x:=by exact rfl)(hx:KC X.env.scope x:=by exact Or.inl rfl)(hs:swapsWith e (some (.Name x pos')) pos.line X.env=pure false:=by rfl)(hf:X.fn x=true\/X.env.scope.names.lookup x=some .local:=by first | exact .inl rfl | exact .inr rfl | assumption) :
  PS X (.Assign [.Name x pos'] e pos) (AU te (AN i)):=FQ hN hi hx he hs hf
theorem EW(i:Nat){x:Str}(hN:X.N.Nodup)(hi:X.N[i]? =some x:=by exact rfl)(hx:KC X.env.scope x:=by exact Or.inl rfl)(hf:X.fn x=true\/X.env.scope.names.lookup x=some .local:=by first | exact .inl rfl | exact .inr rfl | assumption):PG X (.Name x pos) (AN i):=BP hN hi hx hf
end
end L2
namespace L2
def RQ(K:W.Frag)(to ti tv:TE)(rd:V->V->Hp->VK->Prop):TS:=λD σ H=>to σ H λx H1=>ti σ H1 λy H2=>∃ p xs,∃ n:Nat,∃ v,x=.ref p/\y=.int n/\SqL K H2 p xs/\xs[n]? =some v/\tv σ H2 λz H3=>rd v z H3 λu H4=>CG (.ref p) (.int n) u H4 λH5=>D.nx σ H5
theorem t7{K:W.Frag}{to ti tv:TE}{rd:V->V->Hp->VK->Prop}{D:Ends}{σ:St}{H:Hp}:RQ K to ti tv rd D σ H=(to σ H λx H1=>ti σ H1 λy H2=>∃ p xs,∃ n:Nat,∃ v,x=.ref p/\y=.int n/\SqL K H2 p xs/\xs[n]? =some v/\tv σ H2 λz H3=>rd v z H3 λu H4=>CG (.ref p) (.int n) u H4 λH5=>D.nx σ H5):=rfl
section
variable{X:Cx}{o i value:Expr}{td ty tv:TE}{tpos pos:Pos}
theorem t9{op:Operator}{rd:V->V->Hp->VK->Prop}(ho:PE X o td)(hi:PE X i ty)(hv:PE X value tv)(hop:QS X op rd)
  (ha:∀ ov iv new,augStore i ov iv new=(do holding [new,ov,iv] (setItem ov iv new);release [new,ov,iv] [];pure .next):=by intros;rfl):PS X (.AugAssign (.Subscript o i tpos) op value pos) (RQ X.K td ty tv rd):=by
 intro pins s σ H D I h
 refine wpAny_AugAssign_SubscriptAny (AZ (ho pins s σ H _ I h) λu s1 ⟨x,H1,I1,rx,q1⟩=>AZ (hi pins s1 σ H1 _ I1 q1) λiv s2 ⟨y,H2,I2,ry,p,xs,n,v,ex,ey,hq,hx,q2⟩=> ?_) ha
 subst ex ey
 obtain rfl:u=Value.ref p:=rx
 have ry':=ry
 obtain⟨t,rfl⟩:=ry
 obtain⟨its,r,pl,hz⟩:=I2.list hq
 obtain⟨w,ew,rw'⟩:=r.get hx
 have hl:=r.length
 have hn:=IH
 have hlt:=(List.getElem?_eq_some_iff.mp hx).1
 refine wpAny_getItem_list pl.isList (by omega) (by omega) (x:=w) (by simpa using ew) ?_
 refine AZ (hv pins s2 σ H2 _ I2 q2) λw2 s4 ⟨y2,H3,I4,ry2,q3⟩=>AZ (hop pins s4 σ H3 v y2 w w2 _ I4 rw' ry2 q3) λw3 s5 ⟨z,H4,I5,rz,q4⟩=> ?_
 exact AZ (DC pins s5 σ H4 (.ref p) (.int n) z _ _ _ _ I5 rfl ry' rz q4) λ_ s6 ⟨H5,I6,q5⟩=>⟨σ,H5,I6,q5⟩
end
theorem uA(l:Addr)(items:Array Value)(n:Nat)(b:Addr)(items2:Array Value)(n2:Nat)(d:Option Addr)(sl:Array (Option Value))(hs0:¬(!items.isEmpty && Builtin.List.listTooLong (items.size+items2.size))=true)(hs1:items.size<=sizeLine)(hs2:items.size+items2.size<=sizeLine+1) :
  Meets (Builtin.«list.extend» ⟨[.ref l,.ref b],[]⟩) (λ_ R s=>s.heap.get? l=some { cls:=.type "list",dict:=none,data:=.seq items n,slots:= #[] }/\s.heap.get? b=some { cls:=.type "tuple",dict:=d,data:=.seq items2 n2,slots:=sl }/\R (.ok (.ret Value.none)) { s with heap:=s.heap.update l (Obj.mapSeq λx=>x++items2),toks:=s.toks }) :=
 .of_wp λprog w A R s h=>by
  obtain⟨hp,g,d,tk,os⟩:=s;obtain⟨hl,hb,h⟩:=h;have f1:=AutoSeq1.idx_int;have f2:=AutoSeq1.sub_tuple_tuple;have f3:=AutoSeq1.sub_list_list;have f4:=AutoSeq1.sub_tuple_list;have f5:=AutoSeq1.sub_list_tuple;
  have hz':(items++items2).size<=sizeLine+1:=by rw[Array.size_append];exact hs2
  wp_walk using (wpAny_updateSeq hl rfl (hz:=hs1) (_hz':=hz')),AutoSeq1.wpAny_loadPart' hl,AutoSeq1.wpAny_loadPart' hb;exact⟨_,rfl,h⟩
def YE(K:W.Frag):V->List V->Hp->VK->Prop:=λx vs H Q=>∃ l b xs zs,x=.ref l/\vs=[.ref b]/\H l=some (.lst xs)/\SqT K H b zs/\xs.length+zs.length<=sizeLine/\Q .non (upd H l (.lst (xs++zs)))
theorem uB{X:Cx}:Q1 X "list.extend" (YE X.K):=by
 intro pins s σ H x vs v us Q I rx rv h
 obtain⟨l,b,xs,zs,rfl,rfl,hH,hB,hz,q⟩:=h
 cases rx
 obtain⟨u,rfl,ru⟩:=rv.one
 cases ru
 obtain⟨z,its,n,r,hl,e⟩:=I.lstM hH
 obtain⟨its2,r2,⟨o,e2,hc,n2,hd⟩,hz2⟩:=I.tuple hB
 have hl2:=r2.length
 obtain⟨oc,od,odat,osl⟩:=o
 have hc:oc=.type "tuple":=hc
 have hd:odat=.seq its2.toArray n2:=hd
 subst hc hd
 have hsz:its.toArray.size+its2.toArray.size<=sizeLine:=by rw[List.size_toArray,List.size_toArray];omega
 have hlong:¬ (!its.toArray.isEmpty && Builtin.List.listTooLong (its.toArray.size+its2.toArray.size))=true:=by
  rw[Q2 hsz,Bool.and_false]
  exact Bool.false_ne_true
 refine call_meets F.slot_list_extend ⟨_,e,rfl⟩ F.entry_list_extend (F.args_list_extend_2 _ _)
  (uA l its.toArray n b its2.toArray n2 _ _ hlong (by rw[List.size_toArray];omega) (by omega)) ⟨e,e2,?_⟩
 refine⟨.non,_,I.lset (its':=its++its2) hH e (by simp) (r.append r2) ?_,rfl,q⟩
 rw[List.length_append]
 omega
def KL(c:Int)(n:Nat):It:=⟨λi _=>i<n,λi H x H'=>H'=H/\x=.int ((i:Nat) * c),λi _=>n<=i⟩
theorem uC{P:Program}{w:World}{K:PySem.W.Frag}{tg:Expr}(it:Addr)(c:Int)(n:Nat):IG P w K tg (KL c n) [it] it (λi h=>IsRangeIter h it (0+(i:Nat) * c) ((n:Int) - (i:Nat)) c) where
 mem:=by simp
 obj:=λi h st b hb=>by
  have e:b=it:=by simpa using hb
  subst e
  exact⟨_,st,λv z=>by
   have z':Data.fields _=Data.cell v:=z
   cases z'⟩
 keep:=λi h h' st k=>k it (by simp) _ st
 item:=by
  intro X hP hw hK hc i pins s σ H E I hf st hg
  subst hP hw hK
  obtain⟨f0,f1,f2,f3,f4,f5⟩:=hf it (by simp)
  have W:=Walks.range (prog:=X.prog) (w:=X.w) (I.ok.hd hc) it 0 c n
  refine W.item i s _ _ hg st λv h' tk hv st' kk=> ?_
  obtain⟨t,rfl⟩:=hv
  have I1:Inv X pins σ H { s with heap:=h',toks:=tk }:=I.turned (λb o hb e=>kk b o (by simpa using hb) e) f0 f1 f3 f4 f5
  refine⟨_,rfl,OR (s:={ s with heap:=h',toks:=tk }) (n:="range_iterator") st' rfl rfl (by decide) ⟨.int ((i:Nat) * c),H,I1,⟨t,?_⟩,⟨rfl,rfl⟩,st',λb hb=>(hf b hb).1⟩⟩
  rw[Int.zero_add]
 done:=by
  intro X hP hw hK hc i pins s σ H E I hf st hg
  subst hP hw hK
  obtain⟨f0,f1,f2,f3,f4,f5⟩:=hf it (by simp)
  exact wpAny_pyNext_range_end (I.ok.hd hc) st (by have:n<=i:=hg;omega) λh' eb=>⟨rfl,I.turned (t':=s.toks) (λb o hb e=>eb b o hb e) f0 f1 f3 f4 f5⟩
 self:=λ_ _ _ _ _ st h=>wpAny_pyIter_rangeiter st h
theorem YF{m c:Nat}(hc:1<=c):Builtin.Range.rangeSize 0 ((m * c:Nat):Int) c=m:=by
 unfold Builtin.Range.rangeSize
 rw[if_pos (show(c:Int) > 0 by omega)]
 by_cases h:m=0
 ·subst h;simp
 ·have h1:0<m * c:=Nat.mul_pos (by omega) (by omega)
  rw[if_pos (by omega)]
  have:((m * c:Nat):Int) - 0 - 1=((m * c - 1:Nat):Int):=by omega
  rw[this,<-Int.natCast_ediv]
  have e:(m * c - 1) / c=m - 1:=by
   rw[Nat.div_eq_iff (by omega)]
   have:=Nat.sub_mul m 1 c
   have h2:c<=m * c:=Nat.le_mul_of_pos_left c (by omega)
   constructor<;>omega
  rw[e]
  omega
theorem uD{m c:Nat}(hc:1<=c)(hc':c<100000)(hm:m * c<100000):Builtin.Range.small 0 ((m * c:Nat):Int) c=true:=by
 have hm':m<=m * c:=Nat.le_mul_of_pos_right m (by omega)
 unfold Builtin.Range.small
 rw[YF hc]
 simp only[Builtin.Range.rangeFitsLong,Bool.and_eq_true,Bool.or_eq_true,decide_eq_true_eq,beq_iff_eq]
 refine⟨by omega,.inr ?_⟩
 rw[if_pos (show(c:Int) > 0 by omega)]
 simp only[Bool.and_eq_true,decide_eq_true_eq]
 omega
section
variable{X:Cx}{tg:Expr}
theorem uE{pins:List (Addr × Obj)}{σ:St}{H:Hp}{s:Shared}{R:It->Hp->Prop}{E:Value->Shared->Prop}{m c:Nat}{t u v:Tok}{tk:Nat}(I:Inv X pins σ H s)(h1:1<=c)(h2:c<100000)(h3:m * c<100000)
  (q:R (KL c m) H):wpAny (model X.prog X.w) X.A (pyIter (.ref s.heap.objs.size)) (QK X pins σ tg R) E { s with heap:=s.heap.push { cls:=.type "range",data:=.fields #[.int 0 t,.int ((m * c:Nat):Int) u,.int c v] },toks:=tk }:=by
 refine wpAny_pyIter_range (IsRange.new ..) (uD h1 h2 h3) ?_
 have I1:Inv X pins σ H { s with heap:=s.heap.push { cls:=.type "range",data:=.fields #[.int 0 t,.int ((m * c:Nat):Int) u,.int c v] },toks:=tk }:=I.kept λb o e=>Heap.get?_push_of_some _ e
 refine⟨(s.heap.push { cls:=.type "range",data:=.fields #[.int 0 t,.int ((m * c:Nat):Int) u,.int c v] }).objs.size,[(s.heap.push { cls:=.type "range",data:=.fields #[.int 0 t,.int ((m * c:Nat):Int) u,.int c v] }).objs.size],_,_,H,rfl,
  I1.kept (t':=tk) λb o e=>Heap.get?_push_of_some _ e,uC _ c m,?_,λb hb=> ?_,q⟩
 ·have e1:(0:Int)+((0:Nat):Int) * (c:Int)=0:=by simp
  have e2:(m:Int) - ((0:Nat):Int)=Builtin.Range.rangeSize 0 ((m * c:Nat):Int) c:=by rw[YF h1];omega
  show IsRangeIter _ _ (0+((0:Nat):Int) * (c:Int)) ((m:Int) - ((0:Nat):Int)) c
  rw[e1,e2]
  exact Heap.get?_push_size _ rfl
 ·have e:b=(s.heap.push { cls:=.type "range",data:=.fields #[.int 0 t,.int ((m * c:Nat):Int) u,.int c v] }).objs.size:=by simpa using hb
  subst e
  exact I1.fpOk (Nat.le_refl _) (I1.hok.fresh (Nat.le_refl _))
def PB(ta:TA):TI:=λσ H R=>ta σ H λvs H1=>∃ m c:Nat,vs=[.int 0,.int ((m * c:Nat):Int),.int c]/\(1<=c/\c<100000/\m * c<100000)/\R (KL c m) H1
theorem uF{a b c:Expr}{ta:TA}{p pos:Pos}(hg:Gl X "range")(hm:X.mg "range"=none)(ha:PA X [a,b,c] ta)(hs:starEach [a,b,c] X.env=[(false,eval a X.env),(false,eval b X.env),(false,eval c X.env)]:=by rfl)(hs2:starEach [b,c] X.env=[(false,eval b X.env),(false,eval c X.env)]:=by rfl) :
  PI X tg (.Call (.Name "range" p) [a,b,c] [] pos) (PB ta):=by
 intro pins s σ H R I h
 refine Call_ (KD I hg hm boot_range (PyProof.Rows.callWith_type1 (AZ (ha pos pins s σ H _ I h) λus s1 ⟨vs,H1,I1,r1,q1⟩=> ?_) (by rw[hs,hs2]) (by rw[hs2];rfl)))
 obtain⟨m,c,e,⟨q1,q2,q3⟩,q⟩:=q1
 subst e
 cases r1 with
 | cons r rr =>
  cases rr with
  | cons r' rr =>
   cases rr with
   | cons r2 rr =>
    cases rr
    obtain⟨t,rfl⟩:=r
    obtain⟨t',rfl⟩:=r'
    obtain⟨t2,rfl⟩:=r2
    exact call_range_3 (by omega) (uE I1 q1 q2 q3 q) (Or.inl (PyProof.noPylong_small (by omega)))
end
section
variable{K:W.Frag}{g:TG}{tt:TT}{te:TE}{k:Nat}{cap:List Nat}{σ:St}{H:Hp}{Q:VK}
theorem uG{as:TA}:BR (PB as) g tt te k cap σ H Q=(as σ H λvs H1=>∃ m c:Nat,vs=[.int 0,.int ((m * c:Nat):Int),.int c]/\(1<=c/\c<100000/\m * c<100000)/\DI (KL c m) g tt te k cap σ H1 Q):=rfl
theorem uH{as:TA}:BR (GI K as) g tt te k cap σ H Q=(as σ H λvs H1=>∃ a:Addr,vs=[.ref a]/\(∃ xs,SqL K H1 a xs)/\DI (IQ K a) g tt te k cap σ H1 Q):=rfl
theorem YG{b:Addr}{xs:List V}(p:Nat->Bool)(hn:xs.length<=sizeLine)(Pv:Nat->List V->Hp->Prop)(h0:Pv 0 [] H)(hq:∀ i ys H,i<=xs.length->Pv i ys H->SqL K H b xs/\ys.length<=i)
  (ht:∀ i x ys H,xs[i]? =some x->Pv i ys H->∀ QB:Bool->Hp->Prop,QB (p i) H->tt (some x::BG cap σ) H QB)
  (hs:∀ i x ys H,xs[i]? =some x->p i=true->Pv i ys H->te (some x::BG cap σ) H λy H3=>Pv (i+1) (ys++[y]) H3)
  (hf:∀ i x ys H,xs[i]? =some x->p i=false->Pv i ys H->Pv (i+1) ys H)
  (hd:∀ ys H,Pv xs.length ys H->∀ q,H q=none->Q (.ref q) (upd H q (.lst ys))):DI (EG K b) (AN 0) tt te 1 cap σ H Q:=by
 refine⟨λi m σ' ys H=>m=xs.length - i/\i<=xs.length/\(∃ x0,σ'=x0::BG cap σ)/\Pv i ys H,⟨xs.length,by simp,Nat.zero_le _,⟨none,rfl⟩,h0⟩,?_⟩
 rintro i m σ' ys H ⟨rfl,hi,⟨x0,rfl⟩,P⟩
 obtain⟨q,hl⟩:=hq i ys H hi P
 by_cases hlt:i<xs.length
 ·refine .inr ⟨⟨xs,xs[i],q,by simp[hlt]⟩,by omega,λx H' y=> ?_⟩
  obtain⟨e,y⟩:=y
  subst e
  have ex:=y xs q
  refine ht i x ys _ ex P _ ?_
  cases hp:p i with
  | true =>
   rw[if_pos rfl]
   exact⟨_,λy H4 q=>⟨_,by omega,rfl,hlt,⟨_,rfl⟩,q⟩,hs i x ys _ ex hp P⟩
  | false =>
   rw[if_neg Bool.false_ne_true]
   exact⟨_,by omega,rfl,hlt,⟨_,rfl⟩,hf i x ys _ ex hp P⟩
 ·have e:i=xs.length:=by omega
  subst e
  exact .inl ⟨⟨xs,q,Nat.le_refl _⟩,hd ys H P⟩
theorem uI{n:Nat}(p:Nat->Bool)(hn:n<=sizeLine)(Pv:Nat->List V->Hp->Prop)(h0:Pv 0 [] H)(hq:∀ i ys H,i<=n->Pv i ys H->ys.length<=i)
  (ht:∀ i ys H,i<n->Pv i ys H->∀ QB:Bool->Hp->Prop,QB (p i) H->tt (some (.int (i:Int))::BG cap σ) H QB)
  (hs:∀ i ys H,i<n->p i=true->Pv i ys H->te (some (.int (i:Int))::BG cap σ) H λy H3=>Pv (i+1) (ys++[y]) H3)
  (hf:∀ i ys H,i<n->p i=false->Pv i ys H->Pv (i+1) ys H)
  (hd:∀ ys H,Pv n ys H->∀ q,H q=none->Q (.ref q) (upd H q (.lst ys))):DI (DV 0 n) (AN 0) tt te 1 cap σ H Q:=by
 refine⟨λi m σ' ys H=>m=n - i/\i<=n/\(∃ x0,σ'=x0::BG cap σ)/\Pv i ys H,⟨n,by simp,Nat.zero_le _,⟨none,rfl⟩,h0⟩,?_⟩
 rintro i m σ' ys H ⟨rfl,hi,⟨x0,rfl⟩,P⟩
 have hl:=hq i ys H hi P
 by_cases hlt:i<n
 ·refine .inr ⟨hlt,by omega,λx H' y=> ?_⟩
  obtain⟨e,y⟩:=y
  subst e y
  rw[Int.zero_add]
  refine ht i ys _ hlt P _ ?_
  cases hp:p i with
  | true =>
   rw[if_pos rfl]
   exact⟨_,λy H4 q=>⟨_,by omega,rfl,hlt,⟨_,rfl⟩,q⟩,hs i ys _ hlt hp P⟩
  | false =>
   rw[if_neg Bool.false_ne_true]
   exact⟨_,by omega,rfl,hlt,⟨_,rfl⟩,hf i ys _ hlt hp P⟩
 ·have e:i=n:=by omega
  subst e
  exact .inl ⟨Nat.le_refl _,hd ys H P⟩
theorem YH{b:Addr}{xs:List V}(p:Nat->Bool)(hn:xs.length<=sizeLine)(Pv:Nat->List V->Hp->Prop)(h0:Pv 0 [] H)(hq:∀ i ys H,i<=xs.length->Pv i ys H->SqL K H b xs/\ys.length<=i)
  (hu:∀ i ys H t o,Pv i ys H->H t=none->Pv i ys (upd H t o))
  (ht:∀ i x ys H,xs[i]? =some x->Pv i ys H->∀ QB:Bool->Hp->Prop,QB (p i) H->tt (some (.int (i:Int))::some x::BG cap σ) H QB)
  (hs:∀ i x ys H,xs[i]? =some x->p i=true->Pv i ys H->te (some (.int (i:Int))::some x::BG cap σ) H λy H3=>Pv (i+1) (ys++[y]) H3)
  (hf:∀ i x ys H,xs[i]? =some x->p i=false->Pv i ys H->Pv (i+1) ys H)
  (hd:∀ ys H,Pv xs.length ys H->∀ q,H q=none->Q (.ref q) (upd H q (.lst ys))):DI (IQ K b) (FB K 2 (DL (AN 0) (DL (AN 1) FA))) tt te 2 cap σ H Q:=by
 refine⟨λi m σ' ys H=>m=xs.length - i/\i<=xs.length/\(∃ x0 x1,σ'=x0::x1::BG cap σ)/\Pv i ys H,⟨xs.length,by simp,Nat.zero_le _,⟨none,none,rfl⟩,h0⟩,?_⟩
 rintro i m σ' ys H ⟨rfl,hi,⟨x0,x1,rfl⟩,P⟩
 obtain⟨q,hl⟩:=hq i ys H hi P
 by_cases hlt:i<xs.length
 ·refine .inr ⟨⟨xs,xs[i],q,by simp[hlt]⟩,by omega,λv H' ⟨t,ht0,e,x,e',q1⟩=> ?_⟩
  subst e e'
  have ex:=q1 xs q
  refine⟨t,[.int (i:Int),x],rfl,SqT.of AS,rfl,?_⟩
  have P':=hu i ys H t (.tup [.int (i:Int),x]) P ht0
  refine⟨_,_,rfl,⟨_,_,rfl,⟨rfl,?_⟩⟩⟩
  refine ht i x ys _ ex P' _ ?_
  cases hp:p i with
  | true =>
   rw[if_pos rfl]
   exact⟨_,λy H4 q=>⟨_,by omega,rfl,hlt,⟨_,_,rfl⟩,q⟩,hs i x ys _ ex hp P'⟩
  | false =>
   rw[if_neg Bool.false_ne_true]
   exact⟨_,by omega,rfl,hlt,⟨_,_,rfl⟩,hf i x ys _ ex hp P'⟩
 ·have e:i=xs.length:=by omega
  subst e
  exact .inl ⟨⟨xs,q,Nat.le_refl _⟩,hd ys H P⟩
end
end L2
namespace L2
abbrev Ad:=String->Addr
def SameBut(F:Addr->Prop)(H H':Hp):Prop:=∀ b o,H b=some o->¬ F b->H' b=some o
structure FI(K:W.Frag)(a:Ad):Prop where
 cl:Cls K (a "Plank")
 nC:NoAttr K (a "Plank") "contents"
 nW:NoAttr K (a "Plank") "width"
 nN:NoAttr K (a "Plank") "written"
def pf(cl:Addr)(w n:Int):List (Str × V):=[("contents",.ref cl),("width",.int w),("written",.int n)]
theorem YI:¬ ("contents":Str)="width":=by decide +kernel
theorem RR:¬ ("contents":Str)="written":=by decide +kernel
theorem RS:¬ ("width":Str)="written":=by decide +kernel
theorem RT(cl:Addr)(w n:Int):(pf cl w n).lookup ("contents":Str)=some (V.ref cl):=by simp[pf]
theorem uJ(cl:Addr)(w n:Int):(pf cl w n).lookup ("width":Str)=some (V.int w):=by
 have h:(("width":Str) == "contents")=false:=beq_eq_false_iff_ne.mpr (Ne.symm YI)
 simp[pf,List.lookup_cons,h]
theorem uK(cl:Addr)(w n:Int):(pf cl w n).lookup ("written":Str)=some (V.int n):=by
 have h:(("written":Str) == "contents")=false:=beq_eq_false_iff_ne.mpr (Ne.symm RR)
 have h2:(("written":Str) == "width")=false:=beq_eq_false_iff_ne.mpr (Ne.symm RS)
 simp[pf,List.lookup_cons,h,h2]
theorem uL(cl:Addr)(w n:Int):BT "written" (.int n) (BT "width" (.int w) (BT "contents" (.ref cl) []))=pf cl w n:=by
 simp only[BT,pf]
 rw[if_neg YI]
 simp only[BT]
 rw[if_neg RR,if_neg RS]
theorem uM(cl:Addr)(w n m:Int):BT "written" (.int m) (pf cl w n)=pf cl w m:=by
 simp only[BT,pf]
 rw[if_neg RR,if_neg RS]
 simp
theorem RU(cl:Addr)(w n:Int){m:Str}(h1:¬ m="contents")(h2:¬ m="width")(h3:¬ m="written"):(pf cl w n).lookup m=none:=by
 have e1:=beq_eq_false_iff_ne.mpr h1
 have e2:=beq_eq_false_iff_ne.mpr h2
 have e3:=beq_eq_false_iff_ne.mpr h3
 simp[pf,List.lookup_cons,e1,e2,e3]
structure PlankAt(a:Ad)(H:Hp)(p cl:Addr)(w:Nat)(rows:List (List V))(n:Nat):Prop where
 ob:∃ dx,H p=some (.ins (a "Plank") dx (pf cl w n))
 ls:∃ ts:List Addr,H cl=some (.lst (ts.map V.ref))/\Paired (λt r=>H t=some (.tup r)) ts rows
 wd:∀ r∈rows,r.length=w
 sz:rows.length<=1000
 sw:w<=1000
theorem PlankAt.ne{a:Ad}{H:Hp}{p cl:Addr}{w:Nat}{rows:List (List V)}{n:Nat}(P:PlankAt a H p cl w rows n):p≠cl:=by
 obtain⟨⟨dx,h1⟩,⟨ts,h2,_⟩,_⟩:=P
 exact DU h1 h2 (by intro z;cases z)
theorem PlankAt.keep{a:Ad}{H H':Hp}{p cl:Addr}{w:Nat}{rows:List (List V)}{n:Nat}(P:PlankAt a H p cl w rows n)(h1:H' p=H p)(h2:H' cl=H cl)(h3:∀ b xs,H b=some (.tup xs)->H' b=some (.tup xs)):PlankAt a H' p cl w rows n:=by
 obtain⟨⟨dx,e1⟩,⟨ts,e2,e3⟩,r1,r2,r3⟩:=P
 exact⟨⟨dx,h1.trans e1⟩,⟨ts,h2.trans e2,Paired.mapP e3 λt r q=>h3 t r q⟩,r1,r2,r3⟩
theorem PlankAt.same{a:Ad}{H H':Hp}{p cl:Addr}{w:Nat}{rows:List (List V)}{n:Nat}(P:PlankAt a H p cl w rows n)(s:Same H H'):PlankAt a H' p cl w rows n:=by
 obtain⟨⟨dx,e1⟩,⟨ts,e2,e3⟩,r1,r2,r3⟩:=P
 exact⟨⟨dx,s _ _ e1⟩,⟨ts,s _ _ e2,Paired.mapP e3 λt r q=>s _ _ q⟩,r1,r2,r3⟩
def MW(K:W.Frag)(a:Ad):Sp:=λvs H Q _=>∃ (p dx:Addr) (m w:Nat),vs=[.ref p,.int m,.int w]/\FI K a/\H p=some (.ins (a "Plank") dx [])/\m<=1000/\1<=w/\w<=1000 ∧
 ∀ cl H',H cl=none->PlankAt a H' p cl w (List.replicate m (List.replicate w .non)) 0->SameBut (· =p) H H'->Q .non H'
def G4(K:W.Frag)(a:Ad):Sp:=λvs H Q E=>∃ (p cl:Addr) (w:Nat) (rows:List (List V)) (n:Nat) (b:Int),vs=[.ref p,.int b]/\FI K a/\PlankAt a H p cl w rows n ∧
 (0<=b->b<rows.length->Q .non H)/\(b<0\/rows.length<=b->E (.ref (a "NoBlock")) none H)
def MX(K:W.Frag)(a:Ad):Sp:=λvs H Q E=>∃ (p cl:Addr) (w:Nat) (rows:List (List V)) (n:Nat) (b:Int),vs=[.ref p,.int b]/\FI K a/\PlankAt a H p cl w rows n ∧
 (∀ (i:Nat) row,b=i->rows[i]? =some row->∀ l,H l=none->Q (.ref l) (upd H l (.lst row)))/\(b<0\/rows.length<=b->E (.ref (a "NoBlock")) none H)
def MY(K:W.Frag)(a:Ad):Sp:=λvs H Q E=>∃ (p cl:Addr) (w:Nat) (rows:List (List V)) (n:Nat) (b:Int) (v:Addr) (xs:List V),vs=[.ref p,.int b,.ref v]/\FI K a/\PlankAt a H p cl w rows n/\SqL K H v xs/\xs.length<=2000 ∧
 (∀ (i:Nat),b=i->i<rows.length->xs.length=w->∀ H',PlankAt a H' p cl w (rows.set i xs) (n+1)->SameBut (λx=>x=p\/x=cl) H H'->Q .non H') ∧
 (b<0\/rows.length<=b\/xs.length≠w->E (.ref (a "NoBlock")) none H)
end L2
namespace L2
theorem CP{K:W.Frag}{H:Hp}{p:Addr}{xs:List V}{i:Int}{n:Nat}{v:V}{Q:VK}(h:H p=some (.tup xs))(hi:i=n)(hx:xs[n]? =some v)(q:Q v H):AK K (.ref p) (.int i) H Q :=
 .inr (.inl ⟨p,xs,i,v,rfl,rfl,SqT.of h,by rw[hi];exact QY hx,q⟩)
theorem RV{K:W.Frag}{H:Hp}{p:Addr}{xs:List V}{lo hi:Option Int}{Q:VK}(h:SqL K H p xs)(q:∀ r,H r=none->Q (.ref r) (upd H r (.lst (D5 xs lo hi)))):IM K (.ref p) lo hi H Q:=.inl ⟨p,xs,rfl,h,q⟩
theorem SameBut.refl{F:Addr->Prop}(H:Hp):SameBut F H H:=λ_ _ e _=>e
theorem SameBut.trans{F:Addr->Prop}{H H' H2:Hp}(s:SameBut F H H')(t:SameBut F H' H2):SameBut F H H2:=λb o e n=>t _ _ (s _ _ e n) n
theorem SameBut.wide{F G:Addr->Prop}{H H':Hp}(s:SameBut F H H')(i:∀ x,F x->G x):SameBut G H H':=λb o e n=>s _ _ e λz=>n (i _ z)
theorem Same.sb{F:Addr->Prop}{H H':Hp}(s:Same H H'):SameBut F H H':=λb o e _=>s b o e
theorem SqL.on{K:W.Frag}{H H':Hp}{x:Addr}{xs:List V}(h:SqL K H x xs)(k:∀ o,H x=some o->H' x=some o):SqL K H' x xs:=by
 rcases h with(h | ⟨o,h⟩) | h
 ·exact .inl (.inl (k _ h))
 ·exact .inl (.inr ⟨o,k _ h⟩)
 ·exact .inr h
theorem SqL.sb{K:W.Frag}{F:Addr->Prop}{H H':Hp}{x:Addr}{xs:List V}(h:SqL K H x xs)(s:SameBut F H H')(f:∀ o,H x=some o->¬ F x):SqL K H' x xs:=by
 rcases h with(h | ⟨o,h⟩) | h
 ·exact .inl (.inl (s _ _ h (f _ h)))
 ·exact .inl (.inr ⟨o,s _ _ h (f _ h)⟩)
 ·exact .inr h
theorem SameBut.upd{F:Addr->Prop}{H H':Hp}{p:Addr}{o:HO}(s:SameBut F H H')(h:F p\/H p=none):SameBut F H (upd H' p o):=λb u e n=>by
 have:b≠p:=by
  rcases h with h | h
  ·exact λz=>n (z ▸ h)
  ·exact BX e h
 rw[AW this];exact s _ _ e n
structure Ch where
 blk:Nat
 cell:Nat
 val:V
 nd:List Int
def YJ:List Ch->Int->Int->Option Nat
 | [],_,_=>none
 | c::r,i,j=>if(c.blk:Int)=i/\(c.cell:Int)=j then some r.length else YJ r i j
def YK(cs:List Ch)(i j:Int):Option Nat:=YJ cs.reverse i j
def RW:List Ch->Nat->List Nat
 | [],_=>[]
 | c::r,b=>if c.blk=b then RW r b++[r.length]else RW r b
def uN(cs:List Ch)(b:Nat):List Nat:=RW cs.reverse b
def uO(pl:Addr)(v:V)(nt:Addr):List (Str × V):=[("place",.ref pl),("value",v),("needs",.ref nt)]
def bf(gp m mi lt ou:Addr):List (Str × V):=[("ground",.ref gp),("made",.ref m),("made_in",.ref mi),("latest",.ref lt),("outs",.ref ou)]
def EB(a b:Str):Bool:=a == b
section
variable{pl nt gp m mi lt ou:Addr}{v:V}
theorem BH{a b:Str}(h:EB a b=false):(a == b)=false:=h
theorem CU{f g:Str}{x y:V}{r:List (Str × V)}(h:EB g f=false):BT f y ((g,x)::r)=(g,x)::BT f y r:=by
 have:¬ g=f:=λe=>by rw[e]at h;simp[EB]at h
 simp[BT,this]
theorem YL{f:Str}{y:V}:BT f y []=[(f,y)]:=rfl
end
structure zbf(K:W.Frag)(C D:Addr):Prop where
 cl:Cls K C
 nG:NoAttr K C "ground"
 nM:NoAttr K C "made"
 nI:NoAttr K C "made_in"
 nL:NoAttr K C "latest"
 nO:NoAttr K C "outs"
 cc:Cls K D
 nP:NoAttr K D "place"
 nV:NoAttr K D "value"
 nN:NoAttr K D "needs"
def ChAt(D:Addr)(H:Hp)(x:Addr)(c:Ch):Prop:=∃ dx pl nt,H x=some (.ins D dx (uO pl c.val nt))/\H pl=some (.tup [.int c.blk,.int c.cell])/\H nt=some (.tup (c.nd.map V.int))
structure BA where
 b:Addr
 gp:Addr
 m:Addr
 mi:Addr
 lt:Addr
 ou:Addr
 ls:List Addr
 cl:Addr
def BA.F(A:BA)(x:Addr):Prop:=x=A.m\/x=A.mi\/x∈A.ls\/x=A.lt\/x=A.ou\/x=A.cl
def KeysOk(kvo:List (BD × V))(n:Nat):Prop:=(kvo.map (·.1)).Nodup/\∀ p∈kvo,∃ x:Nat,p.1=Sum.inl (x:Int)/\x<n
theorem KeysOk.mono{kvo:List (BD × V)}{n m:Nat}(h:KeysOk kvo n)(hm:n<=m):KeysOk kvo m:=⟨h.1,λp hp=>by obtain⟨x,e,hx⟩:=h.2 p hp;exact⟨x,e,by omega⟩⟩
theorem KeysOk.len{kvo:List (BD × V)}{n:Nat}(h:KeysOk kvo n):kvo.length<=n:=by
 have:=List.Nodup.length_le_of_subset (l₂:=(List.range n).map λ(k:Nat)=>(Sum.inl (k:Int):BD)) h.1 λk hk=>by
  obtain⟨p,hp,rfl⟩:=List.mem_map.mp hk
  obtain⟨x,e,hx⟩:=h.2 p hp
  rw[e]
  exact List.mem_map.mpr ⟨x,List.mem_range.mpr hx,rfl⟩
 simpa using this
theorem KeysOk.put{kvo:List (BD × V)}{n:Nat}(h:KeysOk kvo n){k:Nat}(hk:k<n)(hn:CS kvo (.inl (k:Int))=none)(v:V):KeysOk (DO kvo (.inl (k:Int)) v) n:=by
 refine⟨nU v h.1 hn,λp hp=> ?_⟩
 rw[WS v hn]at hp
 rcases List.mem_append.mp hp with hp | hp
 ·exact h.2 p hp
 ·rw[List.mem_singleton.mp hp];exact⟨k,rfl,hk⟩
structure BookIn(C D:Addr)(H:Hp)(A:BA)(w:Nat)(cs:List Ch)(outs:Int->Bool):Prop where
 ob:∃ dx,H A.b=some (.ins C dx (bf A.gp A.m A.mi A.lt A.ou))
 made:∃ chs:List Addr,H A.m=some (.lst (chs.map V.ref))/\Paired (ChAt D H) chs cs
 mil:H A.mi=some (.lst (A.ls.map V.ref))
 mic:∀ (i:Nat) l,A.ls[i]? =some l->H l=some (.lst ((uN cs i).map λ(k:Nat)=>V.int k))
 nd:A.ls.Nodup
 lat:∃ kvs,H A.lt=some (.dT kvs)/\(∀ i j:Int,CS kvs [.inl i,.inl j]=(YK cs i j).map λ(k:Nat)=>V.int k)/\kvs.length<=cs.length
 out:∃ kvo,H A.ou=some (.dK kvo)/\(∀ k:Int,(CS kvo (.inl k)).isSome=outs k)/\KeysOk kvo cs.length
 sz:cs.length<=990
 inn:∀ c∈cs,c.blk<A.ls.length/\c.cell<w
 need:∀ (k:Nat) c,cs[k]? =some c->(∀ x∈c.nd,0<=x/\x<k)/\c.nd.Pairwise (· <·)/\c.nd.length<=100
 ap:A.m≠A.mi/\A.m∉A.ls/\A.mi∉A.ls/\A.cl≠A.m/\A.cl≠A.mi/\A.cl∉A.ls
 chn:∀ (k:Nat) c,cs[k]? =some c->∀ j,YK (cs.take k) c.blk c.cell=some j->(j:Int)∈c.nd
structure BookAt(a:Ad)(C:Addr)(H:Hp)(A:BA)(w:Nat)(rows:List (List V))(n:Nat)(cs:List Ch)(outs:Int->Bool):Prop where
 bk:BookIn C (a "Change") H A w cs outs
 pk:PlankAt a H A.gp A.cl w rows n
 nb:A.ls.length=rows.length
def HV(o:Option HO):Prop:=(∀ xs,o≠some (.tup xs))/\∀ C dx fs,o≠some (.ins C dx fs)
theorem ChAt.sb{D:Addr}{G:Addr->Prop}{H H':Hp}(s:SameBut G H H')(g:∀ x,G x->HV (H x)){x:Addr}{c:Ch}(h:ChAt D H x c):ChAt D H' x c:=by
 obtain⟨dx,pl,nt,e1,e2,e3⟩:=h
 exact⟨dx,pl,nt,s _ _ e1 λz=>(g _ z).2 _ _ _ e1,s _ _ e2 λz=>(g _ z).1 _ e2,s _ _ e3 λz=>(g _ z).1 _ e3⟩
theorem BookIn.sb{C D:Addr}{G:Addr->Prop}{H H':Hp}{A:BA}{w:Nat}{cs:List Ch}{outs:Int->Bool}(B:BookIn C D H A w cs outs)(s:SameBut G H H')(g:∀ x,G x->HV (H x))(f:∀ x,G x->¬ A.F x):BookIn C D H' A w cs outs:=by
 obtain⟨⟨dx,e1⟩,⟨chs,e2,e3⟩,e4,e5,e6,⟨kvs,e7,e8⟩,⟨kvo,e9,e10⟩,r1,r2,r3,r4,r5⟩:=B
 refine⟨⟨dx,s _ _ e1 λz=>(g _ z).2 _ _ _ e1⟩,⟨chs,s _ _ e2 λz=>f _ z (.inl rfl),Paired.mapP e3 λx c h=>h.sb s g⟩,s _ _ e4 λz=>f _ z (.inr (.inl rfl)),λi l h=>s _ _ (e5 i l h) λz=>f _ z (.inr (.inr (.inl (List.mem_of_getElem? h)))),e6,
  ⟨kvs,s _ _ e7 λz=>f _ z (.inr (.inr (.inr (.inl rfl)))),e8⟩,⟨kvo,s _ _ e9 λz=>f _ z (.inr (.inr (.inr (.inr (.inl rfl))))),e10⟩,r1,r2,r3,r4,r5⟩
theorem PlankAt.sbL{a:Ad}{G:Addr->Prop}{H H':Hp}{p cl:Addr}{w:Nat}{rows:List (List V)}{n:Nat}(P:PlankAt a H p cl w rows n)(s:SameBut G H H')(g:∀ x,G x->HV (H x))(h:¬ G cl):PlankAt a H' p cl w rows n:=by
 obtain⟨⟨dx,e1⟩,⟨ts,e2,e3⟩,r1,r2,r3⟩:=P
 exact⟨⟨dx,s _ _ e1 λz=>(g _ z).2 _ _ _ e1⟩,⟨ts,s _ _ e2 h,Paired.mapP e3 λt r q=>s _ _ q λz=>(g _ z).1 _ q⟩,r1,r2,r3⟩
theorem BookAt.sb{a:Ad}{C:Addr}{G:Addr->Prop}{H H':Hp}{A:BA}{w:Nat}{rows:List (List V)}{n:Nat}{cs:List Ch}{outs:Int->Bool}(B:BookAt a C H A w rows n cs outs)(s:SameBut G H H')(g:∀ x,G x->HV (H x))(f:∀ x,G x->¬ A.F x):BookAt a C H' A w rows n cs outs :=
 ⟨B.bk.sb s g f,B.pk.sbL s g λz=>f _ z (.inr (.inr (.inr (.inr (.inr rfl))))),B.nb⟩
theorem BookAt.same{a:Ad}{C:Addr}{H H':Hp}{A:BA}{w:Nat}{rows:List (List V)}{n:Nat}{cs:List Ch}{outs:Int->Bool}(B:BookAt a C H A w rows n cs outs)(s:Same H H'):BookAt a C H' A w rows n cs outs :=
 B.sb (G:=λ_=>False) (Same.sb s) (λ_ z=>z.elim) λ_ z=>z.elim
theorem BookAt.off{a:Ad}{C:Addr}{H:Hp}{A:BA}{w:Nat}{rows:List (List V)}{n:Nat}{cs:List Ch}{outs:Int->Bool}(B:BookAt a C H A w rows n cs outs){x:Addr}(h:H x=none):¬ A.F x:=by
 obtain⟨⟨_,⟨chs,e2,_⟩,e4,e5,_,⟨kvs,e7,_⟩,⟨kvo,e9,_⟩,_⟩,⟨_,⟨ts,e11,_⟩,_⟩,_⟩:=B
 rintro (z | z | z | z | z | z)
 ·rw[z,e2]at h;cases h
 ·rw[z,e4]at h;cases h
 ·obtain⟨i,hi,e⟩:=List.getElem_of_mem z
  have:=e5 i x (by rw[<-e];exact List.getElem?_eq_getElem hi)
  rw[this]at h;cases h
 ·rw[z,e7]at h;cases h
 ·rw[z,e9]at h;cases h
 ·rw[z,e11]at h;cases h
theorem RX{α :Type}{l:List α}{x: α}(h:x∈l):∃ i:Nat,l[i]? =some x:=by
 obtain⟨i,hi,e⟩:=List.getElem_of_mem h
 exact⟨i,by rw[<-e];exact List.getElem?_eq_getElem hi⟩
theorem PD{H:Hp}{x:Addr}{xs:List V}(h:H x=some (.lst xs)):HV (H x):=by
 rw[h];exact⟨λ_ z=>(by cases z),λ_ _ _ z=>(by cases z)⟩
theorem uP{H:Hp}{x:Addr}{xs:List (BD × V)}(h:H x=some (.dK xs)):HV (H x):=by
 rw[h];exact⟨λ_ z=>(by cases z),λ_ _ _ z=>(by cases z)⟩
theorem uQ{H:Hp}{x:Addr}{xs:List (List BD × V)}(h:H x=some (.dT xs)):HV (H x):=by
 rw[h];exact⟨λ_ z=>(by cases z),λ_ _ _ z=>(by cases z)⟩
theorem BookAt.loose{a:Ad}{C:Addr}{H:Hp}{A:BA}{w:Nat}{rows:List (List V)}{n:Nat}{cs:List Ch}{outs:Int->Bool}(B:BookAt a C H A w rows n cs outs){x:Addr}(h:A.F x):HV (H x):=by
 obtain⟨⟨_,⟨chs,e2,_⟩,e4,e5,_,⟨kvs,e7,_⟩,⟨kvo,e9,_⟩,_⟩,⟨_,⟨ts,e11,_⟩,_⟩,_⟩:=B
 rcases h with z | z | z | z | z | z
 ·exact PD (z ▸ e2)
 ·exact PD (z ▸ e4)
 ·obtain⟨i,e⟩:=RX z
  exact PD (e5 i x e)
 ·exact uQ (z ▸ e7)
 ·exact uP (z ▸ e9)
 ·exact PD (z ▸ e11)
structure zbg(cs:List Ch)(outs:Int->Bool)(ns:List Int)(R:Int->Bool):Prop where
 all:∀ x∈ns,R x=true
 up:∀ (k:Nat) (c:Ch),cs[k]? =some c->outs k=false->R k=true->∀ y∈c.nd,R y=true
 only:∀ x,R x=true->x∈ns\/∃ (k:Nat) (c:Ch),cs[k]? =some c/\outs k=false/\R k=true/\x∈c.nd
end L2
namespace L2
structure D8(K:W.Frag)(a:Ad):Prop where
 cl:Cls K (a "Layout")
 n1:NoAttr K (a "Layout") "name_blocks"
 n2:NoAttr K (a "Layout") "record_blocks"
 n3:NoAttr K (a "Layout") "piece_blocks"
 n4:NoAttr K (a "Layout") "width"
section
variable{n r c w:Int}
def lf(n r c w:Int):List (Str × V):=[("name_blocks",.int n),("record_blocks",.int r),("piece_blocks",.int c),("width",.int w)]
theorem PF:(lf n r c w).lookup ("name_blocks":Str)=some (V.int n):=by simp[lf]
theorem MZ:(lf n r c w).lookup ("record_blocks":Str)=some (V.int r):=by
 simp[lf,List.lookup_cons,BH (a:="record_blocks") (b:="name_blocks") (by decide +kernel)]
theorem RY:(lf n r c w).lookup ("piece_blocks":Str)=some (V.int c):=by
 simp[lf,List.lookup_cons,BH (a:="piece_blocks") (b:="name_blocks") (by decide +kernel),BH (a:="piece_blocks") (b:="record_blocks") (by decide +kernel)]
theorem KM:(lf n r c w).lookup ("width":Str)=some (V.int w):=by
 simp[lf,List.lookup_cons,BH (a:="width") (b:="name_blocks") (by decide +kernel),BH (a:="width") (b:="record_blocks") (by decide +kernel),BH (a:="width") (b:="piece_blocks") (by decide +kernel)]
theorem D9{x:Str}(h:(EB x "name_blocks" || EB x "record_blocks" || EB x "piece_blocks" || EB x "width")=false):(lf n r c w).lookup x=none:=by
 simp only[Bool.or_eq_false_iff]at h
 obtain⟨⟨⟨h1,h2⟩,h3⟩,h4⟩:=h
 simp[lf,List.lookup_cons,BH h1,BH h2,BH h3,BH h4]
theorem uR:BT "width" (.int w) (BT "piece_blocks" (.int c) (BT "record_blocks" (.int r) (BT "name_blocks" (.int n) [])))=lf n r c w:=by
 repeat (first | rw[YL] | rw[CU (by decide +kernel)])
 rfl
end
structure LayAt(a:Ad)(H:Hp)(p:Addr)(n r c w:Nat):Prop where
 ob:∃ dx,H p=some (.ins (a "Layout") dx (lf n r c w))
 hn:n<=100
 hr:r<=100
 hc:c<=100
 h1:1<=w
 hw:w<=100
theorem LayAt.same{a:Ad}{H H':Hp}{p:Addr}{n r c w:Nat}(L:LayAt a H p n r c w)(s:Same H H'):LayAt a H' p n r c w:=by
 obtain⟨⟨dx,e⟩,z1,z2,z3,z4,z5⟩:=L
 exact⟨⟨dx,s _ _ e⟩,z1,z2,z3,z4,z5⟩
theorem LayAt.sb{a:Ad}{F:Addr->Prop}{H H':Hp}{p:Addr}{n r c w:Nat}(L:LayAt a H p n r c w)(s:SameBut F H H')(f:¬ F p):LayAt a H' p n r c w:=by
 obtain⟨⟨dx,e⟩,z1,z2,z3,z4,z5⟩:=L
 exact⟨⟨dx,s _ _ e f⟩,z1,z2,z3,z4,z5⟩
def KN(K:W.Frag)(a:Ad):Sp:=λvs H Q _=>∃ (p dx:Addr) (n r c w:Nat),vs=[.ref p,.int n,.int r,.int c,.int w]/\D8 K a/\H p=some (.ins (a "Layout") dx [])/\n<=100/\r<=100/\c<=100/\1<=w/\w<=100 ∧
 ∀ H',LayAt a H' p n r c w->SameBut (· =p) H H'->Q .non H'
def HW(x y:Int)(Q:VK)(H:Hp):Prop:=∀ t,H t=none->Q (.ref t) (upd H t (.tup [.int x,.int y]))
def EX(K:W.Frag)(a:Ad):Sp:=λvs H Q _=>∃ (p:Addr) (n r c w k:Nat) (b:Int),vs=[.ref p,.int b,.int k]/\D8 K a/\LayAt a H p n r c w/\HW (b+k / w) (k % w) Q H
def M0(K:W.Frag)(a:Ad):Sp:=λvs H Q _=>∃ (p:Addr) (n r c w k:Nat),vs=[.ref p,.int k]/\D8 K a/\LayAt a H p n r c w/\HW (0+k / w) (k % w) Q H
def M3(K:W.Frag)(a:Ad):Sp:=λvs H Q _=>∃ (p:Addr) (n r c w k:Nat),vs=[.ref p,.int k]/\D8 K a/\LayAt a H p n r c w/\HW (n+k / w) (k % w) Q H
def M4(K:W.Frag)(a:Ad):Sp:=λvs H Q _=>∃ (p:Addr) (n r c w k:Nat),vs=[.ref p,.int k]/\D8 K a/\LayAt a H p n r c w/\HW (n+r+k / w) (k % w) Q H
def M5(K:W.Frag)(a:Ad):Sp:=λvs H Q _=>∃ (p:Addr) (n r c w k:Nat),vs=[.ref p,.int k]/\D8 K a/\LayAt a H p n r c w/\HW (n+r+c+k / w) (k % w) Q H
def M6(K:W.Frag)(a:Ad):Sp:=λvs H Q _=>∃ (p:Addr) (n r c w k:Nat),vs=[.ref p,.int k]/\D8 K a/\LayAt a H p n r c w/\HW (n+r+c+r+k / w) (k % w) Q H
def G5(K:W.Frag)(a:Ad):Sp:=λvs H Q _=>∃ (p:Addr) (n r c w:Nat),vs=[.ref p]/\D8 K a/\LayAt a H p n r c w/\Q (.int (n+r+c)) H
def M7(K:W.Frag)(a:Ad):Sp:=λvs H Q _=>∃ (p:Addr) (n r c w:Nat),vs=[.ref p]/\D8 K a/\LayAt a H p n r c w/\Q (.int (n+r+c+r+c)) H
def M8(K:W.Frag)(a:Ad):Sp:=λvs H Q _=>∃ (p:Addr) (n r c w:Nat),vs=[.ref p]/\D8 K a/\LayAt a H p n r c w/\∀ t,H t=none->Q (.ref t) (upd H t (.tup [.int (n * w),.int (r * w),.int (c * w)]))
def M9(K:W.Frag)(a:Ad):Sp:=λvs H Q _=>∃ (p:Addr) (n r c w:Nat),vs=[.ref p]/\D8 K a/\FI K a/\LayAt a H p n r c w ∧
 ∀ x cl H',H x=none->H cl=none->PlankAt a H' x cl w (List.replicate (n+r+c+r+c) (List.replicate w .non)) 0->Same H H'->Q (.ref x) H'
end L2
namespace L2
def KO(ns:List Int)(k:Nat):Int:=ns.getD k 0
def G6(K:W.Frag)(a:Ad):Sp:=λvs H Q _=>∃ (s:Addr) (ns:List Int) (k:Nat),vs=[.ref s,.int k]/\SqL K H s (ns.map V.int)/\ns.length<=1000/\Q (.int (KO ns k)) H
theorem RZ{K:W.Frag}{a:Ad}{s:Addr}{k:Int}{H:Hp}{Q:VK}{E:XK}:G6 K a [.ref s,.int k] H Q E=∃ (ns:List Int) (n:Nat),k=n/\SqL K H s (ns.map V.int)/\ns.length<=1000/\Q (.int (KO ns n)) H:=by simp[G6,and_assoc]
def GoodV:Nat->Hp->V->Prop
 | 0,_,_=>False
 | _+1,_,.int _=>True
 | _+1,_,.non=>True
 | _+1,_,.str z=>PyData.strOk z=true
 | n+1,H,.ref p=>∃ xs,H p=some (.tup xs)/\xs.length<=100/\∀ v∈xs,GoodV n H v
 | _,_,_=>False
def good7(H:Hp)(rows:List (List V)):Prop:=∀ r∈rows,∀ v∈r,GoodV 7 H v
def AV(l:List Nat):List V:=l.map λ(k:Nat)=>V.int k
abbrev GJ:=Option (Str × Nat)
abbrev EY:=Option (Int × List Nat)
structure Vw where
 nm:List GJ
 rc:List EY
 pc:List (Option Str)
 rm:List (Option Int)
 pm:List (Option Int)
def AF{α :Type}(l:List (Option α))(k:Nat):Option α :=(l[k]?).join
def EZ:EY->List Nat
 | none=>[]
 | some (_,ps)=>ps
def BZ(nm:List GJ):List Nat:=nm.filterMap λc=>c.map (·.2)
def CQ(rc:List EY):List Nat:=rc.flatMap EZ
def led(vw:Vw)(r:Nat):Nat:=(BZ vw.nm).count r
def CC(vw:Vw)(p:Nat):Nat:=(CQ vw.rc).count p
def GK(vw:Vw):List EY:=((List.range vw.rc.length).filter λr=>decide (0<led vw r)).map (AF vw.rc)
def E3(vw:Vw)(p:Nat):Nat:=(CQ (GK vw)).count p
def B3(n:Nat)(p:Nat->Bool)(f:Nat->List V):List (List V):=((List.range n).filter p).map f
def D0(vw:Vw)(k:Nat):Bool:=match AF vw.nm k with
 | none=>false
 | some c=>(AF vw.rc c.2).isNone
def EC(vw:Vw)(k:Nat):Bool:=match AF vw.nm k with
 | none=>false
 | some c=>(List.range k).any λj=>match AF vw.nm j with
  | none=>false
  | some d=>decide (d.1=c.1)
def E4(vw:Vw)(r:Nat):Bool:=match AF vw.rc r with
 | none=>false
 | some c=>decide (c.1<(led vw r:Int))
def EK(vw:Vw)(r:Nat):Bool:=match AF vw.rc r with
 | none=>false
 | some c=>decide (0<led vw r) && decide ((led vw r:Int)<c.1)
def EL(vw:Vw):List (List V):=B3 vw.nm.length (D0 vw) (λk=>[.str "lost",.int k])++B3 vw.nm.length (EC vw) (λk=>[.str "twice",.int k])
def EM(vw:Vw):List (List V):=B3 vw.pc.length (λp=>decide (1<CC vw p)) (λp=>[.str "shared",.int p])++B3 vw.pc.length (λp=>decide (0<CC vw p) && (AF vw.pc p).isNone) (λp=>[.str "empty",.int p])++B3 vw.rc.length (E4 vw) (λr=>[.str "few",.int r])
def EN(vw:Vw):List (List V):=B3 vw.rc.length (λr=>decide (0<led vw r) && !decide (AF vw.rm r=some 1)) (λr=>[.str "free",.str "record",.int r])++B3 vw.pc.length (λp=>decide (0<CC vw p) && !decide (AF vw.pm p=some 1)) (λp=>[.str "free",.str "piece",.int p])
def faults(vw:Vw):List (List V):=EL vw++EM vw++EN vw
def IS(vw:Vw):List (List V):=B3 vw.rc.length (EK vw) (λr=>[.str "many",.int r,.int (led vw r)])++B3 vw.rc.length (λr=>(AF vw.rc r).isSome && decide (led vw r=0)) (λr=>[.str "left",.str "record",.int r])
def IT(vw:Vw):List (List V):=B3 vw.pc.length (λp=>decide (AF vw.pm p=some 1) && decide (E3 vw p=0)) (λp=>[.str "left",.str "piece",.int p])
def IU(vw:Vw):List (List V):=B3 vw.rc.length (λr=>decide (AF vw.rm r=some 1) && (AF vw.rc r).isNone) (λr=>[.str "marked",.int r])
def EO(vw:Vw):List (List V):=IS vw++IT vw++IU vw
structure NA(vw:Vw):Prop where
 n1:∀ c,some c∈vw.nm->c.2<vw.rc.length/\PyData.strOk c.1=true
 n2:∀ c,some c∈vw.rc->(∀ p∈c.2,p<vw.pc.length)/\c.2.length<=10
 n3:∀ s,some s∈vw.pc->PyData.strOk s=true
 l1:vw.rm.length=vw.rc.length
 l2:vw.pm.length=vw.pc.length
 bn:vw.nm.length<=100
 br:vw.rc.length<=100
 bp:vw.pc.length<=100
def NmV(H:Hp)(v:V):GJ->Prop
 | none=>v=.non
 | some c=>∃ p,v=.ref p/\H p=some (.tup [.str c.1,.int c.2])
def RcV(H:Hp)(v:V):EY->Prop
 | none=>v=.non
 | some c=>∃ p q,v=.ref p/\H p=some (.tup [.int c.1,.ref q])/\H q=some (.tup (AV c.2))
def PcV(_:Hp)(v:V):Option Str->Prop
 | none=>v=.non
 | some s=>v=.str s
def MkV(_:Hp)(v:V):Option Int->Prop
 | none=>v=.non
 | some i=>v=.int i
def LstAt{α :Type}(R:Hp->V-> α ->Prop)(H:Hp)(p:Addr)(cs:List α):Prop:=∃ vs,H p=some (.lst vs)/\Paired (R H) vs cs
def FindsL(H:Hp)(l:Addr)(fs:List (List V)):Prop:=∃ ps:List Addr,H l=some (.lst (ps.map V.ref))/\Paired (λp f=>H p=some (.tup f)) ps fs
structure TV(K:W.Frag)(a:Ad):Prop where
 cl:Cls K (a "View")
 n1:NoAttr K (a "View") "name_values"
 n2:NoAttr K (a "View") "record_values"
 n3:NoAttr K (a "View") "piece_values"
 n4:NoAttr K (a "View") "record_marks"
 n5:NoAttr K (a "View") "piece_marks"
 n6:NoAttr K (a "View") "leads"
 n7:NoAttr K (a "View") "namings"
 n8:NoAttr K (a "View") "reached"
def YM(a:Ad)(H:Hp)(x:Addr)(f:Str)(v:V):Prop:=∃ dx fs,H x=some (.ins (a "View") dx fs)/\fs.lookup f=some v
structure VA where
 n:Addr
 r:Addr
 p:Addr
 rm:Addr
 pm:Addr
 ld:Addr
 ng:Addr
 rh:Addr
def vf(A:VA):List (Str × V):=[("name_values",.ref A.n),("record_values",.ref A.r),("piece_values",.ref A.p),("record_marks",.ref A.rm),("piece_marks",.ref A.pm),("leads",.ref A.ld),("namings",.ref A.ng),("reached",.ref A.rh)]
structure ViewAt(a:Ad)(H:Hp)(x:Addr)(A:VA)(vw:Vw):Prop where
 ob:∃ dx,H x=some (.ins (a "View") dx (vf A))
 n:LstAt NmV H A.n vw.nm
 r:LstAt RcV H A.r vw.rc
 p:LstAt PcV H A.p vw.pc
 rm:LstAt MkV H A.rm vw.rm
 pm:LstAt MkV H A.pm vw.pm
 ld:H A.ld=some (.lst (AV ((List.range vw.rc.length).map (led vw))))
 ng:H A.ng=some (.lst (AV ((List.range vw.pc.length).map (CC vw))))
 rh:H A.rh=some (.lst (AV ((List.range vw.pc.length).map (E3 vw))))
 ok:NA vw
structure PlV(H:Hp)(rows:List (List V))(n r c w:Nat)(vw:Vw):Prop where
 vs:∃ v1 v2 v3 v4 v5:List V,rows.flatten=v1++v2++v3++v4++v5/\Paired (NmV H) v1 vw.nm/\Paired (RcV H) v2 vw.rc/\Paired (PcV H) v3 vw.pc/\Paired (MkV H) v4 vw.rm/\Paired (MkV H) v5 vw.pm
 ln:vw.nm.length=n * w
 lr:vw.rc.length=r * w
 lp:vw.pc.length=c * w
 ok:NA vw
def newL(vs:List V)(H:Hp)(Q:VK):Prop:=∀ l H',H l=none->Same H H'->H' l=some (.lst vs)->Q (.ref l) H'
def newF(fs:List (List V))(H:Hp)(Q:VK):Prop:=∀ l H',H l=none->Same H H'->FindsL H' l fs->Q (.ref l) H'
def HX(rows:List (List V))(b j:Nat):V:=(((rows[b]?).bind (·[j]?)).getD .non)
def GL(K:W.Frag)(a:Ad):Sp:=λvs H Q _=>∃ (gp cl pl:Addr) (w:Nat) (rows:List (List V)) (m:Nat) (ts:List Addr) (ps:List (Nat × Nat)),vs=[.ref gp,.ref pl]/\FI K a/\PlankAt a H gp cl w rows m/\H pl=some (.lst (ts.map V.ref))/\Paired (λt (ij:Nat × Nat)=>H t=some (.tup [.int ij.1,.int ij.2])) ts ps/\(∀ ij∈ps,ij.1<rows.length/\ij.2<w)/\ps.length<=1000 ∧
 newL (ps.map λij=>HX rows ij.1 ij.2) H Q
def IV(K:W.Frag)(a:Ad):Sp:=λvs H Q _=>∃ (many:Nat) (nl:Addr) (ks:List Nat),vs=[.int many,.ref nl]/\H nl=some (.lst (AV ks))/\(∀ k∈ks,k<many)/\many<=1000/\ks.length<=10000/\newL (AV ((List.range many).map λk=>ks.count k)) H Q
def KP(K:W.Frag)(a:Ad):Sp:=λvs H Q _=>∃ (rl:Addr) (cs:List EY),vs=[.ref rl]/\LstAt RcV H rl cs/\cs.length<=100/\(∀ c,some c∈cs->c.2.length<=10)/\newL (AV (CQ cs)) H Q
def NB(K:W.Frag)(a:Ad):Sp:=λvs H Q _=>∃ (x ar al:Addr) (vw:Vw),vs=[.ref x]/\TV K a/\YM a H x "record_values" (.ref ar)/\YM a H x "leads" (.ref al)/\LstAt RcV H ar vw.rc/\H al=some (.lst (AV ((List.range vw.rc.length).map (led vw))))/\vw.rc.length<=100/\∀ l H',H l=none->Same H H'->LstAt RcV H' l (GK vw)->Q (.ref l) H'
def IW(K:W.Frag)(a:Ad):Sp:=λvs H Q _=>∃ (x:Addr) (A:VA) (vw:Vw),vs=[.ref x]/\TV K a/\ViewAt a H x A vw/\newL (AV ((List.range vw.rc.length).filter λr=>(AF vw.rc r).isSome)) H Q
def HY(K:W.Frag)(a:Ad):Sp:=λvs H Q _=>∃ (x:Addr) (A:VA) (vw:Vw),vs=[.ref x]/\TV K a/\ViewAt a H x A vw/\newL (AV ((List.range vw.pc.length).filter λp=>decide (0<CC vw p))) H Q
def IX(K:W.Frag)(a:Ad):Sp:=λvs H Q _=>∃ (x:Addr) (A:VA) (vw:Vw) (r:Nat) (c:Int × List Nat),vs=[.ref x,.int r]/\TV K a/\ViewAt a H x A vw/\AF vw.rc r=some c/\Q (.int c.1) H
def HZ(f:Vw->List (List V))(K:W.Frag)(a:Ad):Sp:=λvs H Q _=>∃ (x:Addr) (A:VA) (vw:Vw),vs=[.ref x]/\TV K a/\ViewAt a H x A vw/\newF (f vw) H Q
def NC(K:W.Frag)(a:Ad):Sp:=HZ EL K a
def ND(K:W.Frag)(a:Ad):Sp:=HZ EM K a
def NE(K:W.Frag)(a:Ad):Sp:=HZ EN K a
def IY(K:W.Frag)(a:Ad):Sp:=HZ faults K a
def NF(K:W.Frag)(a:Ad):Sp:=HZ IS K a
def NG(K:W.Frag)(a:Ad):Sp:=HZ IT K a
def NH(K:W.Frag)(a:Ad):Sp:=HZ IU K a
def NI(K:W.Frag)(a:Ad):Sp:=HZ EO K a
def IA(K:W.Frag)(a:Ad):Sp:=λvs H Q _=>∃ (x dx ly gp cl:Addr) (n r c w:Nat) (rows:List (List V)) (m:Nat) (vw:Vw),vs=[.ref x,.ref ly,.ref gp]/\TV K a/\D8 K a/\FI K a/\H x=some (.ins (a "View") dx [])/\LayAt a H ly n r c w/\PlankAt a H gp cl w rows m/\rows.length=n+r+c+r+c/\PlV H rows n r c w vw ∧
 ∀ (A:VA) (H':Hp),ViewAt a H' x A vw->SameBut (· =x) H H'->Q .non H'
def Ground(K:W.Frag)(a:Ad)(H:Hp)(ly gp:Addr)(vw:Vw):Prop:=∃ (cl:Addr) (n r c w:Nat) (rows:List (List V)) (m:Nat),TV K a/\D8 K a/\FI K a/\LayAt a H ly n r c w/\PlankAt a H gp cl w rows m/\rows.length=n+r+c+r+c/\PlV H rows n r c w vw
def IZ(K:W.Frag)(a:Ad):Sp:=λvs H Q _=>∃ (ly gp:Addr) (vw:Vw),vs=[.ref ly,.ref gp]/\Ground K a H ly gp vw/\newF (faults vw++EO vw) H Q
def JA(K:W.Frag)(a:Ad):Sp:=λvs H Q _=>∃ (ly gp:Addr) (vw:Vw),vs=[.ref ly,.ref gp]/\Ground K a H ly gp vw/\∀ H',Same H H'->Q (.bl (decide (faults vw=[]))) H'
def E5(K:W.Frag)(a:Ad):Sp:=λvs H Q _=>∃ (c:Int) (m:Nat),vs=[.int c,.int m]/\m<=100/\∀ l (xs:List Int) H',H l=none->Same H H'->H' l=some (.lst (xs.map V.int))->xs.length=m->(∀ x∈xs,0<=x/\x<2000000000)->Q (.ref l) H'
def JB(K:W.Frag)(a:Ad):Sp:=λvs H Q _=>∃ x:Int,vs=[.int x]/\∀ (z:Str) H',PyData.strOk z=true->Same H H'->Q (.str z) H'
def NJ(K:W.Frag)(a:Ad):Sp:=λvs H Q _=>∃ x:Int,vs=[.int x]/\∀ (t:Addr) (n r c w:Nat) H',Same H H'->H' t=some (.tup [.int n,.int r,.int c,.int w])->1<=n->n<=6->1<=r->r<=6->1<=c->c<=6->1<=w->w<=6->Q (.ref t) H'
def R0(vw:Vw)(p:Nat):Prop:=∀ r c,0<led vw r->AF vw.rc r=some c->p∉c.2
structure Clean(vw:Vw)(lf:List Nat)(zs:List Str):Prop where
 nm:∀ k c,AF vw.nm k=some c->∃ j,j<(BZ vw.nm).length/\zs[j]? =some c.1
 ds:∀ j k c d,j<k->AF vw.nm j=some c->AF vw.nm k=some d->c.1≠d.1
 ls:∀ k c,AF vw.nm k=some c->(AF vw.rc c.2).isSome=true
 fw:∀ r c,AF vw.rc r=some c->(led vw r:Int)<=c.1
 s1:∀ r c,AF vw.rc r=some c->c.2.Nodup
 s2:∀ r r' c c',r≠r'->AF vw.rc r=some c->AF vw.rc r'=some c'->∀ p∈c.2,p∉c'.2
 em:∀ r c,AF vw.rc r=some c->∀ p∈c.2,(AF vw.pc p).isSome=true/\AF vw.pm p=some 1
 fr:∀ r,0<led vw r->AF vw.rm r=some 1
 nd:lf.Nodup
 lm:∀ p,p∈lf↔(AF vw.pm p=some 1/\R0 vw p)
 p3:∀ r c,AF vw.rc r=some c->c.2.length<=3
def FOk(fs:List (List V)):Prop:=∀ f∈fs,f.length<=10/\1<=f.length/\∀ v∈f,(∃ i,v=.int i)\/∃ s,v=.str s/\PyData.strOk s=true
structure LW where
 v:Addr
 a0:Addr
 a1:Addr
 a2:Addr
 a3:Addr
 a4:Addr
 a5:Addr
def LW.L(A:LW):List Addr:=[A.a0,A.a1,A.a2,A.a3,A.a4,A.a5]
structure LWAt(H:Hp)(A:LW)(vw:Vw)(lf:List Nat):Prop where
 ob:H A.v=some (.lst [.ref A.a0,.ref A.a1,.ref A.a2,.ref A.a3,.ref A.a4,.ref A.a5])
 n:LstAt NmV H A.a0 vw.nm
 r:LstAt RcV H A.a1 vw.rc
 p:LstAt PcV H A.a2 vw.pc
 rm:LstAt MkV H A.a3 vw.rm
 pm:LstAt MkV H A.a4 vw.pm
 l:H A.a5=some (.lst (AV lf))
 ok:NA vw
 nd:A.L.Nodup
 nv:A.v∉A.L
def EQ(vw:Vw)(n r c:Nat):Prop:=vw.nm.length=n/\vw.rc.length=r/\vw.pc.length=c
def NK(K:W.Frag)(a:Ad):Sp:=λvs H Q _=>∃ (c:Int) (m:Nat),vs=[.int c,.int m]/\m<=36/\∀ l (zs:List Str) H',H l=none->Same H H'->H' l=some (.lst (zs.map V.str))->zs.length=m->zs.Nodup->(∀ z∈zs,PyData.strOk z=true)->Q (.ref l) H'
structure NamesAt(H:Hp)(A:LW)(nl:Addr)(zs:List Str):Prop where
 e:H nl=some (.lst (zs.map V.str))
 l:zs.length=36
 d:zs.Nodup
 s:∀ z∈zs,PyData.strOk z=true
 n:nl∉A.L
structure IntsAt(H:Hp)(A:LW)(xl:Addr)(xs:List Int)(m:Nat):Prop where
 e:H xl=some (.lst (xs.map V.int))
 l:xs.length=m
 b:∀ x∈xs,0<=x/\x<2000000000
 n:xl∉A.L
def PH(f:Vw->List Nat)(K:W.Frag)(a:Ad):Sp:=λvs H Q _=>∃ (A:LW) (vw:Vw) (lf:List Nat),vs=[.ref A.v]/\LWAt H A vw lf/\newL (AV (f vw)) H Q
def uS(vw:Vw):List Nat:=(List.range vw.rc.length).map (led vw)
def DT(vw:Vw):List Nat:=(List.range vw.nm.length).filter λk=>(AF vw.nm k).isNone
def freeR(vw:Vw):List Nat:=(List.range vw.rc.length).filter λr=>(AF vw.rc r).isNone && (AF vw.rm r).isNone
def freeP(vw:Vw):List Nat:=(List.range vw.pc.length).filter λp=>(AF vw.pc p).isNone && (AF vw.pm p).isNone
def G8(K:W.Frag)(a:Ad):Sp:=PH uS K a
def E6(K:W.Frag)(a:Ad):Sp:=PH DT K a
def JC(K:W.Frag)(a:Ad):Sp:=PH freeR K a
def JD(K:W.Frag)(a:Ad):Sp:=PH freeP K a
def NL(K:W.Frag)(a:Ad):Sp:=λvs H Q _=>∃ (A:LW) (vw:Vw) (lf l0:List Nat) (zs:List Str) (xl:Addr) (xs:List Int) (many n r c:Nat),vs=[.ref A.v,.ref xl,.int many]/\LWAt H A vw lf/\Clean vw l0 zs/\IntsAt H A xl xs 3/\many<=3/\EQ vw n r c ∧
 ∀ (t:Addr) (tk:List Nat) (vw':Vw) (H':Hp),LWAt H' A vw' lf->Clean vw' (l0++tk) zs->vw'.nm=vw.nm->vw'.rc=vw.rc->vw'.rm=vw.rm->EQ vw' n r c->(∀ p∈tk,(AF vw'.pc p).isSome=true/\p<c)->(∀ p∈tk,∀ r c,AF vw'.rc r=some c->p∉c.2)->tk.length<=3->H' t=some (.tup (AV tk))->SameBut (· ∈A.L) H H'->Q (.ref t) H'
def JE(K:W.Frag)(a:Ad):Sp:=λvs H Q _=>∃ (A:LW) (vw:Vw) (lf l0:List Nat) (zs:List Str) (nl:Addr) (r:Nat) (c:Int × List Nat) (num:Int) (n' r' c':Nat),vs=[.ref A.v,.ref nl,.int r,.int num]/\LWAt H A vw lf/\Clean vw l0 zs/\NamesAt H A nl zs/\EQ vw n' r' c'/\n'<=36/\DT vw≠[]/\AF vw.rc r=some c/\(led vw r:Int)+1<=c.1/\AF vw.rm r=some 1 ∧
 ∀ (vw':Vw) (H':Hp),LWAt H' A vw' lf->Clean vw' (l0.filter λp=>decide (p∉c.2)) zs->EQ vw' n' r' c'->SameBut (· ∈A.L) H H'->Q .non H'
def R1(A:LW)(zs:List Str)(n r c:Nat)(H:Hp)(Q:VK):Prop:=∀ (vw':Vw) (lf':List Nat) (H':Hp),LWAt H' A vw' lf'->Clean vw' lf' zs->EQ vw' n r c->SameBut (· ∈A.L) H H'->Q .non H'
def KQ(K:W.Frag)(a:Ad):Sp:=λvs H Q _=>∃ (A:LW) (vw:Vw) (lf:List Nat) (zs:List Str) (nl xl:Addr) (xs:List Int) (wn:Bool) (n r c:Nat),vs=[.ref A.v,.ref nl,.ref xl,.bl wn]/\LWAt H A vw lf/\Clean vw lf zs/\NamesAt H A nl zs/\IntsAt H A xl xs 7/\EQ vw n r c/\n<=36/\c<=36/\R1 A zs n r c H Q
def NM(K:W.Frag)(a:Ad):Sp:=λvs H Q _=>∃ (A:LW) (vw:Vw) (lf:List Nat) (zs:List Str) (nl xl:Addr) (xs:List Int) (n r c:Nat),vs=[.ref A.v,.ref nl,.ref xl]/\LWAt H A vw lf/\Clean vw lf zs/\NamesAt H A nl zs/\IntsAt H A xl xs 7/\EQ vw n r c/\n<=36/\R1 A zs n r c H Q
def NN(K:W.Frag)(a:Ad):Sp:=λvs H Q _=>∃ (A:LW) (vw:Vw) (lf:List Nat) (zs:List Str) (k:Int) (xl:Addr) (xs:List Int) (n r c:Nat),vs=[.ref A.v,.int k,.ref xl]/\LWAt H A vw lf/\Clean vw lf zs/\IntsAt H A xl xs 7/\EQ vw n r c/\c<=36/\R1 A zs n r c H Q
def NO(K:W.Frag)(a:Ad):Sp:=λvs H Q _=>∃ (s z nl:Addr) (ns:List Int) (zs:List Str) (n r c w:Nat),vs=[.ref s,.ref z,.ref nl]/\H s=some (.lst (ns.map V.int))/\ns.length<=63/\H z=some (.tup [.int n,.int r,.int c,.int w])/\1<=n/\n<=6/\1<=r/\r<=6/\1<=c/\c<=6/\1<=w/\w<=6/\H nl=some (.lst (zs.map V.str))/\zs.length=36/\zs.Nodup/\(∀ z∈zs,PyData.strOk z=true) ∧
 ∀ (A:LW) (vw:Vw) (lf:List Nat) (H':Hp),Same H H'->LWAt H' A vw lf->Clean vw lf zs->EQ vw (n * w) (r * w) (c * w)->H A.v=none->(∀ x∈A.L,H x=none)->Q (.ref A.v) H'
def NP(K:W.Frag)(a:Ad):Sp:=λvs H Q _=>∃ (A:LW) (vw:Vw) (lf:List Nat) (zs:List Str),vs=[.ref A.v]/\LWAt H A vw lf/\Clean vw lf zs/\vw.pc.length<=36/\newF (EO vw) H Q
def NQ(K:W.Frag)(a:Ad):Sp:=λvs H Q _=>∃ (A:LW) (vw:Vw) (lf:List Nat),vs=[.ref A.v]/\LWAt H A vw lf/\∀ (A':LW) (H':Hp),Same H H'->LWAt H' A' vw lf->H A'.v=none->(∀ x∈A'.L,H x=none)->Q (.ref A'.v) H'
def uT(A:LW)(n r c:Nat)(H:Hp)(Q:VK):Prop:=(∀ H',SameBut (· ∈A.L) H H'->Q .non H')/\∀ (t:Addr) (f:List V) (vw':Vw) (lf:List Nat) (H':Hp),H' t=some (.tup f)->LWAt H' A vw' lf->faults vw'=[f]->EQ vw' n r c->SameBut (· ∈A.L) H H'->Q (.ref t) H'
def KR(K:W.Frag)(a:Ad):Sp:=λvs H Q _=>∃ (A:LW) (vw:Vw) (lf:List Nat) (zs:List Str) (nl xl:Addr) (xs:List Int) (n r c:Nat),vs=[.ref A.v,.ref nl,.ref xl]/\LWAt H A vw lf/\Clean vw lf zs/\NamesAt H A nl zs/\IntsAt H A xl xs 3/\EQ vw n r c/\n<=36/\1<=n/\1<=r/\1<=c/\uT A n r c H Q
def ER(K:W.Frag)(a:Ad):Sp:=KR K a
def NR(K:W.Frag)(a:Ad):Sp:=KR K a
def NS(K:W.Frag)(a:Ad):Sp:=KR K a
def NT(K:W.Frag)(a:Ad):Sp:=KR K a
def NU(K:W.Frag)(a:Ad):Sp:=KR K a
def JF(K:W.Frag)(a:Ad):Sp:=λvs H Q _=>∃ (gp cl:Addr) (A:LW) (vw:Vw) (lf:List Nat) (n r c w:Nat) (rows:List (List V)) (m:Nat),vs=[.ref gp,.ref A.v,.int w]/\FI K a/\PlankAt a H gp cl w rows m/\rows.length=n+r+c+r+c/\LWAt H A vw lf/\EQ vw (n * w) (r * w) (c * w)/\1<=w/\w<=6/\n<=6/\r<=6/\c<=6/\cl∉A.L/\cl≠A.v ∧
 ∀ (rows':List (List V)) (H':Hp),PlankAt a H' gp cl w rows' (m+(n+r+c+r+c))->rows'.length=n+r+c+r+c->PlV H' rows' n r c w vw->SameBut (λx=>x=gp\/x=cl) H H'->Q .non H'
def KS(K:W.Frag)(a:Ad):Sp:=λvs H Q _=>∃ (ly gp du:Addr) (vw:Vw),vs=[.ref ly,.ref gp,.ref du]/\Ground K a H ly gp vw/\faults vw=[]/\FindsL H du (EO vw)/\∀ H',Same H H'->Q (.bl true) H'
def R3(K:W.Frag)(a:Ad):Sp:=λvs H Q _=>∃ (s:Addr) (ns:List Int),vs=[.ref s]/\TV K a/\D8 K a/\FI K a/\SqL K H s (ns.map V.int)/\ns.length<=63/\∀ H',Q (.bl true) H'
end L2
namespace L2
abbrev FK:=W.Frag
abbrev XE:=St->XK
theorem AH{f g:TS}(h:f=g)(D:Ends)(σ:St)(H:Hp):f D σ H=g D σ H:=by rw[h]
section
variable{K:FK}{a:Ad}{n:Nat}{E E1:XE}{D:Ends}{σ:St}{H:Hp}
def YN(K:FK)(a:Ad)(E E1:XE):TS:=(BB (BR (GI K (AD (BV K (AA 0) "record_values") AI)) (FB K 2 (DL (AN 0) (DL (AN 1) FA))) (A1 (AC FW (AC (AK K) (BV K (AA 2) "leads") (AA 0)) (tC (.int 0)))) (AA 1) 2 [0]))
theorem uU:type_of% (AH (YN.eq_1 K a E E1) D σ H):=rfl
def R4(K:FK)(a:Ad)(E:XE):TS:=(YN K a E E)
def YO(K:FK)(a:Ad)(E E1:XE):TS:=(BB (BR (GI K (AD (BV K (AA 0) "record_values") AI)) (FB K 2 (DL (AN 0) (DL (AN 1) FA))) (A1 (AC GH (AA 1) (tC .non))) (AA 0) 2 []))
theorem uV:type_of% (AH (YO.eq_1 K a E E1) D σ H):=rfl
def R5(K:FK)(a:Ad)(E:XE):TS:=(YO K a E E)
def YQ(K:FK)(a:Ad)(E E1:XE):TS:=(BB (BR (GI K (AD (BV K (AA 0) "namings") AI)) (FB K 2 (DL (AN 0) (DL (AN 1) FA))) (A1 (AC FW (AA 1) (tC (.int 0)))) (AA 0) 2 []))
theorem uW:type_of% (AH (YQ.eq_1 K a E E1) D σ H):=rfl
def R6(K:FK)(a:Ad)(E:XE):TS:=(YQ K a E E)
def YR(K:FK)(a:Ad)(E E1:XE):TS:=(BB (AC (AK K) (AC (AK K) (BV K (AA 0) "record_values") (AA 1)) (tC (.int 0))))
theorem uX:type_of% (AH (YR.eq_1 K a E E1) D σ H):=rfl
def R7(K:FK)(a:Ad)(E:XE):TS:=(YR K a E E)
def YS(K:FK)(a:Ad)(E E1:XE):TS:=(AU (CB AI) (AN 1))
theorem uY:type_of% (AH (YS.eq_1 K a E E1) D σ H):=rfl
def YT(K:FK)(a:Ad)(E E1:XE):TS:=(AU (CB AI) (AN 2))
theorem uZ:type_of% (AH (YT.eq_1 K a E E1) D σ H):=rfl
def YU(K:FK)(a:Ad)(E E1:XE):TS:=(AU RB (AN 3))
theorem u0:type_of% (AH (YU.eq_1 K a E E1) D σ H):=rfl
def YV(K:FK)(a:Ad)(E E1:XE):TS:=(C6 (ET K "list" HU (AA 1) (AD (B6 (AD (tC (.str "lost")) (AD (AA 4) AI))) AI)))
theorem vA:type_of% (AH (YV.eq_1 K a E E1) D σ H):=rfl
def YW(K:FK)(a:Ad)(E E1:XE):TS:=(B7 (A1 (AC EV (AC (AK K) (BV K (AA 0) "record_values") (AC (AK K) (AA 5) (tC (.int 1)))) (tC .non))) (YV K a E E) CK)
theorem vB:type_of% (AH (YW.eq_1 K a E E1) D σ H):=rfl
def YX(K:FK)(a:Ad)(E E1:XE):TS:=(C6 (ET K "list" HU (AA 2) (AD (B6 (AD (tC (.str "twice")) (AD (AA 4) AI))) AI)))
theorem vC:type_of% (AH (YX.eq_1 K a E E1) D σ H):=rfl
def R8(K:FK)(a:Ad)(E E1:XE):TS:=(B7 (tB (Q9 (AC (AK K) (AA 5) (tC (.int 0))) (AA 3))) (YX K a E E) CK)
theorem vD:type_of% (AH (R8.eq_1 K a E E1) D σ H):=rfl
def PJ(K:FK)(a:Ad)(E E1:XE):TS:=(RA (AA 3) (AC (AK K) (AA 5) (tC (.int 0))) (tC (.bl true)))
theorem vE:type_of% (AH (PJ.eq_1 K a E E1) D σ H):=rfl
def YY(K:FK)(a:Ad)(E E1:XE):TS:=(B7 (A1 (AC GH (AA 5) (tC .non))) (AQ (YW K a E E) (AQ (R8 K a E E) (PJ K a E E))) CK)
theorem vF:type_of% (AH (YY.eq_1 K a E E1) D σ H):=rfl
def YZ(K:FK)(a:Ad)(E E1:XE):TS:=(DW (GI K (AD (BV K (AA 0) "name_values") AI)) (FB K 2 (DL (AN 4) (DL (AN 5) FA))) (YY K a E E))
theorem vG:type_of% (AH (YZ.eq_1 K a E E1) D σ H):=rfl
def PK(K:FK)(a:Ad)(E E1:XE):TS:=(BB (AC (BC K) (AA 1) (AA 2)))
theorem vH:type_of% (AH (PK.eq_1 K a E E1) D σ H):=rfl
def R9(K:FK)(a:Ad)(E:XE):TS:=(AQ (YS K a E E) (AQ (YT K a E E) (AQ (YU K a E E) (AQ (YZ K a E E) (PK K a E E)))))
def Y0(K:FK)(a:Ad)(E E1:XE):TS:=(AU (BR (GI K (AD (BV K (AA 0) "piece_marks") AI)) (FB K 2 (DL (AN 0) (DL (AN 1) FA))) (A1 (AC (BM K) (AA 1) (tC (.int 1)))) (AA 0) 2 []) (AN 1))
theorem vI:type_of% (AH (Y0.eq_1 K a E E1) D σ H):=rfl
def Y1(K:FK)(a:Ad)(E E1:XE):TS:=(BB (BR (C0 K (AA 1)) (AN 0) (A1 (AC (BM K) (AC (AK K) (BV K (AA 1) "reached") (AA 0)) (tC (.int 0)))) (B6 (AD (tC (.str "left")) (AD (tC (.str "piece")) (AD (AA 0) AI)))) 1 [0]))
theorem vJ:type_of% (AH (Y1.eq_1 K a E E1) D σ H):=rfl
def SA(K:FK)(a:Ad)(E:XE):TS:=(AQ (Y0 K a E E) (Y1 K a E E))
def Y2(K:FK)(a:Ad)(E E1:XE):TS:=(AU (BR (GI K (AD (BV K (AA 0) "record_marks") AI)) (FB K 2 (DL (AN 0) (DL (AN 1) FA))) (A1 (AC (BM K) (AA 1) (tC (.int 1)))) (AA 0) 2 []) (AN 1))
theorem vK:type_of% (AH (Y2.eq_1 K a E E1) D σ H):=rfl
def Y3(K:FK)(a:Ad)(E E1:XE):TS:=(BB (BR (C0 K (AA 1)) (AN 0) (A1 (AC EV (AC (AK K) (BV K (AA 1) "record_values") (AA 0)) (tC .non))) (B6 (AD (tC (.str "marked")) (AD (AA 0) AI))) 1 [0]))
theorem vL:type_of% (AH (Y3.eq_1 K a E E1) D σ H):=rfl
def SB(K:FK)(a:Ad)(E:XE):TS:=(AQ (Y2 K a E E) (Y3 K a E E))
def Y4(K:FK)(a:Ad)(E E1:XE):TS:=(AU (BR (CY (AD (AA 0) AI)) (AN 0) DA (tC (.int 0)) 1 []) (AN 2))
theorem vM:type_of% (AH (Y4.eq_1 K a E E1) D σ H):=rfl
def Y5(K:FK)(a:Ad)(E E1:XE):TS:=(RQ K (AA 2) (AA 3) (tC (.int 1)) MK)
theorem vN:type_of% (AH (Y5.eq_1 K a E E1) D σ H):=rfl
def Y6(K:FK)(a:Ad)(E E1:XE):TS:=(DW (C0 K (AA 1)) (AN 3) (Y5 K a E E))
theorem vO:type_of% (AH (Y6.eq_1 K a E E1) D σ H):=rfl
def Y7(K:FK)(a:Ad)(E E1:XE):TS:=(BB (AA 2))
theorem vP:type_of% (AH (Y7.eq_1 K a E E1) D σ H):=rfl
def SC(K:FK)(a:Ad)(E:XE):TS:=(AQ (Y4 K a E E) (AQ (Y6 K a E E) (Y7 K a E E)))
def Y8(K:FK)(a:Ad)(E E1:XE):TS:=(AU (CB AI) (AN 1))
theorem vQ:type_of% (AH (Y8.eq_1 K a E E1) D σ H):=rfl
def Y9(K:FK)(a:Ad)(E E1:XE):TS:=(C6 (ET K "list" (YE K) (AA 1) (AD (AC (AK K) (AA 2) (tC (.int 1))) AI)))
theorem vR:type_of% (AH (Y9.eq_1 K a E E1) D σ H):=rfl
def ZA(K:FK)(a:Ad)(E E1:XE):TS:=(B7 (A1 (AC GH (AA 2) (tC .non))) (Y9 K a E E) CK)
theorem vS:type_of% (AH (ZA.eq_1 K a E E1) D σ H):=rfl
def ZB(K:FK)(a:Ad)(E E1:XE):TS:=(DW (C0 K (AA 0)) (AN 2) (ZA K a E E))
theorem vT:type_of% (AH (ZB.eq_1 K a E E1) D σ H):=rfl
def ZC(K:FK)(a:Ad)(E E1:XE):TS:=(BB (AA 1))
theorem vU:type_of% (AH (ZC.eq_1 K a E E1) D σ H):=rfl
def SD(K:FK)(a:Ad)(E:XE):TS:=(AQ (Y8 K a E E) (AQ (ZB K a E E) (ZC K a E E)))
def ZD(K:FK)(a:Ad)(E E1:XE):TS:=(DY K (AA 0) (BR (CY (AD (AA 1) AI)) (AN 0) DA (AC (DP K) (B6 (AD (tC .non) AI)) (AA 1)) 1 [2]) "contents")
theorem vV:type_of% (AH (ZD.eq_1 K a E E1) D σ H):=rfl
def ZE(K:FK)(a:Ad)(E E1:XE):TS:=(DY K (AA 0) (AA 2) "width")
theorem vW:type_of% (AH (ZE.eq_1 K a E E1) D σ H):=rfl
def ZF(K:FK)(a:Ad)(E E1:XE):TS:=(DY K (AA 0) (tC (.int 0)) "written")
theorem vX:type_of% (AH (ZF.eq_1 K a E E1) D σ H):=rfl
def SE(K:FK)(a:Ad)(E:XE):TS:=(AQ (ZD K a E E) (AQ (ZE K a E E) (ZF K a E E)))
def ZG(K:FK)(a:Ad)(E E1:XE):TS:=(O1 (a "NoBlock") E (AD (tC (.str "there is no such block")) AI))
theorem vY:type_of% (AH (ZG.eq_1 K a E E1) D σ H):=rfl
def ZH(K:FK)(a:Ad)(E E1:XE):TS:=(B7 (OK (A1 (QM MR HQ (tC (.int 0)) (AA 1) (BQ (CA K) (AD (BV K (AA 0) "contents") AI))))) (ZG K a E E) CK)
theorem vZ:type_of% (AH (ZH.eq_1 K a E E1) D σ H):=rfl
def SF(K:FK)(a:Ad)(E:XE):TS:=(ZH K a E E)
def ZI(K:FK)(a:Ad)(E E1:XE):TS:=(DY K (AA 0) (AA 1) "name_blocks")
theorem v6:type_of% (AH (ZI.eq_1 K a E E1) D σ H):=rfl
def ZJ(K:FK)(a:Ad)(E E1:XE):TS:=(DY K (AA 0) (AA 2) "record_blocks")
theorem v7:type_of% (AH (ZJ.eq_1 K a E E1) D σ H):=rfl
def ZK(K:FK)(a:Ad)(E E1:XE):TS:=(DY K (AA 0) (AA 3) "piece_blocks")
theorem v8:type_of% (AH (ZK.eq_1 K a E E1) D σ H):=rfl
def ZL(K:FK)(a:Ad)(E E1:XE):TS:=(DY K (AA 0) (AA 4) "width")
theorem v9:type_of% (AH (ZL.eq_1 K a E E1) D σ H):=rfl
def SG(K:FK)(a:Ad)(E:XE):TS:=(AQ (ZI K a E E) (AQ (ZJ K a E E) (AQ (ZK K a E E) (ZL K a E E))))
def ZM(K:FK)(a:Ad)(E E1:XE):TS:=(BB (B6 (AD (AC (DP K) (BV K (AA 0) "name_blocks") (BV K (AA 0) "width")) (AD (AC (DP K) (BV K (AA 0) "record_blocks") (BV K (AA 0) "width")) (AD (AC (DP K) (BV K (AA 0) "piece_blocks") (BV K (AA 0) "width")) AI)))))
theorem wA:type_of% (AH (ZM.eq_1 K a E E1) D σ H):=rfl
def SH(K:FK)(a:Ad)(E:XE):TS:=(ZM K a E E)
def ZN(K:FK)(a:Ad)(E E1:XE):TS:=(BB (AC (BC K) (AC (BC K) (BV K (AA 0) "name_blocks") (BV K (AA 0) "record_blocks")) (BV K (AA 0) "piece_blocks")))
theorem wB:type_of% (AH (ZN.eq_1 K a E E1) D σ H):=rfl
def SI(K:FK)(a:Ad)(E:XE):TS:=(ZN K a E E)
def ZO(K:FK)(a:Ad)(E E1:XE):TS:=(BB (B6 (AD (AC (BC K) (AA 1) (AC EU (AA 2) (BV K (AA 0) "width"))) (AD (AC BN (AA 2) (BV K (AA 0) "width")) AI))))
theorem wC:type_of% (AH (ZO.eq_1 K a E E1) D σ H):=rfl
def SJ(K:FK)(a:Ad)(E:XE):TS:=(ZO K a E E)
def ZP(K:FK)(a:Ad)(E E1:XE):TS:=(BB (AC (AK K) (AA 0) (AA 1)))
theorem wD:type_of% (AH (ZP.eq_1 K a E E1) D σ H):=rfl
def ZQ(K:FK)(a:Ad)(E E1:XE):TS:=(B7 (A1 (AC HQ (AA 1) (BQ (CA K) (AD (AA 0) AI)))) (ZP K a E E) CK)
theorem wE:type_of% (AH (ZQ.eq_1 K a E E1) D σ H):=rfl
def ZR(K:FK)(a:Ad)(E E1:XE):TS:=(BB (tC (.int 0)))
theorem wF:type_of% (AH (ZR.eq_1 K a E E1) D σ H):=rfl
def SK(K:FK)(a:Ad)(E:XE):TS:=(AQ (ZQ K a E E) (ZR K a E E))
def ZS(K:FK)(a:Ad)(E E1:XE):TS:=(AU (AC (BC K) (AC BN (AA 0) (tC (.int 920419823))) (tC (.int 5))) (AN 2))
theorem wG:type_of% (AH (ZS.eq_1 K a E E1) D σ H):=rfl
def ZT(K:FK)(a:Ad)(E E1:XE):TS:=(AU (AC (BC K) (AC BN (AC EU (AA 0) (tC (.int 920419823))) (tC (.int 899809363))) (tC (.int 3))) (AN 3))
theorem wH:type_of% (AH (ZT.eq_1 K a E E1) D σ H):=rfl
def ZU(K:FK)(a:Ad)(E E1:XE):TS:=(AU (CB AI) (AN 4))
theorem wI:type_of% (AH (ZU.eq_1 K a E E1) D σ H):=rfl
def ZV(K:FK)(a:Ad)(E E1:XE):TS:=(AU (AC BN (AC (BC K) (AC (DP K) (AA 2) (tC (.int 70001))) (AA 3)) (tC (.int 920419823))) (AN 2))
theorem wJ:type_of% (AH (ZV.eq_1 K a E E1) D σ H):=rfl
def ZW(K:FK)(a:Ad)(E E1:XE):TS:=(AU (AC BN (AC (BC K) (AC (BC K) (AC (DP K) (AA 3) (tC (.int 60013))) (AC (DP K) (AA 2) (AA 2))) (AA 5)) (tC (.int 899809363))) (AN 3))
theorem wK:type_of% (AH (ZW.eq_1 K a E E1) D σ H):=rfl
def ZX(K:FK)(a:Ad)(E E1:XE):TS:=(C6 (ET K "list" HU (AA 4) (AD (AC (BC K) (AA 2) (AA 3)) AI)))
theorem wL:type_of% (AH (ZX.eq_1 K a E E1) D σ H):=rfl
def ZY(K:FK)(a:Ad)(E E1:XE):TS:=(DW (CY (AD (AA 1) AI)) (AN 5) (AQ (ZV K a E E) (AQ (ZW K a E E) (ZX K a E E))))
theorem wM:type_of% (AH (ZY.eq_1 K a E E1) D σ H):=rfl
def ZZ(K:FK)(a:Ad)(E E1:XE):TS:=(BB (AA 4))
theorem wN:type_of% (AH (ZZ.eq_1 K a E E1) D σ H):=rfl
def SL(K:FK)(a:Ad)(E:XE):TS:=(AQ (ZS K a E E) (AQ (ZT K a E E) (AQ (ZU K a E E) (AQ (ZY K a E E) (ZZ K a E E)))))
def Z0(K:FK)(a:Ad)(E E1:XE):TS:=(AU (AC (DP K) (CB (AD (tC (.int 0)) AI)) (BQ (CA K) (AD (AC (AK K) (AA 0) (tC (.int 1))) AI))) (AN 1))
theorem wO:type_of% (AH (Z0.eq_1 K a E E1) D σ H):=rfl
def Z1(K:FK)(a:Ad)(E E1:XE):TS:=(AU (AC (BC K) (AC (AK K) (AA 1) (AC (AK K) (AA 2) (tC (.int 1)))) (tC (.int 1))) (CZ (AA 1) (AC (AK K) (AA 2) (tC (.int 1))) CG))
theorem wP:type_of% (AH (Z1.eq_1 K a E E1) D σ H):=rfl
def Z2(K:FK)(a:Ad)(E E1:XE):TS:=(B7 (A1 (AC GH (AA 2) (tC .non))) (Z1 K a E E) CK)
theorem wQ:type_of% (AH (Z2.eq_1 K a E E1) D σ H):=rfl
def Z3(K:FK)(a:Ad)(E E1:XE):TS:=(DW (C0 K (AC (AK K) (AA 0) (tC (.int 0)))) (AN 2) (Z2 K a E E))
theorem wR:type_of% (AH (Z3.eq_1 K a E E1) D σ H):=rfl
def Z4(K:FK)(a:Ad)(E E1:XE):TS:=(BB (AA 1))
theorem wS:type_of% (AH (Z4.eq_1 K a E E1) D σ H):=rfl
def SM(K:FK)(a:Ad)(E:XE):TS:=(AQ (Z0 K a E E) (AQ (Z3 K a E E) (Z4 K a E E)))
def Z5(K:FK)(a:Ad)(E E1:XE):TS:=(BB (BR (CY (AD (BQ (CA K) (AD (AC (AK K) (AA 0) (tC (.int 0))) AI)) AI)) (AN 0) (A1 (AC EV (AC (AK K) (AC (AK K) (AA 1) (tC (.int 0))) (AA 0)) (tC .non))) (AA 0) 1 [0]))
theorem wT:type_of% (AH (Z5.eq_1 K a E E1) D σ H):=rfl
def SN(K:FK)(a:Ad)(E:XE):TS:=(Z5 K a E E)
def Z6(K:FK)(a:Ad)(E E1:XE):TS:=(BB (BR (CY (AD (BQ (CA K) (AD (AC (AK K) (AA 0) (tC (.int 1))) AI)) AI)) (AN 0) (FO (A1 (AC EV (AC (AK K) (AC (AK K) (AA 1) (tC (.int 1))) (AA 0)) (tC .non))) (A1 (AC EV (AC (AK K) (AC (AK K) (AA 1) (tC (.int 3))) (AA 0)) (tC .non)))) (AA 0) 1 [0]))
theorem wU:type_of% (AH (Z6.eq_1 K a E E1) D σ H):=rfl
def SO(K:FK)(a:Ad)(E:XE):TS:=(Z6 K a E E)
def Z7(K:FK)(a:Ad)(E E1:XE):TS:=(BB (BR (CY (AD (BQ (CA K) (AD (AC (AK K) (AA 0) (tC (.int 2))) AI)) AI)) (AN 0) (FO (A1 (AC EV (AC (AK K) (AC (AK K) (AA 1) (tC (.int 2))) (AA 0)) (tC .non))) (A1 (AC EV (AC (AK K) (AC (AK K) (AA 1) (tC (.int 4))) (AA 0)) (tC .non)))) (AA 0) 1 [0]))
theorem wV:type_of% (AH (Z7.eq_1 K a E E1) D σ H):=rfl
def SQ(K:FK)(a:Ad)(E:XE):TS:=(Z7 K a E E)
def Z8(K:FK)(a:Ad)(E E1:XE):TS:=(BB (BR (C0 K (AA 0)) (AN 0) DA (BQ (IN K) (AD (AA 0) AI)) 1 []))
theorem wW:type_of% (AH (Z8.eq_1 K a E E1) D σ H):=rfl
def SR(K:FK)(a:Ad)(E:XE):TS:=(Z8 K a E E)
def Z9(K:FK)(a:Ad)(E E1:XE):TS:=(AU (BR (C0 K (CJ (a "View") "pieces_named" (HY K a) [] E (AA 0) AI)) (AN 0) (A1 (AC FW (AC (AK K) (BV K (AA 1) "namings") (AA 0)) (tC (.int 1)))) (B6 (AD (tC (.str "shared")) (AD (AA 0) AI))) 1 [0]) (AN 1))
theorem wX:type_of% (AH (Z9.eq_1 K a E E1) D σ H):=rfl
def aA(K:FK)(a:Ad)(E E1:XE):TS:=(AU (BR (C0 K (CJ (a "View") "pieces_named" (HY K a) [] E (AA 0) AI)) (AN 0) (A1 (AC EV (AC (AK K) (BV K (AA 1) "piece_values") (AA 0)) (tC .non))) (B6 (AD (tC (.str "empty")) (AD (AA 0) AI))) 1 [0]) (AN 2))
theorem wY:type_of% (AH (aA.eq_1 K a E E1) D σ H):=rfl
def aB(K:FK)(a:Ad)(E E1:XE):TS:=(AU (BR (C0 K (CJ (a "View") "records_standing" (IW K a) [] E (AA 0) AI)) (AN 0) (A1 (AC HQ (CJ (a "View") "count_of" (IX K a) [] (λ_=>E0) (AA 1) (AD (AA 0) AI)) (AC (AK K) (BV K (AA 1) "leads") (AA 0)))) (B6 (AD (tC (.str "few")) (AD (AA 0) AI))) 1 [0]) (AN 3))
theorem wZ:type_of% (AH (aB.eq_1 K a E E1) D σ H):=rfl
def aC(K:FK)(a:Ad)(E E1:XE):TS:=(BB (AC (BC K) (AC (BC K) (AA 1) (AA 2)) (AA 3)))
theorem xA:type_of% (AH (aC.eq_1 K a E E1) D σ H):=rfl
def SS(K:FK)(a:Ad)(E:XE):TS:=(AQ (Z9 K a E E) (AQ (aA K a E E) (AQ (aB K a E E) (aC K a E E))))
def aD(K:FK)(a:Ad)(E E1:XE):TS:=(AU (BR (GI K (AD (BV K (AA 0) "leads") AI)) (FB K 2 (DL (AN 0) (DL (AN 1) FA))) (A1 (AC FW (AA 1) (tC (.int 0)))) (AA 0) 2 []) (AN 1))
theorem xB:type_of% (AH (aD.eq_1 K a E E1) D σ H):=rfl
def aE(K:FK)(a:Ad)(E E1:XE):TS:=(AU (BR (C0 K (AA 1)) (AN 0) (A1 (AC (CO K) (AC (AK K) (BV K (AA 1) "record_marks") (AA 0)) (tC (.int 1)))) (B6 (AD (tC (.str "free")) (AD (tC (.str "record")) (AD (AA 0) AI)))) 1 [0]) (AN 2))
theorem xC:type_of% (AH (aE.eq_1 K a E E1) D σ H):=rfl
def aF(K:FK)(a:Ad)(E E1:XE):TS:=(AU (BR (C0 K (CJ (a "View") "pieces_named" (HY K a) [] E (AA 0) AI)) (AN 0) (A1 (AC (CO K) (AC (AK K) (BV K (AA 1) "piece_marks") (AA 0)) (tC (.int 1)))) (B6 (AD (tC (.str "free")) (AD (tC (.str "piece")) (AD (AA 0) AI)))) 1 [0]) (AN 3))
theorem xD:type_of% (AH (aF.eq_1 K a E E1) D σ H):=rfl
def aG(K:FK)(a:Ad)(E E1:XE):TS:=(BB (AC (BC K) (AA 2) (AA 3)))
theorem xE:type_of% (AH (aG.eq_1 K a E E1) D σ H):=rfl
def ST(K:FK)(a:Ad)(E:XE):TS:=(AQ (aD K a E E) (AQ (aE K a E E) (AQ (aF K a E E) (aG K a E E))))
def aH(K:FK)(a:Ad)(E E1:XE):TS:=(AU (CB AI) (AN 1))
theorem xF:type_of% (AH (aH.eq_1 K a E E1) D σ H):=rfl
def aI(K:FK)(a:Ad)(E E1:XE):TS:=(AU (CB AI) (AN 2))
theorem xG:type_of% (AH (aI.eq_1 K a E E1) D σ H):=rfl
def aJ(K:FK)(a:Ad)(E E1:XE):TS:=(AU (AC (AK K) (BV K (AA 0) "leads") (AA 3)) (AN 4))
theorem xH:type_of% (AH (aJ.eq_1 K a E E1) D σ H):=rfl
def aK(K:FK)(a:Ad)(E E1:XE):TS:=(C6 (ET K "list" HU (AA 2) (AD (B6 (AD (tC (.str "left")) (AD (tC (.str "record")) (AD (AA 3) AI)))) AI)))
theorem xI:type_of% (AH (aK.eq_1 K a E E1) D σ H):=rfl
def aL(K:FK)(a:Ad)(E E1:XE):TS:=(C6 (ET K "list" HU (AA 1) (AD (B6 (AD (tC (.str "many")) (AD (AA 3) (AD (AA 4) AI)))) AI)))
theorem xJ:type_of% (AH (aL.eq_1 K a E E1) D σ H):=rfl
def aM(K:FK)(a:Ad)(E E1:XE):TS:=(B7 (A1 (AC FW (CJ (a "View") "count_of" (IX K a) [] E (AA 0) (AD (AA 3) AI)) (AA 4))) (aL K a E E) CK)
theorem xK:type_of% (AH (aM.eq_1 K a E E1) D σ H):=rfl
def aN(K:FK)(a:Ad)(E E1:XE):TS:=(B7 (A1 (AC (BM K) (AA 4) (tC (.int 0)))) (aK K a E E) (aM K a E E))
theorem xL:type_of% (AH (aN.eq_1 K a E E1) D σ H):=rfl
def aO(K:FK)(a:Ad)(E E1:XE):TS:=(DW (C0 K (CJ (a "View") "records_standing" (IW K a) [] E (AA 0) AI)) (AN 3) (AQ (aJ K a E E) (aN K a E E)))
theorem xM:type_of% (AH (aO.eq_1 K a E E1) D σ H):=rfl
def aP(K:FK)(a:Ad)(E E1:XE):TS:=(BB (AC (BC K) (AA 1) (AA 2)))
theorem xN:type_of% (AH (aP.eq_1 K a E E1) D σ H):=rfl
def SU(K:FK)(a:Ad)(E:XE):TS:=(AQ (aH K a E E) (AQ (aI K a E E) (AQ (aO K a E E) (aP K a E E))))
def aQ(K:FK)(a:Ad)(E E1:XE):TS:=(C6 (CJ (a "Plank") "ask_for_block" (G4 K a) [] E (AA 0) (AD (AA 1) AI)))
theorem xO:type_of% (AH (aQ.eq_1 K a E E1) D σ H):=rfl
def aR(K:FK)(a:Ad)(E E1:XE):TS:=(BB (BQ (IN K) (AD (AC (AK K) (BV K (AA 0) "contents") (AA 1)) AI)))
theorem xP:type_of% (AH (aR.eq_1 K a E E1) D σ H):=rfl
def SV(K:FK)(a:Ad)(E:XE):TS:=(AQ (aQ K a E E) (aR K a E E))
def aS(K:FK)(a:Ad)(E E1:XE):TS:=(C6 (CJ (a "Plank") "ask_for_block" (G4 K a) [] E (AA 0) (AD (AA 1) AI)))
theorem xQ:type_of% (AH (aS.eq_1 K a E E1) D σ H):=rfl
def aT(K:FK)(a:Ad)(E E1:XE):TS:=(O1 (a "NoBlock") E (AD (tC (.str "the list is not as long as a block")) AI))
theorem xR:type_of% (AH (aT.eq_1 K a E E1) D σ H):=rfl
def aU(K:FK)(a:Ad)(E E1:XE):TS:=(B7 (A1 (AC (CO K) (BQ (CA K) (AD (AA 2) AI)) (BV K (AA 0) "width"))) (aT K a E E) CK)
theorem xS:type_of% (AH (aU.eq_1 K a E E1) D σ H):=rfl
def aV(K:FK)(a:Ad)(E E1:XE):TS:=(AU (BQ (MT K) (AD (AA 2) AI)) (CZ (BV K (AA 0) "contents") (AA 1) CG))
theorem xT:type_of% (AH (aV.eq_1 K a E E1) D σ H):=rfl
def aW(K:FK)(a:Ad)(E E1:XE):TS:=(QT K (AA 0) (tC (.int 1)) MK "written")
theorem xU:type_of% (AH (aW.eq_1 K a E E1) D σ H):=rfl
def SW(K:FK)(a:Ad)(E:XE):TS:=(AQ (aS K a E E) (AQ (aU K a E E) (AQ (aV K a E E) (aW K a E E))))
def aX(K:FK)(a:Ad)(E E1:XE):TS:=(BB (CJ (a "Layout") "place_from" (EX K a) [] E (AA 0) (AD (tC (.int 0)) (AD (AA 1) AI))))
theorem xV:type_of% (AH (aX.eq_1 K a E E1) D σ H):=rfl
def SX(K:FK)(a:Ad)(E:XE):TS:=(aX K a E E)
def aY(K:FK)(a:Ad)(E E1:XE):TS:=(BB (CJ (a "Layout") "place_from" (EX K a) [] E (AA 0) (AD (BV K (AA 0) "name_blocks") (AD (AA 1) AI))))
theorem xW:type_of% (AH (aY.eq_1 K a E E1) D σ H):=rfl
def SY(K:FK)(a:Ad)(E:XE):TS:=(aY K a E E)
def aZ(K:FK)(a:Ad)(E E1:XE):TS:=(BB (CJ (a "Layout") "place_from" (EX K a) [] E (AA 0) (AD (AC (BC K) (BV K (AA 0) "name_blocks") (BV K (AA 0) "record_blocks")) (AD (AA 1) AI))))
theorem xX:type_of% (AH (aZ.eq_1 K a E E1) D σ H):=rfl
def SZ(K:FK)(a:Ad)(E:XE):TS:=(aZ K a E E)
def bA(K:FK)(a:Ad)(E E1:XE):TS:=(BB (CJ (a "Layout") "place_from" (EX K a) [] E (AA 0) (AD (CJ (a "Layout") "blocks_ahead_of_marks" (G5 K a) [] E (AA 0) AI) (AD (AA 1) AI))))
theorem xY:type_of% (AH (bA.eq_1 K a E E1) D σ H):=rfl
def S0(K:FK)(a:Ad)(E:XE):TS:=(bA K a E E)
def bB(K:FK)(a:Ad)(E E1:XE):TS:=(BB (CJ (a "Layout") "place_from" (EX K a) [] E (AA 0) (AD (AC (BC K) (CJ (a "Layout") "blocks_ahead_of_marks" (G5 K a) [] E (AA 0) AI) (BV K (AA 0) "record_blocks")) (AD (AA 1) AI))))
theorem xZ:type_of% (AH (bB.eq_1 K a E E1) D σ H):=rfl
def S1(K:FK)(a:Ad)(E:XE):TS:=(bB K a E E)
def bC(K:FK)(a:Ad)(E E1:XE):TS:=(BB (AC (BC K) (AC (BC K) (CJ (a "Layout") "blocks_ahead_of_marks" (G5 K a) [] E (AA 0) AI) (BV K (AA 0) "record_blocks")) (BV K (AA 0) "piece_blocks")))
theorem x6:type_of% (AH (bC.eq_1 K a E E1) D σ H):=rfl
def S2(K:FK)(a:Ad)(E:XE):TS:=(bC K a E E)
def bD(K:FK)(a:Ad)(E E1:XE):TS:=(AU (tC (.str "abcdefghijklmnopqrstuvwxyz")) (AN 2))
theorem x8:type_of% (AH (bD.eq_1 K a E E1) D σ H):=rfl
def bE(K:FK)(a:Ad)(E E1:XE):TS:=(AU (A3 (E5 K a) [] E (AD (AC EU (AA 0) (tC (.int 2))) (AD (tC (.int 12)) AI))) (AN 3))
theorem x9:type_of% (AH (bE.eq_1 K a E E1) D σ H):=rfl
def bF(K:FK)(a:Ad)(E E1:XE):TS:=(BB (BR (CY (AD (AA 1) AI)) (AN 0) DA (AC (DP K) (AC (AK K) (AA 1) (AC BN (AC (BC K) (AC (AK K) (AA 2) (tC (.int 0))) (AC EU (AA 0) (tC (.int 8)))) (tC (.int 26)))) (AC (BC K) (tC (.int 1)) (AC BN (AA 0) (tC (.int 8))))) 1 [2,3]))
theorem yA:type_of% (AH (bF.eq_1 K a E E1) D σ H):=rfl
def bG(K:FK)(a:Ad)(E E1:XE):TS:=(B7 (A1 (AC (BM K) (AC BN (AA 0) (tC (.int 2))) (tC (.int 1)))) (bF K a E E) CK)
theorem yB:type_of% (AH (bG.eq_1 K a E E1) D σ H):=rfl
def bH(K:FK)(a:Ad)(E E1:XE):TS:=(AU (AC (BC K) (tC (.int 2)) (AC BN (AC (AK K) (AA 3) (tC (.int 0))) (tC (.int 7)))) (AN 4))
theorem yC:type_of% (AH (bH.eq_1 K a E E1) D σ H):=rfl
def bI(K:FK)(a:Ad)(E E1:XE):TS:=(AU (AC BN (AC (AK K) (AA 3) (tC (.int 1))) (AA 4)) (AN 5))
theorem yD:type_of% (AH (bI.eq_1 K a E E1) D σ H):=rfl
def bJ(K:FK)(a:Ad)(E E1:XE):TS:=(AU (AC BN (AC (BC K) (AC (BC K) (AA 5) (tC (.int 1))) (AC BN (AC (AK K) (AA 3) (tC (.int 2))) (AC MS (AA 4) (tC (.int 1))))) (AA 4)) (AN 6))
theorem yE:type_of% (AH (bJ.eq_1 K a E E1) D σ H):=rfl
def bK(K:FK)(a:Ad)(E E1:XE):TS:=(AU (CB AI) (AN 7))
theorem yF:type_of% (AH (bK.eq_1 K a E E1) D σ H):=rfl
def bL(K:FK)(a:Ad)(E E1:XE):TS:=(AU (tC (.str "")) (AN 9))
theorem yG:type_of% (AH (bL.eq_1 K a E E1) D σ H):=rfl
def bM(K:FK)(a:Ad)(E E1:XE):TS:=(AU (AC (BC K) (AC (DP K) (AA 8) (BQ (IP K) (AD (AC (BM K) (AA 10) (AA 5)) AI))) (AC (DP K) (AC EU (AA 8) (tC (.int 26))) (BQ (IP K) (AD (AC (BM K) (AA 10) (AA 6)) AI)))) (AN 11))
theorem yH:type_of% (AH (bM.eq_1 K a E E1) D σ H):=rfl
def bN(K:FK)(a:Ad)(E E1:XE):TS:=(AU (AC (BC K) (AA 9) (AC (AK K) (AA 2) (AC BN (AC (BC K) (AC (AK K) (AA 3) (AC (BC K) (tC (.int 3)) (AA 10))) (AA 11)) (tC (.int 26))))) (AN 9))
theorem yI:type_of% (AH (bN.eq_1 K a E E1) D σ H):=rfl
def bO(K:FK)(a:Ad)(E E1:XE):TS:=(DW (CY (AD (AA 4) AI)) (AN 10) (AQ (bM K a E E) (bN K a E E)))
theorem yJ:type_of% (AH (bO.eq_1 K a E E1) D σ H):=rfl
def bP(K:FK)(a:Ad)(E E1:XE):TS:=(C6 (ET K "list" HU (AA 7) (AD (AA 9) AI)))
theorem yK:type_of% (AH (bP.eq_1 K a E E1) D σ H):=rfl
def bQ(K:FK)(a:Ad)(E E1:XE):TS:=(DW (CY (AD (AA 1) AI)) (AN 8) (AQ (bL K a E E) (AQ (bO K a E E) (bP K a E E))))
theorem yL:type_of% (AH (bQ.eq_1 K a E E1) D σ H):=rfl
def bR(K:FK)(a:Ad)(E E1:XE):TS:=(BB (AA 7))
theorem yM:type_of% (AH (bR.eq_1 K a E E1) D σ H):=rfl
def S3(K:FK)(a:Ad)(E:XE):TS:=(AQ (bD K a E E) (AQ (bE K a E E) (AQ (bG K a E E) (AQ (bH K a E E) (AQ (bI K a E E) (AQ (bJ K a E E) (AQ (bK K a E E) (AQ (bQ K a E E) (bR K a E E)))))))))
def bS(K:FK)(a:Ad)(E E1:XE):TS:=(AU (tC (.str " !\"#$&'()*+,-./0123456789:;<=>?@ABCDEFGHIJKLMNOPQRSTUVWXYZ[\\]^_`")) (AN 1))
theorem yN:type_of% (AH (bS.eq_1 K a E E1) D σ H):=rfl
def bT(K:FK)(a:Ad)(E E1:XE):TS:=(AU (AC (BC K) (AA 1) (tC (.str "abcdefghijklmnopqrstuvwxyz{|}~"))) (AN 1))
theorem yO:type_of% (AH (bT.eq_1 K a E E1) D σ H):=rfl
def bU(K:FK)(a:Ad)(E E1:XE):TS:=(AU (A3 (E5 K a) [] E (AD (AA 0) (AD (tC (.int 3)) AI))) (AN 2))
theorem yP:type_of% (AH (bU.eq_1 K a E E1) D σ H):=rfl
def bV(K:FK)(a:Ad)(E E1:XE):TS:=(AU (AC (BC K) (tC (.int 1)) (AC BN (AC (AK K) (AA 2) (tC (.int 0))) (tC (.int 6)))) (AN 3))
theorem yQ:type_of% (AH (bV.eq_1 K a E E1) D σ H):=rfl
def bW(K:FK)(a:Ad)(E E1:XE):TS:=(AU (tC (.int 40)) (AN 3))
theorem yR:type_of% (AH (bW.eq_1 K a E E1) D σ H):=rfl
def bX(K:FK)(a:Ad)(E E1:XE):TS:=(B7 (A1 (AC (BM K) (AC BN (AC EU (AC (AK K) (AA 2) (tC (.int 0))) (tC (.int 6))) (tC (.int 8))) (tC (.int 0)))) (bW K a E E) CK)
theorem yS:type_of% (AH (bX.eq_1 K a E E1) D σ H):=rfl
def S4(K:FK)(a:Ad)(E E1:XE):TS:=(BB (ET K "str" (YC K) (tC (.str "")) (AD (BR (CY (AD (AA 3) AI)) (AN 0) DA (AC (AK K) (AA 1) (AC BN (AC (BC K) (AC (AK K) (AA 2) (tC (.int 1))) (AC (DP K) (AA 0) (AC (AK K) (AA 2) (tC (.int 2))))) (tC (.int 94)))) 1 [1,2]) AI)))
theorem yT:type_of% (AH (S4.eq_1 K a E E1) D σ H):=rfl
def S5(K:FK)(a:Ad)(E:XE):TS:=(AQ (bS K a E E) (AQ (bT K a E E) (AQ (bU K a E E) (AQ (bV K a E E) (AQ (bX K a E E) (S4 K a E E))))))
def bY(K:FK)(a:Ad)(E E1:XE):TS:=(AU (A3 (E5 K a) [] E (AD (AC EU (AA 0) (tC (.int 48))) (AD (tC (.int 3)) AI))) (AN 1))
theorem yU:type_of% (AH (bY.eq_1 K a E E1) D σ H):=rfl
def bZ(K:FK)(a:Ad)(E E1:XE):TS:=(AU (QF (A1 (AC (BM K) (AC BN (AC EU (AA 0) (tC (.int 6))) (tC (.int 8))) (tC (.int 3)))) (tC (.int 6)) (tC (.int 3))) (AN 2))
theorem yV:type_of% (AH (bZ.eq_1 K a E E1) D σ H):=rfl
def S6(K:FK)(a:Ad)(E E1:XE):TS:=(BB (B6 (AD (AC (BC K) (tC (.int 1)) (AC BN (AC (AK K) (AA 1) (tC (.int 0))) (AA 2))) (AD (AC (BC K) (tC (.int 1)) (AC BN (AC (AK K) (AA 1) (tC (.int 1))) (AA 2))) (AD (AC (BC K) (tC (.int 1)) (AC BN (AC (AK K) (AA 1) (tC (.int 2))) (AA 2))) (AD (AC (BC K) (tC (.int 1)) (AC BN (AA 0) (tC (.int 6)))) AI))))))
theorem yW:type_of% (AH (S6.eq_1 K a E E1) D σ H):=rfl
def S7(K:FK)(a:Ad)(E:XE):TS:=(AQ (bY K a E E) (AQ (bZ K a E E) (S6 K a E E)))
def b0(K:FK)(a:Ad)(E E1:XE):TS:=(AU (A3 (E6 K a) [] E (AD (AA 0) AI)) (AN 4))
theorem yX:type_of% (AH (b0.eq_1 K a E E1) D σ H):=rfl
def b6(K:FK)(a:Ad)(E E1:XE):TS:=(AU (AC (AK K) (AA 1) (AC MS (BQ (CA K) (AD (AC (AK K) (AA 0) (tC (.int 0))) AI)) (BQ (CA K) (AD (AA 4) AI)))) (AN 5))
theorem yY:type_of% (AH (b6.eq_1 K a E E1) D σ H):=rfl
def b7(K:FK)(a:Ad)(E E1:XE):TS:=(AU (B6 (AD (AA 5) (AD (AA 2) AI))) (CZ (AC (AK K) (AA 0) (tC (.int 0))) (AC (AK K) (AA 4) (AC BN (AA 3) (BQ (CA K) (AD (AA 4) AI)))) CG))
theorem yZ:type_of% (AH (b7.eq_1 K a E E1) D σ H):=rfl
def S8(K:FK)(a:Ad)(E:XE):TS:=(AQ (b0 K a E E) (AQ (b6 K a E E) (b7 K a E E)))
def b8(K:FK)(a:Ad)(E E1:XE):TS:=(AU (A3 (G8 K a) [] E (AD (AA 0) AI)) (AN 1))
theorem y7:type_of% (AH (b8.eq_1 K a E E1) D σ H):=rfl
def b9(K:FK)(a:Ad)(E E1:XE):TS:=(AU (BR (CY (AD (BQ (CA K) (AD (AA 1) AI)) AI)) (AN 0) (A1 (AC GH (AC (AK K) (AC (AK K) (AA 1) (tC (.int 1))) (AA 0)) (tC .non))) (AA 0) 1 [0]) (AN 2))
theorem zA:type_of% (AH (b9.eq_1 K a E E1) D σ H):=rfl
def cA(K:FK)(a:Ad)(E E1:XE):TS:=(AU (BR (C0 K (AA 2)) (AN 0) (FO (A1 (AC FW (AC (AK K) (AA 1) (AA 0)) (tC (.int 0)))) (A1 (AC FW (AC (AK K) (AC (AK K) (AC (AK K) (AA 2) (tC (.int 1))) (AA 0)) (tC (.int 0))) (AC (AK K) (AA 1) (AA 0))))) (B6 (AD (tC (.str "many")) (AD (AA 0) (AD (AC (AK K) (AA 1) (AA 0)) AI)))) 1 [1,0]) (AN 3))
theorem zB:type_of% (AH (cA.eq_1 K a E E1) D σ H):=rfl
def cB(K:FK)(a:Ad)(E E1:XE):TS:=(AU (AC (BC K) (AA 3) (BR (C0 K (AA 2)) (AN 0) (A1 (AC (BM K) (AC (AK K) (AA 1) (AA 0)) (tC (.int 0)))) (B6 (AD (tC (.str "left")) (AD (tC (.str "record")) (AD (AA 0) AI)))) 1 [1])) (AN 3))
theorem zC:type_of% (AH (cB.eq_1 K a E E1) D σ H):=rfl
def cC(K:FK)(a:Ad)(E E1:XE):TS:=(AU (AC (BC K) (AA 3) (BR (C0 K (BQ (YD K) (AD (AC (AK K) (AA 0) (tC (.int 5))) AI))) (AN 0) DA (B6 (AD (tC (.str "left")) (AD (tC (.str "piece")) (AD (AA 0) AI)))) 1 [])) (AN 3))
theorem zD:type_of% (AH (cC.eq_1 K a E E1) D σ H):=rfl
def cD(K:FK)(a:Ad)(E E1:XE):TS:=(BB (AC (BC K) (AA 3) (BR (CY (AD (BQ (CA K) (AD (AA 1) AI)) AI)) (AN 0) (FO (A1 (AC (BM K) (AC (AK K) (AC (AK K) (AA 1) (tC (.int 3))) (AA 0)) (tC (.int 1)))) (A1 (AC EV (AC (AK K) (AC (AK K) (AA 1) (tC (.int 1))) (AA 0)) (tC .non)))) (B6 (AD (tC (.str "marked")) (AD (AA 0) AI))) 1 [0])))
theorem zE:type_of% (AH (cD.eq_1 K a E E1) D σ H):=rfl
def S9(K:FK)(a:Ad)(E:XE):TS:=(AQ (b8 K a E E) (AQ (b9 K a E E) (AQ (cA K a E E) (AQ (cB K a E E) (AQ (cC K a E E) (cD K a E E))))))
def cE(K:FK)(a:Ad)(E E1:XE):TS:=(AU (A3 (E6 K a) [] E (AD (AA 0) AI)) (AN 3))
theorem zF:type_of% (AH (cE.eq_1 K a E E1) D σ H):=rfl
def cF(K:FK)(a:Ad)(E E1:XE):TS:=(AU (BR (CY (AD (BQ (CA K) (AD (AC (AK K) (AA 0) (tC (.int 1))) AI)) AI)) (AN 0) (A1 (AC EV (AC (AK K) (AC (AK K) (AA 1) (tC (.int 1))) (AA 0)) (tC .non))) (AA 0) 1 [0]) (AN 4))
theorem zG:type_of% (AH (cF.eq_1 K a E E1) D σ H):=rfl
def cG(K:FK)(a:Ad)(E E1:XE):TS:=(BB (tC .non))
theorem cH:type_of% (AH (cG.eq_1 K a E E1) D σ H):=rfl
def cI(K:FK)(a:Ad)(E E1:XE):TS:=(B7 (KE (A1 (AC (BM K) (AA 3) (CB AI))) (A1 (AC (BM K) (AA 4) (CB AI)))) (cG K a E E) CK)
theorem zH:type_of% (AH (cI.eq_1 K a E E1) D σ H):=rfl
def cJ(K:FK)(a:Ad)(E E1:XE):TS:=(AU (AC (AK K) (AA 3) (AC BN (AC (AK K) (AA 2) (tC (.int 1))) (BQ (CA K) (AD (AA 3) AI)))) (AN 5))
theorem zI:type_of% (AH (cJ.eq_1 K a E E1) D σ H):=rfl
def cK(K:FK)(a:Ad)(E E1:XE):TS:=(AU (AC (AK K) (AA 4) (AC BN (AC (AK K) (AA 2) (tC (.int 2))) (BQ (CA K) (AD (AA 4) AI)))) (AN 6))
theorem zJ:type_of% (AH (cK.eq_1 K a E E1) D σ H):=rfl
def cL(K:FK)(a:Ad)(E E1:XE):TS:=(AU (B6 (AD (AC (AK K) (AA 1) (AC MS (BQ (CA K) (AD (AC (AK K) (AA 0) (tC (.int 0))) AI)) (BQ (CA K) (AD (AA 3) AI)))) (AD (AA 6) AI))) (CZ (AC (AK K) (AA 0) (tC (.int 0))) (AA 5) CG))
theorem zK:type_of% (AH (cL.eq_1 K a E E1) D σ H):=rfl
def cM(K:FK)(a:Ad)(E E1:XE):TS:=(AU (tC (.int 1)) (CZ (AC (AK K) (AA 0) (tC (.int 3))) (AA 6) CG))
theorem zL:type_of% (AH (cM.eq_1 K a E E1) D σ H):=rfl
def cN(K:FK)(a:Ad)(E E1:XE):TS:=(BB (B6 (AD (tC (.str "lost")) (AD (AA 5) AI))))
theorem zM:type_of% (AH (cN.eq_1 K a E E1) D σ H):=rfl
def TB(K:FK)(a:Ad)(E:XE):TS:=(AQ (cE K a E E) (AQ (cF K a E E) (AQ (cI K a E E) (AQ (cJ K a E E) (AQ (cK K a E E) (AQ (cL K a E E) (AQ (cM K a E E) (cN K a E E))))))))
def cO(K:FK)(a:Ad)(E E1:XE):TS:=(BB (AC (BC K) (AC (BC K) (A3 (NC K a) [] E (AD (AA 0) AI)) (A3 (ND K a) [] E (AD (AA 0) AI))) (A3 (NE K a) [] E (AD (AA 0) AI))))
theorem zN:type_of% (AH (cO.eq_1 K a E E1) D σ H):=rfl
def TC(K:FK)(a:Ad)(E:XE):TS:=(cO K a E E)
def cP(K:FK)(a:Ad)(E E1:XE):TS:=(BB (AC (BC K) (AC (BC K) (A3 (NF K a) [] E (AD (AA 0) AI)) (A3 (NG K a) [] E (AD (AA 0) AI))) (A3 (NH K a) [] E (AD (AA 0) AI))))
theorem zO:type_of% (AH (cP.eq_1 K a E E1) D σ H):=rfl
def TD(K:FK)(a:Ad)(E:XE):TS:=(cP K a E E)
def cQ(K:FK)(a:Ad)(E E1:XE):TS:=(BB (BR (C0 K (AA 1)) (FB K 2 (DL (AN 0) (DL (AN 1) FA))) DA (AC (AK K) (CJ (a "Plank") "read" (MX K a) [] (λ_=>E0) (AA 2) (AD (AA 0) AI)) (AA 1)) 2 [0]))
theorem zP:type_of% (AH (cQ.eq_1 K a E E1) D σ H):=rfl
def TF(K:FK)(a:Ad)(E:XE):TS:=(cQ K a E E)
def cR(K:FK)(a:Ad)(E E1:XE):TS:=(BB (IJ (a "Plank") (MW K a) [] E (AD (CJ (a "Layout") "blocks" (M7 K a) [] E (AA 0) AI) (AD (BV K (AA 0) "width") AI))))
theorem zQ:type_of% (AH (cR.eq_1 K a E E1) D σ H):=rfl
def TJ(K:FK)(a:Ad)(E:XE):TS:=(cR K a E E)
def cS(K:FK)(a:Ad)(E E1:XE):TS:=(AU (CB AI) (AN 3))
theorem zR:type_of% (AH (cS.eq_1 K a E E1) D σ H):=rfl
def cT(K:FK)(a:Ad)(E E1:XE):TS:=(AU (A3 (JD K a) [] E (AD (AA 0) AI)) (AN 5))
theorem zS:type_of% (AH (cT.eq_1 K a E E1) D σ H):=rfl
def cU(K:FK)(a:Ad)(E E1:XE):TS:=(AU (AC (AK K) (AA 5) (AC BN (AC (AK K) (AA 1) (AA 4)) (BQ (CA K) (AD (AA 5) AI)))) (AN 6))
theorem zT:type_of% (AH (cU.eq_1 K a E E1) D σ H):=rfl
def cV(K:FK)(a:Ad)(E E1:XE):TS:=(AU (A3 (JB K a) [] E (AD (AC EU (AC (AK K) (AA 1) (AA 4)) (tC (.int 7))) AI)) (CZ (AC (AK K) (AA 0) (tC (.int 2))) (AA 6) CG))
theorem zU:type_of% (AH (cV.eq_1 K a E E1) D σ H):=rfl
def cW(K:FK)(a:Ad)(E E1:XE):TS:=(AU (tC (.int 1)) (CZ (AC (AK K) (AA 0) (tC (.int 4))) (AA 6) CG))
theorem zV:type_of% (AH (cW.eq_1 K a E E1) D σ H):=rfl
def cX(K:FK)(a:Ad)(E E1:XE):TS:=(C6 (ET K "list" HU (AA 3) (AD (AA 6) AI)))
theorem zW:type_of% (AH (cX.eq_1 K a E E1) D σ H):=rfl
def cY(K:FK)(a:Ad)(E E1:XE):TS:=(B7 (A1 (AC (CO K) (AA 5) (CB AI))) (AQ (cU K a E E) (AQ (cV K a E E) (AQ (cW K a E E) (cX K a E E)))) CK)
theorem zX:type_of% (AH (cY.eq_1 K a E E1) D σ H):=rfl
def cZ(K:FK)(a:Ad)(E E1:XE):TS:=(DW (CY (AD (AA 2) AI)) (AN 4) (AQ (cT K a E E) (cY K a E E)))
theorem zY:type_of% (AH (cZ.eq_1 K a E E1) D σ H):=rfl
def c5(K:FK)(a:Ad)(E E1:XE):TS:=(BB (BQ (MT K) (AD (AA 3) AI)))
theorem zZ:type_of% (AH (c5.eq_1 K a E E1) D σ H):=rfl
def TK(K:FK)(a:Ad)(E:XE):TS:=(AQ (cS K a E E) (AQ (cZ K a E E) (c5 K a E E)))
def c7(K:FK)(a:Ad)(E E1:XE):TS:=(AU (A3 (G8 K a) [] E (AD (AA 0) AI)) (AN 3))
theorem z0:type_of% (AH (c7.eq_1 K a E E1) D σ H):=rfl
def c8(K:FK)(a:Ad)(E E1:XE):TS:=(AU (BR (CY (AD (BQ (CA K) (AD (AA 3) AI)) AI)) (AN 0) (A1 (AC FW (AC (AK K) (AA 1) (AA 0)) (tC (.int 0)))) (AA 0) 1 [3]) (AN 4))
theorem z6:type_of% (AH (c8.eq_1 K a E E1) D σ H):=rfl
def c9(K:FK)(a:Ad)(E E1:XE):TS:=(AU (AC (AK K) (AA 4) (AC BN (AC (AK K) (AA 2) (tC (.int 0))) (BQ (CA K) (AD (AA 4) AI)))) (AN 5))
theorem z7:type_of% (AH (c9.eq_1 K a E E1) D σ H):=rfl
def dA(K:FK)(a:Ad)(E E1:XE):TS:=(AU (B6 (AD (AC (BC K) (AC (AK K) (AC (AK K) (AC (AK K) (AA 0) (tC (.int 1))) (AA 5)) (tC (.int 0))) (tC (.int 1))) (AD (AC (AK K) (AC (AK K) (AC (AK K) (AA 0) (tC (.int 1))) (AA 5)) (tC (.int 1))) AI))) (CZ (AC (AK K) (AA 0) (tC (.int 1))) (AA 5) CG))
theorem z8:type_of% (AH (dA.eq_1 K a E E1) D σ H):=rfl
def dB(K:FK)(a:Ad)(E E1:XE):TS:=(C6 (A3 (JE K a) [] E (AD (AA 0) (AD (AA 1) (AD (AA 5) (AD (AC (AK K) (AA 2) (tC (.int 1))) AI))))))
theorem z9:type_of% (AH (dB.eq_1 K a E E1) D σ H):=rfl
def dC(K:FK)(a:Ad)(E E1:XE):TS:=(B7 (FO (A1 (AC (CO K) (AA 4) (CB AI))) (A1 (AC (CO K) (A3 (E6 K a) [] E (AD (AA 0) AI)) (CB AI)))) (AQ (c9 K a E E) (AQ (dA K a E E) (dB K a E E))) CK)
theorem Ab:type_of% (AH (dC.eq_1 K a E E1) D σ H):=rfl
def TM(K:FK)(a:Ad)(E:XE):TS:=(AQ (c7 K a E E) (AQ (c8 K a E E) (dC K a E E)))
def dD(K:FK)(a:Ad)(E E1:XE):TS:=(AU (A3 (JC K a) [] E (AD (AA 0) AI)) (AN 3))
theorem Ac:type_of% (AH (dD.eq_1 K a E E1) D σ H):=rfl
def dE(K:FK)(a:Ad)(E E1:XE):TS:=(AU (A3 (JD K a) [] E (AD (AA 0) AI)) (AN 4))
theorem Ag:type_of% (AH (dE.eq_1 K a E E1) D σ H):=rfl
def dF(K:FK)(a:Ad)(E E1:XE):TS:=(AU (tC (.int 1)) (CZ (AC (AK K) (AA 0) (tC (.int 3))) (AC (AK K) (AA 3) (AC BN (AC (AK K) (AA 2) (tC (.int 0))) (BQ (CA K) (AD (AA 3) AI)))) CG))
theorem Ah:type_of% (AH (dF.eq_1 K a E E1) D σ H):=rfl
def dG(K:FK)(a:Ad)(E E1:XE):TS:=(B7 (FO (A1 (AC (BM K) (AA 1) (tC (.int 6)))) (A1 (AC (CO K) (AA 3) (CB AI)))) (dF K a E E) CK)
theorem Aj:type_of% (AH (dG.eq_1 K a E E1) D σ H):=rfl
def dH(K:FK)(a:Ad)(E E1:XE):TS:=(AU (AC (AK K) (AA 4) (AC BN (AC (AK K) (AA 2) (tC (.int 0))) (BQ (CA K) (AD (AA 4) AI)))) (AN 5))
theorem Ak:type_of% (AH (dH.eq_1 K a E E1) D σ H):=rfl
def dI(K:FK)(a:Ad)(E E1:XE):TS:=(AU (tC (.int 1)) (CZ (AC (AK K) (AA 0) (tC (.int 4))) (AA 5) CG))
theorem Al:type_of% (AH (dI.eq_1 K a E E1) D σ H):=rfl
def dJ(K:FK)(a:Ad)(E E1:XE):TS:=(C6 (ET K "list" HU (AC (AK K) (AA 0) (tC (.int 5))) (AD (AA 5) AI)))
theorem Am:type_of% (AH (dJ.eq_1 K a E E1) D σ H):=rfl
def TN(K:FK)(a:Ad)(E E1:XE):TS:=(B7 (FO (A1 (AC (BM K) (AA 1) (tC (.int 5)))) (A1 (AC (CO K) (AA 4) (CB AI)))) (AQ (dH K a E E) (AQ (dI K a E E) (dJ K a E E))) CK)
theorem dM:type_of% (AH (TN.eq_1 K a E E1) D σ H):=rfl
def dN(K:FK)(a:Ad)(E E1:XE):TS:=(AU (AC (AK K) (AA 4) (AC BN (AC (AK K) (AA 2) (tC (.int 0))) (BQ (CA K) (AD (AA 4) AI)))) (AN 5))
theorem Ap:type_of% (AH (dN.eq_1 K a E E1) D σ H):=rfl
def dO(K:FK)(a:Ad)(E E1:XE):TS:=(AU (A3 (JB K a) [] E (AD (AC (AK K) (AA 2) (tC (.int 1))) AI)) (CZ (AC (AK K) (AA 0) (tC (.int 2))) (AA 5) CG))
theorem Aq:type_of% (AH (dO.eq_1 K a E E1) D σ H):=rfl
def dP(K:FK)(a:Ad)(E E1:XE):TS:=(AU (AC (AK K) (CB (AD (tC (.int 0)) (AD (tC .non) AI))) (AC BN (AC (AK K) (AA 2) (tC (.int 2))) (tC (.int 2)))) (CZ (AC (AK K) (AA 0) (tC (.int 4))) (AA 5) CG))
theorem Av:type_of% (AH (dP.eq_1 K a E E1) D σ H):=rfl
def NV(K:FK)(a:Ad)(E E1:XE):TS:=(B7 (FO (A1 (AC (BM K) (AA 1) (tC (.int 7)))) (A1 (AC (CO K) (AA 4) (CB AI)))) (AQ (dN K a E E) (AQ (dO K a E E) (dP K a E E))) CK)
theorem dQ:type_of% (AH (NV.eq_1 K a E E1) D σ H):=rfl
def TQ(K:FK)(a:Ad)(E:XE):TS:=(AQ (dD K a E E) (AQ (dE K a E E) (AQ (dG K a E E) (AQ (TN K a E E) (NV K a E E)))))
def dR(K:FK)(a:Ad)(E E1:XE):TS:=(AU (A3 (E6 K a) [] E (AD (AA 0) AI)) (AN 3))
theorem Aw:type_of% (AH (dR.eq_1 K a E E1) D σ H):=rfl
def dU(K:FK)(a:Ad)(E E1:XE):TS:=(AU (BR (CY (AD (BQ (CA K) (AD (AC (AK K) (AA 0) (tC (.int 0))) AI)) AI)) (AN 0) (A1 (AC GH (AC (AK K) (AC (AK K) (AA 1) (tC (.int 0))) (AA 0)) (tC .non))) (AA 0) 1 [0]) (AN 4))
theorem Ax:type_of% (AH (dU.eq_1 K a E E1) D σ H):=rfl
def dW(K:FK)(a:Ad)(E E1:XE):TS:=(BB (A3 (ER K a) [] E (AD (AA 0) (AD (AA 1) (AD (AA 2) AI)))))
theorem dX:type_of% (AH (dW.eq_1 K a E E1) D σ H):=rfl
def dY(K:FK)(a:Ad)(E E1:XE):TS:=(B7 (KE (A1 (AC (BM K) (AA 3) (CB AI))) (A1 (AC (BM K) (AA 4) (CB AI)))) (dW K a E E) CK)
theorem Ay:type_of% (AH (dY.eq_1 K a E E1) D σ H):=rfl
def dZ(K:FK)(a:Ad)(E E1:XE):TS:=(AU (AC (AK K) (AA 3) (AC BN (AC (AK K) (AA 2) (tC (.int 1))) (BQ (CA K) (AD (AA 3) AI)))) (AN 5))
theorem Az:type_of% (AH (dZ.eq_1 K a E E1) D σ H):=rfl
def d0(K:FK)(a:Ad)(E E1:XE):TS:=(AU (AC (AK K) (AA 4) (AC BN (AC (AK K) (AA 2) (tC (.int 2))) (BQ (CA K) (AD (AA 4) AI)))) (AN 6))
theorem Bb:type_of% (AH (d0.eq_1 K a E E1) D σ H):=rfl
def d6(K:FK)(a:Ad)(E E1:XE):TS:=(AU (AC (AK K) (AC (AK K) (AC (AK K) (AA 0) (tC (.int 0))) (AA 6)) (tC (.int 1))) (AN 7))
theorem Bc:type_of% (AH (d6.eq_1 K a E E1) D σ H):=rfl
def d7(K:FK)(a:Ad)(E E1:XE):TS:=(AU (AC (AK K) (AC (AK K) (AA 0) (tC (.int 0))) (AA 6)) (CZ (AC (AK K) (AA 0) (tC (.int 0))) (AA 5) CG))
theorem Bd:type_of% (AH (d7.eq_1 K a E E1) D σ H):=rfl
def d8(K:FK)(a:Ad)(E E1:XE):TS:=(AU (B6 (AD (AC (BC K) (AC (AK K) (AC (AK K) (AC (AK K) (AA 0) (tC (.int 1))) (AA 7)) (tC (.int 0))) (tC (.int 1))) (AD (AC (AK K) (AC (AK K) (AC (AK K) (AA 0) (tC (.int 1))) (AA 7)) (tC (.int 1))) AI))) (CZ (AC (AK K) (AA 0) (tC (.int 1))) (AA 7) CG))
theorem Bg:type_of% (AH (d8.eq_1 K a E E1) D σ H):=rfl
def d9(K:FK)(a:Ad)(E E1:XE):TS:=(BB (B6 (AD (tC (.str "twice")) (AD (BQ (RM K) (AD (AA 6) (AD (AA 5) AI))) AI))))
theorem Bh:type_of% (AH (d9.eq_1 K a E E1) D σ H):=rfl
def TR(K:FK)(a:Ad)(E:XE):TS:=(AQ (dR K a E E) (AQ (dU K a E E) (AQ (dY K a E E) (AQ (dZ K a E E) (AQ (d0 K a E E) (AQ (d6 K a E E) (AQ (d7 K a E E) (AQ (d8 K a E E) (d9 K a E E)))))))))
def eA(K:FK)(a:Ad)(E E1:XE):TS:=(AU (BR (CY (AD (BQ (CA K) (AD (AC (AK K) (AA 0) (tC (.int 1))) AI)) AI)) (AN 0) (A1 (AC GH (AC (AK K) (AC (AK K) (AA 1) (tC (.int 1))) (AA 0)) (tC .non))) (AA 0) 1 [0]) (AN 3))
theorem Bj:type_of% (AH (eA.eq_1 K a E E1) D σ H):=rfl
def eB(K:FK)(a:Ad)(E E1:XE):TS:=(AU (CB AI) (AN 4))
theorem Bk:type_of% (AH (eB.eq_1 K a E E1) D σ H):=rfl
def eC(K:FK)(a:Ad)(E E1:XE):TS:=(AU (AC (BC K) (AA 4) (BQ (IN K) (AD (AC (AK K) (AC (AK K) (AC (AK K) (AA 0) (tC (.int 1))) (AA 5)) (tC (.int 1))) AI))) (AN 4))
theorem Bl:type_of% (AH (eC.eq_1 K a E E1) D σ H):=rfl
def eD(K:FK)(a:Ad)(E E1:XE):TS:=(DW (C0 K (AA 3)) (AN 5) (eC K a E E))
theorem Bm:type_of% (AH (eD.eq_1 K a E E1) D σ H):=rfl
def eE(K:FK)(a:Ad)(E E1:XE):TS:=(BB (A3 (ER K a) [] E (AD (AA 0) (AD (AA 1) (AD (AA 2) AI)))))
theorem Bp:type_of% (AH (eE.eq_1 K a E E1) D σ H):=rfl
def eF(K:FK)(a:Ad)(E E1:XE):TS:=(B7 (A1 (AC (BM K) (AA 4) (CB AI))) (eE K a E E) CK)
theorem Bq:type_of% (AH (eF.eq_1 K a E E1) D σ H):=rfl
def eG(K:FK)(a:Ad)(E E1:XE):TS:=(AU (AC (AK K) (AA 4) (AC BN (AC (AK K) (AA 2) (tC (.int 1))) (BQ (CA K) (AD (AA 4) AI)))) (AN 6))
theorem Bv:type_of% (AH (eG.eq_1 K a E E1) D σ H):=rfl
def eI(K:FK)(a:Ad)(E E1:XE):TS:=(AU (AC (AK K) (AA 3) (AC BN (AC (AK K) (AA 2) (tC (.int 2))) (BQ (CA K) (AD (AA 3) AI)))) (AN 5))
theorem Bw:type_of% (AH (eI.eq_1 K a E E1) D σ H):=rfl
def eJ(K:FK)(a:Ad)(E E1:XE):TS:=(AU (B6 (AD (AC (AK K) (AC (AK K) (AC (AK K) (AA 0) (tC (.int 1))) (AA 5)) (tC (.int 0))) (AD (AC (BC K) (AC (AK K) (AC (AK K) (AC (AK K) (AA 0) (tC (.int 1))) (AA 5)) (tC (.int 1))) (B6 (AD (AA 6) AI))) AI))) (CZ (AC (AK K) (AA 0) (tC (.int 1))) (AA 5) CG))
theorem Bx:type_of% (AH (eJ.eq_1 K a E E1) D σ H):=rfl
def eK(K:FK)(a:Ad)(E E1:XE):TS:=(BB (B6 (AD (tC (.str "shared")) (AD (AA 6) AI))))
theorem By:type_of% (AH (eK.eq_1 K a E E1) D σ H):=rfl
def eL(K:FK)(a:Ad)(E E1:XE):TS:=(B7 (A1 (AC (BM K) (AC BN (AC (AK K) (AA 2) (tC (.int 0))) (tC (.int 7))) (tC (.int 2)))) (AQ (eI K a E E) (AQ (eJ K a E E) (eK K a E E))) CK)
theorem Bz:type_of% (AH (eL.eq_1 K a E E1) D σ H):=rfl
def eM(K:FK)(a:Ad)(E E1:XE):TS:=(AU (tC .non) (CZ (AC (AK K) (AA 0) (tC (.int 2))) (AA 6) CG))
theorem Cb:type_of% (AH (eM.eq_1 K a E E1) D σ H):=rfl
def eN(K:FK)(a:Ad)(E E1:XE):TS:=(BB (B6 (AD (tC (.str "empty")) (AD (AA 6) AI))))
theorem Cc:type_of% (AH (eN.eq_1 K a E E1) D σ H):=rfl
def eO(K:FK)(a:Ad)(E E1:XE):TS:=(B7 (A1 (AC (BM K) (AC BN (AC (AK K) (AA 2) (tC (.int 0))) (tC (.int 7))) (tC (.int 3)))) (AQ (eM K a E E) (eN K a E E)) CK)
theorem Cd:type_of% (AH (eO.eq_1 K a E E1) D σ H):=rfl
def eP(K:FK)(a:Ad)(E E1:XE):TS:=(AU (AC (AK K) (CB (AD (tC (.int 0)) (AD (tC .non) AI))) (AC BN (AC (AK K) (AA 2) (tC (.int 2))) (tC (.int 2)))) (CZ (AC (AK K) (AA 0) (tC (.int 4))) (AA 6) CG))
theorem Cg:type_of% (AH (eP.eq_1 K a E E1) D σ H):=rfl
def eQ(K:FK)(a:Ad)(E E1:XE):TS:=(BB (B6 (AD (tC (.str "free")) (AD (tC (.str "piece")) (AD (AA 6) AI)))))
theorem Cj:type_of% (AH (eQ.eq_1 K a E E1) D σ H):=rfl
def TU(K:FK)(a:Ad)(E:XE):TS:=(AQ (eA K a E E) (AQ (eB K a E E) (AQ (eD K a E E) (AQ (eF K a E E) (AQ (eG K a E E) (AQ (eL K a E E) (AQ (eO K a E E) (AQ (eP K a E E) (eQ K a E E)))))))))
def eR(K:FK)(a:Ad)(E E1:XE):TS:=(AU (A3 (G8 K a) [] E (AD (AA 0) AI)) (AN 3))
theorem Ck:type_of% (AH (eR.eq_1 K a E E1) D σ H):=rfl
def eS(K:FK)(a:Ad)(E E1:XE):TS:=(AU (AC (BC K) (tC (.int 1)) (BQ (IP K) (AD (AC (BM K) (AC BN (AC (AK K) (AA 2) (tC (.int 0))) (tC (.int 7))) (tC (.int 4))) AI))) (AN 4))
theorem Cl:type_of% (AH (eS.eq_1 K a E E1) D σ H):=rfl
def eU(K:FK)(a:Ad)(E E1:XE):TS:=(AU (BR (CY (AD (BQ (CA K) (AD (AA 3) AI)) AI)) (AN 0) (A1 (AC O3 (AC (AK K) (AA 1) (AA 0)) (AA 2))) (AA 0) 1 [3,4]) (AN 5))
theorem Cm:type_of% (AH (eU.eq_1 K a E E1) D σ H):=rfl
def eV(K:FK)(a:Ad)(E E1:XE):TS:=(BB (A3 (ER K a) [] E (AD (AA 0) (AD (AA 1) (AD (AA 2) AI)))))
theorem Cp:type_of% (AH (eV.eq_1 K a E E1) D σ H):=rfl
def eW(K:FK)(a:Ad)(E E1:XE):TS:=(B7 (A1 (AC (BM K) (AA 5) (CB AI))) (eV K a E E) CK)
theorem Cq:type_of% (AH (eW.eq_1 K a E E1) D σ H):=rfl
def eX(K:FK)(a:Ad)(E E1:XE):TS:=(AU (AC (AK K) (AA 5) (AC BN (AC (AK K) (AA 2) (tC (.int 1))) (BQ (CA K) (AD (AA 5) AI)))) (AN 6))
theorem Cv:type_of% (AH (eX.eq_1 K a E E1) D σ H):=rfl
def eY(K:FK)(a:Ad)(E E1:XE):TS:=(AU (B6 (AD (tC (.int 1)) (AD (AC (AK K) (AC (AK K) (AC (AK K) (AA 0) (tC (.int 1))) (AA 6)) (tC (.int 1))) AI))) (CZ (AC (AK K) (AA 0) (tC (.int 1))) (AA 6) CG))
theorem Cw:type_of% (AH (eY.eq_1 K a E E1) D σ H):=rfl
def eZ(K:FK)(a:Ad)(E E1:XE):TS:=(BB (B6 (AD (tC (.str "few")) (AD (AA 6) AI))))
theorem Cy:type_of% (AH (eZ.eq_1 K a E E1) D σ H):=rfl
def fB(K:FK)(a:Ad)(E E1:XE):TS:=(B7 (A1 (AC (BM K) (AA 4) (tC (.int 2)))) (AQ (eY K a E E) (eZ K a E E)) CK)
theorem Cz:type_of% (AH (fB.eq_1 K a E E1) D σ H):=rfl
def fC(K:FK)(a:Ad)(E E1:XE):TS:=(AU (AC (AK K) (CB (AD (tC (.int 0)) (AD (tC .non) AI))) (AC BN (AC (AK K) (AA 2) (tC (.int 2))) (tC (.int 2)))) (CZ (AC (AK K) (AA 0) (tC (.int 3))) (AA 6) CG))
theorem Db:type_of% (AH (fC.eq_1 K a E E1) D σ H):=rfl
def fD(K:FK)(a:Ad)(E E1:XE):TS:=(BB (B6 (AD (tC (.str "free")) (AD (tC (.str "record")) (AD (AA 6) AI)))))
theorem Dc:type_of% (AH (fD.eq_1 K a E E1) D σ H):=rfl
def TX(K:FK)(a:Ad)(E:XE):TS:=(AQ (eR K a E E) (AQ (eS K a E E) (AQ (eU K a E E) (AQ (eW K a E E) (AQ (eX K a E E) (AQ (fB K a E E) (AQ (fC K a E E) (fD K a E E))))))))
def fE(K:FK)(a:Ad)(E E1:XE):TS:=(AU (AC (BC K) (AC (BC K) (AC (BC K) (AC (BC K) (AC (AK K) (AA 1) (tC (.int 0))) (AC (AK K) (AA 1) (tC (.int 1)))) (AC (AK K) (AA 1) (tC (.int 2)))) (AC (AK K) (AA 1) (tC (.int 3)))) (AC (AK K) (AA 1) (tC (.int 4)))) (AN 3))
theorem Dd:type_of% (AH (fE.eq_1 K a E E1) D σ H):=rfl
def fF(K:FK)(a:Ad)(E E1:XE):TS:=(C6 (CJ (a "Plank") "write" (MY K a) [] E (AA 0) (AD (AC EU (AA 4) (AA 2)) (AD (KI (IM K) (AA 3) (HM (AA 4)) (HM (AC (BC K) (AA 4) (AA 2)))) AI))))
theorem Dg:type_of% (AH (fF.eq_1 K a E E1) D σ H):=rfl
def fG(K:FK)(a:Ad)(E E1:XE):TS:=(DW (PB (AD (tC (.int 0)) (AD (BQ (CA K) (AD (AA 3) AI)) (AD (AA 2) AI)))) (AN 4) (fF K a E E))
theorem Dh:type_of% (AH (fG.eq_1 K a E E1) D σ H):=rfl
def TY(K:FK)(a:Ad)(E:XE):TS:=(AQ (fE K a E E) (fG K a E E))
def fH(K:FK)(a:Ad)(E E1:XE):TS:=(AU (CJ (a "Layout") "counts" (M8 K a) [] E (AA 1) AI) (AN 3))
theorem Dj:type_of% (AH (fH.eq_1 K a E E1) D σ H):=rfl
def fI(K:FK)(a:Ad)(E E1:XE):TS:=(AU (AC (AK K) (AA 3) (tC (.int 1))) (AN 4))
theorem Dk:type_of% (AH (fI.eq_1 K a E E1) D σ H):=rfl
def fJ(K:FK)(a:Ad)(E E1:XE):TS:=(AU (AC (AK K) (AA 3) (tC (.int 2))) (AN 5))
theorem Dl:type_of% (AH (fJ.eq_1 K a E E1) D σ H):=rfl
def fK(K:FK)(a:Ad)(E E1:XE):TS:=(DY K (AA 0) (A3 (GL K a) [] E (AD (AA 2) (AD (BR (CY (AD (AC (AK K) (AA 3) (tC (.int 0))) AI)) (AN 0) DA (CJ (a "Layout") "name_at" (M0 K a) [] (λ_=>E0) (AA 1) (AD (AA 0) AI)) 1 [1]) AI))) "name_values")
theorem Dm:type_of% (AH (fK.eq_1 K a E E1) D σ H):=rfl
def fL(K:FK)(a:Ad)(E E1:XE):TS:=(DY K (AA 0) (A3 (GL K a) [] E (AD (AA 2) (AD (BR (CY (AD (AA 4) AI)) (AN 0) DA (CJ (a "Layout") "record_at" (M3 K a) [] (λ_=>E0) (AA 1) (AD (AA 0) AI)) 1 [1]) AI))) "record_values")
theorem Dp:type_of% (AH (fL.eq_1 K a E E1) D σ H):=rfl
def fM(K:FK)(a:Ad)(E E1:XE):TS:=(DY K (AA 0) (A3 (GL K a) [] E (AD (AA 2) (AD (BR (CY (AD (AA 5) AI)) (AN 0) DA (CJ (a "Layout") "piece_at" (M4 K a) [] (λ_=>E0) (AA 1) (AD (AA 0) AI)) 1 [1]) AI))) "piece_values")
theorem Dq:type_of% (AH (fM.eq_1 K a E E1) D σ H):=rfl
def fN(K:FK)(a:Ad)(E E1:XE):TS:=(DY K (AA 0) (A3 (GL K a) [] E (AD (AA 2) (AD (BR (CY (AD (AA 4) AI)) (AN 0) DA (CJ (a "Layout") "record_mark" (M5 K a) [] (λ_=>E0) (AA 1) (AD (AA 0) AI)) 1 [1]) AI))) "record_marks")
theorem Dv:type_of% (AH (fN.eq_1 K a E E1) D σ H):=rfl
def fO(K:FK)(a:Ad)(E E1:XE):TS:=(DY K (AA 0) (A3 (GL K a) [] E (AD (AA 2) (AD (BR (CY (AD (AA 5) AI)) (AN 0) DA (CJ (a "Layout") "piece_mark" (M6 K a) [] (λ_=>E0) (AA 1) (AD (AA 0) AI)) 1 [1]) AI))) "piece_marks")
theorem Dw:type_of% (AH (fO.eq_1 K a E E1) D σ H):=rfl
def fP(K:FK)(a:Ad)(E E1:XE):TS:=(DY K (AA 0) (A3 (IV K a) [] E (AD (AA 4) (AD (BR (C0 K (BV K (AA 0) "name_values")) (AN 0) (A1 (AC GH (AA 0) (tC .non))) (AC (AK K) (AA 0) (tC (.int 1))) 1 []) AI))) "leads")
theorem Dx:type_of% (AH (fP.eq_1 K a E E1) D σ H):=rfl
def fQ(K:FK)(a:Ad)(E E1:XE):TS:=(DY K (AA 0) (A3 (IV K a) [] E (AD (AA 5) (AD (A3 (KP K a) [] E (AD (BV K (AA 0) "record_values") AI)) AI))) "namings")
theorem Dy:type_of% (AH (fQ.eq_1 K a E E1) D σ H):=rfl
def fR(K:FK)(a:Ad)(E E1:XE):TS:=(DY K (AA 0) (A3 (IV K a) [] E (AD (AA 5) (AD (A3 (KP K a) [] E (AD (CJ (a "View") "records_led_to" (NB K a) [] E (AA 0) AI) AI)) AI))) "reached")
theorem Dz:type_of% (AH (fR.eq_1 K a E E1) D σ H):=rfl
def TZ(K:FK)(a:Ad)(E:XE):TS:=(AQ (fH K a E E) (AQ (fI K a E E) (AQ (fJ K a E E) (AQ (fK K a E E) (AQ (fL K a E E) (AQ (fM K a E E) (AQ (fN K a E E) (AQ (fO K a E E) (AQ (fP K a E E) (AQ (fQ K a E E) (fR K a E E)))))))))))
def fS(K:FK)(a:Ad)(E E1:XE):TS:=(AU (A3 (JC K a) [] E (AD (AA 0) AI)) (AN 4))
theorem Eb:type_of% (AH (fS.eq_1 K a E E1) D σ H):=rfl
def fT(K:FK)(a:Ad)(E E1:XE):TS:=QH
theorem fU:type_of% (AH (fT.eq_1 K a E E1) D σ H):=rfl
def fV(K:FK)(a:Ad)(E E1:XE):TS:=(B7 (KE (A1 (AC (BM K) (AA 4) (CB AI))) (FO (O5 K (AA 3)) (A1 (AC (BM K) (A3 (E6 K a) [] E (AD (AA 0) AI)) (CB AI))))) (fT K a E E) CK)
theorem Ec:type_of% (AH (fV.eq_1 K a E E1) D σ H):=rfl
def T1(K:FK)(a:Ad)(E E1:XE):TS:=(AU (AC (AK K) (AA 4) (AC BN (AC (AK K) (AA 2) (tC (.int 0))) (BQ (CA K) (AD (AA 4) AI)))) (AN 5))
theorem Ed:type_of% (AH (T1.eq_1 K a E E1) D σ H):=rfl
def T2(K:FK)(a:Ad)(E E1:XE):TS:=(AU (A3 (NL K a) [] E (AD (AA 0) (AD (KI (IM K) (AA 2) (HM (tC (.int 4))) (HM (tC (.int 7)))) (AD (AC BN (AC (AK K) (AA 2) (tC (.int 1))) (tC (.int 4))) AI)))) (AN 6))
theorem Eg:type_of% (AH (T2.eq_1 K a E E1) D σ H):=rfl
def fW(K:FK)(a:Ad)(E E1:XE):TS:=(AU (B6 (AD (AC (BC K) (tC (.int 1)) (AC (AK K) (CB (AD (tC (.int 0)) (AD (tC (.int 0)) (AD (tC (.int 1)) (AD (tC (.int 2)) (AD (AC MS (AC XG (tC (.int 10)) (tC (.int 30))) (tC (.int 40))) AI)))))) (AC BN (AC (AK K) (AA 2) (tC (.int 2))) (tC (.int 5))))) (AD (AA 6) AI))) (CZ (AC (AK K) (AA 0) (tC (.int 1))) (AA 5) CG))
theorem Eh:type_of% (AH (fW.eq_1 K a E E1) D σ H):=rfl
def T3(K:FK)(a:Ad)(E E1:XE):TS:=(AU (tC (.int 1)) (CZ (AC (AK K) (AA 0) (tC (.int 3))) (AA 5) CG))
theorem Ej:type_of% (AH (T3.eq_1 K a E E1) D σ H):=rfl
def T4(K:FK)(a:Ad)(E E1:XE):TS:=(C6 (A3 (JE K a) [] E (AD (AA 0) (AD (AA 1) (AD (AA 5) (AD (AC (AK K) (AA 2) (tC (.int 3))) AI))))))
theorem Ek:type_of% (AH (T4.eq_1 K a E E1) D σ H):=rfl
def fX(K:FK)(a:Ad)(E E1:XE):TS:=(AU (B6 (AD (AC (BC K) (tC (.int 1)) (AC BN (AC (AK K) (AA 2) (tC (.int 2))) (tC (.int 3)))) (AD (AA 6) AI))) (CZ (AC (AK K) (AA 0) (tC (.int 1))) (AA 5) CG))
theorem El:type_of% (AH (fX.eq_1 K a E E1) D σ H):=rfl
def fY(K:FK)(a:Ad)(E E1:XE):TS:=(AU (AC (AK K) (CB (AD (tC (.int 1)) (AD (tC (.int 1)) (AD (tC (.int 0)) (AD (tC .non) AI))))) (AC BN (AC EU (AC (AK K) (AA 2) (tC (.int 2))) (tC (.int 3))) (tC (.int 4)))) (CZ (AC (AK K) (AA 0) (tC (.int 3))) (AA 5) CG))
theorem Em:type_of% (AH (fY.eq_1 K a E E1) D σ H):=rfl
def T5(K:FK)(a:Ad)(E E1:XE):TS:=(C6 (ET K "list" oU (AC (AK K) (AA 0) (tC (.int 5))) (AD (BQ (IN K) (AD (AA 6) AI)) AI)))
theorem Ep:type_of% (AH (T5.eq_1 K a E E1) D σ H):=rfl
def T6(K:FK)(a:Ad)(E E1:XE):TS:=(B7 (O5 K (AA 3)) (AQ (fW K a E E) (AQ (T3 K a E E) (T4 K a E E))) (AQ (fX K a E E) (AQ (fY K a E E) (T5 K a E E))))
theorem Ev:type_of% (AH (T6.eq_1 K a E E1) D σ H):=rfl
def T7(K:FK)(a:Ad)(E:XE):TS:=(AQ (fS K a E E) (AQ (fV K a E E) (AQ (T1 K a E E) (AQ (T2 K a E E) (T6 K a E E)))))
def fZ(K:FK)(a:Ad)(E E1:XE):TS:=(AU (AC BN (AC (AK K) (AA 2) (tC (.int 0))) (tC (.int 7))) (AN 3))
theorem Ew:type_of% (AH (fZ.eq_1 K a E E1) D σ H):=rfl
def f8(K:FK)(a:Ad)(E E1:XE):TS:=(BB (A3 (ER K a) [] E (AD (AA 0) (AD (AA 1) (AD (AA 2) AI)))))
theorem Ex:type_of% (AH (f8.eq_1 K a E E1) D σ H):=rfl
def f9(K:FK)(a:Ad)(E E1:XE):TS:=(B7 (A1 (AC (BM K) (AA 3) (tC (.int 0)))) (f8 K a E E) CK)
theorem Ey:type_of% (AH (f9.eq_1 K a E E1) D σ H):=rfl
def gA(K:FK)(a:Ad)(E E1:XE):TS:=(BB (A3 (NR K a) [] E (AD (AA 0) (AD (AA 1) (AD (AA 2) AI)))))
theorem Ez:type_of% (AH (gA.eq_1 K a E E1) D σ H):=rfl
def gB(K:FK)(a:Ad)(E E1:XE):TS:=(B7 (A1 (AC (BM K) (AA 3) (tC (.int 1)))) (gA K a E E) CK)
theorem Fb:type_of% (AH (gB.eq_1 K a E E1) D σ H):=rfl
def gC(K:FK)(a:Ad)(E E1:XE):TS:=(BB (A3 (NS K a) [] E (AD (AA 0) (AD (AA 1) (AD (AA 2) AI)))))
theorem Fc:type_of% (AH (gC.eq_1 K a E E1) D σ H):=rfl
def gD(K:FK)(a:Ad)(E E1:XE):TS:=(B7 (A1 (AC (MV K) (AA 3) (B6 (AD (tC (.int 2)) (AD (tC (.int 3)) (AD (tC (.int 6)) AI)))))) (gC K a E E) CK)
theorem Fd:type_of% (AH (gD.eq_1 K a E E1) D σ H):=rfl
def gE(K:FK)(a:Ad)(E E1:XE):TS:=(BB (A3 (NT K a) [] E (AD (AA 0) (AD (AA 1) (AD (AA 2) AI)))))
theorem Fg:type_of% (AH (gE.eq_1 K a E E1) D σ H):=rfl
def T8(K:FK)(a:Ad)(E:XE):TS:=(AQ (fZ K a E E) (AQ (f9 K a E E) (AQ (gB K a E E) (AQ (gD K a E E) (gE K a E E)))))
def gF(K:FK)(a:Ad)(E E1:XE):TS:=(AU (BR (C0 K (KI (IM K) (AA 1) OY (HM (tC (.int 3))))) (AN 0) DA (AC (DP K) (AA 0) (AC (AK K) (AA 1) (tC (.int 3)))) 1 [1]) (AN 3))
theorem Fh:type_of% (AH (gF.eq_1 K a E E1) D σ H):=rfl
def gG(K:FK)(a:Ad)(E E1:XE):TS:=(AU (AC (BC K) (BR (C0 K (CB (AD (tC (.int 0)) (AD (tC (.int 1)) (AD (tC (.int 2)) (AD (tC (.int 1)) (AD (tC (.int 2)) AI))))))) (AN 0) DA (AC (DP K) (CB (AD (tC .non) AI)) (AC (AK K) (AA 1) (AA 0))) 1 [3]) (CB (AD (CB AI) AI))) (AN 4))
theorem Fj:type_of% (AH (gG.eq_1 K a E E1) D σ H):=rfl
def gH(K:FK)(a:Ad)(E E1:XE):TS:=(AU (A3 (E5 K a) [] E (AD (AC EU (AA 5) (tC (.int 8))) (AD (tC (.int 7)) AI))) (AN 6))
theorem Fk:type_of% (AH (gH.eq_1 K a E E1) D σ H):=rfl
def gI(K:FK)(a:Ad)(E E1:XE):TS:=(C6 (A3 (KQ K a) [] E (AD (AA 4) (AD (AA 2) (AD (AA 6) (AD (tC (.bl true)) AI))))))
theorem Fl:type_of% (AH (gI.eq_1 K a E E1) D σ H):=rfl
def gJ(K:FK)(a:Ad)(E E1:XE):TS:=(C6 (A3 (NM K a) [] E (AD (AA 4) (AD (AA 2) (AD (AA 6) AI)))))
theorem Fm:type_of% (AH (gJ.eq_1 K a E E1) D σ H):=rfl
def gK(K:FK)(a:Ad)(E E1:XE):TS:=(C6 (A3 (KQ K a) [] E (AD (AA 4) (AD (AA 2) (AD (AA 6) (AD (tC (.bl false)) AI))))))
theorem Fp:type_of% (AH (gK.eq_1 K a E E1) D σ H):=rfl
def gL(K:FK)(a:Ad)(E E1:XE):TS:=(C6 (A3 (NN K a) [] E (AD (AA 4) (AD (AC BN (AA 5) (tC (.int 8))) (AD (AA 6) AI)))))
theorem Fq:type_of% (AH (gL.eq_1 K a E E1) D σ H):=rfl
def gM(K:FK)(a:Ad)(E E1:XE):TS:=(B7 (A1 (AC (BM K) (AC BN (AA 5) (tC (.int 8))) (tC (.int 4)))) (gK K a E E) (gL K a E E))
theorem Fv:type_of% (AH (gM.eq_1 K a E E1) D σ H):=rfl
def gN(K:FK)(a:Ad)(E E1:XE):TS:=(B7 (A1 (AC (BM K) (AC BN (AA 5) (tC (.int 8))) (tC (.int 3)))) (gJ K a E E) (gM K a E E))
theorem Fw:type_of% (AH (gN.eq_1 K a E E1) D σ H):=rfl
def gO(K:FK)(a:Ad)(E E1:XE):TS:=(B7 (A1 (AC HQ (AC BN (AA 5) (tC (.int 8))) (tC (.int 3)))) (gI K a E E) (gN K a E E))
theorem Fx:type_of% (AH (gO.eq_1 K a E E1) D σ H):=rfl
def gP(K:FK)(a:Ad)(E E1:XE):TS:=(DW (C0 K (AA 0)) (AN 5) (AQ (gH K a E E) (gO K a E E)))
theorem Fy:type_of% (AH (gP.eq_1 K a E E1) D σ H):=rfl
def gQ(K:FK)(a:Ad)(E E1:XE):TS:=(BB (AA 4))
theorem Fz:type_of% (AH (gQ.eq_1 K a E E1) D σ H):=rfl
def T9(K:FK)(a:Ad)(E:XE):TS:=(AQ (gF K a E E) (AQ (gG K a E E) (AQ (gP K a E E) (gQ K a E E))))
def gR(K:FK)(a:Ad)(E E1:XE):TS:=(AU (IJ (a "View") (IA K a) [] E (AD (AA 0) (AD (AA 1) AI))) (AN 2))
theorem Gb:type_of% (AH (gR.eq_1 K a E E1) D σ H):=rfl
def gS(K:FK)(a:Ad)(E E1:XE):TS:=(BB (AC (BC K) (A3 (IY K a) [] E (AD (AA 2) AI)) (A3 (NI K a) [] E (AD (AA 2) AI))))
theorem Gc:type_of% (AH (gS.eq_1 K a E E1) D σ H):=rfl
def UA(K:FK)(a:Ad)(E:XE):TS:=(AQ (gR K a E E) (gS K a E E))
def gT(K:FK)(a:Ad)(E E1:XE):TS:=(BB (AC (BM K) (BQ (CA K) (AD (A3 (IY K a) [] E (AD (IJ (a "View") (IA K a) [] E (AD (AA 0) (AD (AA 1) AI))) AI)) AI)) (tC (.int 0))))
theorem Gd:type_of% (AH (gT.eq_1 K a E E1) D σ H):=rfl
def UB(K:FK)(a:Ad)(E:XE):TS:=(gT K a E E)
def gU(K:FK)(a:Ad)(E E1:XE):TS:=(AU (A3 (IZ K a) [] E (AD (AA 0) (AD (AA 1) AI))) (AN 3))
theorem Gg:type_of% (AH (gU.eq_1 K a E E1) D σ H):=rfl
def gW(K:FK)(a:Ad)(E E1:XE):TS:=(BB (ON (BQ (RH K) (AD (AA 3) (AD (tC (.ty "list")) AI))) (ON (AC (BM K) (AA 3) (AA 2)) (AC XY (A3 (JA K a) [] E (AD (AA 0) (AD (AA 1) AI))) (tC (.bl true))))))
theorem Gh:type_of% (AH (gW.eq_1 K a E E1) D σ H):=rfl
def UC(K:FK)(a:Ad)(E:XE):TS:=(AQ (gU K a E E) (gW K a E E))
def gX(K:FK)(a:Ad)(E E1:XE):TS:=(AU (A3 (NJ K a) [] E (AD (A3 (G6 K a) [] E (AD (AA 0) (AD (tC (.int 0)) AI))) AI)) (AN 1))
theorem Gj:type_of% (AH (gX.eq_1 K a E E1) D σ H):=rfl
def gY(K:FK)(a:Ad)(E E1:XE):TS:=(AU (A3 (NK K a) [] E (AD (A3 (G6 K a) [] E (AD (AA 0) (AD (tC (.int 1)) AI))) (AD (tC (.int 36)) AI))) (AN 2))
theorem Gk:type_of% (AH (gY.eq_1 K a E E1) D σ H):=rfl
def gZ(K:FK)(a:Ad)(E E1:XE):TS:=(AU (A3 (NO K a) [] E (AD (KI (IM K) (AA 0) (HM (tC (.int 3))) OY) (AD (AA 1) (AD (AA 2) AI)))) (AN 3))
theorem Gm:type_of% (AH (gZ.eq_1 K a E E1) D σ H):=rfl
def g6(K:FK)(a:Ad)(E E1:XE):TS:=(AU (IJ (a "Layout") (KN K a) [] E (AD (AC (AK K) (AA 1) (tC (.int 0))) (AD (AC (AK K) (AA 1) (tC (.int 1))) (AD (AC (AK K) (AA 1) (tC (.int 2))) (AD (AC (AK K) (AA 1) (tC (.int 3))) AI))))) (AN 4))
theorem Gp:type_of% (AH (g6.eq_1 K a E E1) D σ H):=rfl
def g7(K:FK)(a:Ad)(E E1:XE):TS:=(AU (CJ (a "Layout") "plank" (M9 K a) [] E (AA 4) AI) (AN 5))
theorem Gq:type_of% (AH (g7.eq_1 K a E E1) D σ H):=rfl
def g8(K:FK)(a:Ad)(E E1:XE):TS:=(C6 (A3 (JF K a) [] E (AD (AA 5) (AD (AA 3) (AD (AC (AK K) (AA 1) (tC (.int 3))) AI)))))
theorem Gv:type_of% (AH (g8.eq_1 K a E E1) D σ H):=rfl
def g9(K:FK)(a:Ad)(E E1:XE):TS:=(AU (A3 (NP K a) [] E (AD (AA 3) AI)) (AN 6))
theorem Gw:type_of% (AH (g9.eq_1 K a E E1) D σ H):=rfl
def Gx(K:FK)(a:Ad)(E E1:XE):TS:=(BB (tC (.bl false)))
def hE(K:FK)(a:Ad)(E E1:XE):TS:=(B7 (OK (O5 K (A3 (KS K a) [] E (AD (AA 4) (AD (AA 5) (AD (AA 6) AI)))))) (Gx K a E E) CK)
theorem Gy:type_of% (AH (hE.eq_1 K a E E1) D σ H):=rfl
def hG(K:FK)(a:Ad)(E E1:XE):TS:=(AU (A3 (NQ K a) [] E (AD (AA 3) AI)) (AN 7))
theorem Gz:type_of% (AH (hG.eq_1 K a E E1) D σ H):=rfl
def hI(K:FK)(a:Ad)(E E1:XE):TS:=(AU (A3 (NU K a) [] E (AD (AA 7) (AD (AA 2) (AD (A3 (E5 K a) [] E (AD (A3 (G6 K a) [] E (AD (AA 0) (AD (tC (.int 2)) AI))) (AD (tC (.int 3)) AI))) AI)))) (AN 8))
theorem Hb:type_of% (AH (hI.eq_1 K a E E1) D σ H):=rfl
def hR(K:FK)(a:Ad)(E E1:XE):TS:=(BB (tC (.bl true)))
theorem Hc:type_of% (AH (hR.eq_1 K a E E1) D σ H):=rfl
def hU(K:FK)(a:Ad)(E E1:XE):TS:=(B7 (A1 (AC EV (AA 8) (tC .non))) (hR K a E E) CK)
theorem hV:type_of% (AH (hU.eq_1 K a E E1) D σ H):=rfl
def hW(K:FK)(a:Ad)(E E1:XE):TS:=(C6 (A3 (JF K a) [] E (AD (AA 5) (AD (AA 7) (AD (AC (AK K) (AA 1) (tC (.int 3))) AI)))))
theorem Hd:type_of% (AH (hW.eq_1 K a E E1) D σ H):=rfl
def hX(K:FK)(a:Ad)(E E1:XE):TS:=(AU (BR (C0 K (A3 (IZ K a) [] E (AD (AA 4) (AD (AA 5) AI)))) (AN 0) (A1 (AC (MV K) (AC (AK K) (AA 0) (tC (.int 0))) (B6 (AD (tC (.str "lost")) (AD (tC (.str "twice")) (AD (tC (.str "shared")) (AD (tC (.str "empty")) (AD (tC (.str "few")) (AD (tC (.str "free")) AI))))))))) (AA 0) 1 []) (AN 9))
theorem Hg:type_of% (AH (hX.eq_1 K a E E1) D σ H):=rfl
def Hh(K:FK)(a:Ad)(E E1:XE):TS:=(BB (tC (.bl false)))
def hZ(K:FK)(a:Ad)(E E1:XE):TS:=(B7 (KE (A1 (AC (CO K) (AA 9) (CB (AD (AA 8) AI)))) (A1 (AC XZ (A3 (JA K a) [] E (AD (AA 4) (AD (AA 5) AI))) (tC (.bl false))))) (Hh K a E E) CK)
theorem Hj:type_of% (AH (hZ.eq_1 K a E E1) D σ H):=rfl
def h9(K:FK)(a:Ad)(E E1:XE):TS:=(C6 (A3 (JF K a) [] E (AD (AA 5) (AD (AA 3) (AD (AC (AK K) (AA 1) (tC (.int 3))) AI)))))
theorem Hk:type_of% (AH (h9.eq_1 K a E E1) D σ H):=rfl
def iA(K:FK)(a:Ad)(E E1:XE):TS:=(BB (A3 (KS K a) [] E (AD (AA 4) (AD (AA 5) (AD (AA 6) AI)))))
theorem Hl:type_of% (AH (iA.eq_1 K a E E1) D σ H):=rfl
def UD(K:FK)(a:Ad)(E:XE):TS:=(AQ (gX K a E E) (AQ (gY K a E E) (AQ (gZ K a E E) (AQ (g6 K a E E) (AQ (g7 K a E E) (AQ (g8 K a E E) (AQ (g9 K a E E) (AQ (hE K a E E) (AQ (hG K a E E) (AQ (hI K a E E) (AQ (hU K a E E) (AQ (hW K a E E) (AQ (hX K a E E) (AQ (hZ K a E E) (AQ (h9 K a E E) (iA K a E E))))))))))))))))
end
end L2
namespace L2
local macro_rules
 | `(tactic| push_cast[$ls,*])=>`(tactic| simp only[↓o1,↓o2,↓o3,↓o6,↓o7,↓o8,↓o9,↓pA,↓pB,↓pC,↓pD,↓pE,↓pF,↓pG,↓pH,↓pI,↓pJ,↓pK,↓pL,↓pM,↓pN,↓pO,↓pP,↓pQ,↓pR,↓pT,↓pU,↓pV,↓pW,↓pX,↓pY,↓pZ,↓p0,↓p5,↓p6,↓p7,↓p8,↓p9,↓qA,↓qB,↓qC,↓qD,↓qE,↓qF,↓qG,↓qH,↓qI,↓qJ,↓qK,↓qL,↓qM,↓qN,↓qO,
     ↓RI,↓qP,↓qR,↓qS,↓qT,↓qU,↓qV,↓qW,↓qX,↓qY,↓XM,↓rC,↓rE,↓rD,↓rF,↓rG,↓rH,↓rJ,↓rK,↓rA,↓qZ,↓rB,↓rM,↓rN,↓XN,↓rO,↓rP,↓XO,↓rQ,↓rR,↓XQ,↓rS,↓rT,↓XR,↓rV,↓rW,↓rX,↓rY,↓rZ,↓r8,↓sA,↓sB,↓sC,↓XS,↓sD,
     MS,BN,EU,XG,oJ,oK,Ends.drop,A6,List.map_cons,List.map_nil,List.length_cons,List.length_nil,List.reduceReplicate,Nat.reduceAdd,Nat.reduceSub,Nat.zero_add,List.cons_append,List.nil_append,List.append_nil,List.getElem?_cons_zero,List.getElem?_cons_succ,Option.some.injEq,Option.join_some,List.set_cons_zero,List.set_cons_succ,
     V.int.injEq,V.ref.injEq,V.bl.injEq,V.str.injEq,List.cons.injEq,and_true,true_and,exists_eq_left',exists_eq_left,exists_eq',exists_eq,exists_and_left,exists_and_right,reduceCtorEq,false_and,and_false,or_false,false_or,exists_false,decide_eq_true_eq,Bool.not_eq_true',Bool.not_eq_true,decide_eq_false_iff_not,eq_self_iff_true,if_true,Bool.false_eq_true,if_false,ite_true,Bool.true_eq_false,forall_const,and_assoc,Int.reduceToNat,Int.reduceLT,Int.reduceLE,Int.reduceEq,Nat.reduceLeDiff,Int.toNat_natCast,not_true_eq_false,not_false_eq_true,Bool.not_false,Bool.not_true,↓tD,↓tE,↓tF,↓tG,↓tH,↓tI,↓tJ,↓tK,↓tL,↓sZ,↓sY,↓sV,↓sX,↓sO,↓tX,↓uH,↓uG,↓t7,↓t5,↓sP,↓sM,$ls,*])
section
variable{K:W.Frag}{a:Ad}{vs:List V}{H:Hp}{Q:VK}{E:XK}
theorem Hm(h:MW K a vs H Q E):SE K a (λ_=>E) (A7 Q) (A6 ["self","blocks","cells"] vs) H:=by
 obtain⟨p,dx,m,w,rfl,T,hp,hm,h1,h2,q⟩:=h
 push_cast[SE,↓vV,↓vW,↓vX]
 refine⟨by omega,by omega,?_⟩
 refine MU (small m (by omega)) (λi ys H'=>Same H H'/\∃ ts:List Addr,ys=ts.map V.ref/\Paired (λt r=>H' t=some (.tup r)) ts (List.replicate i (List.replicate w .non))) ⟨Same.refl _,[],rfl,.nil⟩ (λi ys H' hi hl ⟨s,ts,e,P⟩=> ?_) (λys H' hl ⟨s,ts,e,P⟩ cl hcl=> ?_)
 ·push_cast[BG,Option.join_some,Int.zero_add]
  refine⟨by decide,λt ht=>.inr ?_⟩
  have fin:∀ (t':Addr) (H2:Hp),Same H' H2->H2 t'=some (.tup (List.replicate w .non))->Same H H2/\∃ ts':List Addr,ys++[V.ref t']=ts'.map V.ref/\Paired (λt r=>H2 t=some (.tup r)) ts' (List.replicate (i+1) (List.replicate w .non)):=λt' H2 s2 e2=>by
   refine⟨s.trans s2,ts++[t'],by rw[e,List.map_append];rfl,?_⟩
   rw[List.replicate_succ']
   exact Paired.snoc (Paired.mapP P λt r z=>s2 _ _ z) e2
  have s1:Same H' (upd H' t (.tup [V.non])):=λb o z=>by rw[AW (BX z ht)];exact z
  refine⟨t,w,[.non],rfl,rfl,SqT.of AS,by simp,by omega,by omega,small _ (by simp;omega),λe1=> ?_,λe1 u hu=> ?_⟩
  ·have e1:w=1:=by omega
   refine fin t _ s1 ?_
   rw[AS,e1];rfl
  ·rw[Int.toNat_natCast,XU]
   exact fin u _ (s1.trans λb o z=>by rw[AW (BX z hu)];exact z) AS
 ·have npc:p≠cl:=BX (s _ _ hp) hcl
  have e1:upd H' cl (HO.lst ys) p=some (HO.ins (a "Plank") dx []):=by rw[AW npc];exact s _ _ hp
  refine⟨_,_,_,e1,T.cl,T.nC,by decide,_,_,_,AS,T.cl,T.nW,G2 (by decide),_,_,_,AS,T.cl,T.nN,G2 (n:=1000) (Nat.succ_lt_succ (G2 (n:=999) (by decide))),?_⟩
  rw[uL,MG,MG]
  refine q cl _ (s.free hcl) ⟨⟨dx,AS⟩,⟨ts,by rw[AW npc.symm,AS,e],?_⟩,λr hr=> ?_,by simpa using hm,h2⟩ λb o eb hb=> ?_
  ·refine Paired.mapP P λt r z=> ?_
   rw[AW (DU z (s _ _ hp) (by intro z';cases z')),AW (BX z hcl)]
   exact z
  ·rw[List.eq_of_mem_replicate hr,List.length_replicate]
  ·rw[AW hb,AW (BX (s _ _ eb) hcl)]
   exact s _ _ eb
theorem Hq(h:G4 K a vs H Q E):SF K a (λ_=>E) (A7 Q) (A6 ["self","block"] vs) H:=by
 obtain⟨p,cl,w,rows,n,b,rfl,T,P,q,qe⟩:=h
 obtain⟨dx,h1⟩:=P.ob
 obtain⟨ts,h2,h3⟩:=P.ls
 push_cast[SF,↓vY,↓vZ]
 have hl:rows.length=(ts.map V.ref).length:=by rw[List.length_map,h3.length]
 split
 ·rename_i h0
  refine⟨_,_,_,h1,T.cl,T.nC,_,RT _ _ _,rows.length,.inl ⟨_,SqL.of h2,hl⟩,?_⟩
  split
  ·exact⟨by decide,qe (by omega)⟩
  ·exact q h0 (by omega)
 ·exact⟨by decide,qe (by omega)⟩
theorem iB(cl:Addr)(w n:Int):(pf cl w n).lookup ("ask_for_block":Str)=none:=RU _ _ _ (by decide +kernel) (by decide +kernel) (by decide +kernel)
theorem Hv(h:MX K a vs H Q E):SV K a (λ_=>E) (A7 Q) (A6 ["self","block"] vs) H:=by
 obtain⟨p,cl,w,rows,n,b,rfl,T,P,q,qe⟩:=h
 obtain⟨dx,h1⟩:=P.ob
 obtain⟨ts,h2,h3⟩:=P.ls
 push_cast[SV,↓xO,↓xP,G4]
 refine⟨_,_,h1,iB _ _ _,T,cl,w,rows,⟨n,P⟩,λh0 hb=>⟨_,_,_,h1,T.cl,T.nC,_,RT _ _ _,?_⟩,qe⟩
 obtain⟨i,rfl⟩:∃ i:Nat,b=i:=⟨b.toNat,by omega⟩
 have hi:i<rows.length:=by omega
 obtain⟨t,et,ht⟩:=RJ h3 (List.getElem?_eq_getElem hi)
 refine BU (SqL.of h2) rfl (v:=.ref t) (by rw[List.getElem?_map,et];rfl) ?_
 rw[XS]
 exact⟨_,.inr (SqT.of ht),q i _ rfl (List.getElem?_eq_getElem hi)⟩
theorem Hw(h:MY K a vs H Q E):SW K a (λ_=>E) (A7 Q) (A6 ["self","block","values"] vs) H:=by
 obtain⟨p,cl,w,rows,n,b,v,xs,rfl,T,P,hv,hx,q,qe⟩:=h
 obtain⟨dx,h1⟩:=P.ob
 obtain⟨ts,h2,h3⟩:=P.ls
 have npc:=P.ne
 push_cast[SW,↓xQ,↓xR,↓xS,↓xT,↓xU,G4]
 refine⟨_,_,h1,iB _ _ _,T,cl,w,rows,⟨n,P⟩,λh0 hb=>⟨xs.length,.inl ⟨_,hv,rfl⟩,_,_,_,h1,T.cl,T.nW,_,uJ _ _ _,?_⟩,λz=>qe (z.imp id .inl)⟩
 obtain⟨i,rfl⟩:∃ i:Nat,b=i:=⟨b.toNat,by omega⟩
 have hi:i<rows.length:=by omega
 push_cast[]
 split
 ·exact⟨by decide,qe (.inr (.inr (by omega)))⟩
 ·rename_i hw
  have hw:xs.length=w:=by omega
  refine⟨xs,.inl ⟨hv,λt ht=> ?_⟩⟩
  have ntp:p≠t:=BX h1 ht
  have ntc:cl≠t:=BX h2 ht
  refine⟨_,_,_,by rw[AW ntp];exact h1,T.cl,T.nC,_,RT _ _ _,?_⟩
  refine⟨cl,ts.map V.ref,(i:Int),i,rfl,rfl,by rw[AW ntc];exact h2,?_,?_⟩
  ·unfold GE
   rw[if_pos (by omega),if_pos (by rw[List.length_map,h3.length];omega),Int.toNat_natCast]
  ·refine⟨_,_,_,by rw[AW npc,AW ntp];exact h1,T.cl,T.nN,_,uK _ _ _,?_⟩
   push_cast[]
   refine⟨_,_,by rw[AW npc,AW ntp];exact h1,by show 3<1000;decide,?_⟩
   rw[uM]
   refine q i rfl hi hw _ ⟨⟨dx,AS⟩,⟨ts.set i t,?_,?_⟩,λr hr=> ?_,by rw[List.length_set];exact P.sz,P.sw⟩ λx o ex hxn=> ?_
   ·rw[AW npc.symm,AS,List.map_set]
   ·have keep:∀ u r,H u=some (.tup r)->upd (upd (upd H t (.tup xs)) cl (.lst ((ts.map V.ref).set i (.ref t)))) p (.ins (a "Plank") dx (pf cl w ((n:Int)+1))) u=some (.tup r):=λu r hu=>by
     rw[AW (DU hu h1 (by intro z;cases z)),AW (DU hu h2 (by intro z;cases z)),AW (BX hu ht)]
     exact hu
    refine RK ?_ i (Paired.mapP h3 keep)
    rw[AW ntp.symm,AW ntc.symm,AS]
   ·rcases List.mem_or_eq_of_mem_set hr with z | z
    ·exact P.wd r z
    ·rw[z];exact hw
   ·have hxn:x≠p/\x≠cl:=⟨λz=>hxn (.inl z),λz=>hxn (.inr z)⟩
    rw[AW hxn.1,AW hxn.2,AW (BX ex ht)]
    exact ex
theorem Hx(cl:Addr)(w n:Int):(pf cl w n).lookup ("read":Str)=none:=RU _ _ _ (by decide +kernel) (by decide +kernel) (by decide +kernel)
theorem Hy(cl:Addr)(w n:Int):(pf cl w n).lookup ("write":Str)=none:=RU _ _ _ (by decide +kernel) (by decide +kernel) (by decide +kernel)
theorem Hz(h:MW K a vs H Q E):vs.length=3:=by
 obtain⟨_,_,_,_,rfl,_⟩:=h
 rfl
theorem Jb(h:G4 K a vs H Q E):vs.length=2:=by
 obtain⟨_,_,_,_,_,_,rfl,_⟩:=h
 rfl
theorem Jc(h:MX K a vs H Q E):vs.length=2:=by
 obtain⟨_,_,_,_,_,_,rfl,_⟩:=h
 rfl
theorem Jd(h:MY K a vs H Q E):vs.length=3:=by
 obtain⟨_,_,_,_,_,_,_,_,rfl,_⟩:=h
 rfl
theorem Jg(h:G6 K a vs H Q E):SK K a (λ_=>E) (A7 Q) (A6 ["script","k"] vs) H:=by
 obtain⟨s,ns,k,rfl,hs,hl,q⟩:=h
 push_cast[SK,↓wD,↓wE,↓wF]
 refine⟨ns.length,?_,?_⟩
 ·exact .inl ⟨_,hs,(List.length_map _).symm⟩
 split
 ·rename_i hk
  have hk:k<ns.length:=by omega
  refine BU hs rfl (v:=.int (KO ns k)) ?_ q
  unfold KO
  rw[List.getElem?_map,List.getElem?_eq_getElem hk]
  simp[List.getD,hk]
 ·rename_i hk
  have:KO ns k=0:=by
   unfold KO
   rw[List.getD_eq_getElem?_getD,List.getElem?_eq_none (by omega)];rfl
  rw[this]at q
  exact q
theorem Jh(h:G6 K a vs H Q E):vs.length=2:=by
 obtain⟨_,_,_,rfl,_⟩:=h
 rfl
theorem Jj(h:KN K a vs H Q E):SG K a (λ_=>E) (A7 Q) (A6 ["self","names","records","pieces","cells"] vs) H:=by
 obtain⟨p,dx,n,r,c,w,rfl,T,hp,b1,b2,b3,b4,b5,q⟩:=h
 push_cast[SG,↓v6,↓v7,↓v8,↓v9]
 refine⟨_,_,_,hp,T.cl,T.n1,by decide,_,_,_,AS,T.cl,T.n2,G2 (by decide),_,_,_,AS,T.cl,T.n3,G2 (n:=1000) (Nat.succ_lt_succ (G2 (n:=999) (by decide))),_,_,_,AS,T.cl,T.n4,?_,?_⟩
 ·exact G2 (n:=1000) (Nat.succ_lt_succ (G2 (n:=999) (Nat.succ_lt_succ (G2 (n:=998) (by decide)))))
 ·rw[uR,MG,MG,MG]
  exact q _ ⟨⟨dx,AS⟩,b1,b2,b3,b4,b5⟩ λb o e hb=>by rw[AW hb];exact e
theorem Jk(h:EX K a vs H Q E):SJ K a (λ_=>E) (A7 Q) (A6 ["self","block","k"] vs) H:=by
 obtain⟨p,n,r,c,w,k,b,rfl,T,L,q⟩:=h
 obtain⟨dx,e⟩:=L.ob
 have:=L.h1
 have:=L.hw
 push_cast[SJ,↓wC]
 refine⟨_,_,_,e,T.cl,T.n4,_,KM,?_⟩
 push_cast[]
 refine⟨⟨by omega,by omega⟩,_,_,_,e,T.cl,T.n4,_,KM,?_⟩
 push_cast[]
 exact⟨by omega,by decide,q⟩
theorem Jl(h:M0 K a vs H Q E):SX K a (λ_=>E) (A7 Q) (A6 ["self","k"] vs) H:=by
 obtain⟨p,n,r,c,w,k,rfl,T,L,q⟩:=h
 obtain⟨dx,e⟩:=L.ob
 push_cast[SX,↓xV]
 exact⟨_,_,e,D9 (by decide +kernel),p,n,r,c,w,k,0,rfl,T,L,q⟩
theorem Jm(h:M3 K a vs H Q E):SY K a (λ_=>E) (A7 Q) (A6 ["self","k"] vs) H:=by
 obtain⟨p,n,r,c,w,k,rfl,T,L,q⟩:=h
 obtain⟨dx,e⟩:=L.ob
 push_cast[SY,↓xW]
 exact⟨_,_,e,D9 (by decide +kernel),_,_,_,e,T.cl,T.n1,_,PF,p,n,r,c,w,k,_,rfl,T,L,q⟩
theorem Jp(h:M4 K a vs H Q E):SZ K a (λ_=>E) (A7 Q) (A6 ["self","k"] vs) H:=by
 obtain⟨p,n,r,c,w,k,rfl,T,L,q⟩:=h
 obtain⟨dx,e⟩:=L.ob
 push_cast[SZ,↓xX]
 refine⟨_,_,e,D9 (by decide +kernel),_,_,_,e,T.cl,T.n1,_,PF,_,_,_,e,T.cl,T.n2,_,MZ,?_⟩
 push_cast[]
 exact⟨p,n,r,c,w,k,_,rfl,T,L,q⟩
theorem Jq(h:M5 K a vs H Q E):S0 K a (λ_=>E) (A7 Q) (A6 ["self","k"] vs) H:=by
 obtain⟨p,n,r,c,w,k,rfl,T,L,q⟩:=h
 obtain⟨dx,e⟩:=L.ob
 push_cast[S0,↓xY]
 exact⟨_,_,e,D9 (by decide +kernel),_,_,e,D9 (by decide +kernel),p,n,r,c,w,rfl,T,L,p,n,r,c,w,k,_,rfl,T,L,q⟩
theorem Jv(h:M6 K a vs H Q E):S1 K a (λ_=>E) (A7 Q) (A6 ["self","k"] vs) H:=by
 obtain⟨p,n,r,c,w,k,rfl,T,L,q⟩:=h
 obtain⟨dx,e⟩:=L.ob
 push_cast[S1,↓xZ]
 refine⟨_,_,e,D9 (by decide +kernel),_,_,e,D9 (by decide +kernel),p,n,r,c,w,rfl,T,L,_,_,_,e,T.cl,T.n2,_,MZ,?_⟩
 push_cast[]
 exact⟨p,n,r,c,w,k,_,rfl,T,L,q⟩
theorem Jw(h:G5 K a vs H Q E):SI K a (λ_=>E) (A7 Q) (A6 ["self"] vs) H:=by
 obtain⟨p,n,r,c,w,rfl,T,L,q⟩:=h
 obtain⟨dx,e⟩:=L.ob
 push_cast[SI,↓wB]
 refine⟨_,_,_,e,T.cl,T.n1,_,PF,_,_,_,e,T.cl,T.n2,_,MZ,?_⟩
 push_cast[]
 refine⟨_,_,_,e,T.cl,T.n3,_,RY,?_⟩
 push_cast[]
 exact q
theorem Jx(h:M7 K a vs H Q E):S2 K a (λ_=>E) (A7 Q) (A6 ["self"] vs) H:=by
 obtain⟨p,n,r,c,w,rfl,T,L,q⟩:=h
 obtain⟨dx,e⟩:=L.ob
 push_cast[S2,↓x6]
 refine⟨_,_,e,D9 (by decide +kernel),p,n,r,c,w,rfl,T,L,_,_,_,e,T.cl,T.n2,_,MZ,?_⟩
 push_cast[]
 refine⟨_,_,_,e,T.cl,T.n3,_,RY,?_⟩
 push_cast[]
 exact q
theorem Jy(h:M8 K a vs H Q E):SH K a (λ_=>E) (A7 Q) (A6 ["self"] vs) H:=by
 obtain⟨p,n,r,c,w,rfl,T,L,q⟩:=h
 obtain⟨dx,e⟩:=L.ob
 obtain⟨_,b1,b2,b3,b4,b5⟩:=L
 push_cast[SH,↓wA]
 refine⟨_,_,_,e,T.cl,T.n1,_,PF,_,_,_,e,T.cl,T.n4,_,KM,?_⟩
 push_cast[]
 refine⟨.inl ⟨by omega,by omega⟩,_,_,_,e,T.cl,T.n2,_,MZ,_,_,_,e,T.cl,T.n4,_,KM,?_⟩
 push_cast[]
 refine⟨.inl ⟨by omega,by omega⟩,_,_,_,e,T.cl,T.n3,_,RY,_,_,_,e,T.cl,T.n4,_,KM,?_⟩
 push_cast[]
 exact⟨.inl ⟨by omega,by omega⟩,by decide,q⟩
theorem Jz(h:M9 K a vs H Q E):TJ K a (λ_=>E) (A7 Q) (A6 ["self"] vs) H:=by
 obtain⟨p,n,r,c,w,rfl,T,TP,L,q⟩:=h
 obtain⟨dx,e⟩:=L.ob
 have LL:=L
 obtain⟨_,b1,b2,b3,b4,b5⟩:=L
 push_cast[TJ,↓zQ]
 refine⟨_,_,e,D9 (by decide +kernel),p,n,r,c,w,rfl,T,LL,_,_,_,e,T.cl,T.n4,_,KM,λx dx' hx hdx hne=> ?_⟩
 have s3:Same H (upd (upd H dx' (.own x)) x (.ins (a "Plank") dx' [])):=(AY hdx).trans (AY (by rw[AW hne.symm];exact hx))
 refine⟨x,dx',n+r+c+r+c,w,by simp,TP,AS,by omega,b4,by omega,λcl H2 hcl P2 s4=>⟨rfl,q x cl H2 hx (s3.free hcl) P2 λb o eb=>s4 _ _ (s3 _ _ eb) (BX eb hx)⟩⟩
theorem Kb(h:KN K a vs H Q E):vs.length=5:=by
 obtain⟨_,_,_,_,_,_,rfl,_⟩:=h
 rfl
theorem Kc(h:EX K a vs H Q E):vs.length=3:=by
 obtain⟨_,_,_,_,_,_,_,rfl,_⟩:=h
 rfl
theorem Kd(h:M0 K a vs H Q E):vs.length=2:=by
 obtain⟨_,_,_,_,_,_,rfl,_⟩:=h
 rfl
theorem Kg(h:M3 K a vs H Q E):vs.length=2:=by
 obtain⟨_,_,_,_,_,_,rfl,_⟩:=h
 rfl
theorem Kh(h:M4 K a vs H Q E):vs.length=2:=by
 obtain⟨_,_,_,_,_,_,rfl,_⟩:=h
 rfl
theorem Kj(h:M5 K a vs H Q E):vs.length=2:=by
 obtain⟨_,_,_,_,_,_,rfl,_⟩:=h
 rfl
theorem Kk(h:M6 K a vs H Q E):vs.length=2:=by
 obtain⟨_,_,_,_,_,_,rfl,_⟩:=h
 rfl
theorem Kl(h:G5 K a vs H Q E):vs.length=1:=by
 obtain⟨_,_,_,_,_,rfl,_⟩:=h
 rfl
theorem Km(h:M7 K a vs H Q E):vs.length=1:=by
 obtain⟨_,_,_,_,_,rfl,_⟩:=h
 rfl
theorem Kp(h:M8 K a vs H Q E):vs.length=1:=by
 obtain⟨_,_,_,_,_,rfl,_⟩:=h
 rfl
theorem Kq(h:M9 K a vs H Q E):vs.length=1:=by
 obtain⟨_,_,_,_,_,rfl,_⟩:=h
 rfl
def C1(H H':Hp):Prop:=∀ b xs,H b=some (.tup xs)->H' b=some (.tup xs)
theorem GoodV.keep{H H':Hp}(k:C1 H H'):∀ {n:Nat} {v:V},GoodV n H v->GoodV n H' v
 | 0,_,h=>h
 | _+1,.int _,_=>trivial
 | _+1,.non,_=>trivial
 | _+1,.str _,h=>h
 | n+1,.ref p,⟨xs,h1,h2,h3⟩=>⟨xs,k _ _ h1,h2,λv hv=>(h3 v hv).keep k⟩
theorem GoodV.up{H:Hp}:∀ {n:Nat} {v:V},GoodV n H v->GoodV (n+1) H v
 | 0,_,h=>h.elim
 | _+1,.int _,_=>trivial
 | _+1,.non,_=>trivial
 | _+1,.str _,h=>h
 | n+1,.ref p,⟨xs,h1,h2,h3⟩=>⟨xs,h1,h2,λv hv=>(h3 v hv).up⟩
theorem Same.tk{H H':Hp}(s:Same H H'):C1 H H':=λb xs e=>s _ _ e
theorem good7.keep{H H':Hp}{rows:List (List V)}(g:good7 H rows)(k:C1 H H'):good7 H' rows:=λr hr v hv=>(g r hr v hv).keep k
theorem B1{c A B:Prop}[Decidable c](h:c)(x:A):if c then A else B:=by rw[if_pos h];exact x
theorem BW{c A B:Prop}[Decidable c](h:¬ c)(x:B):if c then A else B:=by rw[if_neg h];exact x
theorem NmV.keep{H':Hp}{v:V}{c:GJ}(k:C1 H H')(h:NmV H v c):NmV H' v c:=by
 cases c with
 | none=>exact h
 | some c=>obtain⟨p,e,h1⟩:=h;exact⟨p,e,k _ _ h1⟩
theorem RcV.keep{H':Hp}{v:V}{c:EY}(k:C1 H H')(h:RcV H v c):RcV H' v c:=by
 cases c with
 | none=>exact h
 | some c=>obtain⟨p,q,e,h1,h2⟩:=h;exact⟨p,q,e,k _ _ h1,k _ _ h2⟩
theorem PcV.keep{H':Hp}{v:V}{c:Option Str}(_:C1 H H')(h:PcV H v c):PcV H' v c:=by
 cases c<;>exact h
theorem MkV.keep{H':Hp}{v:V}{c:Option Int}(_:C1 H H')(h:MkV H v c):MkV H' v c:=by
 cases c<;>exact h
theorem LstAt.keep{α :Type}{R:Hp->V-> α ->Prop}{H':Hp}{p:Addr}{cs:List α}(h:LstAt R H p cs)(kr:∀ v c,R H v c->R H' v c)(kp:∀ o,H p=some o->H' p=some o):LstAt R H' p cs:=by
 obtain⟨vs,e,P⟩:=h
 exact⟨vs,kp _ e,Paired.mapP P λv c=>kr v c⟩
theorem FindsL.same{H':Hp}{l:Addr}{fs:List (List V)}(h:FindsL H l fs)(s:Same H H'):FindsL H' l fs:=by
 obtain⟨ps,e,P⟩:=h
 exact⟨ps,s _ _ e,Paired.mapP P λp f e=>s _ _ e⟩
theorem ViewAt.same{H':Hp}{x:Addr}{A:VA}{vw:Vw}(h:ViewAt a H x A vw)(s:Same H H'):ViewAt a H' x A vw:=by
 obtain⟨⟨dx,e⟩,h1,h2,h3,h4,h5,h6,h7,h8,ok⟩:=h
 exact⟨⟨dx,s _ _ e⟩,h1.keep (λv c=>NmV.keep s.tk) (λo=>s _ _),h2.keep (λv c=>RcV.keep s.tk) (λo=>s _ _),h3.keep (λv c=>PcV.keep s.tk) (λo=>s _ _),h4.keep (λv c=>MkV.keep s.tk) (λo=>s _ _),h5.keep (λv c=>MkV.keep s.tk) (λo=>s _ _),s _ _ h6,s _ _ h7,s _ _ h8,ok⟩
theorem LstAt.at{α :Type}{R:Hp->V->Option α ->Prop}{p:Addr}{cs:List (Option α)}{k:Nat}(h:LstAt R H p cs)(hk:k<cs.length):∃ vs v,H p=some (.lst vs)/\vs.length=cs.length/\vs[k]? =some v/\R H v (AF cs k):=by
 obtain⟨vs,e,P⟩:=h
 obtain⟨v,ev,hr⟩:=RJ P (List.getElem?_eq_getElem hk)
 refine⟨vs,v,e,P.length,ev,?_⟩
 unfold AF
 rw[List.getElem?_eq_getElem hk]
 exact hr
theorem KU{l:List Nat}{k:Nat}{m:Nat}(h:l[k]? =some m):(AV l)[k]? =some (.int m):=by
 unfold AV
 rw[List.getElem?_map,h]
 rfl
theorem G9{n k:Nat}{f:Nat->Nat}(h:k<n):((List.range n).map f)[k]? =some (f k):=by
 rw[List.getElem?_map,List.getElem?_range h]
 rfl
theorem FY{p:Addr}{n k:Nat}{f:Nat->Nat}{Q:VK}(h:H p=some (.lst (AV ((List.range n).map f))))(hk:k<n)(q:Q (.int (f k)) H):AK K (.ref p) (.int k) H Q :=
 BU (SqL.of h) (n:=k) rfl (KU (G9 hk)) q
theorem Kv{A:VA}:(vf A).lookup ("name_values":Str)=some (V.ref A.n):=by simp[vf]
theorem PL{A:VA}:(vf A).lookup ("record_values":Str)=some (V.ref A.r):=by
 simp[vf,List.lookup_cons,BH (a:="record_values") (b:="name_values") (by decide +kernel)]
theorem Kw{A:VA}:(vf A).lookup ("piece_values":Str)=some (V.ref A.p):=by
 simp[vf,List.lookup_cons,BH (a:="piece_values") (b:="name_values") (by decide +kernel),BH (a:="piece_values") (b:="record_values") (by decide +kernel)]
theorem iC{A:VA}:(vf A).lookup ("record_marks":Str)=some (V.ref A.rm):=by
 simp[vf,List.lookup_cons,BH (a:="record_marks") (b:="name_values") (by decide +kernel),BH (a:="record_marks") (b:="record_values") (by decide +kernel),BH (a:="record_marks") (b:="piece_values") (by decide +kernel)]
theorem iD{A:VA}:(vf A).lookup ("piece_marks":Str)=some (V.ref A.pm):=by
 simp[vf,List.lookup_cons,BH (a:="piece_marks") (b:="name_values") (by decide +kernel),BH (a:="piece_marks") (b:="record_values") (by decide +kernel),BH (a:="piece_marks") (b:="piece_values") (by decide +kernel),BH (a:="piece_marks") (b:="record_marks") (by decide +kernel)]
theorem UE{A:VA}:(vf A).lookup ("leads":Str)=some (V.ref A.ld):=by
 simp[vf,List.lookup_cons,BH (a:="leads") (b:="name_values") (by decide +kernel),BH (a:="leads") (b:="record_values") (by decide +kernel),BH (a:="leads") (b:="piece_values") (by decide +kernel),BH (a:="leads") (b:="record_marks") (by decide +kernel),BH (a:="leads") (b:="piece_marks") (by decide +kernel)]
theorem iE{A:VA}:(vf A).lookup ("namings":Str)=some (V.ref A.ng):=by
 simp[vf,List.lookup_cons,BH (a:="namings") (b:="name_values") (by decide +kernel),BH (a:="namings") (b:="record_values") (by decide +kernel),BH (a:="namings") (b:="piece_values") (by decide +kernel),BH (a:="namings") (b:="record_marks") (by decide +kernel),BH (a:="namings") (b:="piece_marks") (by decide +kernel),BH (a:="namings") (b:="leads") (by decide +kernel)]
theorem Kx{A:VA}:(vf A).lookup ("reached":Str)=some (V.ref A.rh):=by
 simp[vf,List.lookup_cons,BH (a:="reached") (b:="name_values") (by decide +kernel),BH (a:="reached") (b:="record_values") (by decide +kernel),BH (a:="reached") (b:="piece_values") (by decide +kernel),BH (a:="reached") (b:="record_marks") (by decide +kernel),BH (a:="reached") (b:="piece_marks") (by decide +kernel),BH (a:="reached") (b:="leads") (by decide +kernel),BH (a:="reached") (b:="namings") (by decide +kernel)]
theorem JG{A:VA}{x:Str}(h:(EB x "name_values" || EB x "record_values" || EB x "piece_values" || EB x "record_marks" || EB x "piece_marks" || EB x "leads" || EB x "namings" || EB x "reached")=false):(vf A).lookup x=none:=by
 simp only[Bool.or_eq_false_iff]at h
 obtain⟨⟨⟨⟨⟨⟨⟨h1,h2⟩,h3⟩,h4⟩,h5⟩,h6⟩,h7⟩,h8⟩:=h
 simp[vf,List.lookup_cons,BH h1,BH h2,BH h3,BH h4,BH h5,BH h6,BH h7,BH h8]
section
variable{tt:TT}{te:TE}{cap:List Nat}{σ:St}
theorem GM{H0 H':Hp}{l:Addr}{o:HO}(s:Same H0 H')(h:H' l=none):Same H0 (upd H' l o):=s.trans (AY h)
def FnW(H:Hp)(is:List Nat)(p:Nat->Bool)(f:Nat->List V)(i:Nat)(ys:List V)(H':Hp):Prop:=Same H H'/\∃ ps:List Addr,ys=ps.map V.ref/\Paired (λq g=>H' q=some (.tup g)) ps (((is.take i).filter p).map f)
theorem ED{α :Type}{l:List α}{i:Nat}{x: α}(h:l[i]? =some x):l.take (i+1)=l.take i++[x]:=by
 obtain⟨g1,g2⟩:=List.getElem?_eq_some_iff.mp h
 rw[<-g2,List.take_append_getElem]
theorem FnW.yes{is:List Nat}{p:Nat->Bool}{f:Nat->List V}{i k:Nat}{ys:List V}{H':Hp}{t:Addr}(h:FnW H is p f i ys H')(hk:is[i]? =some k)(hp:p k=true)(ht:H' t=none):FnW H is p f (i+1) (ys++[.ref t]) (upd H' t (.tup (f k))):=by
 obtain⟨s,ps,e,P⟩:=h
 refine⟨GM s ht,ps++[t],by rw[e,List.map_append];rfl,?_⟩
 rw[ED hk,List.filter_append,List.map_append]
 have:([k].filter p).map f=[f k]:=by simp[hp]
 rw[this]
 exact Paired.snoc (Paired.mapP P λq g e=>AY ht _ _ e) AS
theorem FnW.no{is:List Nat}{p:Nat->Bool}{f:Nat->List V}{i k:Nat}{ys:List V}{H':Hp}(h:FnW H is p f i ys H')(hk:is[i]? =some k)(hp:p k=false):FnW H is p f (i+1) ys H':=by
 obtain⟨s,ps,e,P⟩:=h
 refine⟨s,ps,e,?_⟩
 rw[ED hk,List.filter_append,List.map_append]
 have:([k].filter p).map f=[]:=by simp[hp]
 rw[this,List.append_nil]
 exact P
theorem FnW.len{is:List Nat}{p:Nat->Bool}{f:Nat->List V}{i:Nat}{ys:List V}{H':Hp}(h:FnW H is p f i ys H'):ys.length<=i:=by
 obtain⟨s,ps,e,P⟩:=h
 rw[e,List.length_map,P.length,List.length_map]
 exact Nat.le_trans (List.length_filter_le ..) (by rw[List.length_take];omega)
theorem FnW.fin{is:List Nat}{p:Nat->Bool}{f:Nat->List V}{ys:List V}{H':Hp}{l:Addr}(h:FnW H is p f is.length ys H')(hl:H' l=none):H l=none/\Same H (upd H' l (.lst ys))/\FindsL (upd H' l (.lst ys)) l ((is.filter p).map f):=by
 obtain⟨s,ps,e,P⟩:=h
 rw[List.take_length]at P
 subst e
 exact⟨s.free hl,GM s hl,ps,AS,Paired.mapP P λq g e=>AY hl _ _ e⟩
theorem GN{b:Addr}{is:List Nat}(p:Nat->Bool)(f:Nat->List V)(hb:H b=some (.lst (AV is)))(hn:is.length<=1000)
  (ht:∀ k∈is,∀ H',Same H H'->∀ QB:Bool->Hp->Prop,QB (p k) H'->tt (some (.int (k:Int))::BG cap σ) H' QB)
  (he:∀ k∈is,p k=true->∀ H' (Q':VK),Same H H'->(∀ t,H' t=none->Q' (.ref t) (upd H' t (.tup (f k))))->te (some (.int (k:Int))::BG cap σ) H' Q') (hd:newF ((is.filter p).map f) H Q):DI (EG K b) (AN 0) tt te 1 cap σ H Q:=by
 have hl:(AV is).length=is.length:=by simp[AV]
 have at':∀ {i:Nat} {x:V},(AV is)[i]? =some x->∃ k,is[i]? =some k/\x=.int k:=λe=>by
  unfold AV at e
  rw[List.getElem?_map,Option.map_eq_some_iff]at e
  obtain⟨k,h1,h2⟩:=e
  exact⟨k,h1,h2.symm⟩
 refine YG (xs:=AV is) (λi=>match is[i]? with
  | some k=>p k
  | none=>false) (small _ (by omega)) (FnW H is p f) ⟨Same.refl _,[],rfl,.nil⟩ (λi ys H' _ h=>⟨SqL.of (h.1 _ _ hb),h.len⟩) (λi x ys H' hx h QB qb=> ?_) (λi x ys H' hx hp h=> ?_) (λi x ys H' hx hp h=> ?_) (λys H' h q hq=> ?_)
 ·obtain⟨k,ek,rfl⟩:=at' hx
  simp only[ek]at qb
  exact ht k (List.mem_of_getElem? ek) H' h.1 QB qb
 ·obtain⟨k,ek,rfl⟩:=at' hx
  simp only[ek]at hp
  exact he k (List.mem_of_getElem? ek) hp H' _ h.1 λt ht0=>h.yes ek hp ht0
 ·obtain⟨k,ek,rfl⟩:=at' hx
  simp only[ek]at hp
  exact h.no ek hp
 ·rw[hl]at h
  obtain⟨h1,h2,h3⟩:=h.fin hq
  exact hd q _ h1 h2 h3
theorem Ky{n:Nat}(p:Nat->Bool)(f:Nat->List V)(hn:n<=1000)
  (ht:∀ k,k<n->∀ H',Same H H'->∀ QB:Bool->Hp->Prop,QB (p k) H'->tt (some (.int (k:Int))::BG cap σ) H' QB)
  (he:∀ k,k<n->p k=true->∀ H' (Q':VK),Same H H'->(∀ t,H' t=none->Q' (.ref t) (upd H' t (.tup (f k))))->te (some (.int (k:Int))::BG cap σ) H' Q') (hd:newF (B3 n p f) H Q):DI (DV 0 n) (AN 0) tt te 1 cap σ H Q:=by
 refine uI (n:=n) p (small _ (by omega)) (FnW H (List.range n) p f) ⟨Same.refl _,[],rfl,.nil⟩ (λi ys H' _ h=>h.len) (λi ys H' hi h QB qb=>ht i hi H' h.1 QB qb) (λi ys H' hi hp h=>he i hi hp H' _ h.1 λt ht0=>h.yes (List.getElem?_range hi) hp ht0) (λi ys H' hi hp h=>h.no (List.getElem?_range hi) hp) (λys H' h q hq=> ?_)
 have h:FnW H (List.range n) p f (List.range n).length ys H':=by rw[List.length_range];exact h
 obtain⟨h1,h2,h3⟩:=h.fin hq
 exact hd q _ h1 h2 h3
theorem NW{b:Addr}{xs:List V}(p:Nat->Bool)(hb:H b=some (.lst xs))(hn:xs.length<=1000)
  (ht:∀ i x,xs[i]? =some x->∀ H',Same H H'->∀ QB:Bool->Hp->Prop,QB (p i) H'->tt (some (.int (i:Int))::some x::BG cap σ) H' QB) (hd:newL (AV ((List.range xs.length).filter p)) H Q):DI (IQ K b) (FB K 2 (DL (AN 0) (DL (AN 1) FA))) tt (AA 0) 2 cap σ H Q:=by
 refine YH (xs:=xs) p (small _ (by omega)) (λi ys H'=>Same H H'/\ys=AV ((List.range i).filter p)) ⟨Same.refl _,rfl⟩ (λi ys H' _ ⟨s,e⟩=>⟨SqL.of (s _ _ hb),?_⟩) (λi ys H' t o ⟨s,e⟩ h=>⟨GM s h,e⟩) (λi x ys H' hx ⟨s,e⟩ QB qb=>ht i x hx H' s QB qb) (λi x ys H' hx hp ⟨s,e⟩=>by rw[RI];exact⟨s,by rw[e];unfold AV;rw[List.range_succ,List.filter_append,List.map_append];simp[hp]⟩) (λi x ys H' hx hp ⟨s,e⟩=>⟨s,?_⟩) (λys H' ⟨s,e⟩ q hq=> ?_)
 ·rw[e]
  unfold AV
  rw[List.length_map]
  exact Nat.le_trans (List.length_filter_le ..) (by rw[List.length_range];omega)
 ·rw[e]
  unfold AV
  rw[List.range_succ,List.filter_append,List.map_append]
  simp[hp]
 ·subst e
  exact hd q _ (s.free hq) (GM s hq) AS
end
theorem ViewAt.rl{x:Addr}{A:VA}{vw:Vw}(h:ViewAt a H x A vw):∃ vs,H A.r=some (.lst vs)/\vs.length=vw.rc.length:=by
 obtain⟨vs,e,P⟩:=h.r
 exact⟨vs,e,P.length⟩
theorem IB{v:V}{c:EY}(h:RcV H v c):decide (v=.non)=c.isNone:=by
 cases c with
 | none=>rw[show v=.non from h];rfl
 | some c=>obtain⟨p,q,rfl,_⟩:=h;rfl
theorem UF{v:V}{c:GJ}(h:NmV H v c):decide (v=.non)=c.isNone:=by
 cases c with
 | none=>rw[show v=.non from h];rfl
 | some c=>obtain⟨p,rfl,_⟩:=h;rfl
theorem iF{v:V}{c:Option Str}(h:PcV H v c):decide (v=.non)=c.isNone:=by
 cases c with
 | none=>rw[show v=.non from h];rfl
 | some c=>rw[show v=.str c from h];rfl
theorem Kz(h:IX K a vs H Q E):R7 K a (λ_=>E) (A7 Q) (A6 ["self","record"] vs) H:=by
 obtain⟨x,A,vw,r,c,rfl,T,I,hc,q⟩:=h
 obtain⟨dx,e⟩:=I.ob
 have hr:r<vw.rc.length:=by
  unfold AF at hc
  cases e2:vw.rc[r]? with
  | none=>rw[e2]at hc;cases hc
  | some _=>exact(List.getElem?_eq_some_iff.mp e2).1
 obtain⟨us,v,e1,hl,ev,hv⟩:=I.r.at hr
 rw[hc]at hv
 obtain⟨p,q',rfl,h1,h2⟩:=hv
 push_cast[R7,↓uX]
 exact⟨_,_,_,e,T.cl,T.n2,_,PL,BU (SqL.of e1) (n:=r) rfl ev (CP h1 (n:=0) rfl rfl q)⟩
theorem Lb(h:IX K a vs H Q E):vs.length=2:=by
 obtain⟨_,_,_,_,_,rfl,_⟩:=h
 rfl
theorem Lc(h:IW K a vs H Q E):R5 K a (λ_=>E) (A7 Q) (A6 ["self"] vs) H:=by
 obtain⟨x,A,vw,rfl,T,I,q⟩:=h
 obtain⟨dx,e⟩:=I.ob
 obtain⟨us,e1,P⟩:=I.r
 have br:=I.ok.br
 have hl:=P.length
 push_cast[R5,↓uV]
 refine⟨_,_,_,e,T.cl,T.n2,_,PL,A.r,rfl,⟨_,SqL.of e1⟩,NW (λr=>(AF vw.rc r).isSome) e1 (by omega) (λi v hv H' s QB qb=> ?_) ?_⟩
 ·have hi:=(List.getElem?_eq_some_iff.mp hv).1
  obtain⟨us',v',e1',_,ev,hr⟩:=I.r.at (k:=i) (by omega)
  rw[e1]at e1';cases e1'
  rw[hv]at ev;cases ev
  push_cast[]
  rw[IB hr]
  simpa using qb
 ·rw[hl];exact q
theorem Ld(h:IW K a vs H Q E):vs.length=1:=by
 obtain⟨_,_,_,rfl,_⟩:=h
 rfl
theorem PM(n:Nat):decide ((0:Int)<(n:Int))=decide (0<n):=by simp
theorem Lg(n:Nat):decide ((1:Int)<(n:Int))=decide (1<n):=by
 rw[decide_eq_decide];omega
theorem iG(n:Nat):decide ((n:Int)=(0:Int))=decide (n=0):=by simp
theorem B4(l:List Nat):(AV l).length=l.length:=by simp[AV]
theorem FZ(n:Nat)(f:Nat->Nat):((List.range n).map f).length=n:=by simp
theorem Lh(h:HY K a vs H Q E):R6 K a (λ_=>E) (A7 Q) (A6 ["self"] vs) H:=by
 obtain⟨x,A,vw,rfl,T,I,q⟩:=h
 obtain⟨dx,e⟩:=I.ob
 have bp:=I.ok.bp
 have e1:=I.ng
 push_cast[R6,↓uW]
 refine⟨_,_,_,e,T.cl,T.n7,_,iE,A.ng,rfl,⟨_,SqL.of e1⟩,NW (λp=>decide (0<CC vw p)) e1 (by rw[B4,FZ];omega) (λi v hv H' s QB qb=> ?_) ?_⟩
 ·have hi:=(List.getElem?_eq_some_iff.mp hv).1
  rw[B4,FZ]at hi
  rw[KU (G9 hi)]at hv
  cases hv
  push_cast[]
  rw[PM]
  exact qb
 ·rw[B4,FZ];exact q
theorem Lj(h:HY K a vs H Q E):vs.length=1:=by
 obtain⟨_,_,_,rfl,_⟩:=h
 rfl
theorem Ll(h:NB K a vs H Q E):R4 K a (λ_=>E) (A7 Q) (A6 ["self"] vs) H:=by
 obtain⟨x,ar,al,vw,rfl,T,⟨dx,fs,e,l1⟩,⟨dx',fs',e',l2⟩,hr,hal,br,q⟩:=h
 rw[e]at e'
 cases e'
 have hr':=hr
 obtain⟨us,e1,P⟩:=hr
 have hl:=P.length
 push_cast[R4,↓uU]
 refine⟨_,_,_,e,T.cl,T.n2,_,l1,ar,rfl,⟨_,SqL.of e1⟩,?_⟩
 refine YH (xs:=us) (λr=>decide (0<led vw r)) (small _ (by omega)) (λi ys H'=>Same H H'/\Paired (RcV H') ys (((List.range i).filter λr=>decide (0<led vw r)).map (AF vw.rc))) ⟨Same.refl _,.nil⟩ (λi ys H' _ ⟨s,e⟩=>⟨SqL.of (s _ _ e1),?_⟩) (λi ys H' t o ⟨s,P'⟩ h=>⟨GM s h,Paired.mapP P' λv c=>RcV.keep (AY h).tk⟩) (λi v ys H' hv ⟨s,P'⟩ QB qb=> ?_) (λi v ys H' hv hp ⟨s,P'⟩=> ?_) (λi v ys H' hv hp ⟨s,P'⟩=>⟨s,?_⟩) (λys H' ⟨s,P'⟩ p hp=> ?_)
 ·rw[e.length,List.length_map]
  exact Nat.le_trans (List.length_filter_le ..) (by rw[List.length_range];omega)
 ·have hi:=(List.getElem?_eq_some_iff.mp hv).1
  push_cast[BG]
  refine⟨_,_,_,s _ _ e,T.cl,T.n6,_,l2,FY (s _ _ hal) (by omega) ?_⟩
  push_cast[]
  rw[PM]
  exact qb
 ·have hi:=(List.getElem?_eq_some_iff.mp hv).1
  obtain⟨us',v',e1',_,ev,hrv⟩:=hr'.at (k:=i) (by omega)
  rw[e1]at e1';cases e1'
  rw[hv]at ev;cases ev
  push_cast[]
  refine⟨s,?_⟩
  rw[List.range_succ,List.filter_append,List.map_append]
  have:(([i].filter λr=>decide (0<led vw r)).map (AF vw.rc))=[AF vw.rc i]:=by simp[hp]
  rw[this]
  exact Paired.snoc P' (RcV.keep s.tk hrv)
 ·rw[List.range_succ,List.filter_append,List.map_append]
  have:(([i].filter λr=>decide (0<led vw r)).map (AF vw.rc))=[]:=by simp[hp]
  rw[this,List.append_nil]
  exact P'
 ·rw[hl]at P'
  exact q p _ (s.free hp) (GM s hp) ⟨ys,AS,Paired.mapP P' λv c=>RcV.keep (AY hp).tk⟩
theorem Lm(h:NB K a vs H Q E):vs.length=1:=by
 obtain⟨_,_,_,_,rfl,_⟩:=h
 rfl
theorem UG{H0:Hp}{v:V}{c:Option Int}{Q:VK}(h:MkV H0 v c)(q:Q (.bl (decide (c=some 1))) H):BM K v (.int 1) H Q:=by
 cases c with
 | none =>
  rw[show v=.non from h,XO]
  simpa using q
 | some j =>
  rw[show v=.int j from h,XN]
  simpa using q
theorem iH{H0:Hp}{v:V}{c:Option Int}{Q:VK}(h:MkV H0 v c)(q:Q (.bl (!decide (c=some 1))) H):CO K v (.int 1) H Q:=by
 cases c with
 | none =>
  rw[show v=.non from h,XR]
  simpa using q
 | some j =>
  rw[show v=.int j from h,XQ]
  simpa using q
theorem FJ{n:Nat}{p q r:Nat->Bool}{f:Nat->List V}(h:∀ k,k<n->(p k && q k)=r k):(((List.range n).filter p).filter q).map f=B3 n r f:=by
 unfold B3
 rw[List.filter_filter]
 congr 1
 refine List.filter_congr λk hk=> ?_
 rw[Bool.and_comm]
 exact h k (List.mem_range.mp hk)
theorem F0{n:Nat}{p:Nat->Bool}(h:n<=100):((List.range n).filter p).length<=1000:=Nat.le_trans (List.length_filter_le ..) (by rw[List.length_range];omega)
theorem DJ{n k:Nat}{p:Nat->Bool}(h:k∈(List.range n).filter p):k<n/\p k=true:=by
 obtain⟨h1,h2⟩:=List.mem_filter.mp h
 exact⟨List.mem_range.mp h1,h2⟩
theorem newF.of{fs:List (List V)}{H1:Hp}(q:newF fs H Q)(s:Same H H1):newF fs H1 Q:=λl H' hl s' F=>q l H' (s.free hl) (s.trans s') F
theorem newL.of{xs:List V}{H1:Hp}(q:newL xs H Q)(s:Same H H1):newL xs H1 Q:=λl H' hl s' F=>q l H' (s.free hl) (s.trans s') F
theorem Lp(h:NG K a vs H Q E):SA K a (λ_=>E) (A7 Q) (A6 ["view","marked"] vs) H:=by
 obtain⟨x,A,vw,rfl,T,I,q⟩:=h
 obtain⟨dx,e⟩:=I.ob
 obtain⟨us,e1,P⟩:=I.pm
 have bp:=I.ok.bp
 have l2:=I.ok.l2
 have hl:=P.length
 push_cast[SA,↓vI]
 refine⟨_,_,_,e,T.cl,T.n5,_,iD,A.pm,rfl,⟨_,SqL.of e1⟩,NW (λp=>decide (AF vw.pm p=some 1)) e1 (by omega) (λi v hv H' s QB qb=> ?_) λl H1 hl1 s1 el=> ?_⟩
 ·have hi:=(List.getElem?_eq_some_iff.mp hv).1
  obtain⟨us',v',e1',_,ev,hr⟩:=I.pm.at (k:=i) (by omega)
  rw[e1]at e1';cases e1'
  rw[hv]at ev;cases ev
  push_cast[]
  exact UG hr ⟨_,rfl,qb⟩
 ·rw[hl,l2]at el
  push_cast[↓vJ]
  refine .inl ⟨⟨_,SqL.of el⟩,GN (λp=>decide (E3 vw p=0)) (λp=>[.str "left",.str "piece",.int p]) el (F0 bp) (λk hk H' s QB qb=> ?_) (λk hk hp H' Q' s q'=> ?_) ?_⟩
  ·obtain⟨hk,_⟩:=DJ hk
   have s':=s1.trans s
   push_cast[BG]
   refine⟨_,_,_,s' _ _ e,T.cl,T.n8,_,Kx,FY (s' _ _ I.rh) hk ?_⟩
   push_cast[]
   rw[iG]
   exact qb
  ·push_cast[]
   exact⟨by decide,q'⟩
  ·rw[FJ λk _=>rfl]
   exact q.of s1
theorem Lq(h:NG K a vs H Q E):vs.length=1:=by
 obtain⟨_,_,_,rfl,_⟩:=h
 rfl
theorem Lv(h:NH K a vs H Q E):SB K a (λ_=>E) (A7 Q) (A6 ["view","marked"] vs) H:=by
 obtain⟨x,A,vw,rfl,T,I,q⟩:=h
 obtain⟨dx,e⟩:=I.ob
 obtain⟨us,e1,P⟩:=I.rm
 have bp:=I.ok.br
 have l2:=I.ok.l1
 have hl:=P.length
 push_cast[SB,↓vK]
 refine⟨_,_,_,e,T.cl,T.n4,_,iC,A.rm,rfl,⟨_,SqL.of e1⟩,NW (λp=>decide (AF vw.rm p=some 1)) e1 (by omega) (λi v hv H' s QB qb=> ?_) λl H1 hl1 s1 el=> ?_⟩
 ·have hi:=(List.getElem?_eq_some_iff.mp hv).1
  obtain⟨us',v',e1',_,ev,hr⟩:=I.rm.at (k:=i) (by omega)
  rw[e1]at e1';cases e1'
  rw[hv]at ev;cases ev
  push_cast[]
  exact UG hr ⟨_,rfl,qb⟩
 ·rw[hl,l2]at el
  push_cast[↓vL]
  refine .inl ⟨⟨_,SqL.of el⟩,GN (λr=>(AF vw.rc r).isNone) (λr=>[.str "marked",.int r]) el (F0 bp) (λk hk H' s QB qb=> ?_) (λk hk hp H' Q' s q'=> ?_) ?_⟩
  ·obtain⟨hk,_⟩:=DJ hk
   have s':=s1.trans s
   have I':=I.same s'
   obtain⟨us',v',e1',_,ev,hr⟩:=I'.r.at hk
   push_cast[BG]
   refine⟨_,_,_,s' _ _ e,T.cl,T.n2,_,PL,BU (SqL.of e1') (n:=k) rfl ev ?_⟩
   push_cast[]
   rw[IB hr]
   exact qb
  ·push_cast[]
   exact⟨by decide,q'⟩
  ·rw[FJ λk _=>rfl]
   exact q.of s1
theorem Lw(h:NH K a vs H Q E):vs.length=1:=by
 obtain⟨_,_,_,rfl,_⟩:=h
 rfl
theorem iI{α β :Type}{F: α -> β ->Prop}:∀ {l l':List α} {m m':List β},Paired F l m->Paired F l' m'->Paired F (l++l') (m++m')
 | _,_,_,_,.nil,h=>h
 | _,_,_,_,.cons x r,h=>.cons x (iI r h)
theorem C3{n:Nat}{p:Nat->Bool}{f:Nat->List V}(h:n<=100):(B3 n p f).length<=100:=by
 unfold B3
 rw[List.length_map]
 exact Nat.le_trans (List.length_filter_le ..) (by rw[List.length_range];exact h)
theorem E7{l1 l2:Addr}{f1 f2:List (List V)}{Q:VK}(h1:FindsL H l1 f1)(h2:FindsL H l2 f2)(hn:f1.length+f2.length<=10000)(q:newF (f1++f2) H Q):BC K (.ref l1) (.ref l2) H Q:=by
 obtain⟨p1,e1,P1⟩:=h1
 obtain⟨p2,e2,P2⟩:=h2
 refine .inl ⟨l1,l2,_,_,rfl,rfl,e1,e2,small _ (by rw[List.length_map,List.length_map,P1.length,P2.length];omega),λp hp=> ?_⟩
 exact q p _ hp (AY hp) ⟨p1++p2,by rw[AS,List.map_append],Paired.mapP (iI P1 P2) λx f e=>AY hp _ _ e⟩
theorem NX{vw:Vw}(ok:NA vw):(EL vw).length<=200/\(EM vw).length<=300/\(EN vw).length<=200/\(IS vw).length<=200/\(IT vw).length<=100/\(IU vw).length<=100:=by
 have i1:=@C3
 unfold EL EM EN IS IT IU
 simp only[List.length_append]
 have a1:=C3 (p:=D0 vw) (f:=λk=>[.str "lost",.int k]) ok.bn
 have a2:=C3 (p:=EC vw) (f:=λk=>[.str "twice",.int k]) ok.bn
 have a3:=C3 (p:=λp=>decide (1<CC vw p)) (f:=λp=>[.str "shared",.int p]) ok.bp
 have a4:=C3 (p:=λp=>decide (0<CC vw p) && (AF vw.pc p).isNone) (f:=λp=>[.str "empty",.int p]) ok.bp
 have a5:=C3 (p:=E4 vw) (f:=λr=>[.str "few",.int r]) ok.br
 have a6:=C3 (p:=λr=>decide (0<led vw r) && !decide (AF vw.rm r=some 1)) (f:=λr=>[.str "free",.str "record",.int r]) ok.br
 have a7:=C3 (p:=λp=>decide (0<CC vw p) && !decide (AF vw.pm p=some 1)) (f:=λp=>[.str "free",.str "piece",.int p]) ok.bp
 have a8:=C3 (p:=EK vw) (f:=λr=>[.str "many",.int r,.int (led vw r)]) ok.br
 have a9:=C3 (p:=λr=>(AF vw.rc r).isSome && decide (led vw r=0)) (f:=λr=>[.str "left",.str "record",.int r]) ok.br
 have b1:=C3 (p:=λp=>decide (AF vw.pm p=some 1) && decide (E3 vw p=0)) (f:=λp=>[.str "left",.str "piece",.int p]) ok.bp
 have b2:=C3 (p:=λr=>decide (AF vw.rm r=some 1) && (AF vw.rc r).isNone) (f:=λr=>[.str "marked",.int r]) ok.br
 omega
theorem Lx(h:IY K a vs H Q E):TC K a (λ_=>E) (A7 Q) (A6 ["view"] vs) H:=by
 obtain⟨x,A,vw,rfl,T,I,q⟩:=h
 obtain⟨n1,n2,n3,_⟩:=NX I.ok
 push_cast[TC,↓zN]
 refine⟨x,A,vw,rfl,T,I,λl1 H1 h1 s1 F1=>⟨x,A,vw,rfl,T,I.same s1,λl2 H2 h2 s2 F2=>E7 (F1.same s2) F2 (by omega) λl3 H3 h3 s3 F3=>⟨x,A,vw,rfl,T,I.same ((s1.trans s2).trans s3),λl4 H4 h4 s4 F4=>E7 (F3.same s4) F4 (by simp only[List.length_append];omega) ?_⟩⟩⟩
 exact q.of (((s1.trans s2).trans s3).trans s4)
theorem Ly(h:IY K a vs H Q E):vs.length=1:=by
 obtain⟨_,_,_,rfl,_⟩:=h
 rfl
theorem Lz(h:NI K a vs H Q E):TD K a (λ_=>E) (A7 Q) (A6 ["view"] vs) H:=by
 obtain⟨x,A,vw,rfl,T,I,q⟩:=h
 obtain⟨_,_,_,n1,n2,n3⟩:=NX I.ok
 push_cast[TD,↓zO]
 refine⟨x,A,vw,rfl,T,I,λl1 H1 h1 s1 F1=>⟨x,A,vw,rfl,T,I.same s1,λl2 H2 h2 s2 F2=>E7 (F1.same s2) F2 (by omega) λl3 H3 h3 s3 F3=>⟨x,A,vw,rfl,T,I.same ((s1.trans s2).trans s3),λl4 H4 h4 s4 F4=>E7 (F3.same s4) F4 (by simp only[List.length_append];omega) ?_⟩⟩⟩
 exact q.of (((s1.trans s2).trans s3).trans s4)
theorem Mb(h:NI K a vs H Q E):vs.length=1:=by
 obtain⟨_,_,_,rfl,_⟩:=h
 rfl
theorem Mc(h:NE K a vs H Q E):ST K a (λ_=>E) (A7 Q) (A6 ["view","led_to","records","pieces"] vs) H:=by
 obtain⟨x,A,vw,rfl,T,I,q⟩:=h
 obtain⟨dx,e⟩:=I.ob
 have br:=I.ok.br
 have bp:=I.ok.bp
 push_cast[ST,↓xB]
 refine⟨_,_,_,e,T.cl,T.n6,_,UE,A.ld,rfl,⟨_,SqL.of I.ld⟩,NW (λp=>decide (0<led vw p)) I.ld (by rw[B4,FZ];omega) (λi v hv H' s QB qb=> ?_) λl H1 hl1 s1 el=> ?_⟩
 ·have hi:=(List.getElem?_eq_some_iff.mp hv).1
  rw[B4,FZ]at hi
  rw[KU (G9 hi)]at hv
  cases hv
  push_cast[]
  rw[PM]
  exact qb
 ·rw[B4,FZ]at el
  push_cast[↓xC]
  refine .inl ⟨⟨_,SqL.of el⟩,GN (λr=> !decide (AF vw.rm r=some 1)) (λr=>[.str "free",.str "record",.int r]) el (F0 br) (λk hk H' s QB qb=> ?_) (λk hk hp H' Q' s q'=> ?_) ?_⟩
  ·obtain⟨hk,_⟩:=DJ hk
   have s':=s1.trans s
   have I':=I.same s'
   obtain⟨us',v',e1',_,ev,hr⟩:=I'.rm.at (k:=k) (by rw[I.ok.l1];exact hk)
   push_cast[BG]
   refine⟨_,_,_,s' _ _ e,T.cl,T.n4,_,iC,BU (SqL.of e1') (n:=k) rfl ev ?_⟩
   exact iH hr ⟨_,rfl,qb⟩
  ·push_cast[]
   exact⟨by decide,q'⟩
  rw[FJ λk _=>rfl]
  intro l2 H2 hl2 s2 F2
  have I2:=I.same (s1.trans s2)
  obtain⟨dx2,e2⟩:=I2.ob
  push_cast[↓xD]
  refine⟨_,_,e2,JG (by decide +kernel),x,A,vw,rfl,T,I2,λl3 H3 hl3 s3 el3=>⟨l3,rfl,.inl ⟨⟨_,SqL.of el3⟩,GN (λp=> !decide (AF vw.pm p=some 1)) (λp=>[.str "free",.str "piece",.int p]) el3 (F0 bp) (λk hk H' s QB qb=> ?_) (λk hk hp H' Q' s q'=> ?_) ?_⟩⟩⟩
  ·obtain⟨hk,_⟩:=DJ hk
   have I':=(I2.same s3).same s
   obtain⟨dx',e'⟩:=I'.ob
   obtain⟨us',v',e1',_,ev,hr⟩:=I'.pm.at (k:=k) (by rw[I.ok.l2];exact hk)
   push_cast[BG]
   refine⟨_,_,_,e',T.cl,T.n5,_,iD,BU (SqL.of e1') (n:=k) rfl ev ?_⟩
   exact iH hr ⟨_,rfl,qb⟩
  ·push_cast[]
   exact⟨by decide,q'⟩
  rw[FJ λk _=>rfl]
  intro l4 H4 hl4 s4 F4
  push_cast[↓xE]
  have n1:=C3 (p:=λr=>decide (0<led vw r) && !decide (AF vw.rm r=some 1)) (f:=λr=>[.str "free",.str "record",.int r]) br
  have n2:=C3 (p:=λp=>decide (0<CC vw p) && !decide (AF vw.pm p=some 1)) (f:=λp=>[.str "free",.str "piece",.int p]) bp
  exact E7 (F2.same (s3.trans s4)) F4 (by omega) (q.of (((s1.trans s2).trans s3).trans s4))
theorem Md(h:NE K a vs H Q E):vs.length=1:=by
 obtain⟨_,_,_,rfl,_⟩:=h
 rfl
theorem Mg(h:ND K a vs H Q E):SS K a (λ_=>E) (A7 Q) (A6 ["view","shared","empty","few"] vs) H:=by
 obtain⟨x,A,vw,rfl,T,I,q⟩:=h
 obtain⟨dx,e⟩:=I.ob
 have br:=I.ok.br
 have bp:=I.ok.bp
 push_cast[SS,↓wX]
 refine⟨_,_,e,JG (by decide +kernel),x,A,vw,rfl,T,I,λl1 H1 hl1 s1 el1=>⟨l1,rfl,.inl ⟨⟨_,SqL.of el1⟩,GN (λp=>decide (1<CC vw p)) (λp=>[.str "shared",.int p]) el1 (F0 bp) (λk hk H' s QB qb=> ?_) (λk hk hp H' Q' s q'=> ?_) ?_⟩⟩⟩
 ·obtain⟨hk,_⟩:=DJ hk
  have I':=(I.same s1).same s
  obtain⟨dx',e'⟩:=I'.ob
  push_cast[BG]
  refine⟨_,_,_,e',T.cl,T.n7,_,iE,FY I'.ng hk ?_⟩
  push_cast[]
  rw[Lg]
  exact qb
 ·push_cast[]
  exact⟨by decide,q'⟩
 rw[FJ (r:=λp=>decide (1<CC vw p)) λk _=>by
  by_cases h:1<CC vw k
  ·simp[h];omega
  ·simp[h]]
 intro l2 H2 hl2 s2 F2
 have I2:=I.same (s1.trans s2)
 obtain⟨dx2,e2⟩:=I2.ob
 push_cast[↓wY]
 refine⟨_,_,e2,JG (by decide +kernel),x,A,vw,rfl,T,I2,λl3 H3 hl3 s3 el3=>⟨l3,rfl,.inl ⟨⟨_,SqL.of el3⟩,GN (λp=>(AF vw.pc p).isNone) (λp=>[.str "empty",.int p]) el3 (F0 bp) (λk hk H' s QB qb=> ?_) (λk hk hp H' Q' s q'=> ?_) ?_⟩⟩⟩
 ·obtain⟨hk,_⟩:=DJ hk
  have I':=(I2.same s3).same s
  obtain⟨dx',e'⟩:=I'.ob
  obtain⟨us',v',e1',_,ev,hr⟩:=I'.p.at hk
  push_cast[BG]
  refine⟨_,_,_,e',T.cl,T.n3,_,Kw,BU (SqL.of e1') (n:=k) rfl ev ?_⟩
  push_cast[]
  rw[iF hr]
  exact qb
 ·push_cast[]
  exact⟨by decide,q'⟩
 rw[FJ λk _=>rfl]
 intro l4 H4 hl4 s4 F4
 have I4:=(I2.same s3).same s4
 obtain⟨dx4,e4⟩:=I4.ob
 push_cast[↓wZ]
 refine⟨_,_,e4,JG (by decide +kernel),x,A,vw,rfl,T,I4,λl5 H5 hl5 s5 el5=>⟨l5,rfl,.inl ⟨⟨_,SqL.of el5⟩,GN (E4 vw) (λr=>[.str "few",.int r]) el5 (F0 br) (λk hk H' s QB qb=> ?_) (λk hk hp H' Q' s q'=> ?_) ?_⟩⟩⟩
 ·obtain⟨hk,hs⟩:=DJ hk
  obtain⟨c,hc⟩:=Option.isSome_iff_exists.mp hs
  have I':=(I4.same s5).same s
  obtain⟨dx',e'⟩:=I'.ob
  push_cast[BG]
  refine⟨_,_,e',JG (by decide +kernel),x,A,vw,k,c,rfl,T,I',hc,_,_,_,e',T.cl,T.n6,_,UE,FY I'.ld hk ?_⟩
  push_cast[]
  unfold E4 at qb
  rw[hc]at qb
  exact qb
 ·push_cast[]
  exact⟨by decide,q'⟩
 rw[FJ (r:=E4 vw) λk _=>by
  unfold E4
  cases AF vw.rc k<;>simp]
 intro l6 H6 hl6 s6 F6
 push_cast[↓xA]
 have n1:=C3 (p:=λp=>decide (1<CC vw p)) (f:=λp=>[.str "shared",.int p]) bp
 have n2:=C3 (p:=λp=>decide (0<CC vw p) && (AF vw.pc p).isNone) (f:=λp=>[.str "empty",.int p]) bp
 have n3:=C3 (p:=E4 vw) (f:=λr=>[.str "few",.int r]) br
 have s26:=((s3.trans s4).trans s5).trans s6
 refine E7 (F2.same s26) (F4.same (s5.trans s6)) (by omega) λl7 H7 hl7 s7 F7=>E7 F7 (F6.same s7) (by simp only[List.length_append];omega) ?_
 exact q.of (((s1.trans s2).trans s26).trans s7)
theorem Mh(h:ND K a vs H Q E):vs.length=1:=by
 obtain⟨_,_,_,rfl,_⟩:=h
 rfl
def TwoL(H:Hp)(l1 l2:Addr)(f1 f2:List (List V))(H':Hp):Prop:=SameBut (λy=>y=l1\/y=l2) H H'/\FindsL H' l1 f1/\FindsL H' l2 f2/\l1≠l2
theorem TwoL.same{l1 l2:Addr}{f1 f2:List (List V)}{H1 H2:Hp}(h:TwoL H l1 l2 f1 f2 H1)(s:Same H1 H2):TwoL H l1 l2 f1 f2 H2:=⟨h.1.trans s.sb,h.2.1.same s,h.2.2.1.same s,h.2.2.2⟩
theorem Mj{l1 l2 t:Addr}{f1 f2:List (List V)}{f:List V}{H':Hp}(h:TwoL H l1 l2 f1 f2 H')(ht:H' t=some (.tup f)):TwoL H l1 l2 (f1++[f]) f2 (upd H' l1 (.lst (((h.2.1).choose++[t]).map V.ref))):=by
 obtain⟨s,F1,F2,n⟩:=h
 have e1:=F1.choose_spec.1
 have P1:=F1.choose_spec.2
 have k:∀ {y:Addr} {g:List V},H' y=some (.tup g)->upd H' l1 (.lst ((F1.choose++[t]).map V.ref)) y=some (.tup g):=λe=>by rw[AW (DU e e1 (by intro z;cases z))];exact e
 refine⟨λy o e ny=>by rw[AW λz=>ny (.inl z)];exact s _ _ e ny,⟨_,AS,Paired.snoc (Paired.mapP P1 λq g e=>k e) (k ht)⟩,?_,n⟩
 obtain⟨p2,e2,P2⟩:=F2
 exact⟨p2,by rw[AW n.symm];exact e2,Paired.mapP P2 λq g e=>k e⟩
theorem TwoL.flip{l1 l2:Addr}{f1 f2:List (List V)}{H':Hp}(h:TwoL H l1 l2 f1 f2 H'):TwoL H l2 l1 f2 f1 H':=⟨h.1.wide λ_=>Or.symm,h.2.2.1,h.2.1,h.2.2.2.symm⟩
theorem PN{l1 l2 t:Addr}{f1 f2:List (List V)}{f:List V}{H':Hp}{Q:VK}(h:TwoL H l1 l2 f1 f2 H')(hn:f1.length<=1000)(ht:H' t=some (.tup f))(q:∀ H2,TwoL H l1 l2 (f1++[f]) f2 H2->Q .non H2):Q3 (.ref l1) [.ref t] H' Q:=by
 have e1:=h.2.1.choose_spec.1
 have P1:=h.2.1.choose_spec.2
 refine⟨l1,_,_,rfl,rfl,e1,Nat.lt_of_lt_of_le (show(h.2.1.choose.map V.ref).length<10000 by rw[List.length_map,P1.length];omega) (by decide),?_⟩
 have:=q _ (Mj h ht)
 rw[List.map_append]at this
 exact this
theorem iJ{n:Nat}{p:Nat->Bool}{f:Nat->List V}:B3 (n+1) p f=if p n=true then B3 n p f++[f n]else B3 n p f:=by
 unfold B3
 rw[List.range_succ,List.filter_append,List.map_append]
 split
 ·rename_i h;simp[h]
 ·rename_i h;simp[h]
def FL(is:List Nat)(p:Nat->Bool)(f:Nat->List V)(i:Nat):List (List V):=((is.take i).filter p).map f
theorem iK{is:List Nat}{p:Nat->Bool}{f:Nat->List V}{i k:Nat}(h:is[i]? =some k):FL is p f (i+1)=if p k=true then FL is p f i++[f k]else FL is p f i:=by
 unfold FL
 rw[ED h,List.filter_append,List.map_append]
 split
 ·rename_i h;simp[h]
 ·rename_i h;simp[h]
theorem iL{is:List Nat}{p:Nat->Bool}{f:Nat->List V}{i:Nat}(h:is.length<=1000):(FL is p f i).length<=1000:=by
 unfold FL
 rw[List.length_map]
 exact Nat.le_trans (List.length_filter_le ..) (by rw[List.length_take];omega)
theorem ViewAt.two{x:Addr}{A:VA}{vw:Vw}{l1 l2:Addr}{f1 f2:List (List V)}{H0 H':Hp}(I:ViewAt a H0 x A vw)(s0:Same H0 H)(n1:H0 l1=none)(n2:H0 l2=none)(W:TwoL H l1 l2 f1 f2 H'):ViewAt a H' x A vw :=
 I.same λy o e=>W.1 _ _ (s0 _ _ e) λz=>by
  rcases z with z | z
  ·rw[z,n1]at e;cases e
  ·rw[z,n2]at e;cases e
theorem Ml(h:NF K a vs H Q E):SU K a (λ_=>E) (A7 Q) (A6 ["view","many","left","record","leads"] vs) H:=by
 obtain⟨x,A,vw,rfl,T,I,q⟩:=h
 have br:=I.ok.br
 push_cast[SU,↓xF,↓xG]
 refine⟨by decide,λl1 hl1=>⟨by decide,λl2 hl2=> ?_⟩⟩
 have n12:l1≠l2:=BX AS hl2
 have s2:Same H (upd (upd H l1 (.lst [])) l2 (.lst [])):=(AY hl1).trans (AY hl2)
 have k1:FindsL (upd (upd H l1 (.lst [])) l2 (.lst [])) l1 []:=⟨[],by rw[AW n12,AS];rfl,.nil⟩
 have k2:FindsL (upd (upd H l1 (.lst [])) l2 (.lst [])) l2 []:=⟨[],AS,.nil⟩
 have f2:H l2=none:=(AY hl1).free hl2
 revert s2 k1 k2
 generalize upd (upd H l1 (.lst [])) l2 (.lst [])=H2
 intro s2 k1 k2
 have I2:=I.same s2
 obtain⟨dx2,e2⟩:=I2.ob
 push_cast[↓xM]
 refine⟨_,_,e2,JG (by decide +kernel),x,A,vw,rfl,T,I2,λl3 H3 hl3 s3 el3=>⟨l3,rfl,.inl ⟨⟨_,SqL.of el3⟩,?_⟩⟩⟩
 have m1:l1≠l3:=λz=>by
  obtain⟨ps,e,_⟩:=k1
  rw[z,hl3]at e;cases e
 have m2:l2≠l3:=λz=>by
  obtain⟨ps,e,_⟩:=k2
  rw[z,hl3]at e;cases e
 have s03:=s2.trans s3
 let is:=(List.range vw.rc.length).filter λr=>(AF vw.rc r).isSome
 have hil:is.length<=1000:=F0 br
 refine KK (xs:=AV is) (λi σ H'=>TwoL H3 l1 l2 (FL is (EK vw) (λr=>[.str "many",.int r,.int (led vw r)]) i) (FL is (λr=>decide (led vw r=0)) (λr=>[.str "left",.str "record",.int r]) i) H'/\∃ y3 y4,σ=[some (.ref x),some (.ref l1),some (.ref l2),y3,y4]) ⟨⟨SameBut.refl _,k1.same s3,k2.same s3,n12⟩,_,_,rfl⟩ (λi σ H' _ ⟨W,_⟩=>SqL.of (W.1 _ _ el3 λz=>z.elim (λz=>m1 z.symm) λz=>m2 z.symm)) (λi v σ H' hx ⟨W,y3,y4,eσ⟩=> ?_) (λσ H' ⟨W,y3,y4,eσ⟩=> ?_)
 ·subst eσ
  unfold AV at hx
  rw[List.getElem?_map,Option.map_eq_some_iff]at hx
  obtain⟨k,hk',rfl⟩:=hx
  obtain⟨hk,hsm⟩:=DJ (List.mem_of_getElem? hk')
  obtain⟨c,hc⟩:=Option.isSome_iff_exists.mp hsm
  have I':=I.two s03 hl1 f2 W
  obtain⟨dx',e'⟩:=I'.ob
  push_cast[↓xH]
  refine⟨_,_,_,e',T.cl,T.n6,_,UE,FY I'.ld hk ?_⟩
  push_cast[↓xL]
  have im:EK vw k=(decide (0<led vw k) && decide ((led vw k:Int)<c.1)):=by unfold EK;rw[hc]
  rw[iK hk',iK hk',im]
  by_cases h0:led vw k=0
  ·refine B1 (by omega) ?_
   push_cast[↓xI]
   obtain⟨ps2,ep2,_⟩:=W.2.2.1
   refine⟨.inl ⟨rfl,_,SqL.of ep2⟩,by decide,λt ht=>PN (W.same (AY ht)).flip (iL hil) AS λH4 W4=> ?_⟩
   have h0':¬ 0<led vw k:=by omega
   rw[decide_eq_false h0',Bool.false_and,if_neg Bool.false_ne_true,if_pos h0]
   exact W4.flip
  ·refine BW (by omega) ?_
   push_cast[↓xK]
   refine⟨_,_,e',JG (by decide +kernel),x,A,vw,k,c,rfl,T,I',hc,?_⟩
   push_cast[]
   by_cases h1:(led vw k:Int)<c.1
   ·refine B1 h1 ?_
    push_cast[↓xJ]
    obtain⟨ps2,ep2,_⟩:=W.2.1
    refine⟨.inl ⟨rfl,_,SqL.of ep2⟩,by decide,λt ht=>PN (W.same (AY ht)) (iL hil) AS λH4 W4=> ?_⟩
    rw[decide_eq_true (show 0<led vw k by omega),decide_eq_true h1,Bool.and_true,if_pos rfl,if_neg h0]
    exact W4
   ·refine BW h1 ?_
    rw[decide_eq_false h1,Bool.and_false,if_neg Bool.false_ne_true,if_neg h0]
    exact W
 ·subst eσ
  push_cast[↓xN]
  rw[B4]at W
  have g1:FL is (EK vw) (λr=>[.str "many",.int r,.int (led vw r)]) is.length=B3 vw.rc.length (EK vw) (λr=>[.str "many",.int r,.int (led vw r)]):=by
   unfold FL
   rw[List.take_length]
   exact FJ λk _=>by
    unfold EK
    cases AF vw.rc k<;>simp
  have g2:FL is (λr=>decide (led vw r=0)) (λr=>[.str "left",.str "record",.int r]) is.length=B3 vw.rc.length (λr=>(AF vw.rc r).isSome && decide (led vw r=0)) (λr=>[.str "left",.str "record",.int r]):=by
   unfold FL
   rw[List.take_length]
   exact FJ λk _=>rfl
  rw[g1,g2]at W
  have n1:=C3 (p:=EK vw) (f:=λr=>[.str "many",.int r,.int (led vw r)]) br
  have n2:=C3 (p:=λr=>(AF vw.rc r).isSome && decide (led vw r=0)) (f:=λr=>[.str "left",.str "record",.int r]) br
  exact E7 W.2.1 W.2.2.1 (by omega) (q.of λy o e=>W.1 _ _ (s03 _ _ e) λz=>by
   rcases z with z | z
   ·rw[z,hl1]at e;cases e
   ·rw[z,f2]at e;cases e)
theorem Mm(h:NF K a vs H Q E):vs.length=1:=by
 obtain⟨_,_,_,rfl,_⟩:=h
 rfl
def KW(vw:Vw)(i:Nat)(s:Str):Bool:=(List.range i).any λj=>match AF vw.nm j with
  | none=>false
  | some d=>decide (d.1=s)
structure NmW(H3:Hp)(vw:Vw)(l1 l2 sn:Addr)(i:Nat)(lo tw:List (List V))(j:Nat)(H':Hp):Prop where
 s:SameBut (λy=>y=l1\/y=l2\/y=sn) H3 H'
 f1:FindsL H' l1 lo
 f2:FindsL H' l2 tw
 d:∃ kvs:List (BD × V),H' sn=some (.dK kvs)/\(∀ s:Str,(CS kvs (.inr s)).isSome=KW vw j s)/\kvs.length<=j
theorem NmW.two{H3:Hp}{vw:Vw}{l1 l2 sn:Addr}{i j:Nat}{lo tw lo' tw':List (List V)}{H' H2:Hp}(h:NmW H3 vw l1 l2 sn i lo tw j H')(n1:sn≠l1)(n2:sn≠l2)(W:TwoL H' l1 l2 lo' tw' H2):NmW H3 vw l1 l2 sn i lo' tw' j H2:=by
 obtain⟨kvs,e,r⟩:=h.d
 exact⟨h.s.trans (W.1.wide λy z=>z.elim .inl λz=>.inr (.inl z)),W.2.1,W.2.2.1,⟨kvs,W.1 _ _ e λz=>z.elim n1 n2,r⟩⟩
theorem NmW.same{H3:Hp}{vw:Vw}{l1 l2 sn:Addr}{i j:Nat}{lo tw:List (List V)}{H' H2:Hp}(h:NmW H3 vw l1 l2 sn i lo tw j H')(s:Same H' H2):NmW H3 vw l1 l2 sn i lo tw j H2:=by
 obtain⟨kvs,e,r⟩:=h.d
 exact⟨h.s.trans s.sb,h.f1.same s,h.f2.same s,⟨kvs,s _ _ e,r⟩⟩
theorem Mp (h:NC K a vs H Q E):R9 K a (λ_=>E) (A7 Q) (A6 ["view","lost","twice","seen","k","value"] vs) H:=by
  obtain⟨x,A,vw,rfl,T,I,q⟩:=h
  have bn:=I.ok.bn
  push_cast[R9,↓uY,↓uZ,↓u0]
  refine⟨by decide,λl1 hl1=>⟨by decide,λl2 hl2 sn hsn=> ?_⟩⟩
  have n12:l1≠l2:=BX AS hl2
  have s2:Same H (upd (upd H l1 (.lst [])) l2 (.lst [])):=(AY hl1).trans (AY hl2)
  have k1:FindsL (upd (upd H l1 (.lst [])) l2 (.lst [])) l1 []:=⟨[],by rw[AW n12,AS];rfl,.nil⟩
  have k2:FindsL (upd (upd H l1 (.lst [])) l2 (.lst [])) l2 []:=⟨[],AS,.nil⟩
  have f2:H l2=none:=(AY hl1).free hl2
  revert hsn s2 k1 k2
  generalize upd (upd H l1 (.lst [])) l2 (.lst [])=H2
  intro hsn s2 k1 k2
  have fsn:=s2.free hsn
  have s3:=AY (o:=.dK []) hsn
  have e3:upd H2 sn (.dK []) sn=some (.dK []):=AS
  revert s3 e3
  generalize upd H2 sn (.dK [])=H3
  intro s3 e3
  have s03:=s2.trans s3
  have I3:=I.same s03
  obtain⟨dx3,ob3⟩:=I3.ob
  obtain⟨us,en,P⟩:=I3.n
  have hl:=P.length
  push_cast[↓vG]
  refine⟨_,_,_,ob3,T.cl,T.n1,_,Kv,A.n,rfl,⟨_,SqL.of en⟩,?_⟩
  have m1:sn≠l1:=λz=>by
    obtain⟨ps,e,_⟩:=k1
    rw[<-z,hsn]at e;cases e
  have m2:sn≠l2:=λz=>by
    obtain⟨ps,e,_⟩:=k2
    rw[<-z,hsn]at e;cases e
  have vi:∀ {H':Hp} {i j:Nat} {lo tw:List (List V)},NmW H3 vw l1 l2 sn i lo tw j H'->ViewAt a H' x A vw:=λh=>I.same λy o e=>h.s _ _ (s03 _ _ e) λz=>by
    rcases z with z | z | z
    ·rw[z,hl1]at e;cases e
    ·rw[z,f2]at e;cases e
    ·rw[z,fsn]at e;cases e
  have nA:A.n≠l1/\A.n≠l2/\A.n≠sn:=by
    obtain⟨us',e0,_⟩:=I.n
    exact⟨λz=>(by rw[z,hl1]at e0;cases e0),λz=>(by rw[z,f2]at e0;cases e0),λz=>(by rw[z,fsn]at e0;cases e0)⟩
  let LO:=λi=>B3 i (D0 vw) (λk=>[.str "lost",.int k])
  let TW:=λi=>B3 i (EC vw) (λk=>[.str "twice",.int k])
  refine tY (xs:=us) (λi σ H'=>NmW H3 vw l1 l2 sn i (LO i) (TW i) i H'/\∃ y4 y5,σ=[some (.ref x),some (.ref l1),some (.ref l2),some (.ref sn),y4,y5]) ⟨⟨SameBut.refl _,k1.same s3,k2.same s3,[],e3,λ_=>rfl,Nat.le_refl _⟩,_,_,rfl⟩ (λi σ H' _ ⟨W,_⟩=>SqL.of (W.s _ _ en λz=>z.elim nA.1 λz=>z.elim nA.2.1 nA.2.2)) (λi v σ H' t hx ⟨W0,y4,y5,eσ⟩ ht=> ?_) (λσ H' ⟨W,y4,y5,eσ⟩=> ?_)
  · subst eσ
    have hi:=(List.getElem?_eq_some_iff.mp hx).1
    push_cast[]
    refine⟨_,SqT.of AS,rfl,_,_,rfl,_,_,rfl,rfl,?_⟩
    have W:=W0.same (AY (o:=.tup [.int (i:Int),v]) ht)
    revert W
    generalize upd H' t (.tup [.int (i:Int),v])=H4
    intro W
    clear W0
    have I4:=vi W
    obtain⟨dx4,ob4⟩:=I4.ob
    obtain⟨us',v',e1',_,ev,hr⟩:=I4.n.at (k:=i) (by omega)
    rw[W.s _ _ en (λz=>z.elim nA.1 λz=>z.elim nA.2.1 nA.2.2)]at e1';cases e1'
    rw[hx]at ev;cases ev
    have bi:i<=100:=by omega
    have hLO:LO (i+1)=if D0 vw i=true then LO i++[[.str "lost",.int i]]else LO i:=iJ
    have hTW:TW (i+1)=if EC vw i=true then TW i++[[.str "twice",.int i]]else TW i:=iJ
    have n1:(LO i).length<=100:=C3 bi
    have n2:(TW i).length<=100:=C3 bi
    have sS:∀ s:Str,KW vw (i+1) s=(KW vw i s || match AF vw.nm i with
      | none=>false
      | some d=>decide (d.1=s)):=λs=>by
      unfold KW
      rw[List.range_succ,List.any_append]
      simp
    push_cast[↓vF]
    cases hc:AF vw.nm i with
    | none =>
      rw[hc]at hr
      refine BW (λz=>z hr) ?_
      have z1:D0 vw i=false:=by unfold D0;rw[hc]
      have z2:EC vw i=false:=by unfold EC;rw[hc]
      rw[hLO,hTW,z1,z2,if_neg Bool.false_ne_true,if_neg Bool.false_ne_true]
      obtain⟨kvs,ek,hv,hkl⟩:=W.d
      exact⟨W.s,W.f1,W.f2,kvs,ek,λs=>by rw[hv,sS,hc,Bool.or_false],by omega⟩
    | some c =>
      rw[hc]at hr
      obtain⟨p,rfl,hp⟩:=hr
      refine B1 (by simp) ?_
      have hm:some c∈vw.nm:=by
        unfold AF at hc
        cases e2:vw.nm[i]? with
        | none=>rw[e2]at hc;cases hc
        | some y =>
          rw[e2]at hc
          have hc:y=some c:=hc
          exact hc ▸ List.mem_of_getElem? e2
      have hcr:=(I.ok.n1 c hm).1
      have z1:D0 vw i=(AF vw.rc c.2).isNone:=by unfold D0;rw[hc]
      have z2:EC vw i=KW vw i c.1:=by unfold EC KW;simp only[hc]<;>rfl
      have tail:∀ {H5:Hp},NmW H3 vw l1 l2 sn i (LO (i+1)) (TW i) i H5->H5 p=some (.tup [.str c.1,.int c.2])->AQ (R8 K a (λ_=>E) (λ_=>E)) (PJ K a (λ_=>E) (λ_=>E)) { nx:=λσ H'=>NmW H3 vw l1 l2 sn (i+1) (LO (i+1)) (TW (i+1)) (i+1) H'/\∃ y4 y5,σ=[some (V.ref x),some (V.ref l1),some (V.ref l2),some (V.ref sn),y4,y5],rt:=Q,bk:=PK K a (λx=>E) (λx=>E) (A7 Q),ct:=λσ H'=>NmW H3 vw l1 l2 sn (i+1) (LO (i+1)) (TW (i+1)) (i+1) H'/\∃ y4 y5,σ=[some (V.ref x),some (V.ref l1),some (V.ref l2),some (V.ref sn),y4,y5] } [some (V.ref x),some (V.ref l1),some (V.ref l2),some (V.ref sn),some (V.int ↑i),some (V.ref p)] H5:=λ{H5} W5 hp5=>by
        have last:∀ {H6:Hp},NmW H3 vw l1 l2 sn i (LO (i+1)) (TW (i+1)) i H6->H6 p=some (.tup [.str c.1,.int c.2])->PJ K a (λ_=>E) (λ_=>E) { nx:=λσ H'=>NmW H3 vw l1 l2 sn (i+1) (LO (i+1)) (TW (i+1)) (i+1) H'/\∃ y4 y5,σ=[some (V.ref x),some (V.ref l1),some (V.ref l2),some (V.ref sn),y4,y5],rt:=Q,bk:=PK K a (λx=>E) (λx=>E) (A7 Q),ct:=λσ H'=>NmW H3 vw l1 l2 sn (i+1) (LO (i+1)) (TW (i+1)) (i+1) H'/\∃ y4 y5,σ=[some (V.ref x),some (V.ref l1),some (V.ref l2),some (V.ref sn),y4,y5] } [some (V.ref x),some (V.ref l1),some (V.ref l2),some (V.ref sn),some (V.int ↑i),some (V.ref p)] H6:=λ{H6} W6 hp6=>by
          obtain⟨kvs,ek,hv,hkl⟩:=W6.d
          push_cast[↓vE]
          refine CP hp6 (n:=0) rfl rfl ⟨_,pS ek (by omega),?_⟩
          have s7:SameBut (· =sn) H6 (upd H6 sn (.dK (DO kvs (.inr c.1) (.bl true)))):=λy o e ny=>by rw[AW ny];exact e
          obtain⟨q1,g1,P1⟩:=W6.f1
          obtain⟨q2,g2,P2⟩:=W6.f2
          have kt:∀ {y:Addr} {g:List V},H6 y=some (.tup g)->upd H6 sn (.dK (DO kvs (.inr c.1) (.bl true))) y=some (.tup g):=λe=>s7 _ _ e (DU e ek (by intro z;cases z))
          refine⟨W6.s.trans (s7.wide λy z=>.inr (.inr z)),⟨q1,s7 _ _ g1 m1.symm,Paired.mapP P1 λq g e=>kt e⟩,⟨q2,s7 _ _ g2 m2.symm,Paired.mapP P2 λq g e=>kt e⟩,_,AS,λs=> ?_,?_⟩
          · rw[mU,sS,hc,<-hv]
            by_cases z:s=c.1
            ·subst z;simp
            · rw[if_neg (by simpa using z)]
              have:decide (c.1=s)=false:=by simpa using λu=>z (Eq.symm u)
              simp only[this,Bool.or_false]
          · have:=Q6 kvs (.inr c.1) (.bl true)
            omega
        obtain⟨kvs,ek,hv,hkl⟩:=W5.d
        push_cast[↓vD]
        refine CP hp5 (n:=0) rfl rfl ⟨_,dS ek,?_⟩
        rw[hv,<-z2]
        cases hz:EC vw i with
        | true =>
          refine B1 rfl ?_
          push_cast[↓vC]
          obtain⟨ps2,ep2,_⟩:=W5.f2
          refine⟨.inl ⟨rfl,_,SqL.of ep2⟩,by decide,λt2 ht2=> ?_⟩
          have W5':=W5.same (AY (o:=.tup [V.str (Str.ofString "twice"),V.int ↑i]) ht2)
          refine PN (H:=upd H5 t2 (.tup [V.str (Str.ofString "twice"),V.int ↑i])) (l2:=l1) (f2:=LO (i+1)) ⟨SameBut.refl _,W5'.f2,W5'.f1,n12.symm⟩ (by omega) AS λH6 W6=> ?_
          have W7:=W5'.two m1 m2 W6.flip
          rw[show TW i++[[V.str (Str.ofString "twice"),V.int ↑i]]=TW (i+1) by rw[hTW,hz,if_pos rfl]]at W7
          exact last W7 (W6.1 _ _ (AY ht2 _ _ hp5) λz=>by
            rcases z with z | z
            · obtain⟨ps,e,_⟩:=W5.f2
              rw[<-z,hp5]at e;cases e
            · obtain⟨ps,e,_⟩:=W5.f1
              rw[<-z,hp5]at e;cases e)
        | false =>
          refine BW Bool.false_ne_true ?_
          rw[show TW i=TW (i+1) by rw[hTW,hz,if_neg Bool.false_ne_true]]at W5
          exact last W5 hp5
      obtain⟨us2,v2,e2,_,ev2,hr2⟩:=I4.r.at hcr
      push_cast[↓vB]
      refine⟨_,_,_,ob4,T.cl,T.n2,_,PL,CP hp (n:=1) rfl rfl (BU (SqL.of e2) (n:=c.2) rfl ev2 ?_)⟩
      push_cast[]
      have hv2:=IB hr2
      by_cases hz:v2=.non
      · refine B1 hz ?_
        have hz':D0 vw i=true:=by rw[z1,<-hv2];simpa using hz
        push_cast[↓vA]
        obtain⟨ps2,ep2,_⟩:=W.f1
        refine⟨.inl ⟨rfl,_,SqL.of ep2⟩,by decide,λt2 ht2=> ?_⟩
        have W5':=W.same (AY (o:=.tup [V.str (Str.ofString "lost"),V.int ↑i]) ht2)
        refine PN (H:=upd H4 t2 (.tup [V.str (Str.ofString "lost"),V.int ↑i])) (l2:=l2) (f2:=TW i) ⟨SameBut.refl _,W5'.f1,W5'.f2,n12⟩ (by omega) AS λH6 W6=> ?_
        have W7:=W5'.two m1 m2 W6
        rw[show LO i++[[V.str (Str.ofString "lost"),V.int ↑i]]=LO (i+1) by rw[hLO,hz',if_pos rfl]]at W7
        exact tail W7 (W6.1 _ _ (AY ht2 _ _ hp) λz=>by
            rcases z with z | z
            · obtain⟨ps,e,_⟩:=W.f1
              rw[<-z,hp]at e;cases e
            · obtain⟨ps,e,_⟩:=W.f2
              rw[<-z,hp]at e;cases e)
      · refine BW hz ?_
        have hz':D0 vw i=false:=by rw[z1,<-hv2];simpa using hz
        rw[show LO i=LO (i+1) by rw[hLO,hz',if_neg Bool.false_ne_true]]at W
        exact tail W hp
  · subst eσ
    push_cast[↓vH]
    rw[hl]at W
    exact E7 W.f1 W.f2 (by have:=C3 (p:=D0 vw) (f:=λk=>[.str "lost",.int k]) bn;have:=C3 (p:=EC vw) (f:=λk=>[.str "twice",.int k]) bn;show(B3 _ _ _).length+(B3 _ _ _).length<=_;omega) (q.of λy o e=>W.s _ _ (s03 _ _ e) λz=>by
      rcases z with z | z | z
      ·rw[z,hl1]at e;cases e
      ·rw[z,f2]at e;cases e
      ·rw[z,fsn]at e;cases e)
theorem Mq(h:NC K a vs H Q E):vs.length=1:=by
 obtain⟨_,_,_,rfl,_⟩:=h
 rfl
theorem JH{n b:Nat}(h:b<n):GE n (b:Int)=some b:=by
 unfold GE
 rw[if_pos (by omega),if_pos (by omega),Int.toNat_natCast]
theorem GO{α β :Type}{F: α -> β ->Prop}:∀ {l:List α} {m:List β} {i:Nat} {x: α},Paired F l m->l[i]? =some x->∃ y,m[i]? =some y/\F x y
 | _,_,_,_,.nil,h=>by simp at h
 | _,_,0,_,.cons h _,e=>by cases e;exact⟨_,rfl,h⟩
 | _,_,i+1,_,.cons _ r,e=>by
  obtain⟨y,h1,h2⟩:=GO (i:=i) r (by simpa using e)
  exact⟨y,by simpa using h1,h2⟩
theorem Mv(h:GL K a vs H Q E):TF K a (λ_=>E) (A7 Q) (A6 ["plank","places"] vs) H:=by
 obtain⟨gp,cl,pl,w,rows,m,ts,ps,rfl,TP,P,hpl,Pt,hin,hn,q⟩:=h
 have hl:=Pt.length
 push_cast[TF,↓zP]
 refine .inl ⟨⟨_,SqL.of hpl⟩,tS (xs:=ts.map V.ref) (small _ (by rw[List.length_map];omega)) (λi σ' ys H'=>Same H H'/\ys=(ps.take i).map (λij=>HX rows ij.1 ij.2)/\∃ y0 y1,σ'=[y0,y1,some (.ref gp)]) ⟨Same.refl _,rfl,none,none,rfl⟩ (λi σ' ys H' ⟨s,e,_⟩=>⟨SqL.of (s _ _ hpl),by rw[e,List.length_map,List.length_take];omega⟩) (λi x σ' ys H' hi hx ⟨s,e,y0,y1,eσ⟩=> ?_) (λσ' ys H' ⟨s,e,_⟩ p hp=> ?_)⟩
 ·subst eσ
  rw[List.length_map]at hi
  rw[List.getElem?_map,Option.map_eq_some_iff]at hx
  obtain⟨t,ht,rfl⟩:=hx
  obtain⟨ij,eij,et⟩:=GO Pt ht
  have hb:=hin ij (List.mem_of_getElem? eij)
  have P':=P.same s
  obtain⟨dp,hob⟩:=P'.ob
  push_cast[]
  refine⟨_,SqT.of (s _ _ et),rfl,_,_,rfl,_,_,rfl,rfl,?_⟩
  refine⟨λy H4=>Same H H4/\y=HX rows ij.1 ij.2,λy H4 ⟨s4,ey⟩=>tR (by rw[List.length_map];exact hi) ⟨s4,?_⟩,_,_,hob,Hx _ _ _,gp,cl,w,rows,m,ij.1,rfl,TP,P',λb' row eb er l1 hl1=> ?_,λz=>by omega⟩
  ·rw[ey,e,ED eij,List.map_append]
   rfl
  ·obtain rfl:ij.1=b':=by omega
   have hw:=P.wd row (List.mem_of_getElem? er)
   have ej:=List.getElem?_eq_getElem (l:=row) (i:=ij.2) (by omega)
   refine BU (SqL.of AS) (n:=ij.2) rfl ej ⟨GM s hl1,?_⟩
   unfold HX
   rw[er]
   show _=(row[ij.2]?).getD .non
   rw[ej];rfl
 ·rw[List.length_map,hl,List.take_length]at e
  subst e
  exact q p _ (s.free hp) (GM s hp) AS
theorem Mw(h:GL K a vs H Q E):vs.length=2:=by
 obtain⟨_,_,_,_,_,_,_,_,rfl,_⟩:=h
 rfl
theorem Mx(h:IV K a vs H Q E):SC K a (λ_=>E) (A7 Q) (A6 ["many","numbers","counts","number"] vs) H:=by
 obtain⟨many,nl,ks,rfl,hnl,hks,hm,hkn,q⟩:=h
 push_cast[SC,↓vM]
 refine⟨by omega,by omega,sE (small many (by omega)) (λ_=>V.int 0) (λj hj Q' q'=>q') λl hl=> ?_⟩
 have e0:(List.range many).map (λ_=>V.int 0)=AV ((List.range many).map λk=>([]:List Nat).count k):=by
  unfold AV
  rw[List.map_map]
  rfl
 rw[e0]
 have s1:=AY (o:=.lst (AV ((List.range many).map λk=>([]:List Nat).count k))) hl
 have e1:upd H l (.lst (AV ((List.range many).map λk=>([]:List Nat).count k))) l=some (.lst (AV ((List.range many).map λk=>([]:List Nat).count k))):=AS
 have nll:nl≠l:=BX hnl hl
 revert s1 e1
 generalize upd H l (.lst (AV ((List.range many).map λk=>([]:List Nat).count k)))=H1
 intro s1 e1
 push_cast[↓vO]
 refine .inl ⟨⟨_,SqL.of (s1 _ _ hnl)⟩,KK (xs:=AV ks) (λi σ H'=>(Same H H'/\H' l=some (.lst (AV ((List.range many).map λk=>(ks.take i).count k))))/\∃ y,σ=[some (.int many),some (.ref nl),some (.ref l),y]) ⟨⟨s1,e1⟩,_,rfl⟩ (λi σ H' _ ⟨⟨s,_⟩,_⟩=>SqL.of (s _ _ hnl)) (λi v σ H' hx ⟨⟨s,e⟩,y,eσ⟩=> ?_) (λσ H' ⟨⟨s,e⟩,y,eσ⟩=> ?_)⟩
 ·subst eσ
  unfold AV at hx
  rw[List.getElem?_map,Option.map_eq_some_iff]at hx
  obtain⟨k,hk',rfl⟩:=hx
  have hk:=hks k (List.mem_of_getElem? hk')
  push_cast[↓vN]
  refine⟨_,k,rfl,SqL.of e,_,KU (G9 hk),?_⟩
  push_cast[]
  refine⟨l,_,_,k,rfl,rfl,e,JH (by rw[B4,FZ];exact hk),λy o e=>by rw[AW (BX e hl)];exact s _ _ e,?_⟩
  rw[AS]
  congr 2
  unfold AV
  refine List.ext_getElem? λj=> ?_
  by_cases hj:j<many
  ·rw[List.getElem?_map,G9 hj,ED hk',List.count_append]
   by_cases z:k=j
   ·subst z
    rw[List.getElem?_set_self (by simpa using hj)]
    simp
   ·rw[List.getElem?_set_ne z,List.getElem?_map,G9 hj]
    have:List.count j [k]=0:=by simp[z]
    rw[this]
    rfl
  ·rw[List.getElem?_eq_none (by simp;omega),List.getElem?_eq_none (by simp;omega)]
 ·subst eσ
  rw[B4,List.take_length]at e
  push_cast[↓vP]
  exact q l _ hl s e
theorem My(h:IV K a vs H Q E):vs.length=2:=by
 obtain⟨_,_,_,rfl,_⟩:=h
 rfl
theorem Mz (h:KP K a vs H Q E):SD K a (λ_=>E) (A7 Q) (A6 ["records","pieces","value"] vs) H:=by
  obtain⟨rl,cs,rfl,⟨us,hrl,P⟩,hcs,hp,q⟩:=h
  have hl:=P.length
  push_cast[SD,↓vQ]
  refine⟨by decide,λl hl0=> ?_⟩
  have s1:=AY (o:=.lst []) hl0
  have e1:upd H l (.lst []) l=some (.lst (AV (CQ []))):=AS
  revert s1 e1
  generalize upd H l (.lst [])=H1
  intro s1 e1
  have pl:∀ i,(CQ (cs.take i)).length<=i * 10:=λi=>by
    induction i with
    | zero=>exact Nat.le_refl _
    | succ i ih =>
      cases e:cs[i]? with
      | none =>
        rw[List.take_of_length_le (by have:=List.getElem?_eq_none_iff.mp e;omega)]
        rw[List.take_of_length_le (by have:=List.getElem?_eq_none_iff.mp e;omega)]at ih
        omega
      | some c =>
        rw[ED e]
        unfold CQ at ih ⊢
        rw[List.flatMap_append,List.length_append]
        have:(List.flatMap EZ [c]).length<=10:=by
          cases c with
          | none=>simp[EZ]
          | some c =>
            simp[EZ]
            exact hp c (List.mem_of_getElem? e)
        omega
  push_cast[↓vT]
  refine .inl ⟨⟨_,SqL.of (s1 _ _ hrl)⟩,KK (xs:=us) (λi σ H'=>(Same H H'/\H' l=some (.lst (AV (CQ (cs.take i)))))/\∃ y,σ=[some (.ref rl),some (.ref l),y]) ⟨⟨s1,e1⟩,_,rfl⟩ (λi σ H' _ ⟨⟨s,_⟩,_⟩=>SqL.of (s _ _ hrl)) (λi v σ H' hx ⟨⟨s,e⟩,y,eσ⟩=> ?_) (λσ H' ⟨⟨s,e⟩,y,eσ⟩=> ?_)⟩
  · subst eσ
    obtain⟨c,ec,hr⟩:=GO P hx
    have hi:=(List.getElem?_eq_some_iff.mp hx).1
    have pli:=pl i
    have ep:CQ (cs.take (i+1))=CQ (cs.take i)++EZ c:=by
      rw[ED ec]
      unfold CQ
      rw[List.flatMap_append]
      simp
    rw[ep]
    push_cast[↓vS]
    cases c with
    | none =>
      refine BW (λz=>z hr) ?_
      rw[show EZ none=[]from rfl,List.append_nil]
      exact⟨s,e⟩
    | some c =>
      obtain⟨p,t,rfl,h1,h2⟩:=hr
      refine B1 (by simp) ?_
      push_cast[↓vR]
      have hc:=hp c (List.mem_of_getElem? ec)
      refine⟨.inl ⟨rfl,_,SqL.of e⟩,CP (s _ _ h1) (n:=1) rfl rfl ⟨l,t,_,_,rfl,rfl,e,SqT.of (s _ _ h2),small _ (by rw[B4,B4];omega),?_⟩⟩
      refine⟨λy o e=>by rw[AW (BX e hl0)];exact s _ _ e,?_⟩
      rw[AS]
      unfold AV
      rw[List.map_append]
      rfl
  · subst eσ
    rw[hl,List.take_length]at e
    push_cast[↓vU]
    exact q l _ hl0 s e
theorem Nb(h:KP K a vs H Q E):vs.length=1:=by
 obtain⟨_,_,rfl,_⟩:=h
 rfl
theorem iM{w:Nat}:∀ {rows:List (List V)} {b j:Nat},(∀ r∈rows,r.length=w)->b<rows.length->j<w->rows.flatten[b * w+j]? =(rows[b]?).bind (·[j]?)
 | [],b,j,_,hb,_=>by simp at hb
 | r::rs,0,j,h,_,hj=>by
  have hr:=h r List.mem_cons_self
  rw[Nat.zero_mul,Nat.zero_add,List.flatten_cons,List.getElem?_append_left (by omega)]
  rfl
 | r::rs,b+1,j,h,hb,hj=>by
  have hr:=h r List.mem_cons_self
  rw[List.flatten_cons,List.getElem?_append_right (by rw[hr,Nat.succ_mul];omega)]
  have e:(b+1) * w+j - r.length=b * w+j:=by rw[hr,Nat.succ_mul];omega
  rw[e,iM (λr hr=>h r (List.mem_cons_of_mem _ hr)) (by simpa using hb) hj]
  rfl
theorem iN{w:Nat}{rows:List (List V)}{b k n:Nat}(h:∀ r∈rows,r.length=w)(hw:1<=w)(hk:k<n * w)(hb:b+n<=rows.length):(rows.flatten[b * w+k]?)=some (HX rows (b+k / w) (k % w))/\b+k / w<rows.length/\k % w<w:=by
 have h1:k / w<n:=Nat.div_lt_of_lt_mul (by rw[Nat.mul_comm];exact hk)
 have h2:k % w<w:=Nat.mod_lt _ (by omega)
 refine⟨?_,by omega,h2⟩
 have e:b * w+k=(b+k / w) * w+k % w:=by
  rw[Nat.add_mul,Nat.add_assoc,Nat.div_add_mod']
 rw[e,iM h (by omega) h2]
 unfold HX
 have hb':b+k / w<rows.length:=by omega
 rw[List.getElem?_eq_getElem hb']
 have hr:=h _ (List.getElem_mem hb')
 show(rows[b+k / w])[k % w]? =some (((rows[b+k / w])[k % w]?).getD .non)
 rw[List.getElem?_eq_getElem (by omega)]
 rfl
theorem Nd{w:Nat}{rows:List (List V)}{b n:Nat}{pre vs post:List V}(h:∀ r∈rows,r.length=w)(hw:1<=w)(hb:b+n<=rows.length)(e:rows.flatten=pre++vs++post)(hp:pre.length=b * w)(hv:vs.length=n * w):(List.range (n * w)).map (λk=>HX rows (b+k / w) (k % w))=vs:=by
 refine List.ext_getElem? λk=> ?_
 by_cases hk:k<n * w
 ·rw[List.getElem?_map,List.getElem?_range hk]
  have:=(iN h hw hk hb).1
  show some _=_
  rw[<-this,e,List.append_assoc,List.getElem?_append_right (by omega),List.getElem?_append_left (by omega)]
  congr 1
  omega
 ·rw[List.getElem?_eq_none (by simp;omega),List.getElem?_eq_none (by omega)]
theorem Ng{N b w:Nat}{te:TE}{cap:List Nat}{σ:St}(hn:N<=1000)
  (he:∀ k,k<N->∀ H' (Q':VK),Same H H'->(∀ t,H' t=none->Q' (.ref t) (upd H' t (.tup [.int ((b+k / w:Nat):Int),.int ((k % w:Nat):Int)])))->te (some (.int (k:Int))::BG cap σ) H' Q')
  (hd:∀ (pl:Addr) (ts:List Addr) (H':Hp),H pl=none->Same H H'->H' pl=some (.lst (ts.map V.ref))->Paired (λt (ij:Nat × Nat)=>H' t=some (.tup [.int ij.1,.int ij.2])) ts ((List.range N).map λk=>(b+k / w,k % w))->Q (.ref pl) H'):DI (DV 0 N) (AN 0) DA te 1 cap σ H Q:=by
 refine MU (small _ (by omega)) (λi ys H'=>Same H H'/\∃ ts:List Addr,ys=ts.map V.ref/\Paired (λt (ij:Nat × Nat)=>H' t=some (.tup [.int ij.1,.int ij.2])) ts ((List.range i).map λk=>(b+k / w,k % w))) ⟨Same.refl _,[],rfl,.nil⟩ (λi ys H' hi _ ⟨s,ts,e,P⟩=> ?_) (λys H' _ ⟨s,ts,e,P⟩ p hp=> ?_)
 ·rw[Int.zero_add]
  refine he i hi H' _ s λt ht=>⟨GM s ht,ts++[t],by rw[e,List.map_append];rfl,?_⟩
  rw[List.range_succ,List.map_append]
  exact Paired.snoc (Paired.mapP P λt ij e=>AY ht _ _ e) AS
 ·subst e
  exact hd p ts _ (s.free hp) (GM s hp) AS (Paired.mapP P λt ij e=>AY hp _ _ e)
theorem NY{n b w m:Nat}{gp cl:Addr}{rows:List (List V)}{te:TE}{cap:List Nat}{σ:St}{QV:VK}{pre us post:List V}(TP:FI K a)(P:PlankAt a H gp cl w rows m)(hw:1<=w)(hnw:n * w<=1000)(hb:b+n<=rows.length)(e:rows.flatten=pre++us++post)(hp:pre.length=b * w)(hv:us.length=n * w)
  (he:∀ k,k<n * w->∀ H' (Q':VK),Same H H'->(∀ t,H' t=none->Q' (.ref t) (upd H' t (.tup [.int ((b+k / w:Nat):Int),.int ((k % w:Nat):Int)])))->te (some (.int (k:Int))::BG cap σ) H' Q')
  (q:newL us H QV):DI (DV 0 (n * w)) (AN 0) DA te 1 cap σ H (λv H2=>GL K a [.ref gp,v] H2 QV E):=by
 refine Ng hnw he λpl ts H' hpl s epl Pt=> ?_
 refine⟨gp,cl,pl,w,rows,m,ts,_,rfl,TP,P.same s,epl,Pt,λij hij=> ?_,by rw[List.length_map,List.length_range];exact hnw,?_⟩
 ·obtain⟨k,hk,rfl⟩:=List.mem_map.mp hij
  exact(iN P.wd hw (List.mem_range.mp hk) hb).2
 ·rw[List.map_map]
  have:=Nd P.wd hw hb e hp hv
  rw[show((List.range (n * w)).map ((λij:Nat × Nat=>HX rows ij.1 ij.2) ∘ λk=>(b+k / w,k % w)))=us from this]
  exact q.of s
section
variable{u1 u2 u3 u4 u5 u6:V}{DX:List (Str × V)}
theorem Nh:(("name_values",u1)::DX:List (Str × V)).lookup ("name_values":Str)=some u1:=by simp
theorem iO:(("name_values",u1)::("record_values",u2)::DX:List (Str × V)).lookup ("record_values":Str)=some u2:=by
 simp[List.lookup_cons,BH (a:="record_values") (b:="name_values") (by decide +kernel)]
theorem Nj:(("name_values",u1)::("record_values",u2)::("piece_values",u3)::("record_marks",u4)::("piece_marks",u5)::("leads",u6)::DX:List (Str × V)).lookup ("leads":Str)=some u6:=by
 simp[List.lookup_cons,BH (a:="leads") (b:="name_values") (by decide +kernel),BH (a:="leads") (b:="record_values") (by decide +kernel),BH (a:="leads") (b:="piece_values") (by decide +kernel),BH (a:="leads") (b:="record_marks") (by decide +kernel),BH (a:="leads") (b:="piece_marks") (by decide +kernel)]
end
structure VI(a:Ad)(H H':Hp)(x dx:Addr)(fs:List (Str × V)):Prop where
 ob:H' x=some (.ins (a "View") dx fs)
 s:SameBut (· =x) H H'
theorem VI.put{H1 H2:Hp}{x dx l:Addr}{fs fs':List (Str × V)}{f:Str}(I:VI a H H1 x dx fs)(s:Same H1 H2)(e:BT f (.ref l) fs=fs'):VI a H (upd H2 x (.ins (a "View") dx (BT f (.ref l) fs))) x dx fs'/\SameBut (· =x) H1 (upd H2 x (.ins (a "View") dx (BT f (.ref l) fs)))/\SameBut (· =x) H2 (upd H2 x (.ins (a "View") dx (BT f (.ref l) fs))):=by
 have s2:SameBut (· =x) H2 (upd H2 x (.ins (a "View") dx (BT f (.ref l) fs))):=λy o e ny=>by rw[AW ny];exact e
 exact⟨⟨by rw[AS,e],(I.s.trans s.sb).trans s2⟩,s.sb.trans s2,s2⟩
theorem NZ{b k w:Nat}{z:Int}{Q:VK}(hz:z=b)(q:∀ t,H t=none->Q (.ref t) (upd H t (.tup [.int ((b+k / w:Nat):Int),.int ((k % w:Nat):Int)]))):HW (z+(k:Int) / (w:Int)) ((k:Int) % (w:Int)) Q H:=by
 unfold HW
 have e1:z+(k:Int) / (w:Int)=((b+k / w:Nat):Int):=by rw[hz];simp
 have e2:(k:Int) % (w:Int)=((k % w:Nat):Int):=by simp
 rw[e1,e2]
 exact q
theorem PlankAt.off{H1:Hp}{gp cl x dx C:Addr}{w m:Nat}{rows:List (List V)}{fs:List (Str × V)}(P:PlankAt a H gp cl w rows m)(hx:H x=some (.ins C dx fs))(n1:gp≠x)(s:SameBut (· =x) H H1):PlankAt a H1 gp cl w rows m:=by
 obtain⟨⟨dp,e1⟩,⟨ts,e2,e3⟩,r1,r2,r3⟩:=P
 exact⟨⟨dp,s _ _ e1 n1⟩,⟨ts,s _ _ e2 (DU e2 hx (by intro z;cases z)),Paired.mapP e3 λt r e=>s _ _ e (DU e hx (by intro z;cases z))⟩,r1,r2,r3⟩
theorem Nk(h:IA K a vs H Q E):TZ K a (λ_=>E) (A7 Q) (A6 ["self","layout","plank","counts","records","pieces"] vs) H:=by
 obtain⟨x,dx,ly,gp,cl,n,r,c,w,rows,m,vw,rfl,T,TL,TP,hx,L,P,hrl,⟨⟨v1,v2,v3,v4,v5,ef,P1,P2,P3,P4,P5⟩,ln,lr,lp,ok⟩,q⟩:=h
 obtain⟨dl,hly⟩:=L.ob
 obtain⟨_,b1,b2,b3,b4,b5⟩:=id L
 have q1:=P1.length
 have q2:=P2.length
 have q3:=P3.length
 have q4:=P4.length
 have q5:=P5.length
 have ok1:=ok.l1
 have ok2:=ok.l2
 have bn:=ok.bn
 have br:=ok.br
 have bp:=ok.bp
 push_cast[TZ,↓Dj,↓Dk,↓Dl]
 refine⟨_,_,hly,D9 (by decide +kernel),ly,n,r,c,w,rfl,TL,L,λt ht=> ?_⟩
 have s1:=AY (o:=.tup [.int ((n:Int) * w),.int ((r:Int) * w),.int ((c:Int) * w)]) ht
 have et:upd H t (.tup [.int ((n:Int) * w),.int ((r:Int) * w),.int ((c:Int) * w)]) t=some (.tup [.int ((n:Int) * w),.int ((r:Int) * w),.int ((c:Int) * w)]):=AS
 revert s1 et
 generalize upd H t (.tup [.int ((n:Int) * w),.int ((r:Int) * w),.int ((c:Int) * w)])=H1
 intro s1 et
 refine CP et (n:=1) rfl rfl (CP et (n:=2) rfl rfl ?_)
 push_cast[↓Dm]
 refine CP et (n:=0) rfl rfl ?_
 have cn:∀ k:Nat,((k:Int) * w)=((k * w:Nat):Int):=λk=>by simp
 have nw:n * w<=100:=by omega
 have rw':r * w<=100:=by omega
 have cw:c * w<=100:=by omega
 have ngx:gp≠x:=λz=>by
  obtain⟨dp,e⟩:=P.ob
  rw[z,hx]at e
  have e:=(HO.ins.inj (Option.some.inj e)).2.2
  simp[pf]at e
 have nlx:ly≠x:=λz=>by
  rw[z,hx]at hly
  have hly:=(HO.ins.inj (Option.some.inj hly)).2.2
  simp[lf]at hly
 have nli:∀ {y:Addr} {us:List V} {H':Hp} {fs:List (Str × V)},H' y=some (.lst us)->VI a H H' x dx fs->y≠x:=λe I z=>by
  rw[z,I.ob]at e;cases e
 have L':∀ {H':Hp},SameBut (· =x) H H'->LayAt a H' ly n r c w:=λs=>L.sb s nlx
 have P':∀ {H':Hp},SameBut (· =x) H H'->PlankAt a H' gp cl w rows m:=λs=>P.off hx ngx s
 have V1:VI a H H1 x dx []:=⟨s1 _ _ hx,s1.sb⟩
 rw[cn n,cn r,cn c]
 refine⟨_,rfl,by omega,by omega,?_⟩
 rw[Int.toNat_natCast]
 refine NY (n:=n) (b:=0) (us:=v1) (pre:=[]) (post:=v2++v3++v4++v5) TP (P' V1.s) b4 (by omega) (by omega) (by rw[ef];simp) (by simp) (by omega) (λk hk H' Q' s q'=> ?_) λan H2 han s2 ean=> ?_
 ·have Lk:=L' (V1.s.trans s.sb)
  obtain⟨dl',hly'⟩:=Lk.ob
  push_cast[BG]
  exact⟨_,_,hly',D9 (by decide +kernel),ly,n,r,c,w,k,rfl,TL,Lk,NZ (by simp) q'⟩
 obtain⟨V2,w2,u2⟩:=V1.put (f:="name_values") (l:=an) s2 YL
 refine⟨_,_,_,s2 _ _ V1.ob,T.cl,T.n1,by decide,?_⟩
 have ean2:=u2 _ _ ean (nli (fs:=[]) ean ⟨s2 _ _ V1.ob,V1.s.trans s2.sb⟩)
 revert V2 w2 ean2
 generalize upd H2 x (.ins (a "View") dx (BT "name_values" (.ref an) []))=H3
 intro V2 w2 ean2
 clear u2
 push_cast[↓Dp]
 refine⟨by omega,by omega,?_⟩
 refine NY (n:=r) (b:=n) (us:=v2) (pre:=v1) (post:=v3++v4++v5) TP (P' V2.s) b4 (by omega) (by omega) (by simp[ef]) (by first | (simp only[List.length_append,Nat.add_mul];omega) | omega) (by omega) (λk hk H' Q' s q'=> ?_) λar H4 har s4 ear=> ?_
 ·have Lk:=L' (V2.s.trans s.sb)
  obtain⟨dl',hly'⟩:=Lk.ob
  push_cast[BG]
  exact⟨_,_,hly',D9 (by decide +kernel),ly,n,r,c,w,k,rfl,TL,Lk,NZ (by simp) q'⟩
 obtain⟨V3,w3,u3⟩:=V2.put (f:="record_values") (l:=ar) (fs':=[("name_values",.ref an),("record_values",.ref ar)]) s4 (by rw[CU (by decide +kernel)];rfl)
 refine⟨_,_,_,s4 _ _ V2.ob,T.cl,T.n2,by simp,?_⟩
 have ear2:=u3 _ _ ear (nli ear ⟨s4 _ _ V2.ob,V2.s.trans s4.sb⟩)
 replace ean2:=w3 _ _ ean2 (nli ean2 V2)
 revert V3 w3 ean2 ear2
 generalize upd H4 x (.ins (a "View") dx (BT "record_values" (.ref ar) [("name_values",.ref an)]))=H5
 intro V3 w3 ear2 ean2
 clear u3
 push_cast[↓Dq]
 refine⟨by omega,by omega,?_⟩
 refine NY (n:=c) (b:=n+r) (us:=v3) (pre:=v1++v2) (post:=v4++v5) TP (P' V3.s) b4 (by omega) (by omega) (by simp[ef]) (by first | (simp only[List.length_append,Nat.add_mul];omega) | omega) (by omega) (λk hk H' Q' s q'=> ?_) λap H6 hap s6 eap=> ?_
 ·have Lk:=L' (V3.s.trans s.sb)
  obtain⟨dl',hly'⟩:=Lk.ob
  push_cast[BG]
  exact⟨_,_,hly',D9 (by decide +kernel),ly,n,r,c,w,k,rfl,TL,Lk,NZ (by simp) q'⟩
 obtain⟨V4,w4,u4⟩:=V3.put (f:="piece_values") (l:=ap) (fs':=[("name_values",.ref an),("record_values",.ref ar),("piece_values",.ref ap)]) s6 (by rw[CU (by decide +kernel)];rw[CU (by decide +kernel)];rfl)
 refine⟨_,_,_,s6 _ _ V3.ob,T.cl,T.n3,by simp,?_⟩
 have eap2:=u4 _ _ eap (nli eap ⟨s6 _ _ V3.ob,V3.s.trans s6.sb⟩)
 replace ean2:=w4 _ _ ean2 (nli ean2 V3)
 replace ear2:=w4 _ _ ear2 (nli ear2 V3)
 revert V4 w4 ean2 ear2 eap2
 generalize upd H6 x (.ins (a "View") dx (BT "piece_values" (.ref ap) [("name_values",.ref an),("record_values",.ref ar)]))=H7
 intro V4 w4 eap2 ean2 ear2
 clear u4
 push_cast[↓Dv]
 refine⟨by omega,by omega,?_⟩
 refine NY (n:=r) (b:=n+r+c) (us:=v4) (pre:=v1++v2++v3) (post:=v5) TP (P' V4.s) b4 (by omega) (by omega) (by simp[ef]) (by first | (simp only[List.length_append,Nat.add_mul];omega) | omega) (by omega) (λk hk H' Q' s q'=> ?_) λam H8 ham s8 eam=> ?_
 ·have Lk:=L' (V4.s.trans s.sb)
  obtain⟨dl',hly'⟩:=Lk.ob
  push_cast[BG]
  exact⟨_,_,hly',D9 (by decide +kernel),ly,n,r,c,w,k,rfl,TL,Lk,NZ (by simp) q'⟩
 obtain⟨V5,w5,u5⟩:=V4.put (f:="record_marks") (l:=am) (fs':=[("name_values",.ref an),("record_values",.ref ar),("piece_values",.ref ap),("record_marks",.ref am)]) s8 (by rw[CU (by decide +kernel)];rw[CU (by decide +kernel)];rw[CU (by decide +kernel)];rfl)
 refine⟨_,_,_,s8 _ _ V4.ob,T.cl,T.n4,by simp,?_⟩
 have eam2:=u5 _ _ eam (nli eam ⟨s8 _ _ V4.ob,V4.s.trans s8.sb⟩)
 replace ean2:=w5 _ _ ean2 (nli ean2 V4)
 replace ear2:=w5 _ _ ear2 (nli ear2 V4)
 replace eap2:=w5 _ _ eap2 (nli eap2 V4)
 revert V5 w5 ean2 ear2 eap2 eam2
 generalize upd H8 x (.ins (a "View") dx (BT "record_marks" (.ref am) [("name_values",.ref an),("record_values",.ref ar),("piece_values",.ref ap)]))=H9
 intro V5 w5 eam2 ean2 ear2 eap2
 clear u5
 push_cast[↓Dw]
 refine⟨by omega,by omega,?_⟩
 refine NY (n:=c) (b:=n+r+c+r) (us:=v5) (pre:=v1++v2++v3++v4) (post:=[]) TP (P' V5.s) b4 (by omega) (by omega) (by simp[ef]) (by first | (simp only[List.length_append,Nat.add_mul];omega) | omega) (by omega) (λk hk H' Q' s q'=> ?_) λaq H10 haq s10 eaq=> ?_
 ·have Lk:=L' (V5.s.trans s.sb)
  obtain⟨dl',hly'⟩:=Lk.ob
  push_cast[BG]
  exact⟨_,_,hly',D9 (by decide +kernel),ly,n,r,c,w,k,rfl,TL,Lk,NZ (by simp) q'⟩
 obtain⟨V6,w6,u6⟩:=V5.put (f:="piece_marks") (l:=aq) (fs':=[("name_values",.ref an),("record_values",.ref ar),("piece_values",.ref ap),("record_marks",.ref am),("piece_marks",.ref aq)]) s10 (by rw[CU (by decide +kernel)];rw[CU (by decide +kernel)];rw[CU (by decide +kernel)];rw[CU (by decide +kernel)];rfl)
 refine⟨_,_,_,s10 _ _ V5.ob,T.cl,T.n5,by simp,?_⟩
 have eaq2:=u6 _ _ eaq (nli eaq ⟨s10 _ _ V5.ob,V5.s.trans s10.sb⟩)
 replace ean2:=w6 _ _ ean2 (nli ean2 V5)
 replace ear2:=w6 _ _ ear2 (nli ear2 V5)
 replace eap2:=w6 _ _ eap2 (nli eap2 V5)
 replace eam2:=w6 _ _ eam2 (nli eam2 V5)
 revert V6 w6 ean2 ear2 eap2 eam2 eaq2
 generalize upd H10 x (.ins (a "View") dx (BT "piece_marks" (.ref aq) [("name_values",.ref an),("record_values",.ref ar),("piece_values",.ref ap),("record_marks",.ref am)]))=H11
 intro V6 w6 eaq2 ean2 ear2 eap2 eam2
 clear u6
 push_cast[↓Dx]
 have P1':Paired (NmV H11) v1 vw.nm:=Paired.mapP P1 λv c=>NmV.keep λy xs e=>V6.s _ _ e (DU e hx (by intro z;cases z))
 have P2':Paired (RcV H11) v2 vw.rc:=Paired.mapP P2 λv c=>RcV.keep λy xs e=>V6.s _ _ e (DU e hx (by intro z;cases z))
 refine⟨_,_,_,V6.ob,T.cl,T.n1,_,Nh,an,rfl,.inl ⟨⟨_,SqL.of ean2⟩,?_⟩⟩
 refine YG (xs:=v1) (λi=>(AF vw.nm i).isSome) (small _ (by omega)) (λi ys H'=>H'=H11/\ys=AV (BZ (vw.nm.take i))) ⟨rfl,rfl⟩ (λi ys H' _ ⟨e,e'⟩=>⟨e ▸ SqL.of ean2,?_⟩) (λi v ys H' hv ⟨e,e'⟩ QB qb=> ?_) (λi v ys H' hv hp ⟨e,e'⟩=> ?_) (λi v ys H' hv hp ⟨e,e'⟩=>⟨e,?_⟩) (λys H' ⟨e,e'⟩ p hp=> ?_)
 ·rw[e',B4]
  unfold BZ
  exact Nat.le_trans (List.length_filterMap_le ..) (by rw[List.length_take];omega)
 ·subst e
  obtain⟨c',ec,hr⟩:=GO P1' hv
  push_cast[]
  rw[UF hr]
  unfold AF at qb
  rw[ec]at qb
  simpa using qb
 ·subst e
  obtain⟨c',ec,hr⟩:=GO P1' hv
  have:c'.isSome=true:=by
   unfold AF at hp
   rw[ec]at hp
   exact hp
  obtain⟨cc,rfl⟩:=Option.isSome_iff_exists.mp this
  obtain⟨p,rfl,hp'⟩:=hr
  push_cast[]
  refine CP hp' (n:=1) rfl rfl ⟨rfl,?_⟩
  rw[e',ED ec]
  unfold BZ AV
  rw[List.filterMap_append,List.map_append]
  rfl
 ·obtain⟨c',ec,hr⟩:=GO P1' hv
  have:c'=none:=by
   unfold AF at hp
   rw[ec]at hp
   cases c' with
   | none=>rfl
   | some _=>cases hp
  subst this
  rw[e',ED ec]
  unfold BZ AV
  rw[List.filterMap_append,List.map_append]
  simp
 subst e
 rw[q1,List.take_length]at e'
 subst e'
 have s12:=AY (o:=.lst (AV (BZ vw.nm))) hp
 have e12:upd H' p (.lst (AV (BZ vw.nm))) p=some (.lst (AV (BZ vw.nm))):=AS
 revert s12 e12
 generalize upd H' p (.lst (AV (BZ vw.nm)))=H12
 intro s12 e12
 have hll:(BZ vw.nm).length<=100:=Nat.le_trans (List.length_filterMap_le ..) bn
 refine⟨r * w,p,BZ vw.nm,rfl,e12,λk hk=> ?_,by omega,by omega,λal H13 hal s13 eal=> ?_⟩
 ·unfold BZ at hk
  obtain⟨cc,h1,h2⟩:=List.mem_filterMap.mp hk
  rw[Option.map_eq_some_iff]at h2
  obtain⟨c2,rfl,rfl⟩:=h2
  rw[<-lr]
  exact(ok.n1 c2 h1).1
 obtain⟨V7,w7,u7⟩:=V6.put (f:="leads") (l:=al) (fs':=[("name_values",.ref an),("record_values",.ref ar),("piece_values",.ref ap),("record_marks",.ref am),("piece_marks",.ref aq),("leads",.ref al)]) (s12.trans s13) (by rw[CU (by decide +kernel)];rw[CU (by decide +kernel)];rw[CU (by decide +kernel)];rw[CU (by decide +kernel)];rw[CU (by decide +kernel)];rfl)
 refine⟨_,_,_,(s12.trans s13) _ _ V6.ob,T.cl,T.n6,by simp,?_⟩
 have eal2:=u7 _ _ eal (nli eal ⟨(s12.trans s13) _ _ V6.ob,V6.s.trans (s12.trans s13).sb⟩)
 replace ean2:=w7 _ _ ean2 (nli ean2 V6)
 replace ear2:=w7 _ _ ear2 (nli ear2 V6)
 replace eap2:=w7 _ _ eap2 (nli eap2 V6)
 replace eam2:=w7 _ _ eam2 (nli eam2 V6)
 replace eaq2:=w7 _ _ eaq2 (nli eaq2 V6)
 revert V7 w7 eal2 ean2 ear2 eap2 eam2 eaq2
 generalize upd H13 x (.ins (a "View") dx (BT "leads" (.ref al) [("name_values",.ref an),("record_values",.ref ar),("piece_values",.ref ap),("record_marks",.ref am),("piece_marks",.ref aq)]))=H14
 intro V7 w7 eal2 ean2 ear2 eap2 eam2 eaq2
 clear u7
 have tkx:∀ {H':Hp} {fs:List (Str × V)},VI a H H' x dx fs->C1 H H':=λI y xs e=>I.s _ _ e (DU e hx (by intro z;cases z))
 have rcs:∀ {H':Hp} {fs:List (Str × V)},VI a H H' x dx fs->H' ar=some (.lst v2)->LstAt RcV H' ar vw.rc:=λI e=>⟨v2,e,Paired.mapP P2 λv c=>RcV.keep (tkx I)⟩
 have n10:∀ cc,some cc∈vw.rc->cc.2.length<=10:=λcc h=>(ok.n2 cc h).2
 have pb:∀ (l:List EY),l.length<=100->(∀ cc,some cc∈l->cc.2.length<=10)->(CQ l).length<=1000:=λl hl h=>by
  have:(CQ l).length<=l.length * 10:=by
   clear hl
   induction l with
   | nil=>simp[CQ]
   | cons y l ih =>
    have ih:=ih λcc hc=>h cc (List.mem_cons_of_mem _ hc)
    unfold CQ at ih ⊢
    rw[List.flatMap_cons,List.length_append,List.length_cons]
    have:(EZ y).length<=10:=by
     cases y with
     | none=>simp[EZ]
     | some c=>exact h c List.mem_cons_self
    omega
  omega
 push_cast[↓Dy]
 refine⟨_,_,_,V7.ob,T.cl,T.n2,_,iO,ar,vw.rc,rfl,rcs V7 ear2,br,n10,λpl H15 hpl s15 epl=>⟨c * w,pl,CQ vw.rc,rfl,epl,λk hk=> ?_,by omega,by have:=pb _ br n10;omega,λag H16 hag s16 eag=> ?_⟩⟩
 ·unfold CQ at hk
  obtain⟨cc,h1,h2⟩:=List.mem_flatMap.mp hk
  cases cc with
  | none=>cases h2
  | some cc =>
   rw[<-lp]
   exact(ok.n2 cc h1).1 k h2
 obtain⟨V8,w8,u8⟩:=V7.put (f:="namings") (l:=ag) (fs':=[("name_values",.ref an),("record_values",.ref ar),("piece_values",.ref ap),("record_marks",.ref am),("piece_marks",.ref aq),("leads",.ref al),("namings",.ref ag)]) (s15.trans s16) (by rw[CU (by decide +kernel)];rw[CU (by decide +kernel)];rw[CU (by decide +kernel)];rw[CU (by decide +kernel)];rw[CU (by decide +kernel)];rw[CU (by decide +kernel)];rfl)
 refine⟨_,_,_,(s15.trans s16) _ _ V7.ob,T.cl,T.n7,by simp,?_⟩
 have eag2:=u8 _ _ eag (nli eag ⟨(s15.trans s16) _ _ V7.ob,V7.s.trans (s15.trans s16).sb⟩)
 replace eal2:=w8 _ _ eal2 (nli eal2 V7)
 replace ean2:=w8 _ _ ean2 (nli ean2 V7)
 replace ear2:=w8 _ _ ear2 (nli ear2 V7)
 replace eap2:=w8 _ _ eap2 (nli eap2 V7)
 replace eam2:=w8 _ _ eam2 (nli eam2 V7)
 replace eaq2:=w8 _ _ eaq2 (nli eaq2 V7)
 revert V8 w8 eag2 eal2 ean2 ear2 eap2 eam2 eaq2
 generalize upd H16 x (.ins (a "View") dx (BT "namings" (.ref ag) [("name_values",.ref an),("record_values",.ref ar),("piece_values",.ref ap),("record_marks",.ref am),("piece_marks",.ref aq),("leads",.ref al)]))=H17
 intro V8 w8 eag2 eal2 ean2 ear2 eap2 eam2 eaq2
 clear u8
 have hal':H17 al=some (.lst (AV ((List.range vw.rc.length).map (led vw)))):=by rw[lr];exact eal2
 have ltm:∀ cc,some cc∈GK vw->some cc∈vw.rc:=λcc h=>by
  unfold GK at h
  obtain⟨k,_,hk⟩:=List.mem_map.mp h
  unfold AF at hk
  cases e:vw.rc[k]? with
  | none=>rw[e]at hk;cases hk
  | some y =>
   rw[e]at hk
   have hk:y=some cc:=hk
   exact hk ▸ List.mem_of_getElem? e
 have ltl:(GK vw).length<=100:=by
  unfold GK
  rw[List.length_map]
  exact Nat.le_trans (List.length_filter_le ..) (by rw[List.length_range];exact br)
 push_cast[↓Dz]
 refine⟨_,_,V8.ob,?_,x,ar,al,vw,rfl,T,⟨_,_,V8.ob,iO⟩,⟨_,_,V8.ob,Nj⟩,rcs V8 ear2,hal',br,λlt H18 hlt s18 elt=>⟨lt,GK vw,rfl,elt,ltl,λcc h=>n10 cc (ltm cc h),λpl2 H19 hpl2 s19 epl2=>⟨c * w,pl2,CQ (GK vw),rfl,epl2,λk hk=> ?_,by omega,by have:=pb _ ltl (λcc h=>n10 cc (ltm cc h));omega,λah H20 hah s20 eah=> ?_⟩⟩⟩
 ·simp[List.lookup_cons,BH (a:="records_led_to") (b:="name_values") (by decide +kernel),BH (a:="records_led_to") (b:="record_values") (by decide +kernel),BH (a:="records_led_to") (b:="piece_values") (by decide +kernel),BH (a:="records_led_to") (b:="record_marks") (by decide +kernel),BH (a:="records_led_to") (b:="piece_marks") (by decide +kernel),BH (a:="records_led_to") (b:="leads") (by decide +kernel),BH (a:="records_led_to") (b:="namings") (by decide +kernel)]
 ·unfold CQ at hk
  obtain⟨cc,h1,h2⟩:=List.mem_flatMap.mp hk
  cases cc with
  | none=>cases h2
  | some cc =>
   rw[<-lp]
   exact(ok.n2 cc (ltm cc h1)).1 k h2
 have s1720:=(s18.trans s19).trans s20
 obtain⟨V9,w9,u9⟩:=V8.put (f:="reached") (l:=ah) (fs':=vf ⟨an,ar,ap,am,aq,al,ag,ah⟩) s1720 (by rw[CU (by decide +kernel)];rw[CU (by decide +kernel)];rw[CU (by decide +kernel)];rw[CU (by decide +kernel)];rw[CU (by decide +kernel)];rw[CU (by decide +kernel)];rw[CU (by decide +kernel)];rfl)
 refine⟨_,_,_,s1720 _ _ V8.ob,T.cl,T.n8,by simp,?_⟩
 have eah2:=u9 _ _ eah (nli eah ⟨s1720 _ _ V8.ob,V8.s.trans s1720.sb⟩)
 replace eag2:=w9 _ _ eag2 (nli eag2 V8)
 replace eal2:=w9 _ _ eal2 (nli eal2 V8)
 replace ean2:=w9 _ _ ean2 (nli ean2 V8)
 replace ear2:=w9 _ _ ear2 (nli ear2 V8)
 replace eap2:=w9 _ _ eap2 (nli eap2 V8)
 replace eam2:=w9 _ _ eam2 (nli eam2 V8)
 replace eaq2:=w9 _ _ eaq2 (nli eaq2 V8)
 have tk:=tkx V9
 refine q ⟨an,ar,ap,am,aq,al,ag,ah⟩ _ ⟨⟨dx,V9.ob⟩,⟨v1,ean2,Paired.mapP P1 λv c=>NmV.keep tk⟩,⟨v2,ear2,Paired.mapP P2 λv c=>RcV.keep tk⟩,⟨v3,eap2,Paired.mapP P3 λv c=>PcV.keep tk⟩,⟨v4,eam2,Paired.mapP P4 λv c=>MkV.keep tk⟩,⟨v5,eaq2,Paired.mapP P5 λv c=>MkV.keep tk⟩,by rw[lr];exact eal2,by rw[lp];exact eag2,by rw[lp];exact eah2,ok⟩ V9.s
theorem Nl(h:IA K a vs H Q E):vs.length=3:=by
 obtain⟨_,_,_,_,_,_,_,_,_,_,_,_,rfl,_⟩:=h
 rfl
theorem PlV.same{H':Hp}{rows:List (List V)}{n r c w:Nat}{vw:Vw}(h:PlV H rows n r c w vw)(tk:C1 H H'):PlV H' rows n r c w vw:=by
 obtain⟨⟨v1,v2,v3,v4,v5,ef,P1,P2,P3,P4,P5⟩,x1,x2,x3,x4⟩:=h
 exact⟨⟨v1,v2,v3,v4,v5,ef,Paired.mapP P1 λv c=>NmV.keep tk,Paired.mapP P2 λv c=>RcV.keep tk,Paired.mapP P3 λv c=>PcV.keep tk,Paired.mapP P4 λv c=>MkV.keep tk,Paired.mapP P5 λv c=>MkV.keep tk⟩,x1,x2,x3,x4⟩
theorem Ground.same{H':Hp}{ly gp:Addr}{vw:Vw}(g:Ground K a H ly gp vw)(s:Same H H'):Ground K a H' ly gp vw:=by
 obtain⟨cl,n,r,c,w,rows,m,T,TL,TP,L,P,hr,pv⟩:=g
 exact⟨cl,n,r,c,w,rows,m,T,TL,TP,L.same s,P.same s,hr,pv.same s.tk⟩
theorem Ground.ok{ly gp:Addr}{vw:Vw}(g:Ground K a H ly gp vw):NA vw:=by
 obtain⟨cl,n,r,c,w,rows,m,T,TL,TP,L,P,hr,pv⟩:=g
 exact pv.ok
theorem iP{ly gp:Addr}{vw:Vw}{Q:Addr->Hp->Prop}(g:Ground K a H ly gp vw)(q:TV K a->∀ x A H2,ViewAt a H2 x A vw->Same H H2->Q x H2) :
  ∀ x dx,H x=none->H dx=none->dx≠x->IA K a [.ref x,.ref ly,.ref gp] (upd (upd H dx (.own x)) x (.ins (a "View") dx [])) (λv H2=>v=.non/\Q x H2) E:=λx dx hx hdx nd=>by
 have s0:Same H (upd (upd H dx (.own x)) x (.ins (a "View") dx [])):=(AY hdx).trans (AY (by rw[AW nd.symm];exact hx))
 obtain⟨cl,n,r,c,w,rows,m,T,TL,TP,L,P,hr,pv⟩:=g
 exact⟨x,dx,ly,gp,cl,n,r,c,w,rows,m,vw,rfl,T,TL,TP,AS,L.same s0,P.same s0,hr,pv.same s0.tk,λA H' I s=>⟨rfl,q T x A H' I λy o e=>s _ _ (s0 _ _ e) (BX e hx)⟩⟩
theorem Nm(h:IZ K a vs H Q E):UA K a (λ_=>E) (A7 Q) (A6 ["layout","plank","view"] vs) H:=by
 obtain⟨ly,gp,vw,rfl,g,q⟩:=h
 obtain⟨n1,n2,n3,n4,n5,n6⟩:=NX g.ok
 push_cast[UA,↓Gb]
 refine iP g λT x A H1 I s1=> ?_
 push_cast[↓Gc]
 refine⟨x,A,vw,rfl,T,I,λl1 H2 h2 s2 F2=>⟨x,A,vw,rfl,T,I.same s2,λl2 H3 h3 s3 F3=>E7 (F2.same s3) F3 ?_ (q.of ((s1.trans s2).trans s3))⟩⟩
 unfold faults EO
 simp only[List.length_append]
 omega
theorem Np(h:IZ K a vs H Q E):vs.length=2:=by
 obtain⟨_,_,_,rfl,_⟩:=h
 rfl
theorem Nq(h:JA K a vs H Q E):UB K a (λ_=>E) (A7 Q) (A6 ["layout","plank"] vs) H:=by
 obtain⟨ly,gp,vw,rfl,g,q⟩:=h
 push_cast[UB,↓Gd]
 refine iP g λT x A H1 I s1=>⟨x,A,vw,rfl,T,I,λl1 H2 h2 s2 F2=> ?_⟩
 obtain⟨ps,e,P⟩:=F2
 refine⟨(faults vw).length,.inl ⟨_,SqL.of e,by rw[List.length_map,P.length]⟩,?_⟩
 have:=q H2 (s1.trans s2)
 have e2:decide (((faults vw).length:Int)=0)=decide (faults vw=[]):=by
  rw[decide_eq_decide]
  constructor
  ·intro h;exact List.length_eq_zero_iff.mp (by omega)
  ·intro h;rw[h];rfl
 rw[e2]
 exact this
theorem Nv(h:JA K a vs H Q E):vs.length=2:=by
 obtain⟨_,_,_,rfl,_⟩:=h
 rfl
theorem GP(x:Int){n:Nat}(h:1<=n):∃ b:Nat,x % (n:Int)=b/\b<n :=
  ⟨(x % (n:Int)).toNat,by have:=Int.emod_nonneg x (show(n:Int)≠0 by omega);omega,by
    have:=Int.emod_lt_of_pos x (show(0:Int)<n by omega)
    have:=Int.emod_nonneg x (show(n:Int)≠0 by omega);omega⟩
theorem iQ{z:Str}{i:Int}{n:Nat}{c:Nat}{Q:VK}(hi:i=n)(hL:z.cps.toList.length<=1000)(hc:z.cps.toList[n]? =some c)(q:Q (.str ⟨#[c]⟩) H):AK K (.str z) (.int i) H Q:=by
 subst hi
 exact .inr (.inr ⟨z,n,c,rfl,rfl,Nat.le_trans (by simpa [Str.length]using hL) (small _ (by omega)),QY hc,q⟩)
theorem Nx:∀ i:Fin 26,(Str.ofString "abcdefghijklmnopqrstuvwxyz").cps.toList[i.val]? =some (97+i.val):=by decide +kernel
theorem Ny{i:Int}{n:Nat}{Q:VK}(hi:i=n)(hn:n<26)(q:Q (.str ⟨#[97+n]⟩) H):AK K (.str (Str.ofString "abcdefghijklmnopqrstuvwxyz")) (.int i) H Q:=iQ hi (by decide +kernel) (Nx ⟨n,hn⟩) q
def N0:Str:=Str.ofString " !\"#$&'()*+,-./0123456789:;<=>?@ABCDEFGHIJKLMNOPQRSTUVWXYZ[\\]^_`"++Str.ofString "abcdefghijklmnopqrstuvwxyz{|}~"
theorem Nz:∀ i:Fin 94,∃ c,N0.cps.toList[i.val]? =some c/\c<1114112:=by
 have h:∀ i:Fin 94,N0.cps.toList[i.val]? =some (N0.cps.toList[i.val]!)/\N0.cps.toList[i.val]! <1114112:=by decide +kernel
 exact λi=>⟨_,(h i).1,(h i).2⟩
theorem iR:∀ l:List Str,(∀ x∈l,x.length=1)->(l.map (·.length)).sum=l.length
 | [],_=>rfl
 | x::r,h=>by
  rw[List.map_cons,List.sum_cons,iR r λy hy=>h y (List.mem_cons_of_mem _ hy),h x List.mem_cons_self,List.length_cons]
  omega
theorem iS{g:Str}(hg:PyData.strOk g=true):∀ (l:List Str) (acc:Array Nat),(acc.all λx=>decide (x<1114112))=true->(∀ z∈l,PyData.strOk z=true)->((l.foldl (λacc p=>acc++g.cps++p.cps) acc).all λx=>decide (x<1114112))=true
 | [],acc,h,_=>h
 | z::l,acc,h,hz=>by
  rw[List.foldl_cons]
  refine iS hg l _ ?_ λy hy=>hz y (List.mem_cons_of_mem _ hy)
  have h1:(g.cps.all λx=>decide (x<1114112))=true:=hg
  have h2:(z.cps.all λx=>decide (x<1114112))=true:=hz z List.mem_cons_self
  rw[Array.all_append,Array.all_append,h,h1,h2,Bool.true_and,Bool.true_and]
theorem Pb{g:Str}{l:List Str}(hg:PyData.strOk g=true)(h:∀ z∈l,PyData.strOk z=true):PyData.strOk (Txt.join g l)=true:=by
 unfold PyData.strOk Txt.join Builtin.Str.glued
 cases l with
 | nil=>show((Str.empty.cps).all λx=>decide (x<1114112))=true;decide +kernel
 | cons z l=>exact iS hg l z.cps (h z List.mem_cons_self) λy hy=>h y (List.mem_cons_of_mem _ hy)
theorem Pc{n:Nat}{k:Int}(hn:n<26)(h0:0<=k)(h1:k<10):PyData.strOk (HR ⟨#[97+n]⟩ k)=true:=by
 have:∀ (n:Fin 26) (k:Fin 10),PyData.strOk (HR ⟨#[97+n.val]⟩ (k.val:Int))=true:=by decide +kernel
 have:=this ⟨n,hn⟩ ⟨k.toNat,by omega⟩
 rwa [show(((⟨k.toNat,by omega⟩:Fin 10).val:Nat):Int)=k from by simp;omega]at this
theorem F5{p:Addr}{xs:List Int}{k:Nat}{Q:VK}(h:H p=some (.lst (xs.map V.int)))(hk:k<xs.length)(q:∀ x∈xs,Q (.int x) H):AK K (.ref p) (.int k) H Q :=
 BU (SqL.of h) (n:=k) rfl (by rw[List.getElem?_map,List.getElem?_eq_getElem hk];rfl) (q _ (List.getElem_mem hk))
theorem Pd(h:E5 K a vs H Q E):SL K a (λ_=>E) (A7 Q) (A6 ["cell","many","here","there","found","k"] vs) H:=by
 obtain⟨c,m,rfl,hm,q⟩:=h
 push_cast[SL,↓wG,↓wH,↓wI]
 refine⟨⟨by decide,by decide⟩,by decide,λl hl=> ?_⟩
 have a1:0<=c % 920419823+5/\c % 920419823+5<1000000000:=by omega
 have a2:0<=c / 920419823 % 899809363+3/\c / 920419823 % 899809363+3<1000000000:=by omega
 generalize c % 920419823+5=here at a1 ⊢
 generalize c / 920419823 % 899809363+3=there at a2 ⊢
 have s1:=AY (o:=.lst []) hl
 have e1:upd H l (.lst []) l=some (.lst []):=AS
 revert s1 e1
 generalize upd H l (.lst [])=H1
 intro s1 e1
 push_cast[↓wM]
 refine⟨by omega,by omega,O9 (λi σ H'=>∃ (xs:List Int) (here there:Int),Same H H'/\H' l=some (.lst (xs.map V.int))/\xs.length=i/\(∀ x∈xs,0<=x/\x<2000000000)/\(0<=here/\here<1000000000)/\(0<=there/\there<1000000000)/\∃ y,σ=[some (.int c),some (.int m),some (.int here),some (.int there),some (.ref l),y]) ⟨[],here,there,s1,e1,rfl,by simp,a1,a2,_,rfl⟩ (λi σ H' hi ⟨xs,he,th,s,e,hxl,hx,b1,b2,y,eσ⟩=> ?_) (λσ H' ⟨xs,he,th,s,e,hxl,hx,b1,b2,y,eσ⟩=> ?_)⟩
 ·subst eσ
  push_cast[↓wJ,↓wK,↓wL]
  have c1:0<=(he * 70001+th) % 920419823/\(he * 70001+th) % 920419823<920419823:=by omega
  generalize (he * 70001+th) % 920419823=h2 at c1 ⊢
  generalize h2 * h2=sq
  refine⟨.inl ⟨by omega,by omega⟩,.inl ⟨by omega,by omega⟩,.inl ⟨by omega,by omega⟩,.inl ⟨rfl,_,SqL.of e⟩,l,_,_,rfl,rfl,e,Nat.lt_of_lt_of_le (show(xs.map V.int).length<1000 by rw[List.length_map];omega) (by decide),λy o e=>by rw[AW (BX e hl)];exact s _ _ e,xs++[h2+(th * 60013+sq+(0+(i:Int))) % 899809363],by rw[AS,List.map_append];rfl,by simp[hxl],λx hxm=> ?_,h2,by omega,by omega,_,?_,?_,rfl,rfl⟩
  ·rcases List.mem_append.mp hxm with h | h
   ·exact hx x h
   ·rw[List.mem_singleton.mp h];omega
  ·omega
  ·omega
 ·subst eσ
  push_cast[↓wN]
  exact q l xs H' hl s e hxl hx
theorem Pg(h:E5 K a vs H Q E):vs.length=2:=by
 obtain⟨_,_,rfl,_⟩:=h
 rfl
theorem Ph(h:NJ K a vs H Q E):S7 K a (λ_=>E) (A7 Q) (A6 ["cell","xs","most"] vs) H:=by
 obtain⟨x,rfl,q⟩:=h
 push_cast[S7,↓yU]
 refine⟨⟨by decide,by decide⟩,x / 48,3,rfl,by omega,λl xs H1 hl s1 el hxl hx=> ?_⟩
 have tail:∀ m:Int,3<=m->m<=6->S6 K a (λ_=>E) (λ_=>E) (A7 Q) [some (.int x),some (.ref l),some (.int m)] H1:=λm m1 m2=>by
  have md:∀ y:Int,0<=y % m/\y % m<m:=λy=>⟨Int.emod_nonneg _ (by omega),Int.emod_lt_of_pos _ (by omega)⟩
  push_cast[↓yW]
  refine F5 (k:=0) el (by omega) λy1 _=> ?_
  push_cast[]
  refine⟨by omega,F5 (k:=1) el (by omega) λy2 _=> ?_⟩
  push_cast[]
  refine⟨by omega,F5 (k:=2) el (by omega) λy3 _=> ?_⟩
  push_cast[]
  refine⟨by omega,by decide,λt ht=> ?_⟩
  have d1:=md y1
  have d2:=md y2
  have d3:=md y3
  obtain⟨n,en⟩:∃ n:Nat,1+y1 % m=n:=⟨(1+y1 % m).toNat,by omega⟩
  obtain⟨r,er⟩:∃ n:Nat,1+y2 % m=n:=⟨(1+y2 % m).toNat,by omega⟩
  obtain⟨c,ec⟩:∃ n:Nat,1+y3 % m=n:=⟨(1+y3 % m).toNat,by omega⟩
  obtain⟨w,ew⟩:∃ n:Nat,1+x % 6=n:=⟨(1+x % 6).toNat,by omega⟩
  have bb:(1<=n/\n<=6)/\(1<=r/\r<=6)/\(1<=c/\c<=6)/\1<=w/\w<=6:=by omega
  rw[en,er,ec,ew]
  exact q t n r c w _ (s1.trans (AY ht)) AS bb.1.1 bb.1.2 bb.2.1.1 bb.2.1.2 bb.2.2.1.1 bb.2.2.1.2 bb.2.2.2.1 bb.2.2.2.2
 push_cast[↓yV]
 refine⟨⟨by decide,by decide⟩,?_⟩
 split
 ·exact tail 6 (by omega) (by omega)
 ·exact tail 3 (by omega) (by omega)
theorem Pj(h:NJ K a vs H Q E):vs.length=1:=by
 obtain⟨_,rfl,_⟩:=h
 rfl
theorem Pk(h:JB K a vs H Q E):S5 K a (λ_=>E) (A7 Q) (A6 ["cell","signs","xs","size"] vs) H:=by
 obtain⟨x,rfl,q⟩:=h
 push_cast[S5,↓yN,↓yO,↓yP]
 refine⟨by decide +kernel,x,3,rfl,by omega,λl xs H1 hl s1 el hxl hx=> ?_⟩
 have tail:∀ m:Nat,m<=40->S4 K a (λ_=>E) (λ_=>E) (A7 Q) [some (.int x),some (.str N0),some (.ref l),some (.int m)] H1:=λm hm=>by
  push_cast[↓yT]
  refine⟨rfl,by omega,by omega,?_⟩
  refine MU (small _ (by omega)) (λi ys H'=>H'=H1/\∃ zs:List Str,ys=zs.map V.str/\∀ z∈zs,z.length=1/\PyData.strOk z=true) ⟨rfl,[],rfl,by simp⟩ (λi ys H' hi hl ⟨e1,zs,e2,e3⟩=> ?_) (λys H' hl' ⟨e1,zs,e2,e3⟩ p hp=> ?_)
  ·subst e1
   push_cast[BG]
   refine F5 (k:=1) el (by omega) λy1 _=>F5 (k:=2) el (by omega) λy2 hy2=> ?_
   have b2:=hx y2 hy2
   push_cast[]
   obtain⟨b,eb,hb⟩:=GP (y1+(0+(i:Int)) * y2) (n:=94) (by omega)
   obtain⟨c,hc,hco⟩:=Nz ⟨b,hb⟩
   refine⟨.inl ⟨by omega,by omega⟩,?_⟩
   rw[show((94:Nat):Int)=94 from rfl]at eb
   rw[eb]
   refine iQ rfl (by decide +kernel) hc ⟨rfl,zs++[⟨#[c]⟩],by rw[e2,List.map_append];rfl,λz hz=> ?_⟩
   rcases List.mem_append.mp hz with hz | hz
   ·exact e3 z hz
   ·rw[List.mem_singleton.mp hz]
    exact⟨rfl,by simp[PyData.strOk];exact hco⟩
  ·subst e1
   have hl2:zs.length=m:=by rw[<-hl',e2,List.length_map]
   refine⟨_,p,zs,rfl,rfl,by rw[<-e2];exact SqL.of AS,by decide,by rw[iR zs λz hz=>(e3 z hz).1];omega,q _ _ ?_ (s1.trans (AY hp))⟩
   exact Pb (by decide +kernel) λz hz=>(e3 z hz).2
 push_cast[↓yQ]
 refine F5 (k:=0) el (by omega) λy1 hy1=> ?_
 have hb:=hx y1 hy1
 push_cast[↓yS]
 refine F5 (k:=0) el (by omega) λy2 hy2=> ?_
 push_cast[]
 refine⟨⟨by decide,by decide⟩,?_⟩
 split
 ·push_cast[↓yR]
  exact tail 40 (by omega)
 ·obtain⟨m,em⟩:∃ m:Nat,1+y1 % 6=m:=⟨(1+y1 % 6).toNat,by omega⟩
  rw[em]
  exact tail m (by omega)
theorem Pl(h:JB K a vs H Q E):vs.length=1:=by
 obtain⟨_,rfl,_⟩:=h
 rfl
def DD(w:Nat)(xs:List V)(i:Nat):List V:=(xs.drop (i * w)).take w
theorem iT{w:Nat}:∀ {M:Nat} {xs:List V},xs.length=M * w->((List.range M).map (DD w xs)).flatten=xs
 | 0,xs,h=>by
  have:xs=[]:=List.length_eq_zero_iff.mp (by omega)
  rw[this];rfl
 | M+1,xs,h=>by
  rw[List.range_succ_eq_map,List.map_cons,List.flatten_cons,List.map_map]
  have e:∀ i,DD w xs (i+1)=DD w (xs.drop w) i:=λi=>by
   unfold DD
   rw[List.drop_drop]
   congr 2
   rw[Nat.succ_mul];omega
  have e2:(List.range M).map (DD w xs ∘ Nat.succ)=(List.range M).map (DD w (xs.drop w)):=List.map_congr_left λi _=>e i
  rw[e2,iT (xs:=xs.drop w) (by rw[List.length_drop,h,Nat.succ_mul];omega)]
  unfold DD
  rw[Nat.zero_mul,List.drop_zero,List.take_append_drop]
theorem Pm{w M i:Nat}{xs:List V}(h:xs.length=M * w)(hi:i<M):(DD w xs i).length=w:=by
 unfold DD
 rw[List.length_take,List.length_drop,h]
 have:(i+1) * w<=M * w:=Nat.mul_le_mul_right w hi
 rw[Nat.succ_mul]at this
 omega
theorem KY{l1 l2:Addr}{x1 x2:List V}{Q:VK}(e1:H l1=some (.lst x1))(e2:H l2=some (.lst x2))(hn:x1.length+x2.length<=10000)(q:newL (x1++x2) H Q):BC K (.ref l1) (.ref l2) H Q :=
 .inl ⟨l1,l2,_,_,rfl,rfl,e1,e2,small _ (by omega),λp hp=>q p _ hp (AY hp) AS⟩
theorem Pp{te:TE}{cap:List Nat}{σ:St}{b:Addr}{xs:List V}(hn:xs.length<=sizeLine)(Pv:Nat->List V->Hp->Prop)(h0:Pv 0 [] H)(hq:∀ i ys H,i<=xs.length->Pv i ys H->SqT K H b xs)
  (hs:∀ i x ys H,xs[i]? =some x->ys.length=i->Pv i ys H->te (some x::BG cap σ) H λy H2=>Pv (i+1) (ys++[y]) H2)
  (hd:∀ ys H,ys.length=xs.length->Pv xs.length ys H->∀ p,H p=none->Q (.ref p) (upd H p (.lst ys))) :
  DI (MI K b) (AN 0) DA te 1 cap σ H Q:=by
 refine⟨λi m σ' ys H=>m=xs.length - i/\i<=xs.length/\ys.length=i/\(∃ x0,σ'=x0::BG cap σ)/\Pv i ys H,⟨xs.length,by simp,Nat.zero_le _,rfl,⟨none,rfl⟩,h0⟩,?_⟩
 rintro i m σ' ys H ⟨rfl,hi,hl,⟨x0,rfl⟩,p⟩
 have q:=hq i ys H hi p
 by_cases hlt:i<xs.length
 ·refine .inr ⟨⟨xs,xs[i],q,by simp[hlt]⟩,by omega,λx H' y=> ?_⟩
  obtain⟨e,y⟩:=y
  subst e
  exact⟨_,λy H4 q=>⟨_,by omega,rfl,hlt,by simp[hl],⟨_,rfl⟩,q⟩,hs i x ys _ (y xs q) hl p⟩
 ·have e:i=xs.length:=by omega
  subst e
  exact .inl ⟨⟨xs,q,Nat.le_refl _⟩,hd ys H hl p⟩
theorem Pq(k:Nat):(List.replicate k [V.non]).flatten=List.replicate k V.non:=by
 induction k with
 | zero=>rfl
 | succ k ih=>rw[List.replicate_succ,List.flatten_cons,ih];rfl
theorem Pw{p:Addr}{k:Nat}{Q:VK}(e:H p=some (.lst [V.non]))(hk:k<=1000)(q:newL (List.replicate k V.non) H Q):DP K (.ref p) (.int k) H Q:=by
 refine .inl ⟨p,k,_,rfl,rfl,e,by omega,by omega,small _ (by simp;omega),λl hl=> ?_⟩
 rw[Int.toNat_natCast,Pq]
 exact q l _ hl (AY hl) AS
theorem KZ{α β :Type}{F: α -> β ->Prop}{x: α}{y: β}(h:F x y):∀ n,Paired F (List.replicate n x) (List.replicate n y)
 | 0=>.nil
 | n+1=>.cons h (KZ h n)
def GQ(n:Nat)(ks:List Nat):List V:=AV ((List.range n).map λk=>ks.count k)
theorem Px{n k:Nat}{ks:List Nat}(hk:k<n):(GQ n ks).set k (.int ((ks.count k:Int)+1))=GQ n (ks++[k]):=by
 unfold GQ AV
 refine List.ext_getElem? λj=> ?_
 by_cases hj:j<n
 ·rw[List.getElem?_map,G9 hj,List.count_append]
  by_cases z:k=j
  ·subst z
   rw[List.getElem?_set_self (by simpa using hj)]
   simp
  ·rw[List.getElem?_set_ne z,List.getElem?_map,G9 hj]
   have:List.count j [k]=0:=by simp[z]
   rw[this]
   rfl
 ·rw[List.getElem?_eq_none (by simp;omega),List.getElem?_eq_none (by simp;omega)]
theorem Py{n k:Nat}{ks:List Nat}(hk:k<n):(GQ n ks)[k]? =some (.int (ks.count k:Nat)):=KU (G9 hk)
theorem Pz(n:Nat)(ks:List Nat):(GQ n ks).length=n:=by unfold GQ;rw[B4,FZ]
theorem Qb(k:Nat):(List.replicate k [V.int 0]).flatten=GQ k []:=by
 unfold GQ AV
 rw[List.map_map]
 induction k with
 | zero=>rfl
 | succ k ih =>
  rw[List.replicate_succ',List.flatten_append,ih,List.range_succ,List.map_append]
  rfl
theorem Qc{p:Addr}{k:Nat}{Q:VK}(e:H p=some (.lst [V.int 0]))(hk:k<=1000)(q:newL (GQ k []) H Q):DP K (.ref p) (.int k) H Q:=by
 refine .inl ⟨p,k,_,rfl,rfl,e,by omega,by omega,small _ (by simp;omega),λl hl=> ?_⟩
 rw[Int.toNat_natCast,Qb]
 exact q l _ hl (AY hl) AS
theorem PP(l:List Nat):AV l=(l.map λ(k:Nat)=>(k:Int)).map V.int:=by
 unfold AV
 rw[List.map_map]
 rfl
theorem IC{p e0:Addr}{l:List Nat}(h1:H p=some (.lst (AV l)))(h2:H e0=some (.lst []))(q:Q (.bl (decide (l=[]))) H):BM K (.ref p) (.ref e0) H Q:=by
 refine tP (n:=1) (by decide) (SqL.of h1) (by rw[PP];exact RO _) (SqL.of h2) ?_
 have:decide (AV l=[])=decide (l=[]):=by
  unfold AV
  rw[decide_eq_decide,List.map_eq_nil_iff]
 rw[this]
 exact q
theorem Qd{t:Addr}{ps:List Nat}{p:Nat}(ht:H t=some (.tup (AV ps)))(q:Q (.bl (decide (p∈ps))) H):MV K (.int p) (.ref t) H Q:=by
 refine⟨t,_,rfl,.inr (SqT.of ht),rfl,?_,?_⟩
 ·rw[List.all_eq_true]
  intro v hv
  obtain⟨i,_,rfl⟩:=List.mem_map.mp hv
  rfl
 ·rw[if_neg Bool.false_ne_true]
  have:ML (.int p) (AV ps)=decide (p∈ps):=by
   rw[Bool.eq_iff_iff]
   unfold ML AV
   rw[List.any_eq_true,decide_eq_true_eq]
   constructor
   ·rintro ⟨v,hv,he⟩
    obtain⟨k,hk,rfl⟩:=List.mem_map.mp hv
    simp[GF]at he
    have he:k=p:=by omega
    exact he ▸ hk
   ·intro h
    exact⟨_,List.mem_map.mpr ⟨p,h,rfl⟩,by simp[GF]⟩
  rw[this]
  exact q
theorem Qg{f:List V}(h:∀ v∈f,(∃ i,v=.int i)\/∃ s,v=.str s/\PyData.strOk s=true):∃ ds,Paired (Dat K H 1) f ds:=by
 induction f with
 | nil=>exact⟨[],.nil⟩
 | cons x r ih =>
  obtain⟨ds,hd⟩:=ih λv hv=>h v (List.mem_cons_of_mem _ hv)
  rcases h x List.mem_cons_self with⟨i,rfl⟩ | ⟨s,rfl,hs⟩
  ·exact⟨_,.cons (Dat.int i) hd⟩
  ·exact⟨_,.cons (⟨.str s,hs,Nat.zero_le _⟩:Dat K H 1 (.str s) (.str s)) hd⟩
theorem iU{l1 l2:Addr}{fs:List (List V)}(h1:FindsL H l1 fs)(h2:FindsL H l2 fs)(ok:FOk fs):∃ d,Dat K H 3 (.ref l1) d/\Dat K H 3 (.ref l2) d:=by
 have:∃ ds:List PyData,∀ ps:List Addr,Paired (λp f=>H p=some (.tup f)) ps fs->Paired (Dat K H 2) (ps.map V.ref) ds:=by
  clear h1 h2
  induction fs with
  | nil=>exact⟨[],λps P=>by cases P;exact .nil⟩
  | cons f r ih =>
   obtain⟨ds,hd⟩:=ih λg hg=>ok g (List.mem_cons_of_mem _ hg)
   obtain⟨d,hf⟩:=Qg (K:=K) (H:=H) (ok f List.mem_cons_self).2.2
   refine⟨.tuple d::ds,λps P=> ?_⟩
   cases P with
   | cons e P=>exact .cons (Dat.tup (n:=1) (SqT.of e) hf) (hd _ P)
 obtain⟨ds,hd⟩:=this
 obtain⟨p1,e1,P1⟩:=h1
 obtain⟨p2,e2,P2⟩:=h2
 exact⟨.list ds,Dat.lst (n:=2) (SqL.of e1) (hd _ P1),Dat.lst (n:=2) (SqL.of e2) (hd _ P2)⟩
theorem FOk.app{f g:List (List V)}(h1:FOk f)(h2:FOk g):FOk (f++g):=λx hx=>(List.mem_append.mp hx).elim (h1 x) (h2 x)
theorem GA{n:Nat}{p:Nat->Bool}{f:Nat->List V}(h:∀ k,(f k).length<=10/\1<=(f k).length/\∀ v∈f k,(∃ i,v=.int i)\/∃ s,v=.str s/\PyData.strOk s=true):FOk (B3 n p f):=λx hx=>by
 unfold B3 at hx
 obtain⟨k,_,rfl⟩:=List.mem_map.mp hx
 exact h k
theorem K0{s:Str}{i:Int}(h:PyData.strOk s=true):([V.str s,.int i]:List V).length<=10/\1<=([V.str s,.int i]:List V).length/\∀ v∈[V.str s,.int i],(∃ i,v=.int i)\/∃ s,v=.str s/\PyData.strOk s=true:=by
 refine⟨by simp,by simp,λv hv=> ?_⟩
 simp only[List.mem_cons,List.not_mem_nil,or_false]at hv
 rcases hv with rfl | rfl
 ·exact .inr ⟨_,rfl,h⟩
 ·exact .inl ⟨_,rfl⟩
theorem N1{s:Str}{u:V}{i:Int}(h:PyData.strOk s=true)(hu:(∃ i,u=.int i)\/∃ s,u=.str s/\PyData.strOk s=true):([V.str s,u,.int i]:List V).length<=10/\1<=([V.str s,u,.int i]:List V).length/\∀ v∈[V.str s,u,.int i],(∃ i,v=.int i)\/∃ s,v=.str s/\PyData.strOk s=true:=by
 refine⟨by simp,by simp,λv hv=> ?_⟩
 simp only[List.mem_cons,List.not_mem_nil,or_false]at hv
 rcases hv with rfl | rfl | rfl
 ·exact .inr ⟨_,rfl,h⟩
 ·exact hu
 ·exact .inl ⟨_,rfl⟩
theorem Qh(vw:Vw):FOk (faults vw):=by
 unfold faults EL EM EN
 refine(FOk.app (.app (GA λk=>K0 (by decide +kernel)) (GA λk=>K0 (by decide +kernel))) (.app (.app (GA λk=>K0 (by decide +kernel)) (GA λk=>K0 (by decide +kernel))) (GA λk=>K0 (by decide +kernel)))).app (.app (GA λk=>N1 (by decide +kernel) (.inr ⟨_,rfl,by decide +kernel⟩)) (GA λk=>N1 (by decide +kernel) (.inr ⟨_,rfl,by decide +kernel⟩)))
theorem Qj(vw:Vw):FOk (EO vw):=by
 unfold EO IS IT IU
 refine(FOk.app (.app (GA λk=>N1 (by decide +kernel) (.inl ⟨_,rfl⟩)) (GA λk=>N1 (by decide +kernel) (.inr ⟨_,rfl,by decide +kernel⟩))) (GA λk=>N1 (by decide +kernel) (.inr ⟨_,rfl,by decide +kernel⟩))).app (GA λk=>K0 (by decide +kernel))
theorem Qk{n r c w:Nat}{Q:Addr->Hp->Prop}(TL:D8 K a)(h1:n<=100)(h2:r<=100)(h3:c<=100)(h4:1<=w)(h5:w<=100)(q:∀ x H2,LayAt a H2 x n r c w->Same H H2->Q x H2) :
  ∀ x dx,H x=none->H dx=none->dx≠x->KN K a [.ref x,.int n,.int r,.int c,.int w] (upd (upd H dx (.own x)) x (.ins (a "Layout") dx [])) (λv H2=>v=.non/\Q x H2) E:=λx dx hx hdx nd=>by
 have s0:Same H (upd (upd H dx (.own x)) x (.ins (a "Layout") dx [])):=(AY hdx).trans (AY (by rw[AW nd.symm];exact hx))
 exact⟨x,dx,n,r,c,w,rfl,TL,AS,h1,h2,h3,h4,h5,λH' L s=>⟨rfl,q x H' L λy o e=>s _ _ (s0 _ _ e) (BX e hx)⟩⟩
theorem LstAt.set{α :Type}{R:Hp->V-> α ->Prop}{H':Hp}{p:Addr}{us:List V}{cs:List α}{b:Nat}{v:V}{c: α}(e:H' p=some (.lst (us.set b v)))(P:Paired (R H') us cs)(hr:R H' v c):LstAt R H' p (cs.set b c):=⟨_,e,RK hr b P⟩
theorem B5{α :Type}{l:List (Option α)}{k j:Nat}{x:Option α}(hk:k<l.length):AF (l.set k x) j=if j=k then x else AF l j:=by
 unfold AF
 by_cases h:j=k
 ·subst h
  rw[List.getElem?_set_self hk,if_pos rfl]
  rfl
 ·rw[List.getElem?_set_ne (λz=>h z.symm),if_neg h]
theorem E8{α :Type}{l:List (Option α)}{k:Nat}{c: α}(h:AF l k=some c):k<l.length:=by
 unfold AF at h
 cases e:l[k]? with
 | none=>rw[e]at h;cases h
 | some y=>exact(List.getElem?_eq_some_iff.mp e).1
theorem UH{nm:List GJ}{c:Str × Nat}:∀ {k:Nat},nm[k]? =some none->(BZ (nm.set k (some c))).length=(BZ nm).length+1/\∀ r,(BZ (nm.set k (some c))).count r=(BZ nm).count r+if c.2=r then 1 else 0:=by
 induction nm with
 | nil=>intro k h;simp at h
 | cons x l ih =>
  intro k h
  cases k with
  | zero =>
   cases h
   refine⟨by simp[BZ],λr=> ?_⟩
   simp only[List.set_cons_zero,BZ,List.filterMap_cons,Option.map_some,Option.map_none,List.count_cons]
   by_cases z:c.2=r<;>simp[z]
  | succ k =>
   have h:l[k]? =some none:=by simpa using h
   obtain⟨h1,h2⟩:=ih h
   unfold BZ at h1 h2 ⊢
   rw[List.set_cons_succ]
   cases x with
   | none=>simpa using ⟨h1,h2⟩
   | some d =>
    simp only[List.filterMap_cons,Option.map_some,List.length_cons]
    refine⟨by omega,λr=> ?_⟩
    rw[List.count_cons,List.count_cons,h2 r]
    omega
theorem iV{nm:List GJ}:((List.range nm.length).filter λk=>(AF nm k).isNone).length+(BZ nm).length=nm.length:=by
 have gen:∀ (l:List GJ),((List.range l.length).filter λk=>(AF l k).isNone).length=(l.filter (·.isNone)).length:=λl=>by
  have:((List.range l.length).filter λk=>(AF l k).isNone).map (λk=>l[k]?)=(l.filter (·.isNone)).map some:=by
   have e:l.map some=(List.range l.length).map (λk=>l[k]?):=by
    refine List.ext_getElem? λi=> ?_
    by_cases hi:i<l.length
    ·rw[List.getElem?_map,List.getElem?_map,List.getElem?_range hi,List.getElem?_eq_getElem hi]
     simp[List.getElem?_eq_getElem hi]
    ·rw[List.getElem?_eq_none (by simp;omega),List.getElem?_eq_none (by simp;omega)]
   have e2:(l.filter (·.isNone)).map some=(l.map some).filter (λo=>match o with
    | some x=>x.isNone
    | none=>false):=by
    rw[List.filter_map]
    rfl
   rw[e2,e,List.filter_map]
   congr 1
   refine List.filter_congr λk hk=> ?_
   have hk:=List.mem_range.mp hk
   simp only[Function.comp,AF,List.getElem?_eq_getElem hk]
   rfl
  have h:=congrArg List.length this
  simpa using h
 rw[gen]
 clear gen
 induction nm with
 | nil=>rfl
 | cons x l ih =>
  unfold BZ at ih ⊢
  cases x with
  | none=>simp at ih ⊢;omega
  | some c=>simp at ih ⊢;omega
section
variable{vw:Vw}{lf:List Nat}{zs:List Str}
theorem PQ{r:Nat}(h:0<led vw r):∃ k c,AF vw.nm k=some c/\c.2=r:=by
 unfold led BZ at h
 have:=List.count_pos_iff.mp h
 obtain⟨x,hx,e⟩:=List.mem_filterMap.mp this
 rw[Option.map_eq_some_iff]at e
 obtain⟨c,rfl,e⟩:=e
 obtain⟨k,hk⟩:=List.mem_iff_getElem?.mp hx
 exact⟨k,c,by unfold AF;rw[hk];rfl,e⟩
theorem Clean.led0(C:Clean vw lf zs){r:Nat}(h:AF vw.rc r=none):led vw r=0:=by
 cases e:led vw r with
 | zero=>rfl
 | succ n =>
  exfalso
  obtain⟨k,c,hk,hc⟩:=PQ (vw:=vw) (r:=r) (by omega)
  have:=C.ls k c hk
  rw[hc,h]at this
  cases this
theorem Clean.text{p:Nat}{z:Str}(C:Clean vw lf zs)(h1:p<vw.pc.length)(h2:p<vw.pm.length)(hp:AF vw.pm p=none):Clean { vw with pc:=vw.pc.set p (some z),pm:=vw.pm.set p (some 1) } (lf++[p]) zs:=by
 have no:∀ r c,AF vw.rc r=some c->p∉c.2:=λr c hr hm=>by
  have:=(C.em r c hr p hm).2
  rw[hp]at this;cases this
 refine⟨C.nm,C.ds,C.ls,C.fw,C.s1,C.s2,λr c hr q hq=> ?_,C.fr,?_,λq=> ?_,C.p3⟩
 ·have hr:AF vw.rc r=some c:=hr
  have ne:q≠p:=λe=>no r c hr (e ▸ hq)
  simp only[B5 h1,B5 h2,if_neg ne]
  exact C.em r c hr q hq
 ·rw[List.nodup_append]
  refine⟨C.nd,by simp,λx hx y hy=> ?_⟩
  rw[List.mem_singleton.mp hy]
  intro e
  have:=((C.lm x).mp hx).1
  rw[e,hp]at this;cases this
 ·simp only[List.mem_append,List.mem_singleton,B5 h2]
  constructor
  ·rintro (h | rfl)
   ·obtain⟨a1,a2⟩:=(C.lm q).mp h
    refine⟨?_,a2⟩
    split
    ·rfl
    ·exact a1
   ·exact⟨by simp,λr c hr hc=>no r c hc⟩
  ·rintro ⟨a1,a2⟩
   by_cases e:q=p
   ·exact .inr e
   ·rw[if_neg e]at a1
    exact .inl ((C.lm q).mpr ⟨a1,a2⟩)
theorem Clean.recd{r:Nat}{cnt:Int}{tk:List Nat}(C:Clean vw lf zs)(hr:r<vw.rc.length)(h0:AF vw.rc r=none)(hn:tk.Nodup)(h3:tk.length<=3)(ht:∀ p∈tk,((AF vw.pc p).isSome=true/\AF vw.pm p=some 1)/\∀ r' c',AF vw.rc r'=some c'->p∉c'.2)(hc:0<=cnt):Clean { vw with rc:=vw.rc.set r (some (cnt,tk)) } lf zs:=by
 have l0:=C.led0 h0
 have at':∀ {r':Nat} {c:Int × List Nat},AF (vw.rc.set r (some (cnt,tk))) r'=some c->(r'=r/\c=(cnt,tk))\/(r'≠r/\AF vw.rc r'=some c):=λ{r' c} h=>by
  rw[B5 hr]at h
  by_cases e:r'=r
  ·rw[if_pos e]at h;cases h;exact .inl ⟨e,rfl⟩
  ·rw[if_neg e]at h;exact .inr ⟨e,h⟩
 refine⟨C.nm,C.ds,λk c hk=> ?_,λr' c h=> ?_,λr' c h=> ?_,λr1 r2 c1 c2 ne h1 h2 p hp=> ?_,λr' c h p hp=> ?_,C.fr,C.nd,λp=> ?_,λr' c h=> ?_⟩
 ·show(AF (vw.rc.set r (some (cnt,tk))) c.2).isSome=true
  rw[B5 hr]
  split
  ·rfl
  ·exact C.ls k c hk
 ·rcases at' h with⟨rfl,rfl⟩ | ⟨_,h⟩
  ·show(led vw r':Int)<=cnt
   rw[l0];exact hc
  ·exact C.fw r' c h
 ·rcases at' h with⟨rfl,rfl⟩ | ⟨_,h⟩
  ·exact hn
  ·exact C.s1 r' c h
 ·rcases at' h1 with⟨e1,rfl⟩ | ⟨_,g1⟩
  ·rcases at' h2 with⟨e2,rfl⟩ | ⟨_,h2⟩
   ·exact absurd (e1.trans e2.symm) ne
   ·exact(ht p hp).2 r2 c2 h2
  ·skip
   rcases at' h2 with⟨e2,rfl⟩ | ⟨_,h2⟩
   ·intro hm
    exact(ht p hm).2 r1 c1 g1 hp
   ·exact C.s2 r1 r2 c1 c2 ne g1 h2 p hp
 ·rcases at' h with⟨rfl,rfl⟩ | ⟨_,h⟩
  ·exact(ht p hp).1
  ·exact C.em r' c h p hp
 ·rw[C.lm p]
  refine and_congr_right λ_=>⟨λL r' c hl h=> ?_,λL r' c hl h=> ?_⟩
  ·rcases at' h with⟨rfl,rfl⟩ | ⟨_,h⟩
   ·have hl:0<led vw r':=hl
    omega
   ·exact L r' c hl h
  ·refine L r' c hl ?_
   show AF (vw.rc.set r (some (cnt,tk))) r'=some c
   rw[B5 hr,if_neg (λe=>by rw[e,h0]at h;cases h)]
   exact h
 ·rcases at' h with⟨rfl,rfl⟩ | ⟨_,h⟩
  ·exact h3
  ·exact C.p3 r' c h
theorem Clean.mark{r:Nat}{x:Option Int}(C:Clean vw lf zs)(hr:r<vw.rm.length)(h:led vw r=0\/x=some 1):Clean { vw with rm:=vw.rm.set r x } lf zs:=by
 refine⟨C.nm,C.ds,C.ls,C.fw,C.s1,C.s2,C.em,λr' hl=> ?_,C.nd,C.lm,C.p3⟩
 have hl:0<led vw r':=hl
 show AF (vw.rm.set r x) r'=some 1
 rw[B5 hr]
 split
 ·rename_i e
  rcases h with h | h
  ·rw[e]at hl;omega
  ·exact h
 ·exact C.fr r' hl
theorem Clean.cnt{r:Nat}{c:Int × List Nat}{cnt:Int}(C:Clean vw lf zs)(h0:AF vw.rc r=some c)(hc:(led vw r:Int)<=cnt):Clean { vw with rc:=vw.rc.set r (some (cnt,c.2)) } lf zs:=by
 have hr:=E8 h0
 have at':∀ {r':Nat} {d:Int × List Nat},AF (vw.rc.set r (some (cnt,c.2))) r'=some d->∃ d',AF vw.rc r'=some d'/\d'.2=d.2/\(led vw r':Int)<=d.1:=λ{r' d} h=>by
  rw[B5 hr]at h
  by_cases e:r'=r
  ·rw[if_pos e]at h;cases h;exact⟨c,e ▸ h0,rfl,e ▸ hc⟩
  ·rw[if_neg e]at h;exact⟨d,h,rfl,C.fw r' d h⟩
 have to':∀ {r':Nat} {d:Int × List Nat},AF vw.rc r'=some d->∃ d',AF (vw.rc.set r (some (cnt,c.2))) r'=some d'/\d'.2=d.2:=λ{r' d} h=>by
  rw[B5 hr]
  by_cases e:r'=r
  ·rw[if_pos e]
   rw[e,h0]at h;cases h
   exact⟨_,rfl,rfl⟩
  ·rw[if_neg e];exact⟨d,h,rfl⟩
 refine⟨C.nm,C.ds,λk d hk=> ?_,λr' d h=> ?_,λr' d h=> ?_,λr1 r2 c1 c2 ne h1 h2 p hp=> ?_,λr' d h p hp=> ?_,C.fr,C.nd,λp=> ?_,λr' d h=> ?_⟩
 ·have:=C.ls k d hk
  obtain⟨d',hd'⟩:=Option.isSome_iff_exists.mp this
  obtain⟨d2,h2,_⟩:=to' hd'
  show(AF (vw.rc.set r (some (cnt,c.2))) d.2).isSome=true
  rw[h2];rfl
 ·obtain⟨d',h1,h2,h3⟩:=at' h
  exact h3
 ·obtain⟨d',h1,h2,h3⟩:=at' h
  rw[<-h2];exact C.s1 r' d' h1
 ·obtain⟨d1,g1,g2,_⟩:=at' h1
  obtain⟨d2,g3,g4,_⟩:=at' h2
  rw[<-g4];rw[<-g2]at hp
  exact C.s2 r1 r2 d1 d2 ne g1 g3 p hp
 ·obtain⟨d',h1,h2,_⟩:=at' h
  rw[<-h2]at hp
  exact C.em r' d' h1 p hp
 ·rw[C.lm p]
  refine and_congr_right λ_=>⟨λL r' d hl h=> ?_,λL r' d hl h=> ?_⟩
  ·obtain⟨d',h1,h2,_⟩:=at' h
   rw[<-h2];exact L r' d' hl h1
  ·obtain⟨d',h1,h2⟩:=to' h
   rw[<-h2];exact L r' d' hl h1
 ·obtain⟨d',h1,h2,_⟩:=at' h
  rw[<-h2];exact C.p3 r' d' h1
theorem iW{α :Type}{l:List α}{i j:Nat}{x: α}(h:l.Nodup)(hi:l[i]? =some x)(hj:l[j]? =some x):i=j:=by
 rw[List.nodup_iff_pairwise_ne,List.pairwise_iff_getElem]at h
 obtain⟨h1,e1⟩:=List.getElem?_eq_some_iff.mp hi
 obtain⟨h2,e2⟩:=List.getElem?_eq_some_iff.mp hj
 rcases Nat.lt_trichotomy i j with z | z | z
 ·exact absurd (e1.trans e2.symm) (h i j h1 h2 z)
 ·exact z
 ·exact absurd (e2.trans e1.symm) (h j i h2 h1 z)
theorem Clean.name{k r:Nat}{s:Str}{c:Int × List Nat}(C:Clean vw lf zs)(hk:vw.nm[k]? =some none)(hs:zs[(BZ vw.nm).length]? =some s)(hz:zs.Nodup)(h0:AF vw.rc r=some c)(hc:(led vw r:Int)+1<=c.1)(hm:AF vw.rm r=some 1):Clean { vw with nm:=vw.nm.set k (some (s,r)) } (lf.filter λp=>decide (p∉c.2)) zs:=by
 have hkl:=(List.getElem?_eq_some_iff.mp hk).1
 obtain⟨u1,u2⟩:=UH (c:=(s,r)) hk
 have hled:∀ r',led { vw with nm:=vw.nm.set k (some (s,r)) } r'=led vw r'+if r=r' then 1 else 0:=u2
 have at':∀ {k':Nat} {d:Str × Nat},AF (vw.nm.set k (some (s,r))) k'=some d->(k'=k/\d=(s,r))\/(k'≠k/\AF vw.nm k'=some d):=λ{k' d} h=>by
  rw[B5 hkl]at h
  by_cases e:k'=k
  ·rw[if_pos e]at h;cases h;exact .inl ⟨e,rfl⟩
  ·rw[if_neg e]at h;exact .inr ⟨e,h⟩
 have new:∀ {k':Nat} {d:Str × Nat},AF vw.nm k'=some d->d.1≠s:=λ{k' d} h e=>by
  obtain⟨j,hj,ej⟩:=C.nm k' d h
  rw[e]at ej
  have:=iW hz ej hs
  omega
 refine⟨λk' d h=> ?_,λj1 j2 d1 d2 hlt h1 h2=> ?_,λk' d h=> ?_,λr' d h=> ?_,C.s1,C.s2,C.em,λr' hl=> ?_,C.nd.filter _,λp=> ?_,C.p3⟩
 ·show ∃ j,j<(BZ (vw.nm.set k (some (s,r)))).length/\zs[j]? =some d.1
  rw[u1]
  rcases at' h with⟨rfl,rfl⟩ | ⟨_,h⟩
  ·exact⟨_,Nat.lt_succ_self _,hs⟩
  ·obtain⟨j,hj,ej⟩:=C.nm k' d h
   exact⟨j,by omega,ej⟩
 ·rcases at' h1 with⟨e1,rfl⟩ | ⟨_,h1⟩
  ·rcases at' h2 with⟨e2,rfl⟩ | ⟨_,h2⟩
   ·omega
   ·exact λe=>new h2 e.symm
  ·rcases at' h2 with⟨e2,rfl⟩ | ⟨_,h2⟩
   ·exact new h1
   ·exact C.ds j1 j2 d1 d2 hlt h1 h2
 ·rcases at' h with⟨rfl,rfl⟩ | ⟨_,h⟩
  ·show(AF vw.rc r).isSome=true
   rw[h0];rfl
  ·exact C.ls k' d h
 ·have h:AF vw.rc r'=some d:=h
  rw[hled]
  by_cases e:r=r'
  ·rw[if_pos e]
   subst e
   rw[h0]at h;cases h
   omega
  ·rw[if_neg e]
   exact C.fw r' d h
 ·rw[hled]at hl
  show AF vw.rm r'=some 1
  by_cases e:r=r'
  ·exact e ▸ hm
  ·rw[if_neg e]at hl
   exact C.fr r' hl
 ·rw[List.mem_filter,C.lm p,decide_eq_true_eq]
  constructor
  ·rintro ⟨⟨a1,a2⟩,a3⟩
   refine⟨a1,λr' d hl h=> ?_⟩
   have h:AF vw.rc r'=some d:=h
   rw[hled]at hl
   by_cases e:r=r'
   ·subst e;rw[h0]at h;cases h;exact a3
   ·rw[if_neg e]at hl;exact a2 r' d hl h
  ·rintro ⟨a1,a2⟩
   refine⟨⟨a1,λr' d hl h=>a2 r' d (by rw[hled];omega) h⟩,a2 r c (by rw[hled,if_pos rfl];omega) h0⟩
theorem Clean.pmk{p:Nat}(C:Clean vw lf zs)(h2:p<vw.pm.length)(hp:AF vw.pm p=none):Clean { vw with pm:=vw.pm.set p (some 1) } (lf++[p]) zs:=by
 have no:∀ r c,AF vw.rc r=some c->p∉c.2:=λr c hr hm=>by
  have:=(C.em r c hr p hm).2
  rw[hp]at this;cases this
 refine⟨C.nm,C.ds,C.ls,C.fw,C.s1,C.s2,λr c hr q hq=> ?_,C.fr,?_,λq=> ?_,C.p3⟩
 ·have hr:AF vw.rc r=some c:=hr
  have ne:q≠p:=λe=>no r c hr (e ▸ hq)
  simp only[B5 h2,if_neg ne]
  exact C.em r c hr q hq
 ·rw[List.nodup_append]
  refine⟨C.nd,by simp,λx hx y hy=> ?_⟩
  rw[List.mem_singleton.mp hy]
  intro e
  have:=((C.lm x).mp hx).1
  rw[e,hp]at this;cases this
 ·simp only[List.mem_append,List.mem_singleton,B5 h2]
  constructor
  ·rintro (h | rfl)
   ·obtain⟨a1,a2⟩:=(C.lm q).mp h
    refine⟨?_,a2⟩
    split
    ·rfl
    ·exact a1
   ·exact⟨by simp,λr c hr hc=>no r c hc⟩
  ·rintro ⟨a1,a2⟩
   by_cases e:q=p
   ·exact .inr e
   ·rw[if_neg e]at a1
    exact .inl ((C.lm q).mpr ⟨a1,a2⟩)
theorem Clean.alone{p:Nat}{z:Option Str}{x:Option Int}(C:Clean vw lf zs)(h1:p<vw.pc.length)(h2:p<vw.pm.length)(hp:AF vw.pm p=none)(hx:x≠some 1):Clean { vw with pc:=vw.pc.set p z,pm:=vw.pm.set p x } lf zs:=by
 have no:∀ r c,AF vw.rc r=some c->p∉c.2:=λr c hr hm=>by
  have:=(C.em r c hr p hm).2
  rw[hp]at this;cases this
 refine⟨C.nm,C.ds,C.ls,C.fw,C.s1,C.s2,λr c hr q hq=> ?_,C.fr,C.nd,λq=> ?_,C.p3⟩
 ·have hr:AF vw.rc r=some c:=hr
  have ne:q≠p:=λe=>no r c hr (e ▸ hq)
  simp only[B5 h1,B5 h2,if_neg ne]
  exact C.em r c hr q hq
 ·simp only[B5 h2]
  rw[C.lm q]
  refine and_congr ?_ Iff.rfl
  by_cases e:q=p
  ·rw[if_pos e,e,hp]
   exact⟨λh=>(by cases h),λh=>absurd h hx⟩
  ·rw[if_neg e]
end
theorem Ql{l m:List Int}(h1:l.Pairwise (· <·))(h2:m.Pairwise (· <·))(h:∀ x,x∈l↔x∈m):l=m:=by
 have n1:l.Nodup:=h1.imp λh=>by omega
 have n2:m.Nodup:=h2.imp λh=>by omega
 exact((List.perm_ext_iff_of_nodup n1 n2).mpr h).eq_of_pairwise (λx y _ _ a b=>by omega) h1 h2
theorem HA{α :Type}{l:List (Option α)}{k:Nat}{c: α}(h:AF l k=some c):some c∈l:=by
 unfold AF at h
 cases e:l[k]? with
 | none=>rw[e]at h;cases h
 | some y =>
  rw[e]at h
  have h:y=some c:=h
  exact h ▸ List.mem_of_getElem? e
theorem iX{p:Nat}:∀ {l:List Nat},l.Nodup->l.count p<=1
 | [],_=>by simp
 | x::l,h=>by
  obtain⟨h1,h2⟩:=List.nodup_cons.mp h
  rw[List.count_cons]
  by_cases e:x=p
  ·subst e
   have:l.count x=0:=List.count_eq_zero.mpr h1
   simp[this]
  ·have:=iX (p:=p) h2
   have e':(x == p)=false:=by simpa using e
   rw[e']
   simpa using this
theorem N3{rc:List EY}{p:Nat}:p∈CQ rc↔∃ r c,AF rc r=some c/\p∈c.2:=by
 unfold CQ
 rw[List.mem_flatMap]
 constructor
 ·rintro ⟨x,hx,hp⟩
  cases x with
  | none=>cases hp
  | some c =>
   obtain⟨r,hr⟩:=List.mem_iff_getElem?.mp hx
   exact⟨r,c,by unfold AF;rw[hr];rfl,hp⟩
 ·rintro ⟨r,c,h,hp⟩
  exact⟨some c,HA h,hp⟩
theorem PU{p:Nat}:∀ {rc:List EY},(∀ r c,AF rc r=some c->c.2.Nodup)->(∀ r r' c c',r≠r'->AF rc r=some c->AF rc r'=some c'->∀ p∈c.2,p∉c'.2)->(CQ rc).count p<=1
 | [],_,_=>by simp[CQ]
 | x::l,h1,h2=>by
  have ih:=PU (p:=p) (rc:=l) (λr c h=>h1 (r+1) c (by unfold AF at h ⊢;simpa using h)) (λr r' c c' ne h h'=>h2 (r+1) (r'+1) c c' (by omega) (by unfold AF at h ⊢;simpa using h) (by unfold AF at h' ⊢;simpa using h'))
  unfold CQ at ih ⊢
  rw[List.flatMap_cons,List.count_append]
  cases x with
  | none=>simpa [EZ]using ih
  | some c =>
   have n1:(EZ (some c)).count p<=1:=iX (h1 0 c rfl)
   by_cases hm:p∈c.2
   ·have:(List.flatMap EZ l).count p=0:=by
     rw[List.count_eq_zero]
     intro hp
     obtain⟨r,d,hr,hd⟩:=N3.mp (show p∈CQ l from hp)
     exact h2 0 (r+1) c d (by omega) rfl (by unfold AF at hr ⊢;simpa using hr) p hm hd
    omega
   ·have:(EZ (some c)).count p=0:=List.count_eq_zero.mpr hm
    omega
theorem BS{n:Nat}{p:Nat->Bool}{f:Nat->List V}(h:∀ k,k<n->p k=false):B3 n p f=[]:=by
 unfold B3
 rw[List.map_eq_nil_iff,List.filter_eq_nil_iff]
 intro k hk
 rw[h k (List.mem_range.mp hk)]
 exact Bool.false_ne_true
section
variable{vw:Vw}{lf:List Nat}{zs:List Str}
theorem PX{p:Nat}(h:0<CC vw p):∃ r c,AF vw.rc r=some c/\p∈c.2:=N3.mp (List.count_pos_iff.mp h)
theorem Clean.faults(C:Clean vw lf zs):faults vw=[]:=by
 unfold L2.faults EL EM EN
 rw[BS,BS,BS,BS,BS,BS,BS]
 ·rfl
 ·intro p hp
  by_cases h:0<CC vw p
  ·obtain⟨r,c,hr,hm⟩:=PX h
   simp[(C.em r c hr p hm).2]
  ·simp[h]
 ·intro r hr
  by_cases h:0<led vw r
  ·simp[C.fr r h]
  ·simp[h]
 ·intro r hr
  unfold E4
  cases e:AF vw.rc r with
  | none=>rfl
  | some c =>
   have:=C.fw r c e
   simp;omega
 ·intro p hp
  by_cases h:0<CC vw p
  ·obtain⟨r,c,hr,hm⟩:=PX h
   have:=(C.em r c hr p hm).1
   obtain⟨z,hz⟩:=Option.isSome_iff_exists.mp this
   simp[hz]
  ·simp[h]
 ·intro p hp
  have:=PU (p:=p) C.s1 C.s2
  unfold CC
  simp;omega
 ·intro k hk
  unfold EC
  cases e:AF vw.nm k with
  | none=>rfl
  | some c =>
   rw[Bool.eq_false_iff]
   intro h
   obtain⟨j,hj,he⟩:=List.any_eq_true.mp h
   cases e2:AF vw.nm j with
   | none=>simp only[e2]at he;cases he
   | some d =>
    simp only[e2]at he
    exact C.ds j k d c (List.mem_range.mp hj) e2 e (by simpa using he)
 ·intro k hk
  unfold D0
  cases e:AF vw.nm k with
  | none=>rfl
  | some c =>
   have:=C.ls k c e
   obtain⟨z,hz⟩:=Option.isSome_iff_exists.mp this
   simp[hz]
theorem iY{p:Nat}:R0 vw p↔E3 vw p=0:=by
 unfold E3
 rw[List.count_eq_zero]
 unfold R0
 constructor
 ·intro h hm
  unfold CQ GK at hm
  obtain⟨x,hx,hp⟩:=List.mem_flatMap.mp hm
  obtain⟨r,hr,rfl⟩:=List.mem_map.mp hx
  obtain⟨_,hl⟩:=List.mem_filter.mp hr
  cases e:AF vw.rc r with
  | none=>rw[e]at hp;cases hp
  | some c =>
   rw[e]at hp
   exact h r c (by simpa using hl) e hp
 ·intro h r c hl hr hm
  refine h ?_
  unfold CQ GK
  exact List.mem_flatMap.mpr ⟨some c,List.mem_map.mpr ⟨r,List.mem_filter.mpr ⟨List.mem_range.mpr (E8 hr),by simpa using hl⟩,hr⟩,hm⟩
theorem Clean.sorted(C:Clean vw lf zs)(l2:vw.pm.length=vw.pc.length){ks:List Int}(hp:ks.Perm (lf.map λ(k:Nat)=>(k:Int)))(hs:ks.Pairwise (· <=·)):ks=((List.range vw.pc.length).filter λp=>decide (AF vw.pm p=some 1) && decide (E3 vw p=0)).map λ(k:Nat)=>(k:Int):=by
 have nd:ks.Nodup:=hp.nodup_iff.mpr (by
  rw[List.nodup_iff_pairwise_ne,List.pairwise_map]
  exact(List.nodup_iff_pairwise_ne.mp C.nd).imp λh e=>h (by omega))
 refine Ql ?_ ?_ λx=> ?_
 ·rw[List.nodup_iff_pairwise_ne]at nd
  exact(hs.and nd).imp λ⟨h1,h2⟩=>by omega
 ·rw[List.pairwise_map]
  exact(List.pairwise_lt_range.filter _).imp λh=>by omega
 ·rw[hp.mem_iff,List.mem_map,List.mem_map]
  constructor
  ·rintro ⟨p,h,rfl⟩
   obtain⟨a1,a2⟩:=(C.lm p).mp h
   have hl:=E8 a1
   exact⟨p,List.mem_filter.mpr ⟨List.mem_range.mpr (by omega),by simp[a1,iY.mp a2]⟩,rfl⟩
  ·rintro ⟨p,h,rfl⟩
   obtain⟨_,h⟩:=List.mem_filter.mp h
   simp at h
   exact⟨p,(C.lm p).mpr ⟨h.1,iY.mpr h.2⟩,rfl⟩
theorem Clean.short(C:Clean vw lf zs):lf.length<=vw.pm.length:=by
 have:=List.Nodup.length_le_of_subset (l₂:=List.range vw.pm.length) C.nd λp hp=>List.mem_range.mpr (E8 ((C.lm p).mp hp).1)
 simpa using this
end
structure Qm(A:LW):Prop where
 d01:A.a0≠A.a1
 d02:A.a0≠A.a2
 d03:A.a0≠A.a3
 d04:A.a0≠A.a4
 d05:A.a0≠A.a5
 d10:A.a1≠A.a0
 d12:A.a1≠A.a2
 d13:A.a1≠A.a3
 d14:A.a1≠A.a4
 d15:A.a1≠A.a5
 d20:A.a2≠A.a0
 d21:A.a2≠A.a1
 d23:A.a2≠A.a3
 d24:A.a2≠A.a4
 d25:A.a2≠A.a5
 d30:A.a3≠A.a0
 d31:A.a3≠A.a1
 d32:A.a3≠A.a2
 d34:A.a3≠A.a4
 d35:A.a3≠A.a5
 d40:A.a4≠A.a0
 d41:A.a4≠A.a1
 d42:A.a4≠A.a2
 d43:A.a4≠A.a3
 d45:A.a4≠A.a5
 d50:A.a5≠A.a0
 d51:A.a5≠A.a1
 d52:A.a5≠A.a2
 d53:A.a5≠A.a3
 d54:A.a5≠A.a4
 v0:A.v≠A.a0
 v1:A.v≠A.a1
 v2:A.v≠A.a2
 v3:A.v≠A.a3
 v4:A.v≠A.a4
 v5:A.v≠A.a5
theorem LWAt.diff{A:LW}{vw:Vw}{lf:List Nat}(I:LWAt H A vw lf):Qm A:=by
 have nd:=I.nd
 have nv:=I.nv
 simp[LW.L]at nd nv
 obtain⟨⟨a1,a2,a3,a4,a5⟩,⟨b1,b2,b3,b4⟩,⟨c1,c2,c3⟩,⟨d1,d2⟩,e1⟩:=nd
 obtain⟨v0,v1,v2,v3,v4,v5⟩:=nv
 constructor<;>first | assumption | (apply Ne.symm;assumption)
theorem LWAt.same{A:LW}{vw:Vw}{lf:List Nat}{H':Hp}(I:LWAt H A vw lf)(s:Same H H'):LWAt H' A vw lf :=
 ⟨s _ _ I.ob,I.n.keep (λv c=>NmV.keep s.tk) (λo=>s _ _),I.r.keep (λv c=>RcV.keep s.tk) (λo=>s _ _),I.p.keep (λv c=>PcV.keep s.tk) (λo=>s _ _),I.rm.keep (λv c=>MkV.keep s.tk) (λo=>s _ _),I.pm.keep (λv c=>MkV.keep s.tk) (λo=>s _ _),s _ _ I.l,I.ok,I.nd,I.nv⟩
theorem LWAt.set0{A:LW}{vw:Vw}{lf:List Nat}{k:Nat}{v:V}{cc:GJ}{Q:Hp->Prop}(I:LWAt H A vw lf)(hk:k<vw.nm.length)(hr:NmV H v cc)(hok:∀ c,cc=some c->c.2<vw.rc.length/\PyData.strOk c.1=true)(q:∀ H',LWAt H' A { vw with nm:=vw.nm.set k cc } lf->SameBut (· ∈A.L) H H'->C1 H H'->Q H'):CG (.ref A.a0) (.int k) v H Q:=by
 obtain⟨us,e,P⟩:=I.n
 have d:=I.diff
 refine⟨A.a0,us,k,k,rfl,rfl,e,JH (by rw[P.length];exact hk),?_⟩
 have tk:C1 H (upd H A.a0 (.lst (us.set k v))):=λy xs e2=>by rw[AW (DU e2 e (by intro z;cases z))];exact e2
 refine q _ ⟨by rw[AW d.v0];exact I.ob,LstAt.set AS (Paired.mapP P λv c=>NmV.keep tk) (NmV.keep tk hr),I.r.keep (λv c=>RcV.keep tk) (λo e=>by rw[AW d.d10];exact e),I.p.keep (λv c=>PcV.keep tk) (λo e=>by rw[AW d.d20];exact e),I.rm.keep (λv c=>MkV.keep tk) (λo e=>by rw[AW d.d30];exact e),I.pm.keep (λv c=>MkV.keep tk) (λo e=>by rw[AW d.d40];exact e),by rw[AW d.d50];exact I.l,⟨λc h=>(List.mem_or_eq_of_mem_set h).elim (I.ok.n1 c) λe=>hok c e.symm,λc h=>I.ok.n2 c h,λc h=>I.ok.n3 c h,I.ok.l1,I.ok.l2,(by rw[List.length_set];exact I.ok.bn),I.ok.br,I.ok.bp⟩,I.nd,I.nv⟩ (λy o e ny=> ?_) tk
 rw[AW λz=>ny (by rw[z];simp[LW.L])];exact e
theorem LWAt.set1{A:LW}{vw:Vw}{lf:List Nat}{k:Nat}{v:V}{cc:EY}{Q:Hp->Prop}(I:LWAt H A vw lf)(hk:k<vw.rc.length)(hr:RcV H v cc)(hok:∀ c,cc=some c->(∀ p∈c.2,p<vw.pc.length)/\c.2.length<=10)(q:∀ H',LWAt H' A { vw with rc:=vw.rc.set k cc } lf->SameBut (· ∈A.L) H H'->C1 H H'->Q H'):CG (.ref A.a1) (.int k) v H Q:=by
 obtain⟨us,e,P⟩:=I.r
 have d:=I.diff
 refine⟨A.a1,us,k,k,rfl,rfl,e,JH (by rw[P.length];exact hk),?_⟩
 have tk:C1 H (upd H A.a1 (.lst (us.set k v))):=λy xs e2=>by rw[AW (DU e2 e (by intro z;cases z))];exact e2
 refine q _ ⟨by rw[AW d.v1];exact I.ob,I.n.keep (λv c=>NmV.keep tk) (λo e=>by rw[AW d.d01];exact e),LstAt.set AS (Paired.mapP P λv c=>RcV.keep tk) (RcV.keep tk hr),I.p.keep (λv c=>PcV.keep tk) (λo e=>by rw[AW d.d21];exact e),I.rm.keep (λv c=>MkV.keep tk) (λo e=>by rw[AW d.d31];exact e),I.pm.keep (λv c=>MkV.keep tk) (λo e=>by rw[AW d.d41];exact e),by rw[AW d.d51];exact I.l,⟨λc h=>⟨by rw[List.length_set];exact(I.ok.n1 c h).1,(I.ok.n1 c h).2⟩,λc h=>(List.mem_or_eq_of_mem_set h).elim (I.ok.n2 c) λe=>hok c e.symm,λc h=>I.ok.n3 c h,(by rw[List.length_set];exact I.ok.l1),I.ok.l2,I.ok.bn,(by rw[List.length_set];exact I.ok.br),I.ok.bp⟩,I.nd,I.nv⟩ (λy o e ny=> ?_) tk
 rw[AW λz=>ny (by rw[z];simp[LW.L])];exact e
theorem LWAt.set2{A:LW}{vw:Vw}{lf:List Nat}{k:Nat}{v:V}{cc:Option Str}{Q:Hp->Prop}(I:LWAt H A vw lf)(hk:k<vw.pc.length)(hr:PcV H v cc)(hok:∀ c,cc=some c->PyData.strOk c=true)(q:∀ H',LWAt H' A { vw with pc:=vw.pc.set k cc } lf->SameBut (· ∈A.L) H H'->C1 H H'->Q H'):CG (.ref A.a2) (.int k) v H Q:=by
 obtain⟨us,e,P⟩:=I.p
 have d:=I.diff
 refine⟨A.a2,us,k,k,rfl,rfl,e,JH (by rw[P.length];exact hk),?_⟩
 have tk:C1 H (upd H A.a2 (.lst (us.set k v))):=λy xs e2=>by rw[AW (DU e2 e (by intro z;cases z))];exact e2
 refine q _ ⟨by rw[AW d.v2];exact I.ob,I.n.keep (λv c=>NmV.keep tk) (λo e=>by rw[AW d.d02];exact e),I.r.keep (λv c=>RcV.keep tk) (λo e=>by rw[AW d.d12];exact e),LstAt.set AS (Paired.mapP P λv c=>PcV.keep tk) (PcV.keep tk hr),I.rm.keep (λv c=>MkV.keep tk) (λo e=>by rw[AW d.d32];exact e),I.pm.keep (λv c=>MkV.keep tk) (λo e=>by rw[AW d.d42];exact e),by rw[AW d.d52];exact I.l,⟨λc h=>I.ok.n1 c h,λc h=>⟨λp hp=>by rw[List.length_set];exact(I.ok.n2 c h).1 p hp,(I.ok.n2 c h).2⟩,λc h=>(List.mem_or_eq_of_mem_set h).elim (I.ok.n3 c) λe=>hok c e.symm,I.ok.l1,(by rw[List.length_set];exact I.ok.l2),I.ok.bn,I.ok.br,(by rw[List.length_set];exact I.ok.bp)⟩,I.nd,I.nv⟩ (λy o e ny=> ?_) tk
 rw[AW λz=>ny (by rw[z];simp[LW.L])];exact e
theorem LWAt.set3{A:LW}{vw:Vw}{lf:List Nat}{k:Nat}{v:V}{cc:Option Int}{Q:Hp->Prop}(I:LWAt H A vw lf)(hk:k<vw.rc.length)(hr:MkV H v cc)(hok:∀ c,cc=some c->True)(q:∀ H',LWAt H' A { vw with rm:=vw.rm.set k cc } lf->SameBut (· ∈A.L) H H'->C1 H H'->Q H'):CG (.ref A.a3) (.int k) v H Q:=by
 obtain⟨us,e,P⟩:=I.rm
 have d:=I.diff
 refine⟨A.a3,us,k,k,rfl,rfl,e,JH (by rw[P.length,I.ok.l1];exact hk),?_⟩
 have tk:C1 H (upd H A.a3 (.lst (us.set k v))):=λy xs e2=>by rw[AW (DU e2 e (by intro z;cases z))];exact e2
 refine q _ ⟨by rw[AW d.v3];exact I.ob,I.n.keep (λv c=>NmV.keep tk) (λo e=>by rw[AW d.d03];exact e),I.r.keep (λv c=>RcV.keep tk) (λo e=>by rw[AW d.d13];exact e),I.p.keep (λv c=>PcV.keep tk) (λo e=>by rw[AW d.d23];exact e),LstAt.set AS (Paired.mapP P λv c=>MkV.keep tk) (MkV.keep tk hr),I.pm.keep (λv c=>MkV.keep tk) (λo e=>by rw[AW d.d43];exact e),by rw[AW d.d53];exact I.l,⟨λc h=>I.ok.n1 c h,λc h=>I.ok.n2 c h,λc h=>I.ok.n3 c h,(by rw[List.length_set];exact I.ok.l1),I.ok.l2,I.ok.bn,I.ok.br,I.ok.bp⟩,I.nd,I.nv⟩ (λy o e ny=> ?_) tk
 rw[AW λz=>ny (by rw[z];simp[LW.L])];exact e
theorem LWAt.set4{A:LW}{vw:Vw}{lf:List Nat}{k:Nat}{v:V}{cc:Option Int}{Q:Hp->Prop}(I:LWAt H A vw lf)(hk:k<vw.pc.length)(hr:MkV H v cc)(hok:∀ c,cc=some c->True)(q:∀ H',LWAt H' A { vw with pm:=vw.pm.set k cc } lf->SameBut (· ∈A.L) H H'->C1 H H'->Q H'):CG (.ref A.a4) (.int k) v H Q:=by
 obtain⟨us,e,P⟩:=I.pm
 have d:=I.diff
 refine⟨A.a4,us,k,k,rfl,rfl,e,JH (by rw[P.length,I.ok.l2];exact hk),?_⟩
 have tk:C1 H (upd H A.a4 (.lst (us.set k v))):=λy xs e2=>by rw[AW (DU e2 e (by intro z;cases z))];exact e2
 refine q _ ⟨by rw[AW d.v4];exact I.ob,I.n.keep (λv c=>NmV.keep tk) (λo e=>by rw[AW d.d04];exact e),I.r.keep (λv c=>RcV.keep tk) (λo e=>by rw[AW d.d14];exact e),I.p.keep (λv c=>PcV.keep tk) (λo e=>by rw[AW d.d24];exact e),I.rm.keep (λv c=>MkV.keep tk) (λo e=>by rw[AW d.d34];exact e),LstAt.set AS (Paired.mapP P λv c=>MkV.keep tk) (MkV.keep tk hr),by rw[AW d.d54];exact I.l,⟨λc h=>I.ok.n1 c h,λc h=>I.ok.n2 c h,λc h=>I.ok.n3 c h,I.ok.l1,(by rw[List.length_set];exact I.ok.l2),I.ok.bn,I.ok.br,I.ok.bp⟩,I.nd,I.nv⟩ (λy o e ny=> ?_) tk
 rw[AW λz=>ny (by rw[z];simp[LW.L])];exact e
theorem LWAt.ix0{A:LW}{vw:Vw}{lf:List Nat}{Q:VK}{k:Nat}(I:LWAt H A vw lf)(hk:k<vw.nm.length)(q:∀ v,NmV H v (AF vw.nm k)->Q v H):AK K (.ref A.v) (.int 0) H λx H1=>AK K x (.int k) H1 Q:=by
 obtain⟨us,v,e,_,ev,hr⟩:=I.n.at (k:=k) hk
 exact BU (SqL.of I.ob) (n:=0) rfl rfl (BU (SqL.of e) (n:=k) rfl ev (q v hr))
theorem LWAt.at0{A:LW}{vw:Vw}{lf:List Nat}{Q:VK}(I:LWAt H A vw lf)(q:Q (.ref A.a0) H):AK K (.ref A.v) (.int 0) H Q:=BU (SqL.of I.ob) (n:=0) rfl rfl q
theorem LWAt.ix1{A:LW}{vw:Vw}{lf:List Nat}{Q:VK}{k:Nat}(I:LWAt H A vw lf)(hk:k<vw.rc.length)(q:∀ v,RcV H v (AF vw.rc k)->Q v H):AK K (.ref A.v) (.int 1) H λx H1=>AK K x (.int k) H1 Q:=by
 obtain⟨us,v,e,_,ev,hr⟩:=I.r.at (k:=k) hk
 exact BU (SqL.of I.ob) (n:=1) rfl rfl (BU (SqL.of e) (n:=k) rfl ev (q v hr))
theorem LWAt.at1{A:LW}{vw:Vw}{lf:List Nat}{Q:VK}(I:LWAt H A vw lf)(q:Q (.ref A.a1) H):AK K (.ref A.v) (.int 1) H Q:=BU (SqL.of I.ob) (n:=1) rfl rfl q
theorem LWAt.ix2{A:LW}{vw:Vw}{lf:List Nat}{Q:VK}{k:Nat}(I:LWAt H A vw lf)(hk:k<vw.pc.length)(q:∀ v,PcV H v (AF vw.pc k)->Q v H):AK K (.ref A.v) (.int 2) H λx H1=>AK K x (.int k) H1 Q:=by
 obtain⟨us,v,e,_,ev,hr⟩:=I.p.at (k:=k) hk
 exact BU (SqL.of I.ob) (n:=2) rfl rfl (BU (SqL.of e) (n:=k) rfl ev (q v hr))
theorem LWAt.at2{A:LW}{vw:Vw}{lf:List Nat}{Q:VK}(I:LWAt H A vw lf)(q:Q (.ref A.a2) H):AK K (.ref A.v) (.int 2) H Q:=BU (SqL.of I.ob) (n:=2) rfl rfl q
theorem LWAt.ix3{A:LW}{vw:Vw}{lf:List Nat}{Q:VK}{k:Nat}(I:LWAt H A vw lf)(hk:k<vw.rc.length)(q:∀ v,MkV H v (AF vw.rm k)->Q v H):AK K (.ref A.v) (.int 3) H λx H1=>AK K x (.int k) H1 Q:=by
 obtain⟨us,v,e,_,ev,hr⟩:=I.rm.at (k:=k) (by rw[I.ok.l1];exact hk)
 exact BU (SqL.of I.ob) (n:=3) rfl rfl (BU (SqL.of e) (n:=k) rfl ev (q v hr))
theorem LWAt.at3{A:LW}{vw:Vw}{lf:List Nat}{Q:VK}(I:LWAt H A vw lf)(q:Q (.ref A.a3) H):AK K (.ref A.v) (.int 3) H Q:=BU (SqL.of I.ob) (n:=3) rfl rfl q
theorem LWAt.ix4{A:LW}{vw:Vw}{lf:List Nat}{Q:VK}{k:Nat}(I:LWAt H A vw lf)(hk:k<vw.pc.length)(q:∀ v,MkV H v (AF vw.pm k)->Q v H):AK K (.ref A.v) (.int 4) H λx H1=>AK K x (.int k) H1 Q:=by
 obtain⟨us,v,e,_,ev,hr⟩:=I.pm.at (k:=k) (by rw[I.ok.l2];exact hk)
 exact BU (SqL.of I.ob) (n:=4) rfl rfl (BU (SqL.of e) (n:=k) rfl ev (q v hr))
theorem LWAt.at4{A:LW}{vw:Vw}{lf:List Nat}{Q:VK}(I:LWAt H A vw lf)(q:Q (.ref A.a4) H):AK K (.ref A.v) (.int 4) H Q:=BU (SqL.of I.ob) (n:=4) rfl rfl q
theorem LWAt.at5{A:LW}{vw:Vw}{lf:List Nat}{Q:VK}(I:LWAt H A vw lf)(q:Q (.ref A.a5) H):AK K (.ref A.v) (.int 5) H Q:=BU (SqL.of I.ob) (n:=5) rfl rfl q
theorem LWAt.len0{A:LW}{vw:Vw}{lf:List Nat}(I:LWAt H A vw lf):KG K (.ref A.a0) H vw.nm.length:=by
 obtain⟨us,e,P⟩:=I.n
 exact .inl ⟨_,SqL.of e,P.length.symm⟩
theorem LWAt.len1{A:LW}{vw:Vw}{lf:List Nat}(I:LWAt H A vw lf):KG K (.ref A.a1) H vw.rc.length:=by
 obtain⟨us,e,P⟩:=I.r
 exact .inl ⟨_,SqL.of e,P.length.symm⟩
theorem LWAt.len2{A:LW}{vw:Vw}{lf:List Nat}(I:LWAt H A vw lf):KG K (.ref A.a2) H vw.pc.length:=by
 obtain⟨us,e,P⟩:=I.p
 exact .inl ⟨_,SqL.of e,P.length.symm⟩
theorem NamesAt.sb{A:LW}{nl:Addr}{zs:List Str}{H':Hp}(h:NamesAt H A nl zs)(s:SameBut (· ∈A.L) H H'):NamesAt H' A nl zs:=⟨s _ _ h.e h.n,h.l,h.d,h.s,h.n⟩
theorem IntsAt.sb{A:LW}{xl:Addr}{xs:List Int}{m:Nat}{H':Hp}(h:IntsAt H A xl xs m)(s:SameBut (· ∈A.L) H H'):IntsAt H' A xl xs m:=⟨s _ _ h.e h.n,h.l,h.b,h.n⟩
theorem IntsAt.at{A:LW}{xl:Addr}{xs:List Int}{m k:Nat}{Q:VK}(h:IntsAt H A xl xs m)(hk:k<m)(q:∀ x,0<=x->x<2000000000->Q (.int x) H):AK K (.ref xl) (.int k) H Q:=F5 h.e (by rw[h.l];exact hk) λx hx=>q x (h.b x hx).1 (h.b x hx).2
theorem iZ{v:V}{c:Option Int}(h:MkV H v c):decide (v=.non)=c.isNone:=by
 cases c with
 | none=>rw[show v=.non from h];rfl
 | some c=>rw[show v=.int c from h];rfl
theorem Qp(h:E6 K a vs H Q E):SN K a (λ_=>E) (A7 Q) (A6 ["view"] vs) H:=by
 obtain⟨A,vw,lf,rfl,I,q⟩:=h
 have bn:=I.ok.bn
 push_cast[SN,↓wT]
 refine I.at0 ⟨vw.nm.length,I.len0,by omega,by omega,G3 (λk=>(AF vw.nm k).isNone) (small _ (by omega)) (λk hk QB qb=> ?_) λl hl=>q l _ hl (AY hl) AS⟩
 push_cast[BG]
 refine I.ix0 hk λv hv=> ?_
 push_cast[]
 rw[UF hv]
 exact qb
theorem Qq(h:E6 K a vs H Q E):vs.length=1:=by
 obtain⟨_,_,_,rfl,_⟩:=h
 rfl
theorem Qv(h:JC K a vs H Q E):SO K a (λ_=>E) (A7 Q) (A6 ["view"] vs) H:=by
 obtain⟨A,vw,lf,rfl,I,q⟩:=h
 have bn:=I.ok.br
 push_cast[SO,↓wU]
 refine I.at1 ⟨vw.rc.length,I.len1,by omega,by omega,G3 (λr=>(AF vw.rc r).isNone && (AF vw.rm r).isNone) (small _ (by omega)) (λk hk QB qb=> ?_) λl hl=>q l _ hl (AY hl) AS⟩
 push_cast[BG]
 refine I.ix1 hk λv hv=> ?_
 have hn:=IB hv
 push_cast[]
 by_cases h0:v=.non
 ·refine B1 h0 (I.ix3 hk λv2 hv2=> ?_)
  push_cast[]
  rw[iZ hv2]
  rw[<-hn,decide_eq_true h0,Bool.true_and]at qb
  exact qb
 ·refine BW h0 ?_
  rw[<-hn,decide_eq_false h0,Bool.false_and]at qb
  exact qb
theorem Qw(h:JC K a vs H Q E):vs.length=1:=by
 obtain⟨_,_,_,rfl,_⟩:=h
 rfl
theorem Qx(h:JD K a vs H Q E):SQ K a (λ_=>E) (A7 Q) (A6 ["view"] vs) H:=by
 obtain⟨A,vw,lf,rfl,I,q⟩:=h
 have bn:=I.ok.bp
 push_cast[SQ,↓wV]
 refine I.at2 ⟨vw.pc.length,I.len2,by omega,by omega,G3 (λp=>(AF vw.pc p).isNone && (AF vw.pm p).isNone) (small _ (by omega)) (λk hk QB qb=> ?_) λl hl=>q l _ hl (AY hl) AS⟩
 push_cast[BG]
 refine I.ix2 hk λv hv=> ?_
 have hn:=iF hv
 push_cast[]
 by_cases h0:v=.non
 ·refine B1 h0 (I.ix4 hk λv2 hv2=> ?_)
  push_cast[]
  rw[iZ hv2]
  rw[<-hn,decide_eq_true h0,Bool.true_and]at qb
  exact qb
 ·refine BW h0 ?_
  rw[<-hn,decide_eq_false h0,Bool.false_and]at qb
  exact qb
theorem Qy(h:JD K a vs H Q E):vs.length=1:=by
 obtain⟨_,_,_,rfl,_⟩:=h
 rfl
theorem Qz(h:G8 K a vs H Q E):SM K a (λ_=>E) (A7 Q) (A6 ["view","led","cell"] vs) H:=by
 obtain⟨A,vw,lf,rfl,I,q⟩:=h
 have ok:=I.ok
 have br:=ok.br
 obtain⟨v1,e1,P1⟩:=I.n
 have q1:=P1.length
 push_cast[SM,↓wO]
 refine⟨by decide,λp1 hp1=> ?_⟩
 have s1:=AY (o:=.lst [V.int 0]) hp1
 have I1:=I.same s1
 refine I1.at1 ⟨vw.rc.length,I1.len1,Qc AS (by omega) λl1 H2 hl1 s2 f1=> ?_⟩
 have s02:=s1.trans s2
 have hl1H:H l1=none:=s1.free hl1
 push_cast[↓wR]
 refine(I.same s02).at0 ⟨A.a0,rfl,.inl ⟨⟨_,SqL.of (s02 _ _ e1)⟩,KK (xs:=v1) (λi σ H'=>(Same H H'/\H' l1=some (.lst (GQ vw.rc.length (BZ (vw.nm.take i)))))/\∃ y,σ=[some (.ref A.v),some (.ref l1),y]) ⟨⟨s02,f1⟩,_,rfl⟩ (λi σ H' _ ⟨⟨s,_⟩,_⟩=>SqL.of (s _ _ e1)) (λi v σ H' hx ⟨⟨s,g1⟩,y,eσ⟩=> ?_) (λσ H' ⟨⟨s,g1⟩,y,eσ⟩=> ?_)⟩⟩
 ·subst eσ
  obtain⟨c,ec,hr⟩:=GO P1 hx
  push_cast[↓wQ]
  have el:BZ (vw.nm.take (i+1))=BZ (vw.nm.take i)++BZ [c]:=by
   rw[ED ec]
   unfold BZ
   rw[List.filterMap_append]
  rw[el]
  cases c with
  | none =>
   refine BW (λz=>z hr) ?_
   rw[show BZ [none]=[]from rfl,List.append_nil]
   exact⟨s,g1⟩
  | some c =>
   obtain⟨p,rfl,hp⟩:=hr
   have hc:=(ok.n1 c (List.mem_of_getElem? ec)).1
   refine B1 (by simp) ?_
   push_cast[↓wP]
   refine CP (s _ _ hp) (n:=1) rfl rfl (BU (SqL.of g1) (n:=c.2) rfl (Py hc) ?_)
   push_cast[]
   refine CP (s _ _ hp) (n:=1) rfl rfl ⟨l1,_,_,c.2,rfl,rfl,g1,JH (by rw[Pz];exact hc),?_⟩
   rw[Px hc]
   exact⟨λy o e=>by rw[AW (BX e hl1H)];exact s _ _ e,AS⟩
 ·subst eσ
  rw[q1,List.take_length]at g1
  push_cast[↓wS]
  exact q l1 H' hl1H s g1
theorem Rb(h:G8 K a vs H Q E):vs.length=1:=by
 obtain⟨_,_,_,rfl,_⟩:=h
 rfl
theorem ES{p:Addr}{l:List Nat}{x:Int}{Q:VK}(e:H p=some (.lst (AV l)))(hl:l≠[])(q:∀ k∈l,Q (.int k) H):AK K (.ref p) (.int (x % (l.length:Int))) H Q:=by
 have h1:1<=l.length:=by
  cases l with
  | nil=>exact absurd rfl hl
  | cons _ _=>simp
 obtain⟨b,eb,hb⟩:=GP x (n:=l.length) h1
 rw[eb]
 exact BU (SqL.of e) (n:=b) rfl (KU (List.getElem?_eq_getElem hb)) (q _ (List.getElem_mem hb))
theorem K1{p e0:Addr}{l:List Nat}(h1:H p=some (.lst (AV l)))(h2:H e0=some (.lst []))(q:Q (.bl (!decide (l=[]))) H):CO K (.ref p) (.ref e0) H Q:=by
 refine tO (n:=1) (by decide) (SqL.of h1) (by rw[PP];exact RO _) (SqL.of h2) ?_
 have:decide (AV l=[])=decide (l=[]):=by
  unfold AV
  rw[decide_eq_decide,List.map_eq_nil_iff]
 rw[this]
 exact q
theorem Rc(h:JE K a vs H Q E):S8 K a (λ_=>E) (A7 Q) (A6 ["view","names","r","number","free","word"] vs) H:=by
 obtain⟨A,vw,lf,l0,zs,nl,r,c,num,n',r',c',rfl,I,C,N,⟨z1,z2,z3⟩,hn36,hfr,hrc,hcc,hrm,q⟩:=h
 push_cast[S8,↓yX]
 refine⟨A,vw,lf,rfl,I,λfl H1 hfl s1 efl=> ?_⟩
 have I1:=I.same s1
 have fln:=iV (nm:=vw.nm)
 have ffl:(DT vw).length+(BZ vw.nm).length=vw.nm.length:=fln
 have f1:1<=(DT vw).length:=by
  cases e:DT vw with
  | nil=>exact absurd e hfr
  | cons _ _=>simp
 have eu:=List.getElem?_eq_getElem (l:=zs) (i:=(BZ vw.nm).length) (by rw[N.l];omega)
 push_cast[↓yY]
 refine I1.at0 ⟨vw.nm.length,I1.len0,(DT vw).length,.inl ⟨_,SqL.of efl,by rw[B4]⟩,?_⟩
 rw[show((vw.nm.length:Int) - ((DT vw).length:Int))=(((BZ vw.nm).length:Nat):Int) by omega]
 refine BU (SqL.of (s1 _ _ N.e)) (n:=(BZ vw.nm).length) rfl (by rw[List.getElem?_map,eu];rfl) ?_
 push_cast[↓yZ]
 refine⟨by decide,λp hp=> ?_⟩
 have eu':=(List.getElem?_eq_some_iff.mp eu).2
 revert hp
 generalize hs:zs[(BZ vw.nm).length]'(by rw[N.l];omega)=sN
 intro hp
 rw[hs]at eu
 have s2:=AY (o:=.tup [V.str sN,V.int ↑r]) hp
 have e2:upd H1 p (.tup [V.str sN,V.int ↑r]) p=some (.tup [V.str sN,V.int ↑r]):=AS
 revert s2 e2
 generalize upd H1 p (.tup [V.str sN,V.int ↑r])=H2
 intro s2 e2
 have I2:=I1.same s2
 have s02:=s1.trans s2
 refine I2.at0 ⟨(DT vw).length,.inl ⟨_,SqL.of (s2 _ _ efl),by rw[B4]⟩,by omega,ES (s2 _ _ efl) hfr λk hk=> ?_⟩
 obtain⟨hk1,hk2⟩:=DJ hk
 have hr:=E8 hrc
 refine I2.set0 (cc:=some (sN,r)) hk1 ⟨p,rfl,e2⟩ (λc hc=>by cases hc;exact⟨hr,N.s _ (List.mem_of_getElem? eu)⟩) λH3 I3 sb tk=> ?_
 have hkn:vw.nm[k]? =some none:=by
  unfold AF at hk2
  rw[List.getElem?_eq_getElem hk1]at hk2 ⊢
  have:vw.nm[k].isNone=true:=hk2
  rw[Option.isNone_iff_eq_none.mp this]
 refine q _ H3 I3 (C.name hkn eu N.d hrc hcc hrm) ⟨by simp only[List.length_set];exact z1,z2,z3⟩ (s02.sb.trans sb)
theorem Rg(h:JE K a vs H Q E):vs.length=4:=by
 obtain⟨_,_,_,_,_,_,_,_,_,_,_,_,rfl,_⟩:=h
 rfl
structure UI(A:LW)(vw:Vw)(lf l0:List Nat)(zs:List Str)(tl:Addr)(n r c:Nat)(H:Hp)(i:Nat)(tk:List Nat)(vw':Vw)(H':Hp):Prop where
 w:LWAt H' A vw' lf
 cl:Clean vw' (l0++tk) zs
 nm:vw'.nm=vw.nm
 rc:vw'.rc=vw.rc
 rm:vw'.rm=vw.rm
 z:EQ vw' n r c
 p:∀ p∈tk,(AF vw'.pc p).isSome=true/\p<c
 f:∀ p∈tk,∀ r c,AF vw'.rc r=some c->p∉c.2
 l:tk.length<=i
 e:H' tl=some (.lst (AV tk))
 s:SameBut (λx=>x∈A.L\/x=tl) H H'
theorem Rh(h:NL K a vs H Q E):TK K a (λ_=>E) (A7 Q) (A6 ["view","xs","many","taken","k","free","p"] vs) H:=by
 obtain⟨A,vw,lf,l0,zs,xl,xs,many,n,r,c,rfl,I,C,X,hm,sz,q⟩:=h
 push_cast[TK,↓zR]
 refine⟨by decide,λtl htl=> ?_⟩
 have s1:=AY (o:=.lst []) htl
 have e1:upd H tl (.lst []) tl=some (.lst (AV [])):=AS
 revert s1 e1
 generalize upd H tl (.lst [])=H1
 intro s1 e1
 have I1:=I.same s1
 have ntl:tl∉A.L:=λhm=>by
  have:∀ y∈A.L,H y≠none:=λy hy z=>by
   simp[LW.L]at hy
   obtain⟨_,k0,_⟩:=I.n
   obtain⟨_,k1,_⟩:=I.r
   obtain⟨_,k2,_⟩:=I.p
   obtain⟨_,k3,_⟩:=I.rm
   obtain⟨_,k4,_⟩:=I.pm
   have k5:=I.l
   rcases hy with rfl | rfl | rfl | rfl | rfl | rfl
   ·rw[z]at k0;cases k0
   ·rw[z]at k1;cases k1
   ·rw[z]at k2;cases k2
   ·rw[z]at k3;cases k3
   ·rw[z]at k4;cases k4
   ·rw[z]at k5;cases k5
  exact this tl hm htl
 have nxl:xl≠tl:=BX X.e htl
 push_cast[↓zY]
 refine⟨by omega,by omega,O9 (λi σ H'=>(∃ tk vw',UI A vw lf l0 zs tl n r c H1 i tk vw' H')/\∃ y4 y5 y6,σ=[some (.ref A.v),some (.ref xl),some (.int many),some (.ref tl),y4,y5,y6]) ⟨⟨[],vw,I1,by rw[List.append_nil];exact C,rfl,rfl,rfl,sz,by simp,by simp,by simp,e1,SameBut.refl _⟩,_,_,_,rfl⟩ (λi σ H' hi ⟨⟨tk,vw',J⟩,y4,y5,y6,eσ⟩=> ?_) (λσ H' ⟨⟨tk,vw',J⟩,y4,y5,y6,eσ⟩=> ?_)⟩
 ·subst eσ
  push_cast[↓zS,Int.zero_add]
  refine⟨A,vw',lf,rfl,J.w,λfl H2 hfl s2 efl=> ?_⟩
  have J2:UI A vw lf l0 zs tl n r c H1 i tk vw' H2:=⟨J.w.same s2,J.cl,J.nm,J.rc,J.rm,J.z,J.p,J.f,J.l,s2 _ _ J.e,J.s.trans s2.sb⟩
  push_cast[↓zX]
  refine⟨by decide,λe0 he0=> ?_⟩
  have s3:=AY (o:=.lst []) he0
  refine K1 (s3 _ _ efl) AS ?_
  have efl3:=s3 _ _ efl
  have J3:UI A vw lf l0 zs tl n r c H1 i tk vw' (upd H2 e0 (.lst [])):=⟨J2.w.same s3,J.cl,J.nm,J.rc,J.rm,J.z,J.p,J.f,J.l,s3 _ _ J2.e,J2.s.trans s3.sb⟩
  revert J3 efl3
  generalize upd H2 e0 (.lst [])=H3
  intro efl3 J3
  have x3:IntsAt H3 A xl xs 3:=⟨J3.s _ _ (s1 _ _ X.e) λz=>z.elim X.n nxl,X.l,X.b,X.n⟩
  push_cast[]
  by_cases hf:freeP vw'=[]
  ·refine BW (λz=>z hf) ?_
   exact⟨tk,vw',J3.w,J.cl,J.nm,J.rc,J.rm,J.z,J.p,J.f,by have:=J.l;omega,J3.e,J3.s⟩
  ·refine B1 hf ?_
   push_cast[↓zT]
   refine x3.at (k:=i) (by omega) λy _ _=>⟨(freeP vw').length,.inl ⟨_,SqL.of efl3,by rw[B4]⟩,?_⟩
   have fl1:1<=(freeP vw').length:=by
    cases e:freeP vw' with
    | nil=>exact absurd e hf
    | cons _ _=>simp
   push_cast[]
   refine⟨by omega,ES efl3 hf λp hp=> ?_⟩
   obtain⟨hp1,hp2⟩:=DJ hp
   rw[Bool.and_eq_true]at hp2
   have hpc:AF vw'.pc p=none:=Option.isNone_iff_eq_none.mp hp2.1
   have hpm:AF vw'.pm p=none:=Option.isNone_iff_eq_none.mp hp2.2
   have hpm':p<vw'.pm.length:=by rw[J.w.ok.l2];exact hp1
   push_cast[↓zU]
   refine x3.at (k:=i) (by omega) λy2 _ _=> ?_
   push_cast[]
   refine⟨⟨by decide,by decide⟩,_,rfl,λz H4 hz s4=> ?_⟩
   have I4:=J3.w.same s4
   refine I4.at2 (I4.set2 (cc:=some z) hp1 rfl (λc hc=>by cases hc;exact hz) λH5 I5 sb5 tk5=> ?_)
   push_cast[↓zV]
   refine I5.at4 (I5.set4 (cc:=some 1) (by simp only[List.length_set];exact hp1) rfl (λc hc=>trivial) λH6 I6 sb6 tk6=> ?_)
   have e6:H6 tl=some (.lst (AV tk)):=sb6 _ _ (sb5 _ _ (s4 _ _ J3.e) ntl) ntl
   push_cast[↓zW]
   have jl:=J.l
   refine⟨.inl ⟨rfl,_,SqL.of e6⟩,tl,_,_,rfl,rfl,e6,Nat.lt_of_lt_of_le (show(AV tk).length<1000 by rw[B4];omega) (by decide),?_⟩
   have s7:SameBut (· =tl) H6 (upd H6 tl (.lst (AV tk++[V.int ↑p]))):=λy o e ny=>by rw[AW ny];exact e
   have tk7:C1 H6 (upd H6 tl (.lst (AV tk++[V.int ↑p]))):=λy us e=>s7 _ _ e (DU e e6 (by intro z;cases z))
   have I7:LWAt (upd H6 tl (.lst (AV tk++[V.int ↑p]))) A { vw' with pc:=vw'.pc.set p (some z),pm:=vw'.pm.set p (some 1) } lf:=by
    have ne:∀ y∈A.L,y≠tl:=λy hy z=>ntl (z ▸ hy)
    refine⟨s7 _ _ I6.ob (BX I.ob htl),I6.n.keep (λv c=>NmV.keep tk7) (λo e=>s7 _ _ e (ne _ (by simp[LW.L]))),I6.r.keep (λv c=>RcV.keep tk7) (λo e=>s7 _ _ e (ne _ (by simp[LW.L]))),I6.p.keep (λv c=>PcV.keep tk7) (λo e=>s7 _ _ e (ne _ (by simp[LW.L]))),I6.rm.keep (λv c=>MkV.keep tk7) (λo e=>s7 _ _ e (ne _ (by simp[LW.L]))),I6.pm.keep (λv c=>MkV.keep tk7) (λo e=>s7 _ _ e (ne _ (by simp[LW.L]))),s7 _ _ I6.l (ne _ (by simp[LW.L])),I6.ok,I6.nd,I6.nv⟩
   refine⟨tk++[p],_,I7,?_,J.nm,J.rc,J.rm,?_,?_,?_,by simp;omega,?_,?_⟩
   ·rw[<-List.append_assoc]
    exact J.cl.text hp1 hpm' hpm
   ·exact⟨J.z.1,J.z.2.1,by simp only[List.length_set];exact J.z.2.2⟩
   ·intro x hx
    show(AF (vw'.pc.set p (some z)) x).isSome=true/\_
    rw[B5 hp1]
    rcases List.mem_append.mp hx with h | h
    ·refine⟨?_,(J.p x h).2⟩
     split
     ·rfl
     ·exact(J.p x h).1
    ·rw[List.mem_singleton.mp h,if_pos rfl]
     exact⟨rfl,by rw[<-J.z.2.2];exact hp1⟩
   ·intro x hx r2 c2 h2
    rcases List.mem_append.mp hx with h | h
    ·exact J.f x h r2 c2 h2
    ·rw[List.mem_singleton.mp h]
     intro hm
     have:=(J.cl.em r2 c2 h2 p hm).2
     rw[hpm]at this;cases this
   ·rw[AS]
    unfold AV
    rw[List.map_append]
    rfl
   ·exact(((J3.s.trans s4.sb).trans (sb5.wide λx h=>.inl h)).trans (sb6.wide λx h=>.inl h)).trans (s7.wide λx h=>.inr h)
 ·subst eσ
  push_cast[↓zZ]
  refine⟨AV tk,.inl ⟨SqL.of J.e,λt ht=> ?_⟩⟩
  have s9:=AY (o:=.tup (AV tk)) ht
  refine q t tk vw' _ (J.w.same s9) J.cl J.nm J.rc J.rm J.z J.p J.f (by have:=J.l;omega) AS λy o e ny=>s9 _ _ (J.s _ _ (s1 _ _ e) λz=>z.elim ny λz=> ?_)
  rw[z,htl]at e;cases e
theorem Rj(h:NL K a vs H Q E):vs.length=3:=by
 obtain⟨_,_,_,_,_,_,_,_,_,_,_,rfl,_⟩:=h
 rfl
theorem LWAt.setl{A:LW}{vw:Vw}{lf lf':List Nat}(I:LWAt H A vw lf):LWAt (upd H A.a5 (.lst (AV lf'))) A vw lf'/\SameBut (· ∈A.L) H (upd H A.a5 (.lst (AV lf'))):=by
 have d:=I.diff
 have e:=I.l
 have tk:C1 H (upd H A.a5 (.lst (AV lf'))):=λy xs e2=>by rw[AW (DU e2 e (by intro z;cases z))];exact e2
 refine⟨⟨by rw[AW d.v5];exact I.ob,I.n.keep (λv c=>NmV.keep tk) (λo e=>by rw[AW d.d05];exact e),I.r.keep (λv c=>RcV.keep tk) (λo e=>by rw[AW d.d15];exact e),I.p.keep (λv c=>PcV.keep tk) (λo e=>by rw[AW d.d25];exact e),I.rm.keep (λv c=>MkV.keep tk) (λo e=>by rw[AW d.d35];exact e),I.pm.keep (λv c=>MkV.keep tk) (λo e=>by rw[AW d.d45];exact e),AS,I.ok,I.nd,I.nv⟩,λy o e ny=> ?_⟩
 rw[AW λz=>ny (by rw[z];simp[LW.L])];exact e
theorem Rk{lf tk:List Nat}(h:(lf++tk).Nodup):((lf++tk).filter λp=>decide (p∉tk))=lf:=by
 obtain⟨_,_,h3⟩:=List.nodup_append.mp h
 rw[List.filter_append]
 have e1:(lf.filter λp=>decide (p∉tk))=lf:=List.filter_eq_self.mpr λp hp=>by
  simp only[decide_eq_true_eq]
  exact λhm=>h3 p hp p hm rfl
 have e2:(tk.filter λp=>decide (p∉tk))=[]:=List.filter_eq_nil_iff.mpr λp hp=>by simp[hp]
 rw[e1,e2,List.append_nil]
theorem Rl(h:KQ K a vs H Q E):T7 K a (λ_=>E) (A7 Q) (A6 ["view","names","xs","with_name","records","r","pieces"] vs) H:=by
 obtain⟨A,vw,lf,zs,nl,xl,xs,wn,n,r0,c0,rfl,I,C,N,X,sz,hn36,hc36,q⟩:=h
 push_cast[T7,↓Eb]
 refine⟨A,vw,lf,rfl,I,λfl H1 hfl s1 efl=> ?_⟩
 have I1:=I.same s1
 have out:∀ {H':Hp},Same H H'->Q .non H':=λs=>q vw lf _ (I.same s) C sz s.sb
 have main:∀ {H2:Hp},Same H H2->H2 fl=some (.lst (AV (freeR vw)))->freeR vw≠[]->(wn=true->DT vw≠[])->AQ (T1 K a (λ_=>E) (λ_=>E)) (AQ (T2 K a (λ_=>E) (λ_=>E)) (T6 K a (λ_=>E) (λ_=>E))) (A7 Q) [some (.ref A.v),some (.ref nl),some (.ref xl),some (.bl wn),some (.ref fl),none,none] H2:=λ{H2} s2 efl2 hfr hfn=>by
  have I2:=I.same s2
  have X2:=X.sb s2.sb
  have N2:=N.sb s2.sb
  have fl1:1<=(freeR vw).length:=by
   cases e:freeR vw with
   | nil=>exact absurd e hfr
   | cons _ _=>simp
  push_cast[↓Ed]
  refine X2.at (k:=0) (by omega) λy _ _=>⟨(freeR vw).length,.inl ⟨_,SqL.of efl2,by rw[B4]⟩,?_⟩
  push_cast[]
  refine⟨by omega,ES efl2 hfr λr hr=> ?_⟩
  obtain⟨hr1,hr2⟩:=DJ hr
  rw[Bool.and_eq_true]at hr2
  have hrc:AF vw.rc r=none:=Option.isNone_iff_eq_none.mp hr2.1
  have hl0:=C.led0 hrc
  push_cast[↓Eg]
  refine RV (SqL.of X2.e) λx2 hx2=> ?_
  have ecut:D5 (xs.map V.int) (some 4) (some 7)=((xs.drop 4).take 3).map V.int:=by
   unfold D5
   rw[List.length_map,X.l,<-List.map_drop,<-List.map_take]
   rfl
  rw[ecut]
  have s3:=AY (o:=.lst (((xs.drop 4).take 3).map V.int)) hx2
  have e3:upd H2 x2 (.lst (((xs.drop 4).take 3).map V.int)) x2=some (.lst (((xs.drop 4).take 3).map V.int)):=AS
  have nx2:x2∉A.L:=λhm=>by
   simp[LW.L]at hm
   obtain⟨_,k0,_⟩:=I2.n
   obtain⟨_,k1,_⟩:=I2.r
   obtain⟨_,k2,_⟩:=I2.p
   obtain⟨_,k3,_⟩:=I2.rm
   obtain⟨_,k4,_⟩:=I2.pm
   have k5:=I2.l
   rcases hm with rfl | rfl | rfl | rfl | rfl | rfl
   ·rw[hx2]at k0;cases k0
   ·rw[hx2]at k1;cases k1
   ·rw[hx2]at k2;cases k2
   ·rw[hx2]at k3;cases k3
   ·rw[hx2]at k4;cases k4
   ·rw[hx2]at k5;cases k5
  revert s3 e3
  generalize upd H2 x2 (.lst (((xs.drop 4).take 3).map V.int))=H3
  intro s3 e3
  refine(X2.sb s3.sb).at (k:=1) (by omega) λy2 _ _=> ?_
  push_cast[]
  obtain⟨mn,emn,hmn⟩:=GP y2 (n:=4) (by omega)
  rw[show((4:Nat):Int)=4 from rfl]at emn
  rw[emn]
  refine⟨A,vw,lf,lf,zs,x2,(xs.drop 4).take 3,mn,n,r0,c0,rfl,I2.same s3,C,⟨e3,by rw[List.length_take,List.length_drop,X.l];rfl,λx hx=>X.b x (List.mem_of_mem_drop (List.mem_of_mem_take hx)),nx2⟩,by omega,sz,λt tk vw' H4 I4 C4 hnm hrc4 hrm4 sz4 hp4 hf4 ht3 et sb4=> ?_⟩
  have X4:=(X2.sb s3.sb).sb sb4
  have N4:=(N2.sb s3.sb).sb sb4
  have s04:SameBut (· ∈A.L) H H4:=((s2.trans s3).sb).trans sb4
  have hrc':AF vw'.rc r=none:=by rw[hrc4];exact hrc
  have hr1':r<vw'.rc.length:=by rw[hrc4];exact hr1
  have nd4:=C4.nd
  have tkn:tk.Nodup:=(List.nodup_append.mp nd4).2.1
  have tko:∀ p∈tk,((AF vw'.pc p).isSome=true/\AF vw'.pm p=some 1)/\∀ r' c',AF vw'.rc r'=some c'->p∉c'.2:=λp hp=>⟨⟨(hp4 p hp).1,((C4.lm p).mp (List.mem_append.mpr (.inr hp))).1⟩,hf4 p hp⟩
  have rok:∀ {cnt:Int} (c:Int × List Nat),some (cnt,tk)=some c->(∀ p∈c.2,p<vw'.pc.length)/\c.2.length<=10:=λc hc=>by
   cases hc
   exact⟨λp hp=>by rw[sz4.2.2];exact(hp4 p hp).2,by show tk.length<=10;omega⟩
  push_cast[↓Ev]
  cases wn with
  | true =>
   refine B1 rfl ?_
   push_cast[↓Eh]
   refine⟨⟨by decide,by decide,by decide⟩,by decide,λlp hlp=> ?_⟩
   have s5:=AY (o:=.lst [V.int 0,V.int 0,V.int 1,V.int 2,V.int (10 ^ 30 - 40)]) hlp
   have e5:upd H4 lp (.lst [V.int 0,V.int 0,V.int 1,V.int 2,V.int (10 ^ 30 - 40)]) lp=some (.lst [V.int 0,V.int 0,V.int 1,V.int 2,V.int (10 ^ 30 - 40)]):=AS
   revert s5 e5
   generalize upd H4 lp (.lst [V.int 0,V.int 0,V.int 1,V.int 2,V.int (10 ^ 30 - 40)])=H5
   intro s5 e5
   refine(X4.sb s5.sb).at (k:=2) (by omega) λy3 _ _=> ?_
   push_cast[]
   obtain⟨b,eb,hb⟩:=GP y3 (n:=5) (by omega)
   rw[show((5:Nat):Int)=5 from rfl]at eb
   rw[eb]
   have fin:∀ e:Int,0<=e->(BC K (V.int 1) (V.int e) H5 λx H1=>2<=sizeLine/\∀ (p:Addr),H1 p=none->AK K (V.ref A.v) (V.int 1) (upd H1 p (HO.tup [x,V.ref t])) λo H1=>CG o (V.int ↑r) (V.ref p) H1 λH3=>AQ (T3 K a (λx=>E) λx=>E) (T4 K a (λx=>E) λx=>E) (A7 Q) [some (V.ref A.v),some (V.ref nl),some (V.ref xl),some (V.bl true),some (V.ref fl),some (V.int ↑r),some (V.ref t)] H3):=λe he=>by
    push_cast[]
    refine⟨by decide,λp hp=> ?_⟩
    have s6:=AY (o:=.tup [V.int (1+e),V.ref t]) hp
    have e6:upd H5 p (.tup [V.int (1+e),V.ref t]) p=some (.tup [V.int (1+e),V.ref t]):=AS
    revert s6 e6
    generalize upd H5 p (.tup [V.int (1+e),V.ref t])=H6
    intro s6 e6
    have s46:=s5.trans s6
    have I6:=I4.same s46
    refine I6.at1 (I6.set1 (cc:=some (1+e,tk)) hr1' ⟨p,t,rfl,e6,s46 _ _ et⟩ rok λH7 I7 sb7 tk7=> ?_)
    have C7:=C4.recd (cnt:=1+e) hr1' hrc' tkn ht3 tko (by omega)
    push_cast[↓Ej]
    have hrm':r<vw'.rm.length:=by rw[I4.ok.l1];exact hr1'
    refine I7.at3 (I7.set3 (cc:=some 1) (by simp only[List.length_set];exact hr1') rfl (λc hc=>trivial) λH8 I8 sb8 tk8=> ?_)
    have C8:=C7.mark (r:=r) (x:=some 1) hrm' (.inr rfl)
    have sb48:SameBut (· ∈A.L) H4 H8:=(s46.sb.trans sb7).trans sb8
    push_cast[↓Ek]
    refine(X4.sb sb48).at (k:=3) (by omega) λy4 _ _=> ?_
    have erc:AF (vw'.rc.set r (some (1+e,tk))) r=some (1+e,tk):=by rw[B5 hr1',if_pos rfl]
    have erm:AF (vw'.rm.set r (some 1)) r=some 1:=by rw[B5 hrm',if_pos rfl]
    have hled:led vw' r=0:=C4.led0 hrc'
    refine⟨A,_,lf,lf++tk,zs,nl,r,(1+e,tk),y4,n,r0,c0,rfl,I8,C8,N4.sb sb48,⟨sz4.1,by simp only[List.length_set];exact sz4.2.1,sz4.2.2⟩,hn36,?_,erc,?_,erm,λvw9 H9 I9 C9 sz9 sb9=> ?_⟩
    ·have:DT vw≠[]:=hfn rfl
     unfold DT at this ⊢
     show(List.filter (λk=>(AF vw'.nm k).isNone) (List.range vw'.nm.length))≠[]
     rw[hnm];exact this
    ·show((led vw' r:Nat):Int)+1<=1+e
     rw[hled];omega
    ·rw[Rk nd4]at C9
     exact q vw9 lf H9 I9 C9 sz9 ((s04.trans sb48).trans sb9)
   rcases(by omega:b=0\/b=1\/b=2\/b=3\/b=4)with h | h | h | h | h<;>subst h
   ·exact BU (SqL.of e5) (n:=0) rfl rfl (fin 0 (by omega))
   ·exact BU (SqL.of e5) (n:=1) rfl rfl (fin 0 (by omega))
   ·exact BU (SqL.of e5) (n:=2) rfl rfl (fin 1 (by omega))
   ·exact BU (SqL.of e5) (n:=3) rfl rfl (fin 2 (by omega))
   ·exact BU (SqL.of e5) (n:=4) rfl rfl (fin (10 ^ 30 - 40) (by decide))
  | false =>
   refine BW Bool.false_ne_true ?_
   push_cast[↓El]
   refine X4.at (k:=2) (by omega) λy3 _ _=> ?_
   push_cast[]
   have hd3:0<=y3 % 3:=by omega
   generalize y3 % 3=e at hd3 ⊢
   refine⟨by decide,λp hp=> ?_⟩
   have s6:=AY (o:=.tup [V.int (1+e),V.ref t]) hp
   have e6:upd H4 p (.tup [V.int (1+e),V.ref t]) p=some (.tup [V.int (1+e),V.ref t]):=AS
   revert s6 e6
   generalize upd H4 p (.tup [V.int (1+e),V.ref t])=H6
   intro s6 e6
   have I6:=I4.same s6
   refine I6.at1 (I6.set1 (cc:=some (1+e,tk)) hr1' ⟨p,t,rfl,e6,s6 _ _ et⟩ rok λH7 I7 sb7 tk7=> ?_)
   have C7:=C4.recd (cnt:=1+e) hr1' hrc' tkn ht3 tko (by omega)
   have hrm':r<vw'.rm.length:=by rw[I4.ok.l1];exact hr1'
   have sb47:SameBut (· ∈A.L) H4 H7:=s6.sb.trans sb7
   have et7:=tk7 _ _ (s6 _ _ et)
   push_cast[↓Em]
   refine⟨by decide,λlp hlp=> ?_⟩
   have s8:=AY (o:=.lst [V.int 1,V.int 1,V.int 0,V.non]) hlp
   have e8:upd H7 lp (.lst [V.int 1,V.int 1,V.int 0,V.non]) lp=some (.lst [V.int 1,V.int 1,V.int 0,V.non]):=AS
   revert s8 e8
   generalize upd H7 lp (.lst [V.int 1,V.int 1,V.int 0,V.non])=H8
   intro s8 e8
   have I8:=I7.same s8
   have et8:=s8 _ _ et7
   have sb48:=sb47.trans s8.sb
   refine(X4.sb sb48).at (k:=2) (by omega) λy4 _ _=> ?_
   push_cast[]
   obtain⟨b,eb,hb⟩:=GP (y4 / 3) (n:=4) (by omega)
   rw[show((4:Nat):Int)=4 from rfl]at eb
   rw[eb]
   have hled:led vw' r=0:=C4.led0 hrc'
   have fin:∀ {v:V} {x:Option Int},MkV H8 v x->(AK K (V.ref A.v) (V.int 3) H8 λo H1=>CG o (V.int ↑r) v H1 λH3=>T5 K a (λx=>E) (λx=>E) (A7 Q) [some (V.ref A.v),some (V.ref nl),some (V.ref xl),some (V.bl false),some (V.ref fl),some (V.int ↑r),some (V.ref t)] H3):=λ{v x} hv=>by
    refine I8.at3 (I8.set3 (cc:=x) (by simp only[List.length_set];exact hr1') hv (λc hc=>trivial) λH9 I9 sb9 tk9=> ?_)
    have C9:=C7.mark (r:=r) (x:=x) hrm' (.inl hled)
    push_cast[↓Ep]
    refine I9.at5 ⟨.inl ⟨rfl,_,SqL.of I9.l⟩,?_⟩
    refine⟨_,.inr (SqT.of (tk9 _ _ et8)),λll hll=> ?_⟩
    have s10:=AY (o:=.lst (AV tk)) hll
    have e10:upd H9 ll (.lst (AV tk)) ll=some (.lst (AV tk)):=AS
    revert s10 e10
    generalize upd H9 ll (.lst (AV tk))=H10
    intro s10 e10
    have I10:=I9.same s10
    have lfl:=C.short
    have l2:=I.ok.l2
    have szc:=sz.2.2
    refine⟨A.a5,ll,_,_,rfl,rfl,I10.l,e10,small _ (by rw[B4,B4];omega),?_⟩
    obtain⟨I11,sb11⟩:=I10.setl (lf':=lf++tk)
    have en:AV lf++AV tk=AV (lf++tk):=by unfold AV;rw[List.map_append]
    rw[en]
    exact q _ (lf++tk) _ I11 C9 ⟨sz4.1,by simp only[List.length_set];exact sz4.2.1,sz4.2.2⟩ ((((s04.trans sb48).trans sb9).trans s10.sb).trans sb11)
   refine⟨⟨by decide,by decide⟩,?_⟩
   rcases(by omega:b=0\/b=1\/b=2\/b=3)with h | h | h | h<;>subst h
   ·exact BU (SqL.of e8) (n:=0) rfl rfl (fin (x:=some 1) rfl)
   ·exact BU (SqL.of e8) (n:=1) rfl rfl (fin (x:=some 1) rfl)
   ·exact BU (SqL.of e8) (n:=2) rfl rfl (fin (x:=some 0) rfl)
   ·exact BU (SqL.of e8) (n:=3) rfl rfl (fin (x:=none) rfl)
 push_cast[↓Ec]
 refine⟨by decide,λe0 he0=> ?_⟩
 have s2:=AY (o:=.lst []) he0
 refine IC (s2 _ _ efl) AS ⟨_,rfl,?_⟩
 have s02:=s1.trans s2
 have efl2:=s2 _ _ efl
 revert s02 efl2
 generalize upd H1 e0 (.lst [])=H2
 intro s02 efl2
 by_cases hf:freeR vw=[]
 ·refine B1 (by simpa using hf) ?_
  push_cast[↓fU]
  exact out s02
 ·refine BW (by simpa using hf) ?_
  cases wn with
  | false =>
   refine BW Bool.false_ne_true ?_
   exact main s02 efl2 hf (λh=>by cases h)
  | true =>
   refine B1 rfl ⟨A,vw,lf,rfl,I.same s02,λfn H3 hfn s3 efn=>⟨by decide,λe1 he1=> ?_⟩⟩
   have s4:=AY (o:=.lst []) he1
   refine IC (s4 _ _ efn) AS ⟨_,rfl,?_⟩
   have s04:=(s02.trans s3).trans s4
   have efl4:=(s3.trans s4) _ _ efl2
   revert s04 efl4
   generalize upd H3 e1 (.lst [])=H4
   intro s04 efl4
   by_cases hg:DT vw=[]
   ·refine B1 (by simpa using hg) ?_
    push_cast[↓fU]
    exact out s04
   ·refine BW (by simpa using hg) ?_
    exact main s04 efl4 hf λ_=>hg
theorem Rm(h:KQ K a vs H Q E):vs.length=4:=by
 obtain⟨_,_,_,_,_,_,_,_,_,_,_,rfl,_⟩:=h
 rfl
theorem Rp{lf tk:List Nat}(h:∀ p∈lf,p∉tk):(lf.filter λp=>decide (p∉tk))=lf:=List.filter_eq_self.mpr λp hp=>by simpa using h p hp
theorem Rq(h:NM K a vs H Q E):TM K a (λ_=>E) (A7 Q) (A6 ["view","names","xs","led","records","r"] vs) H:=by
 obtain⟨A,vw,lf,zs,nl,xl,xs,n,r0,c0,rfl,I,C,N,X,sz,hn36,q⟩:=h
 have br:=I.ok.br
 push_cast[TM,↓z0]
 refine⟨A,vw,lf,rfl,I,λll H1 hll s1 ell=> ?_⟩
 have ell:H1 ll=some (.lst (AV ((List.range vw.rc.length).map (led vw)))):=ell
 push_cast[↓z6]
 refine⟨vw.rc.length,.inl ⟨_,SqL.of ell,by rw[B4,FZ]⟩,by omega,by omega,G3 (λr=>decide (0<led vw r)) (small _ (by omega)) (λk hk QB qb=> ?_) λrl hrl=> ?_⟩
 ·push_cast[BG]
  refine FY ell hk ?_
  push_cast[]
  rw[PM]
  exact qb
 have s2:=AY (o:=.lst (((List.range vw.rc.length).filter λr=>decide (0<led vw r)).map λ(i:Nat)=>V.int i)) hrl
 have er:upd H1 rl (.lst (((List.range vw.rc.length).filter λr=>decide (0<led vw r)).map λ(i:Nat)=>V.int i)) rl=some (.lst (AV ((List.range vw.rc.length).filter λr=>decide (0<led vw r)))):=AS
 revert s2 er
 generalize upd H1 rl (.lst (((List.range vw.rc.length).filter λr=>decide (0<led vw r)).map λ(i:Nat)=>V.int i))=H2
 intro s2 er
 have s02:=s1.trans s2
 have out:∀ {H':Hp},Same H H'->Q .non H':=λs=>q vw lf _ (I.same s) C sz s.sb
 push_cast[↓Ab]
 refine⟨by decide,λe0 he0=> ?_⟩
 have s3:=AY (o:=.lst []) he0
 refine K1 (s3 _ _ er) AS ⟨_,rfl,?_⟩
 have s03:=s02.trans s3
 have er3:=s3 _ _ er
 revert s03 er3
 generalize upd H2 e0 (.lst [])=H3
 intro s03 er3
 generalize hRL:((List.range vw.rc.length).filter λr=>decide (0<led vw r))=RL at er3
 by_cases hf:RL=[]
 ·refine BW (by simp[hf]) ?_
  exact out s03
 ·refine B1 (by simp[hf]) ⟨A,vw,lf,rfl,I.same s03,λfn H4 hfn s4 efn=>⟨by decide,λe1 he1=> ?_⟩⟩
  have s5:=AY (o:=.lst []) he1
  refine K1 (s5 _ _ efn) AS ⟨_,rfl,?_⟩
  have s05:=(s03.trans s4).trans s5
  have er5:=(s4.trans s5) _ _ er3
  revert s05 er5
  generalize upd H4 e1 (.lst [])=H5
  intro s05 er5
  by_cases hg:DT vw=[]
  ·refine BW (by simp[hg]) ?_
   exact out s05
  ·refine B1 (by simp[hg]) ?_
   have I5:=I.same s05
   have X5:=X.sb s05.sb
   have fl1:1<=RL.length:=by
    cases e:RL with
    | nil=>exact absurd e hf
    | cons _ _=>simp
   push_cast[↓z7]
   refine X5.at (k:=0) (by omega) λy _ _=>⟨RL.length,.inl ⟨_,SqL.of er5,by rw[B4]⟩,?_⟩
   push_cast[]
   refine⟨by omega,ES er5 hf λr hr=> ?_⟩
   rw[<-hRL]at hr
   obtain⟨hr1,hr2⟩:=DJ hr
   have hl:0<led vw r:=by simpa using hr2
   obtain⟨k,d,hk,hd⟩:=PQ hl
   have hrs:=C.ls k d hk
   rw[hd]at hrs
   obtain⟨c,hc⟩:=Option.isSome_iff_exists.mp hrs
   have hcm:=HA hc
   push_cast[↓z8]
   refine I5.ix1 hr1 λv hv=> ?_
   rw[hc]at hv
   obtain⟨p,t,rfl,hp,ht⟩:=hv
   refine CP hp (n:=0) rfl rfl ?_
   push_cast[]
   refine I5.ix1 hr1 λv2 hv2=> ?_
   rw[hc]at hv2
   obtain⟨p2,t2,rfl,hp2,ht2⟩:=hv2
   refine CP hp2 (n:=1) rfl rfl ⟨by decide,λnp hnp=> ?_⟩
   have s6:=AY (o:=.tup [V.int (c.1+1),V.ref t2]) hnp
   have e6:upd H5 np (.tup [V.int (c.1+1),V.ref t2]) np=some (.tup [V.int (c.1+1),V.ref t2]):=AS
   revert s6 e6
   generalize upd H5 np (.tup [V.int (c.1+1),V.ref t2])=H6
   intro s6 e6
   have I6:=I5.same s6
   refine I6.at1 (I6.set1 (cc:=some (c.1+1,c.2)) hr1 ⟨np,t2,rfl,e6,s6 _ _ ht2⟩ (λc' h=>by cases h;exact I.ok.n2 c hcm) λH7 I7 sb7 tk7=> ?_)
   have fw:=C.fw r c hc
   have C7:=C.cnt (cnt:=c.1+1) hc (by omega)
   have sb07:SameBut (· ∈A.L) H H7:=(s05.trans s6).sb.trans sb7
   have erc:AF (vw.rc.set r (some (c.1+1,c.2))) r=some (c.1+1,c.2):=by rw[B5 hr1,if_pos rfl]
   push_cast[↓z9]
   refine(X.sb sb07).at (k:=1) (by omega) λy4 _ _=> ?_
   refine⟨A,_,lf,lf,zs,nl,r,(c.1+1,c.2),y4,n,r0,c0,rfl,I7,C7,N.sb sb07,⟨sz.1,by simp only[List.length_set];exact sz.2.1,sz.2.2⟩,hn36,hg,erc,?_,C.fr r hl,λvw9 H9 I9 C9 sz9 sb9=> ?_⟩
   ·show((led vw r:Nat):Int)+1<=c.1+1
    omega
   ·rw[Rp λp hp=>((C.lm p).mp hp).2 r c hl hc]at C9
    exact q vw9 lf H9 I9 C9 sz9 (sb07.trans sb9)
theorem Rv(h:NM K a vs H Q E):vs.length=3:=by
 obtain⟨_,_,_,_,_,_,_,_,_,_,rfl,_⟩:=h
 rfl
theorem Rw(h:NN K a vs H Q E):TQ K a (λ_=>E) (A7 Q) (A6 ["view","kind","xs","records","pieces","p"] vs) H:=by
 obtain⟨A,vw,lf,zs,k,xl,xs,n,r0,c0,rfl,I,C,X,sz,hc36,q⟩:=h
 have br:=I.ok.br
 have l2:=I.ok.l2
 push_cast[TQ,↓Ac,↓Ag]
 refine⟨A,vw,lf,rfl,I,λfr H1 hfr s1 efr=>⟨A,vw,lf,rfl,I.same s1,λfp H2 hfp s2 efp=> ?_⟩⟩
 have s02:=s1.trans s2
 have efr2:=s2 _ _ efr
 have t12:∀ {H':Hp} {y5:Option V},k≠7->Q .non H'->NV K a (λ_=>E) (λ_=>E) (A7 Q) [some (.ref A.v),some (.int k),some (.ref xl),some (.ref fr),some (.ref fp),y5] H':=λhk q'=>by
  push_cast[↓dQ]
  refine BW hk ?_
  exact q'
 have t8:∀ {H':Hp} {y5:Option V},k≠5->NV K a (λ_=>E) (λ_=>E) (A7 Q) [some (.ref A.v),some (.int k),some (.ref xl),some (.ref fr),some (.ref fp),y5] H'->AQ (TN K a (λ_=>E) (λ_=>E)) (NV K a (λ_=>E) (λ_=>E)) (A7 Q) [some (.ref A.v),some (.int k),some (.ref xl),some (.ref fr),some (.ref fp),y5] H':=λhk q'=>by
  push_cast[↓dM]
  refine BW hk ?_
  exact q'
 push_cast[↓Aj]
 by_cases h6:k=6
 ·refine B1 h6 ⟨by decide,λe0 he0=> ?_⟩
  have s3:=AY (o:=.lst []) he0
  refine K1 (s3 _ _ efr2) AS ⟨_,rfl,?_⟩
  have s03:=s02.trans s3
  have efr3:=s3 _ _ efr2
  revert s03 efr3
  generalize upd H2 e0 (.lst [])=H3
  intro s03 efr3
  have I3:=I.same s03
  by_cases hf:freeR vw=[]
  ·refine BW (by simp[hf]) ?_
   exact t8 (by omega) (t12 (by omega) (q vw lf _ I3 C sz s03.sb))
  ·refine B1 (by simp[hf]) ?_
   have fl1:1<=(freeR vw).length:=by
    cases e:freeR vw with
    | nil=>exact absurd e hf
    | cons _ _=>simp
   push_cast[↓Ah]
   refine I3.at3 ((X.sb s03.sb).at (k:=0) (by omega) λy _ _=>⟨(freeR vw).length,.inl ⟨_,SqL.of efr3,by rw[B4]⟩,?_⟩)
   push_cast[]
   refine⟨by omega,ES efr3 hf λr hr=> ?_⟩
   obtain⟨hr1,hr2⟩:=DJ hr
   rw[Bool.and_eq_true]at hr2
   refine I3.set3 (cc:=some 1) hr1 rfl (λc hc=>trivial) λH4 I4 sb4 tk4=> ?_
   exact t8 (by omega) (t12 (by omega) (q _ lf _ I4 (C.mark (x:=some 1) (by rw[I.ok.l1];exact hr1) (.inr rfl)) sz (s03.sb.trans sb4)))
 refine BW h6 ?_
 push_cast[↓dM]
 have dp:∀ {p:Nat},p∈freeP vw->p<vw.pc.length/\AF vw.pc p=none/\AF vw.pm p=none:=λhp=>by
  obtain⟨hp1,hp2⟩:=DJ hp
  rw[Bool.and_eq_true]at hp2
  exact⟨hp1,Option.isNone_iff_eq_none.mp hp2.1,Option.isNone_iff_eq_none.mp hp2.2⟩
 by_cases h5:k=5
 ·refine B1 h5 ⟨by decide,λe0 he0=> ?_⟩
  have s3:=AY (o:=.lst []) he0
  refine K1 (s3 _ _ efp) AS ⟨_,rfl,?_⟩
  have s03:=s02.trans s3
  have efp3:=s3 _ _ efp
  revert s03 efp3
  generalize upd H2 e0 (.lst [])=H3
  intro s03 efp3
  have I3:=I.same s03
  by_cases hf:freeP vw=[]
  ·refine BW (by simp[hf]) ?_
   exact t12 (by omega) (q vw lf _ I3 C sz s03.sb)
  ·refine B1 (by simp[hf]) ?_
   have fl1:1<=(freeP vw).length:=by
    cases e:freeP vw with
    | nil=>exact absurd e hf
    | cons _ _=>simp
   push_cast[↓Ak]
   refine(X.sb s03.sb).at (k:=0) (by omega) λy _ _=>⟨(freeP vw).length,.inl ⟨_,SqL.of efp3,by rw[B4]⟩,?_⟩
   push_cast[]
   refine⟨by omega,ES efp3 hf λp hp=> ?_⟩
   obtain⟨hp1,hpc,hpm⟩:=dp hp
   push_cast[↓Al]
   refine I3.at4 (I3.set4 (cc:=some 1) hp1 rfl (λc hc=>trivial) λH4 I4 sb4 tk4=> ?_)
   push_cast[↓Am]
   have lfl:=C.short
   have szc:=sz.2.2
   refine I4.at5 ⟨.inl ⟨rfl,_,SqL.of I4.l⟩,A.a5,_,_,rfl,rfl,I4.l,Nat.lt_of_lt_of_le (show(AV lf).length<1000 by rw[B4];omega) (by decide),?_⟩
   obtain⟨I5,sb5⟩:=I4.setl (lf':=lf++[p])
   have en:AV lf++[V.int ↑p]=AV (lf++[p]):=by unfold AV;rw[List.map_append];rfl
   rw[en]
   exact t12 (by omega) (q _ (lf++[p]) _ I5 (C.pmk (by omega) hpm) sz ((s03.sb.trans sb4).trans sb5))
 refine BW h5 ?_
 push_cast[↓dQ]
 by_cases h7:k=7
 ·refine B1 h7 ⟨by decide,λe0 he0=> ?_⟩
  have s3:=AY (o:=.lst []) he0
  refine K1 (s3 _ _ efp) AS ⟨_,rfl,?_⟩
  have s03:=s02.trans s3
  have efp3:=s3 _ _ efp
  revert s03 efp3
  generalize upd H2 e0 (.lst [])=H3
  intro s03 efp3
  have I3:=I.same s03
  by_cases hf:freeP vw=[]
  ·refine BW (by simp[hf]) ?_
   exact q vw lf _ I3 C sz s03.sb
  ·refine B1 (by simp[hf]) ?_
   have fl1:1<=(freeP vw).length:=by
    cases e:freeP vw with
    | nil=>exact absurd e hf
    | cons _ _=>simp
   push_cast[↓Ap]
   refine(X.sb s03.sb).at (k:=0) (by omega) λy _ _=>⟨(freeP vw).length,.inl ⟨_,SqL.of efp3,by rw[B4]⟩,?_⟩
   push_cast[]
   refine⟨by omega,ES efp3 hf λp hp=> ?_⟩
   obtain⟨hp1,hpc,hpm⟩:=dp hp
   push_cast[↓Aq]
   refine(X.sb s03.sb).at (k:=1) (by omega) λy2 _ _=>⟨_,rfl,λz H4 hz s4=> ?_⟩
   have I4:=I3.same s4
   refine I4.at2 (I4.set2 (cc:=some z) hp1 rfl (λc hc=>by cases hc;exact hz) λH5 I5 sb5 tk5=> ?_)
   have sb05:SameBut (· ∈A.L) H H5:=(s03.trans s4).sb.trans sb5
   push_cast[↓Av]
   refine⟨by decide,λlp hlp=> ?_⟩
   have s6:=AY (o:=.lst [V.int 0,V.non]) hlp
   have e6:upd H5 lp (.lst [V.int 0,V.non]) lp=some (.lst [V.int 0,V.non]):=AS
   revert s6 e6
   generalize upd H5 lp (.lst [V.int 0,V.non])=H6
   intro s6 e6
   have I6:=I5.same s6
   have sb06:=sb05.trans s6.sb
   refine(X.sb sb06).at (k:=2) (by omega) λy3 _ _=> ?_
   push_cast[]
   obtain⟨b,eb,hb⟩:=GP y3 (n:=2) (by omega)
   rw[show((2:Nat):Int)=2 from rfl]at eb
   rw[eb]
   have fin:∀ {v:V} {x:Option Int},MkV H6 v x->x≠some 1->(AK K (V.ref A.v) (V.int 4) H6 λo H1=>CG o (V.int ↑p) v H1 λH3=>Q V.non H3):=λ{v x} hv hx=>by
    refine I6.at4 (I6.set4 (cc:=x) (by simp only[List.length_set];exact hp1) hv (λc hc=>trivial) λH7 I7 sb7 tk7=> ?_)
    exact q _ lf _ I7 (C.alone (z:=some z) (x:=x) hp1 (by omega) hpm hx) ⟨sz.1,sz.2.1,by simp only[List.length_set];exact sz.2.2⟩ (sb06.trans sb7)
   rcases(by omega:b=0\/b=1)with h | h<;>subst h
   ·exact BU (SqL.of e6) (n:=0) rfl rfl (fin (x:=some 0) rfl (by decide))
   ·exact BU (SqL.of e6) (n:=1) rfl rfl (fin (x:=none) rfl (by decide))
 ·refine BW h7 ?_
  exact q vw lf _ (I.same s02) C sz s02.sb
theorem Rx(h:NN K a vs H Q E):vs.length=3:=by
 obtain⟨_,_,_,_,_,_,_,_,_,_,rfl,_⟩:=h
 rfl
theorem Ry(h:NP K a vs H Q E):S9 K a (λ_=>E) (A7 Q) (A6 ["view","led","records","found"] vs) H:=by
 obtain⟨A,vw,lf,zs,rfl,I,C,h36,q⟩:=h
 have ok:=I.ok
 have br:=ok.br
 have bp:=ok.bp
 have l2:=ok.l2
 push_cast[S9,↓y7]
 refine⟨A,vw,lf,rfl,I,λl1 H0 hl1' s0 hl1=> ?_⟩
 have hl1:H0 l1=some (.lst (AV ((List.range vw.rc.length).map (led vw)))):=hl1
 have I0:=I.same s0
 have nl1:(AV ((List.range vw.rc.length).map (led vw))).length=vw.rc.length:=by rw[B4,FZ]
 push_cast[↓zA]
 refine⟨vw.rc.length,.inl ⟨_,SqL.of hl1,nl1.symm⟩,by omega,by omega,G3 (λk=>(AF vw.rc k).isSome) (small _ (by omega)) (λk hk QB qb=> ?_) λrl hrl=> ?_⟩
 ·push_cast[BG]
  refine I0.ix1 hk λv hv=> ?_
  push_cast[]
  rw[IB hv]
  simpa using qb
 have s1:=AY (o:=.lst (((List.range vw.rc.length).filter λk=>(AF vw.rc k).isSome).map λ(i:Nat)=>V.int i)) hrl
 have er:upd H0 rl (.lst (((List.range vw.rc.length).filter λk=>(AF vw.rc k).isSome).map λ(i:Nat)=>V.int i)) rl=some (.lst (AV ((List.range vw.rc.length).filter λk=>(AF vw.rc k).isSome))):=AS
 revert s1 er
 generalize upd H0 rl (.lst (((List.range vw.rc.length).filter λk=>(AF vw.rc k).isSome).map λ(i:Nat)=>V.int i))=H1
 intro s1 er
 push_cast[↓zB]
 refine .inl ⟨⟨_,SqL.of er⟩,GN (EK vw) (λr=>[.str "many",.int r,.int (led vw r)]) er (F0 br) (λk hk H4 s QB qb=> ?_) (λk hk hp H4 Q' s q'=> ?_) ?_⟩
 ·obtain⟨hk,hs⟩:=DJ hk
  obtain⟨c,hc⟩:=Option.isSome_iff_exists.mp hs
  have s':=s1.trans s
  unfold EK at qb
  simp only[hc]at qb
  push_cast[BG]
  refine FY (s' _ _ hl1) hk ?_
  push_cast[]
  by_cases h0:0<led vw k
  ·refine B1 (by omega) ((I0.same s').ix1 hk λv hv=> ?_)
   rw[hc]at hv
   obtain⟨p,t,rfl,hp,ht⟩:=hv
   refine CP hp (n:=0) rfl rfl (FY (s' _ _ hl1) hk ?_)
   push_cast[]
   rw[decide_eq_true h0,Bool.true_and]at qb
   exact qb
  ·refine BW (by omega) ?_
   rw[decide_eq_false h0,Bool.false_and]at qb
   exact qb
 ·obtain⟨hk,hs⟩:=DJ hk
  push_cast[BG]
  refine FY ((s1.trans s) _ _ hl1) hk ?_
  exact⟨by decide,q'⟩
 rw[FJ (r:=EK vw) λk _=>by
  unfold EK
  cases AF vw.rc k<;>simp]
 intro f2 H2 h2 s2 F2
 have n2:=C3 (p:=EK vw) (f:=λr=>[.str "many",.int r,.int (led vw r)]) br
 have s02:=s1.trans s2
 push_cast[↓zC]
 refine .inl ⟨⟨_,SqL.of (s2 _ _ er)⟩,GN (λr=>decide (led vw r=0)) (λr=>[.str "left",.str "record",.int r]) (s2 _ _ er) (F0 br) (λk hk H4 s QB qb=> ?_) (λk hk hp H4 Q' s q'=> ?_) ?_⟩
 ·obtain⟨hk,hs⟩:=DJ hk
  push_cast[BG]
  refine FY ((s02.trans s) _ _ hl1) hk ?_
  push_cast[]
  rw[iG]
  exact qb
 ·push_cast[]
  exact⟨by decide,q'⟩
 rw[FJ λk _=>rfl]
 intro f3 H3 h3 s3 F3
 have n3:=C3 (p:=λr=>(AF vw.rc r).isSome && decide (led vw r=0)) (f:=λr=>[.str "left",.str "record",.int r]) br
 refine E7 (F2.same s3) F3 (by omega) λfd H4 hfd s4 F4=> ?_
 have s04:=(s02.trans s3).trans s4
 have F4:FindsL H4 fd (IS vw):=F4
 have I4:=I0.same s04
 obtain⟨_,_,_,m4,m5,m6⟩:=NX ok
 have lfl:=C.short
 push_cast[↓zD]
 refine I4.at5 ⟨A.a5,lf.map λ(k:Nat)=>(k:Int),rfl,by rw[<-PP];exact SqL.of I4.l,by rw[List.length_map];omega,λD ks hD hpm hsr=> ?_⟩
 have eks:=C.sorted l2 hpm hsr
 have eks2:ks.map V.int=AV ((List.range vw.pc.length).filter λp=>decide (AF vw.pm p=some 1) && decide (E3 vw p=0)):=by rw[eks,PP]
 rw[eks2]
 have s5:=AY (o:=.lst (AV ((List.range vw.pc.length).filter λp=>decide (AF vw.pm p=some 1) && decide (E3 vw p=0)))) hD
 have e5:upd H4 D (.lst (AV ((List.range vw.pc.length).filter λp=>decide (AF vw.pm p=some 1) && decide (E3 vw p=0)))) D=some (.lst (AV ((List.range vw.pc.length).filter λp=>decide (AF vw.pm p=some 1) && decide (E3 vw p=0)))):=AS
 revert s5 e5
 generalize upd H4 D (.lst (AV ((List.range vw.pc.length).filter λp=>decide (AF vw.pm p=some 1) && decide (E3 vw p=0))))=H5
 intro s5 e5
 refine⟨D,rfl,.inl ⟨⟨_,SqL.of e5⟩,GN (λ_=>true) (λp=>[.str "left",.str "piece",.int p]) e5 (F0 bp) (λk hk H6 s QB qb=>qb) (λk hk hp H6 Q' s q'=> ?_) ?_⟩⟩
 ·push_cast[]
  exact⟨by decide,q'⟩
 rw[FJ (r:=λp=>decide (AF vw.pm p=some 1) && decide (E3 vw p=0)) λk _=>by rw[Bool.and_true]]
 intro f6 H6 h6 s6 F6
 have F6:FindsL H6 f6 (IT vw):=F6
 refine E7 (F4.same (s5.trans s6)) F6 (by omega) λf7 H7 h7 s7 F7=> ?_
 have s07:=((s04.trans s5).trans s6).trans s7
 push_cast[↓zE]
 refine⟨vw.rc.length,.inl ⟨_,SqL.of (s07 _ _ hl1),nl1.symm⟩,by omega,by omega,Ky (λr=>decide (AF vw.rm r=some 1) && (AF vw.rc r).isNone) (λr=>[.str "marked",.int r]) (by omega) (λk hk H5 s QB qb=> ?_) (λk hk hp H5 Q' s q'=> ?_) λa8 H8 h8 s8 F8=> ?_⟩
 ·have I':=I0.same (s07.trans s)
  push_cast[BG]
  refine I'.ix3 hk λv hv=>UG hv ⟨_,rfl,?_⟩
  by_cases h1:AF vw.rm k=some 1
  ·refine B1 (by simpa using h1) (I'.ix1 hk λv2 hv2=> ?_)
   push_cast[]
   rw[IB hv2]
   rw[decide_eq_true h1,Bool.true_and]at qb
   exact qb
  ·refine BW (by simpa using h1) ?_
   rw[decide_eq_false h1,Bool.false_and]at qb
   exact qb
 ·push_cast[]
  exact⟨by decide,q'⟩
 have F8:FindsL H8 a8 (IU vw):=F8
 exact E7 (F7.same s8) F8 (by rw[List.length_append];omega) λl H9 hl s9 F9=>q l H9 (s0.free (s07.free (s8.free hl))) (((s0.trans s07).trans s8).trans s9) F9
theorem Rz(h:NP K a vs H Q E):vs.length=1:=by
 obtain⟨_,_,_,_,rfl,_⟩:=h
 rfl
theorem Sb{F:Addr->Nat->Prop}{as:List Addr}{x0 x1 x2 x3 x4:Nat}(h:Paired F as [x0,x1,x2,x3,x4]):∃ a0 a1 a2 a3 a4,as=[a0,a1,a2,a3,a4]/\F a0 x0/\F a1 x1/\F a2 x2/\F a3 x3/\F a4 x4:=by
 cases h with | cons h0 h=>cases h with | cons h1 h=>cases h with | cons h2 h=>cases h with | cons h3 h=>cases h with | cons h4 h =>
  cases h
  exact⟨_,_,_,_,_,rfl,h0,h1,h2,h3,h4⟩
theorem Sc(h:NO K a vs H Q E):T9 K a (λ_=>E) (A7 Q) (A6 ["cells","sizes","names","many","view","cell","xs"] vs) H:=by
 obtain⟨sc,z,nl,ns,zs,n,r,c,w,rfl,hs,hns,hz,n1,n6,r1,r6,c1,c6,w1,w6,hnl,hzl,hzd,hzs,q⟩:=h
 have bw:∀ k:Nat,k<=6->k * w<=36:=λk hk=>Nat.mul_le_mul hk w6
 have bn:=bw n n6
 have br:=bw r r6
 have bc:=bw c c6
 have cn:∀ k:Nat,((k:Int) * w)=((k * w:Nat):Int):=λk=>by simp
 push_cast[T9,↓Fh]
 refine .inr ⟨z,_,rfl,SqT.of hz,by simp[HT.sIx],λt ht=>⟨t,rfl,.inr ⟨⟨_,SqT.of AS⟩,?_⟩⟩⟩
 have e1:upd H t (.tup (D5 [.int n,.int r,.int c,.int w] none (some 3))) t=some (.tup [.int n,.int r,.int c]):=by rw[AS];rfl
 have s1:=AY (o:=.tup (D5 [.int n,.int r,.int c,.int w] none (some 3))) ht
 revert e1 s1
 generalize upd H t (.tup (D5 [.int n,.int r,.int c,.int w] none (some 3)))=H1
 intro e1 s1
 refine Pp (xs:=[.int n,.int r,.int c]) (small _ (by simp)) (λi ys H'=>H'=H1/\ys=([n * w,r * w,c * w].take i).map λ(k:Nat)=>V.int k) ⟨rfl,rfl⟩ (λi ys H' _ ⟨e,_⟩=>e ▸ SqT.of e1) (λi x ys H' hx _ ⟨e,e'⟩=> ?_) (λys H' _ ⟨e,e'⟩ l hl=> ?_)
 ·subst e
  push_cast[BG]
  obtain⟨k,rfl,hk6,ek⟩:∃ k:Nat,x=.int k/\k<=6/\[n * w,r * w,c * w][i]? =some (k * w):=by
   match i with
   | 0=>cases hx;exact⟨n,rfl,n6,rfl⟩
   | 1=>cases hx;exact⟨r,rfl,r6,rfl⟩
   | 2=>cases hx;exact⟨c,rfl,c6,rfl⟩
   | i+3=>simp at hx
  refine CP (s1 _ _ hz) (n:=3) rfl rfl ?_
  push_cast[]
  refine⟨.inl ⟨by omega,by omega⟩,?_⟩
  rw[cn k,e',ED ek,List.map_append]
  rfl
 subst e
 have e':ys=[.int ((n * w:Nat):Int),.int ((r * w:Nat):Int),.int ((c * w:Nat):Int)]:=e'
 subst e'
 have s2:=AY (o:=.lst [V.int ↑(n * w),V.int ↑(r * w),V.int ↑(c * w)]) hl
 have e2:upd H' l (.lst [V.int ↑(n * w),V.int ↑(r * w),V.int ↑(c * w)]) l=some (.lst [V.int ↑(n * w),V.int ↑(r * w),V.int ↑(c * w)]):=AS
 revert s2 e2
 generalize upd H' l (.lst [V.int ↑(n * w),V.int ↑(r * w),V.int ↑(c * w)])=H2
 intro s2 e2
 have s02:=s1.trans s2
 push_cast[↓Fj]
 refine⟨by decide,λkl hkl=>.inl ⟨⟨_,SqL.of AS⟩,?_⟩⟩
 have s3:=AY (o:=.lst [V.int 0,V.int 1,V.int 2,V.int 1,V.int 2]) hkl
 have e3:upd H2 kl (.lst [V.int 0,V.int 1,V.int 2,V.int 1,V.int 2]) kl=some (.lst [V.int 0,V.int 1,V.int 2,V.int 1,V.int 2]):=AS
 revert s3 e3
 generalize upd H2 kl (.lst [V.int 0,V.int 1,V.int 2,V.int 1,V.int 2])=H3
 intro s3 e3
 have s03:=s02.trans s3
 refine XT (xs:=[V.int 0,V.int 1,V.int 2,V.int 1,V.int 2]) (small _ (by simp)) (λi ys H'=>Same H3 H'/\∃ as:List Addr,ys=as.map V.ref/\as.Nodup/\Paired (λa m=>H' a=some (.lst (List.replicate m V.non))/\H3 a=none) as ([n * w,r * w,c * w,r * w,c * w].take i)) ⟨Same.refl _,[],rfl,List.nodup_nil,.nil⟩ (λi ys H' _ ⟨s,_⟩=>SqL.of (s _ _ e3)) (λi x ys H4 hx _ ⟨s,as,e,nd,P⟩=> ?_) (λys H4 _ ⟨s,as,e,nd,P⟩ vl hvl=> ?_)
 ·obtain⟨j,m,rfl,ej,em,hm⟩:∃ (j m:Nat),x=.int j/\[V.int ↑(n * w),V.int ↑(r * w),V.int ↑(c * w)][j]? =some (.int m)/\[n * w,r * w,c * w,r * w,c * w][i]? =some m/\m<=36:=by
   match i with
   | 0=>cases hx;exact⟨0,_,rfl,rfl,rfl,bn⟩
   | 1=>cases hx;exact⟨1,_,rfl,rfl,rfl,br⟩
   | 2=>cases hx;exact⟨2,_,rfl,rfl,rfl,bc⟩
   | 3=>cases hx;exact⟨1,_,rfl,rfl,rfl,br⟩
   | 4=>cases hx;exact⟨2,_,rfl,rfl,rfl,bc⟩
   | i+5=>simp at hx
  push_cast[BG]
  refine⟨by decide,λp hp=> ?_⟩
  have s5:=AY (o:=.lst [V.non]) hp
  refine BU (SqL.of (s5 _ _ (s _ _ (s3 _ _ e2)))) (n:=j) rfl ej (Pw AS (by omega) λa6 H6 h6 s6 e6=> ?_)
  have s56:=s5.trans s6
  refine⟨s.trans s56,as++[a6],by rw[e,List.map_append];rfl,?_,?_⟩
  ·rw[List.nodup_append]
   refine⟨nd,by simp,λx hx y hy=> ?_⟩
   rw[List.mem_singleton.mp hy]
   obtain⟨k,ek⟩:=RX hx
   obtain⟨r',_,hx'⟩:=GO P ek
   exact BX (s5 _ _ hx'.1) h6
  ·rw[ED em]
   exact Paired.snoc (Paired.mapP P λt r e=>⟨s56 _ _ e.1,e.2⟩) ⟨e6,s.free (s5.free h6)⟩
 have P:Paired (λa m=>H4 a=some (.lst (List.replicate m V.non))/\H3 a=none) as [n * w,r * w,c * w,r * w,c * w]:=P
 obtain⟨a0,a1,a2,a3,a4,rfl,f0,f1,f2,f3,f4⟩:=Sb P
 subst e
 have s5:=AY (o:=.lst [V.ref a0,V.ref a1,V.ref a2,V.ref a3,V.ref a4]) hvl
 have e5:upd H4 vl (.lst [V.ref a0,V.ref a1,V.ref a2,V.ref a3,V.ref a4]) vl=some (.lst [V.ref a0,V.ref a1,V.ref a2,V.ref a3,V.ref a4]):=AS
 show 0<=sizeLine/\_
 revert s5 e5
 simp only[List.map_cons,List.map_nil]
 generalize upd H4 vl (.lst [V.ref a0,V.ref a1,V.ref a2,V.ref a3,V.ref a4])=H5
 intro s5 e5
 refine⟨by decide,λa5 ha5=>⟨by decide,λp1 hp1=> ?_⟩⟩
 have s6:=AY (o:=.lst []) ha5
 have e6:upd H5 a5 (.lst []) a5=some (.lst (AV [])):=AS
 revert hp1 s6 e6
 generalize upd H5 a5 (.lst [])=H6
 intro hp1 s6 e6
 have s7:=AY (o:=.lst [V.ref a5]) hp1
 have e7:upd H6 p1 (.lst [V.ref a5]) p1=some (.lst [V.ref a5]):=AS
 revert s7 e7
 generalize upd H6 p1 (.lst [V.ref a5])=H7
 intro s7 e7
 refine KY ((s6.trans s7) _ _ e5) e7 (by simp) λv H8 hv s8 e8=> ?_
 have s38:=((((s.trans s5).trans s6).trans s7).trans s8)
 have s48:=((s5.trans s6).trans s7).trans s8
 have s08:=s03.trans s38
 have g0:=s48 _ _ f0.1
 have g1:=s48 _ _ f1.1
 have g2:=s48 _ _ f2.1
 have g3:=s48 _ _ f3.1
 have g4:=s48 _ _ f4.1
 have g5:=(s7.trans s8) _ _ e6
 have d5:∀ {x:Addr} {m:Nat},H4 x=some (.lst (List.replicate m V.non))->x≠a5:=λe=>BX (s5 _ _ e) ha5
 have dv:∀ {x:Addr} {m:Nat},H4 x=some (.lst (List.replicate m V.non))->v≠x:=λe=>(BX ((((s5.trans s6).trans s7)) _ _ e) hv).symm
 have dv5:v≠a5:=(BX (s7 _ _ e6) hv).symm
 obtain⟨⟨d01,d02,d03,d04⟩,⟨d12,d13,d14⟩,⟨d23,d24⟩,d34⟩:(a0≠a1/\a0≠a2/\a0≠a3/\a0≠a4)/\(a1≠a2/\a1≠a3/\a1≠a4)/\(a2≠a3/\a2≠a4)/\a3≠a4:=by
  simp at nd
  exact⟨⟨nd.1.1,nd.1.2.1,nd.1.2.2.1,nd.1.2.2.2⟩,⟨nd.2.1.1,nd.2.1.2.1,nd.2.1.2.2⟩,⟨nd.2.2.1.1,nd.2.2.1.2⟩,nd.2.2.2⟩
 have nmem:∀ {α :Type} {k:Nat} {x: α},some x∉List.replicate k (none:Option α):=λh=>by have:=List.eq_of_mem_replicate h;cases this
 have I8:LWAt H8 ⟨v,a0,a1,a2,a3,a4,a5⟩ ⟨List.replicate (n * w) none,List.replicate (r * w) none,List.replicate (c * w) none,List.replicate (r * w) none,List.replicate (c * w) none⟩ []:=by
  refine⟨e8,⟨_,g0,KZ (F:=NmV _) (x:=.non) (y:=none) rfl _⟩,⟨_,g1,KZ (F:=RcV _) (x:=.non) (y:=none) rfl _⟩,⟨_,g2,KZ (F:=PcV _) (x:=.non) (y:=none) rfl _⟩,⟨_,g3,KZ (F:=MkV _) (x:=.non) (y:=none) rfl _⟩,⟨_,g4,KZ (F:=MkV _) (x:=.non) (y:=none) rfl _⟩,g5,⟨λx h=>absurd h nmem,λx h=>absurd h nmem,λx h=>absurd h nmem,by simp,by simp,by simp;omega,by simp;omega,by simp;omega⟩,?_,?_⟩
  ·simp[LW.L,d01,d02,d03,d04,d12,d13,d14,d23,d24,d34,d5 f0.1,d5 f1.1,d5 f2.1,d5 f3.1,d5 f4.1]
  ·simp[LW.L,dv f0.1,dv f1.1,dv f2.1,dv f3.1,dv f4.1,dv5]
 have atN:∀ {α :Type} {k j:Nat} {x: α},AF (List.replicate k (none:Option α)) j≠some x:=λh=>nmem (HA h)
 have led0:∀ r',led ⟨List.replicate (n * w) none,List.replicate (r * w) none,List.replicate (c * w) none,List.replicate (r * w) none,List.replicate (c * w) none⟩ r'=0:=λr'=>by
  cases e:led ⟨List.replicate (n * w) none,List.replicate (r * w) none,List.replicate (c * w) none,List.replicate (r * w) none,List.replicate (c * w) none⟩ r' with
  | zero=>rfl
  | succ m =>
   obtain⟨k,d,hk,_⟩:=PQ (r:=r') (by rw[e];exact Nat.succ_pos m)
   exact absurd hk atN
 have C8:Clean ⟨List.replicate (n * w) none,List.replicate (r * w) none,List.replicate (c * w) none,List.replicate (r * w) none,List.replicate (c * w) none⟩ [] zs:=by
  refine⟨λk d h=>absurd h atN,λj k d d' _ h=>absurd h atN,λk d h=>absurd h atN,λr' d h=>absurd h atN,λr' d h=>absurd h atN,λr1 r2 d d' _ h=>absurd h atN,λr' d h=>absurd h atN,λr' hl=> ?_,List.nodup_nil,λp=>⟨λh=>(by cases h),λ⟨h,_⟩=>absurd h atN⟩,λr' d h=>absurd h atN⟩
  rw[led0]at hl;omega
 have fA:∀ y∈LW.L ⟨v,a0,a1,a2,a3,a4,a5⟩,H y=none:=λy hy=>by
  simp[LW.L]at hy
  rcases hy with rfl | rfl | rfl | rfl | rfl | rfl
  ·exact s03.free f0.2
  ·exact s03.free f1.2
  ·exact s03.free f2.2
  ·exact s03.free f3.2
  ·exact s03.free f4.2
  ·exact s03.free ((s.trans s5).free ha5)
 have fv:H v=none:=s03.free ((((s.trans s5).trans s6).trans s7).free hv)
 have ns8:=s08 _ _ hs
 have nsA:sc∉LW.L ⟨v,a0,a1,a2,a3,a4,a5⟩:=λh=>by rw[fA sc h]at hs;cases hs
 have N8:NamesAt H8 ⟨v,a0,a1,a2,a3,a4,a5⟩ nl zs:=⟨s08 _ _ hnl,hzl,hzd,hzs,λh=>by rw[fA nl h]at hnl;cases hnl⟩
 clear nd P f0 f1 f2 f3 f4 g0 g1 g2 g3 g4 g5 d5 dv
 push_cast[↓Fy]
 refine .inl ⟨⟨_,SqL.of ns8⟩,KK (xs:=ns.map V.int) (λi σ H'=>(∃ vw lf,(LWAt H' ⟨v,a0,a1,a2,a3,a4,a5⟩ vw lf/\Clean vw lf zs)/\EQ vw (n * w) (r * w) (c * w)/\SameBut (· ∈LW.L ⟨v,a0,a1,a2,a3,a4,a5⟩) H8 H')/\∃ y5 y6,σ=[some (.ref sc),some (.ref z),some (.ref nl),some (.ref l),some (.ref v),y5,y6]) ⟨⟨_,_,⟨I8,C8⟩,⟨by simp,by simp,by simp⟩,SameBut.refl _⟩,_,_,rfl⟩ (λi σ H' _ ⟨⟨_,_,_,_,sb⟩,_⟩=>SqL.of (sb _ _ ns8 nsA)) (λi x σ H9 hx ⟨⟨vw,lf,⟨I9,C9⟩,sz,sb⟩,y5,y6,eσ⟩=> ?_) (λσ H9 ⟨⟨vw,lf,⟨I9,C9⟩,sz,sb⟩,y5,y6,eσ⟩=> ?_)⟩
 ·subst eσ
  obtain⟨cell,_,rfl⟩:=List.mem_map.mp (List.mem_of_getElem? hx)
  push_cast[↓Fk]
  refine⟨⟨by decide,by decide⟩,cell / 8,7,rfl,by omega,λxl xs H10 hxl s10 exl hxs hx=> ?_⟩
  have I10:=I9.same s10
  have nxl:xl∉LW.L ⟨v,a0,a1,a2,a3,a4,a5⟩:=λhm=>by
   simp[LW.L]at hm
   obtain⟨_,k0,_⟩:=I9.n
   obtain⟨_,k1,_⟩:=I9.r
   obtain⟨_,k2,_⟩:=I9.p
   obtain⟨_,k3,_⟩:=I9.rm
   obtain⟨_,k4,_⟩:=I9.pm
   have k5:=I9.l
   rcases hm with rfl | rfl | rfl | rfl | rfl | rfl
   ·rw[hxl]at k0;cases k0
   ·rw[hxl]at k1;cases k1
   ·rw[hxl]at k2;cases k2
   ·rw[hxl]at k3;cases k3
   ·rw[hxl]at k4;cases k4
   ·rw[hxl]at k5;cases k5
  have X10:IntsAt H10 ⟨v,a0,a1,a2,a3,a4,a5⟩ xl xs 7:=⟨exl,hxs,hx,nxl⟩
  have N10:=(N8.sb sb).sb s10.sb
  have sb10:SameBut (· ∈LW.L ⟨v,a0,a1,a2,a3,a4,a5⟩) H8 H10:=sb.trans s10.sb
  push_cast[↓Fx]
  by_cases h3:cell % 8<3
  ·refine B1 h3 ?_
   push_cast[↓Fl]
   exact⟨⟨v,a0,a1,a2,a3,a4,a5⟩,vw,lf,zs,nl,xl,xs,true,n * w,r * w,c * w,rfl,I10,C9,N10,X10,sz,bn,bc,λvw' lf' H' I' C' sz' sb'=>⟨vw',lf',I',C',sz',sb10.trans sb'⟩⟩
  refine BW h3 ?_
  push_cast[↓Fw]
  by_cases h4:cell % 8=3
  ·refine B1 h4 ?_
   push_cast[↓Fm]
   exact⟨⟨v,a0,a1,a2,a3,a4,a5⟩,vw,lf,zs,nl,xl,xs,n * w,r * w,c * w,rfl,I10,C9,N10,X10,sz,bn,λvw' lf' H' I' C' sz' sb'=>⟨vw',lf',I',C',sz',sb10.trans sb'⟩⟩
  refine BW h4 ?_
  push_cast[↓Fv]
  by_cases h5:cell % 8=4
  ·refine B1 h5 ?_
   push_cast[↓Fp]
   exact⟨⟨v,a0,a1,a2,a3,a4,a5⟩,vw,lf,zs,nl,xl,xs,false,n * w,r * w,c * w,rfl,I10,C9,N10,X10,sz,bn,bc,λvw' lf' H' I' C' sz' sb'=>⟨vw',lf',I',C',sz',sb10.trans sb'⟩⟩
  refine BW h5 ?_
  push_cast[↓Fq]
  exact⟨⟨v,a0,a1,a2,a3,a4,a5⟩,vw,lf,zs,cell % 8,xl,xs,n * w,r * w,c * w,rfl,I10,C9,X10,sz,bc,λvw' lf' H' I' C' sz' sb'=>⟨vw',lf',I',C',sz',sb10.trans sb'⟩⟩
 ·subst eσ
  push_cast[↓Fz]
  refine q ⟨v,a0,a1,a2,a3,a4,a5⟩ vw lf H9 (λb o e=>sb _ _ (s08 _ _ e) λh=> ?_) I9 C9 sz fv fA
  rw[fA b h]at e;cases e
theorem Sd(h:NO K a vs H Q E):vs.length=3:=by
 obtain⟨_,_,_,_,_,_,_,_,_,rfl,_⟩:=h
 rfl
theorem i0{p:Addr}{xs:List Int}{k:Nat}{Q:VK}(h:H p=some (.lst (xs.map V.int)))(hk:k<xs.length)(q:Q (.int (xs.getD k 0)) H):AK K (.ref p) (.int k) H Q :=
 BU (SqL.of h) (n:=k) rfl (by rw[List.getElem?_map,List.getElem?_eq_getElem hk];simp[List.getD,hk]) q
def E9(x:Int):Nat:=97+(x % 26).toNat
theorem UJ{x y:Int}(h:E9 x=E9 y):x % 26=y % 26:=by
 unfold E9 at h
 omega
theorem i3{x:Int}{Q:VK}(q:Q (.str ⟨#[E9 x]⟩) H):AK K (.str (Str.ofString "abcdefghijklmnopqrstuvwxyz")) (.int (x % 26)) H Q:=by
 obtain⟨b,eb,hb⟩:=GP x (n:=26) (by omega)
 rw[show((26:Nat):Int)=26 from rfl]at eb
 have:E9 x=97+b:=by unfold E9;rw[eb];simp
 rw[this]at q
 rw[eb]
 exact Ny rfl hb q
theorem i4{c:Nat}{k:Nat}(h1:1<=k)(h8:k<=8):(HR ⟨#[c]⟩ (k:Int)).cps.toList=List.replicate k c:=by
 rcases(by omega:k=1\/k=2\/k=3\/k=4\/k=5\/k=6\/k=7\/k=8)with h | h | h | h | h | h | h | h<;>subst h<;>rfl
theorem i5{m:Nat}{f:Nat->Str}(h:∀ j k,j<k->k<m->f j≠f k):((List.range m).map f).Nodup:=by
 rw[List.nodup_iff_pairwise_ne,List.pairwise_map,List.pairwise_iff_getElem]
 intro i j hi hj hlt
 rw[List.length_range]at hj
 simp only[List.getElem_range]
 exact h i j hlt hj
def K2(x:Int)(k:Nat):Str:=HR ⟨#[E9 (x+(k:Int) / 8)]⟩ (1+(k:Int) % 8)
theorem Sg{x:Int}{j k:Nat}(h:j<k)(hk:k<36):K2 x j≠K2 x k:=λe=>by
 have e':=congrArg (λz:Str=>z.cps.toList) e
 unfold K2 at e'
 have a1:(1+(j:Int) % 8)=((1+j % 8:Nat):Int):=by omega
 have a2:(1+(k:Int) % 8)=((1+k % 8:Nat):Int):=by omega
 simp only[a1,a2]at e'
 rw[i4 (by omega) (by omega),i4 (by omega) (by omega)]at e'
 have el:=congrArg List.length e'
 rw[List.length_replicate,List.length_replicate]at el
 rw[el,show 1+k % 8=k % 8+1 by omega,List.replicate_succ,List.replicate_succ]at e'
 have eh:=(List.cons.inj e').1
 have:=UJ eh
 omega
def K3(fi se:Int)(k j:Nat):Int:=(k:Int) * (if(j:Int)=fi then 1 else 0)+(k:Int) / 26 * (if(j:Int)=se then 1 else 0)
def GB(xs:List Int)(fi se:Int)(k sz:Nat):List Nat:=(List.range sz).map λj=>E9 (xs.getD (3+j) 0+K3 fi se k j)
theorem Sh{xs:List Int}{fi se:Int}{j k sz:Nat}(h:j<k)(hk:k<36)(f0:0<=fi)(f1:fi<sz)(g0:0<=se)(g1:se<sz)(ne:fi≠se):GB xs fi se j sz≠GB xs fi se k sz:=λe=>by
 have at':∀ i:Nat,i<sz->E9 (xs.getD (3+i) 0+K3 fi se j i)=E9 (xs.getD (3+i) 0+K3 fi se k i):=λi hi=>by
  have:=congrArg (λl:List Nat=>l[i]?) e
  unfold GB at this
  simp only[List.getElem?_map,List.getElem?_range hi]at this
  exact Option.some.inj this
 by_cases hq:j / 26=k / 26
 ·have:=UJ (at' fi.toNat (by omega))
  unfold K3 at this
  have a1:((fi.toNat:Nat):Int)=fi:=by omega
  rw[a1,if_pos rfl,if_neg ne]at this
  omega
 ·have:=UJ (at' se.toNat (by omega))
  unfold K3 at this
  have a1:((se.toNat:Nat):Int)=se:=by omega
  rw[a1,if_pos rfl,if_neg (λz=>ne z.symm)]at this
  omega
theorem Sj{fi y:Int}{sz:Nat}(h2:2<=sz)(h8:sz<=8)(f0:0<=fi)(f1:fi<sz):fi≠(fi+1+y % ((sz:Int) - 1)) % (sz:Int):=by
 rcases(by omega:sz=2\/sz=3\/sz=4\/sz=5\/sz=6\/sz=7\/sz=8)with h | h | h | h | h | h | h<;>subst h<;>simp only[Int.cast_ofNat_Int,Int.reduceSub]<;>omega
theorem Sk{x y:Str}(h:x.cps.toList=y.cps.toList):x=y:=by
 cases x;cases y
 congr 1
 exact Array.toList_inj.mp h
theorem Sl{l:List Int}{z:Str}(h:z.cps.toList=l.map E9):PyData.strOk z=true:=by
 unfold PyData.strOk
 rw[<-Array.all_toList,h,List.all_eq_true]
 intro c hc
 obtain⟨x,_,rfl⟩:=List.mem_map.mp hc
 unfold E9
 simp
 omega
theorem Sm(h:NK K a vs H Q E):S3 K a (λ_=>E) (A7 Q) (A6 ["cell","many","letters","xs","size","first","second","names","k","word","j","step"] vs) H:=by
 obtain⟨x,m,rfl,hm,q⟩:=h
 push_cast[S3,↓x8,↓x9]
 refine⟨⟨by decide,by decide⟩,x / 2,12,rfl,by omega,λl xs H1 hl s1 el hxl hx=> ?_⟩
 push_cast[↓yB]
 by_cases h1:x % 2=1
 ·refine B1 h1 ?_
  push_cast[↓yA]
  refine⟨by omega,by omega,?_⟩
  refine MU (small _ (by omega)) (λi ys H'=>H'=H1/\ys=((List.range i).map (K2 (xs.getD 0 0))).map V.str) ⟨rfl,rfl⟩ (λi ys H' hi hl ⟨e1,e2⟩=> ?_) (λys H' hl' ⟨e1,e2⟩ p hp=> ?_)
  ·subst e1
   push_cast[BG,Int.zero_add]
   refine i0 (k:=0) el (by omega) ?_
   push_cast[]
   refine⟨⟨by decide,by decide⟩,i3 ?_⟩
   push_cast[]
   refine⟨by omega,by omega,(show(1:Nat)<=1000 by omega),?_⟩
   rw[e2,List.range_succ,List.map_append,List.map_append]
   rfl
  ·subst e1
   refine q p ((List.range m).map (K2 (xs.getD 0 0))) _ (s1.free hp) (s1.trans (AY hp)) (by rw[AS,e2]) (by simp) (i5 λj k hjk hk=>Sg hjk (by omega)) λz hz=> ?_
   obtain⟨k,hk,rfl⟩:=List.mem_map.mp hz
   have hk:=List.mem_range.mp hk
   unfold K2
   have e8:∃ b:Nat,E9 (xs.getD 0 0+(k:Int) / 8)=97+b/\b<26:=⟨((xs.getD 0 0+(k:Int) / 8) % 26).toNat,rfl,by omega⟩
   obtain⟨b,eb,hb⟩:=e8
   rw[eb]
   exact Pc hb (by omega) (by omega)
 ·refine BW h1 ?_
  push_cast[↓yC]
  refine F5 (k:=0) el (by omega) λy1 hy1=> ?_
  have b1:=hx y1 hy1
  push_cast[]
  obtain⟨sz,esz,hsz⟩:∃ sz:Nat,2+y1 % 7=sz/\2<=sz/\sz<=8:=⟨(2+y1 % 7).toNat,by omega,by omega,by omega⟩
  rw[esz]
  push_cast[↓yD]
  refine F5 (k:=1) el (by omega) λy2 hy2=> ?_
  push_cast[]
  refine⟨by omega,?_⟩
  have f0:=Int.emod_nonneg y2 (show(sz:Int)≠0 by omega)
  have f1:=Int.emod_lt_of_pos y2 (show(0:Int)<sz by omega)
  generalize y2 % (sz:Int)=first at f0 f1 ⊢
  push_cast[↓yE]
  refine F5 (k:=2) el (by omega) λy3 hy3=> ?_
  push_cast[]
  refine⟨by omega,by omega,?_⟩
  have ne:=Sj (y:=y3) hsz.1 hsz.2 f0 f1
  have g0:=Int.emod_nonneg (first+1+y3 % ((sz:Int) - 1)) (show(sz:Int)≠0 by omega)
  have g1:=Int.emod_lt_of_pos (first+1+y3 % ((sz:Int) - 1)) (show(0:Int)<sz by omega)
  generalize (first+1+y3 % ((sz:Int) - 1)) % (sz:Int)=second at g0 g1 ne ⊢
  push_cast[↓yF]
  refine⟨by decide,λp hp=> ?_⟩
  have s2:=AY (o:=.lst []) hp
  have e2:upd H1 p (.lst []) p=some (.lst []):=AS
  revert s2 e2
  generalize upd H1 p (.lst [])=H2
  intro s2 e2
  push_cast[↓yL]
  refine⟨by omega,by omega,O9 (λi σ H'=>(Same H1 H'/\H' p=some (.lst (((List.range i).map λk=>(⟨(GB xs first second k sz).toArray⟩:Str)).map V.str)))/\∃ y8 y9 y10 y11,σ=[some (.int x),some (.int m),some (.str (Str.ofString "abcdefghijklmnopqrstuvwxyz")),some (.ref l),some (.int sz),some (.int first),some (.int second),some (.ref p),y8,y9,y10,y11]) ⟨⟨s2,e2⟩,_,_,_,_,rfl⟩ (λi σ H' hi ⟨⟨s,e⟩,y8,y9,y10,y11,eσ⟩=> ?_) (λσ H' ⟨⟨s,e⟩,y8,y9,y10,y11,eσ⟩=> ?_)⟩
  ·subst eσ
   push_cast[↓yG,↓yJ,Int.zero_add]
   refine⟨by omega,by omega,O9 (λj σ H2=>(∃ wd:Str,H2=H'/\wd.cps.toList=GB xs first second i j/\∃ y10 y11,σ=[some (.int x),some (.int m),some (.str (Str.ofString "abcdefghijklmnopqrstuvwxyz")),some (.ref l),some (.int sz),some (.int first),some (.int second),some (.ref p),some (.int (i:Int)),some (.str wd),y10,y11])) ⟨Str.ofString "",rfl,rfl,_,_,rfl⟩ (λj σ H2 hj ⟨wd,eH,hw,y10,y11,eσ⟩=> ?_) (λσ H2 ⟨wd,eH,hw,y10,y11,eσ⟩=> ?_)⟩
   ·subst eσ;subst eH
    push_cast[↓yH,↓yI,Int.zero_add]
    refine⟨.inl ⟨by omega,by omega⟩,⟨by decide,by decide⟩,.inl ⟨by omega,by omega⟩,?_⟩
    rw[show(3:Int)+(j:Int)=((3+j:Nat):Int) by omega]
    refine i0 (k:=3+j) (s _ _ el) (by omega) ?_
    push_cast[]
    refine i3 ?_
    push_cast[]
    have hwl:wd.length=j:=by
     have:wd.cps.toList.length=j:=by rw[hw];unfold GB;simp
     simpa [Str.length]using this
    refine⟨small _ (by rw[hwl];show j+1<=_;omega),_,?_,rfl⟩
    show(wd.cps++_).toList=_
    rw[Array.toList_append,hw]
    unfold GB
    rw[List.range_succ,List.map_append]
    rfl
   ·subst eσ;subst eH
    push_cast[↓yK]
    refine⟨.inl ⟨rfl,_,SqL.of e⟩,p,_,_,rfl,rfl,e,Nat.lt_of_lt_of_le (show(((List.range i).map λk=>(⟨(GB xs first second k sz).toArray⟩:Str)).map V.str).length<1000 by simp;omega) (by decide),λy o e=>by rw[AW (BX e hp)];exact s _ _ e,?_⟩
    rw[AS,List.range_succ,List.map_append,List.map_append]
    have:wd=(⟨(GB xs first second i sz).toArray⟩:Str):=Sk hw
    rw[this]
    rfl
  ·subst eσ
   push_cast[↓yM]
   refine q p _ H' (s1.free hp) (s1.trans s) e (by simp) (i5 λj k hjk hk=> ?_) λz hz=> ?_
   ·intro e'
    have e'':=congrArg (λz:Str=>z.cps.toList) e'
    exact Sh hjk (by omega) f0 f1 g0 g1 ne e''
   ·obtain⟨k,hk,rfl⟩:=List.mem_map.mp hz
    exact Sl (l:=(List.range sz).map λj=>xs.getD (3+j) 0+K3 first second k j) (by show GB xs first second k sz=_;unfold GB;rw[List.map_map];rfl)
theorem Sq(h:NK K a vs H Q E):vs.length=2:=by
 obtain⟨_,_,rfl,_⟩:=h
 rfl
theorem Sv{as:TA}{g:TG}{s1:TS}{D:Ends}{σ:St}:DW (PB as) g s1 D σ H=(as σ H λvs H1=>∃ m c:Nat,vs=[.int 0,.int ((m * c:Nat):Int),.int c]/\(1<=c/\c<100000/\m * c<100000)/\FX (KL c m) g s1 D σ H1):=rfl
theorem Sw{c:Int}{n:Nat}{g:TG}{tb:TS}{D:Ends}{σ:St}(Pv:Nat->St->Hp->Prop)(h0:Pv 0 σ H)
  (hs:∀ i σ H,i<n->Pv i σ H->g (.int ((i:Nat) * c)) σ H λσ2 H2=>tb { D with nx:=Pv (i+1),ct:=Pv (i+1),bk:=D.nx } σ2 H2) (hd:∀ σ H,Pv n σ H->D.nx σ H):FX (KL c n) g tb D σ H:=by
 refine⟨λi m σ H=>m=n - i/\i<=n/\Pv i σ H,⟨n,by simp,Nat.zero_le _,h0⟩,?_⟩
 rintro i m σ H ⟨rfl,hi,p⟩
 by_cases hlt:i<n
 ·refine .inr ⟨hlt,Pv (i+1),λσ' H' p'=>⟨n - (i+1),by omega,rfl,hlt,p'⟩,λx H' y=> ?_⟩
  obtain⟨e,y⟩:=y
  subst e y
  exact hs i σ _ hlt p
 ·have e:i=n:=by omega
  subst e
  exact .inl ⟨Nat.le_refl _,hd σ H p⟩
theorem Sx{α :Type}{F:Addr-> α ->Prop}{as:List Addr}{x0 x1 x2 x3 x4 x5: α}(h:Paired F as [x0,x1,x2,x3,x4,x5]):∃ a0 a1 a2 a3 a4 a5,as=[a0,a1,a2,a3,a4,a5]/\F a0 x0/\F a1 x1/\F a2 x2/\F a3 x3/\F a4 x4/\F a5 x5:=by
 cases h with | cons h0 h=>cases h with | cons h1 h=>cases h with | cons h2 h=>cases h with | cons h3 h=>cases h with | cons h4 h=>cases h with | cons h5 h =>
  cases h
  exact⟨_,_,_,_,_,_,rfl,h0,h1,h2,h3,h4,h5⟩
theorem Sy(h:NQ K a vs H Q E):SR K a (λ_=>E) (A7 Q) (A6 ["view"] vs) H:=by
 obtain⟨A,vw,lf,rfl,I,q⟩:=h
 obtain⟨v1,e1,P1⟩:=I.n
 obtain⟨v2,e2,P2⟩:=I.r
 obtain⟨v3,e3,P3⟩:=I.p
 obtain⟨v4,e4,P4⟩:=I.rm
 obtain⟨v5,e5,P5⟩:=I.pm
 push_cast[SR,↓wW]
 refine .inl ⟨⟨_,SqL.of I.ob⟩,XT (xs:=[.ref A.a0,.ref A.a1,.ref A.a2,.ref A.a3,.ref A.a4,.ref A.a5]) (small _ (by simp)) (λi ys H'=>Same H H'/\∃ as:List Addr,ys=as.map V.ref/\as.Nodup/\Paired (λx us=>H' x=some (.lst us)/\H x=none) as ([v1,v2,v3,v4,v5,AV lf].take i)) ⟨Same.refl _,[],rfl,List.nodup_nil,.nil⟩ (λi ys H' _ ⟨s,_⟩=>SqL.of (s _ _ I.ob)) (λi x ys H4 hx _ ⟨s,as,e,nd,P⟩=> ?_) (λys H4 _ ⟨s,as,e,nd,P⟩ vl hvl=> ?_)⟩
 ·obtain⟨y,us,rfl,hy,em⟩:∃ (y:Addr) (us:List V),x=.ref y/\H y=some (.lst us)/\[v1,v2,v3,v4,v5,AV lf][i]? =some us:=by
   match i with
   | 0=>cases hx;exact⟨_,_,rfl,e1,rfl⟩
   | 1=>cases hx;exact⟨_,_,rfl,e2,rfl⟩
   | 2=>cases hx;exact⟨_,_,rfl,e3,rfl⟩
   | 3=>cases hx;exact⟨_,_,rfl,e4,rfl⟩
   | 4=>cases hx;exact⟨_,_,rfl,e5,rfl⟩
   | 5=>cases hx;exact⟨_,_,rfl,I.l,rfl⟩
   | i+6=>simp at hx
  push_cast[BG]
  refine⟨_,.inl (SqL.of (s _ _ hy)),λa6 h6=> ?_⟩
  have s6:=AY (o:=.lst us) h6
  refine⟨s.trans s6,as++[a6],by rw[e,List.map_append];rfl,?_,?_⟩
  ·rw[List.nodup_append]
   refine⟨nd,by simp,λx hx y hy=> ?_⟩
   rw[List.mem_singleton.mp hy]
   obtain⟨k,ek⟩:=RX hx
   obtain⟨r',_,hx'⟩:=GO P ek
   exact BX hx'.1 h6
  ·rw[ED em]
   exact Paired.snoc (Paired.mapP P λt r e=>⟨s6 _ _ e.1,e.2⟩) ⟨AS,s.free h6⟩
 have P:Paired (λx us=>H4 x=some (.lst us)/\H x=none) as [v1,v2,v3,v4,v5,AV lf]:=P
 obtain⟨a0,a1,a2,a3,a4,a5,rfl,f0,f1,f2,f3,f4,f5⟩:=Sx P
 subst e
 have s5:=AY (o:=.lst [V.ref a0,V.ref a1,V.ref a2,V.ref a3,V.ref a4,V.ref a5]) hvl
 have s05:=s.trans s5
 have e5':upd H4 vl (.lst [V.ref a0,V.ref a1,V.ref a2,V.ref a3,V.ref a4,V.ref a5]) vl=some (.lst [V.ref a0,V.ref a1,V.ref a2,V.ref a3,V.ref a4,V.ref a5]):=AS
 refine q ⟨vl,a0,a1,a2,a3,a4,a5⟩ _ s05 ⟨e5',⟨_,s5 _ _ f0.1,Paired.mapP P1 λv c=>NmV.keep s05.tk⟩,⟨_,s5 _ _ f1.1,Paired.mapP P2 λv c=>RcV.keep s05.tk⟩,⟨_,s5 _ _ f2.1,Paired.mapP P3 λv c=>PcV.keep s05.tk⟩,⟨_,s5 _ _ f3.1,Paired.mapP P4 λv c=>MkV.keep s05.tk⟩,⟨_,s5 _ _ f4.1,Paired.mapP P5 λv c=>MkV.keep s05.tk⟩,s5 _ _ f5.1,I.ok,nd,?_⟩ (s.free hvl) ?_
 ·have dv:∀ {x:Addr} {us:List V},H4 x=some (.lst us)->vl≠x:=λe=>(BX e hvl).symm
  simp[LW.L,dv f0.1,dv f1.1,dv f2.1,dv f3.1,dv f4.1,dv f5.1]
 ·intro x hx
  simp[LW.L]at hx
  rcases hx with rfl | rfl | rfl | rfl | rfl | rfl
  ·exact f0.2
  ·exact f1.2
  ·exact f2.2
  ·exact f3.2
  ·exact f4.2
  ·exact f5.2
theorem Sz(h:NQ K a vs H Q E):vs.length=1:=by
 obtain⟨_,_,_,rfl,_⟩:=h
 rfl
theorem Tb(h:KS K a vs H Q E):UC K a (λ_=>E) (A7 Q) (A6 ["layout","plank","due","found"] vs) H:=by
 obtain⟨ly,gp,du,vw,rfl,g,hf,F,q⟩:=h
 push_cast[UC,↓Gg]
 refine⟨ly,gp,vw,rfl,g,λfo H1 hfo s1 F1=> ?_⟩
 rw[hf,List.nil_append]at F1
 obtain⟨dd,D1,D2⟩:=iU (K:=K) F1 (F.same s1) (Qj vw)
 obtain⟨ps,e1,P1⟩:=F1
 push_cast[↓Gh]
 refine sF (.inl (.lst e1)) (.ty _) (b:=true) rfl ⟨true,rfl,B1 rfl (tM (n:=3) (by decide) D1 D2 ⟨true,rfl,B1 rfl ⟨ly,gp,vw,rfl,g.same s1,λH2 s2=> ?_⟩⟩)⟩
 refine⟨_,_,rfl,rfl,?_⟩
 rw[decide_eq_true hf]
 exact q H2 (s1.trans s2)
theorem Tc(h:KS K a vs H Q E):vs.length=3:=by
 obtain⟨_,_,_,_,rfl,_⟩:=h
 rfl
theorem Td(h:JF K a vs H Q E):TY K a (λ_=>E) (A7 Q) (A6 ["plank","view","cells","flat","k"] vs) H:=by
 obtain⟨gp,cl,A,vw,lf,n,r,c,w,rows,m,rfl,TP,P,hrl,I,⟨z1,z2,z3⟩,w1,w6,n6,r6,c6,ncl,ncv,q⟩:=h
 have ok:=I.ok
 obtain⟨v1,e1,P1⟩:=I.n
 obtain⟨v2,e2,P2⟩:=I.r
 obtain⟨v3,e3,P3⟩:=I.p
 obtain⟨v4,e4,P4⟩:=I.rm
 obtain⟨v5,e5,P5⟩:=I.pm
 have q1:=P1.length
 have q2:=P2.length
 have q3:=P3.length
 have q4:=P4.length
 have q5:=P5.length
 have l1:=ok.l1
 have l2:=ok.l2
 have bn:=ok.bn
 have br:=ok.br
 have bp:=ok.bp
 push_cast[TY,↓Dd]
 refine I.at0 (I.at1 (KY e1 e2 (by omega) λb1 H1 _ s1 f1=> ?_))
 refine(I.same s1).at2 (KY f1 (s1 _ _ e3) (by rw[List.length_append];omega) λb2 H2 _ s2 f2=> ?_)
 have s02:=s1.trans s2
 refine(I.same s02).at3 (KY f2 (s02 _ _ e4) (by simp only[List.length_append];omega) λb3 H3 _ s3 f3=> ?_)
 have s03:=s02.trans s3
 refine(I.same s03).at4 (KY f3 (s03 _ _ e5) (by simp only[List.length_append];omega) λb4 H4 hb4 s4 f4=> ?_)
 have s04:=s03.trans s4
 have fl:(v1++v2++v3++v4++v5).length=(n+r+c+r+c) * w:=by
  simp only[List.length_append,Nat.add_mul]
  omega
 generalize hM:n+r+c+r+c=M at fl hrl q
 generalize hF:v1++v2++v3++v4++v5=flat at f4 fl
 have fb:M * w<1000:=by rw[<-fl,<-hF];simp only[List.length_append];omega
 push_cast[↓Dh,↓Sv]
 refine⟨M * w,.inl ⟨_,SqL.of f4,fl.symm⟩,M,w,rfl,rfl,w1,by omega,by omega,?_⟩
 have cut:∀ i,i<M->D5 flat (some ((i:Int) * w)) (some ((i:Int) * w+w))=DD w flat i:=λi hi=>by
  have h1:(i+1) * w<=M * w:=Nat.mul_le_mul_right w hi
  rw[Nat.succ_mul]at h1
  unfold D5 DD
  have a1:(i:Int) * w=((i * w:Nat):Int):=by simp
  have a2:(i:Int) * w+w=((i * w+w:Nat):Int):=by simp
  rw[a2,a1,HT.sIx_nat,HT.sIx_nat,fl,Nat.min_eq_left (by omega),Nat.min_eq_left (by omega)]
  congr 1
  omega
 have P4':=P.same s04
 obtain⟨dp,hgp⟩:=P.ob
 obtain⟨tc,hcl,_⟩:=P.ls
 have nb4:b4≠gp/\b4≠cl:=⟨(BX (s03 _ _ hgp) hb4).symm,(BX (s03 _ _ hcl) hb4).symm⟩
 let PR:=λi=>((List.range i).map (DD w flat))++rows.drop i
 refine Sw (λi σ H'=>(SameBut (λx=>x=gp\/x=cl) H4 H'/\PlankAt a H' gp cl w (PR i) (m+i))/\∃ y,σ=[some (.ref gp),some (.ref A.v),some (.int w),some (.ref b4),y]) ⟨⟨SameBut.refl _,P4'⟩,_,rfl⟩ (λi σ H' hi ⟨⟨s',P'⟩,y,eσ⟩=> ?_) (λσ H' ⟨⟨s',P'⟩,y,eσ⟩=> ?_)
 ·subst eσ
  obtain⟨dp',hob⟩:=P'.ob
  have f4':=s' _ _ f4 λz=>z.elim nb4.1 nb4.2
  push_cast[↓Dg]
  refine⟨_,_,hob,Hy _ _ _,⟨by omega,by omega⟩,RV (SqL.of f4') λl2 hl2=> ?_⟩
  rw[cut i hi,Int.mul_ediv_cancel _ (show(w:Int)≠0 by omega)]
  have s9:=AY (o:=.lst (DD w flat i)) hl2
  have el2:upd H' l2 (.lst (DD w flat i)) l2=some (.lst (DD w flat i)):=AS
  revert s9 el2
  generalize upd H' l2 (.lst (DD w flat i))=H9
  intro s9 el2
  have cl':=Pm (xs:=flat) fl hi
  have hPR:(PR i).length=M:=by
   show((List.range i).map (DD w flat)++rows.drop i).length=M
   rw[List.length_append,List.length_map,List.length_range,List.length_drop,hrl]
   omega
  refine⟨gp,cl,w,PR i,m+i,(i:Int),l2,DD w flat i,rfl,TP,P'.same s9,SqL.of el2,by omega,λb' eb' hb' hyl Ha Pa sa=> ?_,λz=>by rw[hPR]at z;omega⟩
  obtain rfl:i=b':=by omega
  have ePR:(PR i).set i (DD w flat i)=PR (i+1):=by
   show((List.range i).map (DD w flat)++rows.drop i).set i (DD w flat i)=(List.range (i+1)).map (DD w flat)++rows.drop (i+1)
   rw[List.set_append_right _ _ (by simp),List.length_map,List.length_range,Nat.sub_self,List.drop_eq_getElem_cons (by omega),List.set_cons_zero,List.range_succ,List.map_append,List.append_assoc]
   rfl
  rw[ePR]at Pa
  exact⟨s'.trans (s9.sb.trans sa),Pa⟩
 ·subst eσ
  have ePR:PR M=(List.range M).map (DD w flat):=by
   show(List.range M).map (DD w flat)++rows.drop M=_
   rw[<-hrl,List.drop_length,List.append_nil]
  rw[ePR]at P'
  have tk:C1 H H':=λy xs e=>s' _ _ (s04 _ _ e) λz=>by
   rcases z with z | z
   ·rw[z,hgp]at e;cases e
   ·rw[z,hcl]at e;cases e
  refine q _ H' P' (by simp) ⟨⟨v1,v2,v3,v4,v5,by rw[iT fl,hF],Paired.mapP P1 λv c=>NmV.keep tk,Paired.mapP P2 λv c=>RcV.keep tk,Paired.mapP P3 λv c=>PcV.keep tk,Paired.mapP P4 λv c=>MkV.keep tk,Paired.mapP P5 λv c=>MkV.keep tk⟩,z1,z2,z3,ok⟩ (s04.sb.trans s')
theorem Tg(h:JF K a vs H Q E):vs.length=3:=by
 obtain⟨_,_,_,_,_,_,_,_,_,_,_,rfl,_⟩:=h
 rfl
theorem Th{n k:Nat}(h:k<n):(List.range n).filter (λj=>decide (j=k))=[k]:=by
 induction n with
 | zero=>omega
 | succ n ih =>
  rw[List.range_succ,List.filter_append]
  by_cases e:k=n
  ·subst e
   have:(List.range k).filter (λj=>decide (j=k))=[]:=List.filter_eq_nil_iff.mpr λj hj=>by
    have:=List.mem_range.mp hj
    simp;omega
   rw[this]
   simp
  ·rw[ih (by omega)]
   have:[n].filter (λj=>decide (j=k))=[]:=by simp;omega
   rw[this]
   rfl
theorem JI{n k:Nat}{p:Nat->Bool}{f:Nat->List V}(hk:k<n)(h1:p k=true)(h2:∀ j,j<n->j≠k->p j=false):B3 n p f=[f k]:=by
 unfold B3
 have:(List.range n).filter p=(List.range n).filter (λj=>decide (j=k)):=List.filter_congr λj hj=>by
  by_cases e:j=k
  ·rw[e,h1];simp
  ·rw[h2 j (List.mem_range.mp hj) e];simp[e]
 rw[this,Th hk]
 rfl
section
variable{vw:Vw}
theorem K4(h:∀ k c,AF vw.nm k=some c->(AF vw.rc c.2).isSome=true){k:Nat}:D0 vw k=false:=by
 unfold D0
 cases e:AF vw.nm k with
 | none=>rfl
 | some c =>
  obtain⟨z,hz⟩:=Option.isSome_iff_exists.mp (h k c e)
  simp[hz]
theorem JJ{k:Nat}(h:∀ j c d,j<k->AF vw.nm j=some c->AF vw.nm k=some d->c.1≠d.1):EC vw k=false:=by
 unfold EC
 cases e:AF vw.nm k with
 | none=>rfl
 | some c =>
  rw[Bool.eq_false_iff]
  intro hh
  obtain⟨j,hj,he⟩:=List.any_eq_true.mp hh
  cases e2:AF vw.nm j with
  | none=>simp only[e2]at he;cases he
  | some d =>
   simp only[e2]at he
   exact h j d c (List.mem_range.mp hj) e2 e (by simpa using he)
theorem K5(h:∀ r c,AF vw.rc r=some c->(led vw r:Int)<=c.1){r:Nat}:E4 vw r=false:=by
 unfold E4
 cases e:AF vw.rc r with
 | none=>rfl
 | some c =>
  have:=h r c e
  simp;omega
theorem K6(s1:∀ r c,AF vw.rc r=some c->c.2.Nodup)(s2:∀ r r' c c',r≠r'->AF vw.rc r=some c->AF vw.rc r'=some c'->∀ p∈c.2,p∉c'.2){p:Nat}:decide (1<CC vw p)=false:=by
 have:=PU (p:=p) s1 s2
 unfold CC
 simp;omega
theorem JK{p:Nat}(h:∀ r c,AF vw.rc r=some c->p∈c.2->(AF vw.pc p).isSome=true):(decide (0<CC vw p) && (AF vw.pc p).isNone)=false:=by
 by_cases h0:0<CC vw p
 ·obtain⟨r,c,hr,hm⟩:=PX h0
  obtain⟨z,hz⟩:=Option.isSome_iff_exists.mp (h r c hr hm)
  simp[hz]
 ·simp[h0]
theorem JL{r:Nat}(h:0<led vw r->AF vw.rm r=some 1):(decide (0<led vw r) && !decide (AF vw.rm r=some 1))=false:=by
 by_cases h0:0<led vw r
 ·simp[h h0]
 ·simp[h0]
theorem JM{p:Nat}(h:∀ r c,AF vw.rc r=some c->p∈c.2->AF vw.pm p=some 1):(decide (0<CC vw p) && !decide (AF vw.pm p=some 1))=false:=by
 by_cases h0:0<CC vw p
 ·obtain⟨r,c,hr,hm⟩:=PX h0
  simp[h r c hr hm]
 ·simp[h0]
end
section
variable{vw:Vw}{lf:List Nat}{zs:List Str}
theorem Clean.lost{k r:Nat}{s:Str}(C:Clean vw lf zs)(hk:vw.nm[k]? =some none)(hs:zs[(BZ vw.nm).length]? =some s)(hz:zs.Nodup)(hr:AF vw.rc r=none)(hrm:r<vw.rm.length):L2.faults { vw with nm:=vw.nm.set k (some (s,r)),rm:=vw.rm.set r (some 1) }=[[.str "lost",.int k]]:=by
 have hkl:=(List.getElem?_eq_some_iff.mp hk).1
 obtain⟨u1,u2⟩:=UH (c:=(s,r)) hk
 have hled:∀ r',led { vw with nm:=vw.nm.set k (some (s,r)),rm:=vw.rm.set r (some 1) } r'=led vw r'+if r=r' then 1 else 0:=u2
 have at':∀ {k':Nat} {d:Str × Nat},AF (vw.nm.set k (some (s,r))) k'=some d->(k'=k/\d=(s,r))\/(k'≠k/\AF vw.nm k'=some d):=λ{k' d} h=>by
  rw[B5 hkl]at h
  by_cases e:k'=k
  ·rw[if_pos e]at h;cases h;exact .inl ⟨e,rfl⟩
  ·rw[if_neg e]at h;exact .inr ⟨e,h⟩
 have new:∀ {k':Nat} {d:Str × Nat},AF vw.nm k'=some d->d.1≠s:=λ{k' d} h e=>by
  obtain⟨j,hj,ej⟩:=C.nm k' d h
  rw[e]at ej
  have:=iW hz ej hs
  omega
 unfold L2.faults EL EM EN
 have p1:B3 (vw.nm.set k (some (s,r))).length (D0 { vw with nm:=vw.nm.set k (some (s,r)),rm:=vw.rm.set r (some 1) }) (λk=>[.str "lost",.int k])=[[.str "lost",.int k]]:=by
  refine JI (by rw[List.length_set];exact hkl) ?_ λj hj ne=> ?_
  ·unfold D0
   show(match AF (vw.nm.set k (some (s,r))) k with
    | none=>false
    | some c=>(AF vw.rc c.2).isNone)=true
   rw[B5 hkl,if_pos rfl]
   show(AF vw.rc r).isNone=true
   rw[hr];rfl
  ·unfold D0
   show(match AF (vw.nm.set k (some (s,r))) j with
    | none=>false
    | some c=>(AF vw.rc c.2).isNone)=false
   rw[B5 hkl,if_neg ne]
   cases e:AF vw.nm j with
   | none=>rfl
   | some c =>
    obtain⟨z,hz⟩:=Option.isSome_iff_exists.mp (C.ls j c e)
    simp[hz]
 rw[p1,BS,BS,BS,BS,BS,BS]
 ·rfl
 ·exact λp hp=>JM λr' c h hm=>(C.em r' c h p hm).2
 ·intro r' hr'
  refine JL λhl=> ?_
  rw[hled]at hl
  show AF (vw.rm.set r (some 1)) r'=some 1
  rw[B5 hrm]
  split
  ·rfl
  ·rename_i ne
   rw[if_neg (λz=>ne z.symm)]at hl
   exact C.fr r' hl
 ·intro r' _
  refine K5 λr2 c h=> ?_
  have h:AF vw.rc r2=some c:=h
  rw[hled,if_neg (λz=>by rw[<-z,hr]at h;cases h)]
  exact C.fw r2 c h
 ·exact λp hp=>JK λr' c h hm=>(C.em r' c h p hm).1
 ·exact λp hp=>K6 C.s1 C.s2
 ·intro k' _
  refine JJ λj c d hlt h1 h2=> ?_
  rcases at' h1 with⟨e1,rfl⟩ | ⟨_,h1⟩
  ·rcases at' h2 with⟨e2,rfl⟩ | ⟨_,h2⟩
   ·omega
   ·exact λe=>new h2 e.symm
  ·rcases at' h2 with⟨e2,rfl⟩ | ⟨_,h2⟩
   ·exact new h1
   ·exact C.ds j k' c d hlt h1 h2
theorem Clean.twice{j k:Nat}{d:Str × Nat}{c:Int × List Nat}(C:Clean vw lf zs)(hk:vw.nm[k]? =some none)(hj:AF vw.nm j=some d)(hc:AF vw.rc d.2=some c):L2.faults { vw with nm:=vw.nm.set k (some d),rc:=vw.rc.set d.2 (some (c.1+1,c.2)) }=[[.str "twice",.int (max j k:Nat)]]:=by
 have hkl:=(List.getElem?_eq_some_iff.mp hk).1
 have hrl:=E8 hc
 have hjl:=E8 hj
 have njk:j≠k:=λe=>by
  unfold AF at hj
  rw[e,hk]at hj;cases hj
 obtain⟨u1,u2⟩:=UH (c:=d) hk
 have hled:∀ r',led { vw with nm:=vw.nm.set k (some d),rc:=vw.rc.set d.2 (some (c.1+1,c.2)) } r'=led vw r'+if d.2=r' then 1 else 0:=u2
 have lpos:0<led vw d.2:=by
  unfold led BZ
  rw[List.count_pos_iff,List.mem_filterMap]
  exact⟨some d,HA hj,rfl⟩
 have at':∀ {k':Nat} {e:Str × Nat},AF (vw.nm.set k (some d)) k'=some e->(k'=k/\e=d)\/(k'≠k/\AF vw.nm k'=some e):=λ{k' e} h=>by
  rw[B5 hkl]at h
  by_cases z:k'=k
  ·rw[if_pos z]at h;cases h;exact .inl ⟨z,rfl⟩
  ·rw[if_neg z]at h;exact .inr ⟨z,h⟩
 have C2:=C.cnt (cnt:=c.1+1) hc (by have:=C.fw d.2 c hc;omega)
 have uniq:∀ {i:Nat} {e:Str × Nat},AF vw.nm i=some e->e.1=d.1->i=j:=λ{i e} h he=>by
  rcases Nat.lt_trichotomy i j with z | z | z
  ·exact absurd he (C.ds i j e d z h hj)
  ·exact z
  ·exact absurd he.symm (C.ds j i d e z hj h)
 unfold L2.faults EL EM EN
 have p1:B3 (vw.nm.set k (some d)).length (EC { vw with nm:=vw.nm.set k (some d),rc:=vw.rc.set d.2 (some (c.1+1,c.2)) }) (λk=>[.str "twice",.int k])=[[.str "twice",.int (max j k:Nat)]]:=by
  refine JI (k:=max j k) (by rw[List.length_set];omega) ?_ λi hi ne=>JJ λi' e e' hlt h1 h2=> ?_
  ·unfold EC
   show(match AF (vw.nm.set k (some d)) (max j k)with
    | none=>false
    | some c=>(List.range (max j k)).any λi=>match AF (vw.nm.set k (some d)) i with
     | none=>false
     | some e=>decide (e.1=c.1))=true
   have a1:AF (vw.nm.set k (some d)) (max j k)=some d:=by
    rw[B5 hkl]
    split
    ·rfl
    ·rename_i z
     rw[show max j k=j by omega];exact hj
   have a2:AF (vw.nm.set k (some d)) (min j k)=some d:=by
    rw[B5 hkl]
    split
    ·rfl
    ·rename_i z
     rw[show min j k=j by omega];exact hj
   simp only[a1]
   rw[List.any_eq_true]
   refine⟨min j k,List.mem_range.mpr (by omega),?_⟩
   simp only[a2]
   simp
  ·rcases at' h1 with⟨e1,z1⟩ | ⟨n1,g1⟩
   ·rcases at' h2 with⟨e2,z2⟩ | ⟨n2,g2⟩
    ·omega
    ·intro z
     have:=uniq g2 (by rw[<-z,z1])
     omega
   ·rcases at' h2 with⟨e2,z2⟩ | ⟨n2,g2⟩
    ·intro z
     have:=uniq g1 (by rw[z,z2])
     omega
    ·exact C.ds i' i e e' hlt g1 g2
 rw[p1,BS,BS,BS,BS,BS,BS]
 ·rfl
 ·exact λp hp=>JM λr' c' h hm=>(C2.em r' c' h p hm).2
 ·intro r' hr'
  refine JL λhl=> ?_
  rw[hled]at hl
  show AF vw.rm r'=some 1
  by_cases e:d.2=r'
  ·exact e ▸ C.fr d.2 lpos
  ·rw[if_neg e]at hl
   exact C.fr r' hl
 ·intro r' _
  refine K5 λr2 c' h=> ?_
  have h:AF (vw.rc.set d.2 (some (c.1+1,c.2))) r2=some c':=h
  rw[hled]
  rw[B5 hrl]at h
  by_cases e:r2=d.2
  ·rw[if_pos e]at h
   cases h
   rw[if_pos e.symm,e]
   have:=C.fw d.2 c hc
   show((led vw d.2+1:Nat):Int)<=c.1+1
   omega
  ·rw[if_neg e]at h
   rw[if_neg (λz=>e z.symm)]
   exact C.fw r2 c' h
 ·exact λp hp=>JK λr' c' h hm=>(C2.em r' c' h p hm).1
 ·exact λp hp=>K6 C2.s1 C2.s2
 ·intro k' _
  refine K4 λk2 e h=> ?_
  rcases at' h with⟨_,rfl⟩ | ⟨_,h⟩
  ·show(AF (vw.rc.set e.2 (some (c.1+1,c.2))) e.2).isSome=true
   rw[B5 hrl,if_pos rfl];rfl
  ·exact C2.ls k2 e h
theorem Clean.shared{p r r1:Nat}{c c1:Int × List Nat}(C:Clean vw lf zs)(h1:AF vw.rc r1=some c1)(hp:p∈c1.2)(hr:AF vw.rc r=some c)(hpl:p<vw.pc.length):L2.faults { vw with rc:=vw.rc.set r (some (c.1,c.2++[p])) }=[[.str "shared",.int p]]:=by
 have hrl:=E8 hr
 have em:=C.em r1 c1 h1 p hp
 have at':∀ {r':Nat} {d:Int × List Nat},AF (vw.rc.set r (some (c.1,c.2++[p]))) r'=some d->∃ d',AF vw.rc r'=some d'/\d'.1=d.1/\∀ x∈d.2,x∈d'.2\/x=p:=λ{r' d} h=>by
  rw[B5 hrl]at h
  by_cases e:r'=r
  ·rw[if_pos e]at h;cases h
   refine⟨c,e ▸ hr,rfl,λx hx=> ?_⟩
   rcases List.mem_append.mp hx with h | h
   ·exact .inl h
   ·exact .inr (List.mem_singleton.mp h)
  ·rw[if_neg e]at h;exact⟨d,h,rfl,λx hx=>.inl hx⟩
 have cnt:∀ (l:List EY) (i:Nat) (q:Nat),l[i]? =some (some c)->(CQ (l.set i (some (c.1,c.2++[p])))).count q=(CQ l).count q+if p=q then 1 else 0:=by
  intro l
  induction l with
  | nil=>intro i q h;simp at h
  | cons x l ih =>
   intro i q h
   cases i with
   | zero =>
    cases h
    unfold CQ
    simp only[List.set_cons_zero,List.flatMap_cons,List.count_append,EZ]
    by_cases z:p=q
    ·subst z;simp;omega
    ·simp[z]
   | succ i =>
    have h:l[i]? =some (some c):=by simpa using h
    have:=ih i q h
    unfold CQ at this ⊢
    simp only[List.set_cons_succ,List.flatMap_cons,List.count_append]
    omega
 have hri:vw.rc[r]? =some (some c):=by
  unfold AF at hr
  rw[List.getElem?_eq_getElem hrl]at hr ⊢
  have:vw.rc[r]=some c:=hr
  rw[this]
 have nam:∀ q,CC { vw with rc:=vw.rc.set r (some (c.1,c.2++[p])) } q=CC vw q+if p=q then 1 else 0:=λq=>cnt vw.rc r q hri
 have one:∀ q,CC vw q<=1:=λq=>PU C.s1 C.s2
 have pos:0<CC vw p:=List.count_pos_iff.mpr (N3.mpr ⟨r1,c1,h1,hp⟩)
 unfold L2.faults EL EM EN
 have p1:B3 vw.pc.length (λq=>decide (1<CC { vw with rc:=vw.rc.set r (some (c.1,c.2++[p])) } q)) (λp=>[.str "shared",.int p])=[[.str "shared",.int p]]:=by
  refine JI hpl ?_ λj hj ne=> ?_
  ·rw[nam,if_pos rfl];simp;omega
  ·rw[nam,if_neg (λz=>ne z.symm)]
   have:=one j
   simp;omega
 rw[p1,BS,BS,BS,BS,BS,BS]
 ·rfl
 ·intro q hq
  refine JM λr' d h hm=> ?_
  obtain⟨d',g1,_,g3⟩:=at' h
  rcases g3 q hm with z | z
  ·exact(C.em r' d' g1 q z).2
  ·rw[z];exact em.2
 ·exact λr' hr'=>JL λhl=>C.fr r' hl
 ·intro r' _
  refine K5 λr2 d h=> ?_
  obtain⟨d',g1,g2,_⟩:=at' h
  rw[<-g2];exact C.fw r2 d' g1
 ·intro q hq
  refine JK λr' d h hm=> ?_
  obtain⟨d',g1,_,g3⟩:=at' h
  rcases g3 q hm with z | z
  ·exact(C.em r' d' g1 q z).1
  ·rw[z];exact em.1
 ·exact λk _=>JJ λj c' d hlt h1 h2=>C.ds j k c' d hlt h1 h2
 ·intro k _
  refine K4 λk2 d h=> ?_
  show(AF (vw.rc.set r (some (c.1,c.2++[p]))) d.2).isSome=true
  rw[B5 hrl]
  split
  ·rfl
  ·exact C.ls k2 d h
theorem Clean.empty{p r1:Nat}{c1:Int × List Nat}(C:Clean vw lf zs)(h1:AF vw.rc r1=some c1)(hp:p∈c1.2)(hpl:p<vw.pc.length):L2.faults { vw with pc:=vw.pc.set p none }=[[.str "empty",.int p]]:=by
 have pos:0<CC vw p:=List.count_pos_iff.mpr (N3.mpr ⟨r1,c1,h1,hp⟩)
 unfold L2.faults EL EM EN
 have p1:B3 (vw.pc.set p none).length (λq=>decide (0<CC { vw with pc:=vw.pc.set p none } q) && (AF (vw.pc.set p none) q).isNone) (λp=>[.str "empty",.int p])=[[.str "empty",.int p]]:=by
  refine JI (by rw[List.length_set];exact hpl) ?_ λj hj ne=> ?_
  ·show(decide (0<CC vw p) && (AF (vw.pc.set p none) p).isNone)=true
   rw[B5 hpl,if_pos rfl,decide_eq_true pos];rfl
  ·refine JK (vw:={ vw with pc:=vw.pc.set p none }) λr' d h hm=> ?_
   show(AF (vw.pc.set p none) j).isSome=true
   rw[B5 hpl,if_neg ne]
   exact(C.em r' d h j hm).1
 rw[p1,BS,BS,BS,BS,BS,BS]
 ·rfl
 ·exact λq hq=>JM λr' d h hm=>(C.em r' d h q hm).2
 ·exact λr' hr'=>JL λhl=>C.fr r' hl
 ·exact λr' _=>K5 λr2 d h=>C.fw r2 d h
 ·exact λq hq=>K6 C.s1 C.s2
 ·exact λk _=>JJ λj c' d hlt h1 h2=>C.ds j k c' d hlt h1 h2
 ·exact λk _=>K4 C.ls
theorem Clean.freeP{p r1:Nat}{c1:Int × List Nat}{x:Option Int}(C:Clean vw lf zs)(h1:AF vw.rc r1=some c1)(hp:p∈c1.2)(hpl:p<vw.pc.length)(hpm:p<vw.pm.length)(hx:x≠some 1):L2.faults { vw with pm:=vw.pm.set p x }=[[.str "free",.str "piece",.int p]]:=by
 have pos:0<CC vw p:=List.count_pos_iff.mpr (N3.mpr ⟨r1,c1,h1,hp⟩)
 unfold L2.faults EL EM EN
 have p1:B3 vw.pc.length (λq=>decide (0<CC { vw with pm:=vw.pm.set p x } q) && !decide (AF (vw.pm.set p x) q=some 1)) (λp=>[.str "free",.str "piece",.int p])=[[.str "free",.str "piece",.int p]]:=by
  refine JI hpl ?_ λj hj ne=> ?_
  ·show(decide (0<CC vw p) && !decide (AF (vw.pm.set p x) p=some 1))=true
   rw[B5 hpm,if_pos rfl,decide_eq_true pos,decide_eq_false hx];rfl
  ·refine JM (vw:={ vw with pm:=vw.pm.set p x }) λr' d h hm=> ?_
   show AF (vw.pm.set p x) j=some 1
   rw[B5 hpm,if_neg ne]
   exact(C.em r' d h j hm).2
 rw[p1,BS,BS,BS,BS,BS,BS]
 ·rfl
 ·exact λr' hr'=>JL λhl=>C.fr r' hl
 ·exact λr' _=>K5 λr2 d h=>C.fw r2 d h
 ·exact λq hq=>JK λr' d h hm=>(C.em r' d h q hm).1
 ·exact λq hq=>K6 C.s1 C.s2
 ·exact λk _=>JJ λj c' d hlt h1 h2=>C.ds j k c' d hlt h1 h2
 ·exact λk _=>K4 C.ls
theorem Clean.few{r:Nat}{c:Int × List Nat}(C:Clean vw lf zs)(hr:AF vw.rc r=some c)(hl:2<=led vw r):L2.faults { vw with rc:=vw.rc.set r (some (1,c.2)) }=[[.str "few",.int r]]:=by
 have hrl:=E8 hr
 have at':∀ {r':Nat} {d:Int × List Nat},AF (vw.rc.set r (some (1,c.2))) r'=some d->∃ d',AF vw.rc r'=some d'/\d'.2=d.2:=λ{r' d} h=>by
  rw[B5 hrl]at h
  by_cases e:r'=r
  ·rw[if_pos e]at h;cases h
   exact⟨c,e ▸ hr,rfl⟩
  ·rw[if_neg e]at h;exact⟨d,h,rfl⟩
 unfold L2.faults EL EM EN
 have p1:B3 (vw.rc.set r (some (1,c.2))).length (E4 { vw with rc:=vw.rc.set r (some (1,c.2)) }) (λr=>[.str "few",.int r])=[[.str "few",.int r]]:=by
  refine JI (by rw[List.length_set];exact hrl) ?_ λj hj ne=> ?_
  ·unfold E4
   show(match AF (vw.rc.set r (some (1,c.2))) r with
    | none=>false
    | some d=>decide (d.1<((led vw r:Nat):Int)))=true
   rw[B5 hrl,if_pos rfl]
   simp;omega
  ·unfold E4
   show(match AF (vw.rc.set r (some (1,c.2))) j with
    | none=>false
    | some d=>decide (d.1<((led vw j:Nat):Int)))=false
   rw[B5 hrl,if_neg ne]
   cases e:AF vw.rc j with
   | none=>rfl
   | some d =>
    have:=C.fw j d e
    simp;omega
 rw[p1,BS,BS,BS,BS,BS,BS]
 ·rfl
 ·intro q hq
  refine JM λr' d h hm=> ?_
  obtain⟨d',g1,g2⟩:=at' h
  exact(C.em r' d' g1 q (g2 ▸ hm)).2
 ·exact λr' hr'=>JL λhl=>C.fr r' hl
 ·intro q hq
  refine JK λr' d h hm=> ?_
  obtain⟨d',g1,g2⟩:=at' h
  exact(C.em r' d' g1 q (g2 ▸ hm)).1
 ·intro q hq
  refine K6 (λr' d h=> ?_) (λr1 r2 d1 d2 ne h1 h2 x hx=> ?_)
  ·obtain⟨d',g1,g2⟩:=at' h
   exact g2 ▸ C.s1 r' d' g1
  ·obtain⟨e1,g1,g2⟩:=at' h1
   obtain⟨e2,g3,g4⟩:=at' h2
   exact g4 ▸ C.s2 r1 r2 e1 e2 ne g1 g3 x (g2 ▸ hx)
 ·exact λk _=>JJ λj c' d hlt h1 h2=>C.ds j k c' d hlt h1 h2
 ·intro k _
  refine K4 λk2 d h=> ?_
  show(AF (vw.rc.set r (some (1,c.2))) d.2).isSome=true
  rw[B5 hrl]
  split
  ·rfl
  ·exact C.ls k2 d h
theorem Clean.freeR{r:Nat}{x:Option Int}(C:Clean vw lf zs)(hr:r<vw.rc.length)(hrm:r<vw.rm.length)(hl:0<led vw r)(hx:x≠some 1):L2.faults { vw with rm:=vw.rm.set r x }=[[.str "free",.str "record",.int r]]:=by
 unfold L2.faults EL EM EN
 have p1:B3 vw.rc.length (λq=>decide (0<led { vw with rm:=vw.rm.set r x } q) && !decide (AF (vw.rm.set r x) q=some 1)) (λr=>[.str "free",.str "record",.int r])=[[.str "free",.str "record",.int r]]:=by
  refine JI hr ?_ λj hj ne=> ?_
  ·show(decide (0<led vw r) && !decide (AF (vw.rm.set r x) r=some 1))=true
   rw[B5 hrm,if_pos rfl,decide_eq_true hl,decide_eq_false hx];rfl
  ·refine JL (vw:={ vw with rm:=vw.rm.set r x }) λh=> ?_
   show AF (vw.rm.set r x) j=some 1
   rw[B5 hrm,if_neg ne]
   exact C.fr j h
 rw[p1,BS,BS,BS,BS,BS,BS]
 ·rfl
 ·exact λq hq=>JM λr' d h hm=>(C.em r' d h q hm).2
 ·exact λr' _=>K5 λr2 d h=>C.fw r2 d h
 ·exact λq hq=>JK λr' d h hm=>(C.em r' d h q hm).1
 ·exact λq hq=>K6 C.s1 C.s2
 ·exact λk _=>JJ λj c' d hlt h1 h2=>C.ds j k c' d hlt h1 h2
 ·exact λk _=>K4 C.ls
end
theorem i6{nm:List GJ}{k:Nat}(hk1:k<nm.length)(hk2:(AF nm k).isNone=true):nm[k]? =some none:=by
 unfold AF at hk2
 rw[List.getElem?_eq_getElem hk1]at hk2 ⊢
 have:nm[k].isNone=true:=hk2
 rw[Option.isNone_iff_eq_none.mp this]
theorem JN{α :Type}{l:List α}(h:l≠[]):1<=l.length:=by
 cases l with
 | nil=>exact absurd rfl h
 | cons _ _=>simp
theorem Tj(h:ER K a vs H Q E):TB K a (λ_=>E) (A7 Q) (A6 ["view","names","xs","free","records","k","r"] vs) H:=by
 obtain⟨A,vw,lf,zs,nl,xl,xs,n,r0,c0,rfl,I,C,N,X,⟨z1,z2,z3⟩,hn36,n1,r1,c1,q1,q2⟩:=h
 have br:=I.ok.br
 push_cast[TB,↓zF]
 refine⟨A,vw,lf,rfl,I,λfl H1 hfl s1 efl=> ?_⟩
 have I1:=I.same s1
 push_cast[↓zG]
 refine I1.at1 ⟨vw.rc.length,I1.len1,by omega,by omega,G3 (λr=>(AF vw.rc r).isNone) (small _ (by omega)) (λk hk QB qb=> ?_) λrl hrl=> ?_⟩
 ·push_cast[BG]
  refine I1.ix1 hk λv hv=> ?_
  push_cast[]
  rw[IB hv]
  exact qb
 have s2:=AY (o:=.lst (((List.range vw.rc.length).filter λr=>(AF vw.rc r).isNone).map λ(i:Nat)=>V.int i)) hrl
 have er:upd H1 rl (.lst (((List.range vw.rc.length).filter λr=>(AF vw.rc r).isNone).map λ(i:Nat)=>V.int i)) rl=some (.lst (AV ((List.range vw.rc.length).filter λr=>(AF vw.rc r).isNone))):=AS
 revert s2 er
 generalize upd H1 rl (.lst (((List.range vw.rc.length).filter λr=>(AF vw.rc r).isNone).map λ(i:Nat)=>V.int i))=H2
 intro s2 er
 have s02:=s1.trans s2
 push_cast[↓zH]
 refine⟨by decide,λe0 he0=> ?_⟩
 have s3:=AY (o:=.lst []) he0
 refine IC ((s2.trans s3) _ _ efl) AS ⟨_,rfl,?_⟩
 have s03:=s02.trans s3
 have er3:=s3 _ _ er
 have efl3:=(s2.trans s3) _ _ efl
 revert s03 er3 efl3
 generalize upd H2 e0 (.lst [])=H3
 intro s03 er3 efl3
 generalize hRL:((List.range vw.rc.length).filter λr=>(AF vw.rc r).isNone)=RL at er3
 by_cases hf:DT vw=[]
 ·refine B1 (by simp[hf]) ?_
  push_cast[↓cH]
  exact q1 _ s03.sb
 refine BW (by simp[hf]) ⟨by decide,λe1 he1=> ?_⟩
 have s4:=AY (o:=.lst []) he1
 refine IC (s4 _ _ er3) AS ⟨_,rfl,?_⟩
 have s04:=s03.trans s4
 have er4:=s4 _ _ er3
 have efl4:=s4 _ _ efl3
 revert s04 er4 efl4
 generalize upd H3 e1 (.lst [])=H4
 intro s04 er4 efl4
 by_cases hg:RL=[]
 ·refine B1 (by simp[hg]) ?_
  push_cast[↓cH]
  exact q1 _ s04.sb
 refine BW (by simp[hg]) ?_
 have I4:=I.same s04
 have X4:=X.sb s04.sb
 have f1:=JN hf
 have g1:=JN hg
 push_cast[↓zI]
 refine X4.at (k:=1) (by omega) λy _ _=>⟨(DT vw).length,.inl ⟨_,SqL.of efl4,by rw[B4]⟩,?_⟩
 push_cast[]
 refine⟨by omega,ES efl4 hf λk hk=> ?_⟩
 obtain⟨hk1,hk2⟩:=DJ hk
 have hkn:=i6 hk1 hk2
 push_cast[↓zJ]
 refine X4.at (k:=2) (by omega) λy2 _ _=>⟨RL.length,.inl ⟨_,SqL.of er4,by rw[B4]⟩,?_⟩
 push_cast[]
 refine⟨by omega,ES er4 hg λr hr=> ?_⟩
 rw[<-hRL]at hr
 obtain⟨hr1,hr2⟩:=DJ hr
 have hrn:AF vw.rc r=none:=Option.isNone_iff_eq_none.mp hr2
 have ffl:(DT vw).length+(BZ vw.nm).length=vw.nm.length:=iV (nm:=vw.nm)
 have eu:=List.getElem?_eq_getElem (l:=zs) (i:=(BZ vw.nm).length) (by rw[N.l];omega)
 push_cast[↓zK]
 refine I4.at0 ⟨vw.nm.length,I4.len0,(DT vw).length,.inl ⟨_,SqL.of efl4,by rw[B4]⟩,?_⟩
 rw[show((vw.nm.length:Int) - ((DT vw).length:Int))=(((BZ vw.nm).length:Nat):Int) by omega]
 refine BU (SqL.of (s04 _ _ N.e)) (n:=(BZ vw.nm).length) rfl (by rw[List.getElem?_map,eu];rfl) ?_
 revert eu
 generalize zs[(BZ vw.nm).length]'(by rw[N.l];omega)=sN
 intro eu
 refine⟨by decide,λp hp=> ?_⟩
 have s5:=AY (o:=.tup [V.str sN,V.int ↑r]) hp
 have e5:upd H4 p (.tup [V.str sN,V.int ↑r]) p=some (.tup [V.str sN,V.int ↑r]):=AS
 revert s5 e5
 generalize upd H4 p (.tup [V.str sN,V.int ↑r])=H5
 intro s5 e5
 have I5:=I4.same s5
 refine I5.at0 (I5.set0 (cc:=some (sN,r)) hk1 ⟨p,rfl,e5⟩ (λc hc=>by cases hc;exact⟨hr1,N.s _ (List.mem_of_getElem? eu)⟩) λH6 I6 sb6 tk6=> ?_)
 push_cast[↓zL]
 refine I6.at3 (I6.set3 (cc:=some 1) hr1 rfl (λ_ _=>trivial) λH7 I7 sb7 tk7=> ?_)
 push_cast[↓zM]
 refine⟨by decide,λt ht=> ?_⟩
 have s8:=AY (o:=.tup [V.str (Str.ofString "lost"),V.int ↑k]) ht
 exact q2 t _ _ lf _ AS (I7.same s8) (C.lost hkn eu N.d hrn (by rw[I.ok.l1];exact hr1)) ⟨by simp only[List.length_set];exact z1,z2,z3⟩ (((s04.trans s5).sb.trans sb6).trans (sb7.trans s8.sb))
theorem Tk(h:ER K a vs H Q E):vs.length=3:=by
 obtain⟨_,_,_,_,_,_,_,_,_,_,rfl,_⟩:=h
 rfl
theorem Tl(h:NR K a vs H Q E):TR K a (λ_=>E) (A7 Q) (A6 ["view","names","xs","free","numbers","k","j","r"] vs) H:=by
 obtain⟨A,vw,lf,zs,nl,xl,xs,n,r0,c0,rfl,I,C,N,X,⟨z1,z2,z3⟩,hn36,n1,r1,c1,q1,q2⟩:=h
 have bn:=I.ok.bn
 push_cast[TR,↓Aw]
 refine⟨A,vw,lf,rfl,I,λfl H1 hfl s1 efl=> ?_⟩
 have I1:=I.same s1
 push_cast[↓Ax]
 refine I1.at0 ⟨vw.nm.length,I1.len0,by omega,by omega,G3 (λr=> !(AF vw.nm r).isNone) (small _ (by omega)) (λk hk QB qb=> ?_) λrl hrl=> ?_⟩
 ·push_cast[BG]
  refine I1.ix0 hk λv hv=> ?_
  push_cast[]
  rw[UF hv]
  exact qb
 have s2:=AY (o:=.lst (((List.range vw.nm.length).filter λr=> !(AF vw.nm r).isNone).map λ(i:Nat)=>V.int i)) hrl
 have er:upd H1 rl (.lst (((List.range vw.nm.length).filter λr=> !(AF vw.nm r).isNone).map λ(i:Nat)=>V.int i)) rl=some (.lst (AV ((List.range vw.nm.length).filter λr=> !(AF vw.nm r).isNone))):=AS
 revert s2 er
 generalize upd H1 rl (.lst (((List.range vw.nm.length).filter λr=> !(AF vw.nm r).isNone).map λ(i:Nat)=>V.int i))=H2
 intro s2 er
 have s02:=s1.trans s2
 have lost:∀ {H':Hp},Same H H'->ER K a [.ref A.v,.ref nl,.ref xl] H' Q E:=λs=>⟨A,vw,lf,zs,nl,xl,xs,n,r0,c0,rfl,I.same s,C,N.sb s.sb,X.sb s.sb,⟨z1,z2,z3⟩,hn36,n1,r1,c1,λH'' sb=>q1 H'' (s.sb.trans sb),λt f vw' lf' H'' e1 e2 e3 e4 sb=>q2 t f vw' lf' H'' e1 e2 e3 e4 (s.sb.trans sb)⟩
 push_cast[↓Ay]
 refine⟨by decide,λe0 he0=> ?_⟩
 have s3:=AY (o:=.lst []) he0
 refine IC ((s2.trans s3) _ _ efl) AS ⟨_,rfl,?_⟩
 have s03:=s02.trans s3
 have er3:=s3 _ _ er
 have efl3:=(s2.trans s3) _ _ efl
 revert s03 er3 efl3
 generalize upd H2 e0 (.lst [])=H3
 intro s03 er3 efl3
 generalize hRL:((List.range vw.nm.length).filter λr=> !(AF vw.nm r).isNone)=RL at er3
 by_cases hf:DT vw=[]
 ·refine B1 (by simp[hf]) ?_
  push_cast[↓dX]
  exact lost s03
 refine BW (by simp[hf]) ⟨by decide,λe1 he1=> ?_⟩
 have s4:=AY (o:=.lst []) he1
 refine IC (s4 _ _ er3) AS ⟨_,rfl,?_⟩
 have s04:=s03.trans s4
 have er4:=s4 _ _ er3
 have efl4:=s4 _ _ efl3
 revert s04 er4 efl4
 generalize upd H3 e1 (.lst [])=H4
 intro s04 er4 efl4
 by_cases hg:RL=[]
 ·refine B1 (by simp[hg]) ?_
  push_cast[↓dX]
  exact lost s04
 refine BW (by simp[hg]) ?_
 have I4:=I.same s04
 have X4:=X.sb s04.sb
 have f1:=JN hf
 have g1:=JN hg
 push_cast[↓Az]
 refine X4.at (k:=1) (by omega) λy _ _=>⟨(DT vw).length,.inl ⟨_,SqL.of efl4,by rw[B4]⟩,?_⟩
 push_cast[]
 refine⟨by omega,ES efl4 hf λk hk=> ?_⟩
 obtain⟨hk1,hk2⟩:=DJ hk
 have hkn:=i6 hk1 hk2
 push_cast[↓Bb]
 refine X4.at (k:=2) (by omega) λy2 _ _=>⟨RL.length,.inl ⟨_,SqL.of er4,by rw[B4]⟩,?_⟩
 push_cast[]
 refine⟨by omega,ES er4 hg λj hj=> ?_⟩
 rw[<-hRL]at hj
 obtain⟨hj1,hj2⟩:=DJ hj
 obtain⟨d,hd⟩:∃ d,AF vw.nm j=some d:=by
  cases e:AF vw.nm j with
  | none=>rw[e]at hj2;cases hj2
  | some d=>exact⟨d,rfl⟩
 obtain⟨c,hc⟩:=Option.isSome_iff_exists.mp (C.ls j d hd)
 have hr:=E8 hc
 push_cast[↓Bc]
 refine I4.ix0 hj1 λv hv=> ?_
 rw[hd]at hv
 obtain⟨pd,rfl,hpd⟩:=hv
 refine CP hpd (n:=1) rfl rfl ?_
 push_cast[↓Bd]
 refine I4.ix0 hj1 λv2 hv2=> ?_
 rw[hd]at hv2
 obtain⟨pd2,rfl,hpd2⟩:=hv2
 refine I4.at0 (I4.set0 (cc:=some d) hk1 ⟨pd2,rfl,hpd2⟩ (λc' hc'=>by cases hc';exact I.ok.n1 d (HA hd)) λH6 I6 sb6 tk6=> ?_)
 push_cast[↓Bg]
 refine I6.ix1 hr λv3 hv3=> ?_
 have hv3:RcV H6 v3 (AF vw.rc d.2):=hv3
 rw[hc]at hv3
 obtain⟨p3,t3,rfl,hp3,ht3⟩:=hv3
 refine CP hp3 (n:=0) rfl rfl ?_
 push_cast[]
 refine I6.ix1 hr λv4 hv4=> ?_
 have hv4:RcV H6 v4 (AF vw.rc d.2):=hv4
 rw[hc]at hv4
 obtain⟨p4,t4,rfl,hp4,ht4⟩:=hv4
 refine CP hp4 (n:=1) rfl rfl ⟨by decide,λnp hnp=> ?_⟩
 have s7:=AY (o:=.tup [V.int (c.1+1),V.ref t4]) hnp
 have e7:upd H6 np (.tup [V.int (c.1+1),V.ref t4]) np=some (.tup [V.int (c.1+1),V.ref t4]):=AS
 revert s7 e7
 generalize upd H6 np (.tup [V.int (c.1+1),V.ref t4])=H7
 intro s7 e7
 have I7:=I6.same s7
 refine I7.at1 (I7.set1 (cc:=some (c.1+1,c.2)) hr ⟨np,t4,rfl,e7,s7 _ _ ht4⟩ (λc' h=>by cases h;exact I.ok.n2 c (HA hc)) λH8 I8 sb8 tk8=> ?_)
 push_cast[↓Bh]
 refine⟨by decide,λt ht=> ?_⟩
 have em:(if((k:Nat):Int) >((j:Nat):Int)then((k:Nat):Int)else((j:Nat):Int))=((max j k:Nat):Int):=by
  split<;>omega
 rw[em]at *
 have s9:=AY (o:=.tup [V.str (Str.ofString "twice"),V.int ↑(max j k)]) ht
 exact q2 t _ _ lf _ AS (I8.same s9) (C.twice hkn hd hc) ⟨by simp only[List.length_set];exact z1,by simp only[List.length_set];exact z2,z3⟩ ((s04.sb.trans sb6).trans ((s7.sb.trans sb8).trans s9.sb))
theorem Tm(h:NR K a vs H Q E):vs.length=3:=by
 obtain⟨_,_,_,_,_,_,_,_,_,_,rfl,_⟩:=h
 rfl
theorem Tp(h:NT K a vs H Q E):TX K a (λ_=>E) (A7 Q) (A6 ["view","names","xs","led","least","records","r"] vs) H:=by
 obtain⟨A,vw,lf,zs,nl,xl,xs,n,r0,c0,rfl,I,C,N,X,⟨z1,z2,z3⟩,hn36,n1,r1,c1,q1,q2⟩:=h
 have br:=I.ok.br
 push_cast[TX,↓Ck]
 refine⟨A,vw,lf,rfl,I,λll H1 hll s1 ell=> ?_⟩
 have ell:H1 ll=some (.lst (AV ((List.range vw.rc.length).map (led vw)))):=ell
 have lost:∀ {H':Hp},Same H H'->ER K a [.ref A.v,.ref nl,.ref xl] H' Q E:=λs=>⟨A,vw,lf,zs,nl,xl,xs,n,r0,c0,rfl,I.same s,C,N.sb s.sb,X.sb s.sb,⟨z1,z2,z3⟩,hn36,n1,r1,c1,λH'' sb=>q1 H'' (s.sb.trans sb),λt f vw' lf' H'' e1 e2 e3 e4 sb=>q2 t f vw' lf' H'' e1 e2 e3 e4 (s.sb.trans sb)⟩
 have I1:=I.same s1
 have X1:=X.sb s1.sb
 push_cast[↓Cl]
 refine X1.at (k:=0) (by omega) λy _ _=> ?_
 push_cast[]
 obtain⟨m,hm,hm'⟩:∃ m:Nat,(1+(if decide (y % 7=4)=true then 1 else 0):Int)=m/\(m=1\/m=2):=by
  by_cases h4:y % 7=4
  ·exact⟨2,by simp[h4],.inr rfl⟩
  ·exact⟨1,by simp[h4],.inl rfl⟩
 simp only[decide_eq_true_eq]at hm
 rw[hm]
 push_cast[↓Cm]
 refine⟨vw.rc.length,.inl ⟨_,SqL.of ell,by rw[B4,FZ]⟩,by omega,by omega,G3 (λr=>decide (m<=led vw r)) (small _ (by omega)) (λk hk QB qb=> ?_) λrl hrl=> ?_⟩
 ·push_cast[BG]
  refine FY ell hk ?_
  push_cast[]
  rw[show decide ((m:Int)<=((led vw k:Nat):Int))=decide (m<=led vw k) by rw[decide_eq_decide];omega]
  exact qb
 have s2:=AY (o:=.lst (((List.range vw.rc.length).filter λr=>decide (m<=led vw r)).map λ(i:Nat)=>V.int i)) hrl
 have er:upd H1 rl (.lst (((List.range vw.rc.length).filter λr=>decide (m<=led vw r)).map λ(i:Nat)=>V.int i)) rl=some (.lst (AV ((List.range vw.rc.length).filter λr=>decide (m<=led vw r)))):=AS
 revert s2 er
 generalize upd H1 rl (.lst (((List.range vw.rc.length).filter λr=>decide (m<=led vw r)).map λ(i:Nat)=>V.int i))=H2
 intro s2 er
 have s02:=s1.trans s2
 push_cast[↓Cq]
 refine⟨by decide,λe0 he0=> ?_⟩
 have s3:=AY (o:=.lst []) he0
 refine IC (s3 _ _ er) AS ⟨_,rfl,?_⟩
 have s03:=s02.trans s3
 have er3:=s3 _ _ er
 revert s03 er3
 generalize upd H2 e0 (.lst [])=H3
 intro s03 er3
 generalize hRL:((List.range vw.rc.length).filter λr=>decide (m<=led vw r))=RL at er3
 by_cases hf:RL=[]
 ·refine B1 (by simp[hf]) ?_
  push_cast[↓Cp]
  exact lost s03
 refine BW (by simp[hf]) ?_
 have I3:=I.same s03
 have X3:=X.sb s03.sb
 have f1:=JN hf
 push_cast[↓Cv]
 refine X3.at (k:=1) (by omega) λy1 _ _=>⟨RL.length,.inl ⟨_,SqL.of er3,by rw[B4]⟩,?_⟩
 push_cast[]
 refine⟨by omega,ES er3 hf λr hr=> ?_⟩
 rw[<-hRL]at hr
 obtain⟨hr1,hr2⟩:=DJ hr
 have hr2:m<=led vw r:=by simpa using hr2
 push_cast[↓Cz]
 rcases hm' with rfl | rfl
 ·refine BW (by decide) ?_
  push_cast[↓Db]
  refine⟨by decide,λkl hkl=> ?_⟩
  have s4:=AY (o:=.lst [V.int 0,V.non]) hkl
  have e4:upd H3 kl (.lst [V.int 0,V.non]) kl=some (.lst [V.int 0,V.non]):=AS
  revert s4 e4
  generalize upd H3 kl (.lst [V.int 0,V.non])=H4
  intro s4 e4
  refine(X3.sb s4.sb).at (k:=2) (by omega) λy2 _ _=> ?_
  push_cast[]
  obtain⟨b,eb,hb⟩:=GP y2 (n:=2) (by omega)
  rw[show((2:Nat):Int)=2 from rfl]at eb
  rw[eb]
  obtain⟨v,x,ev,hv,hx⟩:∃ (v:V) (x:Option Int),[V.int 0,V.non][b]? =some v/\MkV H4 v x/\x≠some 1:=by
   rcases(by omega:b=0\/b=1)with rfl | rfl
   ·exact⟨_,some 0,rfl,rfl,by decide⟩
   ·exact⟨_,none,rfl,rfl,by decide⟩
  refine BU (SqL.of e4) (n:=b) rfl ev ?_
  have I4:=I3.same s4
  refine I4.at3 (I4.set3 (cc:=x) hr1 hv (λ_ _=>trivial) λH5 I5 sb5 tk5=> ?_)
  push_cast[↓Dc]
  refine⟨by decide,λt ht=> ?_⟩
  have s6:=AY (o:=.tup [V.str (Str.ofString "free"),V.str (Str.ofString "record"),V.int ↑r]) ht
  exact q2 t _ _ lf _ AS (I5.same s6) (C.freeR hr1 (by rw[I.ok.l1];exact hr1) hr2 hx) ⟨z1,z2,z3⟩ (((s03.trans s4).sb.trans sb5).trans s6.sb)
 ·refine B1 (by decide) ?_
  obtain⟨k,d,hk,hd⟩:=PQ (vw:=vw) (r:=r) (by omega)
  have hrs:=C.ls k d hk
  rw[hd]at hrs
  obtain⟨c,hc⟩:=Option.isSome_iff_exists.mp hrs
  push_cast[↓Cw]
  refine I3.ix1 hr1 λv hv=> ?_
  rw[hc]at hv
  obtain⟨p,t,rfl,hp,ht⟩:=hv
  refine CP hp (n:=1) rfl rfl ⟨by decide,λnp hnp=> ?_⟩
  have s4:=AY (o:=.tup [V.int 1,V.ref t]) hnp
  have e4:upd H3 np (.tup [V.int 1,V.ref t]) np=some (.tup [V.int 1,V.ref t]):=AS
  revert s4 e4
  generalize upd H3 np (.tup [V.int 1,V.ref t])=H4
  intro s4 e4
  have I4:=I3.same s4
  refine I4.at1 (I4.set1 (cc:=some (1,c.2)) hr1 ⟨np,t,rfl,e4,s4 _ _ ht⟩ (λc' h=>by cases h;exact I.ok.n2 c (HA hc)) λH5 I5 sb5 tk5=> ?_)
  push_cast[↓Cy]
  refine⟨by decide,λt ht=> ?_⟩
  have s6:=AY (o:=.tup [V.str (Str.ofString "few"),V.int ↑r]) ht
  exact q2 t _ _ lf _ AS (I5.same s6) (C.few hc hr2) ⟨z1,by simp only[List.length_set];exact z2,z3⟩ (((s03.trans s4).sb.trans sb5).trans s6.sb)
theorem Tq(h:NT K a vs H Q E):vs.length=3:=by
 obtain⟨_,_,_,_,_,_,_,_,_,_,rfl,_⟩:=h
 rfl
theorem Tv(h:NU K a vs H Q E):T8 K a (λ_=>E) (A7 Q) (A6 ["view","names","xs","kind"] vs) H:=by
 obtain⟨A,vw,lf,zs,nl,xl,xs,n,r0,c0,rfl,I,C,N,X,sz,hn36,n1,r1,c1,q⟩:=h
 have go:∀ {H':Hp},Same H H'->KR K a [.ref A.v,.ref nl,.ref xl] H' Q E:=λs=>⟨A,vw,lf,zs,nl,xl,xs,n,r0,c0,rfl,I.same s,C,N.sb s.sb,X.sb s.sb,sz,hn36,n1,r1,c1,λH'' sb=>q.1 H'' (s.sb.trans sb),λt f vw' lf' H'' e1 e2 e3 e4 sb=>q.2 t f vw' lf' H'' e1 e2 e3 e4 (s.sb.trans sb)⟩
 push_cast[T8,↓Ew]
 refine X.at (k:=0) (by omega) λy _ _=> ?_
 push_cast[]
 push_cast[↓Ey]
 by_cases h0:y % 7=0
 ·refine B1 h0 ?_
  push_cast[↓Ex]
  exact go (Same.refl _)
 refine BW h0 ?_
 push_cast[↓Fb]
 by_cases h1:y % 7=1
 ·refine B1 h1 ?_
  push_cast[↓Ez]
  exact go (Same.refl _)
 refine BW h1 ?_
 push_cast[↓Fd]
 obtain⟨b,eb,hb⟩:=GP y (n:=7) (by omega)
 rw[show((7:Nat):Int)=7 from rfl]at eb
 rw[eb]
 refine⟨by decide,λt ht=> ?_⟩
 have s1:=AY (o:=.tup [V.int 2,V.int 3,V.int 6]) ht
 have e1:upd H t (.tup [V.int 2,V.int 3,V.int 6]) t=some (.tup (AV [2,3,6])):=AS
 revert s1 e1
 generalize upd H t (.tup [V.int 2,V.int 3,V.int 6])=H1
 intro s1 e1
 refine Qd e1 ⟨_,rfl,?_⟩
 by_cases h2:b∈[2,3,6]
 ·refine B1 (decide_eq_true h2) ?_
  push_cast[↓Fc]
  exact go s1
 refine BW (by simpa using h2) ?_
 push_cast[↓Fg]
 exact go s1
theorem Tw(h:NU K a vs H Q E):vs.length=3:=by
 obtain⟨_,_,_,_,_,_,_,_,_,_,rfl,_⟩:=h
 rfl
theorem Tx{t1 t2:Addr}{ps:List Nat}{p:Nat}{Q:VK}(h1:H t1=some (.tup (AV ps)))(h2:H t2=some (.tup [.int p]))(hl:ps.length<=100)(q:∀ t H',Same H H'->H' t=some (.tup (AV (ps++[p])))->Q (.ref t) H'):BC K (.ref t1) (.ref t2) H Q:=by
 rw[XM]
 by_cases h0:ps=[]
 ·subst h0
  exact .inr (.inr ⟨t1,t2,_,rfl,rfl,SqT.of h1,SqT.of h2,q _ _ (Same.refl _) h2⟩)
 ·refine .inr (.inl ⟨t1,t2,_,_,rfl,rfl,SqT.of h1,SqT.of h2,λz=>h0 (by simpa [AV]using z),small _ (by rw[B4];simp;omega),λz=>(by cases z),λ_ t ht=> ?_⟩)
  refine q t _ (AY ht) ?_
  rw[AS]
  simp[AV]
theorem Ty(h:NS K a vs H Q E):TU K a (λ_=>E) (A7 Q) (A6 ["view","names","xs","records","pieces","r","p"] vs) H:=by
 obtain⟨A,vw,lf,zs,nl,xl,xs,n,r0,c0,rfl,I,C,N,X,⟨z1,z2,z3⟩,hn36,n1,r1,c1,q1,q2⟩:=h
 have br:=I.ok.br
 have lost:∀ {H':Hp},Same H H'->ER K a [.ref A.v,.ref nl,.ref xl] H' Q E:=λs=>⟨A,vw,lf,zs,nl,xl,xs,n,r0,c0,rfl,I.same s,C,N.sb s.sb,X.sb s.sb,⟨z1,z2,z3⟩,hn36,n1,r1,c1,λH'' sb=>q1 H'' (s.sb.trans sb),λt f vw' lf' H'' e1 e2 e3 e4 sb=>q2 t f vw' lf' H'' e1 e2 e3 e4 (s.sb.trans sb)⟩
 push_cast[TU,↓Bj]
 refine I.at1 ⟨vw.rc.length,I.len1,by omega,by omega,G3 (λr=> !(AF vw.rc r).isNone) (small _ (by omega)) (λk hk QB qb=> ?_) λrl hrl=> ?_⟩
 ·push_cast[BG]
  refine I.ix1 hk λv hv=> ?_
  push_cast[]
  rw[IB hv]
  exact qb
 have s1:=AY (o:=.lst (((List.range vw.rc.length).filter λr=> !(AF vw.rc r).isNone).map λ(i:Nat)=>V.int i)) hrl
 have er:upd H rl (.lst (((List.range vw.rc.length).filter λr=> !(AF vw.rc r).isNone).map λ(i:Nat)=>V.int i)) rl=some (.lst (AV ((List.range vw.rc.length).filter λr=> !(AF vw.rc r).isNone))):=AS
 revert s1 er
 generalize upd H rl (.lst (((List.range vw.rc.length).filter λr=> !(AF vw.rc r).isNone).map λ(i:Nat)=>V.int i))=H1
 intro s1 er
 have hRLb:((List.range vw.rc.length).filter λr=> !(AF vw.rc r).isNone).length<=vw.rc.length:=by
  have:=List.length_filter_le (λr=> !(AF vw.rc r).isNone) (List.range vw.rc.length)
  rwa [List.length_range]at this
 have hRLm:∀ {r:Nat},r∈((List.range vw.rc.length).filter λr=> !(AF vw.rc r).isNone)->∃ c,AF vw.rc r=some c:=λ{r} hr=>by
  have:=(DJ hr).2
  cases e:AF vw.rc r with
  | none=>rw[e]at this;cases this
  | some c=>exact⟨c,rfl⟩
 have hRLi:∀ {r:Nat} {c:Int × List Nat},AF vw.rc r=some c->r∈((List.range vw.rc.length).filter λr=> !(AF vw.rc r).isNone):=λ{r c} h=>List.mem_filter.mpr ⟨List.mem_range.mpr (E8 h),by rw[h];rfl⟩
 revert er hRLb hRLm hRLi
 generalize ((List.range vw.rc.length).filter λr=> !(AF vw.rc r).isNone)=RL
 intro er hRLb hRLm hRLi
 push_cast[↓Bk]
 refine⟨by decide,λpl hpl=> ?_⟩
 have s2:=AY (o:=.lst []) hpl
 have e2:upd H1 pl (.lst []) pl=some (.lst (AV [])):=AS
 revert s2 e2
 generalize upd H1 pl (.lst [])=H2
 intro s2 e2
 have s02:=s1.trans s2
 push_cast[↓Bm]
 refine .inl ⟨⟨_,SqL.of (s2 _ _ er)⟩,KK (xs:=AV RL) (λi σ H'=>(∃ (pl:Addr) (ps:List Nat) (y5:Option V),(Same H1 H'/\H' pl=some (.lst (AV ps)))/\(∀ p∈ps,∃ r c,AF vw.rc r=some c/\p∈c.2)/\ps.length<=3 * i/\σ=[some (.ref A.v),some (.ref nl),some (.ref xl),some (.ref rl),some (.ref pl),y5,none])) ⟨pl,[],none,⟨s2,e2⟩,λp hp=>(by cases hp),Nat.le_refl _,rfl⟩ (λi σ H' _ ⟨_,_,_,⟨s,_⟩,_⟩=>SqL.of (s _ _ er)) (λi x σ H' hx ⟨pl,ps,y5,⟨s,e⟩,hps,hl,eσ⟩=> ?_) (λσ H' ⟨pl,ps,y5,⟨s,e⟩,hps,hl,eσ⟩=> ?_)⟩
 ·subst eσ
  obtain⟨r,hr,rfl⟩:=List.mem_map.mp (List.mem_of_getElem? hx)
  obtain⟨c,hc⟩:=hRLm hr
  have h3:=C.p3 r c hc
  have hi:=(List.getElem?_eq_some_iff.mp hx).1
  rw[B4]at hi
  push_cast[↓Bl]
  refine(I.same (s1.trans s)).ix1 (E8 hc) λv hv=> ?_
  rw[hc]at hv
  obtain⟨p,t,rfl,hp,ht⟩:=hv
  refine CP hp (n:=1) rfl rfl ?_
  push_cast[]
  refine⟨_,.inr (SqT.of ht),λl hl'=> ?_⟩
  have s5:=AY (o:=.lst (AV c.2)) hl'
  refine KY (s5 _ _ e) AS (by rw[B4,B4];omega) λl6 H6 hl6 s6 e6=> ?_
  refine⟨(s.trans s5).trans s6,l6,ps++c.2,by rw[e6];simp[AV],λp hp=> ?_,by rw[List.length_append];omega,rfl⟩
  rcases List.mem_append.mp hp with h | h
  ·exact hps p h
  ·exact⟨r,c,hc,h⟩
 subst eσ
 have s03:=s1.trans s
 have er3:=s _ _ er
 push_cast[↓Bq]
 refine⟨by decide,λe0 he0=> ?_⟩
 have s4:=AY (o:=.lst []) he0
 refine IC (s4 _ _ e) AS ⟨_,rfl,?_⟩
 have s04:=s03.trans s4
 have er4:=s4 _ _ er3
 have e4:=s4 _ _ e
 revert s04 er4 e4
 generalize upd H' e0 (.lst [])=H4
 intro s04 er4 e4
 by_cases hf:ps=[]
 ·refine B1 (by simp[hf]) ?_
  push_cast[↓Bp]
  exact lost s04
 refine BW (by simp[hf]) ?_
 have I4:=I.same s04
 have X4:=X.sb s04.sb
 have f1:=JN hf
 push_cast[↓Bv]
 refine X4.at (k:=1) (by omega) λy1 _ _=>⟨ps.length,.inl ⟨_,SqL.of e4,by rw[B4]⟩,?_⟩
 push_cast[]
 refine⟨by omega,ES e4 hf λp hp=> ?_⟩
 obtain⟨rp,cp,hcp,hpc⟩:=hps p hp
 have hpl:p<vw.pc.length:=(I.ok.n2 cp (HA hcp)).1 p hpc
 have hg:RL≠[]:=λz=>by
  have:=hRLi hcp
  rw[z]at this;cases this
 have g1:=JN hg
 push_cast[↓Bz]
 refine X4.at (k:=0) (by omega) λy0 _ _=> ?_
 push_cast[]
 by_cases h2:y0 % 7=2
 ·refine B1 h2 ?_
  push_cast[↓Bw]
  refine X4.at (k:=2) (by omega) λy2 _ _=>⟨RL.length,.inl ⟨_,SqL.of er4,by rw[B4]⟩,?_⟩
  push_cast[]
  refine⟨by omega,ES er4 hg λr hr=> ?_⟩
  obtain⟨c,hc⟩:=hRLm hr
  have hrl:=E8 hc
  have h3:=C.p3 r c hc
  push_cast[↓Bx]
  refine I4.ix1 hrl λv hv=> ?_
  rw[hc]at hv
  obtain⟨p1,t1,rfl,hp1,ht1⟩:=hv
  refine CP hp1 (n:=0) rfl rfl ?_
  push_cast[]
  refine I4.ix1 hrl λv2 hv2=> ?_
  rw[hc]at hv2
  obtain⟨p2,t2,rfl,hp2,ht2⟩:=hv2
  refine CP hp2 (n:=1) rfl rfl ⟨by decide,λtp htp=> ?_⟩
  have s5:=AY (o:=.tup [V.int ↑p]) htp
  refine Tx (s5 _ _ ht2) AS (by omega) λt6 H6 s6 e6=>⟨by decide,λnp hnp=> ?_⟩
  have s46:=s5.trans s6
  have s7:=AY (o:=.tup [V.int c.1,V.ref t6]) hnp
  have e7:upd H6 np (.tup [V.int c.1,V.ref t6]) np=some (.tup [V.int c.1,V.ref t6]):=AS
  revert s7 e7
  generalize upd H6 np (.tup [V.int c.1,V.ref t6])=H7
  intro s7 e7
  have s07:=(s04.trans s46).trans s7
  have I7:=I.same s07
  refine I7.at1 (I7.set1 (cc:=some (c.1,c.2++[p])) hrl ⟨np,t6,rfl,e7,s7 _ _ e6⟩ (λc' h=>by cases h;exact⟨λp' hp'=>(List.mem_append.mp hp').elim ((I.ok.n2 c (HA hc)).1 p') λz=>by rw[List.mem_singleton.mp z];exact hpl,by simp;omega⟩) λH8 I8 sb8 tk8=> ?_)
  push_cast[↓By]
  refine⟨by decide,λt ht=> ?_⟩
  have s9:=AY (o:=.tup [V.str (Str.ofString "shared"),V.int ↑p]) ht
  exact q2 t _ _ lf _ AS (I8.same s9) (C.shared hcp hpc hc hpl) ⟨z1,by simp only[List.length_set];exact z2,z3⟩ ((s07.sb.trans sb8).trans s9.sb)
 refine BW h2 ?_
 push_cast[↓Cd]
 refine X4.at (k:=0) (by omega) λy0' _ _=> ?_
 push_cast[]
 by_cases h3:y0' % 7=3
 ·refine B1 h3 ?_
  push_cast[↓Cb]
  refine I4.at2 (I4.set2 (cc:=none) hpl rfl (λc h=>by cases h) λH5 I5 sb5 tk5=> ?_)
  push_cast[↓Cc]
  refine⟨by decide,λt ht=> ?_⟩
  have s9:=AY (o:=.tup [V.str (Str.ofString "empty"),V.int ↑p]) ht
  exact q2 t _ _ lf _ AS (I5.same s9) (C.empty hcp hpc hpl) ⟨z1,z2,by simp only[List.length_set];exact z3⟩ ((s04.sb.trans sb5).trans s9.sb)
 refine BW h3 ?_
 push_cast[↓Cg]
 refine⟨by decide,λkl hkl=> ?_⟩
 have s5:=AY (o:=.lst [V.int 0,V.non]) hkl
 have e5:upd H4 kl (.lst [V.int 0,V.non]) kl=some (.lst [V.int 0,V.non]):=AS
 revert s5 e5
 generalize upd H4 kl (.lst [V.int 0,V.non])=H5
 intro s5 e5
 refine(X4.sb s5.sb).at (k:=2) (by omega) λy2 _ _=> ?_
 push_cast[]
 obtain⟨b,eb,hb⟩:=GP y2 (n:=2) (by omega)
 rw[show((2:Nat):Int)=2 from rfl]at eb
 rw[eb]
 obtain⟨v,x,ev,hv,hx⟩:∃ (v:V) (x:Option Int),[V.int 0,V.non][b]? =some v/\MkV H5 v x/\x≠some 1:=by
  rcases(by omega:b=0\/b=1)with rfl | rfl
  ·exact⟨_,some 0,rfl,rfl,by decide⟩
  ·exact⟨_,none,rfl,rfl,by decide⟩
 refine BU (SqL.of e5) (n:=b) rfl ev ?_
 have I5:=I4.same s5
 refine I5.at4 (I5.set4 (cc:=x) hpl hv (λ_ _=>trivial) λH6 I6 sb6 tk6=> ?_)
 push_cast[↓Cj]
 refine⟨by decide,λt ht=> ?_⟩
 have s9:=AY (o:=.tup [V.str (Str.ofString "free"),V.str (Str.ofString "piece"),V.int ↑p]) ht
 exact q2 t _ _ lf _ AS (I6.same s9) (C.freeP hcp hpc hpl (by rw[I.ok.l2];exact hpl) hx) ⟨z1,z2,z3⟩ (((s04.trans s5).sb.trans sb6).trans s9.sb)
theorem Tz(h:NS K a vs H Q E):vs.length=3:=by
 obtain⟨_,_,_,_,_,_,_,_,_,_,rfl,_⟩:=h
 rfl
theorem Ub{tt:TT}{te:TE}{cap:List Nat}{σ:St}{b:Addr}{xs:List V}(p:Nat->Bool)(hn:xs.length<=sizeLine)(Pv:Nat->List V->Hp->Prop)(h0:Pv 0 [] H)(hq:∀ i ys H,i<=xs.length->Pv i ys H->SqL K H b xs/\ys.length<=i)
  (hu:∀ i ys H H',Pv i ys H->Same H H'->Pv i ys H')
  (ht:∀ i x ys H,xs[i]? =some x->Pv i ys H->∀ QB:Bool->Hp->Prop,(∀ H',Same H H'->QB (p i) H')->tt (some x::BG cap σ) H QB)
  (hs:∀ i x ys H,xs[i]? =some x->p i=true->Pv i ys H->te (some x::BG cap σ) H λy H3=>Pv (i+1) (ys++[y]) H3)
  (hf:∀ i x ys H,xs[i]? =some x->p i=false->Pv i ys H->Pv (i+1) ys H)
  (hd:∀ ys H,Pv xs.length ys H->∀ q,H q=none->Q (.ref q) (upd H q (.lst ys))):DI (EG K b) (AN 0) tt te 1 cap σ H Q:=by
 refine⟨λi m σ' ys H=>m=xs.length - i/\i<=xs.length/\(∃ x0,σ'=x0::BG cap σ)/\Pv i ys H,⟨xs.length,by simp,Nat.zero_le _,⟨none,rfl⟩,h0⟩,?_⟩
 rintro i m σ' ys H ⟨rfl,hi,⟨x0,rfl⟩,P⟩
 obtain⟨q,hl⟩:=hq i ys H hi P
 by_cases hlt:i<xs.length
 ·refine .inr ⟨⟨xs,xs[i],q,by simp[hlt]⟩,by omega,λx H' y=> ?_⟩
  obtain⟨e,y⟩:=y
  subst e
  have ex:=y xs q
  refine ht i x ys _ ex P _ λH2 s2=> ?_
  have P2:=hu i ys _ H2 P s2
  cases hp:p i with
  | true =>
   rw[if_pos rfl]
   exact⟨_,λy H4 q=>⟨_,by omega,rfl,hlt,⟨_,rfl⟩,q⟩,hs i x ys _ ex hp P2⟩
  | false =>
   rw[if_neg Bool.false_ne_true]
   exact⟨_,by omega,rfl,hlt,⟨_,rfl⟩,hf i x ys _ ex hp P2⟩
 ·have e:i=xs.length:=by omega
  subst e
  exact .inl ⟨⟨xs,q,Nat.le_refl _⟩,hd ys H P⟩
def i7:List V:=[.str (Str.ofString "lost"),.str (Str.ofString "twice"),.str (Str.ofString "shared"),.str (Str.ofString "empty"),.str (Str.ofString "few"),.str (Str.ofString "free")]
def GR(f:List V):Bool:=ML (f.headD .non) i7
def UK(f:List V):Prop:=∃ s r,f=V.str s::r
theorem i8{n:Nat}{p:Nat->Bool}{g:Nat->List V}{f:List V}(h:f∈B3 n p g):∃ k,f=g k:=by
 unfold B3 at h
 obtain⟨k,_,rfl⟩:=List.mem_map.mp h
 exact⟨k,rfl⟩
theorem i9{vw:Vw}{f:List V}(h:f∈faults vw):UK f/\GR f=true:=by
 unfold faults EL EM EN at h
 simp only[List.mem_append]at h
 rcases h with(((h | h) | ((h | h) | h)) | (h | h))<;>obtain⟨k,rfl⟩:=i8 h<;>exact⟨⟨_,_,rfl⟩,by unfold GR;simp only[List.headD_cons];decide +kernel⟩
theorem jA{vw:Vw}{f:List V}(h:f∈EO vw):UK f/\GR f=false:=by
 unfold EO IS IT IU at h
 simp only[List.mem_append]at h
 rcases h with(((h | h) | h) | h)<;>obtain⟨k,rfl⟩:=i8 h<;>exact⟨⟨_,_,rfl⟩,by unfold GR;simp only[List.headD_cons];decide +kernel⟩
theorem Uc(vw:Vw):(faults vw++EO vw).filter GR=faults vw:=by
 rw[List.filter_append,List.filter_eq_self.mpr λf h=>(i9 h).2,List.filter_eq_nil_iff.mpr λf h=>by rw[(jA h).2];exact Bool.false_ne_true,List.append_nil]
theorem Ud{t:Addr}{s:Str}{r:List V}(ht:H t=some (.tup i7))(q:Q (.bl (GR (V.str s::r))) H):MV K (.str s) (.ref t) H Q :=
 ⟨t,_,rfl,.inr (SqT.of ht),rfl,rfl,by rw[if_neg Bool.false_ne_true];exact q⟩
theorem Ug{tt:TT}{cap:List Nat}{σ:St}{b:Addr}{fs:List (List V)}(F:FindsL H b fs)(hn:fs.length<=2000)
  (ht:∀ p f H',f∈fs->Same H H'->H' p=some (.tup f)->∀ QB:Bool->Hp->Prop,(∀ H2,Same H' H2->QB (GR f) H2)->tt (some (.ref p)::BG cap σ) H' QB)
  (q:newF (fs.filter GR) H Q):DI (EG K b) (AN 0) tt (AA 0) 1 cap σ H Q:=by
 obtain⟨ps,e,P⟩:=F
 have pl:=P.length
 have at':∀ {i:Nat} {x:V},(ps.map V.ref)[i]? =some x->∃ p f,x=.ref p/\fs[i]? =some f/\H p=some (.tup f):=λ{i x} h=>by
  rw[List.getElem?_map,Option.map_eq_some_iff]at h
  obtain⟨p,h1,h2⟩:=h
  obtain⟨f,h3,h4⟩:=GO P h1
  exact⟨p,f,h2.symm,h3,h4⟩
 refine Ub (xs:=ps.map V.ref) (λi=>match fs[i]? with
  | some f=>GR f
  | none=>false) (small _ (by rw[List.length_map];omega)) (λi ys H'=>Same H H'/\ys.length<=i/\∃ as:List Addr,ys=as.map V.ref/\Paired (λp f=>H p=some (.tup f)) as ((fs.take i).filter GR)) ⟨Same.refl _,Nat.le_refl _,[],rfl,.nil⟩ (λi ys H' _ ⟨s,l,_⟩=>⟨SqL.of (s _ _ e),l⟩) (λi ys H1 H2 ⟨s,l,as,e1,e2⟩ s2=>⟨s.trans s2,l,as,e1,e2⟩) (λi x ys H' hx ⟨s,_⟩ QB qb=> ?_) (λi x ys H' hx hp ⟨s,l,as,e1,e2⟩=> ?_) (λi x ys H' hx hp ⟨s,l,as,e1,e2⟩=> ?_) (λys H' ⟨s,l,as,e1,e2⟩ r hr=> ?_)
 ·obtain⟨p,f,rfl,ef,hp⟩:=at' hx
  simp only[ef]at qb
  exact ht p f H' (List.mem_of_getElem? ef) s (s _ _ hp) QB qb
 ·obtain⟨p,f,rfl,ef,hp'⟩:=at' hx
  simp only[ef]at hp
  rw[RI]
  refine⟨s,by simp;omega,as++[p],by rw[e1,List.map_append];rfl,?_⟩
  rw[ED ef,List.filter_append]
  simp only[List.filter_cons,hp,if_true,List.filter_nil]
  exact Paired.snoc e2 hp'
 ·obtain⟨p,f,rfl,ef,hp'⟩:=at' hx
  simp only[ef]at hp
  refine⟨s,by omega,as,e1,?_⟩
  rw[ED ef,List.filter_append]
  simp only[List.filter_cons,hp,Bool.false_eq_true,if_false,List.filter_nil,List.append_nil]
  exact e2
 ·rw[List.length_map,pl,List.take_length]at e2
  have s2:=AY (o:=.lst ys) hr
  refine q r _ (s.free hr) (s.trans s2) ⟨as,by rw[AS,e1],Paired.mapP e2 λp f e=>s2 _ _ (s _ _ e)⟩
theorem LWAt.fresh{A:LW}{vw:Vw}{lf:List Nat}{x:Addr}(I:LWAt H A vw lf)(h:H x=none):x∉A.L/\x≠A.v:=by
 refine⟨λhm=> ?_,λe=>by rw[e,I.ob]at h;cases h⟩
 simp[LW.L]at hm
 obtain⟨_,k0,_⟩:=I.n
 obtain⟨_,k1,_⟩:=I.r
 obtain⟨_,k2,_⟩:=I.p
 obtain⟨_,k3,_⟩:=I.rm
 obtain⟨_,k4,_⟩:=I.pm
 have k5:=I.l
 rcases hm with rfl | rfl | rfl | rfl | rfl | rfl
 ·rw[h]at k0;cases k0
 ·rw[h]at k1;cases k1
 ·rw[h]at k2;cases k2
 ·rw[h]at k3;cases k3
 ·rw[h]at k4;cases k4
 ·rw[h]at k5;cases k5
theorem FindsL.on{H':Hp}{l:Addr}{fs:List (List V)}(h:FindsL H l fs)(hl:∀ o,H l=some o->H' l=some o)(tk:C1 H H'):FindsL H' l fs:=by
 obtain⟨ps,e,P⟩:=h
 exact⟨ps,hl _ e,Paired.mapP P λp f e=>tk _ _ e⟩
theorem Uh(ns:List Int)(lo hi:Option Int):∃ ms:List Int,D5 (ns.map V.int) lo hi=ms.map V.int/\ms.length<=ns.length:=by
 refine⟨(ns.drop (HT.sIx ns.length 0 lo)).take (HT.sIx ns.length ns.length hi - HT.sIx ns.length 0 lo),?_,?_⟩
 ·unfold D5
  rw[List.length_map,<-List.map_drop,<-List.map_take]
 ·rw[List.length_take,List.length_drop]
  omega
theorem Uj(h:R3 K a vs H Q E):UD K a (λ_=>E) (A7 Q) (A6 ["script","sizes","names","view","layout","plank","due","bad","fault","faults"] vs) H:=by
 obtain⟨s,ns,rfl,T,TL,TP,hs,hns,q⟩:=h
 push_cast[UD,↓Gj,↓RZ]
 refine⟨ns,0,rfl,hs,by omega,_,rfl,λz n r c w H1 s1 ez n1 n6 r1 r6 c1 c6 w1 w6=> ?_⟩
 have bw:∀ k:Nat,k<=6->k * w<=36:=λk hk=>Nat.mul_le_mul hk w6
 have pw:∀ k:Nat,1<=k->1<=k * w:=λk hk=>Nat.mul_le_mul hk w1
 push_cast[↓Gk,↓RZ]
 refine⟨ns,1,rfl,s1.seq hs,by omega,_,36,rfl,by omega,λnl zs H2 hnl s2 enl hzl hzd hzs=> ?_⟩
 have s02:=s1.trans s2
 obtain⟨ms,ems,hms⟩:=Uh ns (some 3) none
 push_cast[↓Gm]
 refine RV (s02.seq hs) λrr hrr=> ?_
 rw[ems]
 have s3:=AY (o:=.lst (ms.map V.int)) hrr
 have er3:upd H2 rr (.lst (ms.map V.int)) rr=some (.lst (ms.map V.int)):=AS
 revert s3 er3
 generalize upd H2 rr (.lst (ms.map V.int))=H3
 intro s3 er3
 have s03:=s02.trans s3
 refine⟨rr,z,nl,ms,zs,n,r,c,w,rfl,er3,by omega,(s2.trans s3) _ _ ez,n1,n6,r1,r6,c1,c6,w1,w6,s3 _ _ enl,hzl,hzd,hzs,λA vw lf H4 s4 I4 C sz _ _=> ?_⟩
 have s04:=s03.trans s4
 have ez4:=((s2.trans s3).trans s4) _ _ ez
 have enl4:=(s3.trans s4) _ _ enl
 have hs4:=s04.seq hs
 clear s1 s2 s02 hrr s3 er3 s03 s4 s04 ez enl hnl
 push_cast[↓Gp]
 refine CP ez4 (n:=0) rfl rfl (CP ez4 (n:=1) rfl rfl (CP ez4 (n:=2) rfl rfl (CP ez4 (n:=3) rfl rfl ?_)))
 refine Qk TL (by omega) (by omega) (by omega) w1 (by omega) λly H5 L5 s5=> ?_
 obtain⟨dl,hly⟩:=L5.ob
 have I5:=I4.same s5
 have ez5:=s5 _ _ ez4
 have enl5:=s5 _ _ enl4
 have hs5:=s5.seq hs4
 push_cast[↓Gq]
 refine⟨_,_,hly,D9 (by decide +kernel),ly,n,r,c,w,rfl,TL,TP,L5,λgp cl H6 hgp hcl P6 s6=> ?_⟩
 have fc:=I5.fresh hcl
 push_cast[↓Gv]
 refine CP (s6 _ _ ez5) (n:=3) rfl rfl ⟨gp,cl,A,vw,lf,n,r,c,w,_,0,rfl,TP,P6,by rw[List.length_replicate],I5.same s6,sz,w1,w6,n6,r6,c6,fc.1,fc.2,λrows7 H7 P7 hl7 pv7 sb7=> ?_⟩
 have keep:∀ {H':Hp},SameBut (λx=>x=gp\/x=cl) H5 H'->Same H5 H':=λsb b o e=>sb _ _ e λz=>z.elim (BX e hgp) (BX e hcl)
 have s7:Same H5 H7:=keep (s6.sb.trans sb7)
 have G7:Ground K a H7 ly gp vw:=⟨cl,n,r,c,w,rows7,_,T,TL,TP,L5.same s7,P7,hl7,pv7⟩
 generalize 0+(n+r+c+r+c)=m7 at P7
 clear sb7 pv7 s6 P6 hly
 push_cast[↓Gw]
 refine⟨A,vw,lf,zs,rfl,I5.same s7,C,by rw[sz.2.2];exact bw c c6,λdu H8 hdu s8 F8=> ?_⟩
 push_cast[↓Gy]
 refine⟨ly,gp,du,vw,rfl,G7.same s8,C.faults,F8,λH9 s9=> ?_⟩
 push_cast[]
 have s79:=s8.trans s9
 have s59:=s7.trans s79
 have P9:=P7.same s79
 have F9:=F8.same s9
 obtain⟨dp7,hgp7⟩:=P7.ob
 obtain⟨tc7,hcl7,_⟩:=P7.ls
 have ndu:du≠gp/\du≠cl:=⟨(BX hgp7 hdu).symm,(BX hcl7 hdu).symm⟩
 have hgp9:=s79 _ _ hgp7
 have hcl9:=s79 _ _ hcl7
 clear s8 s9 s79 F8 P7 G7 hgp7 hcl7 hdu
 push_cast[↓Gz]
 refine⟨A,vw,lf,rfl,I5.same s59,λA' H10 s10 I10 hv' hL'=> ?_⟩
 push_cast[↓Hb,↓RZ]
 refine⟨ns,2,rfl,(s59.trans s10).seq hs5,by omega,_,3,rfl,by omega,λxl xs H11 hxl s11 exl hxs hx=> ?_⟩
 have s511:=(s59.trans s10).trans s11
 have enl9:=s59 _ _ enl5
 refine⟨A',vw,lf,zs,nl,xl,xs,n * w,r * w,c * w,rfl,I10.same s11,C,⟨s511 _ _ enl5,hzl,hzd,hzs,λhm=>by rw[hL' nl hm]at enl9;cases enl9⟩,⟨exl,hxs,hx,(I10.fresh hxl).1⟩,sz,bw n n6,pw n n1,pw r r1,pw c c1,λH12 sb12=> ?_,λt f vb lb H12 et I12 hf sz12 sb12=> ?_⟩
 ·push_cast[↓hV]
  push_cast[↓Hc]
  exact q _
 have s912:Same H9 H12:=λb o e=>sb12 _ _ ((s10.trans s11) _ _ e) λhm=>by rw[hL' b hm]at e;cases e
 have s512:=s59.trans s912
 have P12:=P9.same s912
 have F12:=F9.same s912
 have hgp12:=s912 _ _ hgp9
 have hcl12:=s912 _ _ hcl9
 have ncl':cl∉A'.L:=λhm=>by rw[hL' cl hm]at hcl9;cases hcl9
 have ncv':cl≠A'.v:=λe=>by rw[e,hv']at hcl9;cases hcl9
 clear sb12 s10 s11 I10 hxl exl hx hxs s511 enl9 s912 F9 P9
 push_cast[↓hV]
 push_cast[↓Hd]
 refine CP (s512 _ _ ez5) (n:=3) rfl rfl ⟨gp,cl,A',vb,lb,n,r,c,w,rows7,m7,rfl,TP,P12,hl7,I12,sz12,w1,w6,n6,r6,c6,ncl',ncv',λrows13 H13 P13 hl13 pv13 sb13=> ?_⟩
 have tk13:C1 H12 H13:=λy ys e=>sb13 _ _ e λz=>by
  rcases z with z | z
  ·rw[z,hgp12]at e;cases e
  ·rw[z,hcl12]at e;cases e
 have s13:Same H5 H13:=keep (s512.sb.trans sb13)
 have F13:FindsL H13 du (EO vw):=F12.on (λo e=>sb13 _ _ e λz=>z.elim ndu.1 ndu.2) tk13
 have et13:=tk13 _ _ et
 have G13:Ground K a H13 ly gp vb:=⟨cl,n,r,c,w,rows13,_,T,TL,TP,L5.same s13,P13,hl13,pv13⟩
 generalize m7+(n+r+c+r+c)=m13 at P13
 clear sb13 pv13 tk13 et F12 P12 hgp12 hcl12 s512 I12
 obtain⟨m1,m2,m3,m4,m5,m6⟩:=NX G13.ok
 have lenF:(faults vb).length<=700:=by
  unfold faults
  simp only[List.length_append]
  omega
 have lenL:(EO vb).length<=400:=by
  unfold EO
  simp only[List.length_append]
  omega
 push_cast[↓Hg]
 refine⟨ly,gp,vb,rfl,G13,λfo H14 hfo s14 F14=> ?_⟩
 obtain⟨ps14,e14,P14⟩:=F14
 refine⟨fo,rfl,.inl ⟨⟨_,SqL.of e14⟩,Ug ⟨ps14,e14,P14⟩ (by rw[List.length_append];omega) (λp f' H' hm s' hp QB qb=> ?_) ?_⟩⟩
 ·obtain⟨w',rs,rfl⟩:UK f':=(List.mem_append.mp hm).elim (λh=>(i9 h).1) λh=>(jA h).1
  push_cast[]
  refine CP hp (n:=0) rfl rfl ⟨by decide,λtw htw=> ?_⟩
  exact Ud (r:=rs) AS ⟨_,rfl,qb _ (AY htw)⟩
 rw[Uc,hf]
 intro fl H15 hfl s15 F15
 have s1315:=s14.trans s15
 push_cast[↓Hj]
 refine⟨by decide,λe1 he1=> ?_⟩
 have s16:=AY (o:=.lst [V.ref t]) he1
 have F16:FindsL (upd H15 e1 (.lst [V.ref t])) e1 [f]:=⟨[t],AS,.cons ((s1315.trans s16) _ _ et13) .nil⟩
 have fok:FOk [f]:=by rw[<-hf];exact Qh vb
 obtain⟨dd,D1,D2⟩:=iU (K:=K) (F15.same s16) F16 fok
 refine tN (n:=3) (by decide) D1 D2 ⟨_,rfl,BW (by decide) ?_⟩
 have s1316:=s1315.trans s16
 revert s1316
 generalize upd H15 e1 (.lst [V.ref t])=H16
 intro s1316
 refine⟨ly,gp,vb,rfl,G13.same s1316,λH17 s17=>⟨_,_,rfl,rfl,_,rfl,BW ?_ ?_⟩⟩
 ·rw[hf];simp
 have s1317:=s1316.trans s17
 have s517:=s13.trans s1317
 have P17:=P13.same s1317
 have F17:=F13.same s1317
 obtain⟨dp17,hgp17⟩:=P17.ob
 obtain⟨tc17,hcl17,_⟩:=P17.ls
 push_cast[↓Hk]
 refine CP (s517 _ _ ez5) (n:=3) rfl rfl ⟨gp,cl,A,vw,lf,n,r,c,w,rows13,m13,rfl,TP,P17,hl13,I5.same s517,sz,w1,w6,n6,r6,c6,fc.1,fc.2,λrows18 H18 P18 hl18 pv18 sb18=> ?_⟩
 have tk18:C1 H17 H18:=λy ys e=>sb18 _ _ e λz=>by
  rcases z with z | z
  ·rw[z,hgp17]at e;cases e
  ·rw[z,hcl17]at e;cases e
 have s18:Same H5 H18:=keep (s517.sb.trans sb18)
 have F18:FindsL H18 du (EO vw):=F17.on (λo e=>sb18 _ _ e λz=>z.elim ndu.1 ndu.2) tk18
 push_cast[↓Hl]
 exact⟨ly,gp,du,vw,rfl,⟨cl,n,r,c,w,rows18,_,T,TL,TP,L5.same s18,P18,hl18,pv18⟩,C.faults,F18,λH19 s19=>q _⟩
theorem Uk(h:R3 K a vs H Q E):vs.length=1:=by
 obtain⟨_,_,rfl,_⟩:=h
 rfl
end
end L2
namespace L2
def BK(i:Nat):Stmt:=PySem.Challenge.pw_holdback_k52_sound_and_one_fault.main.body.getD i (.Pass ⟨0,0,0,0⟩)
structure Txt(K:W.Frag)(mg:Str->Option Value)(a:Ad):Prop where
 D3:Cls K (a "Layout")
 OG:Cls K (a "Plank")
 HG:Cls K (a "View")
 jL:mg "NoBlock"=some (.ref (a "NoBlock"))
 zbh:GV mg "NoBlock" (.ref (a "NoBlock"))
 jM:Exc K (a "NoBlock")
 KA:mg "enumerate"=none
 U6:mg "int"=none
 za6:mg "isinstance"=none
 CI:mg "len"=none
 OF:mg "list"=none
 za7:mg "max"=none
 DE:mg "range"=none
 za8:mg "sorted"=none
 jK:mg "tuple"=none
section
variable(P:Program)(w:World){K:W.Frag}{mg:Str->Option Value}(base:Heap){a:Ad}{f:Addr}{fd:FuncData}
seal wpAny
abbrev JO:Stmt:=DR (BK 2) 1
theorem Ul:FnScope ["self"] ["self"] (AO JO):=.go
theorem Um(T:Txt K mg a)(F:Fun K "records_led_to" "View.records_led_to" JO f fd)  :
  FP P w K mg base 1 f fd ["self"] (NB K a) :=
 F.okF (R4 K a) Ul Lm Ll λ_ _ _ _ _ E hr hx=>(AX (BE (DB (tn:=["record","value"]) (cn:=["self"]) (cap:=[0]) (B2 (outer:=AO JO) (N:=["self"]) rfl rfl (by decide +kernel)) rfl (IR rfl T.KA (AE (B0 (AB 0) rfl) AJ)) (λ_ _ _ _ _ _=>(HK rfl (D4 (BP (i:=0) (show(["record","value","self"]:List Str).Nodup from by decide +kernel) rfl (Or.inl rfl)) (D4 (BP (i:=1) (show(["record","value","self"]:List Str).Nodup from by decide +kernel) rfl (Or.inl rfl)) HJ)))) (λ_ _ _ _ _ _=>(CW (A4 HS (AL AM (B0 (AB 2) rfl) (AB 0) (λ_ _=>rfl)) AG (A0 _)))) (λ_ _ _ _ _ _=>(AB 1)))))
abbrev JP:Stmt:=DR (BK 2) 2
theorem Up:FnScope ["self"] ["self"] (AO JP):=.go
theorem Uq(T:Txt K mg a)(F:Fun K "records_standing" "View.records_standing" JP f fd)  :
  FP P w K mg base 1 f fd ["self"] (IW K a) :=
 F.okF (R5 K a) Up Ld Lc λ_ _ _ _ _ E hr hx=>(AX (BE (DB (tn:=["record","value"]) (cn:=[]) (cap:=[]) (B2 (outer:=AO JP) (N:=["self"]) rfl rfl (by decide +kernel)) rfl (IR rfl T.KA (AE (B0 (AB 0) rfl) AJ)) (λ_ _ _ _ _ _=>(HK rfl (D4 (BP (i:=0) (show(["record","value"]:List Str).Nodup from by decide +kernel) rfl (Or.inl rfl)) (D4 (BP (i:=1) (show(["record","value"]:List Str).Nodup from by decide +kernel) rfl (Or.inl rfl)) HJ)))) (λ_ _ _ _ _ _=>(CW (A4 HL (AB 1) CV (A0 _)))) (λ_ _ _ _ _ _=>(AB 0)))))
abbrev JQ:Stmt:=DR (BK 2) 3
theorem Uv:FnScope ["self"] ["self"] (AO JQ):=.go
theorem Uw(T:Txt K mg a)(F:Fun K "pieces_named" "View.pieces_named" JQ f fd)  :
  FP P w K mg base 1 f fd ["self"] (HY K a) :=
 F.okF (R6 K a) Uv Lj Lh λ_ _ _ _ _ E hr hx=>(AX (BE (DB (tn:=["piece","many"]) (cn:=[]) (cap:=[]) (B2 (outer:=AO JQ) (N:=["self"]) rfl rfl (by decide +kernel)) rfl (IR rfl T.KA (AE (B0 (AB 0) rfl) AJ)) (λ_ _ _ _ _ _=>(HK rfl (D4 (BP (i:=0) (show(["piece","many"]:List Str).Nodup from by decide +kernel) rfl (Or.inl rfl)) (D4 (BP (i:=1) (show(["piece","many"]:List Str).Nodup from by decide +kernel) rfl (Or.inl rfl)) HJ)))) (λ_ _ _ _ _ _=>(CW (A4 HS (AB 1) AG (A0 _)))) (λ_ _ _ _ _ _=>(AB 0)))))
abbrev K7:Stmt:=DR (BK 2) 4
theorem Ux:FnScope ["self","record"] ["self","record"] (AO K7):=.go
theorem Uy(T:Txt K mg a)(F:Fun K "count_of" "View.count_of" K7 f fd)  :
  FP P w K mg base 1 f fd ["self","record"] (IX K a) :=
 F.okF (R7 K a) Ux Lb Kz λ_ _ _ _ _ E hr hx=>(AX (BE (AL AM (AL AM (B0 (AB 0) rfl) (AB 1) (λ_ _=>rfl)) AG (λ_ _=>rfl))))
abbrev K8:Stmt:=BK 6
theorem K9:FnScope ["view","lost","twice","seen","k","value"] ["view"] (AO K8):=.go
theorem Uz(T:Txt K mg a)(F:Fun K "faults_of_names" "faults_of_names" K8 f fd)  :
  FP P w K mg base 1 f fd ["view"] (NC K a) :=
 F.okF (R9 K a) K9 Mq Mp λ_ _ _ _ _ E hr hx=>(AR (A8 1 K9.nd (CF AJ))
   (AR (A8 2 K9.nd (CF AJ))
   (AR (A8 3 K9.nd nH)
   (AR (FC hx.po rfl (IR rfl T.KA (AE (B0 (AB 0) rfl) AJ)) (HK rfl (D4 (EW 4 K9.nd) (D4 (EW 5 K9.nd) HJ))) (AX (CD (A4 HL (AB 5) CV (A0 _)) (AR (CD (A4 FS (AL AM (B0 (AB 0) rfl) (AL AM (AB 5) AG (λ_ _=>rfl)) (λ_ _=>rfl)) CV (A0 _)) (AX (DK (FT PySem.F.plainAttrs_list PySem.F.slot_list_append PySem.F.type_list_append HP (AB 1) (AE (B8 (AE BY (AE (AB 4) AJ))) AJ)))) CN)
   (AR (CD (j5 (nB (W1 hr) (AL AM (AB 5) AG (λ_ _=>rfl)) (AB 3)) (by with_unfolding_all rfl)) (AX (DK (FT PySem.F.plainAttrs_list PySem.F.slot_list_append PySem.F.type_list_append HP (AB 2) (AE (B8 (AE BY (AE (AB 4) AJ))) AJ)))) CN)
   (AX (nD (W1 hr) (AB 3) (AL AM (AB 5) AG (λ_ _=>rfl)) HH rfl)))) CN)))
   (AX (BE (AT BL (AB 1) (AB 2))))))))
abbrev ID:Stmt:=BK 11
theorem jB:FnScope ["view","marked"] ["view"] (AO ID):=.go
theorem Vb(T:Txt K mg a)(F:Fun K "left_pieces" "left_pieces" ID f fd)  :
  FP P w K mg base 1 f fd ["view"] (NG K a) :=
 F.okF (SA K a) jB Lq Lp λ_ _ _ _ _ E hr hx=>(AR (DZ (i:=1) (tn:=["piece","mark"]) (cn:=[]) (cap:=[]) (B2 (outer:=AO ID) (N:=["view","marked"]) rfl rfl (by decide +kernel)) rfl jB.nd rfl rfl (IR rfl T.KA (AE (B0 (AB 0) rfl) AJ)) (λ_ _ _ _ _ _=>(HK rfl (D4 (BP (i:=0) (show(["piece","mark"]:List Str).Nodup from by decide +kernel) rfl (Or.inl rfl)) (D4 (BP (i:=1) (show(["piece","mark"]:List Str).Nodup from by decide +kernel) rfl (Or.inl rfl)) HJ)))) (λ_ _ _ _ _ _=>(CW (A4 (CM hr.units) (AB 1) AG (A0 _)))) (λ_ _ _ _ _ _=>(AB 0)))
   (AX (BE (DB (tn:=["piece"]) (cn:=["view"]) (cap:=[0]) (B2 (outer:=AO ID) (N:=["view","marked"]) rfl rfl (by decide +kernel)) rfl (DM (AB 1)) (λ_ _ _ _ _ _=>(BP (i:=0) (show(["piece","view"]:List Str).Nodup from by decide +kernel) rfl (Or.inl rfl))) (λ_ _ _ _ _ _=>(CW (A4 (CM hr.units) (AL AM (B0 (AB 1) rfl) (AB 0) (λ_ _=>rfl)) AG (A0 _)))) (λ_ _ _ _ _ _=>(B8 (AE BY (AE BY (AE (AB 0) AJ)))))))))
abbrev IE:Stmt:=BK 12
theorem jC:FnScope ["view","marked"] ["view"] (AO IE):=.go
theorem Vc(T:Txt K mg a)(F:Fun K "marked_records" "marked_records" IE f fd)  :
  FP P w K mg base 1 f fd ["view"] (NH K a) :=
 F.okF (SB K a) jC Lw Lv λ_ _ _ _ _ E hr hx=>(AR (DZ (i:=1) (tn:=["record","mark"]) (cn:=[]) (cap:=[]) (B2 (outer:=AO IE) (N:=["view","marked"]) rfl rfl (by decide +kernel)) rfl jC.nd rfl rfl (IR rfl T.KA (AE (B0 (AB 0) rfl) AJ)) (λ_ _ _ _ _ _=>(HK rfl (D4 (BP (i:=0) (show(["record","mark"]:List Str).Nodup from by decide +kernel) rfl (Or.inl rfl)) (D4 (BP (i:=1) (show(["record","mark"]:List Str).Nodup from by decide +kernel) rfl (Or.inl rfl)) HJ)))) (λ_ _ _ _ _ _=>(CW (A4 (CM hr.units) (AB 1) AG (A0 _)))) (λ_ _ _ _ _ _=>(AB 0)))
   (AX (BE (DB (tn:=["record"]) (cn:=["view"]) (cap:=[0]) (B2 (outer:=AO IE) (N:=["view","marked"]) rfl rfl (by decide +kernel)) rfl (DM (AB 1)) (λ_ _ _ _ _ _=>(BP (i:=0) (show(["record","view"]:List Str).Nodup from by decide +kernel) rfl (Or.inl rfl))) (λ_ _ _ _ _ _=>(CW (A4 FS (AL AM (B0 (AB 1) rfl) (AB 0) (λ_ _=>rfl)) CV (A0 _)))) (λ_ _ _ _ _ _=>(B8 (AE BY (AE (AB 0) AJ))))))))
abbrev JR:Stmt:=BK 14
theorem UL:FnScope ["many","numbers","counts","number"] ["many","numbers"] (AO JR):=.go
theorem Vd(T:Txt K mg a)(F:Fun K "tally" "tally" JR f fd)  :
  FP P w K mg base 1 f fd ["many","numbers"] (IV K a) :=
 F.okF (SC K a) UL My Mx λ_ _ _ _ _ E hr hx=>(AR (DZ (i:=2) (tn:=["k"]) (cn:=[]) (cap:=[]) (B2 (outer:=AO JR) (N:=["many","numbers","counts","number"]) rfl rfl (by decide +kernel)) rfl UL.nd rfl rfl (DH rfl T.DE (AE (AB 0) AJ)) (λ_ _ _ _ _ _=>(BP (i:=0) (show(["k"]:List Str).Nodup from by decide +kernel) rfl (Or.inl rfl))) (λ_ _ _ _ _ _=>EI) (λ_ _ _ _ _ _=>AG))
   (AR (FC hx.po rfl (DM (AB 1)) (EW 3 UL.nd) (AX (t9 (AB 2) (AB 3) AG VT)))
   (AX (BE (AB 2)))))
abbrev LA:Stmt:=BK 15
theorem UM:FnScope ["records","pieces","value"] ["records"] (AO LA):=.go
theorem Vg(T:Txt K mg a)(F:Fun K "pieces_in" "pieces_in" LA f fd)  :
  FP P w K mg base 1 f fd ["records"] (KP K a) :=
 F.okF (SD K a) UM Nb Mz λ_ _ _ _ _ E hr hx=>(AR (A8 1 UM.nd (CF AJ))
   (AR (FC hx.po rfl (DM (AB 0)) (EW 2 UM.nd) (AX (CD (A4 HL (AB 2) CV (A0 _)) (AX (DK (FT PySem.F.plainAttrs_list PySem.F.slot_list_extend PySem.F.type_list_extend uB (AB 1) (AE (AL AM (AB 2) AG (λ_ _=>rfl)) AJ)))) CN)))
   (AX (BE (AB 1)))))
abbrev JS:Stmt:=DR (BK 20) 0
theorem Vh:FnScope ["self","blocks","cells"] ["self","blocks","cells"] (AO JS):=.go
theorem Vj(T:Txt K mg a)(F:Fun K "__init__" "Plank.__init__" JS f fd)  :
  FP P w K mg base 1 f fd ["self","blocks","cells"] (MW K a) :=
 F.okF (SE K a) Vh Hz Hm λ_ _ _ _ _ E hr hx=>(AR (EA (AB 0) (DB (tn:=["block"]) (cn:=["cells"]) (cap:=[2]) (B2 (outer:=AO JS) (N:=["self","blocks","cells"]) rfl rfl (by decide +kernel)) rfl (DH rfl T.DE (AE (AB 1) AJ)) (λ_ _ _ _ _ _=>(BP (i:=0) (show(["block","cells"]:List Str).Nodup from by decide +kernel) rfl (Or.inl rfl))) (λ_ _ _ _ _ _=>EI) (λ_ _ _ _ _ _=>(AT EJ (B8 (AE CV AJ)) (AB 1)))) rfl)
   (AR (EA (AB 0) (AB 2) rfl)
   (AX (EA (AB 0) AG rfl))))
abbrev LB:Stmt:=DR (BK 20) 6
theorem Vk:FnScope ["self","block"] ["self","block"] (AO LB):=.go
theorem Vl(T:Txt K mg a)(F:Fun K "ask_for_block" "Plank.ask_for_block" LB f fd)  :
  FP P w K mg base 1 f fd ["self","block"] (G4 K a) :=
 F.okF (SF K a) Vk Jb Hq λ_ _ _ _ _ E hr hx=>(AX (CD (VC (kZ oP O4 AG (AB 1) (B9 CH rfl T.CI (by rfl) (AE (B0 (AB 0) rfl) AJ)))) (AX (XF hx T.jM rfl T.jL (AE BY AJ))) CN))
abbrev LC:Stmt:=DR (BK 22) 0
theorem Vm:FnScope ["self","names","records","pieces","cells"] ["self","names","records","pieces","cells"] (AO LC):=.go
theorem Vp(T:Txt K mg a)(F:Fun K "__init__" "Layout.__init__" LC f fd)  :
  FP P w K mg base 1 f fd ["self","names","records","pieces","cells"] (KN K a) :=
 F.okF (SG K a) Vm Kb Jj λ_ _ _ _ _ E hr hx=>(AR (EA (AB 0) (AB 1) rfl)
   (AR (EA (AB 0) (AB 2) rfl)
   (AR (EA (AB 0) (AB 3) rfl)
   (AX (EA (AB 0) (AB 4) rfl)))))
abbrev LD:Stmt:=DR (BK 22) 6
theorem Vq:FnScope ["self"] ["self"] (AO LD):=.go
theorem Vv(T:Txt K mg a)(F:Fun K "counts" "Layout.counts" LD f fd)  :
  FP P w K mg base 1 f fd ["self"] (M8 K a) :=
 F.okF (SH K a) Vq Kp Jy λ_ _ _ _ _ E hr hx=>(AX (BE (B8 (AE (AT EJ (B0 (AB 0) rfl) (B0 (AB 0) rfl)) (AE (AT EJ (B0 (AB 0) rfl) (B0 (AB 0) rfl)) (AE (AT EJ (B0 (AB 0) rfl) (B0 (AB 0) rfl)) AJ))))))
abbrev LE:Stmt:=DR (BK 22) 9
theorem Vx:FnScope ["self"] ["self"] (AO LE):=.go
theorem Vy(T:Txt K mg a)(F:Fun K "blocks_ahead_of_marks" "Layout.blocks_ahead_of_marks" LE f fd)  :
  FP P w K mg base 1 f fd ["self"] (G5 K a) :=
 F.okF (SI K a) Vx Kl Jw λ_ _ _ _ _ E hr hx=>(AX (BE (AT BL (AT BL (B0 (AB 0) rfl) (B0 (AB 0) rfl)) (B0 (AB 0) rfl))))
abbrev LF:Stmt:=DR (BK 22) 10
theorem Vz:FnScope ["self","block","k"] ["self","block","k"] (AO LF):=.go
theorem Wb(T:Txt K mg a)(F:Fun K "place_from" "Layout.place_from" LF f fd)  :
  FP P w K mg base 1 f fd ["self","block","k"] (EX K a) :=
 F.okF (SJ K a) Vz Kc Jk λ_ _ _ _ _ E hr hx=>(AX (BE (B8 (AE (AT BL (AB 1) (AT FD (AB 2) (B0 (AB 0) rfl))) (AE (AT BO (AB 2) (B0 (AB 0) rfl)) AJ)))))
abbrev LG:Stmt:=BK 24
theorem Wc:FnScope ["script","k"] ["script","k"] (AO LG):=.go
theorem Wd(T:Txt K mg a)(F:Fun K "_law_cell_at" "_law_cell_at" LG f fd)  :
  FP P w K mg base 1 f fd ["script","k"] (G6 K a) :=
 F.okF (SK K a) Wc Jh Jg λ_ _ _ _ _ E hr hx=>(AR (CD (A4 O4 (AB 1) (B9 CH rfl T.CI (by rfl) (AE (AB 0) AJ)) (A0 _)) (AX (BE (AL AM (AB 0) (AB 1) (λ_ _=>rfl)))) CN)
   (AX (BE AG)))
abbrev LH:Stmt:=BK 25
theorem JT:FnScope ["cell","many","here","there","found","k"] ["cell","many"] (AO LH):=.go
theorem Wg(T:Txt K mg a)(F:Fun K "_law_spun" "_law_spun" LH f fd)  :
  FP P w K mg base 1 f fd ["cell","many"] (E5 K a) :=
 F.okF (SL K a) JT Pg Pd λ_ _ _ _ _ E hr hx=>(AR (A8 2 JT.nd (AT BL (AT BO (AB 0) AG) AG))
   (AR (A8 3 JT.nd (AT BL (AT BO (AT FD (AB 0) AG) AG) AG))
   (AR (A8 4 JT.nd (CF AJ))
   (AR (FC hx.po rfl (DH rfl T.DE (AE (AB 1) AJ)) (EW 5 JT.nd) (AR (A8 2 JT.nd (AT BO (AT BL (AT EJ (AB 2) AG) (AB 3)) AG))
   (AR (A8 3 JT.nd (AT BO (AT BL (AT BL (AT EJ (AB 3) AG) (AT EJ (AB 2) (AB 2))) (AB 5)) AG))
   (AX (DK (FT PySem.F.plainAttrs_list PySem.F.slot_list_append PySem.F.type_list_append HP (AB 4) (AE (AT BL (AB 2) (AB 3)) AJ)))))))
   (AX (BE (AB 4)))))))
abbrev LI:Stmt:=BK 29
theorem UN:FnScope ["view","led","cell"] ["view"] (AO LI):=.go
theorem Wh(T:Txt K mg a)(F:Fun K "_law_led" "_law_led" LI f fd)  :
  FP P w K mg base 1 f fd ["view"] (G8 K a) :=
 F.okF (SM K a) UN Rb Qz λ_ _ _ _ _ E hr hx=>(AR (A8 1 UN.nd (AT EJ (CF (AE AG AJ)) (B9 CH rfl T.CI (by rfl) (AE (AL AM (AB 0) AG (λ_ _=>rfl)) AJ))))
   (AR (FC hx.po rfl (DM (AL AM (AB 0) AG (λ_ _=>rfl))) (EW 2 UN.nd) (AX (CD (A4 HL (AB 2) CV (A0 _)) (AX (DG (AT BL (AL AM (AB 1) (AL AM (AB 2) AG (λ_ _=>rfl)) (λ_ _=>rfl)) AG) (DF (AB 1) (AL AM (AB 2) AG (λ_ _=>rfl)) DC))) CN)))
   (AX (BE (AB 1)))))
abbrev JU:Stmt:=BK 30
theorem Wj:FnScope ["view"] ["view"] (AO JU):=.go
theorem Wk(T:Txt K mg a)(F:Fun K "_law_free_names" "_law_free_names" JU f fd)  :
  FP P w K mg base 1 f fd ["view"] (E6 K a) :=
 F.okF (SN K a) Wj Qq Qp λ_ _ _ _ _ E hr hx=>(AX (BE (DB (tn:=["k"]) (cn:=["view"]) (cap:=[0]) (B2 (outer:=AO JU) (N:=["view"]) rfl rfl (by decide +kernel)) rfl (DH rfl T.DE (AE (B9 CH rfl T.CI (by rfl) (AE (AL AM (AB 0) AG (λ_ _=>rfl)) AJ)) AJ)) (λ_ _ _ _ _ _=>(BP (i:=0) (show(["k","view"]:List Str).Nodup from by decide +kernel) rfl (Or.inl rfl))) (λ_ _ _ _ _ _=>(CW (A4 FS (AL AM (AL AM (AB 1) AG (λ_ _=>rfl)) (AB 0) (λ_ _=>rfl)) CV (A0 _)))) (λ_ _ _ _ _ _=>(AB 0)))))
abbrev JV:Stmt:=BK 31
theorem Wl:FnScope ["view"] ["view"] (AO JV):=.go
theorem Wm(T:Txt K mg a)(F:Fun K "_law_free_records" "_law_free_records" JV f fd)  :
  FP P w K mg base 1 f fd ["view"] (JC K a) :=
 F.okF (SO K a) Wl Qw Qv λ_ _ _ _ _ E hr hx=>(AX (BE (DB (tn:=["r"]) (cn:=["view"]) (cap:=[0]) (B2 (outer:=AO JV) (N:=["view"]) rfl rfl (by decide +kernel)) rfl (DH rfl T.DE (AE (B9 CH rfl T.CI (by rfl) (AE (AL AM (AB 0) AG (λ_ _=>rfl)) AJ)) AJ)) (λ_ _ _ _ _ _=>(BP (i:=0) (show(["r","view"]:List Str).Nodup from by decide +kernel) rfl (Or.inl rfl))) (λ_ _ _ _ _ _=>(CW (PW.pt (GY (A4 FS (AL AM (AL AM (AB 1) AG (λ_ _=>rfl)) (AB 0) (λ_ _=>rfl)) CV (A0 _)) (GX (A4 FS (AL AM (AL AM (AB 1) AG (λ_ _=>rfl)) (AB 0) (λ_ _=>rfl)) CV (A0 _))))))) (λ_ _ _ _ _ _=>(AB 0)))))
abbrev JW:Stmt:=BK 32
theorem Wp:FnScope ["view"] ["view"] (AO JW):=.go
theorem Wq(T:Txt K mg a)(F:Fun K "_law_free_pieces" "_law_free_pieces" JW f fd)  :
  FP P w K mg base 1 f fd ["view"] (JD K a) :=
 F.okF (SQ K a) Wp Qy Qx λ_ _ _ _ _ E hr hx=>(AX (BE (DB (tn:=["p"]) (cn:=["view"]) (cap:=[0]) (B2 (outer:=AO JW) (N:=["view"]) rfl rfl (by decide +kernel)) rfl (DH rfl T.DE (AE (B9 CH rfl T.CI (by rfl) (AE (AL AM (AB 0) AG (λ_ _=>rfl)) AJ)) AJ)) (λ_ _ _ _ _ _=>(BP (i:=0) (show(["p","view"]:List Str).Nodup from by decide +kernel) rfl (Or.inl rfl))) (λ_ _ _ _ _ _=>(CW (PW.pt (GY (A4 FS (AL AM (AL AM (AB 1) AG (λ_ _=>rfl)) (AB 0) (λ_ _=>rfl)) CV (A0 _)) (GX (A4 FS (AL AM (AL AM (AB 1) AG (λ_ _=>rfl)) (AB 0) (λ_ _=>rfl)) CV (A0 _))))))) (λ_ _ _ _ _ _=>(AB 0)))))
abbrev JX:Stmt:=BK 40
theorem Wv:FnScope ["view"] ["view"] (AO JX):=.go
theorem Ww(T:Txt K mg a)(F:Fun K "_law_copy" "_law_copy" JX f fd)  :
  FP P w K mg base 1 f fd ["view"] (NQ K a) :=
 F.okF (SR K a) Wv Sz Sy λ_ _ _ _ _ E hr hx=>(AX (BE (DB (tn:=["part"]) (cn:=[]) (cap:=[]) (B2 (outer:=AO JX) (N:=["view"]) rfl rfl (by decide +kernel)) rfl (DM (AB 0)) (λ_ _ _ _ _ _=>(BP (i:=0) (show(["part"]:List Str).Nodup from by decide +kernel) rfl (Or.inl rfl))) (λ_ _ _ _ _ _=>EI) (λ_ _ _ _ _ _=>(GZ O7 rfl T.OF (by rfl) (AE (AB 0) AJ))))))
abbrev HB:Stmt:=BK 7
theorem PY:FnScope ["view","shared","empty","few"] ["view"] (AO HB):=.go
theorem Wx(T:Txt K mg a)(F:Fun K "faults_of_things" "faults_of_things" HB f fd)(QD:CT P w K mg base (a "View") 1 "pieces_named" ["self"] (HY K a))(U4:CT P w K mg base (a "View") 1 "records_standing" ["self"] (IW K a))(U3:CT P w K mg base (a "View") 1 "count_of" ["self","record"] (IX K a)) :
  FP P w K mg base 2 f fd ["view"] (ND K a) :=
 F.okF (SS K a) PY Mh Mg λ_ _ _ _ _ E hr hx=>(AR (DZ (i:=1) (tn:=["piece"]) (cn:=["view"]) (cap:=[0]) (B2 (outer:=AO HB) (N:=["view","shared","empty","few"]) rfl rfl (by decide +kernel)) rfl PY.nd rfl rfl (DM (FH (AB 0) T.HG QD hr.m hx.passes)) (λ_ _ _ _ _ _=>(BP (i:=0) (show(["piece","view"]:List Str).Nodup from by decide +kernel) rfl (Or.inl rfl))) (λ_ _ _ _ _ _=>(CW (A4 HS (AL AM (B0 (AB 1) rfl) (AB 0) (λ_ _=>rfl)) AG (A0 _)))) (λ_ _ _ _ _ _=>(B8 (AE BY (AE (AB 0) AJ)))))
   (AR (DZ (i:=2) (tn:=["piece"]) (cn:=["view"]) (cap:=[0]) (B2 (outer:=AO HB) (N:=["view","shared","empty","few"]) rfl rfl (by decide +kernel)) rfl PY.nd rfl rfl (DM (FH (AB 0) T.HG QD hr.m hx.passes)) (λ_ _ _ _ _ _=>(BP (i:=0) (show(["piece","view"]:List Str).Nodup from by decide +kernel) rfl (Or.inl rfl))) (λ_ _ _ _ _ _=>(CW (A4 FS (AL AM (B0 (AB 1) rfl) (AB 0) (λ_ _=>rfl)) CV (A0 _)))) (λ_ _ _ _ _ _=>(B8 (AE BY (AE (AB 0) AJ)))))
   (AR (DZ (i:=3) (tn:=["record"]) (cn:=["view"]) (cap:=[0]) (B2 (outer:=AO HB) (N:=["view","shared","empty","few"]) rfl rfl (by decide +kernel)) rfl PY.nd rfl rfl (DM (FH (AB 0) T.HG U4 hr.m hx.passes)) (λ_ _ _ _ _ _=>(BP (i:=0) (show(["record","view"]:List Str).Nodup from by decide +kernel) rfl (Or.inl rfl))) (λ_ _ _ _ _ _=>(CW (A4 O4 (D7 (AB 1) T.HG U3 hr.m IL (AE (AB 0) AJ)) (AL AM (B0 (AB 1) rfl) (AB 0) (λ_ _=>rfl)) (A0 _)))) (λ_ _ _ _ _ _=>(B8 (AE BY (AE (AB 0) AJ)))))
   (AX (BE (AT BL (AT BL (AB 1) (AB 2)) (AB 3)))))))
abbrev HC:Stmt:=BK 8
theorem PZ:FnScope ["view","led_to","records","pieces"] ["view"] (AO HC):=.go
theorem Wy(T:Txt K mg a)(F:Fun K "faults_of_marks" "faults_of_marks" HC f fd)(QD:CT P w K mg base (a "View") 1 "pieces_named" ["self"] (HY K a)) :
  FP P w K mg base 2 f fd ["view"] (NE K a) :=
 F.okF (ST K a) PZ Md Mc λ_ _ _ _ _ E hr hx=>(AR (DZ (i:=1) (tn:=["record","many"]) (cn:=[]) (cap:=[]) (B2 (outer:=AO HC) (N:=["view","led_to","records","pieces"]) rfl rfl (by decide +kernel)) rfl PZ.nd rfl rfl (IR rfl T.KA (AE (B0 (AB 0) rfl) AJ)) (λ_ _ _ _ _ _=>(HK rfl (D4 (BP (i:=0) (show(["record","many"]:List Str).Nodup from by decide +kernel) rfl (Or.inl rfl)) (D4 (BP (i:=1) (show(["record","many"]:List Str).Nodup from by decide +kernel) rfl (Or.inl rfl)) HJ)))) (λ_ _ _ _ _ _=>(CW (A4 HS (AB 1) AG (A0 _)))) (λ_ _ _ _ _ _=>(AB 0)))
   (AR (DZ (i:=2) (tn:=["record"]) (cn:=["view"]) (cap:=[0]) (B2 (outer:=AO HC) (N:=["view","led_to","records","pieces"]) rfl rfl (by decide +kernel)) rfl PZ.nd rfl rfl (DM (AB 1)) (λ_ _ _ _ _ _=>(BP (i:=0) (show(["record","view"]:List Str).Nodup from by decide +kernel) rfl (Or.inl rfl))) (λ_ _ _ _ _ _=>(CW (A4 (GG hr.units) (AL AM (B0 (AB 1) rfl) (AB 0) (λ_ _=>rfl)) AG (A0 _)))) (λ_ _ _ _ _ _=>(B8 (AE BY (AE BY (AE (AB 0) AJ))))))
   (AR (DZ (i:=3) (tn:=["piece"]) (cn:=["view"]) (cap:=[0]) (B2 (outer:=AO HC) (N:=["view","led_to","records","pieces"]) rfl rfl (by decide +kernel)) rfl PZ.nd rfl rfl (DM (FH (AB 0) T.HG QD hr.m hx.passes)) (λ_ _ _ _ _ _=>(BP (i:=0) (show(["piece","view"]:List Str).Nodup from by decide +kernel) rfl (Or.inl rfl))) (λ_ _ _ _ _ _=>(CW (A4 (GG hr.units) (AL AM (B0 (AB 1) rfl) (AB 0) (λ_ _=>rfl)) AG (A0 _)))) (λ_ _ _ _ _ _=>(B8 (AE BY (AE BY (AE (AB 0) AJ))))))
   (AX (BE (AT BL (AB 2) (AB 3)))))))
abbrev LJ:Stmt:=BK 10
theorem N5:FnScope ["view","many","left","record","leads"] ["view"] (AO LJ):=.go
theorem Wz(T:Txt K mg a)(F:Fun K "leavings_of_records" "leavings_of_records" LJ f fd)(U4:CT P w K mg base (a "View") 1 "records_standing" ["self"] (IW K a))(U3:CT P w K mg base (a "View") 1 "count_of" ["self","record"] (IX K a)) :
  FP P w K mg base 2 f fd ["view"] (NF K a) :=
 F.okF (SU K a) N5 Mm Ml λ_ _ _ _ _ E hr hx=>(AR (A8 1 N5.nd (CF AJ))
   (AR (A8 2 N5.nd (CF AJ))
   (AR (FC hx.po rfl (DM (FH (AB 0) T.HG U4 hr.m hx.passes)) (EW 3 N5.nd) (AR (A8 4 N5.nd (AL AM (B0 (AB 0) rfl) (AB 3) (λ_ _=>rfl)))
   (AX (CD (A4 (CM hr.units) (AB 4) AG (A0 _)) (AX (DK (FT PySem.F.plainAttrs_list PySem.F.slot_list_append PySem.F.type_list_append HP (AB 2) (AE (B8 (AE BY (AE BY (AE (AB 3) AJ)))) AJ)))) (AX (CD (A4 HS (D7 (AB 0) T.HG U3 hr.m hx.passes (AE (AB 3) AJ)) (AB 4) (A0 _)) (AX (DK (FT PySem.F.plainAttrs_list PySem.F.slot_list_append PySem.F.type_list_append HP (AB 1) (AE (B8 (AE BY (AE (AB 3) (AE (AB 4) AJ)))) AJ)))) CN))))))
   (AX (BE (AT BL (AB 1) (AB 2)))))))
abbrev LK:Stmt:=DR (BK 20) 4
theorem Xb:FnScope ["self","block"] ["self","block"] (AO LK):=.go
theorem Xc(T:Txt K mg a)(F:Fun K "read" "Plank.read" LK f fd)(U2:CT P w K mg base (a "Plank") 1 "ask_for_block" ["self","block"] (G4 K a)) :
  FP P w K mg base 2 f fd ["self","block"] (MX K a) :=
 F.okF (SV K a) Xb Jc Hv λ_ _ _ _ _ E hr hx=>(AR (DK (D7 (AB 0) T.OG U2 hr.m hx.passes (AE (AB 1) AJ)))
   (AX (BE (GZ O7 rfl T.OF (by rfl) (AE (AL AM (B0 (AB 0) rfl) (AB 1) (λ_ _=>rfl)) AJ)))))
abbrev LM:Stmt:=DR (BK 20) 5
theorem Xd:FnScope ["self","block","values"] ["self","block","values"] (AO LM):=.go
theorem Xg(T:Txt K mg a)(F:Fun K "write" "Plank.write" LM f fd)(U2:CT P w K mg base (a "Plank") 1 "ask_for_block" ["self","block"] (G4 K a)) :
  FP P w K mg base 2 f fd ["self","block","values"] (MY K a) :=
 F.okF (SW K a) Xd Jd Hw λ_ _ _ _ _ E hr hx=>(AR (DK (D7 (AB 0) T.OG U2 hr.m hx.passes (AE (AB 1) AJ)))
   (AR (CD (A4 (GG hr.units) (B9 CH rfl T.CI (by rfl) (AE (AB 2) AJ)) (B0 (AB 0) rfl) (A0 _)) (AX (XF hx T.jM rfl T.jL (AE BY AJ))) CN)
   (AR (DG (GZ XI rfl T.jK (by rfl) (AE (AB 2) AJ)) (DF (B0 (AB 0) rfl) (AB 1) DC))
   (AX (lK (AB 0) AG VT)))))
abbrev LN:Stmt:=DR (BK 22) 1
theorem Xh:FnScope ["self","k"] ["self","k"] (AO LN):=.go
theorem Xj(T:Txt K mg a)(F:Fun K "name_at" "Layout.name_at" LN f fd)(HF:CT P w K mg base (a "Layout") 1 "place_from" ["self","block","k"] (EX K a)) :
  FP P w K mg base 2 f fd ["self","k"] (M0 K a) :=
 F.okF (SX K a) Xh Kd Jl λ_ _ _ _ _ E hr hx=>(AX (BE (D7 (AB 0) T.D3 HF hr.m hx.passes (AE AG (AE (AB 1) AJ)))))
abbrev LP:Stmt:=DR (BK 22) 2
theorem Xk:FnScope ["self","k"] ["self","k"] (AO LP):=.go
theorem Xl(T:Txt K mg a)(F:Fun K "record_at" "Layout.record_at" LP f fd)(HF:CT P w K mg base (a "Layout") 1 "place_from" ["self","block","k"] (EX K a)) :
  FP P w K mg base 2 f fd ["self","k"] (M3 K a) :=
 F.okF (SY K a) Xk Kg Jm λ_ _ _ _ _ E hr hx=>(AX (BE (D7 (AB 0) T.D3 HF hr.m hx.passes (AE (B0 (AB 0) rfl) (AE (AB 1) AJ)))))
abbrev LQ:Stmt:=DR (BK 22) 3
theorem Xm:FnScope ["self","k"] ["self","k"] (AO LQ):=.go
theorem Xp(T:Txt K mg a)(F:Fun K "piece_at" "Layout.piece_at" LQ f fd)(HF:CT P w K mg base (a "Layout") 1 "place_from" ["self","block","k"] (EX K a)) :
  FP P w K mg base 2 f fd ["self","k"] (M4 K a) :=
 F.okF (SZ K a) Xm Kh Jp λ_ _ _ _ _ E hr hx=>(AX (BE (D7 (AB 0) T.D3 HF hr.m hx.passes (AE (AT BL (B0 (AB 0) rfl) (B0 (AB 0) rfl)) (AE (AB 1) AJ)))))
abbrev LR:Stmt:=DR (BK 22) 4
theorem Xq:FnScope ["self","k"] ["self","k"] (AO LR):=.go
theorem Xv(T:Txt K mg a)(F:Fun K "record_mark" "Layout.record_mark" LR f fd)(OE:CT P w K mg base (a "Layout") 1 "blocks_ahead_of_marks" ["self"] (G5 K a))(HF:CT P w K mg base (a "Layout") 1 "place_from" ["self","block","k"] (EX K a)) :
  FP P w K mg base 2 f fd ["self","k"] (M5 K a) :=
 F.okF (S0 K a) Xq Kj Jq λ_ _ _ _ _ E hr hx=>(AX (BE (D7 (AB 0) T.D3 HF hr.m hx.passes (AE (FH (AB 0) T.D3 OE hr.m hx.passes) (AE (AB 1) AJ)))))
abbrev LS:Stmt:=DR (BK 22) 5
theorem Xw:FnScope ["self","k"] ["self","k"] (AO LS):=.go
theorem Xx(T:Txt K mg a)(F:Fun K "piece_mark" "Layout.piece_mark" LS f fd)(OE:CT P w K mg base (a "Layout") 1 "blocks_ahead_of_marks" ["self"] (G5 K a))(HF:CT P w K mg base (a "Layout") 1 "place_from" ["self","block","k"] (EX K a)) :
  FP P w K mg base 2 f fd ["self","k"] (M6 K a) :=
 F.okF (S1 K a) Xw Kk Jv λ_ _ _ _ _ E hr hx=>(AX (BE (D7 (AB 0) T.D3 HF hr.m hx.passes (AE (AT BL (FH (AB 0) T.D3 OE hr.m hx.passes) (B0 (AB 0) rfl)) (AE (AB 1) AJ)))))
abbrev LT:Stmt:=DR (BK 22) 7
theorem Xy:FnScope ["self"] ["self"] (AO LT):=.go
theorem Xz(T:Txt K mg a)(F:Fun K "blocks" "Layout.blocks" LT f fd)(OE:CT P w K mg base (a "Layout") 1 "blocks_ahead_of_marks" ["self"] (G5 K a)) :
  FP P w K mg base 2 f fd ["self"] (M7 K a) :=
 F.okF (S2 K a) Xy Km Jx λ_ _ _ _ _ E hr hx=>(AX (BE (AT BL (AT BL (FH (AB 0) T.D3 OE hr.m hx.passes) (B0 (AB 0) rfl)) (B0 (AB 0) rfl))))
abbrev JY:Stmt:=BK 26
theorem FM:FnScope ["cell","many","letters","xs","size","first","second","names","k","word","j","step"] ["cell","many"] (AO JY):=.go
theorem Yb(T:Txt K mg a)(F:Fun K "_law_names" "_law_names" JY f fd)(HE:BJ P w K mg base (1) "_law_spun" ["cell","many"] (E5 K a)) :
  FP P w K mg base 2 f fd ["cell","many"] (NK K a) :=
 F.okF (S3 K a) FM Sq Sm λ_ _ _ _ _ E hr hx=>(AR (FQ (i:=2) FM.nd rfl (Or.inr rfl) BY)
   (AR (FQ (i:=3) FM.nd rfl (Or.inr rfl) (A5 HE hr.m hx.passes rfl (AE (AT FD (AB 0) AG) (AE AG AJ))))
   (AR (CD (A4 (CM hr.units) (AT BO (AB 0) AG) AG (A0 _)) (AX (BE (DB (tn:=["k"]) (cn:=["letters","xs"]) (cap:=[2,3]) (B2 (outer:=AO JY) (N:=["cell","many","letters","xs","size","first","second","names","k","word","j","step"]) rfl rfl (by decide +kernel)) rfl (DH rfl T.DE (AE (AB 1) AJ)) (λ_ _ _ _ _ _=>(BP (i:=0) (show(["k","letters","xs"]:List Str).Nodup from by decide +kernel) rfl (Or.inl rfl))) (λ_ _ _ _ _ _=>EI) (λ_ _ _ _ _ _=>(AT EJ (AL AM (AB 1) (AT BO (AT BL (AL AM (AB 2) AG (λ_ _=>rfl)) (AT FD (AB 0) AG)) AG) (λ_ _=>rfl)) (AT BL AG (AT BO (AB 0) AG))))))) CN)
   (AR (A8 4 FM.nd (AT BL AG (AT BO (AL AM (AB 3) AG (λ_ _=>rfl)) AG)))
   (AR (A8 5 FM.nd (AT BO (AL AM (AB 3) AG (λ_ _=>rfl)) (AB 4)))
   (AR (A8 6 FM.nd (AT BO (AT BL (AT BL (AB 5) AG) (AT BO (AL AM (AB 3) AG (λ_ _=>rfl)) (AT OV (AB 4) AG))) (AB 4)))
   (AR (A8 7 FM.nd (CF AJ))
   (AR (FC hx.po rfl (DH rfl T.DE (AE (AB 1) AJ)) (EW 8 FM.nd) (AR (A8 9 FM.nd BY)
   (AR (FC hx.po rfl (DH rfl T.DE (AE (AB 4) AJ)) (EW 10 FM.nd) (AR (A8 11 FM.nd (AT BL (AT EJ (AB 8) (GZ QP rfl T.U6 (by rfl) (AE (KF (CM hr.units) (AB 10) (AB 5) (A0 _)) AJ))) (AT EJ (AT FD (AB 8) AG) (GZ QP rfl T.U6 (by rfl) (AE (KF (CM hr.units) (AB 10) (AB 6) (A0 _)) AJ)))))
   (AX (A8 9 FM.nd (AT BL (AB 9) (AL AM (AB 2) (AT BO (AT BL (AL AM (AB 3) (AT BL AG (AB 10)) (λ_ _=>rfl)) (AB 11)) AG) (λ_ _=>rfl)))))))
   (AX (DK (FT PySem.F.plainAttrs_list PySem.F.slot_list_append PySem.F.type_list_append HP (AB 7) (AE (AB 9) AJ)))))))
   (AX (BE (AB 7)))))))))))
abbrev JZ:Stmt:=BK 27
theorem LU:FnScope ["cell","signs","xs","size"] ["cell"] (AO JZ):=.go
theorem Yc(T:Txt K mg a)(F:Fun K "_law_text" "_law_text" JZ f fd)(HE:BJ P w K mg base (1) "_law_spun" ["cell","many"] (E5 K a)) :
  FP P w K mg base 2 f fd ["cell"] (JB K a) :=
 F.okF (S5 K a) LU Pl Pk λ_ _ _ _ _ E hr hx=>(AR (FQ (i:=1) LU.nd rfl (Or.inr rfl) BY)
   (AR (FQ (i:=1) LU.nd rfl (Or.inr rfl) (AT BL (AB 1) BY))
   (AR (FQ (i:=2) LU.nd rfl (Or.inr rfl) (A5 HE hr.m hx.passes rfl (AE (AB 0) (AE AG AJ))))
   (AR (A8 3 LU.nd (AT BL AG (AT BO (AL AM (AB 2) AG (λ_ _=>rfl)) AG)))
   (AR (CD (A4 (CM hr.units) (AT BO (AT FD (AL AM (AB 2) AG (λ_ _=>rfl)) AG) AG) AG (A0 _)) (AX (A8 3 LU.nd AG)) CN)
   (AX (BE (FT PySem.F.plainAttrs_str PySem.F.slot_str_join PySem.F.type_str_join tQ BY (AE (DB (tn:=["k"]) (cn:=["signs","xs"]) (cap:=[1,2]) (B2 (outer:=AO JZ) (N:=["cell","signs","xs","size"]) rfl rfl (by decide +kernel)) rfl (DH rfl T.DE (AE (AB 3) AJ)) (λ_ _ _ _ _ _=>(BP (i:=0) (show(["k","signs","xs"]:List Str).Nodup from by decide +kernel) rfl (Or.inl rfl))) (λ_ _ _ _ _ _=>EI) (λ_ _ _ _ _ _=>(AL AM (AB 1) (AT BO (AT BL (AL AM (AB 2) AG (λ_ _=>rfl)) (AT EJ (AB 0) (AL AM (AB 2) AG (λ_ _=>rfl)))) AG) (λ_ _=>rfl)))) AJ)))))))))
abbrev LV:Stmt:=BK 28
theorem UO:FnScope ["cell","xs","most"] ["cell"] (AO LV):=.go
theorem Yd(T:Txt K mg a)(F:Fun K "_law_layout" "_law_layout" LV f fd)(HE:BJ P w K mg base (1) "_law_spun" ["cell","many"] (E5 K a)) :
  FP P w K mg base 2 f fd ["cell"] (NJ K a) :=
 F.okF (S7 K a) UO Pj Ph λ_ _ _ _ _ E hr hx=>(AR (A8 1 UO.nd (A5 HE hr.m hx.passes rfl (AE (AT FD (AB 0) AG) (AE AG AJ))))
   (AR (A8 2 UO.nd (j8 (A4 (CM hr.units) (AT BO (AT FD (AB 0) AG) AG) AG (A0 _)) AG AG))
   (AX (BE (B8 (AE (AT BL AG (AT BO (AL AM (AB 1) AG (λ_ _=>rfl)) (AB 2))) (AE (AT BL AG (AT BO (AL AM (AB 1) AG (λ_ _=>rfl)) (AB 2))) (AE (AT BL AG (AT BO (AL AM (AB 1) AG (λ_ _=>rfl)) (AB 2))) (AE (AT BL AG (AT BO (AB 0) AG)) AJ)))))))))
abbrev LX:Stmt:=BK 34
theorem UP:FnScope ["view","names","r","number","free","word"] ["view","names","r","number"] (AO LX):=.go
theorem Yg(T:Txt K mg a)(F:Fun K "_law_named" "_law_named" LX f fd)(HD:BJ P w K mg base (1) "_law_free_names" ["view"] (E6 K a)) :
  FP P w K mg base 2 f fd ["view","names","r","number"] (JE K a) :=
 F.okF (S8 K a) UP Rg Rc λ_ _ _ _ _ E hr hx=>(AR (A8 4 UP.nd (A5 HD hr.m hx.passes rfl (AE (AB 0) AJ)))
   (AR (A8 5 UP.nd (AL AM (AB 1) (AT OV (B9 CH rfl T.CI (by rfl) (AE (AL AM (AB 0) AG (λ_ _=>rfl)) AJ)) (B9 CH rfl T.CI (by rfl) (AE (AB 4) AJ))) (λ_ _=>rfl)))
   (AX (DG (B8 (AE (AB 5) (AE (AB 2) AJ))) (DF (AL AM (AB 0) AG (λ_ _=>rfl)) (AL AM (AB 4) (AT BO (AB 3) (B9 CH rfl T.CI (by rfl) (AE (AB 4) AJ))) (λ_ _=>rfl)) DC)))))
abbrev GC:Stmt:=BK 39
theorem LY:FnScope ["view","led","records","found"] ["view"] (AO GC):=.go
theorem Yh(T:Txt K mg a)(F:Fun K "_law_due" "_law_due" GC f fd)(OC:BJ P w K mg base (1) "_law_led" ["view"] (G8 K a)) :
  FP P w K mg base 2 f fd ["view"] (NP K a) :=
 F.okF (S9 K a) LY Rz Ry λ_ _ _ _ _ E hr hx=>(AR (FQ (i:=1) LY.nd rfl (Or.inr rfl) (A5 OC hr.m hx.passes rfl (AE (AB 0) AJ)))
   (AR (DZ (i:=2) (tn:=["r"]) (cn:=["view"]) (cap:=[0]) (B2 (outer:=AO GC) (N:=["view","led","records","found"]) rfl rfl (by decide +kernel)) rfl LY.nd rfl rfl (DH rfl T.DE (AE (B9 CH rfl T.CI (by rfl) (AE (AB 1) AJ)) AJ)) (λ_ _ _ _ _ _=>(BP (i:=0) (show(["r","view"]:List Str).Nodup from by decide +kernel) rfl (Or.inl rfl))) (λ_ _ _ _ _ _=>(CW (A4 HL (AL AM (AL AM (AB 1) AG (λ_ _=>rfl)) (AB 0) (λ_ _=>rfl)) CV (A0 _)))) (λ_ _ _ _ _ _=>(AB 0)))
   (AR (DZ (i:=3) (tn:=["r"]) (cn:=["led","view"]) (cap:=[1,0]) (B2 (outer:=AO GC) (N:=["view","led","records","found"]) rfl rfl (by decide +kernel)) rfl LY.nd rfl rfl (DM (AB 2)) (λ_ _ _ _ _ _=>(BP (i:=0) (show(["r","led","view"]:List Str).Nodup from by decide +kernel) rfl (Or.inl rfl))) (λ_ _ _ _ _ _=>(CW (PW.pt (GY (A4 HS (AL AM (AB 1) (AB 0) (λ_ _=>rfl)) AG (A0 _)) (GX (A4 HS (AL AM (AL AM (AL AM (AB 2) AG (λ_ _=>rfl)) (AB 0) (λ_ _=>rfl)) AG (λ_ _=>rfl)) (AL AM (AB 1) (AB 0) (λ_ _=>rfl)) (A0 _))))))) (λ_ _ _ _ _ _=>(B8 (AE BY (AE (AB 0) (AE (AL AM (AB 1) (AB 0) (λ_ _=>rfl)) AJ))))))
   (AR (A8 3 LY.nd (AT BL (AB 3) (DB (tn:=["r"]) (cn:=["led"]) (cap:=[1]) (B2 (outer:=AO GC) (N:=["view","led","records","found"]) rfl rfl (by decide +kernel)) rfl (DM (AB 2)) (λ_ _ _ _ _ _=>(BP (i:=0) (show(["r","led"]:List Str).Nodup from by decide +kernel) rfl (Or.inl rfl))) (λ_ _ _ _ _ _=>(CW (A4 (CM hr.units) (AL AM (AB 1) (AB 0) (λ_ _=>rfl)) AG (A0 _)))) (λ_ _ _ _ _ _=>(B8 (AE BY (AE BY (AE (AB 0) AJ))))))))
   (AR (A8 3 LY.nd (AT BL (AB 3) (DB (tn:=["p"]) (cn:=[]) (cap:=[]) (B2 (outer:=AO GC) (N:=["view","led","records","found"]) rfl rfl (by decide +kernel)) rfl (DM (B9 (tZ rfl) rfl T.za8 (by rfl) (AE (AL AM (AB 0) AG (λ_ _=>rfl)) AJ))) (λ_ _ _ _ _ _=>(BP (i:=0) (show(["p"]:List Str).Nodup from by decide +kernel) rfl (Or.inl rfl))) (λ_ _ _ _ _ _=>EI) (λ_ _ _ _ _ _=>(B8 (AE BY (AE BY (AE (AB 0) AJ))))))))
   (AX (BE (AT BL (AB 3) (DB (tn:=["r"]) (cn:=["view"]) (cap:=[0]) (B2 (outer:=AO GC) (N:=["view","led","records","found"]) rfl rfl (by decide +kernel)) rfl (DH rfl T.DE (AE (B9 CH rfl T.CI (by rfl) (AE (AB 1) AJ)) AJ)) (λ_ _ _ _ _ _=>(BP (i:=0) (show(["r","view"]:List Str).Nodup from by decide +kernel) rfl (Or.inl rfl))) (λ_ _ _ _ _ _=>(CW (PW.pt (GY (A4 (CM hr.units) (AL AM (AL AM (AB 1) AG (λ_ _=>rfl)) (AB 0) (λ_ _=>rfl)) AG (A0 _)) (GX (A4 FS (AL AM (AL AM (AB 1) AG (λ_ _=>rfl)) (AB 0) (λ_ _=>rfl)) CV (A0 _))))))) (λ_ _ _ _ _ _=>(B8 (AE BY (AE (AB 0) AJ)))))))))))))
abbrev J0:Stmt:=BK 41
theorem N6:FnScope ["view","names","xs","free","records","k","r"] ["view","names","xs"] (AO J0):=.go
theorem Yj(T:Txt K mg a)(F:Fun K "_law_lost" "_law_lost" J0 f fd)(HD:BJ P w K mg base (1) "_law_free_names" ["view"] (E6 K a)) :
  FP P w K mg base 2 f fd ["view","names","xs"] (ER K a) :=
 F.okF (TB K a) N6 Tk Tj λ_ _ _ _ _ E hr hx=>(AR (A8 3 N6.nd (A5 HD hr.m hx.passes rfl (AE (AB 0) AJ)))
   (AR (DZ (i:=4) (tn:=["r"]) (cn:=["view"]) (cap:=[0]) (B2 (outer:=AO J0) (N:=["view","names","xs","free","records","k","r"]) rfl rfl (by decide +kernel)) rfl N6.nd rfl rfl (DH rfl T.DE (AE (B9 CH rfl T.CI (by rfl) (AE (AL AM (AB 0) AG (λ_ _=>rfl)) AJ)) AJ)) (λ_ _ _ _ _ _=>(BP (i:=0) (show(["r","view"]:List Str).Nodup from by decide +kernel) rfl (Or.inl rfl))) (λ_ _ _ _ _ _=>(CW (A4 FS (AL AM (AL AM (AB 1) AG (λ_ _=>rfl)) (AB 0) (λ_ _=>rfl)) CV (A0 _)))) (λ_ _ _ _ _ _=>(AB 0)))
   (AR (CD (PW.pt (OM (A4 (CM hr.units) (AB 3) (CF AJ) (A0 _)) (OL (A4 (CM hr.units) (AB 4) (CF AJ) (A0 _))))) (AX (BE CV)) CN)
   (AR (A8 5 N6.nd (AL AM (AB 3) (AT BO (AL AM (AB 2) AG (λ_ _=>rfl)) (B9 CH rfl T.CI (by rfl) (AE (AB 3) AJ))) (λ_ _=>rfl)))
   (AR (A8 6 N6.nd (AL AM (AB 4) (AT BO (AL AM (AB 2) AG (λ_ _=>rfl)) (B9 CH rfl T.CI (by rfl) (AE (AB 4) AJ))) (λ_ _=>rfl)))
   (AR (DG (B8 (AE (AL AM (AB 1) (AT OV (B9 CH rfl T.CI (by rfl) (AE (AL AM (AB 0) AG (λ_ _=>rfl)) AJ)) (B9 CH rfl T.CI (by rfl) (AE (AB 3) AJ))) (λ_ _=>rfl)) (AE (AB 6) AJ))) (DF (AL AM (AB 0) AG (λ_ _=>rfl)) (AB 5) DC))
   (AR (DG AG (DF (AL AM (AB 0) AG (λ_ _=>rfl)) (AB 6) DC))
   (AX (BE (B8 (AE BY (AE (AB 5) AJ))))))))))))
abbrev LZ:Stmt:=BK 5
theorem Yk:FnScope ["view"] ["view"] (AO LZ):=.go
theorem Yl(T:Txt K mg a)(F:Fun K "faults_in" "faults_in" LZ f fd)(zab:BJ P w K mg base (1) "faults_of_names" ["view"] (NC K a))(zac:BJ P w K mg base (2) "faults_of_things" ["view"] (ND K a))(zaa:BJ P w K mg base (2) "faults_of_marks" ["view"] (NE K a)) :
  FP P w K mg base 3 f fd ["view"] (IY K a) :=
 F.okF (TC K a) Yk Ly Lx λ_ _ _ _ _ E hr hx=>(AX (BE (AT BL (AT BL (A5 zab hr.m hx.passes rfl (AE (AB 0) AJ)) (A5 zac hr.m hx.passes rfl (AE (AB 0) AJ))) (A5 zaa hr.m hx.passes rfl (AE (AB 0) AJ)))))
abbrev L4:Stmt:=BK 9
theorem Ym:FnScope ["view"] ["view"] (AO L4):=.go
theorem Yp(T:Txt K mg a)(F:Fun K "leavings_in" "leavings_in" L4 f fd)(zaq:BJ P w K mg base (2) "leavings_of_records" ["view"] (NF K a))(zar:BJ P w K mg base (1) "left_pieces" ["view"] (NG K a))(zas:BJ P w K mg base (1) "marked_records" ["view"] (NH K a)) :
  FP P w K mg base 3 f fd ["view"] (NI K a) :=
 F.okF (TD K a) Ym Mb Lz λ_ _ _ _ _ E hr hx=>(AX (BE (AT BL (AT BL (A5 zaq hr.m hx.passes rfl (AE (AB 0) AJ)) (A5 zar hr.m hx.passes rfl (AE (AB 0) AJ))) (A5 zas hr.m hx.passes rfl (AE (AB 0) AJ)))))
abbrev J1:Stmt:=BK 13
theorem Yq:FnScope ["plank","places"] ["plank","places"] (AO J1):=.go
theorem Yv(T:Txt K mg a)(F:Fun K "values_at" "values_at" J1 f fd)(za1:CT P w K mg base (a "Plank") 2 "read" ["self","block"] (MX K a)) :
  FP P w K mg base 3 f fd ["plank","places"] (GL K a) :=
 F.okF (TF K a) Yq Mw Mv λ_ _ _ _ _ E hr hx=>(AX (BE (DB (tn:=["block","cell"]) (cn:=["plank"]) (cap:=[0]) (B2 (outer:=AO J1) (N:=["plank","places"]) rfl rfl (by decide +kernel)) rfl (DM (AB 1)) (λ_ _ _ _ _ _=>(HK rfl (D4 (BP (i:=0) (show(["block","cell","plank"]:List Str).Nodup from by decide +kernel) rfl (Or.inl rfl)) (D4 (BP (i:=1) (show(["block","cell","plank"]:List Str).Nodup from by decide +kernel) rfl (Or.inl rfl)) HJ)))) (λ_ _ _ _ _ _=>EI) (λ_ _ _ _ _ _=>(AL AM (D7 (AB 2) T.OG za1 hr.m IL (AE (AB 0) AJ)) (AB 1) (λ_ _=>rfl))))))
abbrev L6:Stmt:=DR (BK 22) 8
theorem Yw:FnScope ["self"] ["self"] (AO L6):=.go
theorem Yx(T:Txt K mg a)(F:Fun K "plank" "Layout.plank" L6 f fd)(zat:CT P w K mg base (a "Layout") 2 "blocks" ["self"] (M7 K a))(za5:MP P w K mg base (a "Plank") 1 "Plank" ["self","blocks","cells"] (MW K a)) :
  FP P w K mg base 3 f fd ["self"] (M9 K a) :=
 F.okF (TJ K a) Yw Kq Jz λ_ _ _ _ _ E hr hx=>(AX (BE (O2 za5 hr.m hx.passes rfl (AE (FH (AB 0) T.D3 zat hr.m hx.passes) (AE (B0 (AB 0) rfl) AJ)))))
abbrev L7:Stmt:=BK 33
theorem N7:FnScope ["view","xs","many","taken","k","free","p"] ["view","xs","many"] (AO L7):=.go
theorem Yy(T:Txt K mg a)(F:Fun K "_law_pieces" "_law_pieces" L7 f fd)(UV:BJ P w K mg base (1) "_law_free_pieces" ["view"] (JD K a))(UY:BJ P w K mg base (2) "_law_text" ["cell"] (JB K a)) :
  FP P w K mg base 3 f fd ["view","xs","many"] (NL K a) :=
 F.okF (TK K a) N7 Rj Rh λ_ _ _ _ _ E hr hx=>(AR (A8 3 N7.nd (CF AJ))
   (AR (FC hx.po rfl (DH rfl T.DE (AE (AB 2) AJ)) (EW 4 N7.nd) (AR (A8 5 N7.nd (A5 UV hr.m hx.passes rfl (AE (AB 0) AJ)))
   (AX (CD (A4 (GG hr.units) (AB 5) (CF AJ) (A0 _)) (AR (A8 6 N7.nd (AL AM (AB 5) (AT BO (AL AM (AB 1) (AB 4) (λ_ _=>rfl)) (B9 CH rfl T.CI (by rfl) (AE (AB 5) AJ))) (λ_ _=>rfl)))
   (AR (DG (A5 UY hr.m hx.passes rfl (AE (AT FD (AL AM (AB 1) (AB 4) (λ_ _=>rfl)) AG) AJ)) (DF (AL AM (AB 0) AG (λ_ _=>rfl)) (AB 6) DC))
   (AR (DG AG (DF (AL AM (AB 0) AG (λ_ _=>rfl)) (AB 6) DC))
   (AX (DK (FT PySem.F.plainAttrs_list PySem.F.slot_list_append PySem.F.type_list_append HP (AB 3) (AE (AB 6) AJ))))))) CN))))
   (AX (BE (GZ XI rfl T.jK (by rfl) (AE (AB 3) AJ))))))
abbrev J4:Stmt:=BK 36
theorem P0:FnScope ["view","names","xs","led","records","r"] ["view","names","xs"] (AO J4):=.go
theorem Yz(T:Txt K mg a)(F:Fun K "_law_more" "_law_more" J4 f fd)(OC:BJ P w K mg base (1) "_law_led" ["view"] (G8 K a))(HD:BJ P w K mg base (1) "_law_free_names" ["view"] (E6 K a))(UX:BJ P w K mg base (2) "_law_named" ["view","names","r","number"] (JE K a)) :
  FP P w K mg base 3 f fd ["view","names","xs"] (NM K a) :=
 F.okF (TM K a) P0 Rv Rq λ_ _ _ _ _ E hr hx=>(AR (FQ (i:=3) P0.nd rfl (Or.inr rfl) (A5 OC hr.m hx.passes rfl (AE (AB 0) AJ)))
   (AR (DZ (i:=4) (tn:=["r"]) (cn:=["led"]) (cap:=[3]) (B2 (outer:=AO J4) (N:=["view","names","xs","led","records","r"]) rfl rfl (by decide +kernel)) rfl P0.nd rfl rfl (DH rfl T.DE (AE (B9 CH rfl T.CI (by rfl) (AE (AB 3) AJ)) AJ)) (λ_ _ _ _ _ _=>(BP (i:=0) (show(["r","led"]:List Str).Nodup from by decide +kernel) rfl (Or.inl rfl))) (λ_ _ _ _ _ _=>(CW (A4 HS (AL AM (AB 1) (AB 0) (λ_ _=>rfl)) AG (A0 _)))) (λ_ _ _ _ _ _=>(AB 0)))
   (AX (CD (PW.pt (GY (A4 (GG hr.units) (AB 4) (CF AJ) (A0 _)) (GX (A4 (GG hr.units) (A5 HD hr.m hx.passes rfl (AE (AB 0) AJ)) (CF AJ) (A0 _))))) (AR (A8 5 P0.nd (AL AM (AB 4) (AT BO (AL AM (AB 2) AG (λ_ _=>rfl)) (B9 CH rfl T.CI (by rfl) (AE (AB 4) AJ))) (λ_ _=>rfl)))
   (AR (DG (B8 (AE (AT BL (AL AM (AL AM (AL AM (AB 0) AG (λ_ _=>rfl)) (AB 5) (λ_ _=>rfl)) AG (λ_ _=>rfl)) AG) (AE (AL AM (AL AM (AL AM (AB 0) AG (λ_ _=>rfl)) (AB 5) (λ_ _=>rfl)) AG (λ_ _=>rfl)) AJ))) (DF (AL AM (AB 0) AG (λ_ _=>rfl)) (AB 5) DC))
   (AX (DK (A5 UX hr.m hx.passes rfl (AE (AB 0) (AE (AB 1) (AE (AB 5) (AE (AL AM (AB 2) AG (λ_ _=>rfl)) AJ))))))))) CN))))
abbrev L8:Stmt:=BK 37
theorem N9:FnScope ["view","kind","xs","records","pieces","p"] ["view","kind","xs"] (AO L8):=.go
theorem Zb(T:Txt K mg a)(F:Fun K "_law_alone" "_law_alone" L8 f fd)(UW:BJ P w K mg base (1) "_law_free_records" ["view"] (JC K a))(UV:BJ P w K mg base (1) "_law_free_pieces" ["view"] (JD K a))(UY:BJ P w K mg base (2) "_law_text" ["cell"] (JB K a)) :
  FP P w K mg base 3 f fd ["view","kind","xs"] (NN K a) :=
 F.okF (TQ K a) N9 Rx Rw λ_ _ _ _ _ E hr hx=>(AR (A8 3 N9.nd (A5 UW hr.m hx.passes rfl (AE (AB 0) AJ)))
   (AR (A8 4 N9.nd (A5 UV hr.m hx.passes rfl (AE (AB 0) AJ)))
   (AR (CD (PW.pt (GY (A4 (CM hr.units) (AB 1) AG (A0 _)) (GX (A4 (GG hr.units) (AB 3) (CF AJ) (A0 _))))) (AX (DG AG (DF (AL AM (AB 0) AG (λ_ _=>rfl)) (AL AM (AB 3) (AT BO (AL AM (AB 2) AG (λ_ _=>rfl)) (B9 CH rfl T.CI (by rfl) (AE (AB 3) AJ))) (λ_ _=>rfl)) DC))) CN)
   (AR (CD (PW.pt (GY (A4 (CM hr.units) (AB 1) AG (A0 _)) (GX (A4 (GG hr.units) (AB 4) (CF AJ) (A0 _))))) (AR (A8 5 N9.nd (AL AM (AB 4) (AT BO (AL AM (AB 2) AG (λ_ _=>rfl)) (B9 CH rfl T.CI (by rfl) (AE (AB 4) AJ))) (λ_ _=>rfl)))
   (AR (DG AG (DF (AL AM (AB 0) AG (λ_ _=>rfl)) (AB 5) DC))
   (AX (DK (FT PySem.F.plainAttrs_list PySem.F.slot_list_append PySem.F.type_list_append HP (AL AM (AB 0) AG (λ_ _=>rfl)) (AE (AB 5) AJ)))))) CN)
   (AX (CD (PW.pt (GY (A4 (CM hr.units) (AB 1) AG (A0 _)) (GX (A4 (GG hr.units) (AB 4) (CF AJ) (A0 _))))) (AR (A8 5 N9.nd (AL AM (AB 4) (AT BO (AL AM (AB 2) AG (λ_ _=>rfl)) (B9 CH rfl T.CI (by rfl) (AE (AB 4) AJ))) (λ_ _=>rfl)))
   (AR (DG (A5 UY hr.m hx.passes rfl (AE (AL AM (AB 2) AG (λ_ _=>rfl)) AJ)) (DF (AL AM (AB 0) AG (λ_ _=>rfl)) (AB 5) DC))
   (AX (DG (AL AM (CF (AE AG (AE CV AJ))) (AT BO (AL AM (AB 2) AG (λ_ _=>rfl)) AG) (λ_ _=>rfl)) (DF (AL AM (AB 0) AG (λ_ _=>rfl)) (AB 5) DC))))) CN))))))
abbrev J5:Stmt:=BK 42
theorem L9:FnScope ["view","names","xs","free","numbers","k","j","r"] ["view","names","xs"] (AO J5):=.go
theorem Zc(T:Txt K mg a)(F:Fun K "_law_bad_name" "_law_bad_name" J5 f fd)(HD:BJ P w K mg base (1) "_law_free_names" ["view"] (E6 K a))(J9:BJ P w K mg base (2) "_law_lost" ["view","names","xs"] (ER K a)) :
  FP P w K mg base 3 f fd ["view","names","xs"] (NR K a) :=
 F.okF (TR K a) L9 Tm Tl λ_ _ _ _ _ E hr hx=>(AR (A8 3 L9.nd (A5 HD hr.m hx.passes rfl (AE (AB 0) AJ)))
   (AR (DZ (i:=4) (tn:=["k"]) (cn:=["view"]) (cap:=[0]) (B2 (outer:=AO J5) (N:=["view","names","xs","free","numbers","k","j","r"]) rfl rfl (by decide +kernel)) rfl L9.nd rfl rfl (DH rfl T.DE (AE (B9 CH rfl T.CI (by rfl) (AE (AL AM (AB 0) AG (λ_ _=>rfl)) AJ)) AJ)) (λ_ _ _ _ _ _=>(BP (i:=0) (show(["k","view"]:List Str).Nodup from by decide +kernel) rfl (Or.inl rfl))) (λ_ _ _ _ _ _=>(CW (A4 HL (AL AM (AL AM (AB 1) AG (λ_ _=>rfl)) (AB 0) (λ_ _=>rfl)) CV (A0 _)))) (λ_ _ _ _ _ _=>(AB 0)))
   (AR (CD (PW.pt (OM (A4 (CM hr.units) (AB 3) (CF AJ) (A0 _)) (OL (A4 (CM hr.units) (AB 4) (CF AJ) (A0 _))))) (AX (BE (A5 J9 hr.m hx.passes rfl (AE (AB 0) (AE (AB 1) (AE (AB 2) AJ)))))) CN)
   (AR (A8 5 L9.nd (AL AM (AB 3) (AT BO (AL AM (AB 2) AG (λ_ _=>rfl)) (B9 CH rfl T.CI (by rfl) (AE (AB 3) AJ))) (λ_ _=>rfl)))
   (AR (A8 6 L9.nd (AL AM (AB 4) (AT BO (AL AM (AB 2) AG (λ_ _=>rfl)) (B9 CH rfl T.CI (by rfl) (AE (AB 4) AJ))) (λ_ _=>rfl)))
   (AR (A8 7 L9.nd (AL AM (AL AM (AL AM (AB 0) AG (λ_ _=>rfl)) (AB 6) (λ_ _=>rfl)) AG (λ_ _=>rfl)))
   (AR (DG (AL AM (AL AM (AB 0) AG (λ_ _=>rfl)) (AB 6) (λ_ _=>rfl)) (DF (AL AM (AB 0) AG (λ_ _=>rfl)) (AB 5) DC))
   (AR (DG (B8 (AE (AT BL (AL AM (AL AM (AL AM (AB 0) AG (λ_ _=>rfl)) (AB 7) (λ_ _=>rfl)) AG (λ_ _=>rfl)) AG) (AE (AL AM (AL AM (AL AM (AB 0) AG (λ_ _=>rfl)) (AB 7) (λ_ _=>rfl)) AG (λ_ _=>rfl)) AJ))) (DF (AL AM (AB 0) AG (λ_ _=>rfl)) (AB 7) DC))
   (AX (BE (B8 (AE BY (AE (B9 (sJ rfl) rfl T.za7 (by rfl) (AE (AB 6) (AE (AB 5) AJ))) AJ)))))))))))))
abbrev J6:Stmt:=BK 43
theorem J7:FnScope ["view","names","xs","records","pieces","r","p"] ["view","names","xs"] (AO J6):=.go
theorem Zd(T:Txt K mg a)(F:Fun K "_law_bad_piece" "_law_bad_piece" J6 f fd)(J9:BJ P w K mg base (2) "_law_lost" ["view","names","xs"] (ER K a)) :
  FP P w K mg base 3 f fd ["view","names","xs"] (NS K a) :=
 F.okF (TU K a) J7 Tz Ty λ_ _ _ _ _ E hr hx=>(AR (DZ (i:=3) (tn:=["r"]) (cn:=["view"]) (cap:=[0]) (B2 (outer:=AO J6) (N:=["view","names","xs","records","pieces","r","p"]) rfl rfl (by decide +kernel)) rfl J7.nd rfl rfl (DH rfl T.DE (AE (B9 CH rfl T.CI (by rfl) (AE (AL AM (AB 0) AG (λ_ _=>rfl)) AJ)) AJ)) (λ_ _ _ _ _ _=>(BP (i:=0) (show(["r","view"]:List Str).Nodup from by decide +kernel) rfl (Or.inl rfl))) (λ_ _ _ _ _ _=>(CW (A4 HL (AL AM (AL AM (AB 1) AG (λ_ _=>rfl)) (AB 0) (λ_ _=>rfl)) CV (A0 _)))) (λ_ _ _ _ _ _=>(AB 0)))
   (AR (A8 4 J7.nd (CF AJ))
   (AR (FC hx.po rfl (DM (AB 3)) (EW 5 J7.nd) (AX (A8 4 J7.nd (AT BL (AB 4) (GZ O7 rfl T.OF (by rfl) (AE (AL AM (AL AM (AL AM (AB 0) AG (λ_ _=>rfl)) (AB 5) (λ_ _=>rfl)) AG (λ_ _=>rfl)) AJ))))))
   (AR (CD (A4 (CM hr.units) (AB 4) (CF AJ) (A0 _)) (AX (BE (A5 J9 hr.m hx.passes rfl (AE (AB 0) (AE (AB 1) (AE (AB 2) AJ)))))) CN)
   (AR (A8 6 J7.nd (AL AM (AB 4) (AT BO (AL AM (AB 2) AG (λ_ _=>rfl)) (B9 CH rfl T.CI (by rfl) (AE (AB 4) AJ))) (λ_ _=>rfl)))
   (AR (CD (A4 (CM hr.units) (AT BO (AL AM (AB 2) AG (λ_ _=>rfl)) AG) AG (A0 _)) (AR (A8 5 J7.nd (AL AM (AB 3) (AT BO (AL AM (AB 2) AG (λ_ _=>rfl)) (B9 CH rfl T.CI (by rfl) (AE (AB 3) AJ))) (λ_ _=>rfl)))
   (AR (DG (B8 (AE (AL AM (AL AM (AL AM (AB 0) AG (λ_ _=>rfl)) (AB 5) (λ_ _=>rfl)) AG (λ_ _=>rfl)) (AE (AT BL (AL AM (AL AM (AL AM (AB 0) AG (λ_ _=>rfl)) (AB 5) (λ_ _=>rfl)) AG (λ_ _=>rfl)) (B8 (AE (AB 6) AJ))) AJ))) (DF (AL AM (AB 0) AG (λ_ _=>rfl)) (AB 5) DC))
   (AX (BE (B8 (AE BY (AE (AB 6) AJ))))))) CN)
   (AR (CD (A4 (CM hr.units) (AT BO (AL AM (AB 2) AG (λ_ _=>rfl)) AG) AG (A0 _)) (AR (DG CV (DF (AL AM (AB 0) AG (λ_ _=>rfl)) (AB 6) DC))
   (AX (BE (B8 (AE BY (AE (AB 6) AJ)))))) CN)
   (AR (DG (AL AM (CF (AE AG (AE CV AJ))) (AT BO (AL AM (AB 2) AG (λ_ _=>rfl)) AG) (λ_ _=>rfl)) (DF (AL AM (AB 0) AG (λ_ _=>rfl)) (AB 6) DC))
   (AX (BE (B8 (AE BY (AE BY (AE (AB 6) AJ))))))))))))))
abbrev J8:Stmt:=BK 44
theorem OA:FnScope ["view","names","xs","led","least","records","r"] ["view","names","xs"] (AO J8):=.go
theorem Zg(T:Txt K mg a)(F:Fun K "_law_bad_record" "_law_bad_record" J8 f fd)(OC:BJ P w K mg base (1) "_law_led" ["view"] (G8 K a))(J9:BJ P w K mg base (2) "_law_lost" ["view","names","xs"] (ER K a)) :
  FP P w K mg base 3 f fd ["view","names","xs"] (NT K a) :=
 F.okF (TX K a) OA Tq Tp λ_ _ _ _ _ E hr hx=>(AR (FQ (i:=3) OA.nd rfl (Or.inr rfl) (A5 OC hr.m hx.passes rfl (AE (AB 0) AJ)))
   (AR (FQ (i:=4) OA.nd rfl (Or.inr rfl) (AT BL AG (GZ QP rfl T.U6 (by rfl) (AE (KF (CM hr.units) (AT BO (AL AM (AB 2) AG (λ_ _=>rfl)) AG) AG (A0 _)) AJ))))
   (AR (DZ (i:=5) (tn:=["r"]) (cn:=["led","least"]) (cap:=[3,4]) (B2 (outer:=AO J8) (N:=["view","names","xs","led","least","records","r"]) rfl rfl (by decide +kernel)) rfl OA.nd rfl rfl (DH rfl T.DE (AE (B9 CH rfl T.CI (by rfl) (AE (AB 3) AJ)) AJ)) (λ_ _ _ _ _ _=>(BP (i:=0) (show(["r","led","least"]:List Str).Nodup from by decide +kernel) rfl (Or.inl rfl))) (λ_ _ _ _ _ _=>(CW (A4 oQ (AL AM (AB 1) (AB 0) (λ_ _=>rfl)) (AB 2) (A0 _)))) (λ_ _ _ _ _ _=>(AB 0)))
   (AR (CD (A4 (CM hr.units) (AB 5) (CF AJ) (A0 _)) (AX (BE (A5 J9 hr.m hx.passes rfl (AE (AB 0) (AE (AB 1) (AE (AB 2) AJ)))))) CN)
   (AR (A8 6 OA.nd (AL AM (AB 5) (AT BO (AL AM (AB 2) AG (λ_ _=>rfl)) (B9 CH rfl T.CI (by rfl) (AE (AB 5) AJ))) (λ_ _=>rfl)))
   (AR (CD (A4 (CM hr.units) (AB 4) AG (A0 _)) (AR (DG (B8 (AE AG (AE (AL AM (AL AM (AL AM (AB 0) AG (λ_ _=>rfl)) (AB 6) (λ_ _=>rfl)) AG (λ_ _=>rfl)) AJ))) (DF (AL AM (AB 0) AG (λ_ _=>rfl)) (AB 6) DC))
   (AX (BE (B8 (AE BY (AE (AB 6) AJ)))))) CN)
   (AR (DG (AL AM (CF (AE AG (AE CV AJ))) (AT BO (AL AM (AB 2) AG (λ_ _=>rfl)) AG) (λ_ _=>rfl)) (DF (AL AM (AB 0) AG (λ_ _=>rfl)) (AB 6) DC))
   (AX (BE (B8 (AE BY (AE BY (AE (AB 6) AJ)))))))))))))
abbrev MA:Stmt:=BK 46
theorem UQ:FnScope ["plank","view","cells","flat","k"] ["plank","view","cells"] (AO MA):=.go
theorem Zh(T:Txt K mg a)(F:Fun K "_law_write" "_law_write" MA f fd)(za2:CT P w K mg base (a "Plank") 2 "write" ["self","block","values"] (MY K a)) :
  FP P w K mg base 3 f fd ["plank","view","cells"] (JF K a) :=
 F.okF (TY K a) UQ Tg Td λ_ _ _ _ _ E hr hx=>(AR (A8 3 UQ.nd (AT BL (AT BL (AT BL (AT BL (AL AM (AB 1) AG (λ_ _=>rfl)) (AL AM (AB 1) AG (λ_ _=>rfl))) (AL AM (AB 1) AG (λ_ _=>rfl))) (AL AM (AB 1) AG (λ_ _=>rfl))) (AL AM (AB 1) AG (λ_ _=>rfl))))
   (AX (FC hx.po rfl (uF rfl T.DE (AE AG (AE (B9 CH rfl T.CI (by rfl) (AE (AB 3) AJ)) (AE (AB 2) AJ)))) (EW 4 UQ.nd) (AX (DK (D7 (AB 0) T.OG za2 hr.m hx.passes (AE (AT FD (AB 4) (AB 2)) (AE (OZ O6 (AB 3) (KH (AB 4)) (KH (AT BL (AB 4) (AB 2)))) AJ))))))))
abbrev FN:Stmt:=DR (BK 2) 0
theorem P8:FnScope ["self","layout","plank","counts","records","pieces"] ["self","layout","plank"] (AO FN):=.go
theorem Zj(T:Txt K mg a)(F:Fun K "__init__" "View.__init__" FN f fd)(zau:CT P w K mg base (a "Layout") 1 "counts" ["self"] (M8 K a))(zav:CT P w K mg base (a "Layout") 2 "name_at" ["self","k"] (M0 K a))(OD:BJ P w K mg base (3) "values_at" ["plank","places"] (GL K a))(zaz:CT P w K mg base (a "Layout") 2 "record_at" ["self","k"] (M3 K a))(zaw:CT P w K mg base (a "Layout") 2 "piece_at" ["self","k"] (M4 K a))(za0:CT P w K mg base (a "Layout") 2 "record_mark" ["self","k"] (M5 K a))(zax:CT P w K mg base (a "Layout") 2 "piece_mark" ["self","k"] (M6 K a))(U0:BJ P w K mg base (1) "tally" ["many","numbers"] (IV K a))(jJ:BJ P w K mg base (1) "pieces_in" ["records"] (KP K a))(za3:CT P w K mg base (a "View") 1 "records_led_to" ["self"] (NB K a)) :
  FP P w K mg base 4 f fd ["self","layout","plank"] (IA K a) :=
 F.okF (TZ K a) P8 Nl Nk λ_ _ _ _ _ E hr hx=>(AR (A8 3 P8.nd (FH (AB 1) T.D3 zau hr.m hx.passes))
   (AR (A8 4 P8.nd (AL AM (AB 3) AG (λ_ _=>rfl)))
   (AR (A8 5 P8.nd (AL AM (AB 3) AG (λ_ _=>rfl)))
   (AR (EA (AB 0) (A5 OD hr.m hx.passes rfl (AE (AB 2) (AE (DB (tn:=["k"]) (cn:=["layout"]) (cap:=[1]) (B2 (outer:=AO FN) (N:=["self","layout","plank","counts","records","pieces"]) rfl rfl (by decide +kernel)) rfl (DH rfl T.DE (AE (AL AM (AB 3) AG (λ_ _=>rfl)) AJ)) (λ_ _ _ _ _ _=>(BP (i:=0) (show(["k","layout"]:List Str).Nodup from by decide +kernel) rfl (Or.inl rfl))) (λ_ _ _ _ _ _=>EI) (λ_ _ _ _ _ _=>(D7 (AB 1) T.D3 zav hr.m IL (AE (AB 0) AJ)))) AJ))) rfl)
   (AR (EA (AB 0) (A5 OD hr.m hx.passes rfl (AE (AB 2) (AE (DB (tn:=["k"]) (cn:=["layout"]) (cap:=[1]) (B2 (outer:=AO FN) (N:=["self","layout","plank","counts","records","pieces"]) rfl rfl (by decide +kernel)) rfl (DH rfl T.DE (AE (AB 4) AJ)) (λ_ _ _ _ _ _=>(BP (i:=0) (show(["k","layout"]:List Str).Nodup from by decide +kernel) rfl (Or.inl rfl))) (λ_ _ _ _ _ _=>EI) (λ_ _ _ _ _ _=>(D7 (AB 1) T.D3 zaz hr.m IL (AE (AB 0) AJ)))) AJ))) rfl)
   (AR (EA (AB 0) (A5 OD hr.m hx.passes rfl (AE (AB 2) (AE (DB (tn:=["k"]) (cn:=["layout"]) (cap:=[1]) (B2 (outer:=AO FN) (N:=["self","layout","plank","counts","records","pieces"]) rfl rfl (by decide +kernel)) rfl (DH rfl T.DE (AE (AB 5) AJ)) (λ_ _ _ _ _ _=>(BP (i:=0) (show(["k","layout"]:List Str).Nodup from by decide +kernel) rfl (Or.inl rfl))) (λ_ _ _ _ _ _=>EI) (λ_ _ _ _ _ _=>(D7 (AB 1) T.D3 zaw hr.m IL (AE (AB 0) AJ)))) AJ))) rfl)
   (AR (EA (AB 0) (A5 OD hr.m hx.passes rfl (AE (AB 2) (AE (DB (tn:=["k"]) (cn:=["layout"]) (cap:=[1]) (B2 (outer:=AO FN) (N:=["self","layout","plank","counts","records","pieces"]) rfl rfl (by decide +kernel)) rfl (DH rfl T.DE (AE (AB 4) AJ)) (λ_ _ _ _ _ _=>(BP (i:=0) (show(["k","layout"]:List Str).Nodup from by decide +kernel) rfl (Or.inl rfl))) (λ_ _ _ _ _ _=>EI) (λ_ _ _ _ _ _=>(D7 (AB 1) T.D3 za0 hr.m IL (AE (AB 0) AJ)))) AJ))) rfl)
   (AR (EA (AB 0) (A5 OD hr.m hx.passes rfl (AE (AB 2) (AE (DB (tn:=["k"]) (cn:=["layout"]) (cap:=[1]) (B2 (outer:=AO FN) (N:=["self","layout","plank","counts","records","pieces"]) rfl rfl (by decide +kernel)) rfl (DH rfl T.DE (AE (AB 5) AJ)) (λ_ _ _ _ _ _=>(BP (i:=0) (show(["k","layout"]:List Str).Nodup from by decide +kernel) rfl (Or.inl rfl))) (λ_ _ _ _ _ _=>EI) (λ_ _ _ _ _ _=>(D7 (AB 1) T.D3 zax hr.m IL (AE (AB 0) AJ)))) AJ))) rfl)
   (AR (EA (AB 0) (A5 U0 hr.m hx.passes rfl (AE (AB 4) (AE (DB (tn:=["value"]) (cn:=[]) (cap:=[]) (B2 (outer:=AO FN) (N:=["self","layout","plank","counts","records","pieces"]) rfl rfl (by decide +kernel)) rfl (DM (B0 (AB 0) rfl)) (λ_ _ _ _ _ _=>(BP (i:=0) (show(["value"]:List Str).Nodup from by decide +kernel) rfl (Or.inl rfl))) (λ_ _ _ _ _ _=>(CW (A4 HL (AB 0) CV (A0 _)))) (λ_ _ _ _ _ _=>(AL AM (AB 0) AG (λ_ _=>rfl)))) AJ))) rfl)
   (AR (EA (AB 0) (A5 U0 hr.m hx.passes rfl (AE (AB 5) (AE (A5 jJ hr.m hx.passes rfl (AE (B0 (AB 0) rfl) AJ)) AJ))) rfl)
   (AX (EA (AB 0) (A5 U0 hr.m hx.passes rfl (AE (AB 5) (AE (A5 jJ hr.m hx.passes rfl (AE (FH (AB 0) T.HG za3 hr.m hx.passes) AJ)) AJ))) rfl))))))))))))
abbrev MB:Stmt:=BK 35
theorem QC:FnScope ["view","names","xs","with_name","records","r","pieces"] ["view","names","xs","with_name"] (AO MB):=.go
theorem Zk(T:Txt K mg a)(F:Fun K "_law_record" "_law_record" MB f fd)(UW:BJ P w K mg base (1) "_law_free_records" ["view"] (JC K a))(HD:BJ P w K mg base (1) "_law_free_names" ["view"] (E6 K a))(zan:BJ P w K mg base (3) "_law_pieces" ["view","xs","many"] (NL K a))(UX:BJ P w K mg base (2) "_law_named" ["view","names","r","number"] (JE K a)) :
  FP P w K mg base 4 f fd ["view","names","xs","with_name"] (KQ K a) :=
 F.okF (T7 K a) QC Rm Rl λ_ _ _ _ _ E hr hx=>(AR (A8 4 QC.nd (A5 UW hr.m hx.passes rfl (AE (AB 0) AJ)))
   (AR (CD (PW.pt (OM (A4 (CM hr.units) (AB 4) (CF AJ) (A0 _)) (OL (PW.pt (GY (QN (AB 3) (λ_=>rfl)) (GX (A4 (CM hr.units) (A5 HD hr.m hx.passes rfl (AE (AB 0) AJ)) (CF AJ) (A0 _)))))))) (AX kC) CN)
   (AR (A8 5 QC.nd (AL AM (AB 4) (AT BO (AL AM (AB 2) AG (λ_ _=>rfl)) (B9 CH rfl T.CI (by rfl) (AE (AB 4) AJ))) (λ_ _=>rfl)))
   (AR (A8 6 QC.nd (A5 zan hr.m hx.passes rfl (AE (AB 0) (AE (OZ O6 (AB 2) (KH AG) (KH AG)) (AE (AT BO (AL AM (AB 2) AG (λ_ _=>rfl)) AG) AJ)))))
   (AX (CD (QN (AB 3) (λ_=>rfl)) (AR (DG (B8 (AE (AT BL AG (AL AM (CF (AE AG (AE AG (AE AG (AE AG (AE (AT OV (AT kP AG AG) AG) AJ)))))) (AT BO (AL AM (AB 2) AG (λ_ _=>rfl)) AG) (λ_ _=>rfl))) (AE (AB 6) AJ))) (DF (AL AM (AB 0) AG (λ_ _=>rfl)) (AB 5) DC))
   (AR (DG AG (DF (AL AM (AB 0) AG (λ_ _=>rfl)) (AB 5) DC))
   (AX (DK (A5 UX hr.m hx.passes rfl (AE (AB 0) (AE (AB 1) (AE (AB 5) (AE (AL AM (AB 2) AG (λ_ _=>rfl)) AJ))))))))) (AR (DG (B8 (AE (AT BL AG (AT BO (AL AM (AB 2) AG (λ_ _=>rfl)) AG)) (AE (AB 6) AJ))) (DF (AL AM (AB 0) AG (λ_ _=>rfl)) (AB 5) DC))
   (AR (DG (AL AM (CF (AE AG (AE AG (AE AG (AE CV AJ))))) (AT BO (AT FD (AL AM (AB 2) AG (λ_ _=>rfl)) AG) AG) (λ_ _=>rfl)) (DF (AL AM (AB 0) AG (λ_ _=>rfl)) (AB 5) DC))
   (AX (DK (FT PySem.F.plainAttrs_list PySem.F.slot_list_extend PySem.F.type_list_extend mR (AL AM (AB 0) AG (λ_ _=>rfl)) (AE (GZ O7 rfl T.OF (by rfl) (AE (AB 6) AJ)) AJ))))))))))))
abbrev MC:Stmt:=BK 45
theorem jD:FnScope ["view","names","xs","kind"] ["view","names","xs"] (AO MC):=.go
theorem Zl(T:Txt K mg a)(F:Fun K "_law_fault" "_law_fault" MC f fd)(J9:BJ P w K mg base (2) "_law_lost" ["view","names","xs"] (ER K a))(zae:BJ P w K mg base (3) "_law_bad_name" ["view","names","xs"] (NR K a))(zaf:BJ P w K mg base (3) "_law_bad_piece" ["view","names","xs"] (NS K a))(zag:BJ P w K mg base (3) "_law_bad_record" ["view","names","xs"] (NT K a)) :
  FP P w K mg base 4 f fd ["view","names","xs"] (NU K a) :=
 F.okF (T8 K a) jD Tw Tv λ_ _ _ _ _ E hr hx=>(AR (A8 3 jD.nd (AT BO (AL AM (AB 2) AG (λ_ _=>rfl)) AG))
   (AR (CD (A4 (CM hr.units) (AB 3) AG (A0 _)) (AX (BE (A5 J9 hr.m hx.passes rfl (AE (AB 0) (AE (AB 1) (AE (AB 2) AJ)))))) CN)
   (AR (CD (A4 (CM hr.units) (AB 3) AG (A0 _)) (AX (BE (A5 zae hr.m hx.passes rfl (AE (AB 0) (AE (AB 1) (AE (AB 2) AJ)))))) CN)
   (AR (CD (A4 (YA hr.units) (AB 3) (B8 (AE AG (AE AG (AE AG AJ)))) (by with_unfolding_all rfl)) (AX (BE (A5 zaf hr.m hx.passes rfl (AE (AB 0) (AE (AB 1) (AE (AB 2) AJ)))))) CN)
   (AX (BE (A5 zag hr.m hx.passes rfl (AE (AB 0) (AE (AB 1) (AE (AB 2) AJ))))))))))
abbrev IF:Stmt:=BK 38
theorem OB:FnScope ["cells","sizes","names","many","view","cell","xs"] ["cells","sizes","names"] (AO IF):=.go
theorem Zm(T:Txt K mg a)(F:Fun K "_law_view" "_law_view" IF f fd)(HE:BJ P w K mg base (1) "_law_spun" ["cell","many"] (E5 K a))(jH:BJ P w K mg base (4) "_law_record" ["view","names","xs","with_name"] (KQ K a))(zal:BJ P w K mg base (3) "_law_more" ["view","names","xs"] (NM K a))(zad:BJ P w K mg base (3) "_law_alone" ["view","kind","xs"] (NN K a)) :
  FP P w K mg base 5 f fd ["cells","sizes","names"] (NO K a) :=
 F.okF (T9 K a) OB Sd Sc λ_ _ _ _ _ E hr hx=>(AR (FQ (i:=3) OB.nd rfl (Or.inr rfl) (DB (tn:=["size"]) (cn:=["sizes"]) (cap:=[1]) (B2 (outer:=AO IF) (N:=["cells","sizes","names","many","view","cell","xs"]) rfl rfl (by decide +kernel)) rfl (DM (OZ O6 (AB 1) WB (KH AG))) (λ_ _ _ _ _ _=>(BP (i:=0) (show(["size","sizes"]:List Str).Nodup from by decide +kernel) rfl (Or.inl rfl))) (λ_ _ _ _ _ _=>EI) (λ_ _ _ _ _ _=>(AT EJ (AB 0) (AL AM (AB 1) AG (λ_ _=>rfl))))))
   (AR (A8 4 OB.nd (AT BL (DB (tn:=["k"]) (cn:=["many"]) (cap:=[3]) (B2 (outer:=AO IF) (N:=["cells","sizes","names","many","view","cell","xs"]) rfl rfl (by decide +kernel)) rfl (DM (CF (AE AG (AE AG (AE AG (AE AG (AE AG AJ))))))) (λ_ _ _ _ _ _=>(BP (i:=0) (show(["k","many"]:List Str).Nodup from by decide +kernel) rfl (Or.inl rfl))) (λ_ _ _ _ _ _=>EI) (λ_ _ _ _ _ _=>(AT EJ (CF (AE CV AJ)) (AL AM (AB 1) (AB 0) (λ_ _=>rfl))))) (CF (AE (CF AJ) AJ))))
   (AR (FC hx.po rfl (DM (AB 0)) (EW 5 OB.nd) (AR (A8 6 OB.nd (A5 HE hr.m hx.passes rfl (AE (AT FD (AB 5) AG) (AE AG AJ))))
   (AX (CD (A4 O4 (AT BO (AB 5) AG) AG (A0 _)) (AX (DK (A5 jH hr.m hx.passes rfl (AE (AB 4) (AE (AB 2) (AE (AB 6) (AE HH AJ))))))) (AX (CD (A4 (CM hr.units) (AT BO (AB 5) AG) AG (A0 _)) (AX (DK (A5 zal hr.m hx.passes rfl (AE (AB 4) (AE (AB 2) (AE (AB 6) AJ)))))) (AX (CD (A4 (CM hr.units) (AT BO (AB 5) AG) AG (A0 _)) (AX (DK (A5 jH hr.m hx.passes rfl (AE (AB 4) (AE (AB 2) (AE (AB 6) (AE HH AJ))))))) (AX (DK (A5 zad hr.m hx.passes rfl (AE (AB 4) (AE (AT BO (AB 5) AG) (AE (AB 6) AJ))))))))))))))
   (AX (BE (AB 4))))))
abbrev MD:Stmt:=BK 3
theorem jE:FnScope ["layout","plank","view"] ["layout","plank"] (AO MD):=.go
theorem Zp(T:Txt K mg a)(F:Fun K "walk" "walk" MD f fd)(U5:MP P w K mg base (a "View") 4 "View" ["self","layout","plank"] (IA K a))(US:BJ P w K mg base (3) "faults_in" ["view"] (IY K a))(zap:BJ P w K mg base (3) "leavings_in" ["view"] (NI K a)) :
  FP P w K mg base 6 f fd ["layout","plank"] (IZ K a) :=
 F.okF (UA K a) jE Np Nm λ_ _ _ _ _ E hr hx=>(AR (A8 2 jE.nd (O2 U5 hr.m hx.passes rfl (AE (AB 0) (AE (AB 1) AJ))))
   (AX (BE (AT BL (A5 US hr.m hx.passes rfl (AE (AB 2) AJ)) (A5 zap hr.m hx.passes rfl (AE (AB 2) AJ))))))
abbrev ME:Stmt:=BK 4
theorem Zq:FnScope ["layout","plank"] ["layout","plank"] (AO ME):=.go
theorem Zv(T:Txt K mg a)(F:Fun K "is_sound" "is_sound" ME f fd)(U5:MP P w K mg base (a "View") 4 "View" ["self","layout","plank"] (IA K a))(US:BJ P w K mg base (3) "faults_in" ["view"] (IY K a)) :
  FP P w K mg base 6 f fd ["layout","plank"] (JA K a) :=
 F.okF (UB K a) Zq Nv Nq λ_ _ _ _ _ E hr hx=>(AX (BE (KF (CM hr.units) (B9 CH rfl T.CI (by rfl) (AE (A5 US hr.m hx.passes rfl (AE (O2 U5 hr.m hx.passes rfl (AE (AB 0) (AE (AB 1) AJ))) AJ)) AJ)) AG (A0 _))))
abbrev MF:Stmt:=BK 47
theorem jF:FnScope ["layout","plank","due","found"] ["layout","plank","due"] (AO MF):=.go
theorem Zw(T:Txt K mg a)(F:Fun K "_law_sound" "_law_sound" MF f fd)(U1:BJ P w K mg base (6) "walk" ["layout","plank"] (IZ K a))(UT:BJ P w K mg base (6) "is_sound" ["layout","plank"] (JA K a)) :
  FP P w K mg base 7 f fd ["layout","plank","due"] (KS K a) :=
 F.okF (UC K a) jF Tc Tb λ_ _ _ _ _ E hr hx=>(AR (A8 3 jF.nd (A5 U1 hr.m hx.passes rfl (AE (AB 0) (AE (AB 1) AJ))))
   (AX (BE (VD (B9 o0 rfl T.za6 (by rfl) (AE (AB 3) (AE (j3 rfl T.OF (by rfl) rfl) AJ))) (VD (KF (CM hr.units) (AB 3) (AB 2) (A0 _)) (j7 (KF sK (A5 UT hr.m hx.passes rfl (AE (AB 0) (AE (AB 1) AJ))) HH (A0 _))))))))
abbrev GS:Stmt:=BK 48
theorem GT:FnScope ["script","sizes","names","view","layout","plank","due","bad","fault","faults"] ["script"] (AO GS):=.go
theorem Zx(T:Txt K mg a)(F:Fun K "law" "law" GS f fd)(UU:BJ P w K mg base (1) "_law_cell_at" ["script","k"] (G6 K a))(zak:BJ P w K mg base (2) "_law_layout" ["cell"] (NJ K a))(zam:BJ P w K mg base (2) "_law_names" ["cell","many"] (NK K a))(zao:BJ P w K mg base (5) "_law_view" ["cells","sizes","names"] (NO K a))(za4:MP P w K mg base (a "Layout") 1 "Layout" ["self","names","records","pieces","cells"] (KN K a))(zay:CT P w K mg base (a "Layout") 3 "plank" ["self"] (M9 K a))(UZ:BJ P w K mg base (3) "_law_write" ["plank","view","cells"] (JF K a))(zai:BJ P w K mg base (2) "_law_due" ["view"] (NP K a))(jI:BJ P w K mg base (7) "_law_sound" ["layout","plank","due"] (KS K a))(zah:BJ P w K mg base (1) "_law_copy" ["view"] (NQ K a))(HE:BJ P w K mg base (1) "_law_spun" ["cell","many"] (E5 K a))(zaj:BJ P w K mg base (4) "_law_fault" ["view","names","xs"] (NU K a))(U1:BJ P w K mg base (6) "walk" ["layout","plank"] (IZ K a))(UT:BJ P w K mg base (6) "is_sound" ["layout","plank"] (JA K a)) :
  FP P w K mg base 8 f fd ["script"] (R3 K a) :=
 F.okF (UD K a) GT Uk Uj λ_ _ _ _ _ E hr hx=>(AR (A8 1 GT.nd (A5 zak hr.m hx.passes rfl (AE (A5 UU hr.m hx.passes rfl (AE (AB 0) (AE AG AJ))) AJ)))
   (AR (A8 2 GT.nd (A5 zam hr.m hx.passes rfl (AE (A5 UU hr.m hx.passes rfl (AE (AB 0) (AE AG AJ))) (AE AG AJ))))
   (AR (A8 3 GT.nd (A5 zao hr.m hx.passes rfl (AE (OZ O6 (AB 0) (KH AG) WB) (AE (AB 1) (AE (AB 2) AJ)))))
   (AR (A8 4 GT.nd (O2 za4 hr.m hx.passes rfl (AE (AL AM (AB 1) AG (λ_ _=>rfl)) (AE (AL AM (AB 1) AG (λ_ _=>rfl)) (AE (AL AM (AB 1) AG (λ_ _=>rfl)) (AE (AL AM (AB 1) AG (λ_ _=>rfl)) AJ))))))
   (AR (A8 5 GT.nd (FH (AB 4) T.D3 zay hr.m hx.passes))
   (AR (DK (A5 UZ hr.m hx.passes rfl (AE (AB 5) (AE (AB 3) (AE (AL AM (AB 1) AG (λ_ _=>rfl)) AJ)))))
   (AR (A8 6 GT.nd (A5 zai hr.m hx.passes rfl (AE (AB 3) AJ)))
   (AR (CD (VC (QN (A5 jI hr.m hx.passes rfl (AE (AB 4) (AE (AB 5) (AE (AB 6) AJ)))) (λ_=>rfl))) (AX (BE HH)) CN)
   (AR (A8 7 GT.nd (A5 zah hr.m hx.passes rfl (AE (AB 3) AJ)))
   (AR (A8 8 GT.nd (A5 zaj hr.m hx.passes rfl (AE (AB 7) (AE (AB 2) (AE (A5 HE hr.m hx.passes rfl (AE (A5 UU hr.m hx.passes rfl (AE (AB 0) (AE AG AJ))) (AE AG AJ))) AJ)))))
   (AR (CD (A4 FS (AB 8) CV (A0 _)) (AX (BE HH)) CN)
   (AR (DK (A5 UZ hr.m hx.passes rfl (AE (AB 5) (AE (AB 7) (AE (AL AM (AB 1) AG (λ_ _=>rfl)) AJ)))))
   (AR (DZ (i:=9) (tn:=["find"]) (cn:=[]) (cap:=[]) (B2 (outer:=AO GS) (N:=["script","sizes","names","view","layout","plank","due","bad","fault","faults"]) rfl rfl (by decide +kernel)) rfl GT.nd rfl rfl (DM (A5 U1 hr.m hx.passes rfl (AE (AB 4) (AE (AB 5) AJ)))) (λ_ _ _ _ _ _=>(BP (i:=0) (show(["find"]:List Str).Nodup from by decide +kernel) rfl (Or.inl rfl))) (λ_ _ _ _ _ _=>(CW (A4 (YA hr.units) (AL AM (AB 0) AG (λ_ _=>rfl)) (B8 (AE BY (AE BY (AE BY (AE BY (AE BY (AE BY AJ))))))) (by with_unfolding_all rfl)))) (λ_ _ _ _ _ _=>(AB 0)))
   (AR (CD (PW.pt (OM (A4 (GG hr.units) (AB 9) (CF (AE (AB 8) AJ)) (A0 _)) (OL (A4 sL (A5 UT hr.m hx.passes rfl (AE (AB 4) (AE (AB 5) AJ))) HH (A0 _))))) (AX (BE HH)) CN)
   (AR (DK (A5 UZ hr.m hx.passes rfl (AE (AB 5) (AE (AB 3) (AE (AL AM (AB 1) AG (λ_ _=>rfl)) AJ)))))
   (AX (BE (A5 jI hr.m hx.passes rfl (AE (AB 4) (AE (AB 5) (AE (AB 6) AJ)))))))))))))))))))))
end
end L2
namespace L2
theorem Zy(q8b q8c q8d q8e:Addr):∃ a:Ad,a "View"=q8b/\a "NoBlock"=q8c/\a "Plank"=q8d/\a "Layout"=q8e :=
 ⟨λs=>if s="View" then q8b else if s="NoBlock" then q8c else if s="Plank" then q8d else if s="Layout" then q8e else 0,by simp,by simp,by simp,by simp⟩
theorem C5{α :Type}{P:List α ->Prop}(h:∀ x0,P [x0]):∀ us:List α,us.length=1->P us
 | [],e=>by simp at e
 | [x0],_=>h x0
 | _::_::_,e=>by simp at e
theorem us2{α :Type}{P:List α ->Prop}(h:∀ x0 x1,P [x0,x1]):∀ us:List α,us.length=2->P us
 | [],e=>by simp at e
 | [_],e=>by simp at e
 | [x0,x1],_=>h x0 x1
 | _::_::_::_,e=>by simp at e
theorem EE{α :Type}{P:List α ->Prop}(h:∀ x0 x1 x2,P [x0,x1,x2]):∀ us:List α,us.length=3->P us
 | [],e=>by simp at e
 | [_],e=>by simp at e
 | [_,_],e=>by simp at e
 | [x0,x1,x2],_=>h x0 x1 x2
 | _::_::_::_::_,e=>by simp at e
theorem jG{α :Type}{P:List α ->Prop}(h:∀ x0 x1 x2 x3,P [x0,x1,x2,x3]):∀ us:List α,us.length=4->P us
 | [],e=>by simp at e
 | [_],e=>by simp at e
 | [_,_],e=>by simp at e
 | [_,_,_],e=>by simp at e
 | [x0,x1,x2,x3],_=>h x0 x1 x2 x3
 | _::_::_::_::_::_,e=>by simp at e
theorem Zz{α :Type}{P:List α ->Prop}(h:∀ x0 x1 x2 x3 x4,P [x0,x1,x2,x3,x4]):∀ us:List α,us.length=5->P us
 | [],e=>by simp at e
 | [_],e=>by simp at e
 | [_,_],e=>by simp at e
 | [_,_,_],e=>by simp at e
 | [_,_,_,_],e=>by simp at e
 | [x0,x1,x2,x3,x4],_=>h x0 x1 x2 x3 x4
 | _::_::_::_::_::_::_,e=>by simp at e
def UR(K:W.Frag):Sp:=λvs H Q _=>∃ (s:Addr) (ns:List Int),vs=[.ref s]/\SqL K H s (ns.map V.int)/\ns.length<=63/\∀ H',Q (.bl true) H'
theorem all_mk{l:W.OpenLaw}{w:World}{K:W.Frag}{h:Heap}{mg:Str->Option Value}{fa:Addr}{q8b q8c q8d q8e:Addr}{q8f q8g q8h q8i q8j q8k q8l q8m q8n q8o q8p q8q q8r q8s q8t q8u q8v q8w q8x q8y q8z q90 q91 q92 q93 q94 q95 q96 q97 q98 q99 q9a q9b q9c q9d q9e q9f q9g q9h q9i q9j q9k q9l q9m q9n q9o q9p q9q q9r q9s q9t q9u q9v q9w q9x q9y q9z qa0:Addr}{qa1 qbn qd9 qev qgh qi3 qa2 qbo qda qew qgi qi4 qa3 qbp qdb qex qgj qi5 qa4 qbq qdc qey qgk qi6 qa5 qbr qdd qez qgl qi7 qa6 qbs qde qf0 qgm qi8 qa7 qbt qdf qf1 qgn qi9 qa8 qbu qdg qf2 qgo qia qa9 qbv qdh qf3 qgp qib qaa qbw qdi qf4 qgq qic qab qbx qdj qf5 qgr qid qac qby qdk qf6 qgs qie qad qbz qdl qf7 qgt qif qae qc0 qdm qf8 qgu qig qaf qc1 qdn qf9 qgv qih qag qc2 qdo qfa qgw qii qah qc3 qdp qfb qgx qij qai qc4 qdq qfc qgy qik qaj qc5 qdr qfd qgz qil qak qc6 qds qfe qh0 qim qal qc7 qdt qff qh1 qin qam qc8 qdu qfg qh2 qio qan qc9 qdv qfh qh3 qip qao qca qdw qfi qh4 qiq qap qcb qdx qfj qh5 qir qaq qcc qdy qfk qh6 qis qar qcd qdz qfl qh7 qit qas qce qe0 qfm qh8 qiu qat qcf qe1 qfn qh9 qiv qau qcg qe2 qfo qha qiw qav qch qe3 qfp qhb qix qaw qci qe4 qfq qhc qiy qax qcj qe5 qfr qhd qiz qay qck qe6 qfs qhe qj0 qaz qcl qe7 qft qhf qj1 qb0 qcm qe8 qfu qhg qj2 qb1 qcn qe9 qfv qhh qj3 qb2 qco qea qfw qhi qj4 qb3 qcp qeb qfx qhj qj5 qb4 qcq qec qfy qhk qj6 qb5 qcr qed qfz qhl qj7 qb6 qcs qee qg0 qhm qj8 qb7 qct qef qg1 qhn qj9 qb8 qcu qeg qg2 qho qja qb9 qcv qeh qg3 qhp qjb qba qcw qei qg4 qhq qjc qbb qcx qej qg5 qhr qjd qbc qcy qek qg6 qhs qje qbd qcz qel qg7 qht qjf qbe qd0 qem qg8 qhu qjg qbf qd1 qen qg9 qhv qjh qbg qd2 qeo qga qhw qji qbh qd3 qep qgb qhx qjj qbi qd4 qeq qgc qhy qjk qbj qd5 qer qgd qhz qjl qbk qd6 qes qge qi0 qjm qbl qd7 qet qgf qi1 qjn qbm qd8 qeu qgg qi2 qjo:Value}{qjp qlb qjq qlc qjr qld qjs qle qjt qlf qju qlg qjv qlh qjw qli qjx qlj qjy qlk qjz qll qk0 qlm qk1 qln qk2 qlo qk3 qlp qk4 qlq qk5 qlr qk6 qls qk7 qlt qk8 qlu qk9 qlv qka qlw qkb qlx qkc qly qkd qlz qke qm0 qkf qm1 qkg qm2 qkh qm3 qki qm4 qkj qm5 qkk qm6 qkl qm7 qkm qm8 qkn qm9 qko qma qkp qmb qkq qmc qkr qmd qks qme qkt qmf qku qmg qkv qmh qkw qmi qkx qmj qky qmk qkz qml ql0 qmm ql1 qmn ql2 qmo ql3 qmp ql4 qmq ql5 qmr ql6 qms ql7 qmt ql8 qmu ql9 qmv qla qmw:Option Addr}{qmx qmy qmz qn0 qn1 qn2 qn3 qn4 qn5 qn6 qn7 qn8 qn9 qna qnb qnc qnd qne qnf qng qnh qni qnj qnk qnl qnm qnn qno qnp qnq qnr qns qnt qnu qnv qnw qnx qny qnz qo0 qo1 qo2 qo3 qo4 qo5 qo6 qo7 qo8 qo9 qoa qob qoc qod qoe qof qog qoh qoi:Array (Option Value)}(X:K.In h)(G:h.Ns mainGlobals mg)(hfa:mg "law"=some (.ref fa))
  (q0:W.nsIn K mainGlobals "View"=some (some (.ref q8b)))
  (q1:W.nsIn K mainGlobals "NoBlock"=some (some (.ref q8c)))
  (q2:W.nsIn K mainGlobals "Plank"=some (some (.ref q8d)))
  (q3:W.nsIn K mainGlobals "Layout"=some (some (.ref q8e)))
  (q4:W.plainGet K q8e Str.empty=true)
  (q5:W.hasDictIn K q8e=true)
  (q6:W.plainOver K q8e=true)
  (q7:W.findIn K (.ref q8e) "__setattr__"=some (some (.builtin "object.__setattr__")))
  (q8:W.plainGet K q8d Str.empty=true)
  (q9:W.hasDictIn K q8d=true)
  (qa:W.plainOver K q8d=true)
  (qb:W.findIn K (.ref q8d) "__setattr__"=some (some (.builtin "object.__setattr__")))
  (qc:W.plainGet K q8b Str.empty=true)
  (qd:W.hasDictIn K q8b=true)
  (qe:W.plainOver K q8b=true)
  (qf:W.findIn K (.ref q8b) "__setattr__"=some (some (.builtin "object.__setattr__")))
  (qg:W.makesIn K q8e=true)
  (qh:W.keepIn K (.ref q8e)=true)
  (qi:W.makesIn K q8d=true)
  (qj:W.keepIn K (.ref q8d)=true)
  (qk:W.makesIn K q8b=true)
  (ql:W.keepIn K (.ref q8b)=true)
  (qm:W.excIn K q8c [.type "ValueError",.type "Exception",.type "BaseException",.type "object"] "ValueError.__new__"=true)
  (qn:W.nsIn K mainGlobals "enumerate"=some none)
  (qo:W.nsIn K mainGlobals "int"=some none)
  (qp:W.nsIn K mainGlobals "isinstance"=some none)
  (qq:W.nsIn K mainGlobals "len"=some none)
  (qr:W.nsIn K mainGlobals "list"=some none)
  (qs:W.nsIn K mainGlobals "max"=some none)
  (qt:W.nsIn K mainGlobals "range"=some none)
  (qu:W.nsIn K mainGlobals "sorted"=some none)
  (qv:W.nsIn K mainGlobals "tuple"=some none)
  (qw:W.findIn K (.ref q8b) "records_led_to"=some (some (.ref q8f)))
  (qx:W.isFn K (.ref q8f)=true)
  (qy:K.lookup q8f=some ⟨qa1,qjp,.func (W.fnOf "records_led_to" "View.records_led_to" (BF JO) (A9 JO) (AO JO) .none qbn qd9 qev qlb qgh qi3),qmx⟩)
  (qz:W.codeIn K qgh "View.records_led_to"=true)
  (q10:W.keepIn K (.ref q8f)=true)
  (q11:W.findIn K (.ref q8b) "records_standing"=some (some (.ref q8g)))
  (q12:W.isFn K (.ref q8g)=true)
  (q13:K.lookup q8g=some ⟨qa2,qjq,.func (W.fnOf "records_standing" "View.records_standing" (BF JP) (A9 JP) (AO JP) .none qbo qda qew qlc qgi qi4),qmy⟩)
  (q14:W.codeIn K qgi "View.records_standing"=true)
  (q15:W.keepIn K (.ref q8g)=true)
  (q16:W.findIn K (.ref q8b) "pieces_named"=some (some (.ref q8h)))
  (q17:W.isFn K (.ref q8h)=true)
  (q18:K.lookup q8h=some ⟨qa3,qjr,.func (W.fnOf "pieces_named" "View.pieces_named" (BF JQ) (A9 JQ) (AO JQ) .none qbp qdb qex qld qgj qi5),qmz⟩)
  (q19:W.codeIn K qgj "View.pieces_named"=true)
  (q1a:W.keepIn K (.ref q8h)=true)
  (q1b:W.findIn K (.ref q8b) "count_of"=some (some (.ref q8i)))
  (q1c:W.isFn K (.ref q8i)=true)
  (q1d:K.lookup q8i=some ⟨qa4,qjs,.func (W.fnOf "count_of" "View.count_of" (BF K7) (A9 K7) (AO K7) .none qbq qdc qey qle qgk qi6),qn0⟩)
  (q1e:W.codeIn K qgk "View.count_of"=true)
  (q1f:W.keepIn K (.ref q8i)=true)
  (q1g:W.nsIn K mainGlobals "faults_of_names"=some (some (.ref q8j)))
  (q1h:K.lookup q8j=some ⟨qa5,qjt,.func (W.fnOf "faults_of_names" "faults_of_names" (BF K8) (A9 K8) (AO K8) .none qbr qdd qez qlf qgl qi7),qn1⟩)
  (q1i:W.codeIn K qgl "faults_of_names"=true)
  (q1j:W.keepIn K (.ref q8j)=true)
  (q1k:W.nsIn K mainGlobals "left_pieces"=some (some (.ref q8k)))
  (q1l:K.lookup q8k=some ⟨qa6,qju,.func (W.fnOf "left_pieces" "left_pieces" (BF ID) (A9 ID) (AO ID) .none qbs qde qf0 qlg qgm qi8),qn2⟩)
  (q1m:W.codeIn K qgm "left_pieces"=true)
  (q1n:W.keepIn K (.ref q8k)=true)
  (q1o:W.nsIn K mainGlobals "marked_records"=some (some (.ref q8l)))
  (q1p:K.lookup q8l=some ⟨qa7,qjv,.func (W.fnOf "marked_records" "marked_records" (BF IE) (A9 IE) (AO IE) .none qbt qdf qf1 qlh qgn qi9),qn3⟩)
  (q1q:W.codeIn K qgn "marked_records"=true)
  (q1r:W.keepIn K (.ref q8l)=true)
  (q1s:W.nsIn K mainGlobals "tally"=some (some (.ref q8m)))
  (q1t:K.lookup q8m=some ⟨qa8,qjw,.func (W.fnOf "tally" "tally" (BF JR) (A9 JR) (AO JR) .none qbu qdg qf2 qli qgo qia),qn4⟩)
  (q1u:W.codeIn K qgo "tally"=true)
  (q1v:W.keepIn K (.ref q8m)=true)
  (q1w:W.nsIn K mainGlobals "pieces_in"=some (some (.ref q8n)))
  (q1x:K.lookup q8n=some ⟨qa9,qjx,.func (W.fnOf "pieces_in" "pieces_in" (BF LA) (A9 LA) (AO LA) .none qbv qdh qf3 qlj qgp qib),qn5⟩)
  (q1y:W.codeIn K qgp "pieces_in"=true)
  (q1z:W.keepIn K (.ref q8n)=true)
  (q20:W.findIn K (.ref q8d) "__init__"=some (some (.ref q8o)))
  (q21:W.isFn K (.ref q8o)=true)
  (q22:K.lookup q8o=some ⟨qaa,qjy,.func (W.fnOf "__init__" "Plank.__init__" (BF JS) (A9 JS) (AO JS) .none qbw qdi qf4 qlk qgq qic),qn6⟩)
  (q23:W.codeIn K qgq "Plank.__init__"=true)
  (q24:W.keepIn K (.ref q8o)=true)
  (q25:W.findIn K (.ref q8d) "ask_for_block"=some (some (.ref q8p)))
  (q26:W.isFn K (.ref q8p)=true)
  (q27:K.lookup q8p=some ⟨qab,qjz,.func (W.fnOf "ask_for_block" "Plank.ask_for_block" (BF LB) (A9 LB) (AO LB) .none qbx qdj qf5 qll qgr qid),qn7⟩)
  (q28:W.codeIn K qgr "Plank.ask_for_block"=true)
  (q29:W.keepIn K (.ref q8p)=true)
  (q2a:W.findIn K (.ref q8e) "__init__"=some (some (.ref q8q)))
  (q2b:W.isFn K (.ref q8q)=true)
  (q2c:K.lookup q8q=some ⟨qac,qk0,.func (W.fnOf "__init__" "Layout.__init__" (BF LC) (A9 LC) (AO LC) .none qby qdk qf6 qlm qgs qie),qn8⟩)
  (q2d:W.codeIn K qgs "Layout.__init__"=true)
  (q2e:W.keepIn K (.ref q8q)=true)
  (q2f:W.findIn K (.ref q8e) "counts"=some (some (.ref q8r)))
  (q2g:W.isFn K (.ref q8r)=true)
  (q2h:K.lookup q8r=some ⟨qad,qk1,.func (W.fnOf "counts" "Layout.counts" (BF LD) (A9 LD) (AO LD) .none qbz qdl qf7 qln qgt qif),qn9⟩)
  (q2i:W.codeIn K qgt "Layout.counts"=true)
  (q2j:W.keepIn K (.ref q8r)=true)
  (q2k:W.findIn K (.ref q8e) "blocks_ahead_of_marks"=some (some (.ref q8s)))
  (q2l:W.isFn K (.ref q8s)=true)
  (q2m:K.lookup q8s=some ⟨qae,qk2,.func (W.fnOf "blocks_ahead_of_marks" "Layout.blocks_ahead_of_marks" (BF LE) (A9 LE) (AO LE) .none qc0 qdm qf8 qlo qgu qig),qna⟩)
  (q2n:W.codeIn K qgu "Layout.blocks_ahead_of_marks"=true)
  (q2o:W.keepIn K (.ref q8s)=true)
  (q2p:W.findIn K (.ref q8e) "place_from"=some (some (.ref q8t)))
  (q2q:W.isFn K (.ref q8t)=true)
  (q2r:K.lookup q8t=some ⟨qaf,qk3,.func (W.fnOf "place_from" "Layout.place_from" (BF LF) (A9 LF) (AO LF) .none qc1 qdn qf9 qlp qgv qih),qnb⟩)
  (q2s:W.codeIn K qgv "Layout.place_from"=true)
  (q2t:W.keepIn K (.ref q8t)=true)
  (q2u:W.nsIn K mainGlobals "_law_cell_at"=some (some (.ref q8u)))
  (q2v:K.lookup q8u=some ⟨qag,qk4,.func (W.fnOf "_law_cell_at" "_law_cell_at" (BF LG) (A9 LG) (AO LG) .none qc2 qdo qfa qlq qgw qii),qnc⟩)
  (q2w:W.codeIn K qgw "_law_cell_at"=true)
  (q2x:W.keepIn K (.ref q8u)=true)
  (q2y:W.nsIn K mainGlobals "_law_spun"=some (some (.ref q8v)))
  (q2z:K.lookup q8v=some ⟨qah,qk5,.func (W.fnOf "_law_spun" "_law_spun" (BF LH) (A9 LH) (AO LH) .none qc3 qdp qfb qlr qgx qij),qnd⟩)
  (q30:W.codeIn K qgx "_law_spun"=true)
  (q31:W.keepIn K (.ref q8v)=true)
  (q32:W.nsIn K mainGlobals "_law_led"=some (some (.ref q8w)))
  (q33:K.lookup q8w=some ⟨qai,qk6,.func (W.fnOf "_law_led" "_law_led" (BF LI) (A9 LI) (AO LI) .none qc4 qdq qfc qls qgy qik),qne⟩)
  (q34:W.codeIn K qgy "_law_led"=true)
  (q35:W.keepIn K (.ref q8w)=true)
  (q36:W.nsIn K mainGlobals "_law_free_names"=some (some (.ref q8x)))
  (q37:K.lookup q8x=some ⟨qaj,qk7,.func (W.fnOf "_law_free_names" "_law_free_names" (BF JU) (A9 JU) (AO JU) .none qc5 qdr qfd qlt qgz qil),qnf⟩)
  (q38:W.codeIn K qgz "_law_free_names"=true)
  (q39:W.keepIn K (.ref q8x)=true)
  (q3a:W.nsIn K mainGlobals "_law_free_records"=some (some (.ref q8y)))
  (q3b:K.lookup q8y=some ⟨qak,qk8,.func (W.fnOf "_law_free_records" "_law_free_records" (BF JV) (A9 JV) (AO JV) .none qc6 qds qfe qlu qh0 qim),qng⟩)
  (q3c:W.codeIn K qh0 "_law_free_records"=true)
  (q3d:W.keepIn K (.ref q8y)=true)
  (q3e:W.nsIn K mainGlobals "_law_free_pieces"=some (some (.ref q8z)))
  (q3f:K.lookup q8z=some ⟨qal,qk9,.func (W.fnOf "_law_free_pieces" "_law_free_pieces" (BF JW) (A9 JW) (AO JW) .none qc7 qdt qff qlv qh1 qin),qnh⟩)
  (q3g:W.codeIn K qh1 "_law_free_pieces"=true)
  (q3h:W.keepIn K (.ref q8z)=true)
  (q3i:W.nsIn K mainGlobals "_law_copy"=some (some (.ref q90)))
  (q3j:K.lookup q90=some ⟨qam,qka,.func (W.fnOf "_law_copy" "_law_copy" (BF JX) (A9 JX) (AO JX) .none qc8 qdu qfg qlw qh2 qio),qni⟩)
  (q3k:W.codeIn K qh2 "_law_copy"=true)
  (q3l:W.keepIn K (.ref q90)=true)
  (q3m:W.nsIn K mainGlobals "faults_of_things"=some (some (.ref q91)))
  (q3n:K.lookup q91=some ⟨qan,qkb,.func (W.fnOf "faults_of_things" "faults_of_things" (BF HB) (A9 HB) (AO HB) .none qc9 qdv qfh qlx qh3 qip),qnj⟩)
  (q3o:W.codeIn K qh3 "faults_of_things"=true)
  (q3p:W.keepIn K (.ref q91)=true)
  (q3q:W.nsIn K mainGlobals "faults_of_marks"=some (some (.ref q92)))
  (q3r:K.lookup q92=some ⟨qao,qkc,.func (W.fnOf "faults_of_marks" "faults_of_marks" (BF HC) (A9 HC) (AO HC) .none qca qdw qfi qly qh4 qiq),qnk⟩)
  (q3s:W.codeIn K qh4 "faults_of_marks"=true)
  (q3t:W.keepIn K (.ref q92)=true)
  (q3u:W.nsIn K mainGlobals "leavings_of_records"=some (some (.ref q93)))
  (q3v:K.lookup q93=some ⟨qap,qkd,.func (W.fnOf "leavings_of_records" "leavings_of_records" (BF LJ) (A9 LJ) (AO LJ) .none qcb qdx qfj qlz qh5 qir),qnl⟩)
  (q3w:W.codeIn K qh5 "leavings_of_records"=true)
  (q3x:W.keepIn K (.ref q93)=true)
  (q3y:W.findIn K (.ref q8d) "read"=some (some (.ref q94)))
  (q3z:W.isFn K (.ref q94)=true)
  (q40:K.lookup q94=some ⟨qaq,qke,.func (W.fnOf "read" "Plank.read" (BF LK) (A9 LK) (AO LK) .none qcc qdy qfk qm0 qh6 qis),qnm⟩)
  (q41:W.codeIn K qh6 "Plank.read"=true)
  (q42:W.keepIn K (.ref q94)=true)
  (q43:W.findIn K (.ref q8d) "write"=some (some (.ref q95)))
  (q44:W.isFn K (.ref q95)=true)
  (q45:K.lookup q95=some ⟨qar,qkf,.func (W.fnOf "write" "Plank.write" (BF LM) (A9 LM) (AO LM) .none qcd qdz qfl qm1 qh7 qit),qnn⟩)
  (q46:W.codeIn K qh7 "Plank.write"=true)
  (q47:W.keepIn K (.ref q95)=true)
  (q48:W.findIn K (.ref q8e) "name_at"=some (some (.ref q96)))
  (q49:W.isFn K (.ref q96)=true)
  (q4a:K.lookup q96=some ⟨qas,qkg,.func (W.fnOf "name_at" "Layout.name_at" (BF LN) (A9 LN) (AO LN) .none qce qe0 qfm qm2 qh8 qiu),qno⟩)
  (q4b:W.codeIn K qh8 "Layout.name_at"=true)
  (q4c:W.keepIn K (.ref q96)=true)
  (q4d:W.findIn K (.ref q8e) "record_at"=some (some (.ref q97)))
  (q4e:W.isFn K (.ref q97)=true)
  (q4f:K.lookup q97=some ⟨qat,qkh,.func (W.fnOf "record_at" "Layout.record_at" (BF LP) (A9 LP) (AO LP) .none qcf qe1 qfn qm3 qh9 qiv),qnp⟩)
  (q4g:W.codeIn K qh9 "Layout.record_at"=true)
  (q4h:W.keepIn K (.ref q97)=true)
  (q4i:W.findIn K (.ref q8e) "piece_at"=some (some (.ref q98)))
  (q4j:W.isFn K (.ref q98)=true)
  (q4k:K.lookup q98=some ⟨qau,qki,.func (W.fnOf "piece_at" "Layout.piece_at" (BF LQ) (A9 LQ) (AO LQ) .none qcg qe2 qfo qm4 qha qiw),qnq⟩)
  (q4l:W.codeIn K qha "Layout.piece_at"=true)
  (q4m:W.keepIn K (.ref q98)=true)
  (q4n:W.findIn K (.ref q8e) "record_mark"=some (some (.ref q99)))
  (q4o:W.isFn K (.ref q99)=true)
  (q4p:K.lookup q99=some ⟨qav,qkj,.func (W.fnOf "record_mark" "Layout.record_mark" (BF LR) (A9 LR) (AO LR) .none qch qe3 qfp qm5 qhb qix),qnr⟩)
  (q4q:W.codeIn K qhb "Layout.record_mark"=true)
  (q4r:W.keepIn K (.ref q99)=true)
  (q4s:W.findIn K (.ref q8e) "piece_mark"=some (some (.ref q9a)))
  (q4t:W.isFn K (.ref q9a)=true)
  (q4u:K.lookup q9a=some ⟨qaw,qkk,.func (W.fnOf "piece_mark" "Layout.piece_mark" (BF LS) (A9 LS) (AO LS) .none qci qe4 qfq qm6 qhc qiy),qns⟩)
  (q4v:W.codeIn K qhc "Layout.piece_mark"=true)
  (q4w:W.keepIn K (.ref q9a)=true)
  (q4x:W.findIn K (.ref q8e) "blocks"=some (some (.ref q9b)))
  (q4y:W.isFn K (.ref q9b)=true)
  (q4z:K.lookup q9b=some ⟨qax,qkl,.func (W.fnOf "blocks" "Layout.blocks" (BF LT) (A9 LT) (AO LT) .none qcj qe5 qfr qm7 qhd qiz),qnt⟩)
  (q50:W.codeIn K qhd "Layout.blocks"=true)
  (q51:W.keepIn K (.ref q9b)=true)
  (q52:W.nsIn K mainGlobals "_law_names"=some (some (.ref q9c)))
  (q53:K.lookup q9c=some ⟨qay,qkm,.func (W.fnOf "_law_names" "_law_names" (BF JY) (A9 JY) (AO JY) .none qck qe6 qfs qm8 qhe qj0),qnu⟩)
  (q54:W.codeIn K qhe "_law_names"=true)
  (q55:W.keepIn K (.ref q9c)=true)
  (q56:W.nsIn K mainGlobals "_law_text"=some (some (.ref q9d)))
  (q57:K.lookup q9d=some ⟨qaz,qkn,.func (W.fnOf "_law_text" "_law_text" (BF JZ) (A9 JZ) (AO JZ) .none qcl qe7 qft qm9 qhf qj1),qnv⟩)
  (q58:W.codeIn K qhf "_law_text"=true)
  (q59:W.keepIn K (.ref q9d)=true)
  (q5a:W.nsIn K mainGlobals "_law_layout"=some (some (.ref q9e)))
  (q5b:K.lookup q9e=some ⟨qb0,qko,.func (W.fnOf "_law_layout" "_law_layout" (BF LV) (A9 LV) (AO LV) .none qcm qe8 qfu qma qhg qj2),qnw⟩)
  (q5c:W.codeIn K qhg "_law_layout"=true)
  (q5d:W.keepIn K (.ref q9e)=true)
  (q5e:W.nsIn K mainGlobals "_law_named"=some (some (.ref q9f)))
  (q5f:K.lookup q9f=some ⟨qb1,qkp,.func (W.fnOf "_law_named" "_law_named" (BF LX) (A9 LX) (AO LX) .none qcn qe9 qfv qmb qhh qj3),qnx⟩)
  (q5g:W.codeIn K qhh "_law_named"=true)
  (q5h:W.keepIn K (.ref q9f)=true)
  (q5i:W.nsIn K mainGlobals "_law_due"=some (some (.ref q9g)))
  (q5j:K.lookup q9g=some ⟨qb2,qkq,.func (W.fnOf "_law_due" "_law_due" (BF GC) (A9 GC) (AO GC) .none qco qea qfw qmc qhi qj4),qny⟩)
  (q5k:W.codeIn K qhi "_law_due"=true)
  (q5l:W.keepIn K (.ref q9g)=true)
  (q5m:W.nsIn K mainGlobals "_law_lost"=some (some (.ref q9h)))
  (q5n:K.lookup q9h=some ⟨qb3,qkr,.func (W.fnOf "_law_lost" "_law_lost" (BF J0) (A9 J0) (AO J0) .none qcp qeb qfx qmd qhj qj5),qnz⟩)
  (q5o:W.codeIn K qhj "_law_lost"=true)
  (q5p:W.keepIn K (.ref q9h)=true)
  (q5q:W.nsIn K mainGlobals "faults_in"=some (some (.ref q9i)))
  (q5r:K.lookup q9i=some ⟨qb4,qks,.func (W.fnOf "faults_in" "faults_in" (BF LZ) (A9 LZ) (AO LZ) .none qcq qec qfy qme qhk qj6),qo0⟩)
  (q5s:W.codeIn K qhk "faults_in"=true)
  (q5t:W.keepIn K (.ref q9i)=true)
  (q5u:W.nsIn K mainGlobals "leavings_in"=some (some (.ref q9j)))
  (q5v:K.lookup q9j=some ⟨qb5,qkt,.func (W.fnOf "leavings_in" "leavings_in" (BF L4) (A9 L4) (AO L4) .none qcr qed qfz qmf qhl qj7),qo1⟩)
  (q5w:W.codeIn K qhl "leavings_in"=true)
  (q5x:W.keepIn K (.ref q9j)=true)
  (q5y:W.nsIn K mainGlobals "values_at"=some (some (.ref q9k)))
  (q5z:K.lookup q9k=some ⟨qb6,qku,.func (W.fnOf "values_at" "values_at" (BF J1) (A9 J1) (AO J1) .none qcs qee qg0 qmg qhm qj8),qo2⟩)
  (q60:W.codeIn K qhm "values_at"=true)
  (q61:W.keepIn K (.ref q9k)=true)
  (q62:W.findIn K (.ref q8e) "plank"=some (some (.ref q9l)))
  (q63:W.isFn K (.ref q9l)=true)
  (q64:K.lookup q9l=some ⟨qb7,qkv,.func (W.fnOf "plank" "Layout.plank" (BF L6) (A9 L6) (AO L6) .none qct qef qg1 qmh qhn qj9),qo3⟩)
  (q65:W.codeIn K qhn "Layout.plank"=true)
  (q66:W.keepIn K (.ref q9l)=true)
  (q67:W.nsIn K mainGlobals "_law_pieces"=some (some (.ref q9m)))
  (q68:K.lookup q9m=some ⟨qb8,qkw,.func (W.fnOf "_law_pieces" "_law_pieces" (BF L7) (A9 L7) (AO L7) .none qcu qeg qg2 qmi qho qja),qo4⟩)
  (q69:W.codeIn K qho "_law_pieces"=true)
  (q6a:W.keepIn K (.ref q9m)=true)
  (q6b:W.nsIn K mainGlobals "_law_more"=some (some (.ref q9n)))
  (q6c:K.lookup q9n=some ⟨qb9,qkx,.func (W.fnOf "_law_more" "_law_more" (BF J4) (A9 J4) (AO J4) .none qcv qeh qg3 qmj qhp qjb),qo5⟩)
  (q6d:W.codeIn K qhp "_law_more"=true)
  (q6e:W.keepIn K (.ref q9n)=true)
  (q6f:W.nsIn K mainGlobals "_law_alone"=some (some (.ref q9o)))
  (q6g:K.lookup q9o=some ⟨qba,qky,.func (W.fnOf "_law_alone" "_law_alone" (BF L8) (A9 L8) (AO L8) .none qcw qei qg4 qmk qhq qjc),qo6⟩)
  (q6h:W.codeIn K qhq "_law_alone"=true)
  (q6i:W.keepIn K (.ref q9o)=true)
  (q6j:W.nsIn K mainGlobals "_law_bad_name"=some (some (.ref q9p)))
  (q6k:K.lookup q9p=some ⟨qbb,qkz,.func (W.fnOf "_law_bad_name" "_law_bad_name" (BF J5) (A9 J5) (AO J5) .none qcx qej qg5 qml qhr qjd),qo7⟩)
  (q6l:W.codeIn K qhr "_law_bad_name"=true)
  (q6m:W.keepIn K (.ref q9p)=true)
  (q6n:W.nsIn K mainGlobals "_law_bad_piece"=some (some (.ref q9q)))
  (q6o:K.lookup q9q=some ⟨qbc,ql0,.func (W.fnOf "_law_bad_piece" "_law_bad_piece" (BF J6) (A9 J6) (AO J6) .none qcy qek qg6 qmm qhs qje),qo8⟩)
  (q6p:W.codeIn K qhs "_law_bad_piece"=true)
  (q6q:W.keepIn K (.ref q9q)=true)
  (q6r:W.nsIn K mainGlobals "_law_bad_record"=some (some (.ref q9r)))
  (q6s:K.lookup q9r=some ⟨qbd,ql1,.func (W.fnOf "_law_bad_record" "_law_bad_record" (BF J8) (A9 J8) (AO J8) .none qcz qel qg7 qmn qht qjf),qo9⟩)
  (q6t:W.codeIn K qht "_law_bad_record"=true)
  (q6u:W.keepIn K (.ref q9r)=true)
  (q6v:W.nsIn K mainGlobals "_law_write"=some (some (.ref q9s)))
  (q6w:K.lookup q9s=some ⟨qbe,ql2,.func (W.fnOf "_law_write" "_law_write" (BF MA) (A9 MA) (AO MA) .none qd0 qem qg8 qmo qhu qjg),qoa⟩)
  (q6x:W.codeIn K qhu "_law_write"=true)
  (q6y:W.keepIn K (.ref q9s)=true)
  (q6z:W.findIn K (.ref q8b) "__init__"=some (some (.ref q9t)))
  (q70:W.isFn K (.ref q9t)=true)
  (q71:K.lookup q9t=some ⟨qbf,ql3,.func (W.fnOf "__init__" "View.__init__" (BF FN) (A9 FN) (AO FN) .none qd1 qen qg9 qmp qhv qjh),qob⟩)
  (q72:W.codeIn K qhv "View.__init__"=true)
  (q73:W.keepIn K (.ref q9t)=true)
  (q74:W.nsIn K mainGlobals "_law_record"=some (some (.ref q9u)))
  (q75:K.lookup q9u=some ⟨qbg,ql4,.func (W.fnOf "_law_record" "_law_record" (BF MB) (A9 MB) (AO MB) .none qd2 qeo qga qmq qhw qji),qoc⟩)
  (q76:W.codeIn K qhw "_law_record"=true)
  (q77:W.keepIn K (.ref q9u)=true)
  (q78:W.nsIn K mainGlobals "_law_fault"=some (some (.ref q9v)))
  (q79:K.lookup q9v=some ⟨qbh,ql5,.func (W.fnOf "_law_fault" "_law_fault" (BF MC) (A9 MC) (AO MC) .none qd3 qep qgb qmr qhx qjj),qod⟩)
  (q7a:W.codeIn K qhx "_law_fault"=true)
  (q7b:W.keepIn K (.ref q9v)=true)
  (q7c:W.nsIn K mainGlobals "_law_view"=some (some (.ref q9w)))
  (q7d:K.lookup q9w=some ⟨qbi,ql6,.func (W.fnOf "_law_view" "_law_view" (BF IF) (A9 IF) (AO IF) .none qd4 qeq qgc qms qhy qjk),qoe⟩)
  (q7e:W.codeIn K qhy "_law_view"=true)
  (q7f:W.keepIn K (.ref q9w)=true)
  (q7g:W.nsIn K mainGlobals "walk"=some (some (.ref q9x)))
  (q7h:K.lookup q9x=some ⟨qbj,ql7,.func (W.fnOf "walk" "walk" (BF MD) (A9 MD) (AO MD) .none qd5 qer qgd qmt qhz qjl),qof⟩)
  (q7i:W.codeIn K qhz "walk"=true)
  (q7j:W.keepIn K (.ref q9x)=true)
  (q7k:W.nsIn K mainGlobals "is_sound"=some (some (.ref q9y)))
  (q7l:K.lookup q9y=some ⟨qbk,ql8,.func (W.fnOf "is_sound" "is_sound" (BF ME) (A9 ME) (AO ME) .none qd6 qes qge qmu qi0 qjm),qog⟩)
  (q7m:W.codeIn K qi0 "is_sound"=true)
  (q7n:W.keepIn K (.ref q9y)=true)
  (q7o:W.nsIn K mainGlobals "_law_sound"=some (some (.ref q9z)))
  (q7p:K.lookup q9z=some ⟨qbl,ql9,.func (W.fnOf "_law_sound" "_law_sound" (BF MF) (A9 MF) (AO MF) .none qd7 qet qgf qmv qi1 qjn),qoh⟩)
  (q7q:W.codeIn K qi1 "_law_sound"=true)
  (q7r:W.keepIn K (.ref q9z)=true)
  (q7s:W.nsIn K mainGlobals "law"=some (some (.ref qa0)))
  (q7t:K.lookup qa0=some ⟨qbm,qla,.func (W.fnOf "law" "law" (BF GS) (A9 GS) (AO GS) .none qd8 qeu qgg qmw qi2 qjo),qoi⟩)
  (q7u:W.codeIn K qi2 "law"=true)
  (q7v:W.keepIn K (.ref qa0)=true)
  (q7w:W.findIn K (.ref q8d) "contents"=some none)
  (q7x:W.findIn K (.ref q8d) "width"=some none)
  (q7y:W.findIn K (.ref q8d) "written"=some none)
  (q7z:W.findIn K (.ref q8e) "name_blocks"=some none)
  (q80:W.findIn K (.ref q8e) "record_blocks"=some none)
  (q81:W.findIn K (.ref q8e) "piece_blocks"=some none)
  (q82:W.findIn K (.ref q8e) "width"=some none)
  (q83:W.findIn K (.ref q8b) "name_values"=some none)
  (q84:W.findIn K (.ref q8b) "record_values"=some none)
  (q85:W.findIn K (.ref q8b) "piece_values"=some none)
  (q86:W.findIn K (.ref q8b) "record_marks"=some none)
  (q87:W.findIn K (.ref q8b) "piece_marks"=some none)
  (q88:W.findIn K (.ref q8b) "leads"=some none)
  (q89:W.findIn K (.ref q8b) "namings"=some none)
  (q8a:W.findIn K (.ref q8b) "reached"=some none) :
  ∃ fd:FuncData,(∀ (s:Shared) (v:Value),BindsTo s fd ⟨[v],[]⟩ [("script",v)])/\∀ base:Heap,K.In base->base.Ns mainGlobals mg->FnOk l.prog w K mg base (DS l.prog w) 8 fa fd ["script"] (UR K):=by
 obtain⟨a,rfl,rfl,rfl,rfl⟩:=Zy q8b q8c q8d q8e
 have e:=hfa.symm.trans (W.mg_of X G q7s)
 cases e
 have T:Txt K mg a:=⟨⟨q4,q5,q6,q7⟩,⟨q8,q9,qa,qb⟩,⟨qc,qd,qe,qf⟩,W.mg_of X G q1,⟨_,W.mg_of X G q1,rfl⟩,⟨qm⟩,W.mg_none_of X G qn,W.mg_none_of X G qo,W.mg_none_of X G qp,W.mg_none_of X G qq,W.mg_none_of X G qr,W.mg_none_of X G qs,W.mg_none_of X G qt,W.mg_none_of X G qu,W.mg_none_of X G qv⟩
 have TPk:FI K a:=⟨T.OG,q7w,q7x,q7y⟩
 have TLy:D8 K a:=⟨T.D3,q7z,q80,q81,q82⟩
 have TVw:TV K a:=⟨T.HG,q83,q84,q85,q86,q87,q88,q89,q8a⟩
 have qoj:=BI (st:=JO) qy qz q10
 have qq5:=qoj.binds (ps:=["self"]) λ_ _ _ _ _ _=>C5 λ_=>rfl
 have qok:=BI (st:=JP) q13 q14 q15
 have qq6:=qok.binds (ps:=["self"]) λ_ _ _ _ _ _=>C5 λ_=>rfl
 have qol:=BI (st:=JQ) q18 q19 q1a
 have qq7:=qol.binds (ps:=["self"]) λ_ _ _ _ _ _=>C5 λ_=>rfl
 have qom:=BI (st:=K7) q1d q1e q1f
 have qq8:=qom.binds (ps:=["self","record"]) λ_ _ _ _ _ _=>us2 λ_ _=>rfl
 have qon:=BI (st:=K8) q1h q1i q1j
 have qq9:=qon.binds (ps:=["view"]) λ_ _ _ _ _ _=>C5 λ_=>rfl
 have qoo:=BI (st:=ID) q1l q1m q1n
 have qqa:=qoo.binds (ps:=["view"]) λ_ _ _ _ _ _=>C5 λ_=>rfl
 have qop:=BI (st:=IE) q1p q1q q1r
 have qqb:=qop.binds (ps:=["view"]) λ_ _ _ _ _ _=>C5 λ_=>rfl
 have qoq:=BI (st:=JR) q1t q1u q1v
 have qqc:=qoq.binds (ps:=["many","numbers"]) λ_ _ _ _ _ _=>us2 λ_ _=>rfl
 have qor:=BI (st:=LA) q1x q1y q1z
 have qqd:=qor.binds (ps:=["records"]) λ_ _ _ _ _ _=>C5 λ_=>rfl
 have qos:=BI (st:=JS) q22 q23 q24
 have qqe:=qos.binds (ps:=["self","blocks","cells"]) λ_ _ _ _ _ _=>EE λ_ _ _=>rfl
 have qot:=BI (st:=LB) q27 q28 q29
 have qqf:=qot.binds (ps:=["self","block"]) λ_ _ _ _ _ _=>us2 λ_ _=>rfl
 have qou:=BI (st:=LC) q2c q2d q2e
 have qqg:=qou.binds (ps:=["self","names","records","pieces","cells"]) λ_ _ _ _ _ _=>Zz λ_ _ _ _ _=>rfl
 have qov:=BI (st:=LD) q2h q2i q2j
 have qqh:=qov.binds (ps:=["self"]) λ_ _ _ _ _ _=>C5 λ_=>rfl
 have qow:=BI (st:=LE) q2m q2n q2o
 have qqi:=qow.binds (ps:=["self"]) λ_ _ _ _ _ _=>C5 λ_=>rfl
 have qox:=BI (st:=LF) q2r q2s q2t
 have qqj:=qox.binds (ps:=["self","block","k"]) λ_ _ _ _ _ _=>EE λ_ _ _=>rfl
 have qoy:=BI (st:=LG) q2v q2w q2x
 have qqk:=qoy.binds (ps:=["script","k"]) λ_ _ _ _ _ _=>us2 λ_ _=>rfl
 have qoz:=BI (st:=LH) q2z q30 q31
 have qql:=qoz.binds (ps:=["cell","many"]) λ_ _ _ _ _ _=>us2 λ_ _=>rfl
 have qp0:=BI (st:=LI) q33 q34 q35
 have qqm:=qp0.binds (ps:=["view"]) λ_ _ _ _ _ _=>C5 λ_=>rfl
 have qp1:=BI (st:=JU) q37 q38 q39
 have qqn:=qp1.binds (ps:=["view"]) λ_ _ _ _ _ _=>C5 λ_=>rfl
 have qp2:=BI (st:=JV) q3b q3c q3d
 have qqo:=qp2.binds (ps:=["view"]) λ_ _ _ _ _ _=>C5 λ_=>rfl
 have qp3:=BI (st:=JW) q3f q3g q3h
 have qqp:=qp3.binds (ps:=["view"]) λ_ _ _ _ _ _=>C5 λ_=>rfl
 have qp4:=BI (st:=JX) q3j q3k q3l
 have qqq:=qp4.binds (ps:=["view"]) λ_ _ _ _ _ _=>C5 λ_=>rfl
 have qp5:=BI (st:=HB) q3n q3o q3p
 have qqr:=qp5.binds (ps:=["view"]) λ_ _ _ _ _ _=>C5 λ_=>rfl
 have qp6:=BI (st:=HC) q3r q3s q3t
 have qqs:=qp6.binds (ps:=["view"]) λ_ _ _ _ _ _=>C5 λ_=>rfl
 have qp7:=BI (st:=LJ) q3v q3w q3x
 have qqt:=qp7.binds (ps:=["view"]) λ_ _ _ _ _ _=>C5 λ_=>rfl
 have qp8:=BI (st:=LK) q40 q41 q42
 have qqu:=qp8.binds (ps:=["self","block"]) λ_ _ _ _ _ _=>us2 λ_ _=>rfl
 have qp9:=BI (st:=LM) q45 q46 q47
 have qqv:=qp9.binds (ps:=["self","block","values"]) λ_ _ _ _ _ _=>EE λ_ _ _=>rfl
 have qpa:=BI (st:=LN) q4a q4b q4c
 have qqw:=qpa.binds (ps:=["self","k"]) λ_ _ _ _ _ _=>us2 λ_ _=>rfl
 have qpb:=BI (st:=LP) q4f q4g q4h
 have qqx:=qpb.binds (ps:=["self","k"]) λ_ _ _ _ _ _=>us2 λ_ _=>rfl
 have qpc:=BI (st:=LQ) q4k q4l q4m
 have qqy:=qpc.binds (ps:=["self","k"]) λ_ _ _ _ _ _=>us2 λ_ _=>rfl
 have qpd:=BI (st:=LR) q4p q4q q4r
 have qqz:=qpd.binds (ps:=["self","k"]) λ_ _ _ _ _ _=>us2 λ_ _=>rfl
 have qpe:=BI (st:=LS) q4u q4v q4w
 have qr0:=qpe.binds (ps:=["self","k"]) λ_ _ _ _ _ _=>us2 λ_ _=>rfl
 have qpf:=BI (st:=LT) q4z q50 q51
 have qr1:=qpf.binds (ps:=["self"]) λ_ _ _ _ _ _=>C5 λ_=>rfl
 have qpg:=BI (st:=JY) q53 q54 q55
 have qr2:=qpg.binds (ps:=["cell","many"]) λ_ _ _ _ _ _=>us2 λ_ _=>rfl
 have qph:=BI (st:=JZ) q57 q58 q59
 have qr3:=qph.binds (ps:=["cell"]) λ_ _ _ _ _ _=>C5 λ_=>rfl
 have qpi:=BI (st:=LV) q5b q5c q5d
 have qr4:=qpi.binds (ps:=["cell"]) λ_ _ _ _ _ _=>C5 λ_=>rfl
 have qpj:=BI (st:=LX) q5f q5g q5h
 have qr5:=qpj.binds (ps:=["view","names","r","number"]) λ_ _ _ _ _ _=>jG λ_ _ _ _=>rfl
 have qpk:=BI (st:=GC) q5j q5k q5l
 have qr6:=qpk.binds (ps:=["view"]) λ_ _ _ _ _ _=>C5 λ_=>rfl
 have qpl:=BI (st:=J0) q5n q5o q5p
 have qr7:=qpl.binds (ps:=["view","names","xs"]) λ_ _ _ _ _ _=>EE λ_ _ _=>rfl
 have qpm:=BI (st:=LZ) q5r q5s q5t
 have qr8:=qpm.binds (ps:=["view"]) λ_ _ _ _ _ _=>C5 λ_=>rfl
 have qpn:=BI (st:=L4) q5v q5w q5x
 have qr9:=qpn.binds (ps:=["view"]) λ_ _ _ _ _ _=>C5 λ_=>rfl
 have qpo:=BI (st:=J1) q5z q60 q61
 have qra:=qpo.binds (ps:=["plank","places"]) λ_ _ _ _ _ _=>us2 λ_ _=>rfl
 have qpp:=BI (st:=L6) q64 q65 q66
 have qrb:=qpp.binds (ps:=["self"]) λ_ _ _ _ _ _=>C5 λ_=>rfl
 have qpq:=BI (st:=L7) q68 q69 q6a
 have qrc:=qpq.binds (ps:=["view","xs","many"]) λ_ _ _ _ _ _=>EE λ_ _ _=>rfl
 have qpr:=BI (st:=J4) q6c q6d q6e
 have qrd:=qpr.binds (ps:=["view","names","xs"]) λ_ _ _ _ _ _=>EE λ_ _ _=>rfl
 have qps:=BI (st:=L8) q6g q6h q6i
 have qre:=qps.binds (ps:=["view","kind","xs"]) λ_ _ _ _ _ _=>EE λ_ _ _=>rfl
 have qpt:=BI (st:=J5) q6k q6l q6m
 have qrf:=qpt.binds (ps:=["view","names","xs"]) λ_ _ _ _ _ _=>EE λ_ _ _=>rfl
 have qpu:=BI (st:=J6) q6o q6p q6q
 have qrg:=qpu.binds (ps:=["view","names","xs"]) λ_ _ _ _ _ _=>EE λ_ _ _=>rfl
 have qpv:=BI (st:=J8) q6s q6t q6u
 have qrh:=qpv.binds (ps:=["view","names","xs"]) λ_ _ _ _ _ _=>EE λ_ _ _=>rfl
 have qpw:=BI (st:=MA) q6w q6x q6y
 have qri:=qpw.binds (ps:=["plank","view","cells"]) λ_ _ _ _ _ _=>EE λ_ _ _=>rfl
 have qpx:=BI (st:=FN) q71 q72 q73
 have qrj:=qpx.binds (ps:=["self","layout","plank"]) λ_ _ _ _ _ _=>EE λ_ _ _=>rfl
 have qpy:=BI (st:=MB) q75 q76 q77
 have qrk:=qpy.binds (ps:=["view","names","xs","with_name"]) λ_ _ _ _ _ _=>jG λ_ _ _ _=>rfl
 have qpz:=BI (st:=MC) q79 q7a q7b
 have qrl:=qpz.binds (ps:=["view","names","xs"]) λ_ _ _ _ _ _=>EE λ_ _ _=>rfl
 have qq0:=BI (st:=IF) q7d q7e q7f
 have qrm:=qq0.binds (ps:=["cells","sizes","names"]) λ_ _ _ _ _ _=>EE λ_ _ _=>rfl
 have qq1:=BI (st:=MD) q7h q7i q7j
 have qrn:=qq1.binds (ps:=["layout","plank"]) λ_ _ _ _ _ _=>us2 λ_ _=>rfl
 have qq2:=BI (st:=ME) q7l q7m q7n
 have qro:=qq2.binds (ps:=["layout","plank"]) λ_ _ _ _ _ _=>us2 λ_ _=>rfl
 have qq3:=BI (st:=MF) q7p q7q q7r
 have qrp:=qq3.binds (ps:=["layout","plank","due"]) λ_ _ _ _ _ _=>EE λ_ _ _=>rfl
 have qq4:=BI (st:=GS) q7t q7u q7v
 have qrq:=qq4.binds (ps:=["script"]) λ_ _ _ _ _ _=>C5 λ_=>rfl
 refine⟨W.fnOf "law" "law" (BF GS) (A9 GS) (AO GS) .none qd8 qeu qgg qmw qi2 qjo,λs v=>.of_eq rfl,λbase _ _=> ?_⟩
 have qrr:=Um l.prog w base T qoj
 have qrs:=Uq l.prog w base T qok
 have qrt:=Uw l.prog w base T qol
 have qru:=Uy l.prog w base T qom
 have qrv:=Uz l.prog w base T qon
 have qrw:=Vb l.prog w base T qoo
 have qrx:=Vc l.prog w base T qop
 have qry:=Vd l.prog w base T qoq
 have qrz:=Vg l.prog w base T qor
 have qs0:=Vj l.prog w base T qos
 have qs1:=Vl l.prog w base T qot
 have qs2:=Vp l.prog w base T qou
 have qs3:=Vv l.prog w base T qov
 have qs4:=Vy l.prog w base T qow
 have qs5:=Wb l.prog w base T qox
 have qs6:=Wd l.prog w base T qoy
 have qs7:=Wg l.prog w base T qoz
 have qs8:=Wh l.prog w base T qp0
 have qs9:=Wk l.prog w base T qp1
 have qsa:=Wm l.prog w base T qp2
 have qsb:=Wq l.prog w base T qp3
 have qsc:=Ww l.prog w base T qp4
 have qsd:=Wx l.prog w base T qp5 ⟨_,_,qrt,⟨q16,q17,q1a⟩,qq7⟩ ⟨_,_,qrs,⟨q11,q12,q15⟩,qq6⟩ ⟨_,_,qru,⟨q1b,q1c,q1f⟩,qq8⟩
 have qse:=Wy l.prog w base T qp6 ⟨_,_,qrt,⟨q16,q17,q1a⟩,qq7⟩
 have qsf:=Wz l.prog w base T qp7 ⟨_,_,qrs,⟨q11,q12,q15⟩,qq6⟩ ⟨_,_,qru,⟨q1b,q1c,q1f⟩,qq8⟩
 have qsg:=Xc l.prog w base T qp8 ⟨_,_,qs1,⟨q25,q26,q29⟩,qqf⟩
 have qsh:=Xg l.prog w base T qp9 ⟨_,_,qs1,⟨q25,q26,q29⟩,qqf⟩
 have qsi:=Xj l.prog w base T qpa ⟨_,_,qs5,⟨q2p,q2q,q2t⟩,qqj⟩
 have qsj:=Xl l.prog w base T qpb ⟨_,_,qs5,⟨q2p,q2q,q2t⟩,qqj⟩
 have qsk:=Xp l.prog w base T qpc ⟨_,_,qs5,⟨q2p,q2q,q2t⟩,qqj⟩
 have qsl:=Xv l.prog w base T qpd ⟨_,_,qs4,⟨q2k,q2l,q2o⟩,qqi⟩ ⟨_,_,qs5,⟨q2p,q2q,q2t⟩,qqj⟩
 have qsm:=Xx l.prog w base T qpe ⟨_,_,qs4,⟨q2k,q2l,q2o⟩,qqi⟩ ⟨_,_,qs5,⟨q2p,q2q,q2t⟩,qqj⟩
 have qsn:=Xz l.prog w base T qpf ⟨_,_,qs4,⟨q2k,q2l,q2o⟩,qqi⟩
 have qso:=Yb l.prog w base T qpg ⟨_,_,qs7,W.mg_of X G q2y,q31,qql⟩
 have qsp:=Yc l.prog w base T qph ⟨_,_,qs7,W.mg_of X G q2y,q31,qql⟩
 have qsq:=Yd l.prog w base T qpi ⟨_,_,qs7,W.mg_of X G q2y,q31,qql⟩
 have qsr:=Yg l.prog w base T qpj ⟨_,_,qs9,W.mg_of X G q36,q39,qqn⟩
 have qss:=Yh l.prog w base T qpk ⟨_,_,qs8,W.mg_of X G q32,q35,qqm⟩
 have qst:=Yj l.prog w base T qpl ⟨_,_,qs9,W.mg_of X G q36,q39,qqn⟩
 have qsu:=Yl l.prog w base T qpm ⟨_,_,qrv,W.mg_of X G q1g,q1j,qq9⟩ ⟨_,_,qsd,W.mg_of X G q3m,q3p,qqr⟩ ⟨_,_,qse,W.mg_of X G q3q,q3t,qqs⟩
 have qsv:=Yp l.prog w base T qpn ⟨_,_,qsf,W.mg_of X G q3u,q3x,qqt⟩ ⟨_,_,qrw,W.mg_of X G q1k,q1n,qqa⟩ ⟨_,_,qrx,W.mg_of X G q1o,q1r,qqb⟩
 have qsw:=Yv l.prog w base T qpo ⟨_,_,qsg,⟨q3y,q3z,q42⟩,qqu⟩
 have qsx:=Yx l.prog w base T qpp ⟨_,_,qsn,⟨q4x,q4y,q51⟩,qr1⟩ ⟨_,_,qs0,⟨qi,q20,q21,qj⟩,W.mg_of X G q2,qqe⟩
 have qsy:=Yy l.prog w base T qpq ⟨_,_,qsb,W.mg_of X G q3e,q3h,qqp⟩ ⟨_,_,qsp,W.mg_of X G q56,q59,qr3⟩
 have qsz:=Yz l.prog w base T qpr ⟨_,_,qs8,W.mg_of X G q32,q35,qqm⟩ ⟨_,_,qs9,W.mg_of X G q36,q39,qqn⟩ ⟨_,_,qsr,W.mg_of X G q5e,q5h,qr5⟩
 have qt0:=Zb l.prog w base T qps ⟨_,_,qsa,W.mg_of X G q3a,q3d,qqo⟩ ⟨_,_,qsb,W.mg_of X G q3e,q3h,qqp⟩ ⟨_,_,qsp,W.mg_of X G q56,q59,qr3⟩
 have qt1:=Zc l.prog w base T qpt ⟨_,_,qs9,W.mg_of X G q36,q39,qqn⟩ ⟨_,_,qst,W.mg_of X G q5m,q5p,qr7⟩
 have qt2:=Zd l.prog w base T qpu ⟨_,_,qst,W.mg_of X G q5m,q5p,qr7⟩
 have qt3:=Zg l.prog w base T qpv ⟨_,_,qs8,W.mg_of X G q32,q35,qqm⟩ ⟨_,_,qst,W.mg_of X G q5m,q5p,qr7⟩
 have qt4:=Zh l.prog w base T qpw ⟨_,_,qsh,⟨q43,q44,q47⟩,qqv⟩
 have qt5:=Zj l.prog w base T qpx ⟨_,_,qs3,⟨q2f,q2g,q2j⟩,qqh⟩ ⟨_,_,qsi,⟨q48,q49,q4c⟩,qqw⟩ ⟨_,_,qsw,W.mg_of X G q5y,q61,qra⟩ ⟨_,_,qsj,⟨q4d,q4e,q4h⟩,qqx⟩ ⟨_,_,qsk,⟨q4i,q4j,q4m⟩,qqy⟩ ⟨_,_,qsl,⟨q4n,q4o,q4r⟩,qqz⟩ ⟨_,_,qsm,⟨q4s,q4t,q4w⟩,qr0⟩ ⟨_,_,qry,W.mg_of X G q1s,q1v,qqc⟩ ⟨_,_,qrz,W.mg_of X G q1w,q1z,qqd⟩ ⟨_,_,qrr,⟨qw,qx,q10⟩,qq5⟩
 have qt6:=Zk l.prog w base T qpy ⟨_,_,qsa,W.mg_of X G q3a,q3d,qqo⟩ ⟨_,_,qs9,W.mg_of X G q36,q39,qqn⟩ ⟨_,_,qsy,W.mg_of X G q67,q6a,qrc⟩ ⟨_,_,qsr,W.mg_of X G q5e,q5h,qr5⟩
 have qt7:=Zl l.prog w base T qpz ⟨_,_,qst,W.mg_of X G q5m,q5p,qr7⟩ ⟨_,_,qt1,W.mg_of X G q6j,q6m,qrf⟩ ⟨_,_,qt2,W.mg_of X G q6n,q6q,qrg⟩ ⟨_,_,qt3,W.mg_of X G q6r,q6u,qrh⟩
 have qt8:=Zm l.prog w base T qq0 ⟨_,_,qs7,W.mg_of X G q2y,q31,qql⟩ ⟨_,_,qt6,W.mg_of X G q74,q77,qrk⟩ ⟨_,_,qsz,W.mg_of X G q6b,q6e,qrd⟩ ⟨_,_,qt0,W.mg_of X G q6f,q6i,qre⟩
 have qt9:=Zp l.prog w base T qq1 ⟨_,_,qt5,⟨qk,q6z,q70,ql⟩,W.mg_of X G q0,qrj⟩ ⟨_,_,qsu,W.mg_of X G q5q,q5t,qr8⟩ ⟨_,_,qsv,W.mg_of X G q5u,q5x,qr9⟩
 have qta:=Zv l.prog w base T qq2 ⟨_,_,qt5,⟨qk,q6z,q70,ql⟩,W.mg_of X G q0,qrj⟩ ⟨_,_,qsu,W.mg_of X G q5q,q5t,qr8⟩
 have qtb:=Zw l.prog w base T qq3 ⟨_,_,qt9,W.mg_of X G q7g,q7j,qrn⟩ ⟨_,_,qta,W.mg_of X G q7k,q7n,qro⟩
 have qtc:=Zx l.prog w base T qq4 ⟨_,_,qs6,W.mg_of X G q2u,q2x,qqk⟩ ⟨_,_,qsq,W.mg_of X G q5a,q5d,qr4⟩ ⟨_,_,qso,W.mg_of X G q52,q55,qr2⟩ ⟨_,_,qt8,W.mg_of X G q7c,q7f,qrm⟩ ⟨_,_,qs2,⟨qg,q2a,q2b,qh⟩,W.mg_of X G q3,qqg⟩ ⟨_,_,qsx,⟨q62,q63,q66⟩,qrb⟩ ⟨_,_,qt4,W.mg_of X G q6v,q6y,qri⟩ ⟨_,_,qss,W.mg_of X G q5i,q5l,qr6⟩ ⟨_,_,qtb,W.mg_of X G q7o,q7r,qrp⟩ ⟨_,_,qsc,W.mg_of X G q3i,q3l,qqq⟩ ⟨_,_,qs7,W.mg_of X G q2y,q31,qql⟩ ⟨_,_,qt7,W.mg_of X G q78,q7b,qrl⟩ ⟨_,_,qt9,W.mg_of X G q7g,q7j,qrn⟩ ⟨_,_,qta,W.mg_of X G q7k,q7n,qro⟩
 exact qtc.imp (λvs H Q E ⟨s,ns,e,hs,hn,q⟩=>⟨s,ns,e,TVw,TLy,TPk,hs,hn,q⟩)
theorem walk{l:W.OpenLaw}{q:Program}{loose:List Str}{XP:(Str->Option Value)->Heap->Prop}{YP:World->Heap->Prop}{d:DefRec}{K:Params->W.Frag}(hn:l.most=some 63)(hdf:d.params.defaults=[])
  (hY:∀ (w:World) (h:Heap),YP w h->(K w.params).In h)
  (F:∀ (w:World) (mg:Str->Option Value) (fa:Addr) (h:Heap),(K w.params).In h->h.Ns mainGlobals mg->mg d.name=some (.ref fa) →
   ∃ fd:FuncData,(∀ (s:Shared) (u:Value),BindsTo s fd ⟨[u],[]⟩ [("script",u)])/\∀ base:Heap,(K w.params).In base->base.Ns mainGlobals mg->FnOk l.prog w (K w.params) mg base (DS l.prog w) 8 fa fd ["script"] (UR (K w.params))) :
  W.WalkO q loose XP YP l.row.toRowW d [] (λf vs=>PySem.call f vs) :=
 L2.walk_of (n:=63) (k:=8) (x:="script") (CX:=λw=>DS l.prog w) (sp:=λw=>UR (K w.params)) hn (by decide) hdf ⟨rfl,by decide,by decide⟩ hY F (λ_ _ a ns hl _ hS=>⟨a,ns,rfl,hS,hl,λ_=>rfl⟩) λ_ _ _ _ _ z=>XD z
end L2
namespace PySem.W.Fast
def tw1665842077606539362:=()
def tw12568660262686522612:=()
def tw10271119307723474633:=()
def tw6575342320683048064:=()
def tw15641090335101404963:=()
def tw10647097749546694996:=()
def tw3827863511260383395:=()
def tw416370062415204688:=()
def tw5003369487218113554:=()
def tw10856377298843538910:=()
def tw15053255894629674313:=()
def tw17935869177123731395:=()
def tw13091669441094022985:=()
def tw16408421203290155008:=()
def tw419273294798017067:=()
def tw9603082605288784527:=()
def tw14185496320868985204:=()
def tw4526243645411897378:=()
def tw16945526432762331599:=()
def tw1251939083932840762:=()
def tw5984237051146841069:=()
def tw10873042813631535541:=()
def tw14721853137244230211:=()
def tw17130218385700635888:=()
def tw15684330013366762623:=()
def tw171232760222051711:=()
def tw653280639140270862:=()
def tw9410684392460269503:=()
def tw18091278208251448212:=()
def tw4656668873792984117:=()
def tw1621329715371802650:=()
def tw5687518579012767984:=()
def tw3269944661707326601:=()
def tw11190996369996513363:=()
def tw4155012166786116060:=()
def tw893473643146606089:=()
def tw11873559121190155315:=()
def tw1401571385825863646:=()
def tw1327663186852406140:=()
def tw2530439362929408146:=()
def tw16943703282326015908:=()
def tw6388379758745467509:=()
def tw14379878513872899232:=()
def tw3029147249741107758:=()
def tw13924843826419683756:=()
def tw4896124417734365361:=()
def tw10754406389602191868:=()
def tw8372585667574776433:=()
def tw12829334264749380795:=()
def tw14175506568002473560:=()
def tw9828723076016264835:=()
def tw7709602906513457594:=()
def tw6161691464552186887:=()
def tw9946744138394059515:=()
def tw5914663032129407123:=()
def tw6502883124703260589:=()
def tw8893745057957817595:=()
def tw6242798421136920267:=()
def tw1393810661727456832:=()
def tw17459980864648577833:=()
def tw9952809696043671653:=()
def tw5520932827043549379:=()
def tw9765136343893921116:=()
def tw13371091530648386637:=()
def tw17121479165214434933:=()
def tw16757964068513310920:=()
def tw11311905610722971011:=()
def tw4576217807402410863:=()
def tw14624466727032421801:=()
def tw2228617930000927889:=()
def tw17554143237879373485:=()
def tw16866129872110717059:=()
def tw12558588995975947928:=()
def tw15703905408047410758:=()
def tw18441846177239863472:=()
def tw14011608277770737980:=()
def tw4171085311821213451:=()
def tw15893158276580818663:=()
def tw1657583211031178248:=()
def tw1258662424595534144:=()
def tw1323238690597648950:=()
def tw9059703586309500240:=()
def tw14151143214955658775:=()
def tw17033891820761134178:=()
def tw5972812311152784320:=()
def tw10984763365653010148:=()
def tw2807675415039906055:=()
def tw15851994774497494197:=()
def tw8843378883093544853:=()
def tw17297292255029261014:=()
def tw4239301109206900602:=()
def tw15320320890492207654:=()
def tw2871265740466463112:=()
def tw16698281479888110281:=()
def tw8353322849321496615:=()
def tw12891643976587628320:=()
def tw3188075675351822598:=()
def tw11925823718270396768:=()
def tw18404120201377192237:=()
def tw17836482385089050522:=()
def tw17201410863047897236:=()
def tw18390302079078257273:=()
def tw17312397829466006379:=()
def tw4036896743361220328:=()
def tw9149445916593318306:=()
def tw11909857090257962345:=()
def tw8766360018444038410:=()
def tw6556968175122260523:=()
def tw6627563769333858627:=()
def tw12826574545930932669:=()
def tw14160356369895941052:=()
def tw4782704589761727915:=()
def tw11642274657414474115:=()
def tw17258681401834665952:=()
def tw3851835964098996770:=()
def tw11883840056504255333:=()
def tw7651041191825269639:=()
def tw12235418987737226686:=()
def tw3480846074266242510:=()
def tw10667614445257437074:=()
def tw8182118086973750799:=()
def tw3955103035261564845:=()
def tw15209686336739711300:=()
def tw18419321454630403527:=()
def tw13901014101105946449:=()
def tw16569548733327540667:=()
def tw707041458086679605:=()
def tw11413943356128667296:=()
def tw18425001441616713495:=()
def tw7445639877382991515:=()
def tw11723313943265150901:=()
def tw10406296822245814434:=()
def tw4316036693980219852:=()
def tw4969876600055523480:=()
def tw16463654032870176941:=()
def tw18014498785987156483:=()
def tw11620698288485907112:=()
def tw16676987039723817899:=()
def tw3611115166700820756:=()
def tw17302124905834944812:=()
def tw1995030777918962463:=()
def tw441357116544686782:=()
def tw1378404622955240098:=()
def tw17924189810573697008:=()
def tw3298079860345491623:=()
def tw15797821777788950345:=()
def tw9385126879439226403:=()
def tw2943051920089364406:=()
def tw9145260788174690757:=()
def tw7447115593373645936:=()
def tw365875768681364647:=()
def tw3442997530076442188:=()
def tw1921471192081548085:=()
def tw1345347814815727684:=()
def tw4969809342887741460:=()
def tw2920384310899830468:=()
def tw11813356113381044809:=()
def tw12762457759104059622:=()
def tw12718576603330033484:=()
def tw11621261964254983020:=()
def tw318667067675842128:=()
def tw11165078724410289618:=()
def tw7775269358097374724:=()
def tw18208978322213826287:=()
def tw1130970164764948150:=()
def tw43566692958802167:=()
def tw17677679394603706088:=()
def tw13051904071808769312:=()
def tw17927717720824599159:=()
def tw5943350041541033006:=()
def tw3478996379737231067:=()
def tw2570702741732042956:=()
def tw5785348768390376498:=()
def tw6991819983753518613:=()
def tw10258147576983817956:=()
def tw5415779176832981810:=()
def tw18093241439281643575:=()
def tw12342050435912138605:=()
def tw9060652234111878497:=()
def tw17124455107847452252:=()
def tw9177977289937303938:=()
def tw15042075427919265467:=()
def tw14662788564706324704:=()
def tw730738368254155877:=()
def tw7475602820668572294:=()
def tw17321300954824547292:=()
def tw15991189139223268142:=()
def tw3505242718481732110:=()
def tw18141679139331226237:=()
def tw11665311651798434449:=()
def tw14433487337046051488:=()
def tw16802271165717810966:=()
def tw10890681386634427913:=()
def tw13390942179616865307:=()
def tw15280948934158581383:=()
def tw9680049064683270616:=()
def tw6248454267083356139:=()
def tw10248992744774280083:=()
def tw18267236563240581909:=()
def tw1670233084421318259:=()
def tw9933508268804812414:=()
def tw4401468132927578261:=()
def tw6087884161884434867:=()
def tw10836976064990573765:=()
def tw16145873354064393766:=()
def tw17616911971395015213:=()
def tw5673383134548308098:=()
def tw378758422977062127:=()
def tw6694651630380774476:=()
def tw12581828510371076277:=()
def tw3571498917383064826:=()
def tw5466392515511291894:=()
def tw13559866503704934524:=()
def tw3869717273987557726:=()
def tw13780964496960699612:=()
def tw8371446011987824256:=()
def tw23496349604231252:=()
def tw2005615340119641156:=()
def tw17214244566077551989:=()
def tw76929609194525815:=()
def tw6608512486550656559:=()
def tw4529545533815814084:=()
def tw2134484132377819727:=()
def tw12088881002581351652:=()
def tw7772565607521625956:=()
def tw13349132686476529530:=()
def tw11431698476274404965:=()
def tw16068004230696287081:=()
def tw17873213548308843344:=()
def tw7679835373940517225:=()
def tw2514344821956872722:=()
def tw1740724495283517026:=()
def tw8769653236157184757:=()
def tw16726760113520472360:=()
def tw5358901571278987102:=()
def tw14852522937470172929:=()
def tw12520521266108187873:=()
def tw14547725250780457380:=()
def tw414567103644184186:=()
def tw6088017612521718311:=()
def tw5534154208386614401:=()
def tw14383323565049168083:=()
def tw14469594433017467340:=()
def tw15568374314261071449:=()
def tw2221064677466077469:=()
def tw11867012147326729126:=()
def tw17985239838610534485:=()
def tw12780223552338035416:=()
def tw574112335381518077:=()
def tw5804666731804142305:=()
def tw3785955722021453208:=()
def tw12949271310028919788:=()
def tw11263999152005618362:=()
def tw982666722340647128:=()
def tw6160675821555683733:=()
def tw12676111778583277610:=()
def tw11768814804205791299:=()
def tw5619310715767523467:=()
def tw1729028445940237719:=()
def tw7453222113910017205:=()
def tw5187840636515140373:=()
def tw6672000050727861584:=()
def tw13576328549277120162:=()
def tw14558034393477876005:=()
def tw18035759136333163424:=()
def tw17295973369396398182:=()
def tw169021156188736904:=()
def tw7450790614401413334:=()
def tw11381065304789729833:=()
def tw10620635894885924804:=()
def tw6939942503664816424:=()
def tw7560232679501170897:=()
def tw15212524819525721536:=()
def tw8263871158966156821:=()
def tw7429689817068925942:=()
def tw7592261605998970485:=()
def tw10280700275245360990:=()
def tw9855610137952288916:=()
def tw15476781836921723357:=()
def tw6325042105891282795:=()
def tw6382234458816471261:=()
def tw17438430014371209165:=()
def tw11275298823173163982:=()
def tw15802908720933329155:=()
def tw14446573528843091039:=()
def tw7520688488460347834:=()
def tw18182652585245238419:=()
def tw12312563460296912856:=()
def tw16384861822523129527:=()
def tw1596228882346583822:=()
def tw2478875978670399317:=()
def tw17468478860404745345:=()
def tw14674069997893391770:=()
def tw7456660867877167904:=()
def tw17930262297964994603:=()
def tw13704666134811258224:=()
def tw13647962535770262746:=()
def tw6659107836021933584:=()
def tw15018272657519600376:=()
def tw16776716534278103472:=()
def tw8449003204382375575:=()
def tw6156096816667537194:=()
def tw11076162614365388485:=()
def tw18293445312552123614:=()
def tw15482961145379751747:=()
def tw6784938247025008139:=()
def tw14819521918119120520:=()
def tw11087807902684075469:=()
def tw17107052653946784451:=()
def tw8696763615479799845:=()
def tw7979489495270958933:=()
def tw10869527830113242647:=()
def tw12184862048195052170:=()
def tw2355570744439116693:=()
def tw17946147827947561972:=()
def tw11270068180140610630:=()
def tw8679754778220106069:=()
def tw12011839214884718605:=()
def tw18085402108596227668:=()
def tw9545182056901261388:=()
def tw9610379481462815446:=()
def tw6861714248335958052:=()
def tw8971140948553361268:=()
def tw3921821229734202746:=()
def tw11580104743528315293:=()
def tw13083431459530909657:=()
def tw4432896624994960055:=()
def tw15498247431379087105:=()
def tw8254834058420818686:=()
def tw16369679706232799757:=()
def tw13128075368963862958:=()
def tw11180793299695578908:=()
def tw17230939366903582596:=()
def tw17504733244015696766:=()
def tw13759143874326931738:=()
def tw8969591333731227164:=()
def tw15061438980763903907:=()
def tw6335226170115321309:=()
def tw13619878899649475162:=()
def tw2789535633077557136:=()
def tw15766195887053377920:=()
def tw9349014787029553960:=()
def tw5804305653943388803:=()
def tw14137359187677490963:=()
def tw15987335720537866623:=()
def tw11736976155534143611:=()
def tw2653082330844516379:=()
def tw2131547185300034405:=()
def tw6874242251125983144:=()
def tw15870692101800052894:=()
def tw12694978703089574067:=()
def tw9625126927762037026:=()
def tw3081861464937481114:=()
def tw8008883201194009798:=()
def tw4123286199909430268:=()
def tw8737009596386355340:=()
def tw16175997536543516236:=()
def tw14819637604492011550:=()
def tw6951914391771945401:=()
def tw1064991422942231648:=()
def tw4256230630370406493:=()
def tw12815552045822998814:=()
def tw11982381761484737365:=()
def tw9049240996213183166:=()
def tw11576550550092329731:=()
def tw9678126643580975219:=()
def tw4518741329393634766:=()
def tw2594523401839737161:=()
def tw2467845217874660414:=()
def tw6502006680275648008:=()
def tw11594638798814531494:=()
def tw9448094172741806815:=()
def tw11631698612877505865:=()
def tw14641176374411338575:=()
def tw13870888005474301581:=()
def tw14759305571572704156:=()
def tw13518299208119205682:=()
def tw16751352836328093760:=()
def tw9252688382904738926:=()
def tw7791916162716614064:=()
def tw293753554769567217:=()
def tw5363945942345172358:=()
def tw16253914614005442439:=()
def tw38400038795860728:=()
def tw16955602889429202009:=()
def tw7355057228431805252:=()
def tw9614150792736990259:=()
def tw9769364318876252609:=()
def tw15383704033918022896:=()
def tw6111445729633381135:=()
def tw18103840259304830098:=()
def tw4078197070218490335:=()
def tw11788523051735964908:=()
def tw3737848239984562077:=()
def tw11138991759606041907:=()
def tw13959859179916461745:=()
def tw12850354694675710147:=()
def tw14215732720817502519:=()
def tw17383133912923697435:=()
def tw3932200504501611609:=()
def tw13584569485443861297:=()
def tw15566172635974737461:=()
def tw8086599038260256476:=()
def tw15225904332935871794:=()
def tw6904265206733153193:=()
def tw581685099281422754:=()
def tw15269301667789392157:=()
def tw7021668290541627126:=()
def tw16050739697082002078:=()
def tw4211453663227376281:=()
def tw7486595286622728436:=()
def tw5756486844688243813:=()
end PySem.W.Fast
open PySem PySem.W PyProof.Rows
set_option Elab.async false
set_option maxRecDepth 100000 in
set_option maxHeartbeats 0 in
theorem PySem.Challenge.cw_holdback_k52_sound_and_one_fault_holds : PySem.Challenge.rw_holdback_k52_sound_and_one_fault.Holds := by
 w_on;o_law;k_head;(case hw=>w_witness2)
 k_fill
 refine L2.walk (l:=PySem.Challenge.rw_holdback_k52_sound_and_one_fault) rfl rfl (λw h Y=>PySem.W.kIn_of Y) ?F
 case F =>
  intro w mg fa h KX G hmg
  refine' L2.all_mk KX G hmg ?q0 ?q1 ?q2 ?q3 ?q4 ?q5 ?q6 ?q7 ?q8 ?q9 ?qa ?qb ?qc ?qd ?qe ?qf ?qg ?qh ?qi ?qj ?qk ?ql ?qm ?qn ?qo ?qp ?qq ?qr ?qs ?qt ?qu ?qv ?qw ?qx ?qy ?qz ?q10 ?q11 ?q12 ?q13 ?q14 ?q15 ?q16 ?q17 ?q18 ?q19 ?q1a ?q1b ?q1c ?q1d ?q1e ?q1f ?q1g ?q1h ?q1i ?q1j ?q1k ?q1l ?q1m ?q1n ?q1o ?q1p ?q1q ?q1r ?q1s ?q1t ?q1u ?q1v ?q1w ?q1x ?q1y ?q1z ?q20 ?q21 ?q22 ?q23 ?q24 ?q25 ?q26 ?q27 ?q28 ?q29 ?q2a ?q2b ?q2c ?q2d ?q2e ?q2f ?q2g ?q2h ?q2i ?q2j ?q2k ?q2l ?q2m ?q2n ?q2o ?q2p ?q2q ?q2r ?q2s ?q2t ?q2u ?q2v ?q2w ?q2x ?q2y ?q2z ?q30 ?q31 ?q32 ?q33 ?q34 ?q35 ?q36 ?q37 ?q38 ?q39 ?q3a ?q3b ?q3c ?q3d ?q3e ?q3f ?q3g ?q3h ?q3i ?q3j ?q3k ?q3l ?q3m ?q3n ?q3o ?q3p ?q3q ?q3r ?q3s ?q3t ?q3u ?q3v ?q3w ?q3x ?q3y ?q3z ?q40 ?q41 ?q42 ?q43 ?q44 ?q45 ?q46 ?q47 ?q48 ?q49 ?q4a ?q4b ?q4c ?q4d ?q4e ?q4f ?q4g ?q4h ?q4i ?q4j ?q4k ?q4l ?q4m ?q4n ?q4o ?q4p ?q4q ?q4r ?q4s ?q4t ?q4u ?q4v ?q4w ?q4x ?q4y ?q4z ?q50 ?q51 ?q52 ?q53 ?q54 ?q55 ?q56 ?q57 ?q58 ?q59 ?q5a ?q5b ?q5c ?q5d ?q5e ?q5f ?q5g ?q5h ?q5i ?q5j ?q5k ?q5l ?q5m ?q5n ?q5o ?q5p ?q5q ?q5r ?q5s ?q5t ?q5u ?q5v ?q5w ?q5x ?q5y ?q5z ?q60 ?q61 ?q62 ?q63 ?q64 ?q65 ?q66 ?q67 ?q68 ?q69 ?q6a ?q6b ?q6c ?q6d ?q6e ?q6f ?q6g ?q6h ?q6i ?q6j ?q6k ?q6l ?q6m ?q6n ?q6o ?q6p ?q6q ?q6r ?q6s ?q6t ?q6u ?q6v ?q6w ?q6x ?q6y ?q6z ?q70 ?q71 ?q72 ?q73 ?q74 ?q75 ?q76 ?q77 ?q78 ?q79 ?q7a ?q7b ?q7c ?q7d ?q7e ?q7f ?q7g ?q7h ?q7i ?q7j ?q7k ?q7l ?q7m ?q7n ?q7o ?q7p ?q7q ?q7r ?q7s ?q7t ?q7u ?q7v ?q7w ?q7x ?q7y ?q7z ?q80 ?q81 ?q82 ?q83 ?q84 ?q85 ?q86 ?q87 ?q88 ?q89 ?q8a
  (case q0=>k_is)
  (case q1=>k_is)
  (case q2=>k_is)
  (case q3=>k_is)
  (case q4=>k_is)
  (case q5=>k_is)
  (case q6=>k_is)
  (case q7=>k_is)
  (case q8=>k_is)
  (case q9=>k_is)
  (case qa=>k_is)
  (case qb=>k_is)
  (case qc=>k_is)
  (case qd=>k_is)
  (case qe=>k_is)
  (case qf=>k_is)
  (case qg=>k_is)
  (case qh=>k_is)
  (case qi=>k_is)
  (case qj=>k_is)
  (case qk=>k_is)
  (case ql=>k_is)
  (case qm=>k_exc)
  (case qn=>k_is)
  (case qo=>k_is)
  (case qp=>k_is)
  (case qq=>k_is)
  (case qr=>k_is)
  (case qs=>k_is)
  (case qt=>k_is)
  (case qu=>k_is)
  (case qv=>k_is)
  (case qw=>k_is)
  (case qx=>k_is)
  (case qy=>k_is)
  (case qz=>k_is)
  (case q10=>k_is)
  (case q11=>k_is)
  (case q12=>k_is)
  (case q13=>k_is)
  (case q14=>k_is)
  (case q15=>k_is)
  (case q16=>k_is)
  (case q17=>k_is)
  (case q18=>k_is)
  (case q19=>k_is)
  (case q1a=>k_is)
  (case q1b=>k_is)
  (case q1c=>k_is)
  (case q1d=>k_is)
  (case q1e=>k_is)
  (case q1f=>k_is)
  (case q1g=>k_is)
  (case q1h=>k_is)
  (case q1i=>k_is)
  (case q1j=>k_is)
  (case q1k=>k_is)
  (case q1l=>k_is)
  (case q1m=>k_is)
  (case q1n=>k_is)
  (case q1o=>k_is)
  (case q1p=>k_is)
  (case q1q=>k_is)
  (case q1r=>k_is)
  (case q1s=>k_is)
  (case q1t=>k_is)
  (case q1u=>k_is)
  (case q1v=>k_is)
  (case q1w=>k_is)
  (case q1x=>k_is)
  (case q1y=>k_is)
  (case q1z=>k_is)
  (case q20=>k_is)
  (case q21=>k_is)
  (case q22=>k_is)
  (case q23=>k_is)
  (case q24=>k_is)
  (case q25=>k_is)
  (case q26=>k_is)
  (case q27=>k_is)
  (case q28=>k_is)
  (case q29=>k_is)
  (case q2a=>k_is)
  (case q2b=>k_is)
  (case q2c=>k_is)
  (case q2d=>k_is)
  (case q2e=>k_is)
  (case q2f=>k_is)
  (case q2g=>k_is)
  (case q2h=>k_is)
  (case q2i=>k_is)
  (case q2j=>k_is)
  (case q2k=>k_is)
  (case q2l=>k_is)
  (case q2m=>k_is)
  (case q2n=>k_is)
  (case q2o=>k_is)
  (case q2p=>k_is)
  (case q2q=>k_is)
  (case q2r=>k_is)
  (case q2s=>k_is)
  (case q2t=>k_is)
  (case q2u=>k_is)
  (case q2v=>k_is)
  (case q2w=>k_is)
  (case q2x=>k_is)
  (case q2y=>k_is)
  (case q2z=>k_is)
  (case q30=>k_is)
  (case q31=>k_is)
  (case q32=>k_is)
  (case q33=>k_is)
  (case q34=>k_is)
  (case q35=>k_is)
  (case q36=>k_is)
  (case q37=>k_is)
  (case q38=>k_is)
  (case q39=>k_is)
  (case q3a=>k_is)
  (case q3b=>k_is)
  (case q3c=>k_is)
  (case q3d=>k_is)
  (case q3e=>k_is)
  (case q3f=>k_is)
  (case q3g=>k_is)
  (case q3h=>k_is)
  (case q3i=>k_is)
  (case q3j=>k_is)
  (case q3k=>k_is)
  (case q3l=>k_is)
  (case q3m=>k_is)
  (case q3n=>k_is)
  (case q3o=>k_is)
  (case q3p=>k_is)
  (case q3q=>k_is)
  (case q3r=>k_is)
  (case q3s=>k_is)
  (case q3t=>k_is)
  (case q3u=>k_is)
  (case q3v=>k_is)
  (case q3w=>k_is)
  (case q3x=>k_is)
  (case q3y=>k_is)
  (case q3z=>k_is)
  (case q40=>k_is)
  (case q41=>k_is)
  (case q42=>k_is)
  (case q43=>k_is)
  (case q44=>k_is)
  (case q45=>k_is)
  (case q46=>k_is)
  (case q47=>k_is)
  (case q48=>k_is)
  (case q49=>k_is)
  (case q4a=>k_is)
  (case q4b=>k_is)
  (case q4c=>k_is)
  (case q4d=>k_is)
  (case q4e=>k_is)
  (case q4f=>k_is)
  (case q4g=>k_is)
  (case q4h=>k_is)
  (case q4i=>k_is)
  (case q4j=>k_is)
  (case q4k=>k_is)
  (case q4l=>k_is)
  (case q4m=>k_is)
  (case q4n=>k_is)
  (case q4o=>k_is)
  (case q4p=>k_is)
  (case q4q=>k_is)
  (case q4r=>k_is)
  (case q4s=>k_is)
  (case q4t=>k_is)
  (case q4u=>k_is)
  (case q4v=>k_is)
  (case q4w=>k_is)
  (case q4x=>k_is)
  (case q4y=>k_is)
  (case q4z=>k_is)
  (case q50=>k_is)
  (case q51=>k_is)
  (case q52=>k_is)
  (case q53=>k_is)
  (case q54=>k_is)
  (case q55=>k_is)
  (case q56=>k_is)
  (case q57=>k_is)
  (case q58=>k_is)
  (case q59=>k_is)
  (case q5a=>k_is)
  (case q5b=>k_is)
  (case q5c=>k_is)
  (case q5d=>k_is)
  (case q5e=>k_is)
  (case q5f=>k_is)
  (case q5g=>k_is)
  (case q5h=>k_is)
  (case q5i=>k_is)
  (case q5j=>k_is)
  (case q5k=>k_is)
  (case q5l=>k_is)
  (case q5m=>k_is)
  (case q5n=>k_is)
  (case q5o=>k_is)
  (case q5p=>k_is)
  (case q5q=>k_is)
  (case q5r=>k_is)
  (case q5s=>k_is)
  (case q5t=>k_is)
  (case q5u=>k_is)
  (case q5v=>k_is)
  (case q5w=>k_is)
  (case q5x=>k_is)
  (case q5y=>k_is)
  (case q5z=>k_is)
  (case q60=>k_is)
  (case q61=>k_is)
  (case q62=>k_is)
  (case q63=>k_is)
  (case q64=>k_is)
  (case q65=>k_is)
  (case q66=>k_is)
  (case q67=>k_is)
  (case q68=>k_is)
  (case q69=>k_is)
  (case q6a=>k_is)
  (case q6b=>k_is)
  (case q6c=>k_is)
  (case q6d=>k_is)
  (case q6e=>k_is)
  (case q6f=>k_is)
  (case q6g=>k_is)
  (case q6h=>k_is)
  (case q6i=>k_is)
  (case q6j=>k_is)
  (case q6k=>k_is)
  (case q6l=>k_is)
  (case q6m=>k_is)
  (case q6n=>k_is)
  (case q6o=>k_is)
  (case q6p=>k_is)
  (case q6q=>k_is)
  (case q6r=>k_is)
  (case q6s=>k_is)
  (case q6t=>k_is)
  (case q6u=>k_is)
  (case q6v=>k_is)
  (case q6w=>k_is)
  (case q6x=>k_is)
  (case q6y=>k_is)
  (case q6z=>k_is)
  (case q70=>k_is)
  (case q71=>k_is)
  (case q72=>k_is)
  (case q73=>k_is)
  (case q74=>k_is)
  (case q75=>k_is)
  (case q76=>k_is)
  (case q77=>k_is)
  (case q78=>k_is)
  (case q79=>k_is)
  (case q7a=>k_is)
  (case q7b=>k_is)
  (case q7c=>k_is)
  (case q7d=>k_is)
  (case q7e=>k_is)
  (case q7f=>k_is)
  (case q7g=>k_is)
  (case q7h=>k_is)
  (case q7i=>k_is)
  (case q7j=>k_is)
  (case q7k=>k_is)
  (case q7l=>k_is)
  (case q7m=>k_is)
  (case q7n=>k_is)
  (case q7o=>k_is)
  (case q7p=>k_is)
  (case q7q=>k_is)
  (case q7r=>k_is)
  (case q7s=>k_is)
  (case q7t=>k_is)
  (case q7u=>k_is)
  (case q7v=>k_is)
  (case q7w=>k_is)
  (case q7x=>k_is)
  (case q7y=>k_is)
  (case q7z=>k_is)
  (case q80=>k_is)
  (case q81=>k_is)
  (case q82=>k_is)
  (case q83=>k_is)
  (case q84=>k_is)
  (case q85=>k_is)
  (case q86=>k_is)
  (case q87=>k_is)
  (case q88=>k_is)
  (case q89=>k_is)
  (case q8a=>k_is)
