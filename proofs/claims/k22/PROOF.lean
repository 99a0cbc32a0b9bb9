import PyProof.Rows.All
import Wide.All
import OpenK.AllK
import Wide.FinOn
import Lean
import PyProof.EqAt
import PyProof.EqKinds
import PyProof.TupleCall
import PyProof.SetScanFacts
import PyProof.Rows.SetFrom
import PyProof.Rows.SortWalk
import PyProof.CollectWalk
import PyProof.DictWalks
import KE.KSortTup
import PySem.Challenge.RW_holdback_k22_whole_a_cut_is_shown
set_option linter.all false
set_option maxRecDepth 100000
set_option maxHeartbeats 8000000
open PySem PySem.Spec PyProof.Rows
set_option Elab.async false
namespace L2
abbrev AR:=Sum Int Str
def JD:AR->Value->Bool
 | .inl k,v=>Value.isInt k v
 | .inr x,v=>Value.isStrOf x v
def gM(w:World):AR->Int
 | .inl k=>hashInt k
 | .inr x=>hashStr w x
theorem GP:∀ {k:AR} {v:Value},JD k v=true->(∃ i t,k=Sum.inl i/\v=Value.int i t)\/(∃ x t,k=Sum.inr x/\v=Value.str x t)
 | .inl i,v,h=>by
  obtain⟨t,e⟩:=Value.isInt_shape (k:=i) (v:=v) h
  exact .inl ⟨i,t,rfl,e⟩
 | .inr x,v,h=>by
  obtain⟨t,e⟩:=Value.isStrOf_shape (x:=x) (v:=v) h
  exact .inr ⟨x,t,rfl,e⟩
theorem gO(i:Int)(t:Tok):JD (.inl i) (.int i t)=true:=by simp[JD,Value.isInt]
theorem gP(x:Str)(t:Tok):JD (.inr x) (.str x t)=true:=by simp[JD,Value.isStrOf]
theorem gQ(a b:Int):decide ((Sum.inl a:AR)=Sum.inl b)=(a == b):=by
 by_cases e:a=b
 ·subst e;simp
 ·have h:¬ (Sum.inl a:AR)=Sum.inl b:=λq=>e (Sum.inl.inj q)
  rw[decide_eq_false h]
  exact(beq_eq_false_iff_ne.mpr e).symm
theorem gR(a b:Str):decide ((Sum.inr a:AR)=Sum.inr b)=decide (a=b):=by
 by_cases e:a=b
 ·subst e;simp
 ·have h:¬ (Sum.inr a:AR)=Sum.inr b:=λq=>e (Sum.inr.inj q)
  rw[decide_eq_false h,decide_eq_false e]
theorem gS(a:Int)(b:Str):decide ((Sum.inl a:AR)=Sum.inr b)=false:=decide_eq_false (λq=>nomatch q)
theorem gT(a:Str)(b:Int):decide ((Sum.inr a:AR)=Sum.inl b)=false:=decide_eq_false (λq=>nomatch q)
def DE(prog:Program)(w:World):PySem.KeyKind prog w AR where
 is:=JD
 hash:=gM w
 inj:=λv a b ha hb=>by
  rcases GP ha with⟨i,t,rfl,rfl⟩ | ⟨x,t,rfl,rfl⟩
  ·rcases GP hb with⟨j,u,rfl,e⟩ | ⟨y,u,rfl,e⟩
   ·injection e with e1 _;rw[e1]
   ·exact nomatch e
  ·rcases GP hb with⟨j,u,rfl,e⟩ | ⟨y,u,rfl,e⟩
   ·exact nomatch e
   ·injection e with e1 _;rw[e1]
 byValue:=λk v h=>by
  rcases GP h with⟨i,t,rfl,rfl⟩ | ⟨x,t,rfl,rfl⟩<;>rfl
 pyHash:=λhv h=>by
  rcases GP hv with⟨i,t,rfl,rfl⟩ | ⟨x,t,rfl,rfl⟩
  ·exact wpAny_pyHash_int h
  ·exact wpAny_pyHash_str h
 eqBool:=λhu hv h=>by
  rcases GP hu with⟨i,t,rfl,rfl⟩ | ⟨x,t,rfl,rfl⟩
  ·rcases GP hv with⟨j,u,rfl,rfl⟩ | ⟨y,u,rfl,rfl⟩
   ·rw[gQ]at h;exact wpAny_eqBool_int h
   ·rw[gS]at h;exact SeqAt.EqAt.int_str i t y u _ _ _ _ h
  ·rcases GP hv with⟨j,u,rfl,rfl⟩ | ⟨y,u,rfl,rfl⟩
   ·rw[gT]at h;exact SeqAt.EqAt.str_int x t j u _ _ _ _ h
   ·rw[gR]at h;exact wpAny_eqBool_str h
 «strs» :=λk x t v h=>by
  rcases GP h with⟨i,u,rfl,e⟩ | ⟨y,u,rfl,e⟩
  ·exact nomatch e
  ·injection e with e1 _
   subst e1
   cases v<;>rfl
theorem gU(prog:Program)(w:World)(i:Int)(t:Tok):(DE prog w).is (.inl i) (.int i t)=true:=gO i t
theorem gW(prog:Program)(w:World)(x:Str)(t:Tok):(DE prog w).is (.inr x) (.str x t)=true:=gP x t
end L2
namespace L2
inductive V where
 | non | bl (b:Bool) | int (i:Int) | str (x:Str) | byt (b:Array UInt8) | flt (b:UInt64) | ref (a:Addr) | ty (n:String)
 deriving DecidableEq
def RelV:V->Value->Prop
 | .non,u=>u=Value.none
 | .bl b,u=>u=Value.bool b
 | .int i,u=>∃ t,u=Value.int i t
 | .str x,u=>∃ t,u=Value.str x t
 | .byt b,u=>∃ t,u=Value.bytes b t
 | .flt b,u=>∃ t,u=Value.float b t
 | .ref a,u=>u=Value.ref a
 | .ty n,u=>u=Value.type n
abbrev Vals:List V->List Value->Prop:=Paired RelV
theorem Vals.length{xs:List V}{us:List Value}(r:Vals xs us):xs.length=us.length:=Paired.length r
theorem Vals.get:∀ {xs:List V} {us:List Value} {i:Nat} {x:V},Vals xs us->xs[i]? =some x->∃ u,us[i]? =some u/\RelV x u
 | _,_,_,_,.nil,e=>by simp at e
 | _,_,0,_,.cons r _,e=>by simp at e;subst e;exact⟨_,rfl,r⟩
 | _,_,i+1,x,.cons _ t,e=>by
  obtain⟨u,h1,h2⟩:=Vals.get (i:=i) (x:=x) t (by simpa using e)
  exact⟨u,by simpa using h1,h2⟩
theorem Vals.set{x:V}{u:Value}(r:RelV x u):∀ {xs:List V} {us:List Value} (i:Nat),Vals xs us->Vals (xs.set i x) (us.set i u)
 | _,_,_,.nil=>.nil
 | _,_,0,.cons _ t=>.cons r t
 | _,_,i+1,.cons q t=>.cons q (Vals.set r i t)
theorem Vals.append:∀ {xs ys:List V} {us ws:List Value},Vals xs us->Vals ys ws->Vals (xs++ys) (us++ws)
 | _,_,_,_,.nil,s=>s
 | _,_,_,_,.cons r t,s=>.cons r (Vals.append t s)
theorem Vals.take:∀ {xs:List V} {us:List Value} (n:Nat),Vals xs us->Vals (xs.take n) (us.take n)
 | _,_,0,_=>.nil
 | _,_,_+1,.nil=>.nil
 | _,_,n+1,.cons r t=>.cons r (Vals.take n t)
theorem Vals.drop:∀ {xs:List V} {us:List Value} (n:Nat),Vals xs us->Vals (xs.drop n) (us.drop n)
 | _,_,0,r=>r
 | _,_,_+1,.nil=>.nil
 | _,_,n+1,.cons _ t=>Vals.drop n t
def RelO:Option V->Option Value->Prop
 | some v,some u=>RelV v u
 | none,none=>True
 | _,_=>False
def KV{κ :Type}:List (κ × V)->List (κ × Value)->Prop:=Paired λ(p: κ × V) (q: κ × Value)=>p.1=q.1/\RelV p.2 q.2
def kV:AR->V
 | .inl i=>.int i
 | .inr x=>.str x
inductive HO where
 /-- a list -/
 | lst (xs:List V)
 /-- a tuple (never changes) -/
 | tup (xs:List V)
 /-- a dict whose keys are ints and texts;one whose keys are tuples of ints and texts (the empty one is both) -/
 | dK (kvs:List (AR × V)) | dT (kvs:List (List AR × V))
 /-- a set of ints: its members,its size -/
 | set (S:Int->Bool) (n:Nat)
 /-- an instance of the class at C,its dict at dx,its attributes -/
 | ins (C dx:Addr) (fs:List (Str × V))
 /-- the dict of the instance at x -/
 | own (x:Addr)
 /-- the dict of an exception -/
 | xd (fs:List (Str × V))
 /-- a bound method,f of x -/
 | met (f x:Addr)
 /-- a range object lo,lo+1,.. below hi -/
 | rng (lo hi:Int)
 /-- a thing that is known to the object (the script;a dict while a loop walks it): read,never written while it is so -/
 | frz (o:Obj) (u:HO)
 /-- a code object's table -/
 | tbl (ps:Array Value)
 /-- any other thing,by what is true of its one object (a def of one's own: SetO a S n:=HO.ext λh=>..) -/
 | ext (φ :Heap->Prop)
abbrev Hp:=Addr->Option HO
def upd(H:Hp)(a:Addr)(o:HO):Hp:=λb=>if b=a then some o else H b
theorem AJ{H:Hp}{a:Addr}{o:HO}:upd H a o a=some o:=by unfold upd;rw[if_pos rfl]
theorem AH{H:Hp}{a b:Addr}{o:HO}(h:b≠a):upd H a o b=H b:=by unfold upd;rw[if_neg h]
theorem GQ{H:Hp}{a:Addr}{o u:HO}:upd (upd H a o) a u=upd H a u:=by
 funext b;unfold upd;split<;>rfl
theorem AQ{H:Hp}{a b:Addr}{o u:HO}(h:H a=some o)(h':H b=some u)(d:o≠u):a≠b:=by
 intro e;subst e;rw[h]at h';exact d (Option.some.inj h')
theorem AX{H:Hp}{a b:Addr}{o:HO}(h:H a=some o)(h':H b=none):a≠b:=by
 intro e;subst e;rw[h]at h';cases h'
section
variable(P:Program)(w:World)
def ObjOk(H:Hp)(h:Heap)(a:Addr):HO->Prop
 | .lst xs=>xs.length<=sizeLine/\∃ (its:List Value) (n:Nat),Vals xs its/\h.get? a=some { cls:=.type "list",data:=.seq its.toArray n }
 | .tup xs=>xs.length<=sizeLine/\∃ its:List Value,Vals xs its/\IsTup h a its.toArray
 | .dK kvs=>kvs.length<=sizeLine/\(a == sysModules)=false/\∃ vs,KV kvs vs/\h.DictOf (DE P w) a vs
 | .dT kvs=>kvs.length<=sizeLine/\(a == sysModules)=false/\∃ xs:List (List AR × Addr × Value),
   Paired (λ(p:List AR × V) (q:List AR × Addr × Value)=>p.1=q.1/\H q.2.1=some (.tup (p.1.map kV))/\RelV p.2 q.2.2) kvs xs ∧
   ∃ o es ep,h.get? a=some o/\o.ExactDict/\o.data=.dict es ep/\es.toList=xs.map (entryOfKey (tupleKind (DE P w)))/\(xs.map (·.1)).Nodup
 | .set S n=>h.SetOf (intKind P w) a S n
 | .ins C dx fs=>H dx=some (.own a)/\fs.length<=1000/\dx≠a/\h.get? a=some (W.instObj C dx) ∧
   ∃ mA,h.Ns1 dx mA/\(∀ f,RelO (fs.lookup f) (mA f))/\PySem.Within mA (fs.map (·.1))
 | .own _=>∃ o,h.get? a=some o
 | .xd fs=>∃ mA,h.Ns1 a mA/\∀ f,RelO (fs.lookup f) (mA f)
 | .rng lo hi=>∃ t u v,h.get? a=some { cls:=.type "range",data:=.fields #[.int lo t,.int hi u,.int 1 v] }
 | .frz o u=>h.get? a=some o/\ObjOk H h a u
 | .tbl ps=>h.get? a=some { cls:=.none,data:=.fields ps }
 | .met f x=>h.get? a=some (W.methodObj (.ref f) (.ref x))
 | .ext φ => φ h/\(∃ o,h.get? a=some o)/\∀ h1 h2:Heap,φ h1->(∀ o,h1.get? a=some o->h2.get? a=some o)-> φ h2
def HOk(H:Hp)(h:Heap):Prop:=∀ a o,H a=some o->ObjOk P w H h a o
end
section
variable{P:Program}{w:World}{H H':Hp}{h h':Heap}{a:Addr}{o:HO}
theorem ObjOk.lt(x:ObjOk P w H h a o):a<h.objs.size:=by
 cases o with
 | lst xs=>obtain⟨_,_,_,_,e⟩:=x;exact Heap.lt_size e
 | tup xs=>obtain⟨_,_,_,p⟩:=x;exact p.lt
 | dK kvs=>obtain⟨_,_,_,_,o,_,_,e,_⟩:=x;exact Heap.lt_size e
 | dT kvs=>obtain⟨_,_,_,_,o,_,_,e,_⟩:=x;exact Heap.lt_size e
 | set S n=>obtain⟨o,_,_,_,e,_⟩:=x;exact Heap.lt_size e
 | ins C dx fs=>obtain⟨_,_,_,e,_⟩:=x;exact Heap.lt_size e
 | own y=>obtain⟨_,e⟩:=x;exact Heap.lt_size e
 | xd fs=>obtain⟨_,⟨_,_,_,e,_⟩,_⟩:=x;exact Heap.lt_size e
 | rng lo hi=>obtain⟨_,_,_,e⟩:=x;exact Heap.lt_size e
 | frz ob u=>obtain⟨e,_⟩:=x;exact Heap.lt_size e
 | tbl ps=>exact Heap.lt_size (show h.get? a=some _ from x)
 | met f y=>exact Heap.lt_size (show h.get? a=some _ from x)
 | ext φ =>obtain⟨_,⟨_,e⟩,_⟩:=x;exact Heap.lt_size e
theorem Paired.mapP{α β :Type}{F G: α -> β ->Prop}:∀ {l₁:List α} {l₂:List β},Paired F l₁ l₂->(∀ a b,F a b->G a b)->Paired G l₁ l₂
 | _,_,.nil,_=>.nil
 | _,_,.cons r t,f=>.cons (f _ _ r) (Paired.mapP t f)
theorem ObjOk.stay(x:ObjOk P w H h a o)(k:∀ b u,(b=a\/H b=some (.own a))->h.get? b=some u->h'.get? b=some u)
  (ho:∀ b,H b=some (.own a)->H' b=some (.own a)) (ht:∀ b xs,H b=some (.tup xs)->H' b=some (.tup xs)):ObjOk P w H' h' a o:=by
 induction o with
 | lst xs=>obtain⟨z,its,n,r,e⟩:=x;exact⟨z,its,n,r,k _ _ (.inl rfl) e⟩
 | tup xs=>obtain⟨z,its,r,ob,e,c⟩:=x;exact⟨z,its,r,ob,k _ _ (.inl rfl) e,c⟩
 | dK kvs=>obtain⟨z,y,vs,r,ob,es,ep,e,c⟩:=x;exact⟨z,y,vs,r,ob,es,ep,k _ _ (.inl rfl) e,c⟩
 | dT kvs =>
  obtain⟨z,y,xs,r,ob,es,ep,e,c⟩:=x
  exact⟨z,y,xs,Paired.mapP r λp q z=>⟨z.1,ht _ _ z.2.1,z.2.2⟩,ob,es,ep,k _ _ (.inl rfl) e,c⟩
 | set S n=>obtain⟨ob,es,ep,t,e,c⟩:=x;exact⟨ob,es,ep,t,k _ _ (.inl rfl) e,c⟩
 | ins C dx fs =>
  obtain⟨d,z,ne,e,mA,⟨od,es,ep,e2,c⟩,r⟩:=x
  exact⟨ho _ d,z,ne,k _ _ (.inl rfl) e,mA,⟨od,es,ep,k _ _ (.inr d) e2,c⟩,r⟩
 | own y=>obtain⟨ob,e⟩:=x;exact⟨ob,k _ _ (.inl rfl) e⟩
 | xd fs=>obtain⟨mA,⟨od,es,ep,e,c⟩,r⟩:=x;exact⟨mA,⟨od,es,ep,k _ _ (.inl rfl) e,c⟩,r⟩
 | rng lo hi=>obtain⟨t,u,v,e⟩:=x;exact⟨t,u,v,k _ _ (.inl rfl) e⟩
 | frz ob u ih=>obtain⟨e,q⟩:=x;exact⟨k _ _ (.inl rfl) e,ih q⟩
 | tbl ps =>
  have e:h.get? a=some { cls:=.none,data:=.fields ps }:=x
  show h'.get? a=some { cls:=.none,data:=.fields ps }
  exact k a _ (.inl rfl) e
 | met f y =>
  have e:h.get? a=some (W.methodObj (.ref f) (.ref y)):=x
  show h'.get? a=some (W.methodObj (.ref f) (.ref y))
  exact k a _ (.inl rfl) e
 | ext φ =>obtain⟨p,⟨o,e⟩,st⟩:=x;exact⟨st _ _ p λo q=>k _ _ (.inl rfl) q,⟨o,k _ _ (.inl rfl) e⟩,st⟩
theorem HOk.lt(x:HOk P w H h)(e:H a=some o):a<h.objs.size:=(x a o e).lt
theorem HOk.fresh(x:HOk P w H h)(e:h.objs.size<=a):H a=none:=by
 cases q:H a with
 | none=>rfl
 | some u=>exact absurd (Nat.lt_of_lt_of_le (x.lt q) e) (Nat.lt_irrefl _)
theorem HOk.kept(x:HOk P w H h)(k:∀ b u,h.get? b=some u->h'.get? b=some u):HOk P w H h':=λa o e =>
 (x a o e).stay (λb u _ q=>k b u q) (λ_ q=>q) λ_ _ q=>q
theorem HOk.laid(x:HOk P w H h)(k:∀ b u,h.get? b=some u->h'.get? b=some u)(hp:h.objs.size<=a)(new:ObjOk P w (upd H a o) h' a o):HOk P w (upd H a o) h':=λb u e=>by
 have hn:=x.fresh hp
 by_cases hb:b=a
 ·subst hb;rw[AJ]at e;cases e;exact new
 ·rw[AH hb]at e
  exact(x b u e).stay (λc v _ q=>k c v q) (λc q=>by rw[AH (AX q hn)];exact q) λc xs q=>by rw[AH (AX q hn)];exact q
end
def Rd(H:Hp)(a:Addr)(u:HO):Prop:=H a=some u\/∃ o,H a=some (.frz o u)
theorem Rd.ok{P:Program}{w:World}{H:Hp}{h:Heap}{a:Addr}{u:HO}(r:Rd H a u)(x:HOk P w H h):ObjOk P w H h a u:=by
 rcases r with r | ⟨o,r⟩
 ·exact x a u r
 ·obtain⟨_,q⟩:=x a _ r
  exact q
def LO:Option HO->Prop
 | some (.lst _)=>True
 | some (.dK _)=>True
 | some (.dT _)=>True
 | some (.set _ _)=>True
 | some (.ins _ _ _)=>True
 | some (.ext _)=>True
 | _=>False
section
variable{P:Program}{w:World}{H:Hp}{h h':Heap}{x e:Addr}{o':HO}
theorem HOk.write(ok:HOk P w H h)(mu:LO (H x))(he:e=x\/H e=some (.own x))(k:∀ b u,b≠e->h.get? b=some u->h'.get? b=some u)(heo:∃ u,h'.get? e=some u)
  (new:ObjOk P w (upd H x o') h' x o'):HOk P w (upd H x o') h':=λb u q=>by
 have nown:∀ c y,H c=some (.own y)->c≠x:=λc y r z=>by subst z;rw[r]at mu;exact mu
 have ntup:∀ c xs,H c=some (.tup xs)->c≠x:=λc xs r z=>by subst z;rw[r]at mu;exact mu
 by_cases hb:b=x
 ·subst hb;rw[AJ]at q;cases q;exact new
 ·rw[AH hb]at q
  by_cases hbe:b=e
  ·have q':H b=some (.own x):=by
    rcases he with z | z
    ·exact absurd (hbe.trans z) hb
    ·rw[hbe];exact z
   rw[q]at q';cases q'
   obtain⟨v,hv⟩:=heo
   exact⟨v,by rw[hbe];exact hv⟩
  ·refine(ok b u q).stay (λc v hc r=>k c v ?_ r) (λc r=>by rw[AH (nown c b r)];exact r) λc xs r=>by rw[AH (ntup c xs r)];exact r
   rcases hc with rfl | hc
   ·exact hbe
   ·rintro rfl
    rcases he with z | z
    ·exact nown c b hc z
    ·rw[hc]at z;cases z;exact hb rfl
end
structure Un(fs ex:List Addr)(H H':Hp)(h h':Heap):Prop where
 keep:∀ b o,h.get? b=some o->H b=none->b∉fs->b∉ex->h'.get? b=some o
 slot:∀ b o,h.get? b=some o->H b=none->b∈fs->b∉ex->∃ sl,h'.get? b=some { o with slots:=sl }
 free:∀ b o,h.get? b=some o->H b=none->b∉ex->H' b=none
 there:∀ b o,h.get? b=some o->b∉ex->∃ o',h'.get? b=some o'
 tups:∀ b xs,H b=some (.tup xs)->H' b=some (.tup xs)
 frzs:∀ b o u,H b=some (.frz o u)->H' b=some (.frz o u)
 tbls:∀ b ps,H b=some (.tbl ps)->∃ more,H' b=some (.tbl (ps++more))
section
variable{fs fs' ex ex':List Addr}{H H1 H2:Hp}{h h1 h2 h':Heap}{a x e:Addr}{o:HO}
theorem Un.any(u:Un fs ex H H1 h h1){b:Addr}{ob:Obj}(q:h.get? b=some ob)(n:H b=none)(hx:b∉ex):∃ sl,h1.get? b=some { ob with slots:=sl }:=by
 by_cases hb:b∈fs
 ·exact u.slot b ob q n hb hx
 ·exact⟨ob.slots,u.keep b ob q n hb hx⟩
theorem Un.kept(k:∀ b u,h.get? b=some u->h'.get? b=some u):Un fs ex H H h h' :=
 ⟨λb ob q _ _ _=>k b ob q,λb ob q _ _ _=>⟨ob.slots,k b ob q⟩,λ_ _ _ n _=>n,λb ob q _=>⟨ob,k b ob q⟩,λ_ _ q=>q,λ_ _ _ q=>q,λ_ ps q=>⟨#[],by rw[q];simp⟩⟩
theorem Un.refl:Un fs ex H H h h:=Un.kept λ_ _ q=>q
theorem Un.laid(k:∀ b u,h.get? b=some u->h'.get? b=some u)(hp:h.objs.size<=a)(hn:H a=none):Un fs ex H (upd H a o) h h' where
 keep:=λb u q _ _ _=>k b u q
 slot:=λb u q _ _ _=>⟨u.slots,k b u q⟩
 free:=λb u q n _=>by rw[AH (Nat.ne_of_lt (Nat.lt_of_lt_of_le (Heap.lt_size q) hp))];exact n
 there:=λb u q _=>⟨u,k b u q⟩
 tups:=λb xs q=>by rw[AH (AX q hn)];exact q
 frzs:=λb u xs q=>by rw[AH (AX q hn)];exact q
 tbls:=λb ps q=>⟨#[],by rw[AH (AX q hn),q];simp⟩
theorem Un.write(mu:LO (H x))(he:e=x\/H e=some (.own x))(k:∀ b u,b≠e->h.get? b=some u->h'.get? b=some u)(heo:∃ u,h'.get? e=some u):Un fs ex H (upd H x o) h h':=by
 have hx:∀ b,H b=none->b≠x:=λb n z=>by subst z;rw[n]at mu;exact mu
 have hb:∀ b,H b=none->b≠e:=λb n z=>by
  subst z
  rcases he with r | r
  ·exact hx b n r
  ·rw[n]at r;cases r
 have hm:∀ b u,H b=some u->¬ LO (some u)->b≠x:=λb u q nm z=>by subst z;rw[q]at mu;exact nm mu
 refine⟨λb u q n _ _=>k b u (hb b n) q,λb u q n _ _=>⟨u.slots,k b u (hb b n) q⟩,λb u q n _=>by rw[AH (hx b n)];exact n,λb u q _=> ?_,
  λb xs q=>by rw[AH (hm b _ q λz=>z)];exact q,λb u xs q=>by rw[AH (hm b _ q λz=>z)];exact q,λb ps q=>⟨#[],by rw[AH (hm b _ q λz=>z),q];simp⟩⟩
 by_cases hbe:b=e
 ·subst hbe;exact heo
 ·exact⟨u,k b u hbe q⟩
end
def NB(h:Heap)(H:Hp):List Addr:=(List.range h.objs.size).filter λa=>(H a).isSome
def GR(h:Heap)(H:Hp):Heap:=W.hideAll h (NB h H)
theorem gX(h:Heap)(H:Hp):(GR h H).objs.size=h.objs.size:=W.hideAll_size _ _
theorem gY{h:Heap}{H:Hp}{b:Addr}{o:Obj}(e:h.get? b=some o)(n:H b=none):(GR h H).get? b=some o :=
 W.hideAll_get _ e λhm=>by
  have q:(H b).isSome=true:=(List.mem_filter.mp hm).2
  rw[n]at q;simp at q
theorem gZ{h:Heap}{H:Hp}{b:Addr}{o:Obj}(e:(GR h H).get? b=some o):h.get? b=some o/\H b=none:=by
 have e':h.get? b=some o:=W.of_hideAll (NB h H) e
 refine⟨e',?_⟩
 cases q:H b with
 | none=>rfl
 | some x =>
  have hm:b∈NB h H:=List.mem_filter.mpr ⟨List.mem_range.mpr (Heap.lt_size e'),by simp[q]⟩
  have z:(GR h H).get? b=none:=W.hideAll_none (NB h H) hm
  rw[z]at e;cases e
def g6(g h:Heap)(L:Addr):List (Addr × Obj):=(List.range h.objs.size).filterMap λa=>if a=L\/(g.get? a).isSome=true then none else(h.get? a).map λo=>(a,o)
def DI(g h:Heap)(L d:Addr):List (Addr × Obj):=(g6 g h L).filter λp=>decide (p.1≠d)
end L2
namespace L2
structure Mod(K:W.Frag)(mg:Str->Option Value)(base:Heap):Prop where
 kin:K.In base
 glob:base.Ns mainGlobals mg
 blt:∃ mb,base.Ns builtinsNs mb/\∀ x:Str,x≠"__name__"->mb x=bootBuiltins x
 nolimit:base.NoLimit
structure Cx where
 prog:Program
 w:World
 K:W.Frag
 mg:Str->Option Value
 base:Heap
 A:Around
 N:List Str
 s₀:Shared
 H₀:Hp
 env:Env
 outer:List Env
 stack:List Env
 ex:List Addr
 fn:Str->Bool
 calm:Bool
 pn:List (Addr × Obj)
 xe:Value->Shared->Prop
def C2(l:List Env):List Addr:=l.filterMap (·.frame)
abbrev Cx.fs(X:Cx):List Addr:=C2 X.outer
def PP(sc:Scope)(x:Str):Prop:=sc.names.lookup x=some .local\/sc.names.lookup x=some .cell\/sc.names.lookup x=some .free
def JE(sc:Scope)(x:Str):Prop:=sc.names.lookup x=some .local\/sc.names.lookup x=some .cell
def g7(env:Env)(h:Heap)(m:Str->Option Value)(x:Str)(u:Value):Prop :=
 (env.kindOf x=some .local/\m x=some u)\/((env.kindOf x=some .cell\/env.kindOf x=some .free)/\∃ c,env.cells.lookup x=some c/\h.IsCell c (some u))
structure Cx.Ok(X:Cx):Prop where
 mod:Mod X.K X.mg X.base
 kind:X.env.scope.kind=.function
 glob:X.env.globals=mainGlobals
 blt:X.env.builtins=builtinsNs
 above:X.s₀.heap.objs.size<=X.env.locals
 inj:∀ x y c,X.env.cells.lookup x=some c->X.env.cells.lookup y=some c->x=y
 has:∀ x,(X.env.kindOf x=some .cell\/X.env.kindOf x=some .free)->∃ c,X.env.cells.lookup x=some c
 cab:∀ x c,X.fn x=true->X.env.cells.lookup x=some c->X.s₀.heap.objs.size<=c
 hd:X.calm=true->X.A.handled=none
 frames:X.A.frames=some X.stack
 stk:X.stack=X.outer\/(X.stack=X.env::X.outer/\X.env.frame=some X.env.locals)
 exf:∀ b∈X.ex,b≠X.env.locals/\∀ x c,X.env.cells.lookup x=some c->c≠b
 bs:∀ b o,X.base.get? b=some o->X.s₀.heap.get? b=some o/\X.H₀ b=none
 bsz:X.base.objs.size<=X.s₀.heap.objs.size
 noex:∀ b o,X.base.get? b=some o->b∉X.ex
 exfs:∀ b∈X.ex,b∉X.fs
 funs:X.s₀.heap.FunFrames X.base X.outer
 frf:∀ b∈X.fs,X.H₀ b=none
structure Inv(X:Cx)(pins:List (Addr × Obj))(σ:List (Option V))(H:Hp)(s:Shared):Prop where
 ok:X.Ok
 os:s.os=X.s₀.os
 bare:AllBare s.gens
 base:Un X.fs X.ex X.H₀ H X.s₀.heap s.heap
 loc:∃ m,s.heap.Ns X.env.locals m/\∀ (i:Nat) (x:Str) (v:V),X.N[i]? =some x->σ[i]? =some (some v)->PP X.env.scope x->∃ u,RelV v u/\g7 X.env s.heap m x u
 cell:∀ x c,X.env.cells.lookup x=some c->∃ v,s.heap.IsCell c v
 free:H X.env.locals=none
 freeC:∀ x c,X.env.cells.lookup x=some c->H c=none
 pin:∀ p∈X.pn++pins,s.heap.get? p.1=some p.2/\H p.1=none/\p.1≠X.env.locals/\p.1∉X.fs/\∀ v,p.2.data≠.cell v
 hok:HOk X.prog X.w H s.heap
 len:σ.length=X.N.length
section
variable{X:Cx}{pins:List (Addr × Obj)}{σ:List (Option V)}{H H':Hp}{s:Shared}{h':Heap}
theorem Cx.Ok.nofr(ok:X.Ok){b:Addr}{o:Obj}(e:X.base.get? b=some o):b∉X.fs:=λhb=>by
 have:=(ok.funs.mem hb).1
 rw[e]at this;cases this
theorem Inv.bs(I:Inv X pins σ H s):∀ b o,X.base.get? b=some o->s.heap.get? b=some o/\H b=none:=λb o e =>
 ⟨I.base.keep b o (I.ok.bs b o e).1 (I.ok.bs b o e).2 (I.ok.nofr e) (I.ok.noex b o e),I.base.free b o (I.ok.bs b o e).1 (I.ok.bs b o e).2 (I.ok.noex b o e)⟩
theorem Inv.bk(I:Inv X pins σ H s):∀ b o,X.base.get? b=some o->s.heap.get? b=some o:=λb o e=>(I.bs b o e).1
theorem Inv.mod(I:Inv X pins σ H s):Mod X.K X.mg X.base:=I.ok.mod
theorem Inv.kIn(I:Inv X pins σ H s):X.K.In s.heap:=I.ok.mod.kin.keeps I.bk
theorem Inv.lt(I:Inv X pins σ H s):X.env.locals<s.heap.objs.size:=let ⟨_,hn,_⟩:=I.loc;hn.lt
theorem Inv.sz(I:Inv X pins σ H s):X.s₀.heap.objs.size<=s.heap.objs.size:=Nat.le_trans I.ok.above (Nat.le_of_lt I.lt)
theorem Inv.nofs(I:Inv X pins σ H s){a:Addr}(h:s.heap.objs.size<=a):a∉X.fs:=λhb=>by
 obtain⟨_,o,ho,_⟩:=I.ok.funs.mem hb
 exact absurd (Nat.lt_of_lt_of_le (Heap.lt_size ho) (Nat.le_trans I.sz h)) (Nat.lt_irrefl _)
theorem Inv.cne(I:Inv X pins σ H s):∀ x c,X.env.cells.lookup x=some c->c≠X.env.locals:=λx c e z=>by
 obtain⟨v,o,ho,hd⟩:=I.cell x c e
 obtain⟨m,⟨o',es,ep,ho',hd',_⟩,_⟩:=I.loc
 rw[z,ho']at ho;cases ho;rw[hd']at hd;cases hd
theorem Inv.funs(I:Inv X pins σ H s):s.heap.FunFrames X.base X.outer:=by
 have all:∀ (l:List Env),(∀ b∈C2 l,b∈X.fs)->X.s₀.heap.FunFrames X.base l->s.heap.FunFrames X.base l:=by
  intro l
  induction l with
  | nil=>intro _ _;trivial
  | cons env r ih =>
   intro hs hl
   obtain⟨hk,⟨L,o,hf,hn,ho,hd⟩,hr⟩:=hl
   have hL:L∈X.fs:=hs L (by unfold C2;rw[List.filterMap_cons,hf];exact List.mem_cons_self)
   obtain⟨sl,e⟩:=I.base.slot L o ho (I.ok.frf L hL) hL λz=>I.ok.exfs L z hL
   exact⟨hk,⟨L,_,hf,hn,e,hd⟩,ih (λb hb=>hs b (by unfold C2;rw[List.filterMap_cons,hf];exact List.mem_cons_of_mem _ hb)) hr⟩
 exact all X.outer (λ_ hb=>hb) I.ok.funs
theorem Inv.stack(I:Inv X pins σ H s):s.heap.FunFrames X.base X.stack:=by
 rcases I.ok.stk with e | ⟨e,hf⟩
 ·rw[e];exact I.funs
 ·rw[e]
  obtain⟨m,hn,_⟩:=I.loc
  refine .cons (by rw[I.ok.kind];decide) hf hn ?_ I.funs
  exact Heap.get?_none_of_le (Nat.le_trans I.ok.bsz I.ok.above)
theorem Inv.stkSub(I:Inv X pins σ H s):∀ b∈C2 X.stack,b∈X.env.locals::X.fs:=λb hb=>by
 rcases I.ok.stk with e | ⟨e,hf⟩
 ·rw[e]at hb;exact List.mem_cons_of_mem _ hb
 ·rw[e]at hb
  unfold C2 at hb
  rw[List.filterMap_cons,hf]at hb
  exact hb
theorem Inv.stkFree(I:Inv X pins σ H s):∀ b∈C2 X.stack,H b=none:=λb hb=>by
 rcases List.mem_cons.mp (I.stkSub b hb)with e | hb
 ·rw[e];exact I.free
 ·obtain⟨_,o,ho,_⟩:=I.ok.funs.mem hb
  exact I.base.free b o ho (I.ok.frf b hb) λz=>I.ok.exfs b z hb
theorem Inv.step{g':Array GenState}{t':Nat}{d':Drawn}{ch:List Addr}(I:Inv X pins σ H s)
  (hch:∀ b∈ch,(b∈X.ex\/X.s₀.heap.objs.size<=b)/\b≠X.env.locals/\(∀ x c,X.env.cells.lookup x=some c->c≠b)/\∀ p∈X.pn++pins,p.1≠b)
  (keep:∀ b o,b≠X.env.locals->b∉X.fs->b∉ch->s.heap.get? b=some o->H b=none->h'.get? b=some o)
  (slot:∀ b o,b≠X.env.locals->b∈X.fs->b∉ch->s.heap.get? b=some o->H b=none->∃ sl,h'.get? b=some { o with slots:=sl }) (free:∀ b o,b∉ch->s.heap.get? b=some o->H b=none->H' b=none)
  (there:∀ b o,b∉ch->s.heap.get? b=some o->∃ o',h'.get? b=some o')
  (tups:∀ b xs,H b=some (.tup xs)->H' b=some (.tup xs)) (frzs:∀ b o u,H b=some (.frz o u)->H' b=some (.frz o u)) (tbls:∀ b ps,H b=some (.tbl ps)->∃ more,H' b=some (.tbl (ps++more)))
  (ns:∀ m,s.heap.Ns X.env.locals m->h'.Ns X.env.locals m) (hok:HOk X.prog X.w H' h') (hg:AllBare g') :
  Inv X pins σ H' { s with heap:=h',gens:=g',drawn:=d',toks:=t' }:=by
 have neL:∀ b o,X.s₀.heap.get? b=some o->b≠X.env.locals:=λb o e=>Nat.ne_of_lt (Nat.lt_of_lt_of_le (Heap.lt_size e) I.ok.above)
 have neC:∀ b o,X.s₀.heap.get? b=some o->b∉X.ex->b∉ch:=λb o e hx hb=>by
  rcases(hch b hb).1 with z | z
  ·exact hx z
  ·exact absurd (Nat.lt_of_lt_of_le (Heap.lt_size e) z) (Nat.lt_irrefl _)
 have cellK:∀ x c,X.env.cells.lookup x=some c->∀ v,s.heap.IsCell c v->h'.IsCell c v:=λx c e v ⟨o,ho,hd⟩=>by
  have nch:c∉ch:=λz=>(hch c z).2.2.1 x c e rfl
  by_cases hc:c∈X.fs
  ·obtain⟨sl,q⟩:=slot c o (I.cne x c e) hc nch ho (I.freeC x c e)
   exact⟨_,q,hd⟩
  ·exact⟨o,keep c o (I.cne x c e) hc nch ho (I.freeC x c e),hd⟩
 refine⟨I.ok,I.os,hg,⟨λb o e n hb hx=> ?_,λb o e n hb hx=> ?_,λb o e n hx=> ?_,λb o e hx=> ?_,λb xs e=>tups b xs (I.base.tups b xs e),λb o xs e=>frzs b o xs (I.base.frzs b o xs e),λb ps e=> ?_⟩,?_,λx c e=> ?_,?_,λx c e=> ?_,λp hp=> ?_,hok,I.len⟩
 ·exact keep b o (neL b o e) hb (neC b o e hx) (I.base.keep b o e n hb hx) (I.base.free b o e n hx)
 ·obtain⟨sl,e1⟩:=I.base.slot b o e n hb hx
  obtain⟨sl',e2⟩:=slot b _ (neL b o e) hb (neC b o e hx) e1 (I.base.free b o e n hx)
  exact⟨sl',e2⟩
 ·obtain⟨o',e1⟩:=I.base.there b o e hx
  exact free b o' (neC b o e hx) e1 (I.base.free b o e n hx)
 ·obtain⟨o',e1⟩:=I.base.there b o e hx
  exact there b o' (neC b o e hx) e1
 ·obtain⟨m1,e1⟩:=I.base.tbls b ps e
  obtain⟨m2,e2⟩:=tbls b _ e1
  exact⟨m1++m2,by rw[e2,Array.append_assoc]⟩
 ·obtain⟨m,hn,hl⟩:=I.loc
  refine⟨m,ns m hn,λi x v e1 e2 e3=> ?_⟩
  obtain⟨u,r,l⟩:=hl i x v e1 e2 e3
  refine⟨u,r,?_⟩
  rcases l with l | ⟨k,c,e,z⟩
  ·exact .inl l
  ·exact .inr ⟨k,c,e,cellK x c e _ z⟩
 ·obtain⟨v,z⟩:=I.cell x c e
  exact⟨v,cellK x c e v z⟩
 ·obtain⟨m,⟨o,_,_,ho,_⟩,_⟩:=I.loc
  exact free _ o (λz=>(hch _ z).2.1 rfl) ho I.free
 ·obtain⟨v,o,ho,hd⟩:=I.cell x c e
  exact free c o (λz=>(hch c z).2.2.1 x c e rfl) ho (I.freeC x c e)
 ·obtain⟨e,n,ne,nf,d⟩:=I.pin p hp
  have nch:p.1∉ch:=λz=>(hch p.1 z).2.2.2 p hp rfl
  exact⟨keep p.1 p.2 ne nf nch e n,free p.1 p.2 nch e n,ne,nf,d⟩
theorem Inv.un{t':Nat}(I:Inv X pins σ H s)(u:Un X.fs [] H H' s.heap h')(hok:HOk X.prog X.w H' h'):Inv X pins σ H' { s with heap:=h',toks:=t' }:=by
 obtain⟨m,⟨o,es,ep,ho,r⟩,_⟩:=id I.loc
 obtain⟨sl,hL⟩:=u.any ho I.free (by simp)
 exact I.step (g':=s.gens) (d':=s.drawn) (ch:=[]) (λ_ z=>nomatch z) (λb o _ hb _ e n=>u.keep b o e n hb (by simp)) (λb o _ hb _ e n=>u.slot b o e n hb (by simp)) (λb o _ e n=>u.free b o e n (by simp)) (λb o _ e=>u.there b o e (by simp)) u.tups u.frzs u.tbls (λm' hm=>by
  obtain⟨o',es',ep',ho',r'⟩:=hm
  rw[ho]at ho';cases ho'
  exact⟨_,es',ep',hL,r'⟩) hok I.bare
theorem Inv.call{g':Array GenState}{t':Nat}{d':Drawn}{ch:List Addr}(I:Inv X pins σ H s)(u:Un (C2 X.stack) ch H H' s.heap h')(hok:HOk X.prog X.w H' h')(hg:AllBare g')
  (hch:∀ b∈ch,(b∈X.ex\/X.s₀.heap.objs.size<=b)/\b≠X.env.locals/\(∀ x c,X.env.cells.lookup x=some c->c≠b)/\∀ p∈X.pn++pins,p.1≠b) :
  Inv X pins σ H' { s with heap:=h',gens:=g',drawn:=d',toks:=t' }:=by
 obtain⟨m,⟨o,es,ep,ho,r⟩,_⟩:=id I.loc
 obtain⟨sl,hL⟩:=u.any ho I.free λz=>(hch _ z).2.1 rfl
 exact I.step (ch:=ch) hch (λb o hL hb hc e n=>u.keep b o e n (λz=>(List.mem_cons.mp (I.stkSub b z)).elim hL hb) hc) (λb o _ _ hc e n=>u.any e n hc) (λb o hc e n=>u.free b o e n hc) (λb o hc e=>u.there b o e hc) u.tups u.frzs u.tbls (λm' hm=>by
  obtain⟨o',es',ep',ho',r'⟩:=hm
  rw[ho]at ho';cases ho'
  exact⟨_,es',ep',hL,r'⟩) hok hg
theorem Inv.turned{t':Nat}{it:Addr}(I:Inv X pins σ H s)(k:∀ b o,b≠it->s.heap.get? b=some o->h'.get? b=some o)(hn:H it=none)(hL:it≠X.env.locals)
  (h1:it∈X.ex\/X.s₀.heap.objs.size<=it) (h2:∀ x c,X.env.cells.lookup x=some c->c≠it) (h3:∀ p∈X.pn++pins,p.1≠it):Inv X pins σ H { s with heap:=h',toks:=t' }:=by
 have nit:∀ b u,H b=some u->b≠it:=λb u e z=>by rw[z,hn]at e;cases e
 refine I.step (g':=s.gens) (d':=s.drawn) (ch:=[it]) (λb hb=> ?_) (λb o _ _ hc e _=>k b o (λz=>hc (by simp[z])) e) (λb o _ _ hc e _=>⟨o.slots,k b o (λz=>hc (by simp[z])) e⟩) (λ_ _ _ _ n=>n)
  (λb o hc e=>⟨o,k b o (λz=>hc (by simp[z])) e⟩) (λ_ _ e=>e) (λ_ _ _ e=>e) (λb ps e=>⟨#[],by rw[e];simp⟩) (λm hm=> ?_) (λb u e=> ?_) I.bare
 ·have e:b=it:=by simpa using hb
  subst e
  exact⟨h1,hL,h2,h3⟩
 ·obtain⟨o,es,ep,ho,r⟩:=hm
  exact⟨o,es,ep,k _ o (Ne.symm hL) ho,r⟩
 ·refine(I.hok b u e).stay (λc v hc q=>k c v ?_ q) (λ_ q=>q) λ_ _ q=>q
  rcases hc with z | z
  ·rw[z];exact nit b u e
  ·exact nit c _ z
theorem Inv.tok(I:Inv X pins σ H s)(t:Nat):Inv X pins σ H { s with toks:=t }:=I.un (h':=s.heap) (t':=t) Un.refl I.hok
theorem Inv.kept{t':Nat}(I:Inv X pins σ H s)(k:∀ b u,s.heap.get? b=some u->h'.get? b=some u):Inv X pins σ H { s with heap:=h',toks:=t' }:=I.un (Un.kept k) (I.hok.kept k)
theorem Inv.laid{a:Addr}{o:HO}{t':Nat}(I:Inv X pins σ H s)(k:∀ b u,s.heap.get? b=some u->h'.get? b=some u)(hp:s.heap.objs.size<=a)(new:ObjOk X.prog X.w (upd H a o) h' a o) :
  Inv X pins σ (upd H a o) { s with heap:=h',toks:=t' }:=I.un (Un.laid k hp (I.hok.fresh hp)) (I.hok.laid k hp new)
theorem Inv.write{x e:Addr}{o:HO}{t':Nat}(I:Inv X pins σ H s)(mu:LO (H x))(he:e=x\/H e=some (.own x))(k:∀ b u,b≠e->s.heap.get? b=some u->h'.get? b=some u)(heo:∃ u,h'.get? e=some u)
  (new:ObjOk X.prog X.w (upd H x o) h' x o):Inv X pins σ (upd H x o) { s with heap:=h',toks:=t' }:=I.un (Un.write mu he k heo) (I.hok.write mu he k heo new)
theorem Inv.pins_of{pins':List (Addr × Obj)}(I:Inv X pins σ H s)(h:∀ p∈pins',s.heap.get? p.1=some p.2/\H p.1=none/\p.1≠X.env.locals/\p.1∉X.fs/\∀ v,p.2.data≠.cell v):Inv X pins' σ H s :=
 ⟨I.ok,I.os,I.bare,I.base,I.loc,I.cell,I.free,I.freeC,λp hp=>(List.mem_append.mp hp).elim (λz=>I.pin p (List.mem_append_left _ z)) (h p),I.hok,I.len⟩
theorem PQ{N:List Str}(hN:N.Nodup){i j:Nat}{x:Str}(a:N[i]? =some x)(b:N[j]? =some x):i=j:=by
 obtain⟨h1,e1⟩:=List.getElem?_eq_some_iff.mp a
 obtain⟨h2,e2⟩:=List.getElem?_eq_some_iff.mp b
 exact(List.getElem_inj hN).mp (e1.trans e2.symm)
theorem VB{M:Model}{A:Around}{E:Value->Shared->Prop}{i:Nat}{x:Str}{v:V}{u:Value}{Q:Unit->Shared->Prop}(I:Inv X pins σ H s)(hN:X.N.Nodup)(hi:X.N[i]? =some x)(hx:JE X.env.scope x)(r:RelV v u)
  (h:∀ s',Inv X pins (σ.set i (some v)) H s'->(∃ a,Heap.SameBut a s.heap s'.heap/\(a=X.env.locals\/X.env.cells.lookup x=some a))->Q () s') (hf:X.fn x=true\/X.env.scope.names.lookup x=some .local:=by first | exact .inl rfl | exact .inr rfl | assumption):wpAny M A (storeName X.env x u) Q E s:=by
 obtain⟨m,hn,hl⟩:=id I.loc
 have hcls:(X.env.scope.kind == .class || (X.env.scope.kind == .module && X.env.locals != X.env.globals))=false:=by rw[I.ok.kind];rfl
 have hiσ:i<σ.length:=by rw[I.len];exact(List.getElem?_eq_some_iff.mp hi).1
 have cne:=I.cne
 have tracked:∀ {a:Addr} {h':Heap},(∃ o,s.heap.get? a=some o/\H a=none)->Heap.SameBut a s.heap h'->HOk X.prog X.w H h':=λ{a h'} ha hs b ob e=>by
  obtain⟨_,_,hfree⟩:=ha
  refine(I.hok b ob e).stay (λc w' hc q=>(hs.2 c ?_).trans q) (λ_ q=>q) λ_ _ q=>q
  rintro rfl
  rcases hc with rfl | hc
  ·rw[hfree]at e;cases e
  ·rw[hfree]at hc;cases hc
 rcases hx with hk | hk
 ·refine wpAny_storeName_local hk hn (λh' hn' hs=> ?_) hcls
  obtain⟨oL,_,_,hoL,_⟩:=id hn
  refine h _ ⟨I.ok,I.os,I.bare,⟨λb o e n hb hx=> ?_,λb o e n hb hx=> ?_,I.base.free,λb o e hx=> ?_,I.base.tups,I.base.frzs,I.base.tbls⟩,⟨_,hn',λj y v' e1 e2 e3=> ?_⟩,λy c e=> ?_,I.free,I.freeC,λp hp=> ?_,tracked ⟨oL,hoL,I.free⟩ hs,by simpa using I.len⟩ ⟨_,hs,.inl rfl⟩
  ·exact(hs.2 b (Nat.ne_of_lt (Nat.lt_of_lt_of_le (Heap.lt_size e) I.ok.above))).trans (I.base.keep b o e n hb hx)
  ·obtain⟨sl,e1⟩:=I.base.slot b o e n hb hx
   exact⟨sl,(hs.2 b (Nat.ne_of_lt (Nat.lt_of_lt_of_le (Heap.lt_size e) I.ok.above))).trans e1⟩
  ·obtain⟨o',e1⟩:=I.base.there b o e hx
   exact⟨o',(hs.2 b (Nat.ne_of_lt (Nat.lt_of_lt_of_le (Heap.lt_size e) I.ok.above))).trans e1⟩
  ·by_cases hj:j=i
   ·subst hj
    rw[hi]at e1;cases e1
    rw[List.getElem?_set_self hiσ]at e2
    cases e2
    exact⟨u,r,.inl ⟨hk,by simp⟩⟩
   ·rw[List.getElem?_set_ne (Ne.symm hj)]at e2
    obtain⟨u',r',q⟩:=hl j y v' e1 e2 e3
    refine⟨u',r',?_⟩
    rcases q with⟨k,e⟩ | ⟨k,c,e,z⟩
    ·refine .inl ⟨k,?_⟩
     have:y≠x:=λe=>hj (PQ hN e1 (e ▸ hi))
     simp[this,e]
    ·exact .inr ⟨k,c,e,z.sameBut hs (cne y c e)⟩
  ·obtain⟨w',z⟩:=I.cell y c e
   exact⟨w',z.sameBut hs (cne y c e)⟩
  ·obtain⟨e,n,ne,nf,d⟩:=I.pin p hp
   exact⟨(hs.2 p.1 ne).trans e,n,ne,nf,d⟩
 ·have hfn:X.fn x=true:=by
   rcases hf with z | z
   ·exact z
   ·rw[z]at hk;cases hk
  obtain⟨c,hc⟩:=I.ok.has x (.inl hk)
  obtain⟨w',z⟩:=I.cell x c hc
  refine wpAny_storeName_cell I.ok.kind hk hc z (λh' hc' hs=> ?_)
  obtain⟨oc,hoc,hocd⟩:=id z
  refine h { s with heap:=h' } ⟨I.ok,I.os,I.bare,⟨λb o e n hb hx=> ?_,λb o e n hb hx=> ?_,I.base.free,λb o e hx=> ?_,I.base.tups,I.base.frzs,I.base.tbls⟩,⟨m,hn.sameBut hs (Ne.symm (cne x c hc)),λj y v' e1 e2 e3=> ?_⟩,λy c' e=> ?_,I.free,I.freeC,λp hp=> ?_,tracked ⟨oc,hoc,I.freeC x c hc⟩ hs,by simpa using I.len⟩ ⟨c,hs,.inr hc⟩
  ·exact(hs.2 b (Nat.ne_of_lt (Nat.lt_of_lt_of_le (Heap.lt_size e) (I.ok.cab x c hfn hc)))).trans (I.base.keep b o e n hb hx)
  ·obtain⟨sl,e1⟩:=I.base.slot b o e n hb hx
   exact⟨sl,(hs.2 b (Nat.ne_of_lt (Nat.lt_of_lt_of_le (Heap.lt_size e) (I.ok.cab x c hfn hc)))).trans e1⟩
  ·obtain⟨o',e1⟩:=I.base.there b o e hx
   exact⟨o',(hs.2 b (Nat.ne_of_lt (Nat.lt_of_lt_of_le (Heap.lt_size e) (I.ok.cab x c hfn hc)))).trans e1⟩
  ·by_cases hj:j=i
   ·subst hj
    rw[hi]at e1;cases e1
    rw[List.getElem?_set_self hiσ]at e2
    cases e2
    exact⟨u,r,.inr ⟨.inl hk,c,hc,hc'⟩⟩
   ·rw[List.getElem?_set_ne (Ne.symm hj)]at e2
    obtain⟨u',r',q⟩:=hl j y v' e1 e2 e3
    refine⟨u',r',?_⟩
    rcases q with q | ⟨k,c',e,z'⟩
    ·exact .inl q
    ·refine .inr ⟨k,c',e,z'.sameBut hs ?_⟩
     rintro rfl
     exact hj (PQ hN e1 (I.ok.inj _ _ _ e hc ▸ hi))
  ·by_cases hcc:c'=c
   ·subst hcc;exact⟨_,hc'⟩
   ·obtain⟨w2,z2⟩:=I.cell y c' e
    exact⟨w2,z2.sameBut hs hcc⟩
  ·obtain⟨e,n,ne,nf,d⟩:=I.pin p hp
   refine⟨(hs.2 p.1 ?_).trans e,n,ne,nf,d⟩
   intro q
   rw[q,hoc]at e
   have q':oc=p.2:=Option.some.inj e
   exact d w' (by rw[<-q'];exact hocd)
theorem NC{M:Model}{A:Around}{E:Value->Shared->Prop}{i:Nat}{x:Str}{v:V}{u:Value}{Q:Unit->Shared->Prop}(I:Inv X pins σ H s)(hN:X.N.Nodup)(hi:X.N[i]? =some x)(hx:JE X.env.scope x)(r:RelV v u)
  (h:∀ s',Inv X pins (σ.set i (some v)) H s'->Q () s') (hf:X.fn x=true\/X.env.scope.names.lookup x=some .local:=by first | exact .inl rfl | exact .inr rfl | assumption):wpAny M A (storeName X.env x u) Q E s :=
 VB I hN hi hx r (λs' I' _=>h s' I') hf
theorem Inv.call'{s':Shared}{ch:List Addr}(I:Inv X pins σ H s)(ho:s'.os=s.os)(u:Un (C2 X.stack) ch H H' s.heap s'.heap)(hok:HOk X.prog X.w H' s'.heap)(hg:AllBare s'.gens)
  (hch:∀ b∈ch,(b∈X.ex\/X.s₀.heap.objs.size<=b)/\b≠X.env.locals/\(∀ x c,X.env.cells.lookup x=some c->c≠b)/\∀ p∈X.pn++pins,p.1≠b):Inv X pins σ H' s':=by
 obtain⟨h',g',d',t',o'⟩:=s'
 have e:o'=s.os:=ho
 subst e
 exact I.call (g':=g') (t':=t') (d':=d') u hok hg hch
end
abbrev XK:=Value->Option Addr->Hp->Prop
abbrev St:=List (Option V)
abbrev VK:=V->Hp->Prop
abbrev TE:=St->Hp->VK->Prop
abbrev TT:=St->Hp->(Bool->Hp->Prop)->Prop
abbrev TA:=St->Hp->(List V->Hp->Prop)->Prop
structure Ends where
 nx:St->Hp->Prop
 rt:VK
 bk:St->Hp->Prop:=λ_ _=>False
 ct:St->Hp->Prop:=λ_ _=>False
abbrev TS:=Ends->St->Hp->Prop
def EP(X:Cx)(pins:List (Addr × Obj))(σ:St)(Q:VK)(u:Value)(s':Shared):Prop:=∃ v H',Inv X pins σ H' s'/\RelV v u/\Q v H'
def TP(X:Cx)(pins:List (Addr × Obj))(σ:St)(Q:Bool->Hp->Prop)(b:Bool)(s':Shared):Prop:=∃ H',Inv X pins σ H' s'/\Q b H'
def AP(X:Cx)(pins:List (Addr × Obj))(σ:St)(Q:List V->Hp->Prop)(us:List Value)(s':Shared):Prop:=∃ vs H',Inv X pins σ H' s'/\Vals vs us/\Q vs H'
def SP(X:Cx)(pins:List (Addr × Obj))(D:Ends)(f:Flow)(s':Shared):Prop :=
 match f with
 | .next=>∃ σ' H',Inv X pins σ' H' s'/\D.nx σ' H'
 | .brk=>∃ σ' H',Inv X pins σ' H' s'/\D.bk σ' H'
 | .cont=>∃ σ' H',Inv X pins σ' H' s'/\D.ct σ' H'
 | .ret u=>∃ v σ' H',Inv X pins σ' H' s'/\RelV v u/\D.rt v H'
def PE(X:Cx)(e:Expr)(t:TE):Prop :=
 ∀ (pins:List (Addr × Obj)) (s:Shared) (σ:St) (H:Hp) (Q:VK),Inv X pins σ H s->t σ H Q->wpAny (model X.prog X.w) X.A (eval e X.env) (EP X pins σ Q) X.xe s
def PT(X:Cx)(e:Expr)(t:TT):Prop :=
 ∀ (pins:List (Addr × Obj)) (s:Shared) (σ:St) (H:Hp) (Q:Bool->Hp->Prop),Inv X pins σ H s->t σ H Q->wpAny (model X.prog X.w) X.A (isTrue e X.env (eval e X.env)) (TP X pins σ Q) X.xe s
def PW(X:Cx)(e:Expr)(t:TT):Prop :=
 ∀ (whole:Sem Value) (pins:List (Addr × Obj)) (s:Shared) (σ:St) (H:Hp) (Q:Bool->Hp->Prop),Inv X pins σ H s->t σ H Q->wpAny (model X.prog X.w) X.A (isTrue e X.env whole) (TP X pins σ Q) X.xe s
theorem PW.pt{X:Cx}{e:Expr}{t:TT}(h:PW X e t):PT X e t:=h _
def PA(X:Cx)(es:List Expr)(t:TA):Prop :=
 ∀ (pos:Pos) (pins:List (Addr × Obj)) (s:Shared) (σ:St) (H:Hp) (Q:List V->Hp->Prop),Inv X pins σ H s->t σ H Q->wpAny (model X.prog X.w) X.A (spliced (backTo pos (starEach es X.env))) (AP X pins σ Q) X.xe s
def PS(X:Cx)(st:Stmt)(t:TS):Prop :=
 ∀ (pins:List (Addr × Obj)) (s:Shared) (σ:St) (H:Hp) (D:Ends),Inv X pins σ H s->t D σ H->wpAny (model X.prog X.w) X.A (exec st X.env) (SP X pins D) X.xe s
def E5(X:Cx)(st:List Stmt)(t:TS):Prop :=
 ∀ (pins:List (Addr × Obj)) (s:Shared) (σ:St) (H:Hp) (D:Ends),Inv X pins σ H s->t D σ H->wpAny (model X.prog X.w) X.A (execs st X.env) (SP X pins D) X.xe s
theorem AO{α :Type}{t:Sem α}{Q Q': α ->Shared->Prop}{M:Model}{A:Around}{E:Value->Shared->Prop}{s:Shared}(h:wpAny M A t Q E s)(hQ:∀ a s,Q a s->Q' a s):wpAny M A t Q' E s:=wpAny_mono h hQ λ_ _ x=>x
end L2
namespace L2
section
variable{X:Cx}
def PR(i:Nat):TE:=λσ H Q=>∃ v,σ[i]? =some (some v)/\Q v H
def tC(v:V):TE:=λ_ H Q=>Q v H
theorem g8{i:Nat}{x:Str}{pos:Pos}(hN:X.N[i]? =some x)(hv:PP X.env.scope x)(hd:(x ==("__debug__":Str))=false:=by decide)(hcd:(x ==("__classdict__":Str))=false:=by decide):PE X (.Name x pos) (PR i):=by
 intro pins s σ H Q I h
 obtain⟨v,e,h⟩:=h
 obtain⟨m,hn,hl⟩:=I.loc
 obtain⟨u,r,l⟩:=hl i x v hN e hv
 have fin:EP X pins σ Q u s:=⟨v,H,I,r,h⟩
 rcases l with⟨hk,hm⟩ | ⟨hk,c,hc,hcell⟩
 ·exact wpAny_Name (wpAny_loadName_local I.ok.kind hk hn hm fin) hd
 ·rcases hk with hk | hk
  ·exact wpAny_Name (wpAny_loadName_cell I.ok.kind hk hc hcell fin) hd
  ·exact wpAny_Name (wpAny_loadName_free I.ok.kind hk hc hcell fin hcd) hd
theorem AL{i j pos}:PE X (.Constant (.int i) j pos) (tC (.int i)):=λ_ _ _ H _ I h=>wpAny_Constant_int ⟨.int i,H,I.tok _,⟨_,rfl⟩,h⟩
theorem CF{b j pos}:PE X (.Constant (.bool b) j pos) (tC (.bl b)):=λ_ _ _ H _ I h=>Constant_bool ⟨.bl b,H,I,rfl,h⟩
theorem F9{j pos}:PE X (.Constant .none j pos) (tC .non):=λ_ _ _ H _ I h=>Constant_none ⟨.non,H,I,rfl,h⟩
theorem BE{x j pos}:PE X (.Constant (.str x) j pos) (tC (.str x)):=λ_ _ _ H _ I h=>Calls.Constant_str ⟨.str x,H,I.tok _,⟨_,rfl⟩,h⟩
def Gl(X:Cx)(x:Str):Prop:=X.env.kindOf x=some .globalImplicit
theorem LP{E:Value->Shared->Prop}{pins:List (Addr × Obj)}{s:Shared}{σ:St}{H:Hp}{x:Str}{u:Value}{pos:Pos}{Q:Value->Shared->Prop}(I:Inv X pins σ H s)(hg:Gl X x)(hm:X.mg x=some u)(h:Q u s)
  (hd:(x ==("__debug__":Str))=false:=by decide):wpAny (model X.prog X.w) X.A (eval (.Name x pos) X.env) Q E s :=
 Calls.Name_function_global I.ok.kind hg (Calls.loadGlobal_global (by rw[I.ok.glob];exact I.mod.glob.keeps I.bk) hm h) hd
theorem JF{E:Value->Shared->Prop}{pins:List (Addr × Obj)}{s:Shared}{σ:St}{H:Hp}{x:Str}{u:Value}{pos:Pos}{Q:Value->Shared->Prop}(I:Inv X pins σ H s)(hg:Gl X x)(hm:X.mg x=none)(hv:bootBuiltins x=some u)(h:Q u s)
  (hn:x≠"__name__":=by decide) (hd:(x ==("__debug__":Str))=false:=by decide):wpAny (model X.prog X.w) X.A (eval (.Name x pos) X.env) Q E s:=by
 obtain⟨mb,h1,h2⟩:=I.mod.blt
 exact Calls.Name_function_global I.ok.kind hg (Calls.loadGlobal_builtin (by rw[I.ok.glob];exact I.mod.glob.keeps I.bk) hm (by rw[I.ok.blt];exact h1.keeps I.bk) ((h2 x hn).trans hv) h) hd
theorem g9{x:Str}{v:V}{u:Value}{pos:Pos}(hg:Gl X x)(hm:X.mg x=some u)(r:RelV v u)(hd:(x ==("__debug__":Str))=false:=by decide):PE X (.Name x pos) (tC v) :=
 λ_ _ _ H _ I h=>LP I hg hm ⟨v,H,I,r,h⟩ hd
theorem E6{x:Str}{v:V}{u:Value}{pos:Pos}(hg:Gl X x)(hm:X.mg x=none)(hv:bootBuiltins x=some u)(r:RelV v u)(hn:x≠"__name__":=by decide)(hd:(x ==("__debug__":Str))=false:=by decide):PE X (.Name x pos) (tC v) :=
 λ_ _ _ H _ I h=>JF I hg hm hv ⟨v,H,I,r,h⟩ hn hd
variable{a b:Expr}{ta tb:TE}{pos:Pos}
def PC(X:Cx)(op:CmpOp)(a b:Expr)(t:TE):Prop :=
 ∀ (pins:List (Addr × Obj)) (s:Shared) (σ:St) (H:Hp) (Q:VK),Inv X pins σ H s->t σ H Q →
  wpAny (model X.prog X.w) X.A (eval a X.env) (λv s₁=>wpAny (model X.prog X.w) X.A (eval b X.env) (λu s₂=>wpAny (model X.prog X.w) X.A (compareOp op v u) (EP X pins σ Q) X.xe s₂) X.xe s₁) X.xe s
theorem hE(b:Expr){op:CmpOp}(h:op≠.In)(h2:op≠.NotIn):behindInMarks op b=false:=by
 have e1:(op == CmpOp.In)=false:=by cases op<;>first | rfl | exact absurd rfl h
 have e2:(op == CmpOp.NotIn)=false:=by cases op<;>first | rfl | exact absurd rfl h2
 cases b<;>simp[behindInMarks,e1,e2]
def tB(t:TE):TT:=λσ H Q=>t σ H λx H1=>∃ c,x=.bl c/\Q c H1
theorem D7{op:CmpOp}{t:TE}(h:PC X op a b t)(h1:behindInMarks op b=false:=by first | exact hE _ (by decide) (by decide) | rfl):PT X (.Compare a [op] [b] pos) (tB t):=by
 intro pins s σ H Q I hw
 refine wpAny_isTrue_Compare1 (AO (h pins s σ H _ I hw) λv s1 h1=>AO h1 λu s2 h2=>AO h2 λc s3 ⟨x,H1,I1,r1,q1⟩=> ?_) h1
 obtain⟨d,rfl,q⟩:=q1
 cases r1
 exact wpAny_truthy_bool ⟨H1,I1,q⟩
variable{tA tB':TT}{DI:List Expr}
def JG(t u:TT):TT:=λσ H Q=>t σ H λc H1=>if c=true then u σ H1 Q else Q false H1
def EN(t u:TT):TT:=λσ H Q=>t σ H λc H1=>if c=true then Q true H1 else u σ H1 Q
def CU(t:TT):TT:=λσ H Q=>t σ H λc H1=>Q (!c) H1
theorem ND(ha:PT X a tA):PW X (.BoolOp .And [a] pos) tA:=by
 intro wh pins s σ H Q I h
 refine isTrue_and (AO (ha pins s σ H Q I h) λc s1 e=> ?_)
 cases c with
 | true=>exact isTrue_and_nil e
 | false=>exact e
theorem HQ(ha:PT X a tA):PW X (.BoolOp .Or [a] pos) tA:=by
 intro wh pins s σ H Q I h
 refine isTrue_or (AO (ha pins s σ H Q I h) λc s1 e=> ?_)
 cases c with
 | false=>exact isTrue_or_nil e
 | true=>exact e
theorem NE(ha:PT X a tA)(hb:PW X (.BoolOp .And (b::DI) pos) tB'):PW X (.BoolOp .And (a::b::DI) pos) (JG tA tB'):=by
 intro wh pins s σ H Q I h
 refine isTrue_and (AO (ha pins s σ H _ I h) λc s1 ⟨H1,I1,q1⟩=> ?_)
 cases c with
 | true=>exact hb wh pins s1 σ H1 Q I1 q1
 | false=>exact⟨H1,I1,q1⟩
theorem FN(ha:PT X a tA)(hb:PW X (.BoolOp .Or (b::DI) pos) tB'):PW X (.BoolOp .Or (a::b::DI) pos) (EN tA tB'):=by
 intro wh pins s σ H Q I h
 refine isTrue_or (AO (ha pins s σ H _ I h) λc s1 ⟨H1,I1,q1⟩=> ?_)
 cases c with
 | true=>exact⟨H1,I1,q1⟩
 | false=>exact hb wh pins s1 σ H1 Q I1 q1
theorem CY(ha:PT X a tA):PT X (.UnaryOp .Not a pos) (CU tA):=by
 intro pins s σ H Q I h
 exact isTrue_not (ha pins s σ H (λc H1=>Q (!c) H1) I h)
def FO(ta tb:TE):TE:=λσ H Q=>ta σ H λx H1=>∃ c,x=.bl c/\if c=true then tb σ H1 Q else Q (.bl false) H1
theorem HR{op}{t:TE}(h:PE X a t):PE X (.BoolOp op [a] pos) t:=λpins s σ H Q I hw=>BoolOp_one (h pins s σ H Q I hw)
theorem GS(ha:PE X a ta)(hb:PE X (.BoolOp .And (b::DI) pos) tb):PE X (.BoolOp .And (a::b::DI) pos) (FO ta tb):=by
 intro pins s σ H Q I h
 refine BoolOp_and (AO (ha pins s σ H _ I h) λv s1 ⟨x,H1,I1,r1,q1⟩=> ?_)
 obtain⟨c,rfl,q1⟩:=q1
 cases r1
 refine wpAny_truthy_bool ?_
 cases c with
 | true=>exact hb pins s1 σ H1 Q I1 q1
 | false=>exact⟨.bl false,H1,I1,rfl,q1⟩
end
end L2
namespace L2
def SqL(K:W.Frag)(H:Hp)(a:Addr)(xs:List V):Prop :=
 Rd H a (.lst xs) ∨
  ∃ (o:Obj) (its:Array Value) (n:Nat),K.lookup a=some o/\o.cls=.type "list"/\o.dict=none/\o.data=.seq its n/\its.size<=sizeLine/\Vals xs its.toList
def SqT(K:W.Frag)(H:Hp)(a:Addr)(xs:List V):Prop :=
 Rd H a (.tup xs) ∨
  ∃ (o:Obj) (its:Array Value) (n:Nat),K.lookup a=some o/\o.cls=.type "tuple"/\o.data=.seq its n/\its.size<=sizeLine/\Vals xs its.toList
def hV:Value->Option V
 | .none=>some .non
 | .bool b=>some (.bl b)
 | .int i _=>some (.int i)
 | .str x _=>some (.str x)
 | .bytes b _=>some (.byt b)
 | .float b _=>some (.flt b)
 | .ref a=>some (.ref a)
 | .type n=>some (.ty n)
 | _=>none
theorem RelV.abs{x:V}{u:Value}(r:RelV x u):hV u=some x:=by
 cases x with
 | non=>cases r;rfl
 | bl _=>cases r;rfl
 | int _=>obtain⟨t,rfl⟩:=r;rfl
 | str _=>obtain⟨t,rfl⟩:=r;rfl
 | byt _=>obtain⟨t,rfl⟩:=r;rfl
 | flt _=>obtain⟨t,rfl⟩:=r;rfl
 | ref _=>cases r;rfl
 | ty _=>cases r;rfl
theorem RelV.inj{x y:V}{u:Value}(r:RelV x u)(q:RelV y u):x=y:=Option.some.inj (r.abs.symm.trans q.abs)
theorem Vals.inj:∀ {xs ys:List V} {us:List Value},Vals xs us->Vals ys us->xs=ys
 | _,_,_,.nil,.nil=>rfl
 | _,_,_,.cons r t,.cons r' t'=>by rw[r.inj r',Vals.inj t t']
section
variable{X:Cx}{pins:List (Addr × Obj)}{σ:St}{H:Hp}{s:Shared}{a:Addr}{xs ys:List V}
theorem SqL.of{K:W.Frag}(h:H a=some (.lst xs)):SqL K H a xs:=.inl (.inl h)
theorem SqT.of{K:W.Frag}(h:H a=some (.tup xs)):SqT K H a xs:=.inl (.inl h)
theorem Inv.list(I:Inv X pins σ H s)(h:SqL X.K H a xs):∃ its:List Value,Vals xs its/\PlainL s.heap a its.toArray/\xs.length<=sizeLine:=by
 rcases h with h | ⟨o,its,n,hk,hc,hd,hs,hz,r⟩
 ·obtain⟨z,its,n,r,e⟩:=h.ok I.hok
  exact⟨its,r,⟨_,n,e,rfl,rfl,rfl⟩,z⟩
 ·refine⟨its.toList,r,⟨o,n,I.kIn a o hk,hc,hd,by simpa using hs⟩,?_⟩
  have e:=r.length
  simp only[Array.length_toList]at e
  omega
theorem Inv.tuple(I:Inv X pins σ H s)(h:SqT X.K H a xs):∃ its:List Value,Vals xs its/\IsTup s.heap a its.toArray/\xs.length<=sizeLine:=by
 rcases h with h | ⟨o,its,n,hk,hc,hs,hz,r⟩
 ·obtain⟨z,its,r,p⟩:=h.ok I.hok
  exact⟨its,r,p,z⟩
 ·refine⟨its.toList,r,⟨o,I.kIn a o hk,hc,n,by simpa using hs⟩,?_⟩
  have e:=r.length
  simp only[Array.length_toList]at e
  omega
theorem Inv.list_inj(I:Inv X pins σ H s)(h:SqL X.K H a xs)(h':SqL X.K H a ys):xs=ys:=by
 obtain⟨its,r,⟨o,n,e,_,_,d⟩,_⟩:=I.list h
 obtain⟨its',r',⟨o',n',e',_,_,d'⟩,_⟩:=I.list h'
 rw[e]at e';cases e'
 rw[d]at d'
 injection d' with d1 _
 have:its=its':=by simpa using congrArg Array.toList d1
 subst this
 exact r.inj r'
theorem Inv.tuple_inj(I:Inv X pins σ H s)(h:SqT X.K H a xs)(h':SqT X.K H a ys):xs=ys:=by
 obtain⟨its,r,⟨o,e,_,n,d⟩,_⟩:=I.tuple h
 obtain⟨its',r',⟨o',e',_,n',d'⟩,_⟩:=I.tuple h'
 rw[e]at e';cases e'
 rw[d]at d'
 injection d' with d1 _
 have:its=its':=by simpa using congrArg Array.toList d1
 subst this
 exact r.inj r'
end
section
variable{X:Cx}{pins:List (Addr × Obj)}{σ:St}{H:Hp}{s:Shared}{E:Value->Shared->Prop}
end
section
variable{X:Cx}{st:Stmt}{DI:List Stmt}{t u:TS}{e:Expr}{te:TE}{pos:Pos}
def BL:TS:=λD σ H=>D.nx σ H
def AK(t u:TS):TS:=λD σ H=>t { D with nx:=u D } σ H
theorem BN:E5 X [] BL:=λ_ _ σ H _ I h=>wpAny_execs_nil ⟨σ,H,I,h⟩
theorem AM(h1:PS X st t)(h2:E5 X DI u):E5 X (st::DI) (AK t u):=by
 intro pins s σ H D I h
 refine wpAny_execs_cons (AO (h1 pins s σ H { D with nx:=u D } I h) λf s1 q=> ?_)
 cases f with
 | next =>
  obtain⟨σ',H',I',q⟩:=q
  exact h2 pins s1 σ' H' D I' q
 | ret v=>exact q
 | brk=>exact q
 | cont=>exact q
theorem AN(h1:PS X st t):E5 X [st] t:=by
 intro pins s σ H D I h
 refine wpAny_execs_cons (AO (h1 pins s σ H D I h) λf s1 q=> ?_)
 cases f with
 | next=>exact wpAny_execs_nil q
 | ret v=>exact q
 | brk=>exact q
 | cont=>exact q
theorem Inv.quiet{pins:List (Addr × Obj)}{σ:St}{H:Hp}{s:Shared}(I:Inv X pins σ H s):interactive X.env=false:=by simp[interactive,I.ok.kind]
def CV(te:TE):TS:=λD σ H=>te σ H λ_ H1=>D.nx σ H1
theorem CZ(he:PE X e te)(hs:swapsWith e none pos.line X.env=pure false:=by rfl):PS X (.Expr e pos) (CV te):=by
 intro pins s σ H D I h
 exact wpAny_Expr_any (AO (he pins s σ H _ I h) λv s1 ⟨x,H1,I1,r1,q1⟩=>⟨σ,H1,I1,q1⟩) I.quiet hs
def A0(te:TE):TS:=λD σ H=>te σ H D.rt
theorem A1(he:PE X e te):PS X (.Return (some e) pos) (A0 te):=by
 intro pins s σ H D I h
 exact wpAny_Return_some (AO (he pins s σ H _ I h) λv s1 ⟨x,H1,I1,r1,q1⟩=>⟨x,σ,H1,I1,r1,q1⟩)
def BF(c:TT)(t u:TS):TS:=λD σ H=>c σ H λb H1=>if b=true then t D σ H1 else u D σ H1
theorem BH{c:Expr}{a b:List Stmt}{tc:TT}(hc:PT X c tc)(ha:E5 X a t)(hb:E5 X b u):PS X (.If c a b pos) (BF tc t u):=by
 intro pins s σ H D I h
 refine wpAny_If (AO (hc pins s σ H _ I h) λd s1 ⟨H1,I1,q1⟩=> ?_)
 cases d with
 | true=>exact ha pins s1 σ H1 D I1 q1
 | false=>exact hb pins s1 σ H1 D I1 q1
end
abbrev TG:=V->St->Hp->(St->Hp->Prop)->Prop
abbrev HB:=List V->St->Hp->(St->Hp->Prop)->Prop
def PG(X:Cx)(target:Expr)(t:TG):Prop :=
 ∀ (pins:List (Addr × Obj)) (s:Shared) (σ:St) (H:Hp) (v:V) (u:Value) (Q:St->Hp->Prop),Inv X pins σ H s->RelV v u->t v σ H Q →
  wpAny (model X.prog X.w) X.A (assign target X.env u) (λ_ s'=>∃ σ' H',Inv X pins σ' H' s'/\Q σ' H') X.xe s
def NF(X:Cx)(ts:List Expr)(t:HB):Prop :=
 ∀ (pins:List (Addr × Obj)) (s:Shared) (σ:St) (H:Hp) (vs:List V) (us:List Value) (Q:St->Hp->Prop),Inv X pins σ H s->Vals vs us->t vs σ H Q →
  wpAny (model X.prog X.w) X.A (assignInOrder ((assignEach ts X.env).map (·.2)) us) (λ_ s'=>∃ σ' H',Inv X pins σ' H' s'/\Q σ' H') X.xe s
abbrev NG:=V->V->V->Hp->(Hp->Prop)->Prop
def PU(X:Cx)(t:NG):Prop :=
 ∀ (pins:List (Addr × Obj)) (s:Shared) (σ:St) (H:Hp) (o i v:V) (ov iv u:Value) (Q:Hp->Prop),Inv X pins σ H s->RelV o ov->RelV i iv->RelV v u->t o i v H Q →
  wpAny (model X.prog X.w) X.A (setItem ov iv u) (λ_ s'=>∃ H',Inv X pins σ H' s'/\Q H') X.xe s
abbrev VC:=V->V->Hp->VK->Prop
section
variable{X:Cx}{pos:Pos}
def AS(i:Nat):TG:=λv σ H Q=>Q (σ.set i (some v)) H
theorem DT{i:Nat}{x:Str}(hN:X.N.Nodup)(hi:X.N[i]? =some x)(hx:JE X.env.scope x)(hf:X.fn x=true\/X.env.scope.names.lookup x=some .local:=by first | exact .inl rfl | exact .inr rfl | assumption):PG X (.Name x pos) (AS i):=by
 intro pins s σ H v u Q I r h
 exact wpAny_assign_Name (NC I hN hi hx r (λs' I'=>⟨_,H,I',h⟩) hf)
def HS:HB:=λvs σ H Q=>vs=[]/\Q σ H
def D8(t:TG)(u:HB):HB:=λvs σ H Q=>∃ v r,vs=v::r/\t v σ H λσ' H'=>u r σ' H' Q
theorem LQ:NF X [] HS:=by
 intro pins s σ H vs us Q I r h
 obtain⟨e,h⟩:=h
 subst e
 cases r
 exact assignInOrder_nil ⟨σ,H,I,h⟩
theorem EO{e:Expr}{es:List Expr}{t:TG}{u:HB}(h1:PG X e t)(h2:NF X es u)
  (hs:(assignEach (e::es) X.env).map (·.2)=assign e X.env::(assignEach es X.env).map (·.2):=by rfl):NF X (e::es) (D8 t u):=by
 intro pins s σ H vs us Q I r h
 obtain⟨v,vr,e1,h⟩:=h
 subst e1
 cases r with
 | cons r rr =>
  rw[hs]
  refine assignInOrder_cons (AO (h1 pins s σ H _ _ _ I r h) λ_ s1 ⟨σ1,H1,I1,q1⟩=> ?_)
  exact h2 pins s1 σ1 H1 _ _ Q I1 rr q1
def HU(K:W.Frag)(n:Nat)(t:HB):TG:=λv σ H Q=>∃ a xs,v=.ref a/\SqT K H a xs/\xs.length=n/\t xs σ H Q
theorem LR{es:List Expr}{k:Nat}{t:HB}{n:Nat}(hc:X.calm=true)(h:NF X es t)
  (hn:(assignEach es X.env).length=n:=by rfl) (hst:(assignEach es X.env).findIdx? (·.1)=none:=by rfl):PG X (.Tuple es k pos) (HU X.K n t):=by
 intro pins s σ H v u Q I r hw
 obtain⟨a,xs,e1,hq,hl,hw⟩:=hw
 subst e1
 cases r
 obtain⟨its,rv,ht,hz⟩:=I.tuple hq
 refine assign_Tuple_tuple (I.ok.hd hc) ht (by simp[hn,<-hl,rv.length]) hst λh' hx=> ?_
 have I1:Inv X pins σ H { s with heap:=h' }:=I.kept (t':=s.toks) λb o e=>hx b o (Nat.ne_of_lt (Heap.lt_size e)) e
 exact h pins _ σ H xs _ Q I1 (by simpa using rv) hw
def JH(to ti:TE)(t:NG):TG:=λv σ H Q=>to σ H λo H1=>ti σ H1 λi H2=>t o i v H2 λH3=>Q σ H3
theorem NH{o i:Expr}{to ti:TE}{t:NG}(ho:PE X o to)(hi:PE X i ti)(hs:PU X t)
  (ha:∀ v,assign (.Subscript o i pos) X.env v=(do
   let ov ← holding [v] (eval o X.env)
   let iv ← holding [v,ov] (eval i X.env)
   standAt pos
   holding [v,ov,iv] (setItem ov iv v)
   release [v,ov,iv] []):=by intro _;rfl):PG X (.Subscript o i pos) (JH to ti t):=by
 intro pins s σ H v u Q I r h
 rw[ha]
 refine wpAny_bind (wpAny_holding (AO (ho pins s σ H _ I h) λov s1 ⟨x,H1,I1,r1,q1⟩=> ?_))
 refine wpAny_bind (wpAny_holding (AO (hi pins s1 σ H1 _ I1 q1) λiv s2 ⟨y,H2,I2,r2,q2⟩=> ?_))
 refine wpAny_bind (wpAny_standAt (wpAny_bind (wpAny_holding (AO (hs pins s2 σ H2 x y v ov iv u _ I2 r1 r2 r q2) λ_ s3 ⟨H3,I3,q3⟩=> ?_))))
 exact wpAny_release ⟨σ,H3,I3,q3⟩
def A8(te:TE)(g:TG):TS:=λD σ H=>te σ H λx H1=>g x σ H1 D.nx
theorem LS{tg e:Expr}{te:TE}{g:TG}(he:PE X e te)(hg:PG X tg g)(hs:swapsWithSole [tg] e pos.line X.env=pure false:=by rfl)(hw:swappedStores [tg] e X.env=pure none:=by rfl)
  (h1:(assignEach [tg] X.env).map (·.2)=[assign tg X.env]:=by rfl):PS X (.Assign [tg] e pos) (A8 te g):=by
 intro pins s σ H D I h
 refine wpAny_Assign_stores (AO (he pins s σ H _ I h) λv s1 ⟨x,H1,I1,r1,q1⟩=> ?_) hs hw
 rw[h1]
 exact AO (hg pins s1 σ H1 x v _ I1 r1 q1) λ_ s2 q=>q
theorem LT{i:Nat}{x:Str}{e:Expr}{te:TE}{pos':Pos}(hN:X.N.Nodup)(hi:X.N[i]? =some x)(hx:JE X.env.scope x)(he:PE X e te)(hs:swapsWith e (some (.Name x pos')) pos.line X.env=pure false:=by rfl)(hf:X.fn x=true\/X.env.scope.names.lookup x=some .local:=by first | exact .inl rfl | exact .inr rfl | assumption) :
  PS X (.Assign [.Name x pos'] e pos) (A8 te (AS i)):=by
 intro pins s σ H D I h
 refine wpAny_Assign_Name (AO (he pins s σ H _ I h) λv s1 ⟨y,H1,I1,r1,q1⟩=> ?_) hs
 exact NC I1 hN hi hx r1 (λs2 I2=>⟨_,H1,I2,q1⟩) hf
def hX(f:Int->Int->Int):VC:=λx y H Q=>∃ i j,x=.int i/\y=.int j/\Q (.int (f i j)) H
end
section
variable{X:Cx}{pos:Pos}
end
structure It where
 go:Nat->Hp->Prop
 yld:Nat->Hp->V->Hp->Prop
 stop:Nat->Hp->Prop
def FpOk(X:Cx)(pins:List (Addr × Obj))(H:Hp)(b:Addr):Prop :=
 H b=none/\b≠X.env.locals/\b∉X.fs/\(b∈X.ex\/X.s₀.heap.objs.size<=b)/\(∀ x c,X.env.cells.lookup x=some c->c≠b)/\∀ p∈X.pn++pins,p.1≠b
theorem Inv.fpOk{X:Cx}{pins:List (Addr × Obj)}{σ:St}{H H':Hp}{s:Shared}{b:Addr}(I:Inv X pins σ H s)(hb:s.heap.objs.size<=b)(hn:H' b=none):FpOk X pins H' b:=by
 refine⟨hn,Nat.ne_of_gt (Nat.lt_of_lt_of_le I.lt hb),I.nofs hb,.inr (Nat.le_trans I.sz hb),λx c e z=> ?_,λp hp z=> ?_⟩
 ·obtain⟨v,q⟩:=I.cell x c e
  exact absurd (Nat.lt_of_lt_of_le q.lt (by rw[z];exact hb)) (Nat.lt_irrefl _)
 ·exact absurd (Nat.lt_of_lt_of_le (Heap.lt_size (I.pin p hp).1) (by rw[z];exact hb)) (Nat.lt_irrefl _)
structure HC(P:Program)(w:World)(K:W.Frag)(tg:Expr)(J:It)(fp:List Addr)(it:Addr)(tn:Nat->Heap->Prop):Prop where
 mem:it∈fp
 obj:∀ i h,tn i h->∀ b∈fp,∃ o,h.get? b=some o/\∀ v,o.data≠.cell v
 keep:∀ i h h',tn i h->(∀ b∈fp,∀ o,h.get? b=some o->h'.get? b=some o)->tn i h'
 item:∀ (X:Cx),X.prog=P->X.w=w->X.K=K->X.calm=true->∀ (i:Nat) (pins:List (Addr × Obj)) (s:Shared) (σ:St) (H:Hp) (E:Value->Shared->Prop),Inv X pins σ H s->(∀ b∈fp,FpOk X pins H b)->tn i s.heap->J.go i H →
  wpAny (model P w) X.A (pyNext (.ref it)) (λr s1=>∃ u,r=some u ∧
   wpAny (model P w) X.A (letOwnedTupleGo tg (.ref it) u) (λ_ s2=>∃ x H',Inv X pins σ H' s2/\RelV x u/\J.yld i H x H'/\tn (i+1) s2.heap/\∀ b∈fp,H' b=none) E s1) E s
 done:∀ (X:Cx),X.prog=P->X.w=w->X.K=K->X.calm=true->∀ (i:Nat) (pins:List (Addr × Obj)) (s:Shared) (σ:St) (H:Hp) (E:Value->Shared->Prop),Inv X pins σ H s->(∀ b∈fp,FpOk X pins H b)->tn i s.heap->J.stop i H →
  wpAny (model P w) X.A (pyNext (.ref it)) (λr s1=>r=none/\Inv X pins σ H s1) E s
 self:∀ (A:Around) (i:Nat) (s:Shared) (Q:Value->Shared->Prop) (E:Value->Shared->Prop),tn i s.heap->Q (.ref it) s->wpAny (model P w) A (pyIter (.ref it)) Q E s
abbrev TI:=St->Hp->(It->Hp->Prop)->Prop
def VD(X:Cx)(pins:List (Addr × Obj))(σ:St)(tg:Expr)(R:It->Hp->Prop)(itv:Value)(s2:Shared):Prop :=
 ∃ (it:Addr) (fp:List Addr) (tn:Nat->Heap->Prop) (J:It) (H':Hp),itv=.ref it/\Inv X pins σ H' s2/\HC X.prog X.w X.K tg J fp it tn/\tn 0 s2.heap/\(∀ b∈fp,FpOk X pins H' b)/\R J H'
def PI(X:Cx)(tg iter:Expr)(wi:TI):Prop :=
 ∀ (pins:List (Addr × Obj)) (s:Shared) (σ:St) (H:Hp) (R:It->Hp->Prop),Inv X pins σ H s->wi σ H R →
  wpAny (model X.prog X.w) X.A (eval iter X.env) (λv s1=>wpAny (model X.prog X.w) X.A (pyIter v) (VD X pins σ tg R) X.xe s1) X.xe s
theorem LU{M:Model}{A:Around}{E:Value->Shared->Prop}{s:Shared}{tg:Expr}{it:Addr}{u:Value}{o:Obj}{n:String}{vs:Array Value}{Q:Unit->Shared->Prop}(ho:s.heap.get? it=some o)(hc:o.cls=.type n)(hd:o.data=.fields vs)
    (hn:["enumerate","zip","dict_itemiterator","dict_reverseitemiterator","odict_iterator","itertools.zip_longest","itertools.pairwise"].contains n=false) (hQ:Q () s):wpAny M A (letOwnedTupleGo tg (.ref it) u) Q E s:=by
  unfold letOwnedTupleGo
  cases tg<;>first
    | exact wpAny_pure hQ
    | (cases u<;>first
        | exact wpAny_pure hQ
        | (refine wpAny_bind (wpAny_load ho ?_)
           rw[hc,hd]
           show wpAny M A (if(["enumerate","zip","dict_itemiterator","dict_reverseitemiterator","odict_iterator","itertools.zip_longest","itertools.pairwise"].contains n && vs[0]? == some (rawInt _))=true then _ else _) Q E s
           rw[if_neg (by intro h;rw[hn,Bool.false_and]at h;cases h)]
           exact wpAny_pure hQ))
def FQ(K:W.Frag)(a:Addr):It :=
 ⟨λi H=>∃ xs x,SqL K H a xs/\xs[i]? =some x,λi H x H'=>H'=H/\∀ xs,SqL K H a xs->xs[i]? =some x,λi H=>∃ xs,SqL K H a xs/\xs.length<=i⟩
def GT(K:W.Frag)(a:Addr):It :=
 ⟨λi H=>∃ xs x,SqT K H a xs/\xs[i]? =some x,λi H x H'=>H'=H/\∀ xs,SqT K H a xs->xs[i]? =some x,λi H=>∃ xs,SqT K H a xs/\xs.length<=i⟩
def E7(lo:Int)(n:Nat):It:=⟨λi _=>i<n,λi H x H'=>H'=H/\x=.int (lo+i),λi _=>n<=i⟩
theorem hZ{P:Program}{w:World}{K:W.Frag}{tg:Expr}(a it:Addr):HC P w K tg (FQ K a) [it] it (λi h=>h.IsListIter it a i) where
 mem:=by simp
 obj:=λi h st b hb=>by
  have e:b=it:=by simpa using hb
  subst e
  obtain⟨o,e,c,d⟩:=st
  exact⟨o,e,λv z=>by rw[d]at z;cases z⟩
 keep:=λi h h' st k=>st.at λo e=>k it (by simp) o e
 item:=by
  intro X hP hw hK hc i pins s σ H E I hf st hg
  subst hP hw hK
  obtain⟨xs,x,hq,hx⟩:=hg
  obtain⟨its,rv,p,hz⟩:=I.list hq
  obtain⟨u,hu,ru⟩:=rv.get hx
  obtain⟨f0,f1,f2,f3,f4,f5⟩:=hf it (by simp)
  refine wpAny_pyNext_list_item st p.isList (x:=u) (by simpa using hu) λh' st' sb=> ?_
  have I1:Inv X pins σ H { s with heap:=h' }:=I.turned (t':=s.toks) (λb o hb e=>(sb.2 b hb).trans e) f0 f1 f3 f4 f5
  obtain⟨o,e,c,d⟩:=id st'
  exact⟨u,rfl,LU (s:={ s with heap:=h' }) e c d (by decide) ⟨x,H,I1,ru,⟨rfl,λys hy=>by rw[I.list_inj hy hq];exact hx⟩,st',λb hb=>(hf b hb).1⟩⟩
 done:=by
  intro X hP hw hK hc i pins s σ H E I hf st hg
  subst hP hw hK
  obtain⟨xs,hq,hx⟩:=hg
  obtain⟨its,rv,p,hz⟩:=I.list hq
  obtain⟨f0,f1,f2,f3,f4,f5⟩:=hf it (by simp)
  have hl:=rv.length
  exact wpAny_pyNext_list_end (I.ok.hd hc) st p.isList (by simp;omega) λh' eb=>⟨rfl,I.turned (t':=s.toks) (λb o hb e=>eb b o hb e) f0 f1 f3 f4 f5⟩
 self:=λ_ _ _ _ _ st h=>wpAny_pyIter_listiter st h
theorem h9{P:Program}{w:World}{K:W.Frag}{tg:Expr}(a it:Addr):HC P w K tg (GT K a) [it] it (λi h=>h.IsTupleIter it a i) where
 mem:=by simp
 obj:=λi h st b hb=>by
  have e:b=it:=by simpa using hb
  subst e
  obtain⟨o,e,c,d⟩:=st
  exact⟨o,e,λv z=>by rw[d]at z;cases z⟩
 keep:=λi h h' st k=>st.at λo e=>k it (by simp) o e
 item:=by
  intro X hP hw hK hc i pins s σ H E I hf st hg
  subst hP hw hK
  obtain⟨xs,x,hq,hx⟩:=hg
  obtain⟨its,rv,p,hz⟩:=I.tuple hq
  obtain⟨u,hu,ru⟩:=rv.get hx
  obtain⟨f0,f1,f2,f3,f4,f5⟩:=hf it (by simp)
  refine wpAny_pyNext_tuple_item st (show s.heap.IsTuple a its.toArray from p) (x:=u) (by simpa using hu) λh' st' sb=> ?_
  have I1:Inv X pins σ H { s with heap:=h' }:=I.turned (t':=s.toks) (λb o hb e=>(sb.2 b hb).trans e) f0 f1 f3 f4 f5
  obtain⟨o,e,c,d⟩:=id st'
  exact⟨u,rfl,LU (s:={ s with heap:=h' }) e c d (by decide) ⟨x,H,I1,ru,⟨rfl,λys hy=>by rw[I.tuple_inj hy hq];exact hx⟩,st',λb hb=>(hf b hb).1⟩⟩
 done:=by
  intro X hP hw hK hc i pins s σ H E I hf st hg
  subst hP hw hK
  obtain⟨xs,hq,hx⟩:=hg
  obtain⟨its,rv,p,hz⟩:=I.tuple hq
  obtain⟨f0,f1,f2,f3,f4,f5⟩:=hf it (by simp)
  have hl:=rv.length
  exact wpAny_pyNext_tuple_end (I.ok.hd hc) st (show s.heap.IsTuple a its.toArray from p) (by simp;omega) λh' eb=>⟨rfl,I.turned (t':=s.toks) (λb o hb e=>eb b o hb e) f0 f1 f3 f4 f5⟩
 self:=λ_ _ _ _ _ st h=>wpAny_pyIter_tupleiter st h
theorem iA{P:Program}{w:World}{K:PySem.W.Frag}{tg:Expr}(it:Addr)(lo:Int)(n:Nat):HC P w K tg (E7 lo n) [it] it (λi h=>IsRangeIter h it (lo+(i:Nat) * 1) ((n:Int) - (i:Nat)) 1) where
 mem:=by simp
 obj:=λi h st b hb=>by
  have e:b=it:=by simpa using hb
  subst e
  exact⟨_,st,λv z=>by
   have z':Data.fields _=Data.cell v:=z
   cases z'⟩
 keep:=λi h h' st k=>k it (by simp) _ st
 item:=by
  intro X hP hw hK hc i pins s σ H E I hf st hg
  subst hP hw hK
  obtain⟨f0,f1,f2,f3,f4,f5⟩:=hf it (by simp)
  have W:=Walks.range (prog:=X.prog) (w:=X.w) (I.ok.hd hc) it lo 1 n
  refine W.item i s _ _ hg st λv h' tk hv st' kk=> ?_
  obtain⟨t,rfl⟩:=hv
  have I1:Inv X pins σ H { s with heap:=h',toks:=tk }:=I.turned (λb o hb e=>kk b o (by simpa using hb) e) f0 f1 f3 f4 f5
  refine⟨_,rfl,LU (s:={ s with heap:=h',toks:=tk }) (n:="range_iterator") st' rfl rfl (by decide) ⟨.int (lo+i),H,I1,⟨t,?_⟩,⟨rfl,rfl⟩,st',λb hb=>(hf b hb).1⟩⟩
  rw[Int.mul_one]
 done:=by
  intro X hP hw hK hc i pins s σ H E I hf st hg
  subst hP hw hK
  obtain⟨f0,f1,f2,f3,f4,f5⟩:=hf it (by simp)
  exact wpAny_pyNext_range_end (I.ok.hd hc) st (by have:n<=i:=hg;omega) λh' eb=>⟨rfl,I.turned (t':=s.toks) (λb o hb e=>eb b o hb e) f0 f1 f3 f4 f5⟩
 self:=λ_ _ _ _ _ st h=>wpAny_pyIter_rangeiter st h
end L2
namespace L2
section
variable{X:Cx}{tg:Expr}
theorem iB{pins:List (Addr × Obj)}{σ:St}{H:Hp}{s:Shared}{R:It->Hp->Prop}{E:Value->Shared->Prop}{lo hi:Int}{t u v:Tok}{tk:Nat}(I:Inv X pins σ H s)(h1: -(2 ^ 62)<=lo)(h2:lo<2 ^ 62)(h3: -(2 ^ 62)<=hi)(h4:hi<2 ^ 62)
  (q:R (E7 lo (hi - lo).toNat) H):wpAny (model X.prog X.w) X.A (pyIter (.ref s.heap.objs.size)) (VD X pins σ tg R) E { s with heap:=s.heap.push { cls:=.type "range",data:=.fields #[.int lo t,.int hi u,.int 1 v] },toks:=tk }:=by
 refine wpAny_pyIter_range (IsRange.new ..) (small_one h1 h2 h3 h4) ?_
 have I1:Inv X pins σ H { s with heap:=s.heap.push { cls:=.type "range",data:=.fields #[.int lo t,.int hi u,.int 1 v] },toks:=tk }:=I.kept λb o e=>Heap.get?_push_of_some _ e
 refine⟨(s.heap.push { cls:=.type "range",data:=.fields #[.int lo t,.int hi u,.int 1 v] }).objs.size,[(s.heap.push { cls:=.type "range",data:=.fields #[.int lo t,.int hi u,.int 1 v] }).objs.size],_,_,H,rfl,
  I1.kept (t':=tk) λb o e=>Heap.get?_push_of_some _ e,iA _ lo (hi - lo).toNat,?_,λb hb=> ?_,q⟩
 ·have e1:lo+((0:Nat):Int) * 1=lo:=by simp
  have e2:(((hi - lo).toNat:Nat):Int) - ((0:Nat):Int)=Builtin.Range.rangeSize lo hi 1:=by rw[rangeSize_one];split<;>omega
  show IsRangeIter _ _ (lo+((0:Nat):Int) * 1) ((((hi - lo).toNat:Nat):Int) - ((0:Nat):Int)) 1
  rw[e1,e2]
  exact Heap.get?_push_size _ rfl
 ·have e:b=(s.heap.push { cls:=.type "range",data:=.fields #[.int lo t,.int hi u,.int 1 v] }).objs.size:=by simpa using hb
  subst e
  exact I1.fpOk (Nat.le_refl _) (I1.hok.fresh (Nat.le_refl _))
def D9(ta:TA):TI:=λσ H R=>ta σ H λvs H1=>∃ j:Int,vs=[.int j]/\ -(2 ^ 62)<=j/\j<2 ^ 62/\R (E7 0 j.toNat) H1
theorem E8{a:Expr}{ta:TA}{p pos:Pos}(hg:Gl X "range")(hm:X.mg "range"=none)(ha:PA X [a] ta)(hs:starEach [a] X.env=[(false,eval a X.env)]:=by rfl):PI X tg (.Call (.Name "range" p) [a] [] pos) (D9 ta):=by
 intro pins s σ H R I h
 refine Call_ (JF I hg hm boot_range (PyProof.Rows.callWith_type1 (AO (ha pos pins s σ H _ I h) λus s1 ⟨vs,H1,I1,r1,q1⟩=> ?_) hs rfl))
 obtain⟨j,e,q1,q2,q⟩:=q1
 subst e
 cases r1 with
 | cons r rr =>
  cases rr
  obtain⟨t,rfl⟩:=r
  exact call_range_1 (iB I1 (by omega) (by omega) q1 q2 (by simpa using q))
def CL(wi:TI)(g:TG)(tb:TS):TS:=λD σ H=>wi σ H λJ H1=>∃ W:Nat->Nat->St->Hp->Prop,(∃ m,W 0 m σ H1)/\∀ i m σ H,W i m σ H →
 (J.stop i H/\D.nx σ H)\/(J.go i H/\∃ N:St->Hp->Prop,(∀ σ' H',N σ' H'->∃ m',m'<m/\W (i+1) m' σ' H')/\∀ x H',J.yld i H x H'->g x σ H' λσ2 H2=>tb { D with nx:=N,ct:=N,bk:=D.nx } σ2 H2)
def LV(fp:List Addr)(h:Heap):List (Addr × Obj):=fp.filterMap λb=>(h.get? b).map λo=>(b,o)
theorem NI{fp:List Addr}{h:Heap}{b:Addr}{o:Obj}(hb:b∈fp)(e:h.get? b=some o):(b,o)∈LV fp h:=List.mem_filterMap.mpr ⟨b,hb,by rw[e];rfl⟩
theorem iC{fp:List Addr}{h:Heap}{p:Addr × Obj}(hp:p∈LV fp h):p.1∈fp/\h.get? p.1=some p.2:=by
 obtain⟨b,hb,e⟩:=List.mem_filterMap.mp hp
 cases q:h.get? b with
 | none=>rw[q]at e;cases e
 | some o =>
  rw[q]at e
  have e':(b,o)=p:=Option.some.inj e
  subst e'
  exact⟨hb,q⟩
theorem Inv.pinned{pins:List (Addr × Obj)}{σ:St}{H:Hp}{s:Shared}{fp:List Addr}(I:Inv X pins σ H s)(hf:∀ b∈fp,FpOk X pins H b)(ho:∀ b∈fp,∃ o,s.heap.get? b=some o/\∀ v,o.data≠.cell v):Inv X (pins++LV fp s.heap) σ H s :=
 I.pins_of λp hp=>(List.mem_append.mp hp).elim (λz=>I.pin p (List.mem_append_right _ z)) λz=>by
  obtain⟨hb,e⟩:=iC z
  obtain⟨f0,f1,f2,_⟩:=hf p.1 hb
  obtain⟨o,e',d⟩:=ho p.1 hb
  rw[e]at e';cases e'
  exact⟨e,f0,f1,f2,d⟩
theorem Inv.unpinned{pins pl:List (Addr × Obj)}{σ:St}{H:Hp}{s:Shared}(I:Inv X (pins++pl) σ H s):Inv X pins σ H s:=I.pins_of λp hp=>I.pin p (List.mem_append_right _ (List.mem_append_left _ hp))
theorem C8{iter:Expr}{body:List Stmt}{wi:TI}{g:TG}{tb:TS}{pos:Pos}(hp:PassesOwn (model X.prog X.w) X.A X.env X.xe)(hc:X.calm=true)(hi:PI X tg iter wi)(hg:PG X tg g)(hb:E5 X body tb)
  (hs:∀ x,foldedSetIterable iter X.env x=pure x:=by intro _;rfl):PS X (.For tg iter body [] pos) (CL wi g tb):=by
 intro pins s σ H D I h
 refine wpAny_For (AO (hi pins s σ H _ I h) λv s1 h1=>AO h1 λitv s2 h2=> ?_) hs
 obtain⟨it,fp,tn,J,H2,e,I2,T,st2,f2,W,⟨m0,w0⟩,turn⟩:=h2
 subst e
 have stat:∀ {H':Hp},(∀ b∈fp,H' b=none)->∀ b∈fp,FpOk X pins H' b:=λhn b hb=>⟨hn b hb,(f2 b hb).2⟩
 refine codeAny_forLoop_any (λn s'=>∃ i σ' H',Inv X pins σ' H' s'/\tn i s'.heap/\(∀ b∈fp,H' b=none)/\W i n σ' H') ?_ m0 ⟨0,σ,H2,I2,st2,λb hb=>(f2 b hb).1,w0⟩
 rintro n s3 ⟨i,σ3,H3,I3,st3,fr3,w3⟩
 rcases turn i n σ3 H3 w3 with⟨stop,qn⟩ | ⟨go,N,hN,step⟩
 ·refine wpAny_passesOwn hp (AO (T.done X rfl rfl rfl hc i pins s3 σ3 H3 X.xe I3 (stat fr3) st3 stop) λr s4 ⟨hr,I4⟩=> ?_)
  subst hr
  exact wpAny_execs_nil ⟨σ3,H3,I4,qn⟩
 ·refine wpAny_passesOwn hp (AO (T.item X rfl rfl rfl hc i pins s3 σ3 H3 X.xe I3 (stat fr3) st3 go) λr s4 ⟨u,hr,h4⟩=> ?_)
  subst hr
  refine wpAny_passesOwn hp (AO h4 λ_ s5 ⟨x,H5,I5,r5,y5,st5,fr5⟩=> ?_)
  have I5':=I5.pinned (stat fr5) (T.obj _ _ st5)
  refine wpAny_passesOwn hp (AO (hg _ s5 σ3 H5 x u _ I5' r5 (step x H5 y5)) λ_ s6 ⟨σ6,H6,I6,q6⟩=> ?_)
  refine wpAny_passesOwn hp (AO (hb _ s6 σ6 H6 _ I6 q6) λf s7 q7=> ?_)
  have again:∀ {σ7:St} {H7:Hp},Inv X (pins++LV fp s5.heap) σ7 H7 s7->N σ7 H7->∃ m,m<n/\∃ i σ' H',Inv X pins σ' H' s7/\tn i s7.heap/\(∀ b∈fp,H' b=none)/\W i m σ' H':=λ{σ7 H7} I7 n7=>by
   obtain⟨m',hm,w7⟩:=hN σ7 H7 n7
   refine⟨m',hm,i+1,σ7,H7,I7.unpinned,T.keep _ _ _ st5 λb hb o e=>(I7.pin (b,o) (List.mem_append_right _ (List.mem_append_right _ (NI hb e)))).1,λb hb=> ?_,w7⟩
   obtain⟨o,e,d⟩:=T.obj _ _ st5 b hb
   exact(I7.pin (b,o) (List.mem_append_right _ (List.mem_append_right _ (NI hb e)))).2.1
  cases f with
  | next=>obtain⟨σ7,H7,I7,n7⟩:=q7;exact again I7 n7
  | cont=>obtain⟨σ7,H7,I7,n7⟩:=q7;exact again I7 n7
  | brk=>obtain⟨σ7,H7,I7,q7⟩:=q7;exact⟨σ7,H7,I7.unpinned,q7⟩
  | ret v=>obtain⟨x7,σ7,H7,I7,r7,q7⟩:=q7;exact⟨x7,σ7,H7,I7.unpinned,r7,q7⟩
end
theorem iD{K:PySem.W.Frag}{a:Addr}{xs:List V}{g:TG}{tb:TS}{D:Ends}{σ:St}{H:Hp}(Pv:Nat->St->Hp->Prop)(h0:Pv 0 σ H)(hl:∀ i σ H,i<=xs.length->Pv i σ H->SqL K H a xs)
  (hs:∀ i x σ H,xs[i]? =some x->Pv i σ H->g x σ H λσ2 H2=>tb { D with nx:=Pv (i+1),ct:=Pv (i+1),bk:=D.nx } σ2 H2) (hd:∀ σ H,Pv xs.length σ H->D.nx σ H) :
  ∃ W:Nat->Nat->St->Hp->Prop,(∃ m,W 0 m σ H)/\∀ i m σ H,W i m σ H →
   ((FQ K a).stop i H/\D.nx σ H)\/((FQ K a).go i H/\∃ N:St->Hp->Prop,(∀ σ' H',N σ' H'->∃ m',m'<m/\W (i+1) m' σ' H')/\∀ x H',(FQ K a).yld i H x H'->g x σ H' λσ2 H2=>tb { D with nx:=N,ct:=N,bk:=D.nx } σ2 H2):=by
 refine⟨λi m σ H=>m=xs.length - i/\i<=xs.length/\Pv i σ H,⟨xs.length,by simp,Nat.zero_le _,h0⟩,?_⟩
 rintro i m σ H ⟨rfl,hi,p⟩
 have q:=hl i σ H hi p
 by_cases hlt:i<xs.length
 ·refine .inr ⟨⟨xs,xs[i],q,by simp[hlt]⟩,Pv (i+1),λσ' H' p'=>⟨xs.length - (i+1),by omega,rfl,hlt,p'⟩,λx H' y=> ?_⟩
  obtain⟨e,y⟩:=y
  subst e
  exact hs i x σ _ (y xs q) p
 ·have e:i=xs.length:=by omega
  subst e
  exact .inl ⟨⟨xs,q,Nat.le_refl _⟩,hd σ H p⟩
theorem iE{K:PySem.W.Frag}{a:Addr}{xs:List V}{g:TG}{tb:TS}{D:Ends}{σ:St}{H:Hp}(Pv:Nat->St->Hp->Prop)(h0:Pv 0 σ H)(hl:∀ i σ H,i<=xs.length->Pv i σ H->SqT K H a xs)
  (hs:∀ i x σ H,xs[i]? =some x->Pv i σ H->g x σ H λσ2 H2=>tb { D with nx:=Pv (i+1),ct:=Pv (i+1),bk:=D.nx } σ2 H2) (hd:∀ σ H,Pv xs.length σ H->D.nx σ H) :
  ∃ W:Nat->Nat->St->Hp->Prop,(∃ m,W 0 m σ H)/\∀ i m σ H,W i m σ H →
   ((GT K a).stop i H/\D.nx σ H)\/((GT K a).go i H/\∃ N:St->Hp->Prop,(∀ σ' H',N σ' H'->∃ m',m'<m/\W (i+1) m' σ' H')/\∀ x H',(GT K a).yld i H x H'->g x σ H' λσ2 H2=>tb { D with nx:=N,ct:=N,bk:=D.nx } σ2 H2):=by
 refine⟨λi m σ H=>m=xs.length - i/\i<=xs.length/\Pv i σ H,⟨xs.length,by simp,Nat.zero_le _,h0⟩,?_⟩
 rintro i m σ H ⟨rfl,hi,p⟩
 have q:=hl i σ H hi p
 by_cases hlt:i<xs.length
 ·refine .inr ⟨⟨xs,xs[i],q,by simp[hlt]⟩,Pv (i+1),λσ' H' p'=>⟨xs.length - (i+1),by omega,rfl,hlt,p'⟩,λx H' y=> ?_⟩
  obtain⟨e,y⟩:=y
  subst e
  exact hs i x σ _ (y xs q) p
 ·have e:i=xs.length:=by omega
  subst e
  exact .inl ⟨⟨xs,q,Nat.le_refl _⟩,hd σ H p⟩
theorem iF{lo:Int}{n:Nat}{g:TG}{tb:TS}{D:Ends}{σ:St}{H:Hp}(Pv:Nat->St->Hp->Prop)(h0:Pv 0 σ H)
  (hs:∀ i σ H,i<n->Pv i σ H->g (.int (lo+i)) σ H λσ2 H2=>tb { D with nx:=Pv (i+1),ct:=Pv (i+1),bk:=D.nx } σ2 H2) (hd:∀ σ H,Pv n σ H->D.nx σ H) :
  ∃ W:Nat->Nat->St->Hp->Prop,(∃ m,W 0 m σ H)/\∀ i m σ H,W i m σ H →
   ((E7 lo n).stop i H/\D.nx σ H)\/((E7 lo n).go i H/\∃ N:St->Hp->Prop,(∀ σ' H',N σ' H'->∃ m',m'<m/\W (i+1) m' σ' H')/\∀ x H',(E7 lo n).yld i H x H'->g x σ H' λσ2 H2=>tb { D with nx:=N,ct:=N,bk:=D.nx } σ2 H2):=by
 refine⟨λi m σ H=>m=n - i/\i<=n/\Pv i σ H,⟨n,by simp,Nat.zero_le _,h0⟩,?_⟩
 rintro i m σ H ⟨rfl,hi,p⟩
 by_cases hlt:i<n
 ·refine .inr ⟨hlt,Pv (i+1),λσ' H' p'=>⟨n - (i+1),by omega,rfl,hlt,p'⟩,λx H' y=> ?_⟩
  obtain⟨e,y⟩:=y
  subst e y
  exact hs i σ _ hlt p
 ·have e:i=n:=by omega
  subst e
  exact .inl ⟨Nat.le_refl _,hd σ H p⟩
end L2
namespace L2
abbrev R2:=V->V->Hp->VK->Prop
def CA(X:Cx)(f:Value->Value->Sem Value)(r:R2):Prop :=
 ∀ (pins:List (Addr × Obj)) (s:Shared) (σ:St) (H:Hp) (x y:V) (v u:Value) (Q:VK),Inv X pins σ H s->RelV x v->RelV y u->r x y H Q →
  wpAny (model X.prog X.w) X.A (f v u) (EP X pins σ Q) X.xe s
def PY(X:Cx)(f:Value->Sem Value)(r:V->Hp->VK->Prop):Prop :=
 ∀ (pins:List (Addr × Obj)) (s:Shared) (σ:St) (H:Hp) (x:V) (v:Value) (Q:VK),Inv X pins σ H s->RelV x v->r x H Q →
  wpAny (model X.prog X.w) X.A (f v) (EP X pins σ Q) X.xe s
def DJ(X:Cx)(f:Value)(r:List V->Hp->VK->Prop):Prop :=
 ∀ (pins:List (Addr × Obj)) (s:Shared) (σ:St) (H:Hp) (xs:List V) (us:List Value) (Q:VK),Inv X pins σ H s->Vals xs us->r xs H Q →
  wpAny (model X.prog X.w) X.A (call f us) (EP X pins σ Q) X.xe s
def iG(X:Cx)(r:V->Hp->(Bool->Hp->Prop)->Prop):Prop :=
 ∀ (pins:List (Addr × Obj)) (s:Shared) (σ:St) (H:Hp) (x:V) (v:Value) (Q:Bool->Hp->Prop),Inv X pins σ H s->RelV x v->r x H Q →
  wpAny (model X.prog X.w) X.A (truthy v) (TP X pins σ Q) X.xe s
def AI(r:R2)(ta tb:TE):TE:=λσ H Q=>ta σ H λx H1=>tb σ H1 λy H2=>r x y H2 Q
def PZ(r:V->Hp->VK->Prop)(ta:TE):TE:=λσ H Q=>ta σ H λx H1=>r x H1 Q
def rI(C:Int->Int->Prop)(g:Int->Int->V):R2:=λx y H Q=>∃ i j,x=.int i/\y=.int j/\C i j/\Q (g i j) H
def GA(g:Int->Int->V):R2:=λx y H Q=>∃ i j,x=.int i/\y=.int j/\Q (g i j) H
def rU(g:Int->V):V->Hp->VK->Prop:=λx H Q=>∃ i,x=.int i/\Q (g i) H
section
variable{X:Cx}{a b c:Expr}{ta tb tc:TE}{pos:Pos}
theorem P0(ha:PE X a ta)(hb:PE X b tb){pins:List (Addr × Obj)}{s:Shared}{σ:St}{H:Hp}{R:V->V->Hp->Prop}(I:Inv X pins σ H s)
  (h:ta σ H λx H1=>tb σ H1 λy H2=>R x y H2) {Q:Value->Shared->Prop} {f:Value->Value->Sem Value}
  (hf:∀ v u s2 x y H2,Inv X pins σ H2 s2->RelV x v->RelV y u->R x y H2->wpAny (model X.prog X.w) X.A (f v u) Q X.xe s2) :
  wpAny (model X.prog X.w) X.A (eval a X.env) (λv s₁=>wpAny (model X.prog X.w) X.A (eval b X.env) (λu s₂=>wpAny (model X.prog X.w) X.A (f v u) Q X.xe s₂) X.xe s₁) X.xe s:=by
 refine AO (ha pins s σ H _ I h) λv s1 ⟨x,H1,I1,r1,q1⟩=> ?_
 refine AO (hb pins s1 σ H1 _ I1 q1) λu s2 ⟨y,H2,I2,r2,q2⟩=> ?_
 exact hf v u s2 x y H2 I2 r1 r2 q2
theorem BI{op:Operator}{r:R2}(ho:CA X (binaryOp op) r)(ha:PE X a ta)(hb:PE X b tb):PE X (.BinOp a op b pos) (AI r ta tb):=by
 intro pins s σ H Q I h
 exact wpAny_BinOp (P0 ha hb I h λv u s2 x y H2 I2 rx ry q=>ho pins s2 σ H2 x y v u Q I2 rx ry q)
theorem iH{op:UnaryOp}{r:V->Hp->VK->Prop}(ho:PY X (unaryOp op) r)(ha:PE X a ta):PE X (.UnaryOp op a pos) (PZ r ta):=by
 intro pins s σ H Q I h
 exact UnaryOp_ (AO (ha pins s σ H _ I h) λv s1 ⟨x,H1,I1,r1,q1⟩=>ho pins s1 σ H1 x v Q I1 r1 q1)
theorem NJ{f:Value->Value->Sem Value}{C:Int->Int->Prop}{g:Int->Int->Int}
  (rule:∀ (i j:Int) (t u:Tok) (s:Shared) (Q:Value->Shared->Prop) (E:Value->Shared->Prop),C i j->Q (.int (g i j) s.toks) { s with toks:=s.toks+1 }->wpAny (model X.prog X.w) X.A (f (.int i t) (.int j u)) Q E s) :
  CA X f (rI C λi j=>.int (g i j)):=by
 intro pins s σ H x y v u Q I rx ry h
 obtain⟨i,j,rfl,rfl,hc,q⟩:=h
 obtain⟨t,rfl⟩:=rx
 obtain⟨t',rfl⟩:=ry
 exact rule i j t t' s _ _ hc ⟨.int (g i j),H,I.tok _,⟨_,rfl⟩,q⟩
theorem VE{f:Value->Value->Sem Value}{g:Int->Int->Int}
  (rule:∀ (i j:Int) (t u:Tok) (s:Shared) (Q:Value->Shared->Prop) (E:Value->Shared->Prop),Q (.int (g i j) s.toks) { s with toks:=s.toks+1 }->wpAny (model X.prog X.w) X.A (f (.int i t) (.int j u)) Q E s) :
  CA X f (GA λi j=>.int (g i j)):=by
 intro pins s σ H x y v u Q I rx ry h
 obtain⟨i,j,rfl,rfl,q⟩:=h
 obtain⟨t,rfl⟩:=rx
 obtain⟨t',rfl⟩:=ry
 exact rule i j t t' s _ _ ⟨.int (g i j),H,I.tok _,⟨_,rfl⟩,q⟩
theorem P1{f:Value->Value->Sem Value}{g:Int->Int->Bool}
  (rule:∀ (i j:Int) (t u:Tok) (s:Shared) (Q:Value->Shared->Prop) (E:Value->Shared->Prop),Q (.bool (g i j)) s->wpAny (model X.prog X.w) X.A (f (.int i t) (.int j u)) Q E s) :
  CA X f (GA λi j=>.bl (g i j)):=by
 intro pins s σ H x y v u Q I rx ry h
 obtain⟨i,j,rfl,rfl,q⟩:=h
 obtain⟨t,rfl⟩:=rx
 obtain⟨t',rfl⟩:=ry
 exact rule i j t t' s _ _ ⟨.bl (g i j),H,I,rfl,q⟩
def VF(i j:Int):Prop:=0<j/\j<1073741824
def P3(i j:Int):Prop:=0<=j/\j<=1000000/\i.natAbs<2 ^ 64
def CMul(i j:Int):Prop:=(-(2 ^ 64)<i/\i<2 ^ 64)\/(-(2 ^ 64)<j/\j<2 ^ 64)
theorem CMul.ok{i j:Int}(h:CMul i j):IntMulOk i j:=by
 rcases h with⟨h1,h2⟩ | ⟨h1,h2⟩
 ·exact .of_left (intBits_le_64 h1 h2)
 ·exact .of_right (intBits_le_64 h1 h2)
theorem iI:CA X (binaryOp .Add) (GA λi j=>.int (i+j)):=VE λ_ _ _ _ _ _ _ q=>add_int q
theorem JI:CA X (binaryOp .Sub) (GA λi j=>.int (i - j)):=VE λ_ _ _ _ _ _ _ q=>sub_int q
theorem iJ:CA X (binaryOp .Mult) (rI CMul λi j=>.int (i * j)):=NJ λ_ _ _ _ _ _ _ hc q=>mul_int q hc.ok
theorem iK:CA X (binaryOp .FloorDiv) (rI VF λi j=>.int (i / j)):=NJ λi j _ _ _ _ _ hc q=>by
 have h1:(0:Int)<j:=hc.1
 have h2:j<1073741824:=hc.2
 exact floordiv_int (by omega) (by rw[Int.fdiv_eq_ediv_of_nonneg i (by omega)];exact q) (.inl (PyProof.noPylong_small (by omega)))
theorem GB:CA X (binaryOp .Mod) (rI (λ_ j=>0<j) λi j=>.int (i % j)):=NJ λi j _ _ _ _ _ hc q=>by
 have h1:(0:Int)<j:=hc
 exact mod_int' (by omega) (by rw[Int.fmod_eq_emod_of_nonneg i (by omega)];exact q)
theorem NK:CA X (binaryOp .Pow) (rI P3 λi j=>.int (i ^ j.toNat)):=NJ λ_ _ _ _ _ _ _ hc q=>pow_int_small hc.1 hc.2.1 hc.2.2 q
theorem iL{f:Value->Sem Value}{g:Int->Int}
  (rule:∀ (i:Int) (t:Tok) (s:Shared) (Q:Value->Shared->Prop) (E:Value->Shared->Prop),Q (.int (g i) s.toks) { s with toks:=s.toks+1 }->wpAny (model X.prog X.w) X.A (f (.int i t)) Q E s) :
  PY X f (rU λi=>.int (g i)):=by
 intro pins s σ H x v Q I rx h
 obtain⟨i,rfl,q⟩:=h
 obtain⟨t,rfl⟩:=rx
 exact rule i t s _ _ ⟨.int (g i),H,I.tok _,⟨_,rfl⟩,q⟩
theorem iM:PY X (unaryOp .USub) (rU λi=>.int (-i)):=iL λ_ _ _ _ _ q=>neg_int q
end
def E9:V->V->Bool
 | .non,.non=>true | .non,.int _=>true | .int _,.non=>true | .non,.bl _=>true | .bl _,.non=>true | .non,.str _=>true | .str _,.non=>true
 | .int _,.int _=>true | .bl _,.bl _=>true | .str _,.str _=>true | .byt _,.byt _=>true
 | .int _,.str _=>true | .str _,.int _=>true | .bl _,.str _=>true | .str _,.bl _=>true
 | _,_=>false
def iN:R2:=λx y H Q=>E9 x y=true/\Q (.bl (decide (x=y))) H
def iO:R2:=λx y H Q=>E9 x y=true/\Q (.bl (!decide (x=y))) H
theorem VG{i j:Int}:decide (V.int i=V.int j)=(i == j):=by
 rw[Bool.eq_iff_iff]
 simp
theorem VH{i j:Bool}:decide (V.bl i=V.bl j)=(i == j):=by
 rw[Bool.eq_iff_iff]
 simp
theorem VI{i j:Str}:decide (V.str i=V.str j)=(i == j):=by
 rw[Bool.eq_iff_iff]
 simp
theorem VJ{i j:Array UInt8}:decide (V.byt i=V.byt j)=(i.toList == j.toList):=by
 rw[Bool.eq_iff_iff]
 cases i
 cases j
 simp
section
variable{X:Cx}{a b c:Expr}{ta tb tc:TE}{pos:Pos}
theorem CG{pins:List (Addr × Obj)}{σ:St}{H:Hp}{s:Shared}{Q:VK}{k k':Bool}(I:Inv X pins σ H s)(q:Q (.bl k) H)(e:k=k'):EP X pins σ Q (.bool k') s:=by
 subst e
 exact⟨.bl k,H,I,rfl,q⟩
theorem iP:CA X (compareOp .Eq) iN:=by
 intro pins s σ H x y v u Q I rx ry h
 obtain⟨hs,q⟩:=h
 cases x with
 | non =>
  cases rx
  cases y with
  | non=>cases ry;exact PySem.EqNone.eq_none_none (CG I q (by simp))
  | bl j=>cases ry;exact PySem.EqNone.eq_none_bool (CG I q (by simp))
  | int j=>obtain⟨t',rfl⟩:=ry;exact PySem.EqNone.eq_none_int (CG I q (by simp))
  | str j=>obtain⟨t',rfl⟩:=ry;exact PySem.EqNone.eq_none_str (CG I q (by simp))
  | _=>exact absurd (show false=true from hs) Bool.false_ne_true
 | bl i =>
  cases rx
  cases y with
  | non=>cases ry;exact PySem.EqNone.eq_bool_none (CG I q (by simp))
  | bl j=>cases ry;exact eq_bool (CG I q VH)
  | str j=>obtain⟨t',rfl⟩:=ry;exact PySem.EqMixed.eq_bool_str (CG I q (by simp))
  | _=>exact absurd (show false=true from hs) Bool.false_ne_true
 | int i =>
  obtain⟨t,rfl⟩:=rx
  cases y with
  | non=>cases ry;exact PySem.EqNone.eq_int_none (CG I q (by simp))
  | int j=>obtain⟨t',rfl⟩:=ry;exact eq_int (CG I q VG)
  | str j=>obtain⟨t',rfl⟩:=ry;exact PySem.EqMixed.eq_int_str (CG I q (by simp))
  | _=>exact absurd (show false=true from hs) Bool.false_ne_true
 | str i =>
  obtain⟨t,rfl⟩:=rx
  cases y with
  | non=>cases ry;exact PySem.EqNone.eq_str_none (CG I q (by simp))
  | bl j=>cases ry;exact PySem.EqMixed.eq_str_bool (CG I q (by simp))
  | int j=>obtain⟨t',rfl⟩:=ry;exact PySem.EqMixed.eq_str_int (CG I q (by simp))
  | str j=>obtain⟨t',rfl⟩:=ry;exact eq_str (CG I q VI)
  | _=>exact absurd (show false=true from hs) Bool.false_ne_true
 | byt i =>
  obtain⟨t,rfl⟩:=rx
  cases y with
  | byt j=>obtain⟨t',rfl⟩:=ry;exact W.eq_bytes (CG I q VJ)
  | _=>exact absurd (show false=true from hs) Bool.false_ne_true
 | _=>cases y<;>exact absurd (show false=true from hs) Bool.false_ne_true
theorem iQ:CA X (compareOp .NotEq) iO:=by
 intro pins s σ H x y v u Q I rx ry h
 obtain⟨hs,q⟩:=h
 cases x with
 | non =>
  cases rx
  cases y with
  | non=>cases ry;exact PySem.EqNone.ne_none_none (CG I q (by simp))
  | bl j=>cases ry;exact PySem.EqNone.ne_none_bool (CG I q (by simp))
  | int j=>obtain⟨t',rfl⟩:=ry;exact PySem.EqNone.ne_none_int (CG I q (by simp))
  | str j=>obtain⟨t',rfl⟩:=ry;exact PySem.EqNone.ne_none_str (CG I q (by simp))
  | _=>exact absurd (show false=true from hs) Bool.false_ne_true
 | bl i =>
  cases rx
  cases y with
  | non=>cases ry;exact PySem.EqNone.ne_bool_none (CG I q (by simp))
  | bl j=>cases ry;exact ne_bool (CG I q (congrArg not VH))
  | str j=>obtain⟨t',rfl⟩:=ry;exact PySem.EqMixed.ne_bool_str (CG I q (by simp))
  | _=>exact absurd (show false=true from hs) Bool.false_ne_true
 | int i =>
  obtain⟨t,rfl⟩:=rx
  cases y with
  | non=>cases ry;exact PySem.EqNone.ne_int_none (CG I q (by simp))
  | int j=>obtain⟨t',rfl⟩:=ry;exact ne_int (CG I q (congrArg not VG))
  | str j=>obtain⟨t',rfl⟩:=ry;exact PySem.EqMixed.ne_int_str (CG I q (by simp))
  | _=>exact absurd (show false=true from hs) Bool.false_ne_true
 | str i =>
  obtain⟨t,rfl⟩:=rx
  cases y with
  | non=>cases ry;exact PySem.EqNone.ne_str_none (CG I q (by simp))
  | bl j=>cases ry;exact PySem.EqMixed.ne_str_bool (CG I q (by simp))
  | int j=>obtain⟨t',rfl⟩:=ry;exact PySem.EqMixed.ne_str_int (CG I q (by simp))
  | str j=>obtain⟨t',rfl⟩:=ry;exact ne_str (CG I q (congrArg not VI))
  | _=>exact absurd (show false=true from hs) Bool.false_ne_true
 | byt i =>
  obtain⟨t,rfl⟩:=rx
  cases y with
  | byt j=>obtain⟨t',rfl⟩:=ry;exact W.ne_bytes (CG I q (congrArg not VJ))
  | _=>exact absurd (show false=true from hs) Bool.false_ne_true
 | _=>cases y<;>exact absurd (show false=true from hs) Bool.false_ne_true
theorem iR:CA X (compareOp .Lt) (GA λi j=>.bl (decide (i<j))):=P1 λ_ _ _ _ _ _ _ q=>lt_int q
theorem iS:CA X (compareOp .LtE) (GA λi j=>.bl (decide (i<=j))):=P1 λ_ _ _ _ _ _ _ q=>le_int q
theorem iT:CA X (compareOp .Gt) (GA λi j=>.bl (decide (j<i))):=P1 λ_ _ _ _ _ _ _ q=>gt_int q
theorem LW:CA X (compareOp .Is) (λx y H Q=>y=.non/\Q (.bl (decide (x=.non))) H):=by
 intro pins s σ H x y v u Q I rx ry h
 obtain⟨rfl,q⟩:=h
 cases ry
 refine is_none_gen (CG I q ?_)
 cases x<;>first
  | (cases rx;rfl)
  | (obtain⟨t,rfl⟩:=rx;rfl)
theorem BR(b:Expr){op:CmpOp}(h:op≠.In:=by decide)(h2:op≠.NotIn:=by decide):behindInMarks op b=false:=by
 have e1:(op == CmpOp.In)=false:=by cases op<;>first | rfl | exact absurd rfl h
 have e2:(op == CmpOp.NotIn)=false:=by cases op<;>first | rfl | exact absurd rfl h2
 cases b<;>simp[behindInMarks,e1,e2]
theorem GU{op:CmpOp}{r:R2}(ho:CA X (compareOp op) r)(ha:PE X a ta)(hb:PE X b tb)(hm:behindInMarks op b=false):PE X (.Compare a [op] [b] pos) (AI r ta tb):=by
 intro pins s σ H Q I h
 exact wpAny_Compare1 (P0 ha hb I h λv u s2 x y H2 I2 rx ry q=>ho pins s2 σ H2 x y v u Q I2 rx ry q) hm
def BW(t:TE):TT:=λσ H Q=>t σ H λx H'=>∃ k,x=.bl k/\Q k H'
theorem CH{op:CmpOp}{r:R2}(ho:CA X (compareOp op) r)(ha:PE X a ta)(hb:PE X b tb)(hm:behindInMarks op b=false):PT X (.Compare a [op] [b] pos) (BW (AI r ta tb)):=by
 intro pins s σ H Q I h
 refine wpAny_isTrue_Compare1 (AO (ha pins s σ H _ I h) λv s1 ⟨x,H1,I1,r1,q1⟩=>AO (hb pins s1 σ H1 _ I1 q1) λu s2 ⟨y,H2,I2,r2,q2⟩ =>
  AO (ho pins s2 σ H2 x y v u _ I2 r1 r2 q2) λc s3 ⟨z,H3,I3,r3,k,e,q3⟩=> ?_) hm
 subst e
 cases r3
 exact wpAny_truthy_bool ⟨H3,I3,q3⟩
def JJ(r r':R2)(ta tb tc:TE):TE:=λσ H Q=>ta σ H λx H1=>tb σ H1 λy H2=>r x y H2 λz H3=>∃ k,z=.bl k ∧
 (if k=true then tc σ H3 λw' H4=>r' y w' H4 Q else Q (.bl false) H3)
theorem NL{op op':CmpOp}{r r':R2}(ho:CA X (compareOp op) r)(ho':CA X (compareOp op') r')(ha:PE X a ta)(hb:PE X b tb)(hc:PE X c tc)
  (hm:lastMarks [op,op'] [b,c]=false:=by with_unfolding_all rfl):PT X (.Compare a [op,op'] [b,c] pos) (BW (JJ r r' ta tb tc)):=by
 intro pins s σ H Q I h
 refine isTrue_chain (AO (ha pins s σ H _ I h) λv s1 ⟨x,H1,I1,r1,q1⟩=>test_link (AO (hb pins s1 σ H1 _ I1 q1) λu s2 ⟨y,H2,I2,r2,q2⟩ =>
  AO (ho pins s2 σ H2 x y v u _ I2 r1 r2 q2) λd s3 ⟨z,H3,I3,r3,k,e,q3⟩=> ?_)) hm
 subst e
 cases r3
 refine wpAny_truthy_bool ?_
 cases k with
 | false =>
  obtain⟨k',e',q'⟩:=q3
  cases e'
  exact ite_ff ⟨H3,I3,q'⟩
 | true =>
  refine ite_tt (test_last (AO (hc pins s3 σ H3 _ I3 q3) λw' s4 ⟨z',H4,I4,r4,q4⟩=>AO (ho' pins s4 σ H4 y z' u w' _ I4 r2 r4 q4) λd' s5 ⟨z2,H5,I5,r5,k2,e2,q5⟩=> ?_))
  subst e2
  cases r5
  exact wpAny_truthy_bool ⟨H5,I5,q5⟩
def HD(K:W.Frag)(x:V)(H:Hp)(k:Bool):Prop :=
 match x with
 | .non=>k=false
 | .bl b=>k=b
 | .int i=>k=(i != 0)
 | .str y=>y.length<=sizeLine/\k=((y.length:Int) != 0)
 | .byt y=>y.size<=sizeLine/\k=((y.size:Int) != 0)
 | .ref p=>(∃ xs,SqL K H p xs/\k= !xs.isEmpty)\/(∃ xs,SqT K H p xs/\k= !xs.isEmpty)\/∃ kvs,H p=some (.dK kvs)/\k= !kvs.isEmpty
 | _=>False
theorem iU{κ :Type}{kvs:List (κ × V)}{vs:List (κ × Value)}(r:KV kvs vs):(!vs.isEmpty)= !kvs.isEmpty:=by
 cases r<;>rfl
theorem VL{xs:List V}{its:List Value}(r:Vals xs its):(!its.toArray.isEmpty)= !xs.isEmpty:=by
 cases r<;>simp
theorem JK:(sizeLine:Nat)<2 ^ 63:=by rw[sizeLine_eq];decide
theorem VM:iG X (λx H Q=>∃ k,HD X.K x H k/\Q k H):=by
 intro pins s σ H x v Q I rx h
 obtain⟨k,e,q⟩:=h
 have hl:=JK
 have hs:sizeLine=16777216:=sizeLine_eq
 cases x with
 | non =>
  cases rx
  have e':k=false:=e
  subst e'
  exact truthy_none ⟨H,I,q⟩
 | bl b =>
  cases rx
  have e':k=b:=e
  subst e'
  exact wpAny_truthy_bool ⟨H,I,q⟩
 | int i =>
  obtain⟨t,rfl⟩:=rx
  have e':k=(i != 0):=e
  subst e'
  exact PySem.P.truthy_int ⟨H,I,q⟩
 | str y =>
  obtain⟨t,rfl⟩:=rx
  obtain⟨hy,e'⟩:y.length<=sizeLine/\k=((y.length:Int) != 0):=e
  subst e'
  exact PySem.P.truthy_str (by omega) ⟨H,I.tok _,q⟩
 | byt y =>
  obtain⟨t,rfl⟩:=rx
  obtain⟨hy,e'⟩:y.size<=sizeLine/\k=((y.size:Int) != 0):=e
  subst e'
  exact W.truthy_bytes (by omega) ⟨H,I.tok _,q⟩
 | ref p =>
  cases rx
  have e':(∃ xs,SqL X.K H p xs/\k= !xs.isEmpty)\/(∃ xs,SqT X.K H p xs/\k= !xs.isEmpty)\/∃ kvs,H p=some (.dK kvs)/\k= !kvs.isEmpty:=e
  rcases e' with⟨xs,hx,e'⟩ | ⟨xs,hx,e'⟩ | ⟨kvs,hx,e'⟩
  ·subst e'
   obtain⟨its,r,pl,hz⟩:=I.list hx
   have hlen:=r.length
   exact wpAny_truthy_list pl.isList (by simp only[List.size_toArray];omega) ⟨H,I.tok _,by rw[VL r];exact q⟩
  ·subst e'
   obtain⟨its,r,pl,hz⟩:=I.tuple hx
   have hlen:=r.length
   exact truthy_tuple pl (by simp only[List.size_toArray];omega) ⟨H,I.tok _,by rw[VL r];exact q⟩
  ·subst e'
   obtain⟨hz,hS,vs,r,m⟩:kvs.length<=sizeLine/\(p == sysModules)=false/\∃ vs,KV kvs vs/\s.heap.DictOf (DE X.prog X.w) p vs:=I.hok p _ hx
   have hlen:kvs.length=vs.length:=Paired.length r
   exact wpAny_truthy_dict hS m (by omega) ⟨H,I.tok _,by rw[iU r];exact q⟩
 | _=>exact(show False from e).elim
theorem C9(ha:PE X a ta)(he:∀ whole,isTrue a X.env whole=(do let v ← whole;standAt a.pos;holding [v] (truthy v))) :
  PT X a (λσ H Q=>ta σ H λx H'=>∃ k,HD X.K x H' k/\Q k H'):=by
 intro pins s σ H Q I h
 exact isTrue_plain (AO (ha pins s σ H _ I h) λv s1 ⟨x,H1,I1,r1,q1⟩=>VM pins s1 σ H1 x v Q I1 r1 q1) (he _)
theorem iV:CA X (binaryOp .Add) (λx y H Q=>∃ i j,x=.str i/\y=.str j/\i.length+j.length<=sizeLine/\Q (.str (i++j)) H):=by
 intro pins s σ H x y v u Q I rx ry h
 obtain⟨i,j,rfl,rfl,hz,q⟩:=h
 obtain⟨t,rfl⟩:=rx
 obtain⟨t',rfl⟩:=ry
 exact add_str (λt' tk=>⟨.str (i++j),H,I.tok _,⟨_,rfl⟩,q⟩) hz
theorem FA{x:V}{us:List Value}(r:Vals [x] us):∃ u,us=[u]/\RelV x u:=by
 cases r with
 | cons r1 r2=>cases r2;exact⟨_,rfl,r1⟩
theorem iW{x y:V}{us:List Value}(r:Vals [x,y] us):∃ u w',us=[u,w']/\RelV x u/\RelV y w':=by
 cases r with
 | cons r1 r2 =>
  cases r2 with
  | cons r3 r4=>cases r4;exact⟨_,_,rfl,r1,r3⟩
theorem iX(hc:X.calm=true):DJ X (.builtin "max") (λxs H Q=>∃ i j,xs=[.int i,.int j]/\Q (.int (if j > i then j else i)) H):=by
 intro pins s σ H xs us Q I r h
 obtain⟨i,j,rfl,q⟩:=h
 obtain⟨u,w',rfl,⟨t,rfl⟩,⟨t',rfl⟩⟩:=iW r
 refine max_two_ints (I.ok.hd hc) λh' tk k=>⟨_,H,I.kept k,?_,q⟩
 by_cases hj:j > i
 ·rw[if_pos hj,if_pos hj];exact⟨_,rfl⟩
 ·rw[if_neg hj,if_neg hj];exact⟨_,rfl⟩
theorem iY:DJ X (.type "int") (λxs H Q=>(∃ i,xs=[.int i]/\Q (.int i) H)\/∃ k,xs=[.bl k]/\Q (.int (if k then 1 else 0)) H):=by
 intro pins s σ H xs us Q I r h
 rcases h with⟨i,rfl,q⟩ | ⟨k,rfl,q⟩
 ·obtain⟨u,rfl,t,rfl⟩:=FA r
  exact call_int_int ⟨.int i,H,I,⟨_,rfl⟩,q⟩
 ·obtain⟨u,rfl,r1⟩:=FA r
  cases r1
  exact call_int_bool ⟨.int (if k then 1 else 0),H,I.tok _,⟨_,rfl⟩,q⟩
def NM(K:W.Frag)(x:V)(H:Hp)(n:Nat):Prop :=
 match x with
 | .str y=>y.length<=sizeLine/\n=y.length
 | .byt y=>y.size<=sizeLine/\n=y.size
 | .ref p=>(∃ xs,SqL K H p xs/\n=xs.length)\/∃ xs,SqT K H p xs/\n=xs.length
 | _=>False
theorem iZ:DJ X (.builtin "len") (λxs H Q=>∃ x n,xs=[x]/\NM X.K x H n/\Q (.int n) H):=by
 intro pins s σ H xs us Q I r h
 obtain⟨x,n,rfl,e,q⟩:=h
 obtain⟨u,rfl,rx⟩:=FA r
 have hl:=JK
 have hs:sizeLine=16777216:=sizeLine_eq
 cases x with
 | str y =>
  obtain⟨t,rfl⟩:=rx
  obtain⟨hy,e'⟩:y.length<=sizeLine/\n=y.length:=e
  subst e'
  exact len_str (by omega) ⟨.int _,H,I.tok _,⟨_,rfl⟩,q⟩
 | byt y =>
  obtain⟨t,rfl⟩:=rx
  obtain⟨hy,e'⟩:y.size<=sizeLine/\n=y.size:=e
  subst e'
  exact W.len_bytes (by omega) ⟨.int _,H,I.tok _,⟨_,rfl⟩,q⟩
 | ref p =>
  cases rx
  have e':(∃ xs,SqL X.K H p xs/\n=xs.length)\/∃ xs,SqT X.K H p xs/\n=xs.length:=e
  rcases e' with⟨xs,hx,e'⟩ | ⟨xs,hx,e'⟩
  ·subst e'
   obtain⟨its,r',pl,hz⟩:=I.list hx
   have hlen:=r'.length
   exact Calls.call_len_list pl.isList (by simp only[List.size_toArray];omega) ⟨.int xs.length,H,I.tok _,⟨_,by simp only[List.size_toArray];rw[hlen]⟩,q⟩
  ·subst e'
   obtain⟨its,r',pl,hz⟩:=I.tuple hx
   have hlen:=r'.length
   exact len_tuple pl (by simp only[List.size_toArray];omega) ⟨.int xs.length,H,I.tok _,⟨_,by simp only[List.size_toArray];rw[hlen]⟩,q⟩
 | _=>exact(show False from e).elim
end
end L2
namespace L2
structure ObjM(h:Heap)(x dx C:Addr)(mA:Str->Option Value):Prop where
 obj:h.get? x=some (W.instObj C dx)
 ns:h.Ns1 dx mA
 ne:dx≠x
theorem i4{h:Heap}{dx:Addr}{mA:Str->Option Value}(n:h.Ns1 dx mA):∃ od,h.get? dx=some od/\∀ name,W.lookIn name od=some (mA name):=by
 obtain⟨o,es,ep,ho,hd,hk,_,hm⟩:=n
 refine⟨o,ho,λname=> ?_⟩
 have e:=hm name
 unfold nsFind findBy at e
 rw[<-Array.find?_toList]at e
 unfold W.lookIn
 rw[hd]
 dsimp only
 split
 ·rename_i y q
  rw[q]at e
  exact congrArg some e
 ·rename_i q
  rw[q]at e
  have a:es.toList.any (·.refKey)=false:=by
   rw[List.any_eq_false]
   intro y hy
   obtain⟨z,t,hkey⟩:=hk y (Array.mem_toList_iff.mp hy)
   simp[DictEntry.refKey,hkey]
  have a':¬ es.toList.any (·.refKey)=true:=by rw[a];exact Bool.false_ne_true
  rw[if_neg a']
  exact congrArg some e
theorem ObjM.look{h:Heap}{x dx C:Addr}{mA:Str->Option Value}(I:ObjM h x dx C mA):∃ od,W.InstAt h x (W.instObj C dx) C (some od)/\∀ name,W.lookIn name od=some (mA name) :=
 let ⟨od,ho,hl⟩:=i4 I.ns
 ⟨od,⟨I.obj,rfl,rfl,ho⟩,hl⟩
section
variable{prog:Program}{w:World}{A:Around}{E:Value->Shared->Prop}{s:Shared}{K:W.Frag}{x dx C f:Addr}{mA:Str->Option Value}{name:Str}{v:Value}
theorem i5{expr:Bool}{Q:Value->Shared->Prop}(X:K.In s.heap)(I:ObjM s.heap x dx C mA)(hg:W.plainGet K C name=true)(hh:W.hasDictIn K C=true)
  (ha:W.findIn K (.ref C) name=some none) (hv:mA name=some v) (hv':W.handedIn v=true) (h:Q v { s with toks:=s.toks+1 }) :
  wpAny (model prog w) A (getAttr (.ref x) name expr) Q E s:=by
 obtain⟨od,J,hl⟩:=I.look
 exact W.get_value X J (W.plainGet_of hg).1 (W.findObj_own hh ha rfl (by rw[hl,hv])) hv' h
theorem i6{pl:Sem Bool}{Q:Value × List Value->Shared->Prop}(X:K.In s.heap)(I:ObjM s.heap x dx C mA)(hg:W.plainGet K C name=true)
  (hf:W.findIn K (.ref C) name=some (some (.ref f))) (ht:W.isFn K (.ref f)=true) (hv:mA name=none) (h:Q (.ref f,[.ref x]) s) :
  wpAny (model prog w) A (getMethod (.ref x) name pl) Q E s:=by
 obtain⟨od,J,hl⟩:=I.look
 exact W.method_fn X J (W.plainGet_of hg).1 (W.plainGet_of hg).2 hf (beq_iff_eq.mp ht) (by show(W.lookIn name od).map (·.isSome)=some false;rw[hl,hv];rfl) h
theorem i7{ns:List Str}{Q:Unit->Shared->Prop}(X:K.In s.heap)(I:ObjM s.heap x dx C mA)
  (hs:W.findIn K (.ref C) "__setattr__"=some (some (.builtin "object.__setattr__"))) (hp:W.plainOver K C=true) (ht:W.takerIn K C name=some none) (hh:W.hasDictIn K C=true)
  (hw:PySem.Within mA ns) (hsz:ns.length<=sizeLine)
  (h:∀ h',ObjM h' x dx C (λy=>if y=name then some v else mA y)->Heap.SameBut dx s.heap h'->Q () { s with heap:=h',toks:=s.toks+2 }) :
  wpAny (model prog w) A (setAttr (.ref x) name v) Q E s:=by
 obtain⟨od,J,hl⟩:=I.look
 refine W.set_plain X J hs (W.osa_open (s:={ s with toks:=s.toks+1 }) (r:=none) X J hp ht λb=> ?_)
 obtain⟨cd,hc,hd'⟩:=W.any_some hh
 have hx:s.heap.get? x=some ⟨.ref C,some dx,.plain,#[]⟩:=I.obj
 refine wpAny_bind (wpAny_pure (wpAny_bind (wpAny_bind (wpAny_loadPart hx (wpAny_bind (W.Looks.here (s:={ s with toks:=s.toks+1 }) (W.looks_clsIn X hc) ?_))))))
 rw[hd']
 refine wpAny_pure (a:=some dx) (wpAny_bind (wpAny_pure (wpAny_bind ?_)))
 refine wpAny_nsSet1 (s:={ s with toks:=s.toks+1 }) I.ns λh' hn2 hs2=> ?_
 obtain⟨oD,esD,epD,hoD,hdD,hcD⟩:=hn2.count (PySem.Within.cons name v hw)
 refine wpAny_bind (wpAny_lookBehind hoD (by rw[hdD];exact pastItsLine_dict (Nat.le_trans hcD (by rw[List.length_cons];omega))) ?_)
 exact wpAny_pure (h _ ⟨(hs2.2 _ (Ne.symm I.ne)).trans I.obj,hn2,I.ne⟩ hs2)
theorem i8{R:Result->Shared->Prop}{vs:List Value}{kw:List (Str × Value)}(X:K.In s.heap)(hm:W.makesIn K C=true)
  (hi:W.findIn K (.ref C) "__init__"=some (some (.ref f))) (hf:W.typeIn K (.ref f)=some (.type "function"))
  (h:codeAny (model prog w) (A.under (.builtin "type.__call__" ⟨.ref C::vs,kw⟩)) (.call (.ref f) ⟨.ref (s.heap.objs.size+1)::vs,kw⟩) (W.InitBack (s.heap.objs.size+1) R)
   { s with heap:=(s.heap.push W.emptyDict).push (W.instObj C s.heap.objs.size) }) :
  codeAny (model prog w) A (.call (.ref C) ⟨vs,kw⟩) R s:=by
 obtain⟨hh,g,d,t,os⟩:=s
 exact W.make_core (W.makes_of X hm) (W.looks_findIn X hi) (λself=>W.bind_fn X self hf) (.inl rfl) h
end
def A6(f:Str)(v:V):List (Str × V)->List (Str × V)
 | []=>[(f,v)]
 | (g,x)::r=>if g=f then(g,v)::r else(g,x)::A6 f v r
theorem VN(f g:Str)(v:V):∀ fs:List (Str × V),(A6 f v fs).lookup g=if g=f then some v else fs.lookup g
 | []=>by
  show List.lookup g [(f,v)]=_
  by_cases h:g=f
  ·have hb:(g == f)=true:=beq_iff_eq.mpr h
   simp only[List.lookup,hb,if_pos h]
  ·have hb:(g == f)=false:=beq_eq_false_iff_ne.mpr h
   simp only[List.lookup,hb,if_neg h]
 | (k,x)::r=>by
  have ih:=VN f g v r
  rw[show A6 f v ((k,x)::r)=(if k=f then(k,v)::r else(k,x)::A6 f v r)from rfl]
  by_cases hk:k=f
  ·rw[if_pos hk]
   by_cases h:g=k
   ·have hb:(g == k)=true:=beq_iff_eq.mpr h
    simp only[List.lookup,hb,if_pos (h.trans hk)]
   ·have hb:(g == k)=false:=beq_eq_false_iff_ne.mpr h
    simp only[List.lookup,hb,if_neg (λe:g=f=>h (e.trans hk.symm))]
  ·rw[if_neg hk]
   by_cases h:g=k
   ·have hb:(g == k)=true:=beq_iff_eq.mpr h
    simp only[List.lookup,hb,if_neg (λe:g=f=>hk (h.symm.trans e))]
   ·have hb:(g == k)=false:=beq_eq_false_iff_ne.mpr h
    simp only[List.lookup,hb]
    exact ih
theorem P4(f:Str)(v:V):∀ fs:List (Str × V),f∈(A6 f v fs).map (·.1)/\∀ g,g∈fs.map (·.1)->g∈(A6 f v fs).map (·.1)
 | []=>⟨by simp[A6],λg h=>by simp at h⟩
 | (k,x)::r=>by
  obtain⟨i1,i2⟩:=P4 f v r
  rw[show A6 f v ((k,x)::r)=(if k=f then(k,v)::r else(k,x)::A6 f v r)from rfl]
  by_cases hk:k=f
  ·rw[if_pos hk]
   subst hk
   exact⟨by simp,λg h=>by simpa using h⟩
  ·rw[if_neg hk]
   refine⟨?_,λg h=> ?_⟩
   ·rw[List.map_cons]
    exact List.mem_cons_of_mem _ i1
   ·rw[List.map_cons]at h ⊢
    rcases List.mem_cons.mp h with e | e
    ·exact List.mem_cons.mpr (.inl e)
    ·exact List.mem_cons_of_mem _ (i2 g e)
theorem NN(f:Str)(v:V):∀ fs:List (Str × V),(A6 f v fs).length<=fs.length+1
 | []=>by simp[A6]
 | (k,x)::r=>by
  have ih:=NN f v r
  rw[show A6 f v ((k,x)::r)=(if k=f then(k,v)::r else(k,x)::A6 f v r)from rfl]
  by_cases hk:k=f
  ·rw[if_pos hk,List.length_cons,List.length_cons];omega
  ·rw[if_neg hk,List.length_cons,List.length_cons];omega
theorem RelO.some_of{v:V}{o:Option Value}(r:RelO (some v) o):∃ u,o=some u/\RelV v u:=by
 cases o with
 | none=>exact(show False from r).elim
 | some u=>exact⟨u,rfl,r⟩
theorem RelO.none_of{o:Option Value}(r:RelO none o):o=none:=by
 cases o with
 | none=>rfl
 | some u=>exact(show False from r).elim
theorem i9{v:V}{u:Value}(r:RelV v u):W.handedIn u=true:=by
 cases v with
 | non=>cases (show u=Value.none from r);rfl
 | bl b=>cases (show u=Value.bool b from r);rfl
 | int i=>obtain⟨t,e⟩:=(show ∃ t,u=Value.int i t from r);cases e;rfl
 | str x=>obtain⟨t,e⟩:=(show ∃ t,u=Value.str x t from r);cases e;rfl
 | byt b=>obtain⟨t,e⟩:=(show ∃ t,u=Value.bytes b t from r);cases e;rfl
 | flt b=>obtain⟨t,e⟩:=(show ∃ t,u=Value.float b t from r);cases e;rfl
 | ref a=>cases (show u=Value.ref a from r);rfl
 | ty n=>cases (show u=Value.type n from r);rfl
section
variable{P:Program}{w:World}{H H':Hp}{h h':Heap}{a C dx:Addr}{fs fs':List (Str × V)}
theorem NO(hok:HOk P w H h)(e:H a=some (.ins C dx fs)):∃ mA,ObjM h a dx C mA/\(∀ f,RelO (fs.lookup f) (mA f))/\PySem.Within mA (fs.map (·.1))/\fs.length<=1000/\H dx=some (.own a):=by
 obtain⟨d,z,ne,ob,mA,n,r,q⟩:=(show ObjOk P w H h a (.ins C dx fs)from hok a _ e)
 exact⟨mA,⟨ob,n,ne⟩,r,q,z,d⟩
end
structure Cls(K:W.Frag)(C:Addr):Prop where
 pg:W.plainGet K C Str.empty=true
 hd:W.hasDictIn K C=true
 po:W.plainOver K C=true
 sa:W.findIn K (.ref C) "__setattr__"=some (some (.builtin "object.__setattr__"))
theorem Cls.get{K:W.Frag}{C:Addr}(c:Cls K C)(f:Str):W.plainGet K C f=true:=c.pg
def NoAttr(K:W.Frag)(C:Addr)(f:Str):Prop:=W.findIn K (.ref C) f=some none
theorem NoAttr.taker{K:W.Frag}{C:Addr}{f:Str}(n:NoAttr K C f):W.takerIn K C f=some none:=by
 unfold W.takerIn
 rw[show W.findIn K (.ref C) f=some none from n]
 rfl
structure Mj(K:W.Frag)(C:Addr)(f:Str)(v:V)(u:Value):Prop where
 at_:W.findIn K (.ref C) f=some (some u)
 rel:RelV v u
 get:W.specialIn K u "__get__"=some none
 cp:W.copiedNames.contains f=false
structure NP(K:W.Frag)(C:Addr)(m:Str)(f:Addr):Prop where
 at_:W.findIn K (.ref C) m=some (some (.ref f))
 fn:W.isFn K (.ref f)=true
 kp:W.keepIn K (.ref f)=true
section
variable{X:Cx}{pins:List (Addr × Obj)}{σ:St}{H:Hp}{s:Shared}{a C dx:Addr}{fs:List (Str × V)}{f:Str}{v:V}{A:Around}{E:Value->Shared->Prop}
theorem VO{b:Bool}{Q:Value->Shared->Prop}(I:Inv X pins σ H s)(e:H a=some (.ins C dx fs))(c:Cls X.K C)(n:NoAttr X.K C f)(l:fs.lookup f=some v)
  (h:∀ u s',Inv X pins σ H s'->RelV v u->Q u s'):wpAny (model X.prog X.w) A (getAttr (.ref a) f b) Q E s:=by
 obtain⟨mA,O,r,_,_,_⟩:=NO I.hok e
 obtain⟨u,hu,ru⟩:=RelO.some_of (v:=v) (o:=mA f) (by rw[<-l];exact r f)
 exact i5 I.kIn O (c.get f) c.hd n hu (i9 ru) (h u _ (I.tok _) ru)
theorem VP{m:Str}{g:Addr}{pl:Sem Bool}{Q:Value × List Value->Shared->Prop}(I:Inv X pins σ H s)(e:H a=some (.ins C dx fs))(c:Cls X.K C)(k:NP X.K C m g)(l:fs.lookup m=none)
  (h:Q (.ref g,[.ref a]) s):wpAny (model X.prog X.w) A (getMethod (.ref a) m pl) Q E s:=by
 obtain⟨mA,O,r,_,_,_⟩:=NO I.hok e
 have hn:mA m=none:=RelO.none_of (by rw[<-l];exact r m)
 exact i6 I.kIn O (c.get m) k.at_ k.fn hn h
theorem VQ{y:V}{u:Value}{Q:Unit->Shared->Prop}(I:Inv X pins σ H s)(e:H a=some (.ins C dx fs))(c:Cls X.K C)(n:NoAttr X.K C f)(hl:fs.length<1000)(ry:RelV y u)
  (h:∀ s',Inv X pins σ (upd H a (.ins C dx (A6 f y fs))) s'->Q () s'):wpAny (model X.prog X.w) A (setAttr (.ref a) f u) Q E s:=by
 obtain⟨mA,O,r,wi,_,ho⟩:=NO I.hok e
 have hz:(fs.map (·.1)).length<=sizeLine:=by rw[List.length_map,sizeLine_eq];omega
 refine i7 I.kIn O c.sa c.po n.taker c.hd wi hz λh' O' sb=>h _ ?_
 have hd:∃ o,h'.get? dx=some o:=let ⟨o,_,_,e',_⟩:=O'.ns;⟨o,e'⟩
 refine I.write (x:=a) (e:=dx) (by rw[e];exact True.intro) (.inr ho) (λb q hb z=>(sb.2 b hb).trans z) hd ?_
 refine⟨by rw[AH O.ne];exact ho,?_,O.ne,O'.obj,_,O'.ns,λg=> ?_,λg hg=> ?_⟩
 ·have:=NN f y fs;omega
 ·show RelO ((A6 f y fs).lookup g) (if g=f then some u else mA g)
  rw[VN]
  by_cases q:g=f
  ·rw[if_pos q,if_pos q];exact ry
  ·rw[if_neg q,if_neg q];exact r g
 ·by_cases q:g=f
  ·rw[q];exact(P4 f y fs).1
  ·refine(P4 f y fs).2 g (wi g λz=>hg ?_)
   show(if g=f then some u else mA g)=none
   rw[if_neg q];exact z
theorem Inv.made(I:Inv X pins σ H s):Inv X pins σ (upd (upd H s.heap.objs.size (.own (s.heap.objs.size+1))) (s.heap.objs.size+1) (.ins C s.heap.objs.size []))
  { s with heap:=(s.heap.push W.emptyDict).push (W.instObj C s.heap.objs.size) }:=by
 have e1:(s.heap.push W.emptyDict).get? s.heap.objs.size=some W.emptyDict:=Heap.get?_push_size s.heap rfl
 have e2:((s.heap.push W.emptyDict).push (W.instObj C s.heap.objs.size)).get? (s.heap.objs.size+1)=some (W.instObj C s.heap.objs.size):=by
  have:=Heap.get?_push_size (s.heap.push W.emptyDict) (o:=W.instObj C s.heap.objs.size) rfl
  rwa [Heap.size_push]at this
 have e3:(s.heap.push W.emptyDict).Ns s.heap.objs.size (λ_=>none):=⟨W.emptyDict,#[],_,e1,rfl,(λe he=>absurd he (by simp)),λ_=>rfl⟩
 have I1:=I.laid (a:=s.heap.objs.size) (o:=.own (s.heap.objs.size+1)) (h':=s.heap.push W.emptyDict) (t':=s.toks) (λb u q=>Heap.get?_push_of_some _ q) (Nat.le_refl _) ⟨_,e1⟩
 refine I1.laid (a:=s.heap.objs.size+1) (o:=.ins C s.heap.objs.size []) (t':=s.toks) (λb u q=>Heap.get?_push_of_some _ q) (Nat.le_of_eq (Heap.size_push _ _)) ?_
 have ne:s.heap.objs.size≠s.heap.objs.size+1:=Nat.ne_of_lt (Nat.lt_succ_self _)
 refine⟨by rw[AH ne,AJ],Nat.zero_le _,ne,e2,λ_=>none,(Heap.Ns1.of_empty e3).at λo q=>Heap.get?_push_of_some _ q,λ_=>True.intro,λy hy=>absurd rfl hy⟩
theorem jA{prog:Program}{w:World}{env:Env}{e:Expr}{f:Str}{pos:Pos}{s:Shared}{Q:Value->Shared->Prop}(hb:attributeBase e f env (eval e env)=eval e env)
  (h:wpAny (model prog w) A (eval e env) (λo s₁=>wpAny (model prog w) A (getAttr o f true) Q E s₁) E s):wpAny (model prog w) A (eval (.Attribute e f pos) env) Q E s :=
 Attribute_any_ h (by rw[arm_eval_Attribute,hb])
end
def BP(K:W.Frag)(ta:TE)(f:Str):TE:=λσ H Q=>ta σ H λx H1=>∃ a C dx fs v,x=.ref a/\H1 a=some (.ins C dx fs)/\Cls K C/\NoAttr K C f/\fs.lookup f=some v/\Q v H1
def EQ(K:W.Frag)(ta tv:TE)(f:Str):TS:=λD σ H=>tv σ H λy H1=>ta σ H1 λx H2=>∃ a C dx fs,x=.ref a/\H2 a=some (.ins C dx fs)/\Cls K C/\NoAttr K C f/\fs.length<1000 ∧
 D.nx σ (upd H2 a (.ins C dx (A6 f y fs)))
def VR(X:Cx)(op:Operator)(rd:V->V->Hp->VK->Prop):Prop :=
 ∀ (pins:List (Addr × Obj)) (s:Shared) (σ:St) (H:Hp) (x y:V) (u v:Value) (Q:VK),Inv X pins σ H s->RelV x u->RelV y v->rd x y H Q->wpAny (model X.prog X.w) X.A (inplaceOp op u v) (EP X pins σ Q) X.xe s
def P9(K:W.Frag)(ta tv:TE)(rd:V->V->Hp->VK->Prop)(f:Str):TS:=λD σ H=>ta σ H λx H1=>∃ a C dx fs v,x=.ref a/\H1 a=some (.ins C dx fs)/\Cls K C/\NoAttr K C f/\fs.lookup f=some v ∧
 tv σ H1 λy H2=>rd v y H2 λz H3=>∃ dx' fs',H3 a=some (.ins C dx' fs')/\fs'.length<1000/\D.nx σ (upd H3 a (.ins C dx' (A6 f z fs')))
section
variable{X:Cx}{o e value:Expr}{f:Str}{pos pos' tpos:Pos}{ta tv:TE}
theorem BT(he:PE X e ta)(hb:attributeBase e f X.env (eval e X.env)=eval e X.env):PE X (.Attribute e f pos) (BP X.K ta f):=by
 intro pins s σ H Q I h
 refine jA hb (AO (he pins s σ H _ I h) λu s1 ⟨x,H1,I1,rx,a,C,dx,fs,v,ex,ea,c,n,l,q⟩=> ?_)
 subst ex
 obtain rfl:u=Value.ref a:=rx
 exact VO I1 ea c n l λu' s2 I2 ru=>⟨v,H1,I2,ru,q⟩
theorem FR(ha:PE X o ta)(hv:PE X value tv)(hs:swapsWith value (some (.Attribute o f pos')) pos.line X.env=pure false):PS X (.Assign [.Attribute o f pos'] value pos) (EQ X.K ta tv f):=by
 intro pins s σ H D I h
 refine plainObj_wpAny_Assign_Attribute (AO (hv pins s σ H _ I h) λu s1 ⟨y,H1,I1,ry,q⟩=>AO (ha pins s1 σ H1 _ I1 q) λov s2 ⟨x,H2,I2,rx,a,C,dx,fs,ex,ea,c,n,l,q2⟩=> ?_) hs
 subst ex
 obtain rfl:ov=Value.ref a:=rx
 exact VQ I2 ea c n l ry λs3 I3=>⟨σ,_,I3,q2⟩
theorem jB{op:Operator}{rd:V->V->Hp->VK->Prop}(ha:PE X o ta)(hv:PE X value tv)(hop:VR X op rd):PS X (.AugAssign (.Attribute o f tpos) op value pos) (P9 X.K ta tv rd f):=by
 intro pins s σ H D I h
 refine wpAny_AugAssign_AttributeAny (AO (ha pins s σ H _ I h) λov s1 ⟨x,H1,I1,rx,a,C,dx,fs,v,ex,ea,c,n,l,q⟩=> ?_)
 subst ex
 obtain rfl:ov=Value.ref a:=rx
 refine VO I1 ea c n l λu s2 I2 ru=>AO (hv pins s2 σ H1 _ I2 q) λw3 s3 ⟨y,H2,I3,ry,q3⟩=>AO (hop pins s3 σ H2 v y u w3 _ I3 ru ry q3) λw4 s4 ⟨z,H3,I4,rz,dx',fs',ea',l',q4⟩=> ?_
 exact VQ I4 ea' c n l' rz λs5 I5=>⟨σ,_,I5,q4⟩
def NQ:V->V->Hp->VK->Prop:=λx y H Q=>∃ i j,x=.int i/\y=.int j/\Q (.int (i+j)) H
theorem jC:VR X .Add NQ:=by
 rintro pins s σ H x y u v Q I rx ry ⟨i,j,rfl,rfl,q⟩
 obtain⟨t,rfl⟩:=(show ∃ t,u=Value.int i t from rx)
 obtain⟨t',rfl⟩:=(show ∃ t',v=Value.int j t' from ry)
 exact PyProof.Rows.iadd_int ⟨.int (i+j),H,I.tok _,⟨_,rfl⟩,q⟩
end
section
variable{X:Cx}{pins:List (Addr × Obj)}{σ:St}{H:Hp}{s:Shared}{A:Around}{E:Value->Shared->Prop}{Q:Value->Shared->Prop}{c:Value}{b:Bool}
inductive ER(K:W.Frag)(H:Hp):V->Value->Prop where
 | non:ER K H .non (.type "NoneType")
 | bl (x:Bool):ER K H (.bl x) (.type "bool")
 | int (i:Int):ER K H (.int i) (.type "int")
 | str (x:Str):ER K H (.str x) (.type "str")
 | flt (x:UInt64):ER K H (.flt x) (.type "float")
 | lst {a:Addr} {xs:List V} (e:H a=some (.lst xs)):ER K H (.ref a) (.type "list")
 | frz {a:Addr} {o:Obj} {xs:List V} (e:H a=some (.frz o (.lst xs))):ER K H (.ref a) (.type "list")
 | tup {a:Addr} {xs:List V} (e:H a=some (.tup xs)):ER K H (.ref a) (.type "tuple")
 | dK {a:Addr} {kvs:List (AR × V)} (e:H a=some (.dK kvs)):ER K H (.ref a) (.type "dict")
 | dT {a:Addr} {kvs:List (List AR × V)} (e:H a=some (.dT kvs)):ER K H (.ref a) (.type "dict")
 | ins {a C dx:Addr} {fs:List (Str × V)} (e:H a=some (.ins C dx fs)) (cl:Cls K C) (ha:W.findIn K (.ref C) "__class__"=some (some (.builtin "object.__class__")))
   (hn:W.specialIn K (.builtin "object.__class__") "__get__"=some (some (.builtin "getset_descriptor.__get__"))) (htk:W.takesIn K (.builtin "object.__class__")=some true)
   (hm:W.mroIn K C (.type "object")=some true):ER K H (.ref a) (.ref C)
end
end L2
namespace L2
structure Room(k:Nat)(A:Around):Prop where
 hd:A.handled=none
 dp:A.depth+3 * k+5<recursionLimit
 un:A.units+16 * k+200<cLine
theorem Room.mono{j k:Nat}{A:Around}(r:Room k A)(h:j<=k):Room j A:=⟨r.hd,by have:=r.dp;omega,by have:=r.un;omega⟩
theorem Room.deeper{k:Nat}{A:Around}(r:Room (k+1) A)(env:Env):Room k (A.deeper env) :=
 ⟨r.hd,by have:=r.dp;show A.depth+1+3 * k+5<_;omega,by have:=r.un;show A.units+3+16 * k+200<_;omega⟩
theorem jD{A:Around}{C:Addr}{us:List Value}{kw:List (Str × Value)}:(A.under (.builtin "type.__call__" ⟨.ref C::us,kw⟩)).depth=A.depth+1:=by
 first | rfl | simp[Around.under,Code.weight,Code.isCreation,Code.isGuard,Code.isCaller,Code.frames,Code.isFrame,guardIds]
theorem jE{A:Around}{C:Addr}{us:List Value}{kw:List (Str × Value)}:(A.under (.builtin "type.__call__" ⟨.ref C::us,kw⟩)).units=A.units+1:=by
 first | rfl | simp[Around.under,Code.cUnits,Code.frames,Code.isFrame]
theorem Room.make{k:Nat}{A:Around}(r:Room (k+1) A)(C:Addr)(us:List Value)(kw:List (Str × Value)):Room k (A.under (.builtin "type.__call__" ⟨.ref C::us,kw⟩)) :=
 ⟨r.hd,by have:=r.dp;rw[jD];omega,by have:=r.un;rw[jE];omega⟩
theorem Room.depth{k:Nat}{A:Around}(r:Room k A):A.depth<recursionLimit:=by have:=r.dp;omega
theorem Room.units{k:Nat}{A:Around}(r:Room k A):A.units+64<cLine:=by have:=r.un;omega
def AE:TA:=λ_ H Q=>Q [] H
def AC(ta:TE)(tr:TA):TA:=λσ H Q=>ta σ H λx H1=>tr σ H1 λxs H2=>Q (x::xs) H2
section
variable{X:Cx}{e:Expr}{es:List Expr}{te:TE}{t:TA}{pos:Pos}
theorem AG:PA X [] AE:=λ_ _ _ _ H Q I h=>Calls.spliced_nil ⟨[],H,I,.nil,h⟩
theorem AD(ha:PE X e te)(hr:PA X es t)(hs:starEach (e::es) X.env=(false,eval e X.env)::starEach es X.env:=by rfl):PA X (e::es) (AC te t):=by
 intro pos pins s σ H Q I h
 rw[hs]
 show wpAny _ _ (spliced ((false,eval e X.env)::backTo pos (starEach es X.env))) _ _ s
 refine Calls.spliced_cons (AO (ha pins s σ H _ I h) λu s1 ⟨x,H1,I1,r1,q1⟩=> ?_)
 exact AO (hr pos pins s1 σ H1 _ I1 q1) λus s2 ⟨xs,H2,I2,r2,q2⟩=>⟨x::xs,H2,I2,.cons r1 r2,q2⟩
def DK(t:TA):TE:=λσ H Q=>t σ H λxs H1=>xs.length<=sizeLine/\∀ p,H1 p=none->Q (.ref p) (upd H1 p (.tup xs))
def C3(t:TA):TE:=λσ H Q=>t σ H λxs H1=>xs.length<=sizeLine/\∀ p,H1 p=none->Q (.ref p) (upd H1 p (.lst xs))
theorem D3{x1}(h:PA X es t):PE X (.Tuple es x1 pos) (DK t):=by
 intro pins s σ H Q I hq
 refine wpAny_Tuple_spliced (AO (h pos pins s σ H _ I hq) λus s1 ⟨xs,H1,I1,r,z,q⟩=>⟨by rw[<-r.length];exact z,?_⟩)
 have hf:H1 s1.heap.objs.size=none:=I1.hok.fresh (Nat.le_refl _)
 refine⟨.ref s1.heap.objs.size,upd H1 s1.heap.objs.size (.tup xs),I1.laid (t':=s1.toks) (λb u e=>Heap.get?_push_of_some _ e) (Nat.le_refl _) ?_,rfl,q _ hf⟩
 exact⟨z,us,r,⟨_,Heap.get?_push_size _ rfl,rfl,_,rfl⟩⟩
theorem DB(h:PA X es t):PE X (.List es pos) (C3 t):=by
 intro pins s σ H Q I hq
 refine wpAny_List_spliced (AO (h pos pins s σ H _ I hq) λus s1 ⟨xs,H1,I1,r,z,q⟩=>⟨by rw[<-r.length];exact z,?_⟩)
 have hf:H1 s1.heap.objs.size=none:=I1.hok.fresh (Nat.le_refl _)
 refine⟨.ref s1.heap.objs.size,upd H1 s1.heap.objs.size (.lst xs),I1.laid (t':=s1.toks) (λb u e=>Heap.get?_push_of_some _ e) (Nat.le_refl _) ?_,rfl,q _ hf⟩
 exact⟨z,us,0,r,Heap.get?_push_size _ rfl⟩
end
abbrev Sp:=List V->Hp->VK->XK->Prop
abbrev FB:=List Env->Hp->Shared->XK->Value->Shared->Prop
structure Env0(P:Program)(w:World)(K:W.Frag)(mg:Str->Option Value)(base:Heap)(A:Around)(outer:List Env)(s:Shared)(H:Hp):Prop where
 frames:A.frames=some outer
 mod:Mod K mg base
 bs:∀ b o,base.get? b=some o->s.heap.get? b=some o/\H b=none
 bsz:base.objs.size<=s.heap.objs.size
 funs:s.heap.FunFrames base outer
 frf:∀ b∈C2 outer,H b=none
 hok:HOk P w H s.heap
 bare:AllBare s.gens
def CE(outer:List Env)(P:Program)(w:World)(H:Hp)(s:Shared)(Q:VK)(u:Value)(s':Shared):Prop :=
 ∃ v H',s'.os=s.os/\AllBare s'.gens/\Un (C2 outer) [] H H' s.heap s'.heap/\HOk P w H' s'.heap/\RelV v u/\Q v H'
def CR(CX:FB)(outer:List Env)(P:Program)(w:World)(H:Hp)(s:Shared)(Q:VK)(E:XK)(r:Result)(s':Shared):Prop :=
 match r with
 | .ok (.ret u)=>CE outer P w H s Q u s'
 | .ok _=>False
 | .error e=>CX outer H s E e s'
structure FnOk(P:Program)(w:World)(K:W.Frag)(mg:Str->Option Value)(base:Heap)(CX:FB)(k:Nat)(f:Addr)(fd:FuncData)(ps:List Str)(sp:Sp):Prop where
 len:∀ vs H Q E,sp vs H Q E->vs.length=ps.length
 run:∀ (A:Around) (outer:List Env) (s:Shared) (H:Hp) (args:Args) (us:List Value) (vs:List V) (Q:VK) (E:XK),Room k A->Env0 P w K mg base A outer s H->BindsTo s fd args (ps.zip us)->Vals vs us->sp vs H Q E →
  codeAny (model P w) A (.call (.ref f) args) (CR CX outer P w H s Q E) s
theorem FnOk.imp{P:Program}{w:World}{K:W.Frag}{mg:Str->Option Value}{base:Heap}{CX:FB}{k:Nat}{f:Addr}{fd:FuncData}{ps:List Str}{sp sp':Sp}(F:FnOk P w K mg base CX k f fd ps sp)
  (h:∀ vs H Q E,sp' vs H Q E->sp vs H Q E):FnOk P w K mg base CX k f fd ps sp' :=
 ⟨λvs H Q E q=>F.len vs H Q E (h _ _ _ _ q),λA outer s H args us vs Q E hr he hb hv hs=>F.run A outer s H args us vs Q E hr he hb hv (h _ _ _ _ hs)⟩
theorem Env0.make{P:Program}{w:World}{K:W.Frag}{mg:Str->Option Value}{base:Heap}{A:Around}{outer:List Env}{s:Shared}{H:Hp}(e:Env0 P w K mg base A outer s H)(C:Addr)(us:List Value)(kw:List (Str × Value)) :
  Env0 P w K mg base (A.under (.builtin "type.__call__" ⟨.ref C::us,kw⟩)) outer s H:=⟨by first | exact e.frames | (simpa [Around.under,Code.envs,Code.isFrame,pushEnvs]using e.frames),e.mod,e.bs,e.bsz,e.funs,e.frf,e.hok,e.bare⟩
section
variable{X:Cx}{pins:List (Addr × Obj)}{σ:St}{H:Hp}{s s':Shared}
theorem Inv.env0(I:Inv X pins σ H s):Env0 X.prog X.w X.K X.mg X.base X.A X.stack s H :=
 ⟨I.ok.frames,I.ok.mod,I.bs,Nat.le_trans I.ok.bsz I.sz,I.stack,I.stkFree,I.hok,I.bare⟩
theorem Inv.after{Q:VK}{u:Value}(I:Inv X pins σ H s)(h:CE X.stack X.prog X.w H s Q u s'):EP X pins σ Q u s':=by
 obtain⟨v,H',os,bare,un,hok,r,q⟩:=h
 obtain⟨hh,g,d,t,os'⟩:=s'
 obtain rfl:os'=s.os:=os
 exact⟨v,H',I.call (h':=hh) (g':=g) (d':=d) (t':=t) (ch:=[]) un hok bare (λb z=>absurd z (by simp)),r,q⟩
end
def BC(sp:Sp)(dvs:List V)(E:St->XK)(t:TA):TE:=λσ H Q=>t σ H λvs H1=>sp (vs++dvs) H1 Q (E σ)
def BO(C:Addr)(m:Str)(sp:Sp)(dvs:List V)(E:St->XK)(ta:TE)(t:TA):TE:=λσ H Q=>ta σ H λx H1=>∃ a dx fs,x=.ref a/\H1 a=some (.ins C dx fs)/\fs.lookup m=none ∧
 t σ H1 λvs H2=>sp (x::(vs++dvs)) H2 Q (E σ)
def JL(C:Addr)(sp:Sp)(dvs:List V)(E:St->XK)(t:TA):TE:=λσ H Q=>t σ H λvs H1=>∀ x dx,H1 x=none->H1 dx=none->dx≠x →
 sp (.ref x::(vs++dvs)) (upd (upd H1 dx (.own x)) x (.ins C dx [])) (λv H2=>v=.non/\Q (.ref x) H2) (E σ)
def Binds(K:W.Frag)(fd:FuncData)(ps:List Str)(ds:List Value):Prop :=
 ∀ (s:Shared) (us:List Value),K.In s.heap->(us++ds).length=ps.length->BindsTo s fd ⟨us,[]⟩ (ps.zip (us++ds))
theorem Binds.all{K:W.Frag}{fd:FuncData}{ps:List Str}(h:∀ us:List Value,us.length=ps.length->bindArgs fd ⟨us,[]⟩=pure (ps.zip us)):Binds K fd ps []:=λs us _ hl=>by
 rw[List.append_nil]at hl ⊢
 exact .of_eq (h us hl)
def FC(CX:FB)(X:Cx)(E:St->XK):Prop:=∀ (pins:List (Addr × Obj)) (σ:St) (H:Hp) (s:Shared) (e:Value) (s':Shared),Inv X pins σ H s->CX X.stack H s (E σ) e s'->X.xe e s'
section
variable{X:Cx}{CX:FB}{k:Nat}{f C:Addr}{fd:FuncData}{ps:List Str}{sp:Sp}{dvs:List V}{ds:List Value}{E:St->XK}{x m:Str}{p pos apos:Pos}{e o:Expr}{es:List Expr}{ta:TE}{t:TA}
theorem QC{pins:List (Addr × Obj)}{σ:St}{H:Hp}{s:Shared}{Q:VK}{us:List Value}{vs:List V}(F:FnOk X.prog X.w X.K X.mg X.base CX k f fd ps sp)(hr:Room k X.A)(hb:Binds X.K fd ps ds)(hd:Vals dvs ds)(hx:FC CX X E)
  (I:Inv X pins σ H s) (r:Vals vs us) (h:sp (vs++dvs) H Q (E σ)):wpAny (model X.prog X.w) X.A (call (.ref f) us) (EP X pins σ Q) X.xe s:=by
 have r2:Vals (vs++dvs) (us++ds):=r.append hd
 have hl:(us++ds).length=ps.length:=by rw[<-r2.length];exact F.len _ _ _ _ h
 refine wpAny_call (codeAny_mono (F.run X.A X.stack s H ⟨us,[]⟩ (us++ds) (vs++dvs) Q (E σ) hr I.env0 (hb s us I.kIn hl) r2 h) λr s' hq=> ?_)
 cases r with
 | error e=>exact hx pins σ H s e s' I hq
 | ok fl =>
  cases fl with
  | ret u=>exact I.after hq
  | next=>exact False.elim hq
  | brk=>exact False.elim hq
  | cont=>exact False.elim hq
theorem jF(F:FnOk X.prog X.w X.K X.mg X.base CX k f fd ps sp)(hr:Room k X.A)(hg:Gl X x)(hm:X.mg x=some (.ref f))(hk:W.keepIn X.K (.ref f)=true)(hb:Binds X.K fd ps ds)(hd:Vals dvs ds)(hx:FC CX X E)
  (ha:PA X (e::es) t) (hdb:(x ==("__debug__":Str))=false:=by decide) (he:starEach (e::es) X.env=(false,eval e X.env)::starEach es X.env:=by rfl) (hpl:(backTo pos (starEach es X.env)).any (·.1)=false:=by rfl) :
  PE X (.Call (.Name x p) (e::es) [] pos) (BC sp dvs E t):=by
 intro pins s σ H Q I h
 refine wpAny_Call_Name_kw (LP I hg hm ?_ hdb)
 refine W.callWith_K (h₀:=X.base) I.ok.mod.kin hk (AO (ha pos pins s σ H _ I h) λus s1 ⟨vs,H1,I1,r,q⟩=>⟨I1.kIn,?_⟩) he hpl
 exact QC F hr hb hd hx I1 r q
theorem jG{pl:Sem Bool}(he:PE X o ta)(c:Cls X.K C)(hm:NP X.K C m f)(F:FnOk X.prog X.w X.K X.mg X.base CX k f fd ps sp)(hr:Room k X.A)(hb:Binds X.K fd ps ds)(hd:Vals dvs ds)(hx:FC CX X E)(ha:PA X (e::es) t)
  (hst:starEach (e::es) X.env=(false,eval e X.env)::starEach es X.env:=by rfl) (hpl:(backTo pos (starEach es X.env)).any (·.1)=false:=by rfl)
  (ht:eval (.Call (.Attribute o m apos) (e::es) [] pos) X.env=(do
   let ov ← eval o X.env
   standAt apos.atName
   let (f,first) ← holding [ov] (getMethod ov m pl)
   callWith pos f first (backTo pos (starEach (e::es) X.env)) (backToKw pos (keywordEach [] X.env))):=by rfl) :
  PE X (.Call (.Attribute o m apos) (e::es) [] pos) (BO C m sp dvs E ta t):=by
 intro pins s σ H Q I h
 refine W.methodCall_KW (pl:=pl) (AO (he pins s σ H _ I h) λu s1 ⟨x,H1,I1,rx,a,dx,fs,ex,ea,l,q⟩=> ?_) ht
 subst ex
 obtain rfl:u=Value.ref a:=rx
 refine VP I1 ea c hm l ?_
 refine W.callWith_K (first:=[.ref a]) (h₀:=X.base) I.ok.mod.kin hm.kp (AO (ha pos pins s1 σ H1 _ I1 q) λus s2 ⟨vs,H2,I2,r,q2⟩=>⟨I2.kIn,?_⟩) hst hpl
 exact QC (us:=.ref a::us) (vs:=.ref a::vs) F hr hb hd hx I2 (.cons rfl r) q2
theorem jH{pl:Sem Bool}(he:PE X o ta)(c:Cls X.K C)(hm:NP X.K C m f)(F:FnOk X.prog X.w X.K X.mg X.base CX k f fd ps sp)(hr:Room k X.A)(hb:Binds X.K fd ps ds)(hd:Vals dvs ds)(hx:FC CX X E)
  (ht:eval (.Call (.Attribute o m apos) [] [] pos) X.env=(do
   let ov ← eval o X.env
   standAt apos.atName
   let (f,first) ← holding [ov] (getMethod ov m pl)
   callWith pos f first (backTo pos (starEach [] X.env)) (backToKw pos (keywordEach [] X.env))):=by rfl) :
  PE X (.Call (.Attribute o m apos) [] [] pos) (BO C m sp dvs E ta AE):=by
 intro pins s σ H Q I h
 refine W.methodCall_KW (pl:=pl) (AO (he pins s σ H _ I h) λu s1 ⟨x,H1,I1,rx,a,dx,fs,ex,ea,l,q⟩=> ?_) ht
 subst ex
 obtain rfl:u=Value.ref a:=rx
 refine VP I1 ea c hm l ?_
 exact W.callWith_K0 (first:=[.ref a]) I1.kIn hm.kp (QC (us:=[.ref a]) (vs:=[.ref a]) F hr hb hd hx I1 (.cons rfl .nil) q)
structure Mk(K:W.Frag)(C f:Addr):Prop where
 makes:W.makesIn K C=true
 init:W.findIn K (.ref C) "__init__"=some (some (.ref f))
 fn:W.isFn K (.ref f)=true
 kp:W.keepIn K (.ref C)=true
theorem jI{pins:List (Addr × Obj)}{σ:St}{H:Hp}{s:Shared}{Q:VK}{us:List Value}{vs:List V}(M:Mk X.K C f)(F:FnOk X.prog X.w X.K X.mg X.base CX k f fd ps sp)(hr:Room (k+1) X.A)(hb:Binds X.K fd ps ds)(hd:Vals dvs ds)
  (hx:FC CX X E) (I:Inv X pins σ H s) (r:Vals vs us)
  (h:∀ x dx,H x=none->H dx=none->dx≠x->sp (.ref x::(vs++dvs)) (upd (upd H dx (.own x)) x (.ins C dx [])) (λv H2=>v=.non/\Q (.ref x) H2) (E σ)) :
  wpAny (model X.prog X.w) X.A (call (.ref C) us) (EP X pins σ Q) X.xe s:=by
 have hq:=h (s.heap.objs.size+1) s.heap.objs.size (I.hok.fresh (Nat.le_succ _)) (I.hok.fresh (Nat.le_refl _)) (Nat.ne_of_lt (Nat.lt_succ_self _))
 have I2:=Inv.made (C:=C) I
 have r2:Vals (V.ref (s.heap.objs.size+1)::(vs++dvs)) (Value.ref (s.heap.objs.size+1)::(us++ds)):=.cons rfl (r.append hd)
 have hl:(Value.ref (s.heap.objs.size+1)::us++ds).length=ps.length:=by
  have e:=r2.length
  rw[F.len _ _ _ _ hq]at e
  exact e.symm
 refine wpAny_call (i8 (f:=f) I.kIn M.makes M.init (beq_iff_eq.mp M.fn) (codeAny_mono (F.run _ X.stack _ _ ⟨Value.ref (s.heap.objs.size+1)::us,[]⟩ (Value.ref (s.heap.objs.size+1)::(us++ds)) _ _ (E σ) (hr.make C us [])
  (I2.env0.make C us []) (hb _ (Value.ref (s.heap.objs.size+1)::us) I2.kIn hl) r2 hq) λr s' hq'=> ?_))
 cases r with
 | error e=>exact hx pins σ _ _ e s' I2 hq'
 | ok fl =>
  cases fl with
  | ret u =>
   obtain⟨v,H',I3,rv,ev,q3⟩:=I2.after hq'
   subst ev
   exact⟨rv,⟨V.ref (s.heap.objs.size+1),H',I3,rfl,q3⟩⟩
  | next=>exact False.elim hq'
  | brk=>exact False.elim hq'
  | cont=>exact False.elim hq'
theorem jJ(M:Mk X.K C f)(F:FnOk X.prog X.w X.K X.mg X.base CX k f fd ps sp)(hr:Room (k+1) X.A)(hg:Gl X x)(hm:X.mg x=some (.ref C))(hb:Binds X.K fd ps ds)(hd:Vals dvs ds)(hx:FC CX X E)
  (ha:PA X (e::es) t) (hdb:(x ==("__debug__":Str))=false:=by decide) (he:starEach (e::es) X.env=(false,eval e X.env)::starEach es X.env:=by rfl) (hpl:(backTo pos (starEach es X.env)).any (·.1)=false:=by rfl) :
  PE X (.Call (.Name x p) (e::es) [] pos) (JL C sp dvs E t):=by
 intro pins s σ H Q I h
 refine wpAny_Call_Name_kw (LP I hg hm ?_ hdb)
 refine W.callWith_K (h₀:=X.base) I.ok.mod.kin M.kp (AO (ha pos pins s σ H _ I h) λus s1 ⟨vs,H1,I1,r,q⟩=>⟨I1.kIn,?_⟩) he hpl
 exact jI M F hr hb hd hx I1 r q
end
section
variable{X:Cx}{CX:FB}{k:Nat}{f C:Addr}{fd:FuncData}{ps ks:List Str}{sp:Sp}{E:St->XK}{x m:Str}{p pos apos kpos:Pos}{e o:Expr}{es:List Expr}{kws:List Keyword}{te ta:TE}{t tk:TA}{nm:Option Str}
structure Ml(K:W.Frag)(fd:FuncData)(ps ks:List Str)(g:List Value->List Value->List Value)(gV:List V->List V->List V):Prop where
 to:∀ (s:Shared) (us ws:List Value),K.In s.heap->(g us ws).length=ps.length->BindsTo s fd ⟨us,ks.zip ws⟩ (ps.zip (g us ws))
 rel:∀ {vs:List V} {us:List Value} {zs:List V} {ws:List Value},Vals vs us->Vals zs ws->Vals (gV vs zs) (g us ws)
variable{g:List Value->List Value->List Value}{gV:List V->List V->List V}
end
structure FnScope(N P:List Str)(sc:Scope):Prop where
 kind:sc.kind=.function
 co:sc.isCoroutine=false
 gen:sc.isGenerator=false
 nd:N.Nodup
 pre:N.take P.length=P
 par:∀ x∈P,sc.names.lookup x=some .local\/sc.names.lookup x=some .cell
 nofree:∀ y∈sc.names,y.2≠.free
theorem VS{kindOf:Str->Option NameKind}{x:Str}:∀ {binds:List (Str × Value)} {m:Str->Option Value},(∀ v,(x,v)∉binds)->bindL kindOf binds m x=m x
 | [],_,_=>rfl
 | (n,v)::r,m,h=>by
  unfold bindL
  rw[VS λw hw=>h w (List.mem_cons_of_mem _ hw)]
  split
  ·have:x≠n:=by rintro rfl;exact h v List.mem_cons_self
   simp[this]
  ·rfl
theorem VT{kindOf:Str->Option NameKind}{x:Str}:∀ {binds:List (Str × Value)} {m:Str->Option Value},(∀ v,(x,v)∉binds)->bindC kindOf binds m x=m x
 | [],_,_=>rfl
 | (n,v)::r,m,h=>by
  unfold bindC
  rw[VT λw hw=>h w (List.mem_cons_of_mem _ hw)]
  split
  ·rfl
  ·have:x≠n:=by rintro rfl;exact h v List.mem_cons_self
   simp[this]
theorem VU{kindOf:Str->Option NameKind}{x:Str}{v:Value}:∀ {P:List Str} {vs:List Value} {i:Nat} {m:Str->Option Value},P.Nodup->P[i]? =some x->vs[i]? =some v->kindOf x=some .local →
  bindL kindOf (P.zip vs) m x=some v
 | [],_,_,_,_,h,_,_=>by simp at h
 | _::_,[],_,_,_,_,h,_=>by simp at h
 | p::P,w::vs,0,m,nd,h1,h2,hk=>by
  simp at h1 h2;subst h1;subst h2
  show bindL kindOf ((p,w)::P.zip vs) m p=_
  unfold bindL
  rw[VS λv hv=>(List.nodup_cons.mp nd).1 (List.of_mem_zip hv).1,if_pos hk]
  simp
 | p::P,w::vs,i+1,m,nd,h1,h2,hk=>by
  show bindL kindOf ((p,w)::P.zip vs) m x=_
  unfold bindL
  exact VU (i:=i) (List.nodup_cons.mp nd).2 (by simpa using h1) (by simpa using h2) hk
theorem VW{kindOf:Str->Option NameKind}{x:Str}{v:Value}:∀ {P:List Str} {vs:List Value} {i:Nat} {m:Str->Option Value},P.Nodup->P[i]? =some x->vs[i]? =some v->kindOf x≠some .local →
  bindC kindOf (P.zip vs) m x=some v
 | [],_,_,_,_,h,_,_=>by simp at h
 | _::_,[],_,_,_,_,h,_=>by simp at h
 | p::P,w::vs,0,m,nd,h1,h2,hk=>by
  simp at h1 h2;subst h1;subst h2
  show bindC kindOf ((p,w)::P.zip vs) m p=_
  unfold bindC
  rw[VT λv hv=>(List.nodup_cons.mp nd).1 (List.of_mem_zip hv).1,if_neg hk]
  simp
 | p::P,w::vs,i+1,m,nd,h1,h2,hk=>by
  show bindC kindOf ((p,w)::P.zip vs) m x=_
  unfold bindC
  exact VW (i:=i) (List.nodup_cons.mp nd).2 (by simpa using h1) (by simpa using h2) hk
def BD(N:List Str)(vs:List V):St:=vs.map some++List.replicate (N.length - vs.length) none
def GW(CX:FB)(P:Program)(w:World)(K:W.Frag)(mg:Str->Option Value)(base:Heap)(N:List Str)(qual:Str)(scope:Scope)(f:Addr)(cd:Value)(A:Around)(outer:List Env)(s:Shared)(H:Hp)(E:XK):Cx where
 prog:=P
 w:=w
 K:=K
 mg:=mg
 base:=base
 A:=A.deeper (envOfC qual scope s.heap.objs.size f cd)
 N:=N
 s₀:=s
 H₀:=H
 env:=envOfC qual scope s.heap.objs.size f cd
 outer:=outer
 stack:=envOfC qual scope s.heap.objs.size f cd::outer
 ex:=[]
 calm:=true
 fn:=λ_=>true
 pn:=[]
 xe:=λe s'=>wpAny (model P w) (A.deeper (envOfC qual scope s.heap.objs.size f cd)) (leaving (envOfC qual scope s.heap.objs.size f cd) e) (λ_ s''=>CX outer H s E e s'') (λe' s''=>CX outer H s E e' s'') s'
theorem VX{sc:Scope}{n:Nat}{x:Str}(h:sc.names.lookup x=some .cell):∃ c,(cellsFrom n sc.names []).lookup x=some c:=by
 have q:=W.cellsFrom_some sc.names n [] (.inl h)
 exact Option.isSome_iff_exists.mp q
theorem jK{CX:FB}{P:Program}{w:World}{K:W.Frag}{mg:Str->Option Value}{base:Heap}{N ps:List Str}{qual:Str}{scope:Scope}{f:Addr}{cd:Value}{A:Around}{outer:List Env}{s s1:Shared}{H:Hp}{E:XK}{us:List Value}{vs:List V}
  (S:FnScope N ps scope) (hd:A.handled=none) (e0:Env0 P w K mg base A outer s H) (hl:vs.length=ps.length) (r:Vals vs us)
  (x:InCallC s s.heap.objs.size (bindL (envOfC qual scope s.heap.objs.size f cd).kindOf (ps.zip us) λ_=>none) (cellsFrom (s.heap.objs.size+1) scope.names []) (bindC (envOfC qual scope s.heap.objs.size f cd).kindOf (ps.zip us) λ_=>none) s1) :
  Inv (GW CX P w K mg base N qual scope f cd A outer s H E) [] (BD N vs) H s1:=by
 have hpl:ps.length<=N.length:=by have:=congrArg List.length S.pre;rw[List.length_take]at this;omega
 obtain⟨h1,tk,rfl,hk⟩:=x.done
 have noA:∀ b:Addr,b∉(GW CX P w K mg base N qual scope f cd A outer s H E).ex:=λb z=>absurd (show b∈([]:List Addr)from z) (by simp)
 refine⟨⟨e0.mod,S.kind,rfl,rfl,Nat.le_refl _,λy z c h1 h2=> ?_,λy hy=> ?_,λy c _ h=> ?_,λ_=>hd,Around.frames_deeper e0.frames,.inr ⟨rfl,rfl⟩,λb z=>absurd z (noA b),e0.bs,e0.bsz,λb _ _=>noA b,λb z=>absurd z (noA b),e0.funs,e0.frf⟩,
  rfl,e0.bare,Un.kept hk,⟨_,x.toInCall.ns,λi y v h1 h2 h3=> ?_⟩,λy c h=>⟨_,x.cell y c h⟩,e0.hok.fresh (Nat.le_refl _),λy c h=> ?_,λp hp=>absurd (show p∈([]:List (Addr × Obj))from hp) (by simp),e0.hok.kept hk,?_⟩
 ·exact name_of_addr x.apart (PySem.mem_of_lookup h1) (PySem.mem_of_lookup h2)
 ·have hy:scope.names.lookup y=some .cell\/scope.names.lookup y=some .free:=hy
  rcases hy with hy | hy
  ·exact VX hy
  ·exact absurd rfl (S.nofree _ (PySem.mem_of_lookup hy))
 ·exact Nat.le_of_lt (x.above y c (PySem.mem_of_lookup h))
 ·have hi:i<vs.length:=by
   unfold BD at h2
   by_cases hi:i<vs.length
   ·exact hi
   ·rw[List.getElem?_append_right (by simpa using hi)]at h2
    rw[List.getElem?_replicate]at h2
    split at h2<;>cases h2
  have ha:vs[i]? =some v:=by
   unfold BD at h2
   rw[List.getElem?_append_left (by simpa using hi),List.getElem?_map]at h2
   cases e:vs[i]? with
   | none=>rw[e]at h2;cases h2
   | some a=>rw[e]at h2;cases h2;rfl
  obtain⟨u,hu,rv⟩:=r.get ha
  have hp:ps[i]? =some y:=by
   rw[<-S.pre,List.getElem?_take_of_lt (by omega)];exact h1
  have ndP:ps.Nodup:=by rw[<-S.pre];exact S.nd.sublist (List.take_sublist _ _)
  refine⟨u,rv,?_⟩
  rcases S.par y (List.mem_of_getElem? hp)with k | k
  ·exact .inl ⟨k,VU ndP hp hu k⟩
  ·obtain⟨c,e⟩:=VX (n:=s.heap.objs.size+1) k
   refine .inr ⟨.inl k,c,e,?_⟩
   have q:=x.cell y c e
   rw[VW ndP hp hu (by show scope.names.lookup y≠_;rw[k];decide)]at q
   exact q
 ·exact e0.hok.fresh (Nat.le_of_lt (x.above y c (PySem.mem_of_lookup h)))
 ·unfold BD
  show _=N.length
  rw[List.length_append,List.length_map,List.length_replicate]
  omega
theorem jL{CX:FB}{P:Program}{w:World}{K:W.Frag}{mg:Str->Option Value}{base:Heap}{k:Nat}{f:Addr}{name qual:Str}{params:Arguments}{body:List Stmt}{scope:Scope}{dV kV doc pm cdv ct oc:Value}{an od:Option Addr}
  {osl:Array (Option Value)} {N ps:List Str} {sp:Sp} (lk:K.lookup f=some ⟨oc,od,.func (W.fnOf name qual params body scope dV kV doc pm an cdv ct),osl⟩) (hcd:W.codeIn K cdv qual=true) (S:FnScope N ps scope)
  (len:∀ vs H Q E,sp vs H Q E->vs.length=ps.length)
  (hbody:∀ (A:Around) (outer:List Env) (s:Shared) (H:Hp) (vs:List V) (Q:VK) (E:XK),Room k (A.deeper (envOfC qual scope s.heap.objs.size f cdv))->sp vs H Q E →
   ∃ t,E5 (GW CX P w K mg base N qual scope f cdv A outer s H E) body t/\t { nx:=λ_ H'=>Q .non H',rt:=Q } (BD N vs) H) :
  FnOk P w K mg base CX (k+1) f (W.fnOf name qual params body scope dV kV doc pm an cdv ct) ps sp:=by
 refine⟨len,λA outer s H args us vs Q E hr e0 hb r hsp=> ?_⟩
 have hl:=len _ _ _ _ hsp
 have KX:K.In s.heap:=e0.mod.kin.keeps λb o e=>(e0.bs b o e).1
 have lim:s.heap.NoLimit:=e0.mod.nolimit.keeps λb o e=>(e0.bs b o e).1
 have hkind:∀ y∈ps.zip us,scope.names.lookup y.1=some .local\/(scope.names.lookup y.1=some .cell/\((cellsFrom (s.heap.objs.size+1) scope.names []).lookup y.1).isSome=true):=λ⟨n,v⟩ hy=>by
  rcases S.par n (List.of_mem_zip hy).1 with q | q
  ·exact .inl q
  ·exact .inr ⟨q,W.cellsFrom_some _ _ _ (.inl q)⟩
 refine codeAny_call_function hr.depth (KX _ _ lk) rfl S.co S.gen rfl (W.codeRec_of KX hcd) (hb _ _ _ _ ?_)
 refine wpAny_newFunctionEnv_cells S.kind hkind λenv he s1 x=> ?_
 subst he
 refine⟨lim.keeps x.toInCall.keep,codeAny_func ?_⟩
 obtain⟨t,ht,hq⟩:=hbody A outer s H vs Q E (hr.deeper _) hsp
 have I:Inv (GW CX P w K mg base N qual scope f cdv A outer s H E) [] (BD N vs) H s1:=jK S hr.hd e0 hl r x
 refine wpAny_mono (ht [] s1 (BD N vs) H _ I hq) (λfl s' hs=> ?_) λe s' hs=>hs
 have fin:∀ {σ':St} {H':Hp} {v:V} {u:Value},Inv (GW CX P w K mg base N qual scope f cdv A outer s H E) [] σ' H' s'->RelV v u->Q v H'->CE outer P w H s Q u s' :=
  λ{σ' H' v u} J rv q=>⟨v,H',J.os,J.bare,J.base,J.hok,rv,q⟩
 cases fl with
 | ret u =>
  obtain⟨v,σ',H',J,rv,q⟩:=hs
  exact fin J rv q
 | next =>
  obtain⟨σ',H',J,q⟩:=hs
  exact fin (v:=V.non) (u:=Value.none) J rfl q
 | brk =>
  obtain⟨_,_,_,q⟩:=hs
  exact False.elim q
 | cont =>
  obtain⟨_,_,_,q⟩:=hs
  exact False.elim q
end L2
namespace L2
section
variable{X:Cx}{x:Str}{p pos:Pos}{e:Expr}{es:List Expr}{t:TA}{id T:String}{r:List V->Hp->VK->Prop}
def A4(r:List V->Hp->VK->Prop)(t:TA):TE:=λσ H Q=>t σ H λvs H1=>r vs H1 Q
theorem BQ(hc:DJ X (.builtin id) r)(hg:Gl X x)(hm:X.mg x=none)(hv:bootBuiltins x=some (.builtin id))(ha:PA X (e::es) t)(hn:x≠"__name__":=by decide)(hdb:(x ==("__debug__":Str))=false:=by decide)
  (he:starEach (e::es) X.env=(false,eval e X.env)::starEach es X.env:=by rfl) (hpl:(backTo pos (starEach es X.env)).any (·.1)=false:=by rfl):PE X (.Call (.Name x p) (e::es) [] pos) (A4 r t):=by
 intro pins s σ H Q I h
 refine wpAny_Call_Name_kw (JF I hg hm hv ?_ hn hdb)
 exact PyProof.Rows.callWith_builtin1 (AO (ha pos pins s σ H _ I h) λus s1 ⟨vs,H1,I1,r1,q1⟩=>hc pins s1 σ H1 vs us Q I1 r1 q1) he hpl
theorem DC(hc:DJ X (.type T) r)(hg:Gl X x)(hm:X.mg x=none)(hv:bootBuiltins x=some (.type T))(ha:PA X (e::es) t)(hn:x≠"__name__":=by decide)(hdb:(x ==("__debug__":Str))=false:=by decide)
  (he:starEach (e::es) X.env=(false,eval e X.env)::starEach es X.env:=by rfl) (hpl:(backTo pos (starEach es X.env)).any (·.1)=false:=by rfl):PE X (.Call (.Name x p) (e::es) [] pos) (A4 r t):=by
 intro pins s σ H Q I h
 refine wpAny_Call_Name_kw (JF I hg hm hv ?_ hn hdb)
 exact PyProof.Rows.callWith_type1 (AO (ha pos pins s σ H _ I h) λus s1 ⟨vs,H1,I1,r1,q1⟩=>hc pins s1 σ H1 vs us Q I1 r1 q1) he hpl
end
end L2
namespace HT
open PySem PyProof.Rows
section
open PySem.SeqAt
open PySem.AutoSeq1 (wpAny_loadPart')
open PySem.MeetsSeq PySem.MeetsSeq2 PySem.MeetsSeq3
end
section
variable{prog:Program}{w:World}{A:Around}{E:Value->Shared->Prop}{s:Shared}
theorem cat_tup{t b:Addr}{vs ws:List Value}{Q:Value->Shared->Prop}(ht:IsTup s.heap t vs.toArray)(hb:IsTup s.heap b ws.toArray)(hv:vs≠[])
  (h1:ws=[]->Q (.ref t) s) (h2:ws≠[]->Q (.ref s.heap.objs.size) { s with heap:=s.heap.push { cls:=.type "tuple",data:=.seq (vs++ws).toArray } })
  (hsz:vs.length+ws.length<=sizeLine):wpAny (model prog w) A (binaryOp .Add (.ref t) (.ref b)) Q E s:=by
 obtain⟨⟨cls,dd,data,sl⟩,ho,hc,n,hd⟩:=id ht
 obtain⟨⟨cls2,dd2,data2,sl2⟩,ho2,hc2,n2,hd2⟩:=id hb
 simp only at hc hd hc2 hd2
 subst hc hd hc2 hd2
 have e:vs.toArray++ws.toArray=(vs++ws).toArray:=by simp
 by_cases hw:ws=[]
 ·exact concat_meets ⟨_,ho,rfl⟩ ⟨_,ho2,rfl⟩ noFill_tuple_add seq_tuple_add PySem.F.slot_tuple_add PySem.F.entry_tuple_add (PySem.F.args_tuple_add_2 _ _)
   (tuple_addW1 t b vs.toArray ws.toArray n n2 dd dd2 sl sl2 (by simpa using hv) (by simp[hw])) ⟨ho,ho2,h1 hw⟩
 ·refine concat_meets ⟨_,ho,rfl⟩ ⟨_,ho2,rfl⟩ noFill_tuple_add seq_tuple_add PySem.F.slot_tuple_add PySem.F.entry_tuple_add (PySem.F.args_tuple_add_2 _ _)
   (tuple_addW2 t b vs.toArray ws.toArray n n2 dd dd2 sl sl2 (by simpa using hv) (by simpa using hw) (by rw[List.size_toArray,List.size_toArray];exact hsz)) ⟨ho,ho2,?_⟩
  rw[e]
  exact h2 hw
def sIx(n d:Nat):Option Int->Nat
 | none=>d
 | some v=>if v<0 then(v+(n:Int)).toNat else min v.toNat n
theorem jM(n d:Nat)(hd:d<=n)(o:Option Int):sIx n d o<=n:=by
 cases o with
 | none=>exact hd
 | some v =>
  show(if v<0 then(v+(n:Int)).toNat else min v.toNat n)<=n
  by_cases hv:v<0
  ·rw[if_pos hv];omega
  ·rw[if_neg hv];exact Nat.min_le_right _ _
theorem VY(v:Int)(n d:Nat):(if v<0 then max (v+(n:Int)) 0 else min v (n:Int))=((sIx n d (some v):Nat):Int):=by
 show(if v<0 then max (v+(n:Int)) 0 else min v (n:Int))=(((if v<0 then(v+(n:Int)).toNat else min v.toNat n):Nat):Int)
 by_cases hv:v<0
 ·simp only[if_pos hv];omega
 ·simp only[if_neg hv];omega
theorem jN(lo hi:Option Int)(n:Nat):Builtin.Slice.sliceAdjust lo hi 1 (n:Int)=(((sIx n 0 lo:Nat):Int),((sIx n n hi:Nat):Int)):=by
 have h1:¬ ((1:Int)<0):=by omega
 unfold Builtin.Slice.sliceAdjust
 simp only[h1,if_false]
 refine Prod.ext ?_ ?_
 ·cases lo with
  | none=>rfl
  | some v=>exact VY v n 0
 ·cases hi with
  | none=>rfl
  | some v=>exact VY v n n
theorem jO(i j:Nat):Builtin.Slice.slicePlaces (i:Int) (j:Int) 1=j - i:=by
 unfold Builtin.Slice.slicePlaces
 have h1:(1:Int) > 0:=by omega
 simp only[h1,if_true,Int.ediv_one]
 split<;>omega
theorem VZ{v:Value}{o:Option Int}{Q:Option Int->Shared->Prop}(p:IsPart v o)(h:Q o s):wpAny (model prog w) A (Builtin.Slice.slicePartIndex v) Q E s:=by
 cases p with
 | none=>exact slicePart_none h
 | int i t=>exact slicePart_int h
theorem jP{sl:Addr}{vl vu:Value}{lo hi:Option Int}{n:Nat}{Q:Int × Int × Nat->Shared->Prop}(hs:s.heap.IsSliceOf sl vl vu .none)(pl:IsPart vl lo)(pu:IsPart vu hi)
  (h:Q (((sIx n 0 lo:Nat):Int),1,sIx n n hi - sIx n 0 lo) s):wpAny (model prog w) A (Builtin.Slice.sliceApplied (.ref sl) (pure (n:Int))) Q E s:=by
 obtain⟨os,hos,hcs,hds⟩:=id hs
 unfold Builtin.Slice.sliceApplied Builtin.Slice.sliceFields
 refine wpAny_bind (wpAny_bind (wpAny_field hos hds (x:=vl) rfl (wpAny_bind (wpAny_field hos hds (x:=vu) rfl (wpAny_bind (wpAny_field hos hds (x:=.none) rfl (wpAny_pure ?_)))))))
 refine wpAny_bind (slicePart_none ?_)
 show wpAny _ _ (if((1:Int) == 0)=true then _ else _) _ _ s
 rw[if_neg (by decide)]
 refine wpAny_bind (VZ pl (wpAny_bind (VZ pu (wpAny_bind (wpAny_pure ?_)))))
 show wpAny _ _ (match Builtin.Slice.sliceAdjust lo hi 1 (n:Int)with | (lo,hi)=>pure (lo,(1:Int),Builtin.Slice.slicePlaces lo hi 1)) _ _ s
 rw[jN lo hi n]
 show wpAny _ _ (pure (((sIx n 0 lo:Nat):Int),(1:Int),Builtin.Slice.slicePlaces ((sIx n 0 lo:Nat):Int) ((sIx n n hi:Nat):Int) 1)) _ _ s
 rw[jO]
 exact wpAny_pure h
theorem jQ(xs:Array Value)(i k:Nat):((List.range k).filterMap λ(m:Nat)=>xs[((i:Int)+(m:Int) * 1).toNat]?).toArray=((xs.toList.drop i).take k).toArray:=by
 have e:(λ(m:Nat)=>xs[((i:Int)+(m:Int) * 1).toNat]?)=λm=>xs[i+m]? :=by
  funext m
  have:((i:Int)+(m:Int) * 1).toNat=i+m:=by omega
  rw[this]
 rw[e]
 have:=pick_run xs i k
 rw[List.filterMap_map]at this
 have e2:((λx=>xs[x]?) ∘ λx=>i+x)=λm=>xs[i+m]? :=rfl
 rw[e2]at this
 rw[this]
theorem getItem_tuple_cut{t sl:Addr}{items:Array Value}{vl vu:Value}{lo hi:Option Int}{Q:Value->Shared->Prop}(ht:IsTup s.heap t items)(hs:s.heap.IsSliceOf sl vl vu .none)(pl:IsPart vl lo)(pu:IsPart vu hi)
  (hw:¬ (sIx items.size 0 lo=0/\sIx items.size items.size hi=items.size))
  (h:Q (.ref s.heap.objs.size) { s with heap:=s.heap.push { cls:=.type "tuple",data:=.seq ((items.toList.drop (sIx items.size 0 lo)).take (sIx items.size items.size hi - sIx items.size 0 lo)).toArray } })
  (hsz:items.size<=sizeLine):wpAny (model prog w) A (getItem (.ref t) (.ref sl)) Q E s:=by
 have htake:sizeOk (.seq ((items.toList.drop (sIx items.size 0 lo)).take (sIx items.size items.size hi - sIx items.size 0 lo)).toArray):=by
  show((items.toList.drop (sIx items.size 0 lo)).take (sIx items.size items.size hi - sIx items.size 0 lo)).toArray.size<=sizeLine
  rw[List.size_toArray,List.length_take,List.length_drop,Array.length_toList]
  omega
 have hj:sIx items.size items.size hi<=items.size:=jM _ _ (Nat.le_refl _) hi
 obtain⟨os,hos,hcs,hds⟩:=id hs
 have hTs:s.TypeIs (.ref sl) "slice":=⟨os,hos,hcs⟩
 unfold getItem
 try with_reducible refine wpAny_holding ?_
 first | refine wpAny_bind (wpAny_pure ?_) | skip
 refine wpAny_bind (wpAny_sequenceKey ht.typeIs (by decide) ?_)
 refine wpAny_bind (wpAny_callSpecial?_slot (name:=Str.ofString "__getitem__") ht.typeIs PyProof.Rows.slot_tuple_getitem
  (wpAny_call_entry PyProof.Rows.slot_tuple_getitem ht.typeIs entry_tuple_getitem ?_ (args_tuple_getitem _ _)))
 show wpAny _ _ (Builtin.Tuple.tupleItemsOf (.ref t) >>= _) _ _ s
 refine wpAny_bind (tupleItemsOf_ ht ?_)
 refine wpAny_bind (wpAny_typeOf hTs ?_)
 rw[if_pos (by decide)]
 refine wpAny_bind (jP hs pl pu ?_)
 have hno:¬ ((((sIx items.size 0 lo:Nat):Int) == 0 && (1:Int) == 1 && (sIx items.size items.size hi - sIx items.size 0 lo) == items.size)=true):=by
  intro q
  rw[Bool.and_eq_true,Bool.and_eq_true]at q
  have q1:((sIx items.size 0 lo:Nat):Int)=0:=eq_of_beq q.1.1
  have q2:sIx items.size items.size hi - sIx items.size 0 lo=items.size:=eq_of_beq q.2
  exact hw ⟨by omega,by omega⟩
 show wpAny _ _ (if(((sIx items.size 0 lo:Nat):Int) == 0 && (1:Int) == 1 && (sIx items.size items.size hi - sIx items.size 0 lo) == items.size)=true then _ else _) _ _ s
 rw[if_neg hno,jQ]
 first
  | exact wpAny_bind (m:=Builtin.Tuple.tupleExact _) (wpAny_newObj_type (wpAny_pure ⟨_,rfl,wpAny_pure h⟩) htake)
  | exact wpAny_bind (m:=Builtin.Tuple.tupleExact _) (wpAny_newObj_type (wpAny_bind (wpAny_pure (wpAny_pure ⟨_,rfl,wpAny_pure h⟩))) htake)
  | exact wpAny_bind (wpAny_bind (m:=Builtin.Tuple.tupleExact _) (wpAny_newObj_type (wpAny_pure (wpAny_pure ⟨_,rfl,wpAny_pure h⟩)) htake))
  | exact wpAny_bind (wpAny_bind (m:=Builtin.Tuple.tupleExact _) (wpAny_newObj_type (wpAny_pure ⟨_,rfl,wpAny_pure h⟩) htake))
end
end HT
namespace L2
abbrev TO:=St->Hp->(Option Int->Hp->Prop)->Prop
def PO(X:Cx)(e:Option Expr)(t:TO):Prop :=
 ∀ (pins:List (Addr × Obj)) (s:Shared) (σ:St) (H:Hp) (Q:Option Int->Hp->Prop),Inv X pins σ H s->t σ H Q →
  wpAny (model X.prog X.w) X.A (evalPart e X.env) (λu s'=>∃ o H',Inv X pins σ H' s'/\IsPart u o/\Q o H') X.xe s
def NR(t:TE):TO:=λσ H Q=>t σ H λx H1=>∃ i,x=.int i/\Q (some i) H1
section
variable{X:Cx}{e:Expr}{te:TE}{lo hi:Option Expr}{tl th:TO}{pos p2:Pos}
theorem V0(h:PE X e te):PO X (some e) (NR te):=by
 intro pins s σ H Q I hw
 rw[evalPart_some]
 refine AO (h pins s σ H _ I hw) λu s1 ⟨x,H1,I1,r1,q1⟩=> ?_
 obtain⟨i,rfl,q⟩:=q1
 obtain⟨t,rfl⟩:=r1
 exact⟨some i,H1,I1,.int i t,q⟩
def SlR(X:Cx)(r:V->Option Int->Option Int->Hp->VK->Prop):Prop :=
 ∀ (pins:List (Addr × Obj)) (s:Shared) (σ:St) (H:Hp) (x:V) (v vl vu:Value) (lo hi:Option Int) (sl:Addr) (Q:VK),Inv X pins σ H s->RelV x v->s.heap.IsSliceOf sl vl vu .none->IsPart vl lo->IsPart vu hi->r x lo hi H Q →
  ∃ T id,typeLookup (.type T) "__getitem__"=pure (some (.builtin id))/\s.TypeIs v T/\wpAny (model X.prog X.w) X.A (getItem v (.ref sl)) (EP X pins σ Q) X.xe s
theorem SlR.or{r r':V->Option Int->Option Int->Hp->VK->Prop}(h:SlR X r)(h':SlR X r'):SlR X (λx lo hi H Q=>r x lo hi H Q\/r' x lo hi H Q):=by
 intro pins s σ H x v vl vu lo hi sl Q I rx hs pl pu q
 rcases q with q | q
 ·exact h pins s σ H x v vl vu lo hi sl Q I rx hs pl pu q
 ·exact h' pins s σ H x v vl vu lo hi sl Q I rx hs pl pu q
def QD(r:V->Option Int->Option Int->Hp->VK->Prop)(te:TE)(tl th:TO):TE:=λσ H Q=>te σ H λx H1=>tl σ H1 λl H2=>th σ H2 λu H3=>r x l u H3 Q
theorem jR{r:V->Option Int->Option Int->Hp->VK->Prop}(hr:SlR X r)(he:PE X e te)(hl:PO X lo tl)(hu:PO X hi th):PE X (.Subscript e (.Slice lo hi none p2) pos) (QD r te tl th):=by
 intro pins s σ H Q I h
 refine Subscript_ (AO (he pins s σ H _ I h) λv s1 ⟨x,H1,I1,r1,q1⟩=> ?_)
 refine wpAny_Slice (AO (hl pins s1 σ H1 _ I1 q1) λvl s2 ⟨l,H2,I2,pl,q2⟩=>AO (hu pins s2 σ H2 _ I2 q2) λvu s3 ⟨u,H3,I3,pu,q3⟩=> ?_)
 rw[evalPart_none]
 refine wpAny_pure ?_
 have I4:Inv X pins σ H3 { s3 with heap:=s3.heap.push { cls:=.type "slice",data:=.fields #[vl,vu,.none] } }:=I3.kept (t':=s3.toks) λb ob q=>Heap.get?_push_of_some _ q
 obtain⟨T,id,hT,ht,hg⟩:=hr pins { s3 with heap:=s3.heap.push { cls:=.type "slice",data:=.fields #[vl,vu,.none] } } σ H3 x v vl vu l u s3.heap.objs.size Q I4 r1 (Heap.IsSliceOf.new ..) pl pu q3
 show wpAny (model X.prog X.w) X.A (subscriptTail e (.Slice lo hi none p2) v (.ref s3.heap.objs.size)) (EP X pins σ Q) X.xe { s3 with heap:=s3.heap.push { cls:=.type "slice",data:=.fields #[vl,vu,.none] } }
 exact tail_any (ops:=[.ref s3.heap.objs.size,v]) ht hT hg (by with_unfolding_all rfl)
def GX(xs:List V)(lo hi:Option Int):List V:=(xs.drop (HT.sIx xs.length 0 lo)).take (HT.sIx xs.length xs.length hi - HT.sIx xs.length 0 lo)
theorem V1(xs:List V)(lo hi:Option Int):(GX xs lo hi).length<=xs.length:=by
 unfold GX
 rw[List.length_take,List.length_drop]
 omega
def V2(K:W.Frag):V->Option Int->Option Int->Hp->VK->Prop:=λx lo hi H Q=>∃ a xs,x=.ref a/\SqT K H a xs ∧
 ¬ (HT.sIx xs.length 0 lo=0/\HT.sIx xs.length xs.length hi=xs.length)/\∀ p,H p=none->Q (.ref p) (upd H p (.tup (GX xs lo hi)))
theorem jS:SlR X (V2 X.K):=by
 intro pins s σ H x v vl vu lo hi sl Q I rx hs pl pu h
 obtain⟨a,xs,rfl,hx,hw,q⟩:=h
 cases rx
 obtain⟨its,r,ht,hz⟩:=I.tuple hx
 have hlen:its.toArray.size=xs.length:=by rw[List.size_toArray];exact r.length.symm
 refine⟨"tuple",_,PyProof.Rows.slot_tuple_getitem.lookup,ht.typeIs,?_⟩
 refine HT.getItem_tuple_cut ht hs pl pu (by rw[hlen];exact hw) ?_ (by rw[hlen];exact hz)
 rw[hlen]
 refine⟨.ref s.heap.objs.size,_,I.laid (t':=s.toks) (o:=.tup (GX xs lo hi)) (λb ob q=>Heap.get?_push_of_some _ q) (Nat.le_refl _) ?_,rfl,q _ (I.hok.fresh (Nat.le_refl _))⟩
 exact⟨Nat.le_trans (V1 xs lo hi) hz,_,(r.drop (HT.sIx xs.length 0 lo)).take (HT.sIx xs.length xs.length hi - HT.sIx xs.length 0 lo),IsTup.new _ _⟩
def QE(K:W.Frag):R2:=λx y H Q=>∃ a b xs ys,x=.ref a/\y=.ref b/\SqT K H a xs/\SqT K H b ys/\xs≠[]/\xs.length+ys.length<=sizeLine ∧
 (ys=[]->Q (.ref a) H)/\(ys≠[]->∀ p,H p=none->Q (.ref p) (upd H p (.tup (xs++ys))))
theorem Vals.nil_iff{xs:List V}{us:List Value}(r:Vals xs us):us=[]↔xs=[]:=by
 cases r with
 | nil=>simp
 | cons _ _=>simp
theorem jT:CA X (binaryOp .Add) (QE X.K):=by
 intro pins s σ H x y v u Q I rx ry h
 obtain⟨a,b,xs,ys,rfl,rfl,ha,hb,hx,hz,q1,q2⟩:=h
 cases rx
 cases ry
 obtain⟨its,r1,p1,_⟩:=I.tuple ha
 obtain⟨its2,r2,p2,_⟩:=I.tuple hb
 refine HT.cat_tup p1 p2 (λz=>hx (r1.nil_iff.mp z)) (λz=>⟨.ref a,H,I,rfl,q1 (r2.nil_iff.mp z)⟩) (λz=> ?_) (by rw[<-r1.length,<-r2.length];exact hz)
 refine⟨.ref s.heap.objs.size,_,I.laid (t':=s.toks) (o:=.tup (xs++ys)) (λb ob q=>Heap.get?_push_of_some _ q) (Nat.le_refl _) ?_,rfl,q2 (λw=>z (r2.nil_iff.mpr w)) _ (I.hok.fresh (Nat.le_refl _))⟩
 exact⟨by rw[List.length_append];exact hz,_,r1.append r2,IsTup.new _ _⟩
end
end L2
namespace L2
def FS(n:Nat)(i:Int):Option Nat:=if 0<=i then(if i<n then some i.toNat else none)else if -(n:Int)<=i then some (i+n).toNat else none
def HV{α :Type}(xs:List α)(i:Int):Option α :=(FS xs.length i).bind λj=>xs[j]?
theorem V3{n:Nat}{i:Int}{j:Nat}(h:FS n i=some j):seqIndex? i n=some j/\j<n/\ -(n:Int)<=i/\i<n:=by
 unfold FS at h
 by_cases h0:0<=i
 ·rw[if_pos h0]at h
  by_cases h1:i<n
  ·rw[if_pos h1]at h
   have e:i.toNat=j:=Option.some.inj h
   exact⟨by rw[seqIndex_of h0 h1,e],by omega,by omega,h1⟩
  ·rw[if_neg h1]at h;cases h
 ·rw[if_neg h0]at h
  by_cases h1: -(n:Int)<=i
  ·rw[if_pos h1]at h
   have e:(i+n).toNat=j:=Option.some.inj h
   exact⟨by rw[seqIndex_neg (by omega) h1,e],by omega,h1,by omega⟩
  ·rw[if_neg h1]at h;cases h
theorem QF{α :Type}{xs:List α}{i:Int}{v: α}(h:HV xs i=some v):∃ j,seqIndex? i xs.length=some j/\xs[j]? =some v/\j<xs.length/\ -(xs.length:Int)<=i/\i<xs.length:=by
 unfold HV at h
 cases e:FS xs.length i with
 | none=>rw[e]at h;cases h
 | some j =>
  rw[e]at h
  obtain⟨h1,h2,h3,h4⟩:=V3 e
  exact⟨j,h1,h,h2,h3,h4⟩
theorem V4{α :Type}{xs:List α}{j:Nat}{v: α}(h:xs[j]? =some v):HV xs (j:Int)=some v:=by
 have hj:j<xs.length:=(List.getElem?_eq_some_iff.mp h).1
 have e:FS xs.length (j:Int)=some j:=by
  unfold FS
  rw[if_pos (by omega),if_pos (by omega)];simp
 unfold HV;rw[e];exact h
def jU(b:Expr):Prop:=∀ o i,subscripted b false o i=operate [o,i] (getItem o i)
def IxR(X:Cx)(r:R2):Prop :=
 ∀ (value slice:Expr) (pins:List (Addr × Obj)) (s:Shared) (σ:St) (H:Hp) (x y:V) (v u:Value) (Q:VK),Inv X pins σ H s->RelV x v->RelV y u->r x y H Q →
  subscripted slice false v u=operate [v,u] (getItem v u)->wpAny (model X.prog X.w) X.A (subscriptTail value slice v u) (EP X pins σ Q) X.xe s
def V5(X:Cx)(id:String)(r:V->List V->Hp->VK->Prop):Prop :=
 ∀ (pins:List (Addr × Obj)) (s:Shared) (σ:St) (H:Hp) (x:V) (xs:List V) (v:Value) (us:List Value) (Q:VK),Inv X pins σ H s->RelV x v->Vals xs us->r x xs H Q →
  wpAny (model X.prog X.w) X.A (call (.builtin id) (v::us)) (EP X pins σ Q) X.xe s
section
variable{X:Cx}{a b:Expr}{ta tb:TE}{pos:Pos}
theorem IxR.or{r r':R2}(h:IxR X r)(h':IxR X r'):IxR X (λx y H Q=>r x y H Q\/r' x y H Q):=by
 intro value slice pins s σ H x y v u Q I rx ry q hs
 rcases q with q | q
 ·exact h value slice pins s σ H x y v u Q I rx ry q hs
 ·exact h' value slice pins s σ H x y v u Q I rx ry q hs
theorem AY{r:R2}(hr:IxR X r)(ha:PE X a ta)(hb:PE X b tb)(hs:jU b):PE X (.Subscript a b pos) (AI r ta tb):=by
 intro pins s σ H Q I h
 exact Subscript_ (P0 ha hb I h λv u s2 x y H2 I2 rx ry q=>hr a b pins s2 σ H2 x y v u Q I2 rx ry q (hs _ _))
def V6(K:W.Frag):R2:=λx y H Q=>∃ p xs i v,x=.ref p/\y=.int i/\SqL K H p xs/\HV xs i=some v/\Q v H
def V7(K:W.Frag):R2:=λx y H Q=>∃ p xs i v,x=.ref p/\y=.int i/\SqT K H p xs/\HV xs i=some v/\Q v H
def V8:R2:=λx y H Q=>∃ z i c,x=.str z/\y=.int i/\z.length<=sizeLine/\HV z.cps.toList i=some c/\Q (.str ⟨#[c]⟩) H
theorem jV:IxR X (V6 X.K):=by
 intro value slice pins s σ H x y v u Q I rx ry h hs
 obtain⟨p,xs,i,z,rfl,rfl,hq,he,q⟩:=h
 cases rx
 obtain⟨t,rfl⟩:=ry
 obtain⟨its,r,pl,hz⟩:=I.list hq
 obtain⟨j,h1,h2,h3,h4,h5⟩:=QF he
 obtain⟨w,ew,rw'⟩:=r.get h2
 have hl:=r.length
 have hn:=JK
 have fin:EP X pins σ Q w s:=⟨z,H,I,rw',q⟩
 by_cases h0:0<=i
 ·have hj:i.toNat=j:=by
   rw[seqIndex_of h0 h5]at h1
   exact Option.some.inj h1
  exact item_listR pl.isList h0 (by omega) (by rw[hj];simpa using ew) fin hs
 ·have hj:(i+(its.toArray.size:Int)).toNat=j:=by
   rw[seqIndex_neg (by omega) h4]at h1
   rw[List.size_toArray,<-hl]
   exact Option.some.inj h1
  exact subscriptTail_builtinR (x:=w) pl.isList.typeIs slot_list_getitem.lookup
   (wpAny_getItem_list_neg (Q:=λr s'=>r=w/\EP X pins σ Q r s') pl.isList (by omega) (by rw[List.size_toArray]<;>omega) (by omega) (by rw[hj];simpa using ew) ⟨rfl,fin⟩) hs
theorem jW:IxR X (V7 X.K):=by
 intro value slice pins s σ H x y v u Q I rx ry h hs
 obtain⟨p,xs,i,z,rfl,rfl,hq,he,q⟩:=h
 cases rx
 obtain⟨t,rfl⟩:=ry
 obtain⟨its,r,pl,hz⟩:=I.tuple hq
 obtain⟨j,h1,h2,h3,h4,h5⟩:=QF he
 obtain⟨w,ew,rw'⟩:=r.get h2
 have hl:=r.length
 have hn:=JK
 have fin:EP X pins σ Q w s:=⟨z,H,I,rw',q⟩
 exact subscriptTail_builtinR (x:=w) pl.typeIs slot_tuple_getitem.lookup
  (getItem_tuple (j:=j) (Q:=λr s'=>r=w/\EP X pins σ Q r s') pl (by omega) (by omega) (by rw[List.size_toArray,<-hl];exact h1) (by simpa using ew) ⟨rfl,fin⟩) hs
theorem jX:IxR X V8:=by
 intro value slice pins s σ H x y v u Q I rx ry h hs
 obtain⟨z,i,c,rfl,rfl,hz,he,q⟩:=h
 obtain⟨t,rfl⟩:=rx
 obtain⟨t',rfl⟩:=ry
 obtain⟨j,h1,h2,h3,h4,h5⟩:=QF he
 have hl:z.cps.toList.length=z.length:=by simp[Str.length]
 rw[hl]at h1 h4 h5
 have hn:=JK
 exact tail_any (typeIs_str s z t) slot_str_getitem.lookup (getItem_str (c:=c) (by
  have e1:decide (i< -(2 ^ 63:Int))=false:=decide_eq_false (by omega)
  have e2:decide (i ≥ 2 ^ 63)=false:=decide_eq_false (by omega)
  rw[e1,e2,Bool.or_false]) (by rw[h1];simpa using h2) ⟨.str ⟨#[c]⟩,H,I.tok _,⟨_,rfl⟩,q⟩) hs
def V9(K:W.Frag):R2:=λx y H Q=>V6 K x y H Q\/V7 K x y H Q\/V8 x y H Q
theorem jY:IxR X (V9 X.K):=jV.or (jW.or jX)
theorem jZ(its:List Value)(n j:Nat)(u:Value):Obj.mapSeq (·.setIfInBounds j u) { cls:=.type "list",data:=.seq its.toArray n }={ cls:=.type "list",data:=.seq (its.set j u).toArray n }:=by
 simp[Obj.mapSeq]
theorem Inv.lst{pins:List (Addr × Obj)}{σ:St}{H:Hp}{s:Shared}{p:Addr}{xs:List V}(I:Inv X pins σ H s)(h:H p=some (.lst xs)) :
  ∃ (its:List Value) (n:Nat),Vals xs its/\s.heap.get? p=some { cls:=.type "list",data:=.seq its.toArray n }/\xs.length<=sizeLine:=by
 obtain⟨z,its,n,r,e⟩:=I.hok p _ h
 exact⟨its,n,r,e,z⟩
theorem Inv.lstUpd{pins:List (Addr × Obj)}{σ:St}{H:Hp}{s:Shared}{p:Addr}{xs ys:List V}{its its':List Value}{n n':Nat}{f:Obj->Obj}(I:Inv X pins σ H s)(h:H p=some (.lst xs))
  (ho:s.heap.get? p=some { cls:=.type "list",data:=.seq its.toArray n }) (hf:f { cls:=.type "list",data:=.seq its.toArray n }={ cls:=.type "list",data:=.seq its'.toArray n' }) (r:Vals ys its') (hz:ys.length<=sizeLine) (t:Nat) :
  Inv X pins σ (upd H p (.lst ys)) { s with heap:=s.heap.update p f,toks:=t }:=by
 have e:(s.heap.update p f).get? p=some { cls:=.type "list",data:=.seq its'.toArray n' }:=by
  rw[Heap.get?_update_self f ho (by rw[hf]<;>rfl),hf]
 refine I.write (x:=p) (e:=p) (by rw[h];trivial) (.inl rfl) (λb u hb q=>(Heap.get?_update_other _ _ (Ne.symm hb)).trans q) ⟨_,e⟩ ?_
 exact⟨hz,its',n',r,e⟩
def WA:V->V->V->Hp->(Hp->Prop)->Prop:=λo i v H Q=>∃ p xs k j,o=.ref p/\i=.int k/\H p=some (.lst xs)/\FS xs.length k=some j/\Q (upd H p (.lst (xs.set j v)))
theorem j3:PU X WA:=by
 intro pins s σ H o i v ov iv u Q I ro ri rv h
 obtain⟨p,xs,k,j,rfl,rfl,hp,hj,q⟩:=h
 cases ro
 obtain⟨t,rfl⟩:=ri
 obtain⟨its,n,r,ho,hz⟩:=I.lst hp
 obtain⟨h1,h2,h3,h4⟩:=V3 hj
 have hl:=r.length
 have hn:=JK
 have I':Inv X pins σ (upd H p (.lst (xs.set j v))) { s with heap:=s.heap.update p (Obj.mapSeq (·.setIfInBounds j u)) } :=
  I.lstUpd hp ho (jZ its n j u) (r.set rv j) (by rw[List.length_set];exact hz) s.toks
 by_cases h0:0<=k
 ·have hk:k.toNat=j:=by
   rw[seqIndex_of h0 h4]at h1
   exact Option.some.inj h1
  exact W.ki_setAt ho h0 (by omega) (by rw[List.size_toArray,<-hl];exact h4) (by rw[hk];exact⟨_,I',q⟩)
 ·have hk:(k+(its.toArray.size:Int)).toNat=j:=by
   rw[seqIndex_neg (by omega) h3]at h1
   rw[List.size_toArray,<-hl]
   exact Option.some.inj h1
  exact W.ki_setBack ho (by omega) (by rw[List.size_toArray,<-hl];exact h3) (by omega) (by rw[hk];exact⟨_,I',q⟩)
theorem j4(lo hi:Option Int)(n:Nat):(sliceBounds lo hi none n).1=((HT.sIx n 0 lo:Nat):Int)/\(sliceBounds lo hi none n).2.1=((HT.sIx n n hi:Nat):Int)/\(sliceBounds lo hi none n).2.2=1:=by
 refine⟨?_,?_,rfl⟩
 ·cases lo with
  | none=>simp[sliceBounds,HT.sIx]
  | some i =>
   simp only[sliceBounds,HT.sIx,Option.getD_none,show(1:Int) > 0 by decide,if_true]
   by_cases h:i<0
   ·simp only[h,if_true]<;>omega
   ·simp only[h,if_false]<;>omega
 ·cases hi with
  | none=>simp[sliceBounds,HT.sIx]
  | some i =>
   simp only[sliceBounds,HT.sIx,Option.getD_none,show(1:Int) > 0 by decide,if_true]
   by_cases h:i<0
   ·simp only[h,if_true]<;>omega
   ·simp only[h,if_false]<;>omega
theorem j5(its:List Value)(lo hi:Option Int):slicePick its.toArray lo hi none=((its.drop (HT.sIx its.length 0 lo)).take (HT.sIx its.length its.length hi - HT.sIx its.length 0 lo)).toArray:=by
 obtain⟨h1,h2,h3⟩:=j4 lo hi its.toArray.size
 unfold slicePick
 rw[h1,h2,h3]
 simp only[sliceRange_one,pick_run,List.size_toArray]<;>rfl
def WB(K:W.Frag):V->Option Int->Option Int->Hp->VK->Prop:=λx lo hi H Q=>∃ a xs,x=.ref a/\SqL K H a xs/\∀ p,H p=none->Q (.ref p) (upd H p (.lst (GX xs lo hi)))
theorem j6:SlR X (WB X.K):=by
 intro pins s σ H x v vl vu lo hi sl Q I rx hs pl pu h
 obtain⟨a,xs,rfl,hx,q⟩:=h
 cases rx
 obtain⟨its,r,ht,hz⟩:=I.list hx
 have hlen:=r.length
 refine⟨"list",_,slot_list_getitem.lookup,ht.isList.typeIs,?_⟩
 refine wpAny_getItem_list_slice ht.isList hs pl pu .none (by simp) ?_ (by rw[List.size_toArray]<;>omega)
 rw[j5,<-hlen]
 refine⟨.ref s.heap.objs.size,_,I.laid (t':=s.toks) (o:=.lst (GX xs lo hi)) (λb ob q=>Heap.get?_push_of_some _ q) (Nat.le_refl _) ?_,rfl,q _ (I.hok.fresh (Nat.le_refl _))⟩
 exact⟨Nat.le_trans (V1 xs lo hi) hz,_,0,(r.drop (HT.sIx xs.length 0 lo)).take (HT.sIx xs.length xs.length hi - HT.sIx xs.length 0 lo),Heap.get?_push_size _ rfl⟩
theorem j7:DJ X (.type "list") (λxs H Q=>∃ p ys,xs=[.ref p]/\(SqL X.K H p ys\/SqT X.K H p ys)/\∀ l,H l=none->Q (.ref l) (upd H l (.lst ys))):=by
 intro pins s σ H xs us Q I r h
 obtain⟨p,ys,rfl,hq,q⟩:=h
 obtain⟨u,rfl,rx⟩:=FA r
 cases rx
 have fin:∀ (its:List Value),Vals ys its->ys.length<=sizeLine->∀ (h':Heap) (c':Nat),(∀ b o',s.heap.get? b=some o'->h'.get? b=some o') →
   h'.get? s.heap.objs.size=some { cls:=.type "list",dict:=none,data:=.seq its.toArray c',slots:= #[] }->EP X pins σ Q (.ref s.heap.objs.size) { s with heap:=h' }:=λits r' hz h' c' kp e =>
  ⟨.ref s.heap.objs.size,_,I.laid (t':=s.toks) kp (Nat.le_refl _) (show ObjOk X.prog X.w _ h' _ (.lst ys)from⟨hz,its,c',r',e⟩),rfl,q _ (I.hok.fresh (Nat.le_refl _))⟩
 rcases hq with hq | hq
 ·obtain⟨its,r',pl,hz⟩:=I.list hq
  have hlen:=r'.length
  obtain⟨o,ho,hc,n,hd⟩:=pl.isList
  exact call_list_seq p (.inl rfl) ho hc hd (λh' c' kp e=>fin its r' hz h' c' kp e) (by simp only[List.size_toArray]<;>omega)
 ·obtain⟨its,r',pl,hz⟩:=I.tuple hq
  have hlen:=r'.length
  obtain⟨o,ho,hc,n,hd⟩:=pl
  exact call_list_seq p (.inr rfl) ho hc hd (λh' c' kp e=>fin its r' hz h' c' kp e) (by simp only[List.size_toArray]<;>omega)
theorem j8:DJ X (.type "tuple") (λxs H Q=>∃ p ys,xs=[.ref p]/\((SqL X.K H p ys/\∀ l,H l=none->Q (.ref l) (upd H l (.tup ys)))\/(SqT X.K H p ys/\Q (.ref p) H))):=by
 intro pins s σ H xs us Q I r h
 obtain⟨p,ys,rfl,h⟩:=h
 obtain⟨u,rfl,rx⟩:=FA r
 cases rx
 rcases h with⟨hq,q⟩ | ⟨hq,q⟩
 ·obtain⟨its,r',pl,hz⟩:=I.list hq
  have hlen:=r'.length
  refine call_tuple_list pl.isList (λh' kp=> ?_) (by simp only[List.size_toArray]<;>omega)
  have I1:Inv X pins σ H { s with heap:=h' }:=I.kept (t':=s.toks) kp
  have I2:Inv X pins σ (upd H h'.objs.size (.tup ys)) { s with heap:=h'.push { cls:=.type "tuple",data:=.seq its.toArray } } :=
   I1.laid (t':=s.toks) (λb o e=>Heap.get?_push_of_some _ e) (Nat.le_refl _) (show ObjOk X.prog X.w _ _ _ (.tup ys)from⟨hz,its,r',IsTup.new _ _⟩)
  exact⟨.ref h'.objs.size,_,I2,rfl,q _ (I1.hok.fresh (Nat.le_refl _))⟩
 ·obtain⟨its,r',pl,hz⟩:=I.tuple hq
  exact call_tuple_same pl ⟨.ref p,H,I,rfl,q⟩
def LX(K:W.Frag)(T:String)(x:V)(H:Hp):Prop:=match x with
 | .str _=>T="str"
 | .int _=>T="int"
 | .ref p=>(T="list"/\∃ xs,SqL K H p xs)\/(T="tuple"/\∃ o,K.lookup p=some o/\o.cls=.type "tuple"/\o.dict=none) ∨
   (T="dict"/\((∃ kvs,H p=some (.dK kvs))\/∃ kvs,H p=some (.dT kvs)))\/(T="set"/\∃ S n,H p=some (.set S n))
 | _=>False
theorem WC{pins:List (Addr × Obj)}{σ:St}{H:Hp}{s:Shared}{T:String}{x:V}{v:Value}(I:Inv X pins σ H s)(r:RelV x v)(ty:LX X.K T x H) :
  s.TypeIs v T/\∀ a,v=.ref a->∃ ob,s.heap.get? a=some ob/\ob.dict=none:=by
 cases x with
 | str z =>
  obtain⟨t,rfl⟩:=r
  cases (show T="str" from ty)
  exact⟨typeIs_str s z t,λ_ e=>nomatch e⟩
 | int i =>
  obtain⟨t,rfl⟩:=r
  cases (show T="int" from ty)
  exact⟨typeIs_int s i t,λ_ e=>nomatch e⟩
 | ref p =>
  cases r
  rcases ty with⟨rfl,xs,hq⟩ | ⟨rfl,o,hk,hc,hd⟩ | ⟨rfl,hk⟩ | ⟨rfl,S,n,hk⟩
  ·obtain⟨its,_,pl,_⟩:=I.list hq
   refine⟨pl.isList.typeIs,λa e=> ?_⟩
   cases e
   obtain⟨o,n,e,c,hd,_⟩:=pl
   exact⟨o,e,hd⟩
  ·refine⟨⟨o,I.kIn p o hk,hc⟩,λa e=> ?_⟩
   cases e
   exact⟨o,I.kIn _ o hk,hd⟩
  ·have z:∃ o,s.heap.get? p=some o/\o.ExactDict:=by
    rcases hk with⟨kvs,hk⟩ | ⟨kvs,hk⟩
    ·obtain⟨_,_,_,_,o,_,_,e,ex,_⟩:=I.hok p _ hk
     exact⟨o,e,ex⟩
    ·obtain⟨_,_,_,_,o,_,_,e,ex,_⟩:=I.hok p _ hk
     exact⟨o,e,ex⟩
   obtain⟨o,e,ex⟩:=z
   refine⟨⟨o,e,ex.1⟩,λa e2=> ?_⟩
   cases e2
   exact⟨o,e,ex.2.1⟩
  ·obtain⟨o,_,_,_,e,ex,_⟩:=I.hok p _ hk
   refine⟨⟨o,e,ex.1⟩,λa e2=> ?_⟩
   cases e2
   exact⟨o,e,ex.2.1⟩
 | _=>exact False.elim ty
def NS(K:W.Frag)(T:String)(r:V->List V->Hp->VK->Prop)(to:TE):TE:=λσ H Q=>to σ H λx H1=>LX K T x H1/\r x [] H1 Q
def EE(K:W.Frag)(T:String)(r:V->List V->Hp->VK->Prop)(to:TE)(t:TA):TE:=λσ H Q=>to σ H λx H1=>LX K T x H1/\t σ H1 λxs H2=>r x xs H2 Q
variable{o e:Expr}{es:List Expr}{to:TE}{t:TA}{name:Str}{apos cpos:Pos}{T id:String}{r:V->List V->Hp->VK->Prop}
theorem WD(pa:PlainAttrs T)(slot:Slot T name id)(hty:typeOf (.builtin id)=pure (.type "method_descriptor"))(hm:V5 X id r)(ho:PE X o to)
  (hbase:attributeBase o name X.env (eval o X.env)=eval o X.env:=by rfl) (hline:(apos.endLine == cpos.line)=true:=by rfl):PE X (.Call (.Attribute o name apos) [] [] cpos) (NS X.K T r to):=by
 intro pins s σ H Q I h
 refine wpAny_Call_method0_late hbase hline (AO (ho pins s σ H _ I h) λv s1 ⟨x,H1,I1,r1,ty,q1⟩=> ?_)
 obtain⟨h1,h2⟩:=WC I1 r1 ty
 exact⟨T,id,pa,slot,hty,h1,h2,Calls.callWith_builtin rfl (PySem.evalArgs_none (hm pins s1 σ H1 x [] v [] Q I1 r1 .nil q1))⟩
theorem FD(pa:PlainAttrs T)(slot:Slot T name id)(hty:typeOf (.builtin id)=pure (.type "method_descriptor"))(hm:V5 X id r)(ho:PE X o to)(ha:PA X (e::es) t)
  (hbase:attributeBase o name X.env (eval o X.env)=eval o X.env:=by rfl)
  (hfew:((backTo cpos (starEach (e::es) X.env)).all (λx=> !x.1) && (backToKw cpos (keywordEach [] X.env)).all (λx=>x.1.isSome)
   && decide ((e::es).length+([]:List Keyword).length+(if([]:List Keyword).isEmpty then 0 else 1)<30))=true:=by rfl)
  (hline:(apos.endLine == cpos.line)=true:=by rfl) (hs:starEach (e::es) X.env=(false,eval e X.env)::starEach es X.env:=by rfl) (hplain:(backTo cpos (starEach es X.env)).any (·.1)=false:=by rfl) :
  PE X (.Call (.Attribute o name apos) (e::es) [] cpos) (EE X.K T r to t):=by
 intro pins s σ H Q I h
 refine wpAny_Call_method_late hbase hfew hline rfl (AO (ho pins s σ H _ I h) λv s1 ⟨x,H1,I1,r1,ty,q1⟩=> ?_)
 obtain⟨h1,h2⟩:=WC I1 r1 ty
 refine⟨T,id,pa,slot,hty,h1,h2,?_⟩
 have hA:=ha cpos pins s1 σ H1 _ I1 q1
 rw[hs]at hA ⊢
 refine Calls.callWith_builtin (by show(false || (backTo cpos (starEach es X.env)).any (·.1))=false;rw[hplain]<;>rfl) (Calls.evalArgs_plain ?_)
 exact AO hA λus s2 ⟨vs,H2,I2,r2,q2⟩=>hm pins s2 σ H2 x vs v us Q I2 r1 r2 q2
end
end L2
namespace L2
def WE(X:Cx)(id:String)(r:V->List V->Hp->VK->Prop):Prop :=
 ∀ (pins:List (Addr × Obj)) (s:Shared) (σ:St) (H:Hp) (x:V) (xs:List V) (v:Value) (us:List Value) (Q:VK),Inv X pins σ H s->RelV x v->Vals xs us->r x xs H Q →
  wpAny (model X.prog X.w) X.A (call (.builtin id) (v::us)) (EP X pins σ Q) X.xe s
theorem Vals.one:∀ {x:V} {us:List Value},Vals [x] us->∃ u,us=[u]/\RelV x u
 | _,_,.cons r .nil=>⟨_,rfl,r⟩
theorem Vals.two:∀ {x y:V} {us:List Value},Vals [x,y] us->∃ u v,us=[u,v]/\RelV x u/\RelV y v
 | _,_,_,.cons r (.cons q .nil)=>⟨_,_,rfl,r,q⟩
theorem Vals.zero:∀ {us:List Value},Vals [] us->us=[]
 | _,.nil=>rfl
theorem Vals.eraseIdx:∀ {xs:List V} {us:List Value} (i:Nat),Vals xs us->Vals (xs.eraseIdx i) (us.eraseIdx i)
 | _,_,_,.nil=>.nil
 | _,_,0,.cons _ t=>t
 | _,_,i+1,.cons r t=>.cons r (Vals.eraseIdx i t)
theorem Vals.rep{xs:List V}{us:List Value}(h:Vals xs us):∀ k:Nat,Vals (List.replicate k xs).flatten (List.replicate k us).flatten
 | 0=>.nil
 | k+1=>by
  rw[List.replicate_succ,List.replicate_succ,List.flatten_cons,List.flatten_cons]
  exact Vals.append h (Vals.rep h k)
theorem NT(its:List Value):∀ (k:Nat) (acc:List Value),
  List.foldl (λx1 x2=>x1++x2) acc.toArray (List.replicate k its.toArray)=(acc++(List.replicate k its).flatten).toArray
 | 0,acc=>by simp
 | k+1,acc=>by
  have e:acc.toArray++its.toArray=(acc++its).toArray:=by simp
  have e2:(acc++its)++(List.replicate k its).flatten=acc++(List.replicate (k+1) its).flatten:=by
   rw[List.replicate_succ,List.flatten_cons,List.append_assoc]
  rw[<-e2,<-NT its k (acc++its),<-e,List.replicate_succ,List.foldl_cons]
section
variable{X:Cx}{pins:List (Addr × Obj)}{σ:St}{H:Hp}{s:Shared}{l b:Addr}{xs ys zs:List V}
theorem Inv.lset{its its':List Value}{n:Nat}{f:Array Value->Array Value}{t':Nat}(I:Inv X pins σ H s)(hH:H l=some (.lst xs))
  (e:s.heap.get? l=some { cls:=.type "list",data:=.seq its.toArray n }) (hf:f its.toArray=its'.toArray) (hv:Vals ys its') (hz:ys.length<=sizeLine) :
  Inv X pins σ (upd H l (.lst ys)) { s with heap:=s.heap.update l (Obj.mapSeq f),toks:=t' }:=by
 have q:=PySem.IsL.update e f
 rw[hf]at q
 refine I.write (x:=l) (e:=l) (by rw[hH];exact trivial) (.inl rfl) (λb' u hb hu=>(Heap.get?_update_other s.heap (Obj.mapSeq f) (Ne.symm hb)).trans hu) ⟨_,q⟩ ?_
 exact⟨hz,its',_,hv,q⟩
theorem Inv.lnew{its:List Value}{t':Nat}(I:Inv X pins σ H s)(hv:Vals ys its)(hz:ys.length<=sizeLine) :
  Inv X pins σ (upd H s.heap.objs.size (.lst ys)) { s with heap:=s.heap.push { cls:=.type "list",data:=.seq its.toArray },toks:=t' } :=
 I.laid (λ_ _ q=>Heap.get?_push_of_some _ q) (Nat.le_refl _) ⟨hz,its,0,hv,Heap.get?_push_size _ rfl⟩
theorem Inv.fresh(I:Inv X pins σ H s):H s.heap.objs.size=none:=I.hok.fresh (Nat.le_refl _)
theorem Inv.lstM(I:Inv X pins σ H s)(hH:H l=some (.lst xs)):xs.length<=sizeLine/\∃ (its:List Value) (n:Nat),Vals xs its/\xs.length=its.length/\s.heap.get? l=some { cls:=.type "list",data:=.seq its.toArray n }:=by
 obtain⟨z,its,n,r,e⟩:=I.hok l _ hH
 exact⟨z,its,n,r,r.length,e⟩
theorem j9{n:Nat}(h:n<=sizeLine):Builtin.List.listTooLong n=false:=by
 unfold Builtin.List.listTooLong
 exact decide_eq_false (by omega)
end
section
variable{X:Cx}
def WF:V->List V->Hp->VK->Prop:=λx vs H Q=>∃ l xs y,x=.ref l/\vs=[y]/\H l=some (.lst xs)/\xs.length<sizeLine/\Q .non (upd H l (.lst (xs++[y])))
theorem FE:WE X "list.append" WF:=by
 intro pins s σ H x vs v us Q I rx rv h
 obtain⟨l,xs,y,rfl,rfl,hH,hz,q⟩:=h
 cases rx
 obtain⟨u,rfl,ru⟩:=rv.one
 obtain⟨z,its,n,r,hl,e⟩:=I.lstM hH
 refine call_meets F.slot_list_append ⟨_,e,rfl⟩ F.entry_list_append (F.args_list_append_2 _ _) (PySem.list_append l its.toArray n u (by rw[List.size_toArray];omega)) ⟨e,?_⟩
 refine⟨.non,_,I.lset (its':=its++[u]) hH e (by simp) (r.append (.cons ru .nil)) ?_,rfl,q⟩
 rw[List.length_append,List.length_singleton]
 omega
def WG:V->List V->Hp->VK->Prop:=λx vs H Q=>∃ l xs,x=.ref l/\vs=[]/\H l=some (.lst xs)/\Q .non (upd H l (.lst []))
theorem WH:WE X "list.clear" WG:=by
 intro pins s σ H x vs v us Q I rx rv h
 obtain⟨l,xs,rfl,rfl,hH,q⟩:=h
 cases rx
 have hus:=rv.zero
 subst hus
 obtain⟨z,its,n,r,hl,e⟩:=I.lstM hH
 refine call_meets F.slot_list_clear ⟨_,e,rfl⟩ F.entry_list_clear (F.args_list_clear_1 _) (AutoSeq1.list_clear_list_0 l its.toArray n (by rw[List.size_toArray];omega)) ⟨e,?_⟩
 exact⟨.non,_,I.lset (its':=[]) (ys:=[]) hH e rfl .nil (Nat.zero_le _),rfl,q⟩
def QH:R2:=λx y H Q=>∃ l b xs zs,x=.ref l/\y=.ref b/\H l=some (.lst xs)/\H b=some (.lst zs)/\xs.length+zs.length<=sizeLine/\∀ p,H p=none->Q (.ref p) (upd H p (.lst (xs++zs)))
theorem kA:CA X (binaryOp .Add) QH:=by
 intro pins s σ H x y v u Q I rx ry h
 obtain⟨l,b,xs,zs,rfl,rfl,hH,hB,hz,q⟩:=h
 cases rx
 cases ry
 obtain⟨z,its,n,r,hl,e⟩:=I.lstM hH
 obtain⟨z2,its2,n2,r2,hl2,e2⟩:=I.lstM hB
 refine PySem.P.add_list e e2 ?_ (by rw[List.size_toArray,List.size_toArray];omega)
 have ea:its.toArray++its2.toArray=(its++its2).toArray:=by simp
 rw[ea]
 exact⟨.ref _,_,I.lnew (t':=s.toks) (r.append r2) (by rw[List.length_append];omega),rfl,q _ I.fresh⟩
def QI:R2:=λx y H Q=>∃ l k xs,x=.ref l/\y=.int k/\H l=some (.lst xs)/\ -(2 ^ 63)<=k/\k<2 ^ 63/\xs.length * k.toNat<=sizeLine ∧
 ∀ p,H p=none->Q (.ref p) (upd H p (.lst (List.replicate k.toNat xs).flatten))
theorem WI{α :Type}(xs:List α)(k:Nat):(List.replicate k xs).flatten.length=k * xs.length:=by
 induction k with
 | zero=>simp
 | succ k ih=>rw[List.replicate_succ,List.flatten_cons,List.length_append,ih,Nat.succ_mul,Nat.add_comm]
theorem kB:CA X (binaryOp .Mult) QI:=by
 intro pins s σ H x y v u Q I rx ry h
 obtain⟨l,k,xs,rfl,rfl,hH,h1,h2,hz,q⟩:=h
 cases rx
 obtain⟨t,rfl⟩:=ry
 obtain⟨z,its,n,r,hl,e⟩:=I.lstM hH
 have hlen:its.toArray.size * k.toNat<=sizeLine:=by rw[List.size_toArray,<-hl];exact hz
 have hcap:¬ its.toArray.size * k.toNat >(2 ^ 63 - 1) / 8:=by
  have:(sizeLine:Nat)<=(2 ^ 63 - 1) / 8:=by decide
  omega
 have hfit:¬ (!Builtin.List.listFitsIndex k)=true:=by
  rw[fitsIndex_both h1 h2]
  exact Bool.false_ne_true
 have hlong:¬ Builtin.List.listTooLong (its.toArray.size * k.toNat)=true:=by
  rw[j9 hlen]
  exact Bool.false_ne_true
 have hnew:List.foldl (λx1 x2=>x1++x2) #[] (List.replicate (if its.toArray.isEmpty=true then 0 else k.toNat) its.toArray)=(List.replicate k.toNat its).flatten.toArray:=by
  have f0:∀ m:Nat,List.foldl (λx1 x2=>x1++x2) #[] (List.replicate m its.toArray)=(List.replicate m its).flatten.toArray:=λm=>by
   have:=NT its m []
   rw[List.nil_append]at this
   exact this
  rw[f0]
  cases its with
  | nil=>simp
  | cons a r'=>rw[if_neg (by simp)]
 refine wpAny_binaryOp_repeat_ref (T:="list") (U:="int") (by decide) ⟨_,e,rfl⟩ (λs'=>typeIs_int s' k t) noFill_list_mul F.fills_int_mul F.slot_int_rmul repeat_list F.slot_int_index.lookup
  (call_meets F.slot_int_rmul (typeIs_int s k t) F.entry_int_rmul (F.args_int_rmul_2 _ _) (int___rmul___int_list k t l its.toArray n)
   ⟨e,rfl,⟨_,e,rfl⟩,call_meets F.slot_list_mul ⟨_,e,rfl⟩ F.entry_list_mul (F.args_list_mul_2 _ _) (AutoListH.list___mul___list_int_3 l its.toArray n k t hfit hcap hlong) ⟨e,?_⟩⟩)
 rw[hnew]
 exact⟨.ref _,_,I.lnew (t':=s.toks) (r.rep k.toNat) (by rw[WI,Nat.mul_comm];exact hz),rfl,q _ I.fresh⟩
end
section
variable{prog:Program}{w:World}{A:Around}{E:Value->Shared->Prop}{s:Shared}
set_option maxRecDepth 100000 in
end
section
variable{X:Cx}
end
end L2
namespace L2
section
variable{κ :Type}[DecidableEq κ]
def AW(kvs:List (κ × V))(k: κ):Option V:=(kvs.find? λkv=>decide (kv.1=k)).map (·.2)
def A5(kvs:List (κ × V))(k: κ)(v:V):List (κ × V) :=
 if(kvs.any λkv=>decide (kv.1=k))=true then kvs.map (λkv=>if kv.1=k then(kv.1,v)else kv)else kvs++[(k,v)]
theorem kC{k: κ}:AW ([]:List (κ × V)) k=none:=rfl
theorem FT{p: κ × V}{r:List (κ × V)}{k: κ}(e:p.1=k):AW (p::r) k=some p.2:=by simp[AW,List.find?_cons,e]
theorem FU{p: κ × V}{r:List (κ × V)}{k: κ}(e:¬ p.1=k):AW (p::r) k=AW r k:=by simp[AW,List.find?_cons,e]
theorem HE(k: κ):∀ kvs:List (κ × V),(kvs.any λkv=>decide (kv.1=k))=(AW kvs k).isSome
 | []=>rfl
 | p::r=>by
  rw[List.any_cons]
  by_cases e:p.1=k
  ·simp only[FT e,decide_eq_true e,Bool.true_or,Option.isSome_some]
  ·rw[FU e,decide_eq_false e,Bool.false_or];exact HE k r
theorem WJ(k j: κ)(y:V):∀ kvs:List (κ × V),AW (kvs.map λkv=>if kv.1=k then(kv.1,y)else kv) j=(AW kvs j).map λx=>if j=k then y else x
 | []=>rfl
 | p::r=>by
  have ih:=WJ k j y r
  rw[List.map_cons]
  by_cases h:p.1=k
  ·rw[if_pos h]
   by_cases e:p.1=j
   ·rw[FT (p:=(p.1,y)) e,FT e,Option.map_some,if_pos (e.symm.trans h)]
   ·rw[FU (p:=(p.1,y)) e,FU e,ih]
  ·rw[if_neg h]
   by_cases e:p.1=j
   ·rw[FT (p:=p) e,FT e,Option.map_some,if_neg (λz=>h (e.trans z))]
   ·rw[FU (p:=p) e,FU e,ih]
theorem WK(k j: κ)(y:V):∀ kvs:List (κ × V),AW kvs k=none->AW (kvs++[(k,y)]) j=if j=k then some y else AW kvs j
 | [],_=>by
  by_cases e:k=j
  ·rw[if_pos e.symm];exact FT (p:=(k,y)) e
  ·rw[if_neg (λz=>e z.symm)];exact FU (p:=(k,y)) e
 | p::r,hn=>by
  rw[List.cons_append]
  have hk:¬ p.1=k:=λz=>by rw[FT z]at hn;cases hn
  rw[FU hk]at hn
  have ih:=WK k j y r hn
  by_cases e:p.1=j
  ·rw[FT e,FT e,if_neg (λz=>hk (e.trans z))]
  ·rw[FU e,FU e,ih]
theorem EF(kvs:List (κ × V))(k j: κ)(y:V):AW (A5 kvs k y) j=if j=k then some y else AW kvs j:=by
 unfold A5
 by_cases a:(kvs.any λkv=>decide (kv.1=k))=true
 ·rw[if_pos a,WJ]
  rw[HE]at a
  by_cases e:j=k
  ·obtain⟨x,hx⟩:=Option.isSome_iff_exists.mp a
   rw[if_pos e,e,hx,Option.map_some,if_pos rfl]
  ·rw[if_neg e]
   cases AW kvs j with
   | none=>rfl
   | some x=>rw[Option.map_some,if_neg e]
 ·rw[if_neg a]
  refine WK k j y kvs ?_
  rw[HE]at a
  cases q:AW kvs k with
  | none=>rfl
  | some x=>rw[q]at a;exact(a rfl).elim
theorem FV(kvs:List (κ × V))(k: κ)(v:V):(A5 kvs k v).length<=kvs.length+1:=by
 unfold A5
 split
 ·rw[List.length_map];omega
 ·rw[List.length_append,List.length_cons,List.length_nil];omega
theorem WL{kvs:List (κ × V)}{k: κ}(v:V)(h:AW kvs k=none):A5 kvs k v=kvs++[(k,v)]:=by
 unfold A5
 rw[HE,h]
 exact if_neg (by decide)
theorem RelO.isSome_eq{o:Option V}{u:Option Value}(r:RelO o u):o.isSome=u.isSome:=by
 cases o with
 | none=>cases u with
  | none=>rfl
  | some _=>exact(show False from r).elim
 | some _=>cases u with
  | none=>exact(show False from r).elim
  | some _=>rfl
theorem RelO.getD{o:Option V}{u:Option Value}{d:V}{d':Value}(r:RelO o u)(rd:RelV d d'):RelV (o.getD d) (u.getD d'):=by
 cases o with
 | none=>cases u with
  | none=>exact rd
  | some _=>exact(show False from r).elim
 | some _=>cases u with
  | none=>exact(show False from r).elim
  | some _=>exact r
theorem KV.val{kvs:List (κ × V)}{vs:List (κ × Value)}(r:KV kvs vs)(k: κ):RelO (AW kvs k) (valueAt vs k):=by
 unfold KV at r
 induction r with
 | nil=>exact True.intro
 | @cons p q ps qs h t ih =>
  obtain⟨h1,h2⟩:=h
  by_cases e:p.1=k
  ·have e':q.1=k:=h1.symm.trans e
   have b:valueAt (q::qs) k=some q.2:=by simp[valueAt,List.find?_cons,e']
   rw[FT e,b];exact h2
  ·have e':¬ q.1=k:=λz=>e (h1.trans z)
   have b:valueAt (q::qs) k=valueAt qs k:=by simp[valueAt,List.find?_cons,e']
   rw[FU e,b];exact ih
theorem KV.any{kvs:List (κ × V)}{vs:List (κ × Value)}(r:KV kvs vs)(k: κ):(kvs.any λkv=>decide (kv.1=k))=vs.any λkv=>decide (kv.1=k):=by
 unfold KV at r
 induction r with
 | nil=>rfl
 | cons h t ih=>rw[List.any_cons,List.any_cons,ih,h.1]
theorem KV.repl{kvs:List (κ × V)}{vs:List (κ × Value)}(r:KV kvs vs)(k: κ){y:V}{u:Value}(ry:RelV y u) :
  KV (kvs.map λkv=>if kv.1=k then(kv.1,y)else kv) (vs.map λkv=>if kv.1=k then(kv.1,u)else kv):=by
 unfold KV at r ⊢
 induction r with
 | nil=>exact .nil
 | @cons p q ps qs h t ih =>
  rw[List.map_cons,List.map_cons]
  refine .cons ?_ ih
  obtain⟨h1,h2⟩:=h
  by_cases e:p.1=k
  ·rw[if_pos e,if_pos (h1.symm.trans e)];exact⟨h1,ry⟩
  ·rw[if_neg e,if_neg (λz=>e (h1.trans z))];exact⟨h1,h2⟩
theorem KV.put{kvs:List (κ × V)}{vs:List (κ × Value)}(r:KV kvs vs)(k: κ){y:V}{u:Value}(ry:RelV y u):KV (A5 kvs k y) (stored vs k u):=by
 unfold A5 stored
 rw[r.any k]
 by_cases e:(vs.any λkv=>decide (kv.1=k))=true
 ·rw[if_pos e,if_pos e];exact r.repl k ry
 ·rw[if_neg e,if_neg e];exact Paired.snoc r ⟨rfl,ry⟩
theorem KV.length{kvs:List (κ × V)}{vs:List (κ × Value)}(r:KV kvs vs):kvs.length=vs.length:=Paired.length r
end
theorem HW{P:Program}{w:World}{k:AR}{u:Value}(r:RelV (kV k) u):(DE P w).is k u=true:=by
 cases k with
 | inl i=>obtain⟨t,e⟩:=(show ∃ t,u=Value.int i t from r);subst e;exact gU P w i t
 | inr x=>obtain⟨t,e⟩:=(show ∃ t,u=Value.str x t from r);subst e;exact gW P w x t
theorem WM{P:Program}{w:World}:∀ {ks:List AR} {us:List Value},Vals (ks.map kV) us->ItemsAre (DE P w) ks us
 | [],_,r=>by rw[List.map_nil]at r;cases r;exact .nil
 | k::ks,_,r=>by
  rw[List.map_cons]at r
  cases r with
  | cons h t=>exact .cons (HW h) (WM t)
abbrev KT(H:Hp):List (List AR × V)->List (List AR × Addr × Value)->Prop:=Paired λp q=>p.1=q.1/\H q.2.1=some (.tup (p.1.map kV))/\RelV p.2 q.2.2
theorem KT.val{H:Hp}{kvs:List (List AR × V)}{xs:List (List AR × Addr × Value)}(r:KT H kvs xs)(k:List AR):RelO (AW kvs k) ((atKey xs k).map (·.2)):=by
 induction r with
 | nil=>exact True.intro
 | @cons p q ps qs h t ih =>
  obtain⟨h1,_,h2⟩:=h
  by_cases e:p.1=k
  ·have e':q.1=k:=h1.symm.trans e
   have b:atKey (q::qs) k=some q.2:=by simp[atKey,List.find?_cons,e']
   rw[FT e,b];exact h2
  ·have e':¬ q.1=k:=λz=>e (h1.trans z)
   have b:atKey (q::qs) k=atKey qs k:=by simp[atKey,List.find?_cons,e']
   rw[FU e,b];exact ih
theorem KT.repl{H:Hp}{kvs:List (List AR × V)}{xs:List (List AR × Addr × Value)}(r:KT H kvs xs)(k:List AR){y:V}{u:Value}(ry:RelV y u) :
  KT H (kvs.map λkv=>if kv.1=k then(kv.1,y)else kv) (xs.map (putAt k u)):=by
 induction r with
 | nil=>exact .nil
 | @cons p q ps qs h t ih =>
  rw[List.map_cons,List.map_cons]
  refine .cons ?_ ih
  obtain⟨h1,h2,h3⟩:=h
  unfold putAt
  by_cases e:p.1=k
  ·rw[if_pos e,if_pos (h1.symm.trans e)];exact⟨h1,h2,ry⟩
  ·rw[if_neg e,if_neg (λz=>e (h1.trans z))];exact⟨h1,h2,h3⟩
theorem KT.put{H:Hp}{kvs:List (List AR × V)}{xs:List (List AR × Addr × Value)}(r:KT H kvs xs)(k:List AR){b:Addr}{y:V}{u:Value}(hb:H b=some (.tup (k.map kV)))(ry:RelV y u) :
  KT H (A5 kvs k y) (storedH xs k b u):=by
 have e:(kvs.any λkv=>decide (kv.1=k))=(atKey xs k).isSome:=by
  rw[HE,(r.val k).isSome_eq,Option.isSome_map]
 unfold A5 storedH
 rw[e]
 by_cases q:(atKey xs k).isSome=true
 ·rw[if_pos q,if_pos q];exact r.repl k ry
 ·rw[if_neg q,if_neg q];exact Paired.snoc r ⟨rfl,hb,ry⟩
theorem KT.keeps{H H':Hp}{kvs:List (List AR × V)}{xs:List (List AR × Addr × Value)}(r:KT H kvs xs)(ht:∀ b ys,H b=some (.tup ys)->H' b=some (.tup ys)):KT H' kvs xs :=
 Paired.mapP r λ_ _ z=>⟨z.1,ht _ _ z.2.1,z.2.2⟩
section
variable{P:Program}{w:World}{H:Hp}{h:Heap}{a:Addr}
theorem WN{u:HO}(ok:HOk P w H h)(e:Rd H a u):ObjOk P w H h a u:=e.ok ok
theorem HF{kvs:List (AR × V)}(ok:HOk P w H h)(e:Rd H a (.dK kvs)):kvs.length<=sizeLine/\(a == sysModules)=false/\∃ vs,KV kvs vs/\h.DictOf (DE P w) a vs :=
 show ObjOk P w H h a (.dK kvs)from WN ok e
theorem WO{kvs:List (AR × V)}(ok:HOk P w H h)(e:H a=some (.dK kvs)):kvs.length<=sizeLine/\(a == sysModules)=false/\∃ vs,KV kvs vs/\h.DictOf (DE P w) a vs:=HF ok (.inl e)
theorem JM{ks:List AR}(ok:HOk P w H h)(e:H a=some (.tup (ks.map kV))):(tupleKind (DE P w)).is h ks a:=by
 obtain⟨_,its,r,o,h1,h2,n,h3⟩:=(show ObjOk P w H h a (.tup (ks.map kV))from ok a _ e)
 exact⟨o,its.toArray,n,h1,h2,h3,by simpa using WM r⟩
theorem HX{kvs:List (List AR × V)}(ok:HOk P w H h)(e:Rd H a (.dT kvs)):kvs.length<=sizeLine/\(a == sysModules)=false ∧
  ∃ xs,KT H kvs xs/\h.DictOfH (tupleKind (DE P w)) a xs:=by
 obtain⟨z,y,xs,r,o,es,ep,h1,h2,h3,h4,h5⟩:=(show ObjOk P w H h a (.dT kvs)from WN ok e)
 refine⟨z,y,xs,r,o,es,ep,h1,h2,h3,h4,λx hx=> ?_,h5⟩
 have all:∀ {l:List (List AR × V)} {m:List (List AR × Addr × Value)},KT H l m->∀ x∈m,(tupleKind (DE P w)).is h x.1 x.2.1:=by
  intro l m q
  induction q with
  | nil=>intro x hx;exact nomatch hx
  | @cons p q ps qs hq t ih =>
   intro x hx
   rcases List.mem_cons.mp hx with e | hx
   ·subst e
    exact JM ok (by rw[<-hq.1];exact hq.2.1)
   ·exact ih x hx
 exact all r x hx
theorem kD{kvs:List (List AR × V)}(ok:HOk P w H h)(e:H a=some (.dT kvs)):kvs.length<=sizeLine/\(a == sysModules)=false ∧
  ∃ xs,KT H kvs xs/\h.DictOfH (tupleKind (DE P w)) a xs:=HX ok (.inl e)
end
def DGet(H:Hp)(a:Addr)(y:V)(r:Option V):Prop :=
 (∃ kvs k,Rd H a (.dK kvs)/\y=kV k/\r=AW kvs k)\/∃ kvs k b,Rd H a (.dT kvs)/\y=.ref b/\H b=some (.tup (k.map kV))/\r=AW kvs k
def DPut(H:Hp)(a:Addr)(y v:V)(H':Hp):Prop :=
 (∃ kvs k,H a=some (.dK kvs)/\y=kV k/\kvs.length<sizeLine/\H'=upd H a (.dK (A5 kvs k v))) ∨
 ∃ kvs k b,H a=some (.dT kvs)/\y=.ref b/\H b=some (.tup (k.map kV))/\kvs.length<sizeLine/\H'=upd H a (.dT (A5 kvs k v))
theorem DGet.k{H:Hp}{a:Addr}{kvs:List (AR × V)}{k:AR}(e:H a=some (.dK kvs)):DGet H a (kV k) (AW kvs k):=.inl ⟨kvs,k,.inl e,rfl,rfl⟩
theorem DGet.t{H:Hp}{a b:Addr}{kvs:List (List AR × V)}{k:List AR}(e:H a=some (.dT kvs))(eb:H b=some (.tup (k.map kV))):DGet H a (.ref b) (AW kvs k):=.inr ⟨kvs,k,b,.inl e,rfl,eb,rfl⟩
theorem DPut.k{H:Hp}{a:Addr}{kvs:List (AR × V)}{k:AR}{v:V}(e:H a=some (.dK kvs))(hl:kvs.length<sizeLine):DPut H a (kV k) v (upd H a (.dK (A5 kvs k v))):=.inl ⟨kvs,k,e,rfl,hl,rfl⟩
theorem DPut.t{H:Hp}{a b:Addr}{kvs:List (List AR × V)}{k:List AR}{v:V}(e:H a=some (.dT kvs))(eb:H b=some (.tup (k.map kV)))(hl:kvs.length<sizeLine) :
  DPut H a (.ref b) v (upd H a (.dT (A5 kvs k v))):=.inr ⟨kvs,k,b,e,rfl,eb,hl,rfl⟩
section
variable{X:Cx}{pins:List (Addr × Obj)}{σ:St}{H:Hp}{s:Shared}{a:Addr}{y v:V}{u r:Value}{o:Option V}{A:Around}{E:Value->Shared->Prop}
theorem Inv.big(I:Inv X pins σ H s):sysModules<s.heap.objs.size:=by
 have h:mainGlobals<s.heap.objs.size:=(I.mod.glob.keeps I.bk).lt
 exact Nat.lt_trans (by decide) h
theorem kE{Q:Value->Shared->Prop}(hu:A.units+1<cLine)(I:Inv X pins σ H s)(g:DGet H a y (some v))(ry:RelV y u)(h:∀ w' s',Inv X pins σ H s'->RelV v w'->Q w' s') :
  wpAny (model X.prog X.w) A (getItem (.ref a) u) Q E s:=by
 rcases g with⟨kvs,k,e,ey,l⟩ | ⟨kvs,k,b,e,ey,eb,l⟩
 ·subst ey
  obtain⟨z,hd,vs,rel,dd⟩:=HF I.hok e
  obtain⟨w',hw,rw'⟩:=RelO.some_of (v:=v) (o:=valueAt vs k) (by rw[l];exact rel.val k)
  exact wpAny_getItem_of (HW ry) dd.mapOf hw (h w' _ (I.tok _) rw')
 ·subst ey
  cases (show u=Value.ref b from ry)
  obtain⟨z,hd,xs,rel,dd⟩:=HX I.hok e
  obtain⟨w',hw,rw'⟩:=RelO.some_of (v:=v) (o:=(atKey xs k).map (·.2)) (by rw[l];exact rel.val k)
  obtain⟨p,hp,hp2⟩:=Option.map_eq_some_iff.mp hw
  refine wpAny_getItem_heap (tupleKind_room_in1 hu) (JM I.hok eb) dd hp ?_
  rw[hp2]
  exact h w' _ (I.tok _) rw'
theorem kF{Q:Value->Shared->Prop}(hu:A.units+1<cLine)(I:Inv X pins σ H s)(g:DGet H a y o)(ry:RelV y u)(h:∀ s',Inv X pins σ H s'->Q (.bool o.isSome) s') :
  wpAny (model X.prog X.w) A (compareOp .In u (.ref a)) Q E s:=by
 rcases g with⟨kvs,k,e,ey,l⟩ | ⟨kvs,k,b,e,ey,eb,l⟩
 ·subst ey
  obtain⟨z,hd,vs,rel,dd⟩:=HF I.hok e
  refine wpAny_in_of (HW ry) hd dd.mapOf ?_
  rw[<-(rel.val k).isSome_eq,<-l]
  exact h _ (I.tok _)
 ·subst ey
  cases (show u=Value.ref b from ry)
  obtain⟨z,hd,xs,rel,dd⟩:=HX I.hok e
  refine wpAny_in_heap (tupleKind_room_in1 hu) (JM I.hok eb) hd dd ?_
  have q:=(rel.val k).isSome_eq
  rw[Option.isSome_map]at q
  rw[<-q,<-l]
  exact h _ (I.tok _)
theorem kG{Q:Value->Shared->Prop}(hu:A.units+1<cLine)(I:Inv X pins σ H s)(g:DGet H a y o)(ry:RelV y u)(h:∀ s',Inv X pins σ H s'->Q (.bool (!o.isSome)) s') :
  wpAny (model X.prog X.w) A (compareOp .NotIn u (.ref a)) Q E s:=by
 rcases g with⟨kvs,k,e,ey,l⟩ | ⟨kvs,k,b,e,ey,eb,l⟩
 ·subst ey
  obtain⟨z,hd,vs,rel,dd⟩:=HF I.hok e
  refine wpAny_notIn_of (HW ry) hd dd.mapOf ?_
  rw[<-(rel.val k).isSome_eq,<-l]
  exact h _ (I.tok _)
 ·subst ey
  cases (show u=Value.ref b from ry)
  obtain⟨z,hd,xs,rel,dd⟩:=HX I.hok e
  refine wpAny_notIn_heap (tupleKind_room_in1 hu) (JM I.hok eb) hd dd ?_
  have q:=(rel.val k).isSome_eq
  rw[Option.isSome_map]at q
  rw[<-q,<-l]
  exact h _ (I.tok _)
theorem QJ{h':Heap}{t':Nat}{ob:HO}(I:Inv X pins σ H s)(mu:LO (H a))(hs:Heap.SameBut a s.heap h')(he:∃ q,h'.get? a=some q)(new:ObjOk X.prog X.w (upd H a ob) h' a ob) :
  Inv X pins σ (upd H a ob) { s with heap:=h',toks:=t' } :=
 I.write (x:=a) (e:=a) mu (.inl rfl) (λb q hb z=>(hs.2 b hb).trans z) he new
theorem QK{P:Program}{w:World}{H':Hp}{h':Heap}{kvs:List (AR × V)}{vs:List (AR × Value)}(z:kvs.length<=sizeLine)(hd:(a == sysModules)=false)(rel:KV kvs vs)(dd:h'.DictOf (DE P w) a vs) :
  ObjOk P w H' h' a (.dK kvs):=⟨z,hd,vs,rel,dd⟩
theorem kH{H':Hp}{Q:Unit->Shared->Prop}(hu:A.units+1<cLine)(I:Inv X pins σ H s)(g:DPut H a y v H')(ry:RelV y u)(rv:RelV v r)(h:∀ s',Inv X pins σ H' s'->Q () s') :
  wpAny (model X.prog X.w) A (setItem (.ref a) u r) Q E s:=by
 rcases g with⟨kvs,k,e,ey,l,eH⟩ | ⟨kvs,k,b,e,ey,eb,l,eH⟩
 ·subst ey eH
  obtain⟨z,hd,vs,rel,dd⟩:=WO I.hok e
  have hz:vs.length<=sizeLine:=by rw[<-rel.length];exact z
  have hl:(A5 kvs k v).length<=sizeLine:=by have:=FV kvs k v;omega
  refine wpAny_setItem_pairs (hsz:=hz) (HW ry) dd λh' dd' hs=>h _ ?_
  have he:∃ q,h'.get? a=some q:=let ⟨q,_,_,hq,_⟩:=dd';⟨q,hq⟩
  exact QJ I (by rw[e];exact True.intro) hs he (QK hl hd (rel.put k rv) dd')
 ·subst ey eH
  cases (show u=Value.ref b from ry)
  obtain⟨z,hd,xs,rel,dd⟩:=kD I.hok e
  have hz:xs.length<=sizeLine:=by rw[<-Paired.length rel];exact z
  have hl:(A5 kvs k v).length<=sizeLine:=by have:=FV kvs k v;omega
  refine wpAny_setItem_heap (hsz:=hz) (tupleKind_room_in1 hu) (JM I.hok eb) dd λh' dd' hs=>h _ ?_
  obtain⟨q,es,ep,hq,h2,h3,h4,_,h5⟩:=dd'
  refine QJ I (by rw[e];exact True.intro) hs ⟨q,hq⟩ ⟨hl,hd,_,(rel.put k eb rv).keeps λc ys ec=> ?_,q,es,ep,hq,h2,h3,h4,h5⟩
  rw[AH (AQ ec e (λz=>nomatch z))]
  exact ec
end
section
variable{X:Cx}{pins:List (Addr × Obj)}{σ:St}{H:Hp}{s:Shared}{a:Addr}{kvs:List (AR × V)}{k:AR}{u:Value}{A:Around}{E:Value->Shared->Prop}
end
def WP(i:Expr):Prop:=∀ ov iv,subscripted i false ov iv=operate [ov,iv] (getItem ov iv)
theorem kI{prog:Program}{w:World}{A:Around}{E:Value->Shared->Prop}{s:Shared}{env:Env}{value slice:Expr}{pos:Pos}{T id:String}{Q:Value->Shared->Prop}
  (hl:typeLookup (.type T) "__getitem__"=pure (some (.builtin id))) (hs:WP slice)
  (h:wpAny (model prog w) A (eval value env) (λo s₁=>wpAny (model prog w) A (eval slice env) (λi s₂=>s₂.TypeIs o T/\wpAny (model prog w) A (getItem o i) Q E s₂) E s₁) E s) :
  wpAny (model prog w) A (eval (.Subscript value slice pos) env) Q E s:=by
 refine Subscript_ (wpAny_mono h (λo s₁ h₁=>wpAny_mono h₁ (λi s₂ h₂=> ?_) λ_ _ x=>x) λ_ _ x=>x)
 obtain⟨hT,h₂⟩:=h₂
 unfold subscriptTail
 refine wpAny_bind ?_
 rw[getitemInPython_of_ne hT.not_modules]
 refine wpAny_bind (wpAny_specialOf hT hl ?_)
 have fin:wpAny (model prog w) A (subscripted slice false o i) (λr s₃=>wpAny (model prog w) A (letTemporaryGo value o r >>= λ_=>pure r) Q E s₃) E s₂:=by
  rw[hs o i]
  exact wpAny_operating (wpAny_mono h₂ (λr s₃ h₃=>wpAny_bind (wpAny_letTemporaryGo (wpAny_pure h₃))) λ_ _ x=>x)
 first
  | exact wpAny_pure (wpAny_bind fin)
  | exact wpAny_bind (wpAny_pure (wpAny_bind fin))
  | exact wpAny_bind fin
theorem kJ{X:Cx}{pins:List (Addr × Obj)}{σ:St}{H:Hp}{s:Shared}{a:Addr}{y:V}{o:Option V}(I:Inv X pins σ H s)(g:DGet H a y o):s.TypeIs (.ref a) "dict":=by
 rcases g with⟨kvs,k,e,_,_⟩ | ⟨kvs,k,b,e,_,_,_⟩
 ·obtain⟨_,_,vs,_,dd⟩:=HF I.hok e
  exact dd.typeIs
 ·obtain⟨_,_,xs,_,dd⟩:=HX I.hok e
  exact dd.typeIs
def BS(td ty:TE):TE:=λσ H Q=>td σ H λx H1=>ty σ H1 λy H2=>∃ a v,x=.ref a/\DGet H2 a y (some v)/\Q v H2
def HY(ty td:TE):TE:=λσ H Q=>ty σ H λy H1=>td σ H1 λx H2=>∃ a o,x=.ref a/\DGet H2 a y o/\Q (.bl o.isSome) H2
def EG(ty td:TE):TE:=λσ H Q=>ty σ H λy H1=>td σ H1 λx H2=>∃ a o,x=.ref a/\DGet H2 a y o/\Q (.bl (!o.isSome)) H2
def FW(td ty tv:TE):TS:=λD σ H=>tv σ H λv H1=>td σ H1 λx H2=>ty σ H2 λy H3=>∃ a H4,x=.ref a/\DPut H3 a y v H4/\D.nx σ H4
section
variable{X:Cx}{o i e value:Expr}{pos pos' tpos:Pos}{td ty tv:TE}
theorem BX(hu:X.A.units+1<cLine)(ho:PE X o td)(hi:PE X i ty)(hs:WP i):PE X (.Subscript o i pos) (BS td ty):=by
 intro pins s σ H Q I h
 refine kI PySem.F.slot_dict_getitem.lookup hs (AO (ho pins s σ H _ I h) λu s1 ⟨x,H1,I1,rx,q1⟩=>AO (hi pins s1 σ H1 _ I1 q1) λiv s2 ⟨y,H2,I2,ry,a,v,ex,g,q2⟩=> ?_)
 subst ex
 obtain rfl:u=Value.ref a:=rx
 exact⟨kJ I2 g,kE hu I2 g ry λw' s3 I3 rw'=>⟨v,H2,I3,rw',q2⟩⟩
theorem LY(hu:X.A.units+1<cLine)(hi:PE X i ty)(ho:PE X o td):PC X .In i o (HY ty td):=by
 intro pins s σ H Q I h
 refine AO (hi pins s σ H _ I h) λiv s1 ⟨y,H1,I1,ry,q1⟩=>AO (ho pins s1 σ H1 _ I1 q1) λu s2 ⟨x,H2,I2,rx,a,ov,ex,g,q2⟩=> ?_
 subst ex
 obtain rfl:u=Value.ref a:=rx
 exact kF hu I2 g ry λs3 I3=>⟨.bl ov.isSome,H2,I3,rfl,q2⟩
theorem GC(hu:X.A.units+1<cLine)(hi:PE X i ty)(ho:PE X o td):PC X .NotIn i o (EG ty td):=by
 intro pins s σ H Q I h
 refine AO (hi pins s σ H _ I h) λiv s1 ⟨y,H1,I1,ry,q1⟩=>AO (ho pins s1 σ H1 _ I1 q1) λu s2 ⟨x,H2,I2,rx,a,ov,ex,g,q2⟩=> ?_
 subst ex
 obtain rfl:u=Value.ref a:=rx
 exact kG hu I2 g ry λs3 I3=>⟨.bl (!ov.isSome),H2,I3,rfl,q2⟩
theorem GY(hu:X.A.units+1<cLine)(ho:PE X o td)(hi:PE X i ty)(hv:PE X value tv)(hs:swapsWith value (some (.Subscript o i pos')) pos.line X.env=pure false) :
  PS X (.Assign [.Subscript o i pos'] value pos) (FW td ty tv):=by
 intro pins s σ H D I h
 refine wpAny_Assign_Subscript (AO (hv pins s σ H _ I h) λr s1 ⟨v,H1,I1,rv,q1⟩=>AO (ho pins s1 σ H1 _ I1 q1) λu s2 ⟨x,H2,I2,rx,q2⟩=>AO (hi pins s2 σ H2 _ I2 q2) λiv s3 ⟨y,H3,I3,ry,a,H4,ex,g,q3⟩=> ?_) hs
 subst ex
 obtain rfl:u=Value.ref a:=rx
 exact kH hu I3 g ry rv λs4 I4=>⟨σ,H4,I4,q3⟩
end
theorem WQ{P:Program}{w:World}{H:Hp}(h:Heap)(hb:sysModules<h.objs.size):ObjOk P w H (h.push { cls:=.type "dict",data:=.dict #[] }) h.objs.size (.dK []) :=
 ⟨Nat.zero_le _,beq_eq_false_iff_ne.mpr (Ne.symm (Nat.ne_of_lt hb)),[],.nil,Heap.DictOf.new h⟩
theorem kK{P:Program}{w:World}{H:Hp}(h:Heap)(hb:sysModules<h.objs.size):ObjOk P w H (h.push { cls:=.type "dict",data:=.dict #[] }) h.objs.size (.dT []) :=
 ⟨Nat.zero_le _,beq_eq_false_iff_ne.mpr (Ne.symm (Nat.ne_of_lt hb)),[],.nil,_,#[],0,Heap.get?_push_size _ rfl,⟨rfl,rfl,rfl⟩,rfl,rfl,List.nodup_nil⟩
def JN:TE:=λ_ H Q=>∀ p,H p=none->Q (.ref p) (upd H p (.dK []))
def NU:TE:=λ_ H Q=>∀ p,H p=none->Q (.ref p) (upd H p (.dT []))
section
variable{X:Cx}{pos:Pos}
theorem NV:PE X (.Dict [] [] pos) JN:=λpins s σ H Q I h =>
 wpAny_Dict_empty ⟨.ref s.heap.objs.size,_,I.laid (a:=s.heap.objs.size) (o:=.dK []) (t':=s.toks) (λ_ _ q=>Heap.get?_push_of_some _ q) (Nat.le_refl _) (WQ s.heap I.big),rfl,h _ (I.hok.fresh (Nat.le_refl _))⟩
theorem WR:PE X (.Dict [] [] pos) NU:=λpins s σ H Q I h =>
 wpAny_Dict_empty ⟨.ref s.heap.objs.size,_,I.laid (a:=s.heap.objs.size) (o:=.dT []) (t':=s.toks) (λ_ _ q=>Heap.get?_push_of_some _ q) (Nat.le_refl _) (kK s.heap I.big),rfl,h _ (I.hok.fresh (Nat.le_refl _))⟩
end
def HZ:List (TE × TE)->St->Hp->(List (V × V)->Hp->Prop)->Prop
 | [],_,H,Q=>Q [] H
 | (tk,tv)::r,σ,H,Q=>tk σ H λx H1=>tv σ H1 λy H2=>HZ r σ H2 λps H3=>Q ((x,y)::ps) H3
abbrev VV:List (V × V)->List (Value × Value)->Prop:=Paired λp q=>RelV p.1 q.1/\RelV p.2 q.2
def NW(X:Cx)(pos:Pos)(keys:List (Option Expr))(values:List Expr)(trs:List (TE × TE)):Prop :=
 ∀ (pins:List (Addr × Obj)) (s:Shared) (σ:St) (H:Hp) (Q:List (V × V)->Hp->Prop),Inv X pins σ H s->HZ trs σ H Q →
  wpAny (model X.prog X.w) X.A (evalPairs (pairTrees keys values X.env pos)) (λvs s'=>∃ ps H',Inv X pins σ H' s'/\VV ps vs/\Q ps H') X.xe s
theorem kL{X:Cx}{pos:Pos}:NW X pos [] [] []:=λpins s σ H Q I h=>pairTrees_nil_walk ⟨[],H,I,.nil,h⟩
theorem JO{X:Cx}{pos:Pos}{k v:Expr}{ks:List (Option Expr)}{vs:List Expr}{tk tv:TE}{trs:List (TE × TE)}(hk:PE X k tk)(hv:PE X v tv)(hr:NW X pos ks vs trs) :
  NW X pos (some k::ks) (v::vs) ((tk,tv)::trs):=λpins s σ H Q I h =>
 pairTrees_cons_walk (AO (hk pins s σ H _ I h) λu s1 ⟨x,H1,I1,rx,q1⟩=>AO (hv pins s1 σ H1 _ I1 q1) λw2 s2 ⟨y,H2,I2,ry,q2⟩ =>
  AO (hr pins s2 σ H2 _ I2 q2) λws s3 ⟨ps,H3,I3,rel,q3⟩=>⟨(x,y)::ps,H3,I3,.cons ⟨rx,ry⟩ rel,q3⟩)
def EA(kvs more:List (AR × V)):List (AR × V):=more.foldl (λacc kv=>A5 acc kv.1 kv.2) kvs
theorem KV.merge:∀ {more:List (AR × V)} {rs:List (AR × Value)} {kvs:List (AR × V)} {vs:List (AR × Value)},KV more rs->KV kvs vs->KV (EA kvs more) (merged vs rs):=by
 intro more rs kvs vs r
 unfold KV at r
 induction r generalizing kvs vs with
 | nil=>intro q;exact q
 | @cons p q ps qs h t ih =>
  intro r0
  have e:KV (A5 kvs p.1 p.2) (stored vs q.1 q.2):=by
   have:=r0.put p.1 h.2
   rw[<-h.1];exact this
  exact ih e
theorem QL:∀ (more kvs:List (AR × V)),(EA kvs more).length<=kvs.length+more.length
 | [],kvs=>by show kvs.length<=kvs.length+0;omega
 | p::r,kvs=>by
  have h1:=QL r (A5 kvs p.1 p.2)
  have h2:=FV kvs p.1 p.2
  show(EA (A5 kvs p.1 p.2) r).length<=_
  rw[List.length_cons];omega
theorem WT{P:Program}{w:World}:∀ {kvs:List (AR × V)} {ws:List (Value × Value)},VV (kvs.map λkv=>(kV kv.1,kv.2)) ws->∃ rs,Carries (DE P w) ws rs/\KV kvs rs
 | [],_,r=>by rw[List.map_nil]at r;cases r;exact⟨[],True.intro,.nil⟩
 | p::kvs,_,r=>by
  rw[List.map_cons]at r
  cases r with
  | @cons a b as bs h t =>
   obtain⟨rs,c,q⟩:=WT (P:=P) (w:=w) t
   obtain⟨b1,b2⟩:=b
   exact⟨(p.1,b2)::rs,⟨HW h.1,rfl,c⟩,.cons ⟨rfl,h.2⟩ q⟩
def QM(trs:List (TE × TE)):TE:=λσ H Q=>∀ p,H p=none->HZ trs σ (upd H p (.dK [])) λps H2=>H2 p=some (.dK [])/\∃ kvs:List (AR × V),ps=kvs.map (λkv=>(kV kv.1,kv.2))/\kvs.length<=15/\Q (.ref p) (upd H2 p (.dK (EA [] kvs)))
theorem kM{X:Cx}{pos:Pos}{keys:List (Option Expr)}{values:List Expr}{trs:List (TE × TE)}(h:NW X pos keys values trs)(hall:keys.all (·.isSome)=true)(hl:keys.length=values.length)(h0:keys≠[])
  (h15:keys.length<=15):PE X (.Dict keys values pos) (QM trs):=by
 intro pins s σ H Q I q
 have hn:=I.hok.fresh (Nat.le_refl s.heap.objs.size)
 have I1:=I.laid (a:=s.heap.objs.size) (o:=.dK []) (h':=s.heap.push { cls:=.type "dict",data:=.dict #[] }) (t':=s.toks) (λ_ _ q=>Heap.get?_push_of_some _ q) (Nat.le_refl _) (WQ s.heap I.big)
 refine wpAny_Dict_walk (knd:=DE X.prog X.w) hall hl h0 h15 (AO (h pins _ σ _ _ I1 (q _ hn)) λws s2 ⟨ps,H2,I2,rel,e,kvs,ep,lk,q2⟩=> ?_)
 subst ep
 obtain⟨rs,c,rk⟩:=WT (P:=X.prog) (w:=X.w) rel
 obtain⟨z,hd,vs0,r0,dd⟩:=WO I2.hok e
 cases r0
 refine⟨rs,c,dd,λh' dd' hs=>⟨.ref s.heap.objs.size,_,?_,rfl,q2⟩⟩
 have hz:(EA [] kvs).length<=sizeLine:=by
  have h1:=QL kvs []
  rw[List.length_nil]at h1
  rw[sizeLine_eq];omega
 have he:∃ q,h'.get? s.heap.objs.size=some q:=let ⟨q,_,_,hq,_⟩:=dd';⟨q,hq⟩
 exact QJ I2 (by rw[e];exact True.intro) hs he (QK hz hd (rk.merge .nil) dd')
structure M1(X:Cx)(o:Expr)(m:Str)(apos:Pos)(e:Expr)(cpos:Pos):Prop where
 base:attributeBase o m X.env (eval o X.env)=eval o X.env
 few:((backTo cpos (starEach [e] X.env)).all (λx=> !x.1) && (backToKw cpos (keywordEach [] X.env)).all (λx=>x.1.isSome)
  && decide (([e]:List Expr).length+([]:List Keyword).length+(if([]:List Keyword).isEmpty then 0 else 1)<30))=true
 line:(apos.endLine == cpos.line)=true
 trees:backTo cpos (starEach [e] X.env)=[(false,eval e X.env)]
structure M2(X:Cx)(o:Expr)(m:Str)(apos:Pos)(e f:Expr)(cpos:Pos):Prop where
 base:attributeBase o m X.env (eval o X.env)=eval o X.env
 few:((backTo cpos (starEach [e,f] X.env)).all (λx=> !x.1) && (backToKw cpos (keywordEach [] X.env)).all (λx=>x.1.isSome)
  && decide (([e,f]:List Expr).length+([]:List Keyword).length+(if([]:List Keyword).isEmpty then 0 else 1)<30))=true
 line:(apos.endLine == cpos.line)=true
 trees:backTo cpos (starEach [e,f] X.env)=[(false,eval e X.env),(false,eval f X.env)]
def QN(H:Hp)(a:Addr):Prop:=(∃ kvs,Rd H a (.dK kvs))\/∃ kvs,Rd H a (.dT kvs)
theorem kN{X:Cx}{pins:List (Addr × Obj)}{σ:St}{H:Hp}{s:Shared}{a:Addr}(I:Inv X pins σ H s)(d:QN H a) :
  s.TypeIs (.ref a) "dict"/\(∀ b,Value.ref a=.ref b->∃ ob,s.heap.get? b=some ob/\ob.dict=none)/\(a == sysModules)=false:=by
 rcases d with⟨kvs,e⟩ | ⟨kvs,e⟩
 ·obtain⟨_,hd,vs,_,dd⟩:=HF I.hok e
  refine⟨dd.typeIs,λb q=> ?_,hd⟩
  cases q
  obtain⟨ob,_,_,h1,h2,_⟩:=dd
  exact⟨ob,h1,h2.2.1⟩
 ·obtain⟨_,hd,xs,_,dd⟩:=HX I.hok e
  refine⟨dd.typeIs,λb q=> ?_,hd⟩
  cases q
  obtain⟨ob,_,_,h1,h2,_⟩:=dd
  exact⟨ob,h1,h2.2.1⟩
section
variable{X:Cx}{pins:List (Addr × Obj)}{σ:St}{H:Hp}{s:Shared}{a:Addr}{y d:V}{u r:Value}{o:Option V}{A:Around}{E:Value->Shared->Prop}
theorem kO{Q:Value->Shared->Prop}(hu:A.units+1<cLine)(I:Inv X pins σ H s)(g:DGet H a y o)(ry:RelV y u)(h:∀ w' s',Inv X pins σ H s'->RelV (o.getD .non) w'->Q w' s') :
  wpAny (model X.prog X.w) A (call (.builtin "dict.get") [.ref a,u]) Q E s:=by
 rcases g with⟨kvs,k,e,ey,l⟩ | ⟨kvs,k,b,e,ey,eb,l⟩
 ·subst ey
  obtain⟨z,hd,vs,rel,dd⟩:=HF I.hok e
  refine call_meetsIn PySem.F.slot_dict_get dd.typeIs PySem.F.entry_dict_get (PySem.F.args_dict_get_2 _ _) (meets_dict_get (DE X.prog X.w) a (HW ry) hd) ⟨_,dd.mapOf,h _ _ (I.tok _) ?_⟩
  rw[l]
  exact(rel.val k).getD rfl
 ·subst ey
  cases (show u=Value.ref b from ry)
  obtain⟨z,hd,xs,rel,dd⟩:=HX I.hok e
  refine call_meetsIn PySem.F.slot_dict_get dd.typeIs PySem.F.entry_dict_get (PySem.F.args_dict_get_2 _ _) (meetsH_dict_get (tupleKind (DE X.prog X.w)) a b hd) ⟨tupleKind_room_in1 hu,k,xs,JM I.hok eb,dd,h _ _ (I.tok _) ?_⟩
  rw[l]
  exact(rel.val k).getD rfl
end
def QQ(td ty:TE):TE:=λσ H Q=>td σ H λx H1=>∃ a,x=.ref a/\QN H1 a/\ty σ H1 λy H2=>∃ o,DGet H2 a y o/\Q (o.getD .non) H2
section
variable{X:Cx}{o e f:Expr}{apos cpos:Pos}{td ty tx:TE}
theorem kP(hu:X.A.units+1<cLine)(ho:PE X o td)(he:PE X e ty)(m:M1 X o "get" apos e cpos):PE X (.Call (.Attribute o "get" apos) [e] [] cpos) (QQ td ty):=by
 intro pins s σ H Q I h
 refine wpAny_Call_method m.base m.few m.line PySem.F.plainAttrs_dict PySem.F.slot_dict_get PySem.F.type_dict_get (AO (ho pins s σ H _ I h) λu s1 ⟨x,H1,I1,rx,a,ex,d,q1⟩=> ?_)
 subst ex
 obtain rfl:u=Value.ref a:=rx
 obtain⟨t1,t2,_⟩:=kN I1 d
 refine⟨t1,t2,?_⟩
 rw[m.trees]
 refine Calls.callWith_builtin rfl (Calls.evalArgs_plain (Calls.spliced_cons (AO (he pins s1 σ H1 _ I1 q1) λiv s2 ⟨y,H2,I2,ry,ov,g,q2⟩=>Calls.spliced_nil ?_)))
 exact kO hu I2 g ry λw' s3 I3 rw'=>⟨_,H2,I3,rw',q2⟩
end
section
variable{X:Cx}{pins:List (Addr × Obj)}{σ:St}{H:Hp}{s:Shared}{a:Addr}{kvs:List (AR × V)}{A:Around}{E:Value->Shared->Prop}
theorem kQ{Q:Value->Shared->Prop}(I:Inv X pins σ H s)(e:Rd H a (.dK kvs))(h:∀ p s',H p=none->Inv X pins σ (upd H p (.dK kvs)) s'->Q (.ref p) s'):wpAny (model X.prog X.w) A (call (.type "dict") [.ref a]) Q E s:=by
 obtain⟨z,hd,vs,rel,dd⟩:=HF I.hok e
 refine kt_call_dict hd dd (by rw[<-rel.length];exact z) λh' dd' hs=> ?_
 refine h _ _ (I.hok.fresh (Nat.le_refl _)) (I.laid (a:=s.heap.objs.size) (o:=.dK kvs) (t':=s.toks) (λb q hq=> ?_) (Nat.le_refl _) (QK z (beq_eq_false_iff_ne.mpr (Ne.symm (Nat.ne_of_lt I.big))) rel dd'))
 exact(hs.2 b (Nat.ne_of_lt (Heap.lt_size hq))).trans (Heap.get?_push_of_some _ hq)
end
section
variable{X:Cx}{pins:List (Addr × Obj)}{σ:St}{H:Hp}{s:Shared}{a:Addr}{y:V}{u:Value}{A:Around}{E:Value->Shared->Prop}
end
end L2
namespace Att
open PySem PySem.W PySem.Calls PyProof.Rows
theorem kR{P:Params}{h:Heap}:∀ (ns:List Int) (vs:List Value),WellAll P h vs (ns.map WData.int)->IntsAre vs ns:=by
 intro ns
 induction ns with
 | nil =>
  intro vs w
  rw[List.map_nil]at w
  cases w
  exact .nil
 | cons n ns ih =>
  intro vs w
  rw[List.map_cons]at w
  cases w with
  | cons a b =>
   cases a
   exact .cons _ _ (ih _ b)
theorem kS{l:OpenLaw}{n:Nat}(hn:l.most=some n){P:Params}{h:Heap}{args:List WData}{vals:List Value}
  (hpre:l.row.toRowW.claim.pre args=true) (hwl:WellAll P h vals args) :
  ∃ a vs ns,vals=[Value.ref a]/\args=[WData.list (ns.map WData.int)]/\h.get? a=some { cls:=.type "list",data:=.seq vs.toArray }/\IntsAre vs ns/\ns.length<=n:=by
 have hsh:WShape.hasAll [] args [.list .int]=true:=(pre_splitW hpre).1
 have hc:l.pre.holds [] { args:=args }=true:=(pre_splitW hpre).2
 obtain⟨d,r,rfl,h1,h2⟩:=hasAllW_cons hsh
 obtain rfl:=hasAllW_nil h2
 obtain⟨xs,rfl,h3⟩:=hasW_list h1
 obtain⟨ns,rfl⟩:=items_int h3
 have hlen:ns.length<=n:=by
  unfold OpenLaw.pre at hc
  have h4:(WTm.not (.lt (.lit (.int (n:Int))) (.len (.arg 0)))).holds [] { args:=[.list (ns.map .int)] }=true:=by
   have h4:=(holds_andW hc).1
   rw[hn]at h4
   exact h4
  have h5:=condW_of h4 (w_not (w_lt w_lit (w_len_list (w_arg rfl))))
  rw[List.length_map]at h5
  refine Nat.le_of_not_lt λq=> ?_
  have q':(n:Int)<((ns.length:Nat):Int):=by omega
  first
   | (rw[decide_eq_true q']at h5;exact absurd h5 (by decide))
   | (simp at h5;omega)
 cases hwl with
 | cons w1 w2 =>
  cases w2
  cases w1 with
  | list ho hall=>exact⟨_,_,ns,rfl,rfl,ho,kR ns _ hall,hlen⟩
theorem kT(l:OpenLaw)(args:List WData):l.row.toRowW.claim.post args (.bool true) args=true :=
 postW_of (r:=l.row.toRowW) (X:=(true == true))
  (show WShape.has [] (.bool true) .bool=true by first | rfl | decide | simp[WShape.has,WShape.arms,WShape.armsAll])
  (show(WTm.eq .res (.lit (.bool true))).value [] { args:=args,res:=some (.bool true),after:=args }=some (.bool (true == true))from w_eq_bool (w_res rfl) w_lit) rfl
theorem attach_call{l:OpenLaw}{n:Nat}{q:Program}{loose:List Str}{XP:(Str->Option Value)->Heap->Prop}{YP:World->Heap->Prop}{d:DefRec}
  (hn:l.most=some n) (hdf:d.params.defaults=[])
  (call:∀ (w:World) (s₀ s₁:Shared) (mg mb:Str->Option Value) (fa:Addr) (o:Obj) (pm cd doc:Value) (a:Addr) (vs:List Value) (ns:List Int),
   Ground q loose [] XP w s₀ mg mb s₁.heap->YP w s₁.heap →
   s₁.heap.get? fa=some o->o.data=.func (docDef d.name d.params d.body d.scope pm cd doc)->s₁.heap.CodeRec cd d.name->mg d.name=some (.ref fa) →
   s₁.heap.get? a=some { cls:=.type "list",data:=.seq vs.toArray }->IntsAre vs ns->ns.length<=n->s₁.gens= #[] →
   codeAny (model l.prog w) callerA (.call (.ref fa) ⟨[.ref a],[]⟩) (λr s'=>r=.ok (.ret (.bool true))/\OldK s₁.heap s'.heap/\s'.os=s₁.os/\AllBare s'.gens) s₁) :
  WalkO q loose XP YP l.row.toRowW d [] (λf vs=>PySem.call f vs):=by
 intro w s₀ s₁ mg mb G Y fa o pm cd doc dV kV ho hd hcd hD hmg hg args vals as hpre hlay hrd hwl hlo
 obtain rfl:dV=.none:=Dflts.none hD hdf
 obtain rfl:kV=.none:=Dflts.noKw hD
 obtain⟨a,vs,ns,rfl,rfl,hobj,hints,hlen⟩:=kS hn hpre hwl
 refine enter_call (codeAny_mono (call w s₀ s₁ mg mb fa o pm cd doc a vs ns G Y ho (fd_plain hd) hcd hmg hobj hints hlen hg) λr s' hq=> ?_)
 obtain⟨rfl,h2,h3,h4⟩:=hq
 exact⟨.inl ⟨.bool true,.bool true,[],rfl,λ_=>rfl,.bool true,kT l _,λ_=>⟨List.Pairwise.nil,λ_ hm=>(nomatch hm)⟩⟩,h2,h3,h4⟩
section
variable{prog:Program}{w:World}{A:Around}{E:Value->Shared->Prop}{s:Shared}{K:Frag}
end
end Att
namespace L2
theorem NX:∀ {vs:List Value} {ns:List Int},IntsAre vs ns->Vals (ns.map V.int) vs
 | _,_,.nil=>.nil
 | _,_,.cons n t h=>.cons ⟨t,rfl⟩ (NX h)
def QR(H:Hp):Prop:=∀ b,H b=none\/∃ o xs,H b=some (.frz o (.lst xs))
theorem kU {P:Program} {w:World} {K:W.Frag} {mg mb:Str->Option Value} {CX:FB} {k:Nat} {fa a:Addr} {fd:FuncData} {x:Str} {sp:Sp} {s₁:Shared} {vs:List Value} {ns:List Int}
    (KX:K.In s₁.heap) (hns:s₁.heap.Ns mainGlobals mg) (hb:s₁.heap.Ns builtinsNs mb) (hbb:∀ x:Str,x≠"__name__"->mb x=bootBuiltins x) (hlim:s₁.heap.NoLimit) (hg:s₁.gens= #[])
    (ha:s₁.heap.get? a=some { cls:=.type "list",data:=.seq vs.toArray }) (hi:IntsAre vs ns) (hl:ns.length<=sizeLine) (hr:Room k callerA)
    (F:∀ base:Heap,K.In base->base.Ns mainGlobals mg->FnOk P w K mg base CX k fa fd [x] sp) (hbind:∀ (s:Shared) (u:Value),BindsTo s fd ⟨[u],[]⟩ [(x,u)])
    (hsp:∀ H:Hp,QR H->SqL K H a (ns.map V.int)->sp [.ref a] H (λv _=>v=.bl true) λ_ _ _=>False)
    (hCX:∀ H e s',CX [] H s₁ (λ_ _ _=>False) e s'->False) :
    codeAny (model P w) callerA (.call (.ref fa) ⟨[.ref a],[]⟩) (λr s'=>r=.ok (.ret (.bool true))/\OldK s₁.heap s'.heap/\s'.os=s₁.os/\AllBare s'.gens) s₁:=by
  have rv:=NX hi
  have lenV:=hi.length
  have core:∀ H:Hp,QR H->SqL K H a (ns.map V.int)->HOk P w H s₁.heap->(∀ b,H b≠none->b=a)->(H a≠none->K.lookup a=none) →
      codeAny (model P w) callerA (.call (.ref fa) ⟨[.ref a],[]⟩) (λr s'=>r=.ok (.ret (.bool true))/\OldK s₁.heap s'.heap/\s'.os=s₁.os/\AllBare s'.gens) s₁:=by
    intro H hO hS hok hA hK
    have base_of:∀ {b:Addr} {o:Obj},s₁.heap.get? b=some o->H b=none->(GR s₁.heap H).get? b=some o:=λe n=>gY e n
    have noA:∀ {b:Addr} {o:Obj} {es:Array DictEntry} {ep:Nat},s₁.heap.get? b=some o->o.data=.dict es ep->H b=none:=λ{b o es ep} e d=>by
      cases q:H b with
      | none=>rfl
      | some u =>
        have e':b=a:=hA b (by rw[q];simp)
        subst e'
        rw[ha]at e;cases e
        have d':Data.seq vs.toArray _=Data.dict es ep:=d
        cases d'
    have nsK:∀ {b:Addr} {m:Str->Option Value},s₁.heap.Ns b m->(GR s₁.heap H).Ns b m:=λ{b m} ⟨o,es,ep,e,d,r⟩=>⟨o,es,ep,base_of e (noA e d),d,r⟩
    have hKb:K.In (GR s₁.heap H):=λb o e=>base_of (KX b o e) (by
      cases q:H b with
      | none=>rfl
      | some u =>
        have e':b=a:=hA b (by rw[q];simp)
        subst e'
        rw[hK (by rw[q];simp)]at e;cases e)
    have hM:Mod K mg (GR s₁.heap H):=⟨hKb,nsK hns,⟨mb,nsK hb,hbb⟩,let ⟨mc,h1,h2⟩:=hlim;⟨mc,nsK h1,h2⟩⟩
    have e0:Env0 P w K mg (GR s₁.heap H) callerA [] s₁ H:=⟨rfl,hM,λb o e=>gZ e,Nat.le_of_eq (gX _ _),trivial,λb hb=>absurd (show b∈([]:List Addr)from hb) (by simp),hok,.of_eq hg⟩
    refine codeAny_mono ((F _ hKb (nsK hns)).run callerA [] s₁ H ⟨[.ref a],[]⟩ [.ref a] [.ref a] _ _ hr e0 (hbind s₁ (.ref a)) (.cons rfl .nil) (hsp H hO hS)) λr s' h=> ?_
    cases r with
    | error e=>exact(hCX H e s' h).elim
    | ok fl =>
      cases fl with
      | next=>exact False.elim h
      | brk=>exact False.elim h
      | cont=>exact False.elim h
      | ret u =>
        obtain⟨v,H',os,bare,un,hok',r',q⟩:=h
        have q':v=.bl true:=q
        subst q'
        obtain rfl:u=Value.bool true:=r'
        refine⟨rfl,OldK.of_keep λb o e=> ?_,os,bare⟩
        cases q:H b with
        | none=>exact un.keep b o e q (by intro z;exact absurd (show b∈([]:List Addr)from z) (by simp)) (by simp)
        | some u =>
          rcases hO b with z | ⟨ob,xs,z⟩
          ·rw[q]at z;cases z
          · have z2:=un.frzs b ob _ z
            obtain⟨e1,_⟩:=hok b _ z
            obtain⟨e2,_⟩:=hok' b _ z2
            rw[e]at e1;cases e1
            exact e2
  cases hk:K.lookup a with
  | some o =>
    have e:=KX a o hk
    rw[ha]at e
    cases e
    refine core (λ_=>none) (λ_=>.inl rfl) (.inr ⟨_,vs.toArray,_,hk,rfl,rfl,rfl,by rw[List.size_toArray,lenV];exact hl,by simpa using rv⟩) (λb u z=>by have z':(none:Option HO)=some u:=z;cases z') (λb z=>absurd rfl z) λz=>absurd rfl z
  | none =>
    refine core (λb=>if b=a then some (.frz { cls:=.type "list",data:=.seq vs.toArray } (.lst (ns.map V.int)))else none) (λb=> ?_) (.inl (.inr ⟨{ cls:=.type "list",data:=.seq vs.toArray },if_pos rfl⟩)) (λb u z=> ?_) (λb z=> ?_) λ_=>hk
    · by_cases hb:b=a
      ·exact .inr ⟨_,_,if_pos hb⟩
      ·exact .inl (if_neg hb)
    · by_cases hb:b=a
      · have z':=(if_pos hb).symm.trans z
        cases z'
        subst hb
        exact⟨ha,by rw[List.length_map];exact hl,vs,_,rv,ha⟩
      · have z':=(if_neg hb).symm.trans z
        cases z'
    · by_cases hb:b=a
      ·exact hb
      ·exact absurd (if_neg hb) z
end L2
namespace L2
theorem walk_of{l:W.OpenLaw}{n k:Nat}{q:Program}{loose:List Str}{XP:(Str->Option Value)->Heap->Prop}{YP:World->Heap->Prop}{d:DefRec}{K:Params->W.Frag}{CX:World->FB}{sp:World->Sp}{x:Str}
  (hn:l.most=some n) (hn2:n<=sizeLine) (hdf:d.params.defaults=[]) (hr:Room k callerA)
  (hY:∀ (w:World) (h:Heap),YP w h->(K w.params).In h)
  (F:∀ (w:World) (mg:Str->Option Value) (fa:Addr) (h:Heap),(K w.params).In h->h.Ns mainGlobals mg->mg d.name=some (.ref fa) →
   ∃ fd:FuncData,(∀ (s:Shared) (u:Value),BindsTo s fd ⟨[u],[]⟩ [(x,u)]) ∧
    ∀ base:Heap,(K w.params).In base->base.Ns mainGlobals mg->FnOk l.prog w (K w.params) mg base (CX w) k fa fd [x] (sp w))
  (hsp:∀ (w:World) (H:Hp) (a:Addr) (ns:List Int),ns.length<=n->QR H->SqL (K w.params) H a (ns.map V.int)->sp w [.ref a] H (λv _=>v=.bl true) λ_ _ _=>False)
  (hCX:∀ (w:World) (H:Hp) (s:Shared) (e:Value) (s':Shared),CX w [] H s (λ_ _ _=>False) e s'->False) :
  W.WalkO q loose XP YP l.row.toRowW d [] (λf vs=>PySem.call f vs):=by
 refine Att.attach_call hn hdf λw s₀ s₁ mg mb fa o pm cd doc a vs ns G Y ho hd hcd hmg hobj hints hlen hg=> ?_
 have KX:=hY w _ Y
 obtain⟨fd,hb,hF⟩:=F w mg fa _ KX G.T.g hmg
 exact kU KX G.T.g G.T.b G.T.builtins G.T.nolimit hg hobj hints (Nat.le_trans hlen hn2) hr hF hb (λH hO hS=>hsp w H a ns hlen hO hS) λH e s'=>hCX w H s₁ e s'
end L2
namespace L2
def DA(s:Stmt)(j:Nat):Stmt:=match s with
 | .ClassDef _ _ _ body _ _ _ _ _ _ _=>body.getD j (.Pass ⟨0,0,0,0⟩)
 | _=>.Pass ⟨0,0,0,0⟩
def BM(s:Stmt):Arguments:=match s with
 | .FunctionDef _ a _ _ _ _ _ _ _ _=>a
 | _=>{ posonlyargs:=[],args:=[],vararg:=none,kwonlyargs:=[],kw_defaults:=[],kwarg:=none,defaults:=[] }
def BJ(s:Stmt):List Stmt:=match s with
 | .FunctionDef _ _ b _ _ _ _ _ _ _=>b
 | _=>[]
def AT(s:Stmt):Scope:=match s with
 | .FunctionDef _ _ _ _ _ _ sc _ _ _=>sc
 | _=>{ kind:=.function,names:=[],isGenerator:=false,isCoroutine:=false }
abbrev E0:XK:=λ_ _ _=>False
structure Fun(K:W.Frag)(x qual:Str)(st:Stmt)(f:Addr)(fd:FuncData):Prop where
 ex:∃ (oc:Value) (od:Option Addr) (kV doc pm:Value) (an:Option Addr) (cdv ct:Value) (osl:Array (Option Value)),
  fd=W.fnOf x qual (BM st) (BJ st) (AT st) .none kV doc pm an cdv ct/\K.lookup f=some ⟨oc,od,.func fd,osl⟩/\W.codeIn K cdv qual=true
 kp:W.keepIn K (.ref f)=true
section
variable{P:Program}{w:World}{K:W.Frag}{mg:Str->Option Value}{base:Heap}
theorem Fun.binds{x qual:Str}{st:Stmt}{f:Addr}{fd:FuncData}{ps:List Str}(F:Fun K x qual st f fd)
  (h:∀ (kV doc pm:Value) (an:Option Addr) (cdv ct:Value) (us:List Value),us.length=ps.length->bindArgs (W.fnOf x qual (BM st) (BJ st) (AT st) .none kV doc pm an cdv ct) ⟨us,[]⟩=pure (ps.zip us)):Binds K fd ps []:=by
 obtain⟨oc,od,kV,doc,pm,an,cdv,ct,osl,rfl,lk,hcd⟩:=F.ex
 exact .all (h kV doc pm an cdv ct)
theorem BU{x qual:Str}{st:Stmt}{f:Addr}{oc:Value}{od an:Option Addr}{osl:Array (Option Value)}{kV doc pm cdv ct:Value}(l:K.lookup f=some ⟨oc,od,.func (W.fnOf x qual (BM st) (BJ st) (AT st) .none kV doc pm an cdv ct),osl⟩)
  (c:W.codeIn K cdv qual=true) (k:W.keepIn K (.ref f)=true):Fun K x qual st f (W.fnOf x qual (BM st) (BJ st) (AT st) .none kV doc pm an cdv ct):=⟨⟨oc,od,kV,doc,pm,an,cdv,ct,osl,rfl,l,c⟩,k⟩
end
theorem A3{A:Around}{k:Nat}(hr:Room k A):A.units+1<cLine:=Nat.lt_of_le_of_lt (Nat.add_le_add_left (by decide:1<=64) _) hr.units
section
variable{X:Cx}
end
theorem kW{A B:Prop}(h:A):if true=true then A else B:=by
 rw[if_pos rfl]
 exact h
def Same(H H':Hp):Prop:=∀ b o,H b=some o->H' b=some o
theorem Same.refl(H:Hp):Same H H:=λ_ _ h=>h
theorem Same.trans{H H1 H2:Hp}(a:Same H H1)(b:Same H1 H2):Same H H2:=λc o h=>b c o (a c o h)
theorem Same.free{H H':Hp}(e:Same H H'){l:Addr}(h:H' l=Option.none):H l=Option.none:=by
 cases q:H l with
 | none=>rfl
 | some o =>
  rw[e l o q]at h
  cases h
theorem Same.seq{K:W.Frag}{H H':Hp}{a:Addr}{xs:List V}(e:Same H H')(h:SqL K H a xs):SqL K H' a xs:=by
 rcases h with(h | ⟨o,h⟩) | h
 ·exact .inl (.inl (e _ _ h))
 ·exact .inl (.inr ⟨o,e _ _ h⟩)
 ·exact .inr h
section
variable{κ :Type}[DecidableEq κ]
theorem kX{kvs:List (κ × V)}{k: κ}(h:AW kvs k=none):¬ k∈kvs.map (·.1):=by
 intro m
 obtain⟨p,hp,e⟩:=List.mem_map.mp m
 have q:(kvs.any λkv=>decide (kv.1=k))=true:=List.any_eq_true.mpr ⟨p,hp,decide_eq_true e⟩
 rw[HE,h]at q
 exact absurd q (by simp)
theorem WU:∀ {l:List κ} {k: κ},l.Nodup->¬ k∈l->(l++[k]).Nodup
 | [],k,_,_=>by simp
 | a::r,k,h,hk=>by
  obtain⟨h1,h2⟩:=List.nodup_cons.mp h
  show(a::(r++[k])).Nodup
  refine List.nodup_cons.mpr ⟨λm=> ?_,WU h2 λm=>hk (List.mem_cons.mpr (Or.inr m))⟩
  rcases List.mem_append.mp m with q | q
  ·exact h1 q
  ·exact hk (List.mem_cons.mpr (Or.inl (List.mem_singleton.mp q).symm))
theorem kY{kvs:List (κ × V)}{k: κ}(v:V)(hn:(kvs.map (·.1)).Nodup)(h:AW kvs k=none):((A5 kvs k v).map (·.1)).Nodup:=by
 rw[WL v h,List.map_append]
 exact WU hn (kX h)
end
end L2
namespace L2
theorem QS{env:Env}:∀ (names:List (Str × NameKind)) (cs:List (Str × Addr)),
  (∀ x∈names,x.2=.free->∃ c,env.cells.lookup x.1=some c)->(∀ x c,cs.lookup x=some c->env.cells.lookup x=some c) →
  ∃ cl,(forIn names cs λx r=>(if(x.2 == NameKind.free)=true then do let a ← cellOf env x.1;pure (ForInStep.yield ((x.1,a)::r))else pure (ForInStep.yield r):Sem (ForInStep (List (Str × Addr)))))=pure cl ∧
   (∀ x c,cl.lookup x=some c->env.cells.lookup x=some c)/\(∀ x,(cs.lookup x).isSome=true->(cl.lookup x).isSome=true) ∧
   ∀ x∈names,x.2=.free->(cl.lookup x.1).isSome=true
 | [],cs,_,h=>⟨cs,rfl,h,λ_ z=>z,λ_ z=>nomatch z⟩
 | (n,k)::r,cs,hf,h=>by
  by_cases hk:k=.free
  ·subst hk
   obtain⟨c,hc⟩:=hf (n,.free) List.mem_cons_self rfl
   obtain⟨cl,e,h1,h2,h3⟩:=QS r ((n,c)::cs) (λx hx=>hf x (List.mem_cons_of_mem _ hx)) (λx c' hx=>by
    by_cases hxn:x=n
    ·subst hxn;simp only[List.lookup_cons,beq_self_eq_true]at hx;cases hx;exact hc
    ·have:(x == n)=false:=beq_eq_false_iff_ne.mpr hxn
     simp only[List.lookup_cons,this]at hx;exact h x c' hx)
   refine⟨cl,?_,h1,λx hx=>h2 x ?_,λx hx hxf=> ?_⟩
   ·rw[List.forIn_cons]
    show((if(NameKind.free == NameKind.free)=true then _ else _) >>= _)=_
    rw[if_pos (show(NameKind.free == NameKind.free)=true from rfl)]
    unfold cellOf
    show(((match env.cells.lookup n with | some a=>pure a | none=>_) >>= _) >>= _)=_
    rw[hc]
    exact e
   ·by_cases hxn:x=n
    ·subst hxn;simp
    ·have:(x == n)=false:=beq_eq_false_iff_ne.mpr hxn
     simp only[List.lookup_cons,this];exact hx
   ·rcases List.mem_cons.mp hx with rfl | hx
    ·exact h2 n (by simp)
    ·exact h3 x hx hxf
  ·obtain⟨cl,e,h1,h2,h3⟩:=QS r cs (λx hx=>hf x (List.mem_cons_of_mem _ hx)) h
   refine⟨cl,?_,h1,h2,λx hx hxf=> ?_⟩
   ·rw[List.forIn_cons]
    have hb:(k == NameKind.free)=false:=by simpa using hk
    show((if(k == NameKind.free)=true then _ else _) >>= _)=_
    rw[if_neg (by simp[hb])]
    exact e
   ·rcases List.mem_cons.mp hx with rfl | hx
    ·exact absurd hxf hk
    ·exact h3 x hx hxf
theorem WV{env:Env}{scope:Scope}(hf:∀ x∈scope.names,x.2=.free->∃ c,env.cells.lookup x.1=some c) :
  ∃ cl,closureFor scope env=pure cl/\(∀ x c,cl.lookup x=some c->env.cells.lookup x=some c)/\∀ x∈scope.names,x.2=.free->(cl.lookup x.1).isSome=true:=by
 obtain⟨cl,e,h1,_,h3⟩:=QS (env:=env) scope.names [] hf (λx c h=>by simp at h)
 refine⟨cl,?_,h1,h3⟩
 unfold closureFor
 show(forIn scope.names ([]:List (Str × Addr)) _ >>= _)=_
 have:(forIn scope.names ([]:List (Str × Addr)) λx r=>(if(x.2 == NameKind.free)=true then do let a ← cellOf env x.1;pure (ForInStep.yield ((x.1,a)::r))else pure (ForInStep.yield r):Sem (ForInStep (List (Str × Addr))))) >>=(λr=>(pure r:Sem _))=(pure cl:Sem _):=by rw[e];rfl
 exact this
theorem WW{env:Env}:∀ {names:List (Str × NameKind)} {x:Str},names.lookup x=some .free →
  (names.map λ(n,k)=>if(k == NameKind.free && env.scope.kind == .function && env.kindOf n == some .cell)then(n,NameKind.cell)else(n,k)).lookup x=some .cell ∨
  (names.map λ(n,k)=>if(k == NameKind.free && env.scope.kind == .function && env.kindOf n == some .cell)then(n,NameKind.cell)else(n,k)).lookup x=some .free
 | [],_,h=>by simp at h
 | (n,k)::r,x,h=>by
  by_cases hx:x=n
  ·subst hx
   simp only[List.lookup_cons,beq_self_eq_true]at h
   cases h
   show List.lookup x ((if _ then(x,NameKind.cell)else(x,NameKind.free))::_)=_\/List.lookup x ((if _ then(x,NameKind.cell)else(x,NameKind.free))::_)=_
   split
   ·exact .inl (by simp)
   ·exact .inr (by simp)
  ·have hb:(x == n)=false:=beq_eq_false_iff_ne.mpr hx
   simp only[List.lookup_cons,hb]at h
   have ih:=WW (env:=env) h
   show List.lookup x ((if _ then(n,NameKind.cell)else(n,k))::_)=_\/List.lookup x ((if _ then(n,NameKind.cell)else(n,k))::_)=_
   split<;>(simp only[List.lookup_cons,hb];exact ih)
theorem WX{env:Env}:∀ {names:List (Str × NameKind)} {x:Str},
  ((names.map λ(n,k)=>if(k == NameKind.free && env.scope.kind == .function && env.kindOf n == some .cell)then(n,NameKind.cell)else(n,k)).lookup x=some .cell ∨
  (names.map λ(n,k)=>if(k == NameKind.free && env.scope.kind == .function && env.kindOf n == some .cell)then(n,NameKind.cell)else(n,k)).lookup x=some .free)->(x,NameKind.free)∈names\/(x,NameKind.cell)∈names
 | [],_,h=>by simp at h
 | (n,k)::r,x,h=>by
  by_cases hx:x=n
  ·subst hx
   have h:List.lookup x ((if(k == NameKind.free && env.scope.kind == .function && env.kindOf x == some .cell)=true then(x,NameKind.cell)else(x,k))::_)=some .cell\/List.lookup x ((if(k == NameKind.free && env.scope.kind == .function && env.kindOf x == some .cell)=true then(x,NameKind.cell)else(x,k))::_)=some .free:=h
   split at h
   ·rename_i hc
    rw[Bool.and_eq_true,Bool.and_eq_true]at hc
    have:k=.free:=by simpa using hc.1.1
    subst this
    exact .inl List.mem_cons_self
   ·simp only[List.lookup_cons,beq_self_eq_true]at h
    rcases h with h | h
    ·cases h;exact .inr List.mem_cons_self
    ·cases h;exact .inl List.mem_cons_self
  ·have hb:(x == n)=false:=beq_eq_false_iff_ne.mpr hx
   have h:List.lookup x ((if(k == NameKind.free && env.scope.kind == .function && env.kindOf n == some .cell)=true then(n,NameKind.cell)else(n,k))::_)=some .cell\/List.lookup x ((if(k == NameKind.free && env.scope.kind == .function && env.kindOf n == some .cell)=true then(n,NameKind.cell)else(n,k))::_)=some .free:=h
   have h':=h
   split at h'
   all_goals
    simp only[List.lookup_cons,hb]at h'
    exact(WX h').imp (List.mem_cons_of_mem _) (List.mem_cons_of_mem _)
theorem DU{a b:Addr}{n:Nat}(h:a<n)(h2:n<=b):a≠b:=Nat.ne_of_lt (Nat.lt_of_lt_of_le h h2)
def Cx.block(X:Cx)(pins:List (Addr × Obj))(s:Shared)(H:Hp)(Nc:List Str)(scope:Scope)(cl:List (Str × Addr))(C:Addr)(fp:List Addr):Cx where
 prog:=X.prog
 w:=X.w
 K:=X.K
 mg:=X.mg
 base:=X.base
 A:=X.A
 N:=Nc
 s₀:=s
 H₀:=H
 env:=compEnvC scope cl C X.env
 outer:=X.stack
 stack:=X.stack
 ex:=fp
 fn:=λ_=>false
 calm:=X.calm
 pn:=X.pn++pins
 xe:=λ_ _=>False
structure JP(X:Cx)(scope:Scope)(tn cn:List Str)(cap:List Nat):Prop where
 kind:scope.kind=.function
 nocell:∀ y∈scope.names,y.2≠.cell
 names:∀ y∈scope.names,y.2=.local->scope.names.lookup y.1=some .local
 free:∀ y∈scope.names,y.2=.free->X.env.kindOf y.1=some .cell\/X.env.kindOf y.1=some .free
 drawn:∀ x∈cn,scope.names.lookup x=some .free
 caps:cap.map (λi=>X.N[i]?)=cn.map some
def GZ(k:Nat)(cap:List Nat)(σ:St):St:=List.replicate k none++cap.map λi=>(σ[i]?).join
theorem HOk.track{P:Program}{w:World}{H:Hp}{h:Heap}{a:Addr}{o:HO}(x:HOk P w H h)(hn:H a=none)(new:ObjOk P w (upd H a o) h a o):HOk P w (upd H a o) h:=λb u e=>by
 by_cases hb:b=a
 ·subst hb;rw[AJ]at e;cases e;exact new
 ·rw[AH hb]at e
  refine(x b u e).stay (λ_ _ _ q=>q) (λc q=> ?_) λc xs q=> ?_
  ·rw[AH (AX q hn)];exact q
  ·rw[AH (AX q hn)];exact q
section
variable{X:Cx}{pins:List (Addr × Obj)}{σ:St}{H:Hp}{s:Shared}
theorem Inv.pinlt(I:Inv X pins σ H s){p:Addr × Obj}(hp:p∈X.pn++pins):p.1<s.heap.objs.size:=Heap.lt_size (I.pin p hp).1
theorem Inv.stkne(I:Inv X pins σ H s){b:Addr}(h1:b≠X.env.locals)(h2:b∉X.fs):b∉C2 X.stack:=λz=>(List.mem_cons.mp (I.stkSub b z)).elim h1 h2
theorem Inv.stklt(I:Inv X pins σ H s){b:Addr}(h:b∈C2 X.stack):b<s.heap.objs.size:=by
 obtain⟨_,o,ho,_⟩:=I.stack.mem h
 exact Heap.lt_size ho
theorem Inv.block{scope:Scope}{tn cn:List Str}{cap:List Nat}{cl:List (Str × Addr)}{C:Addr}{fp:List Addr}{pins':List (Addr × Obj)}{s1:Shared}(I:Inv X pins σ H s)(S:JP X scope tn cn cap)
  (hcl:∀ x c,cl.lookup x=some c->X.env.cells.lookup x=some c) (hcl2:∀ x∈scope.names,x.2=.free->(cl.lookup x.1).isSome=true)
  (hf:∀ b∈fp,FpOk X pins H b) (hfl:∀ b∈fp,b<s.heap.objs.size) (hC:s.heap.objs.size<=C) (k:∀ b o,s.heap.get? b=some o->s1.heap.get? b=some o)
  (hos:s1.os=s.os) (hg:s1.gens=s.gens) (hns:∃ m,s1.heap.Ns C m)
  (hp:∀ p∈pins',s1.heap.get? p.1=some p.2/\H p.1=none/\p.1≠C/\p.1∉C2 X.stack/\∀ v,p.2.data≠.cell v) :
  Inv (X.block pins s H (tn++cn) scope cl C fp) pins' (GZ tn.length cap σ) H s1:=by
 have ok:(X.block pins s H (tn++cn) scope cl C fp).Ok:=by
  refine⟨I.ok.mod,S.kind,I.ok.glob,I.ok.blt,hC,λx y c h1 h2=>I.ok.inj x y c (hcl x c h1) (hcl y c h2),λx hx=> ?_,λx c z _=>(by cases z),I.ok.hd,I.ok.frames,.inl rfl,λb hb=>⟨?_,λx c e=>(hf b hb).2.2.2.2.1 x c (hcl x c e)⟩,I.bs,Nat.le_trans I.ok.bsz I.sz,λb o e hb=> ?_,λb hb=>I.stkne (hf b hb).2.1 (hf b hb).2.2.1,I.stack,I.stkFree⟩
  ·rcases WX (env:=X.env) hx with z | z
   ·exact Option.isSome_iff_exists.mp (hcl2 _ z rfl)
   ·exact absurd rfl (S.nocell _ z)
  ·exact Nat.ne_of_lt (Nat.lt_of_lt_of_le (hfl b hb) hC)
  ·rcases(hf b hb).2.2.2.1 with z | z
   ·exact I.ok.noex b o e z
   ·have h1:b<X.base.objs.size:=Heap.lt_size e
    exact absurd (Nat.lt_of_lt_of_le h1 (Nat.le_trans I.ok.bsz z)) (Nat.lt_irrefl _)
 refine⟨ok,hos,by rw[hg];exact I.bare,Un.kept k,?_,λx c e=> ?_,I.hok.fresh hC,λx c e=>I.freeC x c (hcl x c e),λp hp'=> ?_,I.hok.kept k,?_⟩
 ·obtain⟨m,hm⟩:=hns
  refine⟨m,hm,λi x v h1 h2 h3=> ?_⟩
  have hi:tn.length<=i:=by
   rcases Nat.lt_or_ge i tn.length with z | z
   ·unfold GZ at h2
    rw[List.getElem?_append_left (by simpa using z),List.getElem?_replicate]at h2
    split at h2<;>cases h2
   ·exact z
  unfold GZ at h2
  rw[List.getElem?_append_right (by simpa using hi),List.length_replicate,List.getElem?_map]at h2
  have h1':cn[i - tn.length]? =some x:=by
   have:(tn++cn)[i]? =some x:=h1
   rwa [List.getElem?_append_right hi]at this
  cases hq:cap[i - tn.length]? with
  | none=>rw[hq]at h2;cases h2
  | some j =>
   rw[hq]at h2
   have hj:X.N[j]? =some x:=by
    have:=congrArg (λl=>l[i - tn.length]?) S.caps
    simp only[List.getElem?_map,hq,h1',Option.map_some]at this
    exact Option.some.inj this
   have hv:σ[j]? =some (some v):=by
    cases hs:σ[j]? with
    | none=>simp[hs]at h2
    | some y=>simp only[Option.map_some,hs,Option.join_some]at h2;cases h2;rfl
   have hxf:(x,NameKind.free)∈scope.names:=PySem.mem_of_lookup (S.drawn x (List.mem_of_getElem? h1'))
   have hk:=S.free _ hxf rfl
   obtain⟨m0,_,hl0⟩:=I.loc
   obtain⟨u,r,q⟩:=hl0 j x v hj hv (hk.elim (λz=>.inr (.inl z)) λz=>.inr (.inr z))
   refine⟨u,r,.inr ⟨WW (S.drawn x (List.mem_of_getElem? h1')),?_⟩⟩
   rcases q with⟨kl,_⟩ | ⟨_,c,hc,z⟩
   ·have kl':X.env.kindOf x=some .local:=kl
    rcases hk with hk | hk<;>(rw[kl']at hk;cases hk)
   ·obtain⟨c',hc'⟩:=Option.isSome_iff_exists.mp (hcl2 _ hxf rfl)
    have:=hcl _ _ hc'
    rw[hc]at this
    cases this
    exact⟨c,hc',z.keeps k⟩
 ·obtain⟨v,z⟩:=I.cell x c (hcl x c e)
  exact⟨v,z.keeps k⟩
 ·rcases List.mem_append.mp hp' with z | z
  ·obtain⟨e,n,ne,nf,d⟩:=I.pin p z
   exact⟨k _ _ e,n,Nat.ne_of_lt (Nat.lt_of_lt_of_le (Heap.lt_size e) hC),I.stkne ne nf,d⟩
  ·exact hp p z
 ·unfold GZ
  show _=(tn++cn).length
  have:=congrArg List.length S.caps
  simp only[List.length_map]at this
  simp[this]
end
def GD:TT:=λ_ H Q=>Q true H
def LZ(X:Cx)(ifs:List Expr)(t:TT):Prop :=
 ∀ (pins:List (Addr × Obj)) (s:Shared) (σ:St) (H:Hp) (Q:Bool->Hp->Prop),Inv X pins σ H s->t σ H Q →
  wpAny (model X.prog X.w) X.A (forIn ifs true λc r=>if r=true then do let ok ← isTrue c X.env (eval c X.env);pure (ForInStep.yield ok)else pure (ForInStep.yield r)) (TP X pins σ Q) X.xe s
theorem L4{X:Cx}:LZ X [] GD:=λpins s σ H Q I h=>wpAny_tests_nil ⟨H,I,h⟩
theorem G0{X:Cx}{c:Expr}{t:TT}(h:PT X c t):LZ X [c] t:=λpins s σ H Q I q=>wpAny_tests_one (h pins s σ H Q I q)
theorem kZ {prog:Program} {w:World} {A:Around} {R:Result->Shared->Prop} {s:Shared} {elt target iter:Expr} {ifs:List Expr} {scope:Scope} {pos:Pos} {it acc:Value} {env:Env} (Jn:Nat->Shared->Prop)
    (turn:∀ n s,Jn n s->wpAny (model prog w) A (pyNext it) (λr s₁=>match r with
      | none=>R (.ok .next) s₁
      | some v=>wpAny (model prog w) A (letOwnedTupleGo target it v) (λ_ s₂=>wpAny (model prog w) A (assign target env v) (λ_ s₃ =>
          wpAny (model prog w) A (forIn ifs true λc r=>if r=true then do let ok ← isTrue c env (eval c env);pure (ForInStep.yield ok)else pure (ForInStep.yield r)) (λok s₄ =>
            if ok=true then wpAny (model prog w) A (eval elt env) (λx s₅ =>
              wpAny (model prog w) A (call (.builtin "list.append") [acc,x]) (λ_ s₆=>∃ m,m<n/\Jn m s₆) (λ_ _=>False) s₅) (λ_ _=>False) s₄
            else ∃ m,m<n/\Jn m s₄) (λ_ _=>False) s₃) (λ_ _=>False) s₂) (λ_ _=>False) s₁) (λ_ _=>False) s)
    (n:Nat) (h:Jn n s):codeAny (model prog w) A (.compLoop (.ListComp elt [⟨target,iter,ifs,0⟩] scope pos) 0 it acc env) R s:=by
  refine codeAny_loop rfl Jn (λn' s' hJ=> ?_) n h
  show wpAny _ A ((compTurn (.ListComp elt [⟨target,iter,ifs,0⟩] scope pos) 0 it acc env).onRaise (λx'=>do noteFrame x' env;theTreesLotGoes x')) _ _ s'
  refine wpAny_noted (wpAny_noRaise ?_)
  rw[compTurn_list]
  refine wpAny_bind (wpAny_standAt (wpAny_bind (AO (turn n' s' hJ) λr s₁ h₁=> ?_)))
  cases r with
  | none=>exact wpAny_pure h₁
  | some v =>
    refine wpAny_bind (AO h₁ λ_ s₂ h₂=> ?_)
    refine wpAny_bind (AO h₂ λ_ s₃ h₃=>wpAny_bind (AO h₃ λok s₄ h₄=> ?_))
    cases ok with
    | false=>exact wpAny_pure ⟨rfl,h₄⟩
    | true=>exact wpAny_bind (wpAny_bind (AO h₄ λx' s₅ h₅=>wpAny_bind (AO h₅ λ_ s₆ h₆=>wpAny_pure (wpAny_pure ⟨rfl,h₆⟩))))
def DL(wi:TI)(g:TG)(tt:TT)(te:TE)(k:Nat)(cap:List Nat):TE:=λσ H Q=>wi σ H λJ H1 =>
 ∃ W:Nat->Nat->St->List V->Hp->Prop,(∃ m,W 0 m (GZ k cap σ) [] H1)/\∀ i m σ' ys H,W i m σ' ys H →
  (J.stop i H/\∀ p,H p=none->Q (.ref p) (upd H p (.lst ys))) ∨
  (J.go i H/\ys.length<sizeLine/\∀ x H',J.yld i H x H'->g x σ' H' λσ2 H2=>tt σ2 H2 λb H3 =>
   if b=true then ∃ N:VK,(∀ y H4,N y H4->∃ m',m'<m/\W (i+1) m' σ2 (ys++[y]) H4)/\te σ2 H3 N else ∃ m',m'<m/\W (i+1) m' σ2 ys H3)
structure CompDone(X:Cx)(fp:List Addr)(H:Hp)(s:Shared)(Q:VK)(acc:Value)(C:Addr)(r:Result)(s':Shared):Prop where
 ok:r=.ok .next
 ex:∃ (D:Addr) (ys:List V) (its:List Value) (n:Nat) (H':Hp),acc=.ref D/\Vals ys its/\ys.length<=sizeLine/\s'.heap.get? D=some { cls:=.type "list",data:=.seq its.toArray n }/\s.heap.objs.size<=D/\D≠C/\H' D=none/\H' C=none ∧
  (∃ m,s'.heap.Ns C m)/\Un (C2 X.stack) fp H H' s.heap s'.heap/\HOk X.prog X.w H' s'.heap/\∀ p,H' p=none->Q (.ref p) (upd H' p (.lst ys))
 ge:s.heap.objs.size<=C
 os:s'.os=s.os
 bare:AllBare s'.gens
section
variable{X:Cx}{pins:List (Addr × Obj)}{σ:St}{H:Hp}{s:Shared}
theorem WY {tg iter elt:Expr} {ifs:List Expr} {scope:Scope} {pos:Pos} {g:TG} {tt:TT} {te:TE} {tn cn:List Str} {cap:List Nat} {cl:List (Str × Addr)} {it:Addr} {fp:List Addr} {tn':Nat->Heap->Prop} {J:It} {Q:VK} {E:Value->Shared->Prop}
    (I:Inv X pins σ H s) (S:JP X scope tn cn cap) (hc:X.calm=true)
    (hcl:∀ x c,cl.lookup x=some c->X.env.cells.lookup x=some c) (hcl2:∀ x∈scope.names,x.2=.free->(cl.lookup x.1).isSome=true)
    (T:HC X.prog X.w X.K tg J fp it tn') (st:tn' 0 s.heap) (hf:∀ b∈fp,FpOk X pins H b)
    (hg:∀ C,PG (X.block pins s H (tn++cn) scope cl C fp) tg g) (ht:∀ C,LZ (X.block pins s H (tn++cn) scope cl C fp) ifs tt) (he:∀ C,PE (X.block pins s H (tn++cn) scope cl C fp) elt te)
    (W:Nat->Nat->St->List V->Hp->Prop) {m0:Nat} (w0:W 0 m0 (GZ tn.length cap σ) [] H)
    (step:∀ i m σ' ys H,W i m σ' ys H →
      (J.stop i H/\∀ p,H p=none->Q (.ref p) (upd H p (.lst ys))) ∨
      (J.go i H/\ys.length<sizeLine/\∀ x H',J.yld i H x H'->g x σ' H' λσ2 H2=>tt σ2 H2 λb H3 =>
        if b=true then ∃ N:VK,(∀ y H4,N y H4->∃ m',m'<m/\W (i+1) m' σ2 (ys++[y]) H4)/\te σ2 H3 N else ∃ m',m'<m/\W (i+1) m' σ2 ys H3)) :
    wpAny (model X.prog X.w) X.A (newList []) (λacc s₃=>wpAny (model X.prog X.w) X.A (newFunctionEnv scope X.env.globals cl [] X.env.qual none .none (some X.env)) (λcenv s₄ =>
      codeAny (model X.prog X.w) X.A (.compStart (.ListComp elt [⟨tg,iter,ifs,0⟩] scope pos) 0 (.ref it) acc { cenv with scope:=relabel scope X.env }) (CompDone X fp H s Q acc cenv.locals) s₄) E s₃) E s:=by
  refine wpAny_newObj_type (wpAny_newFunctionEnv S.nocell (by intro y hy;simp at hy) (λh₁ hns₁ hsb₁=> ?_) S.kind)
  dsimp only at hns₁ hsb₁ ⊢
  generalize hH2:s.heap.push { cls:=.type "list",dict:=none,data:=.seq ([]:List Value).toArray }=H2 at hns₁ hsb₁ ⊢
  have hCs:H2.objs.size=s.heap.objs.size+1:=by rw[<-hH2,Heap.size_push]
  generalize hCe:H2.objs.size=C at hns₁ hsb₁ ⊢
  have hC:C=s.heap.objs.size+1:=hCe.symm.trans hCs
  generalize hD:s.heap.objs.size=D at *
  have hDC:D≠C:=by rw[hC];exact Nat.ne_of_lt (Nat.lt_succ_self _)
  have old:∀ b o,s.heap.get? b=some o->h₁.get? b=some o:=λb o e=>by
    have hb:b<D:=by rw[<-hD];exact Heap.lt_size e
    have hbC:b≠C:=DU hb (by rw[hC];exact Nat.le_succ _)
    exact hsb₁.extBut b o hbC (Heap.get?_push_of_some _ (hH2 ▸ Heap.get?_push_of_some _ e))
  have hDo:h₁.get? D=some { cls:=.type "list",data:=.seq ([]:List Value).toArray }:=by
    refine hsb₁.extBut _ _ hDC (Heap.get?_push_of_some _ ?_)
    rw[<-hH2,<-hD]
    exact Heap.get?_push_size _ rfl
  have hfl:∀ b∈fp,b<s.heap.objs.size:=λb hb=>by
    obtain⟨o,e,_⟩:=T.obj 0 _ st b hb
    exact Heap.lt_size e
  have hDn:H D=none:=by rw[<-hD];exact I.hok.fresh (Nat.le_refl _)
  have hDs:D∉C2 X.stack:=λz=>DU (I.stklt z) (Nat.le_of_eq hD) rfl
  have I0:Inv (X.block pins s H (tn++cn) scope cl C fp) [(D,{ cls:=.type "list",data:=.seq ([]:List Value).toArray 0 })] (GZ tn.length cap σ) H { s with heap:=h₁,toks:=s.toks+([]:List (Str × Value)).length } :=
    I.block S hcl hcl2 hf hfl (by omega) old rfl rfl ⟨_,hns₁⟩ λp hp=>by
      rw[List.mem_singleton]at hp
      subst hp
      exact⟨hDo,hDn,hDC,hDs,λv z=>nomatch z⟩
  have fpok:∀ {H':Hp} {o:Obj},(∀ b∈fp,H' b=none)->∀ b∈fp,FpOk (X.block pins s H (tn++cn) scope cl C fp) [(D,o)] H' b:=λ{H' o} hn b hb=>by
    obtain⟨_,f1,f2,f3,f4,f5⟩:=hf b hb
    have hbl:=hfl b hb
    refine⟨hn b hb,?_,I.stkne f1 f2,.inl hb,λx c e=>f4 x c (hcl x c e),λp hp=> ?_⟩
    ·exact DU hbl (by rw[hD,hC];exact Nat.le_succ _)
    · rcases List.mem_append.mp hp with z | z
      ·exact f5 p z
      ·rw[List.mem_singleton]at z;subst z;exact Ne.symm (DU hbl (Nat.le_of_eq hD))
  have st1:tn' 0 h₁:=T.keep _ _ _ st λb _ o e=>old b o e
  have loop:∀ s₃:Shared,s₃={ s with heap:=h₁,toks:=s.toks+([]:List (Str × Value)).length } →
      codeAny (model X.prog X.w) X.A (.compLoop (.ListComp elt [⟨tg,iter,ifs,0⟩] scope pos) 0 (.ref it) (.ref D) (compEnvC scope cl C X.env)) (CompDone X fp H s Q (.ref D) C) s₃:=by
    rintro s₃ rfl
    refine kZ (λn s'=>∃ i σ' ys its nn H',Inv (X.block pins s H (tn++cn) scope cl C fp) [(D,{ cls:=.type "list",data:=.seq (its:List Value).toArray nn })] σ' H' s'/\tn' i s'.heap/\(∀ b∈fp,H' b=none)/\Vals ys its/\ys.length<=sizeLine/\W i n σ' ys H') ?_ m0
      ⟨0,_,[],[],0,H,I0,st1,λb hb=>(hf b hb).1,.nil,Nat.zero_le _,w0⟩
    rintro n s4 ⟨i,σ4,ys,its,nn,H4,I4,st4,fr4,r4,l4,w4⟩
    rcases step i n σ4 ys H4 w4 with⟨stop,qn⟩ | ⟨go,hlt,next⟩
    · refine AO (T.done (X.block pins s H (tn++cn) scope cl C fp) rfl rfl rfl hc i _ s4 σ4 H4 _ I4 (fpok fr4) st4 stop) λr s5 ⟨hr,I5⟩=> ?_
      subst hr
      have hp:=I5.pin (D,_) (List.mem_append_right _ List.mem_cons_self)
      obtain⟨m5,hm5,_⟩:=I5.loc
      exact⟨rfl,⟨D,ys,its,nn,H4,rfl,r4,l4,hp.1,by omega,hDC,hp.2.1,I5.free,⟨m5,hm5⟩,I5.base,I5.hok,qn⟩,by omega,I5.os,I5.bare⟩
    · refine AO (T.item (X.block pins s H (tn++cn) scope cl C fp) rfl rfl rfl hc i _ s4 σ4 H4 _ I4 (fpok fr4) st4 go) λr s5 ⟨u,hr,h5⟩=> ?_
      subst hr
      refine AO h5 λ_ s6 ⟨x,H6,I6,r6,y6,st6,fr6⟩=> ?_
      have I6':=I6.pinned (fpok fr6) (T.obj _ _ st6)
      refine AO (hg C _ s6 σ4 H6 x u _ I6' r6 (next x H6 y6)) λ_ s7 ⟨σ7,H7,I7,q7⟩=> ?_
      refine AO (ht C _ s7 σ7 H7 _ I7 q7) λok s8 ⟨H8,I8,q8⟩=> ?_
      have keepst:∀ {σ9:St} {H9:Hp} {s9:Shared},Inv (X.block pins s H (tn++cn) scope cl C fp) ([(D,{ cls:=.type "list",data:=.seq its.toArray nn })]++LV fp s6.heap) σ9 H9 s9->(∀ b∈fp,∀ o,s6.heap.get? b=some o->s9.heap.get? b=some o)/\∀ b∈fp,H9 b=none:=λ{σ9 H9 s9} I9=>by
        refine⟨λb hb o e=>(I9.pin (b,o) (List.mem_append_right _ (List.mem_append_right _ (NI hb e)))).1,λb hb=> ?_⟩
        obtain⟨o,e,_⟩:=T.obj _ _ st6 b hb
        exact(I9.pin (b,o) (List.mem_append_right _ (List.mem_append_right _ (NI hb e)))).2.1
      cases ok with
      | false =>
        obtain⟨m',hm',w'⟩:=q8
        obtain⟨k1,k2⟩:=keepst I8
        exact⟨m',hm',i+1,σ7,ys,its,nn,H8,I8.unpinned,T.keep _ _ _ st6 k1,k2,r4,l4,w'⟩
      | true =>
        obtain⟨Nw,hN,q8⟩:=q8
        refine AO (he C _ s8 σ7 H8 Nw I8 q8) λv s9 ⟨y,H9,I9,r9,n9⟩=> ?_
        obtain⟨m',hm',w'⟩:=hN y H9 n9
        obtain⟨k1,k2⟩:=keepst I9
        have hp:=I9.pin (D,_) (List.mem_append_right _ (List.mem_append_left _ List.mem_cons_self))
        have e:=hp.1
        have hlen:=r4.length
        refine call_meets F.slot_list_append ⟨_,e,rfl⟩ F.entry_list_append (F.args_list_append_2 _ _) (PySem.list_append D its.toArray nn v (by rw[List.size_toArray];omega)) ⟨e,?_⟩
        have q:=PySem.IsL.update e (λxs=>xs.push v)
        have Ia:Inv (X.block pins s H (tn++cn) scope cl C fp) [] σ7 H9 s9:=I9.pins_of λp hp=>nomatch hp
        have Ib:=Ia.turned (h':=s9.heap.update D (Obj.mapSeq (·.push v))) (t':=s9.toks) (it:=D) (λb o hb eb=>(Heap.get?_update_other _ _ (Ne.symm hb)).trans eb) hp.2.1 hDC (.inr (by show s.heap.objs.size<=D;omega))
          (λx c ec z=>by
            obtain⟨vv,zc⟩:=I.cell x c (hcl x c ec)
            exact DU zc.lt (Nat.le_of_eq hD) z)
          (λp hp'=>by
            rw[List.append_nil]at hp'
            exact DU (I.pinlt hp') (Nat.le_of_eq hD))
        have q':(s9.heap.update D (Obj.mapSeq (·.push v))).get? D=some { cls:=.type "list",data:=.seq (its++[v]).toArray (nn+1) }:=by
          rw[if_neg (by simp)]at q
          rw[<-List.push_toArray]
          exact q
        refine⟨m',hm',i+1,σ7,ys++[y],its++[v],nn+1,H9,Ib.pins_of (λp hp'=> ?_),T.keep _ _ _ st6 λb hb o eb=> ?_,k2,r4.append (.cons r9 .nil),?_,w'⟩
        · rw[List.mem_singleton]at hp'
          subst hp'
          exact⟨q',hp.2.1,hDC,hDs,λv' z=>nomatch z⟩
        · have hbl:=hfl b hb
          exact(Heap.get?_update_other _ _ (Ne.symm (DU hbl (Nat.le_of_eq hD)))).trans (k1 b hb o eb)
        · rw[List.length_append,List.length_singleton]
          omega
  exact codeAny_compStart_list (loop _ rfl) (T.self _ 0 _ _ _ st1 (loop _ rfl))
theorem CompDone.inv{Q:VK}{acc:Value}{C:Addr}{r:Result}{s':Shared}{fp:List Addr}(I:Inv X pins σ H s)(hf:∀ b∈fp,FpOk X pins H b)(h:CompDone X fp H s Q acc C r s') :
  ∃ D H',acc=.ref D/\Inv X pins σ H' s'/\Q (.ref D) H'/\H' C=none/\∃ m,s'.heap.Ns C m:=by
 obtain⟨_,⟨D,ys,its,n,H',rfl,r4,l4,e,hD,hDC,hDn,hCn,hm,u,ok,q⟩,hC,os,bare⟩:=h
 have lt:∀ b o,s.heap.get? b=some o->b≠D:=λb o eb=>DU (Heap.lt_size eb) hD
 have ltH:∀ b o,H b=some o->b≠D:=λb o eb=>DU (I.hok.lt eb) hD
 refine⟨D,upd H' D (.lst ys),rfl,I.call' (ch:=fp) os ⟨u.keep,u.slot,λb o eb n' hx=> ?_,u.there,λb xs eb=> ?_,λb o x eb=> ?_,λb ps eb=> ?_⟩ (ok.track hDn ⟨l4,its,n,r4,e⟩) bare (λb hb=> ?_),q D hDn,?_,hm⟩
 ·rw[AH (lt b o eb)];exact u.free b o eb n' hx
 ·rw[AH (ltH b _ eb)];exact u.tups b xs eb
 ·rw[AH (ltH b _ eb)];exact u.frzs b o x eb
 ·rw[AH (ltH b _ eb)];exact u.tbls b ps eb
 ·obtain⟨_,f1,f2,f3,f4,f5⟩:=hf b hb
  exact⟨f3,f1,f4,f5⟩
 ·rw[AH (Ne.symm hDC)];exact hCn
theorem Inv.letgo{C:Addr}{h':Heap}{s1:Shared}{σ1:St}{H1:Hp}(I:Inv X pins σ H s)(hC:s.heap.objs.size<=C)(I1:Inv X pins σ1 H1 s1)(hn:H1 C=none)(hs:Heap.SameBut C s1.heap h'):Inv X pins σ1 H1 { s1 with heap:=h' }:=by
 refine I1.turned (t':=s1.toks) (it:=C) (λb o hb e=>(hs.2 b hb).trans e) hn (λz=> ?_) (.inr ?_) (λx c e z=> ?_) λp hp z=> ?_
 ·exact DU I.lt hC z.symm
 ·exact Nat.le_trans I.sz hC
 ·obtain⟨v,zc⟩:=I.cell x c e
  exact DU zc.lt hC z
 ·exact DU (I.pinlt hp) hC z
variable{tg iter elt:Expr}{ifs:List Expr}{scope:Scope}{pos:Pos}{wi:TI}{g:TG}{tt:TT}{te:TE}{tn cn:List Str}{cap:List Nat}
theorem FX(S:JP X scope tn cn cap)(hc:X.calm=true)(hi:PI X tg iter wi)
  (hg:∀ pins s H cl C fp,PG (X.block pins s H (tn++cn) scope cl C fp) tg g) (ht:∀ pins s H cl C fp,LZ (X.block pins s H (tn++cn) scope cl C fp) ifs tt) (he:∀ pins s H cl C fp,PE (X.block pins s H (tn++cn) scope cl C fp) elt te)
  (hs:∀ x,foldedSetIterable iter X.env x=pure x:=by intro _;rfl):PE X (.ListComp elt [⟨tg,iter,ifs,0⟩] scope pos) (DL wi g tt te tn.length cap):=by
 intro pins s σ H Q I h
 obtain⟨cl,ecl,hcl,hcl2⟩:=WV (env:=X.env) (scope:=scope) λx hx hxf=>I.ok.has x.1 (S.free x hx hxf)
 rw[eval_ListComp]
 refine wpAny_comprehension_free (use:=none) rfl hs ecl S.kind S.names (AO (hi pins s σ H _ I h) λv s1 h1=>AO h1 λitv s2 h2=> ?_)
 obtain⟨it,fp,tn',J,H2,e,I2,T,st2,f2,W,⟨m0,w0⟩,turn⟩:=h2
 subst e
 refine AO (WY I2 S hc hcl hcl2 T st2 f2 (λC=>hg _ _ _ _ C _) (λC=>ht _ _ _ _ C _) (λC=>he _ _ _ _ C _) W w0 turn) λacc s3 h3=>AO h3 λcenv s4 h4=>codeAny_mono h4 λr s5 h5=> ?_
 have hr:=h5.ok
 subst hr
 obtain⟨D,H',rfl,I5,q5,hCn,m,hm⟩:=h5.inv I2 f2
 exact⟨m,hm,λh' hs'=>⟨.ref D,H',I2.letgo h5.ge I5 hCn hs',rfl,q5⟩⟩
theorem QT{i:Nat}{x:Str}{px spos:Pos}(S:JP X scope tn cn cap)(hc:X.calm=true)(hN:X.N.Nodup)(hi':X.N[i]? =some x)(hx:X.env.scope.names.lookup x=some .local)(hi:PI X tg iter wi)
  (hg:∀ pins s H cl C fp,PG (X.block pins s H (tn++cn) scope cl C fp) tg g) (ht:∀ pins s H cl C fp,LZ (X.block pins s H (tn++cn) scope cl C fp) ifs tt) (he:∀ pins s H cl C fp,PE (X.block pins s H (tn++cn) scope cl C fp) elt te)
  (hsw:swapsWith (.ListComp elt [⟨tg,iter,ifs,0⟩] scope pos) (some (.Name x px)) spos.line X.env=pure true:=by rfl)
  (hs:∀ x,foldedSetIterable iter X.env x=pure x:=by intro _;rfl):PS X (.Assign [.Name x px] (.ListComp elt [⟨tg,iter,ifs,0⟩] scope pos) spos) (A8 (DL wi g tt te tn.length cap) (AS i)):=by
 intro pins s σ H D I h
 obtain⟨cl,ecl,hcl,hcl2⟩:=WV (env:=X.env) (scope:=scope) λx hx hxf=>I.ok.has x.1 (S.free x hx hxf)
 rw[exec_Assign_Name_used _ _ _ _ hsw]
 refine wpAny_bind (wpAny_standAt (wpAny_bind ?_))
 unfold evalThenUse
 refine wpAny_bind ?_
 refine wpAny_comprehension_free (use:=some (assign (.Name x px) X.env)) rfl hs ecl S.kind S.names (AO (hi pins s σ H _ I h) λv s1 h1=>AO h1 λitv s2 h2=> ?_)
 obtain⟨it,fp,tn',J,H2,e,I2,T,st2,f2,W,⟨m0,w0⟩,turn⟩:=h2
 subst e
 refine AO (WY (Q:=λx' H1=>AS i x' σ H1 D.nx) I2 S hc hcl hcl2 T st2 f2 (λC=>hg _ _ _ _ C _) (λC=>ht _ _ _ _ C _) (λC=>he _ _ _ _ C _) W w0 turn) λacc s3 h3=>AO h3 λcenv s4 h4=>codeAny_mono h4 λr s5 h5=> ?_
 have hr:=h5.ok
 subst hr
 obtain⟨Da,H',rfl,I5,q5,hCn,m,hm⟩:=h5.inv I2 f2
 show wpAny _ _ (assign (.Name x px) X.env (.ref Da)) _ _ s5
 refine wpAny_assign_Name (VB I5 hN hi' (.inl hx) (show RelV (.ref Da) (.ref Da)from rfl) (λs6 I6 ⟨a,hsb,ha⟩=> ?_) (.inr hx))
 refine⟨m,hm.sameBut hsb ?_,λh' hs'=> ?_⟩
 ·rcases ha with z | z
  ·exact Ne.symm (z ▸ DU I2.lt h5.ge)
  ·obtain⟨vv,zc⟩:=I2.cell x a z
   exact Ne.symm (DU zc.lt h5.ge)
 ·exact wpAny_pure (wpAny_pure ⟨σ.set i (some (.ref Da)),H',I2.letgo h5.ge I6 hCn hs',q5⟩)
end
end L2
namespace L2
theorem ObjOk.there{P:Program}{w:World}{H:Hp}{h:Heap}{a:Addr}{o:HO}(x:ObjOk P w H h a o):∃ ob,h.get? a=some ob:=by
 cases o with
 | lst xs=>obtain⟨_,_,_,_,e⟩:=x;exact⟨_,e⟩
 | tup xs=>obtain⟨_,_,_,ob,e,_⟩:=x;exact⟨_,e⟩
 | dK kvs=>obtain⟨_,_,_,_,ob,_,_,e,_⟩:=x;exact⟨_,e⟩
 | dT kvs=>obtain⟨_,_,_,_,ob,_,_,e,_⟩:=x;exact⟨_,e⟩
 | set S n=>obtain⟨ob,_,_,_,e,_⟩:=x;exact⟨_,e⟩
 | ins C dx fs=>obtain⟨_,_,_,e,_⟩:=x;exact⟨_,e⟩
 | own y=>exact x
 | xd fs=>obtain⟨_,⟨ob,_,_,e,_⟩,_⟩:=x;exact⟨_,e⟩
 | rng lo hi=>obtain⟨_,_,_,e⟩:=x;exact⟨_,e⟩
 | frz ob u=>obtain⟨e,_⟩:=x;exact⟨_,e⟩
 | tbl ps=>exact⟨_,show h.get? a=some _ from x⟩
 | met f y=>exact⟨_,show h.get? a=some _ from x⟩
 | ext φ =>exact x.2.1
theorem HOk.nh{P:Program}{w:World}{H:Hp}{h:Heap}{a:Addr}(x:HOk P w H h)(e:h.get? a=none):H a=none:=by
 cases q:H a with
 | none=>rfl
 | some o =>
  obtain⟨ob,e'⟩:=(x a o q).there
  rw[e]at e';cases e'
section
variable{X:Cx}{pins:List (Addr × Obj)}{σ:St}{H H':Hp}{s:Shared}{h':Heap}
theorem Inv.stepN{g':Array GenState}{t':Nat}{d':Drawn}{ch:List Addr}(I:Inv X pins σ H s)
  (hch:∀ b∈ch,(b∈X.ex\/X.s₀.heap.get? b=none)/\b≠X.env.locals/\(∀ x c,X.env.cells.lookup x=some c->c≠b)/\∀ p∈X.pn++pins,p.1≠b)
  (keep:∀ b o,b≠X.env.locals->b∉X.fs->b∉ch->s.heap.get? b=some o->H b=none->h'.get? b=some o)
  (slot:∀ b o,b≠X.env.locals->b∈X.fs->b∉ch->s.heap.get? b=some o->H b=none->∃ sl,h'.get? b=some { o with slots:=sl }) (free:∀ b o,b∉ch->s.heap.get? b=some o->H b=none->H' b=none)
  (there:∀ b o,b∉ch->s.heap.get? b=some o->∃ o',h'.get? b=some o')
  (tups:∀ b xs,H b=some (.tup xs)->H' b=some (.tup xs)) (frzs:∀ b o u,H b=some (.frz o u)->H' b=some (.frz o u)) (tbls:∀ b ps,H b=some (.tbl ps)->∃ more,H' b=some (.tbl (ps++more)))
  (ns:∀ m,s.heap.Ns X.env.locals m->h'.Ns X.env.locals m) (hok:HOk X.prog X.w H' h') (hg:AllBare g') :
  Inv X pins σ H' { s with heap:=h',gens:=g',drawn:=d',toks:=t' }:=by
 have neL:∀ b o,X.s₀.heap.get? b=some o->b≠X.env.locals:=λb o e=>Nat.ne_of_lt (Nat.lt_of_lt_of_le (Heap.lt_size e) I.ok.above)
 have neC:∀ b o,X.s₀.heap.get? b=some o->b∉X.ex->b∉ch:=λb o e hx hb=>by
  rcases(hch b hb).1 with z | z
  ·exact hx z
  ·rw[e]at z;cases z
 have cellK:∀ x c,X.env.cells.lookup x=some c->∀ v,s.heap.IsCell c v->h'.IsCell c v:=λx c e v ⟨o,ho,hd⟩=>by
  have nch:c∉ch:=λz=>(hch c z).2.2.1 x c e rfl
  by_cases hc:c∈X.fs
  ·obtain⟨sl,q⟩:=slot c o (I.cne x c e) hc nch ho (I.freeC x c e)
   exact⟨_,q,hd⟩
  ·exact⟨o,keep c o (I.cne x c e) hc nch ho (I.freeC x c e),hd⟩
 refine⟨I.ok,I.os,hg,⟨λb o e n hb hx=> ?_,λb o e n hb hx=> ?_,λb o e n hx=> ?_,λb o e hx=> ?_,λb xs e=>tups b xs (I.base.tups b xs e),λb o xs e=>frzs b o xs (I.base.frzs b o xs e),λb ps e=> ?_⟩,?_,λx c e=> ?_,?_,λx c e=> ?_,λp hp=> ?_,hok,I.len⟩
 ·exact keep b o (neL b o e) hb (neC b o e hx) (I.base.keep b o e n hb hx) (I.base.free b o e n hx)
 ·obtain⟨sl,e1⟩:=I.base.slot b o e n hb hx
  obtain⟨sl',e2⟩:=slot b _ (neL b o e) hb (neC b o e hx) e1 (I.base.free b o e n hx)
  exact⟨sl',e2⟩
 ·obtain⟨o',e1⟩:=I.base.there b o e hx
  exact free b o' (neC b o e hx) e1 (I.base.free b o e n hx)
 ·obtain⟨o',e1⟩:=I.base.there b o e hx
  exact there b o' (neC b o e hx) e1
 ·obtain⟨m1,e1⟩:=I.base.tbls b ps e
  obtain⟨m2,e2⟩:=tbls b _ e1
  exact⟨m1++m2,by rw[e2,Array.append_assoc]⟩
 ·obtain⟨m,hn,hl⟩:=I.loc
  refine⟨m,ns m hn,λi x v e1 e2 e3=> ?_⟩
  obtain⟨u,r,l⟩:=hl i x v e1 e2 e3
  refine⟨u,r,?_⟩
  rcases l with l | ⟨k,c,e,z⟩
  ·exact .inl l
  ·exact .inr ⟨k,c,e,cellK x c e _ z⟩
 ·obtain⟨v,z⟩:=I.cell x c e
  exact⟨v,cellK x c e v z⟩
 ·obtain⟨m,⟨o,_,_,ho,_⟩,_⟩:=I.loc
  exact free _ o (λz=>(hch _ z).2.1 rfl) ho I.free
 ·obtain⟨v,o,ho,hd⟩:=I.cell x c e
  exact free c o (λz=>(hch c z).2.2.1 x c e rfl) ho (I.freeC x c e)
 ·obtain⟨e,n,ne,nf,d⟩:=I.pin p hp
  have nch:p.1∉ch:=λz=>(hch p.1 z).2.2.2 p hp rfl
  exact⟨keep p.1 p.2 ne nf nch e n,free p.1 p.2 nch e n,ne,nf,d⟩
end
structure Fly(bad:Addr->Prop)(H:Hp)(h:Heap)(e:Addr)(cls:Value):Prop where
 nb:¬ bad e
 free:H e=none
 ex:∃ (oe:Obj) (vs:Array Value),h.get? e=some oe/\oe.cls=cls/\oe.dict=none/\oe.data=.fields vs/\(vs[1]? =some .none ∨
  ∃ (T:Addr) (oT:Obj) (ts:Array Value),vs[1]? =some (.ref T)/\¬ bad T/\H T=none/\T≠e/\h.get? T=some oT/\oT.data=.fields ts/\ts[3]? =some .none)
theorem Fly.mono{bad bad':Addr->Prop}{H:Hp}{h:Heap}{e:Addr}{cls:Value}(F:Fly bad H h e cls)(k:∀ a,bad' a->bad a):Fly bad' H h e cls:=by
 obtain⟨nb,fr,oe,vs,h1,h2,h3,h4,h5⟩:=F
 refine⟨λz=>nb (k _ z),fr,oe,vs,h1,h2,h3,h4,?_⟩
 rcases h5 with z | ⟨T,oT,ts,a,b,c⟩
 ·exact .inl z
 ·exact .inr ⟨T,oT,ts,a,λz=>b (k _ z),c⟩
section
variable{M:Model}{A:Around}{E:Value->Shared->Prop}{s:Shared}
theorem WZ{base:Heap}{env:Env}{outer:List Env}{L e:Addr}{oe:Obj}{vs:Array Value}{hd:Value}{nx:Bool}{Q:Unit->Shared->Prop}
  (hfr:A.frames=some (env::outer)) (hl:s.heap.FunFrames base (env::outer)) (hf:env.frame=some L) (he:s.heap.get? e=some oe) (hdt:oe.data=.fields vs) (hsz:1<vs.size)
  (h:∀ h' T oT ts,(∀ b o,s.heap.get? b=some o->b≠e->b∉C2 (env::outer)->h'.get? b=some o)->(∀ b o,s.heap.get? b=some o->b≠e->∃ sl,h'.get? b=some { o with slots:=sl }) →
   h'.get? e=some (oe.mapFields (·.setIfInBounds 1 (.ref T)))->s.heap.objs.size<=T->h'.get? T=some oT->oT.data=.fields ts->ts[3]? =some (rawInt L)->Q () { s with heap:=h' }) :
  wpAny M A (do let a ← frameOf env;let pl ← entryPlaceOf L nx;let b ← EntryCells.newEntry hd a .none (rawInt L) .none pl;setField (.ref e) 1 b) Q E s:=by
 have hne:e∉(env::outer).filterMap (·.frame):=λz=>by
  obtain⟨_,o,ho,hn⟩:=hl.mem z
  rw[he]at ho;cases ho
  exact hn vs hdt
 refine wpAny_bind (wpAny_frameOf_fun hfr hl hf λh1 hs1=> ?_)
 refine wpAny_bind (wpAny_entryPlaceOf λpl hpl=> ?_)
 unfold EntryCells.newEntry newFields
 refine wpAny_bind (wpAny_newObj_type ?_ (hpl.sizeOk5 _ _ _ _ _))
 have he1:h1.get? e=some oe:=(hs1.2.1 e hne).trans he
 refine wpAny_setField (Heap.get?_push_of_some _ he1) hdt hsz ?_
 have hTe:h1.objs.size≠e:=Nat.ne_of_gt (Heap.lt_size he1)
 have hd3:=Obj.data_mapFields hdt (·.setIfInBounds 1 (Value.ref h1.objs.size))
 have keep:∀ b o,b≠e->h1.get? b=some o->((h1.push { cls:=.type "traceback",dict:=none,data:=.fields ([hd,.ref L,.none,rawInt L,.none]++(if pl.isEmpty then List.replicate 6 Value.none else pl)).toArray }).update e (Obj.mapFields (·.setIfInBounds 1 (Value.ref h1.objs.size)))).get? b=some o:=λb o hb e1=>by
  rw[Heap.get?_update_other _ _ (Ne.symm hb)]
  exact Heap.get?_push_of_some _ e1
 refine h _ h1.objs.size _ _ (λb o e1 hb hnf=>keep b o hb ((hs1.2.1 b hnf).trans e1)) (λb o e1 hb=> ?_) (Heap.get?_update_self _ (Heap.get?_push_of_some _ he1) (Obj.isFreed_of_fields hd3)) (by rw[hs1.1];exact Nat.le_refl _)
  ((Heap.get?_update_other _ _ (Ne.symm hTe)).trans (Heap.get?_push_size _ rfl)) rfl ?_
 ·obtain⟨sl,e2⟩:=hs1.2.2 b o e1
  exact⟨sl,keep b _ hb e2⟩
 ·first | (simp;done) | (rcases hpl with rfl | ⟨_,_,_,_,_,_,_,rfl⟩<;>simp)
structure QU(fr:List Addr)(bad:Addr->Prop)(H:Hp)(e:Addr)(cls:Value)(h h':Heap):Prop where
 ch:∃ ch:List Addr,(∀ b∈ch,¬ bad b/\H b=none/\∃ o vs,h.get? b=some o/\o.data=.fields vs)/\(∀ b o,h.get? b=some o->b∉ch->b∉fr->h'.get? b=some o) ∧
  (∀ b o,h.get? b=some o->b∉ch->∃ sl,h'.get? b=some { o with slots:=sl })
 fly:Fly bad H h' e cls
theorem W0{A2:Around}{E2:Value->Shared->Prop}{base:Heap}{env:Env}{outer:List Env}{L e:Addr}{cls:Value}{bad:Addr->Prop}{H:Hp}{Q:Unit->Shared->Prop}
  (hfr:A.frames=some (env::outer)) (hl:s.heap.FunFrames base (env::outer)) (hf:env.frame=some L) (F:Fly bad H s.heap e cls) (hb:∀ a,s.heap.objs.size<=a->¬ bad a) (hH:∀ a,s.heap.objs.size<=a->H a=none)
  (h:∀ h',QU (C2 (env::outer)) bad H e cls s.heap h'->Q () { s with heap:=h' }) :
  wpAny M A (noteFrame (.ref e) env) (λ_ s2=>wpAny M A2 (setFlight (.ref e) none) Q E2 s2) E s:=by
 obtain⟨nb,fr,oe,vs,he,hcls,hdict,hd,htb⟩:=F
 have DI:∀ (s1:Shared) (ch:List Addr) (h':Heap) (T:Addr) (oT:Obj) (ts:Array Value) (oe1:Obj),(∀ b o,s.heap.get? b=some o->s1.heap.get? b=some o\/b∈ch)->s1.heap.objs.size=s.heap.objs.size->e∈ch->(∀ b∈ch,¬ bad b/\H b=none/\∃ o vs,s.heap.get? b=some o/\o.data=.fields vs) →
   oe1.cls=cls->oe1.dict=none->oe1.data=.fields vs->1<vs.size →
   (∀ b o,s1.heap.get? b=some o->b≠e->b∉C2 (env::outer)->h'.get? b=some o)->(∀ b o,s1.heap.get? b=some o->b≠e->∃ sl,h'.get? b=some { o with slots:=sl }) →
   h'.get? e=some (oe1.mapFields (·.setIfInBounds 1 (.ref T)))->s1.heap.objs.size<=T->h'.get? T=some oT->oT.data=.fields ts->ts[3]? =some (rawInt L)->wpAny M A2 (setFlight (.ref e) none) Q E2 { s with heap:=h' }:=by
  intro s1 ch h' T oT ts oe1 hk1 hsz hech hch hcls1 hdict1 hd1 hv k1 k2 e1 hT e2 hdT h3
  have hT':s.heap.objs.size<=T:=hsz ▸ hT
  have hTe:T≠e:=Ne.symm (DU (Heap.lt_size he) hT')
  have hde:=Obj.data_mapFields hd1 (·.setIfInBounds 1 (Value.ref T))
  unfold setFlight
  refine wpAny_bind (wpAny_field e1 hde (x:=.ref T) (by simp[hv]) ?_)
  rw[if_pos (show(Value.ref T != Value.none)=true from by simp)]
  have hs3:3<ts.size:=(Array.getElem?_eq_some_iff.mp h3).1
  refine wpAny_setField e2 hdT hs3 (h _ ?_)
  have oth:∀ b,b≠T->(h'.update T (Obj.mapFields (·.setIfInBounds 3 ((none:Option Addr).elim Value.none λf=>rawInt f)))).get? b=h'.get? b:=λb hb'=>Heap.get?_update_other _ _ (Ne.symm hb')
  have ltT:∀ b o,s.heap.get? b=some o->b≠T:=λb o eb=>DU (Heap.lt_size eb) hT'
  refine⟨⟨ch,hch,λb o eb hbc hbf=> ?_,λb o eb hbc=> ?_⟩,nb,fr,_,_,(oth e (Ne.symm hTe)).trans e1,(Obj.cls_mapFields _ _).trans hcls1,?_,hde,.inr ⟨T,_,_,by simp[hv],hb T hT',hH T hT',hTe,Heap.get?_update_self _ e2 (Obj.isFreed_of_fields (Obj.data_mapFields hdT _)),Obj.data_mapFields hdT _,by simp[hs3]⟩⟩
  ·rw[oth b (ltT b o eb)]
   rcases hk1 b o eb with z | z
   ·exact k1 b o z (λz'=>hbc (z' ▸ hech)) hbf
   ·exact absurd z hbc
  ·rw[oth b (ltT b o eb)]
   rcases hk1 b o eb with z | z
   ·exact k2 b o z (λz'=>hbc (z' ▸ hech))
   ·exact absurd z hbc
  ·obtain⟨c1,c2,c3,c4⟩:=oe1
   dsimp only at hd1
   subst hd1
   exact hdict1
 unfold noteFrame
 simp only[hf]
 rcases htb with h1 | ⟨T0,oT0,ts0,h1,nbT,frT,neT,eT,dT,h3⟩
 ·have hv:1<vs.size:=(Array.getElem?_eq_some_iff.mp h1).1
  refine wpAny_bind (wpAny_field he hd h1 ?_)
  rw[if_neg (by decide)]
  refine WZ hfr hl hf he hd hv λh' T oT ts k1 k2 e1 hT e2 hdT h3=> ?_
  exact DI s [e] h' T oT ts oe (λb o eb=>.inl eb) rfl (by simp) (λb hb'=>by rw[List.mem_singleton]at hb';subst hb';exact⟨nb,fr,oe,vs,he,hd⟩) hcls hdict hd hv k1 k2 e1 hT e2 hdT h3
 ·have hv:1<vs.size:=(Array.getElem?_eq_some_iff.mp h1).1
  refine wpAny_bind (wpAny_field he hd h1 ?_)
  rw[if_pos (show(Value.ref T0 != Value.none)=true from by simp)]
  refine wpAny_bind (wpAny_field eT dT h3 ?_)
  rw[if_neg (show ¬ ((Value.none == rawInt L)=true)from by simp[rawInt])]
  refine wpAny_bind (wpAny_setField eT dT (Array.getElem?_eq_some_iff.mp h3).1 ?_)
  have oth:∀ b,b≠T0->(s.heap.update T0 (Obj.mapFields (·.setIfInBounds 3 Value.none))).get? b=s.heap.get? b:=λb hb'=>Heap.get?_update_other _ _ (Ne.symm hb')
  have nf:∀ b o,s.heap.get? b=some o->(∀ vs,o.data≠.fields vs)->b≠T0:=λb o eb hn z=>by rw[z,eT]at eb;cases eb;exact hn ts0 dT
  refine WZ hfr (hl.of_keeps λb o eb hn=>⟨o,(oth b (nf b o eb hn)).trans eb,rfl⟩) hf ((oth e (Ne.symm neT)).trans he) hd hv λh' T oT ts k1 k2 e1 hT e2 hdT h3'=> ?_
  exact DI { s with heap:=s.heap.update T0 (Obj.mapFields (·.setIfInBounds 3 Value.none)) } [e,T0] h' T oT ts oe
   (λb o eb=>by
    by_cases z:b=T0
    ·exact .inr (by simp[z])
    ·exact .inl ((oth b z).trans eb))
   (Heap.size_after_update ..) (by simp)
   (λb hb'=>by
    rcases List.mem_cons.mp hb' with z | z
    ·subst z;exact⟨nb,fr,oe,vs,he,hd⟩
    ·rw[List.mem_singleton]at z;subst z;exact⟨nbT,frT,oT0,ts0,eT,dT⟩)
   hcls hdict hd hv k1 k2 e1 hT e2 hdT h3'
end
def Cx.bad(X:Cx)(pins:List (Addr × Obj)):Addr->Prop:=λa=>X.s₀.heap.get? a≠none\/∃ p∈X.pn++pins,p.1=a
structure XOk(X:Cx)(E:St->XK):Prop where
 po:PassesOwn (model X.prog X.w) X.A X.env X.xe
 ex:X.ex=[]
 calm:X.calm=true
 go:∀ (pins:List (Addr × Obj)) (σ:St) (H:Hp) (s:Shared) (e:Addr) (cls:Value),Inv X pins σ H s->Fly (X.bad pins) H s.heap e cls->E σ cls none H->X.xe (.ref e) s
section
variable{X:Cx}{pins:List (Addr × Obj)}{σ:St}{H:Hp}{s:Shared}
theorem Inv.notbad(I:Inv X pins σ H s)(hx:X.ex=[]){a:Addr}(h:s.heap.get? a=none):¬ X.bad pins a:=λz=>by
 rcases z with z | ⟨p,hp,rfl⟩
 ·cases q:X.s₀.heap.get? a with
  | none=>exact z q
  | some o =>
   obtain⟨o',e⟩:=I.base.there a o q (by rw[hx];simp)
   rw[h]at e;cases e
 ·have:=(I.pin p hp).1
  rw[h]at this;cases this
theorem W1{h:Heap}{a:Addr}(z:h.objs.size<=a):h.get? a=none:=by
 cases q:h.get? a with
 | none=>rfl
 | some o=>exact absurd (Nat.lt_of_lt_of_le (Heap.lt_size q) z) (Nat.lt_irrefl _)
theorem Inv.noted{e:Addr}{cls:Value}{h':Heap}(I:Inv X pins σ H s)(N:QU (C2 X.stack) (X.bad pins) H e cls s.heap h'):Inv X pins σ H { s with heap:=h' }:=by
 obtain⟨⟨ch,hch,k1,k2⟩,_⟩:=N
 obtain⟨mL,⟨oL,esL,epL,hoL,dL,rL⟩,_⟩:=id I.loc
 have chne:∀ b∈ch,∀ o,s.heap.get? b=some o->∃ vs,o.data=.fields vs:=λb hb o eb=>by
  obtain⟨_,_,o',vs,e',d⟩:=hch b hb
  rw[eb]at e';cases e'
  exact⟨vs,d⟩
 have hL:X.env.locals∉ch:=λz=>by
  obtain⟨vs,d⟩:=chne _ z _ hoL
  rw[dL]at d;cases d
 refine I.stepN (g':=s.gens) (t':=s.toks) (d':=s.drawn) (ch:=ch) (λb hb=>⟨.inr ?_,λz=>hL (z ▸ hb),λx c ec z=> ?_,λp hp z=>(hch b hb).1 (.inr ⟨p,hp,z⟩)⟩)
  (λb o hbL hbf hbc eb _=>k1 b o eb hbc λz=>(List.mem_cons.mp (I.stkSub b z)).elim hbL hbf) (λb o _ _ hbc eb _=>k2 b o eb hbc) (λ_ _ _ _ n=>n) (λb o hbc eb=> ?_) (λ_ _ q=>q) (λ_ _ _ q=>q) (λb ps q=>⟨#[],by rw[q];simp⟩) (λm hm=> ?_) (λb o eb=> ?_) I.bare
 ·cases q:X.s₀.heap.get? b with
  | none=>rfl
  | some o=>exact absurd (.inl (by rw[q];simp)) (hch b hb).1
 ·obtain⟨v,oc,hoc,hd⟩:=I.cell x c ec
  obtain⟨vs,d⟩:=chne c (z ▸ hb) oc hoc
  rw[hd]at d;cases d
 ·obtain⟨sl,q⟩:=k2 b o eb hbc
  exact⟨_,q⟩
 ·obtain⟨o',es',ep',ho',r'⟩:=hm
  rw[hoL]at ho';cases ho'
  obtain⟨sl,q⟩:=k2 _ _ hoL hL
  exact⟨_,es',ep',q,r'⟩
 ·refine(I.hok b o eb).stay (λc u hc q=>k1 c u q ?_ ?_) (λ_ q=>q) λ_ _ q=>q
  ·intro z
   have fr:=(hch c z).2.1
   rcases hc with rfl | hc
   ·rw[eb]at fr;cases fr
   ·rw[hc]at fr;cases fr
  ·intro z
   have fr:=I.stkFree c z
   rcases hc with rfl | hc
   ·rw[eb]at fr;cases fr
   ·rw[hc]at fr;cases fr
def C4(P:Program)(w:World):FB:=λouter H s E e s'=>∃ (ea:Addr) (cls:Value) (H':Hp),e=.ref ea/\s'.os=s.os/\AllBare s'.gens/\Un (C2 outer) [] H H' s.heap s'.heap/\HOk P w H' s'.heap/\Fly (λa=>s.heap.get? a≠none) H' s'.heap ea cls/\E cls none H'
theorem W2{P:Program}{w:World}{outer:List Env}{H:Hp}{s:Shared}{e:Value}{s':Shared}(h:C4 P w outer H s (λ_ _ _=>False) e s'):False:=by
 obtain⟨_,_,_,_,_,_,_,_,_,f⟩:=h
 exact f
theorem XOk.passes{E:St->XK}(x:XOk X E):FC (C4 X.prog X.w) X E:=λpins σ H s e s' I h=>by
 obtain⟨ea,cls,H',rfl,os,bare,un,hok,F,q⟩:=h
 refine x.go pins σ H' s' ea cls (I.call' (ch:=[]) os un hok bare λb z=>absurd z (by simp)) (F.mono λa z=> ?_) q
 rcases z with z | ⟨p,hp,rfl⟩
 ·cases q0:X.s₀.heap.get? a with
  | none=>exact absurd q0 z
  | some o =>
   obtain⟨o',e⟩:=I.base.there a o q0 (by rw[x.ex];simp)
   rw[e];simp
 ·rw[(I.pin p hp).1];simp
theorem W3{P:Program}{w:World}:FC (C4 P w) X (λ_=>E0):=λ_ _ _ _ _ _ _ h=>(W2 h).elim
end
theorem k8{P:Program}{w:World}{K:W.Frag}{mg:Str->Option Value}{base:Heap}{N:List Str}{qual:Str}{scope:Scope}{f:Addr}{cd:Value}{A:Around}{outer:List Env}{s:Shared}{H:Hp}{E:XK} :
  XOk (GW (C4 P w) P w K mg base N qual scope f cd A outer s H E) (λ_=>E) where
 po:=PassesOwn.leaving
 ex:=rfl
 calm:=rfl
 go:=λpins σ H' s' e cls I F q=>by
  have hfr:(A.deeper (envOfC qual scope s.heap.objs.size f cd)).frames=some (envOfC qual scope s.heap.objs.size f cd::outer):=I.ok.frames
  show wpAny _ _ (leaving _ _) _ _ _
  unfold leaving
  refine wpAny_bind (W0 hfr I.stack rfl F (λa z=>I.notbad rfl (W1 z)) (λa z=>I.hok.fresh z) λh' N=> ?_)
  have I':=I.noted N
  exact⟨e,cls,H',rfl,I'.os,I'.bare,I'.base,I'.hok,N.fly.mono λa z=>.inl z,q⟩
structure Exc(K:W.Frag)(C:Addr):Prop where
 ex:W.excIn K C [.type "ValueError",.type "Exception",.type "BaseException",.type "object"] "ValueError.__new__"=true
theorem Exc.obj{K:W.Frag}{C:Addr}{h:Heap}(x:Exc K C)(X:K.In h):∃ (tl:List Value) (N:Addr) (nm q:Str) (bs:List Value) (hdct:Bool) (sn:List Str) (sub:List Value) (ab:Bool) (col:Option Bool) (dd:Option Addr) (k0 k1 k2 k3 k5:Option Value) (mN:Str->Option Value),
  h.get? C=some (excClassObj nm q C N bs tl hdct sn sub ab col dd k0 k1 k2 k3 k5 "ValueError.__new__")/\h.Ns N mN/\mN "__init__"=none/\OwnTail h [.type "ValueError",.type "Exception",.type "BaseException",.type "object"] tl:=by
 have q:=x.ex
 unfold W.excIn at q
 split at q
 ·rename_i dd cd sl ho
  split at q
  ·rename_i C' bm k0 k1 k2 k3 n k5 hm hs
   simp only[Bool.and_eq_true,beq_iff_eq,Bool.not_eq_true']at q
   obtain⟨⟨⟨⟨⟨rfl,rfl⟩,hdel⟩,ht⟩,hok⟩,hni⟩:=q
   obtain⟨nm,bs,mro,ns,qn,hd,sn,sub,ab,col,del⟩:=cd
   dsimp only at hm hdel hok hni
   subst hm hdel
   obtain⟨l⟩:=sl
   simp only at hs
   subst hs
   exact⟨bm,ns,nm,qn,bs,hd,sn,sub,ab,col,dd,k0,k1,k2,k3,k5,_,X _ _ ho,.of_isNs (W.isNs_of_in X hok),W.nsMap_none_of_in X hok hni,W.tail_of_in X ht⟩
  ·cases q
 ·cases q
def JQ(C:Addr)(E:St->XK)(t:TA):TS:=λ_ σ H=>t σ H λvs H1=>vs.length<=sizeLine/\E σ (.ref C) none H1
section
variable{X:Cx}{E:St->XK}{C:Addr}{x:Str}{np cpos pos:Pos}{e:Expr}{es:List Expr}{t:TA}
theorem NY(hx:XOk X E)(c:Exc X.K C)(hg:Gl X x)(hm:X.mg x=some (.ref C))(ha:PA X (e::es) t)(hdb:(x ==("__debug__":Str))=false:=by decide)
  (he:starEach (e::es) X.env=(false,eval e X.env)::starEach es X.env:=by rfl) (hpl:(backTo cpos (starEach es X.env)).any (·.1)=false:=by rfl) :
  PS X (.Raise (some (.Call (.Name x np) (e::es) [] cpos)) none pos) (JQ C E t):=by
 intro pins s σ H D I h
 obtain⟨tl,N,nm,q,bs,hdct,sn,sub,ab,col,dd,k0,k1,k2,k3,k5,mN,hC,hN,hni,T⟩:=c.obj I.mod.kin
 have hpl2:(backTo cpos (starEach (e::es) X.env)).any (·.1)=false:=by
  rw[he]
  show(false || (backTo cpos (starEach es X.env)).any (·.1))=false
  rw[hpl];rfl
 refine wpAny_Raise_call_subT (C:=C) (nm:=nm) (q:=q) (N:=N) (bs:=bs) (bm:=tl) (hdct:=hdct) (sn:=sn) (sub:=sub) (ab:=ab) (col:=col) (dd:=dd) (k0:=k0) (k1:=k1) (k2:=k2) (k3:=k3) (k5:=k5)
  PySem.F.excBase_ValueError (mN:=mN) (T.hasType PySem.F.excBase_ValueError.hasBase) (I.ok.hd hx.calm) hpl2 hni (LP I hg hm ⟨rfl,?_⟩ hdb)
 have hq:=ha cpos pins s σ H _ I h
 rw[he]at hq ⊢
 refine Calls.evalArgs_plain (AO hq λus s1 ⟨vs,H1,I1,r,hz,q1⟩=>⟨rfl,?_,I1.bk _ _ hC,hN.keeps I1.bk,T.keeps I1.bk,λh' ea hM=> ?_⟩)
 ·show us.length<=_
  rw[<-r.length];exact hz
 ·have I2:Inv X pins σ H1 { s1 with heap:=h' }:=I1.kept (t':=s1.toks) hM.keeps
  obtain⟨tt,h1,h2,h3⟩:=hM.there
  refine hx.go pins σ H1 _ ea (.ref C) I2 ⟨λz=>I1.notbad hx.ex hM.new z,I1.hok.nh hM.new,_,_,h1,rfl,rfl,rfl,.inl rfl⟩ q1
end
end L2
namespace L2
section
variable(P:Program)(w:World)(K:W.Frag)(mg:Str->Option Value)(base:Heap)
structure CI(k:Nat)(x:Str)(ps:List Str)(sp:Sp):Prop where
 ex:∃ (f:Addr) (fd:FuncData),FnOk P w K mg base (C4 P w) k f fd ps sp/\mg x=some (.ref f)/\W.keepIn K (.ref f)=true/\Binds K fd ps []
structure BY(C:Addr)(k:Nat)(m:Str)(ps:List Str)(sp:Sp):Prop where
 ex:∃ (f:Addr) (fd:FuncData),FnOk P w K mg base (C4 P w) k f fd ps sp/\NP K C m f/\Binds K fd ps []
structure NZ(C:Addr)(k:Nat)(x:Str)(ps:List Str)(sp:Sp):Prop where
 ex:∃ (f:Addr) (fd:FuncData),FnOk P w K mg base (C4 P w) k f fd ps sp/\Mk K C f/\mg x=some (.ref C)/\Binds K fd ps []
end
section
variable{X:Cx}{E:St->XK}{k:Nat}{x m:Str}{ps:List Str}{sp:Sp}{C:Addr}{p pos apos:Pos}{e o:Expr}{es:List Expr}{ta:TE}{t:TA}
theorem BK(c:CI X.prog X.w X.K X.mg X.base k x ps sp)(hr:Room k X.A)(hp:FC (C4 X.prog X.w) X E)(hg:Gl X x)(ha:PA X (e::es) t)(hdb:(x ==("__debug__":Str))=false:=by decide)
  (he:starEach (e::es) X.env=(false,eval e X.env)::starEach es X.env:=by rfl) (hpl:(backTo pos (starEach es X.env)).any (·.1)=false:=by rfl):PE X (.Call (.Name x p) (e::es) [] pos) (BC sp [] E t):=by
 obtain⟨f,fd,F,hm,hk,hb⟩:=c.ex
 exact jF F hr hg hm hk hb .nil hp ha hdb he hpl
theorem CO{pl:Sem Bool}(he:PE X o ta)(cl:Cls X.K C)(c:BY X.prog X.w X.K X.mg X.base C k m ps sp)(hr:Room k X.A)(hp:FC (C4 X.prog X.w) X E)(ha:PA X (e::es) t)
  (hst:starEach (e::es) X.env=(false,eval e X.env)::starEach es X.env:=by rfl) (hpl:(backTo pos (starEach es X.env)).any (·.1)=false:=by rfl)
  (ht:eval (.Call (.Attribute o m apos) (e::es) [] pos) X.env=(do
   let ov ← eval o X.env
   standAt apos.atName
   let (f,first) ← holding [ov] (getMethod ov m pl)
   callWith pos f first (backTo pos (starEach (e::es) X.env)) (backToKw pos (keywordEach [] X.env))):=by rfl):PE X (.Call (.Attribute o m apos) (e::es) [] pos) (BO C m sp [] E ta t):=by
 obtain⟨f,fd,F,hm,hb⟩:=c.ex
 exact jG he cl hm F hr hb .nil hp ha hst hpl ht
theorem GE{pl:Sem Bool}(he:PE X o ta)(cl:Cls X.K C)(c:BY X.prog X.w X.K X.mg X.base C k m ps sp)(hr:Room k X.A)(hp:FC (C4 X.prog X.w) X E)
  (ht:eval (.Call (.Attribute o m apos) [] [] pos) X.env=(do
   let ov ← eval o X.env
   standAt apos.atName
   let (f,first) ← holding [ov] (getMethod ov m pl)
   callWith pos f first (backTo pos (starEach [] X.env)) (backToKw pos (keywordEach [] X.env))):=by rfl):PE X (.Call (.Attribute o m apos) [] [] pos) (BO C m sp [] E ta AE):=by
 obtain⟨f,fd,F,hm,hb⟩:=c.ex
 exact jH he cl hm F hr hb .nil hp ht
theorem QW(c:NZ X.prog X.w X.K X.mg X.base C k x ps sp)(hr:Room (k+1) X.A)(hp:FC (C4 X.prog X.w) X E)(hg:Gl X x)(ha:PA X (e::es) t)(hdb:(x ==("__debug__":Str))=false:=by decide)
  (he:starEach (e::es) X.env=(false,eval e X.env)::starEach es X.env:=by rfl) (hpl:(backTo pos (starEach es X.env)).any (·.1)=false:=by rfl):PE X (.Call (.Name x p) (e::es) [] pos) (JL C sp [] E t):=by
 obtain⟨f,fd,F,M,hm,hb⟩:=c.ex
 exact jJ M F hr hg hm hb .nil hp ha hdb he hpl
end
theorem Fun.okE{P:Program}{w:World}{K:W.Frag}{mg:Str->Option Value}{base:Heap}{x qual:Str}{st:Stmt}{f:Addr}{fd:FuncData}{N ps:List Str}{k:Nat}{sp:Sp}(F:Fun K x qual st f fd)(S:FnScope N ps (AT st))(len:∀ vs H Q E,sp vs H Q E->vs.length=ps.length)
  (hbody:∀ (cdv:Value) (A:Around) (outer:List Env) (s:Shared) (H:Hp) (vs:List V) (Q:VK) (E:XK),Room k (A.deeper (envOfC qual (AT st) s.heap.objs.size f cdv))->sp vs H Q E →
   ∃ t,E5 (GW (C4 P w) P w K mg base N qual (AT st) f cdv A outer s H E) (BJ st) t/\t { nx:=λ_ H'=>Q .non H',rt:=Q } (BD N vs) H):FnOk P w K mg base (C4 P w) (k+1) f fd ps sp:=by
 obtain⟨oc,od,kV,doc,pm,an,cdv,ct,osl,rfl,l,c⟩:=F.ex
 exact jL l c S len λA outer s H vs Q E hr h=>hbody cdv A outer s H vs Q E hr h
def GV(mg:Str->Option Value)(x:Str)(v:V):Prop:=∃ u,mg x=some u/\RelV v u
theorem N0{X:Cx}{x:Str}{v:V}{pos:Pos}(g:GV X.mg x v)(hg:Gl X x)(hd:(x ==("__debug__":Str))=false:=by decide):PE X (.Name x pos) (tC v):=by
 obtain⟨u,hm,r⟩:=g
 exact g9 hg hm r hd
theorem W4{α :Type}(p: α ->Bool):∀ (l:List α) (i:Nat),(∀ x,l[i]? =some x->p x=false)->(l.eraseIdx i).find? p=l.find? p
 | [],_,_=>rfl
 | x::r,0,h=>by
  have:p x=false:=h x rfl
  simp[List.eraseIdx,List.find?,this]
 | x::r,i+1,h=>by
  rw[List.eraseIdx_cons_succ]
  simp only[List.find?_cons]
  rw[W4 p r i λy hy=>h y (by simpa using hy)]
theorem lA{v:Value}{x y:Str}(h:v.isStr x=true)(hxy:y≠x):v.isStr y=false:=by
 cases v with
 | str z t =>
  have e:z=x:=by simpa [Value.isStr]using h
  subst e
  simp only[Value.isStr]
  exact beq_eq_false_iff_ne.mpr (Ne.symm hxy)
 | _=>simp[Value.isStr]at h
theorem lB{M:Model}{A:Around}{E:Value->Shared->Prop}{s:Shared}{a:Addr}{m:Str->Option Value}{name:Str}{Q:Bool->Shared->Prop}(hn:s.heap.Ns a m)
  (hQ:∀ h' m',h'.Ns a m'->(∀ y,y≠name->m' y=m y)->Heap.SameBut a s.heap h'->Q (m name).isSome { s with heap:=h' }):wpAny M A (nsDel a name) Q E s:=by
 obtain⟨o,es,ep,ho,hd,hk,hm⟩:=id hn
 have hno:es.any (·.refKey)=false:=by
  rw[Array.any_eq_false'];intro e' he';obtain⟨n',t',h'⟩:=hk e' he';simp[DictEntry.refKey,h']
 have hiff:(m name).isSome=es.any (·.key.isStr name):=by
  rw[<-hm name]
  simp only[nsFind,findBy,Option.isSome_map]
  obtain⟨l⟩:=es
  rw[Bool.eq_iff_iff]
  simp[List.find?_isSome]
 have hhas:nsHas name o=pure (es.any (·.key.isStr name)):=by
  rw[nsHas_eq];unfold nsHasByArray;rw[hd]
  show(if(es.any λx=>x.key.isStr name)=true then _ else _)=_
  generalize (es.any λx=>x.key.isStr name)=b'
  cases b'<;>simp[hno]
 unfold nsDel
 refine wpAny_bind (wpAny_loadPart ho ?_)
 rw[hhas]
 refine wpAny_bind (wpAny_pure ?_)
 rw[<-hiff]
 cases hmn:(m name).isSome
 ·have z:=hQ s.heap m hn (λ_ _=>rfl) (.refl ..)
  rw[hmn]at z
  exact wpAny_pure z
 ·refine wpAny_bind (wpAny_updatePart ho (wpAny_pure ?_))
  have key:∃ m',(s.heap.update a (Obj.dropName name)).Ns a m'/\∀ y,y≠name->m' y=m y:=by
   obtain⟨cl,d,dt,sl⟩:=o
   obtain rfl:dt=.dict es ep:=hd
   cases hi:es.findIdx? (·.key.isStr name)with
   | some i =>
    refine⟨_,⟨_,_,ep+1,Heap.get?_update_self _ ho (by simp only[Obj.dropName_eq,Obj.dropNameByArray,hi]<;>rfl),(by simp only[Obj.dropName_eq,Obj.dropNameByArray,hi]<;>rfl),hk.erase i,λ_=>rfl⟩,λy hy=> ?_⟩
    rw[<-hm y]
    unfold nsFind findBy
    obtain⟨l⟩:=es
    congr 1
    have hi':l.findIdx? (·.key.isStr name)=some i:=by simpa using hi
    obtain⟨hlt,hp,_⟩:=List.findIdx?_eq_some_iff_getElem.mp hi'
    show Array.find? _ (Array.eraseIdxIfInBounds ⟨l⟩ i)=_
    rw[<-Array.find?_toList,<-Array.find?_toList]
    have:(Array.eraseIdxIfInBounds ⟨l⟩ i).toList=l.eraseIdx i:=by
     rw[Array.eraseIdxIfInBounds_eq]
     split
     ·simp
     ·rename_i hz;exact absurd hlt (by simpa using hz)
    rw[this]
    refine W4 _ l i λx hx=> ?_
    rw[List.getElem?_eq_getElem hlt]at hx
    cases hx
    exact lA hp hy
   | none=>exact⟨m,⟨_,_,ep,Heap.get?_update_self _ ho (by simp only[Obj.dropName_eq,Obj.dropNameByArray,hi]<;>rfl),(by simp only[Obj.dropName_eq,Obj.dropNameByArray,hi]<;>rfl),hk,hm⟩,λ_ _=>rfl⟩
  obtain⟨m',hm',hy⟩:=key
  have z:=hQ _ m' hm' hy (Heap.SameBut.update ..)
  rw[hmn]at z
  exact z
theorem N1{X:Cx}{pins:List (Addr × Obj)}{σ:St}{H:Hp}{s:Shared}{A:Around}{E:Value->Shared->Prop}{i:Nat}{n:Str}{pos:Pos}{Q:Unit->Shared->Prop}(I:Inv X pins σ H s)(hN:X.N.Nodup)(hi:X.N[i]? =some n)(hl:X.env.scope.names.lookup n=some .local)
  (h:∀ s',Inv X pins (σ.set i none) H s'->Q () s'):wpAny (model X.prog X.w) A (do bindName X.env n .none;unbindBehindTheSuite X.env n pos) Q E s:=by
 have hp:(X.env.scope.kind == .class || (X.env.scope.kind == .module && X.env.locals != X.env.globals))=false:=by rw[I.ok.kind];rfl
 have hk:X.env.kindOf n=some .local:=hl
 have hiσ:i<σ.length:=by rw[I.len];exact(List.getElem?_eq_some_iff.mp hi).1
 refine wpAny_bind (wpAny_bindName (NC I hN hi (.inl hl) (show RelV .non Value.none from rfl) (λs1 I1=> ?_) (.inr hl)))
 unfold unbindBehindTheSuite
 refine wpAny_onRaise ?_
 unfold unbindName
 refine wpAny_bind (wpAny_point (wpAny_bind ?_))
 unfold deleteName
 simp only[hk,hp]
 rw[if_neg (by decide)]
 obtain⟨m,hn,hloc⟩:=id I1.loc
 have hmn:∃ u,m n=some u:=by
  obtain⟨u,_,l⟩:=hloc i n .non hi (by rw[List.getElem?_set_self hiσ]) (.inl hl)
  rcases l with⟨_,e⟩ | ⟨z,_⟩
  ·exact⟨u,e⟩
  ·rw[hk]at z;rcases z with z | z<;>cases z
 refine wpAny_bind (lB hn λh' m' hn' hy hs=> ?_)
 obtain⟨u,hu⟩:=hmn
 rw[hu]
 simp only[Option.isSome_some,Bool.not_true,Bool.false_eq_true,if_false]
 refine wpAny_pure (wpAny_point (h _ ?_))
 have nL:∀ b o,X.s₀.heap.get? b=some o->b≠X.env.locals:=λb o e=>DU (Heap.lt_size e) I1.ok.above
 refine⟨I1.ok,I1.os,I1.bare,⟨λb o e n' hb hx=>(hs.2 b (nL b o e)).trans (I1.base.keep b o e n' hb hx),λb o e n' hb hx=> ?_,I1.base.free,λb o e hx=> ?_,I1.base.tups,I1.base.frzs,I1.base.tbls⟩,⟨m',hn',λj y v e1 e2 e3=> ?_⟩,λx c e=> ?_,I1.free,I1.freeC,λp hp'=> ?_,λb o e=> ?_,?_⟩
 ·obtain⟨sl,q⟩:=I1.base.slot b o e n' hb hx
  exact⟨sl,(hs.2 b (nL b o e)).trans q⟩
 ·obtain⟨o',q⟩:=I1.base.there b o e hx
  exact⟨o',(hs.2 b (nL b o e)).trans q⟩
 ·have hj:j≠i:=λz=>by
   subst z
   rw[List.getElem?_set_self hiσ]at e2
   cases e2
  rw[List.getElem?_set_ne (Ne.symm hj)]at e2
  obtain⟨u',r',l⟩:=hloc j y v e1 (by rw[List.getElem?_set_ne (Ne.symm hj)];exact e2) e3
  refine⟨u',r',?_⟩
  rcases l with⟨z,e⟩ | ⟨z,c,e,q⟩
  ·exact .inl ⟨z,by rw[hy y λz=>hj (PQ hN e1 (z ▸ hi))];exact e⟩
  ·exact .inr ⟨z,c,e,q.sameBut hs (I1.cne y c e)⟩
 ·obtain⟨v,q⟩:=I1.cell x c e
  exact⟨v,q.sameBut hs (I1.cne x c e)⟩
 ·obtain⟨q1,q2,q3,q4⟩:=I1.pin p hp'
  exact⟨(hs.2 _ q3).trans q1,q2,q3,q4⟩
 ·refine(I1.hok b o e).stay (λc u' hc q=>(hs.2 c ?_).trans q) (λ_ q=>q) λ_ _ q=>q
  intro z
  have fr:=I1.free
  rw[<-z]at fr
  rcases hc with rfl | hc
  ·rw[e]at fr;cases fr
  ·rw[hc]at fr;cases fr
 ·rw[List.length_set];exact I.len
abbrev Cx.tri(X:Cx)(pn:List (Addr × Obj))(xe:Value->Shared->Prop):Cx:={ X with pn:=pn,xe:=xe }
abbrev Cx.hand(X:Cx)(e:Addr):Cx:={ X with A:=X.A.mark (some (.ref e)),calm:=false,xe:=λ_ _=>False }
section
variable{X:Cx}{pins:List (Addr × Obj)}{σ:St}{H:Hp}{s:Shared}
theorem Cx.Ok.tri{pn:List (Addr × Obj)}{xe:Value->Shared->Prop}(ok:X.Ok):(X.tri pn xe).Ok :=
 ⟨ok.mod,ok.kind,ok.glob,ok.blt,ok.above,ok.inj,ok.has,ok.cab,ok.hd,ok.frames,ok.stk,ok.exf,ok.bs,ok.bsz,ok.noex,ok.exfs,ok.funs,ok.frf⟩
theorem Inv.tri{xe:Value->Shared->Prop}(I:Inv X pins σ H s):Inv (X.tri (X.pn++pins) xe) [] σ H s :=
 ⟨I.ok.tri,I.os,I.bare,I.base,I.loc,I.cell,I.free,I.freeC,λp hp=>I.pin p (by simpa using hp),I.hok,I.len⟩
theorem Cx.Ok.untri{pn:List (Addr × Obj)}{xe:Value->Shared->Prop}(ok:(X.tri pn xe).Ok):X.Ok :=
 ⟨ok.mod,ok.kind,ok.glob,ok.blt,ok.above,ok.inj,ok.has,ok.cab,ok.hd,ok.frames,ok.stk,ok.exf,ok.bs,ok.bsz,ok.noex,ok.exfs,ok.funs,ok.frf⟩
theorem Inv.untri{pl:List (Addr × Obj)}{xe:Value->Shared->Prop}(I:Inv (X.tri (X.pn++pins) xe) pl σ H s):Inv X pins σ H s :=
 ⟨I.ok.untri,I.os,I.bare,I.base,I.loc,I.cell,I.free,I.freeC,λp hp=>I.pin p (List.mem_append_left _ hp),I.hok,I.len⟩
theorem Cx.Ok.hand{e:Addr}(ok:X.Ok):(X.hand e).Ok :=
 ⟨ok.mod,ok.kind,ok.glob,ok.blt,ok.above,ok.inj,ok.has,ok.cab,(λz=>nomatch z),ok.frames,ok.stk,ok.exf,ok.bs,ok.bsz,ok.noex,ok.exfs,ok.funs,ok.frf⟩
theorem Inv.hand{e:Addr}(I:Inv X pins σ H s):Inv (X.hand e) pins σ H s:=⟨I.ok.hand,I.os,I.bare,I.base,I.loc,I.cell,I.free,I.freeC,I.pin,I.hok,I.len⟩
theorem Inv.unhand{e:Addr}(ok:X.Ok)(I:Inv (X.hand e) pins σ H s):Inv X pins σ H s:=⟨ok,I.os,I.bare,I.base,I.loc,I.cell,I.free,I.freeC,I.pin,I.hok,I.len⟩
end
def G1(e:Addr)(cls:Value):Heap->Prop:=λh=>∃ oe vs,h.get? e=some oe/\oe.cls=cls/\oe.dict=none/\oe.data=.fields vs
abbrev TH:=Value->Ends->St->Hp->Prop
def W5:TH:=λ_ _ _ _=>False
def Ends.drop(D:Ends)(i:Nat):Ends:={ nx:=λσ H=>D.nx (σ.set i none) H,rt:=D.rt,bk:=λσ H=>D.bk (σ.set i none) H,ct:=λσ H=>D.ct (σ.set i none) H }
def W6(p:Value->Option Bool)(i:Nat)(ts:TS)(DI:TH):TH:=λcls D σ H =>
 (p cls=some true/\∀ e,H e=none->ts (D.drop i) (σ.set i (some (.ref e))) (upd H e (.ext (G1 e cls))))\/(p cls=some false/\DI cls D σ H)
def PH(X:Cx)(hs:List ExceptHandler)(th:TH):Prop :=
 ∀ (pins:List (Addr × Obj)) (s:Shared) (σ:St) (H:Hp) (D:Ends) (e:Addr) (cls:Value),X.ex=[]->Inv X pins σ H s->Fly (X.bad pins) H s.heap e cls->th cls D σ H →
  wpAny (model X.prog X.w) X.A (handleBy (.ref e) X.env hs) (SP X pins D) X.xe s
def PX(X:Cx)(t:Expr)(p:Value->Option Bool):Prop :=
 ∀ (pins:List (Addr × Obj)) (s:Shared) (σ:St) (H:Hp) (e:Addr) (cls:Value) (b:Bool) (Q:Bool->Shared->Prop) (E:Value->Shared->Prop),Inv X pins σ H s->Fly (X.bad pins) H s.heap e cls->p cls=some b →
  (∀ s',Inv X pins σ H s'->Fly (X.bad pins) H s'.heap e cls->Q b s')->wpAny (model X.prog X.w) (X.A.mark (some (.ref e))) (eval t X.env) (λc s1=>wpAny (model X.prog X.w) (X.A.mark (some (.ref e))) (excMatches (.ref e) c) Q E s1) E s
def QX(tb:(St->XK)->TS)(th:TH):TS:=λD σ H=>tb (λσ' cls _ H'=>th cls D σ' H') D σ H
section
variable{X:Cx}{hs:List ExceptHandler}{h₀:ExceptHandler}{th:TH}{body:List Stmt}{tb:(St->XK)->TS}{pos:Pos}
theorem lC:PH X [] W5:=λ_ _ _ _ _ _ _ _ _ _ h=>h.elim
theorem lD{bad:Addr->Prop}{H:Hp}{h:Heap}{e:Addr}{cls:Value}{M:Model}(F:Fly bad H h e cls):W.Looks M h (typeOf (.ref e)) cls:=by
 obtain⟨_,_,oe,vs,h1,h2,_⟩:=F
 subst h2
 exact(W.Looks.ld h1).andThen .now
theorem lE{x:Str}{np:Pos}{C:Value}(hg:Gl X x)(hm:X.mg x=some C)(hd:(x ==("__debug__":Str))=false:=by decide):PX X (.Name x np) (λcls=>W.exmOne X.K cls C):=by
 intro pins s σ H e cls b Q E I F hp h
 have I2:Inv (X.hand e) pins σ H s:=I.hand
 refine LP (X:=X.hand e) I2 hg hm ?_ hd
 exact W.exm_one I.kIn (lD F) hp _ _ _ s (λ_ _ z=>z) (h s I F)
theorem lF{M:Model}{A:Around}{E:Value->Shared->Prop}{s:Shared}{bad:Addr->Prop}{H:Hp}{fr:List Addr}{e:Addr}{cls:Value}{Q:Unit->Shared->Prop}(F:Fly bad H s.heap e cls)
  (h:∀ h',QU fr bad H e cls s.heap h'->Q () { s with heap:=h' }):wpAny M A (setFlight (.ref e) none) Q E s:=by
 have F0:=F
 obtain⟨nb,frr,oe,vs,he,hcls,hdict,hd,htb⟩:=F
 unfold setFlight
 rcases htb with h1 | ⟨T,oT,ts,h1,nbT,frT,neT,eT,dT,h3⟩
 ·refine wpAny_bind (wpAny_field he hd h1 ?_)
  rw[if_neg (by decide)]
  exact wpAny_pure (h s.heap ⟨⟨[],(λb hb=>nomatch hb),λb o eb _ _=>eb,λb o eb _=>⟨o.slots,eb⟩⟩,F0⟩)
 ·refine wpAny_bind (wpAny_field he hd h1 ?_)
  rw[if_pos (show(Value.ref T != Value.none)=true from by simp)]
  have hs3:3<ts.size:=(Array.getElem?_eq_some_iff.mp h3).1
  refine wpAny_setField eT dT hs3 (h _ ?_)
  have oth:∀ b,b≠T->(s.heap.update T (Obj.mapFields (·.setIfInBounds 3 ((none:Option Addr).elim Value.none λf=>rawInt f)))).get? b=s.heap.get? b:=λb hb'=>Heap.get?_update_other _ _ (Ne.symm hb')
  refine⟨⟨[T],λb hb=> ?_,λb o eb hb _=>(oth b λz=>hb (by simp[z])).trans eb,λb o eb hb=>⟨o.slots,(oth b λz=>hb (by simp[z])).trans eb⟩⟩,nb,frr,oe,vs,(oth e (Ne.symm neT)).trans he,hcls,hdict,hd,.inr ⟨T,_,_,h1,nbT,frT,neT,Heap.get?_update_self _ eT (Obj.isFreed_of_fields (Obj.data_mapFields dT _)),Obj.data_mapFields dT _,by simp[hs3]⟩⟩
  rw[List.mem_singleton]at hb
  subst hb
  exact⟨nbT,frT,oT,ts,eT,dT⟩
theorem SP.unhand{pins:List (Addr × Obj)}{D:Ends}{e:Addr}{f:Flow}{s:Shared}(ok:X.Ok)(h:SP (X.hand e) pins D f s):SP X pins D f s:=by
 cases f with
 | next=>obtain⟨σ1,H1,I1,q⟩:=h;exact⟨σ1,H1,I1.unhand ok,q⟩
 | brk=>obtain⟨σ1,H1,I1,q⟩:=h;exact⟨σ1,H1,I1.unhand ok,q⟩
 | cont=>obtain⟨σ1,H1,I1,q⟩:=h;exact⟨σ1,H1,I1.unhand ok,q⟩
 | ret u=>obtain⟨v,σ1,H1,I1,r,q⟩:=h;exact⟨v,σ1,H1,I1.unhand ok,r,q⟩
theorem lG{t:Expr}{n:Str}{i:Nat}{b₀:Stmt}{suite:List Stmt}{hp:Pos}{p:Value->Option Bool}{ts:TS}{DI:List ExceptHandler}{tr:TH}(hN:X.N.Nodup)(hi:X.N[i]? =some n)(hl:X.env.scope.names.lookup n=some .local)(ht:PX X t p)
  (hsu:∀ e,E5 (X.hand e) (b₀::suite) ts) (hr:PH X DI tr):PH X (.ExceptHandler (some t) (some n) (b₀::suite) hp::DI) (W6 p i ts tr):=by
 intro pins s σ H D e cls hx I F h
 have hmain:∃ b,p cls=some b/\(b=true->∀ e,H e=none->ts (D.drop i) (σ.set i (some (.ref e))) (upd H e (.ext (G1 e cls))))/\(b=false->tr cls D σ H):=by
  rcases h with⟨h1,h2⟩ | ⟨h1,h2⟩
  ·exact⟨true,h1,λ_=>h2,λz=>nomatch z⟩
  ·exact⟨false,h1,(λz=>nomatch z),λ_=>h2⟩
 obtain⟨b,hp',hT,hF⟩:=hmain
 refine wpAny_handleBy_cons (codeAny_handlers_test (ht pins s σ H e cls b _ _ I F hp' λs' I' F'=> ?_)) (by intro z;cases z)
 cases b with
 | false=>exact hr pins s' σ H D e cls hx I' F' (hF rfl)
 | true =>
  refine codeAny_handlers_suite_as (lF (fr:=C2 X.stack) F' λh' N=> ?_)
  have I2:=I'.noted N
  obtain⟨nb,fr,oe,vs,he,hcls,hdict,hd,_⟩:=N.fly
  have I3:Inv X pins σ (upd H e (.ext (G1 e cls))) { s' with heap:=h' }:=by
   have hs0:X.s₀.heap.get? e=none:=by
    cases q:X.s₀.heap.get? e with
    | none=>rfl
    | some o=>exact absurd (.inl (by rw[q];simp)) nb
   have ltH:∀ b o,H b=some o->b≠e:=λb o eb z=>by rw[z,fr]at eb;cases eb
   refine⟨I2.ok,I2.os,I2.bare,⟨I2.base.keep,I2.base.slot,λb o eb n' hx'=> ?_,I2.base.there,λb xs eb=> ?_,λb o u eb=> ?_,λb ps eb=> ?_⟩,I2.loc,I2.cell,?_,λx c ec=> ?_,λp hp=> ?_,I2.hok.track fr ?_,I2.len⟩
   ·rw[AH (λz=>by rw[z,hs0]at eb;cases eb)];exact I2.base.free b o eb n' hx'
   ·rw[AH (ltH _ _ (I2.base.tups b xs eb))];exact I2.base.tups b xs eb
   ·rw[AH (ltH _ _ (I2.base.frzs b o u eb))];exact I2.base.frzs b o u eb
   ·obtain⟨m,q⟩:=I2.base.tbls b ps eb
    exact⟨m,by rw[AH (ltH _ _ q)];exact q⟩
   ·obtain⟨m,⟨oL,es,ep,hoL,dL,_⟩,_⟩:=I2.loc
    rw[AH (λz=>by rw[z]at hoL;rw[show h'.get? e=some oe from he]at hoL;cases hoL;rw[hd]at dL;cases dL)]
    exact I2.free
   ·obtain⟨v,oc,hoc,hdc⟩:=I2.cell x c ec
    rw[AH (λz=>by rw[z]at hoc;rw[show h'.get? e=some oe from he]at hoc;cases hoc;rw[hd]at hdc;cases hdc)]
    exact I2.freeC x c ec
   ·obtain⟨q1,q2,q3⟩:=I2.pin p hp
    refine⟨q1,?_,q3⟩
    rw[AH (λz=>nb (.inr ⟨p,hp,z⟩))];exact q2
   ·refine⟨⟨oe,vs,he,hcls,hdict,hd⟩,⟨oe,he⟩,λh1 h2 hq k=> ?_⟩
    obtain⟨o1,v1,z1,z2⟩:=hq
    exact⟨o1,v1,k _ z1,z2⟩
  refine NC I3 hN hi (.inl hl) (show RelV (.ref e) (.ref e)from rfl) (λs4 I4=> ?_) (.inr hl)
  refine wpAny_mono (hsu e pins s4 _ _ (D.drop i) I4.hand (hT rfl e fr)) (λf s5 h5=> ?_) λ_ _ z=>z.elim
  have h6:=h5.unhand I.ok
  show wpAny _ _ (do bindName X.env n .none;unbindBehindTheSuite X.env n hp) _ _ _
  cases f with
  | next =>
   obtain⟨σ1,H1,I1,q⟩:=h6
   exact N1 I1 hN hi hl λs7 I7=>⟨_,H1,I7,q⟩
  | brk =>
   obtain⟨σ1,H1,I1,q⟩:=h6
   exact N1 I1 hN hi hl λs7 I7=>⟨_,H1,I7,q⟩
  | cont =>
   obtain⟨σ1,H1,I1,q⟩:=h6
   exact N1 I1 hN hi hl λs7 I7=>⟨_,H1,I7,q⟩
  | ret u =>
   obtain⟨v,σ1,H1,I1,r,q⟩:=h6
   exact N1 I1 hN hi hl λs7 I7=>⟨v,_,H1,I7,r,q⟩
theorem lH(hx:X.ex=[])(hcalm:X.calm=true)(hst:X.stack=X.env::X.outer)(hfr:X.env.frame=some X.env.locals)(hb:∀ (E:St->XK) (pn:List (Addr × Obj)) (xe:Value->Shared->Prop),XOk (X.tri pn xe) E->E5 (X.tri pn xe) body (tb E))(hh:PH X (h₀::hs) th) :
  PS X (.Try body (h₀::hs) [] [] pos) (QX tb th):=by
 intro pins s σ H D I h
 refine wpAny_Try_except ?_
 let xe:Value->Shared->Prop:=λe s₁=>wpAny (model X.prog X.w) X.A (noteFrame e X.env) (λ_ s₂=>wpAny (model X.prog X.w) X.A (setFlight e none) (λ_ s₃=>wpAny (model X.prog X.w) X.A (handleBy e X.env (h₀::hs)) (SP X pins D) X.xe s₃) X.xe s₂) X.xe s₁
 have xok:XOk (X.tri (X.pn++pins) xe) (λσ' cls _ H'=>th cls D σ' H'):=by
  refine⟨PassesOwn.looking,hx,hcalm,λpl σ' H' s' e cls I' F' q=> ?_⟩
  have Iu:=I'.untri
  refine W0 (hst ▸ Iu.ok.frames) (hst ▸ Iu.stack) hfr F' (λa z=>I'.notbad hx (W1 z)) (λa z=>I'.hok.fresh z) λh' N=> ?_
  rw[<-hst]at N
  have I2:Inv (X.tri (X.pn++pins) xe) pl σ' H' { s' with heap:=h' }:=I'.noted N
  exact hh pins _ σ' H' D e cls hx I2.untri (N.fly.mono λa z=>by
   rcases z with z | ⟨p,hp,z⟩
   ·exact .inl z
   ·exact .inr ⟨p,List.mem_append_left _ hp,z⟩) q
 refine wpAny_mono (hb _ _ xe xok [] s σ H D I.tri h) (λf s1 hs1=> ?_) λ_ _ z=>z
 cases f with
 | next =>
  obtain⟨σ1,H1,I1,q⟩:=hs1
  exact wpAny_execs_nil ⟨σ1,H1,I1.untri,q⟩
 | brk=>obtain⟨σ1,H1,I1,q⟩:=hs1;exact⟨σ1,H1,I1.untri,q⟩
 | cont=>obtain⟨σ1,H1,I1,q⟩:=hs1;exact⟨σ1,H1,I1.untri,q⟩
 | ret u=>obtain⟨v,σ1,H1,I1,r,q⟩:=hs1;exact⟨v,σ1,H1,I1.untri,r,q⟩
end
end L2
namespace L2
mutual
inductive Rep(K:W.Frag)(H:Hp):V->PyData->Prop
 | non:Rep K H .non .none
 | bl (b:Bool):Rep K H (.bl b) (.bool b)
 | int (i:Int):Rep K H (.int i) (.int i)
 | str (x:Str):Rep K H (.str x) (.str x)
 | lst {a:Addr} {xs:List V} {ds:List PyData}:SqL K H a xs->RepAll K H xs ds->Rep K H (.ref a) (.list ds)
 | tup {a:Addr} {xs:List V} {ds:List PyData}:SqT K H a xs->RepAll K H xs ds->Rep K H (.ref a) (.tuple ds)
inductive RepAll(K:W.Frag)(H:Hp):List V->List PyData->Prop
 | nil:RepAll K H [] []
 | cons {v:V} {d:PyData} {vs:List V} {ds:List PyData}:Rep K H v d->RepAll K H vs ds->RepAll K H (v::vs) (d::ds)
end
section
variable{X:Cx}{pins:List (Addr × Obj)}{σ:St}{H:Hp}{s:Shared}
mutual
theorem Rep.reads(I:Inv X pins σ H s):∀ {v:V} {d:PyData} {u:Value},Rep X.K H v d->RelV v u->∃ as,Reads s.heap u d as
 | _,_,_,.non,r=>by cases (show _=Value.none from r);exact⟨_,.none⟩
 | _,_,_,.bl b,r=>by cases (show _=Value.bool b from r);exact⟨_,.bool b⟩
 | _,_,_,.int i,r=>by obtain⟨t,e⟩:=(show ∃ t,_=Value.int i t from r);cases e;exact⟨_,.int i t⟩
 | _,_,_,.str x,r=>by obtain⟨t,e⟩:=(show ∃ t,_=Value.str x t from r);cases e;exact⟨_,.str x t⟩
 | _,_,_,.lst (a:=a) h hr,r=>by
  cases (show _=Value.ref a from r)
  obtain⟨its,rv,p,_⟩:=I.list h
  obtain⟨as,q⟩:=RepAll.reads I hr rv
  obtain⟨o,e1,e2,n,e3⟩:=p.isList
  exact⟨_,.list e1 e2 e3 q⟩
 | _,_,_,.tup (a:=a) h hr,r=>by
  cases (show _=Value.ref a from r)
  obtain⟨its,rv,p,_⟩:=I.tuple h
  obtain⟨as,q⟩:=RepAll.reads I hr rv
  obtain⟨o,e1,e2,n,e3⟩:=p
  exact⟨_,.tuple e1 e2 e3 q⟩
theorem RepAll.reads(I:Inv X pins σ H s):∀ {vs:List V} {ds:List PyData} {us:List Value},RepAll X.K H vs ds->Vals vs us->∃ as,ReadsAll s.heap us ds as
 | _,_,_,.nil,.nil=>⟨_,.nil⟩
 | _,_,_,.cons h hr,.cons r rr=>by
  obtain⟨as,q⟩:=Rep.reads I h r
  obtain⟨bs,q2⟩:=RepAll.reads I hr rr
  exact⟨_,.cons q q2⟩
end
end
abbrev shp(d:PyData):Prop:=PySem.SeqAt.shaped d=true
def CM(K:W.Frag):R2:=λx y H Q=>if E9 x y=true then Q (.bl (decide (x=y))) H else ∃ d e,Rep K H x d/\Rep K H y e/\shp d/\shp e/\Q (.bl (PyData.eqv d e)) H
def CP(K:W.Frag):R2:=λx y H Q=>if E9 x y=true then Q (.bl (!decide (x=y))) H else ∃ d e,Rep K H x d/\Rep K H y e/\shp d/\shp e/\Q (.bl (!PyData.eqv d e)) H
section
variable{X:Cx}
theorem EH(hu:X.A.units+64<cLine):CA X (compareOp .Eq) (CM X.K):=by
 intro pins s σ H x y v u Q I rx ry h
 unfold CM at h
 split at h
 ·rename_i hs
  exact iP pins s σ H x y v u Q I rx ry ⟨hs,h⟩
 ·obtain⟨d,e,rd,re,sd,se,q⟩:=h
  obtain⟨as,ra⟩:=rd.reads I rx
  obtain⟨bs,rb⟩:=re.reads I ry
  exact eq_dataH ra rb sd se hu ⟨.bl _,H,I,rfl,q⟩
theorem DV(hu:X.A.units+64<cLine):CA X (compareOp .NotEq) (CP X.K):=by
 intro pins s σ H x y v u Q I rx ry h
 unfold CP at h
 split at h
 ·rename_i hs
  exact iQ pins s σ H x y v u Q I rx ry ⟨hs,h⟩
 ·obtain⟨d,e,rd,re,sd,se,q⟩:=h
  obtain⟨as,ra⟩:=rd.reads I rx
  obtain⟨bs,rb⟩:=re.reads I ry
  exact ne_dataH ra rb sd se hu ⟨.bl _,H,I,rfl,q⟩
def QY(K:W.Frag):R2:=λx y H Q=>∃ a b ys,x=.ref a/\y=.ref b/\SqT K H a []/\SqT K H b ys/\Q (.ref b) H
theorem lI:CA X (binaryOp .Add) (QY X.K):=by
 intro pins s σ H x y v u Q I rx ry h
 obtain⟨a,b,ys,rfl,rfl,ha,hb,q⟩:=h
 cases rx
 cases ry
 obtain⟨its,r1,⟨⟨c1,c2,c3,c4⟩,e1,e2,n1,e3⟩,_⟩:=I.tuple ha
 obtain⟨its2,r2,⟨⟨d1,d2,d3,d4⟩,f1,f2,n2,f3⟩,_⟩:=I.tuple hb
 obtain rfl:c1=_:=e2
 obtain rfl:c3=_:=e3
 obtain rfl:d1=_:=f2
 obtain rfl:d3=_:=f3
 cases r1
 exact concat_meets ⟨_,e1,rfl⟩ ⟨_,f1,rfl⟩ noFill_tuple_add seq_tuple_add PySem.F.slot_tuple_add PySem.F.entry_tuple_add (PySem.F.args_tuple_add_2 _ _) (tuple_addW0 a b #[] its2.toArray n1 n2 c2 d2 c4 d4 rfl) ⟨e1,f1,.ref b,H,I,rfl,q⟩
def C5(K:W.Frag):R2:=λx y H Q=>match x,y with
 | .int i,.int j=>Q (.int (i+j)) H
 | .str i,.str j=>i.length+j.length<=sizeLine/\Q (.str (i++j)) H
 | .ref _,.ref _=>QH x y H Q\/QE K x y H Q\/QY K x y H Q
 | _,_=>False
theorem DW:CA X (binaryOp .Add) (C5 X.K):=by
 intro pins s σ H x y v u Q I rx ry h
 cases x<;>cases y<;>simp only[C5]at h
 ·exact iI pins s σ H _ _ v u Q I rx ry ⟨_,_,rfl,rfl,h⟩
 ·exact iV pins s σ H _ _ v u Q I rx ry ⟨_,_,rfl,rfl,h⟩
 ·rcases h with h | h
  ·exact kA pins s σ H _ _ v u Q I rx ry h
  rcases h with h | h
  ·exact jT pins s σ H _ _ v u Q I rx ry h
  ·exact lI pins s σ H _ _ v u Q I rx ry h
def GF:R2:=λx y H Q=>match x,y with
 | .int i,.int j=>Q (.bl (decide (i<j))) H
 | .str i,.str j=>Q (.bl (decide (i.cps.toList<j.cps.toList))) H
 | _,_=>False
def HG:R2:=λx y H Q=>match x,y with
 | .int i,.int j=>Q (.bl (decide (i<=j))) H
 | .str i,.str j=>Q (.bl (!decide (j.cps.toList<i.cps.toList))) H
 | _,_=>False
end
end L2
namespace L2
theorem lJ:fillsNumberSlot (.type "tuple") "mul"=pure false :=
 PySem.fillsNumberSlot_seq (id:="tuple.__mul__") (r:=some (.builtin "tuple.__rmul__")) F.slot_tuple_mul.lookup (by decide +kernel) F.slot_tuple_rmul.lookup (by decide +kernel)
theorem lK:seqRepeat? (.type "tuple")=pure (some (.builtin "tuple.__mul__")):=by
 unfold seqRepeat?
 rw[PySem.seqSlot_of (T:="tuple") (name:="__mul__") (id:="tuple.__mul__") F.slot_tuple_mul.lookup (by decide +kernel),PySem.seqSlot_of (T:="tuple") (name:="__rmul__") (id:="tuple.__rmul__") F.slot_tuple_rmul.lookup (by decide +kernel)]
 rfl
theorem lL(a:Int)(t:Tok)(l:Addr)(items:Array Value)(dd:Option Addr)(n:Nat)(sl:Array (Option Value)) :
  Meets (Builtin.«int.__rmul__» ⟨[.int a t,.ref l],[]⟩) (λ_ R s=>s.heap.get? l=some ⟨.type "tuple",dd,.seq items n,sl⟩/\R (.ok (.ret Value.notImplemented)) s) :=
 .of_wp λprog w A R s h=>by obtain⟨hp,g,d,tk,os⟩:=s;obtain⟨hl,h⟩:=h;wp_walk;exact⟨_,rfl,h⟩
theorem lM(l:Addr)(items:Array Value)(dd:Option Addr)(n:Nat)(sl:Array (Option Value))(x:Int)(u:Tok)(h1:1<x)(h2:x<2 ^ 63)(hne:items.isEmpty=false)(hz:items.size * x.toNat<=sizeLine) :
  Meets (Builtin.«tuple.__mul__» ⟨[.ref l,.int x u],[]⟩) (λ_ R s=>s.heap.get? l=some ⟨.type "tuple",dd,.seq items n,sl⟩ ∧
   R (.ok (.ret (Value.ref s.heap.objs.size))) { s with heap:=s.heap.push { cls:=Value.type "tuple",data:=Data.seq (List.foldl (λx1 x2=>x1++x2) #[] (List.replicate x.toNat items)) } }) :=
 .of_wp λprog w A R s h=>by
  obtain⟨hp,g,d,tk,os⟩:=s;obtain⟨hl,h⟩:=h
  have hsl:(sizeLine:Nat)<=(2 ^ 63 - 1) / 8:=by decide
  have hlen:(List.foldl (λx1 x2=>x1++x2) #[] (List.replicate x.toNat items)).size<=sizeLine:=by
   have:=NT items.toList x.toNat []
   simp only[List.nil_append,Array.toArray_toList]at this
   rw[this]
   simp only[List.size_toArray,List.length_flatten,List.map_replicate,List.sum_replicate_nat,Array.length_toList]
   rw[Nat.mul_comm];exact hz
  have hx:∃ N:Nat,(items.size:Int) * x=(N:Int)/\N<=sizeLine:=⟨items.size * x.toNat,by rw[Int.natCast_mul,Int.toNat_of_nonneg (by omega)],hz⟩
  obtain⟨N,hx,hN⟩:=hx
  unfold Builtin.«tuple.__mul__»
  wp_walk
  refine wpAny_ite_false (by simp;omega) ?_
  wp_walk
  refine wpAny_ite_false (by simp only[hne,Bool.false_or];simp;omega) ?_
  refine wpAny_ite_false (by simp only[hne,Bool.or_false];simp;omega) ?_
  refine wpAny_ite_false (by rw[hx];exact decide_eq_false (by omega)) ?_
  refine wpAny_ite_false (by rw[hx];unfold Builtin.Tuple.tupleTooMany;simp;omega) ?_
  wp_walk
  exact⟨_,rfl,h⟩
theorem lN(l:Addr)(items:Array Value)(dd:Option Addr)(n:Nat)(sl:Array (Option Value))(u:Tok) :
  Meets (Builtin.«tuple.__mul__» ⟨[.ref l,.int 1 u],[]⟩) (λ_ R s=>s.heap.get? l=some ⟨.type "tuple",dd,.seq items n,sl⟩/\R (.ok (.ret (Value.ref l))) s) :=
 .of_wp λprog w A R s h=>by
  obtain⟨hp,g,d,tk,os⟩:=s;obtain⟨hl,h⟩:=h
  unfold Builtin.«tuple.__mul__»
  wp_walk
  exact⟨_,rfl,h⟩
def QZ(K:W.Frag):R2:=λx y H Q=>∃ a k xs,x=.ref a/\y=.int k/\SqT K H a xs/\xs≠[]/\1<=k/\k<2 ^ 63/\xs.length * k.toNat<=sizeLine ∧
 (k=1->Q (.ref a) H)/\(k≠1->∀ p,H p=none->Q (.ref p) (upd H p (.tup (List.replicate k.toNat xs).flatten)))
section
variable{X:Cx}
theorem Inv.tnew{pins:List (Addr × Obj)}{σ:St}{H:Hp}{s:Shared}{ys:List V}{its:List Value}(I:Inv X pins σ H s)(hv:Vals ys its)(hz:ys.length<=sizeLine) :
  Inv X pins σ (upd H s.heap.objs.size (.tup ys)) { s with heap:=s.heap.push { cls:=.type "tuple",data:=.seq its.toArray } } :=
 I.laid (t':=s.toks) (λ_ _ q=>Heap.get?_push_of_some _ q) (Nat.le_refl _) ⟨hz,its,hv,_,Heap.get?_push_size _ rfl,rfl,0,rfl⟩
theorem lO:CA X (binaryOp .Mult) (QZ X.K):=by
 intro pins s σ H x y v u Q I rx ry h
 obtain⟨a,k,xs,rfl,rfl,hx,hne,h1,h2,hz,q1,q2⟩:=h
 cases rx
 obtain⟨t,rfl⟩:=ry
 obtain⟨its,r,⟨⟨c1,c2,c3,c4⟩,e1,e2,n,e3⟩,_⟩:=I.tuple hx
 obtain rfl:c1=_:=e2
 obtain rfl:c3=_:=e3
 have hl:=r.length
 have he:its.toArray.isEmpty=false:=by
  cases its with
  | nil=>exact absurd (List.length_eq_zero_iff.mp hl) hne
  | cons b t=>rfl
 refine wpAny_binaryOp_repeat_ref (T:="tuple") (U:="int") (by decide) ⟨_,e1,rfl⟩ (λs'=>typeIs_int s' k t) lJ F.fills_int_mul F.slot_int_rmul lK F.slot_int_index.lookup
  (call_meets F.slot_int_rmul (typeIs_int s k t) F.entry_int_rmul (F.args_int_rmul_2 _ _) (lL k t a its.toArray c2 n c4) ⟨e1,rfl,⟨_,e1,rfl⟩,?_⟩)
 by_cases hk:k=1
 ·subst hk
  exact call_meets F.slot_tuple_mul ⟨_,e1,rfl⟩ F.entry_tuple_mul (F.args_tuple_mul_2 _ _) (lN a its.toArray c2 n c4 t) ⟨e1,.ref a,H,I,rfl,q1 rfl⟩
 ·refine call_meets F.slot_tuple_mul ⟨_,e1,rfl⟩ F.entry_tuple_mul (F.args_tuple_mul_2 _ _) (lM a its.toArray c2 n c4 k t (by omega) h2 he (by rw[List.size_toArray,<-hl];exact hz)) ⟨e1,?_⟩
  have f0:=NT its k.toNat []
  rw[List.nil_append]at f0
  rw[f0]
  exact⟨.ref _,_,I.tnew (r.rep k.toNat) (by rw[WI,Nat.mul_comm];exact hz),rfl,q2 hk _ I.fresh⟩
abbrev IA:R2:=GA λi j=>.int (i - j)
abbrev FY:R2:=rI (λ_ j=>0<j) λi j=>.int (i % j)
abbrev W7:R2:=rI VF λi j=>.int (i / j)
abbrev L9:R2:=rI P3 λi j=>.int (i ^ j.toNat)
abbrev W8:V->Hp->VK->Prop:=rU λi=>.int (-i)
abbrev lP:VC:=hX λi j=>i+j
def HH(z:Str)(k:Int):Str:=if k<1 then Str.empty else if(k == 1 || z.length == 0)=true then z else⟨(List.replicate k.toNat z.cps).foldl (· ++·) #[]⟩
theorem lQ(z:Str)(k:Nat):(Str.mk ((List.replicate k z.cps).foldl (· ++·) #[])).length=k * z.length:=by
 have e:∀ (m:Nat) (acc:Array Nat),((List.replicate m z.cps).foldl (· ++·) acc).size=acc.size+m * z.cps.size:=λm=>by
  induction m with
  | zero=>intro acc;simp
  | succ m ih=>intro acc;rw[List.replicate_succ,List.foldl_cons,ih,Array.size_append,Nat.succ_mul];omega
 have:=e k #[]
 simpa [Str.length]using this
def lR:R2:=λx y H Q=>∃ z k,x=.str z/\y=.int k/\0<=k/\k<=1000/\z.length<=1000/\Q (.str (HH z k)) H
theorem lS:CA X (binaryOp .Mult) lR:=by
 intro pins s σ H x y v u Q I rx ry h
 obtain⟨z,k,rfl,rfl,h1,h2,h3,q⟩:=h
 obtain⟨t,rfl⟩:=rx
 obtain⟨t',rfl⟩:=ry
 refine PySem.P.mul_str (by simp;omega) (λa _=> ?_) (λa _=> ?_) ?_
 ·have:(1000:Int)<=(2 ^ 63 - 1) / k:=(Int.le_ediv_iff_mul_le (by omega)).mpr (by omega)
  omega
 ·have h4:z.length * k.toNat<=1000 * 1000:=Nat.mul_le_mul h3 (by omega)
  have h5:(1000 * 1000:Nat)<=sizeLine:=by decide
  unfold Builtin.Str.tooLong
  exact decide_eq_false (by omega)
 ·unfold HH at q
  split
  ·rename_i c
   rw[if_pos c]at q
   exact⟨by show(0:Nat)<=sizeLine;omega,.str _,H,I.tok _,⟨_,rfl⟩,q⟩
  ·rename_i c
   rw[if_neg c]at q
   split
   ·rename_i d
    rw[if_pos d]at q
    exact⟨.str _,H,I,⟨_,rfl⟩,q⟩
   ·rename_i d
    rw[if_neg d]at q
    exact⟨by rw[lQ];have:=Nat.mul_le_mul (show k.toNat<=1000 by omega) h3;show _<=2 ^ 24;omega,.str _,H,I.tok _,⟨_,rfl⟩,q⟩
def ES(K:W.Frag):R2:=λx y H Q=>match x,y with
 | .int i,.int j=>CMul i j/\Q (.int (i * j)) H
 | .str z,.int k=>0<=k/\k<=1000/\z.length<=1000/\Q (.str (HH z k)) H
 | .ref _,.int _=>QI x y H Q\/QZ K x y H Q
 | _,_=>False
theorem HI:CA X (binaryOp .Mult) (ES X.K):=by
 intro pins s σ H x y v u Q I rx ry h
 cases x<;>cases y<;>simp only[ES]at h
 ·exact iJ pins s σ H _ _ v u Q I rx ry ⟨_,_,rfl,rfl,h⟩
 ·exact lS pins s σ H _ _ v u Q I rx ry ⟨_,_,rfl,rfl,h⟩
 ·rcases h with h | h
  ·exact kB pins s σ H _ _ v u Q I rx ry h
  ·exact lO pins s σ H _ _ v u Q I rx ry h
def N2:R2:=λx y H Q=>match x,y with
 | .int i,.int j=>Q (.bl (decide (j<i))) H
 | _,_=>False
theorem JR:CA X (compareOp .Lt) GF:=by
 intro pins s σ H x y v u Q I rx ry h
 cases x<;>cases y<;>simp only[GF]at h
 ·exact iR pins s σ H _ _ v u Q I rx ry ⟨_,_,rfl,rfl,h⟩
 ·obtain⟨t,rfl⟩:=rx
  obtain⟨t',rfl⟩:=ry
  exact PySem.P.lt_str ⟨.bl _,H,I,rfl,h⟩
theorem N3:CA X (compareOp .LtE) HG:=by
 intro pins s σ H x y v u Q I rx ry h
 cases x<;>cases y<;>simp only[HG]at h
 ·exact iS pins s σ H _ _ v u Q I rx ry ⟨_,_,rfl,rfl,h⟩
 ·obtain⟨t,rfl⟩:=rx
  obtain⟨t',rfl⟩:=ry
  exact PySem.P.le_str ⟨.bl _,H,I,rfl,h⟩
theorem lT:CA X (compareOp .Gt) N2:=by
 intro pins s σ H x y v u Q I rx ry h
 cases x<;>cases y<;>simp only[N2]at h
 exact iT pins s σ H _ _ v u Q I rx ry ⟨_,_,rfl,rfl,h⟩
abbrev IB:R2:=λx y H Q=>y=.non/\Q (.bl (decide (x=.non))) H
variable{a:Expr}{ta:TE}{tA:TT}{pos:Pos}
abbrev C6(K:W.Frag)(ta:TE):TT:=λσ H Q=>ta σ H λx H'=>∃ k,HD K x H' k/\Q k H'
def AV(K:W.Frag):R2:=V9 K
theorem AZ:IxR X (AV X.K):=jY
def lU:V->Option Int->Option Int->Hp->VK->Prop:=λx lo hi H Q=>∃ z,x=.str z/\z.length<=sizeLine/\Q (.str (Txt.slice z lo hi)) H
theorem W9{v:Value}{lo:Option Int}(p:IsPart v lo):∃ l:Option (Int × Tok),v=partValue l/\l.map (·.1)=lo:=by
 cases p with
 | none=>exact⟨none,rfl,rfl⟩
 | int i t=>exact⟨some (i,t),rfl,rfl⟩
theorem lV:SlR X lU:=by
 intro pins s σ H x v vl vu lo hi sl Q I rx hs pl pu h
 obtain⟨z,rfl,hz,q⟩:=h
 obtain⟨t,rfl⟩:=rx
 obtain⟨l,rfl,rfl⟩:=W9 pl
 obtain⟨u,rfl,rfl⟩:=W9 pu
 refine⟨"str",_,PySem.F.slot_str_getitem.lookup,typeIs_str _ _ _,?_⟩
 exact wpAny_getItem_str_slice (l:=l) (u:=u) (st:=none) hs rfl (post_val_or_str ⟨Nat.le_trans (Txt.slice_le z _ _) hz,λt' k=>⟨.str _,H,I.tok k,⟨t',rfl⟩,q⟩⟩)
def N4(K:W.Frag):V->Option Int->Option Int->Hp->VK->Prop:=λx lo hi H Q=>match x with
 | .str z=>z.length<=sizeLine/\Q (.str (Txt.slice z lo hi)) H
 | _=>WB K x lo hi H Q\/V2 K x lo hi H Q
theorem lX:SlR X (N4 X.K):=by
 intro pins s σ H x v vl vu lo hi sl Q I rx hs pl pu h
 cases x<;>first
  | exact lV pins s σ H _ v vl vu lo hi sl Q I rx hs pl pu ⟨_,rfl,h⟩
  | exact(SlR.or j6 jS) pins s σ H _ v vl vu lo hi sl Q I rx hs pl pu h
abbrev MA:V->V->V->Hp->(Hp->Prop)->Prop:=WA
theorem N5:PU X MA:=j3
def C0(K:W.Frag)(tl:TE):TI:=λσ H R=>tl σ H λx H1=>∃ a,x=.ref a/\(((∃ xs,SqL K H1 a xs)/\R (FQ K a) H1)\/((∃ xs,SqT K H1 a xs)/\R (GT K a) H1))
def C7(K:W.Frag):List V->Hp->VK->Prop:=λxs H Q=>∃ x n,xs=[x]/\NM K x H n/\Q (.int n) H
theorem DF:DJ X (.builtin "len") (C7 X.K):=iZ
def ET(K:W.Frag):List V->Hp->VK->Prop:=λxs H Q=>∃ p ys,xs=[.ref p]/\(SqL K H p ys\/SqT K H p ys)/\∀ l,H l=none->Q (.ref l) (upd H l (.lst ys))
theorem GG:DJ X (.type "list") (ET X.K):=j7
def FF(K:W.Frag):List V->Hp->VK->Prop:=λxs H Q=>∃ p ys,xs=[.ref p]/\((SqL K H p ys/\∀ l,H l=none->Q (.ref l) (upd H l (.tup ys)))\/(SqT K H p ys/\Q (.ref p) H))
theorem IC:DJ X (.type "tuple") (FF X.K):=j8
def Q0(K:W.Frag):List V->Hp->VK->Prop:=λxs H Q=>(∃ i,xs=[.int i]/\Q (.int i) H)\/∃ k,xs=[.bl k]/\Q (.int (if k then 1 else 0)) H
abbrev EU:=WF
abbrev XA:=WG
end
end L2
namespace L2
section
variable{X:Cx}{tg a:Expr}{ta:TE}{pos:Pos}
theorem DD{l:Expr}{tl:TE}(hl:PE X l tl):PI X tg l (C0 X.K tl):=by
 intro pins s σ H R I h
 refine AO (hl pins s σ H _ I h) λv s1 ⟨x,H1,I1,r1,q1⟩=> ?_
 obtain⟨a,e,q1⟩:=q1
 subst e
 cases r1
 have fp1:∀ b∈[s1.heap.objs.size],FpOk X pins H1 b:=λb hb=>by
  have e:b=s1.heap.objs.size:=by simpa using hb
  subst e
  exact I1.fpOk (Nat.le_refl _) (I1.hok.fresh (Nat.le_refl _))
 rcases q1 with⟨⟨xs,hq⟩,q⟩ | ⟨⟨xs,hq⟩,q⟩
 ·obtain⟨its,rv,p,hz⟩:=I1.list hq
  refine wpAny_pyIter_list p.isList ?_
  exact⟨s1.heap.objs.size,[s1.heap.objs.size],_,_,H1,rfl,I1.kept (t':=s1.toks) λb o e=>Heap.get?_push_of_some _ e,hZ a _,⟨_,Heap.get?_push_size _ rfl,rfl,rfl⟩,fp1,q⟩
 ·obtain⟨its,rv,p,hz⟩:=I1.tuple hq
  refine wpAny_pyIter_tuple (show s1.heap.IsTuple a its.toArray from p) ?_
  exact⟨s1.heap.objs.size,[s1.heap.objs.size],_,_,H1,rfl,I1.kept (t':=s1.toks) λb o e=>Heap.get?_push_of_some _ e,h9 a _,⟨_,Heap.get?_push_size _ rfl,rfl,rfl⟩,fp1,q⟩
def N6(K:W.Frag)(ta:TE):TE:=λσ H Q=>ta σ H λx H1=>∃ k,HD K x H1 k/\Q (.bl (!k)) H1
theorem XB(ha:PE X a ta):PE X (.UnaryOp .Not a pos) (N6 X.K ta):=by
 intro pins s σ H Q I h
 refine UnaryOp_ (AO (ha pins s σ H _ I h) λv s1 ⟨x,H1,I1,r1,k,t1,q1⟩=> ?_)
 exact not_of (AO (VM pins s1 σ H1 x v (λc H2=>c=k/\H2=H1) I1 r1 ⟨k,t1,rfl,rfl⟩) λc s2 ⟨H2,I2,e1,e2⟩=>by
  subst e1;subst e2;exact⟨.bl (!c),_,I2,rfl,q1⟩)
end
def Q1(scope outer:Scope)(N cn:List Str)(cap:List Nat):Bool :=
 scope.kind == .function && scope.names.all (λy=>y.2 != .cell) && scope.names.all (λy=>y.2 != .local || scope.names.lookup y.1 == some .local) &&
 scope.names.all (λy=>y.2 != .free || outer.names.lookup y.1 == some .cell || outer.names.lookup y.1 == some .free) && cn.all (λx=>scope.names.lookup x == some .free) && (cap.map (λi=>N[i]?) == cn.map some)
theorem EI{X:Cx}{scope outer:Scope}{N tn cn:List Str}{cap:List Nat}(h1:X.env.scope=outer)(h2:X.N=N)(h:Q1 scope outer N cn cap=true):JP X scope tn cn cap:=by
 unfold Q1 at h
 simp only[Bool.and_eq_true,List.all_eq_true,Bool.or_eq_true,bne_iff_ne,beq_iff_eq]at h
 obtain⟨⟨⟨⟨⟨k1,k2⟩,k3⟩,k4⟩,k5⟩,k6⟩:=h
 refine⟨k1,k2,λy hy hl=>(k3 y hy).resolve_left λz=>z hl,λy hy hf=> ?_,k5,by rw[h2];exact k6⟩
 have z:=k4 y hy
 show X.env.scope.names.lookup y.1=_\/X.env.scope.names.lookup y.1=_
 rw[h1]
 rcases z with(z | z) | z
 ·exact absurd hf z
 ·exact .inl z
 ·exact .inr z
structure MB(K:W.Frag)(C:Addr):Prop where
 ga:W.findIn K (.ref C) "__getattribute__"=some (some (.builtin "BaseException.__getattribute__"))
 gt:W.findIn K (.ref C) "__getattr__"=some none
 be:W.mroIn K C (.type "BaseException")=some true
 cl:W.isClsIn K C=true
 ha:W.findIn K (.ref C) "__class__"=some (some (.builtin "object.__class__"))
 hn:W.specialIn K (.builtin "object.__class__") "__get__"=some (some (.builtin "getset_descriptor.__get__"))
 tk:W.takesIn K (.builtin "object.__class__")=some true
 mr:W.mroIn K C (.type "object")=some true
theorem lY{K:W.Frag}{C:Addr}{od:Option Obj}{name:Str}{a g:Value}(hc:(W.clsIn K C).isSome=true)(ha:W.findIn K (.ref C) name=some (some a))(hg:W.specialIn K a "__get__"=some (some g))(ht:W.takesIn K a=some true) :
  W.findObj K C od name=some (.bind g a):=by
 obtain⟨cd,hc⟩:=Option.isSome_iff_exists.mp hc
 unfold W.findObj
 rw[hc,Option.bind_some,ha,Option.bind_some]
 simp[hg,ht]
theorem lZ{K:W.Frag}{M:Model}{A:Around}{E:Value->Shared->Prop}{Q:Unit->Shared->Prop}{s:Shared}{x D:Addr}{ox:Obj}{nm:Value}(c:MB K D)(X:K.In s.heap)(I:W.InstAt s.heap x ox D none)(k:Q () s) :
  wpAny M A (checkBuiltinCall "BaseException.__getattribute__" ⟨[.ref x,nm],[]⟩) Q E s:=by
 have e1:builtinKind "BaseException.__getattribute__"=some .slot:=by decide +kernel
 have e2:splitId "BaseException.__getattribute__"=some ("BaseException","__getattribute__"):=by decide +kernel
 have L:W.Looks M s.heap (isInstance (.ref x) (.type "BaseException")) true:=(I.type (M:=M)).andThen (W.looks_mroIn (M:=M) X c.be)
 have ar:=PySem.F.args_bexc_ga (.ref x) nm
 obtain⟨hh,g,d,t,os⟩:=s
 simp only[checkBuiltinCall,e1,e2]
 refine wpAny_bind (L.at ?_)
 simp only[Bool.not_true,Bool.false_eq_true,if_false]
 cases hs:Manifest.signature? "BaseException.__getattribute__" with
 | none=>exact wpAny_pure k
 | some sig =>
  simp only[argsOk,hs]at ar
  have z:Bind.checkArgs "BaseException.__getattribute__" sig ⟨[.ref x,nm],[]⟩=pure ():=ar
  show wpAny M A (Bind.checkArgs "BaseException.__getattribute__" sig ⟨[.ref x,nm],[]⟩) Q E _
  rw[z];exact wpAny_pure k
theorem l9{K:W.Frag}{prog:Program}{w:World}{A:Around}{E:Value->Shared->Prop}{Q:Option Value->Shared->Prop}{s:Shared}{x D:Addr}{ox:Obj}(c:MB K D)(X:K.In s.heap)(I:W.InstAt s.heap x ox D none)
  (k:Q (some (.ref D)) { s with toks:=s.toks+1 }):wpAny (model prog w) A (getAttr? (.ref x) "__class__") Q E s:=by
 obtain⟨hh,g,d,t,os⟩:=s
 have L0:=I.type (M:=model prog w)
 have L1:=W.looks_findIn (M:=model prog w) X c.ga
 have L2:=W.looks_findIn (M:=model prog w) X c.gt
 have L3:=W.looks_find (M:=model prog w) X I (lY (name:="__class__") c.cl c.ha c.hn c.tk)
 unfold getAttr? getAttrBy? getAttrBy
 refine wpAny_bind (wpAny_mkText (wpAny_bind (wpAny_attempt (wpAny_holding (wpAny_bind (L0.at (wpAny_bind (L1.at ?_))))))))
 show wpAny _ _ (getAttrByItsOwn _ _ _ _ _ _) _ _ _
 unfold getAttrByItsOwn
 refine wpAny_bind (L2.at (wpAny_bind (wpAny_attempt (wpAny_holding ?_))))
 show wpAny _ _ (boundAndCalled _ _ _) _ _ _
 unfold boundAndCalled
 rw[PySem.F.attr_ValueError.ga.bind (.ref x)]
 refine wpAny_bind (wpAny_pure (wpAny_call (codeAny_call_builtin PySem.F.attr_ValueError.ga.plain PySem.F.entry_bexc_ga (lZ c X I ?_))))
 refine wpAny_bind (wpAny_pure (wpAny_bind (wpAny_pure (wpAny_bind (L0.at (wpAny_bind (L3.at ?_)))))))
 show wpAny _ _ (holding [_] (call _ _) >>= ret) _ _ _
 refine wpAny_bind (wpAny_holding (wpAny_call (W.class_get (ox:=ox) (od:=none) X I c.mr (wpAny_pure ?_))))
 exact W.handed_on rfl (wpAny_pure k)
theorem mB{K:W.Frag}{x D:Addr}(c:MB K D):W.KitX K (.ref x) (.ref D) (G1 x (.ref D)):=by
 have inst:∀ {h:Heap},G1 x (.ref D) h->∃ ox,W.InstAt h x ox D none:=λ{h} ⟨oe,vs,e1,e2,e3,e4⟩=>by
  refine⟨oe,e1,e2,?_,?_⟩
  ·unfold W.notCls;rw[e4]
  ·rw[e3];trivial
 have cls:∃ cd,W.clsIn K D=some cd:=Option.isSome_iff_exists.mp c.cl
 refine⟨λM h _ p=>(inst p).elim λ_ I=>I.type,λM h X p=> ?_,λh tp dd its n sl X htp=> ?_,λ{prog w A E Q s} X p k=> ?_⟩
 ·obtain⟨cd,hc⟩:=cls
  unfold W.clsIn at hc
  split at hc
  ·rename_i c' d' cd' sl' ho
   intro A' Q' E' s' k q
   unfold isType loadHead
   exact wpAny_bind (wpAny_loadPart (k _ _ (X _ _ ho)) (wpAny_pure q))
  ·cases hc
 ·obtain⟨cd,hc⟩:=cls
  refine Bool.eq_false_iff.mpr λq=> ?_
  have e:D=tp:=Value.ref.inj (beq_iff_eq.mp q)
  subst e
  unfold W.clsIn at hc
  split at hc
  ·rename_i c' d' cd' sl' ho
   have z:=(X _ _ ho).symm.trans htp
   cases z
  ·cases hc
 ·obtain⟨ox,I⟩:=inst p
  exact l9 c X I k
def TyX(K:W.Frag)(H:Hp)(x:V)(t:Value):Prop:=ER K H x t\/∃ a C,x=.ref a/\t=.ref C/\H a=some (.ext (G1 a (.ref C)))/\MB K C
inductive ClsV:V->Value->Prop
 | own (C:Addr):ClsV (.ref C) (.ref C)
 | ty (n:String):ClsV (.ty n) (.type n)
theorem ClsV.rel{y:V}{c u:Value}(h:ClsV y c)(r:RelV y u):u=c:=by
 cases h<;>exact r
theorem XC:∀ {ys:List V} {cs us:List Value},Paired ClsV ys cs->Vals ys us->us=cs
 | _,_,_,.nil,.nil=>rfl
 | _,_,_,.cons h t,.cons r rr=>by rw[h.rel r,XC t rr]
def DM(K:W.Frag):List V->Hp->VK->Prop:=λxs H Q=>∃ x y t b,xs=[x,y]/\TyX K H x t ∧
 ((∃ c,ClsV y c/\W.kitOne K t c=some b)\/∃ p ys cs,y=.ref p/\SqT K H p ys/\Paired ClsV ys cs/\W.kitAny K t cs=some b)/\Q (.bl b) H
section
variable{X:Cx}
theorem TyX.kit{pins:List (Addr × Obj)}{σ:St}{H:Hp}{s:Shared}{x:V}{t u:Value}(I:Inv X pins σ H s)(h:TyX X.K H x t)(r:RelV x u):∃ φ :Heap->Prop,W.KitX X.K u t φ /\ φ s.heap/\u≠.builtin "__main__.__loader__#opaque":=by
 rcases h with h | ⟨a,C,rfl,rfl,e,c⟩
 ·cases h with
  | non=>cases (show u=Value.none from r);exact⟨_,W.kitx_none,trivial,λz=>nomatch z⟩
  | bl y=>cases (show u=Value.bool y from r);exact⟨_,W.kitx_bool,trivial,λz=>nomatch z⟩
  | int i=>obtain⟨t,q⟩:=(show ∃ t,u=Value.int i t from r);cases q;exact⟨_,W.kitx_int,trivial,λz=>nomatch z⟩
  | str y=>obtain⟨t,q⟩:=(show ∃ t,u=Value.str y t from r);cases q;exact⟨_,W.kitx_str,trivial,λz=>nomatch z⟩
  | flt y=>obtain⟨t,q⟩:=(show ∃ t,u=Value.float y t from r);cases q;exact⟨_,W.kitx_float,trivial,λz=>nomatch z⟩
  | @lst a xs ea =>
   cases (show u=Value.ref a from r)
   obtain⟨_,_,n,_,h1⟩:=(show ObjOk X.prog X.w H s.heap a (.lst xs)from I.hok a _ ea)
   exact⟨_,W.kitx_list,⟨_,h1,rfl⟩,λz=>nomatch z⟩
  | @frz a ob xs ea =>
   cases (show u=Value.ref a from r)
   obtain⟨_,_,_,n,_,h1⟩:=(show ObjOk X.prog X.w H s.heap a (.frz ob (.lst xs))from I.hok a _ ea)
   exact⟨_,W.kitx_list,⟨_,h1,rfl⟩,λz=>nomatch z⟩
  | @tup a xs ea =>
   cases (show u=Value.ref a from r)
   obtain⟨_,_,_,p⟩:=(show ObjOk X.prog X.w H s.heap a (.tup xs)from I.hok a _ ea)
   obtain⟨o,h1,h2,_⟩:=p
   exact⟨_,W.kitx_tuple,⟨o,h1,h2⟩,λz=>nomatch z⟩
  | @dK a kvs ea =>
   cases (show u=Value.ref a from r)
   obtain⟨_,_,vs,_,p⟩:=(show ObjOk X.prog X.w H s.heap a (.dK kvs)from I.hok a _ ea)
   obtain⟨o,es,ep,h1,h2,_⟩:=p
   exact⟨_,W.kitx_dict,⟨o,h1,h2.1⟩,λz=>nomatch z⟩
  | @dT a kvs ea =>
   cases (show u=Value.ref a from r)
   obtain⟨_,_,xs,_,o,es,ep,h1,h2,_⟩:=(show ObjOk X.prog X.w H s.heap a (.dT kvs)from I.hok a _ ea)
   exact⟨_,W.kitx_dict,⟨o,h1,h2.1⟩,λz=>nomatch z⟩
  | @ins a C dx fs ea cl ha hn htk hm =>
   cases (show u=Value.ref a from r)
   obtain⟨mA,O,_⟩:=NO I.hok ea
   obtain⟨od,J,_⟩:=O.look
   exact⟨_,W.kitx_own (cl.get _) cl.hd ha hn htk hm,J,λz=>nomatch z⟩
 ·cases (show u=Value.ref a from r)
  have p:G1 a (.ref C) s.heap:=(show ObjOk X.prog X.w H s.heap a (.ext (G1 a (.ref C)))from I.hok a _ e).1
  exact⟨_,mB c,p,λz=>nomatch z⟩
theorem EB:DJ X (.builtin "isinstance") (DM X.K):=by
 intro pins s σ H xs us Q I r h
 obtain⟨x,y,t,b,rfl,ty,hc,q⟩:=h
 obtain⟨u,v,rfl,rx,ry⟩:=Vals.two r
 obtain⟨φ,Z,p,ne⟩:=ty.kit I rx
 rcases hc with⟨c,hy,e⟩ | ⟨pt,ys,cs,rfl,hs,hcs,e⟩
 ·have:=hy.rel ry
  subst this
  exact W.kia_one Z I.kIn p e ne λtk=>⟨.bl b,H,I.tok tk,rfl,q⟩
 ·cases (show v=Value.ref pt from ry)
  obtain⟨its,rv,⟨⟨c1,c2,c3,c4⟩,e1,e2,n,e3⟩,_⟩:=I.tuple hs
  obtain rfl:c1=_:=e2
  obtain rfl:c3=_:=e3
  have:=XC hcs rv
  subst this
  exact W.kia_tup Z I.kIn p e1 e ne λtk=>⟨.bl b,H,I.tok tk,rfl,q⟩
end
end L2
namespace L2
def GH(J:It)(g:TG)(tt:TT)(te:TE)(k:Nat)(cap:List Nat)(σ:St)(H1:Hp)(Q:VK):Prop :=
 ∃ W:Nat->Nat->St->List V->Hp->Prop,(∃ m,W 0 m (GZ k cap σ) [] H1)/\∀ i m σ' ys H,W i m σ' ys H →
  (J.stop i H/\∀ p,H p=none->Q (.ref p) (upd H p (.lst ys))) ∨
  (J.go i H/\ys.length<sizeLine/\∀ x H',J.yld i H x H'->g x σ' H' λσ2 H2=>tt σ2 H2 λb H3 =>
   if b=true then ∃ N:VK,(∀ y H4,N y H4->∃ m',m'<m/\W (i+1) m' σ2 (ys++[y]) H4)/\te σ2 H3 N else ∃ m',m'<m/\W (i+1) m' σ2 ys H3)
def FG(J:It)(g:TG)(tb:TS)(D:Ends)(σ:St)(H1:Hp):Prop :=
 ∃ W:Nat->Nat->St->Hp->Prop,(∃ m,W 0 m σ H1)/\∀ i m σ H,W i m σ H →
  (J.stop i H/\D.nx σ H)\/(J.go i H/\∃ N:St->Hp->Prop,(∀ σ' H',N σ' H'->∃ m',m'<m/\W (i+1) m' σ' H')/\∀ x H',J.yld i H x H'->g x σ H' λσ2 H2=>tb { D with nx:=N,ct:=N,bk:=D.nx } σ2 H2)
section
variable{K:W.Frag}{ta tb tc to ti tv tl:TE}{tt tA tB' tu:TT}{s1 s2:TS}{r r':R2}{σ:St}{H:Hp}{Q:VK}{D:Ends}{QB:Bool->Hp->Prop}{as:TA}{g:TG}{gs:HB}{te:TE}{k i:Nat}{cap:List Nat}{f m:Str}{C:Addr}{sp:Sp}{dvs:List V}{E:St->XK}{v:V}{vs:List V}{QA:List V->Hp->Prop}{QG:St->Hp->Prop}{QO:Option Int->Hp->Prop}
theorem mC:AK s1 s2 D σ H=(s1 { D with nx:=s2 D } σ H):=rfl
theorem mD:BL D σ H=(D.nx σ H):=rfl
theorem mE:A8 ta g D σ H=(ta σ H λx H1=>g x σ H1 D.nx):=rfl
theorem mF:CV ta D σ H=(ta σ H λ_ H1=>D.nx σ H1):=rfl
theorem mG:A0 ta D σ H=(ta σ H D.rt):=rfl
theorem mH:BF tt s1 s2 D σ H=(tt σ H λb H1=>if b=true then s1 D σ H1 else s2 D σ H1):=rfl
theorem mI:tC v σ H Q=(Q v H):=rfl
theorem mJ:AI r ta tb σ H Q=(ta σ H λx H1=>tb σ H1 λy H2=>r x y H2 Q):=rfl
theorem mK:BW ta σ H QB=(ta σ H λx H'=>∃ k,x=.bl k/\QB k H'):=rfl
theorem mM:JJ r r' ta tb tc σ H Q=(ta σ H λx H1=>tb σ H1 λy H2=>r x y H2 λz H3=>∃ k,z=.bl k/\(if k=true then tc σ H3 λw' H4=>r' y w' H4 Q else Q (.bl false) H3)):=rfl
theorem mP:CU tt σ H QB=(tt σ H λc H1=>QB (!c) H1):=rfl
theorem mQ:JG tt tu σ H QB=(tt σ H λc H1=>if c=true then tu σ H1 QB else QB false H1):=rfl
theorem mR:EN tt tu σ H QB=(tt σ H λc H1=>if c=true then QB true H1 else tu σ H1 QB):=rfl
theorem mS:FO ta tb σ H Q=(ta σ H λx H1=>∃ c,x=.bl c/\if c=true then tb σ H1 Q else Q (.bl false) H1):=rfl
theorem mT:N6 K ta σ H Q=(ta σ H λx H1=>∃ k,HD K x H1 k/\Q (.bl (!k)) H1):=rfl
theorem mU:C6 K ta σ H QB=(ta σ H λx H'=>∃ k,HD K x H' k/\QB k H'):=rfl
theorem mV:AE σ H QA=(QA [] H):=rfl
theorem mX:AC ta as σ H QA=(ta σ H λx H1=>as σ H1 λxs H2=>QA (x::xs) H2):=rfl
theorem mY:DK as σ H Q=(as σ H λxs H1=>xs.length<=sizeLine/\∀ p,H1 p=none->Q (.ref p) (upd H1 p (.tup xs))):=rfl
theorem mZ:C3 as σ H Q=(as σ H λxs H1=>xs.length<=sizeLine/\∀ p,H1 p=none->Q (.ref p) (upd H1 p (.lst xs))):=rfl
theorem m7:BC sp dvs E as σ H Q=(as σ H λvs H1=>sp (vs++dvs) H1 Q (E σ)):=rfl
theorem m8:BO C m sp dvs E ta as σ H Q=(ta σ H λx H1=>∃ a dx fs,x=.ref a/\H1 a=some (.ins C dx fs)/\fs.lookup m=none/\as σ H1 λvs H2=>sp (x::(vs++dvs)) H2 Q (E σ)):=rfl
theorem m9:JL C sp dvs E as σ H Q=(as σ H λvs H1=>∀ x dx,H1 x=none->H1 dx=none->dx≠x->sp (.ref x::(vs++dvs)) (upd (upd H1 dx (.own x)) x (.ins C dx [])) (λv H2=>v=.non/\Q (.ref x) H2) (E σ)):=rfl
theorem nA:BP K ta f σ H Q=(ta σ H λx H1=>∃ a C dx fs v,x=.ref a/\H1 a=some (.ins C dx fs)/\Cls K C/\NoAttr K C f/\fs.lookup f=some v/\Q v H1):=rfl
theorem nD:EQ K ta tv f D σ H=(tv σ H λy H1=>ta σ H1 λx H2=>∃ a C dx fs,x=.ref a/\H2 a=some (.ins C dx fs)/\Cls K C/\NoAttr K C f/\fs.length<1000/\D.nx σ (upd H2 a (.ins C dx (A6 f y fs)))):=rfl
theorem nE{ru:V->Hp->VK->Prop}:PZ ru ta σ H Q=ta σ H λx H1=>ru x H1 Q:=rfl
theorem nJ{rc:List V->Hp->VK->Prop}:A4 rc as σ H Q=as σ H λvs H1=>rc vs H1 Q:=rfl
theorem nK:JQ C E as D σ H=(as σ H λvs H1=>vs.length<=sizeLine/\E σ (.ref C) none H1):=rfl
theorem nQ{sb:(St->XK)->TS}{th:TH}:QX sb th D σ H=sb (λσ' cls _ H'=>th cls D σ' H') D σ H:=rfl
theorem nS:AS i v σ H QG=(QG (σ.set i (some v)) H):=rfl
theorem nT{rs:NG}:JH to ti rs v σ H QG=to σ H λo H1=>ti σ H1 λi H2=>rs o i v H2 λH3=>QG σ H3:=rfl
theorem nU:HU K k gs v σ H QG=(∃ a xs,v=.ref a/\SqT K H a xs/\xs.length=k/\gs xs σ H QG):=rfl
theorem nX:HS vs σ H QG=((vs=[]/\QG σ H)):=rfl
theorem nY:D8 g gs vs σ H QG=(∃ v r,vs=v::r/\g v σ H λσ' H'=>gs r σ' H' QG):=rfl
theorem nZ{rs:V->Option Int->Option Int->Hp->VK->Prop}{ol oh:TO}:QD rs ta ol oh σ H Q=ta σ H λx H1=>ol σ H1 λl H2=>oh σ H2 λu H3=>rs x l u H3 Q:=rfl
theorem oA:NR ta σ H QO=(ta σ H λx H1=>∃ i,x=.int i/\QO (some i) H1):=rfl
theorem oB{T:String}{rm:V->List V->Hp->VK->Prop}:EE K T rm ta as σ H Q=ta σ H λx H1=>LX K T x H1/\as σ H1 λxs H2=>rm x xs H2 Q:=rfl
theorem oC{T:String}{rm:V->List V->Hp->VK->Prop}:NS K T rm ta σ H Q=ta σ H λx H1=>LX K T x H1/\rm x [] H1 Q:=rfl
theorem oE:GD σ H QB=(QB true H):=rfl
theorem oF:DL (D9 as) g tt te k cap σ H Q=(as σ H λvs H1=>∃ j:Int,vs=[.int j]/\ -(2 ^ 62)<=j/\j<2 ^ 62/\GH (E7 0 j.toNat) g tt te k cap σ H1 Q):=rfl
theorem oG:DL (C0 K tl) g tt te k cap σ H Q=(tl σ H λx H1=>∃ a,x=.ref a/\(((∃ xs,SqL K H1 a xs)/\GH (FQ K a) g tt te k cap σ H1 Q)\/((∃ xs,SqT K H1 a xs)/\GH (GT K a) g tt te k cap σ H1 Q))):=rfl
theorem oH:CL (D9 as) g s1 D σ H=(as σ H λvs H1=>∃ j:Int,vs=[.int j]/\ -(2 ^ 62)<=j/\j<2 ^ 62/\FG (E7 0 j.toNat) g s1 D σ H1):=rfl
theorem oI:CL (C0 K tl) g s1 D σ H=(tl σ H λx H1=>∃ a,x=.ref a/\(((∃ xs,SqL K H1 a xs)/\FG (FQ K a) g s1 D σ H1)\/((∃ xs,SqT K H1 a xs)/\FG (GT K a) g s1 D σ H1))):=rfl
theorem oJ{rd:V->V->Hp->VK->Prop}:P9 K ta tv rd f D σ H=(ta σ H λx H1=>∃ a C dx fs v,x=.ref a/\H1 a=some (.ins C dx fs)/\Cls K C/\NoAttr K C f/\fs.lookup f=some v/\tv σ H1 λy H2=>rd v y H2 λz H3=>∃ dx' fs',H3 a=some (.ins C dx' fs')/\fs'.length<1000/\D.nx σ (upd H3 a (.ins C dx' (A6 f z fs')))):=rfl
end
end L2
namespace L2
section
variable{K:W.Frag}{σ:St}{H:Hp}{Q:VK}{P:Bool->Prop}{PI':Int->Prop}{PV:V->Prop}{QB:Bool->Hp->Prop}{v:V}{x:Option V}{i j:Int}{n:Nat}{b b':Bool}{s s':Str}{p q:Addr}{f:Int->Int->V}{C:Int->Int->Prop}
def AA(i:Nat):TE:=λσ H Q=>match σ[i]? with
 | some (some v)=>Q v H
 | _=>False
theorem oK:AA 0 (some v::σ) H Q=Q v H:=rfl
theorem oM:AA (n+1) (x::σ) H Q=AA n σ H Q:=rfl
theorem oN(i:Nat):AA i=PR i:=by
 funext σ H Q
 unfold AA PR
 cases σ[i]? with
 | none=>simp
 | some o=>cases o<;>simp
theorem oO{P:Bool->Prop}:(∃ k,V.bl b=V.bl k/\P k)=P b:=by simp
theorem oP{P:Int->Prop}:(∃ k,V.int i=V.int k/\P k)=P i:=by simp
theorem oQ{P:Addr->Prop}:(∃ k,V.ref p=V.ref k/\P k)=P p:=by simp
theorem oR{P:Bool->Prop}:(∃ k,HD K (.bl b) H k/\P k)=P b:=by simp[HD]
theorem oU:C5 K (.int i) (.int j) H Q=Q (.int (i+j)) H:=rfl
theorem oV:C5 K (.str s) (.str s') H Q=(s.length+s'.length<=sizeLine/\Q (.str (s++s')) H):=rfl
theorem oW:C5 K (.ref p) (.ref q) H Q=(QH (.ref p) (.ref q) H Q\/QE K (.ref p) (.ref q) H Q\/QY K (.ref p) (.ref q) H Q):=rfl
theorem oX{x y:Str}:HG (.str x) (.str y) H Q=Q (.bl (!decide (y.cps.toList<x.cps.toList))) H:=rfl
theorem oY{x y:Str}:GF (.str x) (.str y) H Q=Q (.bl (decide (x.cps.toList<y.cps.toList))) H:=rfl
theorem oZ{x:Str}{lo hi:Option Int}:N4 K (.str x) lo hi H Q=(x.length<=sizeLine/\Q (.str (Txt.slice x lo hi)) H):=rfl
theorem o0:ES K (.int i) (.int j) H Q=(CMul i j/\Q (.int (i * j)) H):=rfl
theorem o3{z:Str}{j:Int}:ES K (.str z) (.int j) H Q=(0<=j/\j<=1000/\z.length<=1000/\Q (.str (HH z j)) H):=rfl
theorem o6:ES K (.ref p) (.int j) H Q=(QI (.ref p) (.int j) H Q\/QZ K (.ref p) (.int j) H Q):=rfl
theorem o7:GA f (.int i) (.int j) H Q=Q (f i j) H:=by simp[GA]
theorem o8:rI C f (.int i) (.int j) H Q=(C i j/\Q (f i j) H):=by simp[rI]
theorem o9{g:Int->V}:rU g (.int i) H Q=Q (g i) H:=by simp[rU]
theorem pA:GF (.int i) (.int j) H Q=Q (.bl (decide (i<j))) H:=rfl
theorem pB:HG (.int i) (.int j) H Q=Q (.bl (decide (i<=j))) H:=rfl
theorem pC:N2 (.int i) (.int j) H Q=Q (.bl (decide (j<i))) H:=rfl
theorem pD:CM K (.int i) (.int j) H Q=Q (.bl (decide (i=j))) H:=by simp[CM,E9]
theorem pE:CM K (.str s) (.str s') H Q=Q (.bl (decide (s=s'))) H:=by simp[CM,E9]
theorem pF:CM K .non .non H Q=Q (.bl true) H:=by simp[CM,E9]
theorem pG:CP K (.int i) (.int j) H Q=Q (.bl (!decide (i=j))) H:=by simp[CP,E9]
theorem pH:IB v .non H Q=Q (.bl (decide (v=.non))) H:=by simp[IB]
theorem pJ:NQ (.int i) (.int j) H Q=Q (.int (i+j)) H:=by simp[NQ]
theorem pK:C7 K [v] H Q=∃ n:Nat,NM K v H n/\Q (.int n) H:=by simp[C7]
theorem pL:Q0 K [.bl b] H Q=Q (.int (if b then 1 else 0)) H:=by simp[Q0]
theorem XD:ET K [.ref p] H Q=∃ ys,(SqL K H p ys\/SqT K H p ys)/\∀ l,H l=none->Q (.ref l) (upd H l (.lst ys)):=by simp[ET]
theorem Q2:FF K [.ref p] H Q=∃ ys,((SqL K H p ys/\∀ l,H l=none->Q (.ref l) (upd H l (.tup ys)))\/(SqT K H p ys/\Q (.ref p) H)):=by simp[FF]
end
theorem AB{X:Cx}(i:Nat){x:Str}{pos:Pos}(hN:X.N[i]? =some x:=by rfl)(hv:PP X.env.scope x:=by first | exact Or.inl rfl | exact Or.inr (Or.inl rfl) | exact Or.inr (Or.inr rfl))(hd:(x ==("__debug__":Str))=false:=by decide)
  (hcd:(x ==("__classdict__":Str))=false:=by decide):PE X (.Name x pos) (AA i):=by
 rw[oN]
 exact g8 hN hv hd hcd
end L2
namespace L2
abbrev BB(Q:VK):Ends:={ nx:=λ_ H'=>Q .non H',rt:=Q }
abbrev DX(cap:List Nat)(σ:St):St:=cap.map λi=>(σ[i]?).join
section
variable{K:W.Frag}{te:TE}{cap:List Nat}{σ:St}{H:Hp}{Q:VK}
theorem MC{lo:Int}{n:Nat}(hn:n<=sizeLine)(Pv:Nat->List V->Hp->Prop)(h0:Pv 0 [] H)(hs:∀ i ys H,i<n->ys.length=i->Pv i ys H->te (some (.int (lo+i))::DX cap σ) H λy H2=>Pv (i+1) (ys++[y]) H2)
  (hd:∀ ys H,ys.length=n->Pv n ys H->∀ p,H p=none->Q (.ref p) (upd H p (.lst ys))) :
  GH (E7 lo n) (AS 0) GD te 1 cap σ H Q:=by
 refine⟨λi m σ' ys H=>m=n - i/\i<=n/\ys.length=i/\(∃ x0,σ'=x0::DX cap σ)/\Pv i ys H,⟨n,by simp,Nat.zero_le _,rfl,⟨none,rfl⟩,h0⟩,?_⟩
 rintro i m σ' ys H ⟨rfl,hi,hl,⟨x0,rfl⟩,p⟩
 by_cases hlt:i<n
 ·refine .inr ⟨hlt,by omega,λx H' y=> ?_⟩
  obtain⟨e,y⟩:=y
  subst e y
  simp only[AS,GD,if_true]
  refine⟨_,λy H4 q=>⟨n - (i+1),by omega,rfl,hlt,?_,⟨_,rfl⟩,q⟩,hs i ys _ hlt hl p⟩
  rw[List.length_append,List.length_singleton,hl]
 ·have e:i=n:=by omega
  subst e
  exact .inl ⟨Nat.le_refl _,hd ys H hl p⟩
theorem pM{lo:Int}{n:Nat}(hn:n<=sizeLine)(f:Nat->V)(hs:∀ i,i<n->∀ Q':VK,Q' (f i) H->te (some (.int (lo+i))::DX cap σ) H Q')
  (hd:∀ p,H p=none->Q (.ref p) (upd H p (.lst ((List.range n).map f)))) :
  GH (E7 lo n) (AS 0) GD te 1 cap σ H Q:=by
 refine MC hn (λi ys H'=>H'=H/\ys=(List.range i).map f) ⟨rfl,rfl⟩ (λi ys H' hi hl ⟨e1,e2⟩=> ?_) (λys H' hl ⟨e1,e2⟩=> ?_)
 ·subst e1
  refine hs i hi _ ⟨rfl,?_⟩
  rw[e2,List.range_succ,List.map_append];rfl
 ·subst e1;subst e2;exact hd
theorem EV{b:Addr}{xs:List V}{g:TG}{tb:TS}{D:Ends}(Pv:Nat->St->Hp->Prop)(h0:Pv 0 σ H)(hl:∀ i σ H,i<=xs.length->Pv i σ H->SqL K H b xs)
  (hs:∀ i x σ H,xs[i]? =some x->Pv i σ H->g x σ H λσ2 H2=>tb { D with nx:=Pv (i+1),ct:=Pv (i+1),bk:=D.nx } σ2 H2) (hd:∀ σ H,Pv xs.length σ H->D.nx σ H):FG (FQ K b) g tb D σ H:=iD Pv h0 hl hs hd
theorem XF{b:Addr}{xs:List V}{g:TG}{tb:TS}{D:Ends}(Pv:Nat->St->Hp->Prop)(h0:Pv 0 σ H)(hl:∀ i σ H,i<=xs.length->Pv i σ H->SqT K H b xs)
  (hs:∀ i x σ H,xs[i]? =some x->Pv i σ H->g x σ H λσ2 H2=>tb { D with nx:=Pv (i+1),ct:=Pv (i+1),bk:=D.nx } σ2 H2) (hd:∀ σ H,Pv xs.length σ H->D.nx σ H):FG (GT K b) g tb D σ H:=iE Pv h0 hl hs hd
theorem Q3{lo:Int}{n:Nat}{g:TG}{tb:TS}{D:Ends}(Pv:Nat->St->Hp->Prop)(h0:Pv 0 σ H)
  (hs:∀ i σ H,i<n->Pv i σ H->g (.int (lo+i)) σ H λσ2 H2=>tb { D with nx:=Pv (i+1),ct:=Pv (i+1),bk:=D.nx } σ2 H2) (hd:∀ σ H,Pv n σ H->D.nx σ H):FG (E7 lo n) g tb D σ H:=iF Pv h0 hs hd
end
theorem DN{K:W.Frag}{H:Hp}{x y:V}{t c:Value}{b:Bool}{Q:VK}(ty:TyX K H x t)(cv:ClsV y c)(k:W.kitOne K t c=some b)(q:Q (.bl b) H):DM K [x,y] H Q:=⟨x,y,t,b,rfl,ty,.inl ⟨c,cv,k⟩,q⟩
theorem pN{K:W.Frag}{H:Hp}{x:V}{p:Addr}{ys:List V}{cs:List Value}{t:Value}{b:Bool}{Q:VK}(ty:TyX K H x t)(hs:SqT K H p ys)(hc:Paired ClsV ys cs)(k:W.kitAny K t cs=some b)(q:Q (.bl b) H):DM K [x,.ref p] H Q:=⟨x,.ref p,t,b,rfl,ty,.inr ⟨p,ys,cs,rfl,hs,hc,k⟩,q⟩
theorem AU{H:Hp}{p:Addr}{o:HO}(h:H p=none):Same H (upd H p o):=λb u e=>by rw[AH (AX e h)];exact e
theorem EC{α β :Type}{F: α -> β ->Prop}:∀ {l:List α} {m:List β} {i:Nat} {y: β},Paired F l m->m[i]? =some y->∃ x,l[i]? =some x/\F x y
 | _,_,_,_,.nil,e=>by simp at e
 | _,_,0,_,.cons r _,e=>by simp at e;subst e;exact⟨_,rfl,r⟩
 | _,_,i+1,y,.cons _ t,e=>by
  obtain⟨u,h1,h2⟩:=EC (i:=i) (y:=y) t (by simpa using e)
  exact⟨u,by simpa using h1,h2⟩
theorem Q4{α β :Type}{F: α -> β ->Prop}{x: α}{y: β}(r:F x y):∀ {l:List α} {m:List β} (i:Nat),Paired F l m->Paired F (l.set i x) (m.set i y)
 | _,_,_,.nil=>.nil
 | _,_,0,.cons _ t=>.cons r t
 | _,_,i+1,.cons q t=>.cons q (Q4 r i t)
theorem B0{K:W.Frag}{H:Hp}{p:Addr}{xs:List V}{i:Int}{n:Nat}{v:V}{Q:VK}(h:SqL K H p xs)(hi:i=n)(hx:xs[n]? =some v)(q:Q v H):AV K (.ref p) (.int i) H Q :=
 .inl ⟨p,xs,i,v,rfl,rfl,h,hi ▸ V4 hx,q⟩
theorem small(n:Nat)(h:n<=100000):n<=sizeLine:=Nat.le_trans h (by decide)
theorem XG{α :Type}(x: α):∀ w:Nat,(List.replicate w [x]).flatten=List.replicate w x
 | 0=>rfl
 | w+1=>by rw[List.replicate_succ,List.flatten_cons,XG x w];rfl
theorem Q5{f:Str}{v:V}{fs:List (Str × V)}{n:Nat}(h:fs.length+1<n):(A6 f v fs).length<n:=Nat.lt_of_le_of_lt (NN f v fs) h
theorem Q6:P3 10 30:=⟨by decide,by decide,by decide⟩
theorem XH{d:PyData}(h:shp d):PyData.eqv d d=true:=PySem.SeqAt.eqv_refl d (PySem.SeqAt.canLay_of_shaped h)
end L2
namespace L2
def ItK(k:Bool)(h:Heap)(j a:Addr)(i:Nat):Prop:=if k then h.IsListIter j a i else h.IsTupleIter j a i
def SeqK(k:Bool)(h:Heap)(a:Addr)(xs:Array Value):Prop:=if k then h.IsList a xs else h.IsTuple a xs
theorem ItK.up{k:Bool}{h h':Heap}{j a:Addr}{i:Nat}(x:ItK k h j a i)(q:∀ o,h.get? j=some o->h'.get? j=some o):ItK k h' j a i:=by
 cases k<;>exact(let ⟨o,e,r⟩:=x;⟨o,q o e,r⟩)
theorem SeqK.up{k:Bool}{h h':Heap}{a:Addr}{xs:Array Value}(x:SeqK k h a xs)(q:∀ o,h.get? a=some o->h'.get? a=some o):SeqK k h' a xs:=by
 cases k<;>exact(let ⟨o,e,r⟩:=x;⟨o,q o e,r⟩)
theorem ItK.ob{k:Bool}{h:Heap}{j a:Addr}{i:Nat}(x:ItK k h j a i):∃ o,h.get? j=some o/\o.data=.fields #[.ref a,.int i 0]:=by
 cases k<;>exact(let ⟨o,e,_,r⟩:=x;⟨o,e,r⟩)
section
variable{P:Program}{w:World}{A:Around}{E:Value->Shared->Prop}{s:Shared}
theorem pO{j t:Addr}{i:Nat}{its:Array Value}{x:Value}{Q:Value->Shared->Prop}(c:s.heap.IsTupleIter j t i)(d:s.heap.IsTuple t its)(e:its[i]? =some x)
  (q:∀ h',h'.IsTupleIter j t (i+1)->Heap.SameBut j s.heap h'->Q x { s with heap:=h' }):wpAny (model P w) A (Builtin.SmallTypes.nextOf (.ref j)) Q E s:=by
 obtain⟨oj,e1,e2,e3⟩:=id c
 obtain⟨ot,f1,_,n,f2⟩:=d
 unfold Builtin.SmallTypes.nextOf
 refine wpAny_bind (wpAny_callSpecial?_slot (name:=Str.ofString "__next__") c.typeIs F.slot_tuple_iterator_next (wpAny_call_entry F.slot_tuple_iterator_next c.typeIs F.entry_tuple_iterator_next ?_ (F.args_tuple_iterator_next_1 _)))
 show wpAny (model P w) _ (field (.ref j) 0 >>= _) _ _ s
 refine wpAny_bind (wpAny_field e1 e3 (x:=.ref t) rfl ?_)
 show wpAny (model P w) _ (field (.ref j) 1 >>= _) _ _ s
 refine wpAny_bind (wpAny_field e1 e3 (x:=.int i 0) rfl ?_)
 show wpAny (model P w) _ (seqItems? (.ref t) >>= _) _ _ s
 refine wpAny_bind (wpAny_seqItems f1 f2 ?_)
 simp only[Int.toNat_natCast,e]
 refine wpAny_bind (wpAny_setField e1 e3 (by simp) (wpAny_pure ⟨x,rfl,wpAny_pure (q _ ⟨_,Heap.get?_update_self _ e1 (Obj.isFreed_of_fields (Obj.data_mapFields e3 _)),(Obj.cls_mapFields ..).trans e2,?_⟩ (Heap.SameBut.update ..))⟩))
 rw[Obj.data_mapFields e3]
 simp[rawInt]
theorem pP{j t:Addr}{i:Nat}{its:Array Value}{Q:Value->Shared->Prop}(z:A.handled=none)(c:s.heap.IsTupleIter j t i)(d:s.heap.IsTuple t its)(e:its[i]? =none)
  (q:∀ h' x,Heap.ExtBut j s.heap h'->(∃ o,h'.get? x=some o/\o.cls=.type "StopIteration")->E (.ref x) { s with heap:=h' }):wpAny (model P w) A (Builtin.SmallTypes.nextOf (.ref j)) Q E s:=by
 obtain⟨oj,e1,e2,e3⟩:=id c
 obtain⟨ot,f1,_,n,f2⟩:=d
 unfold Builtin.SmallTypes.nextOf
 refine wpAny_bind (wpAny_callSpecial?_slot (name:=Str.ofString "__next__") c.typeIs F.slot_tuple_iterator_next (wpAny_call_entry F.slot_tuple_iterator_next c.typeIs F.entry_tuple_iterator_next ?_ (F.args_tuple_iterator_next_1 _)))
 show wpAny (model P w) _ (field (.ref j) 0 >>= _) _ _ s
 refine wpAny_bind (wpAny_field e1 e3 (x:=.ref t) rfl ?_)
 show wpAny (model P w) _ (field (.ref j) 1 >>= _) _ _ s
 refine wpAny_bind (wpAny_field e1 e3 (x:=.int i 0) rfl ?_)
 show wpAny (model P w) _ (seqItems? (.ref t) >>= _) _ _ s
 refine wpAny_bind (wpAny_seqItems f1 f2 ?_)
 simp only[Int.toNat_natCast,e]
 refine wpAny_bind (wpAny_rule (wpAny_bind (wpAny_setField e1 e3 (by simp) ?_)))
 show wpAny (model P w) _ (newExc (.type "StopIteration") [] >>= _) _ _ _
 refine wpAny_bind ?_
 simp only[newExc,newTuple]
 refine wpAny_bind (wpAny_newObj_type (wpAny_bind (m:=firstArgMember _ _) (wpAny_of_eq (a:=Value.none) (by first | rfl | (simp only[firstArgMember];rfl)) (wpAny_newObj_type ?_ (by size_fits)))) (by size_fits))
 simp only[raiseNew]
 refine wpAny_bind (wpAny_handled ?_)
 rw[show A.in1.handled=none from z]
 exact wpAny_bind (wpAny_pure (wpAny_throw (q _ _ (((Heap.SameBut.update ..).extBut.push _).push _) ⟨_,Heap.get?_push_size _ rfl,rfl⟩)))
theorem Q7{k:Bool}{j t:Addr}{i:Nat}{its:Array Value}{x:Value}{Q:Value->Shared->Prop}(c:ItK k s.heap j t i)(d:SeqK k s.heap t its)(e:its[i]? =some x)
  (q:∀ h',ItK k h' j t (i+1)->Heap.SameBut j s.heap h'->Q x { s with heap:=h' }):wpAny (model P w) A (Builtin.SmallTypes.nextOf (.ref j)) Q E s:=by
 cases k
 ·exact pO c d e q
 ·exact wpAny_nextOf_list_item c d e q
theorem XI{k:Bool}{j t:Addr}{i:Nat}{its:Array Value}{Q:Value->Shared->Prop}(z:A.handled=none)(c:ItK k s.heap j t i)(d:SeqK k s.heap t its)(e:its[i]? =none)
  (q:∀ h' x,Heap.ExtBut j s.heap h'->(∃ o,h'.get? x=some o/\o.cls=.type "StopIteration")->E (.ref x) { s with heap:=h' }):wpAny (model P w) A (Builtin.SmallTypes.nextOf (.ref j)) Q E s:=by
 cases k
 ·exact pP z c d e q
 ·exact wpAny_nextOf_list_end z c d e q
theorem pQ{k1 k2:Bool}{z T U i1 i2 l1 l2:Addr}{n1 n2:Nat}{xs ys:Array Value}{x y a b:Value}{Q:Value->Shared->Prop}(D:ZipApart z T U i1 i2 l1 l2)(hz:IsZip s.heap z T U .none)(hT:IsPair s.heap T (.ref i1) (.ref i2))(hU:IsPair s.heap U a b)
  (c1:ItK k1 s.heap i1 l1 n1) (c2:ItK k2 s.heap i2 l2 n2) (d1:SeqK k1 s.heap l1 xs) (d2:SeqK k2 s.heap l2 ys) (ex:xs[n1]? =some x) (ey:ys[n2]? =some y)
  (q:∀ h',IsZip h' z T U (rawInt s.heap.objs.size)->IsPair h' U x y->ItK k1 h' i1 l1 (n1+1)->ItK k2 h' i2 l2 (n2+1)->IsPair h' s.heap.objs.size x y →
   (∀ c o,c≠z->c≠U->c≠i1->c≠i2->s.heap.get? c=some o->h'.get? c=some o)->Q (.ref s.heap.objs.size) { s with heap:=h' }) :
  wpAny (model P w) A (Builtin.«zip.__next__» ⟨[.ref z],[]⟩) (λfin s'=>∃ v,fin=.done (.ret v)/\Q v s') E s:=by
 show wpAny (model P w) A (field (.ref z) 2 >>= _) _ _ s
 refine wpAny_bind (wpAny_field hz rfl (x:=.bool false) rfl ?_)
 show wpAny (model P w) A (field (.ref z) 3 >>= _) _ _ s
 refine wpAny_bind (wpAny_field hz rfl (x:=.ref T) rfl (wpAny_bind (wpAny_seqItems hT rfl ?_)))
 show wpAny (model P w) A (Builtin.SmallTypes.ownedTupleIsFree (.ref z) >>= _) _ _ s
 unfold Builtin.SmallTypes.ownedTupleIsFree
 refine wpAny_bind (wpAny_bind (wpAny_field hz rfl (x:=.none) rfl (wpAny_pure ?_)))
 simp only[if_true]
 refine wpAny_bind (wpAny_rule (wpAny_bind (wpAny_field hz rfl (x:=.ref U) rfl (wpAny_bind (wpAny_setField_rec hz (by simp) λh1 g1 b1=> ?_)))))
 have g1:IsZip h1 z T U .ellipsis:=g1
 refine wpAny_bind ?_
 simp only[List.zipIdx_cons,List.zipIdx_nil,List.forIn_cons,List.forIn_nil]
 refine wpAny_bind (wpAny_bind (wpAny_onRaise ?_))
 show wpAny (model P w) A (Builtin.SmallTypes.nextOf (.ref i1) >>= _) _ _ _
 refine wpAny_bind (Q7 (c1.up λo e=>b1.extBut _ o D.i1z e) (d1.up λo e=>b1.extBut _ o D.l1z e) ex λh2 g2 b2=>wpAny_pure ?_)
 have u2:IsPair h2 U a b:=b2.extBut _ _ D.TOi1 (b1.extBut _ _ D.TOz hU)
 refine wpAny_bind (wpAny_seqItems u2 rfl (wpAny_bind (wpAny_updateSeq_pair u2 λh3 u3 b3=>wpAny_bind (wpAny_letGo (wpAny_pure ?_)))))
 have u3:IsPair h3 U x b:=u3
 refine wpAny_bind (wpAny_bind (wpAny_onRaise ?_))
 show wpAny (model P w) A (Builtin.SmallTypes.nextOf (.ref i2) >>= _) _ _ _
 refine wpAny_bind (Q7 (c2.up λo e=>b3.extBut _ o D.TOi2.symm (b2.extBut _ o D.i12.symm (b1.extBut _ o D.i2z e))) (d2.up λo e=>b3.extBut _ o D.l2TO (b2.extBut _ o D.l2i1 (b1.extBut _ o D.l2z e))) ey λh4 g4 b4=>wpAny_pure ?_)
 have u4:IsPair h4 U x b:=b4.extBut _ _ D.TOi2 u3
 refine wpAny_bind (wpAny_seqItems u4 rfl (wpAny_bind (wpAny_updateSeq_pair u4 λh5 u5 b5=>wpAny_bind (wpAny_letGo (wpAny_pure (wpAny_pure ?_))))))
 have u5:IsPair h5 U x y:=u5
 refine wpAny_bind (wpAny_seqItems u5 rfl (wpAny_bind (wpAny_newTuple ?_)))
 have sz:h5.objs.size=s.heap.objs.size:=by rw[b5.1,b4.1,b3.1,b2.1,b1.1]
 have z5:IsZip h5 z T U .ellipsis:=b5.extBut _ _ D.TOz.symm (b4.extBut _ _ D.i2z.symm (b3.extBut _ _ D.TOz.symm (b2.extBut _ _ D.i1z.symm g1)))
 have k5:∀ c o,c≠z->c≠U->c≠i1->c≠i2->s.heap.get? c=some o->h5.get? c=some o:=λc o n1 n2 n3 n4 e=>b5.extBut _ _ n2 (b4.extBut _ _ n4 (b3.extBut _ _ n2 (b2.extBut _ _ n3 (b1.extBut _ _ n1 e))))
 have j1:ItK k1 h5 i1 l1 (n1+1):=g2.up λo e=>b5.extBut _ o D.TOi1.symm (b4.extBut _ o D.i12 (b3.extBut _ o D.TOi1.symm e))
 have j2:ItK k2 h5 i2 l2 (n2+1):=g4.up λo e=>b5.extBut _ o D.TOi2.symm e
 have ltz:z<h5.objs.size:=Heap.lt_size z5
 show wpAny (model P w) A (Builtin.SmallTypes.ownedTupleHandOut (.ref z) (.ref h5.objs.size) >>= _) _ _ _
 unfold Builtin.SmallTypes.ownedTupleHandOut
 have z6:IsZip (h5.push { cls:=.type "tuple",data:=.seq #[x,y] }) z T U .ellipsis:=Heap.get?_push_of_some _ z5
 refine wpAny_bind (wpAny_bind (wpAny_setField_rec z6 (by simp) λh7 z7 b7=> ?_))
 have z7:IsZip h7 z T U (rawInt h5.objs.size):=z7
 refine wpAny_setField_rec z7 (by simp) λh8 z8 b8=> ?_
 have z8:IsZip h8 z T U (rawInt h5.objs.size):=z8
 have up:∀ c o,c≠z->h5.get? c=some o->h8.get? c=some o:=λc o n1 e=>b8.extBut _ _ n1 (b7.extBut _ _ n1 (Heap.get?_push_of_some _ e))
 have t8:IsPair h8 h5.objs.size x y:=b8.extBut _ _ (Nat.ne_of_gt ltz) (b7.extBut _ _ (Nat.ne_of_gt ltz) (Heap.get?_push_size _ rfl))
 rw[sz]at z8 t8
 refine wpAny_pure ⟨_,rfl,?_⟩
 show Q (.ref h5.objs.size) _
 rw[sz]
 exact q h8 z8 (up _ _ D.TOz u5) (j1.up λo e=>up _ o D.i1z e) (j2.up λo e=>up _ o D.i2z e) t8 λc o n1 n2 n3 n4 e=>up c o n1 (k5 c o n1 n2 n3 n4 e)
theorem pR{k1 k2:Bool}{z T U i1 i2 l1 l2:Addr}{n1 n2:Nat}{xs ys:Array Value}{a b:Value}{Q:Fin->Shared->Prop}(hh:A.handled=none)(D:ZipApart z T U i1 i2 l1 l2)(hz:IsZip s.heap z T U .none)(hT:IsPair s.heap T (.ref i1) (.ref i2))(hU:IsPair s.heap U a b)
  (c1:ItK k1 s.heap i1 l1 n1) (c2:ItK k2 s.heap i2 l2 n2) (d1:SeqK k1 s.heap l1 xs) (d2:SeqK k2 s.heap l2 ys) (en:xs[n1]? =none\/ys[n2]? =none)
  (q:∀ h' x,(∀ c o,c≠z->c≠U->c≠i1->c≠i2->s.heap.get? c=some o->h'.get? c=some o)->(∃ o,h'.get? x=some o/\o.cls=.type "StopIteration")->E (.ref x) { s with heap:=h' }) :
  wpAny (model P w) A (Builtin.«zip.__next__» ⟨[.ref z],[]⟩) Q E s:=by
 show wpAny (model P w) A (field (.ref z) 2 >>= _) _ _ s
 refine wpAny_bind (wpAny_field hz rfl (x:=.bool false) rfl ?_)
 show wpAny (model P w) A (field (.ref z) 3 >>= _) _ _ s
 refine wpAny_bind (wpAny_field hz rfl (x:=.ref T) rfl (wpAny_bind (wpAny_seqItems hT rfl ?_)))
 show wpAny (model P w) A (Builtin.SmallTypes.ownedTupleIsFree (.ref z) >>= _) _ _ s
 unfold Builtin.SmallTypes.ownedTupleIsFree
 refine wpAny_bind (wpAny_bind (wpAny_field hz rfl (x:=.none) rfl (wpAny_pure ?_)))
 simp only[if_true]
 refine wpAny_bind (wpAny_rule (wpAny_bind (wpAny_field hz rfl (x:=.ref U) rfl (wpAny_bind (wpAny_setField_rec hz (by simp) λh1 g1 b1=> ?_)))))
 have g1:IsZip h1 z T U .ellipsis:=g1
 refine wpAny_bind ?_
 simp only[List.zipIdx_cons,List.zipIdx_nil,List.forIn_cons,List.forIn_nil]
 refine wpAny_bind (wpAny_bind (wpAny_onRaise ?_))
 show wpAny (model P w) A (Builtin.SmallTypes.nextOf (.ref i1) >>= _) _ _ _
 cases ex:xs[n1]? with
 | none =>
  refine wpAny_bind (XI hh (c1.up λo e=>b1.extBut _ o D.i1z e) (d1.up λo e=>b1.extBut _ o D.l1z e) ex λh2 x b2 ⟨ox,o1,o2⟩=> ?_)
  have z2:IsZip h2 z T U .ellipsis:=b2 _ _ D.i1z.symm g1
  have ne:x≠z:=λe=>by subst e;rw[z2]at o1;cases o1;simp at o2
  exact wpAny_setField_rec z2 (by simp) λh3 _ b3=>q h3 x (λc o m1 _ m3 _ e=>b3.extBut _ _ m1 (b2 _ _ m3 (b1.extBut _ _ m1 e))) ⟨ox,b3.extBut _ _ ne o1,o2⟩
 | some x =>
  have ey:ys[n2]? =none:=en.elim (λe=>by rw[ex]at e;cases e) id
  refine wpAny_bind (Q7 (c1.up λo e=>b1.extBut _ o D.i1z e) (d1.up λo e=>b1.extBut _ o D.l1z e) ex λh2 g2 b2=>wpAny_pure ?_)
  have u2:IsPair h2 U a b:=b2.extBut _ _ D.TOi1 (b1.extBut _ _ D.TOz hU)
  refine wpAny_bind (wpAny_seqItems u2 rfl (wpAny_bind (wpAny_updateSeq_pair u2 λh3 u3 b3=>wpAny_bind (wpAny_letGo (wpAny_pure ?_)))))
  refine wpAny_bind (wpAny_bind (wpAny_onRaise ?_))
  show wpAny (model P w) A (Builtin.SmallTypes.nextOf (.ref i2) >>= _) _ _ _
  refine wpAny_bind (XI hh (c2.up λo e=>b3.extBut _ o D.TOi2.symm (b2.extBut _ o D.i12.symm (b1.extBut _ o D.i2z e))) (d2.up λo e=>b3.extBut _ o D.l2TO (b2.extBut _ o D.l2i1 (b1.extBut _ o D.l2z e))) ey λh4 x' b4 ⟨ox,o1,o2⟩=> ?_)
  have z4:IsZip h4 z T U .ellipsis:=b4 _ _ D.i2z.symm (b3.extBut _ _ D.TOz.symm (b2.extBut _ _ D.i1z.symm g1))
  have ne:x'≠z:=λe=>by subst e;rw[z4]at o1;cases o1;simp at o2
  exact wpAny_setField_rec z4 (by simp) λh5 _ b5=>q h5 x' (λc o m1 m2 m3 m4 e=>b5.extBut _ _ m1 (b4 _ _ m4 (b3.extBut _ _ m2 (b2.extBut _ _ m3 (b1.extBut _ _ m1 e))))) ⟨ox,b5.extBut _ _ ne o1,o2⟩
theorem pT{k1 k2:Bool}{z T U i1 i2 l1 l2:Addr}{n1 n2:Nat}{xs ys:Array Value}{x y a b:Value}{Q:Option Value->Shared->Prop}(D:ZipApart z T U i1 i2 l1 l2)(hz:IsZip s.heap z T U .none)(hT:IsPair s.heap T (.ref i1) (.ref i2))(hU:IsPair s.heap U a b)
  (c1:ItK k1 s.heap i1 l1 n1) (c2:ItK k2 s.heap i2 l2 n2) (d1:SeqK k1 s.heap l1 xs) (d2:SeqK k2 s.heap l2 ys) (ex:xs[n1]? =some x) (ey:ys[n2]? =some y)
  (q:∀ h',IsZip h' z T U (rawInt s.heap.objs.size)->IsPair h' U x y->ItK k1 h' i1 l1 (n1+1)->ItK k2 h' i2 l2 (n2+1)->IsPair h' s.heap.objs.size x y →
   (∀ c o,c≠z->c≠U->c≠i1->c≠i2->s.heap.get? c=some o->h'.get? c=some o)->Q (some (.ref s.heap.objs.size)) { s with heap:=h' }):wpAny (model P w) A (pyNext (.ref z)) Q E s:=by
 have ty:s.TypeIs (.ref z) "zip":=⟨_,hz,rfl⟩
 unfold pyNext
 exact wpAny_bind (wpAny_attempt (wpAny_callSpecial?_slot (name:=Str.ofString "__next__") ty F.slot_zip_next (wpAny_call_entry F.slot_zip_next ty F.entry_zip_next
  (pQ D hz hT hU c1 c2 d1 d2 ex ey λh' a1 a2 a3 a4 a5 a6=>wpAny_pure (q h' a1 a2 a3 a4 a5 a6)) (F.args_zip_next_1 _))))
theorem pU{k1 k2:Bool}{z T U i1 i2 l1 l2:Addr}{n1 n2:Nat}{xs ys:Array Value}{a b:Value}{Q:Option Value->Shared->Prop}(hh:A.handled=none)(D:ZipApart z T U i1 i2 l1 l2)(hz:IsZip s.heap z T U .none)(hT:IsPair s.heap T (.ref i1) (.ref i2))(hU:IsPair s.heap U a b)
  (c1:ItK k1 s.heap i1 l1 n1) (c2:ItK k2 s.heap i2 l2 n2) (d1:SeqK k1 s.heap l1 xs) (d2:SeqK k2 s.heap l2 ys) (en:xs[n1]? =none\/ys[n2]? =none)
  (q:∀ h',(∀ c o,c≠z->c≠U->c≠i1->c≠i2->s.heap.get? c=some o->h'.get? c=some o)->Q none { s with heap:=h' }):wpAny (model P w) A (pyNext (.ref z)) Q E s:=by
 have ty:s.TypeIs (.ref z) "zip":=⟨_,hz,rfl⟩
 unfold pyNext
 refine wpAny_bind (wpAny_attempt (wpAny_callSpecial?_slot (name:=Str.ofString "__next__") ty F.slot_zip_next (wpAny_call_entry F.slot_zip_next ty F.entry_zip_next (pR hh D hz hT hU c1 c2 d1 d2 en λh' x kk ⟨o,e1,e2⟩=> ?_) (F.args_zip_next_1 _))))
 exact wpAny_bind (wpAny_isInstance (T:="StopIteration") (b:=true) ⟨o,e1,e2⟩ isSubtype_stop (wpAny_pure (q _ kk)))
end
def pV(k:Bool):String:=if k then "list_iterator" else "tuple_iterator"
abbrev MD(k:Bool)(l:Addr):Obj:={ cls:=.type (pV k),data:=.fields #[.ref l,.int 0 0] }
theorem XJ{k:Bool}{h:Heap}{j l:Addr}(e:h.get? j=some (MD k l)):ItK k h j l 0:=by
 cases k<;>exact⟨_,e,rfl,rfl⟩
theorem XL{P:Program}{w:World}{A:Around}{E:Value->Shared->Prop}{s:Shared}{k:Bool}{t:Addr}{its:Array Value}{Q:Value->Shared->Prop}(d:SeqK k s.heap t its)
  (q:Q (.ref s.heap.objs.size) { s with heap:=s.heap.push (MD k t) }):wpAny (model P w) A (pyIter (.ref t)) Q E s:=by
 cases k
 ·exact wpAny_pyIter_tuple d q
 ·exact wpAny_pyIter_list d q
abbrev N7(h:Heap)(k:Bool)(l:Addr):Heap:=h.push (MD k l)
abbrev N8(h:Heap)(k k':Bool)(l l':Addr):Heap:=(N7 h k l).push (MD k' l')
abbrev N9(h:Heap)(k k':Bool)(l l':Addr):Heap:=(N8 h k k' l l').push { cls:=.type "tuple",data:=.seq #[.ref h.objs.size,.ref (N7 h k l).objs.size] }
abbrev OA(h:Heap)(k k':Bool)(l l':Addr):Heap:=(N9 h k k' l l').push { cls:=.type "tuple",data:=.seq #[.none,.none] }
abbrev JS(h:Heap)(k k':Bool)(l l':Addr):Heap:=(OA h k k' l l').push { cls:=.type "zip",data:=.fields #[.none,.bool false,.bool false,.ref (N8 h k k' l l').objs.size,.ref (N9 h k k' l l').objs.size] }
theorem pW(k k':Bool)(l l':Addr)(xs ys:Array Value):Meets (Builtin.«zip.__new__» ⟨[.type "zip",.ref l,.ref l'],[]⟩)
  (λ_ R s=>SeqK k s.heap l xs/\SeqK k' s.heap l' ys/\R (.ok (.ret (.ref (OA s.heap k k' l l').objs.size))) { s with heap:=JS s.heap k k' l l' }) :=
 .of_wp λprog w A R s h=>by
  obtain⟨hp,g,d,tk,os⟩:=s;obtain⟨d1,d2,h⟩:=h
  have sub:=sub_zip
  have e1:SeqK k (Shared.heap ⟨hp,g,d,tk,os⟩) l xs:=d1
  have e2:SeqK k' (Shared.heap ⟨hp.push (MD k l),g,d,tk,os⟩) l' ys:=d2.up λo e=>Heap.get?_push_of_some _ e
  wp_walk using XL e1,XL e2
  exact⟨_,rfl,h⟩
section
variable{P:Program}{w:World}{A:Around}{E:Value->Shared->Prop}{s:Shared}
theorem pX{k k':Bool}{l l':Addr}{xs ys:Array Value}{Q:Value->Shared->Prop}(d1:SeqK k s.heap l xs)(d2:SeqK k' s.heap l' ys)
  (q:∀ h',IsZip h' (s.heap.objs.size+4) (s.heap.objs.size+2) (s.heap.objs.size+3) .none->IsPair h' (s.heap.objs.size+2) (.ref s.heap.objs.size) (.ref (s.heap.objs.size+1))->IsPair h' (s.heap.objs.size+3) .none .none →
   ItK k h' s.heap.objs.size l 0->ItK k' h' (s.heap.objs.size+1) l' 0->(∀ c o,s.heap.get? c=some o->h'.get? c=some o)->Q (.ref (s.heap.objs.size+4)) { s with heap:=h' }) :
  wpAny (model P w) A (call (.type "zip") [.ref l,.ref l']) Q E s:=by
 refine callType_new F.called_zip (by decide) (F.typeCall_zip_2 _ _) (F.newCall_zip_2 _ _) (λob=>F.args_object_init_3 ob _ _) F.entry_zip_new (pW k k' l l' xs ys) ⟨d1,d2,?_⟩
 have s1:(N7 s.heap k l).objs.size=s.heap.objs.size+1:=Heap.size_push ..
 have s2:(N8 s.heap k k' l l').objs.size=s.heap.objs.size+2:=by rw[Heap.size_push,s1]
 have s3:(N9 s.heap k k' l l').objs.size=s.heap.objs.size+3:=by rw[Heap.size_push,s2]
 have s4:(OA s.heap k k' l l').objs.size=s.heap.objs.size+4:=by rw[Heap.size_push,s3]
 have p5:(JS s.heap k k' l l').get? (OA s.heap k k' l l').objs.size=some _:=Heap.get?_push_size _ rfl
 have p4:(JS s.heap k k' l l').get? (N9 s.heap k k' l l').objs.size=some _:=Heap.get?_push_of_some _ (Heap.get?_push_size _ rfl)
 have p3:(JS s.heap k k' l l').get? (N8 s.heap k k' l l').objs.size=some _:=Heap.get?_push_of_some _ (Heap.get?_push_of_some _ (Heap.get?_push_size _ rfl))
 have p2:(JS s.heap k k' l l').get? (N7 s.heap k l).objs.size=some _:=Heap.get?_push_of_some _ (Heap.get?_push_of_some _ (Heap.get?_push_of_some _ (Heap.get?_push_size _ rfl)))
 have p1:(JS s.heap k k' l l').get? s.heap.objs.size=some _:=Heap.get?_push_of_some _ (Heap.get?_push_of_some _ (Heap.get?_push_of_some _ (Heap.get?_push_of_some _ (Heap.get?_push_size _ rfl))))
 show _/\_
 rw[s2,s3,s4]at p5
 rw[s1,s2]at p3
 rw[s3]at p4
 rw[s1]at p2
 rw[s4]
 exact⟨⟨_,p5,rfl⟩,q _ p5 p3 p4 (XJ p1) (XJ p2) λc o e=>Heap.get?_push_of_some _ (Heap.get?_push_of_some _ (Heap.get?_push_of_some _ (Heap.get?_push_of_some _ (Heap.get?_push_of_some _ e))))⟩
end
theorem Inv.turnedS{X:Cx}{pins:List (Addr × Obj)}{σ:St}{H:Hp}{s:Shared}{h':Heap}{t':Nat}{fp:List Addr}(I:Inv X pins σ H s)(k:∀ b o,b∉fp->s.heap.get? b=some o->h'.get? b=some o)(hf:∀ b∈fp,FpOk X pins H b):Inv X pins σ H { s with heap:=h',toks:=t' }:=by
 have nit:∀ b u,H b=some u->b∉fp:=λb u e z=>by rw[(hf b z).1]at e;cases e
 refine I.step (g':=s.gens) (d':=s.drawn) (ch:=fp) (λb hb=> ?_) (λb o _ _ hc e _=>k b o hc e) (λb o _ _ hc e _=>⟨o.slots,k b o hc e⟩) (λ_ _ _ _ n=>n)
  (λb o hc e=>⟨o,k b o hc e⟩) (λ_ _ e=>e) (λ_ _ _ e=>e) (λb ps e=>⟨#[],by rw[e];simp⟩) (λm hm=> ?_) (λb u e=> ?_) I.bare
 ·obtain⟨_,f1,_,f3,f4,f5⟩:=hf b hb
  exact⟨f3,f1,f4,f5⟩
 ·obtain⟨o,es,ep,ho,r⟩:=hm
  exact⟨o,es,ep,k _ o (λz=>(hf _ z).2.1 rfl) ho,r⟩
 ·refine(I.hok b u e).stay (λc v hc q=>k c v ?_ q) (λ_ q=>q) λ_ _ q=>q
  rcases hc with z | z
  ·rw[z];exact nit b u e
  ·exact nit c _ z
def SqB(K:W.Frag)(k:Bool)(H:Hp)(a:Addr)(xs:List V):Prop:=if k then SqL K H a xs else SqT K H a xs
def OB(K:W.Frag)(k k':Bool)(a b:Addr):It :=
  ⟨λi H=>∃ xs ys x y,SqB K k H a xs/\SqB K k' H b ys/\xs[i]? =some x/\ys[i]? =some y,
   λi H v H'=>∃ t,H t=none/\v=.ref t/\∃ x y,H'=upd H t (.tup [x,y])/\(∀ xs,SqB K k H a xs->xs[i]? =some x)/\∀ ys,SqB K k' H b ys->ys[i]? =some y,
   λi H=>∃ xs ys,SqB K k H a xs/\SqB K k' H b ys/\(xs.length<=i\/ys.length<=i)⟩
theorem Inv.seqK{X:Cx}{pins:List (Addr × Obj)}{σ:St}{H:Hp}{s:Shared}{k:Bool}{a:Addr}{xs:List V}(I:Inv X pins σ H s)(q:SqB X.K k H a xs):∃ its,Vals xs its/\SeqK k s.heap a its.toArray:=by
 cases k
 ·obtain⟨its,rv,p,_⟩:=I.tuple q
  exact⟨its,rv,p⟩
 ·obtain⟨its,rv,p,_⟩:=I.list q
  exact⟨its,rv,p.isList⟩
theorem Inv.seqK_inj{X:Cx}{pins:List (Addr × Obj)}{σ:St}{H:Hp}{s:Shared}{k:Bool}{a:Addr}{xs ys:List V}(I:Inv X pins σ H s)(p:SqB X.K k H a xs)(q:SqB X.K k H a ys):xs=ys:=by
 cases k
 ·exact I.tuple_inj p q
 ·exact I.list_inj p q
def ZipSt(k k':Bool)(z l l':Addr)(f:Value)(i:Nat)(h:Heap)(T U j j':Addr):Prop :=
 IsZip h z T U f/\IsPair h T (.ref j) (.ref j')/\(∃ a b,IsPair h U a b)/\ItK k h j l i/\ItK k' h j' l' i
structure Five(z T U j j':Addr):Prop where
 a1:T≠z
 a2:U≠z
 a3:j≠z
 a4:j'≠z
 a5:T≠U
 a6:T≠j
 a7:T≠j'
 a8:U≠j
 a9:U≠j'
 a10:j≠j'
theorem SqB.off{X:Cx}{pins:List (Addr × Obj)}{σ:St}{H:Hp}{s:Shared}{k:Bool}{m b:Addr}{zs:List V}(I:Inv X pins σ H s)(q:SqB X.K k H m zs)(f:FpOk X pins H b):m≠b:=by
 intro e
 subst e
 obtain⟨f0,_,_,f3,_⟩:=f
 have no:∀ o,X.K.lookup m=some o->False:=λo hk=>by
  have e:=I.mod.kin m o hk
  rcases f3 with z | z
  ·exact I.ok.noex _ _ e z
  ·exact absurd (Heap.lt_size (I.ok.bs _ _ e).1) (Nat.not_lt.mpr z)
 have nr:∀ u,Rd H m u->False:=λu r=>by
  rcases r with r | ⟨o,r⟩<;>(rw[f0]at r;cases r)
 cases k
 ·rcases q with q | ⟨o,_,_,hk,_⟩
  ·exact nr _ q
  ·exact no o hk
 ·rcases q with q | ⟨o,_,_,hk,_⟩
  ·exact nr _ q
  ·exact no o hk
theorem FpOk.upd{X:Cx}{pins:List (Addr × Obj)}{H:Hp}{a b:Addr}{o:HO}(f:FpOk X pins H b)(n:b≠a):FpOk X pins (upd H a o) b:=⟨(AH n).trans f.1,f.2⟩
theorem ZipSt.lt{k k':Bool}{z l l' T U j j':Addr}{f:Value}{i:Nat}{h:Heap}(q:ZipSt k k' z l l' f i h T U j j'):∀ b∈[z,T,U,j,j'],b<h.objs.size:=by
 obtain⟨h1,h2,⟨a,b',h3⟩,h4,h5⟩:=q
 obtain⟨o4,e4,_⟩:=h4.ob
 obtain⟨o5,e5,_⟩:=h5.ob
 intro b hb
 simp only[List.mem_cons,List.not_mem_nil,or_false]at hb
 rcases hb with rfl | rfl | rfl | rfl | rfl
 ·exact Heap.lt_size h1
 ·exact Heap.lt_size h2
 ·exact Heap.lt_size h3
 ·exact Heap.lt_size e4
 ·exact Heap.lt_size e5
theorem Five.apart{z T U j j' l l':Addr}(D:Five z T U j j')(n:∀ b∈[z,T,U,j,j'],l≠b)(n':∀ b∈[z,T,U,j,j'],l'≠b):ZipApart z T U j j' l l' :=
 ⟨D.a1,D.a2,D.a3,D.a4,D.a5,D.a6,D.a7,D.a8,D.a9,D.a10,n _ (by simp),n _ (by simp),n _ (by simp),n _ (by simp),n' _ (by simp),n' _ (by simp),n' _ (by simp),n' _ (by simp)⟩
theorem pY{P:Program}{w:World}{K:W.Frag}{elts:List Expr}{kn:Nat}{pos:Pos}{k k':Bool}{z T U j j' l l':Addr}(D:Five z T U j j') :
  HC P w K (.Tuple elts kn pos) (OB K k k' l l') [z,T,U,j,j'] z (λi h=>ZipSt k k' z l l' .none i h T U j j') where
 mem:=by simp
 obj:=λi h st b hb=>by
  obtain⟨h1,h2,⟨a,b',h3⟩,h4,h5⟩:=st
  obtain⟨o4,e4,d4⟩:=h4.ob
  obtain⟨o5,e5,d5⟩:=h5.ob
  simp only[List.mem_cons,List.not_mem_nil,or_false]at hb
  rcases hb with rfl | rfl | rfl | rfl | rfl
  ·exact⟨_,h1,λv q=>by cases q⟩
  ·exact⟨_,h2,λv q=>by cases q⟩
  ·exact⟨_,h3,λv q=>by cases q⟩
  ·exact⟨_,e4,λv q=>by rw[d4]at q;cases q⟩
  ·exact⟨_,e5,λv q=>by rw[d5]at q;cases q⟩
 keep:=λi h h' ⟨h1,h2,⟨a,b,h3⟩,h4,h5⟩ q=>⟨q z (by simp) _ h1,q T (by simp) _ h2,⟨a,b,q U (by simp) _ h3⟩,h4.up λo e=>q j (by simp) o e,h5.up λo e=>q j' (by simp) o e⟩
 item:=by
  intro X hP hw hK hc i pins s σ H E I hf st hg
  subst hP hw hK
  obtain⟨xs,ys,x,y,hx,hy,ex,ey⟩:=hg
  obtain⟨its,rv,d1⟩:=I.seqK hx
  obtain⟨jts,rw',d2⟩:=I.seqK hy
  obtain⟨u,hu,ru⟩:=rv.get ex
  obtain⟨v,hv,rv'⟩:=rw'.get ey
  have lt:=ZipSt.lt st
  obtain⟨h1,h2,⟨a,b,h3⟩,h4,h5⟩:=st
  have AP:ZipApart z T U j j' l l':=D.apart (λb hb=>hx.off I (hf b hb)) λb hb=>hy.off I (hf b hb)
  refine pT AP h1 h2 h3 h4 h5 d1 d2 (x:=u) (y:=v) (by simpa using hu) (by simpa using hv) λh' g1 g2 g3 g4 g5 kk=>⟨_,rfl,?_⟩
  refine wpAny_letOwnedTupleGo_zip g1 λh2' z2 sb=> ?_
  have I1:=I.tnew (.cons ru (.cons rv' .nil)) (by show 2<=sizeLine;decide)
  have f':∀ b∈[z,T,U,j,j'],b≠s.heap.objs.size:=λb hb=>Nat.ne_of_lt (lt b hb)
  have nz:s.heap.objs.size≠z:=(f' z (by simp)).symm
  have I2:Inv X pins σ (upd H s.heap.objs.size (.tup [x,y])) { s with heap:=h2' }:=by
   refine Inv.turnedS (s:={ s with heap:=s.heap.push { cls:=Value.type "tuple",data:=Data.seq #[u,v] } }) (t':=s.toks) (fp:=[z,T,U,j,j']) I1 (λb o hb e=> ?_) λb hb=>(hf b hb).upd (f' b hb)
   simp only[List.mem_cons,List.not_mem_nil,or_false,not_or]at hb
   rcases Heap.get?_push_cases e with⟨e1,e2⟩ | e1
   ·subst e1 e2
    exact sb.extBut _ _ nz g5
   ·exact sb.extBut _ _ hb.1 (kk _ _ hb.1 hb.2.2.1 hb.2.2.2.1 hb.2.2.2.2 e1)
  exact⟨.ref s.heap.objs.size,_,I2,rfl,⟨s.heap.objs.size,I.fresh,rfl,x,y,rfl,λys' q=>by rw[I.seqK_inj q hx];exact ex,λys' q=>by rw[I.seqK_inj q hy];exact ey⟩,
   ⟨z2,sb.extBut _ _ D.a1 (kk _ _ D.a1 D.a5 D.a6 D.a7 h2),⟨_,_,sb.extBut _ _ D.a2 g2⟩,g3.up λo e=>sb.extBut _ _ D.a3 e,g4.up λo e=>sb.extBut _ _ D.a4 e⟩,λb hb=>((hf b hb).upd (f' b hb)).1⟩
 done:=by
  intro X hP hw hK hc i pins s σ H E I hf st hg
  subst hP hw hK
  obtain⟨xs,ys,hx,hy,en⟩:=hg
  obtain⟨its,rv,d1⟩:=I.seqK hx
  obtain⟨jts,rw',d2⟩:=I.seqK hy
  obtain⟨h1,h2,⟨a,b,h3⟩,h4,h5⟩:=st
  have e1:=rv.length
  have e2:=rw'.length
  refine pU (I.ok.hd hc) (D.apart (λb hb=>hx.off I (hf b hb)) λb hb=>hy.off I (hf b hb)) h1 h2 h3 h4 h5 d1 d2 (by simp;omega) λh' kk=>⟨rfl,I.turnedS (t':=s.toks) (fp:=[z,T,U,j,j']) (λb o hb e=> ?_) hf⟩
  simp only[List.mem_cons,List.not_mem_nil,or_false,not_or]at hb
  exact kk _ _ hb.1 hb.2.2.1 hb.2.2.2.1 hb.2.2.2.2 e
 self:=λ_ _ _ _ _ st h=>wpAny_pyIter_zip st.1 h
section
variable{X:Cx}{tg:Expr}
def Q8(K:W.Frag)(ta:TA):TI:=λσ H R=>ta σ H λvs H1=>∃ (k k':Bool) (a b:Addr),vs=[.ref a,.ref b]/\(∃ xs,SqB K k H1 a xs)/\(∃ ys,SqB K k' H1 b ys)/\R (OB K k k' a b) H1
theorem pZ{a b:Expr}{ta:TA}{p pos p2:Pos}{elts:List Expr}{kn:Nat}(hg:Gl X "zip")(hm:X.mg "zip"=none)(ha:PA X [a,b] ta)(hs:starEach [a,b] X.env=[(false,eval a X.env),(false,eval b X.env)]:=by rfl)(hs2:starEach [b] X.env=[(false,eval b X.env)]:=by rfl) :
  PI X (.Tuple elts kn p2) (.Call (.Name "zip" p) [a,b] [] pos) (Q8 X.K ta):=by
 intro pins s σ H R I h
 refine Call_ (JF I hg hm boot_zip (PyProof.Rows.callWith_type1 (AO (ha pos pins s σ H _ I h) λus s1 ⟨vs,H1,I1,r1,q1⟩=> ?_) (by rw[hs,hs2]) (by rw[hs2];rfl)))
 obtain⟨k,k',l,l',e,⟨xs,hx⟩,⟨ys,hy⟩,q⟩:=q1
 subst e
 obtain⟨u,v,rfl,rx,ry⟩:=Vals.two r1
 cases rx
 cases ry
 obtain⟨its,rv,d1⟩:=I1.seqK hx
 obtain⟨jts,rw',d2⟩:=I1.seqK hy
 refine pX d1 d2 λh' z1 z2 z3 z4 z5 kk=>wpAny_pyIter_zip z1 ?_
 have I2:Inv X pins σ H1 { s1 with heap:=h' }:=I1.kept (t':=s1.toks) kk
 refine⟨_,[s1.heap.objs.size+4,s1.heap.objs.size+2,s1.heap.objs.size+3,s1.heap.objs.size,s1.heap.objs.size+1],_,_,H1,rfl,I2,pY ⟨?_,?_,?_,?_,?_,?_,?_,?_,?_,?_⟩,⟨z1,z2,⟨_,_,z3⟩,z4,z5⟩,λb hb=>I1.fpOk ?_ (I1.hok.fresh ?_),q⟩
 all_goals first | exact Nat.ne_of_lt (by omega) | exact Nat.ne_of_gt (by omega) | skip
 all_goals
  simp only[List.mem_cons,List.not_mem_nil,or_false]at hb
  rcases hb with rfl | rfl | rfl | rfl | rfl<;>omega
end
theorem Fun.none{P:Program}{w:World}{K:W.Frag}{mg:Str->Option Value}{base:Heap}{x qual:Str}{st:Stmt}{f:Addr}{fd:FuncData}{N ps:List Str}{k:Nat}{sp:Sp}(F:Fun K x qual st f fd)(S:FnScope N ps (AT st))(no:∀ vs H Q E,sp vs H Q E->False):FnOk P w K mg base (C4 P w) (k+1) f fd ps sp :=
 F.okE S (λvs H Q E h=>(no vs H Q E h).elim) λ_ _ _ _ H vs Q E _ h=>(no vs H Q E h).elim
theorem p0{K:W.Frag}{as:TA}{g:TG}{s1:TS}{D:Ends}{σ:St}{H:Hp}:CL (Q8 K as) g s1 D σ H=(as σ H λvs H1=>∃ (k k':Bool) (a b:Addr),vs=[.ref a,.ref b]/\(∃ xs,SqB K k H1 a xs)/\(∃ ys,SqB K k' H1 b ys)/\FG (OB K k k' a b) g s1 D σ H1):=rfl
theorem p7{K:W.Frag}{σ:St}{H:Hp}{k k':Bool}{a b:Addr}{xs ys:List V}{g:TG}{tb:TS}{D:Ends}(hl:xs.length=ys.length)(Pv:Nat->St->Hp->Prop)(h0:Pv 0 σ H)(ha:∀ i σ H,i<=xs.length->Pv i σ H->SqB K k H a xs/\SqB K k' H b ys)
  (hs:∀ i x y σ H t,xs[i]? =some x->ys[i]? =some y->Pv i σ H->H t=none->g (.ref t) σ (upd H t (.tup [x,y])) λσ2 H2=>tb { D with nx:=Pv (i+1),ct:=Pv (i+1),bk:=D.nx } σ2 H2) (hd:∀ σ H,Pv xs.length σ H->D.nx σ H):FG (OB K k k' a b) g tb D σ H:=by
 refine⟨λi m σ H=>i+m=xs.length/\Pv i σ H,⟨xs.length,by omega,h0⟩,λi m σ H ⟨e,p⟩=> ?_⟩
 obtain⟨h1,h2⟩:=ha i σ H (by omega) p
 by_cases hi:i<xs.length
 ·refine .inr ⟨⟨xs,ys,xs[i],ys[i],h1,h2,List.getElem?_eq_getElem hi,List.getElem?_eq_getElem (by omega)⟩,Pv (i+1),λσ' H' q=>⟨m - 1,by omega,by omega,q⟩,λv H' ⟨t,ht,e,x,y,e',q1,q2⟩=> ?_⟩
  subst e e'
  exact hs i x y σ H t (q1 _ h1) (q2 _ h2) p ht
 ·have e:i=xs.length:=by omega
  subst e
  exact .inl ⟨⟨xs,ys,h1,h2,.inl (Nat.le_refl _)⟩,hd _ _ p⟩
end L2
namespace L2
section
variable{X:Cx}{tg:Expr}
def Q9(K:W.Frag):List V->Hp->VK->Prop:=λxs H Q=>∃ i j,xs=[.int i,.int j]/\Q (.int (if j > i then j else i)) H
theorem p9(hc:X.calm=true):DJ X (.builtin "max") (Q9 X.K):=iX hc
end
theorem qA{K:W.Frag}{i j:Int}{H:Hp}{Q:VK}:Q9 K [.int i,.int j] H Q=Q (.int (if j > i then j else i)) H:=propext ⟨λ⟨_,_,e,q⟩=>by cases e;exact q,λq=>⟨_,_,rfl,q⟩⟩
section
variable{P:Program}{w:World}{A:Around}{E:Value->Shared->Prop}{s:Shared}
end
section
variable{X:Cx}
end
end L2
namespace L2
open PySem
abbrev GI(l:List Nat):Prop:=l.Pairwise (· <·)
theorem ME{l:List Nat}(R:GI l){i k a b:Nat}(h:i<k)(ha:l[i]? =some a)(hb:l[k]? =some b):a<b:=by
 obtain⟨h1,rfl⟩:=List.getElem?_eq_some_iff.mp ha
 obtain⟨h2,rfl⟩:=List.getElem?_eq_some_iff.mp hb
 exact List.pairwise_iff_getElem.mp R i k h1 h2 h
structure Below(xs:Array Nat)(j r:Nat):Prop where
 le:r<=xs.size
 lo:∀ i v,i<r->xs.toList[i]? =some v->v<j
 hi:∀ i v,r<=i->xs.toList[i]? =some v->j<=v
theorem RA{xs:Array Nat}{j:Nat}(R:GI xs.toList):∀ (fuel lo hi:Nat),lo<=hi->hi<=xs.size->hi - lo<=fuel->(∀ i v,i<lo->xs.toList[i]? =some v->v<j)->(∀ i v,hi<=i->xs.toList[i]? =some v->j<=v) →
  Below xs j (SetTable.below.go xs j fuel lo hi)
 | 0,lo,hi,h1,h2,h3,a,b=>by
  have e:lo=hi:=by omega
  subst e
  exact⟨h2,a,b⟩
 | fuel+1,lo,hi,h1,h2,h3,a,b=>by
  unfold SetTable.below.go
  by_cases hlt:lo<hi
  ·rw[if_pos hlt]
   have hm:(lo+hi) / 2<xs.size:=by omega
   have em:xs.toList[(lo+hi) / 2]? =some (xs[(lo+hi) / 2]):=by simp[hm]
   have ed:xs.getD ((lo+hi) / 2) j=xs[(lo+hi) / 2]:=by simp[hm]
   simp only[ed]
   split
   ·rename_i hv
    refine RA R fuel _ _ (by omega) h2 (by omega) (λi v hi' e=> ?_) b
    by_cases q:i=(lo+hi) / 2
    ·subst q;rw[em]at e;cases e;exact hv
    ·exact Nat.lt_trans (ME R (show i<(lo+hi) / 2 by omega) e em) hv
   ·rename_i hv
    refine RA R fuel _ _ (by omega) (by omega) (by omega) a λi v hi' e=> ?_
    by_cases q:i=(lo+hi) / 2
    ·subst q;rw[em]at e;cases e;omega
    ·have:=ME R (show(lo+hi) / 2<i by omega) em e
     omega
  ·rw[if_neg hlt]
   have e:lo=hi:=by omega
   subst e
   exact⟨h2,a,b⟩
theorem RB{xs:Array Nat}{j:Nat}(R:GI xs.toList):Below xs j (SetTable.below xs j) :=
 RA R _ _ _ (Nat.zero_le _) (Nat.le_refl _) (by omega) (λ_ _ h=>absurd h (Nat.not_lt_zero _)) λi v h e=>by
  rw[List.getElem?_eq_none (by simpa using h)]at e;cases e
theorem Below.uniq{xs:Array Nat}{j r r':Nat}(a:Below xs j r)(b:Below xs j r'):r=r':=by
 rcases Nat.lt_trichotomy r r' with h | h | h
 ·have hs:r<xs.size:=Nat.lt_of_lt_of_le h b.le
  have e:xs.toList[r]? =some (xs[r]):=by simp[hs]
  have:=b.lo _ _ h e
  have:=a.hi _ _ (Nat.le_refl _) e
  omega
 ·exact h
 ·have hs:r'<xs.size:=Nat.lt_of_lt_of_le h a.le
  have e:xs.toList[r']? =some (xs[r']):=by simp[hs]
  have:=a.lo _ _ h e
  have:=b.hi _ _ (Nat.le_refl _) e
  omega
def NotIn(t:SetTable)(j:Nat):Prop:=t.place[SetTable.below t.place j]? ≠some j
theorem qB{t:SetTable}{j:Nat}(h:t.slot j=.empty):NotIn t j:=λe=>by
 unfold SetTable.slot at h
 simp only[e,beq_self_eq_true,if_true]at h
 cases h
theorem qC{t:SetTable}{j:Nat}(h:t.slot j=.dummy):NotIn t j:=λe=>by
 unfold SetTable.slot at h
 simp only[e,beq_self_eq_true,if_true]at h
 cases h
theorem XM(t:SetTable)(p:SetTable.Probe):(t.advance p).dummy=p.dummy:=by
 unfold SetTable.advance
 split<;>rfl
theorem RC{t:SetTable}{f:Nat->Int}{h:Int}:∀ (fuel:Nat) (p:SetTable.Probe) (j:Nat) (d:Option Nat),SetTable.probe.go t f h fuel p=some (.empty j d)->(∀ x,p.dummy=some x->NotIn t x)->NotIn t (d.getD j)
 | 0,p,j,d,e,_=>by cases e
 | fuel+1,p,j,d,e,hd=>by
  unfold SetTable.probe.go at e
  split at e
  ·rename_i hs
   cases e
   cases q:p.dummy with
   | none=>exact qB hs
   | some x=>exact hd x q
  ·rename_i hs
   refine RC fuel _ j d e λx hx=> ?_
   rw[XM]at hx
   cases hx
   exact qC hs
  ·rename_i i hs
   split at e
   ·cases e
   ·exact RC fuel _ j d e λx hx=>by rw[XM]at hx;exact hd x hx
theorem qD{t:SetTable}{h:Int}{s:Nat}{b:Bool}(e:t.freeSlot h=some (s,b)):NotIn t s:=by
 unfold SetTable.freeSlot at e
 split at e
 ·rename_i j d hp
  cases e
  refine RC _ _ _ _ hp λx hx=> ?_
  cases hx
 ·cases e
theorem qE(n:Nat):GI (Array.range n).toList:=by
 rw[Array.toList_range]
 exact List.pairwise_lt_range
theorem qF {t:SetTable} {j:Nat} (R:GI t.place.toList) (h:NotIn t j):GI (t.put j).1.place.toList:=by
  have b:=RB (j:=j) R
  show GI (SetTable.insertAt t.place (SetTable.below t.place j) j).toList
  rw[SetTable.toList_insertAt]
  have hlo:∀ v∈t.place.toList.take (SetTable.below t.place j),v<j:=λv hv=>by
    obtain⟨i,hi,e⟩:=List.getElem_of_mem hv
    have hi':i<SetTable.below t.place j:=by rw[List.length_take]at hi;omega
    refine b.lo i v hi' ?_
    rw[<-e];simp only[List.getElem_take];exact List.getElem?_eq_getElem _
  have hhi:∀ v∈t.place.toList.drop (SetTable.below t.place j),j<v:=λv hv=>by
    obtain⟨i,hi,e⟩:=List.getElem_of_mem hv
    have e2:t.place.toList[SetTable.below t.place j+i]? =some v:=by
      rw[<-List.getElem?_drop,List.getElem?_eq_getElem hi,e]
    have:=b.hi _ _ (Nat.le_add_right _ _) e2
    by_cases q:j=v
    · subst q
      have z:i=0:=by
        by_cases z:i=0
        ·exact z
        · have hl:SetTable.below t.place j<t.place.toList.length:=by
            rw[List.length_drop]at hi;omega
          have e3:=List.getElem?_eq_getElem hl
          have:=ME R (show SetTable.below t.place j<SetTable.below t.place j+i by omega) e3 e2
          have:=b.hi _ _ (Nat.le_refl _) e3
          omega
      subst z
      rw[Nat.add_zero,Array.getElem?_toList]at e2
      exact absurd e2 h
    ·omega
  refine List.pairwise_append.mpr ⟨R.sublist (List.take_sublist ..),List.pairwise_cons.mpr ⟨hhi,R.sublist (List.drop_sublist ..)⟩,λx hx y hy=> ?_⟩
  rcases List.mem_cons.mp hy with rfl | hy
  ·exact hlo x hx
  ·exact Nat.lt_trans (hlo x hx) (hhi y hy)
structure Led(led:Bool)(t:SetTable):Prop where
 rise:GI t.place.toList
 led:t.led=led
theorem Led.standIn{led:Bool}{t:SetTable}(h:t.led=led)(n:Nat):Led led (t.standIn n):=⟨qE n,h⟩
theorem Led.or{led:Bool}{t:SetTable}(h:Led led t)(n:Nat):Led led (t.orStandIn n):=by
 unfold SetTable.orStandIn
 split
 ·exact h
 ·exact .standIn h.led n
theorem Led.layNew{led:Bool}{t:SetTable}(L:Led led t)(es:Array (Int × Value))(h:Int)(x:Value):Led led (layNew t es h x).2.1:=by
 unfold PySem.layNew
 split
 ·rename_i slot b e
  exact Led.or ⟨qF L.rise (qD e),L.led⟩ _
 ·exact .standIn L.led _
theorem qG(owner:Array (Option Nat))(m:Nat):GI (((List.range m).filterMap λj=>(owner.getD j none).map (j,·)).map (·.1)):=by
 rw[List.map_filterMap]
 refine(List.pairwise_lt_range (n:=m)).filterMap _ λa b hab x hx y hy=> ?_
 simp only[Option.mem_def,Option.map_map,Option.map_eq_some_iff,Function.comp_apply]at hx hy
 obtain⟨_,_,rfl⟩:=hx
 obtain⟨_,_,rfl⟩:=hy
 exact hab
theorem Led.relayAll{led:Bool}{t:SetTable}(h:t.led=led)(L:Led led t)(es:Array (Int × Value))(wanted:Nat):Led led (relayAll t es wanted).2.1:=by
 unfold PySem.relayAll
 split
 ·rename_i t' order e
  dsimp only
  split
  ·unfold SetTable.relaid SetTable.laid at e
   simp only[Option.bind_eq_bind,Option.bind_eq_some_iff,Option.pure_def,Option.some.injEq,Prod.mk.injEq]at e
   obtain⟨owner,_,rfl,_⟩:=e
   exact⟨by simpa using qG owner _,h⟩
  ·exact .standIn h _
 ·exact .standIn h _
theorem Led.plainOff{led:Bool}{t:SetTable}(L:Led led t):Led led { t with plain:=false }:=⟨L.rise,L.led⟩
theorem Led.fresh(led:Bool):Led led (.fresh 0 0 led):=⟨List.Pairwise.nil,rfl⟩
def JT(xs:Array Nat):Nat->Nat
 | 0=>0
 | i+1=>xs.getD i 0+1
theorem qH{xs:Array Nat}(R:GI xs.toList):∀ {i:Nat},i<=xs.size->SetTable.below xs (JT xs i)=i
 | 0,_=>(RB R).uniq ⟨Nat.zero_le _,λ_ _ h=>absurd h (Nat.not_lt_zero _),λ_ _ _ _=>Nat.zero_le _⟩
 | i+1,hi=>(RB R).uniq ⟨hi,λk v hk e=>by
   have hi':i<xs.size:=by omega
   have ei:xs.toList[i]? =some xs[i]:=by simp[hi']
   have ed:xs.getD i 0=xs[i]:=by simp[hi']
   show v<xs.getD i 0+1
   rw[ed]
   by_cases q:k=i
   ·subst q;rw[ei]at e;cases e;omega
   ·have:=ME R (show k<i by omega) e ei
    omega,λk v hk e=>by
   have hi':i<xs.size:=by omega
   have ei:xs.toList[i]? =some xs[i]:=by simp[hi']
   have ed:xs.getD i 0=xs[i]:=by simp[hi']
   show xs.getD i 0+1<=v
   rw[ed]
   exact ME R (show i<k by omega) ei e⟩
theorem XN{α :Type}(next:Nat->Nat):∀ (fuel k:Nat) (left:List α) (out:Array α),left.length=fuel->List.Perm (pickOrder.go next fuel k left out).toList (out.toList++left)
 | 0,k,left,out,h=>by
  rw[List.length_eq_zero_iff.mp h]
  unfold pickOrder.go
  simp
 | fuel+1,k,left,out,h=>by
  unfold pickOrder.go
  have hl:next k % left.length<left.length:=Nat.mod_lt _ (by omega)
  rw[List.getElem?_eq_getElem hl]
  dsimp only
  refine(XN next fuel (k+1) _ _ (by rw[List.length_eraseIdx_of_lt hl];omega)).trans ?_
  rw[Array.toList_push,List.append_assoc]
  refine List.Perm.append_left _ ?_
  rw[List.eraseIdx_eq_take_drop_succ]
  show List.Perm (left[next k % left.length]::(left.take (next k % left.length)++left.drop (next k % left.length+1))) left
  refine List.perm_middle.symm.trans ?_
  rw[<-List.drop_eq_getElem_cons hl,List.take_append_drop]
theorem qI{α :Type}(next:Nat->Nat)(xs:Array α):List.Perm (pickOrder next xs).toList xs.toList:=by
 have:=XN next xs.size 0 xs.toList #[] (by simp)
 simpa [pickOrder]using this
end L2
namespace L2
open PySem PyProof.Rows
def ID(w:World):Bool:= !w.params.followText "set-order"
def iv:Value->Int
 | .int n _=>n
 | _=>0
def IntSet(P:Program)(w:World)(h:Heap)(a:Addr)(ms:List Int):Prop :=
 ∃ (o:Obj) (es:Array (Int × Value)) (ep:Nat) (t:SetTable),h.get? a=some o/\o.ExactSet/\o.data=.set es ep t/\ElemsOf (intKind P w) es.toList ∧
  List.Perm (es.toList.map λe=>iv e.2) ms/\es.size<scanBound/\t.fits es.size=true/\Led (ID w) t
section
variable{P:Program}{w:World}{A:Around}{E:Value->Shared->Prop}{s:Shared}
theorem RD{es:List (Int × Value)}(h:ElemsOf (intKind P w) es){e:Int × Value}(he:e∈es):∃ t,e.2=.int (iv e.2) t:=by
 obtain⟨⟨k,hk,_⟩,_⟩:=h e he
 obtain⟨t,z⟩:=Value.isInt_shape hk
 exact⟨t,by rw[z];rfl⟩
theorem XO{es:List (Int × Value)}(h:ElemsOf (intKind P w) es){e:Int × Value}(he:e∈es){k:Int}:(intKind P w).is k e.2=true↔iv e.2=k:=by
 obtain⟨t,z⟩:=RD h he
 rw[z]
 refine⟨λq=> ?_,λq=> ?_⟩
 ·have q':Value.isInt k (.int (iv e.2) t)=true:=q
  obtain⟨t',z'⟩:=Value.isInt_shape q'
  cases z';rfl
 ·rw[<-q];exact intKind_is ..
theorem XQ{es:List (Int × Value)}{ms:List Int}(h:ElemsOf (intKind P w) es)(p:List.Perm (es.map λe=>iv e.2) ms)(k:Int):k∈ms↔∃ e∈es,(intKind P w).is k e.2=true:=by
 rw[<-p.mem_iff,List.mem_map]
 exact⟨λ⟨e,he,q⟩=>⟨e,he,(XO h he).mpr q⟩,λ⟨e,he,q⟩=>⟨e,he,(XO h he).mp q⟩⟩
theorem XR{h:Heap}{a:Addr}{o:Obj}{es es':Array (Int × Value)}{ep:Nat}{t t':SetTable}{ms:List Int}(ho:h.get? a=some o)(hex:o.ExactSet)(hd:o.data=.set es ep t)
  (hel:ElemsOf (intKind P w) es'.toList) (hp:List.Perm (es'.toList.map λe=>iv e.2) ms) (hb:es'.size<scanBound) (hf:t'.fits es'.size=true) (L:Led (ID w) t') :
  (h.update a (Obj.putSet es' t')).get? a=some { o with data:=.set es' (ep+1) t' }/\IntSet P w (h.update a (Obj.putSet es' t')) a ms:=by
 have g:=(SetOf_store (knd:=intKind P w) (S':=λk=>es'.toList.any λe=>(intKind P w).is k e.2) ho hex hd hel (λk=>by rw[List.any_eq_true]) hb hf).1
 exact⟨g,_,es',ep+1,t',g,hex,rfl,hel,hp,hb,hf,L⟩
theorem XS{g:Bool->Sem Unit}(hg:∀ (b:Bool) (s1:Shared) (R:Unit->Shared->Prop),R () s1->wpAny (model P w) A (g b) R E s1){a:Addr}{o:Obj}{es e1:Array (Int × Value)}{ep:Nat}{t t1:SetTable}{ms:List Int}{wd:Bool}
  (ho:s.heap.get? a=some o) (hex:o.ExactSet) (hd:o.data=.set es ep t) (hel:ElemsOf (intKind P w) e1.toList) (hp:List.Perm (e1.toList.map λe=>iv e.2) ms) (hb:e1.size<scanBound) (hf:t1.fits e1.size=true) (L:Led (ID w) t1)
  {R:Option Bool->Shared->Prop} (h:∀ h',Heap.SameBut a s.heap h'->IntSet P w h' a ms->R (some true) { s with heap:=h' }) :
  wpAny (model P w) A (do
   storeSet a e1 t1
   if(!wd && t1.tooFull)=true then do
    g (relayAll t1 e1 (SetTable.grown e1.size)).2.2
    storeSet a (relayAll t1 e1 (SetTable.grown e1.size)).1 (relayAll t1 e1 (SetTable.grown e1.size)).2.1
    pure (some true)
   else pure (some true)) R E s:=by
 refine wpAny_bind (wpAny_storeSet_of ho hd ?_ (fits_of_scanBound hb))
 obtain⟨g1,S1⟩:=XR ho hex hd hel hp hb hf L
 have sb1:=Heap.SameBut.update s.heap a (Obj.putSet e1 t1)
 split
 ·have p2:=relayAll_perm t1 e1 (SetTable.grown e1.size)
  have f2:=relayAll_fits t1 e1 (SetTable.grown e1.size)
  have L2:=Led.relayAll L.led L e1 (SetTable.grown e1.size)
  revert p2 f2 L2
  generalize relayAll t1 e1 (SetTable.grown e1.size)=r
  obtain⟨e2,t2,gv⟩:=r
  intro p2 f2 L2
  dsimp only at p2 f2 L2 ⊢
  have z2:e2.size=e1.size:=by rw[<-Array.length_toList,p2.length_eq,Array.length_toList]
  have b2:e2.size<scanBound:=z2 ▸ hb
  refine wpAny_bind (hg _ _ _ ?_)
  refine wpAny_bind (wpAny_storeSet_of g1 rfl ?_ (fits_of_scanBound b2))
  obtain⟨_,S2⟩:=XR (P:=P) (w:=w) g1 hex rfl (hel.perm p2) ((p2.map _).trans hp) b2 f2 L2
  exact wpAny_pure (h _ (sb1.trans (Heap.SameBut.update ..)) S2)
 ·exact wpAny_pure (h _ sb1 S1)
theorem XT{ms:List Int}{k:Int}(h:k∈ms):step_dedup ms k=ms:=by
 unfold step_dedup
 have e:(ms.any λx=>x == k)=true:=List.any_eq_true.mpr ⟨k,h,beq_self_eq_true k⟩
 rw[if_pos e]
theorem XU{ms:List Int}{k:Int}(h:¬ k∈ms):step_dedup ms k=ms++[k]:=by
 unfold step_dedup
 rw[if_neg λz=> ?_]
 obtain⟨x,hx,q⟩:=List.any_eq_true.mp z
 rw[beq_iff_eq]at q
 exact h (q ▸ hx)
theorem qJ{a:Addr}{ms:List Int}{k:Int}{tk:Tok}{Q:Bool->Shared->Prop}(hS:IntSet P w s.heap a ms)(hr:ms.length+1<scanBound)
    (h:∀ (b:Bool) h',Heap.SameBut a s.heap h'->IntSet P w h' a (step_dedup ms k)->Q b { s with heap:=h' }):wpAny (model P w) A (setAddHashed a (.int k tk) ((intKind P w).hash k)) Q E s:=by
  have hk:(intKind P w).is k (.int k tk)=true:=intKind_is ..
  have hsc:(Value.int k tk).scannable=true:=rfl
  generalize Value.int k tk=x at hk hsc
  obtain⟨o,es,ep,t,ho,hex,hd,hel,hp,hb,hf,L⟩:=hS
  have hlen:es.size=ms.length:=by rw[<-hp.length_eq,List.length_map,Array.length_toList]
  have hivx:iv x=k:=by obtain⟨_,z⟩:=Value.isInt_shape hk;rw[z];rfl
  unfold setAddHashed setAddHashedIn
  refine wpAny_holding (wpAny_bind (wpAny_setState_of ho hd hf ?_))
  dsimp only
  rw[byScan_of hsc hb hel,if_pos rfl]
  unfold setAddByScan
  refine wpAny_bind (wpAny_bind (wpAny_rule (wpAny_bind (wpAny_setScan_of hk ho hd hf hel ?_))))
  cases hx:es.toList.findIdx? (λe=>(intKind P w).is k e.2)with
  | some j =>
    dsimp only
    obtain⟨hj,pj,_⟩:=List.findIdx?_eq_some_iff_getElem.mp hx
    have hm:k∈ms:=(XQ hel hp k).mpr ⟨_,List.getElem_mem hj,pj⟩
    refine wpAny_pure (wpAny_pure ?_)
    have:=h false s.heap (Heap.SameBut.refl a s.heap) ⟨o,es,ep,t,ho,hex,hd,hel,by rw[XT hm];exact hp,hb,hf,L⟩
    exact this
  | none =>
    dsimp only
    have hm:¬ k∈ms:=λz=>by
      obtain⟨e,he,q⟩:=(XQ hel hp k).mp z
      have:=List.findIdx?_eq_none_iff.mp hx e he
      rw[q]at this;cases this
    have p1:=layNew_perm t es ((intKind P w).hash k) x
    have f1:=layNew_fits t es ((intKind P w).hash k) x
    have L1:=L.layNew es ((intKind P w).hash k) x
    revert p1 f1 L1
    generalize layNew t es ((intKind P w).hash k) x=r
    obtain⟨e1,t1,wd,gv⟩:=r
    intro p1 f1 L1
    dsimp only at p1 f1 L1 ⊢
    rw[Array.toList_push]at p1
    have hel1:ElemsOf (intKind P w) e1.toList:=(hel.push hk hsc).perm p1
    have hp1:List.Perm (e1.toList.map λe=>iv e.2) (step_dedup ms k):=by
      rw[XU hm]
      refine(p1.map _).trans ?_
      rw[List.map_append,List.map_cons,List.map_nil,hivx]
      exact List.Perm.append_right _ hp
    have hb1:e1.size<scanBound:=by
      rw[<-Array.length_toList,p1.length_eq,List.length_append,Array.length_toList,hlen]
      exact hr
    have gw:∀ (b:Bool) (s1:Shared) (R:Unit->Shared->Prop),R () s1 →
        wpAny (model P w) A (match b with
          | true=>rule "set.scan.the-table-gave-way"
          | false=>pure ()) R E s1:=λb s1 R q=>by
      cases b
      ·exact wpAny_pure q
      ·exact wpAny_rule q
    refine wpAny_bind (gw _ _ _ ?_)
    split
    · refine wpAny_bind ?_
      rw[hashByValue_scannable 8 hsc]
      refine wpAny_pure (XS ?_ ho hex hd hel1 hp1 hb1 ?_ ?_ λh' sb S'=> ?_)
      · intro b s1 R q
        cases b
        ·exact wpAny_pure q
        ·exact wpAny_rule q
      · split
        ·exact f1
        ·exact SetTable.fits_plain_off f1
      · split
        ·exact L1
        ·exact L1.plainOff
      ·dsimp only;exact wpAny_pure (h _ h' sb S')
    · refine wpAny_bind (wpAny_pure ?_)
      rw[if_pos rfl]
      refine XS ?_ ho hex hd hel1 hp1 hb1 f1 L1 λh' sb S'=> ?_
      · intro b s1 R q
        cases b
        ·exact wpAny_pure q
        ·exact wpAny_rule q
      ·dsimp only;exact wpAny_pure (h _ h' sb S')
theorem IntSet.at{h h':Heap}{a:Addr}{ms:List Int}(x:IntSet P w h a ms)(k:∀ o,h.get? a=some o->h'.get? a=some o):IntSet P w h' a ms:=by
 obtain⟨o,es,ep,t,ho,r⟩:=x
 exact⟨o,es,ep,t,k _ ho,r⟩
end
section
variable{P:Program}{w:World}{A:Around}{R:Result->Shared->Prop}{I:Addr}{fp wr:List Addr}{G:Array GenState->Array GenState->Prop}{n:Nat}{T:Nat->Value->Prop}{St:Nat->Shared->Prop}
theorem qK(W:WalksS P w A.in1 I fp wr G n T St)(a:Addr)(ha:a∉fp)(val:Nat->Int)(hv:∀ i v,T i v->∃ t,v=.int (val i) t)(hb:n+1<scanBound):∀ (k i:Nat) (s:Shared),n - i=k->i<=n->St i s →
  IntSet P w s.heap a (firstMet val i)->(∀ s',Moved (a::wr) G s s'->IntSet P w s'.heap a (firstMet val n)->R (.ok (.ret .none)) s') →
  codeAny (model P w) A (.builtin "set.update.loop" ⟨[.ref a,.ref I],[]⟩) R s:=by
 have haw:a∉wr:=λz=>ha (W.sub _ z)
 have up:∀ b∈wr,b∈a::wr:=λb q=>List.mem_cons_of_mem _ q
 intro k
 induction k with
 | zero =>
  intro i s e1 e2 st S q
  obtain rfl:i=n:=by omega
  refine codeAny_builtin PyProof.Rows.F.entry_set_update_loop ?_
  rw[Around.under_plainId PyProof.Rows.F.plain_set_update_loop _]
  show wpAny _ A.in1 (pyNext (.ref I) >>= _) _ _ s
  refine wpAny_bind (W.done s _ _ st λs' m=> ?_)
  show wpAny _ A.in1 (ret Value.none) _ _ s'
  exact wpAny_pure (q s' (m.mono up) (S.at λo e=>m.heap a o haw e))
 | succ k ih =>
  intro i s e1 e2 st S q
  have hi:i<n:=by omega
  refine codeAny_builtin PyProof.Rows.F.entry_set_update_loop ?_
  rw[Around.under_plainId PyProof.Rows.F.plain_set_update_loop _]
  show wpAny _ A.in1 (pyNext (.ref I) >>= _) _ _ s
  refine wpAny_bind (W.item i s _ _ hi st λv s1 tv st1 m=> ?_)
  obtain⟨t,rfl⟩:=hv i v tv
  have S1:=S.at λo e=>m.heap a o haw e
  show wpAny _ A.in1 (holding [Value.int (val i) t] (setAdd a (.int (val i) t)) >>= _) _ _ s1
  refine wpAny_bind (wpAny_holding ?_)
  unfold setAdd
  refine wpAny_holding (wpAny_bind ((intKind P w).pyHash (k:=val i) (intKind_is ..) ?_))
  refine qJ (s:={ s1 with toks:=s1.toks+1 }) S1 (by have:=firstMet_length_le val i;omega) λb h' sb S2=> ?_
  rw[<-firstMet_succ]at S2
  refine wpAny_pure ⟨plainId_quiet PyProof.Rows.F.plain_set_update_loop _,ih (i+1) _ (by omega) hi (W.frame _ s1 _ _ st1 (Nat.le_succ _) λb hb o e=> ?_) S2 λs2 m2 S3=> ?_⟩
  ·rw[sb.2 b λz:b=a=>ha (z ▸ hb)];exact e
  ·refine q s2 (Moved.trans W.gtrans ((m.mono up).then_heap (Nat.le_succ _) λb o hb e=> ?_) m2) S3
   rw[sb.2 b λz:b=a=>hb (z ▸ List.mem_cons_self)];exact e
end
section
variable{P:Program}{w:World}{A:Around}{E:Value->Shared->Prop}{s:Shared}
theorem qL{x:Value}{Q:Value->Shared->Prop}(h:Q (.ref s.heap.objs.size) { s with heap:=s.heap.push { cls:=.type "set",dict:=none,data:=.set #[] 0 (.fresh 0 0 (ID w)) } }) :
  codeAny (model P w) A (.call (.builtin "set.__new__") ⟨[.type "set",x],[]⟩) (wants Q E) s:=by
 refine codeAny_of_tree ?_
 show wpAny _ A.in1 (checkBuiltinCall "set.__new__" ⟨[.type "set",x],[]⟩ >>= λ_=>again (.builtin "set.__new__" ⟨[.type "set",x],[]⟩)) _ _ s
 refine wpAny_bind (wpAny_of_eq (PySem.F.newCall_set_1 x) (wpAny_pure ⟨plainId_quiet PySem.F.plain_set_new _,codeAny_builtin PySem.F.entry_set_new ?_⟩))
 rw[Around.under_plainId PySem.F.plain_set_new _]
 unfold Builtin.«set.__new__» Builtin.Frozenset.newClass
 have e:=sub_set_self
 obtain⟨hp,g,d,tk,os⟩:=s
 dsimp only
 wp_walk
 refine wpAny_askSetting (wpAny_pure ?_)
 dsimp only
 simp only[newObj]
 exact wpAny_bind (wpAny_alloc (wpAny_pure (wpAny_pure h)))
end
end L2
namespace L2
open PySem PyProof.Rows
abbrev FZ(f:Value)(i:Nat)(a:Addr)(n ep:Nat):Obj:={ cls:=.type "set_iterator",dict:=none,data:=.fields #[f,rawInt i,.ref a,rawInt n,rawInt ep],slots:= #[] }
theorem F1:Slot "set_iterator" "__next__" "set_iterator.__next__" :=
 .of (owner:="set_iterator") (n:="__next__") (by rw[typeLookup_type,builtinLookup_eq_fast];kernel_rfl) (by decide +kernel) (by decide +kernel) (by decide +kernel)
  (by first | exact .inl (by decide +kernel) | exact .inr (by decide +kernel))
  (by rw[isSubtype_type];kernel_rfl)
theorem OC:entryFor table "set_iterator.__next__"=some Builtin.«set_iterator.__next__» :=entryFor_of_fast (by kernel_rfl)
theorem OD(a:Value):argsOk "set_iterator.__next__" ⟨[a],[]⟩:=by
 unfold argsOk
 kernel_rfl
theorem XV:Slot "set_iterator" "__iter__" "set_iterator.__iter__" :=
 .of (owner:="set_iterator") (n:="__iter__") (by rw[typeLookup_type,builtinLookup_eq_fast];kernel_rfl) (by decide +kernel) (by decide +kernel) (by decide +kernel)
  (by first | exact .inl (by decide +kernel) | exact .inr (by decide +kernel))
  (by rw[isSubtype_type];kernel_rfl)
section
variable{P:Program}{w:World}{A:Around}{E:Value->Shared->Prop}{s:Shared}
theorem qM{it a:Addr}{sl i n ep nx:Nat}{x:Value}{o:Obj}{es:Array (Int × Value)}{ep':Nat}{t:SetTable}{Q:Option Value->Shared->Prop}(hit:s.heap.get? it=some (FZ (rawInt sl) i a n ep))
  (ho:s.heap.get? a=some o) (hd:o.data=.set es ep' t) (hf:t.fits es.size=true) (hn:es.size=n)
  (hs:∀ (A':Around) (E':Value->Shared->Prop) (Q':Option (Value × Nat)->Shared->Prop),Q' (some (x,nx)) s->wpAny (model P w) A' (setNext a sl i ep) Q' E' s)
  (q:∀ h',h'.get? it=some (FZ (rawInt nx) (i+1) a n ep)->Heap.SameBut it s.heap h'->Q (some x) { s with heap:=h' }):wpAny (model P w) A (pyNext (.ref it)) Q E s:=by
 have T:s.TypeIs (.ref it) "set_iterator":=⟨_,hit,rfl⟩
 unfold pyNext
 refine wpAny_bind (wpAny_attempt (wpAny_callSpecial?_slot (name:=Str.ofString "__next__") T F1 (wpAny_call_entry F1 T OC ?_ (OD _))))
 unfold Builtin.«set_iterator.__next__»
 refine wpAny_bind (wpAny_pure ?_)
 refine wpAny_bind (wpAny_fieldsOf hit rfl ?_)
 show wpAny _ _ (setEntries a >>= _) _ _ s
 refine wpAny_bind (wpAny_setEntries_of ho hd hf ?_)
 rw[if_neg (by rw[hn];simp)]
 show wpAny _ _ (setNext a (sl:Int).toNat (i:Int).toNat (ep:Int).toNat >>= _) _ _ s
 rw[Int.toNat_natCast,Int.toNat_natCast,Int.toNat_natCast]
 refine wpAny_bind (hs _ _ _ ?_)
 dsimp only
 refine wpAny_bind (wpAny_setField_rec hit (by simp) λh1 g1 b1=> ?_)
 refine wpAny_bind (wpAny_setField_rec g1 (by simp) λh2 g2 b2=> ?_)
 exact wpAny_pure ⟨_,rfl,wpAny_pure (q h2 g2 (b1.trans b2))⟩
theorem XW{it:Addr}{h1:Heap}{Q:Except Value (Option Value)->Shared->Prop}(hh:A.handled=none)(hx:Heap.ExtBut it s.heap h1)
  (q:∀ h' e,Heap.ExtBut it s.heap h'->({ s with heap:=h' }:Shared).TypeIs e "StopIteration"->Q (.error e) { s with heap:=h' }) :
  wpAny (model P w) A (newExc (.type "StopIteration") [] >>= raiseNew (α :=Fin)) (λ_ _=>False) (λe=>Q (.error e)) { s with heap:=h1 }:=by
 refine wpAny_bind ?_
 simp only[newExc,newTuple]
 refine wpAny_bind (wpAny_newObj_type ?_ (by size_fits))
 refine wpAny_bind (m:=firstArgMember _ _) (wpAny_of_eq (a:=Value.none) (by first | rfl | (simp only[firstArgMember];rfl)) ?_)
 refine wpAny_newObj_type ?_ (by size_fits)
 simp only[raiseNew]
 refine wpAny_bind (wpAny_handled ?_)
 rw[hh]
 refine wpAny_bind (wpAny_pure (wpAny_throw ?_))
 exact q _ _ ((hx.push _).push _) ⟨_,Heap.get?_push_size _ rfl,rfl⟩
theorem qN{it a:Addr}{sl i n ep:Nat}{o:Obj}{es:Array (Int × Value)}{ep':Nat}{t:SetTable}{Q:Option Value->Shared->Prop}(hh:A.handled=none)(hit:s.heap.get? it=some (FZ (rawInt sl) i a n ep))
  (ho:s.heap.get? a=some o) (hd:o.data=.set es ep' t) (hf:t.fits es.size=true) (hn:es.size=n)
  (hs:∀ (A':Around) (E':Value->Shared->Prop) (Q':Option (Value × Nat)->Shared->Prop),Q' none s->wpAny (model P w) A' (setNext a sl i ep) Q' E' s)
  (q:∀ h',Heap.ExtBut it s.heap h'->Q none { s with heap:=h' }):wpAny (model P w) A (pyNext (.ref it)) Q E s:=by
 have T:s.TypeIs (.ref it) "set_iterator":=⟨_,hit,rfl⟩
 unfold pyNext
 refine wpAny_bind (wpAny_attempt (wpAny_callSpecial?_slot (name:=Str.ofString "__next__") T F1 (wpAny_call_entry F1 T OC ?_ (OD _))))
 unfold Builtin.«set_iterator.__next__»
 refine wpAny_bind (wpAny_pure ?_)
 refine wpAny_bind (wpAny_fieldsOf hit rfl ?_)
 show wpAny _ _ (setEntries a >>= _) _ _ s
 refine wpAny_bind (wpAny_setEntries_of ho hd hf ?_)
 rw[if_neg (by rw[hn];simp)]
 show wpAny _ _ (setNext a (sl:Int).toNat (i:Int).toNat (ep:Int).toNat >>= _) _ _ s
 rw[Int.toNat_natCast,Int.toNat_natCast,Int.toNat_natCast]
 refine wpAny_bind (hs _ _ _ ?_)
 dsimp only
 refine wpAny_bind (wpAny_setField_rec hit (by simp) λh1 g1 b1=> ?_)
 refine wpAny_mono (XW (s:=s) (it:=it) (A:=A.in1) (Q:=λr s'=>match r with
  | .error e=>wpAny (model P w) A (isInstance e (.type "StopIteration") >>= λb=>if b=true then pure none else throw e) Q E s'
  | _=>False) (by simpa using hh) b1.extBut λh' e hx te=> ?_) (λ_ _ z=>z.elim) (λe s' z=>z)
 refine wpAny_bind (wpAny_isInstance (T:="StopIteration") (b:=true) te isSubtype_stop ?_)
 exact wpAny_pure (q _ hx)
theorem qO{it a tp:Addr}{i n ep pl:Nat}{ot:Obj}{ps:Array Value}{k:Nat}{x:Int × Value}{o:Obj}{es:Array (Int × Value)}{t:SetTable}{Q:Option Value->Shared->Prop}(hit:s.heap.get? it=some (FZ (.ref tp) i a n ep))
  (ho:s.heap.get? a=some o) (hd:o.data=.set es ep t) (hf:t.fits es.size=true) (hn:es.size=n) (ht:s.heap.get? tp=some ot) (hdt:ot.data=.seq ps k) (hp:ps[i]? =some (rawInt pl)) (hx:es[pl]? =some x)
  (q:∀ h',h'.get? it=some (FZ (.ref tp) (i+1) a n ep)->Heap.SameBut it s.heap h'->Q (some x.2) { s with heap:=h' }):wpAny (model P w) A (pyNext (.ref it)) Q E s:=by
 have T:s.TypeIs (.ref it) "set_iterator":=⟨_,hit,rfl⟩
 unfold pyNext
 refine wpAny_bind (wpAny_attempt (wpAny_callSpecial?_slot (name:=Str.ofString "__next__") T F1 (wpAny_call_entry F1 T OC ?_ (OD _))))
 unfold Builtin.«set_iterator.__next__»
 refine wpAny_bind (wpAny_pure ?_)
 refine wpAny_bind (wpAny_fieldsOf hit rfl ?_)
 show wpAny _ _ (setEntries a >>= _) _ _ s
 refine wpAny_bind (wpAny_setEntries_of ho hd hf ?_)
 rw[if_neg (by rw[hn];simp)]
 show wpAny _ _ (seqItems? (.ref tp) >>= _) _ _ s
 refine wpAny_bind (wpAny_seqItems ht hdt ?_)
 dsimp only
 rw[Int.toNat_natCast,hp]
 show wpAny _ _ (setNextDrawn a (pl:Int).toNat (ep:Int).toNat >>= _) _ _ s
 rw[Int.toNat_natCast,Int.toNat_natCast]
 unfold setNextDrawn
 refine wpAny_bind (wpAny_bind (wpAny_setState_of ho hd hf ?_))
 dsimp only
 rw[if_neg (by simp)]
 obtain⟨x1,x2⟩:=x
 rw[hx]
 refine wpAny_pure ?_
 refine wpAny_bind (wpAny_setField_rec hit (by simp) λh2 g2 b2=> ?_)
 exact wpAny_pure ⟨_,rfl,wpAny_pure (q h2 g2 b2)⟩
theorem qP{it a tp:Addr}{i n ep:Nat}{ot:Obj}{ps:Array Value}{k:Nat}{o:Obj}{es:Array (Int × Value)}{t:SetTable}{Q:Option Value->Shared->Prop}(hh:A.handled=none)(hit:s.heap.get? it=some (FZ (.ref tp) i a n ep))
  (ho:s.heap.get? a=some o) (hd:o.data=.set es ep t) (hf:t.fits es.size=true) (hn:es.size=n) (ht:s.heap.get? tp=some ot) (hdt:ot.data=.seq ps k) (hp:ps[i]? =none)
  (q:∀ h',Heap.ExtBut it s.heap h'->Q none { s with heap:=h' }):wpAny (model P w) A (pyNext (.ref it)) Q E s:=by
 have T:s.TypeIs (.ref it) "set_iterator":=⟨_,hit,rfl⟩
 unfold pyNext
 refine wpAny_bind (wpAny_attempt (wpAny_callSpecial?_slot (name:=Str.ofString "__next__") T F1 (wpAny_call_entry F1 T OC ?_ (OD _))))
 unfold Builtin.«set_iterator.__next__»
 refine wpAny_bind (wpAny_pure ?_)
 refine wpAny_bind (wpAny_fieldsOf hit rfl ?_)
 show wpAny _ _ (setEntries a >>= _) _ _ s
 refine wpAny_bind (wpAny_setEntries_of ho hd hf ?_)
 rw[if_neg (by rw[hn];simp)]
 show wpAny _ _ (seqItems? (.ref tp) >>= _) _ _ s
 refine wpAny_bind (wpAny_seqItems ht hdt ?_)
 dsimp only
 rw[Int.toNat_natCast,hp]
 dsimp only
 refine wpAny_bind (wpAny_setField_rec hit (by simp) λh1 g1 b1=> ?_)
 refine wpAny_bind (wpAny_setField_rec g1 (by simp) λh2 g2 b2=> ?_)
 refine wpAny_mono (XW (s:=s) (it:=it) (A:=A.in1) (Q:=λr s'=>match r with
  | .error e=>wpAny (model P w) A (isInstance e (.type "StopIteration") >>= λb=>if b=true then pure none else throw e) Q E s'
  | _=>False) (by simpa using hh) (b1.trans b2).extBut λh' e hx te=> ?_) (λ_ _ z=>z.elim) (λe s' z=>z)
 refine wpAny_bind (wpAny_isInstance (T:="StopIteration") (b:=true) te isSubtype_stop ?_)
 exact wpAny_pure (q _ hx)
theorem qQ{a:Addr}{o:Obj}{es:Array (Int × Value)}{ep:Nat}{t:SetTable}{i:Nat}{Q:Option (Value × Nat)->Shared->Prop}(ft:w.params.followText "set-order"=true)(ho:s.heap.get? a=some o)(hd:o.data=.set es ep t)(hf:t.fits es.size=true)
  (q:Q (((pickOrder (w.params.setOrder a ep) es)[i]?).map λe=>(e.2,0)) s):wpAny (model P w) A (setNext a 0 i ep) Q E s:=by
 unfold setNext
 refine wpAny_bind (wpAny_setState_of ho hd hf ?_)
 dsimp only
 refine wpAny_bind ?_
 unfold setsByText
 refine wpAny_bind (wpAny_askSetting (wpAny_pure ?_))
 show wpAny _ _ (if w.params.followText "set-order"=true then _ else _) _ _ s
 rw[if_pos ft,if_neg (by simp)]
 refine wpAny_bind ?_
 unfold setWalk
 refine wpAny_bind (wpAny_setState_of ho hd hf ?_)
 dsimp only
 refine wpAny_bind ?_
 unfold setsByText
 refine wpAny_bind (wpAny_askSetting (wpAny_pure ?_))
 show wpAny _ _ (if w.params.followText "set-order"=true then _ else _) _ _ s
 rw[if_pos ft]
 refine wpAny_bind (wpAny_askSetting (wpAny_pure ?_))
 exact wpAny_pure q
theorem qR{a:Addr}{o:Obj}{es:Array (Int × Value)}{ep:Nat}{t:SetTable}{i:Nat}{Q:Option (Value × Nat)->Shared->Prop}(ft:w.params.followText "set-order"=false)(ho:s.heap.get? a=some o)(hd:o.data=.set es ep t)(hf:t.fits es.size=true)
  (L:Led (ID w) t) (pl:(!t.plain && decide (es.size > 1))=false) (hi:i<=es.size) (q:Q ((es[i]?).map λe=>(e.2,JT t.place (i+1))) s):wpAny (model P w) A (setNext a (JT t.place i) i ep) Q E s:=by
 have hz:t.place.size=es.size:=by
  unfold SetTable.fits at hf
  simp only[Bool.and_eq_true,beq_iff_eq]at hf
  exact hf.1
 unfold setNext
 refine wpAny_bind (wpAny_setState_of ho hd hf ?_)
 dsimp only
 refine wpAny_bind ?_
 unfold setsByText
 refine wpAny_bind (wpAny_askSetting (wpAny_pure ?_))
 show wpAny _ _ (if w.params.followText "set-order"=true then _ else _) _ _ s
 rw[if_neg (show ¬ w.params.followText "set-order"=true by rw[ft];exact Bool.false_ne_true)]
 have ld:t.led=true:=by rw[L.led];unfold ID;rw[ft];rfl
 show wpAny _ _ (if(!t.plain && decide (es.size > 1))=true then _ else _) _ _ s
 rw[if_neg (by rw[pl];exact Bool.false_ne_true)]
 refine wpAny_bind (m:=if(!t.led && !es.isEmpty)=true then _ else _) ?_
 rw[if_neg (by rw[ld];simp)]
 refine wpAny_pure (wpAny_pure ?_)
 rw[qH L.rise (by omega)]
 by_cases hlt:i<es.size
 ·have h2:i<t.place.size:=by omega
  rw[Array.getElem?_eq_getElem hlt,Array.getElem?_eq_getElem h2]
  rw[Array.getElem?_eq_getElem hlt]at q
  have:JT t.place (i+1)=t.place[i]+1:=by simp[JT,h2]
  rw[Option.map_some,this]at q
  exact q
 ·rw[Array.getElem?_eq_none (by omega)]
  rw[Array.getElem?_eq_none (by omega),Option.map_none]at q
  exact q
end
end L2
namespace L2
open PySem PyProof.Rows
theorem qS:entryFor table "set.__iter__"=some Builtin.«frozenset.__iter__» :=entryFor_alias (id':="frozenset.__iter__") (by kernel_rfl) rfl (by decide +kernel) (by kernel_rfl)
theorem qT:entryFor table "set_iterator.__iter__"=some Builtin.«dict_keyiterator.__iter__» :=entryFor_alias (id':="dict_keyiterator.__iter__") (by kernel_rfl) rfl (by decide +kernel) (by kernel_rfl)
theorem qU(a:Value):argsOk "set_iterator.__iter__" ⟨[a],[]⟩:=by
 unfold argsOk
 kernel_rfl
structure RE(P:Program)(w:World)(A:Around)(h h1:Heap)(a I:Addr)(ms:List Int):Prop where
 ex:∃ (fp:List Addr) (ord:List Value) (ks:List Int) (St:Nat->Heap->Prop),(∀ b∈fp,b=a\/h.objs.size<=b)/\Walks P w A I fp [I] ord.length (λi v=>ord[i]? =some v) St/\St 0 h1/\IntsAre ord ks/\ks.Perm ms
 new:h.objs.size<=I
section
variable{P:Program}{w:World}{A:Around}{E:Value->Shared->Prop}{s:Shared}
theorem RF:∀ {es:List (Int × Value)},ElemsOf (intKind P w) es->IntsAre (es.map (·.2)) (es.map λe=>iv e.2)
 | [],_=>.nil
 | e::r,h=>by
  obtain⟨t,z⟩:=RD h (List.mem_cons_self ..)
  have:=RF h.tail
  rw[List.map_cons,List.map_cons,z]
  exact .cons _ _ this
theorem XX{it:Addr}{f:Value}{i:Nat}{a:Addr}{n ep:Nat}{Q:Value->Shared->Prop}(hit:s.heap.get? it=some (FZ f i a n ep))(q:Q (.ref it) s):wpAny (model P w) A (pyIter (.ref it)) Q E s:=by
 have T:s.TypeIs (.ref it) "set_iterator":=⟨_,hit,rfl⟩
 refine wpAny_pyIter_slot T XV (wpAny_call_entry XV T qT ?_ (qU _))
 show wpAny _ _ (ret (.ref it)) _ _ s
 exact wpAny_pure ⟨_,rfl,"set_iterator",_,T,F1.lookup,q⟩
theorem qV{a I:Addr}{es:Array (Int × Value)}{ep:Nat}{t:SetTable}{o:Obj}{f:Nat->Nat}{ord:List Value}(hh:A.handled=none)(hne:a≠I)(hd:o.data=.set es ep t)(hf:t.fits es.size=true)(hl:ord.length=es.size)
  (nx:∀ (s:Shared),s.heap.get? a=some o->∀ (i:Nat),i<=es.size->∀ (A':Around) (E':Value->Shared->Prop) (Q':Option (Value × Nat)->Shared->Prop),Q' ((ord[i]?).map λv=>(v,f (i+1))) s->wpAny (model P w) A' (setNext a (f i) i ep) Q' E' s) :
  Walks P w A I [I,a] [I] ord.length (λi v=>ord[i]? =some v) (λi h=>h.get? I=some (FZ (rawInt (f i)) i a es.size ep)/\h.get? a=some o) where
 sub:=λb hb=>by simp at hb;simp[hb]
 frame:=λ_ _ _ st k=>⟨k I (by simp) _ st.1,k a (by simp) _ st.2⟩
 item:=λi s Q E hi st q=>by
  have e:ord[i]? =some ord[i]:=List.getElem?_eq_getElem hi
  refine qM st.1 st.2 hd hf rfl (λA' E' Q' q'=>nx s st.2 i (by omega) A' E' Q' (by rw[e];exact q')) λh' g b=> ?_
  exact q _ h' s.toks e ⟨g,b.extBut a _ hne st.2⟩ λc u hc z=>b.extBut c u (λy=>hc (by simp[y])) z
 done:=λs Q E st q=>by
  refine qN hh st.1 st.2 hd hf rfl (λA' E' Q' q'=>nx s st.2 ord.length (by omega) A' E' Q' (by rw[List.getElem?_eq_none (Nat.le_refl _)];exact q')) λh' x=> ?_
  exact q h' s.toks λc u hc z=>x c u (λy=>hc (by simp[y])) z
 self:=λ_ _ _ _ st q=>XX st.1 q
theorem qW{a I tp:Addr}{es:Array (Int × Value)}{ep k:Nat}{t:SetTable}{o ot:Obj}{pl:List Nat}{ord:List Value}(hh:A.handled=none)(hne:a≠I)(hnt:tp≠I)(hd:o.data=.set es ep t)(hf:t.fits es.size=true)
  (hdt:ot.data=.seq (pl.map λ(i:Nat)=>rawInt i).toArray k) (hl:ord.length=pl.length) (hx:∀ (i p:Nat),pl[i]? =some p->∃ e:Int × Value,es[p]? =some e/\ord[i]? =some e.2) :
  Walks P w A I [I,a,tp] [I] ord.length (λi v=>ord[i]? =some v) (λi h=>h.get? I=some (FZ (.ref tp) i a es.size ep)/\h.get? a=some o/\h.get? tp=some ot) where
 sub:=λb hb=>by simp at hb;simp[hb]
 frame:=λ_ _ _ st k=>⟨k I (by simp) _ st.1,k a (by simp) _ st.2.1,k tp (by simp) _ st.2.2⟩
 item:=λi s Q E hi st q=>by
  have hi':i<pl.length:=by omega
  have e:=List.getElem?_eq_getElem hi'
  obtain⟨x,e1,e2⟩:=hx i _ e
  refine qO st.1 st.2.1 hd hf rfl st.2.2 hdt (by rw[List.getElem?_toArray,List.getElem?_map,e];rfl) e1 λh' g b=> ?_
  exact q _ h' s.toks e2 ⟨g,b.extBut a _ hne st.2.1,b.extBut tp _ hnt st.2.2⟩ λc u hc z=>b.extBut c u (λy=>hc (by simp[y])) z
 done:=λs Q E st q=>by
  refine qP hh st.1 st.2.1 hd hf rfl st.2.2 hdt (by rw[List.getElem?_toArray,List.getElem?_map,List.getElem?_eq_none (by omega)];rfl) λh' x=> ?_
  exact q h' s.toks λc u hc z=>x c u (λy=>hc (by simp[y])) z
 self:=λ_ _ _ _ st q=>XX st.1 q
theorem qX{n:Nat}{Q:Nat->Shared->Prop}(hn:n≠0)(q:∀ i d,i<n->Q i { s with drawn:=d }):wpAny (model P w) A (choose .order n) Q E s:=fun Γ p hΓ =>by
 show Sem.wp _ _ (.choose .order n .pure) _ _ _ _
 rw[Sem.wp_choose]
 refine⟨hn,?_⟩
 show Sem.wp _ _ (.pure _) _ _ _ _
 rw[Sem.wp]
 exact q _ _ (Nat.mod_lt _ (Nat.pos_of_ne_zero hn))
theorem XY{α :Type}:∀ (n:Nat) (xs:List α) (s:Shared) (Q:List α ->Shared->Prop),xs.length=n->(∀ ys d,List.Perm ys xs->Q ys { s with drawn:=d })->wpAny (model P w) A (drawOrder n xs) Q E s
 | 0,xs,s,Q,hn,q=>by
  have:xs=[]:=List.length_eq_zero_iff.mp hn
  subst this
  unfold drawOrder
  exact wpAny_pure (q [] s.drawn .nil)
 | n+1,[],s,Q,hn,q=>by cases hn
 | n+1,x::r,s,Q,hn,q=>by
  unfold drawOrder
  refine wpAny_bind (qX (by simp) λi d hi=> ?_)
  rw[List.getElem?_eq_getElem hi]
  dsimp only
  refine wpAny_bind (XY n _ _ _ (by rw[List.length_eraseIdx_of_lt hi,hn];rfl) λys d' p=> ?_)
  refine wpAny_pure (q _ d' ?_)
  refine(List.Perm.cons _ p).trans ?_
  rw[List.eraseIdx_eq_take_drop_succ]
  refine List.perm_middle.symm.trans ?_
  rw[<-List.drop_eq_getElem_cons hi,List.take_append_drop]
theorem qY {a:Addr} {ms:List Int} {Q:Value->Shared->Prop} (hh:A.handled=none) (S:IntSet P w s.heap a ms)
    (q:∀ I h1 d1,(∀ b o,s.heap.get? b=some o->h1.get? b=some o)->RE P w A s.heap h1 a I ms->Q (.ref I) { s with heap:=h1,drawn:=d1 }):wpAny (model P w) A (pyIter (.ref a)) Q E s:=by
  obtain⟨o,es,ep,t,ho,hex,hd,hel,hp,hb,hf,L⟩:=S
  have T:s.TypeIs (.ref a) "set":=⟨o,ho,hex.1⟩
  have hlt:a<s.heap.objs.size:=Heap.lt_size ho
  refine wpAny_pyIter_slot T PySem.F.slot_set_iter (wpAny_call_entry PySem.F.slot_set_iter T qS ?_ (PySem.F.args_set_iter_1 _))
  unfold Builtin.«frozenset.__iter__»
  show wpAny _ _ ((pure a:Sem Addr) >>= _) _ _ s
  refine wpAny_bind (wpAny_pure ?_)
  refine wpAny_bind ?_
  unfold Builtin.Frozenset.sizeOf
  refine wpAny_bind (wpAny_setEntries_of ho hd hf (wpAny_pure ?_))
  refine wpAny_bind ?_
  unfold setDrawn
  refine wpAny_bind (wpAny_setState_of ho hd hf ?_)
  dsimp only
  refine wpAny_bind ?_
  unfold setsByText
  refine wpAny_bind (wpAny_askSetting (wpAny_pure (wpAny_pure ?_)))
  show wpAny _ _ (if(!w.params.followText "set-order" && (!t.plain && decide (es.size > 1)))=true then _ else _) _ _ s
  have plain:∀ (f:Nat->Nat) (ord:List Value),f 0=0->ord.length=es.size->(∃ ks,IntsAre ord ks/\ks.Perm ms) →
      (∀ (s:Shared),s.heap.get? a=some o->∀ (i:Nat),i<=es.size->∀ (A':Around) (E':Value->Shared->Prop) (Q':Option (Value × Nat)->Shared->Prop),Q' ((ord[i]?).map λv=>(v,f (i+1))) s->wpAny (model P w) A' (setNext a (f i) i ep) Q' E' s) →
      RE P w A s.heap (s.heap.push (FZ (rawInt 0) 0 a es.size ep)) a s.heap.objs.size ms:=λf ord f0 hl ⟨ks,hi,pk⟩ nx =>
    ⟨⟨_,ord,ks,_,λb hb=>by
        simp only[List.mem_cons,List.not_mem_nil,or_false]at hb
        rcases hb with rfl | rfl
        ·exact .inr (Nat.le_refl _)
        ·exact .inl rfl,qV hh (Nat.ne_of_lt hlt) hd hf hl nx,⟨by rw[f0];exact Heap.get?_push_size _ rfl,Heap.get?_push_of_some _ ho⟩,hi,pk⟩,Nat.le_refl _⟩
  have fin:∀ (W:RE P w A s.heap (s.heap.push (FZ (rawInt 0) 0 a es.size ep)) a s.heap.objs.size ms),
      wpAny (model P w) A.in1 (do
        let first ← (pure (rawInt 0):Sem Value)
        ret (← newFields "set_iterator" [first,rawInt 0,.ref a,rawInt es.size,rawInt (← setEpoch a)])) (λfin s'=>∃ v,fin=.done (.ret v)/\∃ T' r,s'.TypeIs v T'/\typeLookup (.type T') "__next__"=pure (some r)/\Q v s') E s:=λW=>by
    refine wpAny_bind (wpAny_pure ?_)
    refine wpAny_bind (wpAny_setEpoch_of ho hd hf ?_)
    refine wpAny_bind (wpAny_newObj_type (wpAny_pure ⟨_,rfl,"set_iterator",_,⟨_,Heap.get?_push_size _ rfl,rfl⟩,F1.lookup,?_⟩))
    exact q _ _ s.drawn (λb u e=>Heap.get?_push_of_some _ e) W
  cases ft:w.params.followText "set-order" with
  | true =>
    rw[if_neg (by simp)]
    have pk:=qI (w.params.setOrder a ep) es
    have hl:(pickOrder (w.params.setOrder a ep) es).size=es.size:=by rw[<-Array.length_toList,pk.length_eq,Array.length_toList]
    refine fin (plain (λ_=>0) ((pickOrder (w.params.setOrder a ep) es).toList.map (·.2)) rfl (by rw[List.length_map,Array.length_toList,hl]) ⟨_,RF (hel.perm pk),(pk.map _).trans hp⟩ λs1 h1 i hi A' E' Q' q'=> ?_)
    refine qQ ft h1 hd hf ?_
    rw[List.getElem?_map,Array.getElem?_toList,Option.map_map]at q'
    exact q'
  | false =>
    cases pl:(!t.plain && decide (es.size > 1))with
    | false =>
      rw[if_neg (by simp)]
      refine fin (plain (JT t.place) (es.toList.map (·.2)) rfl (by rw[List.length_map,Array.length_toList]) ⟨_,RF hel,hp⟩ λs1 h1 i hi A' E' Q' q'=> ?_)
      refine qR ft h1 hd hf L pl hi ?_
      rw[List.getElem?_map,Array.getElem?_toList,Option.map_map]at q'
      exact q'
    | true =>
      rw[if_pos (by simp)]
      refine wpAny_bind (XY es.size (List.range es.size) s _ (List.length_range) λys d p=> ?_)
      have hy:ys.length=es.size:=by rw[p.length_eq,List.length_range]
      have hys:∀ x∈ys,x<es.size:=λx hx=>List.mem_range.mp (p.mem_iff.mp hx)
      refine wpAny_bind (wpAny_newTuple ?_ (by rw[List.length_map,hy];exact fits_of_scanBound hb))
      refine wpAny_bind (wpAny_setEpoch_of (o:=o) (Heap.get?_push_of_some _ ho) hd hf ?_)
      refine wpAny_bind (wpAny_newObj_type (wpAny_pure ⟨_,rfl,"set_iterator",_,⟨_,Heap.get?_push_size _ rfl,rfl⟩,F1.lookup,?_⟩))
      refine q _ _ d (λb u e=>Heap.get?_push_of_some _ (Heap.get?_push_of_some _ e)) ⟨⟨_,ys.map λp=>(es[p]?.map (·.2)).getD .none,ys.map λp=>(es[p]?.map λe=>iv e.2).getD 0,_,λb hb=> ?_,
        qW hh ?_ ?_ hd hf rfl (by rw[List.length_map]) λi p e=> ?_,⟨Heap.get?_push_size _ rfl,Heap.get?_push_of_some _ (Heap.get?_push_of_some _ ho),Heap.get?_push_of_some _ (Heap.get?_push_size _ rfl)⟩,?_,?_⟩,?_⟩
      · simp only[List.mem_cons,List.not_mem_nil,or_false]at hb
        rcases hb with rfl | rfl | rfl
        ·right;rw[size_push'];exact Nat.le_succ _
        ·exact .inl rfl
        ·exact .inr (Nat.le_refl _)
      ·rw[size_push'];exact Nat.ne_of_lt (Nat.lt_succ_of_lt hlt)
      ·rw[size_push'];exact Nat.ne_of_lt (Nat.lt_succ_self _)
      · have hp':p<es.size:=hys p (List.mem_of_getElem? e)
        exact⟨es[p],Array.getElem?_eq_getElem hp',by rw[List.getElem?_map,e];simp[hp']⟩
      · have all:∀ (l:List Nat),(∀ x∈l,x<es.size)->IntsAre (l.map λp=>(es[p]?.map (·.2)).getD .none) (l.map λp=>(es[p]?.map λe=>iv e.2).getD 0):=by
          intro l
          induction l with
          | nil=>exact λ_=>.nil
          | cons x r ih =>
            intro hl
            have hx:=hl x (List.mem_cons_self ..)
            obtain⟨tk,z⟩:=RD hel (e:=es[x]) (by simp)
            have e1:(es[x]?.map (·.2)).getD Value.none=Value.int (iv es[x].2) tk:=by rw[Array.getElem?_eq_getElem hx];exact z
            have e2:(es[x]?.map λe=>iv e.2).getD 0=iv es[x].2:=by rw[Array.getElem?_eq_getElem hx];rfl
            rw[List.map_cons,List.map_cons,e1,e2]
            exact .cons _ _ (ih λy hy=>hl y (List.mem_cons_of_mem _ hy))
        exact all ys hys
      · refine(p.map _).trans (List.Perm.trans (List.Perm.of_eq ?_) hp)
        refine List.ext_getElem (by simp) λi h1 h2=> ?_
        have hi:i<es.size:=by simpa using h1
        simp[hi]
      ·rw[size_push'];exact Nat.le_succ _
theorem qZ{a:Addr}{Q:Bool->Shared->Prop}(T:s.TypeIs (.ref a) "set")(q:Q false s):wpAny (model P w) A (Builtin.List.listLengthHint (.ref a)) Q E s:=by
 unfold Builtin.List.listLengthHint
 refine wpAny_bind (wpAny_specialOf T PySem.F.slot_set_len.lookup ?_)
 generalize hid:("set.__len__":String)=id0
 wp_delta
 rw[show splitId id0=some ("set","__len__")from by subst hid;decide +kernel]
 subst hid
 refine wpAny_bind (wpAny_isInstance (T:="set") (b:=true) T (by rw[isSubtype_type];kernel_rfl) ?_)
 refine wpAny_ite_split (λz=>absurd z (by decide)) (λ_=> ?_)
 refine wpAny_ite_split (λ_=> ?_) (λz=>absurd (by decide +kernel) z)
 exact wpAny_bind (wpAny_typeOf T (wpAny_pure q))
theorem rA{a:Addr}{ms:List Int}{R:List Value->Shared->Prop}(hh:A.handled=none)(S:IntSet P w s.heap a ms)(hn:ms.length<=sizeLine)
  (q:∀ h' tk d vs ks,(∀ b o,s.heap.get? b=some o->h'.get? b=some o)->s.heap.objs.size<=h'.objs.size->IntsAre vs ks->ks.Perm ms->R vs { s with heap:=h',toks:=tk,drawn:=d }):wpAny (model P w) A (collect (.ref a)) R E s:=by
 have hlt:a<s.heap.objs.size:=let ⟨_,_,_,_,ho,_⟩:=S;Heap.lt_size ho
 unfold collect
 refine wpAny_bind (wpAny_runValue (codeAny_builtin entry_proto_collect' ?_))
 rw[Around.under_plainId PySem.F.plain_proto_collect _]
 show wpAny _ A.in1 (newList [] >>= λl=>again (.builtin "list.__iadd__" ⟨[l,.ref a],[]⟩)) _ _ s
 refine wpAny_bind (wpAny_newObj_type ?_)
 refine wpAny_pure ⟨plainId_quiet PySem.F.plain_list_iadd _,codeAny_builtin entry_list_iadd' ?_⟩
 rw[Around.under_plainId PySem.F.plain_list_iadd _]
 show wpAny _ A.in1 (Builtin.List.listExtendWith (.ref s.heap.objs.size) (.ref a) (.ref s.heap.objs.size)) _ _ _
 generalize eN:s.heap.objs.size=N at hlt ⊢
 have gN:(s.heap.push { cls:=.type "list",data:=.seq ([]:List Value).toArray }).get? N=some { cls:=.type "list",data:=.seq #[] }:=eN ▸ Heap.get?_push_size _ rfl
 have keep1:∀ b o,s.heap.get? b=some o->(s.heap.push { cls:=.type "list",data:=.seq ([]:List Value).toArray }).get? b=some o:=λb o e=>Heap.get?_push_of_some _ e
 have S1:=S.at λo e=>keep1 a o e
 have big:(s.heap.push { cls:=.type "list",data:=.seq ([]:List Value).toArray }).objs.size=N+1:=by rw[size_push',eN]
 revert gN keep1 S1 big
 generalize s.heap.push { cls:=.type "list",data:=.seq ([]:List Value).toArray }=h0
 intro gN keep1 S1 big
 have T1:∀ h':Heap,(∀ b o,h0.get? b=some o->h'.get? b=some o)->∀ tk d,({ s with heap:=h',toks:=tk,drawn:=d }:Shared).TypeIs (.ref a) "set":=λh' k tk d=>by
  obtain⟨o,_,_,_,ho,hex,_⟩:=S1
  exact⟨o,k _ _ ho,hex.1⟩
 unfold Builtin.List.listExtendWith
 refine wpAny_bind (wpAny_typeOf (T:="set") (T1 h0 (λ_ _ e=>e) s.toks s.drawn) ?_)
 have ne:Builtin.List.listSameRef (.ref N) (.ref a)=false:=by
  simp only[Builtin.List.listSameRef,beq_eq_false_iff_ne]
  exact Nat.ne_of_gt hlt
 have n1:(Value.type "set" == Value.type "list")=false:=by decide
 have n2:(Value.type "set" == Value.type "tuple")=false:=by decide
 simp only[ne,n1,n2,Bool.or_false,Bool.false_eq_true,if_false]
 refine wpAny_bind (qY (A:=A.in1) (s:={ s with heap:=h0 }) (by simpa using hh) S1 λI h1 d1 k1 W=> ?_)
 obtain⟨⟨fp,ord,ks,St,hfp,W,st,hi,pk⟩,hI⟩:=W
 have hI:N+1<=I:=big ▸ hI
 have hlen:ord.length=ms.length:=by rw[IntsAre.length hi,pk.length_eq]
 refine wpAny_bind (wpAny_holding (qZ (T1 h1 k1 s.toks d1) ?_))
 rw[if_pos (by decide)]
 refine wpAny_bind (wpAny_rule ?_)
 refine wpAny_bind ?_
 show wpAny _ _ (updateSeq N (·.push .none) >>= λ_=>updateSeq N (·.pop)) _ _ _
 have g1:=k1 _ _ gN
 refine wpAny_bind (wpAny_updateSeq (s:={ s with heap:=h1,drawn:=d1 }) g1 rfl ?_)
 have g2:=Heap.get?_update_self (Obj.mapSeq (·.push Value.none)) g1 rfl
 refine wpAny_updateSeq (hz:=by seq_fits) g2 rfl ?_
 have g3:=Heap.get?_update_self (Obj.mapSeq (·.pop)) g2 rfl
 have oth:∀ b o,b≠N->h1.get? b=some o->((h1.update N (Obj.mapSeq (·.push Value.none))).update N (Obj.mapSeq (·.pop))).get? b=some o:=λb o hb e =>
  (Heap.get?_update_other _ _ (Ne.symm hb)).trans ((Heap.get?_update_other _ _ (Ne.symm hb)).trans e)
 have Nfp:N∉fp:=λz=>by
  rcases hfp N z with y | y
  ·exact Nat.ne_of_gt hlt y
  ·have y':h0.objs.size<=N:=y
   rw[big]at y'
   exact absurd y' (Nat.not_succ_le_self _)
 refine wpAny_pure ⟨plainId_quiet PySem.F.plain_extend_loop _,?_⟩
 refine codeAny_extend_loopS W.toS (by rw[hlen];exact hn) N Nfp (.ref N) ord.length 0 _ #[] _ rfl (Nat.zero_le _) (W.frame 0 _ _ st λb hb o e=>oth b o (λz=>Nfp (z ▸ hb)) e) g3 (ItemsOf.nil _) λs' acc c m g4 hacc=> ?_
 show wpAny _ A (load N >>= _) _ _ _
 refine wpAny_bind (wpAny_load g4 ?_)
 refine wpAny_pure ?_
 have eacc:acc.toList=ord:=by
  refine List.ext_getElem? λi=> ?_
  by_cases hlt':i<ord.length
  ·have h3:i<acc.size:=by rw[hacc.1];exact hlt'
   have:=hacc.2 i acc[i] (Array.getElem?_eq_getElem h3)
   rw[Array.getElem?_toList,Array.getElem?_eq_getElem h3,this]
  ·have e1:acc.toList[i]? =none:=List.getElem?_eq_none (by rw[Array.length_toList,hacc.1];omega)
   have e2:ord[i]? =none:=List.getElem?_eq_none (by omega)
   rw[e1,e2]
 show R acc.toList s'
 rw[eacc]
 obtain⟨h3,gn3,dr3,tk3,os3⟩:=s'
 have a1:gn3=s.gens:=m.gens
 have a2:dr3=d1:=m.drawn
 have a3:os3=s.os:=m.os
 subst a1;subst a2;subst a3
 refine q _ _ dr3 ord ks (λb o e=> ?_) (by rw[eN];exact Nat.le_of_lt (Heap.lt_size g4)) hi pk
 have hb:b<N:=eN ▸ Heap.lt_size e
 refine m.heap b o (λz=> ?_) (oth b o (Nat.ne_of_lt hb) (k1 _ _ (keep1 _ _ e)))
 simp only[List.mem_cons,List.not_mem_nil,or_false]at z
 rcases z with z | z
 ·exact Nat.ne_of_lt hb z
 ·exact Nat.ne_of_lt (Nat.lt_of_lt_of_le (Nat.lt_succ_of_lt hb) hI) z
theorem rB{a:Addr}{ms:List Int}{Q:Value->Shared->Prop}(hh:A.handled=none)(S:IntSet P w s.heap a ms)(hn:ms.length<64)
  (q:∀ D h' tk d c out ks,(∀ b o,s.heap.get? b=some o->h'.get? b=some o)->s.heap.objs.size<=D->h'.get? D=some (seqObj "list" out c)->IntsAre out.toList ks->ks.Perm ms->ks.Pairwise (· <=·)->Q (.ref D) { s with heap:=h',toks:=tk,drawn:=d }) :
  wpAny (model P w) A (call (.builtin "sorted") [.ref a]) Q E s:=by
 refine Calls.call_function_entry kind_sorted plain_sorted entry_sorted (args_sorted1 _) ?_
 unfold Builtin.«sorted»
 refine wpAny_bind (m:=checkCount "sorted" 1 1 _) (wpAny_pure ?_)
 refine wpAny_bind (rA (A:=A.in1) (by simpa using hh) S (by rw[sizeLine_eq];omega) λh1 tk d vs ks k1 size_le hi pk=> ?_)
 have hl:vs.length<64:=by rw[IntsAre.length hi,pk.length_eq];exact hn
 refine wpAny_bind (wpAny_newList ?_ (by rw[sizeLine_eq];omega))
 have g:(h1.push (seqObj "list" vs.toArray 0)).get? h1.objs.size=some (seqObj "list" vs.toArray 0):=Heap.get?_push_size _ rfl
 show wpAny _ _ _ _ _ { s with heap:=h1.push (seqObj "list" vs.toArray 0),toks:=tk,drawn:=d }
 refine wpAny_bind (wpAny_holding (wpAny_call_entry slot_list_sort ⟨_,g,rfl⟩ entry_list_sort (list_sort_tree g hi hl λout ks' i1 p1 r1=>⟨_,rfl,?_⟩) (args_list_sort _)))
 obtain⟨c,gc⟩:=sortedHeap_at (n:=0) (out:=out) g
 refine wpAny_pure ⟨_,rfl,q _ _ tk d c out ks' (λb o e=> ?_) size_le gc i1 (p1.trans pk) r1⟩
 have hb:=Heap.lt_size (k1 _ _ e)
 rw[sortedHeap_old (Nat.ne_of_lt hb) (by rw[size_push'];exact Nat.lt_succ_of_lt hb)]
 exact Heap.get?_push_of_some _ (k1 _ _ e)
end
end L2
namespace L2
open PySem PyProof.Rows
section
variable{P:Program}{w:World}{A:Around}{E:Value->Shared->Prop}{s:Shared}
theorem rC {l:Addr} {its:Array Value} {ns:List Int} {Q:Value->Shared->Prop} (hh:A.handled=none) (hl:s.heap.IsList l its) (hi:IntsAre its.toList ns) (hb:its.size+1<scanBound)
    (q:∀ h' tk,IntSet P w h' s.heap.objs.size (firstMet (λi=>ns.getD i 0) its.size)->(∀ b o,s.heap.get? b=some o->h'.get? b=some o)->Q (.ref s.heap.objs.size) { s with heap:=h',toks:=tk }) :
    wpAny (model P w) A (call (.type "set") [.ref l]) Q E s:=by
  obtain⟨c,tl,mro⟩:=PySem.F.called_set.mro
  have made:=PySem.F.called_set.made
  have sub:=PySem.F.called_set.sub
  refine wpAny_call (codeAny_of_tree ?_)
  show wpAny _ _ (callAny (.type "set") _) _ _ _
  refine wpAny_pure ⟨Code.quiet_builtin _ (by decide +kernel),codeAny_builtin PySem.F.entry_type_call ?_⟩
  rw[Around.under_plain (weight_type_call_type "set" [.ref l] []) rfl]
  have n1:=PySem.F.called_set.notType
  have n2:=PySem.F.called_set.canCreate
  have n3:=PySem.F.typeCall_set_1 (.ref l)
  repeat (any_goals (first | assumption | wp_step))
  generalize eS:({ cls:=.type "set",dict:=none,data:=.set #[] 0 (.fresh 0 0 (ID w)) }:Obj)=oS
  refine codeAny_mono (qL (E:=E) (Q:=λx s1=>x=.ref s.heap.objs.size/\s1={ s with heap:=s.heap.push oS }) ⟨rfl,by rw[<-eS]⟩) λr s1 hr=> ?_
  cases r with
  | error e=>exact hr
  | ok fl =>
    cases fl with
    | ret x =>
      obtain⟨rfl,rfl⟩:=hr
      have g0:(s.heap.push oS).get? s.heap.objs.size=some oS:=Heap.get?_push_size _ (by rw[<-eS];rfl)
      have T0:Shared.TypeIs { s with heap:=s.heap.push oS } (.ref s.heap.objs.size) "set":=⟨_,g0,by rw[<-eS]⟩
      have i1:=PySem.F.called_set.init.lookup
      have i2:=PySem.F.called_set.init.bind (.ref s.heap.objs.size)
      repeat (any_goals (first | assumption | wp_step))
      refine codeAny_mono (codeAny_call_builtin (R:=wants (λr s2=>r=.none/\∃ h' tk,s2={ s with heap:=h',toks:=tk }/\IntSet P w h' s.heap.objs.size (firstMet (λi=>ns.getD i 0) its.size) ∧
        (∀ b o,s.heap.get? b=some o->h'.get? b=some o)) E) PySem.F.called_set.init.plain PySem.F.entry_set_init (check_set_init_1 T0 ?_)) λr2 s2 hr2=> ?_
      · obtain⟨ol,gl,cl,nl,dl⟩:=hl
        obtain⟨c1,d1,dt1,sl1⟩:=ol
        simp only at cl dl
        subst cl;subst dl
        have gl':=Heap.get?_push_of_some oS gl
        have e1:=PySem.F.sub_list_set
        have e2:=PySem.F.sub_list_frozenset
        have e3:(Value.type "list" == Value.type "dict")=false:=by decide
        have hl1:(s.heap.push oS).IsList l its:=⟨_,gl',rfl,nl,rfl⟩
        have hlt:l<s.heap.objs.size:=Heap.lt_size gl
        have big:=size_push' s.heap oS
        revert gl' hl1 g0 T0 big
        have keep0:∀ b o,s.heap.get? b=some o->(s.heap.push oS).get? b=some o:=λb o e=>Heap.get?_push_of_some _ e
        revert keep0
        generalize s.heap.push oS=h0
        intro keep0 g0 T0 gl' hl1 big
        subst eS
        unfold Builtin.«set.__init__» noKeywords Builtin.Frozenset.updateFrom
        generalize hPI:pyIter=PI
        wp_walk
        subst hPI
        refine wpAny_pyIter_list hl1 ?_
        refine wpAny_bind (wpAny_runValue ?_)
        have hh3:A.in1.in1.in1.handled=none:=by simp[hh]
        have ne1:l≠h0.objs.size:=Nat.ne_of_lt (by rw[big];exact Nat.lt_succ_of_lt hlt)
        have nin:s.heap.objs.size∉[h0.objs.size,l]:=by
          simp only[List.mem_cons,List.not_mem_nil,or_false,not_or]
          exact⟨Nat.ne_of_lt (by rw[big];exact Nat.lt_succ_self _),Nat.ne_of_gt hlt⟩
        refine qK ((Walks.list hh3 _ l ne1 its).toS) s.heap.objs.size nin (λi=>ns.getD i 0) (λi v e=>IntsAre.int_at hi i v (by rw[Array.getElem?_toList];exact e)) hb (its.size - 0) 0 _ (by omega) (Nat.zero_le _)
          ⟨⟨_,Heap.get?_push_size _ rfl,rfl,rfl⟩,hl1.push _⟩ ⟨_,#[],0,_,Heap.get?_push_of_some _ g0,⟨rfl,rfl,rfl⟩,rfl,λe he=>by simp at he,by exact .nil,by decide,by rfl,Led.fresh _⟩ λs3 m S3=> ?_
        obtain⟨h3,g3,d3,tk3,os3⟩:=s3
        have a1:g3=s.gens:=m.gens
        have a2:d3=s.drawn:=m.drawn
        have a3:os3=s.os:=m.os
        subst a1;subst a2;subst a3
        show wpAny _ _ _ _ _ _
        refine wpAny_pure ?_
        show wpAny _ _ (ret Value.none) _ _ _
        refine wpAny_pure ⟨rfl,h3,tk3,rfl,S3,λb o e=> ?_⟩
        have hb:=Heap.lt_size e
        refine m.heap b o ?_ (Heap.get?_push_of_some _ (keep0 _ _ e))
        simp only[List.mem_cons,List.not_mem_nil,or_false,not_or]
        exact⟨Nat.ne_of_lt hb,Nat.ne_of_lt (by rw[big];exact Nat.lt_succ_of_lt hb)⟩
      · cases r2 with
        | error e=>exact hr2
        | ok fl2 =>
          cases fl2 with
          | ret r =>
            obtain⟨rfl,h',tk,rfl,S',k'⟩:=hr2
            repeat (any_goals (first | assumption | wp_step))
            exact q _ _ S' k'
          | _=>exact hr2.elim
    | _=>exact hr.elim
end
end L2
namespace L2
section
variable{X:Cx}
theorem Inv.drawn{pins:List (Addr × Obj)}{σ:St}{H:Hp}{s:Shared}(I:Inv X pins σ H s)(d):Inv X pins σ H { s with drawn:=d } :=
 { ok:=I.ok,os:=I.os,bare:=I.bare,base:=I.base,loc:=I.loc,cell:=I.cell,free:=I.free,freeC:=I.freeC,pin:=I.pin,hok:=I.hok,len:=I.len }
theorem OE:∀ {ns:List Int} {us:List Value},Vals (ns.map V.int) us->IntsAre us ns
 | [],_,.nil=>.nil
 | n::r,_,.cons h t=>by
  obtain⟨tk,rfl⟩:=h
  exact .cons _ _ (OE t)
abbrev XZ(X:Cx)(a:Addr)(ms:List Int):HO:=.ext λh=>IntSet X.prog X.w h a ms
theorem rD(hc:X.calm=true):DJ X (.type "set") (λxs H Q=>∃ (p:Addr) (ns:List Int),xs=[.ref p]/\SqL X.K H p (ns.map V.int)/\ns.length<=1000 ∧
  ∀ (a:Addr),H a=none->Q (.ref a) (upd H a (XZ X a (firstMet (λi=>ns.getD i 0) ns.length)))):=by
 intro pins s σ H xs us Q I r h
 obtain⟨p,ns,rfl,hq,hn,q⟩:=h
 obtain⟨u,rfl,rx⟩:=FA r
 cases rx
 obtain⟨its,r',pl,hz⟩:=I.list hq
 have hi:=OE r'
 have hlen:its.length=ns.length:=IntsAre.length hi
 refine rC (I.ok.hd hc) pl.isList hi (by rw[List.size_toArray,hlen];exact Nat.lt_of_le_of_lt (Nat.succ_le_succ hn) (by decide)) λh' tk S k=> ?_
 have hz2:its.toArray.size=ns.length:=by rw[List.size_toArray,hlen]
 rw[hz2]at S
 refine⟨.ref s.heap.objs.size,_,I.laid k (Nat.le_refl _) ?_,rfl,q _ (I.hok.fresh (Nat.le_refl _))⟩
 exact⟨S,⟨_,S.choose_spec.choose_spec.choose_spec.choose_spec.1⟩,λh1 h2 z e=>z.at e⟩
theorem rE(hc:X.calm=true):DJ X (.builtin "sorted") (λxs H Q=>∃ (a:Addr) (ms:List Int),xs=[.ref a]/\H a=some (XZ X a ms)/\ms.length<64 ∧
  ∀ (D:Addr) (ks:List Int),H D=none->List.Perm ks ms->ks.Pairwise (· <=·)->Q (.ref D) (upd H D (.lst (ks.map V.int)))):=by
 intro pins s σ H xs us Q I r h
 obtain⟨a,ms,rfl,ha,hn,q⟩:=h
 obtain⟨u,rfl,rx⟩:=FA r
 cases rx
 obtain⟨S,_,_⟩:=I.hok a _ ha
 refine rB (I.ok.hd hc) S hn λD h' tk d c out ks k hD g hi pk hr=> ?_
 have hl:ks.length<64:=by rw[pk.length_eq];exact hn
 refine⟨.ref D,_,(I.laid (t':=tk) k hD ?_).drawn d,rfl,q D ks (I.hok.fresh hD) pk hr⟩
 exact⟨by rw[List.length_map,sizeLine_eq];omega,out.toList,c,NX hi,g⟩
theorem rF(val:Nat->Int)(n:Nat)(x:Int):x∈firstMet val n↔∃ i,i<n/\val i=x:=by
 have h:=firstMet_any val n x
 rw[Bool.eq_iff_iff,List.any_eq_true,List.any_eq_true]at h
 constructor
 ·intro hx
  obtain⟨y,hy,e⟩:=h.mp ⟨x,hx,beq_self_eq_true x⟩
  obtain⟨i,hi,rfl⟩:=List.mem_map.mp hy
  exact⟨i,List.mem_range.mp hi,eq_of_beq e⟩
 ·rintro ⟨i,hi,rfl⟩
  obtain⟨y,hy,e⟩:=h.mpr ⟨val i,List.mem_map.mpr ⟨i,List.mem_range.mpr hi,rfl⟩,beq_self_eq_true _⟩
  exact eq_of_beq e ▸ hy
theorem RG(val:Nat->Int):∀ n,(firstMet val n).Nodup
 | 0=>by rw[firstMet_zero];exact List.nodup_nil
 | n+1=>by
  rw[firstMet_succ]
  by_cases h:val n∈firstMet val n
  ·rw[XT h];exact RG val n
  ·rw[XU h]
   exact List.nodup_append.mpr ⟨RG val n,by simp,λa ha b hb e=>by rw[List.mem_singleton]at hb;subst hb;subst e;exact h ha⟩
theorem X0:∀ {l:List Int},l.Pairwise (· <=·)->l.Nodup->l.Pairwise (· <·)
 | [],_,_=>.nil
 | x::r,h,n=>by
  obtain⟨h1,h2⟩:=List.pairwise_cons.mp h
  obtain⟨n1,n2⟩:=List.nodup_cons.mp n
  refine List.pairwise_cons.mpr ⟨λy hy=> ?_,X0 h2 n2⟩
  have:=h1 y hy
  have:x≠y:=λz=>n1 (z ▸ hy)
  omega
def JU(K:W.Frag)(te:TE):TE:=λσ H Q=>te σ H λx H1=>∃ (p:Addr) (ns:List Int),x=.ref p/\SqL K H1 p (ns.map V.int)/\ns.length<64 ∧
 ∀ (a:Addr) (o:HO) (D:Addr) (ks:List Int),H1 a=none->upd H1 a o D=none->ks.Pairwise (· <·)->(∀ x,x∈ks↔x∈ns)->ks.length<=ns.length->Q (.ref D) (upd (upd H1 a o) D (.lst (ks.map V.int)))
def clo(te:TE):TE:=λσ H Q=>∃ C:VK,te σ H C/\∀ x H1,C x H1->Q x H1
theorem PE.clo{e:Expr}{te:TE}(h:PE X e te):PE X e (clo te):=λpins s σ H Q I ⟨C,q,m⟩=>AO (h pins s σ H C I q) λv s' ⟨x,H1,I1,r1,q1⟩=>⟨x,H1,I1,r1,m _ _ q1⟩
theorem OF{e:Expr}{te:TE}{p1 p2 p3 p4:Pos}(hc:X.calm=true)(g1:Gl X "sorted")(m1:X.mg "sorted"=none)(g2:Gl X "set")(m2:X.mg "set"=none)(h:PE X e te)
  (he:starEach [e] X.env=[(false,eval e X.env)]:=by rfl) :
  PE X (.Call (.Name "sorted" p1) [.Call (.Name "set" p2) [e] [] p3] [] p4) (JU X.K te):=λpins s σ H Q I q=>by
 refine(BQ (rE hc) g1 m1 (by rfl) (AD (DC (rD hc) g2 m2 (by rfl) (AD h.clo AG he) (he:=he)) AG)) pins s σ H Q I ?_
 refine⟨_,q,λx H1 ⟨p,ns,e1,hq,hn,q1⟩=> ?_⟩
 subst e1
 refine⟨p,ns,rfl,hq,by omega,λa ha=>⟨a,_,rfl,AJ,?_,λD ks hD pk hr=> ?_⟩⟩
 ·exact Nat.lt_of_le_of_lt (firstMet_length_le ..) hn
 ·have nd:=RG (λi=>ns.getD i 0) ns.length
  refine q1 a _ D ks ha hD (X0 hr (pk.nodup_iff.mpr nd)) (λx=> ?_) (by rw[pk.length_eq];exact firstMet_length_le ..)
  rw[pk.mem_iff,rF]
  refine⟨λ⟨i,hi,e⟩=> ?_,λhx=> ?_⟩
  ·rw[<-e]
   simp[List.getD,hi]
  ·obtain⟨i,hi,e⟩:=List.getElem_of_mem hx
   exact⟨i,hi,by simp[List.getD,hi,e]⟩
end
end L2
namespace L2
def OG(K:W.Frag)(a:Addr)(n:Nat):It :=
 ⟨λi H=>i<n/\∃ xs,SqL K H a xs/\xs.length=n,λi H x H'=>H'=H/\∀ xs,SqL K H a xs->xs[n - 1 - i]? =some x,λi _=>n<=i⟩
theorem rG{P:Program}{w:World}{K:W.Frag}{tg:Expr}(a it:Addr)(n:Nat):HC P w K tg (OG K a n) [it] it (λi h=>i<=n/\h.IsRevIter it a ((n:Int) - 1 - (i:Int))) where
 mem:=by simp
 obj:=λi h ⟨_,st⟩ b hb=>by
  have e:b=it:=by simpa using hb
  subst e
  obtain⟨o,e,c,d⟩:=st
  exact⟨o,e,λv z=>by rw[d]at z;cases z⟩
 keep:=λi h h' ⟨l,st⟩ k=>⟨l,st.at λo e=>k it (by simp) o e⟩
 item:=by
  intro X hP hw hK hc i pins s σ H E I hf ⟨hl,st⟩ hg
  subst hP hw hK
  obtain⟨hi,xs,hq,hn⟩:=hg
  obtain⟨its,rv,p,hz⟩:=I.list hq
  have hlt:n - 1 - i<xs.length:=by omega
  have hx:=List.getElem?_eq_getElem hlt
  obtain⟨u,hu,ru⟩:=rv.get hx
  obtain⟨f0,f1,f2,f3,f4,f5⟩:=hf it (by simp)
  have e1:(n:Int) - 1 - (i:Int)=((n - 1 - i:Nat):Int):=by omega
  rw[e1]at st
  refine wpAny_pyNext_rev_item st p.isList (x:=u) (by simpa using hu) λh' st' sb=> ?_
  have e2:((n - 1 - i:Nat):Int) - 1=(n:Int) - 1 - ((i+1:Nat):Int):=by omega
  rw[e2]at st'
  have I1:Inv X pins σ H { s with heap:=h' }:=I.turned (t':=s.toks) (λb o hb e=>(sb.2 b hb).trans e) f0 f1 f3 f4 f5
  obtain⟨o,e,c,d⟩:=id st'
  exact⟨u,rfl,LU (s:={ s with heap:=h' }) e c d (by decide) ⟨_,H,I1,ru,⟨rfl,λys hy=>by rw[I.list_inj hy hq];exact hx⟩,⟨hi,st'⟩,λb hb=>(hf b hb).1⟩⟩
 done:=by
  intro X hP hw hK hc i pins s σ H E I hf ⟨hl,st⟩ hg
  subst hP hw hK
  obtain⟨f0,f1,f2,f3,f4,f5⟩:=hf it (by simp)
  have e:i=n:=Nat.le_antisymm hl hg
  subst e
  have e1:(i:Int) - 1 - (i:Int)= -1:=by omega
  rw[e1]at st
  exact wpAny_pyNext_rev_end (I.ok.hd hc) st λh' eb=>⟨rfl,I.turned (t':=s.toks) (λb o hb e=>eb b o hb e) f0 f1 f3 f4 f5⟩
 self:=λ_ _ _ _ _ st h=>wpAny_pyIter_revIter st.2 h
def RH(K:W.Frag)(ta:TA):TI:=λσ H R=>ta σ H λvs H1=>∃ a xs,vs=[.ref a]/\SqL K H1 a xs/\R (OG K a xs.length) H1
theorem rH:bootBuiltins "reversed"=some (.type "reversed"):=by rfl
section
variable{X:Cx}{tg:Expr}
theorem rJ{a:Expr}{ta:TA}{p pos:Pos}(hg:Gl X "reversed")(hm:X.mg "reversed"=none)(ha:PA X [a] ta)(hs:starEach [a] X.env=[(false,eval a X.env)]:=by rfl):PI X tg (.Call (.Name "reversed" p) [a] [] pos) (RH X.K ta):=by
 intro pins s σ H R I h
 refine Call_ (JF I hg hm rH (PyProof.Rows.callWith_type1 (AO (ha pos pins s σ H _ I h) λus s1 ⟨vs,H1,I1,r1,q1⟩=> ?_) (by rw[hs];rfl) (by rfl)))
 obtain⟨l,xs,e,hx,q⟩:=q1
 subst e
 obtain⟨u,rfl,rx⟩:=FA r1
 cases rx
 obtain⟨its,rv,pl,hz⟩:=I1.list hx
 have hlen:=rv.length
 refine call_reversed_list pl.isList ?_
 have st:(s1.heap.push (revObj l ((its.toArray.size:Int) - 1))).IsRevIter s1.heap.objs.size l ((xs.length:Int) - 1 - ((0:Nat):Int)):=⟨_,Heap.get?_push_size _ rfl,rfl,by
  show Data.fields #[.ref l,rawInt ((its.toArray.size:Int) - 1)]=_
  rw[List.size_toArray,<-hlen]
  simp⟩
 refine wpAny_pyIter_revIter st ?_
 have I2:Inv X pins σ H1 { s1 with heap:=s1.heap.push (revObj l ((its.toArray.size:Int) - 1)) }:=I1.kept (t':=s1.toks) λb o e=>Heap.get?_push_of_some _ e
 exact⟨_,[s1.heap.objs.size],_,_,H1,rfl,I2,rG l s1.heap.objs.size xs.length,⟨Nat.zero_le _,st⟩,λb hb=>by
  have e:b=s1.heap.objs.size:=by simpa using hb
  subst e
  exact I1.fpOk (Nat.le_refl _) (I1.hok.fresh (Nat.le_refl _)),q⟩
def OH(K:W.Frag):List V->Hp->VK->Prop:=λxs H Q=>∃ (p:Addr) (kvs:List (AR × V)),xs=[.ref p]/\H p=some (.dK kvs)/\∀ l,H l=none->Q (.ref l) (upd H l (.dK kvs))
theorem rK:DJ X (.type "dict") (OH X.K):=by
 intro pins s σ H xs us Q I r h
 obtain⟨p,kvs,rfl,hp,q⟩:=h
 obtain⟨u,rfl,rx⟩:=FA r
 cases rx
 exact kQ I (.inl hp) λl s' hl I'=>⟨.ref l,_,I',rfl,q l hl⟩
theorem rM{K:W.Frag}{p:Addr}{H:Hp}{Q:VK}:OH K [.ref p] H Q=∃ kvs,H p=some (.dK kvs)/\∀ l,H l=none->Q (.ref l) (upd H l (.dK kvs)):=by simp[OH]
end
theorem rN{K:W.Frag}{as:TA}{g:TG}{s1:TS}{D:Ends}{σ:St}{H:Hp}:CL (RH K as) g s1 D σ H=(as σ H λvs H1=>∃ a xs,vs=[.ref a]/\SqL K H1 a xs/\FG (OG K a xs.length) g s1 D σ H1):=rfl
theorem rO{K:W.Frag}{σ:St}{H:Hp}{a:Addr}{xs:List V}{g:TG}{tb:TS}{D:Ends}(Pv:Nat->St->Hp->Prop)(h0:Pv 0 σ H)(ha:∀ i σ H,i<=xs.length->Pv i σ H->SqL K H a xs)
  (hs:∀ i x σ H,i<xs.length->xs[xs.length - 1 - i]? =some x->Pv i σ H->g x σ H λσ2 H2=>tb { D with nx:=Pv (i+1),ct:=Pv (i+1),bk:=D.nx } σ2 H2) (hd:∀ σ H,Pv xs.length σ H->D.nx σ H):FG (OG K a xs.length) g tb D σ H:=by
 refine⟨λi m σ H=>i+m=xs.length/\Pv i σ H,⟨xs.length,by omega,h0⟩,λi m σ H ⟨e,p⟩=> ?_⟩
 have h1:=ha i σ H (by omega) p
 by_cases hi:i<xs.length
 ·refine .inr ⟨⟨hi,xs,h1,rfl⟩,Pv (i+1),λσ' H' q=>⟨m - 1,by omega,by omega,q⟩,λv H' ⟨e1,q1⟩=> ?_⟩
  subst e1
  exact hs i v σ _ hi (q1 _ h1) p
 ·have e:i=xs.length:=by omega
  subst e
  exact .inl ⟨Nat.le_refl _,hd _ _ p⟩
section
variable{K:W.Frag}{tt:TT}{cap:List Nat}{σ:St}{H:Hp}{Q:VK}
theorem OI{n:Nat}(p:Nat->Bool)(hn:n<=sizeLine)(ht:∀ i,i<n->∀ QB:Bool->Hp->Prop,QB (p i) H->tt (some (.int (i:Int))::DX cap σ) H QB)
  (hd:∀ q,H q=none->Q (.ref q) (upd H q (.lst (((List.range n).filter p).map λ(i:Nat)=>V.int i)))):GH (E7 0 n) (AS 0) tt (AA 0) 1 cap σ H Q:=by
 refine⟨λi m σ' ys H'=>m=n - i/\i<=n/\H'=H/\(∃ x0,σ'=x0::DX cap σ)/\ys=((List.range i).filter p).map λ(i:Nat)=>V.int i,⟨n,by simp,Nat.zero_le _,rfl,⟨none,rfl⟩,rfl⟩,?_⟩
 rintro i m σ' ys H' ⟨rfl,hi,rfl,⟨x0,rfl⟩,rfl⟩
 by_cases hlt:i<n
 ·refine .inr ⟨hlt,?_,λx H2 y=> ?_⟩
  ·rw[List.length_map]
   have:=List.length_filter_le p (List.range i)
   rw[List.length_range]at this
   omega
  ·obtain⟨e,y⟩:=y
   subst e y
   rw[Int.zero_add]
   simp only[AS,List.set_cons_zero]
   refine ht i hlt _ ?_
   cases hp:p i with
   | true =>
    rw[if_pos rfl]
    refine⟨λv H4=>v=.int i/\H4=H2,λy H4 ⟨e1,e2⟩=>⟨n - (i+1),by omega,rfl,hlt,e2,⟨_,rfl⟩,?_⟩,?_⟩
    ·rw[e1,List.range_succ,List.filter_append,List.map_append]
     simp[hp]
    ·simp[AA]
   | false =>
    rw[if_neg Bool.false_ne_true]
    refine⟨n - (i+1),by omega,rfl,hlt,rfl,⟨_,rfl⟩,?_⟩
    rw[List.range_succ,List.filter_append,List.map_append]
    simp[hp]
 ·have e:i=n:=by omega
  subst e
  exact .inl ⟨Nat.le_refl _,hd⟩
theorem RI{b:Addr}{xs:List V}(p:V->Bool)(hn:xs.length<=sizeLine)(hq:SqL K H b xs)(ht:∀ x∈xs,∀ QB:Bool->Hp->Prop,QB (p x) H->tt (some x::DX cap σ) H QB)
  (hd:∀ q,H q=none->Q (.ref q) (upd H q (.lst (xs.filter p)))):GH (FQ K b) (AS 0) tt (AA 0) 1 cap σ H Q:=by
 refine⟨λi m σ' ys H'=>m=xs.length - i/\i<=xs.length/\H'=H/\(∃ x0,σ'=x0::DX cap σ)/\ys=(xs.take i).filter p,⟨xs.length,by simp,Nat.zero_le _,rfl,⟨none,rfl⟩,by simp⟩,?_⟩
 rintro i m σ' ys H' ⟨rfl,hi,rfl,⟨x0,rfl⟩,rfl⟩
 by_cases hlt:i<xs.length
 ·refine .inr ⟨⟨xs,xs[i],hq,by simp[hlt]⟩,?_,λx H2 y=> ?_⟩
  ·have:=List.length_filter_le p (xs.take i)
   rw[List.length_take]at this
   omega
  ·obtain⟨e,y⟩:=y
   subst e
   have hx:=y xs hq
   have et:xs.take (i+1)=xs.take i++[x]:=by
    obtain⟨h1,h2⟩:=List.getElem?_eq_some_iff.mp hx
    rw[<-h2,List.take_append_getElem]
   simp only[AS,List.set_cons_zero]
   refine ht x (List.mem_of_getElem? hx) _ ?_
   cases hp:p x with
   | true =>
    rw[if_pos rfl]
    refine⟨λv H4=>v=x/\H4=H2,λy H4 ⟨e1,e2⟩=>⟨xs.length - (i+1),by omega,rfl,hlt,e2,⟨_,rfl⟩,?_⟩,?_⟩
    ·rw[et,List.filter_append,e1]
     simp[hp]
    ·simp[AA]
   | false =>
    rw[if_neg Bool.false_ne_true]
    refine⟨xs.length - (i+1),by omega,rfl,hlt,rfl,⟨_,rfl⟩,?_⟩
    rw[et,List.filter_append]
    simp[hp]
 ·have e:i=xs.length:=by omega
  subst e
  refine .inl ⟨⟨xs,hq,Nat.le_refl _⟩,λq hq'=> ?_⟩
  rw[List.take_length]
  exact hd q hq'
end
section
variable{K:W.Frag}{td ty tv te:TE}{D:Ends}{σ:St}{H:Hp}{Q:VK}{QB:Bool->Hp->Prop}
theorem rP:BS td ty σ H Q=(td σ H λx H1=>ty σ H1 λy H2=>∃ a v,x=.ref a/\DGet H2 a y (some v)/\Q v H2):=rfl
theorem rQ:HY ty td σ H Q=(ty σ H λy H1=>td σ H1 λx H2=>∃ a o,x=.ref a/\DGet H2 a y o/\Q (.bl o.isSome) H2):=rfl
theorem rR:EG ty td σ H Q=(ty σ H λy H1=>td σ H1 λx H2=>∃ a o,x=.ref a/\DGet H2 a y o/\Q (.bl (!o.isSome)) H2):=rfl
theorem rS:FW td ty tv D σ H=(tv σ H λv H1=>td σ H1 λx H2=>ty σ H2 λy H3=>∃ a H4,x=.ref a/\DPut H3 a y v H4/\D.nx σ H4):=rfl
theorem rT:QQ td ty σ H Q=(td σ H λx H1=>∃ a,x=.ref a/\QN H1 a/\ty σ H1 λy H2=>∃ o,DGet H2 a y o/\Q (o.getD .non) H2):=rfl
theorem rV:JN σ H Q=(∀ p,H p=none->Q (.ref p) (upd H p (.dK []))):=rfl
theorem rW:NU σ H Q=(∀ p,H p=none->Q (.ref p) (upd H p (.dT []))):=rfl
theorem rX:tB te σ H QB=(te σ H λx H1=>∃ c,x=.bl c/\QB c H1):=rfl
theorem rY:JU K te σ H Q=(te σ H λx H1=>∃ (p:Addr) (ns:List Int),x=.ref p/\SqL K H1 p (ns.map V.int)/\ns.length<64 ∧
 ∀ (a:Addr) (o:HO) (D:Addr) (ks:List Int),H1 a=none->upd H1 a o D=none->ks.Pairwise (· <·)->(∀ x,x∈ks↔x∈ns)->ks.length<=ns.length->Q (.ref D) (upd (upd H1 a o) D (.lst (ks.map V.int)))):=rfl
variable{a b:Addr}{i j:Int}{z:Str}{kvs:List (AR × V)}{kvt:List (List AR × V)}{v:V}
theorem dI(e:H a=some (.dK kvs)):DGet H a (.int i) (AW kvs (.inl i)):=DGet.k (k:=.inl i) e
theorem dS(e:H a=some (.dK kvs)):DGet H a (.str z) (AW kvs (.inr z)):=DGet.k (k:=.inr z) e
theorem OJ(e:H a=some (.dT kvt))(eb:H b=some (.tup [.int i,.int j])):DGet H a (.ref b) (AW kvt [.inl i,.inl j]):=DGet.t (k:=[.inl i,.inl j]) e eb
theorem CC(e:H a=some (.dK kvs))(h:AW kvs (.inr z)=some v):DGet H a (.str z) (some v):=h ▸ dS e
theorem X1(e:H a=some (.dT kvt))(eb:H b=some (.tup [.int i,.int j]))(h:AW kvt [.inl i,.inl j]=some v):DGet H a (.ref b) (some v):=h ▸ OJ e eb
theorem pI(e:H a=some (.dK kvs))(hl:kvs.length<100000):DPut H a (.int i) v (upd H a (.dK (A5 kvs (.inl i) v))):=DPut.k (k:=.inl i) e (Nat.lt_of_lt_of_le hl (by decide))
theorem pS(e:H a=some (.dK kvs))(hl:kvs.length<100000):DPut H a (.str z) v (upd H a (.dK (A5 kvs (.inr z) v))):=DPut.k (k:=.inr z) e (Nat.lt_of_lt_of_le hl (by decide))
theorem X2(e:H a=some (.dT kvt))(eb:H b=some (.tup [.int i,.int j]))(hl:kvt.length<100000):DPut H a (.ref b) v (upd H a (.dT (A5 kvt [.inl i,.inl j] v))):=DPut.t (k:=[.inl i,.inl j]) e eb (Nat.lt_of_lt_of_le hl (by decide))
end
end L2
namespace L2
section
variable{X:Cx}
def RJ(K:W.Frag):List V->Hp->VK->Prop:=λxs H Q=>∃ (p:Addr) (ns:List Int),xs=[.ref p]/\SqL K H p (ns.map V.int)/\ns≠[]/\∀ m,m∈ns->(∀ x∈ns,m<=x)->Q (.int m) H
theorem rZ(hc:X.calm=true):DJ X (.builtin "min") (RJ X.K):=by
 intro pins s σ H xs us Q I r h
 obtain⟨p,ns,rfl,hp,hne,q⟩:=h
 obtain⟨u,rfl,ru⟩:=FA r
 cases ru
 obtain⟨its,rv,pl,hz⟩:=I.list hp
 have hi:=OE rv
 obtain⟨zs,e⟩:=hi.allInts.items
 have hns:ns=zs.toList.map (·.1):=by rw[<-hi.numsOf,<-nums_intItems,<-e]
 have hsz:0<zs.size:=by
  have h3:=List.length_pos_iff.mpr hne
  rw[hns,List.length_map,Array.length_toList]at h3
  exact h3
 have hl:=pl.isList
 rw[e]at hl
 refine min_intList (I.ok.hd hc) hl hsz λv h' tk hv hk=> ?_
 obtain⟨t,rfl⟩:=intItems_at hv
 obtain⟨h1,h2⟩:=argBest_lt (numAt zs) (zs.size - 1)
 refine⟨.int _,H,I.kept (t':=tk) hk,⟨t,rfl⟩,q _ ?_ λx hx=> ?_⟩
 ·rw[hns,numAt_eq]
  exact getD_mem (by rw[List.length_map,Array.length_toList];omega)
 ·rw[hns]at hx
  obtain⟨j,hj,rfl⟩:=mem_getD hx
  rw[List.length_map,Array.length_toList]at hj
  rw[<-numAt_eq]
  exact h2 j (by omega)
theorem r8{K:W.Frag}{p:Addr}{H:Hp}{Q:VK}{ns:List Int}(h:SqL K H p (ns.map V.int))(hne:ns≠[])(q:∀ m,m∈ns->(∀ x∈ns,m<=x)->Q (.int m) H):RJ K [.ref p] H Q:=⟨p,ns,rfl,h,hne,q⟩
end
theorem SqT.same{K:W.Frag}{H H':Hp}{a:Addr}{xs:List V}(e:Same H H')(h:SqT K H a xs):SqT K H' a xs:=by
 rcases h with(h | ⟨o,h⟩) | h
 ·exact .inl (.inl (e _ _ h))
 ·exact .inl (.inr ⟨o,e _ _ h⟩)
 ·exact .inr h
mutual
theorem Rep.same{K:W.Frag}{H H':Hp}(s:Same H H'):∀ {v:V} {d:PyData},Rep K H v d->Rep K H' v d
 | _,_,.non=>.non
 | _,_,.bl b=>.bl b
 | _,_,.int i=>.int i
 | _,_,.str x=>.str x
 | _,_,.lst h r=>.lst (s.seq h) (RepAll.same s r)
 | _,_,.tup h r=>.tup (SqT.same s h) (RepAll.same s r)
theorem RepAll.same{K:W.Frag}{H H':Hp}(s:Same H H'):∀ {vs:List V} {ds:List PyData},RepAll K H vs ds->RepAll K H' vs ds
 | _,_,.nil=>.nil
 | _,_,.cons h r=>.cons (Rep.same s h) (RepAll.same s r)
end
def Dat(K:W.Frag)(H:Hp)(n:Nat)(v:V)(d:PyData):Prop:=Rep K H v d/\d.canLay0=true/\d.depth<=n
section
variable{K:W.Frag}{H:Hp}{n:Nat}{Q:VK}
theorem Dat.int(i:Int):Dat K H n (.int i) (.int i):=⟨.int i,rfl,Nat.zero_le _⟩
theorem Dat.non:Dat K H n .non .none:=⟨.non,rfl,Nat.zero_le _⟩
theorem RK:∀ {xs:List V} {ds:List PyData},Paired (Dat K H n) xs ds->RepAll K H xs ds/\PyData.canLayAll0 ds=true/\PyData.depthAll ds<=n
 | _,_,.nil=>⟨.nil,rfl,Nat.zero_le _⟩
 | _,_,.cons h t=>by
  obtain⟨a1,a2,a3⟩:=RK t
  refine⟨.cons h.1 a1,?_,?_⟩
  ·simp[PyData.canLayAll0,h.2.1,a2]
  ·simp only[PyData.depthAll];exact Nat.max_le.mpr ⟨h.2.2,a3⟩
theorem Dat.lst{p:Addr}{xs:List V}{ds:List PyData}(h:SqL K H p xs)(hs:Paired (Dat K H n) xs ds):Dat K H (n+1) (.ref p) (.list ds):=by
 obtain⟨a1,a2,a3⟩:=RK hs
 exact⟨.lst h a1,by simpa [PyData.canLay0]using a2,by simpa [PyData.depth]using a3⟩
theorem Dat.tup{p:Addr}{xs:List V}{ds:List PyData}(h:SqT K H p xs)(hs:Paired (Dat K H n) xs ds):Dat K H (n+1) (.ref p) (.tuple ds):=by
 obtain⟨a1,a2,a3⟩:=RK hs
 exact⟨.tup h a1,by simpa [PyData.canLay0]using a2,by simpa [PyData.depth]using a3⟩
theorem Dat.shp{v:V}{d:PyData}(h:Dat K H n v d)(hn:n<=64):shp d:=by
 unfold L2.shp PySem.SeqAt.shaped
 rw[h.2.1]
 simpa using Nat.le_trans h.2.2 hn
theorem IE:∀ (l:List Int),Paired (Dat K H n) (l.map V.int) (l.map PyData.int)
 | []=>.nil
 | x::r=>.cons (.int x) (IE r)
theorem sA{p q:Addr}{d:PyData}(hn:n<=64)(h1:Dat K H n (.ref p) d)(h2:Dat K H n (.ref q) d)(hq:Q (.bl true) H):CM K (.ref p) (.ref q) H Q:=by
 unfold CM
 rw[if_neg (by simp[E9])]
 refine⟨_,_,h1.1,h2.1,h1.shp hn,h1.shp hn,?_⟩
 rw[XH (h1.shp hn)]
 exact hq
theorem RM{p q:Addr}{d:PyData}(hn:n<=64)(h1:Dat K H n (.ref p) d)(h2:Dat K H n (.ref q) d)(hq:Q (.bl false) H):CP K (.ref p) (.ref q) H Q:=by
 unfold CP
 rw[if_neg (by simp[E9])]
 refine⟨_,_,h1.1,h2.1,h1.shp hn,h1.shp hn,?_⟩
 rw[XH (h1.shp hn)]
 exact hq
theorem sB{p q:Addr}{xs:List V}{ds:List PyData}(hn:n<=63)(h1:SqL K H p xs)(hd:Paired (Dat K H n) xs ds)(h2:SqL K H q [])(hq:Q (.bl (!decide (xs=[]))) H):CP K (.ref p) (.ref q) H Q:=by
 unfold CP
 rw[if_neg (by simp[E9])]
 have e1:=Dat.lst h1 hd
 have e2:Dat K H 1 (.ref q) (.list []):=Dat.lst h2 .nil
 refine⟨_,_,e1.1,e2.1,e1.shp (by omega),e2.shp (by omega),?_⟩
 cases hd with
 | nil=>exact hq
 | cons _ _=>exact hq
theorem sC{p q:Addr}{xs:List V}{ds:List PyData}(hn:n<=63)(h1:SqL K H p xs)(hd:Paired (Dat K H n) xs ds)(h2:SqL K H q [])(hq:Q (.bl (decide (xs=[]))) H):CM K (.ref p) (.ref q) H Q:=by
 unfold CM
 rw[if_neg (by simp[E9])]
 have e1:=Dat.lst h1 hd
 have e2:Dat K H 1 (.ref q) (.list []):=Dat.lst h2 .nil
 refine⟨_,_,e1.1,e2.1,e1.shp (by omega),e2.shp (by omega),?_⟩
 cases hd with
 | nil=>exact hq
 | cons _ _=>exact hq
end
end L2
namespace L2
def X3(scope:Scope):Bool :=
 scope.kind == .function && scope.names.all (λy=>y.2 != .cell) && scope.names.all (λy=>y.2 != .local || scope.names.lookup y.1 == some .local) && scope.names.all (λy=>y.2 != .free)
theorem sE{X:Cx}{scope:Scope}{tn:List Str}(h:X3 scope=true):JP X scope tn [] []:=by
 unfold X3 at h
 refine EI (outer:=X.env.scope) (N:=X.N) rfl rfl ?_
 unfold Q1
 simp only[Bool.and_eq_true]at h ⊢
 obtain⟨⟨⟨k1,k2⟩,k3⟩,k4⟩:=h
 refine⟨⟨⟨⟨⟨k1,k2⟩,k3⟩,?_⟩,rfl⟩,rfl⟩
 rw[List.all_eq_true]at k4 ⊢
 intro y hy
 rw[k4 y hy]
 rfl
end L2
namespace L2
section
variable{prog:Program}{w:World}{A:Around}{E:Value->Shared->Prop}{s:Shared}{d it:Addr}{od:Obj}{es:Array DictEntry}{ep i:Nat}
theorem sF{Q:Value->Shared->Prop}(hd:(d == sysModules)=false)(ho:s.heap.get? d=some od)(hx:od.ExactDict)(hdat:od.data=.dict es ep)
  (hQ:Q (.ref s.heap.objs.size) { s with heap:=s.heap.push { cls:=.type "dict_keyiterator",data:=.fields #[.ref d,.int 0 0,.int es.size 0,.int ep 0] } }) :
  wpAny (model prog w) A (pyIter (.ref d)) Q E s:=by
 have hT:s.TypeIs (.ref d) "dict":=⟨od,ho,hx.1⟩
 refine wpAny_pyIter_slot hT F.slot_dict_iter (wpAny_call_entry F.slot_dict_iter hT F.entry_dict_iter ?_ (F.args_dict_iter_1 _))
 unfold Builtin.«dict.__iter__» Builtin.Dict.dictSlotNone
 refine wpAny_bind (wpAny_bind (wpAny_notOrdered_dict hT (wpAny_pure ?_)))
 show wpAny _ _ (Builtin.Dict.showsAll d >>= _) _ _ s
 unfold Builtin.Dict.showsAll
 rw[if_neg (by rw[hd];exact Bool.false_ne_true)]
 refine wpAny_bind (wpAny_pure (wpAny_bind (wpAny_dictEntries ho hdat (wpAny_bind (wpAny_dictEpoch ho hdat ?_)))))
 refine wpAny_bind (wpAny_newObj_type (wpAny_pure ⟨_,rfl,"dict_keyiterator",_,⟨_,Heap.get?_push_size _ rfl,rfl⟩,F.slot_dict_keyiterator_next.lookup,?_⟩))
 simpa [rawInt]using hQ
theorem sG{Q:Option Value->Shared->Prop}(hit:s.heap.IsKeyIter it d i es.size ep)(hod:s.heap.get? d=some od)(hdd:od.data=.dict es ep){e:DictEntry}(he:es[i]? =some e)
  (hQ:∀ h',h'.IsKeyIter it d (i+1) es.size ep->Heap.SameBut it s.heap h'->Q (some e.key) { s with heap:=h' }) :
  wpAny (model prog w) A (pyNext (.ref it)) Q E s:=by
 obtain⟨o,ho,hc,hd⟩:=id hit
 unfold pyNext
 refine wpAny_bind (wpAny_attempt (wpAny_callSpecial?_slot (name:=Str.ofString "__next__") hit.typeIs F.slot_dict_keyiterator_next
  (wpAny_call_entry F.slot_dict_keyiterator_next hit.typeIs F.entry_dict_keyiterator_next ?_ (F.args_dict_keyiterator_next_1 _))))
 refine wpAny_bind (wpAny_pure (wpAny_bind (wpAny_bind ?_)))
 first | refine wpAny_bind (wpAny_typeNameOfWhole_keyiter hit.typeIs (wpAny_pure ?_)) | refine wpAny_bind (wpAny_typeNameOf_keyiter hit.typeIs (wpAny_pure ?_))
 refine wpAny_bind (wpAny_fieldsOf ho hd ?_)
 have hown:Builtin.Dict_items.ownsTuple "dict_keyiterator"=false:=by decide
 simp only[hown,Bool.false_eq_true,if_false]
 show wpAny _ _ (if(Value.ref d == Value.none)=true then _ else _) _ _ s
 rw[if_neg (show ¬ ((Value.ref d == Value.none)=true)from Bool.false_ne_true)]
 refine wpAny_bind (wpAny_pure (wpAny_bind (wpAny_dictEntries hod hdd ?_)))
 rw[if_neg (by simp)]
 refine wpAny_bind (wpAny_pure (wpAny_bind (wpAny_dictEpoch hod hdd ?_)))
 rw[if_neg (by simp)]
 refine wpAny_pure ?_
 simp only[show ¬ ((i:Int)<0)from by omega,if_false,Int.toNat_natCast,he]
 refine wpAny_bind ?_
 first | refine wpAny_bind (wpAny_typeNameOfWhole_keyiter hit.typeIs (wpAny_pure ?_)) | refine wpAny_bind (wpAny_typeNameOf_keyiter hit.typeIs (wpAny_pure ?_))
 refine wpAny_bind (wpAny_isOneOf_keyiter hit.typeIs ?_)
 show wpAny _ _ (setField (.ref it) 1 (rawInt ((i:Int)+1)) >>= _) _ _ s
 refine wpAny_bind (wpAny_setField ho hd (by simp) ?_)
 have hit':(s.heap.update it (Obj.mapFields (·.setIfInBounds 1 (rawInt ((i:Int)+1))))).IsKeyIter it d (i+1) es.size ep :=
  ⟨_,Heap.get?_update_self _ ho (Obj.isFreed_of_fields (Obj.data_mapFields hd _)),(Obj.cls_mapFields ..).trans hc,by rw[Obj.data_mapFields hd];simp[rawInt]⟩
 refine wpAny_bind (wpAny_holding (wpAny_bind (wpAny_isOneOf_keyiter (s:={ s with heap:=s.heap.update it (Obj.mapFields (·.setIfInBounds 1 (rawInt ((i:Int)+1)))) }) hit'.typeIs ?_)))
 show wpAny _ _ (pure e.key) _ _ _
 exact wpAny_pure (wpAny_pure ⟨_,rfl,wpAny_pure (hQ _ hit' (Heap.SameBut.update ..))⟩)
theorem sI{Q:Option Value->Shared->Prop}(hh:A.handled=none)(hit:s.heap.IsKeyIter it d i es.size ep)(hod:s.heap.get? d=some od)(hdd:od.data=.dict es ep)(hge:es.size<=i)
  (hQ:∀ h',Heap.ExtBut it s.heap h'->Q none { s with heap:=h' }):wpAny (model prog w) A (pyNext (.ref it)) Q E s:=by
 obtain⟨o,ho,hc,hd⟩:=id hit
 unfold pyNext
 refine wpAny_bind (wpAny_attempt (wpAny_callSpecial?_slot (name:=Str.ofString "__next__") hit.typeIs F.slot_dict_keyiterator_next
  (wpAny_call_entry F.slot_dict_keyiterator_next hit.typeIs F.entry_dict_keyiterator_next ?_ (F.args_dict_keyiterator_next_1 _))))
 refine wpAny_bind (wpAny_pure (wpAny_bind (wpAny_bind ?_)))
 first | refine wpAny_bind (wpAny_typeNameOfWhole_keyiter hit.typeIs (wpAny_pure ?_)) | refine wpAny_bind (wpAny_typeNameOf_keyiter hit.typeIs (wpAny_pure ?_))
 refine wpAny_bind (wpAny_fieldsOf ho hd ?_)
 have hown:Builtin.Dict_items.ownsTuple "dict_keyiterator"=false:=by decide
 simp only[hown,Bool.false_eq_true,if_false]
 show wpAny _ _ (if(Value.ref d == Value.none)=true then _ else _) _ _ s
 rw[if_neg (show ¬ ((Value.ref d == Value.none)=true)from Bool.false_ne_true)]
 refine wpAny_bind (wpAny_pure (wpAny_bind (wpAny_dictEntries hod hdd ?_)))
 rw[if_neg (by simp)]
 refine wpAny_bind (wpAny_pure (wpAny_bind (wpAny_dictEpoch hod hdd ?_)))
 rw[if_neg (by simp)]
 refine wpAny_pure ?_
 simp only[show ¬ ((i:Int)<0)from by omega,if_false,Int.toNat_natCast,Array.getElem?_eq_none hge]
 refine wpAny_bind ?_
 first | refine wpAny_bind (wpAny_typeNameOfWhole_keyiter hit.typeIs (wpAny_pure ?_)) | refine wpAny_bind (wpAny_typeNameOf_keyiter hit.typeIs (wpAny_pure ?_))
 show wpAny _ _ (setField (.ref it) 0 .none >>= _) _ _ s
 refine wpAny_bind (wpAny_setField ho hd (by simp) ?_)
 show wpAny _ _ (newExc (.type "StopIteration") [] >>= _) _ _ _
 refine wpAny_bind ?_
 simp only[newExc,newTuple]
 refine wpAny_bind (wpAny_newObj_type ?_ (by size_fits))
 refine wpAny_bind (m:=firstArgMember _ _) (wpAny_of_eq (a:=Value.none) (by first | rfl | (simp only[firstArgMember];rfl)) ?_)
 refine wpAny_newObj_type ?_ (by size_fits)
 simp only[raiseNew]
 refine wpAny_bind (wpAny_handled ?_)
 rw[show A.in1.handled=none from hh]
 refine wpAny_bind (wpAny_pure (wpAny_throw ?_))
 refine wpAny_bind (wpAny_isInstance (T:="StopIteration") (b:=true) ⟨_,Heap.get?_push_size _ rfl,rfl⟩ isSubtype_stop ?_)
 exact wpAny_pure (hQ _ (((Heap.SameBut.update ..).extBut.push _).push _))
end
def OK(d:Addr)(o:Obj)(kvs:List (List AR × V)):It :=
 ⟨λi H=>H d=some (.frz o (.dT kvs))/\i<kvs.length,λi H x H'=>H'=H/\∃ b k v,x=.ref b/\kvs[i]? =some (k,v)/\H b=some (.tup (k.map kV)),λi H=>H d=some (.frz o (.dT kvs))/\kvs.length<=i⟩
theorem sJ{P:Program}{w:World}{K:W.Frag}{tg:Expr}(d it:Addr){o:Obj}{kvs:List (List AR × V)}{es:Array DictEntry}{ep:Nat}(hdat:o.data=.dict es ep):HC P w K tg (OK d o kvs) [it] it (λi h=>h.IsKeyIter it d i es.size ep) where
 mem:=by simp
 obj:=λi h st b hb=>by
  have e:b=it:=by simpa using hb
  subst e
  obtain⟨o,e,c,d⟩:=st
  exact⟨o,e,λv z=>by rw[d]at z;cases z⟩
 keep:=λi h h' st k=>st.at λo e=>k it (by simp) o e
 item:=by
  intro X hP hw hK hc i pins s σ H E I hf st hg
  subst hP hw hK
  obtain⟨hq,hi⟩:=hg
  obtain⟨h1,z,y,xs,r,o',es',ep',g1,g2,g3,g4,g5⟩:=(show ObjOk X.prog X.w H s.heap d (.frz o (.dT kvs))from I.hok d _ hq)
  rw[h1]at g1;cases g1
  rw[hdat]at g3;cases g3
  obtain⟨f0,f1,f2,f3,f4,f5⟩:=hf it (by simp)
  have hx:=List.getElem?_eq_getElem hi
  have hl:xs.length=kvs.length:=r.length.symm
  obtain⟨x,ex,hx2⟩:∃ x,xs[i]? =some x/\(kvs[i].1=x.1/\H x.2.1=some (.tup (kvs[i].1.map kV))/\RelV kvs[i].2 x.2.2):=by
   have hix:i<xs.length:=by omega
   obtain⟨y,e1,e2⟩:=EC r (List.getElem?_eq_getElem hix)
   rw[hx]at e1
   cases e1
   exact⟨_,List.getElem?_eq_getElem hix,e2⟩
  have he:es[i]? =some (entryOfKey (tupleKind (DE X.prog X.w)) x):=by
   rw[<-Array.getElem?_toList,g4,List.getElem?_map,ex];rfl
  refine sG st h1 hdat he λh' st' sb=> ?_
  have I1:Inv X pins σ H { s with heap:=h' }:=I.turned (t':=s.toks) (λb o hb e=>(sb.2 b hb).trans e) f0 f1 f3 f4 f5
  obtain⟨o2,e2,c2,d2⟩:=id st'
  exact⟨_,rfl,LU (s:={ s with heap:=h' }) e2 c2 d2 (by decide) ⟨.ref x.2.1,H,I1,rfl,⟨rfl,x.2.1,kvs[i].1,kvs[i].2,rfl,hx,hx2.2.1⟩,st',λb hb=>(hf b hb).1⟩⟩
 done:=by
  intro X hP hw hK hc i pins s σ H E I hf st hg
  subst hP hw hK
  obtain⟨hq,hi⟩:=hg
  obtain⟨h1,z,y,xs,r,o',es',ep',g1,g2,g3,g4,g5⟩:=(show ObjOk X.prog X.w H s.heap d (.frz o (.dT kvs))from I.hok d _ hq)
  rw[h1]at g1;cases g1
  rw[hdat]at g3;cases g3
  obtain⟨f0,f1,f2,f3,f4,f5⟩:=hf it (by simp)
  have hes:es.size=kvs.length:=by
   rw[<-Array.length_toList,g4,List.length_map,r.length]
  exact sI (I.ok.hd hc) st h1 hdat (by omega) λh' eb=>⟨rfl,I.turned (t':=s.toks) (λb o hb e=>eb b o hb e) f0 f1 f3 f4 f5⟩
 self:=λ_ _ _ _ _ st h=>wpAny_pyIter_keyiter st h
def RN(te:TE):TI:=λσ H R=>te σ H λx H1=>∃ d kvs,x=.ref d/\H1 d=some (.dT kvs)/\∀ o,R (OK d o kvs) (upd H1 d (.frz o (.dT kvs)))
theorem sK{X:Cx}{tg a:Expr}{te:TE}(ha:PE X a te):PI X tg a (RN te):=by
 intro pins s σ H R I h
 refine AO (ha pins s σ H _ I h) λv s1 ⟨x,H1,I1,r1,d,kvs,e,hd,q⟩=> ?_
 subst e
 cases r1
 obtain⟨z,y,xs,r,o,es,ep,g1,g2,g3,g4,g5⟩:=(show ObjOk X.prog X.w H1 s1.heap d (.dT kvs)from I1.hok d _ hd)
 refine sF y g1 g2 g3 ?_
 have new:ObjOk X.prog X.w (upd H1 d (.frz o (.dT kvs))) s1.heap d (.frz o (.dT kvs)):=⟨g1,(I1.hok d _ hd).stay (λ_ _ _ e=>e) (λb e=>by rw[AH (AQ e hd (by intro z;cases z))];exact e) λb xs e=>by rw[AH (AQ e hd (by intro z;cases z))];exact e⟩
 have I2:Inv X pins σ (upd H1 d (.frz o (.dT kvs))) { s1 with heap:=s1.heap,toks:=s1.toks }:=I1.write (by rw[hd];trivial) (.inl rfl) (λ_ _ _ e=>e) ⟨o,g1⟩ new
 have I3:Inv X pins σ (upd H1 d (.frz o (.dT kvs))) { s1 with heap:=s1.heap.push { cls:=.type "dict_keyiterator",data:=.fields #[.ref d,.int 0 0,.int es.size 0,.int ep 0] } }:=I2.kept (t':=s1.toks) λb o e=>Heap.get?_push_of_some _ e
 exact⟨_,[s1.heap.objs.size],_,_,_,rfl,I3,sJ d s1.heap.objs.size g3,⟨_,Heap.get?_push_size _ rfl,rfl,by simp⟩,λb hb=>by
  have e:b=s1.heap.objs.size:=by simpa using hb
  subst e
  exact I2.fpOk (Nat.le_refl _) (I2.hok.fresh (Nat.le_refl _)),q o⟩
theorem sL{d:Addr}{ob:Obj}{kvs:List (List AR × V)}{g:TG}{tb:TS}{D:Ends}{σ:St}{H:Hp}(Pv:Nat->St->Hp->Prop)(h0:Pv 0 σ H)(hl:∀ i σ H,i<=kvs.length->Pv i σ H->H d=some (.frz ob (.dT kvs)))
  (hs:∀ i b k v σ H,kvs[i]? =some (k,v)->H b=some (.tup (k.map kV))->Pv i σ H->g (.ref b) σ H λσ2 H2=>tb { D with nx:=Pv (i+1),ct:=Pv (i+1),bk:=D.nx } σ2 H2) (hd:∀ σ H,Pv kvs.length σ H->D.nx σ H):FG (OK d ob kvs) g tb D σ H:=by
 refine⟨λi m σ H=>m=kvs.length - i/\i<=kvs.length/\Pv i σ H,⟨_,rfl,Nat.zero_le _,h0⟩,?_⟩
 rintro i m σ H ⟨rfl,hi,p⟩
 by_cases hlt:i<kvs.length
 ·refine .inr ⟨⟨hl i σ H hi p,hlt⟩,Pv (i+1),λσ' H' p'=>⟨_,by omega,rfl,by omega,p'⟩,?_⟩
  rintro x H' ⟨rfl,b,k,v,rfl,e1,e2⟩
  exact hs i b k v σ H' e1 e2 p
 ·have e:i=kvs.length:=by omega
  subst e
  exact .inl ⟨⟨hl _ σ H hi p,hi⟩,hd σ H p⟩
theorem sM{te:TE}{g:TG}{s1:TS}{D:Ends}{σ:St}{H:Hp}:CL (RN te) g s1 D σ H=(te σ H λx H1=>∃ d kvs,x=.ref d/\H1 d=some (.dT kvs)/\∀ o,FG (OK d o kvs) g s1 D σ (upd H1 d (.frz o (.dT kvs)))):=rfl
end L2
namespace L2
section
variable{X:Cx}
end
section
variable{K:W.Frag}{tt:TT}{te:TE}{cap:List Nat}{σ:St}{H:Hp}{Q:VK}
end
end L2
namespace L2
section
variable{X:Cx}{tg:Expr}
end
section
variable{K:W.Frag}{tt:TT}{cap:List Nat}{σ:St}{H:Hp}{Q:VK}
end
def RO(n i:Nat)(P:Prop):Prop:=∃ m',m'<n - i/\m'=n - (i+1)/\i+1<=n/\P
theorem sN{n i:Nat}{P:Prop}(h:i<n)(p:P):RO n i P:=⟨_,by omega,rfl,h,p⟩
theorem sO{K:W.Frag}{g:TG}{tt:TT}{te:TE}{k:Nat}{cap:List Nat}{σ:St}{H:Hp}{Q:VK}{b:Addr}{xs:List V}(hn:xs.length<=sizeLine)(Pv:Nat->St->List V->Hp->Prop)(h0:Pv 0 (GZ k cap σ) [] H)(hq:∀ i σ' ys H,Pv i σ' ys H->SqL K H b xs/\ys.length<=i)
  (hs:∀ i x σ' ys H,i<xs.length->xs[i]? =some x->Pv i σ' ys H->g x σ' H λσ2 H2=>tt σ2 H2 λc H3=>if c=true then ∃ N:VK,(∀ y H4,N y H4->RO xs.length i (Pv (i+1) σ2 (ys++[y]) H4))/\te σ2 H3 N else RO xs.length i (Pv (i+1) σ2 ys H3))
  (hd:∀ σ' ys H,Pv xs.length σ' ys H->∀ p,H p=none->Q (.ref p) (upd H p (.lst ys))):GH (FQ K b) g tt te k cap σ H Q:=by
 refine⟨λi m σ' ys H=>m=xs.length - i/\i<=xs.length/\Pv i σ' ys H,⟨xs.length,by simp,Nat.zero_le _,h0⟩,?_⟩
 rintro i m σ' ys H ⟨rfl,hi,p⟩
 obtain⟨q,hl⟩:=hq i σ' ys H p
 by_cases hlt:i<xs.length
 ·refine .inr ⟨⟨xs,xs[i],q,by simp[hlt]⟩,by omega,λx H' y=> ?_⟩
  obtain⟨e,y⟩:=y
  subst e
  exact hs i x σ' ys _ hlt (y xs q) p
 ·have e:i=xs.length:=by omega
  subst e
  exact .inl ⟨⟨xs,q,Nat.le_refl _⟩,hd σ' ys H p⟩
section
variable{P:Program}{w:World}{A:Around}{E:Value->Shared->Prop}{s:Shared}
end
section
variable{X:Cx}
end
end L2
namespace L2
section
variable{P:Program}{w:World}{A:Around}{E:Value->Shared->Prop}{s:Shared}
end
section
variable{X:Cx}
end
end L2
namespace L2
section
variable{X:Cx}
def RP(K:W.Frag):List V->Hp->VK->Prop:=λxs H Q=>∃ (p:Addr) (ns:List Int),xs=[.ref p]/\SqL K H p (ns.map V.int)/\ns.length<64 ∧
  ∀ (D:Addr) (ks:List Int),H D=none->ks.Perm ns->ks.Pairwise (· <=·)->Q (.ref D) (upd H D (.lst (ks.map V.int)))
theorem X4(hc:X.calm=true):DJ X (.builtin "sorted") (RP X.K):=by
 intro pins s σ H xs us Q I r h
 obtain⟨p,ns,rfl,hp,hn,q⟩:=h
 obtain⟨u,rfl,rx⟩:=FA r
 cases rx
 obtain⟨its,rv,pl,hz⟩:=I.list hp
 have hi:=OE rv
 refine sorted_ints pl.isList hi (by rw[hi.length];exact hn) λout ks ho pk hr=> ?_
 obtain⟨c,g⟩:=sortedAll_at s.heap its out
 have hD:s.heap.objs.size<=s.heap.objs.size+1:=Nat.le_succ _
 refine⟨.ref _,_,I.laid (t':=s.toks) (λb o e=>sortedAll_old e) hD ?_,rfl,q _ ks (I.hok.fresh hD) pk hr⟩
 have hl:ks.length<64:=by rw[pk.length_eq];exact hn
 exact⟨by rw[List.length_map,sizeLine_eq];omega,out.toList,c,NX ho,g⟩
end
end L2
namespace L2
section
variable{P:Program}{w:World}{A:Around}{E:Value->Shared->Prop}{s:Shared}
end
section
variable{X:Cx}
end
end L2
namespace L2
section
variable{X:Cx}{pins:List (Addr × Obj)}{σ:St}{H:Hp}{s:Shared}
variable{tg iter elt:Expr}{ifs:List Expr}{scope:Scope}{pos:Pos}{td:TE}{g:TG}{tt:TT}{te:TE}{tn cn:List Str}{cap:List Nat}
end
end L2
namespace L2
theorem FnScope.go{N P:List Str}{sc:Scope}(h1:sc.kind=.function:=by exact rfl)(h2:sc.isCoroutine=false:=by exact rfl)(h3:sc.isGenerator=false:=by exact rfl)(h4:N.Nodup:=by decide +kernel)(h5:N.take P.length=P:=by exact rfl)(h6:∀ x∈P,sc.names.lookup x=some .local\/sc.names.lookup x=some .cell:=by decide +kernel)(h7:∀ y∈sc.names,y.2≠.free:=by decide +kernel):FnScope N P sc:=⟨h1,h2,h3,h4,h5,h6,h7⟩
theorem Room.m{j k:Nat}{A:Around}(r:Room k A)(h:j<=k:=by decide):Room j A:=r.mono h
abbrev FP(P:Program)(w:World)(K:W.Frag)(mg:Str->Option Value)(base:Heap)(k:Nat)(f:Addr)(fd:FuncData)(ps:List Str)(sp:Sp):Prop:=FnOk P w K mg base (C4 P w) k f fd ps sp
theorem Fun.okF{P:Program}{w:World}{K:W.Frag}{mg:Str->Option Value}{base:Heap}{x qual:Str}{st:Stmt}{f:Addr}{fd:FuncData}{N ps:List Str}{k:Nat}{sp:Sp}(F:Fun K x qual st f fd)(rd:(St->XK)->TS)(S:FnScope N ps (AT st))(len:∀ {vs H Q E},sp vs H Q E->vs.length=ps.length)
  (ok:∀ {vs H Q E},sp vs H Q E->rd (λ_=>E) { nx:=λ_ H'=>Q .non H',rt:=Q } (BD N vs) H)
  (hb:∀ (cdv:Value) (A:Around) (outer:List Env) (s:Shared) (H:Hp) (E:XK),Room k (A.deeper (envOfC qual (AT st) s.heap.objs.size f cdv))->XOk (GW (C4 P w) P w K mg base N qual (AT st) f cdv A outer s H E) (λ_=>E) →
   E5 (GW (C4 P w) P w K mg base N qual (AT st) f cdv A outer s H E) (BJ st) (rd λ_=>E)):FP P w K mg base (k+1) f fd ps sp :=
 F.okE S (λ_ _ _ _=>len) λcdv A outer s H _ _ E hr h=>⟨_,hb cdv A outer s H E hr k8,ok h⟩
section
variable{X:Cx}{pos:Pos}
theorem BZ(i:Nat){x:Str}{e:Expr}{te:TE}{pos':Pos}(hN:X.N.Nodup)(he:PE X e te)(hi:X.N[i]? =some x:=by exact rfl)(hx:JE X.env.scope x:=by exact Or.inl rfl)(hs:swapsWith e (some (.Name x pos')) pos.line X.env=pure false:=by rfl)(hf:X.fn x=true\/X.env.scope.names.lookup x=some .local:=by first | exact .inl rfl | exact .inr rfl | assumption) :
  PS X (.Assign [.Name x pos'] e pos) (A8 te (AS i)):=LT hN hi hx he hs hf
theorem CK(i:Nat){x:Str}(hN:X.N.Nodup)(hi:X.N[i]? =some x:=by exact rfl)(hx:JE X.env.scope x:=by exact Or.inl rfl)(hf:X.fn x=true\/X.env.scope.names.lookup x=some .local:=by first | exact .inl rfl | exact .inr rfl | assumption):PG X (.Name x pos) (AS i):=DT hN hi hx hf
end
end L2
namespace L2
section
variable{prog:Program}{w:World}{A:Around}{E:Value->Shared->Prop}{s:Shared}
theorem sP{st:SortSt}{nrem:Nat}{Q:AscSt->SortSt->Prop}(h1:1<=nrem)(hlt:∀ i,i+1<nrem->∀ R:Option Bool->SortSt->Prop,R (some false) st->wpS (model prog w) A E s (ltAt' (i+1) i) R st)(h:Q (none,nrem) st):wpS (model prog w) A E s (ascLoop 1 nrem) Q st:=by
 unfold ascLoop
 refine wpS_forRange (I:=λx c st'=>st'=st/\c=(none,x)) ?step ?fin ⟨rfl,rfl⟩
 case fin =>
  rintro c st' ⟨rfl,rfl⟩
  rw[show max 1 nrem=nrem by omega]
  exact h
 case step =>
  rintro x c st' hax hxn ⟨rfl,rfl⟩
  dsimp only
  obtain⟨i,rfl⟩:∃ i,x=i+1:=⟨x - 1,by omega⟩
  refine wpS_bind (hlt i hxn _ ?_)
  simp only[Bool.false_eq_true,if_false]
  exact wpS_pure ⟨rfl,rfl⟩
theorem sQ{st:SortSt}{a₀:Array Keyed}{Q:Unit->SortSt->Prop}(hB:arrOf st=a₀/\failedOf st=none/\pendingOf st= #[])(h2:2<=a₀.size)(h64:a₀.size<64)
  (hlt:∀ i,i+1<a₀.size->∀ R:Option Bool->SortSt->Prop,R (some false) st->wpS (model prog w) A E s (ltAt' (i+1) i) R st)
  (h:∀ st',arrOf st'=a₀->failedOf st'=none->Q () st'):wpS (model prog w) A E s sortRuns' Q st:=by
 obtain⟨hB1,hB2,hB3⟩:=hB
 rw[sortRuns'_eq]
 refine wpS_bind (wpS_get ?_)
 dsimp only
 have hmr:minRun' a₀.size a₀.size 0=a₀.size:=by
  obtain⟨f,hf⟩:∃ f,a₀.size=f+1:=⟨a₀.size - 1,by omega⟩
  have:minRun' (f+1) a₀.size 0=a₀.size:=by rw[minRun'_succ,if_pos h64];rfl
  rwa [<-hf]at this
 simp only[hB1,hmr]
 refine wpS_bind (wpS_mono (wpS_forRange
  (I:=λx c st'=>(x=0/\c=(none,0)/\st'=st)\/(1<=x/\c=(none,a₀.size)/\arrOf st'=a₀/\failedOf st'=none/\pendingOf st'= #[(0,a₀.size,0)]))
  (Q:=λc st'=>c=(none,a₀.size)/\arrOf st'=a₀/\failedOf st'=none/\pendingOf st'= #[(0,a₀.size,0)]) ?step ?fin (.inl ⟨rfl,rfl,rfl⟩)) ?post)
 case fin =>
  rintro c st' (⟨hx,_,_⟩ | ⟨_,hc,hD⟩)
  ·omega
  ·exact⟨hc,hD⟩
 case step =>
  rintro x c st' _ hx (⟨rfl,rfl,rfl⟩ | ⟨hx1,rfl,hD⟩)
  ·dsimp only
   rw[if_neg (by omega)]
   simp only[Nat.sub_zero,Nat.min_self,Nat.zero_add]
   rw[countRun0_eq]
   refine wpS_bind (wpS_bind (sP (by omega) hlt ?_))
   dsimp only
   rw[if_pos (by simp)]
   refine wpS_pure ?_
   dsimp only
   rw[if_neg (by omega)]
   refine wpS_bind (wpS_get ?_)
   have hb:(pendingOf st').back? =none:=by rw[hB3];rfl
   rw[hb]
   dsimp only
   refine wpS_bind (wpS_modify (wpS_pure (.inr ⟨by omega,rfl,hB1,hB2,?_⟩)))
   show(pendingOf st').push _=_
   rw[hB3];rfl
  ·dsimp only
   rw[if_pos (Nat.le_refl _)]
   exact wpS_pure ⟨rfl,hD⟩
 case post =>
  rintro c st' ⟨rfl,hD⟩
  dsimp only
  refine wpS_bind (wpS_mono (wpS_forRange (I:=λ_ c st''=>st''=st'/\c=(none,())) (Q:=λc st''=>st''=st'/\c=(none,())) ?_ (λ_ _ hh=>hh) ⟨rfl,rfl⟩) ?_)
  ·rintro x c st'' _ _ ⟨rfl,rfl⟩
   refine wpS_bind (wpS_get ?_)
   rw[if_pos (by rw[hD.2.2];exact Nat.le_refl 1)]
   exact wpS_pure ⟨rfl,rfl⟩
  ·rintro c st'' ⟨rfl,rfl⟩
   exact wpS_pure (h _ hD.1 hD.2.1)
def PairsUp(h:Heap):List Value->List Int->Prop
 | [],[]=>True
 | v::vs,k::ks=>(∃ (a:Addr) (o:Obj) (t:Tok) (u:Value) (n:Nat),v=.ref a/\h.get? a=some o/\o.cls=.type "tuple"/\o.data=.seq #[.int k t,u] n)/\PairsUp h vs ks
 | _,_=>False
theorem PairsUp.tups{h:Heap}:∀ {vs:List Value} {ks:List Int},PairsUp h vs ks->∃ fs,W.KatTups h vs fs/\fs.length=vs.length/\∀ v∈fs,∃ k t,v=.int k t
 | [],[],_=>⟨[],trivial,rfl,λ_ h=>by cases h⟩
 | [],_::_,p=>p.elim
 | _::_,[],p=>p.elim
 | v::vs,k::ks,⟨⟨a,o,t,u,n,e,h1,h2,h3⟩,r⟩=>by
  obtain⟨fs,t1,t2,t3⟩:=PairsUp.tups r
  exact⟨.int k t::fs,⟨⟨a,o,_,n,e,h1,h2,h3,rfl⟩,t1⟩,by simp[t2],λx hx=>(List.mem_cons.mp hx).elim (λe=>⟨_,_,e⟩) (t3 x)⟩
theorem PairsUp.at{h:Heap}:∀ {vs:List Value} {ks:List Int} {i:Nat} {v:Value},PairsUp h vs ks->vs[i]? =some v->∃ (a:Addr) (o:Obj) (k:Int) (t:Tok) (u:Value) (n:Nat),v=.ref a/\h.get? a=some o/\o.data=.seq #[.int k t,u] n/\ks[i]? =some k
 | [],[],_,_,_,e=>by simp at e
 | [],_::_,_,_,p,_=>p.elim
 | _::_,[],_,_,p,_=>p.elim
 | v::vs,k::ks,0,_,⟨⟨a,o,t,u,n,e,h1,h2,h3⟩,r⟩,hv=>by cases hv;exact⟨a,o,k,t,u,n,e,h1,h3,rfl⟩
 | v::vs,k::ks,i+1,_,⟨_,r⟩,hv=>by
  have:=PairsUp.at (i:=i) r (by simpa using hv)
  simpa using this
theorem PairsUp.mono{h h':Heap}(m:∀ b o,h.get? b=some o->o.cls=.type "tuple"->h'.get? b=some o):∀ {vs:List Value} {ks:List Int},PairsUp h vs ks->PairsUp h' vs ks
 | [],[],_=>trivial
 | [],_::_,p=>p.elim
 | _::_,[],p=>p.elim
 | v::vs,k::ks,⟨⟨a,o,t,u,n,e,h1,h2,h3⟩,r⟩=>⟨⟨a,o,t,u,n,e,m _ _ h1 h2,h2,h3⟩,r.mono m⟩
theorem sS{st:SortSt}{vs:List Value}{ks:List Int}(hk:kindOf st=tuples' true)(ha:arrOf st=pairsOf vs)(P:PairsUp s.heap vs ks)(up:ks.Pairwise (· <·)){i:Nat}(hi:i+1<vs.length){R:Option Bool->SortSt->Prop}(hR:R (some false) st):wpS (model prog w) A E s (ltAt' (i+1) i) R st:=by
 have e1:vs[i+1]? =some vs[i+1]:=List.getElem?_eq_getElem hi
 have e2:vs[i]? =some vs[i]:=List.getElem?_eq_getElem (by omega)
 have g1:(arrOf st)[i+1]? =some (vs[i+1],vs[i+1]):=by rw[ha];simp[pairsOf,hi]
 have g2:(arrOf st)[i]? =some (vs[i],vs[i]):=by rw[ha];simp[pairsOf,(by omega:i<vs.length)]
 obtain⟨a1,o1,k1,t1,u1,n1,ev1,h1,d1,ek1⟩:=P.at e1
 obtain⟨a2,o2,k2,t2,u2,n2,ev2,h2,d2,ek2⟩:=P.at e2
 have hlt:k2<k1:=by
  obtain⟨l1,rfl⟩:=List.getElem?_eq_some_iff.mp ek1
  obtain⟨l2,rfl⟩:=List.getElem?_eq_some_iff.mp ek2
  exact List.pairwise_iff_getElem.mp up i (i+1) l2 l1 (by omega)
 rw[ltAt'_eq]
 refine wpS_bind (wpS_get ?_)
 show wpS _ _ _ _ (do let x ← elem' (arrOf st) (i+1);let y ← elem' (arrOf st) i;lt' x y) R st
 rw[elem'_eq,elem'_eq,g1,g2]
 refine wpS_bind (wpS_pure (wpS_bind (wpS_pure ?_)))
 rw[lt'_eq]
 refine wpS_bind (wpS_get ?_)
 rw[hk]
 show wpS _ _ _ _ (do let r ← (keyLt' (tuples' true) vs[i+1] vs[i]).attempt;_) R st
 rw[ev1,ev2]
 refine wpS_bind (wpS_lift (wpAny_attempt (W.kat_lt h1 d1 h2 d2 (W.kat_cons (wpAny_eqBool_int ?_)))))
 have hne:(k1 == k2)=false:=by simp;omega
 rw[hne]
 refine W.kat_no (oneLt_int ⟨rfl,?_⟩)
 rw[decide_eq_false (by omega)]
 exact wpS_pure hR
theorem sT{a:Addr}{vs:List Value}{ks:List Int}{n:Nat}{P:Fin->Shared->Prop}(ho:s.heap.get? a=some (seqObj "list" vs.toArray n))(hp:PairsUp s.heap vs ks)(up:ks.Pairwise (· <·))(h64:vs.length<64)
  (fin:P (.done (.ret .none)) { s with heap:=sortedHeap s.heap a vs vs.toArray }) :
  wpAny (model prog w) A (Builtin.«list.sort» ⟨[.ref a],[]⟩) P E s:=by
 rw[list_sort_plain]
 have ha:a<s.heap.objs.size:=Heap.lt_size ho
 refine wpAny_bind (listItems_at ho rfl ?_)
 refine wpAny_bind (listUpdate_at ho rfl ?_)
 obtain⟨e1,ho1⟩:∃ e1,(s.heap.update a (Obj.mapSeq λ_=> #[])).get? a=some (seqObj "list" #[] e1):=⟨_,get?_update_seq ho (λ_=> #[])⟩
 refine wpAny_bind (seqEpoch_at ho1 rfl ?_)
 refine wpAny_bind (wpAny_newTuple ?_)
 refine wpAny_bind (wpAny_newList ?_)
 refine wpAny_holding ?_
 have ho6:(((s.heap.update a (Obj.mapSeq λ_=> #[])).push (seqObj "tuple" vs.toArray 0)).push (seqObj "list" #[] 0)).get? a=some (seqObj "list" #[] e1):=by
  rw[Heap.get?_push_ne _ _ _ (by rw[size_push',Heap.size_update];exact Nat.ne_of_lt (Nat.lt_succ_of_lt ha)),Heap.get?_push_ne _ _ _ (by rw[Heap.size_update];exact Nat.ne_of_lt ha)]
  exact ho1
 have hp6:PairsUp (((s.heap.update a (Obj.mapSeq λ_=> #[])).push (seqObj "tuple" vs.toArray 0)).push (seqObj "list" #[] 0)) vs ks:=hp.mono λb o e hc=>by
  have hba:b≠a:=λz=>by
   rw[z,ho]at e
   cases e
   revert hc
   show ¬ (Value.type "list"=Value.type "tuple")
   decide
  exact Heap.get?_push_of_some _ (Heap.get?_push_of_some _ ((Heap.get?_update_other _ _ (Ne.symm hba)).trans e))
 show wpAny (model prog w) A _ P E { s with heap:=((s.heap.update a (Obj.mapSeq λ_=> #[])).push (seqObj "tuple" vs.toArray 0)).push (seqObj "list" #[] 0) }
 dsimp only
 have hsz:vs.toArray.size=vs.length:=by simp
 have hmap:(pairsOf vs).map (·.2)=vs.toArray:=by
  have hz:∀ l:List Value,(l.zip l).map (·.2)=l:=λl=>by induction l with
   | nil=>rfl
   | cons x r ih=>simp[ih]
  simp[pairsOf,hz]
 by_cases h2:vs.toArray.size<2
 ·rw[if_pos h2,if_pos h2]
  refine wpAny_bind (wpAny_pure ?_)
  rw[StateT.run_pure]
  refine wpAny_bind (wpAny_pure ?_)
  dsimp only
  refine wpAny_bind (seqEpoch_at ho6 rfl ?_)
  refine wpAny_bind (listUpdate_at ho6 rfl ?_ (hsz2:=by rw[Array.size_map];show(pairsOf vs).size<=_;rw[pairsOf_size,sizeLine_eq];omega))
  simp only[bne_self_eq_false,Bool.false_eq_true,if_false]
  refine wpAny_pure ?_
  show P _ { s with heap:=sortedHeap s.heap a vs ((pairsOf vs).map (·.2)) }
  rw[hmap]
  exact fin
 ·rw[if_neg h2,if_neg h2]
  obtain⟨fs,t1,t2,t3⟩:=hp6.tups
  refine wpAny_bind (W.kat_kind (T:=.type "int") t1 (by omega) (λv hv=> ?_) (by decide) ?_)
  ·obtain⟨k,t,rfl⟩:=t3 v hv
   exact .now
  have hkd:tuples' (Value.type "int" != Value.type "tuple")=tuples' true:=by rw[show(Value.type "int" != Value.type "tuple")=true by decide]
  rw[hkd]
  refine wpAny_bind (wpAny_mono (sQ (a₀:=pairsOf vs) (st:=SortSt.mk' (tuples' true) (vs.toArray.zip vs.toArray) #[] 7 none) (Q:=λ_ st'=>arrOf st'=pairsOf vs/\failedOf st'=none) ⟨rfl,rfl,rfl⟩ (by rw[pairsOf_size];omega) (by rw[pairsOf_size];exact h64) (λi hi R hR=>sS rfl rfl hp6 up (by rw[pairsOf_size]at hi;exact hi) hR) λst' a1 a2=>⟨a1,a2⟩) ?_ λ_ _ e=>e)
  rintro ⟨⟨⟩,st'⟩ s' ⟨rfl,hp',hf⟩
  dsimp only
  refine wpAny_bind (seqEpoch_at ho6 rfl ?_)
  dsimp only at hp' hf
  rw[hp',hmap]
  refine wpAny_bind (listUpdate_at ho6 rfl ?_ (hsz2:=by simp only[hsz];rw[sizeLine_eq];omega))
  rw[hf]
  simp only[bne_self_eq_false,Bool.false_eq_true,if_false]
  exact wpAny_pure fin
theorem sU{l:Addr}{vs:List Value}{ks:List Int}{Q:Value->Shared->Prop}(hl:s.heap.IsList l vs.toArray)(hp:PairsUp s.heap vs ks)(up:ks.Pairwise (· <·))(h64:vs.length<64)
  (h:Q (.ref (s.heap.objs.size+1)) { s with heap:=sortedAll s.heap vs vs.toArray }) :
  wpAny (model prog w) A (call (.builtin "sorted") [.ref l]) Q E s:=by
 refine Calls.call_function_entry kind_sorted plain_sorted entry_sorted (args_sorted1 _) ?_
 unfold Builtin.«sorted»
 refine wpAny_bind (m:=checkCount "sorted" 1 1 _) (wpAny_pure ?_)
 refine wpAny_bind (collect_list hl ?_)
 refine wpAny_bind (wpAny_newList ?_)
 have hsz:((s.heap.push (seqObj "list" #[] 0)).update s.heap.objs.size (Obj.mapSeq (· ++vs.toArray))).objs.size=s.heap.objs.size+1:=by
  rw[Heap.size_update,size_push']
 have hoL:(((s.heap.push (seqObj "list" #[] 0)).update s.heap.objs.size (Obj.mapSeq (· ++vs.toArray))).push (seqObj "list" vs.toArray 0)).get? (s.heap.objs.size+1)=some (seqObj "list" vs.toArray 0):=by
  rw[<-hsz];exact Heap.get?_push_size _ rfl
 show wpAny _ _ _ _ _ { s with heap:=((s.heap.push (seqObj "list" #[] 0)).update s.heap.objs.size (Obj.mapSeq (· ++vs.toArray))).push (seqObj "list" vs.toArray 0) }
 rw[hsz]
 have hpL:PairsUp (((s.heap.push (seqObj "list" #[] 0)).update s.heap.objs.size (Obj.mapSeq (· ++vs.toArray))).push (seqObj "list" vs.toArray 0)) vs ks:=hp.mono λb o e hc=>by
  have hb:s.heap.objs.size≠b:=Nat.ne_of_gt (Heap.lt_size e)
  exact Heap.get?_push_of_some _ ((Heap.get?_update_other _ _ hb).trans (Heap.get?_push_of_some _ e))
 refine wpAny_bind (wpAny_holding (wpAny_call_entry slot_list_sort ⟨_,hoL,rfl⟩ entry_list_sort (sT hoL hpL up h64 ⟨_,rfl,?_⟩) (args_list_sort _)))
 exact wpAny_pure ⟨_,rfl,h⟩
end
section
variable{X:Cx}
theorem X5{H:Hp}{pins:List (Addr × Obj)}{σ:St}{s:Shared}(I:Inv X pins σ H s):∀ {ts:List Addr} {ks:List Int} {its:List Value},Paired (λt k=>∃ v,H t=some (.tup [.int k,v])) ts ks->Vals (ts.map V.ref) its->PairsUp s.heap its ks
 | _,_,_,.nil,.nil=>trivial
 | _,_,_,.cons ⟨v,e⟩ r,.cons rv rr=>by
  obtain⟨its,rt,⟨o,eo,hc,n,d⟩,_⟩:=I.tuple (SqT.of e)
  cases rt with
  | cons r1 rt=>cases rt with
   | cons r2 rt=>cases rt with
    | nil =>
     obtain⟨t,rfl⟩:=r1
     cases rv
     exact⟨⟨_,o,t,_,n,rfl,eo,hc,d⟩,X5 I r rr⟩
def X6(K:W.Frag):List V->Hp->VK->Prop:=λxs H Q=>∃ (p:Addr) (ts:List Addr) (ks:List Int),xs=[.ref p]/\SqL K H p (ts.map V.ref)/\Paired (λt k=>∃ v,H t=some (.tup [.int k,v])) ts ks/\ks.Pairwise (· <·)/\ts.length<64 ∧
  ∀ D:Addr,H D=none->Q (.ref D) (upd H D (.lst (ts.map V.ref)))
theorem sV(hc:X.calm=true):DJ X (.builtin "sorted") (X6 X.K):=by
 intro pins s σ H xs us Q I r h
 obtain⟨p,ts,ks,rfl,hp,hP,up,hn,q⟩:=h
 obtain⟨u,rfl,rx⟩:=FA r
 cases rx
 obtain⟨its,rv,pl,hz⟩:=I.list hp
 have hlen:its.length=ts.length:=by have:=rv.length;simpa using this.symm
 refine sU pl.isList (X5 I hP rv) up (by omega) ?_
 obtain⟨c,g⟩:=sortedAll_at s.heap its its.toArray
 have hD:s.heap.objs.size<=s.heap.objs.size+1:=Nat.le_succ _
 refine⟨.ref _,_,I.laid (t':=s.toks) (λb o e=>sortedAll_old e) hD ?_,rfl,q _ (I.hok.fresh hD)⟩
 exact⟨by rw[List.length_map,sizeLine_eq];omega,its,c,rv,g⟩
end
end L2
namespace L2
abbrev Ad:=String->Addr
def SameBut(F:Addr->Prop)(H H':Hp):Prop:=∀ b o,H b=some o->¬ F b->H' b=some o
structure DO(K:W.Frag)(a:Ad):Prop where
 cl:Cls K (a "Plank")
 nC:NoAttr K (a "Plank") "contents"
 nW:NoAttr K (a "Plank") "width"
 nN:NoAttr K (a "Plank") "written"
def pf(cl:Addr)(w n:Int):List (Str × V):=[("contents",.ref cl),("width",.int w),("written",.int n)]
theorem X7:¬ ("contents":Str)="width":=by decide +kernel
theorem RQ:¬ ("contents":Str)="written":=by decide +kernel
theorem RR:¬ ("width":Str)="written":=by decide +kernel
theorem OL(cl:Addr)(w n:Int):(pf cl w n).lookup ("contents":Str)=some (V.ref cl):=by simp[pf]
theorem X8(cl:Addr)(w n:Int):(pf cl w n).lookup ("width":Str)=some (V.int w):=by
 have h:(("width":Str) == "contents")=false:=beq_eq_false_iff_ne.mpr (Ne.symm X7)
 simp[pf,List.lookup_cons,h]
theorem X9(cl:Addr)(w n:Int):(pf cl w n).lookup ("written":Str)=some (V.int n):=by
 have h:(("written":Str) == "contents")=false:=beq_eq_false_iff_ne.mpr (Ne.symm RQ)
 have h2:(("written":Str) == "width")=false:=beq_eq_false_iff_ne.mpr (Ne.symm RR)
 simp[pf,List.lookup_cons,h,h2]
theorem sW(cl:Addr)(w n:Int):A6 "written" (.int n) (A6 "width" (.int w) (A6 "contents" (.ref cl) []))=pf cl w n:=by
 simp only[A6,pf]
 rw[if_neg X7]
 simp only[A6]
 rw[if_neg RQ,if_neg RR]
theorem sX(cl:Addr)(w n m:Int):A6 "written" (.int m) (pf cl w n)=pf cl w m:=by
 simp only[A6,pf]
 rw[if_neg RQ,if_neg RR]
 simp
theorem IF(cl:Addr)(w n:Int){m:Str}(h1:¬ m="contents")(h2:¬ m="width")(h3:¬ m="written"):(pf cl w n).lookup m=none:=by
 have e1:=beq_eq_false_iff_ne.mpr h1
 have e2:=beq_eq_false_iff_ne.mpr h2
 have e3:=beq_eq_false_iff_ne.mpr h3
 simp[pf,List.lookup_cons,e1,e2,e3]
structure PlankAt(a:Ad)(H:Hp)(p cl:Addr)(w:Nat)(rows:List (List V))(n:Nat):Prop where
 ob:∃ dx,H p=some (.ins (a "Plank") dx (pf cl w n))
 ls:∃ ts:List Addr,H cl=some (.lst (ts.map V.ref))/\Paired (λt r=>H t=some (.tup r)) ts rows
 wd:∀ r∈rows,r.length=w
 sz:rows.length<=1000
 sw:w<=1000
theorem PlankAt.ne{a:Ad}{H:Hp}{p cl:Addr}{w:Nat}{rows:List (List V)}{n:Nat}(P:PlankAt a H p cl w rows n):p≠cl:=by
 obtain⟨⟨dx,h1⟩,⟨ts,h2,_⟩,_⟩:=P
 exact AQ h1 h2 (by intro z;cases z)
theorem PlankAt.same{a:Ad}{H H':Hp}{p cl:Addr}{w:Nat}{rows:List (List V)}{n:Nat}(P:PlankAt a H p cl w rows n)(s:Same H H'):PlankAt a H' p cl w rows n:=by
 obtain⟨⟨dx,e1⟩,⟨ts,e2,e3⟩,r1,r2,r3⟩:=P
 exact⟨⟨dx,s _ _ e1⟩,⟨ts,s _ _ e2,Paired.mapP e3 λt r q=>s _ _ q⟩,r1,r2,r3⟩
def JV(K:W.Frag)(a:Ad):Sp:=λvs H Q _=>∃ (p dx:Addr) (m w:Nat),vs=[.ref p,.int m,.int w]/\DO K a/\H p=some (.ins (a "Plank") dx [])/\m<=1000/\1<=w/\w<=1000 ∧
 ∀ cl H',H cl=none->PlankAt a H' p cl w (List.replicate m (List.replicate w .non)) 0->SameBut (· =p) H H'->Q .non H'
def IG(K:W.Frag)(a:Ad):Sp:=λvs H Q _=>∃ p cl w rows n,vs=[.ref p]/\DO K a/\PlankAt a H p cl w rows n/\Q (.int rows.length) H
def MF(K:W.Frag)(a:Ad):Sp:=λvs H Q _=>∃ (p cl:Addr) (w:Nat) (rows:List (List V)) (n:Nat),vs=[.ref p]/\DO K a/\PlankAt a H p cl w rows n/\Q (.int w) H
def IH(K:W.Frag)(a:Ad):Sp:=λvs H Q _=>∃ (p cl:Addr) (w:Nat) (rows:List (List V)) (n:Nat),vs=[.ref p]/\DO K a/\PlankAt a H p cl w rows n/\Q (.int n) H
def G2(K:W.Frag)(a:Ad):Sp:=λvs H Q E=>∃ (p cl:Addr) (w:Nat) (rows:List (List V)) (n:Nat) (b:Int),vs=[.ref p,.int b]/\DO K a/\PlankAt a H p cl w rows n ∧
 (0<=b->b<rows.length->Q .non H)/\(b<0\/rows.length<=b->E (.ref (a "NoBlock")) none H)
def FH(K:W.Frag)(a:Ad):Sp:=λvs H Q E=>∃ (p cl:Addr) (w:Nat) (rows:List (List V)) (n:Nat) (b:Int),vs=[.ref p,.int b]/\DO K a/\PlankAt a H p cl w rows n ∧
 (∀ (i:Nat) row,b=i->rows[i]? =some row->∀ l,H l=none->Q (.ref l) (upd H l (.lst row)))/\(b<0\/rows.length<=b->E (.ref (a "NoBlock")) none H)
def II(K:W.Frag)(a:Ad):Sp:=λvs H Q E=>∃ (p cl:Addr) (w:Nat) (rows:List (List V)) (n:Nat) (b:Int) (v:Addr) (xs:List V),vs=[.ref p,.int b,.ref v]/\DO K a/\PlankAt a H p cl w rows n/\SqL K H v xs/\xs.length<=2000 ∧
 (∀ (i:Nat),b=i->i<rows.length->xs.length=w->∀ H',PlankAt a H' p cl w (rows.set i xs) (n+1)->SameBut (λx=>x=p\/x=cl) H H'->Q .non H') ∧
 (b<0\/rows.length<=b\/xs.length≠w->E (.ref (a "NoBlock")) none H)
end L2
namespace L2
theorem A7{K:W.Frag}{H:Hp}{p:Addr}{xs:List V}{i:Int}{n:Nat}{v:V}{Q:VK}(h:H p=some (.tup xs))(hi:i=n)(hx:xs[n]? =some v)(q:Q v H):AV K (.ref p) (.int i) H Q :=
 .inr (.inl ⟨p,xs,i,v,rfl,rfl,SqT.of h,by rw[hi];exact V4 hx,q⟩)
theorem OM{C C' dx dx':Addr}{fs fs':List (Str × V)}(h:fs≠fs'):HO.ins C dx fs≠HO.ins C' dx' fs':=by
 intro z
 injection z with _ _ z
 exact h z
theorem sY{K:W.Frag}{H:Hp}{p:Addr}{xs:List V}{lo hi:Option Int}{Q:VK}(h:SqL K H p xs)(q:∀ r,H r=none->Q (.ref r) (upd H r (.lst (GX xs lo hi)))):N4 K (.ref p) lo hi H Q:=.inl ⟨p,xs,rfl,h,q⟩
theorem SameBut.refl{F:Addr->Prop}(H:Hp):SameBut F H H:=λ_ _ e _=>e
theorem SameBut.wide{F G:Addr->Prop}{H H':Hp}(s:SameBut F H H')(i:∀ x,F x->G x):SameBut G H H':=λb o e n=>s _ _ e λz=>n (i _ z)
theorem Same.sb{F:Addr->Prop}{H H':Hp}(s:Same H H'):SameBut F H H':=λb o e _=>s b o e
theorem SameBut.upd{F:Addr->Prop}{H H':Hp}{p:Addr}{o:HO}(s:SameBut F H H')(h:F p\/H p=none):SameBut F H (upd H' p o):=λb u e n=>by
 have:b≠p:=by
  rcases h with h | h
  ·exact λz=>n (z ▸ h)
  ·exact AX e h
 rw[AH this];exact s _ _ e n
structure Ch where
 blk:Nat
 cell:Nat
 val:V
 nd:List Int
def G3:List Ch->Int->Int->Option Nat
 | [],_,_=>none
 | c::r,i,j=>if(c.blk:Int)=i/\(c.cell:Int)=j then some r.length else G3 r i j
def DG(cs:List Ch)(i j:Int):Option Nat:=G3 cs.reverse i j
def FI:List Ch->Nat->List Nat
 | [],_=>[]
 | c::r,b=>if c.blk=b then FI r b++[r.length]else FI r b
def A9(cs:List Ch)(b:Nat):List Nat:=FI cs.reverse b
theorem RS(cs:List Ch)(c:Ch)(i j:Int):DG (cs++[c]) i j=if(c.blk:Int)=i/\(c.cell:Int)=j then some cs.length else DG cs i j:=by
 simp[DG,G3]
theorem YA(cs:List Ch)(c:Ch)(b:Nat):A9 (cs++[c]) b=if c.blk=b then A9 cs b++[cs.length]else A9 cs b:=by
 simp[A9,FI]
theorem ON:∀ {l:List Ch} {i j:Int} {k:Nat},G3 l i j=some k->k<l.length
 | [],_,_,_,h=>by cases h
 | c::r,i,j,k,h=>by
  unfold G3 at h
  split at h
  ·cases h;simp
  ·have:=ON h
   simp only[List.length_cons];omega
theorem YB{cs:List Ch}{i j:Int}{k:Nat}(h:DG cs i j=some k):k<cs.length:=by
 have:=ON h
 rwa [List.length_reverse]at this
theorem RT:∀ {l:List Ch} {b k:Nat},k∈FI l b->k<l.length
 | [],_,_,h=>by cases h
 | c::r,b,k,h=>by
  unfold FI at h
  split at h
  ·rcases List.mem_append.mp h with h | h
   ·have:=RT h
    simp only[List.length_cons];omega
   ·rw[List.mem_singleton.mp h];simp
  ·have:=RT h
   simp only[List.length_cons];omega
theorem RU{cs:List Ch}{b k:Nat}(h:k∈A9 cs b):k<cs.length:=by
 have:=RT h
 rwa [List.length_reverse]at this
theorem YC:∀ (l:List Ch) (b:Nat),(FI l b).length<=l.length
 | [],_=>Nat.le_refl _
 | c::r,b=>by
  have:=YC r b
  unfold FI
  split<;>simp<;>omega
theorem YD(cs:List Ch)(b:Nat):(A9 cs b).length<=cs.length:=by
 have:=YC cs.reverse b
 rwa [List.length_reverse]at this
def EJ(pl:Addr)(v:V)(nt:Addr):List (Str × V):=[("place",.ref pl),("value",v),("needs",.ref nt)]
def bf(gp m mi lt ou:Addr):List (Str × V):=[("ground",.ref gp),("made",.ref m),("made_in",.ref mi),("latest",.ref lt),("outs",.ref ou)]
def HJ(a b:Str):Bool:=a == b
section
variable{pl nt gp m mi lt ou:Addr}{v:V}
theorem DP{a b:Str}(h:HJ a b=false):(a == b)=false:=h
theorem sZ:(EJ pl v nt).lookup ("place":Str)=some (V.ref pl):=by simp[EJ]
theorem YE:(EJ pl v nt).lookup ("value":Str)=some v:=by
 simp[EJ,List.lookup_cons,DP (a:="value") (b:="place") (by decide +kernel)]
theorem RV:(EJ pl v nt).lookup ("needs":Str)=some (V.ref nt):=by
 simp[EJ,List.lookup_cons,DP (a:="needs") (b:="place") (by decide +kernel),DP (a:="needs") (b:="value") (by decide +kernel)]
theorem OO{f g:Str}{x y:V}{r:List (Str × V)}(h:HJ g f=false):A6 f y ((g,x)::r)=(g,x)::A6 f y r:=by
 have:¬ g=f:=λe=>by rw[e]at h;simp[HJ]at h
 simp[A6,this]
theorem OP{f:Str}{y:V}:A6 f y []=[(f,y)]:=rfl
theorem tD:A6 "needs" (.ref nt) (A6 "value" v (A6 "place" (.ref pl) []))=EJ pl v nt:=by
 rw[OP,OO (by decide +kernel),OP,OO (by decide +kernel),OO (by decide +kernel),OP]
 rfl
theorem MG:(bf gp m mi lt ou).lookup ("ground":Str)=some (V.ref gp):=by simp[bf]
theorem GJ:(bf gp m mi lt ou).lookup ("made":Str)=some (V.ref m):=by
 simp[bf,List.lookup_cons,DP (a:="made") (b:="ground") (by decide +kernel)]
theorem RX:(bf gp m mi lt ou).lookup ("made_in":Str)=some (V.ref mi):=by
 simp[bf,List.lookup_cons,DP (a:="made_in") (b:="ground") (by decide +kernel),DP (a:="made_in") (b:="made") (by decide +kernel)]
theorem YF:(bf gp m mi lt ou).lookup ("latest":Str)=some (V.ref lt):=by
 simp[bf,List.lookup_cons,DP (a:="latest") (b:="ground") (by decide +kernel),DP (a:="latest") (b:="made") (by decide +kernel),DP (a:="latest") (b:="made_in") (by decide +kernel)]
theorem MH:(bf gp m mi lt ou).lookup ("outs":Str)=some (V.ref ou):=by
 simp[bf,List.lookup_cons,DP (a:="outs") (b:="ground") (by decide +kernel),DP (a:="outs") (b:="made") (by decide +kernel),DP (a:="outs") (b:="made_in") (by decide +kernel),DP (a:="outs") (b:="latest") (by decide +kernel)]
theorem C1{x:Str}(h:(HJ x "ground" || HJ x "made" || HJ x "made_in" || HJ x "latest" || HJ x "outs")=false):(bf gp m mi lt ou).lookup x=none:=by
 simp only[Bool.or_eq_false_iff]at h
 obtain⟨⟨⟨⟨h1,h2⟩,h3⟩,h4⟩,h5⟩:=h
 simp[bf,List.lookup_cons,DP h1,DP h2,DP h3,DP h4,DP h5]
theorem tE:A6 "outs" (.ref ou) (A6 "latest" (.ref lt) (A6 "made_in" (.ref mi) (A6 "made" (.ref m) (A6 "ground" (.ref gp) []))))=bf gp m mi lt ou:=by
 repeat (first | rw[OP] | rw[OO (by decide +kernel)])
 rfl
end
structure YG(K:W.Frag)(C D:Addr):Prop where
 cl:Cls K C
 nG:NoAttr K C "ground"
 nM:NoAttr K C "made"
 nI:NoAttr K C "made_in"
 nL:NoAttr K C "latest"
 nO:NoAttr K C "outs"
 cc:Cls K D
 nP:NoAttr K D "place"
 nV:NoAttr K D "value"
 nN:NoAttr K D "needs"
def ChAt(D:Addr)(H:Hp)(x:Addr)(c:Ch):Prop:=∃ dx pl nt,H x=some (.ins D dx (EJ pl c.val nt))/\H pl=some (.tup [.int c.blk,.int c.cell])/\H nt=some (.tup (c.nd.map V.int))
structure BA where
 b:Addr
 gp:Addr
 m:Addr
 mi:Addr
 lt:Addr
 ou:Addr
 ls:List Addr
 cl:Addr
def BA.F(A:BA)(x:Addr):Prop:=x=A.m\/x=A.mi\/x∈A.ls\/x=A.lt\/x=A.ou\/x=A.cl
def KeysOk(kvo:List (AR × V))(n:Nat):Prop:=(kvo.map (·.1)).Nodup/\∀ p∈kvo,∃ x:Nat,p.1=Sum.inl (x:Int)/\x<n
theorem KeysOk.mono{kvo:List (AR × V)}{n m:Nat}(h:KeysOk kvo n)(hm:n<=m):KeysOk kvo m:=⟨h.1,λp hp=>by obtain⟨x,e,hx⟩:=h.2 p hp;exact⟨x,e,by omega⟩⟩
theorem KeysOk.len{kvo:List (AR × V)}{n:Nat}(h:KeysOk kvo n):kvo.length<=n:=by
 have:=List.Nodup.length_le_of_subset (l₂:=(List.range n).map λ(k:Nat)=>(Sum.inl (k:Int):AR)) h.1 λk hk=>by
  obtain⟨p,hp,rfl⟩:=List.mem_map.mp hk
  obtain⟨x,e,hx⟩:=h.2 p hp
  rw[e]
  exact List.mem_map.mpr ⟨x,List.mem_range.mpr hx,rfl⟩
 simpa using this
theorem KeysOk.put{kvo:List (AR × V)}{n:Nat}(h:KeysOk kvo n){k:Nat}(hk:k<n)(hn:AW kvo (.inl (k:Int))=none)(v:V):KeysOk (A5 kvo (.inl (k:Int)) v) n:=by
 refine⟨kY v h.1 hn,λp hp=> ?_⟩
 rw[WL v hn]at hp
 rcases List.mem_append.mp hp with hp | hp
 ·exact h.2 p hp
 ·rw[List.mem_singleton.mp hp];exact⟨k,rfl,hk⟩
structure BookIn(C D:Addr)(H:Hp)(A:BA)(w:Nat)(cs:List Ch)(outs:Int->Bool):Prop where
 ob:∃ dx,H A.b=some (.ins C dx (bf A.gp A.m A.mi A.lt A.ou))
 made:∃ chs:List Addr,H A.m=some (.lst (chs.map V.ref))/\Paired (ChAt D H) chs cs
 mil:H A.mi=some (.lst (A.ls.map V.ref))
 mic:∀ (i:Nat) l,A.ls[i]? =some l->H l=some (.lst ((A9 cs i).map λ(k:Nat)=>V.int k))
 nd:A.ls.Nodup
 lat:∃ kvs,H A.lt=some (.dT kvs)/\(∀ i j:Int,AW kvs [.inl i,.inl j]=(DG cs i j).map λ(k:Nat)=>V.int k)/\kvs.length<=cs.length
 out:∃ kvo,H A.ou=some (.dK kvo)/\(∀ k:Int,(AW kvo (.inl k)).isSome=outs k)/\KeysOk kvo cs.length
 sz:cs.length<=990
 inn:∀ c∈cs,c.blk<A.ls.length/\c.cell<w
 need:∀ (k:Nat) c,cs[k]? =some c->(∀ x∈c.nd,0<=x/\x<k)/\c.nd.Pairwise (· <·)/\c.nd.length<=100
 ap:A.m≠A.mi/\A.m∉A.ls/\A.mi∉A.ls/\A.cl≠A.m/\A.cl≠A.mi/\A.cl∉A.ls
 chn:∀ (k:Nat) c,cs[k]? =some c->∀ j,DG (cs.take k) c.blk c.cell=some j->(j:Int)∈c.nd
structure BookAt(a:Ad)(C:Addr)(H:Hp)(A:BA)(w:Nat)(rows:List (List V))(n:Nat)(cs:List Ch)(outs:Int->Bool):Prop where
 bk:BookIn C (a "Change") H A w cs outs
 pk:PlankAt a H A.gp A.cl w rows n
 nb:A.ls.length=rows.length
def F2(o:Option HO):Prop:=(∀ xs,o≠some (.tup xs))/\∀ C dx fs,o≠some (.ins C dx fs)
theorem ChAt.sb{D:Addr}{G:Addr->Prop}{H H':Hp}(s:SameBut G H H')(g:∀ x,G x->F2 (H x)){x:Addr}{c:Ch}(h:ChAt D H x c):ChAt D H' x c:=by
 obtain⟨dx,pl,nt,e1,e2,e3⟩:=h
 exact⟨dx,pl,nt,s _ _ e1 λz=>(g _ z).2 _ _ _ e1,s _ _ e2 λz=>(g _ z).1 _ e2,s _ _ e3 λz=>(g _ z).1 _ e3⟩
theorem BookIn.sb{C D:Addr}{G:Addr->Prop}{H H':Hp}{A:BA}{w:Nat}{cs:List Ch}{outs:Int->Bool}(B:BookIn C D H A w cs outs)(s:SameBut G H H')(g:∀ x,G x->F2 (H x))(f:∀ x,G x->¬ A.F x):BookIn C D H' A w cs outs:=by
 obtain⟨⟨dx,e1⟩,⟨chs,e2,e3⟩,e4,e5,e6,⟨kvs,e7,e8⟩,⟨kvo,e9,e10⟩,r1,r2,r3,r4,r5⟩:=B
 refine⟨⟨dx,s _ _ e1 λz=>(g _ z).2 _ _ _ e1⟩,⟨chs,s _ _ e2 λz=>f _ z (.inl rfl),Paired.mapP e3 λx c h=>h.sb s g⟩,s _ _ e4 λz=>f _ z (.inr (.inl rfl)),λi l h=>s _ _ (e5 i l h) λz=>f _ z (.inr (.inr (.inl (List.mem_of_getElem? h)))),e6,
  ⟨kvs,s _ _ e7 λz=>f _ z (.inr (.inr (.inr (.inl rfl)))),e8⟩,⟨kvo,s _ _ e9 λz=>f _ z (.inr (.inr (.inr (.inr (.inl rfl))))),e10⟩,r1,r2,r3,r4,r5⟩
theorem PlankAt.sbL{a:Ad}{G:Addr->Prop}{H H':Hp}{p cl:Addr}{w:Nat}{rows:List (List V)}{n:Nat}(P:PlankAt a H p cl w rows n)(s:SameBut G H H')(g:∀ x,G x->F2 (H x))(h:¬ G cl):PlankAt a H' p cl w rows n:=by
 obtain⟨⟨dx,e1⟩,⟨ts,e2,e3⟩,r1,r2,r3⟩:=P
 exact⟨⟨dx,s _ _ e1 λz=>(g _ z).2 _ _ _ e1⟩,⟨ts,s _ _ e2 h,Paired.mapP e3 λt r q=>s _ _ q λz=>(g _ z).1 _ q⟩,r1,r2,r3⟩
theorem BookAt.sb{a:Ad}{C:Addr}{G:Addr->Prop}{H H':Hp}{A:BA}{w:Nat}{rows:List (List V)}{n:Nat}{cs:List Ch}{outs:Int->Bool}(B:BookAt a C H A w rows n cs outs)(s:SameBut G H H')(g:∀ x,G x->F2 (H x))(f:∀ x,G x->¬ A.F x):BookAt a C H' A w rows n cs outs :=
 ⟨B.bk.sb s g f,B.pk.sbL s g λz=>f _ z (.inr (.inr (.inr (.inr (.inr rfl))))),B.nb⟩
theorem BookAt.same{a:Ad}{C:Addr}{H H':Hp}{A:BA}{w:Nat}{rows:List (List V)}{n:Nat}{cs:List Ch}{outs:Int->Bool}(B:BookAt a C H A w rows n cs outs)(s:Same H H'):BookAt a C H' A w rows n cs outs :=
 B.sb (G:=λ_=>False) (Same.sb s) (λ_ z=>z.elim) λ_ z=>z.elim
theorem BookAt.off{a:Ad}{C:Addr}{H:Hp}{A:BA}{w:Nat}{rows:List (List V)}{n:Nat}{cs:List Ch}{outs:Int->Bool}(B:BookAt a C H A w rows n cs outs){x:Addr}(h:H x=none):¬ A.F x:=by
 obtain⟨⟨_,⟨chs,e2,_⟩,e4,e5,_,⟨kvs,e7,_⟩,⟨kvo,e9,_⟩,_⟩,⟨_,⟨ts,e11,_⟩,_⟩,_⟩:=B
 rintro (z | z | z | z | z | z)
 ·rw[z,e2]at h;cases h
 ·rw[z,e4]at h;cases h
 ·obtain⟨i,hi,e⟩:=List.getElem_of_mem z
  have:=e5 i x (by rw[<-e];exact List.getElem?_eq_getElem hi)
  rw[this]at h;cases h
 ·rw[z,e7]at h;cases h
 ·rw[z,e9]at h;cases h
 ·rw[z,e11]at h;cases h
theorem F3{α :Type}{l:List α}{x: α}(h:x∈l):∃ i:Nat,l[i]? =some x:=by
 obtain⟨i,hi,e⟩:=List.getElem_of_mem h
 exact⟨i,by rw[<-e];exact List.getElem?_eq_getElem hi⟩
theorem F4{H:Hp}{x:Addr}{xs:List V}(h:H x=some (.lst xs)):F2 (H x):=by
 rw[h];exact⟨λ_ z=>(by cases z),λ_ _ _ z=>(by cases z)⟩
theorem OQ{H:Hp}{x:Addr}{xs:List (AR × V)}(h:H x=some (.dK xs)):F2 (H x):=by
 rw[h];exact⟨λ_ z=>(by cases z),λ_ _ _ z=>(by cases z)⟩
theorem RY{H:Hp}{x:Addr}{xs:List (List AR × V)}(h:H x=some (.dT xs)):F2 (H x):=by
 rw[h];exact⟨λ_ z=>(by cases z),λ_ _ _ z=>(by cases z)⟩
theorem BookAt.loose{a:Ad}{C:Addr}{H:Hp}{A:BA}{w:Nat}{rows:List (List V)}{n:Nat}{cs:List Ch}{outs:Int->Bool}(B:BookAt a C H A w rows n cs outs){x:Addr}(h:A.F x):F2 (H x):=by
 obtain⟨⟨_,⟨chs,e2,_⟩,e4,e5,_,⟨kvs,e7,_⟩,⟨kvo,e9,_⟩,_⟩,⟨_,⟨ts,e11,_⟩,_⟩,_⟩:=B
 rcases h with z | z | z | z | z | z
 ·exact F4 (z ▸ e2)
 ·exact F4 (z ▸ e4)
 ·obtain⟨i,e⟩:=F3 z
  exact F4 (e5 i x e)
 ·exact RY (z ▸ e7)
 ·exact OQ (z ▸ e9)
 ·exact F4 (z ▸ e11)
structure Mm(cs:List Ch)(outs:Int->Bool)(ns:List Int)(R:Int->Bool):Prop where
 all:∀ x∈ns,R x=true
 up:∀ (k:Nat) (c:Ch),cs[k]? =some c->outs k=false->R k=true->∀ y∈c.nd,R y=true
 only:∀ x,R x=true->x∈ns\/∃ (k:Nat) (c:Ch),cs[k]? =some c/\outs k=false/\R k=true/\x∈c.nd
end L2
namespace L2
def EK(nd:List Int)(there:Int->Bool):Option Int:=nd.find? λx=> !there x
structure Pass where
 out:List Nat
 held:List (Nat × Int)
 gone:Int->Bool
def CB(cs:List Ch)(outs:Int->Bool)(s:Pass)(k:Nat):Pass :=
 if outs k || s.gone k then s else
  match (cs[k]?).bind λc=>EK c.nd λx=>outs x || s.gone x with
  | none=>⟨s.out++[k],s.held,λx=>s.gone x || x ==(k:Int)⟩
  | some l=>⟨s.out,s.held++[(k,l)],s.gone⟩
def outcome(cs:List Ch)(outs taken:Int->Bool)(b:Nat):Pass:=(A9 cs b).foldl (CB cs outs) ⟨[],[],taken⟩
def D4(cs:List Ch)(outs:Int->Bool)(r:List V)(k:Nat):List V :=
 if outs k then match cs[k]? with
  | some c=>r.set c.cell c.val
  | none=>r
 else r
def D5(cs:List Ch)(outs:Int->Bool)(b:Nat)(row:List V):List V:=(A9 cs b).foldl (D4 cs outs) row
def CJ(cs:List Ch)(outs:Int->Bool)(b:Nat):Int->Bool:=λx=>outs x || (outcome cs outs (λ_=>false) b).out.any λ(k:Nat)=>x ==(k:Int)
theorem tF{cs:List Ch}{outs:Int->Bool}(r:List V)(k:Nat):(D4 cs outs r k).length=r.length:=by
 unfold D4
 split
 ·split
  ·rw[List.length_set]
  ·rfl
 ·rfl
theorem RZ{cs:List Ch}{outs:Int->Bool}:∀ (l:List Nat) (r:List V),(l.foldl (D4 cs outs) r).length=r.length
 | [],r=>rfl
 | k::l,r=>by rw[List.foldl_cons,RZ l,tF]
theorem YH{cs:List Ch}{outs:Int->Bool}{b:Nat}{row:List V}:(D5 cs outs b row).length=row.length:=RZ _ _
theorem YI{cs:List Ch}{outs:Int->Bool}:∀ (l:List Nat) (s:Pass),(l.foldl (CB cs outs) s).out.length+(l.foldl (CB cs outs) s).held.length<=s.out.length+s.held.length+l.length
 | [],s=>by simp
 | k::l,s=>by
  rw[List.foldl_cons]
  have h:=YI (cs:=cs) (outs:=outs) l (CB cs outs s k)
  have h2:(CB cs outs s k).out.length+(CB cs outs s k).held.length<=s.out.length+s.held.length+1:=by
   unfold CB
   split
   ·omega
   ·split<;>simp<;>omega
  simp only[List.length_cons]
  omega
theorem R0{α β :Type}(f: β -> α -> β)(b: β){l:List α}{i:Nat}{x: α}(h:l[i]? =some x):(l.take (i+1)).foldl f b=f ((l.take i).foldl f b) x:=by
 obtain⟨hi,e⟩:=List.getElem?_eq_some_iff.mp h
 rw[<-e,<-List.take_append_getElem hi,List.foldl_append]
 rfl
theorem YJ(b:Nat):∀ l:List Ch,FI l b=(List.range l.length).filter λ(k:Nat)=>(l.reverse[k]?).any λc=>c.blk == b
 | []=>rfl
 | c::r=>by
  have ih:=YJ b r
  have e:(List.range r.length).filter (λ(k:Nat)=>((c::r).reverse[k]?).any λc=>c.blk == b)=FI r b:=by
   rw[ih]
   refine List.filter_congr λk hk=> ?_
   rw[List.reverse_cons,List.getElem?_append_left (by rw[List.length_reverse];exact List.mem_range.mp hk)]
  have e2:(c::r).reverse[r.length]? =some c:=by
   rw[List.reverse_cons,List.getElem?_append_right (by rw[List.length_reverse];exact Nat.le_refl _)]
   simp
  rw[List.length_cons,List.range_succ,List.filter_append,e]
  show(if c.blk=b then FI r b++[r.length]else FI r b)=_
  by_cases h:c.blk=b
  ·rw[if_pos h]
   simp[e2,h]
  ·rw[if_neg h]
   simp[e2,h]
theorem JW(cs:List Ch)(b:Nat):A9 cs b=(List.range cs.length).filter λ(k:Nat)=>(cs[k]?).any λc=>c.blk == b:=by
 have:=YJ b cs.reverse
 rw[List.reverse_reverse,List.length_reverse]at this
 exact this
theorem MI(cs:List Ch)(b:Nat):(A9 cs b).Pairwise (· <·):=by
 rw[JW]
 exact List.pairwise_lt_range.filter _
theorem IJ{cs:List Ch}{b k:Nat}:k∈A9 cs b↔∃ c,cs[k]? =some c/\c.blk=b:=by
 rw[JW,List.mem_filter,List.mem_range]
 constructor
 ·rintro ⟨h,h2⟩
  rw[List.getElem?_eq_getElem h]at h2 ⊢
  exact⟨_,rfl,by simpa using h2⟩
 ·rintro ⟨c,e,rfl⟩
  exact⟨(List.getElem?_eq_some_iff.mp e).1,by rw[e];simp⟩
theorem YK{cs:List Ch}{outs:Int->Bool}(s:Pass)(k:Nat):CB cs outs s k=s\/(outs k=false/\CB cs outs s k=⟨s.out++[k],s.held,λx=>s.gone x || x ==(k:Int)⟩)\/∃ l,CB cs outs s k=⟨s.out,s.held++[(k,l)],s.gone⟩:=by
 unfold CB
 split
 ·exact .inl rfl
 ·rename_i hc
  simp only[Bool.or_eq_true,not_or,Bool.not_eq_true]at hc
  split
  ·exact .inr (.inl ⟨hc.1,rfl⟩)
  ·exact .inr (.inr ⟨_,rfl⟩)
theorem YL{cs:List Ch}{outs:Int->Bool}:∀ (l:List Nat) (s:Pass),∃ l',(l.foldl (CB cs outs) s).out=s.out++l'/\l'.Sublist l/\(∀ k∈l',outs k=false)/\∀ x,(l.foldl (CB cs outs) s).gone x=(s.gone x || l'.any λ(k:Nat)=>x ==(k:Int))
 | [],s=>⟨[],by simp,.slnil,by simp,by simp⟩
 | k::l,s=>by
  rw[List.foldl_cons]
  obtain⟨l',h1,h2,h3,h4⟩:=YL (cs:=cs) (outs:=outs) l (CB cs outs s k)
  rcases YK (cs:=cs) (outs:=outs) s k with e | ⟨ho,e⟩ | ⟨l0,e⟩
  ·rw[e]at h1 h4 ⊢
   exact⟨l',h1,h2.cons _,h3,h4⟩
  ·rw[e]at h1 h4 ⊢
   refine⟨k::l',by rw[h1];simp,h2.cons_cons _,λx hx=> ?_,λx=> ?_⟩
   ·rcases List.mem_cons.mp hx with rfl | hx
    ·exact ho
    ·exact h3 x hx
   ·rw[h4,List.any_cons,Bool.or_assoc]
  ·rw[e]at h1 h4 ⊢
   exact⟨l',h1,h2.cons _,h3,h4⟩
theorem IK{cs:List Ch}{outs:Int->Bool}{b:Nat}:(outcome cs outs (λ_=>false) b).out.Pairwise (· <·)/\(∀ k∈(outcome cs outs (λ_=>false) b).out,outs k=false/\k∈A9 cs b)/\∀ x,(outcome cs outs (λ_=>false) b).gone x=(outcome cs outs (λ_=>false) b).out.any λ(k:Nat)=>x ==(k:Int):=by
 obtain⟨l',h1,h2,h3,h4⟩:=YL (cs:=cs) (outs:=outs) (A9 cs b) ⟨[],[],λ_=>false⟩
 have e:(outcome cs outs (λ_=>false) b).out=l':=by unfold outcome;rw[h1];rfl
 rw[e]
 exact⟨(MI cs b).sublist h2,λk hk=>⟨h3 k hk,h2.subset hk⟩,λx=>by unfold outcome;rw[h4];simp⟩
def ToldAt(H:Hp)(t ol hl:Addr)(out:List Nat)(held:List (Nat × Int)):Prop:=H t=some (.tup [.ref ol,.ref hl])/\H ol=some (.lst (out.map λ(k:Nat)=>V.int k))/\∃ hs:List Addr,H hl=some (.lst (hs.map V.ref))/\Paired (λx (p:Nat × Int)=>H x=some (.tup [.int p.1,.int p.2])) hs held
theorem ToldAt.same{H H':Hp}{t ol hl:Addr}{out:List Nat}{held:List (Nat × Int)}(h:ToldAt H t ol hl out held)(s:Same H H'):ToldAt H' t ol hl out held:=by
 obtain⟨h1,h2,hs,h3,h4⟩:=h
 exact⟨s _ _ h1,s _ _ h2,hs,s _ _ h3,Paired.mapP h4 λx p e=>s _ _ e⟩
def G4(cs:List Ch)(r:List V)(k:Nat):List V:=match cs[k]? with
 | some c=>r.set c.cell c.val
 | none=>r
def FJ(cs:List Ch)(ks:List Nat)(row:List V):List V:=ks.foldl (G4 cs) row
theorem OR(cs:List Ch)(O:Int->Bool)(b:Nat)(row:List V):D5 cs O b row=FJ cs ((A9 cs b).filter λ(k:Nat)=>O k) row:=by
 unfold D5 FJ
 rw[List.foldl_filter]
 rfl
def DY(cs:List Ch):List Nat->Nat->Option Ch
 | [],_=>none
 | k::r,j=>match DY cs r j with
  | some c=>some c
  | none=>(cs[k]?).filter λc=>c.cell == j
theorem R1(cs:List Ch)(k:Nat)(r:List Nat)(j:Nat):DY cs (k::r) j=match DY cs r j with
  | some c=>some c
  | none=>(cs[k]?).filter λc=>c.cell == j:=rfl
theorem JX(cs:List Ch)(j:Nat):∀ (ks:List Nat) (row:List V),(FJ cs ks row)[j]? =(row[j]?).map λv=>((DY cs ks j).map (·.val)).getD v
 | [],row=>by
  show row[j]? =_
  cases row[j]? <;>rfl
 | k::r,row=>by
  show(FJ cs r (G4 cs row k))[j]? =_
  rw[JX cs j r,R1]
  cases h:DY cs r j with
  | some c =>
   unfold G4
   cases e:cs[k]? with
   | none=>rfl
   | some c0 =>
    dsimp only
    rw[List.getElem?_set]
    by_cases hj:c0.cell=j
    ·subst hj
     rw[if_pos rfl]
     by_cases hl:c0.cell<row.length
     ·rw[if_pos hl,List.getElem?_eq_getElem hl];rfl
     ·rw[if_neg hl,List.getElem?_eq_none (by omega)]
    ·rw[if_neg hj]
  | none =>
   unfold G4
   cases e:cs[k]? with
   | none=>rfl
   | some c0 =>
    dsimp only
    rw[List.getElem?_set]
    by_cases hj:c0.cell=j
    ·subst hj
     rw[if_pos rfl]
     by_cases hl:c0.cell<row.length
     ·rw[if_pos hl,List.getElem?_eq_getElem hl];simp[Option.filter]
     ·rw[if_neg hl,List.getElem?_eq_none (by omega)];rfl
    ·rw[if_neg hj]
     have:(Option.filter (λ(c:Ch)=>c.cell == j) (some c0))=none:=by simp[Option.filter,hj]
     rw[this]
theorem GK{cs:List Ch}{j:Nat}{c:Ch}:∀ {ks:List Nat},DY cs ks j=some c->∃ k∈ks,cs[k]? =some c/\c.cell=j/\(ks.Pairwise (· <·)->∀ k'∈ks,k<k'->∀ c',cs[k']? =some c'->c'.cell≠j)
 | [],h=>by cases h
 | k::r,h=>by
  rw[R1]at h
  cases e:DY cs r j with
  | some c1 =>
   rw[e]at h
   cases h
   obtain⟨k1,h1,h2,h3,h4⟩:=GK e
   refine⟨k1,List.mem_cons_of_mem _ h1,h2,h3,λhp k' hk' hlt c' ec=> ?_⟩
   obtain⟨p1,p2⟩:=List.pairwise_cons.mp hp
   rcases List.mem_cons.mp hk' with rfl | hk'
   ·have:=p1 k1 h1;omega
   ·exact h4 p2 k' hk' hlt c' ec
  | none =>
   rw[e]at h
   dsimp only at h
   cases ec:cs[k]? with
   | none=>rw[ec]at h;cases h
   | some c0 =>
    rw[ec]at h
    have hc:c0.cell=j/\c0=c:=by
     simp only[Option.filter]at h
     split at h
     ·rename_i hh;cases h;exact⟨by simpa using hh,rfl⟩
     ·cases h
    obtain⟨hc,rfl⟩:=hc
    refine⟨k,List.mem_cons_self ..,ec,hc,λhp k' hk' hlt c' ec'=> ?_⟩
    rcases List.mem_cons.mp hk' with rfl | hk'
    ·omega
    ·exact lastAt_no e k' hk' c' ec'
where
 lastAt_no {cs:List Ch} {j:Nat}:∀ {ks:List Nat},DY cs ks j=none->∀ k∈ks,∀ c,cs[k]? =some c->c.cell≠j
  | [],_,k,hk=>by cases hk
  | k0::r,h,k,hk=>λc ec hj=>by
   rw[R1]at h
   cases e:DY cs r j with
   | some c1=>rw[e]at h;cases h
   | none =>
    rw[e]at h
    rcases List.mem_cons.mp hk with rfl | hk
    ·rw[ec]at h
     simp[Option.filter,hj]at h
    ·exact lastAt_no e k hk c ec hj
theorem YM{i j:Int}:∀ {l:List Ch} {k:Nat} {c:Ch},l.reverse[k]? =some c->(c.blk:Int)=i->(c.cell:Int)=j->∃ j0 c0,G3 l i j=some j0/\k<=j0/\l.reverse[j0]? =some c0/\(c0.blk:Int)=i/\(c0.cell:Int)=j
 | [],k,c,h,_,_=>by simp at h
 | c1::r,k,c,h,h1,h2=>by
  have hk:=(List.getElem?_eq_some_iff.mp h).1
  rw[List.length_reverse,List.length_cons]at hk
  unfold G3
  by_cases hp:(c1.blk:Int)=i/\(c1.cell:Int)=j
  ·rw[if_pos hp]
   refine⟨r.length,c1,rfl,by omega,?_,hp⟩
   rw[List.reverse_cons,List.getElem?_append_right (by rw[List.length_reverse];exact Nat.le_refl _)]
   simp
  ·rw[if_neg hp]
   have hlt:k<r.length:=by
    rcases Nat.lt_or_ge k r.length with z | z
    ·exact z
    ·exfalso
     have:k=r.length:=by omega
     subst this
     rw[List.reverse_cons,List.getElem?_append_right (by rw[List.length_reverse];exact Nat.le_refl _)]at h
     simp at h
     subst h
     exact hp ⟨h1,h2⟩
   rw[List.reverse_cons,List.getElem?_append_left (by rw[List.length_reverse];exact hlt)]at h
   obtain⟨j0,c0,e1,e2,e3,e4⟩:=YM h h1 h2
   refine⟨j0,c0,e1,e2,?_,e4⟩
   have:=ON e1
   rw[List.reverse_cons,List.getElem?_append_left (by rw[List.length_reverse];exact this)]
   exact e3
theorem tG{cs:List Ch}{k:Nat}{c:Ch}(h:cs[k]? =some c):∃ j0 c0,DG cs c.blk c.cell=some j0/\k<=j0/\cs[j0]? =some c0/\c0.blk=c.blk/\c0.cell=c.cell:=by
 obtain⟨j0,c0,e1,e2,e3,e4,e5⟩:=YM (l:=cs.reverse) (i:=c.blk) (j:=c.cell) (by rw[List.reverse_reverse];exact h) rfl rfl
 rw[List.reverse_reverse]at e3
 exact⟨j0,c0,e1,e2,e3,by omega,by omega⟩
def HK(cs:List Ch)(outs:Int->Bool):Prop:=∀ (k:Nat) (c:Ch),cs[k]? =some c->outs k=true->∀ y∈c.nd,outs y=true
def YN(cs:List Ch):Prop:=∀ (k:Nat) (c:Ch),cs[k]? =some c->∀ j,DG (cs.take k) c.blk c.cell=some j->(j:Int)∈c.nd
theorem YO{cs:List Ch}{outs:Int->Bool}(cut:HK cs outs)(chn:YN cs):∀ (d k k':Nat) (c c':Ch),k'<=d->k<k'->cs[k]? =some c->cs[k']? =some c'->c.blk=c'.blk->c.cell=c'.cell->outs k'=true->outs k=true
 | 0,k,k',c,c',hd,hlt,_,_,_,_,_=>by omega
 | d+1,k,k',c,c',hd,hlt,ec,ec',hb,hc,ho=>by
  have et:(cs.take k')[k]? =some c:=by rw[List.getElem?_take,if_pos hlt];exact ec
  obtain⟨j0,c0,e1,e2,e3,e4,e5⟩:=tG et
  have hj:j0<k':=by
   have:=(List.getElem?_eq_some_iff.mp e3).1
   rw[List.length_take]at this
   omega
  rw[hb,hc]at e1
  have hin:=cut k' c' ec' ho _ (chn k' c' ec' j0 e1)
  by_cases z:j0=k
  ·rw[<-z];exact hin
  ·have e3':cs[j0]? =some c0:=by rw[List.getElem?_take,if_pos hj]at e3;exact e3
   exact YO cut chn d k j0 c c0 (by omega) (by omega) ec e3' e4.symm e5.symm hin
theorem tH{cs:List Ch}{outs:Int->Bool}(s:Pass)(k:Nat)(h:(CB cs outs s k).out=s.out++[k]):∀ c,cs[k]? =some c->∀ y∈c.nd,(outs y || s.gone y)=true:=λc ec y hy=>by
 unfold CB at h
 split at h
 ·exact absurd h (by intro z;have:=congrArg List.length z;simp at this)
 ·rw[ec]at h
  simp only[Option.bind_some]at h
  split at h
  ·rename_i hn
   have:=List.find?_eq_none.mp hn y hy
   cases e:(outs y || s.gone y)with
   | true=>rfl
   | false =>
    have this:¬ (!(outs y || s.gone y))=true:=this
    rw[e]at this
    exact absurd rfl this
  ·exact absurd h (by intro z;have:=congrArg List.length z;simp at this)
theorem YQ{cs:List Ch}{outs:Int->Bool}:∀ (l:List Nat) (s:Pass),(∀ k∈s.out,∀ c,cs[k]? =some c->∀ y∈c.nd,(outs y || s.gone y)=true)->∀ k∈(l.foldl (CB cs outs) s).out,∀ c,cs[k]? =some c->∀ y∈c.nd,(outs y || (l.foldl (CB cs outs) s).gone y)=true
 | [],s,h=>h
 | k::l,s,h=>by
  rw[List.foldl_cons]
  refine YQ l _ ?_
  rcases YK (cs:=cs) (outs:=outs) s k with e | ⟨ho,e⟩ | ⟨l0,e⟩
  ·rw[e];exact h
  ·have hl:=tH (cs:=cs) (outs:=outs) s k (by rw[e])
   rw[e]
   intro k' hk' c ec y hy
   rcases List.mem_append.mp hk' with hk' | hk'
   ·have:=h k' hk' c ec y hy
    rw[<-Bool.or_assoc,this,Bool.true_or]
   ·rw[List.mem_singleton.mp hk']at ec
    have:=hl c ec y hy
    rw[<-Bool.or_assoc,this,Bool.true_or]
  ·rw[e];exact h
theorem YR{cs:List Ch}{outs:Int->Bool}(cut:HK cs outs)(b:Nat):HK cs (CJ cs outs b):=λk c ec ho y hy=>by
 obtain⟨_,_,hg⟩:=IK (cs:=cs) (outs:=outs) (b:=b)
 unfold CJ at ho ⊢
 rw[Bool.or_eq_true]at ho
 rcases ho with ho | ho
 ·rw[cut k c ec ho y hy,Bool.true_or]
 ·obtain⟨k',hk',e⟩:=List.any_eq_true.mp ho
  have e:(k:Int)=k':=by simpa using e
  have e:k=k':=by omega
  subst e
  have:=YQ (cs:=cs) (outs:=outs) (A9 cs b) ⟨[],[],λ_=>false⟩ (by simp) k hk' c ec y hy
  rw[<-hg y]
  exact this
theorem R4{cs:List Ch}{outs:Int->Bool}{b k:Nat}:CJ cs outs b k=true↔outs k=true\/k∈(outcome cs outs (λ_=>false) b).out:=by
 unfold CJ
 rw[Bool.or_eq_true,List.any_eq_true]
 constructor
 ·rintro (h | ⟨k',hk',e⟩)
  ·exact .inl h
  ·have e:(k:Int)=k':=by simpa using e
   have e:k=k':=by omega
   exact .inr (e ▸ hk')
 ·rintro (h | h)
  ·exact .inl h
  ·exact .inr ⟨k,h,by simp⟩
def MJ(cs:List Ch)(outs:Int->Bool)(rows:List (List V)):Prop:=∀ (b:Nat) (row:List V),rows[b]? =some row->D5 cs outs b row=row
theorem tI {cs:List Ch} {outs:Int->Bool} {b:Nat} {row:List V} (cut:HK cs outs) (chn:YN cs) (sh:D5 cs outs b row=row):D5 cs (CJ cs outs b) b row=FJ cs (outcome cs outs (λ_=>false) b).out row:=by
  obtain⟨r1,r2,_⟩:=IK (cs:=cs) (outs:=outs) (b:=b)
  rw[OR]at sh ⊢
  refine List.ext_getElem? λj=> ?_
  have shj:=congrArg (·[j]?) sh
  simp only[JX]at shj
  rw[JX,JX]
  have rl:=(MI cs b)
  have mW:∀ k,k∈((A9 cs b).filter λ(k:Nat)=>CJ cs outs b k)↔k∈A9 cs b/\(outs k=true\/k∈(outcome cs outs (λ_=>false) b).out):=λk=>by rw[List.mem_filter,R4]
  have mO:∀ k,k∈((A9 cs b).filter λ(k:Nat)=>outs k)↔k∈A9 cs b/\outs k=true:=λk=>List.mem_filter
  cases eo:DY cs (outcome cs outs (λ_=>false) b).out j with
  | some c =>
    obtain⟨k,hk,ec,hj,mx⟩:=GK eo
    cases ew:DY cs ((A9 cs b).filter λ(k:Nat)=>CJ cs outs b k) j with
    | none=>exact absurd hj (GK.lastAt_no ew k ((mW k).mpr ⟨(r2 k hk).2,.inr hk⟩) c ec)
    | some c' =>
      obtain⟨k',hk',ec',hj',mx'⟩:=GK ew
      have hle:k<=k':=by
        rcases Nat.lt_or_ge k' k with z | z
        ·exact absurd hj (mx' (rl.filter _) k ((mW k).mpr ⟨(r2 k hk).2,.inr hk⟩) z c ec)
        ·exact z
      have:k'=k:=by
        rcases((mW k').mp hk').2 with ho | ho
        · exfalso
          have hne:k≠k':=λz=>by rw[z]at hk;rw[(r2 _ hk).1]at ho;cases ho
          obtain⟨c1,e1,b1⟩:=IJ.mp (r2 k hk).2
          obtain⟨c2,e2,b2⟩:=IJ.mp ((mW k').mp hk').1
          rw[ec]at e1;cases e1
          rw[ec']at e2;cases e2
          have:=YO cut chn k' k k' c c' (Nat.le_refl _) (by omega) ec ec' (by rw[b1,b2]) (by rw[hj,hj']) ho
          rw[(r2 k hk).1]at this
          cases this
        · rcases Nat.lt_or_ge k k' with z | z
          ·exact absurd hj' (mx r1 k' ho z c' ec')
          ·omega
      subst this
      rw[ec]at ec'
      cases ec'
      rfl
  | none =>
    have hno:=GK.lastAt_no eo
    have eq:DY cs ((A9 cs b).filter λ(k:Nat)=>CJ cs outs b k) j=DY cs ((A9 cs b).filter λ(k:Nat)=>outs k) j:=by
      cases ew:DY cs ((A9 cs b).filter λ(k:Nat)=>CJ cs outs b k) j with
      | none =>
        cases ez:DY cs ((A9 cs b).filter λ(k:Nat)=>outs k) j with
        | none=>rfl
        | some c =>
          obtain⟨k,hk,ec,hj,_⟩:=GK ez
          exact absurd hj (GK.lastAt_no ew k ((mW k).mpr ⟨((mO k).mp hk).1,.inl ((mO k).mp hk).2⟩) c ec)
      | some c' =>
        obtain⟨k',hk',ec',hj',mx'⟩:=GK ew
        have ho:outs k'=true:=by
          rcases((mW k').mp hk').2 with ho | ho
          ·exact ho
          ·exact absurd hj' (hno k' ho c' ec')
        cases ez:DY cs ((A9 cs b).filter λ(k:Nat)=>outs k) j with
        | none=>exact absurd hj' (GK.lastAt_no ez k' ((mO k').mpr ⟨((mW k').mp hk').1,ho⟩) c' ec')
        | some c =>
          obtain⟨k,hk,ec,hj,mx⟩:=GK ez
          have:k=k':=by
            rcases Nat.lt_trichotomy k k' with z | z | z
            ·exact absurd hj' (mx (rl.filter _) k' ((mO k').mpr ⟨((mW k').mp hk').1,ho⟩) z c' ec')
            ·exact z
            ·exact absurd hj (mx' (rl.filter _) k ((mW k).mpr ⟨((mO k).mp hk).1,.inl ((mO k).mp hk).2⟩) z c ec)
          subst this
          rw[ec]at ec'
          cases ec'
          rfl
    rw[eq,shj]
    cases row[j]? <;>rfl
theorem tJ{cs:List Ch}{outs:Int->Bool}{b:Nat}{row:List V}{rows:List (List V)}(er:rows[b]? =some row)(sh:MJ cs outs rows):MJ cs (CJ cs outs b) (rows.set b (D5 cs (CJ cs outs b) b row)):=λb' row' e=>by
 obtain⟨_,r2,_⟩:=IK (cs:=cs) (outs:=outs) (b:=b)
 have hb:=(List.getElem?_eq_some_iff.mp er).1
 rw[List.getElem?_set]at e
 by_cases z:b=b'
 ·subst z
  rw[if_pos rfl,if_pos hb]at e
  cases e
  rw[OR,OR]
  refine List.ext_getElem? λj=> ?_
  rw[JX,JX,Option.map_map]
  cases row[j]? with
  | none=>rfl
  | some v =>
   cases DY cs ((A9 cs b).filter λ(k:Nat)=>CJ cs outs b k) j<;>rfl
 ·rw[if_neg z]at e
  have h:=sh b' row' e
  rw[OR]at h ⊢
  rw[<-h]
  have:((A9 cs b').filter λ(k:Nat)=>CJ cs outs b k)=(A9 cs b').filter λ(k:Nat)=>outs k:=by
   refine List.filter_congr λk hk=> ?_
   rw[Bool.eq_iff_iff,R4]
   refine⟨λy=>y.elim id λy=> ?_,.inl⟩
   obtain⟨c1,e1,b1⟩:=IJ.mp hk
   obtain⟨c2,e2,b2⟩:=IJ.mp (r2 k y).2
   rw[e1]at e2;cases e2
   exact absurd (b2.symm.trans b1) z
  rw[this,h,h]
theorem YS{cs:List Ch}{v:V}:∀ {ks:List Nat} {row:List V},v∈FJ cs ks row->v∈row\/∃ c∈cs,v=c.val
 | [],row,h=>.inl h
 | k::r,row,h=>by
  rcases YS (ks:=r) (row:=G4 cs row k) h with h | h
  ·unfold G4 at h
   cases e:cs[k]? with
   | none=>rw[e]at h;exact .inl h
   | some c =>
    rw[e]at h
    rcases List.mem_or_eq_of_mem_set h with h | h
    ·exact .inl h
    ·exact .inr ⟨c,List.mem_of_getElem? e,h⟩
  ·exact .inr h
end L2
namespace L2
theorem YT{i j:Int}:∀ {l:List Ch} {k:Nat},G3 l i j=some k->∃ c,l.reverse[k]? =some c/\(c.blk:Int)=i/\(c.cell:Int)=j
 | [],k,h=>by cases h
 | c1::r,k,h=>by
  unfold G3 at h
  by_cases hp:(c1.blk:Int)=i/\(c1.cell:Int)=j
  ·rw[if_pos hp]at h
   cases h
   refine⟨c1,?_,hp⟩
   rw[List.reverse_cons,List.getElem?_append_right (by rw[List.length_reverse];exact Nat.le_refl _)]
   simp
  ·rw[if_neg hp]at h
   obtain⟨c,e,h2⟩:=YT h
   refine⟨c,?_,h2⟩
   have:=ON h
   rw[List.reverse_cons,List.getElem?_append_left (by rw[List.length_reverse];exact this)]
   exact e
theorem YU{cs:List Ch}{i j:Int}{k:Nat}(h:DG cs i j=some k):∃ c,cs[k]? =some c/\(c.blk:Int)=i/\(c.cell:Int)=j:=by
 obtain⟨c,e,h2⟩:=YT (l:=cs.reverse) h
 rw[List.reverse_reverse]at e
 exact⟨c,e,h2⟩
theorem tK{cs:List Ch}{outs:Int->Bool}{c:Ch}(cut:HK cs outs)(ho:outs cs.length=false):HK (cs++[c]) outs:=λk c' e h y hy=>by
 rcases Nat.lt_or_ge k cs.length with z | z
 ·rw[List.getElem?_append_left z]at e
  exact cut k c' e h y hy
 ·have:=(List.getElem?_eq_some_iff.mp e).1
  rw[List.length_append,List.length_singleton]at this
  have:k=cs.length:=by omega
  rw[this,ho]at h
  cases h
theorem YV{cs cs':List Ch}{outs:Int->Bool}:∀ (l:List Nat) (r:List V),(∀ k∈l,cs[k]? =cs'[k]?)->l.foldl (D4 cs outs) r=l.foldl (D4 cs' outs) r
 | [],_,_=>rfl
 | k::l,r,h=>by
  rw[List.foldl_cons,List.foldl_cons]
  have e:D4 cs outs r k=D4 cs' outs r k:=by
   unfold D4
   rw[h k (List.mem_cons_self ..)]
  rw[e]
  exact YV l _ λk' hk=>h k' (List.mem_cons_of_mem _ hk)
theorem tM{cs:List Ch}{outs:Int->Bool}{c:Ch}{rows:List (List V)}(sh:MJ cs outs rows)(ho:outs cs.length=false):MJ (cs++[c]) outs rows:=λb row e=>by
 have h:=sh b row e
 unfold D5 at h ⊢
 have h':List.foldl (D4 (cs++[c]) outs) row (A9 cs b)=row:=by
  rw[YV (cs':=cs) (A9 cs b) row λk hk=>by
   obtain⟨c',e',_⟩:=IJ.mp hk
   rw[List.getElem?_append_left (List.getElem?_eq_some_iff.mp e').1]]
  exact h
 rw[YA]
 split
 ·rw[List.foldl_append,h',List.foldl_cons,List.foldl_nil]
  unfold D4
  rw[ho]
  rfl
 ·exact h'
end L2
namespace L2
abbrev DZ(a:Ad):Addr:=a "Hold"
def CQ(c p m:Int):Int:=((c+p / 3) % p) * ((c+p / 3) % p) % p * ((c+p / 3) % p) % p % m
def IL(ns:List Int)(k:Nat):Int:=ns.getD k 0
def CD(K:W.Frag)(a:Ad):Sp:=λvs H Q _=>∃ c p m:Int,vs=[.int c,.int p,.int m]/\0<p/\p<=20000/\0<m/\Q (.int (CQ c p m)) H
theorem DQ{K:W.Frag}{a:Ad}{c p m:Int}{H:Hp}{Q:VK}{E:XK}:CD K a [.int c,.int p,.int m] H Q E=(0<p/\p<=20000/\0<m/\Q (.int (CQ c p m)) H):=by simp[CD,and_assoc]
theorem D0{c p m:Int}(h:0<m):0<=CQ c p m:=Int.emod_nonneg _ (by omega)
theorem EW{c p m:Int}(h:0<m):CQ c p m<m:=Int.emod_lt_of_pos _ h
def IM(K:W.Frag)(a:Ad):Sp:=λvs H Q _=>∃ (s:Addr) (ns:List Int) (k:Nat),vs=[.ref s,.int k]/\SqL K H s (ns.map V.int)/\ns.length<=1000/\Q (.int (IL ns k)) H
theorem tN{K:W.Frag}{a:Ad}{s:Addr}{k:Int}{H:Hp}{Q:VK}{E:XK}:IM K a [.ref s,.int k] H Q E=∃ (ns:List Int) (n:Nat),k=n/\SqL K H s (ns.map V.int)/\ns.length<=1000/\Q (.int (IL ns n)) H:=by simp[IM,and_assoc]
abbrev TB(K:W.Frag)(a:Ad):Prop:=YG K (DZ a) (a "Change")
abbrev CS(a:Ad)(H:Hp)(A:BA)(w:Nat)(rows:List (List V))(n:Nat)(cs:List Ch)(outs:Int->Bool):Prop:=BookAt a (DZ a) H A w rows n cs outs
def JY:Option Nat->V
 | none=>.non
 | some k=>.int k
def DR(n:Nat)(outs:Int->Bool):List Nat:=(List.range n).filter λ(k:Nat)=> !outs k
def FL(l:List Nat):List V:=l.map λ(k:Nat)=>V.int k
abbrev F5(rows:List (List V))(w:Nat)(i j:Int):Prop:=0<=i/\i<rows.length/\0<=j/\j<w
def MK(K:W.Frag)(a:Ad):Sp:=λvs H Q _=>∃ x dx pl v nt,vs=[.ref x,.ref pl,v,.ref nt]/\TB K a/\H x=some (.ins (a "Change") dx [])/\Q .non (upd H x (.ins (a "Change") dx (EJ pl v nt)))
def JZ(K:W.Frag)(a:Ad):Sp:=λvs H Q _=>∃ (b gp cl dx:Addr) (w:Nat) (rows:List (List V)) (n:Nat),vs=[.ref b,.ref gp]/\TB K a/\DO K a/\PlankAt a H gp cl w rows n/\H b=some (.ins (DZ a) dx []) ∧
 ∀ (m mi lt ou:Addr) (ls:List Addr) (H':Hp),H m=none->H mi=none->H lt=none->H ou=none->(∀ l∈ls,H l=none)->CS a H' ⟨b,gp,m,mi,lt,ou,ls,cl⟩ w rows n [] (λ_=>false)->SameBut (· =b) H H'->Q .non H'
def ML(K:W.Frag)(a:Ad):Sp:=λvs H Q _=>∃ (nl:Addr) (ns:List Int) (o:Option Nat),vs=[.ref nl,JY o]/\SqL K H nl (ns.map V.int)/\ns.length<=60 ∧
 ∀ (t:Addr) (ks:List Int) (H':Hp),Same H H'->H' t=some (.tup (ks.map V.int))->ks.Pairwise (· <·)->(∀ x,x∈ks↔x∈ns\/∃ k:Nat,o=some k/\x=k)->ks.length<=ns.length+1->Q (.ref t) H'
def MM(K:W.Frag)(a:Ad):Sp:=λvs H Q E=>∃ (A:BA) (w:Nat) (rows:List (List V)) (n:Nat) (cs:List Ch) (outs:Int->Bool) (pl:Addr) (i j:Int),vs=[.ref A.b,.ref pl]/\TB K a/\DO K a/\CS a H A w rows n cs outs/\H pl=some (.tup [.int i,.int j]) ∧
 (F5 rows w i j->Q .non H)/\(¬ F5 rows w i j->E (.ref (a "NoBlock")) none H)
def G5(K:W.Frag)(a:Ad):Sp:=λvs H Q E=>∃ (A:BA) (w:Nat) (rows:List (List V)) (n:Nat) (cs:List Ch) (outs:Int->Bool) (pl:Addr) (i j:Int),vs=[.ref A.b,.ref pl]/\TB K a/\DO K a/\CS a H A w rows n cs outs/\H pl=some (.tup [.int i,.int j]) ∧
 (F5 rows w i j->Q (JY (DG cs i j)) H)/\(¬ F5 rows w i j->E (.ref (a "NoBlock")) none H)
abbrev known(cs:List Ch)(x:Int):Prop:=0<=x/\x<cs.length
def G6(K:W.Frag)(a:Ad):Sp:=λvs H Q E=>∃ (A:BA) (w:Nat) (rows:List (List V)) (n:Nat) (cs:List Ch) (outs:Int->Bool) (nl:Addr) (ns:List Int),vs=[.ref A.b,.ref nl]/\TB K a/\CS a H A w rows n cs outs/\SqL K H nl (ns.map V.int) ∧
 ((∀ x∈ns,known cs x)->Q .non H)/\((∃ x∈ns,¬ known cs x)->E (.ref (a "NoChange")) none H)
def MN(K:W.Frag)(a:Ad):Sp:=λvs H Q E=>∃ (A:BA) (w:Nat) (rows:List (List V)) (n:Nat) (cs:List Ch) (outs:Int->Bool) (pl nl:Addr) (v:V) (ns:List Int) (i j:Int),vs=[.ref A.b,.ref pl,v,.ref nl]/\TB K a/\DO K a/\CS a H A w rows n cs outs/\H pl=some (.tup [.int i,.int j])/\SqL K H nl (ns.map V.int)/\ns.length<=60/\cs.length<990 ∧
 (F5 rows w i j->(∀ x∈ns,known cs x)->∀ (nd:List Int) (H':Hp),nd.Pairwise (· <·)->(∀ x,x∈nd↔x∈ns\/∃ k:Nat,DG cs i j=some k/\x=k)->CS a H' A w rows n (cs++[⟨i.toNat,j.toNat,v,nd⟩]) outs->SameBut A.F H H'->Q (.int cs.length) H') ∧
 (¬ F5 rows w i j->E (.ref (a "NoBlock")) none H)/\(F5 rows w i j->(∃ x∈ns,¬ known cs x)->E (.ref (a "NoChange")) none H)
def F6(K:W.Frag)(a:Ad):Sp:=λvs H Q _=>∃ (A:BA) (w:Nat) (rows:List (List V)) (n:Nat) (cs:List Ch) (outs:Int->Bool),vs=[.ref A.b]/\TB K a/\CS a H A w rows n cs outs ∧
 ∀ (l:Addr) (H':Hp),H l=none->Same H H'->H' l=some (.lst (FL (DR cs.length outs)))->Q (.ref l) H'
def MO(K:W.Frag)(a:Ad):Sp:=λvs H Q E=>∃ (A:BA) (w:Nat) (rows:List (List V)) (n:Nat) (cs:List Ch) (outs:Int->Bool) (nl:Addr) (ns:List Int),vs=[.ref A.b,.ref nl]/\TB K a/\CS a H A w rows n cs outs/\SqL K H nl (ns.map V.int)/\ns.length<=1000 ∧
  ((∀ x∈ns,known cs x)->∀ (l:Addr) (H':Hp) (R:Int->Bool),(∀ x∈ns,R x=true)->(∀ (k:Nat) (c:Ch),cs[k]? =some c->outs k=false->R k=true->∀ y∈c.nd,R y=true)->(∀ x,R x=true->x∈ns\/∃ (k:Nat) (c:Ch),cs[k]? =some c/\outs k=false/\R k=true/\x∈c.nd) →
    H l=none->Same H H'->H' l=some (.lst (FL ((DR cs.length outs).filter λ(k:Nat)=>R k)))->Q (.ref l) H') ∧
  ((∃ x∈ns,¬ known cs x)->E (.ref (a "NoChange")) none H)
def R5:Option Int->V
 | none=>.non
 | some k=>.int k
abbrev CN(kvs:List (AR × V))(x:Int):Bool:=(AW kvs (.inl x)).isSome
def MP(K:W.Frag)(a:Ad):Sp:=λvs H Q _=>∃ (A:BA) (w:Nat) (rows:List (List V)) (n:Nat) (cs:List Ch) (outs:Int->Bool) (k:Nat) (c:Ch) (g:Addr) (kvg:List (AR × V)),vs=[.ref A.b,.int k,.ref g]/\TB K a/\CS a H A w rows n cs outs/\cs[k]? =some c/\H g=some (.dK kvg) ∧
 Q (R5 (EK c.nd λx=>outs x || CN kvg x)) H
def MQ(K:W.Frag)(a:Ad):Sp:=λvs H Q _=>∃ (A:BA) (w:Nat) (rows:List (List V)) (n:Nat) (cs:List Ch) (outs:Int->Bool) (b:Nat) (tk:Addr) (kvt:List (AR × V)),vs=[.ref A.b,.int b,.ref tk]/\TB K a/\CS a H A w rows n cs outs/\b<rows.length/\H tk=some (.dK kvt)/\kvt.length<=1000 ∧
 ∀ (t ol hl:Addr) (H':Hp),H ol=none->H hl=none->ol≠hl->Same H H'->ToldAt H' t ol hl (outcome cs outs (CN kvt) b).out (outcome cs outs (CN kvt) b).held->Q (.ref t) H'
def MR(K:W.Frag)(a:Ad):Sp:=λvs H Q _=>∃ (A:BA) (w:Nat) (rows:List (List V)) (n:Nat) (cs:List Ch) (outs:Int->Bool) (b:Nat) (vl:Addr) (row:List V),vs=[.ref A.b,.ref vl,.int b]/\TB K a/\CS a H A w rows n cs outs/\b<rows.length/\H vl=some (.lst row)/\row.length=w ∧
 ∀ (l:Addr) (H':Hp),H l=none->Same H H'->H' l=some (.lst (D5 cs outs b row))->Q (.ref l) H'
def IN(K:W.Frag)(a:Ad):Sp:=λvs H Q E=>∃ (A:BA) (w:Nat) (rows:List (List V)) (n:Nat) (cs:List Ch) (outs:Int->Bool) (b:Int),vs=[.ref A.b,.int b]/\TB K a/\DO K a/\CS a H A w rows n cs outs ∧
 (∀ (b':Nat) (row:List V) (t ol hl:Addr) (H':Hp),b=b'->rows[b']? =some row->H ol=none->H hl=none->ol≠hl->ToldAt H' t ol hl (outcome cs outs (λ_=>false) b').out (outcome cs outs (λ_=>false) b').held →
  CS a H' A w (rows.set b' (D5 cs (CJ cs outs b') b' row)) (n+1) cs (CJ cs outs b')->SameBut (λx=>A.F x\/x=A.gp) H H'->Q (.ref t) H') ∧
 (b<0\/rows.length<=b->E (.ref (a "NoBlock")) none H)
def OS(cs:List Ch)(rows:List (List V))(i j:Int):Option V:=match DG cs i j with
 | some k=>(cs[k]?).map (·.val)
 | none=>(rows[i.toNat]?).bind λr=>r[j.toNat]?
def IP(K:W.Frag)(a:Ad):Sp:=λvs H Q E=>∃ (A:BA) (w:Nat) (rows:List (List V)) (n:Nat) (cs:List Ch) (outs:Int->Bool) (pl:Addr) (i j:Int),vs=[.ref A.b,.ref pl]/\TB K a/\DO K a/\CS a H A w rows n cs outs/\H pl=some (.tup [.int i,.int j]) ∧
 (F5 rows w i j->∀ (v:V) (H':Hp),OS cs rows i j=some v->Same H H'->Q v H')/\(¬ F5 rows w i j->E (.ref (a "NoBlock")) none H)
def IQ(K:W.Frag)(a:Ad):Sp:=λvs H Q E=>∃ (A:BA) (w:Nat) (rows:List (List V)) (n:Nat) (cs:List Ch) (outs:Int->Bool) (x:Int),vs=[.ref A.b,.int x]/\TB K a/\CS a H A w rows n cs outs ∧
 (∀ (k:Nat) (c:Ch) (l:Addr) (H':Hp),x=k->cs[k]? =some c->H l=none->Same H H'->H' l=some (.lst (c.nd.map V.int))->Q (.ref l) H')/\(¬ known cs x->∀ H',Same H H'->E (.ref (a "NoChange")) none H')
def GoodV:Nat->Hp->V->Prop
 | 0,_,_=>False
 | _+1,_,.int _=>True
 | _+1,_,.non=>True
 | _+1,_,.str z=>PyData.strOk z=true
 | n+1,H,.ref p=>∃ xs,H p=some (.tup xs)/\xs.length<=100/\∀ v∈xs,GoodV n H v
 | _,_,_=>False
def good7(H:Hp)(rows:List (List V)):Prop:=∀ r∈rows,∀ v∈r,GoodV 7 H v
structure TX(K:W.Frag)(a:Ad):Prop where
 ec:MB K (a "NoBlock")
 hit:W.exmOne K (.ref (a "NoBlock")) (.ref (a "HoldError"))=some true
 i1:W.kitOne K (.ref (a "NoBlock")) (.ref (a "NoBlock"))=some true
 iv:W.kitOne K (.ref (a "NoBlock")) (.type "ValueError")=some true
 no:W.kitAny K (.ref (a "NoBlock")) [.ref (a "NoChange"),.ref (a "NoRoom")]=some false
 ty:∀ {H:Hp} {p dx:Addr} {fs:List (Str × V)},H p=some (.ins (a "Hold") dx fs)->ER K H (.ref p) (.ref (a "Hold"))
 hb:W.kitOne K (.ref (a "Hold")) (.ref (a "Book"))=some true
abbrev GL(K:W.Frag)(a:Ad):Prop:=TB K a/\DO K a/\TX K a
def EX(K:W.Frag)(a:Ad):Sp:=λvs H Q _=>∃ c:Int,vs=[.int c]/\Q (.bl true) H
theorem MS{K:W.Frag}{a:Ad}{c:Int}{H:Hp}{Q:VK}{E:XK}:EX K a [.int c] H Q E=Q (.bl true) H:=by simp[EX]
def IR(K:W.Frag)(a:Ad):Sp:=λvs H Q _=>∃ c:Int,vs=[.int c]/\∀ v H',Same H H'->GoodV 7 H' v->Q v H'
def DS(K:W.Frag)(a:Ad)(n:Nat):Sp:=λvs H Q _=>∃ x y,vs=[x,y]/\((x=y/\GoodV n H x)\/∃ p q xs m,n=m+1/\x=.ref p/\y=.ref q/\H p=some (.tup xs)/\H q=some (.tup xs)/\xs.length<=2000/\∀ v∈xs,GoodV m H v) ∧
 ∀ H',Same H H'->Q (.bl true) H'
def MT(K:W.Frag)(a:Ad):Sp:=λvs H Q _=>∃ (c:Int) (z:Addr) (m w:Nat),vs=[.int c,.ref z]/\H z=some (.tup [.int m,.int w])/\1<=m/\1<=w/\∀ (t:Addr) (i j:Int) (H':Hp),Same H H'->H' t=some (.tup [.int i,.int j])->0<=i->i<m->0<=j->j<w->Q (.ref t) H'
def OwnCh(F:Addr->Prop)(H:Hp)(t:Addr)(c:Ch):Prop:=∃ (pl nl:Addr) (ns:List Int),H t=some (.tup [.ref pl,c.val,.ref nl])/\H pl=some (.tup [.int c.blk,.int c.cell])/\H nl=some (.lst (ns.map V.int))/\¬ F nl/\(∀ x,x∈ns↔x∈c.nd)/\ns.length<=10
def MU(F:Addr->Prop)(H:Hp)(L:Addr)(cs:List Ch):Prop:=∃ tl:List Addr,H L=some (.lst (tl.map V.ref))/\Paired (OwnCh F H) tl cs
def YW(H:Hp)(la:Addr)(cs:List Ch):Prop:=∃ kvs,H la=some (.dT kvs)/\(∀ i j:Int,AW kvs [.inl i,.inl j]=(DG cs i j).map λ(k:Nat)=>V.int k)/\kvs.length<=cs.length/\∀ p∈kvs,∃ i j:Int,p.1=[.inl i,.inl j]
def J0(H:Hp)(go:Addr)(S:Int->Bool)(m:Nat):Prop:=∃ kvs:List (AR × V),H go=some (.dK kvs)/\(∀ x:Int,CN kvs x=S x)/\kvs.length<=m
def RowsL(H:Hp)(R:Addr)(ra:List Addr)(rows:List (List V)):Prop:=H R=some (.lst (ra.map V.ref))/\Paired (λl r=>H l=some (.lst r)) ra rows/\ra.Nodup/\R∉ra
abbrev BA.W(A:BA)(x:Addr):Prop:=A.F x\/x=A.gp
structure WS where
 A:BA
 st:Addr
 L:Addr
 la:Addr
 go:Addr
 R:Addr
 he:Addr
 to:Addr
 ra:List Addr
def WS.B(S:WS)(x:Addr):Prop:=S.A.W x\/x=S.st\/x=S.L\/x=S.la\/x=S.go\/x=S.R\/x=S.he\/x=S.to\/x∈S.ra
structure WS.Ap(S:WS):Prop where
 w:¬ S.A.W S.st/\¬ S.A.W S.L/\¬ S.A.W S.la/\¬ S.A.W S.go/\¬ S.A.W S.R/\¬ S.A.W S.he/\¬ S.A.W S.to/\∀ x∈S.ra,¬ S.A.W x
 k:S.st≠S.go
 l:S.L≠S.R/\S.L≠S.he/\S.L≠S.to/\S.R≠S.he/\S.R≠S.to/\S.he≠S.to
 r:∀ x∈S.ra,x≠S.L/\x≠S.he/\x≠S.to
def YX(H:Hp)(S:WS)(mn:Nat):Prop:=∃ kvs:List (AR × V),H S.st=some (.dK kvs)/\kvs.length<=10+mn/\AW kvs (.inr "changes")=some (.ref S.L)/\AW kvs (.inr "last")=some (.ref S.la)/\AW kvs (.inr "gone")=some (.ref S.go)/\AW kvs (.inr "rows")=some (.ref S.R)/\AW kvs (.inr "many")=some (.int mn)/\AW kvs (.inr "held")=some (.ref S.he)/\AW kvs (.inr "told")=some (.ref S.to)
def Two(F:Addr->Prop)(H:Hp)(t:Addr):Prop:=∃ (l l':Addr) (xs:List Int),H t=some (.tup [.ref l,.ref l'])/\H l=some (.lst (xs.map V.int))/\H l'=some (.lst (xs.map V.int))/\¬ F l/\¬ F l'
def Four(F:Addr->Prop)(H:Hp)(t:Addr):Prop:=∃ (l l' m m':Addr) (xs:List Int) (hs:List Addr) (ps:List (Nat × Int)),H t=some (.tup [.ref l,.ref l',.ref m,.ref m'])/\H l=some (.lst (xs.map V.int))/\H l'=some (.lst (xs.map V.int))/\H m=some (.lst (hs.map V.ref))/\H m'=some (.lst (hs.map V.ref))/\Paired (λx (p:Nat × Int)=>H x=some (.tup [.int p.1,.int p.2])) hs ps/\¬ F l/\¬ F l'/\¬ F m/\¬ F m'
def TupsL(P:Addr->Prop)(H:Hp)(l:Addr)(m:Nat):Prop:=∃ ts:List Addr,H l=some (.lst (ts.map V.ref))/\ts.length<=m/\∀ t∈ts,P t
structure W22(a:Ad)(H:Hp)(S:WS)(w:Nat)(rows:List (List V))(n mn:Nat)(cs:List Ch)(outs:Int->Bool)(i j:Nat):Prop where
 bk:CS a H S.A w rows n cs outs
 sd:YX H S mn
 ow:MU S.B H S.L cs
 la:YW H S.la cs
 go:J0 H S.go outs (100 * i)
 rw:RowsL H S.R S.ra rows
 he:TupsL (Four S.B H) H S.he i
 to:TupsL (Two S.B H) H S.to j
 ct:HK cs outs
 sh:MJ cs outs rows
 gr:good7 H rows
 gc:∀ c∈cs,GoodV 7 H c.val
 ap:S.Ap
 sz:1<=rows.length/\rows.length<=40/\1<=w/\w<=6/\cs.length<=i/\n<=3+i/\mn<=3+i/\i<=63/\j<=3 * i
def MV(K:W.Frag)(a:Ad):Sp:=λvs H Q _=>∃ (c:Int) (pl L la:Addr) (i j:Int) (tl:List Addr) (cs:List Ch) (F:Addr->Prop),vs=[.int c,.ref pl,.ref L,.ref la]/\H pl=some (.tup [.int i,.int j])/\H L=some (.lst (tl.map V.ref))/\Paired (OwnCh F H) tl cs/\YW H la cs/\(∀ c∈cs,GoodV 7 H c.val)/\cs.length<=100 ∧
 ∀ (nl:Addr) (ns:List Int) (H':Hp),H nl=none->Same H H'->H' nl=some (.lst (ns.map V.int))->(∀ x∈ns,known cs x)->ns.length<=4->Q (.ref nl) H'
def MW(K:W.Frag)(a:Ad):Sp:=λvs H Q _=>∃ (S:WS) (w:Nat) (rows:List (List V)) (n mn:Nat) (cs:List Ch) (outs:Int->Bool) (i j:Nat) (c:Int) (z:Addr),vs=[.ref S.A.b,.int c,.ref z,.ref S.st]/\GL K a/\W22 a H S w rows n mn cs outs i j/\i<63/\H z=some (.tup [.int rows.length,.int w]) ∧
 ∀ (ch:Ch) (H':Hp),W22 a H' S w rows n mn (cs++[ch]) outs (i+1) j->SameBut S.B H H'->Q (.bl true) H'
def MX(K:W.Frag)(a:Ad):Sp:=λvs H Q _=>∃ (t ol hl L go:Addr) (cs:List Ch) (outs:Int->Bool) (b m:Nat) (F:Addr->Prop),vs=[.ref t,.ref L,.ref go,.int b]/\ToldAt H t ol hl (outcome cs outs (λ_=>false) b).out (outcome cs outs (λ_=>false) b).held/\MU F H L cs/\J0 H go outs m/\(∀ (k:Nat) c,cs[k]? =some c->∀ x∈c.nd,x<(k:Int))/\cs.length<64/\∀ H',Same H H'->Q (.bl true) H'
def MY(K:W.Frag)(a:Ad):Sp:=λvs H Q _=>∃ (t ol hl L go:Addr) (cs:List Ch) (outs:Int->Bool) (b m:Nat) (F:Addr->Prop),vs=[.ref t,.ref L,.ref go]/\ToldAt H t ol hl (outcome cs outs (λ_=>false) b).out (outcome cs outs (λ_=>false) b).held/\MU F H L cs/\J0 H go outs m/\m<=10000/\HK cs outs/\(∀ (k:Nat) c,cs[k]? =some c->(∀ x∈c.nd,0<=x/\x<k)/\c.nd.Pairwise (· <·))/\cs.length<64/\F go/\L≠go/\ol≠go/\hl≠go ∧
 ∀ H',J0 H' go (CJ cs outs b) (m+cs.length)->SameBut (· =go) H H'->Q (.bl true) H'
def MZ(K:W.Frag)(a:Ad):Sp:=λvs H Q _=>∃ (S:WS) (w:Nat) (rows:List (List V)) (n mn:Nat) (cs:List Ch) (outs:Int->Bool) (i j b:Nat),vs=[.ref S.A.b,.ref S.A.gp,.ref S.st,.int b]/\GL K a/\W22 a H S w rows n mn cs outs i j/\i<63/\b<rows.length ∧
 ∀ (rows':List (List V)) (outs':Int->Bool) (H':Hp),rows'.length=rows.length->W22 a H' S w rows' (n+1) mn cs outs' (i+1) j->SameBut S.B H H'->Q (.bl true) H'
def M0(K:W.Frag)(a:Ad):Sp:=λvs H Q _=>∃ (A:BA) (w:Nat) (rows:List (List V)) (n:Nat) (cs:List Ch) (outs:Int->Bool) (b:Int),vs=[.ref A.b,.int b]/\GL K a/\CS a H A w rows n cs outs/\(b<0\/rows.length<=b)/\∀ H',Same H H'->Q (.bl true) H'
def M3(K:W.Frag)(a:Ad):Sp:=λvs H Q _=>∃ (S:WS) (w:Nat) (rows:List (List V)) (n mn:Nat) (cs:List Ch) (outs:Int->Bool) (i j:Nat) (c:Int),vs=[.ref S.A.b,.ref S.st,.int c]/\GL K a/\CS a H S.A w rows n cs outs/\YX H S mn/\MU S.B H S.L cs/\J0 H S.go outs (100 * i)/\TupsL (Two S.B H) H S.to j/\S.Ap/\(∀ x,S.B x->H x≠none/\∀ xs,H x≠some (.tup xs))/\cs.length<=100/\mn<=100/\j<=300 ∧
 ∀ H',TupsL (Two S.B H') H' S.to (j+3)->SameBut (· =S.to) H H'->Q (.bl true) H'
def M4(K:W.Frag)(a:Ad):Sp:=λvs H Q _=>∃ (S:WS) (w:Nat) (rows:List (List V)) (n:Nat) (cs:List Ch) (outs:Int->Bool) (i j:Nat) (c:Int) (z:Addr),vs=[.ref S.A.b,.ref S.A.gp,.int c,.ref z,.ref S.st]/\GL K a/\W22 a H S w rows n n cs outs i j/\i<63/\H z=some (.tup [.int rows.length,.int w]) ∧
 ∀ (rows':List (List V)) (n':Nat) (cs':List Ch) (outs':Int->Bool) (H':Hp),rows'.length=rows.length->W22 a H' S w rows' n' n' cs' outs' (i+1) (j+3)->SameBut S.B H H'->Q (.bl true) H'
def M5(K:W.Frag)(a:Ad):Sp:=λvs H Q _=>∃ (S:WS) (w:Nat) (rows:List (List V)) (n:Nat) (cs:List Ch) (outs:Int->Bool) (i j:Nat),vs=[.ref S.A.b,.ref S.st]/\GL K a/\W22 a H S w rows n n cs outs i j/\∀ H',Q (.bl true) H'
def R6(K:W.Frag)(a:Ad):Sp:=λvs H Q _=>∃ (s:Addr) (ns:List Int),vs=[.ref s]/\GL K a/\SqL K H s (ns.map V.int)/\ns.length<=63/\∀ H',Q (.bl true) H'
end L2
namespace L2
abbrev FK:=W.Frag
abbrev XE:=St->XK
theorem AF{f g:TS}(h:f=g)(D:Ends)(σ:St)(H:Hp):f D σ H=g D σ H:=by rw[h]
section
variable{K:FK}{a:Ad}{n:Nat}{E E1:XE}{D:Ends}{σ:St}{H:Hp}
def YY(K:FK)(a:Ad)(E E1:XE):TS:=(EQ K (AA 0) (AA 1) "place")
theorem tO:type_of% (AF (YY.eq_1 K a E E1) D σ H):=rfl
def YZ(K:FK)(a:Ad)(E E1:XE):TS:=(EQ K (AA 0) (AA 2) "value")
theorem tP:type_of% (AF (YZ.eq_1 K a E E1) D σ H):=rfl
def Y0(K:FK)(a:Ad)(E E1:XE):TS:=(EQ K (AA 0) (AA 3) "needs")
theorem tQ:type_of% (AF (Y0.eq_1 K a E E1) D σ H):=rfl
def R7(K:FK)(a:Ad)(E:XE):TS:=(AK (YY K a E E) (AK (YZ K a E E) (Y0 K a E E)))
def Y1(K:FK)(a:Ad)(E E1:XE):TS:=(A0 (DL (D9 (AC (A4 (C7 K) (AC (BP K (AA 0) "made") AE)) AE)) (AS 0) (tB (EG (AA 0) (BP K (AA 1) "outs"))) (AA 0) 1 [0]))
theorem tR:type_of% (AF (Y1.eq_1 K a E E1) D σ H):=rfl
def R9(K:FK)(a:Ad)(E:XE):TS:=(Y1 K a E E)
def Y2(K:FK)(a:Ad)(E E1:XE):TS:=(JQ (a "NoChange") E (AC (tC (.str "there is no change of such a number")) AE))
theorem Y3:type_of% (AF (Y2.eq_1 K a E E1) D σ H):=rfl
def Y4(K:FK)(a:Ad)(E E1:XE):TS:=(BF (CU (BW (JJ HG GF (tC (.int 0)) (AA 2) (A4 (C7 K) (AC (BP K (AA 0) "made") AE))))) (Y2 K a E E) BL)
theorem Y5:type_of% (AF (Y4.eq_1 K a E E1) D σ H):=rfl
def Y6(K:FK)(a:Ad)(E E1:XE):TS:=(CL (C0 K (AA 1)) (AS 2) (Y4 K a E E))
theorem Y7:type_of% (AF (Y6.eq_1 K a E E1) D σ H):=rfl
def SA(K:FK)(a:Ad)(E:XE):TS:=(Y6 K a E E)
def Y8(K:FK)(a:Ad)(E E1:XE):TS:=(A0 (A4 (FF K) (AC (JU K (AA 0)) AE)))
theorem Y9:type_of% (AF (Y8.eq_1 K a E E1) D σ H):=rfl
def ZA(K:FK)(a:Ad)(E E1:XE):TS:=(BF (BW (AI IB (AA 1) (tC .non))) (Y8 K a E E) BL)
theorem ZB:type_of% (AF (ZA.eq_1 K a E E1) D σ H):=rfl
def ZC(K:FK)(a:Ad)(E E1:XE):TS:=(A0 (A4 (FF K) (AC (JU K (AI (C5 K) (A4 (ET K) (AC (AA 0) AE)) (C3 (AC (AA 1) AE)))) AE)))
theorem ZD:type_of% (AF (ZC.eq_1 K a E E1) D σ H):=rfl
def OT(K:FK)(a:Ad)(E:XE):TS:=(AK (ZA K a E E) (ZC K a E E))
def ZE(K:FK)(a:Ad)(E E1:XE):TS:=(A0 (AA 3))
theorem SC:type_of% (AF (ZE.eq_1 K a E E1) D σ H):=rfl
def ZF(K:FK)(a:Ad)(E E1:XE):TS:=(BF (JG (tB (EG (AA 3) (BP K (AA 0) "outs"))) (tB (EG (AA 3) (AA 2)))) (ZE K a E E) BL)
theorem SD:type_of% (AF (ZF.eq_1 K a E E1) D σ H):=rfl
def ZG(K:FK)(a:Ad)(E E1:XE):TS:=(CL (C0 K (BP K (AI (AV K) (BP K (AA 0) "made") (AA 1)) "needs")) (AS 3) (ZF K a E E))
theorem SE:type_of% (AF (ZG.eq_1 K a E E1) D σ H):=rfl
def ZH(K:FK)(a:Ad)(E E1:XE):TS:=(A0 (tC .non))
theorem SF:type_of% (AF (ZH.eq_1 K a E E1) D σ H):=rfl
def SG(K:FK)(a:Ad)(E:XE):TS:=(AK (ZG K a E E) (ZH K a E E))
def ZI(K:FK)(a:Ad)(E E1:XE):TS:=(A8 (A4 (ET K) (AC (AA 1) AE)) (AS 3))
theorem SH:type_of% (AF (ZI.eq_1 K a E E1) D σ H):=rfl
def ZJ(K:FK)(a:Ad)(E E1:XE):TS:=(A8 (BP K (AI (AV K) (BP K (AA 0) "made") (AA 4)) "value") (JH (AA 3) (AI (AV K) (BP K (AI (AV K) (BP K (AA 0) "made") (AA 4)) "place") (tC (.int 1))) MA))
theorem SI:type_of% (AF (ZJ.eq_1 K a E E1) D σ H):=rfl
def ZK(K:FK)(a:Ad)(E E1:XE):TS:=(BF (tB (HY (AA 4) (BP K (AA 0) "outs"))) (ZJ K a E E) BL)
theorem SJ:type_of% (AF (ZK.eq_1 K a E E1) D σ H):=rfl
def ZL(K:FK)(a:Ad)(E E1:XE):TS:=(CL (C0 K (AI (AV K) (BP K (AA 0) "made_in") (AA 2))) (AS 4) (ZK K a E E))
theorem SK:type_of% (AF (ZL.eq_1 K a E E1) D σ H):=rfl
def ZM(K:FK)(a:Ad)(E E1:XE):TS:=(A0 (AA 3))
theorem SL:type_of% (AF (ZM.eq_1 K a E E1) D σ H):=rfl
def SM(K:FK)(a:Ad)(E:XE):TS:=(AK (ZI K a E E) (AK (ZL K a E E) (ZM K a E E)))
def ZN(K:FK)(a:Ad)(E E1:XE):TS:=(EQ K (AA 0) (DL (D9 (AC (AA 1) AE)) (AS 0) GD (AI (ES K) (DK (AC (tC .non) AE)) (AA 1)) 1 [2]) "contents")
theorem tS:type_of% (AF (ZN.eq_1 K a E E1) D σ H):=rfl
def ZO(K:FK)(a:Ad)(E E1:XE):TS:=(EQ K (AA 0) (AA 2) "width")
theorem tT:type_of% (AF (ZO.eq_1 K a E E1) D σ H):=rfl
def ZP(K:FK)(a:Ad)(E E1:XE):TS:=(EQ K (AA 0) (tC (.int 0)) "written")
theorem tU:type_of% (AF (ZP.eq_1 K a E E1) D σ H):=rfl
def SN(K:FK)(a:Ad)(E:XE):TS:=(AK (ZN K a E E) (AK (ZO K a E E) (ZP K a E E)))
def ZQ(K:FK)(a:Ad)(E E1:XE):TS:=(A0 (A4 (C7 K) (AC (BP K (AA 0) "contents") AE)))
theorem tV:type_of% (AF (ZQ.eq_1 K a E E1) D σ H):=rfl
def SO(K:FK)(a:Ad)(E:XE):TS:=(ZQ K a E E)
def ZR(K:FK)(a:Ad)(E E1:XE):TS:=(A0 (BP K (AA 0) "width"))
theorem tW:type_of% (AF (ZR.eq_1 K a E E1) D σ H):=rfl
def SQ(K:FK)(a:Ad)(E:XE):TS:=(ZR K a E E)
def ZS(K:FK)(a:Ad)(E E1:XE):TS:=(A0 (BP K (AA 0) "written"))
theorem tX:type_of% (AF (ZS.eq_1 K a E E1) D σ H):=rfl
def SR(K:FK)(a:Ad)(E:XE):TS:=(ZS K a E E)
def ZT(K:FK)(a:Ad)(E E1:XE):TS:=(JQ (a "NoBlock") E (AC (tC (.str "there is no such block")) AE))
theorem tY:type_of% (AF (ZT.eq_1 K a E E1) D σ H):=rfl
def ZU(K:FK)(a:Ad)(E E1:XE):TS:=(BF (CU (BW (JJ HG GF (tC (.int 0)) (AA 1) (A4 (C7 K) (AC (BP K (AA 0) "contents") AE))))) (ZT K a E E) BL)
theorem tZ:type_of% (AF (ZU.eq_1 K a E E1) D σ H):=rfl
def SS(K:FK)(a:Ad)(E:XE):TS:=(ZU K a E E)
def ZV(K:FK)(a:Ad)(E E1:XE):TS:=(A0 (AI (AV K) (AA 0) (AA 1)))
theorem t0:type_of% (AF (ZV.eq_1 K a E E1) D σ H):=rfl
def ZW(K:FK)(a:Ad)(E E1:XE):TS:=(BF (BW (AI GF (AA 1) (A4 (C7 K) (AC (AA 0) AE)))) (ZV K a E E) BL)
theorem t4:type_of% (AF (ZW.eq_1 K a E E1) D σ H):=rfl
def ZX(K:FK)(a:Ad)(E E1:XE):TS:=(A0 (tC (.int 0)))
theorem t5:type_of% (AF (ZX.eq_1 K a E E1) D σ H):=rfl
def ST(K:FK)(a:Ad)(E:XE):TS:=(AK (ZW K a E E) (ZX K a E E))
def ZY(K:FK)(a:Ad)(E E1:XE):TS:=(A8 (AI FY (AI (C5 K) (AA 0) (AI W7 (AA 1) (tC (.int 3)))) (AA 1)) (AS 3))
theorem t6:type_of% (AF (ZY.eq_1 K a E E1) D σ H):=rfl
def ZZ(K:FK)(a:Ad)(E E1:XE):TS:=(A0 (AI FY (AI FY (AI (ES K) (AI FY (AI (ES K) (AA 3) (AA 3)) (AA 1)) (AA 3)) (AA 1)) (AA 2)))
theorem t7:type_of% (AF (ZZ.eq_1 K a E E1) D σ H):=rfl
def SU(K:FK)(a:Ad)(E:XE):TS:=(AK (ZY K a E E) (ZZ K a E E))
def Z0(K:FK)(a:Ad)(E E1:XE):TS:=(A0 (FO (A4 (DM K) (AC (AA 0) (AC (tC (.ty "int")) AE))) (N6 K (A4 (DM K) (AC (AA 0) (AC (tC (.ty "bool")) AE))))))
theorem t9:type_of% (AF (Z0.eq_1 K a E E1) D σ H):=rfl
def SV(K:FK)(a:Ad)(E:XE):TS:=(Z0 K a E E)
def Z1(K:FK)(a:Ad)(E E1:XE):TS:=(FW (AA 2) (AA 3) (tC (.bl true)))
theorem uA:type_of% (AF (Z1.eq_1 K a E E1) D σ H):=rfl
def Z2(K:FK)(a:Ad)(E E1:XE):TS:=(CL (C0 K (AI (AV K) (AA 0) (tC (.int 0)))) (AS 3) (Z1 K a E E))
theorem uB:type_of% (AF (Z2.eq_1 K a E E1) D σ H):=rfl
def uC(K:FK)(a:Ad)(E E1:XE):TS:=(A0 (tC (.bl false)))
def Z3(K:FK)(a:Ad)(E E1:XE):TS:=(BF (BW (AI (CP K) (DL (C0 K (AI (AV K) (AI (AV K) (AA 1) (AA 3)) (tC (.int 2)))) (AS 0) (tB (EG (AA 0) (AA 1))) (AA 0) 1 [2]) (C3 AE))) (uC K a E E) BL)
theorem uD:type_of% (AF (Z3.eq_1 K a E E1) D σ H):=rfl
def Z4(K:FK)(a:Ad)(E E1:XE):TS:=(CL (C0 K (AI (AV K) (AA 0) (tC (.int 0)))) (AS 3) (Z3 K a E E))
theorem uE:type_of% (AF (Z4.eq_1 K a E E1) D σ H):=rfl
def Z5(K:FK)(a:Ad)(E E1:XE):TS:=(A8 (DL (C0 K (AI (AV K) (AI (AV K) (AA 1) (AA 3)) (tC (.int 2)))) (AS 0) (tB (EG (AA 0) (AA 1))) (AA 0) 1 [2]) (AS 5))
theorem uF:type_of% (AF (Z5.eq_1 K a E E1) D σ H):=rfl
def uG(K:FK)(a:Ad)(E E1:XE):TS:=(A0 (tC (.bl false)))
def Z6(K:FK)(a:Ad)(E E1:XE):TS:=(BF (EN (BW (AI (CM K) (AA 5) (C3 AE))) (BW (AI (CP K) (A4 (RJ K) (AC (AA 5) AE)) (AA 4)))) (uG K a E E) BL)
theorem uH:type_of% (AF (Z6.eq_1 K a E E1) D σ H):=rfl
def Z7(K:FK)(a:Ad)(E E1:XE):TS:=(CL (C0 K (AI (AV K) (AA 0) (tC (.int 1)))) (HU K 2 (D8 (AS 3) (D8 (AS 4) HS))) (AK (Z5 K a E E) (Z6 K a E E)))
theorem uI:type_of% (AF (Z7.eq_1 K a E E1) D σ H):=rfl
def Z8(K:FK)(a:Ad)(E E1:XE):TS:=(A0 (tC (.bl true)))
theorem uJ:type_of% (AF (Z8.eq_1 K a E E1) D σ H):=rfl
def SW(K:FK)(a:Ad)(E:XE):TS:=(AK (Z2 K a E E) (AK (Z4 K a E E) (AK (Z7 K a E E) (Z8 K a E E))))
def Z9(K:FK)(a:Ad)(E E1:XE):TS:=(EQ K (AA 0) (AA 1) "ground")
theorem uK:type_of% (AF (Z9.eq_1 K a E E1) D σ H):=rfl
def aA(K:FK)(a:Ad)(E E1:XE):TS:=(EQ K (AA 0) (C3 AE) "made")
theorem uL:type_of% (AF (aA.eq_1 K a E E1) D σ H):=rfl
def aB(K:FK)(a:Ad)(E E1:XE):TS:=(EQ K (AA 0) (DL (D9 (AC (BO (a "Plank") "blocks" (IG K a) [] E (AA 1) AE) AE)) (AS 0) GD (C3 AE) 1 []) "made_in")
theorem uM:type_of% (AF (aB.eq_1 K a E E1) D σ H):=rfl
def aC(K:FK)(a:Ad)(E E1:XE):TS:=(EQ K (AA 0) NU "latest")
theorem uN:type_of% (AF (aC.eq_1 K a E E1) D σ H):=rfl
def aD(K:FK)(a:Ad)(E E1:XE):TS:=(EQ K (AA 0) JN "outs")
theorem uO:type_of% (AF (aD.eq_1 K a E E1) D σ H):=rfl
def SX(K:FK)(a:Ad)(E:XE):TS:=(AK (Z9 K a E E) (AK (aA K a E E) (AK (aB K a E E) (AK (aC K a E E) (aD K a E E)))))
def aE(K:FK)(a:Ad)(E E1:XE):TS:=(CV (BO (a "Hold") "ask_for_changes" (G6 K a) [] E (AA 0) (AC (C3 (AC (AA 1) AE)) AE)))
theorem uP:type_of% (AF (aE.eq_1 K a E E1) D σ H):=rfl
def aF(K:FK)(a:Ad)(E E1:XE):TS:=(A0 (A4 (ET K) (AC (BP K (AI (AV K) (BP K (AA 0) "made") (AA 1)) "needs") AE)))
theorem uQ:type_of% (AF (aF.eq_1 K a E E1) D σ H):=rfl
def SY(K:FK)(a:Ad)(E:XE):TS:=(AK (aE K a E E) (aF K a E E))
def aG(K:FK)(a:Ad)(E E1:XE):TS:=(CV (BO (a "Hold") "ask_for_changes" (G6 K a) [] E (AA 0) (AC (AA 1) AE)))
theorem J1:type_of% (AF (aG.eq_1 K a E E1) D σ H):=rfl
def aH(K:FK)(a:Ad)(E E1:XE):TS:=(A8 JN (AS 2))
theorem J2:type_of% (AF (aH.eq_1 K a E E1) D σ H):=rfl
def aI(K:FK)(a:Ad)(E E1:XE):TS:=(FW (AA 2) (AA 3) (tC (.bl true)))
theorem J3:type_of% (AF (aI.eq_1 K a E E1) D σ H):=rfl
def aJ(K:FK)(a:Ad)(E E1:XE):TS:=(CL (C0 K (AA 1)) (AS 3) (aI K a E E))
theorem J4:type_of% (AF (aJ.eq_1 K a E E1) D σ H):=rfl
def aK(K:FK)(a:Ad)(E E1:XE):TS:=(FW (AA 2) (AA 4) (tC (.bl true)))
theorem J5:type_of% (AF (aK.eq_1 K a E E1) D σ H):=rfl
def aL(K:FK)(a:Ad)(E E1:XE):TS:=(CL (C0 K (BP K (AI (AV K) (BP K (AA 0) "made") (AA 3)) "needs")) (AS 4) (aK K a E E))
theorem J6:type_of% (AF (aL.eq_1 K a E E1) D σ H):=rfl
def aM(K:FK)(a:Ad)(E E1:XE):TS:=(BF (tB (HY (AA 3) (AA 2))) (aL K a E E) BL)
theorem J7:type_of% (AF (aM.eq_1 K a E E1) D σ H):=rfl
def aN(K:FK)(a:Ad)(E E1:XE):TS:=(CL (RH K (AC (BO (a "Hold") "waiting" (F6 K a) [] E (AA 0) AE) AE)) (AS 3) (aM K a E E))
theorem J8:type_of% (AF (aN.eq_1 K a E E1) D σ H):=rfl
def aO(K:FK)(a:Ad)(E E1:XE):TS:=(A0 (DL (C0 K (BO (a "Hold") "waiting" (F6 K a) [] E (AA 0) AE)) (AS 0) (tB (HY (AA 0) (AA 1))) (AA 0) 1 [2]))
theorem J9:type_of% (AF (aO.eq_1 K a E E1) D σ H):=rfl
def SZ(K:FK)(a:Ad)(E:XE):TS:=(AK (aG K a E E) (AK (aH K a E E) (AK (aJ K a E E) (AK (aN K a E E) (aO K a E E)))))
def aP(K:FK)(a:Ad)(E E1:XE):TS:=(JQ (a "NoBlock") E (AC (tC (.str "there is no such place on the plank")) AE))
theorem uR:type_of% (AF (aP.eq_1 K a E E1) D σ H):=rfl
def aQ(K:FK)(a:Ad)(E E1:XE):TS:=(BF (EN (CU (BW (JJ HG GF (tC (.int 0)) (AI (AV K) (AA 1) (tC (.int 0))) (BO (a "Plank") "blocks" (IG K a) [] E (BP K (AA 0) "ground") AE)))) (CU (BW (JJ HG GF (tC (.int 0)) (AI (AV K) (AA 1) (tC (.int 1))) (BO (a "Plank") "cells" (MF K a) [] E (BP K (AA 0) "ground") AE))))) (aP K a E E) BL)
theorem uS:type_of% (AF (aQ.eq_1 K a E E1) D σ H):=rfl
def S0(K:FK)(a:Ad)(E:XE):TS:=(aQ K a E E)
def aR(K:FK)(a:Ad)(E E1:XE):TS:=(A8 (A4 (OH K) (AC (AA 2) AE)) (AS 3))
theorem S4:type_of% (AF (aR.eq_1 K a E E1) D σ H):=rfl
def aS(K:FK)(a:Ad)(E E1:XE):TS:=(A8 (C3 AE) (AS 4))
theorem S5:type_of% (AF (aS.eq_1 K a E E1) D σ H):=rfl
def aT(K:FK)(a:Ad)(E E1:XE):TS:=(A8 (C3 AE) (AS 5))
theorem S6:type_of% (AF (aT.eq_1 K a E E1) D σ H):=rfl
def aU(K:FK)(a:Ad)(E E1:XE):TS:=(A8 (BO (a "Hold") "lack_of" (MP K a) [] E (AA 0) (AC (AA 6) (AC (AA 3) AE))) (AS 7))
theorem S7:type_of% (AF (aU.eq_1 K a E E1) D σ H):=rfl
def aV(K:FK)(a:Ad)(E E1:XE):TS:=(FW (AA 3) (AA 6) (tC (.bl true)))
theorem S8:type_of% (AF (aV.eq_1 K a E E1) D σ H):=rfl
def aW(K:FK)(a:Ad)(E E1:XE):TS:=(CV (EE K "list" EU (AA 4) (AC (AA 6) AE)))
theorem S9:type_of% (AF (aW.eq_1 K a E E1) D σ H):=rfl
def aX(K:FK)(a:Ad)(E E1:XE):TS:=(CV (EE K "list" EU (AA 5) (AC (DK (AC (AA 6) (AC (AA 7) AE))) AE)))
theorem TC:type_of% (AF (aX.eq_1 K a E E1) D σ H):=rfl
def aY(K:FK)(a:Ad)(E E1:XE):TS:=(BF (BW (AI IB (AA 7) (tC .non))) (AK (aV K a E E) (aW K a E E)) (aX K a E E))
theorem TD:type_of% (AF (aY.eq_1 K a E E1) D σ H):=rfl
def aZ(K:FK)(a:Ad)(E E1:XE):TS:=(BF (JG (tB (EG (AA 6) (BP K (AA 0) "outs"))) (tB (EG (AA 6) (AA 3)))) (AK (aU K a E E) (aY K a E E)) BL)
theorem TF:type_of% (AF (aZ.eq_1 K a E E1) D σ H):=rfl
def a0(K:FK)(a:Ad)(E E1:XE):TS:=(CL (C0 K (AI (AV K) (BP K (AA 0) "made_in") (AA 1))) (AS 6) (aZ K a E E))
theorem TJ:type_of% (AF (a0.eq_1 K a E E1) D σ H):=rfl
def bA(K:FK)(a:Ad)(E E1:XE):TS:=(A0 (DK (AC (AA 4) (AC (AA 5) AE))))
theorem TK:type_of% (AF (bA.eq_1 K a E E1) D σ H):=rfl
def TL(K:FK)(a:Ad)(E:XE):TS:=(AK (aR K a E E) (AK (aS K a E E) (AK (aT K a E E) (AK (a0 K a E E) (bA K a E E)))))
def bB(K:FK)(a:Ad)(E E1:XE):TS:=(CV (BO (a "Plank") "ask_for_block" (G2 K a) [] E (AA 0) (AC (AA 1) AE)))
theorem uT:type_of% (AF (bB.eq_1 K a E E1) D σ H):=rfl
def bC(K:FK)(a:Ad)(E E1:XE):TS:=(A0 (A4 (ET K) (AC (AI (AV K) (BP K (AA 0) "contents") (AA 1)) AE)))
theorem uU:type_of% (AF (bC.eq_1 K a E E1) D σ H):=rfl
def TM(K:FK)(a:Ad)(E:XE):TS:=(AK (bB K a E E) (bC K a E E))
def bD(K:FK)(a:Ad)(E E1:XE):TS:=(CV (BO (a "Plank") "ask_for_block" (G2 K a) [] E (AA 0) (AC (AA 1) AE)))
theorem uV:type_of% (AF (bD.eq_1 K a E E1) D σ H):=rfl
def bE(K:FK)(a:Ad)(E E1:XE):TS:=(JQ (a "NoBlock") E (AC (tC (.str "the list is not as long as a block")) AE))
theorem uW:type_of% (AF (bE.eq_1 K a E E1) D σ H):=rfl
def bF(K:FK)(a:Ad)(E E1:XE):TS:=(BF (BW (AI (CP K) (A4 (C7 K) (AC (AA 2) AE)) (BP K (AA 0) "width"))) (bE K a E E) BL)
theorem uX:type_of% (AF (bF.eq_1 K a E E1) D σ H):=rfl
def bG(K:FK)(a:Ad)(E E1:XE):TS:=(A8 (A4 (FF K) (AC (AA 2) AE)) (JH (BP K (AA 0) "contents") (AA 1) MA))
theorem uY:type_of% (AF (bG.eq_1 K a E E1) D σ H):=rfl
def bH(K:FK)(a:Ad)(E E1:XE):TS:=(P9 K (AA 0) (tC (.int 1)) NQ "written")
theorem uZ:type_of% (AF (bH.eq_1 K a E E1) D σ H):=rfl
def TN(K:FK)(a:Ad)(E:XE):TS:=(AK (bD K a E E) (AK (bF K a E E) (AK (bG K a E E) (bH K a E E))))
def bI(K:FK)(a:Ad)(E E1:XE):TS:=(A8 (AI IA (AI FY (AI (C5 K) (AI (ES K) (AI FY (AA 0) (AI L9 (tC (.int 10)) (tC (.int 40)))) (tC (.int 1000000000039))) (tC (.int 71))) (AI (C5 K) (AI (ES K) (tC (.int 2)) (AI L9 (tC (.int 10)) (tC (.int 30)))) (tC (.int 1)))) (AI L9 (tC (.int 10)) (tC (.int 30)))) (AS 1))
theorem u6:type_of% (AF (bI.eq_1 K a E E1) D σ H):=rfl
def bJ(K:FK)(a:Ad)(E E1:XE):TS:=(A8 (AI IA (BC (CD K a) [] E (AC (AA 0) (AC (tC (.int 10007)) (AC (tC (.int 5)) AE)))) (tC (.int 2))) (AS 2))
theorem u7:type_of% (AF (bJ.eq_1 K a E E1) D σ H):=rfl
def bK(K:FK)(a:Ad)(E E1:XE):TS:=(A8 (AI (ES K) (tC (.str "Z~")) (BC (CD K a) [] E (AC (AA 0) (AC (tC (.int 10009)) (AC (tC (.int 31)) AE))))) (AS 3))
theorem u8:type_of% (AF (bK.eq_1 K a E E1) D σ H):=rfl
def bL(K:FK)(a:Ad)(E E1:XE):TS:=(A0 (AI (AV K) (C3 (AC (tC .non) (AC (AA 1) (AC (AA 2) (AC (tC (.str "")) (AC (tC (.str "a b")) (AC (AA 3) (AC (DK AE) (AC (DK (AC (AA 1) (AC (DK (AC (AA 2) (AC (tC .non) AE))) AE))) AE))))))))) (BC (CD K a) [] E (AC (AA 0) (AC (tC (.int 10037)) (AC (tC (.int 8)) AE))))))
theorem u9:type_of% (AF (bL.eq_1 K a E E1) D σ H):=rfl
def TQ(K:FK)(a:Ad)(E:XE):TS:=(AK (bI K a E E) (AK (bJ K a E E) (AK (bK K a E E) (bL K a E E))))
def bM(K:FK)(a:Ad)(E E1:XE):TS:=(A0 (DK (AC (BC (CD K a) [] E (AC (AA 0) (AC (tC (.int 10061)) (AC (AI (AV K) (AA 1) (tC (.int 0))) AE)))) (AC (tC (.int 0)) AE))))
theorem vA:type_of% (AF (bM.eq_1 K a E E1) D σ H):=rfl
def bN(K:FK)(a:Ad)(E E1:XE):TS:=(BF (BW (AI (CM K) (BC (CD K a) [] E (AC (AA 0) (AC (tC (.int 10039)) (AC (tC (.int 3)) AE)))) (tC (.int 0)))) (bM K a E E) BL)
theorem vB:type_of% (AF (bN.eq_1 K a E E1) D σ H):=rfl
def bO(K:FK)(a:Ad)(E E1:XE):TS:=(A0 (DK (AC (BC (CD K a) [] E (AC (AA 0) (AC (tC (.int 10061)) (AC (AI (AV K) (AA 1) (tC (.int 0))) AE)))) (AC (BC (CD K a) [] E (AC (AA 0) (AC (tC (.int 10067)) (AC (AI (AV K) (AA 1) (tC (.int 1))) AE)))) AE))))
theorem vC:type_of% (AF (bO.eq_1 K a E E1) D σ H):=rfl
def TR(K:FK)(a:Ad)(E:XE):TS:=(AK (bN K a E E) (bO K a E E))
def bP(K:FK)(a:Ad)(E E1:XE):TS:=(A8 (C3 AE) (AS 4))
theorem vD:type_of% (AF (bP.eq_1 K a E E1) D σ H):=rfl
def bQ(K:FK)(a:Ad)(E E1:XE):TS:=(A8 (BC (CD K a) [] E (AC (AI (C5 K) (AA 0) (AA 5)) (AC (tC (.int 10079)) (AC (tC (.int 4)) AE)))) (AS 6))
theorem vE:type_of% (AF (bQ.eq_1 K a E E1) D σ H):=rfl
def bR(K:FK)(a:Ad)(E E1:XE):TS:=(CV (EE K "list" EU (AA 4) (AC (BC (CD K a) [] E (AC (AI (C5 K) (AA 0) (AA 5)) (AC (tC (.int 10091)) (AC (A4 (C7 K) (AC (AA 2) AE)) AE)))) AE)))
theorem vF:type_of% (AF (bR.eq_1 K a E E1) D σ H):=rfl
def bS(K:FK)(a:Ad)(E E1:XE):TS:=(CV (EE K "list" EU (AA 4) (AC (BS (AA 3) (DK (AC (AI (AV K) (AA 1) (tC (.int 0))) (AC (AI (C5 K) (AI (AV K) (AA 1) (tC (.int 1))) (tC (.int 1))) AE)))) AE)))
theorem vG:type_of% (AF (bS.eq_1 K a E E1) D σ H):=rfl
def TU(K:FK)(a:Ad)(E E1:XE):TS:=(CV (EE K "list" EU (AA 4) (AC (A4 (Q9 K) (AC (tC (.int 0)) (AC (AI IA (AI IA (A4 (C7 K) (AC (AA 2) AE)) (tC (.int 1))) (BC (CD K a) [] E (AC (AI (C5 K) (AA 0) (AA 5)) (AC (tC (.int 10093)) (AC (tC (.int 6)) AE))))) AE))) AE)))
theorem vH:type_of% (AF (TU.eq_1 K a E E1) D σ H):=rfl
def bT(K:FK)(a:Ad)(E E1:XE):TS:=(BF (JG (BW (AI (CM K) (AA 6) (tC (.int 1)))) (tB (HY (DK (AC (AI (AV K) (AA 1) (tC (.int 0))) (AC (AI (C5 K) (AI (AV K) (AA 1) (tC (.int 1))) (tC (.int 1))) AE))) (AA 3)))) (bS K a E E) (TU K a E E))
theorem vI:type_of% (AF (bT.eq_1 K a E E1) D σ H):=rfl
def bU(K:FK)(a:Ad)(E E1:XE):TS:=(BF (BW (AI (CM K) (AA 6) (tC (.int 0)))) (bR K a E E) (bT K a E E))
theorem vJ:type_of% (AF (bU.eq_1 K a E E1) D σ H):=rfl
def bV(K:FK)(a:Ad)(E E1:XE):TS:=(CL (D9 (AC (AI (ES K) (BC (CD K a) [] E (AC (AA 0) (AC (tC (.int 10069)) (AC (tC (.int 5)) AE)))) (A4 (Q0 K) (AC (AI (CP K) (AA 2) (C3 AE)) AE))) AE)) (AS 5) (AK (bQ K a E E) (bU K a E E)))
theorem vK:type_of% (AF (bV.eq_1 K a E E1) D σ H):=rfl
def TV(K:FK)(a:Ad)(E E1:XE):TS:=(A0 (AA 4))
theorem vL:type_of% (AF (TV.eq_1 K a E E1) D σ H):=rfl
def TW(K:FK)(a:Ad)(E:XE):TS:=(AK (bP K a E E) (AK (bV K a E E) (TV K a E E)))
def bW(K:FK)(a:Ad)(E E1:XE):TS:=(A8 (A4 (ET K) (AC (AI (AV K) (AA 0) (tC (.int 0))) AE)) (AS 4))
theorem vM:type_of% (AF (bW.eq_1 K a E E1) D σ H):=rfl
def vN(K:FK)(a:Ad)(E E1:XE):TS:=(A0 (tC (.bl false)))
def bX(K:FK)(a:Ad)(E E1:XE):TS:=(BF (EN (CU (C6 K (A4 (DM K) (AC (AA 5) (AC (tC (.ty "tuple")) AE))))) (EN (BW (AI (CP K) (A4 (C7 K) (AC (AA 5) AE)) (tC (.int 2)))) (EN (CU (C6 K (BC (EX K a) [] E (AC (AI (AV K) (AA 5) (tC (.int 0))) AE)))) (CU (C6 K (BC (EX K a) [] E (AC (AI (AV K) (AA 5) (tC (.int 1))) AE))))))) (vN K a E E) BL)
theorem vO:type_of% (AF (bX.eq_1 K a E E1) D σ H):=rfl
def bY(K:FK)(a:Ad)(E E1:XE):TS:=(CV (EE K "list" EU (AA 4) (AC (AI (AV K) (AA 5) (tC (.int 0))) AE)))
theorem vP:type_of% (AF (bY.eq_1 K a E E1) D σ H):=rfl
def bZ(K:FK)(a:Ad)(E E1:XE):TS:=(CL (C0 K (AI (AV K) (AA 0) (tC (.int 1)))) (AS 5) (AK (bX K a E E) (bY K a E E)))
theorem vQ:type_of% (AF (bZ.eq_1 K a E E1) D σ H):=rfl
def vR(K:FK)(a:Ad)(E E1:XE):TS:=(A0 (tC (.bl false)))
def cA(K:FK)(a:Ad)(E E1:XE):TS:=(BF (BW (AI (CP K) (DL (C0 K (AI (AV K) (AA 0) (tC (.int 0)))) (AS 0) (CU (C6 K (BC (EX K a) [] (λ_=>E0) (AC (AA 0) AE)))) (AA 0) 1 []) (C3 AE))) (vR K a E E) BL)
theorem vS:type_of% (AF (cA.eq_1 K a E E1) D σ H):=rfl
def vT(K:FK)(a:Ad)(E E1:XE):TS:=(A0 (tC (.bl false)))
def cB(K:FK)(a:Ad)(E E1:XE):TS:=(BF (EN (BW (AI (CP K) (A4 (RP K) (AC (AI (AV K) (AA 0) (tC (.int 0))) AE)) (AI (AV K) (AA 0) (tC (.int 0))))) (BW (AI (CP K) (A4 (X6 K) (AC (AI (AV K) (AA 0) (tC (.int 1))) AE)) (AI (AV K) (AA 0) (tC (.int 1)))))) (vT K a E E) BL)
theorem vU:type_of% (AF (cB.eq_1 K a E E1) D σ H):=rfl
def cC(K:FK)(a:Ad)(E E1:XE):TS:=(A0 (AI (CM K) (A4 (RP K) (AC (AA 4) AE)) (DL (D9 (AC (A4 (C7 K) (AC (AA 1) AE)) AE)) (AS 0) (JG (BW (AI (CM K) (AI (AV K) (AI (AV K) (AI (AV K) (AA 1) (AA 0)) (tC (.int 0))) (tC (.int 0))) (AA 2))) (tB (EG (AA 0) (AA 3)))) (AA 0) 1 [1,3,2])))
theorem vV:type_of% (AF (cC.eq_1 K a E E1) D σ H):=rfl
def TY(K:FK)(a:Ad)(E:XE):TS:=(AK (bW K a E E) (AK (bZ K a E E) (AK (cA K a E E) (AK (cB K a E E) (cC K a E E)))))
def cD(K:FK)(a:Ad)(E E1:XE):TS:=(CV (BO (a "Hold") "ask_for_place" (MM K a) [] E (AA 0) (AC (AA 1) AE)))
theorem vW:type_of% (AF (cD.eq_1 K a E E1) D σ H):=rfl
def cE(K:FK)(a:Ad)(E E1:XE):TS:=(A0 (QQ (BP K (AA 0) "latest") (AA 1)))
theorem vX:type_of% (AF (cE.eq_1 K a E E1) D σ H):=rfl
def TZ(K:FK)(a:Ad)(E:XE):TS:=(AK (cD K a E E) (cE K a E E))
def cF(K:FK)(a:Ad)(E E1:XE):TS:=(A8 (BO (a "Plank") "read" (FH K a) [] E (BP K (AA 0) "ground") (AC (AA 1) AE)) (AS 2))
theorem OU:type_of% (AF (cF.eq_1 K a E E1) D σ H):=rfl
def cG(K:FK)(a:Ad)(E E1:XE):TS:=(A8 (BO (a "Hold") "outcome" (MQ K a) [] E (AA 0) (AC (AA 1) (AC JN AE))) (AS 3))
theorem OV:type_of% (AF (cG.eq_1 K a E E1) D σ H):=rfl
def cH(K:FK)(a:Ad)(E E1:XE):TS:=(FW (BP K (AA 0) "outs") (AA 4) (tC (.bl true)))
theorem OW:type_of% (AF (cH.eq_1 K a E E1) D σ H):=rfl
def cI(K:FK)(a:Ad)(E E1:XE):TS:=(CL (C0 K (AI (AV K) (AA 3) (tC (.int 0)))) (AS 4) (cH K a E E))
theorem OX:type_of% (AF (cI.eq_1 K a E E1) D σ H):=rfl
def cJ(K:FK)(a:Ad)(E E1:XE):TS:=(CV (BO (a "Plank") "write" (II K a) [] E (BP K (AA 0) "ground") (AC (AA 1) (AC (BO (a "Hold") "laid_over" (MR K a) [] E (AA 0) (AC (AA 2) (AC (AA 1) AE))) AE))))
theorem OY:type_of% (AF (cJ.eq_1 K a E E1) D σ H):=rfl
def cK(K:FK)(a:Ad)(E E1:XE):TS:=(A0 (AA 3))
theorem OZ:type_of% (AF (cK.eq_1 K a E E1) D σ H):=rfl
def T2(K:FK)(a:Ad)(E:XE):TS:=(AK (cF K a E E) (AK (cG K a E E) (AK (cI K a E E) (AK (cJ K a E E) (cK K a E E)))))
def cL(K:FK)(a:Ad)(E E1:XE):TS:=(A8 (A4 (C7 K) (AC (BS (AA 1) (tC (.str "changes"))) AE)) (AS 3))
theorem vY:type_of% (AF (cL.eq_1 K a E E1) D σ H):=rfl
def cM(K:FK)(a:Ad)(E E1:XE):TS:=(A8 (C3 (AC (BO (a "Hold") "waiting" (F6 K a) [] E (AA 0) AE) AE)) (AS 4))
theorem vZ:type_of% (AF (cM.eq_1 K a E E1) D σ H):=rfl
def cN(K:FK)(a:Ad)(E E1:XE):TS:=(A8 (BC (CD K a) [] E (AC (AA 2) (AC (tC (.int 10169)) (AC (AA 3) AE)))) (AS 5))
theorem v0:type_of% (AF (cN.eq_1 K a E E1) D σ H):=rfl
def cO(K:FK)(a:Ad)(E E1:XE):TS:=(A8 (AI (C5 K) (AA 4) (C3 (AC (BO (a "Hold") "needed" (IQ K a) [] E (AA 0) (AC (AA 5) AE)) (AC (BO (a "Hold") "closure" (MO K a) [] E (AA 0) (AC (C3 (AC (AA 5) AE)) AE)) AE)))) (AS 4))
theorem v7:type_of% (AF (cO.eq_1 K a E E1) D σ H):=rfl
def v8(K:FK)(a:Ad)(E E1:XE):TS:=(A0 (tC (.bl false)))
def cP(K:FK)(a:Ad)(E E1:XE):TS:=(BF (BW (AI (CP K) (AI (AV K) (AA 4) (tC (.int 1))) (JU K (AI (AV K) (AI (AV K) (BS (AA 1) (tC (.str "changes"))) (AA 5)) (tC (.int 2)))))) (v8 K a E E) BL)
theorem v9:type_of% (AF (cP.eq_1 K a E E1) D σ H):=rfl
def cQ(K:FK)(a:Ad)(E E1:XE):TS:=(BF (BW (AI N2 (AA 3) (tC (.int 0)))) (AK (cN K a E E) (AK (cO K a E E) (cP K a E E))) BL)
theorem wA:type_of% (AF (cQ.eq_1 K a E E1) D σ H):=rfl
def wB(K:FK)(a:Ad)(E E1:XE):TS:=(A0 (tC (.bl false)))
def cR(K:FK)(a:Ad)(E E1:XE):TS:=(BF (CU (C6 K (A4 (DM K) (AC (AA 6) (AC (tC (.ty "list")) AE))))) (wB K a E E) BL)
theorem wC:type_of% (AF (cR.eq_1 K a E E1) D σ H):=rfl
def cS(K:FK)(a:Ad)(E E1:XE):TS:=(CV (EE K "list" EU (BS (AA 1) (tC (.str "told"))) (AC (DK (AC (AA 6) (AC (A4 (ET K) (AC (AA 6) AE)) AE))) AE)))
theorem wD:type_of% (AF (cS.eq_1 K a E E1) D σ H):=rfl
def T3(K:FK)(a:Ad)(E E1:XE):TS:=(CL (C0 K (AA 4)) (AS 6) (AK (cR K a E E) (cS K a E E)))
theorem wE:type_of% (AF (T3.eq_1 K a E E1) D σ H):=rfl
def T4(K:FK)(a:Ad)(E E1:XE):TS:=(A0 (AI (CM K) (AI (AV K) (AA 4) (tC (.int 0))) (DL (D9 (AC (AA 3) AE)) (AS 0) (tB (EG (AA 0) (BS (AA 1) (tC (.str "gone"))))) (AA 0) 1 [1])))
theorem wF:type_of% (AF (T4.eq_1 K a E E1) D σ H):=rfl
def T5(K:FK)(a:Ad)(E:XE):TS:=(AK (cL K a E E) (AK (cM K a E E) (AK (cQ K a E E) (AK (T3 K a E E) (T4 K a E E)))))
def cT(K:FK)(a:Ad)(E E1:XE):TS:=(A8 (BO (a "Hold") "newest" (G5 K a) [] E (AA 0) (AC (AA 1) AE)) (AS 4))
theorem wG:type_of% (AF (cT.eq_1 K a E E1) D σ H):=rfl
def cU(K:FK)(a:Ad)(E E1:XE):TS:=(CV (BO (a "Hold") "ask_for_changes" (G6 K a) [] E (AA 0) (AC (AA 3) AE)))
theorem wH:type_of% (AF (cU.eq_1 K a E E1) D σ H):=rfl
def cV(K:FK)(a:Ad)(E E1:XE):TS:=(A8 (A4 (C7 K) (AC (BP K (AA 0) "made") AE)) (AS 5))
theorem wI:type_of% (AF (cV.eq_1 K a E E1) D σ H):=rfl
def cW(K:FK)(a:Ad)(E E1:XE):TS:=(CV (EE K "list" EU (BP K (AA 0) "made") (AC (JL (a "Change") (MK K a) [] E (AC (AA 1) (AC (AA 2) (AC (BC (ML K a) [] E (AC (AA 3) (AC (AA 4) AE))) AE)))) AE)))
theorem wJ:type_of% (AF (cW.eq_1 K a E E1) D σ H):=rfl
def cX(K:FK)(a:Ad)(E E1:XE):TS:=(CV (EE K "list" EU (AI (AV K) (BP K (AA 0) "made_in") (AI (AV K) (AA 1) (tC (.int 0)))) (AC (AA 5) AE)))
theorem wK:type_of% (AF (cX.eq_1 K a E E1) D σ H):=rfl
def cY(K:FK)(a:Ad)(E E1:XE):TS:=(FW (BP K (AA 0) "latest") (AA 1) (AA 5))
theorem wL:type_of% (AF (cY.eq_1 K a E E1) D σ H):=rfl
def cZ(K:FK)(a:Ad)(E E1:XE):TS:=(A0 (AA 5))
theorem wM:type_of% (AF (cZ.eq_1 K a E E1) D σ H):=rfl
def T6(K:FK)(a:Ad)(E:XE):TS:=(AK (cT K a E E) (AK (cU K a E E) (AK (cV K a E E) (AK (cW K a E E) (AK (cX K a E E) (AK (cY K a E E) (cZ K a E E)))))))
def c7(K:FK)(a:Ad)(E E1:XE):TS:=(A8 (BO (a "Hold") "newest" (G5 K a) [] E (AA 0) (AC (AA 1) AE)) (AS 2))
theorem wN:type_of% (AF (c7.eq_1 K a E E1) D σ H):=rfl
def c8(K:FK)(a:Ad)(E E1:XE):TS:=(A0 (AI (AV K) (BO (a "Plank") "read" (FH K a) [] E (BP K (AA 0) "ground") (AC (AI (AV K) (AA 1) (tC (.int 0))) AE)) (AI (AV K) (AA 1) (tC (.int 1)))))
theorem wO:type_of% (AF (c8.eq_1 K a E E1) D σ H):=rfl
def c9(K:FK)(a:Ad)(E E1:XE):TS:=(BF (BW (AI IB (AA 2) (tC .non))) (c8 K a E E) BL)
theorem wP:type_of% (AF (c9.eq_1 K a E E1) D σ H):=rfl
def dA(K:FK)(a:Ad)(E E1:XE):TS:=(A0 (BP K (AI (AV K) (BP K (AA 0) "made") (AA 2)) "value"))
theorem wQ:type_of% (AF (dA.eq_1 K a E E1) D σ H):=rfl
def T7(K:FK)(a:Ad)(E:XE):TS:=(AK (c7 K a E E) (AK (c9 K a E E) (dA K a E E)))
def dB(K:FK)(a:Ad)(E E1:XE):TS:=(A8 (tC (.bl false)) (AS 2))
theorem dC:type_of% (AF (dB.eq_1 K a E E1) D σ H):=rfl
def dD(K:FK)(a:Ad)(E E1:XE):TS:=(CV (BO (a "Hold") "write" (IN K a) [] E1 (AA 0) (AC (AA 1) AE)))
theorem dE:type_of% (AF (dD.eq_1 K a E E1) D σ H):=rfl
def dF(K:FK)(a:Ad)(E E1:XE):TS:=(A8 (FO (A4 (DM K) (AC (AA 3) (AC (tC (.ref (a "NoBlock"))) AE))) (FO (A4 (DM K) (AC (AA 3) (AC (tC (.ty "ValueError")) AE))) (N6 K (A4 (DM K) (AC (AA 3) (AC (DK (AC (tC (.ref (a "NoChange"))) (AC (tC (.ref (a "NoRoom"))) AE))) AE)))))) (AS 2))
theorem dG:type_of% (AF (dF.eq_1 K a E E1) D σ H):=rfl
def dH(K:FK)(a:Ad)(E E1:XE):TS:=(QX (λE1=>(dD K a E E1)) (W6 (λcls=>W.exmOne K cls (.ref (a "HoldError"))) 3 (dF K a E E) W5))
theorem dJ:type_of% (AF (dH.eq_1 K a E E1) D σ H):=rfl
def dM(K:FK)(a:Ad)(E E1:XE):TS:=(A0 (AA 2))
theorem dN:type_of% (AF (dM.eq_1 K a E E1) D σ H):=rfl
def T8(K:FK)(a:Ad)(E:XE):TS:=(AK (dB K a E E) (AK (dH K a E E) (dM K a E E)))
def dO(K:FK)(a:Ad)(n:Nat)(E E1:XE):TS:=(A0 (tC (.bl false)))
theorem KA:type_of% (AF (dO.eq_1 K a n E E1) D σ H):=rfl
def dP(K:FK)(a:Ad)(n:Nat)(E E1:XE):TS:=(BF (EN (CU (C6 K (A4 (DM K) (AC (AA 0) (AC (tC (.ty "tuple")) AE))))) (BW (AI (CP K) (A4 (C7 K) (AC (AA 0) AE)) (A4 (C7 K) (AC (AA 1) AE))))) (dO K a n E E) BL)
theorem KB:type_of% (AF (dP.eq_1 K a n E E1) D σ H):=rfl
def dQ(K:FK)(a:Ad)(n:Nat)(E E1:XE):TS:=(A0 (tC (.bl false)))
theorem KC:type_of% (AF (dQ.eq_1 K a n E E1) D σ H):=rfl
def dR(K:FK)(a:Ad)(n:Nat)(E E1:XE):TS:=(BF (CU (C6 K (BC (DS K a n) [] E (AC (AA 2) (AC (AA 3) AE))))) (dQ K a n E E) BL)
theorem KD:type_of% (AF (dR.eq_1 K a n E E1) D σ H):=rfl
def dU(K:FK)(a:Ad)(n:Nat)(E E1:XE):TS:=(CL (Q8 K (AC (AA 0) (AC (AA 1) AE))) (HU K 2 (D8 (AS 2) (D8 (AS 3) HS))) (dR K a n E E))
theorem KF:type_of% (AF (dU.eq_1 K a n E E1) D σ H):=rfl
def dW(K:FK)(a:Ad)(n:Nat)(E E1:XE):TS:=(A0 (tC (.bl true)))
theorem KG:type_of% (AF (dW.eq_1 K a n E E1) D σ H):=rfl
def dX(K:FK)(a:Ad)(n:Nat)(E E1:XE):TS:=(BF (C6 K (A4 (DM K) (AC (AA 1) (AC (tC (.ty "tuple")) AE)))) (AK (dP K a n E E) (AK (dU K a n E E) (dW K a n E E))) BL)
theorem KH:type_of% (AF (dX.eq_1 K a n E E1) D σ H):=rfl
def dY(K:FK)(a:Ad)(n:Nat)(E E1:XE):TS:=(A0 (AI IB (AA 0) (tC .non)))
theorem KI:type_of% (AF (dY.eq_1 K a n E E1) D σ H):=rfl
def dZ(K:FK)(a:Ad)(n:Nat)(E E1:XE):TS:=(BF (BW (AI IB (AA 1) (tC .non))) (dY K a n E E) BL)
theorem KJ:type_of% (AF (dZ.eq_1 K a n E E1) D σ H):=rfl
def d0(K:FK)(a:Ad)(n:Nat)(E E1:XE):TS:=(A0 (FO (A4 (DM K) (AC (AA 0) (AC (tC (.ty "str")) AE))) (AI (CM K) (AA 0) (AA 1))))
theorem KK:type_of% (AF (d0.eq_1 K a n E E1) D σ H):=rfl
def d6(K:FK)(a:Ad)(n:Nat)(E E1:XE):TS:=(BF (C6 K (A4 (DM K) (AC (AA 1) (AC (tC (.ty "str")) AE)))) (d0 K a n E E) BL)
theorem KL:type_of% (AF (d6.eq_1 K a n E E1) D σ H):=rfl
def d7(K:FK)(a:Ad)(n:Nat)(E E1:XE):TS:=(A0 (FO (BC (EX K a) [] E (AC (AA 0) AE)) (AI (CM K) (AA 0) (AA 1))))
theorem KM:type_of% (AF (d7.eq_1 K a n E E1) D σ H):=rfl
def IS(K:FK)(a:Ad)(n:Nat)(E:XE):TS:=(AK (dX K a n E E) (AK (dZ K a n E E) (AK (d6 K a n E E) (d7 K a n E E))))
def d8(K:FK)(a:Ad)(E E1:XE):TS:=(A8 (BC (MT K a) [] E (AC (AA 1) (AC (AA 2) AE))) (AS 4))
theorem wR:type_of% (AF (d8.eq_1 K a E E1) D σ H):=rfl
def d9(K:FK)(a:Ad)(E E1:XE):TS:=(A8 (BC (IR K a) [] E (AC (AA 1) AE)) (AS 5))
theorem wS:type_of% (AF (d9.eq_1 K a E E1) D σ H):=rfl
def eA(K:FK)(a:Ad)(E E1:XE):TS:=(A8 (BC (MV K a) [] E (AC (AA 1) (AC (AA 4) (AC (BS (AA 3) (tC (.str "changes"))) (AC (BS (AA 3) (tC (.str "last"))) AE))))) (AS 6))
theorem wT:type_of% (AF (eA.eq_1 K a E E1) D σ H):=rfl
def eB(K:FK)(a:Ad)(E E1:XE):TS:=(A8 (A4 (ET K) (AC (AA 6) AE)) (AS 7))
theorem wU:type_of% (AF (eB.eq_1 K a E E1) D σ H):=rfl
def eC(K:FK)(a:Ad)(E E1:XE):TS:=(A8 (BO (a "Hold") "change" (MN K a) [] E (AA 0) (AC (AA 4) (AC (AA 5) (AC (AA 7) AE)))) (AS 8))
theorem wV:type_of% (AF (eC.eq_1 K a E E1) D σ H):=rfl
def eD(K:FK)(a:Ad)(E E1:XE):TS:=(CV (NS K "list" XA (AA 7)))
theorem wW:type_of% (AF (eD.eq_1 K a E E1) D σ H):=rfl
def eE(K:FK)(a:Ad)(E E1:XE):TS:=(CV (EE K "list" EU (AA 6) (AC (BS (BS (AA 3) (tC (.str "last"))) (AA 4)) AE)))
theorem wX:type_of% (AF (eE.eq_1 K a E E1) D σ H):=rfl
def eF(K:FK)(a:Ad)(E E1:XE):TS:=(BF (tB (HY (AA 4) (BS (AA 3) (tC (.str "last"))))) (eE K a E E) BL)
theorem wY:type_of% (AF (eF.eq_1 K a E E1) D σ H):=rfl
def T9(K:FK)(a:Ad)(E E1:XE):TS:=(FW (BS (AA 3) (tC (.str "last"))) (AA 4) (A4 (C7 K) (AC (BS (AA 3) (tC (.str "changes"))) AE)))
theorem wZ:type_of% (AF (T9.eq_1 K a E E1) D σ H):=rfl
def UA(K:FK)(a:Ad)(E E1:XE):TS:=(CV (EE K "list" EU (BS (AA 3) (tC (.str "changes"))) (AC (DK (AC (AA 4) (AC (AA 5) (AC (AA 6) AE)))) AE)))
theorem w9:type_of% (AF (UA.eq_1 K a E E1) D σ H):=rfl
def O0(K:FK)(a:Ad)(E E1:XE):TS:=(A0 (FO (BC (EX K a) [] E (AC (AA 8) AE)) (FO (AI (CM K) (AA 8) (AI IA (A4 (C7 K) (AC (BS (AA 3) (tC (.str "changes"))) AE)) (tC (.int 1)))) (BC (DS K a 8) [] E (AC (BO (a "Hold") "in_hand" (IP K a) [] E (AA 0) (AC (AA 4) AE)) (AC (AA 5) AE))))))
theorem xA:type_of% (AF (O0.eq_1 K a E E1) D σ H):=rfl
def UB(K:FK)(a:Ad)(E:XE):TS:=(AK (d8 K a E E) (AK (d9 K a E E) (AK (eA K a E E) (AK (eB K a E E) (AK (eC K a E E) (AK (eD K a E E) (AK (eF K a E E) (AK (T9 K a E E) (AK (UA K a E E) (O0 K a E E))))))))))
def eG(K:FK)(a:Ad)(E E1:XE):TS:=(A8 (BO (a "Hold") "write" (IN K a) [] E (AA 0) (AC (AA 3) AE)) (AS 4))
theorem xB:type_of% (AF (eG.eq_1 K a E E1) D σ H):=rfl
def xC(K:FK)(a:Ad)(E E1:XE):TS:=(A0 (tC (.bl false)))
def eI(K:FK)(a:Ad)(E E1:XE):TS:=(BF (EN (CU (C6 K (A4 (DM K) (AC (AA 4) (AC (tC (.ty "tuple")) AE))))) (EN (BW (AI (CP K) (A4 (C7 K) (AC (AA 4) AE)) (tC (.int 2)))) (EN (CU (C6 K (A4 (DM K) (AC (AI (AV K) (AA 4) (tC (.int 0))) (AC (tC (.ty "list")) AE))))) (CU (C6 K (A4 (DM K) (AC (AI (AV K) (AA 4) (tC (.int 1))) (AC (tC (.ty "list")) AE)))))))) (xC K a E E) BL)
theorem xD:type_of% (AF (eI.eq_1 K a E E1) D σ H):=rfl
def xE(K:FK)(a:Ad)(E E1:XE):TS:=(A0 (tC (.bl false)))
def eJ(K:FK)(a:Ad)(E E1:XE):TS:=(BF (CU (C6 K (BC (MX K a) [] E (AC (AA 4) (AC (BS (AA 2) (tC (.str "changes"))) (AC (BS (AA 2) (tC (.str "gone"))) (AC (AA 3) AE))))))) (xE K a E E) BL)
theorem xF:type_of% (AF (eJ.eq_1 K a E E1) D σ H):=rfl
def xG(K:FK)(a:Ad)(E E1:XE):TS:=(A0 (tC (.bl false)))
def eK(K:FK)(a:Ad)(E E1:XE):TS:=(BF (CU (C6 K (BC (MY K a) [] E (AC (AA 4) (AC (BS (AA 2) (tC (.str "changes"))) (AC (BS (AA 2) (tC (.str "gone"))) AE)))))) (xG K a E E) BL)
theorem xH:type_of% (AF (eK.eq_1 K a E E1) D σ H):=rfl
def eL(K:FK)(a:Ad)(E E1:XE):TS:=(A8 (AI (AV K) (BS (AA 2) (tC (.str "changes"))) (AA 5)) (HU K 3 (D8 (AS 6) (D8 (AS 7) (D8 (AS 8) HS)))))
theorem xI:type_of% (AF (eL.eq_1 K a E E1) D σ H):=rfl
def eM(K:FK)(a:Ad)(E E1:XE):TS:=(A8 (AA 7) (JH (AI (AV K) (BS (AA 2) (tC (.str "rows"))) (AA 3)) (AI (AV K) (AA 6) (tC (.int 1))) MA))
theorem xJ:type_of% (AF (eM.eq_1 K a E E1) D σ H):=rfl
def eO(K:FK)(a:Ad)(E E1:XE):TS:=(CL (C0 K (AI (AV K) (AA 4) (tC (.int 0)))) (AS 5) (AK (eL K a E E) (eM K a E E)))
theorem xK:type_of% (AF (eO.eq_1 K a E E1) D σ H):=rfl
def eP(K:FK)(a:Ad)(E E1:XE):TS:=(CV (EE K "list" EU (BS (AA 2) (tC (.str "held"))) (AC (DK (AC (AI (AV K) (AA 4) (tC (.int 0))) (AC (A4 (ET K) (AC (AI (AV K) (AA 4) (tC (.int 0))) AE)) (AC (AI (AV K) (AA 4) (tC (.int 1))) (AC (A4 (ET K) (AC (AI (AV K) (AA 4) (tC (.int 1))) AE)) AE))))) AE)))
theorem xL:type_of% (AF (eP.eq_1 K a E E1) D σ H):=rfl
def UC(K:FK)(a:Ad)(E E1:XE):TS:=(A0 (BC (DS K a 8) [] E (AC (A4 (FF K) (AC (BO (a "Plank") "read" (FH K a) [] E (AA 1) (AC (AA 3) AE)) AE)) (AC (A4 (FF K) (AC (AI (AV K) (BS (AA 2) (tC (.str "rows"))) (AA 3)) AE)) AE))))
theorem xM:type_of% (AF (UC.eq_1 K a E E1) D σ H):=rfl
def UD(K:FK)(a:Ad)(E:XE):TS:=(AK (eG K a E E) (AK (eI K a E E) (AK (eJ K a E E) (AK (eK K a E E) (AK (eO K a E E) (AK (eP K a E E) (UC K a E E)))))))
def xN(K:FK)(a:Ad)(E E1:XE):TS:=(A0 (tC (.bl false)))
def eQ(K:FK)(a:Ad)(E E1:XE):TS:=(BF (CU (C6 K (BC (DS K a 8) [] E (AC (BO (a "Hold") "in_hand" (IP K a) [] E (AA 0) (AC (AA 2) AE)) (AC (AI (AV K) (AI (AV K) (BS (AA 1) (tC (.str "changes"))) (BS (BS (AA 1) (tC (.str "last"))) (AA 2))) (tC (.int 1))) AE))))) (xN K a E E) BL)
theorem xO:type_of% (AF (eQ.eq_1 K a E E1) D σ H):=rfl
def xP(K:FK)(a:Ad)(E E1:XE):TS:=(A0 (tC (.bl false)))
def eR(K:FK)(a:Ad)(E E1:XE):TS:=(BF (CU (C6 K (BC (DS K a 8) [] E (AC (BO (a "Hold") "newest" (G5 K a) [] E (AA 0) (AC (AA 2) AE)) (AC (BS (BS (AA 1) (tC (.str "last"))) (AA 2)) AE))))) (xP K a E E) BL)
theorem xQ:type_of% (AF (eR.eq_1 K a E E1) D σ H):=rfl
def eU(K:FK)(a:Ad)(E E1:XE):TS:=(CL (RN (BS (AA 1) (tC (.str "last")))) (AS 2) (AK (eQ K a E E) (eR K a E E)))
theorem xR:type_of% (AF (eU.eq_1 K a E E1) D σ H):=rfl
def xS(K:FK)(a:Ad)(E E1:XE):TS:=(A0 (tC (.bl false)))
def eV(K:FK)(a:Ad)(E E1:XE):TS:=(BF (BW (AI (CP K) (BO (a "Hold") "needed" (IQ K a) [] E (AA 0) (AC (AA 3) AE)) (JU K (AI (AV K) (AI (AV K) (BS (AA 1) (tC (.str "changes"))) (AA 3)) (tC (.int 2)))))) (xS K a E E) BL)
theorem xT:type_of% (AF (eV.eq_1 K a E E1) D σ H):=rfl
def eX(K:FK)(a:Ad)(E E1:XE):TS:=(CL (D9 (AC (A4 (C7 K) (AC (BS (AA 1) (tC (.str "changes"))) AE)) AE)) (AS 3) (eV K a E E))
theorem xU:type_of% (AF (eX.eq_1 K a E E1) D σ H):=rfl
def xV(K:FK)(a:Ad)(E E1:XE):TS:=(A0 (tC (.bl false)))
def eY(K:FK)(a:Ad)(E E1:XE):TS:=(BF (EN (BW (AI (CP K) (AA 4) (AA 5))) (BW (AI (CP K) (AA 6) (AA 7)))) (xV K a E E) BL)
theorem xW:type_of% (AF (eY.eq_1 K a E E1) D σ H):=rfl
def eZ(K:FK)(a:Ad)(E E1:XE):TS:=(CL (C0 K (BS (AA 1) (tC (.str "held")))) (HU K 4 (D8 (AS 4) (D8 (AS 5) (D8 (AS 6) (D8 (AS 7) HS))))) (eY K a E E))
theorem xX:type_of% (AF (eZ.eq_1 K a E E1) D σ H):=rfl
def xY(K:FK)(a:Ad)(E E1:XE):TS:=(A0 (tC (.bl false)))
def fA(K:FK)(a:Ad)(E E1:XE):TS:=(BF (BW (AI (CP K) (DL (C0 K (BS (AA 1) (tC (.str "told")))) (HU K 2 (D8 (AS 0) (D8 (AS 1) HS))) (BW (AI (CP K) (AA 0) (AA 1))) (AA 0) 2 []) (C3 AE))) (xY K a E E) BL)
theorem xZ:type_of% (AF (fA.eq_1 K a E E1) D σ H):=rfl
def UE(K:FK)(a:Ad)(E E1:XE):TS:=(A8 (DL (D9 (AC (A4 (C7 K) (AC (BS (AA 1) (tC (.str "changes"))) AE)) AE)) (AS 0) (tB (EG (AA 0) (BS (AA 1) (tC (.str "gone"))))) (AA 0) 1 [1]) (AS 8))
theorem x3:type_of% (AF (UE.eq_1 K a E E1) D σ H):=rfl
def UF(K:FK)(a:Ad)(E E1:XE):TS:=(A8 (BO (a "Hold") "waiting" (F6 K a) [] E (AA 0) AE) (AS 9))
theorem x4:type_of% (AF (UF.eq_1 K a E E1) D σ H):=rfl
def x8(K:FK)(a:Ad)(E E1:XE):TS:=(A0 (tC (.bl false)))
def UG(K:FK)(a:Ad)(E E1:XE):TS:=(BF (BW (AI (CP K) (AA 9) (AA 8))) (x8 K a E E) BL)
theorem x9:type_of% (AF (UG.eq_1 K a E E1) D σ H):=rfl
def UH(K:FK)(a:Ad)(E E1:XE):TS:=(CV (NS K "list" XA (AA 9)))
theorem yA:type_of% (AF (UH.eq_1 K a E E1) D σ H):=rfl
def UI(K:FK)(a:Ad)(E E1:XE):TS:=(A0 (FO (A4 (DM K) (AC (AA 0) (AC (tC (.ref (a "Book"))) AE))) (AI (CM K) (BO (a "Hold") "waiting" (F6 K a) [] E (AA 0) AE) (AA 8))))
theorem yB:type_of% (AF (UI.eq_1 K a E E1) D σ H):=rfl
def UJ(K:FK)(a:Ad)(E:XE):TS:=(AK (eU K a E E) (AK (eX K a E E) (AK (eZ K a E E) (AK (fA K a E E) (AK (UE K a E E) (AK (UF K a E E) (AK (UG K a E E) (AK (UH K a E E) (UI K a E E)))))))))
def fB(K:FK)(a:Ad)(E E1:XE):TS:=(A8 (AI (C5 K) (tC (.int 1)) (AI FY (AA 2) (AI L9 (tC (.int 10)) (tC (.int 30))))) (AS 5))
theorem yC:type_of% (AF (fB.eq_1 K a E E1) D σ H):=rfl
def fC(K:FK)(a:Ad)(E E1:XE):TS:=(A8 (AI (AV K) (C3 (AC (PZ W8 (tC (.int 1))) (AC (AI (AV K) (AA 3) (tC (.int 0))) (AC (AI IA (tC (.int 0)) (AA 5)) (AC (AI (C5 K) (AI (AV K) (AA 3) (tC (.int 0))) (AA 5)) AE))))) (BC (CD K a) [] E (AC (AA 2) (AC (tC (.int 10103)) (AC (tC (.int 4)) AE))))) (AS 6))
theorem yD:type_of% (AF (fC.eq_1 K a E E1) D σ H):=rfl
def yE(K:FK)(a:Ad)(E E1:XE):TS:=(A0 (tC (.bl false)))
def UK(K:FK)(a:Ad)(E E1:XE):TS:=(BF (CU (C6 K (BC (M0 K a) [] E (AC (AA 0) (AC (AA 6) AE))))) (yE K a E E) BL)
theorem yF:type_of% (AF (UK.eq_1 K a E E1) D σ H):=rfl
def fD(K:FK)(a:Ad)(E E1:XE):TS:=(BF (BW (AI (CM K) (BC (CD K a) [] E (AC (AA 2) (AC (tC (.int 10099)) (AC (tC (.int 16)) AE)))) (tC (.int 0)))) (AK (fB K a E E) (AK (fC K a E E) (UK K a E E))) BL)
theorem yG:type_of% (AF (fD.eq_1 K a E E1) D σ H):=rfl
def O1(K:FK)(a:Ad)(E E1:XE):TS:=(A8 (BC (CD K a) [] E (AC (AA 2) (AC (tC (.int 10111)) (AC (AI (AV K) (AA 3) (tC (.int 0))) AE)))) (AS 7))
theorem yH:type_of% (AF (O1.eq_1 K a E E1) D σ H):=rfl
def yI(K:FK)(a:Ad)(E E1:XE):TS:=(A0 (tC (.bl false)))
def fE(K:FK)(a:Ad)(E E1:XE):TS:=(BF (CU (C6 K (BC (MZ K a) [] E (AC (AA 0) (AC (AA 1) (AC (AA 4) (AC (BC (CD K a) [] E (AC (AA 2) (AC (tC (.int 10139)) (AC (AI (AV K) (AA 3) (tC (.int 0))) AE)))) AE))))))) (yI K a E E) BL)
theorem yJ:type_of% (AF (fE.eq_1 K a E E1) D σ H):=rfl
def fG(K:FK)(a:Ad)(E E1:XE):TS:=(FW (AA 4) (tC (.str "many")) (AI (C5 K) (BS (AA 4) (tC (.str "many"))) (tC (.int 1))))
theorem yK:type_of% (AF (fG.eq_1 K a E E1) D σ H):=rfl
def yL(K:FK)(a:Ad)(E E1:XE):TS:=(A0 (tC (.bl false)))
def fH(K:FK)(a:Ad)(E E1:XE):TS:=(BF (CU (C6 K (BC (MW K a) [] E (AC (AA 0) (AC (AA 2) (AC (AA 3) (AC (AA 4) AE))))))) (yL K a E E) BL)
theorem yM:type_of% (AF (fH.eq_1 K a E E1) D σ H):=rfl
def O2(K:FK)(a:Ad)(E E1:XE):TS:=(BF (BW (AI GF (BC (CD K a) [] E (AC (AA 2) (AC (tC (.int 10133)) (AC (tC (.int 8)) AE)))) (tC (.int 3)))) (AK (fE K a E E) (fG K a E E)) (fH K a E E))
theorem yN:type_of% (AF (O2.eq_1 K a E E1) D σ H):=rfl
def yO(K:FK)(a:Ad)(E E1:XE):TS:=(A0 (tC (.bl false)))
def M6(K:FK)(a:Ad)(E E1:XE):TS:=(BF (CU (C6 K (BC (DS K a 8) [] E (AC (A4 (FF K) (AC (BO (a "Plank") "read" (FH K a) [] E (AA 1) (AC (AA 7) AE)) AE)) (AC (A4 (FF K) (AC (AI (AV K) (BS (AA 4) (tC (.str "rows"))) (AA 7)) AE)) AE))))) (yO K a E E) BL)
theorem yP:type_of% (AF (M6.eq_1 K a E E1) D σ H):=rfl
def M7(K:FK)(a:Ad)(E E1:XE):TS:=(A0 (FO (AI (CM K) (BO (a "Plank") "writings" (IH K a) [] E (AA 1) AE) (BS (AA 4) (tC (.str "many")))) (BC (M3 K a) [] E (AC (AA 0) (AC (AA 4) (AC (AA 2) AE))))))
theorem yQ:type_of% (AF (M7.eq_1 K a E E1) D σ H):=rfl
def UL(K:FK)(a:Ad)(E:XE):TS:=(AK (fD K a E E) (AK (O1 K a E E) (AK (O2 K a E E) (AK (M6 K a E E) (M7 K a E E)))))
def fI(K:FK)(a:Ad)(E E1:XE):TS:=(A8 (BC (IM K a) [] E (AC (AA 0) (AC (tC (.int 0)) AE))) (AS 1))
theorem yR:type_of% (AF (fI.eq_1 K a E E1) D σ H):=rfl
def fJ(K:FK)(a:Ad)(E E1:XE):TS:=(A8 (DK (AC (AI (C5 K) (tC (.int 1)) (BC (CD K a) [] E (AC (AA 1) (AC (tC (.int 10141)) (AC (tC (.int 8)) AE))))) (AC (AI (C5 K) (tC (.int 1)) (BC (CD K a) [] E (AC (AA 1) (AC (tC (.int 10151)) (AC (tC (.int 6)) AE))))) AE))) (AS 2))
theorem yS:type_of% (AF (fJ.eq_1 K a E E1) D σ H):=rfl
def fK(K:FK)(a:Ad)(E E1:XE):TS:=(A8 (DK (AC (tC (.int 40)) (AC (AI (AV K) (AA 2) (tC (.int 1))) AE))) (AS 2))
theorem yT:type_of% (AF (fK.eq_1 K a E E1) D σ H):=rfl
def fM(K:FK)(a:Ad)(E E1:XE):TS:=(BF (BW (AI (CM K) (BC (CD K a) [] E (AC (AA 1) (AC (tC (.int 10163)) (AC (tC (.int 8)) AE)))) (tC (.int 5)))) (fK K a E E) BL)
theorem yU:type_of% (AF (fM.eq_1 K a E E1) D σ H):=rfl
def UM(K:FK)(a:Ad)(E E1:XE):TS:=(A8 (JL (a "Plank") (JV K a) [] E (AC (AI (AV K) (AA 2) (tC (.int 0))) (AC (AI (AV K) (AA 2) (tC (.int 1))) AE))) (AS 3))
theorem yV:type_of% (AF (UM.eq_1 K a E E1) D σ H):=rfl
def UN(K:FK)(a:Ad)(E E1:XE):TS:=(A8 (DL (D9 (AC (AI (AV K) (AA 2) (tC (.int 0))) AE)) (AS 0) GD (DL (D9 (AC (AI (AV K) (AA 1) (tC (.int 1))) AE)) (AS 0) GD (tC .non) 1 []) 1 [2]) (AS 4))
theorem yW:type_of% (AF (UN.eq_1 K a E E1) D σ H):=rfl
def fN(K:FK)(a:Ad)(E E1:XE):TS:=(A8 (DL (D9 (AC (AI (AV K) (AA 2) (tC (.int 1))) AE)) (AS 0) GD (BC (IR K a) [] (λ_=>E0) (AC (AI (C5 K) (AI (C5 K) (AA 1) (AI (ES K) (tC (.int 5)) (AA 0))) (AA 2)) AE)) 1 [1,5]) (JH (AA 4) (AI FY (AA 5) (AI (AV K) (AA 2) (tC (.int 0)))) MA))
theorem yX:type_of% (AF (fN.eq_1 K a E E1) D σ H):=rfl
def fP(K:FK)(a:Ad)(E E1:XE):TS:=(CV (BO (a "Plank") "write" (II K a) [] E (AA 3) (AC (AI FY (AA 5) (AI (AV K) (AA 2) (tC (.int 0)))) (AC (A4 (ET K) (AC (AI (AV K) (AA 4) (AI FY (AA 5) (AI (AV K) (AA 2) (tC (.int 0))))) AE)) AE))))
theorem yY:type_of% (AF (fP.eq_1 K a E E1) D σ H):=rfl
def UO(K:FK)(a:Ad)(E E1:XE):TS:=(CL (D9 (AC (BC (CD K a) [] E (AC (AA 1) (AC (tC (.int 10159)) (AC (tC (.int 3)) AE)))) AE)) (AS 5) (AK (fN K a E E) (fP K a E E)))
theorem yZ:type_of% (AF (UO.eq_1 K a E E1) D σ H):=rfl
def O3(K:FK)(a:Ad)(E E1:XE):TS:=(A8 (QM [((tC (.str "changes")),(C3 AE)),((tC (.str "last")),NU),((tC (.str "gone")),JN),((tC (.str "rows")),(AA 4)),((tC (.str "many")),(BO (a "Plank") "writings" (IH K a) [] E (AA 3) AE)),((tC (.str "held")),(C3 AE))]) (AS 6))
theorem y0:type_of% (AF (O3.eq_1 K a E E1) D σ H):=rfl
def O4(K:FK)(a:Ad)(E E1:XE):TS:=(FW (AA 6) (tC (.str "told")) (C3 AE))
theorem zA:type_of% (AF (O4.eq_1 K a E E1) D σ H):=rfl
def O5(K:FK)(a:Ad)(E E1:XE):TS:=(A8 (JL (a "Hold") (JZ K a) [] E (AC (AA 3) AE)) (AS 7))
theorem zB:type_of% (AF (O5.eq_1 K a E E1) D σ H):=rfl
def zC(K:FK)(a:Ad)(E E1:XE):TS:=(A0 (tC (.bl false)))
def fQ(K:FK)(a:Ad)(E E1:XE):TS:=(BF (CU (C6 K (BC (M4 K a) [] E (AC (AA 7) (AC (AA 3) (AC (AA 8) (AC (AA 2) (AC (AA 6) AE)))))))) (zC K a E E) BL)
theorem zD:type_of% (AF (fQ.eq_1 K a E E1) D σ H):=rfl
def O6(K:FK)(a:Ad)(E E1:XE):TS:=(CL (C0 K (QD (N4 K) (AA 0) (NR (tC (.int 1))) (NR (tC (.int 201))))) (AS 8) (fQ K a E E))
theorem zE:type_of% (AF (O6.eq_1 K a E E1) D σ H):=rfl
def O7(K:FK)(a:Ad)(E E1:XE):TS:=(A0 (BC (M5 K a) [] E (AC (AA 7) (AC (AA 6) AE))))
theorem zF:type_of% (AF (O7.eq_1 K a E E1) D σ H):=rfl
def UP(K:FK)(a:Ad)(E:XE):TS:=(AK (fI K a E E) (AK (fJ K a E E) (AK (fM K a E E) (AK (UM K a E E) (AK (UN K a E E) (AK (UO K a E E) (AK (O3 K a E E) (AK (O4 K a E E) (AK (O5 K a E E) (AK (O6 K a E E) (O7 K a E E)))))))))))
end
end L2
namespace L2
local macro_rules
 | `(tactic| push_cast[$ls,*])=>`(tactic| simp only[↓mC,↓mD,↓mE,↓mF,↓mG,↓mH,↓mI,↓mJ,↓mK,↓mM,↓mP,↓mQ,↓mR,↓mS,↓mT,↓mU,↓mV,↓mX,↓mY,↓mZ,↓m7,↓m8,↓m9,↓nA,↓nD,↓nE,↓nJ,↓nK,↓nQ,↓nS,↓nT,↓nU,↓nX,↓nY,↓nZ,↓oA,↓oB,↓oC,↓oE,↓oF,↓oG,↓oH,↓oI,↓oJ,
     ↓oK,↓oM,↓oO,↓oP,↓oQ,↓oR,↓oU,↓oV,↓oW,↓o0,↓o6,↓o3,↓o7,↓o8,↓o9,↓pA,↓pB,↓oY,↓oX,↓oZ,↓pC,↓pD,↓pE,↓pF,↓pG,↓pH,↓pJ,↓pK,↓pL,↓XD,↓Q2,
     IA,FY,W7,L9,W8,lP,Ends.drop,BD,List.map_cons,List.map_nil,List.length_cons,List.length_nil,List.reduceReplicate,Nat.reduceAdd,Nat.reduceSub,Nat.zero_add,List.cons_append,List.nil_append,List.append_nil,List.getElem?_cons_zero,List.getElem?_cons_succ,Option.some.injEq,Option.join_some,List.set_cons_zero,List.set_cons_succ,
     V.int.injEq,V.ref.injEq,V.bl.injEq,V.str.injEq,List.cons.injEq,and_true,true_and,exists_eq_left',exists_eq_left,exists_eq',exists_eq,exists_and_left,exists_and_right,reduceCtorEq,false_and,and_false,or_false,false_or,exists_false,decide_eq_true_eq,Bool.not_eq_true',Bool.not_eq_true,decide_eq_false_iff_not,eq_self_iff_true,if_true,Bool.false_eq_true,if_false,ite_true,Bool.true_eq_false,forall_const,and_assoc,Int.reduceToNat,Int.reduceLT,Int.reduceLE,Int.reduceEq,Nat.reduceLeDiff,Int.toNat_natCast,not_true_eq_false,not_false_eq_true,Bool.not_false,Bool.not_true,↓rP,↓rQ,↓rR,↓rS,↓rT,↓rV,↓rW,↓rX,↓rY,↓rN,↓rM,↓qA,$ls,*])
section
variable{K:W.Frag}{a:Ad}{vs:List V}{H:Hp}{Q:VK}{E:XK}
theorem zG(h:JV K a vs H Q E):SN K a (λ_=>E) (BB Q) (BD ["self","blocks","cells"] vs) H:=by
 obtain⟨p,dx,m,w,rfl,T,hp,hm,h1,h2,q⟩:=h
 push_cast[SN,↓tS,↓tT,↓tU]
 refine⟨by omega,by omega,?_⟩
 refine MC (small m (by omega)) (λi ys H'=>Same H H'/\∃ ts:List Addr,ys=ts.map V.ref/\Paired (λt r=>H' t=some (.tup r)) ts (List.replicate i (List.replicate w .non))) ⟨Same.refl _,[],rfl,.nil⟩ (λi ys H' hi hl ⟨s,ts,e,P⟩=> ?_) (λys H' hl ⟨s,ts,e,P⟩ cl hcl=> ?_)
 ·push_cast[DX,Option.join_some,Int.zero_add]
  refine⟨by decide,λt ht=>.inr ?_⟩
  have fin:∀ (t':Addr) (H2:Hp),Same H' H2->H2 t'=some (.tup (List.replicate w .non))->Same H H2/\∃ ts':List Addr,ys++[V.ref t']=ts'.map V.ref/\Paired (λt r=>H2 t=some (.tup r)) ts' (List.replicate (i+1) (List.replicate w .non)):=λt' H2 s2 e2=>by
   refine⟨s.trans s2,ts++[t'],by rw[e,List.map_append];rfl,?_⟩
   rw[List.replicate_succ']
   exact Paired.snoc (Paired.mapP P λt r z=>s2 _ _ z) e2
  have s1:Same H' (upd H' t (.tup [V.non])):=λb o z=>by rw[AH (AX z ht)];exact z
  refine⟨t,w,[.non],rfl,rfl,SqT.of AJ,by simp,by omega,by omega,small _ (by simp;omega),λe1=> ?_,λe1 u hu=> ?_⟩
  ·have e1:w=1:=by omega
   refine fin t _ s1 ?_
   rw[AJ,e1];rfl
  ·rw[Int.toNat_natCast,XG]
   exact fin u _ (s1.trans λb o z=>by rw[AH (AX z hu)];exact z) AJ
 ·have npc:p≠cl:=AX (s _ _ hp) hcl
  have e1:upd H' cl (HO.lst ys) p=some (HO.ins (a "Plank") dx []):=by rw[AH npc];exact s _ _ hp
  refine⟨_,_,_,e1,T.cl,T.nC,by decide,_,_,_,AJ,T.cl,T.nW,Q5 (by decide),_,_,_,AJ,T.cl,T.nN,Q5 (n:=1000) (Nat.succ_lt_succ (Q5 (n:=999) (by decide))),?_⟩
  rw[sW,GQ,GQ]
  refine q cl _ (s.free hcl) ⟨⟨dx,AJ⟩,⟨ts,by rw[AH npc.symm,AJ,e],?_⟩,λr hr=> ?_,by simpa using hm,h2⟩ λb o eb hb=> ?_
  ·refine Paired.mapP P λt r z=> ?_
   rw[AH (AQ z (s _ _ hp) (by intro z';cases z')),AH (AX z hcl)]
   exact z
  ·rw[List.eq_of_mem_replicate hr,List.length_replicate]
  ·rw[AH hb,AH (AX (s _ _ eb) hcl)]
   exact s _ _ eb
theorem zH(h:IG K a vs H Q E):SO K a (λ_=>E) (BB Q) (BD ["self"] vs) H:=by
 obtain⟨p,cl,w,rows,n,rfl,T,P,q⟩:=h
 obtain⟨dx,h1⟩:=P.ob
 obtain⟨ts,h2,h3⟩:=P.ls
 push_cast[SO,↓tV]
 refine⟨_,_,_,h1,T.cl,T.nC,_,OL _ _ _,rows.length,.inl ⟨_,SqL.of h2,?_⟩,q⟩
 rw[List.length_map,h3.length]
theorem zI(h:MF K a vs H Q E):SQ K a (λ_=>E) (BB Q) (BD ["self"] vs) H:=by
 obtain⟨p,cl,w,rows,n,rfl,T,P,q⟩:=h
 obtain⟨dx,h1⟩:=P.ob
 push_cast[SQ,↓tW]
 exact⟨_,_,_,h1,T.cl,T.nW,_,X8 _ _ _,q⟩
theorem zJ(h:G2 K a vs H Q E):SS K a (λ_=>E) (BB Q) (BD ["self","block"] vs) H:=by
 obtain⟨p,cl,w,rows,n,b,rfl,T,P,q,qe⟩:=h
 obtain⟨dx,h1⟩:=P.ob
 obtain⟨ts,h2,h3⟩:=P.ls
 push_cast[SS,↓tY,↓tZ]
 have hl:rows.length=(ts.map V.ref).length:=by rw[List.length_map,h3.length]
 split
 ·rename_i h0
  refine⟨_,_,_,h1,T.cl,T.nC,_,OL _ _ _,rows.length,.inl ⟨_,SqL.of h2,hl⟩,?_⟩
  split
  ·exact⟨by decide,qe (by omega)⟩
  ·exact q h0 (by omega)
 ·exact⟨by decide,qe (by omega)⟩
theorem fR(cl:Addr)(w n:Int):(pf cl w n).lookup ("ask_for_block":Str)=none:=IF _ _ _ (by decide +kernel) (by decide +kernel) (by decide +kernel)
theorem zK(h:FH K a vs H Q E):TM K a (λ_=>E) (BB Q) (BD ["self","block"] vs) H:=by
 obtain⟨p,cl,w,rows,n,b,rfl,T,P,q,qe⟩:=h
 obtain⟨dx,h1⟩:=P.ob
 obtain⟨ts,h2,h3⟩:=P.ls
 push_cast[TM,↓uT,↓uU,G2]
 refine⟨_,_,h1,fR _ _ _,T,cl,w,rows,⟨n,P⟩,λh0 hb=>⟨_,_,_,h1,T.cl,T.nC,_,OL _ _ _,?_⟩,qe⟩
 obtain⟨i,rfl⟩:∃ i:Nat,b=i:=⟨b.toNat,by omega⟩
 have hi:i<rows.length:=by omega
 obtain⟨t,et,ht⟩:=EC h3 (List.getElem?_eq_getElem hi)
 refine B0 (SqL.of h2) rfl (v:=.ref t) (by rw[List.getElem?_map,et];rfl) ?_
 rw[XD]
 exact⟨_,.inr (SqT.of ht),q i _ rfl (List.getElem?_eq_getElem hi)⟩
theorem zL(h:II K a vs H Q E):TN K a (λ_=>E) (BB Q) (BD ["self","block","values"] vs) H:=by
 obtain⟨p,cl,w,rows,n,b,v,xs,rfl,T,P,hv,hx,q,qe⟩:=h
 obtain⟨dx,h1⟩:=P.ob
 obtain⟨ts,h2,h3⟩:=P.ls
 have npc:=P.ne
 push_cast[TN,↓uV,↓uW,↓uX,↓uY,↓uZ,G2]
 refine⟨_,_,h1,fR _ _ _,T,cl,w,rows,⟨n,P⟩,λh0 hb=>⟨xs.length,.inl ⟨_,hv,rfl⟩,_,_,_,h1,T.cl,T.nW,_,X8 _ _ _,?_⟩,λz=>qe (z.imp id .inl)⟩
 obtain⟨i,rfl⟩:∃ i:Nat,b=i:=⟨b.toNat,by omega⟩
 have hi:i<rows.length:=by omega
 push_cast[]
 split
 ·exact⟨by decide,qe (.inr (.inr (by omega)))⟩
 ·rename_i hw
  have hw:xs.length=w:=by omega
  refine⟨xs,.inl ⟨hv,λt ht=> ?_⟩⟩
  have ntp:p≠t:=AX h1 ht
  have ntc:cl≠t:=AX h2 ht
  refine⟨_,_,_,by rw[AH ntp];exact h1,T.cl,T.nC,_,OL _ _ _,?_⟩
  refine⟨cl,ts.map V.ref,(i:Int),i,rfl,rfl,by rw[AH ntc];exact h2,?_,?_⟩
  ·unfold FS
   rw[if_pos (by omega),if_pos (by rw[List.length_map,h3.length];omega),Int.toNat_natCast]
  ·refine⟨_,_,_,by rw[AH npc,AH ntp];exact h1,T.cl,T.nN,_,X9 _ _ _,?_⟩
   push_cast[]
   refine⟨_,_,by rw[AH npc,AH ntp];exact h1,by show 3<1000;decide,?_⟩
   rw[sX]
   refine q i rfl hi hw _ ⟨⟨dx,AJ⟩,⟨ts.set i t,?_,?_⟩,λr hr=> ?_,by rw[List.length_set];exact P.sz,P.sw⟩ λx o ex hxn=> ?_
   ·rw[AH npc.symm,AJ,List.map_set]
   ·have keep:∀ u r,H u=some (.tup r)->upd (upd (upd H t (.tup xs)) cl (.lst ((ts.map V.ref).set i (.ref t)))) p (.ins (a "Plank") dx (pf cl w ((n:Int)+1))) u=some (.tup r):=λu r hu=>by
     rw[AH (AQ hu h1 (by intro z;cases z)),AH (AQ hu h2 (by intro z;cases z)),AH (AX hu ht)]
     exact hu
    refine Q4 ?_ i (Paired.mapP h3 keep)
    rw[AH ntp.symm,AH ntc.symm,AJ]
   ·rcases List.mem_or_eq_of_mem_set hr with z | z
    ·exact P.wd r z
    ·rw[z];exact hw
   ·have hxn:x≠p/\x≠cl:=⟨λz=>hxn (.inl z),λz=>hxn (.inr z)⟩
    rw[AH hxn.1,AH hxn.2,AH (AX ex ht)]
    exact ex
theorem UQ(cl:Addr)(w n:Int):(pf cl w n).lookup ("read":Str)=none:=IF _ _ _ (by decide +kernel) (by decide +kernel) (by decide +kernel)
theorem fS(cl:Addr)(w n:Int):(pf cl w n).lookup ("write":Str)=none:=IF _ _ _ (by decide +kernel) (by decide +kernel) (by decide +kernel)
theorem zM(cl:Addr)(w n:Int):(pf cl w n).lookup ("writings":Str)=none:=IF _ _ _ (by decide +kernel) (by decide +kernel) (by decide +kernel)
theorem zN(h:JV K a vs H Q E):vs.length=3:=by
 obtain⟨_,_,_,_,rfl,_⟩:=h
 rfl
theorem zO(h:IG K a vs H Q E):vs.length=1:=by
 obtain⟨_,_,_,_,_,rfl,_⟩:=h
 rfl
theorem zP(h:MF K a vs H Q E):vs.length=1:=by
 obtain⟨_,_,_,_,_,rfl,_⟩:=h
 rfl
theorem zQ(h:G2 K a vs H Q E):vs.length=2:=by
 obtain⟨_,_,_,_,_,_,rfl,_⟩:=h
 rfl
theorem zR(h:FH K a vs H Q E):vs.length=2:=by
 obtain⟨_,_,_,_,_,_,rfl,_⟩:=h
 rfl
theorem zS(h:II K a vs H Q E):vs.length=3:=by
 obtain⟨_,_,_,_,_,_,_,_,rfl,_⟩:=h
 rfl
theorem zT(h:IH K a vs H Q E):SR K a (λ_=>E) (BB Q) (BD ["self"] vs) H:=by
 obtain⟨p,cl,w,rows,n,rfl,T,P,q⟩:=h
 obtain⟨dx,h1⟩:=P.ob
 push_cast[SR,↓tX]
 exact⟨_,_,_,h1,T.cl,T.nN,_,X9 _ _ _,q⟩
theorem zU(h:IH K a vs H Q E):vs.length=1:=by
 obtain⟨_,_,_,_,_,rfl,_⟩:=h
 rfl
theorem zV(h:CD K a vs H Q E):SU K a (λ_=>E) (BB Q) (BD ["cell","prime","many","low"] vs) H:=by
 obtain⟨c,p,m,rfl,h0,h1,h2,q⟩:=h
 push_cast[SU,↓t6,↓t7]
 have b1:=Int.emod_nonneg (c+p / 3) (show p≠0 by omega)
 have b2:=Int.emod_lt_of_pos (c+p / 3) h0
 unfold CQ at q
 revert b1 b2 q
 generalize (c+p / 3) % p=low
 intro q b1 b2
 have b3:=Int.emod_nonneg (low * low) (show p≠0 by omega)
 have b4:=Int.emod_lt_of_pos (low * low) h0
 exact⟨⟨by decide,by decide⟩,h0,.inl ⟨by omega,by omega⟩,h0,.inl ⟨by omega,by omega⟩,h0,h2,q⟩
theorem zW(h:IM K a vs H Q E):ST K a (λ_=>E) (BB Q) (BD ["script","k"] vs) H:=by
 obtain⟨s,ns,k,rfl,hs,hl,q⟩:=h
 push_cast[ST,↓t0,↓t4,↓t5]
 refine⟨ns.length,?_,?_⟩
 ·exact .inl ⟨_,hs,(List.length_map _).symm⟩
 split
 ·rename_i hk
  have hk:k<ns.length:=by omega
  refine B0 hs rfl (v:=.int (IL ns k)) ?_ q
  unfold IL
  rw[List.getElem?_map,List.getElem?_eq_getElem hk]
  simp[List.getD,hk]
 ·rename_i hk
  have:IL ns k=0:=by
   unfold IL
   rw[List.getD_eq_getElem?_getD,List.getElem?_eq_none (by omega)];rfl
  rw[this]at q
  exact q
theorem zX(h:CD K a vs H Q E):vs.length=3:=by
 obtain⟨_,_,_,rfl,_⟩:=h
 rfl
theorem zY(h:IM K a vs H Q E):vs.length=2:=by
 obtain⟨_,_,_,rfl,_⟩:=h
 rfl
theorem EY{f:Str}{v:V}{fs:List (Str × V)}{n:Nat}(h:fs.length<n):(A6 f v fs).length<n+1:=Nat.lt_of_le_of_lt (NN f v fs) (Nat.succ_lt_succ h)
theorem SameBut.none{b:Addr}{H H1:Hp}{x:Addr}(s:SameBut (· =b) H H1)(hb:H1 b≠Option.none)(h:H1 x=Option.none):H x=Option.none:=by
 cases e:H x with
 | none=>rfl
 | some o =>
  have:x≠b:=λz=>hb (z ▸ h)
  rw[s _ _ e this]at h
  cases h
theorem zZ(h:MK K a vs H Q E):R7 K a (λ_=>E) (BB Q) (BD ["self","place","value","needs"] vs) H:=by
 obtain⟨x,dx,pl,v,nt,rfl,T,hx,q⟩:=h
 push_cast[R7,↓tO,↓tP,↓tQ]
 refine⟨_,_,_,hx,T.cc,T.nP,by decide,_,_,_,AJ,T.cc,T.nV,EY (n:=999) (by decide),_,_,_,AJ,T.cc,T.nN,EY (n:=999) (EY (n:=998) (by decide)),?_⟩
 rw[tD,GQ,GQ]
 exact q
theorem Ab(h:MK K a vs H Q E):vs.length=4:=by
 obtain⟨_,_,_,_,_,rfl,_⟩:=h
 rfl
theorem Ac(h:JZ K a vs H Q E):SX K a (λ_=>E) (BB Q) (BD ["self","plank"] vs) H:=by
 obtain⟨b,gp,cl,dx,w,rows,n,rfl,T,TP,P,hb,q⟩:=h
 push_cast[SX,↓uK,↓uL,↓uM,↓uN,↓uO]
 refine⟨_,_,_,hb,T.cl,T.nG,by decide,by decide,?_⟩
 have e1:upd H b (.ins (DZ a) dx (A6 "ground" (.ref gp) [])) b=some (.ins (DZ a) dx (A6 "ground" (.ref gp) [])):=AJ
 have s1:SameBut (· =b) H (upd H b (.ins (DZ a) dx (A6 "ground" (.ref gp) []))):=λx o e n=>by rw[AH n];exact e
 revert e1 s1
 generalize upd H b (.ins (DZ a) dx (A6 "ground" (.ref gp) []))=H1
 intro e1 s1 m hm
 have nbm:b≠m:=AX e1 hm
 have hmH:=s1.none (by rw[e1];intro z;cases z) hm
 refine⟨_,_,_,by rw[AH nbm];exact e1,T.cl,T.nM,EY (n:=999) (by decide),?_⟩
 have s2:SameBut (· =b) H (upd (upd H1 m (.lst [])) b (.ins (DZ a) dx (A6 "made" (.ref m) (A6 "ground" (.ref gp) [])))):=(s1.upd (.inr hmH)).upd (.inl rfl)
 have e2:upd (upd H1 m (.lst [])) b (.ins (DZ a) dx (A6 "made" (.ref m) (A6 "ground" (.ref gp) []))) b=some (.ins (DZ a) dx (A6 "made" (.ref m) (A6 "ground" (.ref gp) []))):=AJ
 have m2:upd (upd H1 m (.lst [])) b (.ins (DZ a) dx (A6 "made" (.ref m) (A6 "ground" (.ref gp) []))) m=some (.lst []):=by rw[AH nbm.symm,AJ]
 revert s2 e2 m2
 generalize upd (upd H1 m (.lst [])) b (.ins (DZ a) dx (A6 "made" (.ref m) (A6 "ground" (.ref gp) [])))=H2
 intro s2 e2 m2
 have gb:∀ x xs,(· =b) x->H x≠some (.tup xs):=λx xs e=>by rw[show x=b from e,hb];intro z;cases z
 have ncl:¬ cl=b:=by obtain⟨ts,z,_⟩:=P.ls;exact AQ z hb (by intro z;cases z)
 have P2:PlankAt a H2 gp cl w rows n:=by
  obtain⟨⟨dx',f1⟩,⟨ts,f2,f3⟩,r1,r2,r3⟩:=P
  exact⟨⟨dx',s2 _ _ f1 (AQ f1 hb (OM (by simp[pf])))⟩,⟨ts,s2 _ _ f2 (AQ f2 hb (by intro z;cases z)),Paired.mapP f3 λt r z=>s2 _ _ z (AQ z hb (by intro z;cases z))⟩,r1,r2,r3⟩
 obtain⟨dp,hp⟩:=P2.ob
 refine⟨_,_,hp,IF _ _ _ (by decide +kernel) (by decide +kernel) (by decide +kernel),gp,cl,w,rows,n,rfl,TP,P2,rows.length,rfl,by omega,by have:=P.sz;omega,?_⟩
 rw[Int.toNat_natCast]
 refine MC (small _ (by have:=P.sz;omega)) (λi ys H'=>Same H2 H'/\∃ ls:List Addr,ys=ls.map V.ref/\ls.Nodup/\∀ l∈ls,H' l=some (.lst [])/\H2 l=none) ⟨Same.refl _,[],rfl,List.nodup_nil,by simp⟩ (λi ys H' hi hl ⟨s,ls,ey,nd,al⟩=> ?_) (λys H' hl ⟨s,ls,ey,nd,al⟩ mi hmi=> ?_)
 ·push_cast[]
  refine⟨by decide,λl hl'=>⟨s.trans (AU hl'),ls++[l],by rw[ey,List.map_append];rfl,?_,λx hx=> ?_⟩⟩
  ·exact List.nodup_append.mpr ⟨nd,by simp,λx hx y hy e=>by rw[List.mem_singleton]at hy;subst hy;subst e;rw[(al _ hx).1]at hl';cases hl'⟩
  ·rcases List.mem_append.mp hx with hx | hx
   ·exact⟨AU hl' _ _ (al x hx).1,(al x hx).2⟩
   ·rw[List.mem_singleton.mp hx];exact⟨AJ,s.free hl'⟩
 ·have s3:SameBut (· =b) H (upd H' mi (.lst ys)):=by
   intro x o e nx
   have e':=s _ _ (s2 _ _ e nx)
   rw[AH (AX e' hmi)];exact e'
  have e3:upd H' mi (.lst ys) b=some (.ins (DZ a) dx (A6 "made" (.ref m) (A6 "ground" (.ref gp) []))):=by rw[AH (AX (s _ _ e2) hmi)];exact s _ _ e2
  have m3:upd H' mi (.lst ys) m=some (.lst []):=by rw[AH (AX (s _ _ m2) hmi)];exact s _ _ m2
  have i3:upd H' mi (.lst ys) mi=some (.lst (ls.map V.ref)):=by rw[AJ,ey]
  have l3:∀ l∈ls,upd H' mi (.lst ys) l=some (.lst [])/\H l=none/\l≠mi/\l≠m:=λl hl'=>by
   have z:=al l hl'
   have n1:=AX z.1 hmi
   exact⟨by rw[AH n1];exact z.1,s2.none (by rw[e2];intro z;cases z) z.2,n1,λy=>by rw[y,m2]at z;cases z.2⟩
  have hmiH:H mi=none:=s2.none (by rw[e2];intro z;cases z) (s.free hmi)
  have nmm:m≠mi:=AX (s _ _ m2) hmi
  have hlen:ls.length=rows.length:=by rw[<-hl,ey,List.length_map]
  revert s3 e3 m3 i3 l3
  generalize upd H' mi (.lst ys)=H3
  intro s3 e3 m3 i3 l3
  refine⟨_,_,_,e3,T.cl,T.nI,EY (n:=999) (EY (n:=998) (by decide)),λlt hlt=> ?_⟩
  have nb4:b≠lt:=AX AJ hlt
  rw[AH nb4.symm]at hlt
  have ltH:H lt=none:=s3.none (by rw[e3];intro z;cases z) hlt
  refine⟨_,_,_,by rw[AH nb4,AJ],T.cl,T.nL,EY (n:=999) (EY (n:=998) (EY (n:=997) (by decide))),λou hou=> ?_⟩
  have nb5:b≠ou:=AX AJ hou
  rw[AH nb5.symm]at hou
  have nl5:lt≠ou:=AX AJ hou
  rw[AH nl5.symm,AH nb5.symm]at hou
  have ouH:H ou=none:=s3.none (by rw[e3];intro z;cases z) hou
  refine⟨_,_,_,by rw[AH nb5,AJ],T.cl,T.nO,EY (n:=999) (EY (n:=998) (EY (n:=997) (EY (n:=996) (by decide)))),?_⟩
  rw[tE]
  generalize eH:upd (upd (upd (upd (upd H3 b _) lt (.dT [])) b _) ou (.dK [])) b (.ins (DZ a) dx (bf gp m mi lt ou))=H5
  have kp:∀ x,x≠b->x≠lt->x≠ou->H5 x=H3 x:=λx n1 n2 n3=>by rw[<-eH,AH n1,AH n3,AH n1,AH n2,AH n1]
  have kk:∀ x o,H3 x=some o->x≠b->H5 x=some o:=λx o e n1=>by rw[kp x n1 (AX e hlt) (AX e hou)];exact e
  have s5:SameBut (· =b) H H5:=λx o e n1=>kk x o (s3 _ _ e n1) n1
  have nbx:∀ x xs,H3 x=some (.lst xs)->x≠b:=λx xs e=>AQ e e3 (by intro z;cases z)
  refine q m mi lt ou ls H5 hmH hmiH ltH ouH (λl hl'=>(l3 l hl').2.1) ⟨⟨⟨dx,by rw[<-eH,AJ]⟩,⟨[],kk _ _ m3 (nbx _ _ m3),.nil⟩,kk _ _ i3 (nbx _ _ i3),λi l e=> ?_,nd,⟨[],?_,λi j=>rfl,Nat.le_refl _⟩,⟨[],?_,λk=>rfl,List.nodup_nil,by simp⟩,by simp,by simp,by simp,⟨nmm,?_,?_,?_,?_,?_⟩,by simp⟩,?_,hlen⟩ s5
  ·have z:=l3 l (List.mem_of_getElem? e)
   exact kk _ _ z.1 (nbx _ _ z.1)
  ·rw[<-eH,AH nb4.symm,AH nl5,AH nb4.symm,AJ]
  ·rw[<-eH,AH nb5.symm,AJ]
  ·exact λz=>(l3 _ z).2.2.2 rfl
  ·exact λz=>(l3 _ z).2.2.1 rfl
  ·obtain⟨ts,z,_⟩:=P.ls;exact AX z hmH
  ·obtain⟨ts,z,_⟩:=P.ls;exact AX z hmiH
  ·obtain⟨ts,z,_⟩:=P.ls;exact λy=>by rw[(l3 _ y).2.1]at z;cases z
  ·obtain⟨⟨dx',f1⟩,⟨ts,f2,f3⟩,r1,r2,r3⟩:=P
   exact⟨⟨dx',s5 _ _ f1 (AQ f1 hb (OM (by simp[pf])))⟩,⟨ts,s5 _ _ f2 (AQ f2 hb (by intro z;cases z)),Paired.mapP f3 λt r z=>s5 _ _ z (AQ z hb (by intro z;cases z))⟩,r1,r2,r3⟩
theorem Ag(h:JZ K a vs H Q E):vs.length=2:=by
 obtain⟨_,_,_,_,_,_,_,rfl,_⟩:=h
 rfl
theorem Ah(h:ML K a vs H Q E):OT K a (λ_=>E) (BB Q) (BD ["needs","ahead"] vs) H:=by
 obtain⟨nl,ns,o,rfl,hs,hl,q⟩:=h
 cases o with
 | none =>
  push_cast[OT,↓Y9,↓ZB,↓ZD,JY]
  refine⟨ns,hs,by omega,λx o D ks hx hD r m l=>⟨_,.inl ⟨SqL.of AJ,λt ht=>q t ks _ (((AU hx).trans (AU hD)).trans (AU ht)) AJ r (λy=> ?_) (by omega)⟩⟩⟩
  rw[m y];simp
 | some k =>
  push_cast[OT,↓Y9,↓ZB,↓ZD,JY]
  refine⟨_,.inl hs,λl hl'=>⟨by decide,λp hp=>.inl ?_⟩⟩
  have np:l≠p:=AX AJ hp
  have s0:Same H (upd (upd H l (.lst (ns.map V.int))) p (.lst [.int k])):=(AU hl').trans (AU hp)
  have e1:upd (upd H l (.lst (ns.map V.int))) p (.lst [.int k]) l=some (.lst (ns.map V.int)):=by rw[AH np,AJ]
  have e2:upd (upd H l (.lst (ns.map V.int))) p (.lst [.int k]) p=some (.lst [.int k]):=AJ
  revert s0 e1 e2
  generalize upd (upd H l (.lst (ns.map V.int))) p (.lst [.int k])=H1
  intro s0 e1 e2
  refine⟨l,p,_,_,rfl,rfl,e1,e2,small _ (by simp;omega),λr hr=>⟨r,rfl,ns++[(k:Int)],?_,by simp;omega,λx o D ks hx hD rs m ll=>⟨_,.inl ⟨SqL.of AJ,λt ht=>q t ks _ ((((s0.trans (AU hr)).trans (AU hx)).trans (AU hD)).trans (AU ht)) AJ rs (λy=> ?_) (by simpa using ll)⟩⟩⟩⟩
  ·rw[List.map_append];exact SqL.of AJ
  ·rw[m y,List.mem_append,List.mem_singleton];simp
theorem Aj(h:ML K a vs H Q E):vs.length=2:=by
 obtain⟨_,_,_,rfl,_⟩:=h
 rfl
theorem Ak(h:MM K a vs H Q E):S0 K a (λ_=>E) (BB Q) (BD ["self","place"] vs) H:=by
 obtain⟨A,w,rows,n,cs,outs,pl,i,j,rfl,T,TP,B,hp,q,qe⟩:=h
 obtain⟨dx,hb⟩:=B.bk.ob
 obtain⟨dp,hg⟩:=B.pk.ob
 have ng:∀ {m:Str},¬ m="contents"->¬ m="width"->¬ m="written"->(pf A.cl w n).lookup m=none:=λh1 h2 h3=>IF _ _ _ h1 h2 h3
 push_cast[S0,↓uR,↓uS]
 refine A7 hp (n:=0) rfl rfl ?_
 push_cast[]
 split
 ·rename_i h0
  refine⟨_,_,_,hb,T.cl,T.nG,_,MG,A.gp,rfl,_,_,hg,ng (by decide +kernel) (by decide +kernel) (by decide +kernel),A.gp,A.cl,w,rows,n,rfl,TP,B.pk,?_⟩
  push_cast[]
  split
  ·exact⟨by decide,qe λz=>by omega⟩
  ·rename_i h1
   refine A7 hp (n:=1) rfl rfl ?_
   push_cast[]
   split
   ·rename_i h2
    refine⟨_,_,_,hb,T.cl,T.nG,_,MG,A.gp,rfl,_,_,hg,ng (by decide +kernel) (by decide +kernel) (by decide +kernel),A.gp,A.cl,w,rows,n,rfl,TP,B.pk,?_⟩
    push_cast[]
    split
    ·exact⟨by decide,qe λz=>by omega⟩
    ·exact q ⟨h0,by omega,h2,by omega⟩
   ·exact⟨by decide,qe λz=>by omega⟩
 ·exact⟨by decide,qe λz=>by omega⟩
theorem Al(h:MM K a vs H Q E):vs.length=2:=by
 obtain⟨_,_,_,_,_,_,_,_,_,rfl,_⟩:=h
 rfl
theorem Am(h:G5 K a vs H Q E):TZ K a (λ_=>E) (BB Q) (BD ["self","place"] vs) H:=by
 obtain⟨A,w,rows,n,cs,outs,pl,i,j,rfl,T,TP,B,hp,q,qe⟩:=h
 obtain⟨dx,hb⟩:=B.bk.ob
 obtain⟨kvs,hl,hv,_⟩:=B.bk.lat
 push_cast[TZ,↓vW,↓vX]
 refine⟨_,_,hb,C1 (by decide +kernel),A,w,rows,n,cs,outs,pl,i,j,rfl,T,TP,B,hp,λh=> ?_,qe⟩
 push_cast[]
 refine⟨_,_,_,hb,T.cl,T.nL,_,YF,A.lt,rfl,.inr ⟨_,.inl hl⟩,_,OJ hl hp,?_⟩
 rw[hv]
 have:=q h
 cases e:DG cs i j with
 | none=>rw[e]at this;exact this
 | some k=>rw[e]at this;exact this
theorem Aq(h:G5 K a vs H Q E):vs.length=2:=by
 obtain⟨_,_,_,_,_,_,_,_,_,rfl,_⟩:=h
 rfl
theorem BookIn.len{C D:Addr}{A:BA}{w:Nat}{cs:List Ch}{outs:Int->Bool}(B:BookIn C D H A w cs outs):∃ xs,H A.m=some (.lst xs)/\xs.length=cs.length:=by
 obtain⟨chs,e,p⟩:=B.made
 exact⟨_,e,by rw[List.length_map,p.length]⟩
theorem Av(h:G6 K a vs H Q E):SA K a (λ_=>E) (BB Q) (BD ["self","numbers","number"] vs) H:=by
 obtain⟨A,w,rows,n,cs,outs,nl,ns,rfl,T,B,hs,q,qe⟩:=h
 obtain⟨dx,hb⟩:=B.bk.ob
 obtain⟨xs,hm,hml⟩:=B.bk.len
 push_cast[SA,↓Y3,↓Y5,↓Y7]
 refine .inl ⟨⟨_,hs⟩,?_⟩
 refine EV (xs:=ns.map V.int) (λi σ H'=>H'=H/\(∃ z,σ=[some (.ref A.b),some (.ref nl),z])/\∀ x∈ns.take i,known cs x) ⟨rfl,⟨_,rfl⟩,by simp⟩ (λi σ H' _ ⟨e,_⟩=>e ▸ hs) (λi x σ H' hx ⟨e,⟨z,ez⟩,kn⟩=> ?_) (λσ H' ⟨e,⟨z,ez⟩,kn⟩=> ?_)
 ·subst e;subst ez
  rw[List.getElem?_map,Option.map_eq_some_iff]at hx
  obtain⟨x',hx',rfl⟩:=hx
  push_cast[↓Y3,↓Y5,↓Y7]
  have bad:¬ known cs x'->1<=sizeLine/\E (.ref (a "NoChange")) none H':=λh=>⟨by decide,qe ⟨x',List.mem_of_getElem? hx',h⟩⟩
  split
  ·rename_i h0
   refine⟨_,_,_,hb,T.cl,T.nM,_,GJ,cs.length,.inl ⟨_,SqL.of hm,hml.symm⟩,?_⟩
   split
   ·exact bad λz=>by omega
   ·intro y hy
    rw[List.take_add_one,hx']at hy
    rcases List.mem_append.mp hy with hy | hy
    ·exact kn y hy
    ·simp only[Option.toList_some,List.mem_singleton]at hy
     subst hy
     exact⟨h0,by omega⟩
  ·exact bad λz=>by omega
 ·subst e
  refine q λx hx=>kn x ?_
  rw[List.length_map,List.take_length];exact hx
theorem Aw(h:G6 K a vs H Q E):vs.length=2:=by
 obtain⟨_,_,_,_,_,_,_,_,rfl,_⟩:=h
 rfl
theorem Ax(h:F6 K a vs H Q E):R9 K a (λ_=>E) (BB Q) (BD ["self"] vs) H:=by
 obtain⟨A,w,rows,n,cs,outs,rfl,T,B,q⟩:=h
 obtain⟨dx,hb⟩:=B.bk.ob
 obtain⟨xs,hm,hml⟩:=B.bk.len
 obtain⟨kvo,ho,hv,_⟩:=B.bk.out
 have sz:=B.bk.sz
 push_cast[R9,↓tR]
 refine⟨_,_,_,hb,T.cl,T.nM,_,GJ,cs.length,.inl ⟨_,SqL.of hm,hml.symm⟩,by omega,by omega,?_⟩
 refine OI (λ(k:Nat)=> !outs k) (small _ (by omega)) (λi hi QB qb=> ?_) λp hp=> ?_
 ·push_cast[DX]
  refine⟨_,_,_,hb,T.cl,T.nO,_,MH,A.ou,rfl,_,dI ho,?_⟩
  rw[hv];exact qb
 ·exact q p _ hp (AU hp) (by rw[AJ];rfl)
theorem Ay(h:F6 K a vs H Q E):vs.length=1:=by
 obtain⟨_,_,_,_,_,_,rfl,_⟩:=h
 rfl
theorem Az(h:MN K a vs H Q E):T6 K a (λ_=>E) (BB Q) (BD ["self","place","value","needs","ahead","number"] vs) H:=by
 obtain⟨A,w,rows,n,cs,outs,pl,nl,v,ns,i,j,rfl,T,TP,B,hp,hs,hl,hc,q,q1,q2⟩:=h
 obtain⟨dx,hb⟩:=B.bk.ob
 obtain⟨xs,hm,hml⟩:=B.bk.len
 push_cast[T6,↓wG]
 refine⟨_,_,hb,C1 (by decide +kernel),A,w,rows,n,cs,outs,pl,i,j,rfl,T,TP,B,hp,λhon=> ?_,q1⟩
 push_cast[↓wH]
 refine⟨_,_,hb,C1 (by decide +kernel),A,w,rows,n,cs,outs,nl,ns,rfl,T,B,hs,λhkn=> ?_,q2 hon⟩
 push_cast[↓wI]
 refine⟨_,_,_,hb,T.cl,T.nM,_,GJ,cs.length,.inl ⟨_,SqL.of hm,hml.symm⟩,?_⟩
 push_cast[↓wJ]
 refine⟨_,_,_,hb,T.cl,T.nM,_,GJ,.inl ⟨rfl,_,SqL.of hm⟩,nl,ns,DG cs i j,rfl,hs,hl,λt ks H1 s1 et kr km kl=> ?_⟩
 push_cast[]
 intro x dy hx hdy ndy
 refine⟨x,dy,pl,v,t,rfl,T,AJ,rfl,?_⟩
 rw[GQ]
 have s2:Same H1 (upd (upd H1 dy (.own x)) x (.ins (a "Change") dy (EJ pl v t))):=(AU hdy).trans (AU (by rw[AH ndy.symm];exact hx))
 have ex:upd (upd H1 dy (.own x)) x (.ins (a "Change") dy (EJ pl v t)) x=some (.ins (a "Change") dy (EJ pl v t)):=AJ
 revert s2 ex
 generalize upd (upd H1 dy (.own x)) x (.ins (a "Change") dy (EJ pl v t))=H2
 intro s2 ex
 have s:=s1.trans s2
 have hxH:H x=none:=s1.free hx
 replace et:=s2 _ _ et
 obtain⟨chs,hm',pch⟩:=B.bk.made
 have hmi:=B.bk.mil
 obtain⟨kvs,hlt,hv,hkl⟩:=B.bk.lat
 obtain⟨kvo,hou,hvo,hko⟩:=B.bk.out
 obtain⟨i0,i1,j0,j1⟩:=hon
 obtain⟨i',rfl⟩:∃ i':Nat,i=i':=⟨i.toNat,by omega⟩
 obtain⟨j',rfl⟩:∃ j':Nat,j=j':=⟨j.toNat,by omega⟩
 have hil:i'<A.ls.length:=by rw[B.nb];omega
 have el:=List.getElem?_eq_getElem hil
 have hll:=B.bk.mic i' _ el
 have hmem:A.ls[i']∈A.ls:=List.getElem_mem hil
 revert el hll hmem
 generalize A.ls[i']=l
 intro el hll hmem
 have ap:=B.bk.ap
 have nml:A.m≠l:=λz=>ap.2.1 (z ▸ hmem)
 have nil':A.mi≠l:=λz=>ap.2.2.1 (z ▸ hmem)
 have ncl:A.cl≠l:=λz=>ap.2.2.2.2.2 (z ▸ hmem)
 have klt:∀ {y:Addr} {o:HO},H2 y=some o->(∀ k,o≠.dT k)->y≠A.lt:=λe h=>AQ e (s _ _ hlt) (h _)
 have km':∀ {y:Addr} {o:HO},H2 y=some o->(∀ k,o≠.lst k)->y≠A.m:=λe h=>AQ e (s _ _ hm') (h _)
 have kll:∀ {y:Addr} {o:HO},H2 y=some o->(∀ k,o≠.lst k)->y≠l:=λe h=>AQ e (s _ _ hll) (h _)
 have hb2:=s _ _ hb
 have hp2:=s _ _ hp
 have sz:=B.bk.sz
 have lenc:chs.length=cs.length:=pch.length
 refine⟨A.m,_,_,rfl,rfl,s _ _ hm',Nat.lt_of_lt_of_le (show(chs.map V.ref).length<1000 by rw[List.length_map];omega) (by decide),?_⟩
 push_cast[↓wK]
 have bb:A.b≠A.m:=km' hb2 (by intro k z;cases z)
 have bl:A.b≠l:=kll hb2 (by intro k z;cases z)
 have bt:A.b≠A.lt:=klt hb2 (by intro k z;cases z)
 have pm:pl≠A.m:=km' hp2 (by intro k z;cases z)
 have pl':pl≠l:=kll hp2 (by intro k z;cases z)
 have pt:pl≠A.lt:=klt hp2 (by intro k z;cases z)
 have lt':l≠A.lt:=klt (s _ _ hll) (by intro k z;cases z)
 have mt:A.m≠A.lt:=klt (s _ _ hm') (by intro k z;cases z)
 have it:A.mi≠A.lt:=klt (s _ _ hmi) (by intro k z;cases z)
 refine⟨_,_,_,by rw[AH bb];exact hb2,T.cl,T.nI,_,RX,A7 (by rw[AH pm];exact hp2) (n:=0) rfl rfl (B0 (SqL.of (by rw[AH ap.1.symm];exact s _ _ hmi)) (n:=i') (v:=.ref l) rfl (by rw[List.getElem?_map,el];rfl) ⟨.inl ⟨rfl,_,SqL.of (by rw[AH nml.symm];exact s _ _ hll)⟩,?_⟩)⟩
 have bln:=YD cs i'
 refine⟨l,_,_,rfl,rfl,by rw[AH nml.symm];exact s _ _ hll,Nat.lt_of_lt_of_le (show((A9 cs i').map λ(k:Nat)=>V.int k).length<1000 by rw[List.length_map];omega) (by decide),?_⟩
 push_cast[↓wL,↓wM]
 refine⟨_,_,_,by rw[AH bl,AH bb];exact hb2,T.cl,T.nL,_,YF,A.lt,rfl,_,X2 (by rw[AH lt'.symm,AH mt.symm];exact s _ _ hlt) (by rw[AH pl',AH pm];exact hp2) (by omega),?_⟩
 generalize eH:upd (upd (upd H2 A.m _) l _) A.lt (.dT (A5 kvs [.inl ↑i',.inl ↑j'] (.int ↑cs.length)))=H5
 have kp:∀ y,y≠A.m->y≠l->y≠A.lt->H5 y=H2 y:=λy n1 n2 n3=>by rw[<-eH,AH n3,AH n2,AH n1]
 have s5:SameBut (λy=>y=A.m\/y=l\/y=A.lt) H H5:=λy o e ny=>by
  rw[kp y (λz=>ny (.inl z)) (λz=>ny (.inr (.inl z))) (λz=>ny (.inr (.inr z)))]
  exact s _ _ e
 have lo:∀ y,(y=A.m\/y=l\/y=A.lt)->F2 (H y):=by
  rintro y (z | z | z)
  ·exact B.loose (.inl z)
  ·exact B.loose (.inr (.inr (.inl (z ▸ hmem))))
  ·exact B.loose (.inr (.inr (.inr (.inl z))))
 have hnd:∀ y∈ks,0<=y/\y<cs.length:=λy hy=>by
  rcases(km y).mp hy with h | ⟨k,e,rfl⟩
  ·exact hkn y h
  ·exact⟨by omega,by have:=YB e;omega⟩
 refine q ⟨i0,i1,j0,j1⟩ hkn ks H5 kr km ⟨⟨⟨dx,by rw[kp _ bb bl bt];exact hb2⟩,⟨chs++[x],?_,Paired.snoc (Paired.mapP pch λy c h=>h.sb s5 lo) ⟨dy,pl,t,?_,?_,?_⟩⟩,?_,λk l' e=> ?_,B.bk.nd,⟨A5 kvs [.inl ↑i',.inl ↑j'] (.int ↑cs.length),?_,λp q=> ?_,?_⟩,⟨kvo,?_,hvo,?_⟩,?_,λc hc'=> ?_,λk c e=> ?_,ap,λk c e j ej=> ?_⟩,B.pk.sbL s5 lo ?_,B.nb⟩ (s5.wide λy z=> ?_)
 ·rw[<-eH,AH mt,AH nml,AJ,List.map_append];rfl
 ·rw[kp x (km' ex (by intro k z;cases z)) (kll ex (by intro k z;cases z)) (klt ex (by intro k z;cases z))];exact ex
 ·rw[kp pl pm pl' pt];exact hp2
 ·rw[kp t (km' et (by intro k z;cases z)) (kll et (by intro k z;cases z)) (klt et (by intro k z;cases z))];exact et
 ·rw[kp _ ap.1.symm nil' it];exact s _ _ hmi
 ·rw[YA]
  by_cases z:l'=l
  ·subst z
   have ek:k=i':=by
    obtain⟨h1,h2⟩:=List.getElem?_eq_some_iff.mp e
    obtain⟨h3,h4⟩:=List.getElem?_eq_some_iff.mp el
    exact(List.getElem_inj B.bk.nd).mp (h2.trans h4.symm)
   subst ek
   rw[<-eH,AH lt',AJ]
   simp
  ·have nk:¬ i'=k:=λy=>by subst y;rw[el]at e;cases e;exact z rfl
   have hl':=B.bk.mic k l' e
   rw[kp l' (λy=>ap.2.1 (y ▸ List.mem_of_getElem? e)) z (klt (s _ _ hl') (by intro k z;cases z))]
   simp only[Int.toNat_natCast,if_neg nk]
   exact s _ _ hl'
 ·rw[<-eH,AJ]
 ·rw[EF,RS]
  by_cases z:p=i'/\q=j'
  ·obtain⟨rfl,rfl⟩:=z
   simp
  ·have z1:¬ ([Sum.inl p,Sum.inl q]:List AR)=[.inl ↑i',.inl ↑j']:=λy=>z (by simpa using y)
   have z2:¬ ((((i':Int).toNat:Nat):Int)=p/\(((j':Int).toNat:Nat):Int)=q):=λy=>z ⟨by omega,by omega⟩
   rw[if_neg z1,if_neg z2]
   exact hv p q
 ·have:=FV kvs [.inl ↑i',.inl ↑j'] (.int ↑cs.length)
  simp;omega
 ·rw[kp _ (km' (s _ _ hou) (by intro k z;cases z)) (kll (s _ _ hou) (by intro k z;cases z)) (klt (s _ _ hou) (by intro k z;cases z))];exact s _ _ hou
 ·exact hko.mono (by simp)
 ·simp;omega
 ·rcases List.mem_append.mp hc' with h | h
  ·exact B.bk.inn c h
  ·rw[List.mem_singleton.mp h]
   exact⟨by rw[Int.toNat_natCast];exact hil,(show(j':Int).toNat<w by omega)⟩
 ·rcases Nat.lt_or_ge k cs.length with h | h
  ·rw[List.getElem?_append_left h]at e
   exact B.bk.need k c e
  ·rw[List.getElem?_append_right h]at e
   have:k - cs.length=0:=by
    rcases Nat.eq_zero_or_pos (k - cs.length)with z | z
    ·exact z
    ·rw[List.getElem?_eq_none (by simp;omega)]at e;cases e
   rw[this]at e
   cases e
   exact⟨λy hy=>⟨(hnd y hy).1,by have:=(hnd y hy).2;omega⟩,kr,(show ks.length<=100 by omega)⟩
 ·rcases Nat.lt_or_ge k cs.length with h | h
  ·rw[List.getElem?_append_left h]at e
   rw[List.take_append_of_le_length (by omega)]at ej
   exact B.bk.chn k c e j ej
  ·rw[List.getElem?_append_right h]at e
   have:k - cs.length=0:=by
    rcases Nat.eq_zero_or_pos (k - cs.length)with z | z
    ·exact z
    ·rw[List.getElem?_eq_none (by simp;omega)]at e;cases e
   have hk:k=cs.length:=by omega
   subst hk
   rw[this]at e
   cases e
   rw[List.take_left' rfl]at ej
   exact(km _).mpr (.inr ⟨j,by simpa using ej,rfl⟩)
 ·rintro (z | z | z)
  ·exact ap.2.2.2.1 z
  ·exact ncl z
  ·obtain⟨ts,e,_⟩:=B.pk.ls
   exact klt (s _ _ e) (by intro k z;cases z) z
 ·rcases z with z | z | z
  ·exact .inl z
  ·exact .inr (.inr (.inl (z ▸ hmem)))
  ·exact .inr (.inr (.inr (.inl z)))
theorem Bb(h:MN K a vs H Q E):vs.length=4:=by
 obtain⟨_,_,_,_,_,_,_,_,_,_,_,_,rfl,_⟩:=h
 rfl
theorem BookIn.at{C D:Addr}{A:BA}{w:Nat}{cs:List Ch}{outs:Int->Bool}{H:Hp}(B:BookIn C D H A w cs outs){k:Nat}{c:Ch}(e:cs[k]? =some c):∃ xs x,H A.m=some (.lst xs)/\xs[k]? =some (.ref x)/\ChAt D H x c:=by
 obtain⟨chs,h,p⟩:=B.made
 obtain⟨x,ex,hx⟩:=EC p e
 exact⟨_,x,h,by rw[List.getElem?_map,ex];rfl,hx⟩
theorem Bc{n:Nat}{outs:Int->Bool}{k:Nat}(h:k∈DR n outs):k<n/\outs k=false:=by
 have:=List.mem_filter.mp h
 exact⟨List.mem_range.mp this.1,by simpa using this.2⟩
theorem Bd(n:Nat)(outs:Int->Bool):(DR n outs).Pairwise (· <·):=List.pairwise_lt_range.filter _
theorem Bg(n:Nat)(outs:Int->Bool):(DR n outs).length<=n:=by
 have:=List.length_filter_le (λ(k:Nat)=> !outs k) (List.range n)
 rwa [List.length_range]at this
theorem Bh (h:MO K a vs H Q E):SZ K a (λ_=>E) (BB Q) (BD ["self","numbers","found","number","need"] vs) H:=by
  obtain⟨A,w,rows,n,cs,outs,nl,ns,rfl,T,B,hs,hl,q,qe⟩:=h
  obtain⟨dx,hb⟩:=B.bk.ob
  push_cast[SZ,↓J1,↓J2,↓J3,↓J4,↓J5,↓J6,↓J7,↓J8,↓J9]
  refine⟨_,_,hb,C1 (by decide +kernel),A,w,rows,n,cs,outs,nl,ns,rfl,T,B,hs,λhkn f hf=> ?_,qe⟩
  refine .inl ⟨⟨_,(AU hf).seq hs⟩,?_⟩
  refine EV (xs:=ns.map V.int) (λi σ H'=>∃ kvs,H'=upd H f (.dK kvs)/\(∀ x:Int,(AW kvs (.inl x)).isSome=true↔x∈ns.take i)/\kvs.length<=i/\∃ z,σ=[some (.ref A.b),some (.ref nl),some (.ref f),z,none]) ⟨[],rfl,by simp[kC],Nat.le_refl _,_,rfl⟩ (λi σ H' _ ⟨kvs,e,_⟩=>by rw[e];exact(AU hf).seq hs) (λi x σ H' hx ⟨kvs,e,hv,hkl,z,ez⟩=> ?_) (λσ H' ⟨kvs,e,hv,hkl,z,ez⟩=> ?_)
  · subst e;subst ez
    have hi:=(List.getElem?_eq_some_iff.mp hx).1
    rw[List.length_map]at hi
    rw[List.getElem?_map,Option.map_eq_some_iff]at hx
    obtain⟨x',hx',rfl⟩:=hx
    push_cast[↓J1,↓J2,↓J3,↓J4,↓J5,↓J6,↓J7,↓J8,↓J9]
    refine⟨_,pI AJ (by omega),_,GQ,λy=> ?_,?_⟩
    · rw[EF,List.take_add_one,hx',List.mem_append,<-hv y]
      by_cases e:y=x'
      ·subst e;simp
      · have:¬ (Sum.inl y:AR)=Sum.inl x':=λz=>e (by simpa using z)
        rw[if_neg this];simp[e]
    · have:=FV kvs (.inl x') (.bl true)
      omega
  · subst e;subst ez
    rw[List.length_map,List.take_length]at hv
    rw[List.length_map]at hkl
    push_cast[↓J1,↓J2,↓J3,↓J4,↓J5,↓J6,↓J7,↓J8,↓J9]
    have s1:=AU (o:=.dK kvs) hf
    have f1:upd H f (.dK kvs) f=some (.dK kvs):=AJ
    have B1:=B.same s1
    refine⟨_,_,s1 _ _ hb,C1 (by decide +kernel),A,w,rows,n,cs,outs,rfl,T,B1,λl H2 hl2 s2 el=> ?_⟩
    push_cast[]
    have f2:=s2 _ _ f1
    have s02:=s1.trans s2
    have B2:=B.same s02
    have nfl:f≠l:=AX f1 hl2
    refine⟨_,SqL.of el,?_⟩
    have wl:=Bg cs.length outs
    have sz:=B.bk.sz
    have rise:=Bd cs.length outs
    have hW:(FL (DR cs.length outs)).length=(DR cs.length outs).length:=List.length_map _
    have keep:∀ kvs',Same H (upd H2 f (.dK kvs')):=λkvs' b o e=>by
      rw[AH (AX e hf)];exact s02 _ _ e
    have Bk:∀ kvs',CS a (upd H2 f (.dK kvs')) A w rows n cs outs:=λkvs'=>B.same (keep kvs')
    refine rO (λi σ H'=>∃ kvs',H'=upd H2 f (.dK kvs')/\(∀ x∈ns,(AW kvs' (.inl x)).isSome=true)/\(∀ x:Int,(AW kvs' (.inl x)).isSome=true->x∈ns\/∃ (k:Nat) (c:Ch),cs[k]? =some c/\outs k=false/\(AW kvs' (.inl (k:Int))).isSome=true/\x∈c.nd) ∧
      (∀ (t:Nat) (k:Nat) (c:Ch),(DR cs.length outs)[t]? =some k->(DR cs.length outs).length - i<=t->cs[k]? =some c->(AW kvs' (.inl (k:Int))).isSome=true->∀ y∈c.nd,(AW kvs' (.inl y)).isSome=true)/\kvs'.length<=1000+100 * i/\∃ z z',σ=[some (.ref A.b),some (.ref nl),some (.ref f),z,z'])
      ⟨kvs,?_,λx hx=>(hv x).mpr hx,λx hx=>.inl ((hv x).mp hx),λt k c e1 e2=> ?_,by omega,_,_,rfl⟩ (λi σ H' _ ⟨kvs',e,_⟩=>by rw[e];exact SqL.of (by rw[AH nfl.symm];exact el)) (λi x σ H' hi hx ⟨kvs',e,h1,h3,h2,hkl',z,z',ez⟩=> ?_) (λσ H' ⟨kvs',e,h1,h3,h2,hkl',z,z',ez⟩=> ?_)
    · funext b
      by_cases e:b=f
      ·subst e;rw[AJ];exact f2
      ·rw[AH e]
    · have:=(List.getElem?_eq_some_iff.mp e1).1
      omega
    · subst e;subst ez
      rw[hW]at hi hx
      unfold FL at hx
      rw[List.getElem?_map,Option.map_eq_some_iff]at hx
      obtain⟨k,hx',rfl⟩:=hx
      obtain⟨hk,ho⟩:=Bc (List.mem_of_getElem? hx')
      have ec:=List.getElem?_eq_getElem hk
      revert ec
      generalize cs[k]=c
      intro ec
      push_cast[↓J1,↓J2,↓J3,↓J4,↓J5,↓J6,↓J7,↓J8,↓J9]
      refine⟨_,dI AJ,?_⟩
      have later:∀ (t k':Nat),(DR cs.length outs)[t]? =some k'->(DR cs.length outs).length - (i+1)<=t->k'=k\/(k<k'/\(DR cs.length outs).length - i<=t):=λt k' e1 e2=>by
        by_cases z:t=(DR cs.length outs).length - 1 - i
        ·subst z;rw[hx']at e1;cases e1;exact .inl rfl
        · obtain⟨h5,rfl⟩:=List.getElem?_eq_some_iff.mp e1
          obtain⟨h6,rfl⟩:=List.getElem?_eq_some_iff.mp hx'
          exact .inr ⟨List.pairwise_iff_getElem.mp rise _ _ h6 h5 (by omega),by omega⟩
      cases hin:(AW kvs' (.inl (k:Int))).isSome with
      | false =>
        push_cast[]
        refine⟨_,rfl,h1,h3,λt k' c' e1 e2 e3 e4=> ?_,by omega⟩
        rcases later t k' e1 e2 with rfl | ⟨_,z⟩
        ·rw[hin]at e4;cases e4
        ·exact h2 t k' c' e1 z e3 e4
      | true =>
        push_cast[]
        obtain⟨xs,cx,hm,ex,hch⟩:=(Bk kvs').bk.at ec
        obtain⟨dc,pl,nt,hc1,hc2,hc3⟩:=hch
        have hb2:=(keep kvs') _ _ hb
        refine⟨_,_,_,hb2,T.cl,T.nM,_,GJ,B0 (SqL.of hm) rfl ex ⟨cx,rfl,_,_,_,hc1,T.cc,T.nN,_,RV,nt,rfl,.inr ⟨⟨_,SqT.of hc3⟩,?_⟩⟩⟩
        obtain⟨nd1,nd2,nd3⟩:=B.bk.need k c ec
        refine XF (xs:=c.nd.map V.int) (λt σ H'=>∃ kv2,H'=upd H2 f (.dK kv2)/\(∀ x:Int,(AW kv2 (.inl x)).isSome=true↔(AW kvs' (.inl x)).isSome=true\/x∈c.nd.take t)/\kv2.length<=kvs'.length+t/\∃ z',σ=[some (.ref A.b),some (.ref nl),some (.ref f),some (.int k),z'])
          ⟨kvs',rfl,by simp,Nat.le_refl _,_,rfl⟩ (λt σ H' _ ⟨kv2,e,_⟩=> ?_) (λt y σ H' hy ⟨kv2,e,hv2,hl2',z2,ez⟩=> ?_) (λσ H' ⟨kv2,e,hv2,hl2',z2,ez⟩=> ?_)
        · rw[e]
          have nf:nt≠f:=AQ hc3 AJ (by intro z;cases z)
          rw[AH nf]at hc3
          exact SqT.of (by rw[AH nf];exact hc3)
        · subst e;subst ez
          have hty:=(List.getElem?_eq_some_iff.mp hy).1
          rw[List.length_map]at hty
          rw[List.getElem?_map,Option.map_eq_some_iff]at hy
          obtain⟨y',hy',rfl⟩:=hy
          push_cast[↓J1,↓J2,↓J3,↓J4,↓J5,↓J6,↓J7,↓J8,↓J9]
          refine⟨_,pI AJ (by omega),_,GQ,λx=> ?_,?_⟩
          · rw[EF,List.take_add_one,hy',List.mem_append]
            by_cases e:x=y'
            ·subst e;simp
            · have:¬ (Sum.inl x:AR)=Sum.inl y':=λz=>e (by simpa using z)
              rw[if_neg this,hv2 x];simp[e]
          · have:=FV kv2 (.inl y') (.bl true)
            omega
        · subst e;subst ez
          rw[List.length_map,List.take_length]at hv2
          rw[List.length_map]at hl2'
          have up:∀ {x:Int},(AW kvs' (.inl x)).isSome=true->(AW kv2 (.inl x)).isSome=true:=λh=>(hv2 _).mpr (.inl h)
          refine⟨kv2,rfl,λx hx=>up (h1 x hx),λx hx=> ?_,λt k' c' e1 e2 e3 e4 y hy=> ?_,by omega,_,_,rfl⟩
          · rcases(hv2 x).mp hx with h | h
            · rcases h3 x h with h | ⟨k',c',e1,e2,e3,e4⟩
              ·exact .inl h
              ·exact .inr ⟨k',c',e1,e2,up e3,e4⟩
            ·exact .inr ⟨k,c,ec,ho,up hin,h⟩
          · rcases later t k' e1 e2 with rfl | ⟨hlt,z⟩
            · rw[ec]at e3;cases e3
              exact(hv2 y).mpr (.inr hy)
            · rcases(hv2 _).mp e4 with h | h
              ·exact up (h2 t k' c' e1 z e3 h y hy)
              · have:=(nd1 _ h).2
                omega
    · subst e;subst ez
      rw[hW]at h2
      push_cast[↓J1,↓J2,↓J3,↓J4,↓J5,↓J6,↓J7,↓J8,↓J9]
      have s3:=keep kvs'
      refine⟨_,_,s3 _ _ hb,C1 (by decide +kernel),A,w,rows,n,cs,outs,rfl,T,Bk kvs',λl2 H4 hl4 s4 el4=> ?_⟩
      push_cast[]
      have f4:H4 f=some (.dK kvs'):=s4 _ _ AJ
      refine .inl ⟨⟨_,SqL.of el4⟩,?_⟩
      refine RI (λv=>match v with
        | .int x=>(AW kvs' (.inl x)).isSome
        | _=>false) (small _ (by omega)) (SqL.of el4) (λx hx QB qb=> ?_) λr hr=> ?_
      · unfold FL at hx
        obtain⟨k,hk,rfl⟩:=List.mem_map.mp hx
        push_cast[DX]
        exact⟨_,dI f4,qb⟩
      · refine q hkn r _ (λx=>(AW kvs' (.inl x)).isSome) h1 (λk c e1 e2 e3 y hy=> ?_) h3 ((s3.trans s4).free hr) ((s3.trans s4).trans (AU hr)) ?_
        · have hkm:k∈DR cs.length outs:=List.mem_filter.mpr ⟨List.mem_range.mpr (List.getElem?_eq_some_iff.mp e1).1,by rw[e2];rfl⟩
          obtain⟨t,et⟩:=F3 hkm
          exact h2 t k c et (by omega) e1 e3 y hy
        · rw[AJ]
          unfold FL
          rw[List.filter_map]
          rfl
theorem Bj(h:MO K a vs H Q E):vs.length=2:=by
 obtain⟨_,_,_,_,_,_,_,_,rfl,_⟩:=h
 rfl
theorem Bl{m0 w:Nat}{H1:Hp}{Q:Addr->Hp->Prop}{E:XK}(TP:DO K a)(h1:m0<=1000)(h2:1<=w)(h3:w<=1000)
  (q:∀ p cl H2,H1 p=none->H1 cl=none->PlankAt a H2 p cl w (List.replicate m0 (List.replicate w .non)) 0->Same H1 H2->Q p H2) :
  ∀ x dx,H1 x=none->H1 dx=none->dx≠x->JV K a [.ref x,.int m0,.int w] (upd (upd H1 dx (.own x)) x (.ins (a "Plank") dx [])) (λv H2=>v=.non/\Q x H2) E:=λp dp hp hdp ndp=>by
 refine⟨p,dp,m0,w,rfl,TP,AJ,h1,h2,h3,λcl H2 hcl P2 sb2=>⟨rfl,q p cl H2 hp ?_ P2 λy o e=> ?_⟩⟩
 ·have:=(AU (o:=.own p) hdp).trans (AU (o:=.ins (a "Plank") dp []) (by rw[AH ndp.symm];exact hp))
  exact this.free hcl
 ·exact sb2 _ _ (by rw[AH (AX e hp),AH (AX e hdp)];exact e) (AX e hp)
theorem Bm{w n:Nat}{rows:List (List V)}{gp cl:Addr}{H1:Hp}{Q:Addr->Hp->Prop}{E:XK}(T:TB K a)(TP:DO K a)(P:PlankAt a H1 gp cl w rows n)
  (q:∀ (A:BA) (H2:Hp),A.gp=gp->A.cl=cl->(∀ x o,H1 x=some o->x=cl\/¬ A.F x)->CS a H2 A w rows n [] (λ_=>false)->Same H1 H2->Q A.b H2) :
  ∀ x dx,H1 x=none->H1 dx=none->dx≠x->JZ K a [.ref x,.ref gp] (upd (upd H1 dx (.own x)) x (.ins (DZ a) dx [])) (λv H2=>v=.non/\Q x H2) E:=λb db hb hdb ndb=>by
 have s0:Same H1 (upd (upd H1 db (.own b)) b (.ins (DZ a) db [])):=(AU hdb).trans (AU (by rw[AH ndb.symm];exact hb))
 refine⟨b,gp,cl,db,w,rows,n,rfl,T,TP,P.same s0,AJ,λm mi lt ou ls H4 hm hmi hlt hou hls B4 sb4=>⟨rfl,?_⟩⟩
 refine q ⟨b,gp,m,mi,lt,ou,ls,cl⟩ H4 rfl rfl (λx o e=> ?_) B4 λy o e=>sb4 _ _ (s0 _ _ e) (AX e hb)
 by_cases z:x=cl
 ·exact .inl z
 ·refine .inr ?_
  have e':=s0 _ _ e
  rintro (y | y | y | y | y | y)
  ·rw[y]at e';rw[show(BA.mk b gp m mi lt ou ls cl).m=m from rfl,hm]at e';cases e'
  ·rw[y]at e';rw[show(BA.mk b gp m mi lt ou ls cl).mi=mi from rfl,hmi]at e';cases e'
  ·rw[hls x y]at e';cases e'
  ·rw[y]at e';rw[show(BA.mk b gp m mi lt ou ls cl).lt=lt from rfl,hlt]at e';cases e'
  ·rw[y]at e';rw[show(BA.mk b gp m mi lt ou ls cl).ou=ou from rfl,hou]at e';cases e'
  ·exact z y
theorem Bp(h:MP K a vs H Q E):SG K a (λ_=>E) (BB Q) (BD ["self","number","gone","need"] vs) H:=by
 obtain⟨A,w,rows,n,cs,outs,k,c,g,kvg,rfl,T,B,ec,hg,q⟩:=h
 obtain⟨dx,hb⟩:=B.bk.ob
 obtain⟨xs,cx,hm,ex,hch⟩:=B.bk.at ec
 obtain⟨dc,pl,nt,hc1,hc2,hc3⟩:=hch
 obtain⟨kvo,ho,hv,_⟩:=B.bk.out
 push_cast[SG,↓SC,↓SD,↓SE,↓SF]
 refine⟨_,_,_,hb,T.cl,T.nM,_,GJ,B0 (SqL.of hm) rfl ex ⟨cx,rfl,_,_,_,hc1,T.cc,T.nN,_,RV,nt,rfl,.inr ⟨⟨_,SqT.of hc3⟩,?_⟩⟩⟩
 refine XF (xs:=c.nd.map V.int) (λi σ H'=>H'=H/\(∀ x∈c.nd.take i,(outs x || CN kvg x)=true)/\∃ z,σ=[some (.ref A.b),some (.int k),some (.ref g),z]) ⟨rfl,by simp,_,rfl⟩ (λi σ H' _ ⟨e,_⟩=>e ▸ SqT.of hc3) (λi x σ H' hx ⟨e,al,z,ez⟩=> ?_) (λσ H' ⟨e,al,z,ez⟩=> ?_)
 ·subst e;subst ez
  rw[List.getElem?_map,Option.map_eq_some_iff]at hx
  obtain⟨y,hy,rfl⟩:=hx
  push_cast[↓SC,↓SD,↓SE,↓SF]
  have step:(outs y || CN kvg y)=true->∀ x∈c.nd.take (i+1),(outs x || CN kvg x)=true:=λh x hx=>by
   rw[List.take_add_one,hy]at hx
   rcases List.mem_append.mp hx with hx | hx
   ·exact al x hx
   ·have:x=y:=by simpa using hx
    exact this ▸ h
  refine⟨_,_,_,hb,T.cl,T.nO,_,MH,A.ou,rfl,_,dI ho,?_⟩
  rw[hv]
  cases h1:outs y with
  | true =>
   push_cast[]
   exact step (by rw[h1];rfl)
  | false =>
   push_cast[]
   refine⟨_,dI hg,?_⟩
   cases h2:(AW kvg (.inl y)).isSome with
   | true =>
    push_cast[]
    exact step (by show(outs y || (AW kvg (.inl y)).isSome)=true;rw[h2];simp)
   | false =>
    push_cast[]
    have e:EK c.nd (λx=>outs x || CN kvg x)=some y:=by
     obtain⟨hi,e⟩:=List.getElem?_eq_some_iff.mp hy
     unfold EK
     rw[List.find?_eq_some_iff_append]
     refine⟨by show(!(outs y || (AW kvg (.inl y)).isSome))=true;rw[h1,h2];rfl,c.nd.take i,c.nd.drop (i+1),?_,λx hx=>by show(!!(outs x || CN kvg x))=true;rw[al x hx];rfl⟩
     rw[<-e,<-List.drop_eq_getElem_cons hi,List.take_append_drop]
    rw[e]at q
    exact q
 ·subst e;subst ez
  rw[List.length_map,List.take_length]at al
  push_cast[↓SC,↓SD,↓SE,↓SF]
  have e:EK c.nd (λx=>outs x || CN kvg x)=none:=List.find?_eq_none.mpr λx hx=>by show ¬ (!(outs x || CN kvg x))=true;rw[al x hx];exact Bool.false_ne_true
  rw[e]at q
  exact q
theorem Bq(h:MP K a vs H Q E):vs.length=3:=by
 obtain⟨_,_,_,_,_,_,_,_,_,_,rfl,_⟩:=h
 rfl
def Bv(s:Pass)(m:Nat)(H1 H':Hp)(g ol hl:Addr):Prop:=∃ (kvg:List (AR × V)) (hs:List Addr),SameBut (λy=>y=g\/y=ol\/y=hl) H1 H'/\H' g=some (.dK kvg)/\(∀ x:Int,CN kvg x=s.gone x)/\kvg.length<=m/\H' ol=some (.lst (s.out.map λ(k:Nat)=>V.int k)) ∧
 H' hl=some (.lst (hs.map V.ref))/\Paired (λx (p:Nat × Int)=>H' x=some (.tup [.int p.1,.int p.2])) hs s.held
theorem UR(kvs:List (AR × V))(k x:Int)(v:V):CN (A5 kvs (.inl k) v) x=(CN kvs x || x == k):=by
 unfold CN
 rw[EF]
 by_cases e:x=k
 ·subst e;simp
 ·have:¬ (Sum.inl x:AR)=Sum.inl k:=λz=>e (by simpa using z)
  rw[if_neg this];simp[e]
theorem Bw (h:MQ K a vs H Q E):TL K a (λ_=>E) (BB Q) (BD ["self","block","taken","gone","out","held","number","lack"] vs) H:=by
  obtain⟨A,w,rows,n,cs,outs,b,tk,kvt,rfl,T,B,hbl,htk,hkt,q⟩:=h
  obtain⟨dx,hb⟩:=B.bk.ob
  push_cast[TL,↓S4,↓S5,↓S6,↓S7,↓S8,↓S9,↓TC,↓TD,↓TF,↓TJ,↓TK]
  refine⟨_,htk,λg hg=>⟨by decide,λol hol=>⟨by decide,λhl hhl=> ?_⟩⟩⟩
  have s1:Same H (upd (upd (upd H g (.dK kvt)) ol (.lst [])) hl (.lst [])):=((AU hg).trans (AU hol)).trans (AU hhl)
  have ngo:g≠ol:=AX AJ hol
  have nol:ol≠hl:=AX AJ hhl
  have ngl:g≠hl:=AX (by rw[AH ngo];exact AJ) hhl
  have eg:upd (upd (upd H g (.dK kvt)) ol (.lst [])) hl (.lst []) g=some (.dK kvt):=by rw[AH ngl,AH ngo,AJ]
  have eo:upd (upd (upd H g (.dK kvt)) ol (.lst [])) hl (.lst []) ol=some (.lst []):=by rw[AH nol,AJ]
  have el:upd (upd (upd H g (.dK kvt)) ol (.lst [])) hl (.lst []) hl=some (.lst []):=AJ
  have holH:H ol=none:=(AU hg).free hol
  have hhlH:H hl=none:=((AU hg).trans (AU hol)).free hhl
  revert s1 eg eo el
  generalize upd (upd (upd H g (.dK kvt)) ol (.lst [])) hl (.lst [])=H1
  intro s1 eg eo el
  have hil:b<A.ls.length:=by rw[B.nb];exact hbl
  have ell:=List.getElem?_eq_getElem hil
  have hll:=B.bk.mic b _ ell
  revert ell hll
  generalize A.ls[b]=l
  intro ell hll
  refine⟨_,_,_,s1 _ _ hb,T.cl,T.nI,_,RX,B0 (SqL.of (s1 _ _ B.bk.mil)) (n:=b) (v:=.ref l) rfl (by rw[List.getElem?_map,ell];rfl) ⟨l,rfl,.inl ⟨⟨_,SqL.of (s1 _ _ hll)⟩,?_⟩⟩⟩
  have bln:=YD cs b
  have sz:=B.bk.sz
  have G:∀ {H':Hp},SameBut (λy=>y=g\/y=ol\/y=hl) H1 H'->Same H H':=λsb y o e=>sb _ _ (s1 _ _ e) (by
    rintro (z | z | z)
    ·rw[z,hg]at e;cases e
    ·rw[z,holH]at e;cases e
    ·rw[z,hhlH]at e;cases e)
  refine EV (xs:=(A9 cs b).map λ(k:Nat)=>V.int k) (λi σ H'=>Bv (((A9 cs b).take i).foldl (CB cs outs) ⟨[],[],CN kvt⟩) (1000+i) H1 H' g ol hl/\∃ z1 z2,σ=[some (.ref A.b),some (.int b),some (.ref tk),some (.ref g),some (.ref ol),some (.ref hl),z1,z2])
    ⟨⟨kvt,[],SameBut.refl _,eg,λ_=>rfl,by omega,eo,el,.nil⟩,_,_,rfl⟩ (λi σ H' _ ⟨⟨kvg,hs,sb,_⟩,_⟩=>SqL.of (G sb _ _ hll)) (λi x σ H' hx ⟨iv,z1,z2,ez⟩=> ?_) (λσ H' ⟨iv,z1,z2,ez⟩=> ?_)
  · subst ez
    have hi:=(List.getElem?_eq_some_iff.mp hx).1
    rw[List.length_map]at hi
    rw[List.getElem?_map,Option.map_eq_some_iff]at hx
    obtain⟨k,hk,rfl⟩:=hx
    have hkc:=RU (List.mem_of_getElem? hk)
    have ec:=List.getElem?_eq_getElem hkc
    revert ec
    generalize cs[k]=c
    intro ec
    have hszs:=YI (cs:=cs) (outs:=outs) ((A9 cs b).take i) ⟨[],[],CN kvt⟩
    have es:=R0 (CB cs outs) (⟨[],[],CN kvt⟩:Pass) hk
    revert iv hszs es
    generalize ((A9 cs b).take i).foldl (CB cs outs) ⟨[],[],CN kvt⟩=s
    generalize ((A9 cs b).take (i+1)).foldl (CB cs outs) ⟨[],[],CN kvt⟩=s'
    intro iv hszs es
    obtain⟨kvg,hs,sb,e1,e2,e3,e4,e5,e6⟩:=iv
    simp only[List.length_nil,List.length_take]at hszs
    have sH:=G sb
    have B':=B.same sH
    obtain⟨kvo,ho,hv,_⟩:=B.bk.out
    push_cast[↓S4,↓S5,↓S6,↓S7,↓S8,↓S9,↓TC,↓TD,↓TF,↓TJ,↓TK]
    refine⟨_,_,_,sH _ _ hb,T.cl,T.nO,_,MH,A.ou,rfl,_,dI (sH _ _ ho),?_⟩
    rw[hv]
    unfold CB at es
    cases h1:outs k with
    | true =>
      rw[h1,Bool.true_or,if_pos rfl]at es
      push_cast[]
      rw[es]
      exact⟨kvg,hs,sb,e1,e2,by omega,e4,e5,e6⟩
    | false =>
      rw[h1,Bool.false_or]at es
      push_cast[]
      refine⟨_,dI e1,?_⟩
      have e2k:(AW kvg (.inl (k:Int))).isSome=s.gone k:=e2 k
      rw[e2k]
      cases h2:s.gone k with
      | true =>
        rw[h2,if_pos rfl]at es
        push_cast[]
        rw[es]
        exact⟨kvg,hs,sb,e1,e2,by omega,e4,e5,e6⟩
      | false =>
        rw[h2,if_neg Bool.false_ne_true,ec]at es
        push_cast[]
        refine⟨_,_,sH _ _ hb,C1 (by decide +kernel),A,w,rows,n,cs,outs,k,c,g,kvg,rfl,T,B',ec,e1,?_⟩
        have efn:(λx=>outs x || CN kvg x)=λx=>outs x || s.gone x:=by funext x;rw[e2]
        rw[efn]
        simp only[Option.bind_some]at es
        cases h3:EK c.nd (λx=>outs x || s.gone x)with
        | none =>
          rw[h3]at es
          dsimp only at es
          dsimp only [R5]
          rw[if_pos rfl]
          refine⟨_,pI e1 (by omega),.inl ⟨rfl,_,SqL.of (by rw[AH ngo.symm];exact e4)⟩,ol,_,_,rfl,rfl,by rw[AH ngo.symm];exact e4,Nat.lt_of_lt_of_le (show(s.out.map λ(k:Nat)=>V.int k).length<1000 by rw[List.length_map];omega) (by decide),?_⟩
          rw[es]
          refine⟨_,hs,?_,by rw[AH ngo,AJ],λx=>by rw[UR,e2],?_,by rw[AJ,List.map_append];rfl,by rw[AH nol.symm,AH ngl.symm];exact e5,Paired.mapP e6 λx p e=> ?_⟩
          · intro y o e ny
            rw[AH λz=>ny (.inr (.inl z)),AH λz=>ny (.inl z)]
            exact sb _ _ e ny
          · have:=FV kvg (.inl (k:Int)) (.bl true)
            omega
          ·rw[AH (AQ e e4 (by intro z;cases z)),AH (AQ e e1 (by intro z;cases z))];exact e
        | some l' =>
          rw[h3]at es
          dsimp only at es
          dsimp only [R5]
          rw[if_neg (by intro z;cases z)]
          refine⟨.inl ⟨rfl,_,SqL.of e5⟩,by decide,λtp htp=> ?_⟩
          have ntl:hl≠tp:=AX e5 htp
          refine⟨hl,_,_,rfl,rfl,by rw[AH ntl];exact e5,Nat.lt_of_lt_of_le (show(hs.map V.ref).length<1000 by rw[List.length_map,e6.length];omega) (by decide),?_⟩
          rw[es]
          have s2:=AU (o:=.tup [.int (k:Int),.int l']) htp
          have kp:∀ y,y≠hl->y≠tp->upd (upd H' tp (.tup [.int (k:Int),.int l'])) hl (.lst (hs.map V.ref++[.ref tp])) y=H' y:=λy n1 n2=>by rw[AH n1,AH n2]
          refine⟨kvg,hs++[tp],?_,by rw[kp g ngl (AX e1 htp)];exact e1,e2,by omega,by rw[kp ol nol (AX e4 htp)];exact e4,by rw[AJ,List.map_append];rfl,Paired.snoc (Paired.mapP e6 λx p e=> ?_) ?_⟩
          · intro y o e ny
            have e':=sb _ _ e ny
            rw[kp y (λz=>ny (.inr (.inr z))) (AX e' htp)];exact e'
          ·rw[kp x (AQ e e5 (by intro z;cases z)) (AX e htp)];exact e
          ·rw[AH ntl.symm,AJ]
  · subst ez
    rw[List.length_map,List.take_length]at iv
    push_cast[↓S4,↓S5,↓S6,↓S7,↓S8,↓S9,↓TC,↓TD,↓TF,↓TJ,↓TK]
    obtain⟨kvg,hs,sb,e1,e2,e3,e4,e5,e6⟩:=iv
    refine⟨by decide,λt ht=> ?_⟩
    have s2:=AU (o:=.tup [.ref ol,.ref hl]) ht
    exact q t ol hl _ holH hhlH nol ((G sb).trans s2) ⟨AJ,s2 _ _ e4,hs,s2 _ _ e5,Paired.mapP e6 λx p e=>s2 _ _ e⟩
theorem Bx(h:MQ K a vs H Q E):vs.length=3:=by
 obtain⟨_,_,_,_,_,_,_,_,_,rfl,_⟩:=h
 rfl
theorem By(h:MR K a vs H Q E):SM K a (λ_=>E) (BB Q) (BD ["self","values","block","laid","number"] vs) H:=by
 obtain⟨A,w,rows,n,cs,outs,b,vl,row,rfl,T,B,hbl,hvl,hrl,q⟩:=h
 obtain⟨dx,hb⟩:=B.bk.ob
 obtain⟨kvo,ho,hv,_⟩:=B.bk.out
 push_cast[SM,↓SH,↓SI,↓SJ,↓SK,↓SL]
 refine⟨_,.inl (SqL.of hvl),λla hla=> ?_⟩
 have s1:=AU (o:=.lst row) hla
 have hil:b<A.ls.length:=by rw[B.nb];exact hbl
 have ell:=List.getElem?_eq_getElem hil
 have hll:=B.bk.mic b _ ell
 revert ell hll
 generalize A.ls[b]=l
 intro ell hll
 refine⟨_,_,_,s1 _ _ hb,T.cl,T.nI,_,RX,B0 (SqL.of (s1 _ _ B.bk.mil)) (n:=b) (v:=.ref l) rfl (by rw[List.getElem?_map,ell];rfl) ⟨l,rfl,.inl ⟨⟨_,SqL.of (s1 _ _ hll)⟩,?_⟩⟩⟩
 have sk:∀ o,Same H (upd H la o):=λo=>AU hla
 refine EV (xs:=(A9 cs b).map λ(k:Nat)=>V.int k) (λi σ H'=>H'=upd H la (.lst (((A9 cs b).take i).foldl (D4 cs outs) row))/\∃ z1,σ=[some (.ref A.b),some (.ref vl),some (.int b),some (.ref la),z1])
  ⟨rfl,_,rfl⟩ (λi σ H' _ ⟨e,_⟩=>by rw[e];exact SqL.of (sk _ _ _ hll)) (λi x σ H' hx ⟨e,z1,ez⟩=> ?_) (λσ H' ⟨e,z1,ez⟩=> ?_)
 ·subst e;subst ez
  rw[List.getElem?_map,Option.map_eq_some_iff]at hx
  obtain⟨k,hk,rfl⟩:=hx
  have hkc:=RU (List.mem_of_getElem? hk)
  have ec:=List.getElem?_eq_getElem hkc
  revert ec
  generalize cs[k]=c
  intro ec
  have es:=R0 (D4 cs outs) row hk
  have hlen:=RZ (cs:=cs) (outs:=outs) ((A9 cs b).take i) row
  revert es hlen
  generalize ((A9 cs b).take i).foldl (D4 cs outs) row=r
  generalize ((A9 cs b).take (i+1)).foldl (D4 cs outs) row=r'
  intro es hlen
  have sH:=sk (.lst r)
  push_cast[↓SH,↓SI,↓SJ,↓SK,↓SL]
  refine⟨_,_,_,sH _ _ hb,T.cl,T.nO,_,MH,A.ou,rfl,_,dI (sH _ _ ho),?_⟩
  rw[hv]
  unfold D4 at es
  cases h1:outs k with
  | false =>
   rw[h1,if_neg Bool.false_ne_true]at es
   push_cast[]
   rw[es]
  | true =>
   rw[h1,if_pos rfl,ec]at es
   dsimp only at es
   push_cast[]
   obtain⟨xs,cx,hm,ex,dc,pl,nt,hc1,hc2,hc3⟩:=(B.same sH).bk.at ec
   have hcell:=(B.bk.inn c (List.mem_of_getElem? ec)).2
   refine⟨_,_,_,sH _ _ hb,T.cl,T.nM,_,GJ,B0 (SqL.of hm) rfl ex ⟨cx,rfl,_,_,_,hc1,T.cc,T.nV,_,YE,?_⟩⟩
   refine⟨_,_,_,sH _ _ hb,T.cl,T.nM,_,GJ,B0 (SqL.of hm) rfl ex ⟨cx,rfl,_,_,_,hc1,T.cc,T.nP,_,sZ,A7 hc2 (n:=1) rfl rfl ?_⟩⟩
   refine⟨la,r,(c.cell:Int),c.cell,rfl,rfl,AJ,?_,?_⟩
   ·unfold FS
    rw[if_pos (by omega),if_pos (by omega),Int.toNat_natCast]
   ·rw[GQ,es]
 ·subst e;subst ez
  rw[List.length_map,List.take_length]
  push_cast[↓SH,↓SI,↓SJ,↓SK,↓SL]
  exact q la _ hla (sk _) AJ
theorem Bz(h:MR K a vs H Q E):vs.length=3:=by
 obtain⟨_,_,_,_,_,_,_,_,_,rfl,_⟩:=h
 rfl
theorem Cb(h:IN K a vs H Q E):T2 K a (λ_=>E) (BB Q) (BD ["self","block","values","told","number"] vs) H:=by
 obtain⟨A,w,rows,n,cs,outs,b,rfl,T,TP,B,q,qe⟩:=h
 obtain⟨dx,hb⟩:=B.bk.ob
 obtain⟨dp,hg⟩:=B.pk.ob
 push_cast[T2,↓OU,↓OV,↓OW,↓OX,↓OY,↓OZ]
 refine⟨_,_,_,hb,T.cl,T.nG,_,MG,A.gp,rfl,_,_,hg,UQ _ _ _,A.gp,A.cl,w,rows,n,b,rfl,TP,B.pk,λb' row eb er vl hvl=> ?_,qe⟩
 subst eb
 push_cast[]
 have hbl:=(List.getElem?_eq_some_iff.mp er).1
 have s1:=AU (o:=.lst row) hvl
 have ev:upd H vl (.lst row) vl=some (.lst row):=AJ
 revert s1 ev
 generalize upd H vl (.lst row)=H1
 intro s1 ev
 refine⟨_,_,s1 _ _ hb,C1 (by decide +kernel),λe0 he0=> ?_⟩
 have s2:=s1.trans (AU (o:=.dK []) he0)
 refine⟨A,w,rows,n,cs,outs,b',e0,[],rfl,T,B.same s2,hbl,AJ,by simp,λt ol hl H3 hol hhl nol s3 told=> ?_⟩
 have s03:=s2.trans s3
 have ev3:=s3 _ _ (AU he0 _ _ ev)
 have holH:=s2.free hol
 have hhlH:=s2.free hhl
 have hasnil:(CN ([]:List (AR × V)))=λ_=>false:=rfl
 rw[hasnil]at told
 obtain⟨ht,ho3,hs,hh3,hpr⟩:=told
 obtain⟨rise,fresh,_⟩:=IK (cs:=cs) (outs:=outs) (b:=b')
 have eW:CJ cs outs b'=λx=>outs x || (outcome cs outs (λ_=>false) b').out.any λ(k:Nat)=>x ==(k:Int):=rfl
 replace q:=λH' a1 a2 a3=>q b' row t ol hl H' rfl er holH hhlH nol a1 a2 a3
 revert ho3 hpr rise fresh eW q
 generalize outcome cs outs (λ_=>false) b'=oc
 generalize CJ cs outs b'=ow
 intro ho3 hpr rise fresh eW q
 push_cast[]
 refine A7 ht (n:=0) rfl rfl ⟨ol,rfl,.inl ⟨⟨_,SqL.of ho3⟩,?_⟩⟩
 obtain⟨kvo,hou,hvo,hko⟩:=B.bk.out
 have hou3:=s03 _ _ hou
 have fO:¬ A.F ol:=B.off holH
 have fL:¬ A.F hl:=B.off hhlH
 have nou:ol≠A.ou:=λz=>fO (.inr (.inr (.inr (.inr (.inl z)))))
 refine EV (xs:=oc.out.map λ(k:Nat)=>V.int k) (λi σ H'=>(∃ kv,H'=upd H3 A.ou (.dK kv)/\(∀ x:Int,(AW kv (.inl x)).isSome=(outs x || (oc.out.take i).any λ(k:Nat)=>x ==(k:Int)))/\KeysOk kv cs.length)/\∃ z1,σ=[some (.ref A.b),some (.int b'),some (.ref vl),some (.ref t),z1])
  ⟨⟨kvo,?_,λx=>by rw[hvo];simp,hko⟩,_,rfl⟩ (λi σ H' _ ⟨⟨kv,e,_⟩,_⟩=>by rw[e];exact SqL.of (by rw[AH nou];exact ho3)) (λi x σ H' hx ⟨⟨kv,e,hv,hk⟩,z1,ez⟩=> ?_) (λσ H' ⟨⟨kv,e,hv,hk⟩,z1,ez⟩=> ?_)
 ·funext y
  by_cases e:y=A.ou
  ·subst e;rw[AJ];exact hou3
  ·rw[AH e]
 ·subst e;subst ez
  rw[List.getElem?_map,Option.map_eq_some_iff]at hx
  obtain⟨k,ek,rfl⟩:=hx
  have hkm:=List.mem_of_getElem? ek
  have hkc:=RU (fresh k hkm).2
  have hnone:AW kv (.inl (k:Int))=none:=by
   have:=hv k
   rw[(fresh k hkm).1,Bool.false_or]at this
   have z:(oc.out.take i).any (λ(j:Nat)=>(k:Int) ==(j:Int))=false:=by
    rw[List.any_eq_false]
    intro j hj
    obtain⟨m,hm,e⟩:=List.getElem_of_mem hj
    rw[List.length_take]at hm
    rw[List.getElem_take]at e
    obtain⟨hi,e2⟩:=List.getElem?_eq_some_iff.mp ek
    have:=List.pairwise_iff_getElem.mp rise m i (by omega) hi (by omega)
    rw[e,e2]at this
    simp;omega
   rw[z]at this
   exact Option.isSome_eq_false_iff.mp this |> Option.isNone_iff_eq_none.mp
  push_cast[↓OU,↓OV,↓OW,↓OX,↓OY,↓OZ]
  have hb3:upd H3 A.ou (.dK kv) A.b=some (.ins (DZ a) dx (bf A.gp A.m A.mi A.lt A.ou)):=by
   rw[AH (AQ (s03 _ _ hb) hou3 (by intro z;cases z))];exact s03 _ _ hb
  refine⟨_,_,_,hb3,T.cl,T.nO,_,MH,A.ou,rfl,_,pI AJ (by have:=hk.len;have:=B.bk.sz;omega),_,GQ,λx=> ?_,hk.put hkc hnone _⟩
  have:=UR kv k x (.bl true)
  unfold CN at this
  rw[this,hv,List.take_add_one,ek,List.any_append,Bool.or_assoc]
  simp
 ·subst e;subst ez
  rw[List.length_map,List.take_length]at hv
  replace hv:∀ x:Int,(AW kv (.inl x)).isSome=ow x:=λx=>by rw[hv,eW]
  push_cast[↓OU,↓OV,↓OW,↓OX,↓OY,↓OZ]
  have lou:F2 (H A.ou):=OQ hou
  have kb:∀ {y:Addr} {o:HO},H y=some o->y≠A.ou->upd H3 A.ou (.dK kv) y=some o:=λe n=>by rw[AH n];exact s03 _ _ e
  have sb4:SameBut (· =A.ou) H (upd H3 A.ou (.dK kv)):=λy o e n=>kb e n
  have B4:CS a (upd H3 A.ou (.dK kv)) A w rows n cs ow:=by
   obtain⟨⟨b1,b2,b3,b4,b5,b6,_,b8,b9,b10,b11,b12⟩,pk,nb⟩:=B
   have g:∀ x,x=A.ou->F2 (H x):=λx e=>e ▸ lou
   obtain⟨dx',b1⟩:=b1
   obtain⟨chs,b2,b2'⟩:=b2
   obtain⟨kvs,b6,b6'⟩:=b6
   obtain⟨ts,pl1,pl2⟩:=pk.ls
   refine⟨⟨⟨dx',kb b1 (AQ b1 hou (by intro z;cases z))⟩,⟨chs,kb b2 (AQ b2 hou (by intro z;cases z)),Paired.mapP b2' λx c h=>h.sb sb4 g⟩,kb b3 (AQ b3 hou (by intro z;cases z)),λi l e=>kb (b4 i l e) (AQ (b4 i l e) hou (by intro z;cases z)),b5,⟨kvs,kb b6 (AQ b6 hou (by intro z;cases z)),b6'⟩,⟨kv,AJ,hv,hk⟩,b8,b9,b10,b11,b12⟩,pk.sbL sb4 g (AQ pl1 hou (by intro z;cases z)),nb⟩
  have ev4:upd H3 A.ou (.dK kv) vl=some (.lst row):=by rw[AH (AQ ev3 hou3 (by intro z;cases z))];exact ev3
  have ht4:upd H3 A.ou (.dK kv) t=some (.tup [.ref ol,.ref hl]):=by rw[AH (AQ ht hou3 (by intro z;cases z))];exact ht
  have ho4:upd H3 A.ou (.dK kv) ol=some (.lst (oc.out.map λ(k:Nat)=>V.int k)):=by rw[AH nou];exact ho3
  have hh4:upd H3 A.ou (.dK kv) hl=some (.lst (hs.map V.ref)):=by rw[AH (AQ hh3 hou3 (by intro z;cases z))];exact hh3
  have hp4:Paired (λx (p:Nat × Int)=>upd H3 A.ou (.dK kv) x=some (.tup [.int p.1,.int p.2])) hs oc.held:=Paired.mapP hpr λx p e=>by rw[AH (AQ e hou3 (by intro z;cases z))];exact e
  revert sb4 B4 ev4 ht4 ho4 hh4 hp4
  generalize upd H3 A.ou (.dK kv)=H4
  intro sb4 B4 ev4 ht4 ho4 hh4 hp4
  obtain⟨dx4,hb4⟩:=B4.bk.ob
  obtain⟨dp4,hg4⟩:=B4.pk.ob
  refine⟨_,_,_,hb4,T.cl,T.nG,_,MG,A.gp,rfl,_,_,hg4,fS _ _ _,_,_,hb4,C1 (by decide +kernel),A,w,rows,n,cs,ow,b',vl,row,rfl,T,B4,hbl,ev4,B.pk.wd row (List.mem_of_getElem? er),λll H5 hll5 s5 ell5=> ?_⟩
  have B5:=B4.same s5
  refine⟨A.gp,A.cl,w,rows,n,b',ll,D5 cs ow b' row,rfl,TP,B5.pk,SqL.of ell5,by rw[YH,B.pk.wd row (List.mem_of_getElem? er)];have:=B.pk.sw;omega,λi ei hi hxw H6 P6 sb6=> ?_,λz=> ?_⟩
  ·have ei:b'=i:=by omega
   subst ei
   push_cast[↓OU,↓OV,↓OW,↓OX,↓OY,↓OZ]
   obtain⟨ts5,pl5,pt5⟩:=B5.pk.ls
   obtain⟨dp5,hg5⟩:=B5.pk.ob
   have ap:=B5.bk.ap
   have nF:∀ {y:Addr} {o:HO},H5 y=some o->(∀ C d f,o≠.ins C d f)->(∀ xs,o≠.lst xs)->¬ (y=A.gp\/y=A.cl):=λe n1 n2=>by
    rintro (z | z)
    ·exact AQ e hg5 (n1 _ _ _) z
    ·exact AQ e pl5 (n2 _) z
   have gp_b:A.b≠A.gp:=by
    obtain⟨d5,hb5⟩:=B5.bk.ob
    exact AQ hb5 hg5 (OM (by simp[bf,pf]))
   have k6:∀ {y:Addr} {o:HO},H5 y=some o->y≠A.gp->y≠A.cl->H6 y=some o:=λe n1 n2=>sb6 _ _ e (by rintro (z | z);exact n1 z;exact n2 z)
   have notins:∀ {y:Addr} {o:HO},H5 y=some o->(∀ C d f,o≠.ins C d f)->y≠A.gp:=λe n=>AQ e hg5 (n _ _ _)
   have B6:CS a H6 A w (rows.set b' (D5 cs ow b' row)) (n+1) cs ow:=by
    obtain⟨⟨b1,b2,b3,b4,b5,b6,b7,b8,b9,b10,b11,b12⟩,pk,nb⟩:=B5
    obtain⟨dx',b1⟩:=b1
    obtain⟨chs,b2,b2'⟩:=b2
    obtain⟨kvs,b6,b6'⟩:=b6
    obtain⟨kvo',b7,b7'⟩:=b7
    refine⟨⟨⟨dx',k6 b1 gp_b (AQ b1 pl5 (by intro z;cases z))⟩,⟨chs,k6 b2 (notins b2 (by intro _ _ _ z;cases z)) ap.2.2.2.1.symm,Paired.mapP b2' λx c h=> ?_⟩,k6 b3 (notins b3 (by intro _ _ _ z;cases z)) ap.2.2.2.2.1.symm,λi l e=>k6 (b4 i l e) (notins (b4 i l e) (by intro _ _ _ z;cases z)) (λz=>ap.2.2.2.2.2 (z ▸ List.mem_of_getElem? e)),b5,⟨kvs,k6 b6 (notins b6 (by intro _ _ _ z;cases z)) (AQ b6 pl5 (by intro z;cases z)),b6'⟩,⟨kvo',k6 b7 (notins b7 (by intro _ _ _ z;cases z)) (AQ b7 pl5 (by intro z;cases z)),b7'⟩,b8,b9,b10,b11,b12⟩,P6,by rw[nb,List.length_set]⟩
    obtain⟨dc,p1,n1,h1,h2,h3⟩:=h
    exact⟨dc,p1,n1,k6 h1 (AQ h1 hg5 (OM (by simp[EJ,pf]))) (AQ h1 pl5 (by intro z;cases z)),k6 h2 (notins h2 (by intro _ _ _ z;cases z)) (AQ h2 pl5 (by intro z;cases z)),k6 h3 (notins h3 (by intro _ _ _ z;cases z)) (AQ h3 pl5 (by intro z;cases z))⟩
   have ncO:ol≠A.cl:=λz=>fO (.inr (.inr (.inr (.inr (.inr z)))))
   have ncL:hl≠A.cl:=λz=>fL (.inr (.inr (.inr (.inr (.inr z)))))
   have ht5:=s5 _ _ ht4
   have ho5:=s5 _ _ ho4
   have hh5:=s5 _ _ hh4
   refine q H6 ⟨k6 ht5 (notins ht5 (by intro _ _ _ z;cases z)) (AQ ht5 pl5 (by intro z;cases z)),k6 ho5 (notins ho5 (by intro _ _ _ z;cases z)) ncO,hs,k6 hh5 (notins hh5 (by intro _ _ _ z;cases z)) ncL,Paired.mapP hp4 λx p e=> ?_⟩ B6 λy o e ny=> ?_
   ·have e5:=s5 _ _ e
    exact k6 e5 (notins e5 (by intro _ _ _ z;cases z)) (AQ e5 pl5 (by intro z;cases z))
   ·exact k6 (s5 _ _ (sb4 _ _ e λz=>ny (.inl (.inr (.inr (.inr (.inr (.inl z)))))))) (λz=>ny (.inr z)) (λz=>ny (.inl (.inr (.inr (.inr (.inr (.inr z)))))))
  ·rcases z with z | z | z
   ·omega
   ·omega
   ·exact absurd (by rw[YH,B.pk.wd row (List.mem_of_getElem? er)]) z
theorem Cc(h:IN K a vs H Q E):vs.length=2:=by
 obtain⟨_,_,_,_,_,_,_,rfl,_⟩:=h
 rfl
theorem Cd(h:IP K a vs H Q E):T7 K a (λ_=>E) (BB Q) (BD ["self","place","number"] vs) H:=by
 obtain⟨A,w,rows,n,cs,outs,pl,i,j,rfl,T,TP,B,hp,q,qe⟩:=h
 obtain⟨dx,hb⟩:=B.bk.ob
 obtain⟨dp,hg⟩:=B.pk.ob
 push_cast[T7,↓wN,↓wO,↓wP,↓wQ]
 refine⟨_,_,hb,C1 (by decide +kernel),A,w,rows,n,cs,outs,pl,i,j,rfl,T,TP,B,hp,λh=> ?_,qe⟩
 have q:=q h
 unfold OS at q
 cases e:DG cs i j with
 | none =>
  rw[e]at q
  push_cast[JY]
  refine⟨_,_,_,hb,T.cl,T.nG,_,MG,A.gp,rfl,_,_,hg,UQ _ _ _,A7 hp (n:=0) rfl rfl ?_⟩
  refine⟨A.gp,A.cl,w,rows,n,i,rfl,TP,B.pk,λb' row eb er vl hvl=> ?_,λz=>absurd h λy=>by omega⟩
  subst eb
  have s1:=AU (o:=.lst row) hvl
  refine A7 (s1 _ _ hp) (n:=1) rfl rfl ?_
  have rl:=B.pk.wd row (List.mem_of_getElem? er)
  have hj:j.toNat<row.length:=by omega
  have ej:=List.getElem?_eq_getElem hj
  refine B0 (SqL.of AJ) (n:=j.toNat) (v:=row[j.toNat]) (by omega) ej ?_
  refine q _ _ ?_ s1
  rw[show((b':Int)).toNat=b' from by omega,er]
  exact ej
 | some k =>
  rw[e]at q
  push_cast[JY]
  have hk:=YB e
  have ec:=List.getElem?_eq_getElem hk
  obtain⟨chs,hm,pc⟩:=B.bk.made
  obtain⟨x,ex,dx',p1,n1,h1,h2,h3⟩:=EC pc ec
  refine⟨_,_,_,hb,T.cl,T.nM,_,GJ,B0 (SqL.of hm) (n:=k) (v:=.ref x) rfl (by rw[List.getElem?_map,ex];rfl) ⟨x,rfl,_,_,_,h1,T.cc,T.nV,_,YE,q _ _ ?_ (Same.refl _)⟩⟩
  show(cs[k]?).map (·.val)=_
  rw[ec]
  rfl
theorem Cg(h:IP K a vs H Q E):vs.length=2:=by
 obtain⟨_,_,_,_,_,_,_,_,_,rfl,_⟩:=h
 rfl
theorem Cj(h:IQ K a vs H Q E):SY K a (λ_=>E) (BB Q) (BD ["self","number"] vs) H:=by
 obtain⟨A,w,rows,n,cs,outs,x,rfl,T,B,q,qe⟩:=h
 obtain⟨dx,hb⟩:=B.bk.ob
 push_cast[SY,↓uP,↓uQ]
 refine⟨_,_,hb,C1 (by decide +kernel),by decide,λl hl=> ?_⟩
 have s1:=AU (o:=.lst [.int x]) hl
 refine⟨A,w,rows,n,cs,outs,l,[x],rfl,T,B.same s1,SqL.of AJ,λkn=> ?_,λ⟨y,hy,hn⟩=> ?_⟩
 ·have hk:=kn x (List.mem_singleton.mpr rfl)
  obtain⟨k,rfl⟩:∃ k:Nat,x=k:=⟨x.toNat,by omega⟩
  have hkl:k<cs.length:=by have:=hk.2;omega
  have ec:=List.getElem?_eq_getElem hkl
  obtain⟨xs,p,e1,e2,dx2,pl,nt,c1,c2,c3⟩:=B.bk.at ec
  push_cast[]
  refine⟨_,_,_,s1 _ _ hb,T.cl,T.nM,_,GJ,B0 (SqL.of (s1 _ _ e1)) rfl e2 ?_⟩
  push_cast[]
  refine⟨_,_,_,s1 _ _ c1,T.cc,T.nN,_,RV,nt,_,rfl,.inr (SqT.of (s1 _ _ c3)),λr hr=> ?_⟩
  exact q k _ r _ rfl ec (s1.free hr) (s1.trans (AU hr)) AJ
 ·rw[List.mem_singleton.mp hy]at hn
  exact qe hn _ s1
theorem Ck(h:IQ K a vs H Q E):vs.length=2:=by
 obtain⟨_,_,_,_,_,_,_,rfl,_⟩:=h
 rfl
theorem fT:∀ {n:Nat} {v:V},GoodV n H v->∃ d,Dat K H n v d
 | _+1,.int i,_=>⟨_,Dat.int i⟩
 | _+1,.non,_=>⟨_,Dat.non⟩
 | _+1,.str z,h=>⟨.str z,.str z,h,Nat.zero_le _⟩
 | n+1,.ref p,⟨xs,h1,h2,h3⟩=>by
  have:∀ (l:List V),(∀ v∈l,GoodV n H v)->∃ ds,Paired (Dat K H n) l ds:=λl=>by
   induction l with
   | nil=>exact λ_=>⟨[],.nil⟩
   | cons x r ih =>
    intro h
    obtain⟨d,hd⟩:=fT (h x (List.mem_cons_self ..))
    obtain⟨ds,hds⟩:=ih λv hv=>h v (List.mem_cons_of_mem _ hv)
    exact⟨d::ds,.cons hd hds⟩
  obtain⟨ds,hds⟩:=this xs h3
  exact⟨_,Dat.tup (SqT.of h1) hds⟩
theorem Cl(h:EX K a vs H Q E):SV K a (λ_=>E) (BB Q) (BD ["found"] vs) H:=by
 obtain⟨c,rfl,q⟩:=h
 push_cast[SV,↓t9]
 refine DN (.inl (.int _)) (.ty _) (b:=true) rfl ⟨true,rfl,kW (DN (.inl (.int _)) (.ty _) (b:=false) rfl ?_)⟩
 push_cast[]
 exact q
theorem Cm(h:EX K a vs H Q E):vs.length=1:=by
 obtain⟨_,rfl,_⟩:=h
 rfl
def EL(H H':Hp):Prop:=∀ b xs,H b=some (.tup xs)->H' b=some (.tup xs)
theorem GoodV.keep{H H':Hp}(k:EL H H'):∀ {n:Nat} {v:V},GoodV n H v->GoodV n H' v
 | 0,_,h=>h
 | _+1,.int _,_=>trivial
 | _+1,.non,_=>trivial
 | _+1,.str _,h=>h
 | n+1,.ref p,⟨xs,h1,h2,h3⟩=>⟨xs,k _ _ h1,h2,λv hv=>(h3 v hv).keep k⟩
theorem GoodV.up{H:Hp}:∀ {n:Nat} {v:V},GoodV n H v->GoodV (n+1) H v
 | 0,_,h=>h.elim
 | _+1,.int _,_=>trivial
 | _+1,.non,_=>trivial
 | _+1,.str _,h=>h
 | n+1,.ref p,⟨xs,h1,h2,h3⟩=>⟨xs,h1,h2,λv hv=>(h3 v hv).up⟩
theorem Same.tk{H H':Hp}(s:Same H H'):EL H H':=λb xs e=>s _ _ e
theorem good7.keep{H H':Hp}{rows:List (List V)}(g:good7 H rows)(k:EL H H'):good7 H' rows:=λr hr v hv=>(g r hr v hv).keep k
theorem Cp(h:DS K a 0 vs H Q E):False:=by
 obtain⟨x,y,_,h,_⟩:=h
 rcases h with⟨_,h⟩ | ⟨_,_,_,m,h,_⟩
 ·exact h
 ·omega
theorem fU{n:Nat}{p p':Addr}{xs:List V}(h1:H p=some (.tup xs))(h2:H p'=some (.tup xs))(hl:xs.length<=2000)(hg:∀ v∈xs,GoodV n H v)(q:∀ H',Same H H'->Q (.bl true) H') :
  IS K a n (λ_=>E) (BB Q) (BD ["found","due","one","other"] [.ref p,.ref p']) H:=by
 push_cast[IS,↓KA,↓KB,↓KC,↓KD,↓KF,↓KG,↓KH,↓KI,↓KJ,↓KK,↓KL,↓KM]
 refine DN (.inl (.tup h2)) (.ty _) (b:=true) rfl ?_
 push_cast[]
 refine DN (.inl (.tup h1)) (.ty _) (b:=true) rfl ?_
 push_cast[]
 refine⟨_,.inr ⟨_,SqT.of h1,rfl⟩,_,.inr ⟨_,SqT.of h2,rfl⟩,?_⟩
 push_cast[]
 push_cast[↓p0]
 refine⟨false,⟨_,SqT.of h1⟩,false,⟨_,SqT.of h2⟩,?_⟩
 refine p7 rfl (λi σ H'=>Same H H'/\∃ x y,σ=[some (.ref p),some (.ref p'),x,y]) ⟨Same.refl _,_,_,rfl⟩ (λi σ H' _ ⟨s,_⟩=>⟨show SqB K false H' p xs from SqT.of (s _ _ h1),show SqB K false H' p' xs from SqT.of (s _ _ h2)⟩) (λi x y σ H' t hx hy ⟨s,u,v,e⟩ ht=> ?_) (λσ H' ⟨s,_⟩=>by push_cast[↓KA,↓KB,↓KC,↓KD,↓KF,↓KG,↓KH,↓KI,↓KJ,↓KK,↓KL,↓KM];exact q _ s)
 rw[hx]at hy
 cases hy
 subst e
 push_cast[]
 refine⟨_,SqT.of AJ,rfl,_,_,rfl,_,_,rfl,rfl,?_⟩
 push_cast[↓KA,↓KB,↓KC,↓KD,↓KF,↓KG,↓KH,↓KI,↓KJ,↓KK,↓KL,↓KM]
 have s2:=s.trans (AU (o:=.tup [x,x]) ht)
 refine⟨x,x,rfl,.inl ⟨rfl,(hg x (List.mem_of_getElem? hx)).keep s2.tk⟩,λH2 s3=> ?_⟩
 push_cast[]
 exact s2.trans s3
theorem Cq{n:Nat}(h:DS K a (n+1) vs H Q E):IS K a n (λ_=>E) (BB Q) (BD ["found","due","one","other"] vs) H:=by
 obtain⟨x,y,rfl,h,q⟩:=h
 rcases h with⟨rfl,h⟩ | ⟨p,p',xs,m,e,rfl,rfl,h1,h2,hl,hg⟩
 ·cases x with
  | ref p =>
   obtain⟨xs,h1,h2,h3⟩:=h
   exact fU h1 h1 (by omega) h3 q
  | int i =>
   push_cast[IS,↓KA,↓KB,↓KC,↓KD,↓KF,↓KG,↓KH,↓KI,↓KJ,↓KK,↓KL,↓KM]
   refine DN (.inl (.int i)) (.ty _) (b:=false) rfl ?_
   push_cast[]
   refine DN (.inl (.int i)) (.ty _) (b:=false) rfl ?_
   push_cast[↓MS]
   exact q _ (Same.refl _)
  | non =>
   push_cast[IS,↓KA,↓KB,↓KC,↓KD,↓KF,↓KG,↓KH,↓KI,↓KJ,↓KK,↓KL,↓KM]
   refine DN (.inl .non) (.ty _) (b:=false) rfl ?_
   push_cast[]
   exact q _ (Same.refl _)
  | str z =>
   push_cast[IS,↓KA,↓KB,↓KC,↓KD,↓KF,↓KG,↓KH,↓KI,↓KJ,↓KK,↓KL,↓KM]
   refine DN (.inl (.str z)) (.ty _) (b:=false) rfl ?_
   push_cast[]
   refine DN (.inl (.str z)) (.ty _) (b:=true) rfl ?_
   push_cast[]
   refine DN (.inl (.str z)) (.ty _) (b:=true) rfl ?_
   push_cast[]
   exact q _ (Same.refl _)
  | _=>exact h.elim
 ·cases e
  exact fU h1 h2 hl hg q
theorem Cv{n:Nat}(h:DS K a n vs H Q E):vs.length=2:=by
 obtain⟨_,_,rfl,_⟩:=h
 rfl
theorem EZ{c A B:Prop}[Decidable c](h:c)(x:A):if c then A else B:=by rw[if_pos h];exact x
theorem B7{c A B:Prop}[Decidable c](h:¬ c)(x:B):if c then A else B:=by rw[if_neg h];exact x
theorem Cw{lo:Int}(h0:0<=lo)(h1:lo<31):PyData.strOk (HH (Str.ofString "Z~") lo)=true:=by
 have:∀ n:Fin 31,PyData.strOk (HH (Str.ofString "Z~") (n.val:Int))=true:=by decide +kernel
 have:=this ⟨lo.toNat,by omega⟩
 rwa [show(((⟨lo.toNat,by omega⟩:Fin 31).val:Nat):Int)=lo from by simp;omega]at this
theorem Cy(h:IR K a vs H Q E):TQ K a (λ_=>E) (BB Q) (BD ["cell","far","small","long"] vs) H:=by
 obtain⟨c,rfl,q⟩:=h
 push_cast[TQ,↓u6,↓u7,↓u8,↓u9,↓DQ]
 have l0:=D0 (c:=c) (p:=10009) (m:=31) (by decide)
 have l1:=EW (c:=c) (p:=10009) (m:=31) (by decide)
 have r0:=D0 (c:=c) (p:=10037) (m:=8) (by decide)
 have r1:=EW (c:=c) (p:=10037) (m:=8) (by decide)
 generalize CQ c 10007 5 - 2=sm
 generalize CQ c 10009 31=lo at l0 l1 ⊢
 generalize CQ c 10037 8=ix at r0 r1 ⊢
 refine⟨⟨by decide,by decide,by decide⟩,by decide,.inr ⟨by decide,by decide⟩,Q6,.inl ⟨by decide,by decide⟩,by decide,Q6,l0,by omega,by decide,by decide,λp hp=>⟨by decide,λp1 hp1=>⟨by decide,λp2 hp2=>⟨by decide,λp3 hp3=> ?_⟩⟩⟩⟩
 generalize (c % 10 ^ 40 * 1000000000039+71) % (2 * 10 ^ 30+1) - 10 ^ 30=far at hp3 ⊢
 have s1:=AU (o:=.tup [V.int sm,V.non]) hp1
 have s2:=AU (o:=.tup [V.int far,V.ref p1]) hp2
 have s3:=AU (o:=.lst [V.non,V.int far,V.int sm,V.str (Str.ofString ""),V.str (Str.ofString "a b"),V.str (HH (Str.ofString "Z~") lo),V.ref p,V.ref p2]) hp3
 have ss:=(((AU (o:=.tup []) hp).trans s1).trans s2).trans s3
 have g:∀ {v:V},GoodV 7 (upd (upd (upd (upd H p (.tup [])) p1 (.tup [V.int sm,V.non])) p2 (.tup [V.int far,V.ref p1])) p3 (.lst [V.non,V.int far,V.int sm,V.str (Str.ofString ""),V.str (Str.ofString "a b"),V.str (HH (Str.ofString "Z~") lo),V.ref p,V.ref p2])) v->Q v _:=λh=>q _ _ ss h
 rcases(by omega:ix=0\/ix=1\/ix=2\/ix=3\/ix=4\/ix=5\/ix=6\/ix=7)with e | e | e | e | e | e | e | e<;>subst e
 ·exact B0 (SqL.of AJ) (n:=0) rfl rfl (g trivial)
 ·exact B0 (SqL.of AJ) (n:=1) rfl rfl (g trivial)
 ·exact B0 (SqL.of AJ) (n:=2) rfl rfl (g trivial)
 ·exact B0 (SqL.of AJ) (n:=3) rfl rfl (g (show PyData.strOk _=true by decide +kernel))
 ·exact B0 (SqL.of AJ) (n:=4) rfl rfl (g (show PyData.strOk _=true by decide +kernel))
 ·exact B0 (SqL.of AJ) (n:=5) rfl rfl (g (Cw l0 l1))
 ·exact B0 (SqL.of AJ) (n:=6) rfl rfl (g ⟨[],s3 _ _ (s2 _ _ (s1 _ _ AJ)),by simp,by simp⟩)
 ·refine B0 (SqL.of AJ) (n:=7) rfl rfl (g ⟨_,s3 _ _ AJ,by simp,λv hv=> ?_⟩)
  simp only[List.mem_cons,List.not_mem_nil,or_false]at hv
  rcases hv with rfl | rfl
  ·trivial
  ·refine⟨_,s3 _ _ (s2 _ _ AJ),by simp,λv hv=> ?_⟩
   simp only[List.mem_cons,List.not_mem_nil,or_false]at hv
   rcases hv with rfl | rfl<;>trivial
theorem Cz(h:IR K a vs H Q E):vs.length=1:=by
 obtain⟨_,rfl,_⟩:=h
 rfl
theorem Db(h:MT K a vs H Q E):TR K a (λ_=>E) (BB Q) (BD ["cell","size"] vs) H:=by
 obtain⟨c,z,m,w,rfl,hz,hm,hw,q⟩:=h
 push_cast[TR,↓vA,↓vB,↓vC,↓DQ]
 have m0:(0:Int)<m:=by omega
 have w0:(0:Int)<w:=by omega
 have i0:=D0 (c:=c) (p:=10061) m0
 have i1:=EW (c:=c) (p:=10061) m0
 have j0:=D0 (c:=c) (p:=10067) w0
 have j1:=EW (c:=c) (p:=10067) w0
 split
 ·refine A7 hz (n:=0) rfl rfl ?_
  push_cast[↓DQ]
  exact⟨m0,by decide,λt ht=>q t _ _ _ (AU ht) AJ i0 i1 (by omega) w0⟩
 ·refine A7 hz (n:=0) rfl rfl ?_
  push_cast[↓DQ]
  refine⟨m0,A7 hz (n:=1) rfl rfl ?_⟩
  push_cast[↓DQ]
  exact⟨w0,by decide,λt ht=>q t _ _ _ (AU ht) AJ i0 i1 j0 j1⟩
theorem Dc(h:MT K a vs H Q E):vs.length=2:=by
 obtain⟨_,_,_,_,rfl,_⟩:=h
 rfl
theorem Dd(h:M0 K a vs H Q E):T8 K a (λ_=>E) (BB Q) (BD ["hold","block","right","e"] vs) H:=by
 obtain⟨A,w,rows,n,cs,outs,b,rfl,⟨T,TP,X⟩,B,hb,q⟩:=h
 obtain⟨dx,ho⟩:=B.bk.ob
 push_cast[T8,↓dC,↓dE,↓dG,↓dJ,↓dN]
 refine⟨_,_,ho,C1 (by decide +kernel),A,w,rows,n,cs,outs,b,rfl,T,TP,B,λb' row t ol hl H' eb er=> ?_,λ_=> ?_⟩
 ·have:=(List.getElem?_eq_some_iff.mp er).1
  omega
 ·refine .inl ⟨X.hit,λe he=> ?_⟩
  have ty:∀ {H2:Hp},Same (upd H e (.ext (G1 e (.ref (a "NoBlock"))))) H2->TyX K H2 (.ref e) (.ref (a "NoBlock")):=λs=>.inr ⟨e,a "NoBlock",rfl,rfl,s _ _ AJ,X.ec⟩
  push_cast[↓dC,↓dE,↓dG,↓dJ,↓dN]
  refine DN (ty (Same.refl _)) (.own _) X.i1 ?_
  refine⟨true,rfl,EZ rfl (DN (ty (Same.refl _)) (.ty _) X.iv ⟨true,rfl,EZ rfl ⟨by decide,λt ht=> ?_⟩⟩)⟩
  refine pN (ty (AU ht)) (SqT.of AJ) (.cons (.own _) (.cons (.own _) .nil)) X.no ⟨false,rfl,?_⟩
  exact q _ ((AU he).trans (AU ht))
theorem Dg(h:M0 K a vs H Q E):vs.length=2:=by
 obtain⟨_,_,_,_,_,_,_,rfl,_⟩:=h
 rfl
theorem fV{F:Addr->Prop}:∀ {tl:List Addr} {cs:List Ch},Paired (OwnCh F H) tl cs->(∀ c∈cs,GoodV 7 H c.val)->∃ ds,Paired (Dat K H 8) (tl.map V.ref) ds
 | _,_,.nil,_=>⟨[],.nil⟩
 | _,_,.cons ⟨pl,nl,ns,h1,h2,h3,_⟩ r,g=>by
  obtain⟨ds,hd⟩:=fV r λc hc=>g c (List.mem_cons_of_mem _ hc)
  obtain⟨d,gd⟩:=fT (K:=K) (g _ List.mem_cons_self)
  have d1:Dat K H 7 (.ref pl) (.tuple [.int _,.int _]):=Dat.tup (n:=6) (SqT.of h2) (.cons (Dat.int _) (.cons (Dat.int _) .nil))
  have d2:Dat K H 7 (.ref nl) (.list (ns.map PyData.int)):=Dat.lst (n:=6) (SqL.of h3) (IE ns)
  exact⟨_,.cons (Dat.tup (n:=7) (SqT.of h1) (.cons d1 (.cons gd (.cons d2 .nil)))) hd⟩
def O8(H:Hp)(c:Int)(pl L la nl:Addr)(cs:List Ch)(k:Nat)(σ:St)(H':Hp):Prop:=(∃ ns:List Int,Same H H'/\H' nl=some (.lst (ns.map V.int))/\ns.length=k/\∀ x∈ns,known cs x)/\∃ z1 z2,σ=[some (.int c),some (.ref pl),some (.ref L),some (.ref la),some (.ref nl),z1,z2]
theorem Dh(h:MV K a vs H Q E):TW K a (λ_=>E) (BB Q) (BD ["cell","place","changes","last","needs","k","way"] vs) H:=by
 obtain⟨c,pl,L,la,i,j,tl,cs,F,rfl,hpl,hL,own,⟨kvs,hla,hv,hkl,hkk⟩,hg,hcs,q⟩:=h
 have htl:tl.length=cs.length:=own.length
 push_cast[TW,↓vD]
 refine⟨by decide,λnl hnl=> ?_⟩
 push_cast[↓vK,↓DQ]
 refine⟨by decide,λe0 he0=> ?_⟩
 have nne:nl≠e0:=AX AJ he0
 have s1:Same H (upd (upd H nl (.lst [])) e0 (.lst [])):=(AU hnl).trans (AU he0)
 have en:upd (upd H nl (.lst [])) e0 (.lst []) nl=some (.lst []):=by rw[AH nne,AJ]
 have ee:upd (upd H nl (.lst [])) e0 (.lst []) e0=some (.lst []):=AJ
 revert s1 en ee
 generalize upd (upd H nl (.lst [])) e0 (.lst [])=H1
 intro s1 en ee
 obtain⟨ds,hds⟩:=fV (K:=K) own hg
 refine sB (n:=8) (by decide) (SqL.of (s1 _ _ hL)) (Paired.mapP hds λv d h=>⟨Rep.same s1 h.1,h.2⟩) (SqL.of ee) ?_
 have q0:=D0 (c:=c) (p:=10069) (m:=5) (by decide)
 have q1:=EW (c:=c) (p:=10069) (m:=5) (by decide)
 generalize CQ c 10069 5=pk at q0 q1
 push_cast[]
 obtain⟨cnt,ecnt,hcnt⟩:∃ cnt:Nat,pk * (if ¬ tl.map V.ref=[]then 1 else 0)=cnt/\cnt<=4/\(cnt≠0->0<cs.length):=by
  by_cases h:tl.map V.ref=[]
  ·refine⟨0,by simp[h],by omega,λz=>absurd rfl z⟩
  ·have:0<cs.length:=by
    rw[<-htl]
    rcases tl with _ | _
    ·exact absurd rfl h
    ·simp
   exact⟨pk.toNat,by simp[h];omega,by omega,λ_=>this⟩
 refine⟨.inl ⟨by omega,by omega⟩,by rw[ecnt];omega,by rw[ecnt];omega,?_⟩
 rw[ecnt,Int.toNat_natCast]
 have sk:∀ o,Same H (upd H1 nl o):=λo y u e=>by rw[AH (AX e hnl)];exact s1 _ _ e
 refine Q3 (O8 H c pl L la nl cs) ⟨⟨[],s1,en,rfl,by simp⟩,_,_,rfl⟩ (λk σ H' hk ⟨⟨ns,s2,en2,hn,hb⟩,z1,z2,ez⟩=> ?_) (λσ H' ⟨⟨ns,s2,en2,hn,hb⟩,z1,z2,ez⟩=> ?_)
 ·subst ez
  have hpos:=hcnt.2 (by omega)
  have app:∀ {x:Int} {H2:Hp} {y1 y2:Option V},Same H' H2->known cs x->EU (.ref nl) [.int x] H2 λv H3=>O8 H c pl L la nl cs (k+1) [some (.int c),some (.ref pl),some (.ref L),some (.ref la),some (.ref nl),y1,y2] H3:=λ{x H2 y1 y2} s hx=>by
   refine⟨nl,_,_,rfl,rfl,s _ _ en2,small _ (by simp;omega),⟨ns++[x],λy o e=> ?_,by rw[AJ,List.map_append];rfl,by simp;omega,λy hy=> ?_⟩,_,_,rfl⟩
   ·rw[AH (AX e hnl)]
    exact s _ _ (s2 _ _ e)
   ·rcases List.mem_append.mp hy with h | h
    ·exact hb y h
    ·rw[List.mem_singleton.mp h];exact hx
  have hlen:∀ {H2:Hp},Same H' H2->NM K (.ref L) H2 cs.length:=λs=>.inl ⟨_,SqL.of (s _ _ (s2 _ _ hL)),by rw[List.length_map,htl]⟩
  have c0:(0:Int)<cs.length:=by omega
  have back:∀ {H2:Hp},Same H' H2->TU K a (λ_=>E) (λ_=>E) { nx:=O8 H c pl L la nl cs (k+1),rt:=Q,bk:=TV K a (λ_=>E) (λ_=>E) (BB Q),ct:=O8 H c pl L la nl cs (k+1) } [some (.int c),some (.ref pl),some (.ref L),some (.ref la),some (.ref nl),some (.int (0+(k:Int))),some (.int (CQ (c+(0+(k:Int))) 10079 4))] H2:=λ{H2} s=>by
   push_cast[↓vH,↓DQ]
   have b0:=D0 (c:=c+(0+(k:Int))) (p:=10093) (m:=6) (by decide)
   refine⟨.inl ⟨rfl,_,SqL.of (s _ _ en2)⟩,cs.length,hlen s,app s ?_⟩
   constructor<;>split<;>omega
  push_cast[↓vE,↓DQ,↓vJ]
  by_cases w0:CQ (c+(0+(k:Int))) 10079 4=0
  ·refine EZ w0 ?_
   push_cast[↓vF,↓DQ]
   refine⟨.inl ⟨rfl,_,SqL.of en2⟩,cs.length,hlen (Same.refl _),c0,app (Same.refl _) ⟨D0 c0,EW c0⟩⟩
  refine B7 w0 ?_
  push_cast[↓vI]
  by_cases w1:CQ (c+(0+(k:Int))) 10079 4=1
  ·refine EZ w1 (A7 (s2 _ _ hpl) (n:=0) rfl rfl (A7 (s2 _ _ hpl) (n:=1) rfl rfl ?_))
   push_cast[]
   refine⟨by decide,λp hp=> ?_⟩
   have sp:=AU (o:=.tup [V.int i,V.int (j+1)]) hp
   refine⟨_,OJ (sp _ _ (s2 _ _ hla)) AJ,?_⟩
   rw[hv]
   cases hnew:DG cs i (j+1)with
   | none=>exact B7 (by simp) (back sp)
   | some m =>
    refine EZ (by simp) ?_
    push_cast[↓vG]
    refine⟨.inl ⟨rfl,_,SqL.of (sp _ _ en2)⟩,A7 (sp _ _ (s2 _ _ hpl)) (n:=0) rfl rfl (A7 (sp _ _ (s2 _ _ hpl)) (n:=1) rfl rfl ?_)⟩
    push_cast[]
    refine⟨by decide,λp' hp'=> ?_⟩
    have sp':=AU (o:=.tup [V.int i,V.int (j+1)]) hp'
    refine⟨_,X1 (sp' _ _ (sp _ _ (s2 _ _ hla))) AJ (by rw[hv,hnew];rfl),app (sp.trans sp') ?_⟩
    obtain⟨c0,hc0,_⟩:=YU hnew
    have:=(List.getElem?_eq_some_iff.mp hc0).1
    exact⟨by omega,by omega⟩
  ·exact B7 w1 (back (Same.refl _))
 ·subst ez
  push_cast[↓vL]
  exact q nl ns _ hnl s2 en2 hb (by omega)
theorem Dj(h:MV K a vs H Q E):vs.length=4:=by
 obtain⟨_,_,_,_,_,_,_,_,_,rfl,_⟩:=h
 rfl
theorem US{f g:Int->Bool}:∀ {nd:List Int},(∀ y∈nd,f y=g y)->EK nd f=EK nd g
 | [],_=>rfl
 | x::r,h=>by
  have ih:=US (f:=f) (g:=g) (nd:=r) λy hy=>h y (List.mem_cons_of_mem _ hy)
  unfold EK at ih ⊢
  rw[List.find?_cons,List.find?_cons,h x List.mem_cons_self,ih]
theorem O9 {cs:List Ch} {outs:Int->Bool} (lo:∀ (k:Nat) c,cs[k]? =some c->∀ y∈c.nd,y<(k:Int)):∀ (l:List Nat) (s:Pass),l.Pairwise (· <·)->(∀ k∈l,s.gone k=false)->∃ (o:List Nat) (h:List (Nat × Int)),(l.foldl (CB cs outs) s).out=s.out++o/\(l.foldl (CB cs outs) s).held=s.held++h/\(h.map (·.1)).Sublist l/\(o++h.map (·.1)).Perm (l.filter λ(k:Nat)=> !outs k)/\(∀ x,(l.foldl (CB cs outs) s).gone x=(s.gone x || o.any λ(k:Nat)=>x ==(k:Int)))/\(∀ k∈o,k∈l)/\∀ p∈h,∃ c,cs[p.1]? =some c/\EK c.nd (λy=>outs y || (l.foldl (CB cs outs) s).gone y)=some p.2
  | [],s,_,_=>⟨[],[],by simp,by simp,by simp,by simp,by simp,by simp,by simp⟩
  | k::l,s,hr,hg=>by
    obtain⟨hk,hr⟩:=List.pairwise_cons.mp hr
    rw[List.foldl_cons]
    by_cases ho:outs k=true
    · have e:CB cs outs s k=s:=by unfold CB;rw[ho];rfl
      rw[e]
      obtain⟨o,h,h1,h2,h3,h4,h5,h6,h7⟩:=O9 lo l s hr λj hj=>hg j (List.mem_cons_of_mem _ hj)
      refine⟨o,h,h1,h2,h3.cons _,?_,h5,λj hj=>List.mem_cons_of_mem _ (h6 j hj),h7⟩
      rw[List.filter_cons_of_neg (by simp[ho])]
      exact h4
    · have ho:outs k=false:=by simpa using ho
      have g0:=hg k List.mem_cons_self
      cases el:(cs[k]?).bind λc=>EK c.nd λx=>outs x || s.gone x with
      | none =>
        have e:CB cs outs s k=⟨s.out++[k],s.held,λx=>s.gone x || x ==(k:Int)⟩:=by unfold CB;rw[ho,g0,el];rfl
        rw[e]
        obtain⟨o,h,h1,h2,h3,h4,h5,h6,h7⟩:=O9 lo l ⟨s.out++[k],s.held,λx=>s.gone x || x ==(k:Int)⟩ hr λj hj=>by
          have:=hk j hj
          have g1:=hg j (List.mem_cons_of_mem _ hj)
          simp only[g1,Bool.false_or,beq_eq_false_iff_ne]
          omega
        refine⟨k::o,h,by rw[h1];simp,h2,h3.cons _,?_,λx=>by rw[h5];simp[Bool.or_assoc],λj hj=> ?_,h7⟩
        · rw[List.filter_cons_of_pos (by simp[ho])]
          exact h4.cons k
        · rcases List.mem_cons.mp hj with rfl | hj
          ·exact List.mem_cons_self
          ·exact List.mem_cons_of_mem _ (h6 j hj)
      | some x =>
        have e:CB cs outs s k=⟨s.out,s.held++[(k,x)],s.gone⟩:=by unfold CB;rw[ho,g0,el];rfl
        rw[e]
        obtain⟨o,h,h1,h2,h3,h4,h5,h6,h7⟩:=O9 lo l ⟨s.out,s.held++[(k,x)],s.gone⟩ hr λj hj=>hg j (List.mem_cons_of_mem _ hj)
        refine⟨o,(k,x)::h,h1,by rw[h2];simp,h3.cons_cons _,?_,h5,λj hj=>List.mem_cons_of_mem _ (h6 j hj),λp hp=> ?_⟩
        · rw[List.filter_cons_of_pos (by simp[ho]),List.map_cons]
          exact List.perm_middle.trans (h4.cons k)
        · rcases List.mem_cons.mp hp with rfl | hp
          · obtain⟨c,ec,elk⟩:=Option.bind_eq_some_iff.mp el
            refine⟨c,ec,?_⟩
            rw[<-elk]
            refine US λy hy=> ?_
            rw[h5]
            have hy':=lo k c ec y hy
            have:(o.any λ(j:Nat)=>y ==(j:Int))=false:=by
              rw[List.any_eq_false]
              intro j hj
              have:=hk j (h6 j hj)
              simp
              omega
            rw[this,Bool.or_false]
          ·exact h7 p hp
theorem UT{cs:List Ch}{outs:Int->Bool}{b:Nat}(lo:∀ (k:Nat) c,cs[k]? =some c->∀ y∈c.nd,y<(k:Int)):((outcome cs outs (λ_=>false) b).held.map (·.1)).Pairwise (· <·)/\((outcome cs outs (λ_=>false) b).out++(outcome cs outs (λ_=>false) b).held.map (·.1)).Perm ((A9 cs b).filter λ(k:Nat)=> !outs k)/\∀ p∈(outcome cs outs (λ_=>false) b).held,∃ c,cs[p.1]? =some c/\EK c.nd (CJ cs outs b)=some p.2:=by
 obtain⟨o,h,h1,h2,h3,h4,h5,h6,h7⟩:=O9 (cs:=cs) (outs:=outs) lo (A9 cs b) ⟨[],[],λ_=>false⟩ (MI cs b) λ_ _=>rfl
 have e1:(outcome cs outs (λ_=>false) b).out=o:=by unfold outcome;rw[h1];rfl
 have e2:(outcome cs outs (λ_=>false) b).held=h:=by unfold outcome;rw[h2];rfl
 rw[e2]
 refine⟨(MI cs b).sublist h3,by rw[e1];exact h4,λp hp=> ?_⟩
 obtain⟨c,ec,el⟩:=h7 p hp
 refine⟨c,ec,?_⟩
 rw[<-el]
 refine US λy hy=> ?_
 unfold CJ
 rw[e1,h5]
 simp
theorem fW{ks:List Int}{ns:List Nat}(p:ks.Perm (ns.map λ(k:Nat)=>(k:Int)))(h:ks.Pairwise (· <=·))(hn:ns.Pairwise (· <·)):ks=ns.map λ(k:Nat)=>(k:Int) :=
 List.Perm.eq_of_pairwise (λa b _ _ h1 h2=>Int.le_antisymm h1 h2) h (List.pairwise_map.mpr (hn.imp λh=>by omega)) p
theorem G7{p p':Addr}{l:List Int}(h1:H p=some (.lst (l.map V.int)))(h2:H p'=some (.lst (l.map V.int)))(q:Q (.bl false) H):CP K (.ref p) (.ref p') H Q :=
 RM (n:=2) (by decide) (Dat.lst (SqL.of h1) (IE l)) (Dat.lst (SqL.of h2) (IE l)) q
theorem UU{p p':Addr}{l:List Int}(h1:H p=some (.lst (l.map V.int)))(h2:H p'=some (.lst (l.map V.int)))(q:Q (.bl true) H):CM K (.ref p) (.ref p') H Q :=
 sA (n:=2) (by decide) (Dat.lst (SqL.of h1) (IE l)) (Dat.lst (SqL.of h2) (IE l)) q
theorem E3(ns:List Nat):(ns.map λ(k:Nat)=>V.int k)=(ns.map λ(k:Nat)=>(k:Int)).map V.int:=by simp
theorem UV{K:W.Frag}{H:Hp}:∀ {hs:List Addr} {held:List (Nat × Int)},Paired (λx (p:Nat × Int)=>H x=some (.tup [.int p.1,.int p.2])) hs held->Paired (Dat K H 1) (hs.map V.ref) (held.map λp=>PyData.tuple [.int p.1,.int p.2])
 | _,_,.nil=>.nil
 | _,_,.cons h t=>.cons (.tup (SqT.of h) (.cons (.int _) (.cons (.int _) .nil))) (UV t)
theorem fX:∀ {hs:List Addr} {held:List (Nat × Int)},Paired (λx (p:Nat × Int)=>H x=some (.tup [.int p.1,.int p.2])) hs held->Paired (λx (k:Int)=>∃ v,H x=some (.tup [.int k,v])) hs (held.map λp=>(p.1:Int))
 | _,_,.nil=>.nil
 | _,_,.cons h r=>.cons ⟨_,h⟩ (fX r)
def Dk(H:Hp)(t L go nl:Addr)(b:Nat)(out:List Nat)(held:List (Nat × Int))(i:Nat)(σ:St)(H':Hp):Prop:=Same H H'/\H' nl=some (.lst (((out++(held.take i).map (·.1)).map λ(k:Nat)=>(k:Int)).map V.int))/\∃ z,σ=[some (V.ref t),some (V.ref L),some (V.ref go),some (V.int b),some (V.ref nl),z]
theorem Dl(h:MX K a vs H Q E):TY K a (λ_=>E) (BB Q) (BD ["told","changes","gone","block","numbers","pair"] vs) H:=by
 obtain⟨t,ol,hl,L,go,cs,outs,b,m,F,rfl,⟨ht,hol,hs,hhl,hp⟩,⟨tl,hL,own⟩,⟨kvs,hgo,hgs,hgm⟩,lo,hcs,q⟩:=h
 have htl:tl.length=cs.length:=own.length
 obtain⟨hrise,hperm,_⟩:=UT (outs:=outs) (b:=b) lo
 have orise:=(IK (cs:=cs) (outs:=outs) (b:=b)).1
 generalize eo:(outcome cs outs (λ_=>false) b).out=out at *
 generalize eh:(outcome cs outs (λ_=>false) b).held=held at *
 have hlen:out.length+held.length<=cs.length:=by
  have h1:=hperm.length_eq
  have h2:((A9 cs b).filter λ(k:Nat)=> !outs k).length<=cs.length:=by
   rw[JW]
   exact Nat.le_trans (List.length_filter_le _ _) (Nat.le_trans (List.length_filter_le _ _) (by simp))
  simp at h1
  omega
 have hhs:hs.length=held.length:=hp.length
 push_cast[TY,↓vM]
 refine A7 ht (n:=0) rfl rfl ?_
 push_cast[]
 refine⟨_,.inl (SqL.of hol),λnl hnl=> ?_⟩
 have s1:=AU (o:=.lst (out.map λ(k:Nat)=>V.int k)) hnl
 have e1:upd H nl (.lst (out.map λ(k:Nat)=>V.int k)) nl=some (.lst ((out.map λ(k:Nat)=>(k:Int)).map V.int)):=by rw[AJ,E3]
 revert s1 e1
 generalize upd H nl (.lst (out.map λ(k:Nat)=>V.int k))=H1
 intro s1 e1
 push_cast[↓vQ]
 refine A7 (s1 _ _ ht) (n:=1) rfl rfl ?_
 push_cast[]
 refine .inl ⟨⟨_,SqL.of (s1 _ _ hhl)⟩,EV (xs:=hs.map V.ref) (Dk H t L go nl b out held) ⟨s1,by simpa using e1,_,rfl⟩ (λi σ H' _ ⟨s2,_⟩=>SqL.of (s2 _ _ hhl)) (λi v σ H' hx ⟨s2,e2,y,ez⟩=> ?_) (λσ H' ⟨s2,e2,y,ez⟩=> ?_)⟩
 ·subst ez
  rw[List.getElem?_map,Option.map_eq_some_iff]at hx
  obtain⟨x,hx,rfl⟩:=hx
  have hi:i<held.length:=by rw[<-hhs];exact(List.getElem?_eq_some_iff.mp hx).1
  have hq:=List.getElem?_eq_getElem hi
  obtain⟨x',hx',et⟩:=EC hp hq
  rw[hx]at hx'
  cases hx'
  generalize held[i]=pr at hq et
  have et2:=s2 _ _ et
  push_cast[↓vO]
  refine DN (.inl (.tup et2)) (.ty _) (b:=true) rfl ⟨true,rfl,B7 (by decide) ⟨2,.inr ⟨_,SqT.of et2,rfl⟩,?_⟩⟩
  push_cast[]
  refine A7 et2 (n:=0) rfl rfl ?_
  push_cast[↓MS]
  refine A7 et2 (n:=1) rfl rfl ?_
  push_cast[↓MS,↓vP]
  refine⟨.inl ⟨rfl,_,SqL.of e2⟩,A7 et2 (n:=0) rfl rfl ⟨nl,_,_,rfl,rfl,e2,small _ (by simp;omega),λy o e=> ?_,?_,_,rfl⟩⟩
  ·rw[AH (AX e hnl)]
   exact s2 _ _ e
  ·rw[AJ,List.take_add_one,hq]
   simp
 ·subst ez
  rw[List.length_map,hhs,List.take_length]at e2
  push_cast[↓vS]
  refine A7 (s2 _ _ ht) (n:=0) rfl rfl ?_
  push_cast[]
  refine .inl ⟨⟨_,SqL.of (s2 _ _ hol)⟩,RI (λ_=>false) (small _ (by simp;omega)) (SqL.of (s2 _ _ hol)) (λv hv QB qb=> ?_) λl1 hl1=>⟨by decide,λl2 hl2=> ?_⟩⟩
  ·obtain⟨k,_,rfl⟩:=List.mem_map.mp hv
   push_cast[DX,↓MS]
   exact qb
  rw[show(out.map λ(k:Nat)=>V.int k).filter (λ_=>false)=[]from by simp]at hl2 ⊢
  have s3:=(AU (o:=.lst []) hl1).trans (AU (o:=.lst []) hl2)
  have n12:l1≠l2:=AX AJ hl2
  refine G7 (l:=[]) (by rw[AH n12,AJ];rfl) AJ ⟨false,rfl,B7 (by decide) ?_⟩
  replace s2:=s2.trans s3
  replace e2:=s3 _ _ e2
  revert s2 e2
  generalize upd (upd H' l1 (.lst [])) l2 (.lst [])=H2
  intro s2 e2
  clear s3 n12 hl1 hl2
  push_cast[↓vU]
  refine A7 (s2 _ _ ht) (n:=0) rfl rfl ⟨ol,out.map λ(k:Nat)=>(k:Int),rfl,SqL.of (by rw[<-E3];exact s2 _ _ hol),by simp;omega,λD1 ks hD1 pk hk=> ?_⟩
  have sD:=AU (o:=.lst (ks.map V.int)) hD1
  have eks:=fW pk hk orise
  subst eks
  refine A7 (sD _ _ (s2 _ _ ht)) (n:=0) rfl rfl (G7 AJ (sD _ _ (by rw[<-E3];exact s2 _ _ hol)) ⟨false,rfl,B7 (by decide) ?_⟩)
  replace s2:=s2.trans sD
  replace e2:=sD _ _ e2
  revert s2 e2
  generalize upd H2 D1 (.lst ((out.map λ(k:Nat)=>(k:Int)).map V.int))=H3
  intro s2 e2
  clear sD pk hk hD1
  refine A7 (s2 _ _ ht) (n:=1) rfl rfl ⟨hl,hs,held.map λp=>(p.1:Int),rfl,SqL.of (s2 _ _ hhl),fX (Paired.mapP hp λx p h=>s2 _ _ h),?_,by omega,λD2 hD2=> ?_⟩
  ·rw[List.pairwise_map]at hrise ⊢
   exact hrise.imp λh=>by omega
  have sD:=AU (o:=.lst (hs.map V.ref)) hD2
  have hd:=UV (K:=K) (Paired.mapP hp λx p h=>sD _ _ (s2 _ _ h))
  refine A7 (sD _ _ (s2 _ _ ht)) (n:=1) rfl rfl (RM (n:=2) (by decide) (Dat.lst (SqL.of AJ) hd) (Dat.lst (SqL.of (sD _ _ (s2 _ _ hhl))) hd) ⟨false,rfl,B7 (by decide) ?_⟩)
  replace s2:=s2.trans sD
  replace e2:=sD _ _ e2
  revert s2 e2
  generalize upd H3 D2 (.lst (hs.map V.ref))=H4
  intro s2 e2
  clear sD hd hD2
  push_cast[↓vV]
  refine⟨nl,_,rfl,SqL.of e2,by simp;omega,λD1 ks hD1 pk hk=> ?_⟩
  have sD:=AU (o:=.lst (ks.map V.int)) hD1
  have eks:=fW (pk.trans (hperm.map λ(k:Nat)=>(k:Int))) hk ((MI cs b).sublist List.filter_sublist)
  subst eks
  replace s2:=s2.trans sD
  have e3:upd H4 D1 (.lst ((((A9 cs b).filter λ(k:Nat)=> !outs k).map λ(k:Nat)=>(k:Int)).map V.int)) D1=some (.lst ((((A9 cs b).filter λ(k:Nat)=> !outs k).map λ(k:Nat)=>(k:Int)).map V.int)):=AJ
  revert s2 e3
  generalize upd H4 D1 (.lst ((((A9 cs b).filter λ(k:Nat)=> !outs k).map λ(k:Nat)=>(k:Int)).map V.int))=H5
  intro s2 e3
  clear sD pk hk hD1 e2
  refine⟨cs.length,.inl ⟨_,SqL.of (s2 _ _ hL),by rw[List.length_map,htl]⟩,by omega,by omega,?_⟩
  refine OI (λ(k:Nat)=>(cs[k]?).any (λc=>c.blk == b) && !outs k) (small _ (by omega)) (λi hi QB qb=> ?_) λl5 hl5=> ?_
  ·have ec:=List.getElem?_eq_getElem hi
   generalize cs[i]=c at ec
   obtain⟨tt,htt,pl,nd,ns,c1,c2,_⟩:=EC own ec
   push_cast[DX]
   refine B0 (SqL.of (s2 _ _ hL)) (n:=i) rfl (by rw[List.getElem?_map,htt];rfl) (A7 (s2 _ _ c1) (n:=0) rfl rfl (A7 (s2 _ _ c2) (n:=0) rfl rfl ?_))
   push_cast[]
   rw[ec]at qb
   by_cases hb:c.blk=b
   ·refine EZ (by omega) ⟨_,dI (s2 _ _ hgo),?_⟩
    have:=hgs (i:Int)
    rw[show(AW kvs (.inl (i:Int))).isSome=outs i from this]
    simpa [hb]using qb
   ·refine B7 (by omega) ?_
    have hb':(c.blk == b)=false:=by simpa using hb
    simpa [hb']using qb
  ·have ef:(List.range cs.length).filter (λ(k:Nat)=>(cs[k]?).any (λc=>c.blk == b) && !outs k)=(A9 cs b).filter λ(k:Nat)=> !outs k:=by
    rw[JW,List.filter_filter]
    refine List.filter_congr λk _=> ?_
    rw[Bool.and_comm]
   rw[ef]
   exact UU (AU hl5 _ _ e3) (by rw[AJ,E3]) (q _ (s2.trans (AU hl5)))
theorem Dm(h:MX K a vs H Q E):vs.length=4:=by
 obtain⟨_,_,_,_,_,_,_,_,_,_,rfl,_⟩:=h
 rfl
theorem fY{f:Int->Bool}{x:Int}:∀ {nd:List Int},nd.Pairwise (· <·)->EK nd f=some x->x∈nd/\f x=false/\∀ y∈nd,f y=false->x<=y
 | [],_,h=>by cases h
 | z::r,hr,h=>by
  obtain⟨h1,h2⟩:=List.pairwise_cons.mp hr
  unfold EK at h
  rw[List.find?_cons]at h
  cases ez:f z with
  | false =>
   rw[ez]at h
   cases h
   refine⟨List.mem_cons_self,ez,λy hy _=> ?_⟩
   rcases List.mem_cons.mp hy with rfl | hy
   ·exact Int.le_refl _
   ·exact Int.le_of_lt (h1 y hy)
  | true =>
   rw[ez]at h
   obtain⟨a1,a2,a3⟩:=fY (nd:=r) h2 h
   refine⟨List.mem_cons_of_mem _ a1,a2,λy hy hf=> ?_⟩
   rcases List.mem_cons.mp hy with rfl | hy
   ·rw[ez]at hf;cases hf
   ·exact a3 y hy hf
def fZ(f:Int->Bool):V->Bool
 | .int x=> !f x
 | _=>false
theorem Dp{f:Int->Bool}(ns:List Int):(ns.map V.int).filter (fZ f)=(ns.filter λx=> !f x).map V.int:=by
 rw[List.filter_map];rfl
def Dq(H:Hp)(t L go:Addr)(m:Nat)(outs:Int->Bool)(out:List Nat)(i:Nat)(σ:St)(H':Hp):Prop:=SameBut (· =go) H H'/\(∃ kvs:List (AR × V),H' go=some (.dK kvs)/\(∀ x:Int,CN kvs x=(outs x || (out.take i).any λ(k:Nat)=>x ==(k:Int)))/\kvs.length<=m+i)/\∃ z,σ=[some (.ref t),some (.ref L),some (.ref go),z,none,none]
def f7(H:Hp)(t L go:Addr)(i:Nat)(σ:St)(H':Hp):Prop:=Same H H'/\∃ z1 z2 z3,σ=[some (.ref t),some (.ref L),some (.ref go),z1,z2,z3]
theorem Dv(h:MY K a vs H Q E):SW K a (λ_=>E) (BB Q) (BD ["told","changes","gone","number","lack","lacking"] vs) H:=by
 obtain⟨t,ol,hl,L,go,cs,outs,b,m,F,rfl,⟨ht,hol,hs,hhl,hp⟩,⟨tl,hL,own⟩,⟨kvs,hgo,hgs,hgm⟩,hm,cut,nds,hcs,fgo,nL,nol,nhl,q⟩:=h
 have htl:tl.length=cs.length:=own.length
 obtain⟨_,hperm,hlack⟩:=UT (outs:=outs) (b:=b) λk c e x hx=>((nds k c e).1 x hx).2
 have hcut:=YR cut b
 have hW:∀ k∈(outcome cs outs (λ_=>false) b).out,CJ cs outs b k=true:=λk hk=>R4.mpr (.inr hk)
 have hWd:∀ x:Int,CJ cs outs b x=(outs x || (outcome cs outs (λ_=>false) b).out.any λ(k:Nat)=>x ==(k:Int)):=λx=>rfl
 have hsub:∀ k∈(outcome cs outs (λ_=>false) b).out,k<cs.length:=λk hk=>by
  obtain⟨c,e,_⟩:=IJ.mp ((IK (cs:=cs) (outs:=outs) (b:=b)).2.1 k hk).2
  exact(List.getElem?_eq_some_iff.mp e).1
 generalize CJ cs outs b=ow at *
 generalize (outcome cs outs (λ_=>false) b).out=out at *
 generalize (outcome cs outs (λ_=>false) b).held=held at *
 have hlen:out.length+held.length<=cs.length:=by
  have h1:=hperm.length_eq
  have h2:((A9 cs b).filter λ(k:Nat)=> !outs k).length<=cs.length:=by
   rw[JW]
   exact Nat.le_trans (List.length_filter_le _ _) (Nat.le_trans (List.length_filter_le _ _) (by simp))
  simp at h1
  omega
 have hhs:hs.length=held.length:=hp.length
 have ngo:∀ {y:Addr} {xs:List V},H y=some (.tup xs)->y≠go:=λe z=>by rw[z,hgo]at e;cases e
 push_cast[SW,↓uB]
 refine A7 ht (n:=0) rfl rfl ?_
 push_cast[]
 refine .inl ⟨⟨_,SqL.of hol⟩,EV (xs:=out.map λ(k:Nat)=>V.int k) (Dq H t L go m outs out) ⟨SameBut.refl _,⟨kvs,hgo,by simpa using hgs,by omega⟩,_,rfl⟩ (λi σ H' _ ⟨s1,_⟩=>SqL.of (s1 _ _ hol nol)) (λi v σ H' hx ⟨s1,⟨kv1,e1,e2,e3⟩,y,ez⟩=> ?_) (λσ H' ⟨s1,⟨kv1,e1,e2,e3⟩,y,ez⟩=> ?_)⟩
 ·subst ez
  rw[List.getElem?_map,Option.map_eq_some_iff]at hx
  obtain⟨k,hk,rfl⟩:=hx
  have hi:=(List.getElem?_eq_some_iff.mp hk).1
  push_cast[↓uA]
  refine⟨_,pI e1 (by omega),λy o e n=> ?_,⟨_,AJ,λx=> ?_,?_⟩,_,rfl⟩
  ·rw[AH n];exact s1 _ _ e n
  ·rw[UR,e2,List.take_add_one,hk,List.any_append,Bool.or_assoc]
   simp
  ·have:=FV kv1 (.inl (k:Int)) (.bl true)
   omega
 ·subst ez
  rw[List.length_map,List.take_length]at e2
  replace e2:∀ x:Int,CN kv1 x=ow x:=λx=>by rw[e2,hWd]
  have hG:J0 H' go ow (m+cs.length):=⟨kv1,e1,e2,by rw[List.length_map]at e3;omega⟩
  have kpt:∀ {y:Addr} {xs:List V},H y=some (.tup xs)->H' y=some (.tup xs):=λe=>s1 _ _ e (ngo e)
  have own':∀ {k:Nat} {c:Ch},cs[k]? =some c->∃ (tt pl nl:Addr) (ns:List Int),tl[k]? =some tt/\H' tt=some (.tup [.ref pl,c.val,.ref nl])/\H' nl=some (.lst (ns.map V.int))/\(∀ x,x∈ns↔x∈c.nd)/\ns.length<=10:=λ{k c} ec=>by
   obtain⟨tt,htt,pl,nl,ns,c1,c2,c3,c4,c5,c6⟩:=EC own ec
   exact⟨tt,pl,nl,ns,htt,kpt c1,s1 _ _ c3 λz=>c4 (z ▸ fgo),c5,c6⟩
  have L1:=s1 _ _ hL nL
  have t1:=kpt ht
  have o1:=s1 _ _ hol nol
  have h1:=s1 _ _ hhl nhl
  have p1:=Paired.mapP hp λx p (h:H x=some (.tup [.int p.1,.int p.2]))=>kpt h
  have comp:∀ {H2:Hp} {k:Nat} {c:Ch} {r:St} {QV:VK},Same H' H2->cs[k]? =some c->(∀ (l:Addr) (ns:List Int),H2 l=none->(∀ x,x∈ns↔x∈c.nd/\ow x=false)->ns.length<=10->QV (.ref l) (upd H2 l (.lst (ns.map V.int)))) →
    AV K (.ref L) (.int (k:Int)) H2 λx H1=>AV K x (.int 2) H1 λx H1=>∃ a,x=V.ref a/\((∃ xs,SqL K H1 a xs)/\GH (FQ K a) (AS 0) (tB (EG (AA 0) (AA 1))) (AA 0) 1 [2] (some (V.ref t)::some (V.ref L)::some (V.ref go)::some (V.int (k:Int))::r) H1 QV\/(∃ xs,SqT K H1 a xs)/\GH (GT K a) (AS 0) (tB (EG (AA 0) (AA 1))) (AA 0) 1 [2] (some (V.ref t)::some (V.ref L)::some (V.ref go)::some (V.int (k:Int))::r) H1 QV):=λ{H2 k c r QV} s2 ec qv=>by
   obtain⟨tt,pl,nl,ns,htt,c1,c3,c5,c6⟩:=own' ec
   refine B0 (SqL.of (s2 _ _ L1)) (n:=k) rfl (by rw[List.getElem?_map,htt];rfl) (A7 (s2 _ _ c1) (n:=2) rfl rfl ⟨nl,rfl,.inl ⟨⟨_,SqL.of (s2 _ _ c3)⟩,?_⟩⟩)
   refine RI (fZ ow) (small _ (by simp;omega)) (SqL.of (s2 _ _ c3)) (λv hv QB qb=> ?_) λl hl=> ?_
   ·obtain⟨x,_,rfl⟩:=List.mem_map.mp hv
    push_cast[DX]
    refine⟨_,dI (s2 _ _ e1),?_⟩
    rw[show(AW kv1 (.inl x)).isSome=ow x from e2 x]
    exact qb
   ·rw[Dp]
    refine qv l _ hl (λx=> ?_) (Nat.le_trans (List.length_filter_le _ _) c6)
    rw[List.mem_filter,c5]
    simp
  push_cast[↓uE]
  refine A7 t1 (n:=0) rfl rfl ?_
  push_cast[]
  refine .inl ⟨⟨_,SqL.of o1⟩,EV (xs:=out.map λ(k:Nat)=>V.int k) (f7 H' t L go) ⟨Same.refl _,_,_,_,rfl⟩ (λi σ H2 _ ⟨s2,_⟩=>SqL.of (s2 _ _ o1)) (λi v σ H2 hx ⟨s2,z1,z2,z3,ez⟩=> ?_) (λσ H2 ⟨s2,z1,z2,z3,ez⟩=> ?_)⟩
  ·subst ez
   rw[List.getElem?_map,Option.map_eq_some_iff]at hx
   obtain⟨k,hk,rfl⟩:=hx
   have hko:=List.mem_of_getElem? hk
   have ec:=List.getElem?_eq_getElem (hsub k hko)
   generalize cs[k]'(hsub k hko)=c at ec
   have hall:=hcut k c ec (hW k hko)
   push_cast[↓uD]
   refine comp s2 ec λl ns hl hns hnl=> ?_
   have:ns=[]:=List.eq_nil_iff_forall_not_mem.mpr λx hx=>by
    obtain⟨h1,h2⟩:=(hns x).mp hx
    rw[hall x h1]at h2
    cases h2
   subst this
   refine⟨by decide,λl2 hl2=> ?_⟩
   have n12:l≠l2:=AX AJ hl2
   refine G7 (l:=[]) (by rw[AH n12];exact AJ) AJ ⟨false,rfl,B7 (by decide) ⟨(s2.trans (AU hl)).trans (AU hl2),_,_,_,rfl⟩⟩
  ·subst ez
   push_cast[↓uI]
   refine A7 (s2 _ _ t1) (n:=1) rfl rfl ?_
   push_cast[]
   refine .inl ⟨⟨_,SqL.of (s2 _ _ h1)⟩,EV (xs:=hs.map V.ref) (f7 H' t L go) ⟨s2,_,_,_,rfl⟩ (λi σ H2 _ ⟨s2,_⟩=>SqL.of (s2 _ _ h1)) (λi v σ H3 hx ⟨s3,y1,y2,y3,ez⟩=> ?_) (λσ H3 ⟨s3,y1,y2,y3,ez⟩=> ?_)⟩
   ·subst ez
    rw[List.getElem?_map,Option.map_eq_some_iff]at hx
    obtain⟨x,hx,rfl⟩:=hx
    have hi:i<held.length:=by rw[<-hhs];exact(List.getElem?_eq_some_iff.mp hx).1
    have hq:=List.getElem?_eq_getElem hi
    obtain⟨x',hx',et⟩:=EC p1 hq
    rw[hx]at hx'
    cases hx'
    generalize held[i]=pr at hq et
    obtain⟨c,ec,elk⟩:=hlack pr (List.mem_of_getElem? hq)
    obtain⟨g1,g2,g3⟩:=fY (nds _ c ec).2 elk
    push_cast[]
    refine⟨_,SqT.of (s3 _ _ et),rfl,_,_,rfl,_,_,rfl,rfl,?_⟩
    push_cast[↓uF]
    refine comp s3 ec λl ns hl hns hnl=> ?_
    have hx:pr.2∈ns:=(hns _).mpr ⟨g1,g2⟩
    push_cast[↓uH]
    refine⟨by decide,λl2 hl2=> ?_⟩
    have n12:l≠l2:=AX AJ hl2
    have el:upd (upd H3 l (.lst (ns.map V.int))) l2 (.lst []) l=some (.lst (ns.map V.int)):=by rw[AH n12];exact AJ
    have hne:ns≠[]:=λz=>by rw[z]at hx;cases hx
    refine sC (n:=1) (by decide) (SqL.of el) (IE ns) (SqL.of AJ) ⟨false,by simp[hne],B7 (by decide) (r8 (SqL.of el) hne λm hm hmin=> ?_)⟩
    have em:m=pr.2:=Int.le_antisymm (hmin _ hx) (g3 m ((hns m).mp hm).1 ((hns m).mp hm).2)
    subst em
    push_cast[]
    exact⟨(s3.trans (AU hl)).trans (AU hl2),_,_,_,rfl⟩
   ·subst ez
    push_cast[↓uJ]
    refine q _ ?_ λy o e n=>s3 _ _ (s1 _ _ e n)
    obtain⟨kv,g1,g2,g3⟩:=hG
    exact⟨kv,s3 _ _ g1,g2,g3⟩
theorem Dw(h:MY K a vs H Q E):vs.length=3:=by
 obtain⟨_,_,_,_,_,_,_,_,_,_,rfl,_⟩:=h
 rfl
section
theorem f8{A:BA}{w:Nat}{rows:List (List V)}{n:Nat}{cs:List Ch}{outs:Int->Bool}(B:CS a H A w rows n cs outs):outs cs.length=false:=by
 obtain⟨kvo,_,h2,h3,h4⟩:=B.bk.out
 cases e:outs cs.length with
 | false=>rfl
 | true =>
  exfalso
  have:=h2 cs.length
  rw[e,<-HE]at this
  obtain⟨p,hp,e⟩:=List.any_eq_true.mp this
  obtain⟨x,e2,hx⟩:=h4 p hp
  have:p.1=Sum.inl (cs.length:Int):=by simpa using e
  rw[e2]at this
  have:=Sum.inl.inj this
  omega
theorem Dx{κ :Type}[DecidableEq κ]{kvs:List (κ × V)}{k: κ}{v:V}{p: κ × V}(h:p∈A5 kvs k v):p.1=k\/∃ p'∈kvs,p'.1=p.1:=by
 unfold A5 at h
 split at h
 ·obtain⟨p',hp,e⟩:=List.mem_map.mp h
  refine .inr ⟨p',hp,?_⟩
  subst e
  split<;>rfl
 ·rcases List.mem_append.mp h with h | h
  ·exact .inr ⟨p,h,rfl⟩
  ·rw[List.mem_singleton.mp h];exact .inl rfl
theorem GM{α β :Type}{F: α -> β ->Prop}:∀ {l:List α} {m:List β} {i:Nat} {x: α},Paired F l m->l[i]? =some x->∃ y,m[i]? =some y/\F x y
 | _,_,_,_,.nil,h=>by simp at h
 | _,_,0,_,.cons h _,e=>by cases e;exact⟨_,rfl,h⟩
 | _,_,i+1,_,.cons _ r,e=>by
  obtain⟨y,h1,h2⟩:=GM (i:=i) r (by simpa using e)
  exact⟨y,by simpa using h1,h2⟩
theorem PB{α β :Type}{P P': α -> β ->Prop}:∀ {l:List α} {m:List β},Paired P l m->(∀ x y,x∈l->P x y->P' x y)->Paired P' l m
 | _,_,.nil,_=>.nil
 | _,_,.cons x r,h=>.cons (h _ _ List.mem_cons_self x) (PB r λo t hm=>h o t (List.mem_cons_of_mem _ hm))
variable{S:WS}{w:Nat}{rows:List (List V)}{n mn:Nat}{cs:List Ch}{outs:Int->Bool}{i j:Nat}
theorem W22.there(I:W22 a H S w rows n mn cs outs i j){x:Addr}(h:S.B x):H x≠none/\∀ xs,H x≠some (.tup xs):=by
 have of:∀ {o:HO},H x=some o->(∀ xs,o≠.tup xs)->H x≠none/\∀ xs,H x≠some (.tup xs):=λe ne=>by
  rw[e]
  exact⟨λz=>(by cases z),λxs z=>ne xs (Option.some.inj z)⟩
 rcases h with(h | h) | h | h | h | h | h | h | h | h
 ·exact⟨λe=>I.bk.off e h,(I.bk.loose h).1⟩
 ·obtain⟨dx,e⟩:=I.bk.pk.ob
  exact of (h ▸ e) λ_ z=>by cases z
 ·obtain⟨kvs,e,_⟩:=I.sd
  exact of (h ▸ e) λ_ z=>by cases z
 ·obtain⟨tl,e,_⟩:=I.ow
  exact of (h ▸ e) λ_ z=>by cases z
 ·obtain⟨kvs,e,_⟩:=I.la
  exact of (h ▸ e) λ_ z=>by cases z
 ·obtain⟨kvs,e,_⟩:=I.go
  exact of (h ▸ e) λ_ z=>by cases z
 ·exact of (h ▸ I.rw.1) λ_ z=>by cases z
 ·obtain⟨ts,e,_⟩:=I.he
  exact of (h ▸ e) λ_ z=>by cases z
 ·obtain⟨ts,e,_⟩:=I.to
  exact of (h ▸ e) λ_ z=>by cases z
 ·obtain⟨i,hi⟩:=F3 h
  obtain⟨r,hr,e⟩:=GM I.rw.2.1 hi
  exact of e λ_ z=>by cases z
theorem OwnCh.sb{F G:Addr->Prop}{H':Hp}{t:Addr}{c:Ch}(h:OwnCh F H t c)(s:SameBut G H H')(g:∀ x,G x->F x)(tk:EL H H'):OwnCh F H' t c:=by
 obtain⟨pl,nl,ns,h1,h2,h3,h4,h5⟩:=h
 exact⟨pl,nl,ns,tk _ _ h1,tk _ _ h2,s _ _ h3 λz=>h4 (g _ z),h4,h5⟩
theorem Two.sb{F G:Addr->Prop}{H':Hp}{t:Addr}(h:Two F H t)(s:SameBut G H H')(g:∀ x,G x->F x)(tk:EL H H'):Two F H' t:=by
 obtain⟨l,l',xs,h1,h2,h3,h4,h5⟩:=h
 exact⟨l,l',xs,tk _ _ h1,s _ _ h2 λz=>h4 (g _ z),s _ _ h3 λz=>h5 (g _ z),h4,h5⟩
theorem Four.sb{F G:Addr->Prop}{H':Hp}{t:Addr}(h:Four F H t)(s:SameBut G H H')(g:∀ x,G x->F x)(tk:EL H H'):Four F H' t:=by
 obtain⟨l,l',m,m',xs,hs,ps,h1,h2,h3,h4,h5,h6,f1,f2,f3,f4⟩:=h
 exact⟨l,l',m,m',xs,hs,ps,tk _ _ h1,s _ _ h2 λz=>f1 (g _ z),s _ _ h3 λz=>f2 (g _ z),s _ _ h4 λz=>f3 (g _ z),s _ _ h5 λz=>f4 (g _ z),Paired.mapP h6 λx p h=>tk _ _ h,f1,f2,f3,f4⟩
theorem TupsL.sb{P P':Addr->Prop}{G:Addr->Prop}{H':Hp}{l:Addr}{m m':Nat}(h:TupsL P H l m)(s:SameBut G H H')(n:¬ G l)(k:∀ t,P t->P' t)(hm:m<=m'):TupsL P' H' l m':=by
 obtain⟨ts,h1,h2,h3⟩:=h
 exact⟨ts,s _ _ h1 n,by omega,λt ht=>k t (h3 t ht)⟩
theorem RowsL.sb{G:Addr->Prop}{H':Hp}{R:Addr}{ra:List Addr}{rows:List (List V)}(h:RowsL H R ra rows)(s:SameBut G H H')(n:¬ G R)(nr:∀ x∈ra,¬ G x):RowsL H' R ra rows:=by
 obtain⟨h1,h2,h3,h4⟩:=h
 refine⟨s _ _ h1 n,?_,h3,h4⟩
 exact PB h2 λl r hl e=>s _ _ e (nr l hl)
theorem W22.same{H':Hp}(I:W22 a H S w rows n mn cs outs i j)(s:Same H H'):W22 a H' S w rows n mn cs outs i j:=by
 have sb:SameBut (λ_=>False) H H':=λy o e _=>s _ _ e
 have tk:=s.tk
 obtain⟨kvs,hst,hk⟩:=I.sd
 obtain⟨tl,hL,own⟩:=I.ow
 obtain⟨kvl,hla,hl⟩:=I.la
 obtain⟨kvg,hgo,hg⟩:=I.go
 exact⟨I.bk.same s,⟨kvs,s _ _ hst,hk⟩,⟨tl,s _ _ hL,Paired.mapP own λt c h=>h.sb sb (λ_ f=>f.elim) tk⟩,⟨kvl,s _ _ hla,hl⟩,⟨kvg,s _ _ hgo,hg⟩,I.rw.sb sb (λf=>f) λ_ _ f=>f,I.he.sb sb (λf=>f) (λt h=>h.sb sb (λ_ f=>f.elim) tk) (Nat.le_refl _),I.to.sb sb (λf=>f) (λt h=>h.sb sb (λ_ f=>f.elim) tk) (Nat.le_refl _),I.ct,I.sh,I.gr.keep tk,λc hc=>(I.gc c hc).keep tk,I.ap,I.sz⟩
theorem W22.tk{H':Hp}(I:W22 a H S w rows n mn cs outs i j)(s:SameBut S.B H H'):EL H H':=λy xs e=>s _ _ e λf=>(I.there f).2 xs e
end
theorem Dy (h:MW K a vs H Q E):UB K a (λ_=>E) (BB Q) (BD ["hold","cell","size","state","place","value","needs","handed","told"] vs) H:=by
  obtain⟨S,w,rows,n,mn,cs,outs,i,j,c,z,rfl,⟨T,TP,X⟩,I,hi,hz,q⟩:=h
  obtain⟨kvs,hst,hkl,k1,k2,k3,k4,k5,k6,k7⟩:=I.sd
  obtain⟨tl,hL,own⟩:=I.ow
  have la0:=I.la
  obtain⟨kvl,hla,hv,hvl,hvk⟩:=I.la
  have htl:tl.length=cs.length:=own.length
  obtain⟨z1,z2,z3,z4,z5,z6,z7,z8,z9⟩:=I.sz
  push_cast[UB,↓wR]
  refine⟨c,z,rows.length,w,rfl,hz,z1,z3,λp pi pj H1 s1 ep i0 i1 j0 j1=> ?_⟩
  push_cast[↓wS]
  refine⟨c,rfl,λv H2 s2 gv=> ?_⟩
  have s12:=s1.trans s2
  have ep2:=s2 _ _ ep
  push_cast[↓wT]
  refine⟨_,CC (s12 _ _ hst) k1,_,CC (s12 _ _ hst) k2,c,p,S.L,S.la,pi,pj,tl,cs,S.B,rfl,ep2,s12 _ _ hL,Paired.mapP own λt ch h=>h.sb (G:=λ_=>False) (λy o e _=>s12 _ _ e) (λ_ f=>f.elim) s12.tk,⟨kvl,s12 _ _ hla,hv,hvl,hvk⟩,λch hc=>(I.gc ch hc).keep s12.tk,by omega,λnl ns H3 hnl s3 en hb hnl4=> ?_⟩
  have s13:=s12.trans s3
  push_cast[↓wU]
  refine⟨_,.inl (SqL.of en),λhd hhd=> ?_⟩
  have s34:=AU (o:=.lst (ns.map V.int)) hhd
  have s14:=s13.trans s34
  have eh:upd H3 hd (.lst (ns.map V.int)) hd=some (.lst (ns.map V.int)):=AJ
  have en4:=s34 _ _ en
  have ep4:=s34 _ _ (s3 _ _ ep2)
  have gv4:=gv.keep (s3.trans s34).tk
  have hnlH:H nl=none:=s12.free hnl
  have hhdH:H hd=none:=s13.free hhd
  have nnh:nl≠hd:=AX en hhd
  revert s14 eh en4 ep4 gv4
  generalize upd H3 hd (.lst (ns.map V.int))=H4
  intro s14 eh en4 ep4 gv4
  clear s34 hhd hnl en gv ep s3
  have B4:=I.bk.same s14
  have on:F5 rows w pi pj:=⟨i0,i1,j0,j1⟩
  obtain⟨db,eb⟩:=B4.bk.ob
  push_cast[↓wV]
  refine⟨_,_,eb,C1 (by decide +kernel),S.A,w,rows,n,cs,outs,p,hd,v,ns,pi,pj,rfl,T,TP,B4,ep4,SqL.of eh,by omega,by omega,λ_ hkn nd H5 ndr ndm B5 sb5=> ?_,λy=>absurd on y,λ_ ⟨x,hx,hn⟩=>absurd (hb x hx) hn⟩
  have fF:∀ {x:Addr},H x=none->¬ S.A.F x:=λe=>I.bk.off e
  have k5':∀ {y:Addr} {o:HO},H y=some o->¬ S.A.F y->H5 y=some o:=λe f=>sb5 _ _ (s14 _ _ e) f
  have tk5:EL H4 H5:=λy xs e=>sb5 _ _ e λf=>(B4.loose f).1 _ e
  have h5:=sb5 _ _ eh (fF hhdH)
  have n5:=sb5 _ _ en4 (fF hnlH)
  have p5:=tk5 _ _ ep4
  obtain⟨⟨w1,w2,w3,w4,w5,w6,w7,w8⟩,apk,apl,apr⟩:=I.ap
  have st5:=k5' hst λf=>w1 (.inl f)
  have L5:=k5' hL λf=>w2 (.inl f)
  have la5:=k5' hla λf=>w3 (.inl f)
  have nhL:hd≠S.L:=(AX hL hhdH).symm
  have nhla:hd≠S.la:=(AX hla hhdH).symm
  have nhst:hd≠S.st:=(AX hst hhdH).symm
  have nnL:nl≠S.L:=(AX hL hnlH).symm
  have nnla:nl≠S.la:=(AX hla hnlH).symm
  have nnst:nl≠S.st:=(AX hst hnlH).symm
  have nLla:S.L≠S.la:=AQ hL hla (by intro z;cases z)
  have nLst:S.L≠S.st:=AQ hL hst (by intro z;cases z)
  have nlst:S.la≠S.st:=AQ hla hst (by intro z;cases z)
  push_cast[↓wW]
  have fin:∀ (H6:Hp) (ns':List Int),SameBut (λy=>y=nl\/y=hd) H5 H6->H6 nl=some (.lst (ns'.map V.int))->(∀ x,x∈ns'↔x∈nd)->ns'.length<=10 →
      T9 K a (λ_=>E) (λ_=>E) { nx:=AK (UA K a (λ_=>E) λ_=>E) (O0 K a (λ_=>E) λ_=>E) (BB Q),rt:=Q } [some (.ref S.A.b),some (.int c),some (.ref z),some (.ref S.st),some (.ref p),some v,some (.ref nl),some (.ref hd),some (.int cs.length)] H6:=λH6 ns' s6 e6 m6 l6=>by
    have st6:=s6 _ _ st5 λy=>y.elim nnst.symm nhst.symm
    have L6:=s6 _ _ L5 λy=>y.elim nnL.symm nhL.symm
    have la6:=s6 _ _ la5 λy=>y.elim nnla.symm nhla.symm
    have p6:=s6 _ _ p5 λy=>y.elim (AQ p5 n5 (by intro z;cases z)) (AQ p5 h5 (by intro z;cases z))
    push_cast[↓wZ]
    refine⟨_,CC st6 k1,cs.length,.inl ⟨_,SqL.of L6,by rw[List.length_map,htl]⟩,?_⟩
    refine⟨_,CC st6 k2,S.la,rfl,_,X2 la6 p6 (by omega),?_⟩
    have st7:upd H6 S.la (.dT (A5 kvl [.inl pi,.inl pj] (.int cs.length))) S.st=some (.dK kvs):=by rw[AH nlst.symm];exact st6
    have L7:upd H6 S.la (.dT (A5 kvl [.inl pi,.inl pj] (.int cs.length))) S.L=some (.lst (tl.map V.ref)):=by rw[AH nLla];exact L6
    push_cast[↓w9]
    refine⟨_,CC st7 k1,.inl ⟨rfl,_,SqL.of L7⟩,by decide,λt ht=> ?_⟩
    have tla:t≠S.la:=λy=>by rw[y,AJ]at ht;cases ht
    have ht6:H6 t=none:=by rw[AH tla]at ht;exact ht
    have tL:t≠S.L:=(AX L6 ht6).symm
    refine⟨S.L,_,_,rfl,rfl,by rw[AH tL.symm];exact L7,small _ (by simp;omega),?_⟩
    have kp:∀ y,y≠S.L->y≠t->y≠S.la->upd (upd (upd H6 S.la (.dT (A5 kvl [.inl pi,.inl pj] (.int cs.length)))) t (.tup [.ref p,v,.ref nl])) S.L (.lst (tl.map V.ref++[.ref t])) y=H6 y:=λy n1 n2 n3=>by rw[AH n1,AH n2,AH n3]
    have hL8:upd (upd (upd H6 S.la (.dT (A5 kvl [.inl pi,.inl pj] (.int cs.length)))) t (.tup [.ref p,v,.ref nl])) S.L (.lst (tl.map V.ref++[.ref t])) S.L=some (.lst ((tl++[t]).map V.ref)):=by rw[AJ,List.map_append];rfl
    have hla8:upd (upd (upd H6 S.la (.dT (A5 kvl [.inl pi,.inl pj] (.int cs.length)))) t (.tup [.ref p,v,.ref nl])) S.L (.lst (tl.map V.ref++[.ref t])) S.la=some (.dT (A5 kvl [.inl pi,.inl pj] (.int cs.length))):=by rw[AH nLla.symm,AH tla.symm,AJ]
    have ht8:upd (upd (upd H6 S.la (.dT (A5 kvl [.inl pi,.inl pj] (.int cs.length)))) t (.tup [.ref p,v,.ref nl])) S.L (.lst (tl.map V.ref++[.ref t])) t=some (.tup [.ref p,v,.ref nl]):=by rw[AH tL,AJ]
    revert kp hL8 hla8 ht8
    generalize upd (upd (upd H6 S.la (.dT (A5 kvl [.inl pi,.inl pj] (.int cs.length)))) t (.tup [.ref p,v,.ref nl])) S.L (.lst (tl.map V.ref++[.ref t]))=H8
    intro kp hL8 hla8 ht8
    have k68:∀ {y:Addr} {o:HO},H6 y=some o->y≠S.L->y≠S.la->H8 y=some o:=λe n1 n2=>by rw[kp _ n1 (AX e ht6) n2];exact e
    have G8:SameBut (λy=>y=nl\/y=hd\/y=S.la\/y=S.L) H5 H8:=λy o e ny=>k68 (s6 _ _ e λu=>u.elim (λu=>ny (.inl u)) λu=>ny (.inr (.inl u))) (λu=>ny (.inr (.inr (.inr u)))) λu=>ny (.inr (.inr (.inl u)))
    have B8:=B5.sb G8 (λy u=>by
      rcases u with u | u | u | u
      ·exact F4 (u ▸ n5)
      ·exact F4 (u ▸ h5)
      ·exact RY (u ▸ la5)
      ·exact F4 (u ▸ L5)) λy u=>by
      rcases u with u | u | u | u
      ·exact u ▸ fF hnlH
      ·exact u ▸ fF hhdH
      ·exact u ▸ λf=>w3 (.inl f)
      ·exact u ▸ λf=>w2 (.inl f)
    have SB:SameBut S.B H H8:=λy o e ny=>by
      refine G8 _ _ (k5' e λf=>ny (.inl (.inl f))) ?_
      rintro (u | u | u | u)
      ·rw[u,hnlH]at e;cases e
      ·rw[u,hhdH]at e;cases e
      ·exact ny (.inr (.inr (.inr (.inl u))))
      ·exact ny (.inr (.inr (.inl u)))
    have tk8:=I.tk SB
    have p8:=k68 p6 (AQ p6 L6 (by intro z;cases z)) (AQ p6 la6 (by intro z;cases z))
    have n8:=k68 e6 nnL nnla
    have gv8:GoodV 7 H8 v:=(gv4.keep tk5).keep λy xs e=>G8 _ _ e λu=>by
      rcases u with u | u | u | u
      ·rw[u,n5]at e;cases e
      ·rw[u,h5]at e;cases e
      ·rw[u,la5]at e;cases e
      ·rw[u,L5]at e;cases e
    have nB:¬ S.B nl:=λf=>(I.there f).1 hnlH
    have keepB:∀ {y:Addr} {o:HO},H y=some o->¬ S.A.F y->y≠S.la->y≠S.L->H8 y=some o:=λe f n1 n2=>by
      refine G8 _ _ (k5' e f) ?_
      rintro (u | u | u | u)
      ·rw[u,hnlH]at e;cases e
      ·rw[u,hhdH]at e;cases e
      ·exact n1 u
      ·exact n2 u
    have e1:((pi.toNat:Nat):Int)=pi:=by omega
    have e2:((pj.toNat:Nat):Int)=pj:=by omega
    obtain⟨kvg,hgo,hg1,hg2⟩:=I.go
    have J:W22 a H8 S w rows n mn (cs++[⟨pi.toNat,pj.toNat,v,nd⟩]) outs (i+1) j:=by
      refine⟨B8,⟨kvs,keepB hst (λf=>w1 (.inl f)) nlst.symm nLst.symm,hkl,k1,k2,k3,k4,k5,k6,k7⟩,⟨tl++[t],hL8,Paired.snoc (Paired.mapP own λt' ch h=>h.sb SB (λ_ f=>f) tk8) ⟨p,nl,ns',ht8,?_,n8,nB,m6,l6⟩⟩,⟨_,hla8,λi' j'=> ?_,?_,λpr hpr=> ?_⟩,⟨kvg,keepB hgo (λf=>w4 (.inl f)) (AQ hgo hla (by intro z;cases z)) (AQ hgo hL (by intro z;cases z)),hg1,by omega⟩,?_,?_,?_,tK I.ct (f8 I.bk),tM I.sh (f8 I.bk),I.gr.keep tk8,λch hc=> ?_,I.ap,z1,z2,z3,z4,by simp;omega,by omega,by omega,by omega,by omega⟩
      · rw[p8]
        show some (HO.tup [.int pi,.int pj])=some (HO.tup [.int ((pi.toNat:Nat):Int),.int ((pj.toNat:Nat):Int)])
        rw[e1,e2]
      · rw[EF,RS]
        by_cases y:i'=pi/\j'=pj
        · obtain⟨rfl,rfl⟩:=y
          simp[e1,e2]
        · have y1:¬ ([Sum.inl i',Sum.inl j']:List AR)=[.inl pi,.inl pj]:=λu=>y (by simpa using u)
          have y2:¬ (((pi.toNat:Nat):Int)=i'/\((pj.toNat:Nat):Int)=j'):=λu=>y ⟨by omega,by omega⟩
          rw[if_neg y1,if_neg y2]
          exact hv i' j'
      · have:=FV kvl [.inl pi,.inl pj] (.int cs.length)
        simp;omega
      · rcases Dx hpr with e | ⟨p',hp',e⟩
        ·exact⟨pi,pj,e⟩
        ·rw[<-e];exact hvk p' hp'
      · refine I.rw.sb (G:=λy=>S.A.F y\/y=S.la\/y=S.L) (λy o e n=>keepB e (λf=>n (.inl f)) (λf=>n (.inr (.inl f))) λf=>n (.inr (.inr f))) ?_ λx hx=> ?_
        · rintro (f | f | f)
          ·exact w5 (.inl f)
          ·rw[<-f,I.rw.1]at hla;cases hla
          ·exact apl.1 f.symm
        · rintro (f | f | f)
          ·exact w8 x hx (.inl f)
          · obtain⟨j',hj⟩:=F3 hx
            obtain⟨r,_,e⟩:=GM I.rw.2.1 hj
            rw[f,hla]at e;cases e
          ·exact(apr x hx).1 f
      · obtain⟨ts,g1,g2,g3⟩:=I.he
        exact⟨ts,keepB g1 (λf=>w6 (.inl f)) (AQ g1 hla (by intro z;cases z)) apl.2.1.symm,by omega,λt ht=>(g3 t ht).sb SB (λ_ f=>f) tk8⟩
      · obtain⟨ts,g1,g2,g3⟩:=I.to
        exact⟨ts,keepB g1 (λf=>w7 (.inl f)) (AQ g1 hla (by intro z;cases z)) apl.2.2.1.symm,by omega,λt ht=>(g3 t ht).sb SB (λ_ f=>f) tk8⟩
      · rcases List.mem_append.mp hc with h | h
        ·exact(I.gc ch h).keep tk8
        ·rw[List.mem_singleton.mp h];exact gv8
    show O0 K a (λ_=>E) (λ_=>E) (BB Q) [some (.ref S.A.b),some (.int c),some (.ref z),some (.ref S.st),some (.ref p),some v,some (.ref nl),some (.ref hd),some (.int cs.length)] H8
    obtain⟨db8,eb8⟩:=B8.bk.ob
    obtain⟨kv8,st8,hk8⟩:=J.sd
    push_cast[↓xA,↓MS]
    refine⟨_,CC st8 hk8.2.1,cs.length+1,.inl ⟨_,SqL.of hL8,by simp[htl]⟩,EZ (by omega) ⟨_,_,eb8,C1 (by decide +kernel),S.A,w,rows,n,_,outs,p,pi,pj,rfl,T,TP,B8,p8,λ_ v' H9 hv' s9=> ?_,λy=>absurd on y⟩⟩
    have ev:v'=v:=by
      unfold OS at hv'
      rw[RS,if_pos ⟨e1,e2⟩]at hv'
      simpa using hv'.symm
    subst ev
    exact⟨v',v',rfl,.inl ⟨rfl,(gv8.keep s9.tk).up⟩,λH10 s10=>q _ H10 (J.same (s9.trans s10)) λy o e ny=>(s9.trans s10) _ _ (SB _ _ e ny)⟩
  refine⟨.inl ⟨rfl,_,SqL.of h5⟩,hd,_,rfl,rfl,h5,?_⟩
  have s56:SameBut (λy=>y=nl\/y=hd) H5 (upd H5 hd (.lst [])):=λy o e n=>by rw[AH λz=>n (.inr z)];exact e
  have n6:upd H5 hd (.lst []) nl=some (.lst (ns.map V.int)):=by rw[AH nnh];exact n5
  have st6:upd H5 hd (.lst []) S.st=some (.dK kvs):=by rw[AH nhst.symm];exact st5
  have la6:upd H5 hd (.lst []) S.la=some (.dT kvl):=by rw[AH nhla.symm];exact la5
  have p6:upd H5 hd (.lst []) p=some (.tup [.int pi,.int pj]):=by rw[AH (AQ p5 h5 (by intro z;cases z))];exact p5
  revert s56 n6 st6 la6 p6
  generalize upd H5 hd (.lst [])=H6
  intro s56 n6 st6 la6 p6
  push_cast[↓wY]
  refine⟨_,CC st6 k2,_,rfl,_,OJ la6 p6,?_⟩
  rw[hv]
  cases hnew:DG cs pi pj with
  | none =>
    refine B7 (by simp) ?_
    exact fin H6 ns s56 n6 (λx=>by rw[ndm,hnew];simp) (by omega)
  | some k =>
    refine EZ (by simp) ?_
    push_cast[↓wX]
    refine⟨.inl ⟨rfl,_,SqL.of n6⟩,_,CC st6 k2,_,rfl,_,X1 la6 p6 (by rw[hv,hnew];rfl),nl,_,_,rfl,rfl,n6,small _ (by simp;omega),?_⟩
    exact fin _ (ns++[(k:Int)]) (λy o e ny=>by rw[AH λz=>ny (.inl z)];exact s56 _ _ e ny) (by rw[AJ,List.map_append];rfl) (λx=>by rw[ndm,hnew,List.mem_append,List.mem_singleton];simp) (by simp;omega)
theorem Dz(h:MW K a vs H Q E):vs.length=4:=by
 obtain⟨_,_,_,_,_,_,_,_,_,_,_,rfl,_⟩:=h
 rfl
theorem f9{n b:Nat}(h:b<n):FS n (b:Int)=some b:=by
 unfold FS
 rw[if_pos (by omega),if_pos (by omega),Int.toNat_natCast]
theorem gA{cs:List Ch}:∀ (ks:List Nat) (r:List V),(FJ cs ks r).length=r.length
 | [],_=>rfl
 | k::ks,r=>by
  show(FJ cs ks (G4 cs r k)).length=_
  rw[gA ks]
  unfold G4
  cases cs[k]? with
  | none=>rfl
  | some c=>rw[List.length_set]
theorem gB{α β :Type}{F G: α -> β ->Prop}{y: β}:∀ {l:List α} {m:List β} {i:Nat} {x: α},Paired F l m->l[i]? =some x->G x y->l.Nodup->(∀ x' y',x'∈l->x'≠x->F x' y'->G x' y')->Paired G l (m.set i y)
 | _,_,_,_,.nil,h,_,_,_=>by simp at h
 | _,_,0,_,.cons h0 r,h,g,nd,k=>by
  cases h
  refine .cons g (PB r λx' y' hx' hf=>k x' y' (List.mem_cons_of_mem _ hx') (λe=> ?_) hf)
  subst e
  exact(List.nodup_cons.mp nd).1 hx'
 | x0::l,_,i+1,x,.cons h0 r,h,g,nd,k=>by
  have hx:l[i]? =some x:=by simpa using h
  refine .cons (k _ _ List.mem_cons_self (λe=> ?_) h0) (gB r hx g (List.nodup_cons.mp nd).2 λx' y' hx'=>k x' y' (List.mem_cons_of_mem _ hx'))
  subst e
  exact(List.nodup_cons.mp nd).1 (List.mem_of_getElem? hx)
theorem gC{gp cl st R:Addr}{ra:List Addr}{w n b:Nat}{rows:List (List V)}{kvs:List (AR × V)}{QV:VK}(TP:DO K a)(P:PlankAt a H gp cl w rows n)(g:good7 H rows)(e:H st=some (.dK kvs))(k4:AW kvs (.inr "rows")=some (.ref R))(RW:RowsL H R ra rows)(hb:b<rows.length)(hw:w<=100)(hq:∀ H',Same H H'->QV (.bl true) H') :
  ∃ x x_1,H gp=some (HO.ins (a "Plank") x x_1)/\List.lookup (Str.ofString "read") x_1=none/\FH K a [.ref gp,.int b] H (λx H1=>FF K [x] H1 λx H1=>∃ x_2,DGet H1 st (.str (Str.ofString "rows")) (some x_2)/\AV K x_2 (.int b) H1 λx_3 H1=>FF K [x_3] H1 λx_4 H1=>DS K a 8 [x,x_4] H1 QV E) E:=by
 obtain⟨dp,ep⟩:=P.ob
 refine⟨_,_,ep,UQ _ _ _,gp,cl,w,rows,n,b,rfl,TP,P,λj row hj er l hl=> ?_,λh=>by omega⟩
 have:j=b:=by omega
 subst this
 obtain⟨rb,erb,hrb⟩:=EC RW.2.1 er
 have s1:=AU (o:=.lst row) hl
 have hlen:row.length=w:=P.wd row (List.mem_of_getElem? er)
 refine(Eq.mpr Q2) ⟨row,.inl ⟨SqL.of AJ,λt1 ht1=> ?_⟩⟩
 have s2:=AU (o:=.tup row) ht1
 have s12:=s1.trans s2
 refine⟨_,CC (s12 _ _ e) k4,B0 (SqL.of (s12 _ _ RW.1)) (n:=j) rfl (by rw[List.getElem?_map,erb];rfl) ?_⟩
 refine(Eq.mpr Q2) ⟨row,.inl ⟨SqL.of (s12 _ _ hrb),λt2 ht2=> ?_⟩⟩
 have s3:=AU (o:=.tup row) ht2
 have s13:=s12.trans s3
 exact⟨_,_,rfl,.inr ⟨t1,t2,row,7,rfl,rfl,rfl,s3 _ _ AJ,AJ,by omega,λv hv=>(g row (List.mem_of_getElem? er) v hv).keep s13.tk⟩,λH' s=>hq H' (s13.trans s)⟩
def Eb(H:Hp)(S:WS)(rb t:Addr)(b:Nat)(cs:List Ch)(out:List Nat)(row:List V)(i:Nat)(σ:St)(H':Hp):Prop:=SameBut (· =rb) H H'/\H' rb=some (.lst (FJ cs (out.take i) row))/\∃ z5 z6 z7 z8,σ=[some (.ref S.A.b),some (.ref S.A.gp),some (.ref S.st),some (.int b),some (.ref t),z5,z6,z7,z8]
theorem Ec(h:MZ K a vs H Q E):UD K a (λ_=>E) (BB Q) (BD ["hold","plank","state","block","told","number","place","value","needs"] vs) H:=by
 obtain⟨S,w,rows,n,mn,cs,outs,i,jj,b,rfl,⟨T,TP,X⟩,I,hi,hb,q⟩:=h
 obtain⟨kvs,hst,hkl,k1,k2,k3,k4,k5,k6,k7⟩:=I.sd
 obtain⟨tl,hL,own⟩:=I.ow
 obtain⟨kvl,hla,hvs⟩:=I.la
 obtain⟨kvg,hgo,hg1,hg2⟩:=I.go
 obtain⟨hR,hra,ndr,nRr⟩:=I.rw
 obtain⟨hts,hhe,hhl',hhP⟩:=I.he
 obtain⟨tts,hto,htl',htP⟩:=I.to
 have htl:tl.length=cs.length:=own.length
 obtain⟨z1,z2,z3,z4,z5,z6,z7,z8,z9⟩:=I.sz
 obtain⟨⟨w1,w2,w3,w4,w5,w6,w7,w8⟩,apk,apl,apr⟩:=I.ap
 have er:=List.getElem?_eq_getElem hb
 generalize rows[b]=row at er
 obtain⟨rb,erb,hrb⟩:=EC hra er
 have mrb:=List.mem_of_getElem? erb
 have nds:=I.bk.bk.need
 have rlen:row.length=w:=I.bk.pk.wd row (List.mem_of_getElem? er)
 obtain⟨db,eb⟩:=I.bk.bk.ob
 push_cast[UD,↓xB]
 refine⟨_,_,eb,C1 (by decide +kernel),S.A,w,rows,n,cs,outs,b,rfl,T,TP,I.bk,λb' row' t ol hl H1 eb' er' hol hhl noh told B1 s01=> ?_,λhbad=>by omega⟩
 have:b'=b:=by omega
 subst this
 rw[er]at er'
 cases er'
 have lo:=tI I.ct I.bk.bk.chn (I.sh b' row er)
 have cw:=YR I.ct b'
 have sw:=tJ er I.sh
 have tkW:∀ {y:Addr} {xs:List V},H y=some (.tup xs)->¬ S.A.W y:=λ{y xs} e f=>(I.there (.inl f)).2 xs e
 have k1':∀ {y:Addr} {o:HO},H y=some o->¬ S.A.W y->H1 y=some o:=λe f=>s01 _ _ e f
 have tk1:EL H H1:=λy xs e=>k1' e (tkW e)
 have told':=told
 obtain⟨ht,eol,hs,ehl,hp⟩:=told
 push_cast[↓xD]
 refine DN (.inl (.tup ht)) (.ty _) (b:=true) rfl ⟨true,rfl,B7 (by decide) ⟨2,.inr ⟨_,SqT.of ht,rfl⟩,?_⟩⟩
 push_cast[]
 refine A7 ht (n:=0) rfl rfl (DN (.inl (.lst eol)) (.ty _) (b:=true) rfl ⟨true,rfl,B7 (by decide) (A7 ht (n:=1) rfl rfl (DN (.inl (.lst ehl)) (.ty _) (b:=true) rfl ⟨true,rfl,B7 (by decide) ?_⟩))⟩)
 push_cast[↓xF]
 have st1:=k1' hst w1
 have own1:MU S.B H1 S.L cs:=⟨tl,k1' hL w2,Paired.mapP own λt c h=>h.sb s01 (λ_ f=>.inl f) tk1⟩
 have go1:=k1' hgo w4
 refine⟨_,CC st1 k1,_,CC st1 k3,t,ol,hl,S.L,S.go,cs,outs,b',100 * i,S.B,rfl,told',own1,⟨kvg,go1,hg1,hg2⟩,λk c e x hx=>((nds k c e).1 x hx).2,by omega,λH2 s12=>⟨true,rfl,B7 (by decide) ?_⟩⟩
 push_cast[↓xH]
 have ngo:∀ {y:Addr},H y=none->y≠S.go:=λe z=>by rw[z,hgo]at e;cases e
 refine⟨_,CC (s12 _ _ st1) k1,_,CC (s12 _ _ st1) k3,t,ol,hl,S.L,S.go,cs,outs,b',100 * i,S.B,rfl,told'.same s12,?_,⟨kvg,s12 _ _ go1,hg1,hg2⟩,by omega,I.ct,λk c e=>⟨(nds k c e).1,(nds k c e).2.1⟩,by omega,.inr (.inr (.inr (.inr (.inl rfl)))),AQ hL hgo (by intro z;cases z),ngo hol,ngo hhl,λH3 gone3 s23=>⟨true,rfl,B7 (by decide) ?_⟩⟩
 ·obtain⟨tl',e1,e2⟩:=own1
  exact⟨tl',s12 _ _ e1,Paired.mapP e2 λt c h=>h.sb (G:=λ_=>False) (λy o e _=>s12 _ _ e) (λ_ f=>f.elim) s12.tk⟩
 have k3':∀ {y:Addr} {o:HO},H y=some o->¬ S.A.W y->y≠S.go->H3 y=some o:=λe f n=>s23 _ _ (s12 _ _ (k1' e f)) n
 have tgo:∀ {y:Addr} {xs:List V},H1 y=some (.tup xs)->H3 y=some (.tup xs):=λe=>s23 _ _ (s12 _ _ e) (AQ e go1 (by intro z;cases z))
 have tk3:EL H H3:=λy xs e=>tgo (tk1 _ _ e)
 have ht3:=tgo ht
 have eol3:=s23 _ _ (s12 _ _ eol) (ngo hol)
 have ehl3:=s23 _ _ (s12 _ _ ehl) (ngo hhl)
 have hp3:=Paired.mapP hp λx p (h:H1 x=some (.tup [.int p.1,.int p.2]))=>tgo h
 have st3:=k3' hst w1 apk
 have L3:=k3' hL w2 (AQ hL hgo (by intro z;cases z))
 have R3:=k3' hR w5 (AQ hR hgo (by intro z;cases z))
 have rb3:=k3' hrb (w8 rb mrb) (AQ hrb hgo (by intro z;cases z))
 have he3:=k3' hhe w6 (AQ hhe hgo (by intro z;cases z))
 have own3:∀ {k:Nat} {c:Ch},cs[k]? =some c->∃ (tt pl nl:Addr),tl[k]? =some tt/\H3 tt=some (.tup [.ref pl,c.val,.ref nl])/\H3 pl=some (.tup [.int c.blk,.int c.cell]):=λ{k c} ec=>by
  obtain⟨tt,htt,pl,nl,ns,c1,c2,_⟩:=EC own ec
  exact⟨tt,pl,nl,htt,tk3 _ _ c1,tk3 _ _ c2⟩
 have nol_rb:ol≠rb:=(AX hrb hol).symm
 have nhl_rb:hl≠rb:=(AX hrb hhl).symm
 have nLrb:S.L≠rb:=(apr rb mrb).1.symm
 have nRrb:S.R≠rb:=λe=>nRr (e ▸ mrb)
 have nst_rb:S.st≠rb:=AQ hst hrb (by intro z;cases z)
 have nhe_rb:S.he≠rb:=(apr rb mrb).2.1.symm
 have o2:=(IK (cs:=cs) (outs:=outs) (b:=b')).2.1
 have ow0:=(UT (outs:=outs) (b:=b') λk c e x hx=>((nds k c e).1 x hx).2).2.1.length_eq
 have hlen:(outcome cs outs (λ_=>false) b').out.length+(outcome cs outs (λ_=>false) b').held.length<=cs.length:=by
  have h2:((A9 cs b').filter λ(k:Nat)=> !outs k).length<=cs.length:=by
   rw[JW]
   exact Nat.le_trans (List.length_filter_le _ _) (Nat.le_trans (List.length_filter_le _ _) (by simp))
  simp at ow0
  omega
 have hhs:=hp.length
 push_cast[↓xK]
 refine A7 ht3 (n:=0) rfl rfl ?_
 push_cast[]
 refine .inl ⟨⟨_,SqL.of eol3⟩,EV (xs:=(outcome cs outs (λ_=>false) b').out.map λ(k:Nat)=>V.int k) (Eb H3 S rb t b' cs (outcome cs outs (λ_=>false) b').out row) ⟨SameBut.refl _,rb3,_,_,_,_,rfl⟩ (λj σ H4 _ ⟨s4,_⟩=>SqL.of (s4 _ _ eol3 nol_rb)) (λj v σ H4 hx ⟨s4,e4,y5,y6,y7,y8,ez⟩=> ?_) (λσ H4 ⟨s4,e4,y5,y6,y7,y8,ez⟩=> ?_)⟩
 ·subst ez
  rw[List.getElem?_map,Option.map_eq_some_iff]at hx
  obtain⟨k,hk,rfl⟩:=hx
  obtain⟨c,ec,_⟩:=IJ.mp (o2 k (List.mem_of_getElem? hk)).2
  obtain⟨tt,pl,nl,htt,c1,c2⟩:=own3 ec
  have c1':=s4 _ _ c1 (AQ c1 rb3 (by intro z;cases z))
  have c2':=s4 _ _ c2 (AQ c2 rb3 (by intro z;cases z))
  have st4:=s4 _ _ st3 nst_rb
  push_cast[↓xI]
  refine⟨_,CC st4 k1,B0 (SqL.of (s4 _ _ L3 nLrb)) (n:=k) rfl (by rw[List.getElem?_map,htt];rfl) ?_⟩
  push_cast[]
  refine⟨_,SqT.of c1',rfl,_,_,rfl,_,_,rfl,_,_,rfl,rfl,?_⟩
  push_cast[↓xJ]
  refine⟨_,CC st4 k4,B0 (SqL.of (s4 _ _ R3 nRrb)) (n:=b') rfl (by rw[List.getElem?_map,erb];rfl) (A7 c2' (n:=1) rfl rfl ⟨rb,_,_,c.cell,rfl,rfl,e4,f9 (by rw[gA,rlen];exact(I.bk.bk.inn c (List.mem_of_getElem? ec)).2),λy o e ny=>by rw[AH ny];exact s4 _ _ e ny,?_,_,_,_,_,rfl⟩)⟩
  rw[AJ]
  have:FJ cs ((outcome cs outs (λ_=>false) b').out.take (j+1)) row=(FJ cs ((outcome cs outs (λ_=>false) b').out.take j) row).set c.cell c.val:=by
   unfold FJ
   rw[R0 _ _ hk]
   unfold G4
   rw[ec]
  rw[this]
 ·subst ez
  rw[List.length_map,List.take_length,<-lo]at e4
  have st4:=s4 _ _ st3 nst_rb
  have he4:=s4 _ _ he3 nhe_rb
  have ht4:=s4 _ _ ht3 (AQ ht3 rb3 (by intro z;cases z))
  have eol4:=s4 _ _ eol3 nol_rb
  have ehl4:=s4 _ _ ehl3 nhl_rb
  push_cast[↓xL]
  refine⟨_,CC st4 k6,.inl ⟨rfl,_,SqL.of he4⟩,A7 ht4 (n:=0) rfl rfl (A7 ht4 (n:=0) rfl rfl ?_)⟩
  push_cast[]
  refine⟨_,.inl (SqL.of eol4),λl1 hl1=> ?_⟩
  have s5:=AU (o:=.lst ((outcome cs outs (λ_=>false) b').out.map λ(k:Nat)=>V.int k)) hl1
  refine A7 (s5 _ _ ht4) (n:=1) rfl rfl (A7 (s5 _ _ ht4) (n:=1) rfl rfl ?_)
  push_cast[]
  refine⟨_,.inl (SqL.of (s5 _ _ ehl4)),λl2 hl2=> ?_⟩
  have s6:=AU (o:=.lst (hs.map V.ref)) hl2
  refine⟨by decide,λt2 ht2=> ?_⟩
  have s7:=AU (o:=.tup [V.ref ol,V.ref l1,V.ref hl,V.ref l2]) ht2
  have s47:=(s5.trans s6).trans s7
  have l17:=s7 _ _ (s6 _ _ (AJ (H:=H4) (a:=l1) (o:=.lst ((outcome cs outs (λ_=>false) b').out.map λ(k:Nat)=>V.int k))))
  have l27:=s7 _ _ (AJ (H:=upd H4 l1 (.lst ((outcome cs outs (λ_=>false) b').out.map λ(k:Nat)=>V.int k))) (a:=l2) (o:=.lst (hs.map V.ref)))
  have t27:=AJ (H:=upd (upd H4 l1 (.lst ((outcome cs outs (λ_=>false) b').out.map λ(k:Nat)=>V.int k))) l2 (.lst (hs.map V.ref))) (a:=t2) (o:=.tup [V.ref ol,V.ref l1,V.ref hl,V.ref l2])
  have f2:H4 l2=none:=s5.free hl2
  have f3:H4 t2=none:=(s5.trans s6).free ht2
  revert s47 l17 l27 t27
  generalize upd (upd (upd H4 l1 (.lst ((outcome cs outs (λ_=>false) b').out.map λ(k:Nat)=>V.int k))) l2 (.lst (hs.map V.ref))) t2 (.tup [V.ref ol,V.ref l1,V.ref hl,V.ref l2])=H7
  intro s47 l17 l27 t27
  clear s5 s6 s7
  have he7:=s47 _ _ he4
  refine⟨S.he,_,_,rfl,rfl,he7,small _ (by simp;omega),?_⟩
  have s78:SameBut (· =S.he) H7 (upd H7 S.he (.lst (hts.map V.ref++[.ref t2]))):=λy o e ny=>by rw[AH ny];exact e
  have he8:upd H7 S.he (.lst (hts.map V.ref++[.ref t2])) S.he=some (.lst ((hts++[t2]).map V.ref)):=by rw[AJ,List.map_append];rfl
  revert s78 he8
  generalize upd H7 S.he (.lst (hts.map V.ref++[.ref t2]))=H8
  intro s78 he8
  obtain⟨kv3,go3,g31,g32⟩:=gone3
  have keep4:∀ {y:Addr} {o:HO},H y=some o->¬ S.A.W y->y≠S.go->y≠rb->H4 y=some o:=λe f n1 n2=>s4 _ _ (k3' e f n1) n2
  have keep8:∀ {y:Addr} {o:HO},H y=some o->¬ S.A.W y->y≠S.go->y≠rb->y≠S.he->H8 y=some o:=λe f n1 n2 n3=>s78 _ _ (s47 _ _ (keep4 e f n1 n2)) n3
  have SB:SameBut S.B H H8:=λy o e ny=>keep8 e (λf=>ny (.inl f)) (λf=>ny (.inr (.inr (.inr (.inr (.inl f)))))) (λf=>ny (.inr (.inr (.inr (.inr (.inr (.inr (.inr (.inr (f ▸ mrb))))))))))  λf=>ny (.inr (.inr (.inr (.inr (.inr (.inr (.inl f)))))))
  have tk8:=I.tk SB
  have ngo_rb:S.go≠rb:=AQ hgo hrb (by intro z;cases z)
  have ngo_he:S.go≠S.he:=AQ hgo hhe (by intro z;cases z)
  have B3:CS a H3 S.A w (rows.set b' (D5 cs (CJ cs outs b') b' row)) (n+1) cs (CJ cs outs b'):=(B1.same s12).sb s23 (λx hx=>hx ▸ OQ (s12 _ _ go1)) λx hx f=>w4 (hx ▸ .inl f)
  have B4:=B3.sb s4 (λx hx=>hx ▸ F4 rb3) λx hx f=>w8 rb mrb (hx ▸ .inl f)
  have B8:=(B4.same s47).sb s78 (λx hx=>hx ▸ F4 he7) λx hx f=>w6 (hx ▸ .inl f)
  have go8:H8 S.go=some (.dK kv3):=s78 _ _ (s47 _ _ (s4 _ _ go3 ngo_rb)) ngo_he
  have nB4:∀ {x:Addr},H4 x=none->¬ S.B x:=λ{x} e f=>by
   have no:∀ {y:Addr} {o:HO},H4 y=some o->x≠y:=λe' z=>by rw[z,e']at e;cases e
   rcases f with(f | f) | f | f | f | f | f | f | f | f
   ·exact B4.off e f
   ·obtain⟨dx,e'⟩:=B4.pk.ob
    exact no e' f
   ·exact no st4 f
   ·exact no (s4 _ _ L3 nLrb) f
   ·exact no (keep4 hla w3 (AQ hla hgo (by intro z;cases z)) (AQ hla hrb (by intro z;cases z))) f
   ·exact no (s4 _ _ go3 ngo_rb) f
   ·exact no (s4 _ _ R3 nRrb) f
   ·exact no he4 f
   ·exact no (keep4 hto w7 (AQ hto hgo (by intro z;cases z)) (apr rb mrb).2.2.symm) f
   ·by_cases h:x=rb
    ·exact no e4 h
    ·obtain⟨j,hj⟩:=F3 f
     obtain⟨r,_,er⟩:=GM hra hj
     exact no (keep4 er (w8 x f) (AQ er hgo (by intro z;cases z)) h) rfl
  have nBH:∀ {x:Addr},H x=none->¬ S.B x:=λe f=>(I.there f).1 e
  have to8:∀ {y:Addr} {o:HO},H7 y=some o->¬ S.B y->H8 y=some o:=λe f=>s78 _ _ e λz=>f (.inr (.inr (.inr (.inr (.inr (.inr (.inl z)))))))
  have hp8:Paired (λx (p:Nat × Int)=>H8 x=some (.tup [.int p.1,.int p.2])) hs (outcome cs outs (λ_=>false) b').held:=Paired.mapP hp3 λx p h=>s78 _ _ (s47 _ _ (s4 _ _ h (AQ h rb3 (by intro z;cases z)))) (AQ h he3 (by intro z;cases z))
  have gr8:good7 H8 (rows.set b' (D5 cs (CJ cs outs b') b' row)):=λr hr v hv=>by
   rcases List.mem_or_eq_of_mem_set hr with hr | rfl
   ·exact(I.gr r hr v hv).keep tk8
   ·rw[lo]at hv
    rcases YS hv with hv | ⟨c,hc,rfl⟩
    ·exact(I.gr row (List.mem_of_getElem? er) v hv).keep tk8
    ·exact(I.gc c hc).keep tk8
  have rb8:H8 rb=some (.lst (D5 cs (CJ cs outs b') b' row)):=s78 _ _ (s47 _ _ e4) nhe_rb.symm
  have R8:=keep8 hR w5 (AQ hR hgo (by intro z;cases z)) nRrb apl.2.2.2.1
  have st8:=keep8 hst w1 apk nst_rb (AQ hst hhe (by intro z;cases z))
  have J:W22 a H8 S w (rows.set b' (D5 cs (CJ cs outs b') b' row)) (n+1) mn cs (CJ cs outs b') (i+1) jj:=by
   refine⟨B8,⟨kvs,st8,hkl,k1,k2,k3,k4,k5,k6,k7⟩,⟨tl,keep8 hL w2 (AQ hL hgo (by intro z;cases z)) nLrb apl.2.1,Paired.mapP own λt c h=>h.sb SB (λ_ f=>f) tk8⟩,⟨kvl,keep8 hla w3 (AQ hla hgo (by intro z;cases z)) (AQ hla hrb (by intro z;cases z)) (AQ hla hhe (by intro z;cases z)),hvs⟩,⟨kv3,go8,g31,by omega⟩,⟨R8,gB hra erb rb8 ndr λx' r' hx' n' e=>keep8 e (w8 x' hx') (AQ e hgo (by intro z;cases z)) n' (apr x' hx').2.1,ndr,nRr⟩,⟨hts++[t2],he8,by simp;omega,λt' ht'=> ?_⟩,⟨tts,keep8 hto w7 (AQ hto hgo (by intro z;cases z)) (apr rb mrb).2.2.symm apl.2.2.2.2.2.symm,by omega,λt' ht'=>(htP t' ht').sb SB (λ_ f=>f) tk8⟩,cw,sw,gr8,λc hc=>(I.gc c hc).keep tk8,I.ap,by simpa using z1,by simpa using z2,z3,z4,by omega,by omega,by omega,by omega,by omega⟩
   rcases List.mem_append.mp ht' with h | h
   ·exact(hhP t' h).sb SB (λ_ f=>f) tk8
   ·rw[List.mem_singleton.mp h]
    refine⟨ol,l1,hl,l2,(outcome cs outs (λ_=>false) b').out.map λ(k:Nat)=>(k:Int),hs,_,to8 t27 (nB4 f3),?_,?_,to8 (s47 _ _ ehl4) (nBH hhl),to8 l27 (nB4 f2),hp8,nBH hol,nB4 hl1,nBH hhl,nB4 f2⟩
    ·rw[<-E3];exact to8 (s47 _ _ eol4) (nBH hol)
    ·rw[<-E3];exact to8 l17 (nB4 hl1)
  show UC K a (λ_=>E) (λ_=>E) (BB Q) [some (V.ref S.A.b),some (V.ref S.A.gp),some (V.ref S.st),some (V.int b'),some (V.ref t),y5,y6,y7,y8] H8
  obtain⟨dp,ep⟩:=B8.pk.ob
  push_cast[↓xM]
  exact gC TP B8.pk gr8 st8 k4 J.rw (by simpa using hb) (by omega) λH9 s9=>q _ _ H9 (by simp) (J.same s9) λy o e ny=>s9 _ _ (SB _ _ e ny)
theorem Ed(h:MZ K a vs H Q E):vs.length=4:=by
 obtain⟨_,_,_,_,_,_,_,_,_,_,rfl,_⟩:=h
 rfl
def Eg(H:Hp)(S:WS)(c:Int)(m:Nat)(sl:Addr)(z:Option V)(i j:Nat)(σ:St)(H':Hp):Prop:=SameBut (· =S.to) H H'/\TupsL (Two S.B H') H' S.to (i+j)/\∃ y,σ=[some (.ref S.A.b),some (.ref S.st),some (.int c),some (.int m),some (.ref sl),z,y]
theorem gD{S:WS}{c:Int}{cs:List Ch}{outs:Int->Bool}{i:Nat}{sl l0:Addr}{ls:List Addr}{kvs kvg:List (AR × V)}{z y:Option V}(hsl:H sl=some (.lst ((l0::ls).map V.ref)))(hls:(l0::ls).length<=3)(hl0:H l0=some (.lst (FL (DR cs.length outs))))(hl:∀ l∈l0::ls,¬ S.B l/\∃ xs:List Int,H l=some (.lst (xs.map V.int)))(nsl:¬ S.B sl)(hst:H S.st=some (.dK kvs))(k3:AW kvs (.inr "gone")=some (.ref S.go))(k7:AW kvs (.inr "told")=some (.ref S.to))(hgo:H S.go=some (.dK kvg))(hg:∀ x:Int,CN kvg x=outs x)(to:TupsL (Two S.B H) H S.to i)(hB:∀ x,S.B x->H x≠none/\∀ xs,H x≠some (.tup xs))(hi:i<=300)(hcs:cs.length<=100)
  (q:∀ H',TupsL (Two S.B H') H' S.to (i+3)->SameBut (· =S.to) H H'->Q (.bl true) H') :
  AK (T3 K a (λ_=>E) (λ_=>E)) (T4 K a (λ_=>E) (λ_=>E)) (BB Q) [some (.ref S.A.b),some (.ref S.st),some (.int c),some (.int cs.length),some (.ref sl),z,y] H:=by
 have to':=to
 obtain⟨ts0,hto0,_⟩:=to
 have nto:∀ {x:Addr},¬ S.B x->x≠S.to:=λf e=>f (e ▸ .inr (.inr (.inr (.inr (.inr (.inr (.inr (.inl rfl))))))))
 have nst:S.st≠S.to:=AQ hst hto0 (by intro z;cases z)
 have ngo:S.go≠S.to:=AQ hgo hto0 (by intro z;cases z)
 push_cast[↓wE]
 refine .inl ⟨⟨_,SqL.of hsl⟩,EV (xs:=(l0::ls).map V.ref) (Eg H S c cs.length sl z i) ⟨SameBut.refl _,by simpa using to',_,rfl⟩ (λj σ H' _ ⟨s,_⟩=>SqL.of (s _ _ hsl (nto nsl))) (λj v σ H1 hx ⟨s,⟨ts,hto,hts,htP⟩,y,ez⟩=> ?_) (λσ H1 ⟨s,⟨ts,hto,hts,htP⟩,y,ez⟩=> ?_)⟩
 ·subst ez
  rw[List.getElem?_map,Option.map_eq_some_iff]at hx
  obtain⟨l,hx,rfl⟩:=hx
  have hj:=(List.getElem?_eq_some_iff.mp hx).1
  obtain⟨nl,xs,el⟩:=hl l (List.mem_of_getElem? hx)
  have el1:=s _ _ el (nto nl)
  push_cast[↓wC]
  refine DN (.inl (.lst el1)) (.ty _) (b:=true) rfl ⟨true,rfl,B7 (by decide) ?_⟩
  push_cast[↓wD]
  refine⟨_,CC (s _ _ hst nst) k7,.inl ⟨rfl,_,SqL.of hto⟩,_,.inl (SqL.of el1),λl' hl'=>⟨by decide,λp hp=> ?_⟩⟩
  have s1:=AU (o:=.lst (xs.map V.int)) hl'
  have s2:=AU (o:=.tup [V.ref l,V.ref l']) hp
  have s12:=s1.trans s2
  have p2:=AJ (H:=upd H1 l' (.lst (xs.map V.int))) (a:=p) (o:=.tup [V.ref l,V.ref l'])
  have l2:=s2 _ _ (AJ (H:=H1) (a:=l') (o:=.lst (xs.map V.int)))
  revert s12 p2 l2
  generalize upd (upd H1 l' (.lst (xs.map V.int))) p (.tup [V.ref l,V.ref l'])=H2
  intro s12 p2 l2
  clear s1 s2
  have nB1:∀ {x:Addr},H1 x=none->¬ S.B x:=λ{x} e f=>by
   by_cases h:x=S.to
   ·rw[h,hto]at e;cases e
   ·cases eo:H x with
    | none=>exact(hB x f).1 eo
    | some o=>rw[s _ _ eo h]at e;cases e
  have nl':=nB1 hl'
  refine⟨S.to,_,_,rfl,rfl,s12 _ _ hto,small _ (by rw[List.length_map];omega),?_⟩
  have s23:SameBut (· =S.to) H2 (upd H2 S.to (.lst (ts.map V.ref++[.ref p]))):=λy o e ny=>by rw[AH ny];exact e
  have s13:SameBut (· =S.to) H1 (upd H2 S.to (.lst (ts.map V.ref++[.ref p]))):=λy o e ny=>s23 _ _ (s12 _ _ e) ny
  have hto3:upd H2 S.to (.lst (ts.map V.ref++[.ref p])) S.to=some (.lst ((ts++[p]).map V.ref)):=by rw[AJ,List.map_append];rfl
  revert s23 s13 hto3
  generalize upd H2 S.to (.lst (ts.map V.ref++[.ref p]))=H3
  intro s23 s13 hto3
  refine⟨λy o e ny=>s13 _ _ (s _ _ e ny) ny,⟨ts++[p],hto3,by simp;omega,λt' ht'=> ?_⟩,_,rfl⟩
  rcases List.mem_append.mp ht' with h | h
  ·exact(htP t' h).sb s13 (λx hx=>hx ▸ .inr (.inr (.inr (.inr (.inr (.inr (.inr (.inl rfl)))))))) λy xs e=>s13 _ _ e (AQ e hto (by intro z;cases z))
  ·rw[List.mem_singleton.mp h]
   exact⟨l,l',xs,s23 _ _ p2 (AQ p2 (s12 _ _ hto) (by intro z;cases z)),s13 _ _ el1 (nto nl),s23 _ _ l2 (nto nl'),nl,nl'⟩
 ·subst ez
  push_cast[↓wF]
  have nl0:=(hl l0 List.mem_cons_self).1
  refine B0 (SqL.of (s _ _ hsl (nto nsl))) (n:=0) rfl rfl ⟨by omega,by omega,?_⟩
  refine OI (λk=> !outs k) (small _ (by omega)) (λj hj QB qb=> ?_) λl5 hl5=> ?_
  ·push_cast[DX]
   refine⟨_,CC (s _ _ hst nst) k3,_,rfl,_,dI (s _ _ hgo ngo),?_⟩
   rw[show(AW kvg (.inl (j:Int))).isSome=outs j from hg j]
   exact qb
  ·have s5:=AU (o:=.lst (((List.range cs.length).filter λ(k:Nat)=> !outs k).map λ(k:Nat)=>V.int k)) hl5
   have e0:=s _ _ hl0 (nto nl0)
   unfold FL DR at e0
   rw[E3]at e0
   replace e0:=s5 _ _ e0
   refine UU e0 (by rw[AJ,E3]) (q _ ⟨ts,s5 _ _ hto,by rw[List.length_map]at hts;omega,λt' ht'=>(htP t' ht').sb (G:=λ_=>False) (λy o e _=>s5 _ _ e) (λ_ f=>f.elim) s5.tk⟩ λy o e ny=>s5 _ _ (s _ _ e ny))
theorem gE{l m:List Int}(h1:l.Pairwise (· <·))(h2:m.Pairwise (· <·))(h:∀ x,x∈l↔x∈m):l=m:=by
 have n1:l.Nodup:=h1.imp λh=>by omega
 have n2:m.Nodup:=h2.imp λh=>by omega
 exact List.Perm.eq_of_pairwise (λa b _ _ x y=>by omega) h1 h2 ((List.perm_ext_iff_of_nodup n1 n2).mpr h)
theorem Eh(h:M3 K a vs H Q E):T5 K a (λ_=>E) (BB Q) (BD ["hold","state","cell","many","some","number","one"] vs) H:=by
 obtain⟨S,w,rows,n,mn,cs,outs,i,j,c,rfl,⟨T,TP,X⟩,B,⟨kvs,hst,hkl,k1,k2,k3,k4,k5,k6,k7⟩,⟨tl,hL,own⟩,⟨kvg,hgo,hg1,hg2⟩,to,ap,hB,hcs,hmn,hi,q⟩:=h
 have htl:tl.length=cs.length:=own.length
 have nB:∀ {x:Addr},H x=none->¬ S.B x:=λe f=>(hB _ f).1 e
 obtain⟨db,eb⟩:=B.bk.ob
 push_cast[T5,↓vY]
 refine⟨_,CC hst k1,cs.length,.inl ⟨_,SqL.of hL,by rw[List.length_map,htl]⟩,?_⟩
 push_cast[↓vZ]
 refine⟨_,_,eb,C1 (by decide +kernel),S.A,w,rows,n,cs,outs,rfl,T,B,λl0 H1 hl0 s1 el0=>⟨by decide,λsl hsl=> ?_⟩⟩
 have s12:=AU (o:=.lst [.ref l0]) hsl
 have s2:=s1.trans s12
 have esl:upd H1 sl (.lst [.ref l0]) sl=some (.lst [.ref l0]):=AJ
 have el02:=s12 _ _ el0
 have hslH:H sl=none:=s1.free hsl
 revert s2 esl el02
 generalize upd H1 sl (.lst [.ref l0])=H2
 intro s2 esl el02
 clear s12 hsl s1 el0 H1
 have two:∀ {H':Hp},Same H H'->TupsL (Two S.B H') H' S.to j:=λs=>to.sb (G:=λ_=>False) (λy o e _=>s _ _ e) (λf=>f) (λt h=>h.sb (G:=λ_=>False) (λy o e _=>s _ _ e) (λ_ f=>f.elim) s.tk) (Nat.le_refl _)
 have hB':∀ {H':Hp},Same H H'->∀ x,S.B x->H' x≠none/\∀ xs,H' x≠some (.tup xs):=λ{H'} s x f=>by
  cases e:H x with
  | none=>exact absurd e (hB x f).1
  | some o =>
   rw[s _ _ e]
   exact⟨λz=>(by cases z),λxs z=>(hB x f).2 xs (by rw[e,Option.some.inj z])⟩
 have w0:∃ xs:List Int,H2 l0=some (.lst (xs.map V.int)):=⟨_,by rw[el02];unfold FL;rw[E3]⟩
 push_cast[↓wA]
 by_cases hc:(cs.length:Int) > 0
 ·refine EZ hc ?_
  push_cast[↓v0,↓DQ]
  refine⟨by omega,?_⟩
  obtain⟨k,ek,hk⟩:∃ k:Nat,CQ c 10169 cs.length=k/\k<cs.length:=⟨(CQ c 10169 cs.length).toNat,by have:=D0 (c:=c) (p:=10169) hc;omega,by have:=D0 (c:=c) (p:=10169) hc;have:=EW (c:=c) (p:=10169) hc;omega⟩
  rw[ek]
  have ec:=List.getElem?_eq_getElem hk
  generalize cs[k]=ch at ec
  have B2:=B.same s2
  push_cast[↓v7]
  refine⟨_,_,s2 _ _ eb,C1 (by decide +kernel),S.A,w,rows,n,cs,outs,k,rfl,T,B2,λk' c' l1 H3 ek' ec' hl1 s3 el1=> ?_,λhn=>absurd ⟨by omega,by omega⟩ hn⟩
  have:k'=k:=by omega
  subst this
  rw[ec]at ec'
  cases ec'
  have s13:=s2.trans s3
  refine⟨_,_,s13 _ _ eb,C1 (by decide +kernel),by decide,λpp hpp=> ?_⟩
  have s4:=AU (o:=.lst [V.int (k':Int)]) hpp
  refine⟨S.A,w,rows,n,cs,outs,pp,[(k':Int)],rfl,T,(B2.same s3).same s4,SqL.of AJ,by simp,λhkn l2 H5 R _ _ _ hl2 s5 el2=>⟨by decide,λp2 hp2=>.inl ?_⟩,λhbad=> ?_⟩
  ·have s6:=AU (o:=.lst [V.ref l1,V.ref l2]) hp2
   have s36:=(s4.trans s5).trans s6
   have s26:=s3.trans s36
   have p26:=AJ (H:=H5) (a:=p2) (o:=.lst [V.ref l1,V.ref l2])
   have l26:=s6 _ _ el2
   have fl2:H l2=none:=(s13.trans s4).free hl2
   have fl1:H l1=none:=s2.free hl1
   revert s36 s26 p26 l26
   generalize upd H5 p2 (.lst [V.ref l1,V.ref l2])=H6
   intro s36 s26 p26 l26
   clear s6 s5 s4 hp2 hl2 el2 hpp
   refine⟨sl,p2,_,_,rfl,rfl,s26 _ _ esl,p26,show 3<=sizeLine from by decide,λs9 hs9=> ?_⟩
   have s67:=AU (o:=.lst ([V.ref l0]++[V.ref l1,V.ref l2])) hs9
   have s27:=s26.trans s67
   have e97:upd H6 s9 (.lst ([V.ref l0]++[V.ref l1,V.ref l2])) s9=some (.lst ([l0,l1,l2].map V.ref)):=by rw[AJ];rfl
   have fs9:H s9=none:=(s2.trans s26).free hs9
   have l17:=s67 _ _ (s36 _ _ el1)
   have l27:=s67 _ _ l26
   revert s27 e97 l17 l27
   generalize upd H6 s9 (.lst ([V.ref l0]++[V.ref l1,V.ref l2]))=H7
   intro s27 e97 l17 l27
   clear s67 hs9
   have sH7:=s2.trans s27
   obtain⟨tt,htt,pl,nl,ns,c1,c2,c3,c4,c5,c6⟩:=EC own ec
   push_cast[↓v9]
   refine B0 (SqL.of e97) (n:=1) rfl rfl ⟨_,CC (sH7 _ _ hst) k1,B0 (SqL.of (sH7 _ _ hL)) (n:=k') rfl (by rw[List.getElem?_map,htt];rfl) (A7 (sH7 _ _ c1) (n:=2) rfl rfl ⟨nl,rfl,ns,SqL.of (sH7 _ _ c3),by omega,λa1 o1 D1 ks ha1 hD1 hks hm hkl'=> ?_⟩)⟩
   have eks:ks=ch.nd:=gE hks (B.bk.need k' ch ec).2.1 λx=>(hm x).trans (c5 x)
   subst eks
   have s78:=(AU (o:=o1) ha1).trans (AU (o:=.lst (ch.nd.map V.int)) hD1)
   refine G7 (s78 _ _ l17) AJ ⟨false,rfl,B7 (by decide) ?_⟩
   revert s78
   generalize upd (upd H7 a1 o1) D1 (.lst (ch.nd.map V.int))=H8
   intro s78
   have sH8:=sH7.trans s78
   refine gD (l0:=l0) (ls:=[l1,l2]) (s78 _ _ e97) (by simp) (s78 _ _ (s27 _ _ el02)) (λl hl=> ?_) (nB fs9) (sH8 _ _ hst) k3 k7 (sH8 _ _ hgo) hg1 (two sH8) (hB' sH8) hi hcs λH3 t3 s3=>q H3 t3 λy o e ny=>s3 _ _ (sH8 _ _ e) ny
   simp only[List.mem_cons,List.not_mem_nil,or_false]at hl
   rcases hl with rfl | rfl | rfl
   ·obtain⟨xs,e⟩:=w0
    exact⟨nB hl0,xs,s78 _ _ (s27 _ _ e)⟩
   ·exact⟨nB fl1,_,s78 _ _ l17⟩
   ·have:=s78 _ _ l27
    unfold FL at this
    rw[E3]at this
    exact⟨nB fl2,_,this⟩
  ·obtain⟨x,hx,hn⟩:=hbad
   rw[List.mem_singleton.mp hx]at hn
   exact absurd ⟨by omega,by omega⟩ hn
 ·refine B7 hc ?_
  exact gD (ls:=[]) esl (by simp) el02 (λl hl=>by rw[List.mem_singleton.mp hl];exact⟨nB hl0,w0⟩) (nB hslH) (s2 _ _ hst) k3 k7 (s2 _ _ hgo) hg1 (two s2) (hB' s2) hi hcs λH3 t3 s3=>q H3 t3 λy o e ny=>s3 _ _ (s2 _ _ e) ny
theorem Ej(h:M3 K a vs H Q E):vs.length=3:=by
 obtain⟨_,_,_,_,_,_,_,_,_,_,rfl,_⟩:=h
 rfl
theorem gF{S:WS}{w:Nat}{rows:List (List V)}{n:Nat}{cs:List Ch}{outs:Int->Bool}{i j:Nat}{c:Int}{z:Addr}{x5 x6:Option V}{b:Nat}(TT:GL K a)(I:W22 a H S w rows n n cs outs (i+1) j)(hj:j<=3 * i)(hb:b<rows.length)
  (q:∀ H',W22 a H' S w rows n n cs outs (i+1) (j+3)->SameBut S.B H H'->Q (.bl true) H') :
  AK (M6 K a (λ_=>E) (λ_=>E)) (M7 K a (λ_=>E) (λ_=>E)) (BB Q) [some (.ref S.A.b),some (.ref S.A.gp),some (.int c),some (.ref z),some (.ref S.st),x5,x6,some (.int b)] H:=by
 have TT':=TT
 obtain⟨T,TP,X⟩:=TT
 obtain⟨kvs,hst,hkl,k1,k2,k3,k4,k5,k6,k7⟩:=I.sd
 obtain⟨z1,z2,z3,z4,z5,z6,z7,z8,z9⟩:=I.sz
 push_cast[↓yP]
 refine gC TP I.bk.pk I.gr hst k4 I.rw hb (by omega) λH1 s1=>⟨true,rfl,B7 (by decide) ?_⟩
 have I1:=I.same s1
 obtain⟨dp,ep⟩:=I1.bk.pk.ob
 push_cast[↓yQ]
 refine⟨_,_,ep,IF _ _ _ (by decide +kernel) (by decide +kernel) (by decide +kernel),S.A.gp,S.A.cl,w,rows,n,rfl,TP,I1.bk.pk,_,CC (s1 _ _ hst) k5,?_⟩
 push_cast[]
 refine⟨S,w,rows,n,n,cs,outs,i+1,j,c,rfl,TT',I1.bk,I1.sd,I1.ow,I1.go,I1.to,I1.ap,λx f=>I1.there f,by omega,by omega,by omega,λH2 to2 s2=> ?_⟩
 have toB:∀ x,x=S.to->S.B x:=λx e=>e ▸ .inr (.inr (.inr (.inr (.inr (.inr (.inr (.inl rfl)))))))
 have tk2:EL H1 H2:=λy xs e=>s2 _ _ e λz=>(I1.there (toB y z)).2 xs e
 obtain⟨⟨w1,w2,w3,w4,w5,w6,w7,w8⟩,apk,apl,apr⟩:=I1.ap
 obtain⟨ts,hto,_⟩:=I1.to
 obtain⟨tl,hL,own⟩:=I1.ow
 obtain⟨kvl,hla,hvs⟩:=I1.la
 obtain⟨kvg,hgo,hg⟩:=I1.go
 obtain⟨hts,hhe,hhl,hhP⟩:=I1.he
 have B2:=I1.bk.sb s2 (λx hx=>hx ▸ F4 hto) λx hx f=>w7 (hx ▸ .inl f)
 have J:W22 a H2 S w rows n n cs outs (i+1) (j+3):=⟨B2,⟨kvs,s2 _ _ (s1 _ _ hst) (AQ (s1 _ _ hst) hto (by intro z;cases z)),hkl,k1,k2,k3,k4,k5,k6,k7⟩,⟨tl,s2 _ _ hL apl.2.2.1,Paired.mapP own λt c h=>h.sb s2 toB tk2⟩,⟨kvl,s2 _ _ hla (AQ hla hto (by intro z;cases z)),hvs⟩,⟨kvg,s2 _ _ hgo (AQ hgo hto (by intro z;cases z)),hg⟩,I1.rw.sb s2 apl.2.2.2.2.1 (λx hx=>(apr x hx).2.2),⟨hts,s2 _ _ hhe apl.2.2.2.2.2,hhl,λt ht=>(hhP t ht).sb s2 toB tk2⟩,to2,I1.ct,I1.sh,I1.gr.keep tk2,λc hc=>(I1.gc c hc).keep tk2,I1.ap,z1,z2,z3,z4,z5,z6,z7,z8,by omega⟩
 exact q H2 J λy o e ny=>s2 _ _ (s1 _ _ e) λz=>ny (toB y z)
theorem W22.many{S:WS}{w:Nat}{rows:List (List V)}{n mn:Nat}{cs:List Ch}{outs:Int->Bool}{i j:Nat}{kvs:List (AR × V)}(I:W22 a H S w rows n mn cs outs i j)(e:H S.st=some (.dK kvs))(hm:mn+1<=3+i):W22 a (upd H S.st (.dK (A5 kvs (.inr "many") (.int (mn+1:Nat))))) S w rows n (mn+1) cs outs i j:=by
 have s2:SameBut (· =S.st) H (upd H S.st (.dK (A5 kvs (.inr "many") (.int (mn+1:Nat))))):=λy o e ny=>by rw[AH ny];exact e
 have st2:upd H S.st (.dK (A5 kvs (.inr "many") (.int (mn+1:Nat)))) S.st=some (.dK (A5 kvs (.inr "many") (.int (mn+1:Nat)))):=AJ
 revert s2 st2
 generalize upd H S.st (.dK (A5 kvs (.inr "many") (.int (mn+1:Nat))))=H2
 intro s2 st2
 have stB:∀ x,x=S.st->S.B x:=λx e=>e ▸ .inr (.inl rfl)
 have tk2:EL H H2:=λy xs e=>s2 _ _ e λz=>(I.there (stB y z)).2 xs e
 obtain⟨⟨w1,w2,w3,w4,w5,w6,w7,w8⟩,apk,apl,apr⟩:=I.ap
 obtain⟨kvs',hst,hkl,k1,k2,k3,k4,k5,k6,k7⟩:=I.sd
 rw[e]at hst
 cases hst
 obtain⟨ts,hto,htl,htP⟩:=I.to
 obtain⟨tl,hL,own⟩:=I.ow
 obtain⟨kvl,hla,hvs⟩:=I.la
 obtain⟨kvg,hgo,hg⟩:=I.go
 obtain⟨hts,hhe,hhl,hhP⟩:=I.he
 obtain⟨z1,z2,z3,z4,z5,z6,z7,z8,z9⟩:=I.sz
 have B2:=I.bk.sb s2 (λx hx=>hx ▸ OQ e) λx hx f=>w1 (hx ▸ .inl f)
 have hra:∀ x∈S.ra,x≠S.st:=λx hx z=>by
  obtain⟨k,hk⟩:=F3 hx
  obtain⟨r,_,er⟩:=GM I.rw.2.1 hk
  rw[z,e]at er;cases er
 refine⟨B2,⟨_,st2,?_,?_,?_,?_,?_,?_,?_,?_⟩,⟨tl,s2 _ _ hL (AQ hL e (by intro z;cases z)),Paired.mapP own λt c h=>h.sb s2 stB tk2⟩,⟨kvl,s2 _ _ hla (AQ hla e (by intro z;cases z)),hvs⟩,⟨kvg,s2 _ _ hgo apk.symm,hg⟩,I.rw.sb s2 (AQ I.rw.1 e (by intro z;cases z)) hra,⟨hts,s2 _ _ hhe (AQ hhe e (by intro z;cases z)),hhl,λt ht=>(hhP t ht).sb s2 stB tk2⟩,⟨ts,s2 _ _ hto (AQ hto e (by intro z;cases z)),htl,λt ht=>(htP t ht).sb s2 stB tk2⟩,I.ct,I.sh,I.gr.keep tk2,λc hc=>(I.gc c hc).keep tk2,I.ap,z1,z2,z3,z4,z5,z6,hm,z8,z9⟩
 ·have:=FV kvs (.inr "many") (.int (mn+1:Nat));omega
 ·rw[EF,if_neg (by decide +kernel)];exact k1
 ·rw[EF,if_neg (by decide +kernel)];exact k2
 ·rw[EF,if_neg (by decide +kernel)];exact k3
 ·rw[EF,if_neg (by decide +kernel)];exact k4
 ·rw[EF,if_pos rfl]
 ·rw[EF,if_neg (by decide +kernel)];exact k6
 ·rw[EF,if_neg (by decide +kernel)];exact k7
theorem Ek(h:M4 K a vs H Q E):UL K a (λ_=>E) (BB Q) (BD ["hold","plank","cell","size","state","far","none","other"] vs) H:=by
 obtain⟨S,w,rows,n,cs,outs,i,j,c,z,rfl,TT,I,hi,hz,q⟩:=h
 have TT':=TT
 obtain⟨T,TP,X⟩:=TT
 obtain⟨z1,z2,z3,z4,z5,z6,z7,z8,z9⟩:=I.sz
 have m0:(0:Int)<rows.length:=by omega
 have main:∀ {H1:Hp} {x5 x6:Option V},Same H H1->AK (O1 K a (λ_=>E) (λ_=>E)) (AK (O2 K a (λ_=>E) (λ_=>E)) (AK (M6 K a (λ_=>E) (λ_=>E)) (M7 K a (λ_=>E) (λ_=>E)))) (BB Q) [some (.ref S.A.b),some (.ref S.A.gp),some (.int c),some (.ref z),some (.ref S.st),x5,x6,none] H1:=λ{H1 x5 x6} s1=>by
  have I1:=I.same s1
  have hz1:=s1 _ _ hz
  push_cast[↓yH]
  refine A7 hz1 (n:=0) rfl rfl ?_
  push_cast[↓DQ]
  obtain⟨b,eb,hb⟩:∃ b:Nat,CQ c 10111 rows.length=b/\b<rows.length:=⟨(CQ c 10111 rows.length).toNat,by have:=D0 (c:=c) (p:=10111) m0;omega,by have:=D0 (c:=c) (p:=10111) m0;have:=EW (c:=c) (p:=10111) m0;omega⟩
  rw[eb]
  refine⟨m0,?_⟩
  push_cast[↓yN,↓DQ]
  by_cases hw:CQ c 10133 8<3
  ·refine EZ hw ?_
   push_cast[↓yJ]
   refine A7 hz1 (n:=0) rfl rfl ?_
   push_cast[↓DQ]
   obtain⟨b2,eb2,hb2⟩:∃ b:Nat,CQ c 10139 rows.length=b/\b<rows.length:=⟨(CQ c 10139 rows.length).toNat,by have:=D0 (c:=c) (p:=10139) m0;omega,by have:=D0 (c:=c) (p:=10139) m0;have:=EW (c:=c) (p:=10139) m0;omega⟩
   rw[eb2]
   refine⟨m0,S,w,rows,n,n,cs,outs,i,j,b2,rfl,TT',I1,hi,hb2,λrows' outs' H2 hr I2 s2=>⟨true,rfl,B7 (by decide) ?_⟩⟩
   obtain⟨kvs,hst,hkl,k1,k2,k3,k4,k5,k6,k7⟩:=I2.sd
   push_cast[↓yK]
   refine⟨_,CC hst k5,?_⟩
   push_cast[]
   refine⟨_,pS hst (by omega),?_⟩
   rw[show(n:Int)+1=((n+1:Nat):Int)from by omega]
   have I3:=I2.many hst (by omega)
   exact gF TT' I3 z9 (by omega) λH4 I4 s4=>q rows' (n+1) cs outs' H4 hr I4 λy o e ny=>s4 _ _ (by rw[AH λz=>ny (.inr (.inl z))];exact s2 _ _ (s1 _ _ e) ny) ny
  ·refine B7 hw ?_
   push_cast[↓yM]
   refine⟨S,w,rows,n,n,cs,outs,i,j,c,z,rfl,TT',I1,hi,hz1,λch H2 I2 s2=>⟨true,rfl,B7 (by decide) ?_⟩⟩
   exact gF TT' I2 z9 hb λH3 I3 s3=>q rows n _ outs H3 rfl I3 λy o e ny=>s3 _ _ (s2 _ _ (s1 _ _ e) ny) ny
 push_cast[UL,↓yG,↓DQ]
 by_cases h0:CQ c 10099 16=0
 ·refine EZ h0 ?_
  push_cast[↓yC,↓yD,↓DQ]
  refine⟨Q6,by decide,A7 hz (n:=0) rfl rfl (A7 hz (n:=0) rfl rfl ?_)⟩
  push_cast[]
  refine⟨by decide,λp hp=> ?_⟩
  have f0:0<=c % 10 ^ 30:=Int.emod_nonneg _ (by decide)
  generalize c % 10 ^ 30=far at f0
  have s1:=AU (o:=.lst [V.int (-1),V.int rows.length,V.int (0 - (1+far)),V.int (rows.length+(1+far))]) hp
  have r0:=D0 (c:=c) (p:=10103) (m:=4) (by decide)
  have r1:=EW (c:=c) (p:=10103) (m:=4) (by decide)
  generalize CQ c 10103 4=ix at r0 r1
  have go:∀ {b:Int} {x6:Option V},(b<0\/rows.length<=b)->UK K a (λ_=>E) (λ_=>E) { nx:=AK (O1 K a (λ_=>E) (λ_=>E)) (AK (O2 K a (λ_=>E) (λ_=>E)) (AK (M6 K a (λ_=>E) (λ_=>E)) (M7 K a (λ_=>E) (λ_=>E)))) (BB Q),rt:=Q } [some (.ref S.A.b),some (.ref S.A.gp),some (.int c),some (.ref z),some (.ref S.st),some (.int (1+far)),some (.int b),none] (upd H p (.lst [V.int (-1),V.int rows.length,V.int (0 - (1+far)),V.int (rows.length+(1+far))])):=λ{b x6} hb=>by
   push_cast[↓yF]
   exact⟨S.A,w,rows,n,cs,outs,b,rfl,TT',I.bk.same s1,hb,λH2 s2=>⟨true,rfl,B7 (by decide) (main (s1.trans s2))⟩⟩
  rcases(by omega:ix=0\/ix=1\/ix=2\/ix=3)with e | e | e | e<;>subst e
  ·exact B0 (SqL.of AJ) (n:=0) rfl rfl (go (x6:=none) (by omega))
  ·exact B0 (SqL.of AJ) (n:=1) rfl rfl (go (x6:=none) (by omega))
  ·exact B0 (SqL.of AJ) (n:=2) rfl rfl (go (x6:=none) (by omega))
  ·exact B0 (SqL.of AJ) (n:=3) rfl rfl (go (x6:=none) (by omega))
 ·exact B7 h0 (main (Same.refl _))
theorem El(h:M4 K a vs H Q E):vs.length=5:=by
 obtain⟨_,_,_,_,_,_,_,_,_,_,rfl,_⟩:=h
 rfl
def UW(H:Hp)(S:WS)(i:Nat)(σ:St)(H':Hp):Prop:=Same H H'/\∃ y2 y3 y4 y5 y6 y7,σ=[some (.ref S.A.b),some (.ref S.st),y2,y3,y4,y5,y6,y7,none,none]
theorem Em{S:WS}{w:Nat}{rows:List (List V)}{n:Nat}{cs:List Ch}{outs:Int->Bool}{tl:List Addr}{kvs kvg:List (AR × V)}{y2 y3 y4 y5 y6 y7 y8 y9:Option V}(TT:GL K a)(B:CS a H S.A w rows n cs outs)(hst:H S.st=some (.dK kvs))(k1:AW kvs (.inr "changes")=some (.ref S.L))(k3:AW kvs (.inr "gone")=some (.ref S.go))(hL:H S.L=some (.lst (tl.map V.ref)))(htl:tl.length=cs.length)(hgo:H S.go=some (.dK kvg))(hg:∀ x:Int,CN kvg x=outs x)(hcs:cs.length<=100)(q:∀ H',Q (.bl true) H') :
  AK (UE K a (λ_=>E) (λ_=>E)) (AK (UF K a (λ_=>E) (λ_=>E)) (AK (UG K a (λ_=>E) (λ_=>E)) (AK (UH K a (λ_=>E) (λ_=>E)) (UI K a (λ_=>E) (λ_=>E))))) (BB Q) [some (.ref S.A.b),some (.ref S.st),y2,y3,y4,y5,y6,y7,y8,y9] H:=by
 obtain⟨T,TP,X⟩:=TT
 obtain⟨db,eb⟩:=B.bk.ob
 push_cast[↓x3]
 refine⟨_,CC hst k1,cs.length,.inl ⟨_,SqL.of hL,by rw[List.length_map,htl]⟩,by omega,by omega,?_⟩
 refine OI (λk=> !outs k) (small _ (by omega)) (λj hj QB qb=> ?_) λl5 hl5=> ?_
 ·push_cast[DX]
  refine⟨_,CC hst k3,_,rfl,_,dI hgo,?_⟩
  rw[show(AW kvg (.inl (j:Int))).isSome=outs j from hg j]
  exact qb
 have s5:=AU (o:=.lst (((List.range cs.length).filter λ(k:Nat)=> !outs k).map λ(k:Nat)=>V.int k)) hl5
 have e5:upd H l5 (.lst (((List.range cs.length).filter λ(k:Nat)=> !outs k).map λ(k:Nat)=>V.int k)) l5=some (.lst ((((List.range cs.length).filter λ(k:Nat)=> !outs k).map λ(k:Nat)=>(k:Int)).map V.int)):=by rw[AJ,E3]
 revert s5 e5
 generalize upd H l5 (.lst (((List.range cs.length).filter λ(k:Nat)=> !outs k).map λ(k:Nat)=>V.int k))=H1
 intro s5 e5
 have B1:=B.same s5
 push_cast[↓x4]
 refine⟨_,_,s5 _ _ eb,C1 (by decide +kernel),S.A,w,rows,n,cs,outs,rfl,T,B1,λl0 H2 hl0 s2 el0=> ?_⟩
 have el0':=el0
 unfold FL DR at el0'
 rw[E3]at el0'
 push_cast[↓x9]
 refine G7 el0' (s2 _ _ e5) ⟨false,rfl,B7 (by decide) ?_⟩
 push_cast[↓yA]
 refine⟨.inl ⟨rfl,_,SqL.of el0'⟩,l0,_,rfl,rfl,el0',?_⟩
 have s13:Same H1 (upd H2 l0 (.lst [])):=λy o e=>by rw[AH (AX e hl0)];exact s2 _ _ e
 revert s13
 generalize upd H2 l0 (.lst [])=H3
 intro s13
 have B3:=B1.same s13
 push_cast[↓yB]
 refine DN (.inl (X.ty (s13 _ _ (s5 _ _ eb)))) (.own _) X.hb ⟨true,rfl,EZ rfl ⟨_,_,s13 _ _ (s5 _ _ eb),C1 (by decide +kernel),S.A,w,rows,n,cs,outs,rfl,T,B3,λl4 H4 hl4 s4 el4=> ?_⟩⟩
 unfold FL DR at el4
 rw[E3]at el4
 exact UU el4 (s4 _ _ (s13 _ _ e5)) (q _)
theorem Ep(h:M5 K a vs H Q E):UJ K a (λ_=>E) (BB Q) (BD ["hold","state","place","number","out","kept","held","pairs","left","told"] vs) H:=by
 obtain⟨S,w,rows,n,cs,outs,i,j,rfl,TT,I,q⟩:=h
 have TT':=TT
 obtain⟨T,TP,X⟩:=TT
 obtain⟨kvs,hst,hkl,k1,k2,k3,k4,k5,k6,k7⟩:=I.sd
 obtain⟨tl,hL,own⟩:=I.ow
 obtain⟨kvl,hla,hv,hvl,hvk⟩:=I.la
 obtain⟨kvg,hgo,hg1,hg2⟩:=I.go
 obtain⟨hts,hhe,hhl,hhP⟩:=I.he
 obtain⟨tts,hto,htol,htP⟩:=I.to
 have htl:tl.length=cs.length:=own.length
 obtain⟨z1,z2,z3,z4,z5,z6,z7,z8,z9⟩:=I.sz
 obtain⟨⟨w1,w2,w3,w4,w5,w6,w7,w8⟩,apk,apl,apr⟩:=I.ap
 push_cast[UJ,↓xR,↓sM]
 refine⟨_,CC hst k2,S.la,rfl,kvl,hla,λo=> ?_⟩
 have s9:SameBut (· =S.la) H (upd H S.la (.frz o (.dT kvl))):=λy u e ny=>by rw[AH ny];exact e
 have la9:upd H S.la (.frz o (.dT kvl)) S.la=some (.frz o (.dT kvl)):=AJ
 revert s9 la9
 generalize upd H S.la (.frz o (.dT kvl))=H1
 intro s1 la1
 have laB:∀ x,x=S.la->S.B x:=λx e=>e ▸ .inr (.inr (.inr (.inl rfl)))
 have tk1:EL H H1:=λy xs e=>s1 _ _ e λz=>(I.there (laB y z)).2 xs e
 have B1:CS a H1 S.A w rows n cs outs:=I.bk.sb s1 (λx hx=>hx ▸ RY hla) λx hx f=>w3 (hx ▸ .inl f)
 have st1:=s1 _ _ hst (AQ hst hla (by intro z;cases z))
 have L1:=s1 _ _ hL (AQ hL hla (by intro z;cases z))
 have go1:=s1 _ _ hgo (AQ hgo hla (by intro z;cases z))
 have he1:=s1 _ _ hhe (AQ hhe hla (by intro z;cases z))
 have to1:=s1 _ _ hto (AQ hto hla (by intro z;cases z))
 have own1:=Paired.mapP own λt c (h:OwnCh S.B H t c)=>h.sb s1 laB tk1
 have heP1:∀ t∈hts,Four S.B H1 t:=λt ht=>(hhP t ht).sb s1 laB tk1
 have toP1:∀ t∈tts,Two S.B H1 t:=λt ht=>(htP t ht).sb s1 laB tk1
 have gc1:∀ c∈cs,GoodV 7 H1 c.val:=λc hc=>(I.gc c hc).keep tk1
 obtain⟨db,eb⟩:=B1.bk.ob
 refine sL (UW H1 S) ⟨Same.refl _,_,_,_,_,_,_,rfl⟩ (λm σ H' _ ⟨s',_⟩=>s' _ _ la1) (λm b k v σ H2 ek eb2 ⟨s2,y2,y3,y4,y5,y6,y7,ez⟩=> ?_) (λσ H2 ⟨s2,y2,y3,y4,y5,y6,y7,ez⟩=> ?_)
 ·subst ez
  obtain⟨i0,j0,rfl⟩:=hvk _ (List.mem_of_getElem? ek)
  have eb2:H2 b=some (.tup [.int i0,.int j0]):=eb2
  have hval:=hv i0 j0
  have hsome:(AW kvl ([.inl i0,.inl j0]:List AR)).isSome=true:=by
   rw[<-HE]
   exact List.any_eq_true.mpr ⟨_,List.mem_of_getElem? ek,by simp⟩
  cases hnw:DG cs i0 j0 with
  | none=>rw[hval,hnw]at hsome;cases hsome
  | some n0 =>
   obtain⟨c,ec,cb,cc⟩:=YU hnw
   have hval:AW kvl [.inl i0,.inl j0]=some (.int (n0:Nat)):=by rw[hval,hnw];rfl
   have dg:∀ {H':Hp},Same H1 H'->H' b=some (.tup [.int i0,.int j0])->DGet H' S.la (.ref b) (some (.int (n0:Nat))):=λs' eb=>.inr ⟨kvl,[.inl i0,.inl j0],b,.inr ⟨o,s' _ _ la1⟩,rfl,eb,hval.symm⟩
   obtain⟨ib,ic⟩:=B1.bk.inn c (List.mem_of_getElem? ec)
   rw[B1.nb]at ib
   have on:F5 rows w i0 j0:=⟨by omega,by omega,by omega,by omega⟩
   obtain⟨tt,htt,pl,nl,ns,c1,c2,c3,_⟩:=EC own1 ec
   push_cast[↓xO]
   refine⟨_,_,s2 _ _ eb,C1 (by decide +kernel),S.A,w,rows,n,cs,outs,b,i0,j0,rfl,T,TP,B1.same s2,eb2,λ_ v' H3 hv' s3=> ?_,λhbad=>absurd on hbad⟩
   have ev:v'=c.val:=by
    unfold OS at hv'
    rw[hnw]at hv'
    simpa [ec]using hv'.symm
   subst ev
   have s13:=s2.trans s3
   refine⟨_,CC (s13 _ _ st1) k1,_,CC (s13 _ _ st1) k2,_,rfl,_,dg s13 (s3 _ _ eb2),B0 (SqL.of (s13 _ _ L1)) (n:=n0) rfl (by rw[List.getElem?_map,htt];rfl) (A7 (s13 _ _ c1) (n:=1) rfl rfl ⟨_,_,rfl,.inl ⟨rfl,((gc1 c (List.mem_of_getElem? ec)).keep s13.tk).up⟩,λH4 s4=>⟨true,rfl,B7 (by decide) ?_⟩⟩)⟩
   have s14:=s13.trans s4
   push_cast[↓xQ]
   refine⟨_,_,s14 _ _ eb,C1 (by decide +kernel),S.A,w,rows,n,cs,outs,b,i0,j0,rfl,T,TP,B1.same s14,s4 _ _ (s3 _ _ eb2),λ_=> ?_,λhbad=>absurd on hbad⟩
   rw[hnw]
   refine⟨_,CC (s14 _ _ st1) k2,_,rfl,_,dg s14 (s4 _ _ (s3 _ _ eb2)),_,_,rfl,.inl ⟨rfl,trivial⟩,λH5 s5=>⟨true,rfl,B7 (by decide) ⟨s14.trans s5,_,_,_,_,_,_,rfl⟩⟩⟩
 ·subst ez
  push_cast[↓xU]
  refine⟨_,CC (s2 _ _ st1) k1,cs.length,.inl ⟨_,SqL.of (s2 _ _ L1),by rw[List.length_map,htl]⟩,by omega,by omega,?_⟩
  refine Q3 (UW H1 S) ⟨s2,_,_,_,_,_,_,rfl⟩ (λk σ H3 hk ⟨s3,y2,y3,y4,y5,y6,y7,ez⟩=> ?_) (λσ H3 ⟨s3,y2,y3,y4,y5,y6,y7,ez⟩=> ?_)
  ·subst ez
   have ec:=List.getElem?_eq_getElem hk
   generalize cs[k]=c at ec
   obtain⟨tt,htt,pl,nl,ns,c1,c2,c3,c4,c5,c6⟩:=EC own1 ec
   push_cast[↓xT]
   refine⟨_,_,s3 _ _ eb,C1 (by decide +kernel),S.A,w,rows,n,cs,outs,_,rfl,T,B1.same s3,λk' c' l H4 ek' ec' hl s4 el=> ?_,λhn=>absurd ⟨by omega,by omega⟩ hn⟩
   have:k'=k:=by omega
   subst this
   rw[ec]at ec'
   cases ec'
   have s14:=s3.trans s4
   refine⟨_,CC (s14 _ _ st1) k1,B0 (SqL.of (s14 _ _ L1)) (n:=k') (by omega) (by rw[List.getElem?_map,htt];rfl) (A7 (s14 _ _ c1) (n:=2) rfl rfl ⟨nl,rfl,ns,SqL.of (s14 _ _ c3),by omega,λa1 o1 D1 ks ha1 hD1 hks hm hkl'=> ?_⟩)⟩
   have eks:ks=c.nd:=gE hks (B1.bk.need k' c ec).2.1 λx=>(hm x).trans (c5 x)
   subst eks
   have s45:=(AU (o:=o1) ha1).trans (AU (o:=.lst (c.nd.map V.int)) hD1)
   exact G7 (s45 _ _ el) AJ ⟨false,rfl,B7 (by decide) ⟨s14.trans s45,_,_,_,_,_,_,rfl⟩⟩
  ·subst ez
   push_cast[↓xX]
   refine⟨_,CC (s3 _ _ st1) k6,_,rfl,.inl ⟨⟨_,SqL.of (s3 _ _ he1)⟩,EV (xs:=hts.map V.ref) (UW H1 S) ⟨s3,_,_,_,_,_,_,rfl⟩ (λm σ H4 _ ⟨s4,_⟩=>SqL.of (s4 _ _ he1)) (λm v σ H4 hx ⟨s4,y2,y3,y4,y5,y6,y7,ez⟩=> ?_) (λσ H4 ⟨s4,y2,y3,y4,y5,y6,y7,ez⟩=> ?_)⟩⟩
   ·subst ez
    obtain⟨t,ht,rfl⟩:=List.mem_map.mp (List.mem_of_getElem? hx)
    obtain⟨l,l',mm,m',xs,hs,ps,f1,f2,f3,f4,f5,f6,_⟩:=heP1 t ht
    push_cast[]
    refine⟨_,SqT.of (s4 _ _ f1),rfl,_,_,rfl,_,_,rfl,_,_,rfl,_,_,rfl,rfl,?_⟩
    push_cast[↓xW]
    have hd:=UV (K:=K) (Paired.mapP f6 λx p (h:H1 x=some (.tup [.int p.1,.int p.2]))=>s4 _ _ h)
    exact G7 (s4 _ _ f2) (s4 _ _ f3) ⟨false,rfl,B7 (by decide) (RM (n:=2) (by decide) (Dat.lst (SqL.of (s4 _ _ f4)) hd) (Dat.lst (SqL.of (s4 _ _ f5)) hd) ⟨false,rfl,B7 (by decide) ⟨s4,_,_,_,_,_,_,rfl⟩⟩)⟩
   ·subst ez
    push_cast[↓xZ]
    refine⟨_,CC (s4 _ _ st1) k7,_,rfl,.inl ⟨⟨_,SqL.of (s4 _ _ to1)⟩,sO (xs:=tts.map V.ref) (small _ (by rw[List.length_map];omega)) (λm σ' ys H'=>H'=H4/\ys=[]/\∃ u0 u1,σ'=[u0,u1]) ⟨rfl,rfl,_,_,rfl⟩ (λm σ' ys H' ⟨e,e2,_⟩=>by rw[e,e2];exact⟨SqL.of (s4 _ _ to1),by simp⟩) (λm v σ' ys H' hm hx ⟨e,e2,u0,u1,ez⟩=> ?_) λσ' ys H' ⟨e,e2,_⟩ l7 hl7=>⟨by decide,λl8 hl8=> ?_⟩⟩⟩
    ·subst e e2 ez
     obtain⟨t,ht,rfl⟩:=List.mem_map.mp (List.mem_of_getElem? hx)
     obtain⟨l,l',xs,f1,f2,f3,_⟩:=toP1 t ht
     push_cast[]
     refine⟨_,SqT.of (s4 _ _ f1),rfl,_,_,rfl,_,_,rfl,rfl,?_⟩
     push_cast[]
     exact G7 (s4 _ _ f2) (s4 _ _ f3) ⟨false,rfl,B7 (by decide) (sN hm rfl)⟩
    ·subst e e2
     have n78:l7≠l8:=AX AJ hl8
     have s78:=(AU (o:=.lst []) hl7).trans (AU (o:=.lst []) hl8)
     refine G7 (l:=[]) (by rw[AH n78];exact AJ) AJ ⟨false,rfl,B7 (by decide) ?_⟩
     revert s78
     generalize upd (upd H' l7 (.lst [])) l8 (.lst [])=H8
     intro s78
     have s18:=s4.trans s78
     exact Em TT' (B1.same s18) (s18 _ _ st1) k1 k3 (s18 _ _ L1) htl (s18 _ _ go1) hg1 (by omega) q
theorem Ev(h:M5 K a vs H Q E):vs.length=2:=by
 obtain⟨_,_,_,_,_,_,_,_,rfl,_⟩:=h
 rfl
theorem Ew(ns:List Int)(k:Int):∃ ms:List Int,GX (ns.map V.int) (some 1) (some k)=ms.map V.int/\ms.length<=ns.length - 1:=by
 unfold GX
 rw[<-List.map_drop,<-List.map_take]
 refine⟨_,rfl,?_⟩
 simp[HT.sIx]
 omega
theorem Ex{trs:List (TE × TE)}{σ:St}:QM trs σ H Q=(∀ p,H p=none->HZ trs σ (upd H p (.dK [])) λps H2=>H2 p=some (.dK [])/\∃ kvs:List (AR × V),ps=kvs.map (λkv=>(kV kv.1,kv.2))/\kvs.length<=15/\Q (.ref p) (upd H2 p (.dK (EA [] kvs)))):=rfl
theorem Ey{σ:St}{QP:List (V × V)->Hp->Prop}:HZ [] σ H QP=QP [] H:=rfl
theorem Ez{σ:St}{QP:List (V × V)->Hp->Prop}{tk tv:TE}{r:List (TE × TE)}:HZ ((tk,tv)::r) σ H QP=tk σ H λx H1=>tv σ H1 λy H2=>HZ r σ H2 λps H3=>QP ((x,y)::ps) H3:=rfl
def Fb(a:Ad)(S:WS)(w m:Nat)(s z r0:Addr)(first:Int)(ms:List Int)(i:Nat)(σ:St)(H':Hp):Prop:=(∃ rows n cs outs j,W22 a H' S w rows n n cs outs i j/\rows.length=m/\H' z=some (.tup [.int m,.int w])/\H' r0=some (.lst (ms.map V.int)))/\∃ y5 y8,σ=[some (.ref s),some (.int first),some (.ref z),some (.ref S.A.gp),some (.ref S.R),y5,some (.ref S.st),some (.ref S.A.b),y8]
theorem Fc{s z p cl R:Addr}{ra:List Addr}{rows:List (List V)}{n w:Nat}{first:Int}{ns:List Int}{x5:Option V}(TT:GL K a)(hs:SqL K H s (ns.map V.int))(hl:ns.length<=63)(ez:H z=some (.tup [.int rows.length,.int w]))(hm:1<=rows.length/\rows.length<=40)(hw:1<=w/\w<=6)(P:PlankAt a H p cl w rows n)(RL:RowsL H R ra rows)(g:good7 H rows)(nR:R≠cl)(nra:∀ x∈ra,x≠cl)(hn:n<=3)(q:∀ H',Q (.bl true) H') :
  AK (O3 K a (λ_=>E) (λ_=>E)) (AK (O4 K a (λ_=>E) (λ_=>E)) (AK (O5 K a (λ_=>E) (λ_=>E)) (AK (O6 K a (λ_=>E) (λ_=>E)) (O7 K a (λ_=>E) (λ_=>E))))) (BB Q) [some (.ref s),some (.int first),some (.ref z),some (.ref p),some (.ref R),x5,none,none,none] H:=by
 have TT':=TT
 obtain⟨T,TP,X⟩:=TT
 obtain⟨dp,ep⟩:=P.ob
 push_cast[↓y0,↓Ex,↓Ez,↓Ey]
 intro st hst
 have s1:=AU (o:=.dK []) hst
 have st1:upd H st (.dK []) st=some (.dK []):=AJ
 revert s1 st1
 generalize upd H st (.dK [])=H1
 intro s1 st1
 refine⟨by decide,λL hL=> ?_⟩
 have s2:=AU (o:=.lst []) hL
 have L2:upd H1 L (.lst []) L=some (.lst []):=AJ
 have fL:=s1.free hL
 have n1:st≠L:=AX st1 hL
 revert s2 L2
 generalize upd H1 L (.lst [])=H2
 intro s2 L2 la hla
 have s3:=AU (o:=.dT []) hla
 have la3:upd H2 la (.dT []) la=some (.dT []):=AJ
 have fla:=(s1.trans s2).free hla
 have n2:st≠la:=AX (s2 _ _ st1) hla
 have n3:L≠la:=AX L2 hla
 revert s3 la3
 generalize upd H2 la (.dT [])=H3
 intro s3 la3 go hgo
 have s4:=AU (o:=.dK []) hgo
 have go4:upd H3 go (.dK []) go=some (.dK []):=AJ
 have s03:=(s1.trans s2).trans s3
 have fgo:=s03.free hgo
 have n4:st≠go:=AX (s3 _ _ (s2 _ _ st1)) hgo
 revert s4 go4
 generalize upd H3 go (.dK [])=H4
 intro s4 go4
 have s04:=s03.trans s4
 refine⟨_,_,s04 _ _ ep,zM _ _ _,p,cl,w,rows,n,rfl,TP,P.same s04,by decide,λhe hhe=> ?_⟩
 have s5:=AU (o:=.lst []) hhe
 have he5:upd H4 he (.lst []) he=some (.lst []):=AJ
 have s05:=s04.trans s5
 have fhe:=s04.free hhe
 have st5:=s5 _ _ (s4 _ _ (s3 _ _ (s2 _ _ st1)))
 have L5:=s5 _ _ (s4 _ _ (s3 _ _ L2))
 have la5:=s5 _ _ (s4 _ _ la3)
 have go5:=s5 _ _ go4
 have n5:st≠he:=AX (s4 _ _ (s3 _ _ (s2 _ _ st1))) hhe
 have n6:L≠he:=AX (s4 _ _ (s3 _ _ L2)) hhe
 revert s5 he5 s05 st5 L5 la5 go5
 generalize upd H4 he (.lst [])=H5
 intro s5 he5 s05 st5 L5 la5 go5
 clear s1 s2 s3 s4 s5 s03 s04 st1 L2 la3 go4 hL hla hgo hhe
 refine⟨st5,[(.inr "changes",.ref L),(.inr "last",.ref la),(.inr "gone",.ref go),(.inr "rows",.ref R),(.inr "many",.int n),(.inr "held",.ref he)],rfl,by simp,?_⟩
 have hk:(EA [] [(.inr "changes",.ref L),(.inr "last",.ref la),(.inr "gone",.ref go),(.inr "rows",.ref R),(.inr "many",.int n),(.inr "held",.ref he)]:List (AR × V)).length<=6:=by
  have:=QL ([(.inr "changes",.ref L),(.inr "last",.ref la),(.inr "gone",.ref go),(.inr "rows",.ref R),(.inr "many",.int n),(.inr "held",.ref he)]:List (AR × V)) []
  simp only[List.length_cons,List.length_nil]at this
  omega
 have hv:AW (EA [] [(.inr "changes",.ref L),(.inr "last",.ref la),(.inr "gone",.ref go),(.inr "rows",.ref R),(.inr "many",.int n),(.inr "held",.ref he)]:List (AR × V)) (.inr "changes")=some (.ref L)/\AW (EA [] [(.inr "changes",.ref L),(.inr "last",.ref la),(.inr "gone",.ref go),(.inr "rows",.ref R),(.inr "many",.int n),(.inr "held",.ref he)]:List (AR × V)) (.inr "last")=some (.ref la)/\AW (EA [] [(.inr "changes",.ref L),(.inr "last",.ref la),(.inr "gone",.ref go),(.inr "rows",.ref R),(.inr "many",.int n),(.inr "held",.ref he)]:List (AR × V)) (.inr "gone")=some (.ref go)/\AW (EA [] [(.inr "changes",.ref L),(.inr "last",.ref la),(.inr "gone",.ref go),(.inr "rows",.ref R),(.inr "many",.int n),(.inr "held",.ref he)]:List (AR × V)) (.inr "rows")=some (.ref R)/\AW (EA [] [(.inr "changes",.ref L),(.inr "last",.ref la),(.inr "gone",.ref go),(.inr "rows",.ref R),(.inr "many",.int n),(.inr "held",.ref he)]:List (AR × V)) (.inr "many")=some (.int n)/\AW (EA [] [(.inr "changes",.ref L),(.inr "last",.ref la),(.inr "gone",.ref go),(.inr "rows",.ref R),(.inr "many",.int n),(.inr "held",.ref he)]:List (AR × V)) (.inr "held")=some (.ref he):=by
  simp only[EA,List.foldl_cons,List.foldl_nil]
  refine⟨?_,?_,?_,?_,?_,?_⟩<;>repeat (rw[EF];first | rw[if_pos rfl] | rw[if_neg (by decide +kernel)])
 revert hk hv
 generalize (EA [] [(.inr "changes",.ref L),(.inr "last",.ref la),(.inr "gone",.ref go),(.inr "rows",.ref R),(.inr "many",.int n),(.inr "held",.ref he)]:List (AR × V))=kv
 intro hk ⟨v1,v2,v3,v4,v5,v6⟩
 have s56:SameBut (· =st) H5 (upd H5 st (.dK kv)):=λy o e ny=>by rw[AH ny];exact e
 have st6:upd H5 st (.dK kv) st=some (.dK kv):=AJ
 revert s56 st6
 generalize upd H5 st (.dK kv)=H6
 intro s56 st6
 push_cast[↓zA]
 refine⟨by decide,λto hto=> ?_⟩
 have s67:=AU (o:=.lst []) hto
 have nst_to:st≠to:=AX st6 hto
 have nLto:L≠to:=AX (s56 _ _ L5 n1.symm) hto
 have nheto:he≠to:=AX (s56 _ _ he5 n5.symm) hto
 have fto:H to=none:=by
  cases e:H to with
  | none=>rfl
  | some o =>
   have:=s56 _ _ (s05 _ _ e) nst_to.symm
   rw[hto]at this;cases this
 refine⟨_,pS (s67 _ _ st6) (by omega),?_⟩
 have s58:SameBut (· =st) H5 (upd (upd H6 to (.lst [])) st (.dK (A5 kv (.inr (Str.ofString "told")) (.ref to)))):=λy o e ny=>by rw[AH ny];exact s67 _ _ (s56 _ _ e ny)
 have st8:upd (upd H6 to (.lst [])) st (.dK (A5 kv (.inr (Str.ofString "told")) (.ref to))) st=some (.dK (A5 kv (.inr (Str.ofString "told")) (.ref to))):=AJ
 have to8:upd (upd H6 to (.lst [])) st (.dK (A5 kv (.inr (Str.ofString "told")) (.ref to))) to=some (.lst []):=by rw[AH nst_to.symm];exact AJ
 revert s58 st8 to8
 generalize upd (upd H6 to (.lst [])) st (.dK (A5 kv (.inr (Str.ofString "told")) (.ref to)))=H8
 intro s58 st8 to8
 have hk8:(A5 kv (.inr (Str.ofString "told")) (.ref to)).length<=7:=by
  have:=FV kv (.inr (Str.ofString "told")) (.ref to)
  omega
 have hv8:AW (A5 kv (.inr (Str.ofString "told")) (.ref to)) (.inr "changes")=some (.ref L)/\AW (A5 kv (.inr (Str.ofString "told")) (.ref to)) (.inr "last")=some (.ref la)/\AW (A5 kv (.inr (Str.ofString "told")) (.ref to)) (.inr "gone")=some (.ref go)/\AW (A5 kv (.inr (Str.ofString "told")) (.ref to)) (.inr "rows")=some (.ref R)/\AW (A5 kv (.inr (Str.ofString "told")) (.ref to)) (.inr "many")=some (.int n)/\AW (A5 kv (.inr (Str.ofString "told")) (.ref to)) (.inr "held")=some (.ref he)/\AW (A5 kv (.inr (Str.ofString "told")) (.ref to)) (.inr "told")=some (.ref to):=by
  refine⟨?_,?_,?_,?_,?_,?_,?_⟩<;>rw[EF]
  ·rw[if_neg (by decide +kernel)];exact v1
  ·rw[if_neg (by decide +kernel)];exact v2
  ·rw[if_neg (by decide +kernel)];exact v3
  ·rw[if_neg (by decide +kernel)];exact v4
  ·rw[if_neg (by decide +kernel)];exact v5
  ·rw[if_neg (by decide +kernel)];exact v6
  ·rw[if_pos rfl]
 revert hk8 hv8 st8
 generalize A5 kv (.inr (Str.ofString "told")) (.ref to)=kv8
 intro st8 hk8 hv8
 have s08:Same H H8:=λy o e=>s58 _ _ (s05 _ _ e) (AX e hst)
 have L8:=s58 _ _ L5 n1.symm
 have la8:=s58 _ _ la5 n2.symm
 have go8:=s58 _ _ go5 n4.symm
 have he8:=s58 _ _ he5 n5.symm
 have P8:=P.same s08
 push_cast[↓zB]
 refine Bm T TP P8 λA H9 eg ec off B9 s9=> ?_
 subst eg
 have lW:∀ {y:Addr} {o:HO},H8 y=some o->y≠cl->(∀ C d f,o≠.ins C d f)->¬ A.W y:=λ{y} {o} e n1 n2 f=>f.elim (λf=>((off _ _ e).resolve_left n1) f) λz=>by
  rw[z,s08 _ _ ep]at e
  exact n2 _ _ _ (Option.some.inj e).symm
 obtain⟨ts,ecl,_⟩:=P.ls
 have ncl:∀ {x:Addr},H x=none->x≠cl:=λe z=>by rw[z,ecl]at e;cases e
 obtain⟨hR,hra,ndr,nRr⟩:=RL
 have rax:∀ x∈ra,∃ r',H x=some (.lst r'):=λx hx=>by
  obtain⟨k,hk⟩:=F3 hx
  obtain⟨r',_,e⟩:=GM hra hk
  exact⟨r',e⟩
 have nH:∀ {x y:Addr} {o:HO},H x=some o->H y=none->x≠y:=λe f=>AX e f
 have Ap:(WS.mk A st L la go R he to ra).Ap:=⟨⟨lW st8 (ncl hst) (by intro _ _ _ z;cases z),lW L8 (ncl fL) (by intro _ _ _ z;cases z),lW la8 (ncl fla) (by intro _ _ _ z;cases z),lW go8 (ncl fgo) (by intro _ _ _ z;cases z),lW (s08 _ _ hR) nR (by intro _ _ _ z;cases z),lW he8 (ncl fhe) (by intro _ _ _ z;cases z),lW to8 (ncl fto) (by intro _ _ _ z;cases z),λx hx=>by
   obtain⟨r',e⟩:=rax x hx
   exact lW (s08 _ _ e) (nra x hx) (by intro _ _ _ z;cases z)⟩,n4,⟨(nH hR fL).symm,n6,nLto,nH hR fhe,nH hR fto,nheto⟩,λx hx=>by
   obtain⟨r',e⟩:=rax x hx
   exact⟨nH e fL,nH e fhe,nH e fto⟩⟩
 have s09:=s08.trans s9
 have I9:W22 a H9 ⟨A,st,L,la,go,R,he,to,ra⟩ w rows n n [] (λ_=>false) 0 0:=⟨B9,⟨kv8,s9 _ _ st8,by omega,hv8⟩,⟨[],s9 _ _ L8,.nil⟩,⟨[],s9 _ _ la8,λ_ _=>rfl,Nat.le_refl _,λ_ h=>by cases h⟩,⟨[],s9 _ _ go8,λ_=>rfl,Nat.le_refl _⟩,⟨s09 _ _ hR,Paired.mapP hra λl r e=>s09 _ _ e,ndr,nRr⟩,⟨[],s9 _ _ he8,Nat.le_refl _,λ_ h=>by cases h⟩,⟨[],s9 _ _ to8,Nat.le_refl _,λ_ h=>by cases h⟩,λk c e=>(by simp at e),λb row _=>rfl,g.keep s09.tk,λc hc=>(by cases hc),Ap,hm.1,hm.2,hw.1,hw.2,Nat.le_refl _,by omega,by omega,by omega,Nat.le_refl _⟩
 push_cast[↓zE]
 refine sY (s09.seq hs) λr0 hr0=> ?_
 obtain⟨ms,ems,hms⟩:=Ew ns 201
 rw[ems]
 have s10:=AU (o:=.lst (ms.map V.int)) hr0
 have e10:upd H9 r0 (.lst (ms.map V.int)) r0=some (.lst (ms.map V.int)):=AJ
 have nB0:¬ (WS.mk A st L la go R he to ra).B r0:=λf=>(I9.there f).1 hr0
 have I10:=I9.same s10
 have z10:=s10 _ _ (s09 _ _ ez)
 revert e10 I10 z10
 generalize upd H9 r0 (.lst (ms.map V.int))=H10
 intro e10 I10 z10
 refine⟨r0,rfl,.inl ⟨⟨_,SqL.of e10⟩,EV (xs:=ms.map V.int) (Fb a ⟨A,st,L,la,go,R,he,to,ra⟩ w rows.length s z r0 first ms) ⟨⟨_,_,_,_,_,I10,rfl,z10,e10⟩,_,_,rfl⟩ (λi σ H' _ ⟨⟨_,_,_,_,_,_,_,_,e⟩,_⟩=>SqL.of e) (λi v σ H' hx ⟨⟨rows1,n1,cs1,outs1,j1,I1,hr1,hz1,e1⟩,y5,y8,eσ⟩=> ?_) (λσ H' ⟨⟨rows1,n1,cs1,outs1,j1,I1,hr1,hz1,e1⟩,y5,y8,eσ⟩=> ?_)⟩⟩
 ·subst eσ
  have hi:=(List.getElem?_eq_some_iff.mp hx).1
  rw[List.length_map]at hi
  obtain⟨cell,_,rfl⟩:=List.mem_map.mp (List.mem_of_getElem? hx)
  push_cast[↓zD]
  refine⟨⟨A,st,L,la,go,R,he,to,ra⟩,w,rows1,n1,cs1,outs1,i,j1,cell,z,rfl,TT',I1,by omega,by rw[hr1];exact hz1,λrows2 n2 cs2 outs2 H2 hr2 I2 s2=>⟨true,rfl,B7 (by decide) ⟨⟨rows2,n2,cs2,outs2,_,I2,by omega,I1.tk s2 _ _ hz1,s2 _ _ e1 nB0⟩,_,_,rfl⟩⟩⟩
 ·subst eσ
  push_cast[↓zF]
  exact⟨⟨A,st,L,la,go,R,he,to,ra⟩,w,rows1,n1,cs1,outs1,_,j1,rfl,TT',I1,q⟩
def BG(a:Ad)(H:Hp)(p cl R z:Addr)(m w k:Nat)(H':Hp):Prop:=Same H H'/\H' z=some (.tup [.int m,.int w])/\∃ (rows:List (List V)) (ra:List Addr),rows.length=m/\PlankAt a H' p cl w rows k/\RowsL H' R ra rows/\good7 H' rows/\∀ x∈ra,x≠cl/\x≠p
theorem Fd{ra:List Addr}{b:Nat}{l:Addr}(nd:ra.Nodup)(nl:l∉ra):(ra.set b l).Nodup:=by
 rw[List.nodup_iff_pairwise_ne]at *
 induction ra generalizing b with
 | nil=>simpa using nd
 | cons x r ih =>
  obtain⟨h1,h2⟩:=List.pairwise_cons.mp nd
  have n1:l≠x:=λe=>nl (e ▸ List.mem_cons_self)
  have n2:l∉r:=λe=>nl (List.mem_cons_of_mem _ e)
  cases b with
  | zero=>exact List.pairwise_cons.mpr ⟨λy hy e=>n2 (e ▸ hy),h2⟩
  | succ b =>
   refine List.pairwise_cons.mpr ⟨λy hy=> ?_,ih h2 n2⟩
   rcases List.mem_or_eq_of_mem_set hy with hy | hy
   ·exact h1 y hy
   ·exact λe=>n1 (by rw[e,hy])
theorem Fg(h:R6 K a vs H Q E):UP K a (λ_=>E) (BB Q) (BD ["script","first","size","plank","rows","k","state","hold","cell"] vs) H:=by
 obtain⟨s,ns,rfl,TT,hs,hl,q⟩:=h
 have TT':=TT
 obtain⟨T,TP,X⟩:=TT
 push_cast[UP,↓yR,↓yS,↓DQ,↓tN]
 refine⟨ns,0,rfl,hs,by omega,by decide,λz0 hz0=> ?_⟩
 generalize IL ns 0=first
 have p1:=D0 (c:=first) (p:=10141) (m:=8) (by decide)
 have p2:=EW (c:=first) (p:=10141) (m:=8) (by decide)
 have p3:=D0 (c:=first) (p:=10151) (m:=6) (by decide)
 have p4:=EW (c:=first) (p:=10151) (m:=6) (by decide)
 obtain⟨m0,em⟩:∃ m0:Nat,1+CQ first 10141 8=m0:=⟨(1+CQ first 10141 8).toNat,by omega⟩
 obtain⟨w,ew⟩:∃ w:Nat,1+CQ first 10151 6=w:=⟨(1+CQ first 10151 6).toNat,by omega⟩
 rw[em,ew]
 have hw:1<=w/\w<=6:=by omega
 have s0:=AU (o:=.tup [.int m0,.int w]) hz0
 have e0:upd H z0 (.tup [.int m0,.int w]) z0=some (.tup [.int m0,.int w]):=AJ
 revert s0 e0
 generalize upd H z0 (.tup [.int m0,.int w])=H0
 intro s0 e0
 have main:∀ {z:Addr} {m:Nat} {H1:Hp},Same H H1->H1 z=some (.tup [.int m,.int w])->1<=m->m<=40->AK (UM K a (λ_=>E) (λ_=>E)) (AK (UN K a (λ_=>E) (λ_=>E)) (AK (UO K a (λ_=>E) (λ_=>E)) (AK (O3 K a (λ_=>E) (λ_=>E)) (AK (O4 K a (λ_=>E) (λ_=>E)) (AK (O5 K a (λ_=>E) (λ_=>E)) (AK (O6 K a (λ_=>E) (λ_=>E)) (O7 K a (λ_=>E) (λ_=>E)))))))) (BB Q) [some (.ref s),some (.int first),some (.ref z),none,none,none,none,none,none] H1:=λ{z m H1} s1 ez hm1 hm2=>by
  push_cast[↓yV]
  refine A7 ez (n:=0) rfl rfl (A7 ez (n:=1) rfl rfl ?_)
  refine Bl (m0:=m) (w:=w) TP (by omega) hw.1 (by omega) λp cl H2 hp hcl P2 s2=> ?_
  push_cast[↓yW]
  refine A7 (s2 _ _ ez) (n:=0) rfl rfl ?_
  push_cast[]
  refine⟨by omega,by omega,?_⟩
  refine MC (small m (by omega)) (λi ys H'=>Same H2 H'/\∃ rs:List Addr,ys=rs.map V.ref/\rs.Nodup/\Paired (λl r=>H' l=some (.lst r)/\H2 l=none) rs (List.replicate i (List.replicate w .non))) ⟨Same.refl _,[],rfl,List.nodup_nil,.nil⟩ (λi ys H' hi hli ⟨s3,rs,e,nd,P⟩=> ?_) (λys H3 hli ⟨s3,rs,e,nd,Pr⟩ R hR=> ?_)
  ·push_cast[DX]
   refine A7 (s3 _ _ (s2 _ _ ez)) (n:=1) rfl rfl ?_
   push_cast[]
   refine⟨by omega,by omega,pM (small w (by omega)) (λ_=>V.non) (λj hj Q' q'=>q') λu hu=> ?_⟩
   have er:(List.range w).map (λ_=>V.non)=List.replicate w V.non:=by
    rw[List.map_const',List.length_range]
   rw[er]
   have su:=AU (o:=.lst (List.replicate w V.non)) hu
   refine⟨s3.trans su,rs++[u],by rw[e,List.map_append];rfl,?_,?_⟩
   ·rw[List.nodup_append]
    refine⟨nd,by simp,λx hx y hy=> ?_⟩
    rw[List.mem_singleton.mp hy]
    obtain⟨k,ek⟩:=F3 hx
    obtain⟨r',_,hx'⟩:=GM P ek
    exact AX hx'.1 hu
   ·rw[List.replicate_succ']
    exact Paired.snoc (Paired.mapP P λt r z=>⟨su _ _ z.1,z.2⟩) ⟨AJ,s3.free hu⟩
  subst e
  have sR:=AU (o:=.lst (rs.map V.ref)) hR
  obtain⟨ts,ecl,_⟩:=P2.ls
  obtain⟨dp,ep⟩:=P2.ob
  have npc:p≠cl:=P2.ne
  have nRc:R≠cl:=(AX (s3 _ _ ecl) hR).symm
  have nRp:R≠p:=(AX (s3 _ _ ep) hR).symm
  have hp1:H p=none:=s1.free hp
  have hcl1:H cl=none:=s1.free hcl
  have hR1:H R=none:=((s1.trans s2).trans s3).free hR
  have b0:BG a H p cl R z m w 0 (upd H3 R (.lst (rs.map V.ref))):=by
   refine⟨((s1.trans s2).trans s3).trans sR,sR _ _ (s3 _ _ (s2 _ _ ez)),_,rs,List.length_replicate,(P2.same s3).same sR,⟨AJ,Paired.mapP Pr λl r' z=>sR _ _ z.1,nd,λhm=> ?_⟩,λr' hr' v hv=> ?_,λx hx=> ?_⟩
   ·obtain⟨k,ek⟩:=F3 hm
    obtain⟨r',_,hx'⟩:=GM Pr ek
    rw[hR]at hx'
    cases hx'.1
   ·rw[List.eq_of_mem_replicate hr']at hv
    rw[List.eq_of_mem_replicate hv]
    trivial
   ·obtain⟨k,ek⟩:=F3 hx
    obtain⟨r',_,hx'⟩:=GM Pr ek
    exact⟨λe=>(by rw[e,ecl]at hx';cases hx'.2),λe=>(by rw[e,ep]at hx';cases hx'.2)⟩
  revert b0
  generalize upd H3 R (.lst (rs.map V.ref))=H4
  intro b0
  clear sR
  push_cast[↓yZ,↓DQ]
  have q0:=D0 (c:=first) (p:=10159) (m:=3) (by decide)
  have q1:=EW (c:=first) (p:=10159) (m:=3) (by decide)
  refine⟨by omega,by omega,?_⟩
  refine Q3 (λi σ H'=>BG a H p cl R z m w i H'/\∃ y,σ=[some (.ref s),some (.int first),some (.ref z),some (.ref p),some (.ref R),y,none,none,none]) ⟨b0,_,rfl⟩ (λi σ H5 hi ⟨b,y,eσ⟩=> ?_) (λσ H5 ⟨b,y,eσ⟩=> ?_)
  ·subst eσ
   obtain⟨s5,hz5,rows,ra,hl5,P5,⟨hR5,hra5,nd5,nR5⟩,g5,nra5⟩:=b
   push_cast[↓yX]
   refine A7 hz5 (n:=1) rfl rfl ?_
   push_cast[]
   refine⟨by omega,by omega,?_⟩
   refine MC (small w (by omega)) (λi ys H'=>Same H5 H'/\∀ v∈ys,GoodV 7 H' v) ⟨Same.refl _,by simp⟩ (λj ys H' hj _ ⟨s,gy⟩=> ?_) (λys H6 hlen6 ⟨s6,gy⟩ l hl6=> ?_)
   ·push_cast[DX,Option.join_some,Int.zero_add]
    refine⟨.inl ⟨by omega,by omega⟩,_,rfl,λv H2 s2 gv=>⟨s.trans s2,λu hu=> ?_⟩⟩
    rcases List.mem_append.mp hu with hu | hu
    ·exact(gy u hu).keep s2.tk
    ·rw[List.mem_singleton.mp hu];exact gv
   have sl:=AU (o:=.lst ys) hl6
   have el:upd H6 l (.lst ys) l=some (.lst ys):=AJ
   have s07:=(s5.trans s6).trans sl
   have gy7:∀ v∈ys,GoodV 7 (upd H6 l (.lst ys)) v:=λv hv=>(gy v hv).keep sl.tk
   have fl:H l=none:=(s5.trans s6).free hl6
   have nlR:l≠R:=λe=>by rw[e,s6 _ _ hR5]at hl6;cases hl6
   have nlra:l∉ra:=λe=>by
    obtain⟨k,ek⟩:=F3 e
    obtain⟨r',_,hx'⟩:=GM hra5 ek
    rw[s6 _ _ hx']at hl6;cases hl6
   have s57:=s6.trans sl
   have P7:=P5.same s57
   revert sl el s07 gy7 s57 P7
   generalize upd H6 l (.lst ys)=H7
   intro sl el s07 gy7 s57 P7
   clear sl
   obtain⟨ts7,ec7,_⟩:=P7.ls
   obtain⟨dp7,ep7⟩:=P7.ob
   have hra7:=Paired.mapP hra5 λx r (e:H5 x=some (.lst r))=>s57 _ _ e
   obtain⟨b,eb,hb⟩:∃ b:Nat,(0+(i:Int)) % m=b/\b<m:=⟨((0+(i:Int)) % m).toNat,by have:=Int.emod_nonneg (0+(i:Int)) (b:=(m:Int)) (by omega);omega,by have:=Int.emod_nonneg (0+(i:Int)) (b:=(m:Int)) (by omega);have:=Int.emod_lt_of_pos (0+(i:Int)) (b:=(m:Int)) (by omega);omega⟩
   have hral:ra.length=m:=by rw[hra5.length,hl5]
   refine A7 (s57 _ _ hz5) (n:=0) rfl rfl ⟨_,_,rfl,rfl,show(0:Int)<m by omega,?_⟩
   dsimp only
   rw[eb]
   refine⟨R,_,_,b,rfl,rfl,s57 _ _ hR5,f9 (by rw[List.length_map,hral];exact hb),?_⟩
   have eset:(ra.map V.ref).set b (V.ref l)=(ra.set b l).map V.ref:=by rw[List.map_set]
   rw[eset]
   have s8:SameBut (· =R) H7 (upd H7 R (.lst ((ra.set b l).map V.ref))):=λy o e n=>by rw[AH n];exact e
   have R8:upd H7 R (.lst ((ra.set b l).map V.ref)) R=some (.lst ((ra.set b l).map V.ref)):=AJ
   revert s8 R8
   generalize upd H7 R (.lst ((ra.set b l).map V.ref))=H8
   intro s8 R8
   have l8:=s8 _ _ el nlR
   have P8:PlankAt a H8 p cl w rows i:=P7.sbL s8 (λx hx=>hx ▸ F4 (s57 _ _ hR5)) nRc.symm
   have ep8:=s8 _ _ ep7 nRp.symm
   have z8:=s8 _ _ (s57 _ _ hz5) (AQ hz5 hR5 (by intro z;cases z))
   push_cast[↓yY]
   refine⟨_,_,ep8,fS _ _ _,A7 z8 (n:=0) rfl rfl ⟨_,_,rfl,rfl,show(0:Int)<m by omega,?_⟩⟩
   dsimp only
   rw[eb]
   refine A7 z8 (n:=0) rfl rfl ⟨_,_,rfl,rfl,show(0:Int)<m by omega,?_⟩
   dsimp only
   rw[eb]
   refine B0 (SqL.of R8) (n:=b) rfl (by rw[List.getElem?_map,List.getElem?_set_self (by omega)];rfl) ?_
   push_cast[]
   refine⟨_,.inl (SqL.of l8),λl2 hl2=> ?_⟩
   have s9:=AU (o:=.lst ys) hl2
   have el2:upd H8 l2 (.lst ys) l2=some (.lst ys):=AJ
   revert s9 el2
   generalize upd H8 l2 (.lst ys)=H9
   intro s9 el2
   refine⟨p,cl,w,rows,i,(b:Int),l2,ys,rfl,TP,P8.same s9,SqL.of el2,by omega,λb' eb' hb' hyl Ha Pa sa=> ?_,λz=>by omega⟩
   obtain rfl:b=b':=by omega
   have k9:∀ {y:Addr} {o:HO},H7 y=some o->y≠R->y≠p->y≠cl->Ha y=some o:=λe n1 n2 n3=>sa _ _ (s9 _ _ (s8 _ _ e n1)) λz=>z.elim n2 n3
   have tk:EL H7 Ha:=λy xs e=>k9 e (AQ e (s57 _ _ hR5) (by intro z;cases z)) (AQ e ep7 (by intro z;cases z)) (AQ e ec7 (by intro z;cases z))
   have nlp:l≠p:=AQ el ep7 (by intro z;cases z)
   obtain⟨ts5,ec5,_⟩:=P5.ls
   have nlc:l≠cl:=λe=>by rw[e,s6 _ _ ec5]at hl6;cases hl6
   refine⟨λy o e=>k9 (s07 _ _ e) (AX e hR1) (AX e hp1) (AX e hcl1),tk _ _ (s57 _ _ hz5),rows.set b ys,ra.set b l,by rw[List.length_set];exact hl5,Pa,⟨sa _ _ (s9 _ _ R8) λz=>z.elim nRp nRc,?_,Fd nd5 nlra,λhm=> ?_⟩,λr' hr' v hv=> ?_,λx hx=> ?_⟩
   ·exact Q4 (F:=λl r=>Ha l=some (.lst r)) (k9 el nlR nlp nlc) b (PB hra7 λx r hx e=>k9 e (λz=>nR5 (z ▸ hx)) (nra5 x hx).2 (nra5 x hx).1)
   ·rcases List.mem_or_eq_of_mem_set hm with hm | hm
    ·exact nR5 hm
    ·exact nlR hm.symm
   ·rcases List.mem_or_eq_of_mem_set hr' with z | z
    ·exact((g5 r' z v hv).keep s57.tk).keep tk
    ·subst z
     exact(gy7 v hv).keep tk
   ·rcases List.mem_or_eq_of_mem_set hx with z | z
    ·exact nra5 x z
    ·rw[z];exact⟨nlc,nlp⟩
  ·subst eσ
   obtain⟨s5,hz5,rows,ra,hl5,P5,RL5,g5,nra5⟩:=b
   refine Fc TT' (s5.seq hs) hl (by rw[hl5];exact hz5) (by omega) hw P5 RL5 g5 nRc (λx hx=>(nra5 x hx).1) (by omega) q
 push_cast[↓yU,↓DQ]
 by_cases h5:CQ first 10163 8=5
 ·refine EZ h5 ?_
  push_cast[↓yT]
  refine A7 e0 (n:=1) rfl rfl ⟨by decide,λz2 hz2=> ?_⟩
  exact main (m:=40) (s0.trans (AU hz2)) AJ (by omega) (by omega)
 ·exact B7 h5 (main s0 e0 (by omega) (by omega))
theorem Fh(h:R6 K a vs H Q E):vs.length=1:=by
 obtain⟨_,_,rfl,_⟩:=h
 rfl
end
end L2
namespace L2
def BV(i:Nat):Stmt:=PySem.Challenge.pw_holdback_k22_whole_a_cut_is_shown.main.body.getD i (.Pass ⟨0,0,0,0⟩)
structure Txt(K:W.Frag)(mg:Str->Option Value)(a:Ad):Prop where
 Lx:Cls K (a "Change")
 CW:Cls K (a "Hold")
 EM:Cls K (a "Plank")
 Mq:mg "Book"=some (.ref (a "Book"))
 Ly:GV mg "Book" (.ref (a "Book"))
 Md:mg "HoldError"=some (.ref (a "HoldError"))
 Mp:GV mg "HoldError" (.ref (a "HoldError"))
 Mw:Exc K (a "HoldError")
 U9:mg "NoBlock"=some (.ref (a "NoBlock"))
 Lz:GV mg "NoBlock" (.ref (a "NoBlock"))
 VA:Exc K (a "NoBlock")
 Mg:mg "NoChange"=some (.ref (a "NoChange"))
 Mb:GV mg "NoChange" (.ref (a "NoChange"))
 Mh:Exc K (a "NoChange")
 Mv:mg "NoRoom"=some (.ref (a "NoRoom"))
 Mc:GV mg "NoRoom" (.ref (a "NoRoom"))
 Mx:Exc K (a "NoRoom")
 Lk:mg "ValueError"=none
 Ll:mg "bool"=none
 Lm:mg "dict"=none
 gK:mg "int"=none
 ED:mg "isinstance"=none
 DH:mg "len"=none
 E4:mg "list"=none
 Lp:mg "max"=none
 Lq:mg "min"=none
 FM:mg "range"=none
 Lv:mg "reversed"=none
 PN:mg "set"=none
 JC:mg "sorted"=none
 gL:mg "str"=none
 F8:mg "tuple"=none
 Lw:mg "zip"=none
section
variable(P:Program)(w:World){K:W.Frag}{mg:Str->Option Value}(base:Heap){a:Ad}{f:Addr}{fd:FuncData}
seal wpAny
abbrev KN:Stmt:=DA (BV 7) 0
theorem Fj:FnScope ["self","place","value","needs"] ["self","place","value","needs"] (AT KN):=.go
theorem Fk(T:Txt K mg a)(F:Fun K "__init__" "Change.__init__" KN f fd)  :
  FP P w K mg base 1 f fd ["self","place","value","needs"] (MK K a) :=
 F.okF (R7 K a) Fj Ab zZ λ_ _ _ _ _ E hr hx=>(AM (FR (AB 0) (AB 1) rfl)
   (AM (FR (AB 0) (AB 2) rfl)
   (AN (FR (AB 0) (AB 3) rfl))))
abbrev IT:Stmt:=DA (BV 8) 4
theorem Fl:FnScope ["self"] ["self"] (AT IT):=.go
theorem Fm(T:Txt K mg a)(F:Fun K "waiting" "Book.waiting" IT f fd)  :
  FP P w K mg base 1 f fd ["self"] (F6 K a) :=
 F.okF (R9 K a) Fl Ay Ax λ_ _ _ _ _ E hr hx=>(AN (A1 (FX (tn:=["number"]) (cn:=["self"]) (cap:=[0]) (EI (outer:=AT IT) (N:=["self"]) rfl rfl (by decide +kernel)) rfl (E8 rfl T.FM (AD (BQ DF rfl T.DH (by rfl) (AD (BT (AB 0) rfl) AG)) AG)) (λ_ _ _ _ _ _=>(DT (i:=0) (show(["number","self"]:List Str).Nodup from by decide +kernel) rfl (Or.inl rfl))) (λ_ _ _ _ _ _=>(G0 (D7 (GC (A3 hr) (AB 0) (BT (AB 1) rfl)) (by with_unfolding_all rfl)))) (λ_ _ _ _ _ _=>(AB 0)))))
abbrev KO:Stmt:=DA (BV 8) 10
theorem gG:FnScope ["self","numbers","number"] ["self","numbers"] (AT KO):=.go
theorem Fp(T:Txt K mg a)(F:Fun K "ask_for_changes" "Book.ask_for_changes" KO f fd)  :
  FP P w K mg base 1 f fd ["self","numbers"] (G6 K a) :=
 F.okF (SA K a) gG Aw Av λ_ _ _ _ _ E hr hx=>(AN (C8 hx.po rfl (DD (AB 1)) (CK 2 gG.nd) (AN (BH (CY (NL N3 JR AL (AB 2) (BQ DF rfl T.DH (by rfl) (AD (BT (AB 0) rfl) AG)))) (AN (NY hx T.Mh rfl T.Mg (AD BE AG))) BN))))
abbrev KP:Stmt:=BV 9
theorem Fq:FnScope ["needs","ahead"] ["needs","ahead"] (AT KP):=.go
theorem Fv(T:Txt K mg a)(F:Fun K "needs_with" "needs_with" KP f fd)  :
  FP P w K mg base 1 f fd ["needs","ahead"] (ML K a) :=
 F.okF (OT K a) Fq Aj Ah λ_ _ _ _ _ E hr hx=>(AM (BH (CH LW (AB 1) F9 (BR _)) (AN (A1 (DC IC rfl T.F8 (by rfl) (AD (OF rfl rfl T.JC rfl T.PN (AB 0)) AG)))) BN)
   (AN (A1 (DC IC rfl T.F8 (by rfl) (AD (OF rfl rfl T.JC rfl T.PN (BI DW (DC GG rfl T.E4 (by rfl) (AD (AB 0) AG)) (DB (AD (AB 1) AG)))) AG)))))
abbrev KQ:Stmt:=DA (BV 11) 2
theorem gH:FnScope ["self","number","gone","need"] ["self","number","gone"] (AT KQ):=.go
theorem Fw(T:Txt K mg a)(F:Fun K "lack_of" "Hold.lack_of" KQ f fd)  :
  FP P w K mg base 1 f fd ["self","number","gone"] (MP K a) :=
 F.okF (SG K a) gH Bq Bp λ_ _ _ _ _ E hr hx=>(AM (C8 hx.po rfl (DD (BT (AY AZ (BT (AB 0) rfl) (AB 1) (λ_ _=>rfl)) rfl)) (CK 3 gH.nd) (AN (BH (PW.pt (NE (D7 (GC (A3 hr) (AB 3) (BT (AB 0) rfl)) (by with_unfolding_all rfl)) (ND (D7 (GC (A3 hr) (AB 3) (AB 2)) (by with_unfolding_all rfl))))) (AN (A1 (AB 3))) BN)))
   (AN (A1 F9)))
abbrev KR:Stmt:=DA (BV 11) 3
theorem UX:FnScope ["self","values","block","laid","number"] ["self","values","block"] (AT KR):=.go
theorem Fx(T:Txt K mg a)(F:Fun K "laid_over" "Hold.laid_over" KR f fd)  :
  FP P w K mg base 1 f fd ["self","values","block"] (MR K a) :=
 F.okF (SM K a) UX Bz By λ_ _ _ _ _ E hr hx=>(AM (BZ 3 UX.nd (DC GG rfl T.E4 (by rfl) (AD (AB 1) AG)))
   (AM (C8 hx.po rfl (DD (AY AZ (BT (AB 0) rfl) (AB 2) (λ_ _=>rfl))) (CK 4 UX.nd) (AN (BH (D7 (LY (A3 hr) (AB 4) (BT (AB 0) rfl)) (by with_unfolding_all rfl)) (AN (LS (BT (AY AZ (BT (AB 0) rfl) (AB 4) (λ_ _=>rfl)) rfl) (NH (AB 3) (AY AZ (BT (AY AZ (BT (AB 0) rfl) (AB 4) (λ_ _=>rfl)) rfl) AL (λ_ _=>rfl)) N5))) BN)))
   (AN (A1 (AB 3)))))
abbrev IU:Stmt:=DA (BV 13) 0
theorem Fy:FnScope ["self","blocks","cells"] ["self","blocks","cells"] (AT IU):=.go
theorem Fz(T:Txt K mg a)(F:Fun K "__init__" "Plank.__init__" IU f fd)  :
  FP P w K mg base 1 f fd ["self","blocks","cells"] (JV K a) :=
 F.okF (SN K a) Fy zN zG λ_ _ _ _ _ E hr hx=>(AM (FR (AB 0) (FX (tn:=["block"]) (cn:=["cells"]) (cap:=[2]) (EI (outer:=AT IU) (N:=["self","blocks","cells"]) rfl rfl (by decide +kernel)) rfl (E8 rfl T.FM (AD (AB 1) AG)) (λ_ _ _ _ _ _=>(DT (i:=0) (show(["block","cells"]:List Str).Nodup from by decide +kernel) rfl (Or.inl rfl))) (λ_ _ _ _ _ _=>L4) (λ_ _ _ _ _ _=>(BI HI (D3 (AD F9 AG)) (AB 1)))) rfl)
   (AM (FR (AB 0) (AB 2) rfl)
   (AN (FR (AB 0) AL rfl))))
abbrev KS:Stmt:=DA (BV 13) 1
theorem Gb:FnScope ["self"] ["self"] (AT KS):=.go
theorem Gc(T:Txt K mg a)(F:Fun K "blocks" "Plank.blocks" KS f fd)  :
  FP P w K mg base 1 f fd ["self"] (IG K a) :=
 F.okF (SO K a) Gb zO zH λ_ _ _ _ _ E hr hx=>(AN (A1 (BQ DF rfl T.DH (by rfl) (AD (BT (AB 0) rfl) AG))))
abbrev KU:Stmt:=DA (BV 13) 2
theorem Gd:FnScope ["self"] ["self"] (AT KU):=.go
theorem Gg(T:Txt K mg a)(F:Fun K "cells" "Plank.cells" KU f fd)  :
  FP P w K mg base 1 f fd ["self"] (MF K a) :=
 F.okF (SQ K a) Gd zP zI λ_ _ _ _ _ E hr hx=>(AN (A1 (BT (AB 0) rfl)))
abbrev KW:Stmt:=DA (BV 13) 3
theorem Gh:FnScope ["self"] ["self"] (AT KW):=.go
theorem Gj(T:Txt K mg a)(F:Fun K "writings" "Plank.writings" KW f fd)  :
  FP P w K mg base 1 f fd ["self"] (IH K a) :=
 F.okF (SR K a) Gh zU zT λ_ _ _ _ _ E hr hx=>(AN (A1 (BT (AB 0) rfl)))
abbrev KY:Stmt:=DA (BV 13) 6
theorem Gk:FnScope ["self","block"] ["self","block"] (AT KY):=.go
theorem Gm(T:Txt K mg a)(F:Fun K "ask_for_block" "Plank.ask_for_block" KY f fd)  :
  FP P w K mg base 1 f fd ["self","block"] (G2 K a) :=
 F.okF (SS K a) Gk zQ zJ λ_ _ _ _ _ E hr hx=>(AN (BH (CY (NL N3 JR AL (AB 1) (BQ DF rfl T.DH (by rfl) (AD (BT (AB 0) rfl) AG)))) (AN (NY hx T.VA rfl T.U9 (AD BE AG))) BN))
abbrev KZ:Stmt:=BV 15
theorem Gp:FnScope ["script","k"] ["script","k"] (AT KZ):=.go
theorem Gq(T:Txt K mg a)(F:Fun K "_law_cell_at" "_law_cell_at" KZ f fd)  :
  FP P w K mg base 1 f fd ["script","k"] (IM K a) :=
 F.okF (ST K a) Gp zY zW λ_ _ _ _ _ E hr hx=>(AM (BH (CH JR (AB 1) (BQ DF rfl T.DH (by rfl) (AD (AB 0) AG)) (BR _)) (AN (A1 (AY AZ (AB 0) (AB 1) (λ_ _=>rfl)))) BN)
   (AN (A1 AL)))
abbrev K0:Stmt:=BV 16
theorem gI:FnScope ["cell","prime","many","low"] ["cell","prime","many"] (AT K0):=.go
theorem Gv(T:Txt K mg a)(F:Fun K "_law_pick" "_law_pick" K0 f fd)  :
  FP P w K mg base 1 f fd ["cell","prime","many"] (CD K a) :=
 F.okF (SU K a) gI zX zV λ_ _ _ _ _ E hr hx=>(AM (BZ 3 gI.nd (BI GB (BI DW (AB 0) (BI iK (AB 1) AL)) (AB 1)))
   (AN (A1 (BI GB (BI GB (BI HI (BI GB (BI HI (AB 3) (AB 3)) (AB 1)) (AB 3)) (AB 1)) (AB 2)))))
abbrev K1:Stmt:=BV 17
theorem Gw:FnScope ["found"] ["found"] (AT K1):=.go
theorem Gx(T:Txt K mg a)(F:Fun K "_law_whole" "_law_whole" K1 f fd)  :
  FP P w K mg base 1 f fd ["found"] (EX K a) :=
 F.okF (SV K a) Gw Cm Cl λ_ _ _ _ _ E hr hx=>(AN (A1 (GS (BQ EB rfl T.ED (by rfl) (AD (AB 0) (AD (E6 rfl T.gK (by rfl) rfl) AG))) (HR (XB (BQ EB rfl T.ED (by rfl) (AD (AB 0) (AD (E6 rfl T.Ll (by rfl) rfl) AG))))))))
abbrev HL:Stmt:=BV 24
theorem K2:FnScope ["told","changes","gone","number","lack","lacking"] ["told","changes","gone"] (AT HL):=.go
theorem Gy(T:Txt K mg a)(F:Fun K "_law_cut" "_law_cut" HL f fd)  :
  FP P w K mg base 1 f fd ["told","changes","gone"] (MY K a) :=
 F.okF (SW K a) K2 Dw Dv λ_ _ _ _ _ E hr hx=>(AM (C8 hx.po rfl (DD (AY AZ (AB 0) AL (λ_ _=>rfl))) (CK 3 K2.nd) (AN (GY (A3 hr) (AB 2) (AB 3) CF rfl)))
   (AM (C8 hx.po rfl (DD (AY AZ (AB 0) AL (λ_ _=>rfl))) (CK 3 K2.nd) (AN (BH (CH (DV hr.units) (FX (tn:=["other"]) (cn:=["gone"]) (cap:=[2]) (EI (outer:=AT HL) (N:=["told","changes","gone","number","lack","lacking"]) rfl rfl (by decide +kernel)) rfl (DD (AY AZ (AY AZ (AB 1) (AB 3) (λ_ _=>rfl)) AL (λ_ _=>rfl))) (λ_ _ _ _ _ _=>(DT (i:=0) (show(["other","gone"]:List Str).Nodup from by decide +kernel) rfl (Or.inl rfl))) (λ_ _ _ _ _ _=>(G0 (D7 (GC (A3 hr) (AB 0) (AB 1)) (by with_unfolding_all rfl)))) (λ_ _ _ _ _ _=>(AB 0))) (DB AG) (BR _)) (AN (A1 CF)) BN)))
   (AM (C8 hx.po rfl (DD (AY AZ (AB 0) AL (λ_ _=>rfl))) (LR rfl (EO (CK 3 K2.nd) (EO (CK 4 K2.nd) LQ))) (AM (QT (i:=5) (tn:=["other"]) (cn:=["gone"]) (cap:=[2]) (EI (outer:=AT HL) (N:=["told","changes","gone","number","lack","lacking"]) rfl rfl (by decide +kernel)) rfl K2.nd rfl rfl (DD (AY AZ (AY AZ (AB 1) (AB 3) (λ_ _=>rfl)) AL (λ_ _=>rfl))) (λ_ _ _ _ _ _=>(DT (i:=0) (show(["other","gone"]:List Str).Nodup from by decide +kernel) rfl (Or.inl rfl))) (λ_ _ _ _ _ _=>(G0 (D7 (GC (A3 hr) (AB 0) (AB 1)) (by with_unfolding_all rfl)))) (λ_ _ _ _ _ _=>(AB 0)))
   (AN (BH (PW.pt (FN (CH (EH hr.units) (AB 5) (DB AG) (BR _)) (HQ (CH (DV hr.units) (BQ (rZ rfl) rfl T.Lq (by rfl) (AD (AB 5) AG)) (AB 4) (BR _))))) (AN (A1 CF)) BN))))
   (AN (A1 CF)))))
abbrev IV:Stmt:=DA (BV 8) 0
theorem Gz:FnScope ["self","plank"] ["self","plank"] (AT IV):=.go
theorem Hb(T:Txt K mg a)(F:Fun K "__init__" "Book.__init__" IV f fd)(U6:BY P w K mg base (a "Plank") 1 "blocks" ["self"] (IG K a)) :
  FP P w K mg base 2 f fd ["self","plank"] (JZ K a) :=
 F.okF (SX K a) Gz Ag Ac λ_ _ _ _ _ E hr hx=>(AM (FR (AB 0) (AB 1) rfl)
   (AM (FR (AB 0) (DB AG) rfl)
   (AM (FR (AB 0) (FX (tn:=["block"]) (cn:=[]) (cap:=[]) (EI (outer:=AT IV) (N:=["self","plank"]) rfl rfl (by decide +kernel)) rfl (E8 rfl T.FM (AD (GE (AB 1) T.EM U6 hr.m hx.passes) AG)) (λ_ _ _ _ _ _=>(DT (i:=0) (show(["block"]:List Str).Nodup from by decide +kernel) rfl (Or.inl rfl))) (λ_ _ _ _ _ _=>L4) (λ_ _ _ _ _ _=>(DB AG))) rfl)
   (AM (FR (AB 0) WR rfl)
   (AN (FR (AB 0) NV rfl))))))
abbrev K3:Stmt:=DA (BV 8) 5
theorem Hc:FnScope ["self","number"] ["self","number"] (AT K3):=.go
theorem Hd(T:Txt K mg a)(F:Fun K "needed" "Book.needed" K3 f fd)(M9:BY P w K mg base (a "Hold") 1 "ask_for_changes" ["self","numbers"] (G6 K a)) :
  FP P w K mg base 2 f fd ["self","number"] (IQ K a) :=
 F.okF (SY K a) Hc Ck Cj λ_ _ _ _ _ E hr hx=>(AM (CZ (CO (AB 0) T.CW M9 hr.m hx.passes (AD (DB (AD (AB 1) AG)) AG)))
   (AN (A1 (DC GG rfl T.E4 (by rfl) (AD (BT (AY AZ (BT (AB 0) rfl) (AB 1) (λ_ _=>rfl)) rfl) AG)))))
abbrev IW:Stmt:=DA (BV 8) 6
theorem M8:FnScope ["self","numbers","found","number","need"] ["self","numbers"] (AT IW):=.go
theorem Hg(T:Txt K mg a)(F:Fun K "closure" "Book.closure" IW f fd)(M9:BY P w K mg base (a "Hold") 1 "ask_for_changes" ["self","numbers"] (G6 K a))(JA:BY P w K mg base (a "Hold") 1 "waiting" ["self"] (F6 K a)) :
  FP P w K mg base 2 f fd ["self","numbers"] (MO K a) :=
 F.okF (SZ K a) M8 Bj Bh λ_ _ _ _ _ E hr hx=>(AM (CZ (CO (AB 0) T.CW M9 hr.m hx.passes (AD (AB 1) AG)))
   (AM (LT (i:=2) M8.nd rfl (Or.inr rfl) NV)
   (AM (C8 hx.po rfl (DD (AB 1)) (CK 3 M8.nd) (AN (GY (A3 hr) (AB 2) (AB 3) CF rfl)))
   (AM (C8 hx.po rfl (rJ rfl T.Lv (AD (GE (AB 0) T.CW JA hr.m hx.passes) AG)) (CK 3 M8.nd) (AN (BH (D7 (LY (A3 hr) (AB 3) (AB 2)) (by with_unfolding_all rfl)) (AN (C8 hx.po rfl (DD (BT (AY AZ (BT (AB 0) rfl) (AB 3) (λ_ _=>rfl)) rfl)) (CK 4 M8.nd) (AN (GY (A3 hr) (AB 2) (AB 4) CF rfl)))) BN)))
   (AN (A1 (FX (tn:=["number"]) (cn:=["found"]) (cap:=[2]) (EI (outer:=AT IW) (N:=["self","numbers","found","number","need"]) rfl rfl (by decide +kernel)) rfl (DD (GE (AB 0) T.CW JA hr.m hx.passes)) (λ_ _ _ _ _ _=>(DT (i:=0) (show(["number","found"]:List Str).Nodup from by decide +kernel) rfl (Or.inl rfl))) (λ_ _ _ _ _ _=>(G0 (D7 (LY (A3 hr) (AB 0) (AB 1)) (by with_unfolding_all rfl)))) (λ_ _ _ _ _ _=>(AB 0)))))))))
abbrev K4:Stmt:=DA (BV 8) 9
theorem Hh:FnScope ["self","place"] ["self","place"] (AT K4):=.go
theorem Hj(T:Txt K mg a)(F:Fun K "ask_for_place" "Book.ask_for_place" K4 f fd)(Ld:BY P w K mg base (a "Plank") 1 "cells" ["self"] (MF K a))(U6:BY P w K mg base (a "Plank") 1 "blocks" ["self"] (IG K a)) :
  FP P w K mg base 2 f fd ["self","place"] (MM K a) :=
 F.okF (S0 K a) Hh Al Ak λ_ _ _ _ _ E hr hx=>(AN (BH (PW.pt (FN (CY (NL N3 JR AL (AY AZ (AB 1) AL (λ_ _=>rfl)) (GE (BT (AB 0) rfl) T.EM U6 hr.m hx.passes))) (HQ (CY (NL N3 JR AL (AY AZ (AB 1) AL (λ_ _=>rfl)) (GE (BT (AB 0) rfl) T.EM Ld hr.m hx.passes)))))) (AN (NY hx T.VA rfl T.U9 (AD BE AG))) BN))
abbrev K5:Stmt:=DA (BV 11) 1
theorem K6:FnScope ["self","block","taken","gone","out","held","number","lack"] ["self","block","taken"] (AT K5):=.go
theorem Hk(T:Txt K mg a)(F:Fun K "outcome" "Hold.outcome" K5 f fd)(Kz:BY P w K mg base (a "Hold") 1 "lack_of" ["self","number","gone"] (MP K a)) :
  FP P w K mg base 2 f fd ["self","block","taken"] (MQ K a) :=
 F.okF (TL K a) K6 Bx Bw λ_ _ _ _ _ E hr hx=>(AM (BZ 3 K6.nd (DC rK rfl T.Lm (by rfl) (AD (AB 2) AG)))
   (AM (BZ 4 K6.nd (DB AG))
   (AM (BZ 5 K6.nd (DB AG))
   (AM (C8 hx.po rfl (DD (AY AZ (BT (AB 0) rfl) (AB 1) (λ_ _=>rfl))) (CK 6 K6.nd) (AN (BH (PW.pt (NE (D7 (GC (A3 hr) (AB 6) (BT (AB 0) rfl)) (by with_unfolding_all rfl)) (ND (D7 (GC (A3 hr) (AB 6) (AB 3)) (by with_unfolding_all rfl))))) (AM (BZ 7 K6.nd (CO (AB 0) T.CW Kz hr.m hx.passes (AD (AB 6) (AD (AB 3) AG))))
   (AN (BH (CH LW (AB 7) F9 (BR _)) (AM (GY (A3 hr) (AB 3) (AB 6) CF rfl)
   (AN (CZ (FD PySem.F.plainAttrs_list PySem.F.slot_list_append PySem.F.type_list_append FE (AB 4) (AD (AB 6) AG))))) (AN (CZ (FD PySem.F.plainAttrs_list PySem.F.slot_list_append PySem.F.type_list_append FE (AB 5) (AD (D3 (AD (AB 6) (AD (AB 7) AG))) AG))))))) BN)))
   (AN (A1 (D3 (AD (AB 4) (AD (AB 5) AG)))))))))
abbrev K7:Stmt:=DA (BV 13) 4
theorem Hl:FnScope ["self","block"] ["self","block"] (AT K7):=.go
theorem Hm(T:Txt K mg a)(F:Fun K "read" "Plank.read" K7 f fd)(U5:BY P w K mg base (a "Plank") 1 "ask_for_block" ["self","block"] (G2 K a)) :
  FP P w K mg base 2 f fd ["self","block"] (FH K a) :=
 F.okF (TM K a) Hl zR zK λ_ _ _ _ _ E hr hx=>(AM (CZ (CO (AB 0) T.EM U5 hr.m hx.passes (AD (AB 1) AG)))
   (AN (A1 (DC GG rfl T.E4 (by rfl) (AD (AY AZ (BT (AB 0) rfl) (AB 1) (λ_ _=>rfl)) AG)))))
abbrev K8:Stmt:=DA (BV 13) 5
theorem Hq:FnScope ["self","block","values"] ["self","block","values"] (AT K8):=.go
theorem Hv(T:Txt K mg a)(F:Fun K "write" "Plank.write" K8 f fd)(U5:BY P w K mg base (a "Plank") 1 "ask_for_block" ["self","block"] (G2 K a)) :
  FP P w K mg base 2 f fd ["self","block","values"] (II K a) :=
 F.okF (TN K a) Hq zS zL λ_ _ _ _ _ E hr hx=>(AM (CZ (CO (AB 0) T.EM U5 hr.m hx.passes (AD (AB 1) AG)))
   (AM (BH (CH (DV hr.units) (BQ DF rfl T.DH (by rfl) (AD (AB 2) AG)) (BT (AB 0) rfl) (BR _)) (AN (NY hx T.VA rfl T.U9 (AD BE AG))) BN)
   (AM (LS (DC IC rfl T.F8 (by rfl) (AD (AB 2) AG)) (NH (BT (AB 0) rfl) (AB 1) N5))
   (AN (jB (AB 0) AL jC)))))
abbrev K9:Stmt:=BV 18
theorem PD:FnScope ["cell","far","small","long"] ["cell"] (AT K9):=.go
theorem Hw(T:Txt K mg a)(F:Fun K "_law_value" "_law_value" K9 f fd)(CT:CI P w K mg base (1) "_law_pick" ["cell","prime","many"] (CD K a)) :
  FP P w K mg base 2 f fd ["cell"] (IR K a) :=
 F.okF (TQ K a) PD Cz Cy λ_ _ _ _ _ E hr hx=>(AM (BZ 1 PD.nd (BI JI (BI GB (BI DW (BI HI (BI GB (AB 0) (BI NK AL AL)) AL) AL) (BI DW (BI HI AL (BI NK AL AL)) AL)) (BI NK AL AL)))
   (AM (BZ 2 PD.nd (BI JI (BK CT hr.m hx.passes rfl (AD (AB 0) (AD AL (AD AL AG)))) AL))
   (AM (BZ 3 PD.nd (BI HI BE (BK CT hr.m hx.passes rfl (AD (AB 0) (AD AL (AD AL AG))))))
   (AN (A1 (AY AZ (DB (AD F9 (AD (AB 1) (AD (AB 2) (AD BE (AD BE (AD (AB 3) (AD (D3 AG) (AD (D3 (AD (AB 1) (AD (D3 (AD (AB 2) (AD F9 AG))) AG))) AG))))))))) (BK CT hr.m hx.passes rfl (AD (AB 0) (AD AL (AD AL AG)))) (λ_ _=>rfl)))))))
abbrev LA:Stmt:=BV 20
theorem Hx:FnScope ["cell","size"] ["cell","size"] (AT LA):=.go
theorem Hy(T:Txt K mg a)(F:Fun K "_law_place" "_law_place" LA f fd)(CT:CI P w K mg base (1) "_law_pick" ["cell","prime","many"] (CD K a)) :
  FP P w K mg base 2 f fd ["cell","size"] (MT K a) :=
 F.okF (TR K a) Hx Dc Db λ_ _ _ _ _ E hr hx=>(AM (BH (CH (EH hr.units) (BK CT hr.m hx.passes rfl (AD (AB 0) (AD AL (AD AL AG)))) AL (BR _)) (AN (A1 (D3 (AD (BK CT hr.m hx.passes rfl (AD (AB 0) (AD AL (AD (AY AZ (AB 1) AL (λ_ _=>rfl)) AG)))) (AD AL AG))))) BN)
   (AN (A1 (D3 (AD (BK CT hr.m hx.passes rfl (AD (AB 0) (AD AL (AD (AY AZ (AB 1) AL (λ_ _=>rfl)) AG)))) (AD (BK CT hr.m hx.passes rfl (AD (AB 0) (AD AL (AD (AY AZ (AB 1) AL (λ_ _=>rfl)) AG)))) AG))))))
abbrev LB:Stmt:=BV 21
theorem PF:FnScope ["cell","place","changes","last","needs","k","way"] ["cell","place","changes","last"] (AT LB):=.go
theorem Hz(T:Txt K mg a)(F:Fun K "_law_needs" "_law_needs" LB f fd)(CT:CI P w K mg base (1) "_law_pick" ["cell","prime","many"] (CD K a)) :
  FP P w K mg base 2 f fd ["cell","place","changes","last"] (MV K a) :=
 F.okF (TW K a) PF Dj Dh λ_ _ _ _ _ E hr hx=>(AM (BZ 4 PF.nd (DB AG))
   (AM (C8 hx.po rfl (E8 rfl T.FM (AD (BI HI (BK CT hr.m hx.passes rfl (AD (AB 0) (AD AL (AD AL AG)))) (DC iY rfl T.gK (by rfl) (AD (GU (DV hr.units) (AB 2) (DB AG) (BR _)) AG))) AG)) (CK 5 PF.nd) (AM (BZ 6 PF.nd (BK CT hr.m hx.passes rfl (AD (BI DW (AB 0) (AB 5)) (AD AL (AD AL AG)))))
   (AN (BH (CH (EH hr.units) (AB 6) AL (BR _)) (AN (CZ (FD PySem.F.plainAttrs_list PySem.F.slot_list_append PySem.F.type_list_append FE (AB 4) (AD (BK CT hr.m hx.passes rfl (AD (BI DW (AB 0) (AB 5)) (AD AL (AD (BQ DF rfl T.DH (by rfl) (AD (AB 2) AG)) AG)))) AG)))) (AN (BH (PW.pt (NE (CH (EH hr.units) (AB 6) AL (BR _)) (ND (D7 (LY (A3 hr) (D3 (AD (AY AZ (AB 1) AL (λ_ _=>rfl)) (AD (BI DW (AY AZ (AB 1) AL (λ_ _=>rfl)) AL) AG))) (AB 3)) (by with_unfolding_all rfl))))) (AN (CZ (FD PySem.F.plainAttrs_list PySem.F.slot_list_append PySem.F.type_list_append FE (AB 4) (AD (BX (A3 hr) (AB 3) (D3 (AD (AY AZ (AB 1) AL (λ_ _=>rfl)) (AD (BI DW (AY AZ (AB 1) AL (λ_ _=>rfl)) AL) AG))) (λ_ _=>rfl)) AG)))) (AN (CZ (FD PySem.F.plainAttrs_list PySem.F.slot_list_append PySem.F.type_list_append FE (AB 4) (AD (BQ (p9 rfl) rfl T.Lp (by rfl) (AD AL (AD (BI JI (BI JI (BQ DF rfl T.DH (by rfl) (AD (AB 2) AG)) AL) (BK CT hr.m hx.passes rfl (AD (BI DW (AB 0) (AB 5)) (AD AL (AD AL AG))))) AG))) AG))))))))))
   (AN (A1 (AB 4)))))
abbrev HM:Stmt:=BV 23
theorem UY:FnScope ["told","changes","gone","block","numbers","pair"] ["told","changes","gone","block"] (AT HM):=.go
theorem Jb(T:Txt K mg a)(F:Fun K "_law_numbers" "_law_numbers" HM f fd)(IZ:CI P w K mg base (1) "_law_whole" ["found"] (EX K a)) :
  FP P w K mg base 2 f fd ["told","changes","gone","block"] (MX K a) :=
 F.okF (TY K a) UY Dm Dl λ_ _ _ _ _ E hr hx=>(AM (BZ 4 UY.nd (DC GG rfl T.E4 (by rfl) (AD (AY AZ (AB 0) AL (λ_ _=>rfl)) AG)))
   (AM (C8 hx.po rfl (DD (AY AZ (AB 0) AL (λ_ _=>rfl))) (CK 5 UY.nd) (AM (BH (PW.pt (FN (CY (C9 (BQ EB rfl T.ED (by rfl) (AD (AB 5) (AD (E6 rfl T.F8 (by rfl) rfl) AG))) (λ_=>rfl))) (FN (CH (DV hr.units) (BQ DF rfl T.DH (by rfl) (AD (AB 5) AG)) AL (BR _)) (FN (CY (C9 (BK IZ hr.m hx.passes rfl (AD (AY AZ (AB 5) AL (λ_ _=>rfl)) AG)) (λ_=>rfl))) (HQ (CY (C9 (BK IZ hr.m hx.passes rfl (AD (AY AZ (AB 5) AL (λ_ _=>rfl)) AG)) (λ_=>rfl)))))))) (AN (A1 CF)) BN)
   (AN (CZ (FD PySem.F.plainAttrs_list PySem.F.slot_list_append PySem.F.type_list_append FE (AB 4) (AD (AY AZ (AB 5) AL (λ_ _=>rfl)) AG))))))
   (AM (BH (CH (DV hr.units) (FX (tn:=["number"]) (cn:=[]) (cap:=[]) (EI (outer:=AT HM) (N:=["told","changes","gone","block","numbers","pair"]) rfl rfl (by decide +kernel)) rfl (DD (AY AZ (AB 0) AL (λ_ _=>rfl))) (λ_ _ _ _ _ _=>(DT (i:=0) (show(["number"]:List Str).Nodup from by decide +kernel) rfl (Or.inl rfl))) (λ_ _ _ _ _ _=>(G0 (CY (C9 (BK IZ hr.m W3 rfl (AD (AB 0) AG)) (λ_=>rfl))))) (λ_ _ _ _ _ _=>(AB 0))) (DB AG) (BR _)) (AN (A1 CF)) BN)
   (AM (BH (PW.pt (FN (CH (DV hr.units) (BQ (X4 rfl) rfl T.JC (by rfl) (AD (AY AZ (AB 0) AL (λ_ _=>rfl)) AG)) (AY AZ (AB 0) AL (λ_ _=>rfl)) (BR _)) (HQ (CH (DV hr.units) (BQ (sV rfl) rfl T.JC (by rfl) (AD (AY AZ (AB 0) AL (λ_ _=>rfl)) AG)) (AY AZ (AB 0) AL (λ_ _=>rfl)) (BR _))))) (AN (A1 CF)) BN)
   (AN (A1 (GU (EH hr.units) (BQ (X4 rfl) rfl T.JC (by rfl) (AD (AB 4) AG)) (FX (tn:=["k"]) (cn:=["changes","block","gone"]) (cap:=[1,3,2]) (EI (outer:=AT HM) (N:=["told","changes","gone","block","numbers","pair"]) rfl rfl (by decide +kernel)) rfl (E8 rfl T.FM (AD (BQ DF rfl T.DH (by rfl) (AD (AB 1) AG)) AG)) (λ_ _ _ _ _ _=>(DT (i:=0) (show(["k","changes","block","gone"]:List Str).Nodup from by decide +kernel) rfl (Or.inl rfl))) (λ_ _ _ _ _ _=>(G0 (PW.pt (NE (CH (EH hr.units) (AY AZ (AY AZ (AY AZ (AB 1) (AB 0) (λ_ _=>rfl)) AL (λ_ _=>rfl)) AL (λ_ _=>rfl)) (AB 2) (BR _)) (ND (D7 (GC (A3 hr) (AB 0) (AB 3)) (by with_unfolding_all rfl))))))) (λ_ _ _ _ _ _=>(AB 0))) (BR _))))))))
abbrev LC:Stmt:=DA (BV 8) 3
theorem Jc:FnScope ["self","place"] ["self","place"] (AT LC):=.go
theorem Jd(T:Txt K mg a)(F:Fun K "newest" "Book.newest" LC f fd)(Kw:BY P w K mg base (a "Hold") 2 "ask_for_place" ["self","place"] (MM K a)) :
  FP P w K mg base 3 f fd ["self","place"] (G5 K a) :=
 F.okF (TZ K a) Jc Aq Am λ_ _ _ _ _ E hr hx=>(AM (CZ (CO (AB 0) T.CW Kw hr.m hx.passes (AD (AB 1) AG)))
   (AN (A1 (kP (A3 hr) (BT (AB 0) rfl) (AB 1) ⟨rfl,rfl,rfl,rfl⟩))))
abbrev LD:Stmt:=DA (BV 11) 0
theorem PJ:FnScope ["self","block","values","told","number"] ["self","block"] (AT LD):=.go
theorem Jg(T:Txt K mg a)(F:Fun K "write" "Hold.write" LD f fd)(JB:BY P w K mg base (a "Plank") 2 "read" ["self","block"] (FH K a))(Lc:BY P w K mg base (a "Hold") 2 "outcome" ["self","block","taken"] (MQ K a))(U7:BY P w K mg base (a "Plank") 2 "write" ["self","block","values"] (II K a))(Lb:BY P w K mg base (a "Hold") 1 "laid_over" ["self","values","block"] (MR K a)) :
  FP P w K mg base 3 f fd ["self","block"] (IN K a) :=
 F.okF (T2 K a) PJ Cc Cb λ_ _ _ _ _ E hr hx=>(AM (BZ 2 PJ.nd (CO (BT (AB 0) rfl) T.EM JB hr.m hx.passes (AD (AB 1) AG)))
   (AM (BZ 3 PJ.nd (CO (AB 0) T.CW Lc hr.m hx.passes (AD (AB 1) (AD NV AG))))
   (AM (C8 hx.po rfl (DD (AY AZ (AB 3) AL (λ_ _=>rfl))) (CK 4 PJ.nd) (AN (GY (A3 hr) (BT (AB 0) rfl) (AB 4) CF rfl)))
   (AM (CZ (CO (BT (AB 0) rfl) T.EM U7 hr.m hx.passes (AD (AB 1) (AD (CO (AB 0) T.CW Lb hr.m hx.passes (AD (AB 2) (AD (AB 1) AG))) AG))))
   (AN (A1 (AB 3)))))))
abbrev IX:Stmt:=BV 27
theorem LE:FnScope ["hold","state","cell","many","some","number","one"] ["hold","state","cell"] (AT IX):=.go
theorem Jh(T:Txt K mg a)(F:Fun K "_law_told" "_law_told" IX f fd)(JA:BY P w K mg base (a "Hold") 1 "waiting" ["self"] (F6 K a))(CT:CI P w K mg base (1) "_law_pick" ["cell","prime","many"] (CD K a))(Ky:BY P w K mg base (a "Hold") 2 "closure" ["self","numbers"] (MO K a))(U3:BY P w K mg base (a "Hold") 2 "needed" ["self","number"] (IQ K a)) :
  FP P w K mg base 3 f fd ["hold","state","cell"] (M3 K a) :=
 F.okF (T5 K a) LE Ej Eh λ_ _ _ _ _ E hr hx=>(AM (BZ 3 LE.nd (BQ DF rfl T.DH (by rfl) (AD (BX (A3 hr) (AB 1) BE (λ_ _=>rfl)) AG)))
   (AM (BZ 4 LE.nd (DB (AD (GE (AB 0) T.CW JA hr.m hx.passes) AG)))
   (AM (BH (CH lT (AB 3) AL (BR _)) (AM (BZ 5 LE.nd (BK CT hr.m hx.passes rfl (AD (AB 2) (AD AL (AD (AB 3) AG)))))
   (AM (BZ 4 LE.nd (BI DW (AB 4) (DB (AD (CO (AB 0) T.CW U3 hr.m hx.passes (AD (AB 5) AG)) (AD (CO (AB 0) T.CW Ky hr.m hx.passes (AD (DB (AD (AB 5) AG)) AG)) AG)))))
   (AN (BH (CH (DV hr.units) (AY AZ (AB 4) AL (λ_ _=>rfl)) (OF rfl rfl T.JC rfl T.PN (AY AZ (AY AZ (BX (A3 hr) (AB 1) BE (λ_ _=>rfl)) (AB 5) (λ_ _=>rfl)) AL (λ_ _=>rfl))) (BR _)) (AN (A1 CF)) BN)))) BN)
   (AM (C8 hx.po rfl (DD (AB 4)) (CK 6 LE.nd) (AM (BH (CY (C9 (BQ EB rfl T.ED (by rfl) (AD (AB 6) (AD (E6 rfl T.E4 (by rfl) rfl) AG))) (λ_=>rfl))) (AN (A1 CF)) BN)
   (AN (CZ (FD PySem.F.plainAttrs_list PySem.F.slot_list_append PySem.F.type_list_append FE (BX (A3 hr) (AB 1) BE (λ_ _=>rfl)) (AD (D3 (AD (AB 6) (AD (DC GG rfl T.E4 (by rfl) (AD (AB 6) AG)) AG))) AG))))))
   (AN (A1 (GU (EH hr.units) (AY AZ (AB 4) AL (λ_ _=>rfl)) (FX (tn:=["k"]) (cn:=["state"]) (cap:=[1]) (EI (outer:=AT IX) (N:=["hold","state","cell","many","some","number","one"]) rfl rfl (by decide +kernel)) rfl (E8 rfl T.FM (AD (AB 3) AG)) (λ_ _ _ _ _ _=>(DT (i:=0) (show(["k","state"]:List Str).Nodup from by decide +kernel) rfl (Or.inl rfl))) (λ_ _ _ _ _ _=>(G0 (D7 (GC (A3 hr) (AB 0) (BX (A3 hr) (AB 1) BE (λ_ _=>rfl))) (by with_unfolding_all rfl)))) (λ_ _ _ _ _ _=>(AB 0))) (BR _))))))))
abbrev LF:Stmt:=DA (BV 8) 1
theorem UZ:FnScope ["self","place","value","needs","ahead","number"] ["self","place","value","needs"] (AT LF):=.go
theorem Jj(T:Txt K mg a)(F:Fun K "change" "Book.change" LF f fd)(NA:BY P w K mg base (a "Hold") 3 "newest" ["self","place"] (G5 K a))(M9:BY P w K mg base (a "Hold") 1 "ask_for_changes" ["self","numbers"] (G6 K a))(Kv:CI P w K mg base (1) "needs_with" ["needs","ahead"] (ML K a))(Lg:NZ P w K mg base (a "Change") 1 "Change" ["self","place","value","needs"] (MK K a)) :
  FP P w K mg base 4 f fd ["self","place","value","needs"] (MN K a) :=
 F.okF (T6 K a) UZ Bb Az λ_ _ _ _ _ E hr hx=>(AM (BZ 4 UZ.nd (CO (AB 0) T.CW NA hr.m hx.passes (AD (AB 1) AG)))
   (AM (CZ (CO (AB 0) T.CW M9 hr.m hx.passes (AD (AB 3) AG)))
   (AM (BZ 5 UZ.nd (BQ DF rfl T.DH (by rfl) (AD (BT (AB 0) rfl) AG)))
   (AM (CZ (FD PySem.F.plainAttrs_list PySem.F.slot_list_append PySem.F.type_list_append FE (BT (AB 0) rfl) (AD (QW Lg hr.m hx.passes rfl (AD (AB 1) (AD (AB 2) (AD (BK Kv hr.m hx.passes rfl (AD (AB 3) (AD (AB 4) AG))) AG)))) AG)))
   (AM (CZ (FD PySem.F.plainAttrs_list PySem.F.slot_list_append PySem.F.type_list_append FE (AY AZ (BT (AB 0) rfl) (AY AZ (AB 1) AL (λ_ _=>rfl)) (λ_ _=>rfl)) (AD (AB 5) AG)))
   (AM (GY (A3 hr) (BT (AB 0) rfl) (AB 1) (AB 5) rfl)
   (AN (A1 (AB 5)))))))))
abbrev LG:Stmt:=DA (BV 8) 2
theorem gJ:FnScope ["self","place","number"] ["self","place"] (AT LG):=.go
theorem Jk(T:Txt K mg a)(F:Fun K "in_hand" "Book.in_hand" LG f fd)(NA:BY P w K mg base (a "Hold") 3 "newest" ["self","place"] (G5 K a))(JB:BY P w K mg base (a "Plank") 2 "read" ["self","block"] (FH K a)) :
  FP P w K mg base 4 f fd ["self","place"] (IP K a) :=
 F.okF (T7 K a) gJ Cg Cd λ_ _ _ _ _ E hr hx=>(AM (BZ 2 gJ.nd (CO (AB 0) T.CW NA hr.m hx.passes (AD (AB 1) AG)))
   (AM (BH (CH LW (AB 2) F9 (BR _)) (AN (A1 (AY AZ (CO (BT (AB 0) rfl) T.EM JB hr.m hx.passes (AD (AY AZ (AB 1) AL (λ_ _=>rfl)) AG)) (AY AZ (AB 1) AL (λ_ _=>rfl)) (λ_ _=>rfl)))) BN)
   (AN (A1 (BT (AY AZ (BT (AB 0) rfl) (AB 2) (λ_ _=>rfl)) rfl)))))
abbrev LH:Stmt:=BV 26
theorem PK:FnScope ["hold","block","right","e"] ["hold","block"] (AT LH):=.go
theorem Jl(T:Txt K mg a)(F:Fun K "_law_refused" "_law_refused" LH f fd)(U4:BY P w K mg base (a "Hold") 3 "write" ["self","block"] (IN K a)) :
  FP P w K mg base 4 f fd ["hold","block"] (M0 K a) :=
 F.okF (T8 K a) PK Dg Dd λ_ _ _ _ _ E hr hx=>(AM (BZ 2 PK.nd CF)
   (AM (lH rfl rfl rfl rfl (λE1 _ _ hx1=>(AN (CZ (CO (AB 0) T.CW U4 hr.m hx1.passes (AD (AB 1) AG))))) (lG (i:=3) PK.nd rfl rfl (lE rfl T.Md) (λ_=>(AN (BZ 2 PK.nd (GS (BQ EB rfl T.ED (by rfl) (AD (AB 3) (AD (N0 T.Lz rfl) AG))) (GS (BQ EB rfl T.ED (by rfl) (AD (AB 3) (AD (E6 rfl T.Lk (by rfl) rfl) AG))) (HR (XB (BQ EB rfl T.ED (by rfl) (AD (AB 3) (AD (D3 (AD (N0 T.Mb rfl) (AD (N0 T.Mc rfl) AG))) AG)))))))))) lC))
   (AN (A1 (AB 2)))))
abbrev G9:Stmt:=BV 19
theorem PL:FnScope ["found","due","one","other"] ["found","due"] (AT G9):=.go
theorem Jm{n:Nat}(T:Txt K mg a)(F:Fun K "_law_same" "_law_same" G9 f fd)(GO:CI P w K mg base (n+2) "_law_same" ["found","due"] (DS K a n))(IZ:CI P w K mg base (1) "_law_whole" ["found"] (EX K a)) :
  FP P w K mg base (n+2+1) f fd ["found","due"] (DS K a (n+1)) :=
 F.okF (IS K a n) PL Cv Cq λ_ _ _ _ _ E hr hx=>(AM (BH (C9 (BQ EB rfl T.ED (by rfl) (AD (AB 1) (AD (E6 rfl T.F8 (by rfl) rfl) AG))) (λ_=>rfl)) (AM (BH (PW.pt (FN (CY (C9 (BQ EB rfl T.ED (by rfl) (AD (AB 0) (AD (E6 rfl T.F8 (by rfl) rfl) AG))) (λ_=>rfl))) (HQ (CH (DV hr.units) (BQ DF rfl T.DH (by rfl) (AD (AB 0) AG)) (BQ DF rfl T.DH (by rfl) (AD (AB 1) AG)) (BR _))))) (AN (A1 CF)) BN)
   (AM (C8 hx.po rfl (pZ rfl T.Lw (AD (AB 0) (AD (AB 1) AG))) (LR rfl (EO (CK 2 PL.nd) (EO (CK 3 PL.nd) LQ))) (AN (BH (CY (C9 (BK GO (hr.mono (by omega)) hx.passes rfl (AD (AB 2) (AD (AB 3) AG))) (λ_=>rfl))) (AN (A1 CF)) BN)))
   (AN (A1 CF)))) BN)
   (AM (BH (CH LW (AB 1) F9 (BR _)) (AN (A1 (GU LW (AB 0) F9 (BR _)))) BN)
   (AM (BH (C9 (BQ EB rfl T.ED (by rfl) (AD (AB 1) (AD (E6 rfl T.gL (by rfl) rfl) AG))) (λ_=>rfl)) (AN (A1 (GS (BQ EB rfl T.ED (by rfl) (AD (AB 0) (AD (E6 rfl T.gL (by rfl) rfl) AG))) (HR (GU (EH hr.units) (AB 0) (AB 1) (BR _)))))) BN)
   (AN (A1 (GS (BK IZ (hr.mono (by omega)) hx.passes rfl (AD (AB 0) AG)) (HR (GU (EH hr.units) (AB 0) (AB 1) (BR _)))))))))
abbrev LI:Stmt:=BV 22
theorem LJ:FnScope ["hold","cell","size","state","place","value","needs","handed","told"] ["hold","cell","size","state"] (AT LI):=.go
theorem Jp(T:Txt K mg a)(F:Fun K "_law_changed" "_law_changed" LI f fd)(Kk:CI P w K mg base (2) "_law_place" ["cell","size"] (MT K a))(U1:CI P w K mg base (2) "_law_value" ["cell"] (IR K a))(Kh:CI P w K mg base (2) "_law_needs" ["cell","place","changes","last"] (MV K a))(Kx:BY P w K mg base (a "Hold") 4 "change" ["self","place","value","needs"] (MN K a))(U2:BY P w K mg base (a "Hold") 4 "in_hand" ["self","place"] (IP K a))(GO:CI P w K mg base (10) "_law_same" ["found","due"] (DS K a 8))(IZ:CI P w K mg base (1) "_law_whole" ["found"] (EX K a)) :
  FP P w K mg base 11 f fd ["hold","cell","size","state"] (MW K a) :=
 F.okF (UB K a) LJ Dz Dy λ_ _ _ _ _ E hr hx=>(AM (BZ 4 LJ.nd (BK Kk hr.m hx.passes rfl (AD (AB 1) (AD (AB 2) AG))))
   (AM (BZ 5 LJ.nd (BK U1 hr.m hx.passes rfl (AD (AB 1) AG)))
   (AM (BZ 6 LJ.nd (BK Kh hr.m hx.passes rfl (AD (AB 1) (AD (AB 4) (AD (BX (A3 hr) (AB 3) BE (λ_ _=>rfl)) (AD (BX (A3 hr) (AB 3) BE (λ_ _=>rfl)) AG))))))
   (AM (BZ 7 LJ.nd (DC GG rfl T.E4 (by rfl) (AD (AB 6) AG)))
   (AM (BZ 8 LJ.nd (CO (AB 0) T.CW Kx hr.m hx.passes (AD (AB 4) (AD (AB 5) (AD (AB 7) AG)))))
   (AM (CZ (WD PySem.F.plainAttrs_list PySem.F.slot_list_clear PySem.F.type_list_clear WH (AB 7)))
   (AM (BH (D7 (LY (A3 hr) (AB 4) (BX (A3 hr) (AB 3) BE (λ_ _=>rfl))) (by with_unfolding_all rfl)) (AN (CZ (FD PySem.F.plainAttrs_list PySem.F.slot_list_append PySem.F.type_list_append FE (AB 6) (AD (BX (A3 hr) (BX (A3 hr) (AB 3) BE (λ_ _=>rfl)) (AB 4) (λ_ _=>rfl)) AG)))) BN)
   (AM (GY (A3 hr) (BX (A3 hr) (AB 3) BE (λ_ _=>rfl)) (AB 4) (BQ DF rfl T.DH (by rfl) (AD (BX (A3 hr) (AB 3) BE (λ_ _=>rfl)) AG)) rfl)
   (AM (CZ (FD PySem.F.plainAttrs_list PySem.F.slot_list_append PySem.F.type_list_append FE (BX (A3 hr) (AB 3) BE (λ_ _=>rfl)) (AD (D3 (AD (AB 4) (AD (AB 5) (AD (AB 6) AG)))) AG)))
   (AN (A1 (GS (BK IZ hr.m hx.passes rfl (AD (AB 8) AG)) (GS (GU (EH hr.units) (AB 8) (BI JI (BQ DF rfl T.DH (by rfl) (AD (BX (A3 hr) (AB 3) BE (λ_ _=>rfl)) AG)) AL) (BR _)) (HR (BK GO hr.m hx.passes rfl (AD (CO (AB 0) T.CW U2 hr.m hx.passes (AD (AB 4) AG)) (AD (AB 5) AG)))))))))))))))))
abbrev LK:Stmt:=BV 25
theorem LL:FnScope ["hold","plank","state","block","told","number","place","value","needs"] ["hold","plank","state","block"] (AT LK):=.go
theorem Jq(T:Txt K mg a)(F:Fun K "_law_written" "_law_written" LK f fd)(U4:BY P w K mg base (a "Hold") 3 "write" ["self","block"] (IN K a))(Kj:CI P w K mg base (2) "_law_numbers" ["told","changes","gone","block"] (MX K a))(Kd:CI P w K mg base (1) "_law_cut" ["told","changes","gone"] (MY K a))(JB:BY P w K mg base (a "Plank") 2 "read" ["self","block"] (FH K a))(GO:CI P w K mg base (10) "_law_same" ["found","due"] (DS K a 8)) :
  FP P w K mg base 11 f fd ["hold","plank","state","block"] (MZ K a) :=
 F.okF (UD K a) LL Ed Ec λ_ _ _ _ _ E hr hx=>(AM (BZ 4 LL.nd (CO (AB 0) T.CW U4 hr.m hx.passes (AD (AB 3) AG)))
   (AM (BH (PW.pt (FN (CY (C9 (BQ EB rfl T.ED (by rfl) (AD (AB 4) (AD (E6 rfl T.F8 (by rfl) rfl) AG))) (λ_=>rfl))) (FN (CH (DV hr.units) (BQ DF rfl T.DH (by rfl) (AD (AB 4) AG)) AL (BR _)) (FN (CY (C9 (BQ EB rfl T.ED (by rfl) (AD (AY AZ (AB 4) AL (λ_ _=>rfl)) (AD (E6 rfl T.E4 (by rfl) rfl) AG))) (λ_=>rfl))) (HQ (CY (C9 (BQ EB rfl T.ED (by rfl) (AD (AY AZ (AB 4) AL (λ_ _=>rfl)) (AD (E6 rfl T.E4 (by rfl) rfl) AG))) (λ_=>rfl)))))))) (AN (A1 CF)) BN)
   (AM (BH (CY (C9 (BK Kj hr.m hx.passes rfl (AD (AB 4) (AD (BX (A3 hr) (AB 2) BE (λ_ _=>rfl)) (AD (BX (A3 hr) (AB 2) BE (λ_ _=>rfl)) (AD (AB 3) AG))))) (λ_=>rfl))) (AN (A1 CF)) BN)
   (AM (BH (CY (C9 (BK Kd hr.m hx.passes rfl (AD (AB 4) (AD (BX (A3 hr) (AB 2) BE (λ_ _=>rfl)) (AD (BX (A3 hr) (AB 2) BE (λ_ _=>rfl)) AG)))) (λ_=>rfl))) (AN (A1 CF)) BN)
   (AM (C8 hx.po rfl (DD (AY AZ (AB 4) AL (λ_ _=>rfl))) (CK 5 LL.nd) (AM (LS (AY AZ (BX (A3 hr) (AB 2) BE (λ_ _=>rfl)) (AB 5) (λ_ _=>rfl)) (LR rfl (EO (CK 6 LL.nd) (EO (CK 7 LL.nd) (EO (CK 8 LL.nd) LQ)))))
   (AN (LS (AB 7) (NH (AY AZ (BX (A3 hr) (AB 2) BE (λ_ _=>rfl)) (AB 3) (λ_ _=>rfl)) (AY AZ (AB 6) AL (λ_ _=>rfl)) N5)))))
   (AM (CZ (FD PySem.F.plainAttrs_list PySem.F.slot_list_append PySem.F.type_list_append FE (BX (A3 hr) (AB 2) BE (λ_ _=>rfl)) (AD (D3 (AD (AY AZ (AB 4) AL (λ_ _=>rfl)) (AD (DC GG rfl T.E4 (by rfl) (AD (AY AZ (AB 4) AL (λ_ _=>rfl)) AG)) (AD (AY AZ (AB 4) AL (λ_ _=>rfl)) (AD (DC GG rfl T.E4 (by rfl) (AD (AY AZ (AB 4) AL (λ_ _=>rfl)) AG)) AG))))) AG)))
   (AN (A1 (BK GO hr.m hx.passes rfl (AD (DC IC rfl T.F8 (by rfl) (AD (CO (AB 1) T.EM JB hr.m hx.passes (AD (AB 3) AG)) AG)) (AD (DC IC rfl T.F8 (by rfl) (AD (AY AZ (BX (A3 hr) (AB 2) BE (λ_ _=>rfl)) (AB 3) (λ_ _=>rfl)) AG)) AG)))))))))))
abbrev HN:Stmt:=BV 29
theorem HA:FnScope ["hold","state","place","number","out","kept","held","pairs","left","told"] ["hold","state"] (AT HN):=.go
theorem Jv(T:Txt K mg a)(F:Fun K "_law_end" "_law_end" HN f fd)(U2:BY P w K mg base (a "Hold") 4 "in_hand" ["self","place"] (IP K a))(GO:CI P w K mg base (10) "_law_same" ["found","due"] (DS K a 8))(NA:BY P w K mg base (a "Hold") 3 "newest" ["self","place"] (G5 K a))(U3:BY P w K mg base (a "Hold") 2 "needed" ["self","number"] (IQ K a))(JA:BY P w K mg base (a "Hold") 1 "waiting" ["self"] (F6 K a)) :
  FP P w K mg base 11 f fd ["hold","state"] (M5 K a) :=
 F.okF (UJ K a) HA Ev Ep λ_ _ _ _ _ E hr hx=>(AM (C8 hx.po rfl (sK (BX (A3 hr) (AB 1) BE (λ_ _=>rfl))) (CK 2 HA.nd) (AM (BH (CY (C9 (BK GO hr.m hx.passes rfl (AD (CO (AB 0) T.CW U2 hr.m hx.passes (AD (AB 2) AG)) (AD (AY AZ (AY AZ (BX (A3 hr) (AB 1) BE (λ_ _=>rfl)) (BX (A3 hr) (BX (A3 hr) (AB 1) BE (λ_ _=>rfl)) (AB 2) (λ_ _=>rfl)) (λ_ _=>rfl)) AL (λ_ _=>rfl)) AG))) (λ_=>rfl))) (AN (A1 CF)) BN)
   (AN (BH (CY (C9 (BK GO hr.m hx.passes rfl (AD (CO (AB 0) T.CW NA hr.m hx.passes (AD (AB 2) AG)) (AD (BX (A3 hr) (BX (A3 hr) (AB 1) BE (λ_ _=>rfl)) (AB 2) (λ_ _=>rfl)) AG))) (λ_=>rfl))) (AN (A1 CF)) BN))))
   (AM (C8 hx.po rfl (E8 rfl T.FM (AD (BQ DF rfl T.DH (by rfl) (AD (BX (A3 hr) (AB 1) BE (λ_ _=>rfl)) AG)) AG)) (CK 3 HA.nd) (AN (BH (CH (DV hr.units) (CO (AB 0) T.CW U3 hr.m hx.passes (AD (AB 3) AG)) (OF rfl rfl T.JC rfl T.PN (AY AZ (AY AZ (BX (A3 hr) (AB 1) BE (λ_ _=>rfl)) (AB 3) (λ_ _=>rfl)) AL (λ_ _=>rfl))) (BR _)) (AN (A1 CF)) BN)))
   (AM (C8 hx.po rfl (DD (BX (A3 hr) (AB 1) BE (λ_ _=>rfl))) (LR rfl (EO (CK 4 HA.nd) (EO (CK 5 HA.nd) (EO (CK 6 HA.nd) (EO (CK 7 HA.nd) LQ))))) (AN (BH (PW.pt (FN (CH (DV hr.units) (AB 4) (AB 5) (BR _)) (HQ (CH (DV hr.units) (AB 6) (AB 7) (BR _))))) (AN (A1 CF)) BN)))
   (AM (BH (CH (DV hr.units) (FX (tn:=["one","kept"]) (cn:=[]) (cap:=[]) (EI (outer:=AT HN) (N:=["hold","state","place","number","out","kept","held","pairs","left","told"]) rfl rfl (by decide +kernel)) rfl (DD (BX (A3 hr) (AB 1) BE (λ_ _=>rfl))) (λ_ _ _ _ _ _=>(LR rfl (EO (DT (i:=0) (show(["one","kept"]:List Str).Nodup from by decide +kernel) rfl (Or.inl rfl)) (EO (DT (i:=1) (show(["one","kept"]:List Str).Nodup from by decide +kernel) rfl (Or.inl rfl)) LQ)))) (λ_ _ _ _ _ _=>(G0 (CH (DV hr.units) (AB 0) (AB 1) (BR _)))) (λ_ _ _ _ _ _=>(AB 0))) (DB AG) (BR _)) (AN (A1 CF)) BN)
   (AM (QT (i:=8) (tn:=["k"]) (cn:=["state"]) (cap:=[1]) (EI (outer:=AT HN) (N:=["hold","state","place","number","out","kept","held","pairs","left","told"]) rfl rfl (by decide +kernel)) rfl HA.nd rfl rfl (E8 rfl T.FM (AD (BQ DF rfl T.DH (by rfl) (AD (BX (A3 hr) (AB 1) BE (λ_ _=>rfl)) AG)) AG)) (λ_ _ _ _ _ _=>(DT (i:=0) (show(["k","state"]:List Str).Nodup from by decide +kernel) rfl (Or.inl rfl))) (λ_ _ _ _ _ _=>(G0 (D7 (GC (A3 hr) (AB 0) (BX (A3 hr) (AB 1) BE (λ_ _=>rfl))) (by with_unfolding_all rfl)))) (λ_ _ _ _ _ _=>(AB 0)))
   (AM (BZ 9 HA.nd (GE (AB 0) T.CW JA hr.m hx.passes))
   (AM (BH (CH (DV hr.units) (AB 9) (AB 8) (BR _)) (AN (A1 CF)) BN)
   (AM (CZ (WD PySem.F.plainAttrs_list PySem.F.slot_list_clear PySem.F.type_list_clear WH (AB 9)))
   (AN (A1 (GS (BQ EB rfl T.ED (by rfl) (AD (AB 0) (AD (N0 T.Ly rfl) AG))) (HR (GU (EH hr.units) (GE (AB 0) T.CW JA hr.m hx.passes) (AB 8) (BR _))))))))))))))
abbrev LM:Stmt:=BV 28
theorem PM:FnScope ["hold","plank","cell","size","state","far","none","other"] ["hold","plank","cell","size","state"] (AT LM):=.go
theorem Jw(T:Txt K mg a)(F:Fun K "_law_step" "_law_step" LM f fd)(CT:CI P w K mg base (1) "_law_pick" ["cell","prime","many"] (CD K a))(Kl:CI P w K mg base (4) "_law_refused" ["hold","block"] (M0 K a))(Kq:CI P w K mg base (11) "_law_written" ["hold","plank","state","block"] (MZ K a))(Kc:CI P w K mg base (11) "_law_changed" ["hold","cell","size","state"] (MW K a))(JB:BY P w K mg base (a "Plank") 2 "read" ["self","block"] (FH K a))(GO:CI P w K mg base (10) "_law_same" ["found","due"] (DS K a 8))(Kp:CI P w K mg base (3) "_law_told" ["hold","state","cell"] (M3 K a))(U8:BY P w K mg base (a "Plank") 1 "writings" ["self"] (IH K a)) :
  FP P w K mg base 12 f fd ["hold","plank","cell","size","state"] (M4 K a) :=
 F.okF (UL K a) PM El Ek λ_ _ _ _ _ E hr hx=>(AM (BH (CH (EH hr.units) (BK CT hr.m hx.passes rfl (AD (AB 2) (AD AL (AD AL AG)))) AL (BR _)) (AM (BZ 5 PM.nd (BI DW AL (BI GB (AB 2) (BI NK AL AL))))
   (AM (BZ 6 PM.nd (AY AZ (DB (AD (iH iM AL) (AD (AY AZ (AB 3) AL (λ_ _=>rfl)) (AD (BI JI AL (AB 5)) (AD (BI DW (AY AZ (AB 3) AL (λ_ _=>rfl)) (AB 5)) AG))))) (BK CT hr.m hx.passes rfl (AD (AB 2) (AD AL (AD AL AG)))) (λ_ _=>rfl)))
   (AN (BH (CY (C9 (BK Kl hr.m hx.passes rfl (AD (AB 0) (AD (AB 6) AG))) (λ_=>rfl))) (AN (A1 CF)) BN)))) BN)
   (AM (BZ 7 PM.nd (BK CT hr.m hx.passes rfl (AD (AB 2) (AD AL (AD (AY AZ (AB 3) AL (λ_ _=>rfl)) AG)))))
   (AM (BH (CH JR (BK CT hr.m hx.passes rfl (AD (AB 2) (AD AL (AD AL AG)))) AL (BR _)) (AM (BH (CY (C9 (BK Kq hr.m hx.passes rfl (AD (AB 0) (AD (AB 1) (AD (AB 4) (AD (BK CT hr.m hx.passes rfl (AD (AB 2) (AD AL (AD (AY AZ (AB 3) AL (λ_ _=>rfl)) AG)))) AG))))) (λ_=>rfl))) (AN (A1 CF)) BN)
   (AN (GY (A3 hr) (AB 4) BE (BI DW (BX (A3 hr) (AB 4) BE (λ_ _=>rfl)) AL) rfl))) (AN (BH (CY (C9 (BK Kc hr.m hx.passes rfl (AD (AB 0) (AD (AB 2) (AD (AB 3) (AD (AB 4) AG))))) (λ_=>rfl))) (AN (A1 CF)) BN)))
   (AM (BH (CY (C9 (BK GO hr.m hx.passes rfl (AD (DC IC rfl T.F8 (by rfl) (AD (CO (AB 1) T.EM JB hr.m hx.passes (AD (AB 7) AG)) AG)) (AD (DC IC rfl T.F8 (by rfl) (AD (AY AZ (BX (A3 hr) (AB 4) BE (λ_ _=>rfl)) (AB 7) (λ_ _=>rfl)) AG)) AG))) (λ_=>rfl))) (AN (A1 CF)) BN)
   (AN (A1 (GS (GU (EH hr.units) (GE (AB 1) T.EM U8 hr.m hx.passes) (BX (A3 hr) (AB 4) BE (λ_ _=>rfl)) (BR _)) (HR (BK Kp hr.m hx.passes rfl (AD (AB 0) (AD (AB 4) (AD (AB 2) AG))))))))))))
abbrev F7:Stmt:=BV 30
theorem GN:FnScope ["script","first","size","plank","rows","k","state","hold","cell"] ["script"] (AT F7):=.go
theorem Jx(T:Txt K mg a)(F:Fun K "law" "law" F7 f fd)(Kb:CI P w K mg base (1) "_law_cell_at" ["script","k"] (IM K a))(CT:CI P w K mg base (1) "_law_pick" ["cell","prime","many"] (CD K a))(Lj:NZ P w K mg base (a "Plank") 1 "Plank" ["self","blocks","cells"] (JV K a))(U1:CI P w K mg base (2) "_law_value" ["cell"] (IR K a))(U7:BY P w K mg base (a "Plank") 2 "write" ["self","block","values"] (II K a))(U8:BY P w K mg base (a "Plank") 1 "writings" ["self"] (IH K a))(Lh:NZ P w K mg base (a "Hold") 2 "Hold" ["self","plank"] (JZ K a))(Km:CI P w K mg base (12) "_law_step" ["hold","plank","cell","size","state"] (M4 K a))(Kg:CI P w K mg base (11) "_law_end" ["hold","state"] (M5 K a)) :
  FP P w K mg base 13 f fd ["script"] (R6 K a) :=
 F.okF (UP K a) GN Fh Fg λ_ _ _ _ _ E hr hx=>(AM (LT (i:=1) GN.nd rfl (Or.inr rfl) (BK Kb hr.m hx.passes rfl (AD (AB 0) (AD AL AG))))
   (AM (LT (i:=2) GN.nd rfl (Or.inr rfl) (D3 (AD (BI DW AL (BK CT hr.m hx.passes rfl (AD (AB 1) (AD AL (AD AL AG))))) (AD (BI DW AL (BK CT hr.m hx.passes rfl (AD (AB 1) (AD AL (AD AL AG))))) AG))))
   (AM (BH (CH (EH hr.units) (BK CT hr.m hx.passes rfl (AD (AB 1) (AD AL (AD AL AG)))) AL (BR _)) (AN (LT (i:=2) GN.nd rfl (Or.inr rfl) (D3 (AD AL (AD (AY AZ (AB 2) AL (λ_ _=>rfl)) AG))))) BN)
   (AM (BZ 3 GN.nd (QW Lj hr.m hx.passes rfl (AD (AY AZ (AB 2) AL (λ_ _=>rfl)) (AD (AY AZ (AB 2) AL (λ_ _=>rfl)) AG))))
   (AM (QT (i:=4) (tn:=["block"]) (cn:=["size"]) (cap:=[2]) (EI (outer:=AT F7) (N:=["script","first","size","plank","rows","k","state","hold","cell"]) rfl rfl (by decide +kernel)) rfl GN.nd rfl rfl (E8 rfl T.FM (AD (AY AZ (AB 2) AL (λ_ _=>rfl)) AG)) (λ_ _ _ _ _ _=>(DT (i:=0) (show(["block","size"]:List Str).Nodup from by decide +kernel) rfl (Or.inl rfl))) (λ_ _ _ _ _ _=>L4) (λ_ _ _ _ _ _=>(FX (tn:=["at"]) (cn:=[]) (cap:=[]) (sE (by decide +kernel)) rfl (E8 rfl T.FM (AD (AY AZ (AB 1) AL (λ_ _=>rfl)) AG)) (λ_ _ _ _ _ _=>(DT (i:=0) (show(["at"]:List Str).Nodup from by decide +kernel) rfl (Or.inl rfl))) (λ_ _ _ _ _ _=>L4) (λ_ _ _ _ _ _=>F9))))
   (AM (C8 hx.po rfl (E8 rfl T.FM (AD (BK CT hr.m hx.passes rfl (AD (AB 1) (AD AL (AD AL AG)))) AG)) (DT (i:=5) GN.nd rfl (Or.inr rfl)) (AM (LS (FX (tn:=["at"]) (cn:=["first","k"]) (cap:=[1,5]) (EI (outer:=AT F7) (N:=["script","first","size","plank","rows","k","state","hold","cell"]) rfl rfl (by decide +kernel)) rfl (E8 rfl T.FM (AD (AY AZ (AB 2) AL (λ_ _=>rfl)) AG)) (λ_ _ _ _ _ _=>(DT (i:=0) (show(["at","first","k"]:List Str).Nodup from by decide +kernel) rfl (Or.inl rfl))) (λ_ _ _ _ _ _=>L4) (λ_ _ _ _ _ _=>(BK U1 hr.m W3 rfl (AD (BI DW (BI DW (AB 1) (BI HI AL (AB 0))) (AB 2)) AG)))) (NH (AB 4) (BI GB (AB 5) (AY AZ (AB 2) AL (λ_ _=>rfl))) N5))
   (AN (CZ (CO (AB 3) T.EM U7 hr.m hx.passes (AD (BI GB (AB 5) (AY AZ (AB 2) AL (λ_ _=>rfl))) (AD (DC GG rfl T.E4 (by rfl) (AD (AY AZ (AB 4) (BI GB (AB 5) (AY AZ (AB 2) AL (λ_ _=>rfl))) (λ_ _=>rfl)) AG)) AG)))))))
   (AM (BZ 6 GN.nd (kM (JO BE (DB AG) (JO BE WR (JO BE NV (JO BE (AB 4) (JO BE (GE (AB 3) T.EM U8 hr.m hx.passes) (JO BE (DB AG) kL)))))) rfl rfl (by simp) (by simp)))
   (AM (GY (A3 hr) (AB 6) BE (DB AG) rfl)
   (AM (BZ 7 GN.nd (QW Lh hr.m hx.passes rfl (AD (AB 3) AG)))
   (AM (C8 hx.po rfl (DD (jR lX (AB 0) (V0 AL) (V0 AL))) (CK 8 GN.nd) (AN (BH (CY (C9 (BK Km hr.m hx.passes rfl (AD (AB 7) (AD (AB 3) (AD (AB 8) (AD (AB 2) (AD (AB 6) AG)))))) (λ_=>rfl))) (AN (A1 CF)) BN)))
   (AN (A1 (BK Kg hr.m hx.passes rfl (AD (AB 7) (AD (AB 6) AG)))))))))))))))
end
end L2
namespace L2
theorem Jy(q72 q73 q74 q75 q76 q77 q78 q79:Addr):∃ a:Ad,a "HoldError"=q72/\a "NoBlock"=q73/\a "NoChange"=q74/\a "NoRoom"=q75/\a "Change"=q76/\a "Book"=q77/\a "Hold"=q78/\a "Plank"=q79 :=
 ⟨λs=>if s="HoldError" then q72 else if s="NoBlock" then q73 else if s="NoChange" then q74 else if s="NoRoom" then q75 else if s="Change" then q76 else if s="Book" then q77 else if s="Hold" then q78 else if s="Plank" then q79 else 0,by simp,by simp,by simp,by simp,by simp,by simp,by simp,by simp⟩
theorem IY{α :Type}{P:List α ->Prop}(h:∀ x0,P [x0]):∀ us:List α,us.length=1->P us
 | [],e=>by simp at e
 | [x0],_=>h x0
 | _::_::_,e=>by simp at e
theorem D6{α :Type}{P:List α ->Prop}(h:∀ x0 q6n,P [x0,q6n]):∀ us:List α,us.length=2->P us
 | [],e=>by simp at e
 | [_],e=>by simp at e
 | [x0,q6n],_=>h x0 q6n
 | _::_::_::_,e=>by simp at e
theorem HP{α :Type}{P:List α ->Prop}(h:∀ x0 q6n q6q,P [x0,q6n,q6q]):∀ us:List α,us.length=3->P us
 | [],e=>by simp at e
 | [_],e=>by simp at e
 | [_,_],e=>by simp at e
 | [x0,q6n,q6q],_=>h x0 q6n q6q
 | _::_::_::_::_,e=>by simp at e
theorem LN{α :Type}{P:List α ->Prop}(h:∀ x0 q6n q6q q6r,P [x0,q6n,q6q,q6r]):∀ us:List α,us.length=4->P us
 | [],e=>by simp at e
 | [_],e=>by simp at e
 | [_,_],e=>by simp at e
 | [_,_,_],e=>by simp at e
 | [x0,q6n,q6q,q6r],_=>h x0 q6n q6q q6r
 | _::_::_::_::_::_,e=>by simp at e
theorem Jz{α :Type}{P:List α ->Prop}(h:∀ x0 q6n q6q q6r q6s,P [x0,q6n,q6q,q6r,q6s]):∀ us:List α,us.length=5->P us
 | [],e=>by simp at e
 | [_],e=>by simp at e
 | [_,_],e=>by simp at e
 | [_,_,_],e=>by simp at e
 | [_,_,_,_],e=>by simp at e
 | [x0,q6n,q6q,q6r,q6s],_=>h x0 q6n q6q q6r q6s
 | _::_::_::_::_::_::_,e=>by simp at e
def U0(K:W.Frag):Sp:=λvs H Q _=>∃ (s:Addr) (ns:List Int),vs=[.ref s]/\SqL K H s (ns.map V.int)/\ns.length<=63/\∀ H',Q (.bl true) H'
theorem all_mk{l:W.OpenLaw}{w:World}{K:W.Frag}{h:Heap}{mg:Str->Option Value}{fa:Addr}{q72 q73 q74 q75 q76 q77 q78 q79:Addr}{q7a q7b q7c q7d q7e q7f q7g q7h q7i q7j q7k q7l q7m q7n q7o q7p q7q q7r q7s q7t q7u q7v q7w q7x q7y q7z q80 q81 q82 q83 q84 q85 q86 q87 q88 q89 q8a q8b:Addr}{q8c q9e qag qbi qck qdm q8d q9f qah qbj qcl qdn q8e q9g qai qbk qcm qdo q8f q9h qaj qbl qcn qdp q8g q9i qak qbm qco qdq q8h q9j qal qbn qcp qdr q8i q9k qam qbo qcq qds q8j q9l qan qbp qcr qdt q8k q9m qao qbq qcs qdu q8l q9n qap qbr qct qdv q8m q9o qaq qbs qcu qdw q8n q9p qar qbt qcv qdx q8o q9q qas qbu qcw qdy q8p q9r qat qbv qcx qdz q8q q9s qau qbw qcy qe0 q8r q9t qav qbx qcz qe1 q8s q9u qaw qby qd0 qe2 q8t q9v qax qbz qd1 qe3 q8u q9w qay qc0 qd2 qe4 q8v q9x qaz qc1 qd3 qe5 q8w q9y qb0 qc2 qd4 qe6 q8x q9z qb1 qc3 qd5 qe7 q8y qa0 qb2 qc4 qd6 qe8 q8z qa1 qb3 qc5 qd7 qe9 q90 qa2 qb4 qc6 qd8 qea q91 qa3 qb5 qc7 qd9 qeb q92 qa4 qb6 qc8 qda qec q93 qa5 qb7 qc9 qdb qed q94 qa6 qb8 qca qdc qee q95 qa7 qb9 qcb qdd qef q96 qa8 qba qcc qde qeg q97 qa9 qbb qcd qdf qeh q98 qaa qbc qce qdg qei q99 qab qbd qcf qdh qej q9a qac qbe qcg qdi qek q9b qad qbf qch qdj qel q9c qae qbg qci qdk qem q9d qaf qbh qcj qdl qen:Value}{qeo qfq qep qfr qeq qfs qer qft qes qfu qet qfv qeu qfw qev qfx qew qfy qex qfz qey qg0 qez qg1 qf0 qg2 qf1 qg3 qf2 qg4 qf3 qg5 qf4 qg6 qf5 qg7 qf6 qg8 qf7 qg9 qf8 qga qf9 qgb qfa qgc qfb qgd qfc qge qfd qgf qfe qgg qff qgh qfg qgi qfh qgj qfi qgk qfj qgl qfk qgm qfl qgn qfm qgo qfn qgp qfo qgq qfp qgr:Option Addr}{qgs qgt qgu qgv qgw qgx qgy qgz qh0 qh1 qh2 qh3 qh4 qh5 qh6 qh7 qh8 qh9 qha qhb qhc qhd qhe qhf qhg qhh qhi qhj qhk qhl qhm qhn qho qhp qhq qhr qhs qht:Array (Option Value)}(X:K.In h)(G:h.Ns mainGlobals mg)(hfa:mg "law"=some (.ref fa))
  (q0:W.nsIn K mainGlobals "HoldError"=some (some (.ref q72)))
  (q1:W.nsIn K mainGlobals "NoBlock"=some (some (.ref q73)))
  (q2:W.nsIn K mainGlobals "NoChange"=some (some (.ref q74)))
  (q3:W.nsIn K mainGlobals "NoRoom"=some (some (.ref q75)))
  (q4:W.nsIn K mainGlobals "Change"=some (some (.ref q76)))
  (q5:W.nsIn K mainGlobals "Book"=some (some (.ref q77)))
  (q6:W.nsIn K mainGlobals "Hold"=some (some (.ref q78)))
  (q7:W.nsIn K mainGlobals "Plank"=some (some (.ref q79)))
  (q8:W.plainGet K q76 Str.empty=true)
  (q9:W.hasDictIn K q76=true)
  (qa:W.plainOver K q76=true)
  (qb:W.findIn K (.ref q76) "__setattr__"=some (some (.builtin "object.__setattr__")))
  (qc:W.plainGet K q78 Str.empty=true)
  (qd:W.hasDictIn K q78=true)
  (qe:W.plainOver K q78=true)
  (qf:W.findIn K (.ref q78) "__setattr__"=some (some (.builtin "object.__setattr__")))
  (qg:W.plainGet K q79 Str.empty=true)
  (qh:W.hasDictIn K q79=true)
  (qi:W.plainOver K q79=true)
  (qj:W.findIn K (.ref q79) "__setattr__"=some (some (.builtin "object.__setattr__")))
  (qk:W.makesIn K q76=true)
  (ql:W.keepIn K (.ref q76)=true)
  (qm:W.makesIn K q78=true)
  (qn:W.keepIn K (.ref q78)=true)
  (qo:W.makesIn K q79=true)
  (qp:W.keepIn K (.ref q79)=true)
  (qq:W.excIn K q72 [.type "ValueError",.type "Exception",.type "BaseException",.type "object"] "ValueError.__new__"=true)
  (qr:W.excIn K q73 [.type "ValueError",.type "Exception",.type "BaseException",.type "object"] "ValueError.__new__"=true)
  (qs:W.excIn K q74 [.type "ValueError",.type "Exception",.type "BaseException",.type "object"] "ValueError.__new__"=true)
  (qt:W.excIn K q75 [.type "ValueError",.type "Exception",.type "BaseException",.type "object"] "ValueError.__new__"=true)
  (qu:W.nsIn K mainGlobals "ValueError"=some none)
  (qv:W.nsIn K mainGlobals "bool"=some none)
  (qw:W.nsIn K mainGlobals "dict"=some none)
  (qx:W.nsIn K mainGlobals "int"=some none)
  (qy:W.nsIn K mainGlobals "isinstance"=some none)
  (qz:W.nsIn K mainGlobals "len"=some none)
  (q10:W.nsIn K mainGlobals "list"=some none)
  (q11:W.nsIn K mainGlobals "max"=some none)
  (q12:W.nsIn K mainGlobals "min"=some none)
  (q13:W.nsIn K mainGlobals "range"=some none)
  (q14:W.nsIn K mainGlobals "reversed"=some none)
  (q15:W.nsIn K mainGlobals "set"=some none)
  (q16:W.nsIn K mainGlobals "sorted"=some none)
  (q17:W.nsIn K mainGlobals "str"=some none)
  (q18:W.nsIn K mainGlobals "tuple"=some none)
  (q19:W.nsIn K mainGlobals "zip"=some none)
  (q1a:W.findIn K (.ref q76) "__init__"=some (some (.ref q7a)))
  (q1b:W.isFn K (.ref q7a)=true)
  (q1c:K.lookup q7a=some ⟨q8c,qeo,.func (W.fnOf "__init__" "Change.__init__" (BM KN) (BJ KN) (AT KN) .none q9e qag qbi qfq qck qdm),qgs⟩)
  (q1d:W.codeIn K qck "Change.__init__"=true)
  (q1e:W.keepIn K (.ref q7a)=true)
  (q1f:W.findIn K (.ref q77) "waiting"=some (some (.ref q7b)))
  (q1g:W.isFn K (.ref q7b)=true)
  (q1h:K.lookup q7b=some ⟨q8d,qep,.func (W.fnOf "waiting" "Book.waiting" (BM IT) (BJ IT) (AT IT) .none q9f qah qbj qfr qcl qdn),qgt⟩)
  (q1i:W.codeIn K qcl "Book.waiting"=true)
  (q1j:W.keepIn K (.ref q7b)=true)
  (q1k:W.findIn K (.ref q77) "ask_for_changes"=some (some (.ref q7c)))
  (q1l:W.isFn K (.ref q7c)=true)
  (q1m:K.lookup q7c=some ⟨q8e,qeq,.func (W.fnOf "ask_for_changes" "Book.ask_for_changes" (BM KO) (BJ KO) (AT KO) .none q9g qai qbk qfs qcm qdo),qgu⟩)
  (q1n:W.codeIn K qcm "Book.ask_for_changes"=true)
  (q1o:W.keepIn K (.ref q7c)=true)
  (q1p:W.nsIn K mainGlobals "needs_with"=some (some (.ref q7d)))
  (q1q:K.lookup q7d=some ⟨q8f,qer,.func (W.fnOf "needs_with" "needs_with" (BM KP) (BJ KP) (AT KP) .none q9h qaj qbl qft qcn qdp),qgv⟩)
  (q1r:W.codeIn K qcn "needs_with"=true)
  (q1s:W.keepIn K (.ref q7d)=true)
  (q1t:W.findIn K (.ref q78) "lack_of"=some (some (.ref q7e)))
  (q1u:W.isFn K (.ref q7e)=true)
  (q1v:K.lookup q7e=some ⟨q8g,qes,.func (W.fnOf "lack_of" "Hold.lack_of" (BM KQ) (BJ KQ) (AT KQ) .none q9i qak qbm qfu qco qdq),qgw⟩)
  (q1w:W.codeIn K qco "Hold.lack_of"=true)
  (q1x:W.keepIn K (.ref q7e)=true)
  (q1y:W.findIn K (.ref q78) "laid_over"=some (some (.ref q7f)))
  (q1z:W.isFn K (.ref q7f)=true)
  (q20:K.lookup q7f=some ⟨q8h,qet,.func (W.fnOf "laid_over" "Hold.laid_over" (BM KR) (BJ KR) (AT KR) .none q9j qal qbn qfv qcp qdr),qgx⟩)
  (q21:W.codeIn K qcp "Hold.laid_over"=true)
  (q22:W.keepIn K (.ref q7f)=true)
  (q23:W.findIn K (.ref q79) "__init__"=some (some (.ref q7g)))
  (q24:W.isFn K (.ref q7g)=true)
  (q25:K.lookup q7g=some ⟨q8i,qeu,.func (W.fnOf "__init__" "Plank.__init__" (BM IU) (BJ IU) (AT IU) .none q9k qam qbo qfw qcq qds),qgy⟩)
  (q26:W.codeIn K qcq "Plank.__init__"=true)
  (q27:W.keepIn K (.ref q7g)=true)
  (q28:W.findIn K (.ref q79) "blocks"=some (some (.ref q7h)))
  (q29:W.isFn K (.ref q7h)=true)
  (q2a:K.lookup q7h=some ⟨q8j,qev,.func (W.fnOf "blocks" "Plank.blocks" (BM KS) (BJ KS) (AT KS) .none q9l qan qbp qfx qcr qdt),qgz⟩)
  (q2b:W.codeIn K qcr "Plank.blocks"=true)
  (q2c:W.keepIn K (.ref q7h)=true)
  (q2d:W.findIn K (.ref q79) "cells"=some (some (.ref q7i)))
  (q2e:W.isFn K (.ref q7i)=true)
  (q2f:K.lookup q7i=some ⟨q8k,qew,.func (W.fnOf "cells" "Plank.cells" (BM KU) (BJ KU) (AT KU) .none q9m qao qbq qfy qcs qdu),qh0⟩)
  (q2g:W.codeIn K qcs "Plank.cells"=true)
  (q2h:W.keepIn K (.ref q7i)=true)
  (q2i:W.findIn K (.ref q79) "writings"=some (some (.ref q7j)))
  (q2j:W.isFn K (.ref q7j)=true)
  (q2k:K.lookup q7j=some ⟨q8l,qex,.func (W.fnOf "writings" "Plank.writings" (BM KW) (BJ KW) (AT KW) .none q9n qap qbr qfz qct qdv),qh1⟩)
  (q2l:W.codeIn K qct "Plank.writings"=true)
  (q2m:W.keepIn K (.ref q7j)=true)
  (q2n:W.findIn K (.ref q79) "ask_for_block"=some (some (.ref q7k)))
  (q2o:W.isFn K (.ref q7k)=true)
  (q2p:K.lookup q7k=some ⟨q8m,qey,.func (W.fnOf "ask_for_block" "Plank.ask_for_block" (BM KY) (BJ KY) (AT KY) .none q9o qaq qbs qg0 qcu qdw),qh2⟩)
  (q2q:W.codeIn K qcu "Plank.ask_for_block"=true)
  (q2r:W.keepIn K (.ref q7k)=true)
  (q2s:W.nsIn K mainGlobals "_law_cell_at"=some (some (.ref q7l)))
  (q2t:K.lookup q7l=some ⟨q8n,qez,.func (W.fnOf "_law_cell_at" "_law_cell_at" (BM KZ) (BJ KZ) (AT KZ) .none q9p qar qbt qg1 qcv qdx),qh3⟩)
  (q2u:W.codeIn K qcv "_law_cell_at"=true)
  (q2v:W.keepIn K (.ref q7l)=true)
  (q2w:W.nsIn K mainGlobals "_law_pick"=some (some (.ref q7m)))
  (q2x:K.lookup q7m=some ⟨q8o,qf0,.func (W.fnOf "_law_pick" "_law_pick" (BM K0) (BJ K0) (AT K0) .none q9q qas qbu qg2 qcw qdy),qh4⟩)
  (q2y:W.codeIn K qcw "_law_pick"=true)
  (q2z:W.keepIn K (.ref q7m)=true)
  (q30:W.nsIn K mainGlobals "_law_whole"=some (some (.ref q7n)))
  (q31:K.lookup q7n=some ⟨q8p,qf1,.func (W.fnOf "_law_whole" "_law_whole" (BM K1) (BJ K1) (AT K1) .none q9r qat qbv qg3 qcx qdz),qh5⟩)
  (q32:W.codeIn K qcx "_law_whole"=true)
  (q33:W.keepIn K (.ref q7n)=true)
  (q34:W.nsIn K mainGlobals "_law_cut"=some (some (.ref q7o)))
  (q35:K.lookup q7o=some ⟨q8q,qf2,.func (W.fnOf "_law_cut" "_law_cut" (BM HL) (BJ HL) (AT HL) .none q9s qau qbw qg4 qcy qe0),qh6⟩)
  (q36:W.codeIn K qcy "_law_cut"=true)
  (q37:W.keepIn K (.ref q7o)=true)
  (q38:W.findIn K (.ref q77) "__init__"=some (some (.ref q7p)))
  (q39:W.isFn K (.ref q7p)=true)
  (q3a:K.lookup q7p=some ⟨q8r,qf3,.func (W.fnOf "__init__" "Book.__init__" (BM IV) (BJ IV) (AT IV) .none q9t qav qbx qg5 qcz qe1),qh7⟩)
  (q3b:W.codeIn K qcz "Book.__init__"=true)
  (q3c:W.keepIn K (.ref q7p)=true)
  (q3d:W.findIn K (.ref q77) "needed"=some (some (.ref q7q)))
  (q3e:W.isFn K (.ref q7q)=true)
  (q3f:K.lookup q7q=some ⟨q8s,qf4,.func (W.fnOf "needed" "Book.needed" (BM K3) (BJ K3) (AT K3) .none q9u qaw qby qg6 qd0 qe2),qh8⟩)
  (q3g:W.codeIn K qd0 "Book.needed"=true)
  (q3h:W.keepIn K (.ref q7q)=true)
  (q3i:W.findIn K (.ref q77) "closure"=some (some (.ref q7r)))
  (q3j:W.isFn K (.ref q7r)=true)
  (q3k:K.lookup q7r=some ⟨q8t,qf5,.func (W.fnOf "closure" "Book.closure" (BM IW) (BJ IW) (AT IW) .none q9v qax qbz qg7 qd1 qe3),qh9⟩)
  (q3l:W.codeIn K qd1 "Book.closure"=true)
  (q3m:W.keepIn K (.ref q7r)=true)
  (q3n:W.findIn K (.ref q77) "ask_for_place"=some (some (.ref q7s)))
  (q3o:W.isFn K (.ref q7s)=true)
  (q3p:K.lookup q7s=some ⟨q8u,qf6,.func (W.fnOf "ask_for_place" "Book.ask_for_place" (BM K4) (BJ K4) (AT K4) .none q9w qay qc0 qg8 qd2 qe4),qha⟩)
  (q3q:W.codeIn K qd2 "Book.ask_for_place"=true)
  (q3r:W.keepIn K (.ref q7s)=true)
  (q3s:W.findIn K (.ref q78) "outcome"=some (some (.ref q7t)))
  (q3t:W.isFn K (.ref q7t)=true)
  (q3u:K.lookup q7t=some ⟨q8v,qf7,.func (W.fnOf "outcome" "Hold.outcome" (BM K5) (BJ K5) (AT K5) .none q9x qaz qc1 qg9 qd3 qe5),qhb⟩)
  (q3v:W.codeIn K qd3 "Hold.outcome"=true)
  (q3w:W.keepIn K (.ref q7t)=true)
  (q3x:W.findIn K (.ref q79) "read"=some (some (.ref q7u)))
  (q3y:W.isFn K (.ref q7u)=true)
  (q3z:K.lookup q7u=some ⟨q8w,qf8,.func (W.fnOf "read" "Plank.read" (BM K7) (BJ K7) (AT K7) .none q9y qb0 qc2 qga qd4 qe6),qhc⟩)
  (q40:W.codeIn K qd4 "Plank.read"=true)
  (q41:W.keepIn K (.ref q7u)=true)
  (q42:W.findIn K (.ref q79) "write"=some (some (.ref q7v)))
  (q43:W.isFn K (.ref q7v)=true)
  (q44:K.lookup q7v=some ⟨q8x,qf9,.func (W.fnOf "write" "Plank.write" (BM K8) (BJ K8) (AT K8) .none q9z qb1 qc3 qgb qd5 qe7),qhd⟩)
  (q45:W.codeIn K qd5 "Plank.write"=true)
  (q46:W.keepIn K (.ref q7v)=true)
  (q47:W.nsIn K mainGlobals "_law_value"=some (some (.ref q7w)))
  (q48:K.lookup q7w=some ⟨q8y,qfa,.func (W.fnOf "_law_value" "_law_value" (BM K9) (BJ K9) (AT K9) .none qa0 qb2 qc4 qgc qd6 qe8),qhe⟩)
  (q49:W.codeIn K qd6 "_law_value"=true)
  (q4a:W.keepIn K (.ref q7w)=true)
  (q4b:W.nsIn K mainGlobals "_law_place"=some (some (.ref q7x)))
  (q4c:K.lookup q7x=some ⟨q8z,qfb,.func (W.fnOf "_law_place" "_law_place" (BM LA) (BJ LA) (AT LA) .none qa1 qb3 qc5 qgd qd7 qe9),qhf⟩)
  (q4d:W.codeIn K qd7 "_law_place"=true)
  (q4e:W.keepIn K (.ref q7x)=true)
  (q4f:W.nsIn K mainGlobals "_law_needs"=some (some (.ref q7y)))
  (q4g:K.lookup q7y=some ⟨q90,qfc,.func (W.fnOf "_law_needs" "_law_needs" (BM LB) (BJ LB) (AT LB) .none qa2 qb4 qc6 qge qd8 qea),qhg⟩)
  (q4h:W.codeIn K qd8 "_law_needs"=true)
  (q4i:W.keepIn K (.ref q7y)=true)
  (q4j:W.nsIn K mainGlobals "_law_numbers"=some (some (.ref q7z)))
  (q4k:K.lookup q7z=some ⟨q91,qfd,.func (W.fnOf "_law_numbers" "_law_numbers" (BM HM) (BJ HM) (AT HM) .none qa3 qb5 qc7 qgf qd9 qeb),qhh⟩)
  (q4l:W.codeIn K qd9 "_law_numbers"=true)
  (q4m:W.keepIn K (.ref q7z)=true)
  (q4n:W.findIn K (.ref q77) "newest"=some (some (.ref q80)))
  (q4o:W.isFn K (.ref q80)=true)
  (q4p:K.lookup q80=some ⟨q92,qfe,.func (W.fnOf "newest" "Book.newest" (BM LC) (BJ LC) (AT LC) .none qa4 qb6 qc8 qgg qda qec),qhi⟩)
  (q4q:W.codeIn K qda "Book.newest"=true)
  (q4r:W.keepIn K (.ref q80)=true)
  (q4s:W.findIn K (.ref q78) "write"=some (some (.ref q81)))
  (q4t:W.isFn K (.ref q81)=true)
  (q4u:K.lookup q81=some ⟨q93,qff,.func (W.fnOf "write" "Hold.write" (BM LD) (BJ LD) (AT LD) .none qa5 qb7 qc9 qgh qdb qed),qhj⟩)
  (q4v:W.codeIn K qdb "Hold.write"=true)
  (q4w:W.keepIn K (.ref q81)=true)
  (q4x:W.nsIn K mainGlobals "_law_told"=some (some (.ref q82)))
  (q4y:K.lookup q82=some ⟨q94,qfg,.func (W.fnOf "_law_told" "_law_told" (BM IX) (BJ IX) (AT IX) .none qa6 qb8 qca qgi qdc qee),qhk⟩)
  (q4z:W.codeIn K qdc "_law_told"=true)
  (q50:W.keepIn K (.ref q82)=true)
  (q51:W.findIn K (.ref q77) "change"=some (some (.ref q83)))
  (q52:W.isFn K (.ref q83)=true)
  (q53:K.lookup q83=some ⟨q95,qfh,.func (W.fnOf "change" "Book.change" (BM LF) (BJ LF) (AT LF) .none qa7 qb9 qcb qgj qdd qef),qhl⟩)
  (q54:W.codeIn K qdd "Book.change"=true)
  (q55:W.keepIn K (.ref q83)=true)
  (q56:W.findIn K (.ref q77) "in_hand"=some (some (.ref q84)))
  (q57:W.isFn K (.ref q84)=true)
  (q58:K.lookup q84=some ⟨q96,qfi,.func (W.fnOf "in_hand" "Book.in_hand" (BM LG) (BJ LG) (AT LG) .none qa8 qba qcc qgk qde qeg),qhm⟩)
  (q59:W.codeIn K qde "Book.in_hand"=true)
  (q5a:W.keepIn K (.ref q84)=true)
  (q5b:W.nsIn K mainGlobals "_law_refused"=some (some (.ref q85)))
  (q5c:K.lookup q85=some ⟨q97,qfj,.func (W.fnOf "_law_refused" "_law_refused" (BM LH) (BJ LH) (AT LH) .none qa9 qbb qcd qgl qdf qeh),qhn⟩)
  (q5d:W.codeIn K qdf "_law_refused"=true)
  (q5e:W.keepIn K (.ref q85)=true)
  (q5f:W.nsIn K mainGlobals "_law_same"=some (some (.ref q86)))
  (q5g:K.lookup q86=some ⟨q98,qfk,.func (W.fnOf "_law_same" "_law_same" (BM G9) (BJ G9) (AT G9) .none qaa qbc qce qgm qdg qei),qho⟩)
  (q5h:W.codeIn K qdg "_law_same"=true)
  (q5i:W.keepIn K (.ref q86)=true)
  (q5j:W.nsIn K mainGlobals "_law_changed"=some (some (.ref q87)))
  (q5k:K.lookup q87=some ⟨q99,qfl,.func (W.fnOf "_law_changed" "_law_changed" (BM LI) (BJ LI) (AT LI) .none qab qbd qcf qgn qdh qej),qhp⟩)
  (q5l:W.codeIn K qdh "_law_changed"=true)
  (q5m:W.keepIn K (.ref q87)=true)
  (q5n:W.nsIn K mainGlobals "_law_written"=some (some (.ref q88)))
  (q5o:K.lookup q88=some ⟨q9a,qfm,.func (W.fnOf "_law_written" "_law_written" (BM LK) (BJ LK) (AT LK) .none qac qbe qcg qgo qdi qek),qhq⟩)
  (q5p:W.codeIn K qdi "_law_written"=true)
  (q5q:W.keepIn K (.ref q88)=true)
  (q5r:W.nsIn K mainGlobals "_law_end"=some (some (.ref q89)))
  (q5s:K.lookup q89=some ⟨q9b,qfn,.func (W.fnOf "_law_end" "_law_end" (BM HN) (BJ HN) (AT HN) .none qad qbf qch qgp qdj qel),qhr⟩)
  (q5t:W.codeIn K qdj "_law_end"=true)
  (q5u:W.keepIn K (.ref q89)=true)
  (q5v:W.nsIn K mainGlobals "_law_step"=some (some (.ref q8a)))
  (q5w:K.lookup q8a=some ⟨q9c,qfo,.func (W.fnOf "_law_step" "_law_step" (BM LM) (BJ LM) (AT LM) .none qae qbg qci qgq qdk qem),qhs⟩)
  (q5x:W.codeIn K qdk "_law_step"=true)
  (q5y:W.keepIn K (.ref q8a)=true)
  (q5z:W.nsIn K mainGlobals "law"=some (some (.ref q8b)))
  (q60:K.lookup q8b=some ⟨q9d,qfp,.func (W.fnOf "law" "law" (BM F7) (BJ F7) (AT F7) .none qaf qbh qcj qgr qdl qen),qht⟩)
  (q61:W.codeIn K qdl "law"=true)
  (q62:W.keepIn K (.ref q8b)=true)
  (q63:W.findIn K (.ref q78) "newest"=some (some (.ref q80)))
  (q64:W.findIn K (.ref q78) "ask_for_changes"=some (some (.ref q7c)))
  (q65:W.findIn K (.ref q78) "ask_for_place"=some (some (.ref q7s)))
  (q66:W.findIn K (.ref q78) "waiting"=some (some (.ref q7b)))
  (q67:W.findIn K (.ref q78) "change"=some (some (.ref q83)))
  (q68:W.findIn K (.ref q78) "in_hand"=some (some (.ref q84)))
  (q69:W.findIn K (.ref q78) "closure"=some (some (.ref q7r)))
  (q6a:W.findIn K (.ref q78) "needed"=some (some (.ref q7q)))
  (q6b:W.findIn K (.ref q78) "__init__"=some (some (.ref q7p)))
  (q6c:W.findIn K (.ref q79) "contents"=some none)
  (q6d:W.findIn K (.ref q79) "width"=some none)
  (q6e:W.findIn K (.ref q79) "written"=some none)
  (q6f:W.findIn K (.ref q78) "ground"=some none)
  (q6g:W.findIn K (.ref q78) "made"=some none)
  (q6h:W.findIn K (.ref q78) "made_in"=some none)
  (q6i:W.findIn K (.ref q78) "latest"=some none)
  (q6j:W.findIn K (.ref q78) "outs"=some none)
  (q6k:W.findIn K (.ref q76) "place"=some none)
  (q6l:W.findIn K (.ref q76) "value"=some none)
  (q6m:W.findIn K (.ref q76) "needs"=some none)
  (q6n:W.findIn K (.ref q73) "__getattribute__"=some (some (.builtin "BaseException.__getattribute__")))
  (q6o:W.findIn K (.ref q73) "__getattr__"=some none)
  (q6p:W.mroIn K q73 (.type "BaseException")=some true)
  (q6q:W.isClsIn K q73=true)
  (q6r:W.findIn K (.ref q73) "__class__"=some (some (.builtin "object.__class__")))
  (q6s:W.specialIn K (.builtin "object.__class__") "__get__"=some (some (.builtin "getset_descriptor.__get__")))
  (q6t:W.takesIn K (.builtin "object.__class__")=some true)
  (q6u:W.mroIn K q73 (.type "object")=some true)
  (q6v:W.exmOne K (.ref q73) (.ref q72)=some true)
  (q6w:W.kitOne K (.ref q73) (.ref q73)=some true)
  (q6x:W.kitOne K (.ref q73) (.type "ValueError")=some true)
  (q6y:W.kitAny K (.ref q73) [.ref q74,.ref q75]=some false)
  (q6z:W.findIn K (.ref q78) "__class__"=some (some (.builtin "object.__class__")))
  (q70:W.mroIn K q78 (.type "object")=some true)
  (q71:W.kitOne K (.ref q78) (.ref q77)=some true) :
  ∃ fd:FuncData,(∀ (s:Shared) (v:Value),BindsTo s fd ⟨[v],[]⟩ [("script",v)])/\∀ base:Heap,K.In base->base.Ns mainGlobals mg->FnOk l.prog w K mg base (C4 l.prog w) 13 fa fd ["script"] (U0 K):=by
 obtain⟨a,rfl,rfl,rfl,rfl,rfl,rfl,rfl,rfl⟩:=Jy q72 q73 q74 q75 q76 q77 q78 q79
 have e:=hfa.symm.trans (W.mg_of X G q5z)
 cases e
 have T:Txt K mg a:=⟨⟨q8,q9,qa,qb⟩,⟨qc,qd,qe,qf⟩,⟨qg,qh,qi,qj⟩,W.mg_of X G q5,⟨_,W.mg_of X G q5,rfl⟩,W.mg_of X G q0,⟨_,W.mg_of X G q0,rfl⟩,⟨qq⟩,W.mg_of X G q1,⟨_,W.mg_of X G q1,rfl⟩,⟨qr⟩,W.mg_of X G q2,⟨_,W.mg_of X G q2,rfl⟩,⟨qs⟩,W.mg_of X G q3,⟨_,W.mg_of X G q3,rfl⟩,⟨qt⟩,W.mg_none_of X G qu,W.mg_none_of X G qv,W.mg_none_of X G qw,W.mg_none_of X G qx,W.mg_none_of X G qy,W.mg_none_of X G qz,W.mg_none_of X G q10,W.mg_none_of X G q11,W.mg_none_of X G q12,W.mg_none_of X G q13,W.mg_none_of X G q14,W.mg_none_of X G q15,W.mg_none_of X G q16,W.mg_none_of X G q17,W.mg_none_of X G q18,W.mg_none_of X G q19⟩
 have TPk:DO K a:=⟨T.EM,q6c,q6d,q6e⟩
 have TBk:YG K (a "Hold") (a "Change"):=⟨T.CW,q6f,q6g,q6h,q6i,q6j,T.Lx,q6k,q6l,q6m⟩
 have TXX:TX K a:=⟨⟨q6n,q6o,q6p,q6q,q6r,q6s,q6t,q6u⟩,q6v,q6w,q6x,q6y,λe=>.ins e T.CW q6z q6s q6t q70,q71⟩
 have qhu:=BU (st:=KN) q1c q1d q1e
 have qiw:=qhu.binds (ps:=["self","place","value","needs"]) λ_ _ _ _ _ _=>LN λ_ _ _ _=>rfl
 have qhv:=BU (st:=IT) q1h q1i q1j
 have qix:=qhv.binds (ps:=["self"]) λ_ _ _ _ _ _=>IY λ_=>rfl
 have qhw:=BU (st:=KO) q1m q1n q1o
 have qiy:=qhw.binds (ps:=["self","numbers"]) λ_ _ _ _ _ _=>D6 λ_ _=>rfl
 have qhx:=BU (st:=KP) q1q q1r q1s
 have qiz:=qhx.binds (ps:=["needs","ahead"]) λ_ _ _ _ _ _=>D6 λ_ _=>rfl
 have qhy:=BU (st:=KQ) q1v q1w q1x
 have qj0:=qhy.binds (ps:=["self","number","gone"]) λ_ _ _ _ _ _=>HP λ_ _ _=>rfl
 have qhz:=BU (st:=KR) q20 q21 q22
 have qj1:=qhz.binds (ps:=["self","values","block"]) λ_ _ _ _ _ _=>HP λ_ _ _=>rfl
 have qi0:=BU (st:=IU) q25 q26 q27
 have qj2:=qi0.binds (ps:=["self","blocks","cells"]) λ_ _ _ _ _ _=>HP λ_ _ _=>rfl
 have qi1:=BU (st:=KS) q2a q2b q2c
 have qj3:=qi1.binds (ps:=["self"]) λ_ _ _ _ _ _=>IY λ_=>rfl
 have qi2:=BU (st:=KU) q2f q2g q2h
 have qj4:=qi2.binds (ps:=["self"]) λ_ _ _ _ _ _=>IY λ_=>rfl
 have qi3:=BU (st:=KW) q2k q2l q2m
 have qj5:=qi3.binds (ps:=["self"]) λ_ _ _ _ _ _=>IY λ_=>rfl
 have qi4:=BU (st:=KY) q2p q2q q2r
 have qj6:=qi4.binds (ps:=["self","block"]) λ_ _ _ _ _ _=>D6 λ_ _=>rfl
 have qi5:=BU (st:=KZ) q2t q2u q2v
 have qj7:=qi5.binds (ps:=["script","k"]) λ_ _ _ _ _ _=>D6 λ_ _=>rfl
 have qi6:=BU (st:=K0) q2x q2y q2z
 have qj8:=qi6.binds (ps:=["cell","prime","many"]) λ_ _ _ _ _ _=>HP λ_ _ _=>rfl
 have qi7:=BU (st:=K1) q31 q32 q33
 have qj9:=qi7.binds (ps:=["found"]) λ_ _ _ _ _ _=>IY λ_=>rfl
 have qi8:=BU (st:=HL) q35 q36 q37
 have qja:=qi8.binds (ps:=["told","changes","gone"]) λ_ _ _ _ _ _=>HP λ_ _ _=>rfl
 have qi9:=BU (st:=IV) q3a q3b q3c
 have qjb:=qi9.binds (ps:=["self","plank"]) λ_ _ _ _ _ _=>D6 λ_ _=>rfl
 have qia:=BU (st:=K3) q3f q3g q3h
 have qjc:=qia.binds (ps:=["self","number"]) λ_ _ _ _ _ _=>D6 λ_ _=>rfl
 have qib:=BU (st:=IW) q3k q3l q3m
 have qjd:=qib.binds (ps:=["self","numbers"]) λ_ _ _ _ _ _=>D6 λ_ _=>rfl
 have qic:=BU (st:=K4) q3p q3q q3r
 have qje:=qic.binds (ps:=["self","place"]) λ_ _ _ _ _ _=>D6 λ_ _=>rfl
 have qid:=BU (st:=K5) q3u q3v q3w
 have qjf:=qid.binds (ps:=["self","block","taken"]) λ_ _ _ _ _ _=>HP λ_ _ _=>rfl
 have qie:=BU (st:=K7) q3z q40 q41
 have qjg:=qie.binds (ps:=["self","block"]) λ_ _ _ _ _ _=>D6 λ_ _=>rfl
 have qif:=BU (st:=K8) q44 q45 q46
 have qjh:=qif.binds (ps:=["self","block","values"]) λ_ _ _ _ _ _=>HP λ_ _ _=>rfl
 have qig:=BU (st:=K9) q48 q49 q4a
 have qji:=qig.binds (ps:=["cell"]) λ_ _ _ _ _ _=>IY λ_=>rfl
 have qih:=BU (st:=LA) q4c q4d q4e
 have qjj:=qih.binds (ps:=["cell","size"]) λ_ _ _ _ _ _=>D6 λ_ _=>rfl
 have qii:=BU (st:=LB) q4g q4h q4i
 have qjk:=qii.binds (ps:=["cell","place","changes","last"]) λ_ _ _ _ _ _=>LN λ_ _ _ _=>rfl
 have qij:=BU (st:=HM) q4k q4l q4m
 have qjl:=qij.binds (ps:=["told","changes","gone","block"]) λ_ _ _ _ _ _=>LN λ_ _ _ _=>rfl
 have qik:=BU (st:=LC) q4p q4q q4r
 have qjm:=qik.binds (ps:=["self","place"]) λ_ _ _ _ _ _=>D6 λ_ _=>rfl
 have qil:=BU (st:=LD) q4u q4v q4w
 have qjn:=qil.binds (ps:=["self","block"]) λ_ _ _ _ _ _=>D6 λ_ _=>rfl
 have qim:=BU (st:=IX) q4y q4z q50
 have qjo:=qim.binds (ps:=["hold","state","cell"]) λ_ _ _ _ _ _=>HP λ_ _ _=>rfl
 have qin:=BU (st:=LF) q53 q54 q55
 have qjp:=qin.binds (ps:=["self","place","value","needs"]) λ_ _ _ _ _ _=>LN λ_ _ _ _=>rfl
 have qio:=BU (st:=LG) q58 q59 q5a
 have qjq:=qio.binds (ps:=["self","place"]) λ_ _ _ _ _ _=>D6 λ_ _=>rfl
 have qip:=BU (st:=LH) q5c q5d q5e
 have qjr:=qip.binds (ps:=["hold","block"]) λ_ _ _ _ _ _=>D6 λ_ _=>rfl
 have qiq:=BU (st:=G9) q5g q5h q5i
 have qjs:=qiq.binds (ps:=["found","due"]) λ_ _ _ _ _ _=>D6 λ_ _=>rfl
 have qir:=BU (st:=LI) q5k q5l q5m
 have qjt:=qir.binds (ps:=["hold","cell","size","state"]) λ_ _ _ _ _ _=>LN λ_ _ _ _=>rfl
 have qis:=BU (st:=LK) q5o q5p q5q
 have qju:=qis.binds (ps:=["hold","plank","state","block"]) λ_ _ _ _ _ _=>LN λ_ _ _ _=>rfl
 have qit:=BU (st:=HN) q5s q5t q5u
 have qjv:=qit.binds (ps:=["hold","state"]) λ_ _ _ _ _ _=>D6 λ_ _=>rfl
 have qiu:=BU (st:=LM) q5w q5x q5y
 have qjw:=qiu.binds (ps:=["hold","plank","cell","size","state"]) λ_ _ _ _ _ _=>Jz λ_ _ _ _ _=>rfl
 have qiv:=BU (st:=F7) q60 q61 q62
 have qjx:=qiv.binds (ps:=["script"]) λ_ _ _ _ _ _=>IY λ_=>rfl
 refine⟨W.fnOf "law" "law" (BM F7) (BJ F7) (AT F7) .none qaf qbh qcj qgr qdl qen,λs v=>.of_eq rfl,λbase _ _=> ?_⟩
 have qjy:=Fk l.prog w base T qhu
 have qjz:=Fm l.prog w base T qhv
 have qk0:=Fp l.prog w base T qhw
 have qk1:=Fv l.prog w base T qhx
 have qk2:=Fw l.prog w base T qhy
 have qk3:=Fx l.prog w base T qhz
 have qk4:=Fz l.prog w base T qi0
 have qk5:=Gc l.prog w base T qi1
 have qk6:=Gg l.prog w base T qi2
 have qk7:=Gj l.prog w base T qi3
 have qk8:=Gm l.prog w base T qi4
 have qk9:=Gq l.prog w base T qi5
 have qka:=Gv l.prog w base T qi6
 have qkb:=Gx l.prog w base T qi7
 have qkc:=Gy l.prog w base T qi8
 have qkd:=Hb l.prog w base T qi9 ⟨_,_,qk5,⟨q28,q29,q2c⟩,qj3⟩
 have qke:=Hd l.prog w base T qia ⟨_,_,qk0,⟨q64,q1l,q1o⟩,qiy⟩
 have qkf:=Hg l.prog w base T qib ⟨_,_,qk0,⟨q64,q1l,q1o⟩,qiy⟩ ⟨_,_,qjz,⟨q66,q1g,q1j⟩,qix⟩
 have qkg:=Hj l.prog w base T qic ⟨_,_,qk6,⟨q2d,q2e,q2h⟩,qj4⟩ ⟨_,_,qk5,⟨q28,q29,q2c⟩,qj3⟩
 have qkh:=Hk l.prog w base T qid ⟨_,_,qk2,⟨q1t,q1u,q1x⟩,qj0⟩
 have qki:=Hm l.prog w base T qie ⟨_,_,qk8,⟨q2n,q2o,q2r⟩,qj6⟩
 have qkj:=Hv l.prog w base T qif ⟨_,_,qk8,⟨q2n,q2o,q2r⟩,qj6⟩
 have qkk:=Hw l.prog w base T qig ⟨_,_,qka,W.mg_of X G q2w,q2z,qj8⟩
 have qkl:=Hy l.prog w base T qih ⟨_,_,qka,W.mg_of X G q2w,q2z,qj8⟩
 have qkm:=Hz l.prog w base T qii ⟨_,_,qka,W.mg_of X G q2w,q2z,qj8⟩
 have qkn:=Jb l.prog w base T qij ⟨_,_,qkb,W.mg_of X G q30,q33,qj9⟩
 have qko:=Jd l.prog w base T qik ⟨_,_,qkg,⟨q65,q3o,q3r⟩,qje⟩
 have qkp:=Jg l.prog w base T qil ⟨_,_,qki,⟨q3x,q3y,q41⟩,qjg⟩ ⟨_,_,qkh,⟨q3s,q3t,q3w⟩,qjf⟩ ⟨_,_,qkj,⟨q42,q43,q46⟩,qjh⟩ ⟨_,_,qk3,⟨q1y,q1z,q22⟩,qj1⟩
 have qkq:=Jh l.prog w base T qim ⟨_,_,qjz,⟨q66,q1g,q1j⟩,qix⟩ ⟨_,_,qka,W.mg_of X G q2w,q2z,qj8⟩ ⟨_,_,qkf,⟨q69,q3j,q3m⟩,qjd⟩ ⟨_,_,qke,⟨q6a,q3e,q3h⟩,qjc⟩
 have qkr:=Jj l.prog w base T qin ⟨_,_,qko,⟨q63,q4o,q4r⟩,qjm⟩ ⟨_,_,qk0,⟨q64,q1l,q1o⟩,qiy⟩ ⟨_,_,qk1,W.mg_of X G q1p,q1s,qiz⟩ ⟨_,_,qjy,⟨qk,q1a,q1b,ql⟩,W.mg_of X G q4,qiw⟩
 have qks:=Jk l.prog w base T qio ⟨_,_,qko,⟨q63,q4o,q4r⟩,qjm⟩ ⟨_,_,qki,⟨q3x,q3y,q41⟩,qjg⟩
 have qkt:=Jl l.prog w base T qip ⟨_,_,qkp,⟨q4s,q4t,q4w⟩,qjn⟩
 have qmy:∀ n:Nat,FnOk l.prog w K mg base (C4 l.prog w) (n+2) q86 (W.fnOf "_law_same" "_law_same" (BM G9) (BJ G9) (AT G9) .none qaa qbc qce qgm qdg qei) ["found","due"] (DS K a n):=by
  intro n
  induction n with
  | zero=>exact qiq.none PL (λ_ _ _ _ h=>Cp h)
  | succ n ih =>
   have qlw:=ih
   exact(by have z:=Jm l.prog w base T qiq ⟨_,_,qlw,W.mg_of X G q5f,q5i,qjs⟩ ⟨_,_,qkb,W.mg_of X G q30,q33,qj9⟩;rw[show n+1+2=n+2+1 from by omega];exact z)
 have qku:FnOk l.prog w K mg base (C4 l.prog w) 10 q86 _ ["found","due"] (DS K a 8):=(qmy 8)
 have qkv:=Jp l.prog w base T qir ⟨_,_,qkl,W.mg_of X G q4b,q4e,qjj⟩ ⟨_,_,qkk,W.mg_of X G q47,q4a,qji⟩ ⟨_,_,qkm,W.mg_of X G q4f,q4i,qjk⟩ ⟨_,_,qkr,⟨q67,q52,q55⟩,qjp⟩ ⟨_,_,qks,⟨q68,q57,q5a⟩,qjq⟩ ⟨_,_,qku,W.mg_of X G q5f,q5i,qjs⟩ ⟨_,_,qkb,W.mg_of X G q30,q33,qj9⟩
 have qkw:=Jq l.prog w base T qis ⟨_,_,qkp,⟨q4s,q4t,q4w⟩,qjn⟩ ⟨_,_,qkn,W.mg_of X G q4j,q4m,qjl⟩ ⟨_,_,qkc,W.mg_of X G q34,q37,qja⟩ ⟨_,_,qki,⟨q3x,q3y,q41⟩,qjg⟩ ⟨_,_,qku,W.mg_of X G q5f,q5i,qjs⟩
 have qkx:=Jv l.prog w base T qit ⟨_,_,qks,⟨q68,q57,q5a⟩,qjq⟩ ⟨_,_,qku,W.mg_of X G q5f,q5i,qjs⟩ ⟨_,_,qko,⟨q63,q4o,q4r⟩,qjm⟩ ⟨_,_,qke,⟨q6a,q3e,q3h⟩,qjc⟩ ⟨_,_,qjz,⟨q66,q1g,q1j⟩,qix⟩
 have qky:=Jw l.prog w base T qiu ⟨_,_,qka,W.mg_of X G q2w,q2z,qj8⟩ ⟨_,_,qkt,W.mg_of X G q5b,q5e,qjr⟩ ⟨_,_,qkw,W.mg_of X G q5n,q5q,qju⟩ ⟨_,_,qkv,W.mg_of X G q5j,q5m,qjt⟩ ⟨_,_,qki,⟨q3x,q3y,q41⟩,qjg⟩ ⟨_,_,qku,W.mg_of X G q5f,q5i,qjs⟩ ⟨_,_,qkq,W.mg_of X G q4x,q50,qjo⟩ ⟨_,_,qk7,⟨q2i,q2j,q2m⟩,qj5⟩
 have qkz:=Jx l.prog w base T qiv ⟨_,_,qk9,W.mg_of X G q2s,q2v,qj7⟩ ⟨_,_,qka,W.mg_of X G q2w,q2z,qj8⟩ ⟨_,_,qk4,⟨qo,q23,q24,qp⟩,W.mg_of X G q7,qj2⟩ ⟨_,_,qkk,W.mg_of X G q47,q4a,qji⟩ ⟨_,_,qkj,⟨q42,q43,q46⟩,qjh⟩ ⟨_,_,qk7,⟨q2i,q2j,q2m⟩,qj5⟩ ⟨_,_,qkd,⟨qm,q6b,q39,qn⟩,W.mg_of X G q6,qjb⟩ ⟨_,_,qky,W.mg_of X G q5v,q5y,qjw⟩ ⟨_,_,qkx,W.mg_of X G q5r,q5u,qjv⟩
 exact qkz.imp (λvs H Q E ⟨s,ns,e,hs,hn,q⟩=>⟨s,ns,e,⟨TBk,TPk,TXX⟩,hs,hn,q⟩)
theorem walk{l:W.OpenLaw}{q:Program}{loose:List Str}{XP:(Str->Option Value)->Heap->Prop}{YP:World->Heap->Prop}{d:DefRec}{K:Params->W.Frag}(hn:l.most=some 63)(hdf:d.params.defaults=[])
  (hY:∀ (w:World) (h:Heap),YP w h->(K w.params).In h)
  (F:∀ (w:World) (mg:Str->Option Value) (fa:Addr) (h:Heap),(K w.params).In h->h.Ns mainGlobals mg->mg d.name=some (.ref fa) →
   ∃ fd:FuncData,(∀ (s:Shared) (u:Value),BindsTo s fd ⟨[u],[]⟩ [("script",u)])/\∀ base:Heap,(K w.params).In base->base.Ns mainGlobals mg->FnOk l.prog w (K w.params) mg base (C4 l.prog w) 13 fa fd ["script"] (U0 (K w.params))) :
  W.WalkO q loose XP YP l.row.toRowW d [] (λf vs=>PySem.call f vs) :=
 L2.walk_of (n:=63) (k:=13) (x:="script") (CX:=λw=>C4 l.prog w) (sp:=λw=>U0 (K w.params)) hn (by decide) hdf ⟨rfl,by decide,by decide⟩ hY F (λ_ _ a ns hl _ hS=>⟨a,ns,rfl,hS,hl,λ_=>rfl⟩) λ_ _ _ _ _ z=>W2 z
end L2
namespace PySem.W.Fast
def tw14611602156913622678:=()
def tw12802736649312070248:=()
def tw3650804819842778808:=()
def tw5126649287149132442:=()
def tw17446822717847298628:=()
def tw4366211864949850568:=()
def tw6577264753589119917:=()
def tw10164824832320612253:=()
def tw13527819522131964859:=()
def tw13077272550167668468:=()
def tw2560806162322163164:=()
def tw12366078040082637171:=()
def tw10520356088401700770:=()
def tw12112933077915788561:=()
def tw10127119852307961462:=()
def tw2061659648800202136:=()
def tw16076396146905666210:=()
def tw17543078190561872666:=()
def tw4642046840458010667:=()
def tw2497357533841081773:=()
def tw10390211173466359172:=()
def tw12211443395875493851:=()
def tw6395040238261031322:=()
def tw15726571558457521964:=()
def tw2221129935676280477:=()
def tw8621122424128945649:=()
def tw17382773395806557042:=()
def tw9713192876025734872:=()
def tw9413156311744811644:=()
def tw17091952548313735687:=()
def tw16599260731777992338:=()
def tw6042443365495944021:=()
def tw5481836073671588451:=()
def tw12781951470093143029:=()
def tw13592852917240954323:=()
def tw15435550171358179661:=()
def tw14847035177383095533:=()
def tw10925280843085682216:=()
def tw1456932553232624280:=()
def tw3508412279797576257:=()
def tw16855399727560017812:=()
def tw1878035678897853701:=()
def tw14868923565782357805:=()
def tw16208019494611301720:=()
def tw16491107972569086311:=()
def tw4932694996205488668:=()
def tw8839724928892462680:=()
def tw17188649802963483011:=()
def tw240796241821415382:=()
def tw10032009996406585756:=()
def tw17293819316114830595:=()
def tw6138823905684136059:=()
def tw10106818468864094884:=()
def tw10703678827421350581:=()
def tw8536974812302509901:=()
def tw8031489195078251883:=()
def tw4341355471659011900:=()
def tw6943769010978667303:=()
def tw8872579199939397071:=()
def tw13400861246596612097:=()
def tw10699389349377077261:=()
def tw3175194159047006364:=()
def tw2815683697133579232:=()
def tw16113383054822590029:=()
def tw3543064660134079406:=()
def tw5642653653886754506:=()
def tw16881532586133761077:=()
def tw1456334542854668884:=()
def tw7096299880691505503:=()
def tw17657441891132226793:=()
def tw13328577987529716224:=()
def tw9569825006924350722:=()
def tw16373164985793743261:=()
def tw6226143934062307667:=()
def tw10962551014704058163:=()
def tw15223760454900133325:=()
def tw16709572201295941025:=()
def tw17860920707784530291:=()
def tw2678004723371628746:=()
def tw617019716101302656:=()
def tw17902414566470427067:=()
def tw4444029843806308430:=()
def tw12851806762887162876:=()
def tw15664595928272042483:=()
def tw5281069812364569425:=()
def tw12158806223061915242:=()
def tw14885118804900550372:=()
def tw10850526824274808045:=()
def tw14607815617608167711:=()
def tw9717280946344469963:=()
def tw7657050954311949627:=()
def tw6152516359275199711:=()
def tw9254301531724277942:=()
def tw2911986994412607638:=()
def tw13062815969269014241:=()
def tw11855339222682763756:=()
def tw9720369045566027308:=()
def tw2578774980774662715:=()
def tw12042126810380940534:=()
def tw18301011482879732071:=()
def tw6529814608253689289:=()
def tw2052611232131627866:=()
def tw16242931121360175440:=()
def tw2285074036224762159:=()
def tw804686767515806249:=()
def tw9491630170578181369:=()
def tw8751846231545102683:=()
def tw5190673435349905128:=()
def tw3683022250454439096:=()
def tw15066972486345621199:=()
def tw6360739233510958768:=()
def tw13182373847211511803:=()
def tw17668519169222440982:=()
def tw15464940004723080190:=()
def tw15065991168269519735:=()
def tw15416725217257773544:=()
def tw3686437252561757335:=()
def tw18430043881272201240:=()
def tw6743212277708281621:=()
def tw374791253973773366:=()
def tw5135446292897271416:=()
def tw6695721204405592630:=()
def tw14178909739827822207:=()
def tw4632893209133933606:=()
def tw2565732359089055441:=()
def tw2446408772879821441:=()
def tw5316848816922811183:=()
def tw2264082629859296068:=()
def tw5326268646136388435:=()
def tw3833411532079187036:=()
def tw14093109041579258162:=()
def tw15752394156459219758:=()
def tw12292224081157047121:=()
def tw4145201198529025257:=()
def tw18075926489395750794:=()
def tw17588864652619861750:=()
def tw14940291706988443869:=()
def tw3460773047446935432:=()
def tw11929364022178146973:=()
def tw6823466163108129761:=()
def tw10839982649090998256:=()
def tw301946442884687609:=()
def tw9302449195808180574:=()
def tw8024269649575599333:=()
def tw1326921963980696763:=()
def tw3252228348076507012:=()
def tw3696897133392129015:=()
def tw841660689024222012:=()
def tw6251346309386448465:=()
def tw15651212697546281236:=()
def tw15685998279282955301:=()
def tw18200049929240856240:=()
def tw12297669177067649709:=()
def tw2115865267966135020:=()
def tw15657808620246616647:=()
def tw11286070914074208313:=()
def tw10020797873784116370:=()
def tw5716290416083592726:=()
def tw2388315089168928081:=()
def tw18037778600441301770:=()
def tw6683915724716676176:=()
def tw17390014761869470277:=()
def tw8381459156453621525:=()
def tw13144174130691932078:=()
def tw9156161135397680418:=()
def tw218679778095029833:=()
def tw18156195623129195339:=()
def tw2245819687013404493:=()
def tw8453563233373938858:=()
def tw4963659060087672519:=()
def tw8021939701709118423:=()
def tw756099080234754592:=()
def tw14432203950713575858:=()
def tw3897988678399403667:=()
def tw16156162744281958979:=()
def tw16501565477267067734:=()
def tw4988353564591179731:=()
def tw8982350191843438340:=()
def tw8667866431919209140:=()
def tw5660845484063865741:=()
def tw6631747206181278420:=()
def tw4830378970892400371:=()
def tw7111114492144471871:=()
def tw16326393002518650155:=()
def tw16482043247655324524:=()
def tw11086913472811022516:=()
def tw4933053059389186153:=()
def tw10112617121197818797:=()
def tw17141968474541825351:=()
def tw14760690048962828024:=()
def tw10591541804125622448:=()
def tw10094939043093551884:=()
def tw6598966670620766910:=()
def tw10477480324560779883:=()
def tw3695327079125889382:=()
def tw13000042315101766456:=()
def tw7854057148961686559:=()
def tw823403611156113405:=()
def tw3117200573712386137:=()
def tw14100494805939778042:=()
def tw17436610359000586838:=()
def tw2716139287933069108:=()
def tw7756293614352975263:=()
def tw10814105002041826760:=()
def tw8713478578926505537:=()
def tw14603956857859604505:=()
def tw14208076617656493381:=()
def tw2347593279919156987:=()
def tw11458761899551118908:=()
def tw14347707699718382304:=()
def tw15983948924655019271:=()
def tw13479986368757803316:=()
def tw10662150964719051246:=()
def tw11541082402366087186:=()
def tw7064197253046197172:=()
def tw561626503630687204:=()
def tw12573768894618873510:=()
def tw12795640444056532195:=()
def tw9753916849439431231:=()
def tw15876258247168002085:=()
def tw1932499370204863845:=()
def tw6186933285974977420:=()
def tw9051021397444866284:=()
def tw15164567269671791535:=()
def tw1595799481598064906:=()
def tw5232525176501758008:=()
def tw17433971785940796811:=()
def tw15599709065831766919:=()
def tw16435595396231678000:=()
def tw3127563504073462094:=()
def tw6046665015564087356:=()
def tw2904966376224484427:=()
def tw11884829952150944246:=()
def tw18391632544010623845:=()
def tw17536339450349250625:=()
def tw15163810089787019223:=()
def tw14613119000464129188:=()
def tw6533518642875113949:=()
def tw13743831675819241792:=()
def tw13371621230947185551:=()
def tw7916945102880774960:=()
def tw13849879855333732059:=()
def tw11025695869003527306:=()
def tw18410043295786209389:=()
def tw17757748734803504152:=()
def tw16577740938297280064:=()
def tw5936727388614307797:=()
def tw4270732877050394447:=()
def tw17662421309648796549:=()
def tw11910805227532168528:=()
def tw6950372739762960333:=()
def tw18166314946959887783:=()
def tw12258434616173898716:=()
def tw11333939184591319006:=()
def tw13702643077206071443:=()
def tw9553949353781942710:=()
def tw416278375357700130:=()
def tw11346499643108391905:=()
def tw8698018671192062315:=()
def tw8387083952404025502:=()
def tw16645205829113514719:=()
def tw4989010047762433933:=()
def tw14790914379469397537:=()
def tw10746355163407690981:=()
def tw7539664833089117069:=()
def tw1757152286845698017:=()
def tw16155816276515395354:=()
def tw3773638707447521672:=()
def tw4825644467395578977:=()
def tw9562611896716908531:=()
def tw11830666476710612195:=()
def tw8728610116356360447:=()
def tw3747287337150692941:=()
def tw7446307478198113636:=()
def tw1013907675472025416:=()
def tw5665389066102335229:=()
def tw4562001657680693907:=()
def tw18257111613707943743:=()
def tw2201486335678776834:=()
def tw18171291769663027750:=()
def tw15788229235144507020:=()
def tw1611936397474985939:=()
def tw2870530053024872127:=()
def tw7180548551016210305:=()
def tw17344371114350124155:=()
def tw15318123765229493972:=()
def tw8567580045753254857:=()
def tw16081521579275969418:=()
def tw4440542648711283349:=()
def tw5192620299960533304:=()
def tw5040523378156980639:=()
def tw4543726114354846444:=()
def tw13181096972544034822:=()
def tw8955479848828344830:=()
def tw6113947403071316535:=()
def tw7130073966609359165:=()
def tw15216235880677648818:=()
def tw14591184574306714254:=()
def tw1590967944373568929:=()
def tw12451500432841898760:=()
def tw13786184710007784033:=()
def tw17256274015458189179:=()
def tw13237922721775184481:=()
def tw11900988969192248783:=()
def tw8311449746270010527:=()
def tw13131886560598153680:=()
def tw5958601570846904058:=()
def tw15092803590490959852:=()
def tw3951710876523147433:=()
def tw14610568104140788050:=()
def tw5458246494603267201:=()
def tw607982874309081040:=()
def tw13512528436517027019:=()
def tw13810575087305430185:=()
def tw4548274493286902869:=()
def tw1088550619085644742:=()
def tw11380165122606813992:=()
def tw16949663275849276500:=()
def tw17168575188260285927:=()
def tw14241650528105612965:=()
def tw2090646873190619684:=()
def tw8973215289667140437:=()
def tw11336937281994717302:=()
def tw7797060976241381136:=()
def tw239383061877467980:=()
def tw10648108536793375054:=()
def tw2405559281009722859:=()
def tw5714339182487151804:=()
def tw5681082253848428024:=()
def tw2829700924964713440:=()
def tw16937673908384668814:=()
def tw14079236180148500021:=()
def tw3312970420798942523:=()
def tw6416529385923045823:=()
def tw1224579992236352377:=()
def tw11180029314991527291:=()
def tw14685031297026674374:=()
def tw9280627099257994510:=()
def tw11100751697960767267:=()
def tw15677215373548479038:=()
def tw15902281198022433229:=()
def tw15755153498762000082:=()
def tw13234939120078466531:=()
def tw415585552183440223:=()
def tw5311108598510438557:=()
def tw11419165548900792783:=()
def tw13382679908198015130:=()
def tw2497372700545964458:=()
def tw9880333046871761156:=()
def tw12773222501914690980:=()
def tw9316593896125009706:=()
def tw14703113683246629371:=()
def tw9815912538887410017:=()
def tw13942603924005724165:=()
def tw14441810974162837660:=()
def tw2803208141589382326:=()
def tw457562901919397109:=()
def tw4309220748426922746:=()
def tw3316078278766894677:=()
end PySem.W.Fast
open PySem PySem.W PyProof.Rows
set_option Elab.async false
set_option maxRecDepth 100000 in
set_option maxHeartbeats 0 in
theorem PySem.Challenge.cw_holdback_k22_whole_a_cut_is_shown_holds : PySem.Challenge.rw_holdback_k22_whole_a_cut_is_shown.Holds := by
 w_on;o_law;k_head;(case hw=>w_witness2)
 k_fill
 refine L2.walk (l:=PySem.Challenge.rw_holdback_k22_whole_a_cut_is_shown) rfl rfl (λw h Y=>PySem.W.kIn_of Y) ?F
 case F =>
  intro w mg fa h KX G hmg
  refine' L2.all_mk KX G hmg ?q0 ?q1 ?q2 ?q3 ?q4 ?q5 ?q6 ?q7 ?q8 ?q9 ?qa ?qb ?qc ?qd ?qe ?qf ?qg ?qh ?qi ?qj ?qk ?ql ?qm ?qn ?qo ?qp ?qq ?qr ?qs ?qt ?qu ?qv ?qw ?qx ?qy ?qz ?q10 ?q11 ?q12 ?q13 ?q14 ?q15 ?q16 ?q17 ?q18 ?q19 ?q1a ?q1b ?q1c ?q1d ?q1e ?q1f ?q1g ?q1h ?q1i ?q1j ?q1k ?q1l ?q1m ?q1n ?q1o ?q1p ?q1q ?q1r ?q1s ?q1t ?q1u ?q1v ?q1w ?q1x ?q1y ?q1z ?q20 ?q21 ?q22 ?q23 ?q24 ?q25 ?q26 ?q27 ?q28 ?q29 ?q2a ?q2b ?q2c ?q2d ?q2e ?q2f ?q2g ?q2h ?q2i ?q2j ?q2k ?q2l ?q2m ?q2n ?q2o ?q2p ?q2q ?q2r ?q2s ?q2t ?q2u ?q2v ?q2w ?q2x ?q2y ?q2z ?q30 ?q31 ?q32 ?q33 ?q34 ?q35 ?q36 ?q37 ?q38 ?q39 ?q3a ?q3b ?q3c ?q3d ?q3e ?q3f ?q3g ?q3h ?q3i ?q3j ?q3k ?q3l ?q3m ?q3n ?q3o ?q3p ?q3q ?q3r ?q3s ?q3t ?q3u ?q3v ?q3w ?q3x ?q3y ?q3z ?q40 ?q41 ?q42 ?q43 ?q44 ?q45 ?q46 ?q47 ?q48 ?q49 ?q4a ?q4b ?q4c ?q4d ?q4e ?q4f ?q4g ?q4h ?q4i ?q4j ?q4k ?q4l ?q4m ?q4n ?q4o ?q4p ?q4q ?q4r ?q4s ?q4t ?q4u ?q4v ?q4w ?q4x ?q4y ?q4z ?q50 ?q51 ?q52 ?q53 ?q54 ?q55 ?q56 ?q57 ?q58 ?q59 ?q5a ?q5b ?q5c ?q5d ?q5e ?q5f ?q5g ?q5h ?q5i ?q5j ?q5k ?q5l ?q5m ?q5n ?q5o ?q5p ?q5q ?q5r ?q5s ?q5t ?q5u ?q5v ?q5w ?q5x ?q5y ?q5z ?q60 ?q61 ?q62 ?q63 ?q64 ?q65 ?q66 ?q67 ?q68 ?q69 ?q6a ?q6b ?q6c ?q6d ?q6e ?q6f ?q6g ?q6h ?q6i ?q6j ?q6k ?q6l ?q6m ?q6n ?q6o ?q6p ?q6q ?q6r ?q6s ?q6t ?q6u ?q6v ?q6w ?q6x ?q6y ?q6z ?q70 ?q71
  (case q0=>k_is)
  (case q1=>k_is)
  (case q2=>k_is)
  (case q3=>k_is)
  (case q4=>k_is)
  (case q5=>k_is)
  (case q6=>k_is)
  (case q7=>k_is)
  (case q8=>k_is)
  (case q9=>k_is)
  (case qa=>k_is)
  (case qb=>k_is)
  (case qc=>k_is)
  (case qd=>k_is)
  (case qe=>k_is)
  (case qf=>k_is)
  (case qg=>k_is)
  (case qh=>k_is)
  (case qi=>k_is)
  (case qj=>k_is)
  (case qk=>k_is)
  (case ql=>k_is)
  (case qm=>k_is)
  (case qn=>k_is)
  (case qo=>k_is)
  (case qp=>k_is)
  (case qq=>k_exc)
  (case qr=>k_exc)
  (case qs=>k_exc)
  (case qt=>k_exc)
  (case qu=>k_is)
  (case qv=>k_is)
  (case qw=>k_is)
  (case qx=>k_is)
  (case qy=>k_is)
  (case qz=>k_is)
  (case q10=>k_is)
  (case q11=>k_is)
  (case q12=>k_is)
  (case q13=>k_is)
  (case q14=>k_is)
  (case q15=>k_is)
  (case q16=>k_is)
  (case q17=>k_is)
  (case q18=>k_is)
  (case q19=>k_is)
  (case q1a=>k_is)
  (case q1b=>k_is)
  (case q1c=>k_is)
  (case q1d=>k_is)
  (case q1e=>k_is)
  (case q1f=>k_is)
  (case q1g=>k_is)
  (case q1h=>k_is)
  (case q1i=>k_is)
  (case q1j=>k_is)
  (case q1k=>k_is)
  (case q1l=>k_is)
  (case q1m=>k_is)
  (case q1n=>k_is)
  (case q1o=>k_is)
  (case q1p=>k_is)
  (case q1q=>k_is)
  (case q1r=>k_is)
  (case q1s=>k_is)
  (case q1t=>k_is)
  (case q1u=>k_is)
  (case q1v=>k_is)
  (case q1w=>k_is)
  (case q1x=>k_is)
  (case q1y=>k_is)
  (case q1z=>k_is)
  (case q20=>k_is)
  (case q21=>k_is)
  (case q22=>k_is)
  (case q23=>k_is)
  (case q24=>k_is)
  (case q25=>k_is)
  (case q26=>k_is)
  (case q27=>k_is)
  (case q28=>k_is)
  (case q29=>k_is)
  (case q2a=>k_is)
  (case q2b=>k_is)
  (case q2c=>k_is)
  (case q2d=>k_is)
  (case q2e=>k_is)
  (case q2f=>k_is)
  (case q2g=>k_is)
  (case q2h=>k_is)
  (case q2i=>k_is)
  (case q2j=>k_is)
  (case q2k=>k_is)
  (case q2l=>k_is)
  (case q2m=>k_is)
  (case q2n=>k_is)
  (case q2o=>k_is)
  (case q2p=>k_is)
  (case q2q=>k_is)
  (case q2r=>k_is)
  (case q2s=>k_is)
  (case q2t=>k_is)
  (case q2u=>k_is)
  (case q2v=>k_is)
  (case q2w=>k_is)
  (case q2x=>k_is)
  (case q2y=>k_is)
  (case q2z=>k_is)
  (case q30=>k_is)
  (case q31=>k_is)
  (case q32=>k_is)
  (case q33=>k_is)
  (case q34=>k_is)
  (case q35=>k_is)
  (case q36=>k_is)
  (case q37=>k_is)
  (case q38=>k_is)
  (case q39=>k_is)
  (case q3a=>k_is)
  (case q3b=>k_is)
  (case q3c=>k_is)
  (case q3d=>k_is)
  (case q3e=>k_is)
  (case q3f=>k_is)
  (case q3g=>k_is)
  (case q3h=>k_is)
  (case q3i=>k_is)
  (case q3j=>k_is)
  (case q3k=>k_is)
  (case q3l=>k_is)
  (case q3m=>k_is)
  (case q3n=>k_is)
  (case q3o=>k_is)
  (case q3p=>k_is)
  (case q3q=>k_is)
  (case q3r=>k_is)
  (case q3s=>k_is)
  (case q3t=>k_is)
  (case q3u=>k_is)
  (case q3v=>k_is)
  (case q3w=>k_is)
  (case q3x=>k_is)
  (case q3y=>k_is)
  (case q3z=>k_is)
  (case q40=>k_is)
  (case q41=>k_is)
  (case q42=>k_is)
  (case q43=>k_is)
  (case q44=>k_is)
  (case q45=>k_is)
  (case q46=>k_is)
  (case q47=>k_is)
  (case q48=>k_is)
  (case q49=>k_is)
  (case q4a=>k_is)
  (case q4b=>k_is)
  (case q4c=>k_is)
  (case q4d=>k_is)
  (case q4e=>k_is)
  (case q4f=>k_is)
  (case q4g=>k_is)
  (case q4h=>k_is)
  (case q4i=>k_is)
  (case q4j=>k_is)
  (case q4k=>k_is)
  (case q4l=>k_is)
  (case q4m=>k_is)
  (case q4n=>k_is)
  (case q4o=>k_is)
  (case q4p=>k_is)
  (case q4q=>k_is)
  (case q4r=>k_is)
  (case q4s=>k_is)
  (case q4t=>k_is)
  (case q4u=>k_is)
  (case q4v=>k_is)
  (case q4w=>k_is)
  (case q4x=>k_is)
  (case q4y=>k_is)
  (case q4z=>k_is)
  (case q50=>k_is)
  (case q51=>k_is)
  (case q52=>k_is)
  (case q53=>k_is)
  (case q54=>k_is)
  (case q55=>k_is)
  (case q56=>k_is)
  (case q57=>k_is)
  (case q58=>k_is)
  (case q59=>k_is)
  (case q5a=>k_is)
  (case q5b=>k_is)
  (case q5c=>k_is)
  (case q5d=>k_is)
  (case q5e=>k_is)
  (case q5f=>k_is)
  (case q5g=>k_is)
  (case q5h=>k_is)
  (case q5i=>k_is)
  (case q5j=>k_is)
  (case q5k=>k_is)
  (case q5l=>k_is)
  (case q5m=>k_is)
  (case q5n=>k_is)
  (case q5o=>k_is)
  (case q5p=>k_is)
  (case q5q=>k_is)
  (case q5r=>k_is)
  (case q5s=>k_is)
  (case q5t=>k_is)
  (case q5u=>k_is)
  (case q5v=>k_is)
  (case q5w=>k_is)
  (case q5x=>k_is)
  (case q5y=>k_is)
  (case q5z=>k_is)
  (case q60=>k_is)
  (case q61=>k_is)
  (case q62=>k_is)
  (case q63=>k_is)
  (case q64=>k_is)
  (case q65=>k_is)
  (case q66=>k_is)
  (case q67=>k_is)
  (case q68=>k_is)
  (case q69=>k_is)
  (case q6a=>k_is)
  (case q6b=>k_is)
  (case q6c=>k_is)
  (case q6d=>k_is)
  (case q6e=>k_is)
  (case q6f=>k_is)
  (case q6g=>k_is)
  (case q6h=>k_is)
  (case q6i=>k_is)
  (case q6j=>k_is)
  (case q6k=>k_is)
  (case q6l=>k_is)
  (case q6m=>k_is)
  (case q6n=>k_is)
  (case q6o=>k_is)
  (case q6p=>k_is)
  (case q6q=>k_is)
  (case q6r=>k_is)
  (case q6s=>k_is)
  (case q6t=>k_is)
  (case q6u=>k_is)
  (case q6v=>kts_exm)
  (case q6w=>kit_is)
  (case q6x=>kit_is)
  (case q6y=>kit_is)
  (case q6z=>k_is)
  (case q70=>k_is)
  (case q71=>kit_is)
