import PyProof.Rows.All
import Wide.All
import OpenK.AllK
import Wide.FinOn
import Lean
import PyProof.EqAt
import PyProof.EqKinds
import PyProof.TupleCall
import PyProof.SetScanFacts
import PyProof.Rows.SetFrom
import PyProof.Rows.SortWalk
import PyProof.CollectWalk
import PyProof.DictWalks
import PySem.Challenge.RW_holdback_k75_refused_by_deeds
set_option linter.all false
set_option maxRecDepth 100000
set_option maxHeartbeats 8000000
open PySem PySem.Spec PyProof.Rows
set_option Elab.async false
namespace L2
abbrev AO:=Sum Int Str
def KU:AO->Value->Bool
 | .inl k,v=>Value.isInt k v
 | .inr x,v=>Value.isStrOf x v
def sN(w:World):AO->Int
 | .inl k=>hashInt k
 | .inr x=>hashStr w x
theorem HS:∀ {k:AO} {v:Value},KU k v=true->(∃ i t,k=Sum.inl i/\v=Value.int i t)\/(∃ x t,k=Sum.inr x/\v=Value.str x t)
 | .inl i,v,h=>by
  obtain⟨t,e⟩:=Value.isInt_shape (k:=i) (v:=v) h
  exact .inl ⟨i,t,rfl,e⟩
 | .inr x,v,h=>by
  obtain⟨t,e⟩:=Value.isStrOf_shape (x:=x) (v:=v) h
  exact .inr ⟨x,t,rfl,e⟩
theorem sO(i:Int)(t:Tok):KU (.inl i) (.int i t)=true:=by simp[KU,Value.isInt]
theorem sP(x:Str)(t:Tok):KU (.inr x) (.str x t)=true:=by simp[KU,Value.isStrOf]
theorem sQ(a b:Int):decide ((Sum.inl a:AO)=Sum.inl b)=(a == b):=by
 by_cases e:a=b
 ·subst e;simp
 ·have h:¬ (Sum.inl a:AO)=Sum.inl b:=λq=>e (Sum.inl.inj q)
  rw[decide_eq_false h]
  exact(beq_eq_false_iff_ne.mpr e).symm
theorem sR(a b:Str):decide ((Sum.inr a:AO)=Sum.inr b)=decide (a=b):=by
 by_cases e:a=b
 ·subst e;simp
 ·have h:¬ (Sum.inr a:AO)=Sum.inr b:=λq=>e (Sum.inr.inj q)
  rw[decide_eq_false h,decide_eq_false e]
theorem sS(a:Int)(b:Str):decide ((Sum.inl a:AO)=Sum.inr b)=false:=decide_eq_false (λq=>nomatch q)
theorem sT(a:Str)(b:Int):decide ((Sum.inr a:AO)=Sum.inl b)=false:=decide_eq_false (λq=>nomatch q)
def EX(prog:Program)(w:World):PySem.KeyKind prog w AO where
 is:=KU
 hash:=sN w
 inj:=λv a b ha hb=>by
  rcases HS ha with⟨i,t,rfl,rfl⟩ | ⟨x,t,rfl,rfl⟩
  ·rcases HS hb with⟨j,u,rfl,e⟩ | ⟨y,u,rfl,e⟩
   ·injection e with e1 _;rw[e1]
   ·exact nomatch e
  ·rcases HS hb with⟨j,u,rfl,e⟩ | ⟨y,u,rfl,e⟩
   ·exact nomatch e
   ·injection e with e1 _;rw[e1]
 byValue:=λk v h=>by
  rcases HS h with⟨i,t,rfl,rfl⟩ | ⟨x,t,rfl,rfl⟩<;>rfl
 pyHash:=λhv h=>by
  rcases HS hv with⟨i,t,rfl,rfl⟩ | ⟨x,t,rfl,rfl⟩
  ·exact wpAny_pyHash_int h
  ·exact wpAny_pyHash_str h
 eqBool:=λhu hv h=>by
  rcases HS hu with⟨i,t,rfl,rfl⟩ | ⟨x,t,rfl,rfl⟩
  ·rcases HS hv with⟨j,u,rfl,rfl⟩ | ⟨y,u,rfl,rfl⟩
   ·rw[sQ]at h;exact wpAny_eqBool_int h
   ·rw[sS]at h;exact SeqAt.EqAt.int_str i t y u _ _ _ _ h
  ·rcases HS hv with⟨j,u,rfl,rfl⟩ | ⟨y,u,rfl,rfl⟩
   ·rw[sT]at h;exact SeqAt.EqAt.str_int x t j u _ _ _ _ h
   ·rw[sR]at h;exact wpAny_eqBool_str h
 «strs» :=λk x t v h=>by
  rcases HS h with⟨i,u,rfl,e⟩ | ⟨y,u,rfl,e⟩
  ·exact nomatch e
  ·injection e with e1 _
   subst e1
   cases v<;>rfl
theorem sU(prog:Program)(w:World)(i:Int)(t:Tok):(EX prog w).is (.inl i) (.int i t)=true:=sO i t
theorem sV(prog:Program)(w:World)(x:Str)(t:Tok):(EX prog w).is (.inr x) (.str x t)=true:=sP x t
end L2
namespace L2
inductive V where
 | non | bl (b:Bool) | int (i:Int) | str (x:Str) | byt (b:Array UInt8) | flt (b:UInt64) | ref (a:Addr) | ty (n:String)
 deriving DecidableEq
def RelV:V->Value->Prop
 | .non,u=>u=Value.none
 | .bl b,u=>u=Value.bool b
 | .int i,u=>∃ t,u=Value.int i t
 | .str x,u=>∃ t,u=Value.str x t
 | .byt b,u=>∃ t,u=Value.bytes b t
 | .flt b,u=>∃ t,u=Value.float b t
 | .ref a,u=>u=Value.ref a
 | .ty n,u=>u=Value.type n
abbrev Vals:List V->List Value->Prop:=Paired RelV
theorem Vals.length{xs:List V}{us:List Value}(r:Vals xs us):xs.length=us.length:=Paired.length r
theorem Vals.get:∀ {xs:List V} {us:List Value} {i:Nat} {x:V},Vals xs us->xs[i]? =some x->∃ u,us[i]? =some u/\RelV x u
 | _,_,_,_,.nil,e=>by simp at e
 | _,_,0,_,.cons r _,e=>by simp at e;subst e;exact⟨_,rfl,r⟩
 | _,_,i+1,x,.cons _ t,e=>by
  obtain⟨u,h1,h2⟩:=Vals.get (i:=i) (x:=x) t (by simpa using e)
  exact⟨u,by simpa using h1,h2⟩
theorem Vals.set{x:V}{u:Value}(r:RelV x u):∀ {xs:List V} {us:List Value} (i:Nat),Vals xs us->Vals (xs.set i x) (us.set i u)
 | _,_,_,.nil=>.nil
 | _,_,0,.cons _ t=>.cons r t
 | _,_,i+1,.cons q t=>.cons q (Vals.set r i t)
theorem Vals.append:∀ {xs ys:List V} {us ws:List Value},Vals xs us->Vals ys ws->Vals (xs++ys) (us++ws)
 | _,_,_,_,.nil,s=>s
 | _,_,_,_,.cons r t,s=>.cons r (Vals.append t s)
theorem Vals.take:∀ {xs:List V} {us:List Value} (n:Nat),Vals xs us->Vals (xs.take n) (us.take n)
 | _,_,0,_=>.nil
 | _,_,_+1,.nil=>.nil
 | _,_,n+1,.cons r t=>.cons r (Vals.take n t)
theorem Vals.drop:∀ {xs:List V} {us:List Value} (n:Nat),Vals xs us->Vals (xs.drop n) (us.drop n)
 | _,_,0,r=>r
 | _,_,_+1,.nil=>.nil
 | _,_,n+1,.cons _ t=>Vals.drop n t
theorem Vals.none_of:∀ {xs:List V} {us:List Value} {i:Nat},Vals xs us->xs[i]? =none->us[i]? =none:=λ{xs us i} r e=>by
 have h1:=r.length
 have h2:xs.length<=i:=List.getElem?_eq_none_iff.mp e
 exact List.getElem?_eq_none_iff.mpr (by omega)
def RelO:Option V->Option Value->Prop
 | some v,some u=>RelV v u
 | none,none=>True
 | _,_=>False
def KV{κ :Type}:List (κ × V)->List (κ × Value)->Prop:=Paired λ(p: κ × V) (q: κ × Value)=>p.1=q.1/\RelV p.2 q.2
def kV:AO->V
 | .inl i=>.int i
 | .inr x=>.str x
inductive HO where
 /-- a list -/
 | lst (xs:List V)
 /-- a tuple (never changes) -/
 | tup (xs:List V)
 /-- a dict whose keys are ints and texts;one whose keys are tuples of ints and texts (the empty one is both) -/
 | dK (AD:List (AO × V)) | dT (AD:List (List AO × V))
 /-- a set of ints: its members,its size -/
 | set (S:Int->Bool) (n:Nat)
 /-- an instance of the class at C,its dict at dx,its attributes -/
 | ins (C dx:Addr) (fs:List (Str × V))
 /-- the dict of the instance at x -/
 | own (x:Addr)
 /-- the dict of an exception -/
 | xd (fs:List (Str × V))
 /-- a bound method,f of x -/
 | met (f x:Addr)
 /-- a range object lo,lo+1,.. below hi -/
 | rng (lo hi:Int)
 /-- a thing that is known to the object (the script;a dict while a loop walks it): read,never written while it is so -/
 | frz (o:Obj) (u:HO)
 /-- a code object's table -/
 | tbl (ps:Array Value)
 /-- any other thing,by what is true of its one object (a def of one's own: SetO a S n:=HO.ext λh=>..) -/
 | ext (φ :Heap->Prop)
abbrev Hp:=Addr->Option HO
def upd(H:Hp)(a:Addr)(o:HO):Hp:=λb=>if b=a then some o else H b
theorem AG{H:Hp}{a:Addr}{o:HO}:upd H a o a=some o:=by unfold upd;rw[if_pos rfl]
theorem AK{H:Hp}{a b:Addr}{o:HO}(h:b≠a):upd H a o b=H b:=by unfold upd;rw[if_neg h]
theorem GA{H:Hp}{a:Addr}{o u:HO}:upd (upd H a o) a u=upd H a u:=by
 funext b;unfold upd;split<;>rfl
theorem DF{H:Hp}{a b:Addr}{o u:HO}(h:H a=some o)(h':H b=some u)(d:o≠u):a≠b:=by
 intro e;subst e;rw[h]at h';exact d (Option.some.inj h')
theorem BN{H:Hp}{a b:Addr}{o:HO}(h:H a=some o)(h':H b=none):a≠b:=by
 intro e;subst e;rw[h]at h';cases h'
section
variable(P:Program)(w:World)
def ObjOk(H:Hp)(h:Heap)(a:Addr):HO->Prop
 | .lst xs=>xs.length<=sizeLine/\∃ (its:List Value) (n:Nat),Vals xs its/\h.get? a=some { cls:=.type "list",data:=.seq its.toArray n }
 | .tup xs=>xs.length<=sizeLine/\∃ its:List Value,Vals xs its/\IsTup h a its.toArray
 | .dK AD=>AD.length<=sizeLine/\(a == sysModules)=false/\∃ vs,KV AD vs/\h.DictOf (EX P w) a vs
 | .dT AD=>AD.length<=sizeLine/\(a == sysModules)=false/\∃ xs:List (List AO × Addr × Value),
   Paired (λ(p:List AO × V) (q:List AO × Addr × Value)=>p.1=q.1/\H q.2.1=some (.tup (p.1.map kV))/\RelV p.2 q.2.2) AD xs ∧
   ∃ o es ep,h.get? a=some o/\o.ExactDict/\o.data=.dict es ep/\es.toList=xs.map (entryOfKey (tupleKind (EX P w)))/\(xs.map (·.1)).Nodup
 | .set S n=>h.SetOf (intKind P w) a S n
 | .ins C dx fs=>H dx=some (.own a)/\fs.length<=1000/\dx≠a/\h.get? a=some (W.instObj C dx) ∧
   ∃ mA,h.Ns1 dx mA/\(∀ f,RelO (fs.lookup f) (mA f))/\PySem.Within mA (fs.map (·.1))
 | .own _=>∃ o,h.get? a=some o
 | .xd fs=>∃ mA,h.Ns1 a mA/\∀ f,RelO (fs.lookup f) (mA f)
 | .rng lo hi=>∃ t u v,h.get? a=some { cls:=.type "range",data:=.fields #[.int lo t,.int hi u,.int 1 v] }
 | .frz o u=>h.get? a=some o/\ObjOk H h a u
 | .tbl ps=>h.get? a=some { cls:=.none,data:=.fields ps }
 | .met f x=>h.get? a=some (W.methodObj (.ref f) (.ref x))
 | .ext φ => φ h/\(∃ o,h.get? a=some o)/\∀ h1 h2:Heap,φ h1->(∀ o,h1.get? a=some o->h2.get? a=some o)-> φ h2
def HOk(H:Hp)(h:Heap):Prop:=∀ a o,H a=some o->ObjOk P w H h a o
end
section
variable{P:Program}{w:World}{H H':Hp}{h h':Heap}{a:Addr}{o:HO}
theorem ObjOk.lt(x:ObjOk P w H h a o):a<h.objs.size:=by
 cases o with
 | lst xs=>obtain⟨_,_,_,_,e⟩:=x;exact Heap.lt_size e
 | tup xs=>obtain⟨_,_,_,p⟩:=x;exact p.lt
 | dK AD=>obtain⟨_,_,_,_,o,_,_,e,_⟩:=x;exact Heap.lt_size e
 | dT AD=>obtain⟨_,_,_,_,o,_,_,e,_⟩:=x;exact Heap.lt_size e
 | set S n=>obtain⟨o,_,_,_,e,_⟩:=x;exact Heap.lt_size e
 | ins C dx fs=>obtain⟨_,_,_,e,_⟩:=x;exact Heap.lt_size e
 | own y=>obtain⟨_,e⟩:=x;exact Heap.lt_size e
 | xd fs=>obtain⟨_,⟨_,_,_,e,_⟩,_⟩:=x;exact Heap.lt_size e
 | rng lo hi=>obtain⟨_,_,_,e⟩:=x;exact Heap.lt_size e
 | frz ob u=>obtain⟨e,_⟩:=x;exact Heap.lt_size e
 | tbl ps=>exact Heap.lt_size (show h.get? a=some _ from x)
 | met f y=>exact Heap.lt_size (show h.get? a=some _ from x)
 | ext φ =>obtain⟨_,⟨_,e⟩,_⟩:=x;exact Heap.lt_size e
theorem Paired.mapP{α β :Type}{F G: α -> β ->Prop}:∀ {l₁:List α} {l₂:List β},Paired F l₁ l₂->(∀ a b,F a b->G a b)->Paired G l₁ l₂
 | _,_,.nil,_=>.nil
 | _,_,.cons r t,f=>.cons (f _ _ r) (Paired.mapP t f)
theorem ObjOk.stay(x:ObjOk P w H h a o)(k:∀ b u,(b=a\/H b=some (.own a))->h.get? b=some u->h'.get? b=some u)
  (ho:∀ b,H b=some (.own a)->H' b=some (.own a)) (ht:∀ b xs,H b=some (.tup xs)->H' b=some (.tup xs)):ObjOk P w H' h' a o:=by
 induction o with
 | lst xs=>obtain⟨z,its,n,r,e⟩:=x;exact⟨z,its,n,r,k _ _ (.inl rfl) e⟩
 | tup xs=>obtain⟨z,its,r,ob,e,c⟩:=x;exact⟨z,its,r,ob,k _ _ (.inl rfl) e,c⟩
 | dK AD=>obtain⟨z,y,vs,r,ob,es,ep,e,c⟩:=x;exact⟨z,y,vs,r,ob,es,ep,k _ _ (.inl rfl) e,c⟩
 | dT AD =>
  obtain⟨z,y,xs,r,ob,es,ep,e,c⟩:=x
  exact⟨z,y,xs,Paired.mapP r λp q z=>⟨z.1,ht _ _ z.2.1,z.2.2⟩,ob,es,ep,k _ _ (.inl rfl) e,c⟩
 | set S n=>obtain⟨ob,es,ep,t,e,c⟩:=x;exact⟨ob,es,ep,t,k _ _ (.inl rfl) e,c⟩
 | ins C dx fs =>
  obtain⟨d,z,ne,e,mA,⟨od,es,ep,e2,c⟩,r⟩:=x
  exact⟨ho _ d,z,ne,k _ _ (.inl rfl) e,mA,⟨od,es,ep,k _ _ (.inr d) e2,c⟩,r⟩
 | own y=>obtain⟨ob,e⟩:=x;exact⟨ob,k _ _ (.inl rfl) e⟩
 | xd fs=>obtain⟨mA,⟨od,es,ep,e,c⟩,r⟩:=x;exact⟨mA,⟨od,es,ep,k _ _ (.inl rfl) e,c⟩,r⟩
 | rng lo hi=>obtain⟨t,u,v,e⟩:=x;exact⟨t,u,v,k _ _ (.inl rfl) e⟩
 | frz ob u ih=>obtain⟨e,q⟩:=x;exact⟨k _ _ (.inl rfl) e,ih q⟩
 | tbl ps =>
  have e:h.get? a=some { cls:=.none,data:=.fields ps }:=x
  show h'.get? a=some { cls:=.none,data:=.fields ps }
  exact k a _ (.inl rfl) e
 | met f y =>
  have e:h.get? a=some (W.methodObj (.ref f) (.ref y)):=x
  show h'.get? a=some (W.methodObj (.ref f) (.ref y))
  exact k a _ (.inl rfl) e
 | ext φ =>obtain⟨p,⟨o,e⟩,st⟩:=x;exact⟨st _ _ p λo q=>k _ _ (.inl rfl) q,⟨o,k _ _ (.inl rfl) e⟩,st⟩
theorem HOk.lt(x:HOk P w H h)(e:H a=some o):a<h.objs.size:=(x a o e).lt
theorem HOk.fresh(x:HOk P w H h)(e:h.objs.size<=a):H a=none:=by
 cases q:H a with
 | none=>rfl
 | some u=>exact absurd (Nat.lt_of_lt_of_le (x.lt q) e) (Nat.lt_irrefl _)
theorem HOk.kept(x:HOk P w H h)(k:∀ b u,h.get? b=some u->h'.get? b=some u):HOk P w H h':=λa o e =>
 (x a o e).stay (λb u _ q=>k b u q) (λ_ q=>q) λ_ _ q=>q
theorem HOk.laid(x:HOk P w H h)(k:∀ b u,h.get? b=some u->h'.get? b=some u)(hp:h.objs.size<=a)(new:ObjOk P w (upd H a o) h' a o):HOk P w (upd H a o) h':=λb u e=>by
 have hn:=x.fresh hp
 by_cases hb:b=a
 ·subst hb;rw[AG]at e;cases e;exact new
 ·rw[AK hb]at e
  exact(x b u e).stay (λc v _ q=>k c v q) (λc q=>by rw[AK (BN q hn)];exact q) λc xs q=>by rw[AK (BN q hn)];exact q
end
def Rd(H:Hp)(a:Addr)(u:HO):Prop:=H a=some u\/∃ o,H a=some (.frz o u)
theorem Rd.of{H:Hp}{a:Addr}{u:HO}(h:H a=some u):Rd H a u:=.inl h
theorem Rd.ok{P:Program}{w:World}{H:Hp}{h:Heap}{a:Addr}{u:HO}(r:Rd H a u)(x:HOk P w H h):ObjOk P w H h a u:=by
 rcases r with r | ⟨o,r⟩
 ·exact x a u r
 ·obtain⟨_,q⟩:=x a _ r
  exact q
def MY:Option HO->Prop
 | some (.lst _)=>True
 | some (.dK _)=>True
 | some (.dT _)=>True
 | some (.set _ _)=>True
 | some (.ins _ _ _)=>True
 | some (.ext _)=>True
 | _=>False
section
variable{P:Program}{w:World}{H:Hp}{h h':Heap}{x e:Addr}{o':HO}
theorem HOk.write(ok:HOk P w H h)(mu:MY (H x))(he:e=x\/H e=some (.own x))(k:∀ b u,b≠e->h.get? b=some u->h'.get? b=some u)(heo:∃ u,h'.get? e=some u)
  (new:ObjOk P w (upd H x o') h' x o'):HOk P w (upd H x o') h':=λb u q=>by
 have nown:∀ c y,H c=some (.own y)->c≠x:=λc y r z=>by subst z;rw[r]at mu;exact mu
 have ntup:∀ c xs,H c=some (.tup xs)->c≠x:=λc xs r z=>by subst z;rw[r]at mu;exact mu
 by_cases hb:b=x
 ·subst hb;rw[AG]at q;cases q;exact new
 ·rw[AK hb]at q
  by_cases hbe:b=e
  ·have q':H b=some (.own x):=by
    rcases he with z | z
    ·exact absurd (hbe.trans z) hb
    ·rw[hbe];exact z
   rw[q]at q';cases q'
   obtain⟨v,hv⟩:=heo
   exact⟨v,by rw[hbe];exact hv⟩
  ·refine(ok b u q).stay (λc v hc r=>k c v ?_ r) (λc r=>by rw[AK (nown c b r)];exact r) λc xs r=>by rw[AK (ntup c xs r)];exact r
   rcases hc with rfl | hc
   ·exact hbe
   ·rintro rfl
    rcases he with z | z
    ·exact nown c b hc z
    ·rw[hc]at z;cases z;exact hb rfl
end
structure Un(fs ex:List Addr)(H H':Hp)(h h':Heap):Prop where
 keep:∀ b o,h.get? b=some o->H b=none->b∉fs->b∉ex->h'.get? b=some o
 slot:∀ b o,h.get? b=some o->H b=none->b∈fs->b∉ex->∃ sl,h'.get? b=some { o with slots:=sl }
 free:∀ b o,h.get? b=some o->H b=none->b∉ex->H' b=none
 there:∀ b o,h.get? b=some o->b∉ex->∃ o',h'.get? b=some o'
 tups:∀ b xs,H b=some (.tup xs)->H' b=some (.tup xs)
 frzs:∀ b o u,H b=some (.frz o u)->H' b=some (.frz o u)
 tbls:∀ b ps,H b=some (.tbl ps)->∃ more,H' b=some (.tbl (ps++more))
section
variable{fs fs' ex ex':List Addr}{H H1 H2:Hp}{h h1 h2 h':Heap}{a x e:Addr}{o:HO}
theorem Un.any(u:Un fs ex H H1 h h1){b:Addr}{ob:Obj}(q:h.get? b=some ob)(n:H b=none)(hx:b∉ex):∃ sl,h1.get? b=some { ob with slots:=sl }:=by
 by_cases hb:b∈fs
 ·exact u.slot b ob q n hb hx
 ·exact⟨ob.slots,u.keep b ob q n hb hx⟩
theorem Un.trans(a:Un fs ex H H1 h h1)(b:Un fs ex H1 H2 h1 h2):Un fs ex H H2 h h2 where
 keep:=λc ob q n hc hx=>b.keep c ob (a.keep c ob q n hc hx) (a.free c ob q n hx) hc hx
 slot:=λc ob q n hc hx=>by
  obtain⟨sl,e1⟩:=a.slot c ob q n hc hx
  obtain⟨sl',e2⟩:=b.slot c _ e1 (a.free c ob q n hx) hc hx
  exact⟨sl',e2⟩
 free:=λc ob q n hx=>by
  obtain⟨o',e1⟩:=a.there c ob q hx
  exact b.free c o' e1 (a.free c ob q n hx) hx
 there:=λc ob q hx=>by
  obtain⟨o',e1⟩:=a.there c ob q hx
  exact b.there c o' e1 hx
 tups:=λc xs q=>b.tups c xs (a.tups c xs q)
 frzs:=λc ob xs q=>b.frzs c ob xs (a.frzs c ob xs q)
 tbls:=λc ps q=>by
  obtain⟨m1,e1⟩:=a.tbls c ps q
  obtain⟨m2,e2⟩:=b.tbls c _ e1
  exact⟨m1++m2,by rw[e2,Array.append_assoc]⟩
theorem Un.kept(k:∀ b u,h.get? b=some u->h'.get? b=some u):Un fs ex H H h h' :=
 ⟨λb ob q _ _ _=>k b ob q,λb ob q _ _ _=>⟨ob.slots,k b ob q⟩,λ_ _ _ n _=>n,λb ob q _=>⟨ob,k b ob q⟩,λ_ _ q=>q,λ_ _ _ q=>q,λ_ ps q=>⟨#[],by rw[q];simp⟩⟩
theorem Un.refl:Un fs ex H H h h:=Un.kept λ_ _ q=>q
theorem Un.laid(k:∀ b u,h.get? b=some u->h'.get? b=some u)(hp:h.objs.size<=a)(hn:H a=none):Un fs ex H (upd H a o) h h' where
 keep:=λb u q _ _ _=>k b u q
 slot:=λb u q _ _ _=>⟨u.slots,k b u q⟩
 free:=λb u q n _=>by rw[AK (Nat.ne_of_lt (Nat.lt_of_lt_of_le (Heap.lt_size q) hp))];exact n
 there:=λb u q _=>⟨u,k b u q⟩
 tups:=λb xs q=>by rw[AK (BN q hn)];exact q
 frzs:=λb u xs q=>by rw[AK (BN q hn)];exact q
 tbls:=λb ps q=>⟨#[],by rw[AK (BN q hn),q];simp⟩
theorem Un.write(mu:MY (H x))(he:e=x\/H e=some (.own x))(k:∀ b u,b≠e->h.get? b=some u->h'.get? b=some u)(heo:∃ u,h'.get? e=some u):Un fs ex H (upd H x o) h h':=by
 have hx:∀ b,H b=none->b≠x:=λb n z=>by subst z;rw[n]at mu;exact mu
 have hb:∀ b,H b=none->b≠e:=λb n z=>by
  subst z
  rcases he with r | r
  ·exact hx b n r
  ·rw[n]at r;cases r
 have hm:∀ b u,H b=some u->¬ MY (some u)->b≠x:=λb u q nm z=>by subst z;rw[q]at mu;exact nm mu
 refine⟨λb u q n _ _=>k b u (hb b n) q,λb u q n _ _=>⟨u.slots,k b u (hb b n) q⟩,λb u q n _=>by rw[AK (hx b n)];exact n,λb u q _=> ?_,
  λb xs q=>by rw[AK (hm b _ q λz=>z)];exact q,λb u xs q=>by rw[AK (hm b _ q λz=>z)];exact q,λb ps q=>⟨#[],by rw[AK (hm b _ q λz=>z),q];simp⟩⟩
 by_cases hbe:b=e
 ·subst hbe;exact heo
 ·exact⟨u,k b u hbe q⟩
theorem Un.mono(u:Un fs ex H H1 h h1)(hs:∀ b∈fs,b∈fs')(hx:∀ b∈ex,b∈ex'):Un fs' ex' H H1 h h1 :=
 ⟨λb ob q n hb he=>u.keep b ob q n (λz=>hb (hs b z)) λz=>he (hx b z),λ_ _ q n _ he=>u.any q n λz=>he (hx _ z),λb ob q n he=>u.free b ob q n λz=>he (hx b z),λb ob q he=>u.there b ob q λz=>he (hx b z),u.tups,u.frzs,u.tbls⟩
end
def O4(h:Heap)(H:Hp):List Addr:=(List.range h.objs.size).filter λa=>(H a).isSome
def HU(h:Heap)(H:Hp):Heap:=W.hideAll h (O4 h H)
theorem sW(h:Heap)(H:Hp):(HU h H).objs.size=h.objs.size:=W.hideAll_size _ _
theorem sX{h:Heap}{H:Hp}{b:Addr}{o:Obj}(e:h.get? b=some o)(n:H b=none):(HU h H).get? b=some o :=
 W.hideAll_get _ e λhm=>by
  have q:(H b).isSome=true:=(List.mem_filter.mp hm).2
  rw[n]at q;simp at q
theorem sY{h:Heap}{H:Hp}{b:Addr}{o:Obj}(e:(HU h H).get? b=some o):h.get? b=some o/\H b=none:=by
 have e':h.get? b=some o:=W.of_hideAll (O4 h H) e
 refine⟨e',?_⟩
 cases q:H b with
 | none=>rfl
 | some x =>
  have hm:b∈O4 h H:=List.mem_filter.mpr ⟨List.mem_range.mpr (Heap.lt_size e'),by simp[q]⟩
  have z:(HU h H).get? b=none:=W.hideAll_none (O4 h H) hm
  rw[z]at e;cases e
def sZ(g h:Heap)(L:Addr):List (Addr × Obj):=(List.range h.objs.size).filterMap λa=>if a=L\/(g.get? a).isSome=true then none else(h.get? a).map λo=>(a,o)
def rest(g h:Heap)(L d:Addr):List (Addr × Obj):=(sZ g h L).filter λp=>decide (p.1≠d)
end L2
namespace L2
structure Mod(K:W.Frag)(mg:Str->Option Value)(base:Heap):Prop where
 kin:K.In base
 glob:base.Ns mainGlobals mg
 blt:∃ mb,base.Ns builtinsNs mb/\∀ x:Str,x≠"__name__"->mb x=bootBuiltins x
 nolimit:base.NoLimit
structure Cx where
 prog:Program
 w:World
 K:W.Frag
 mg:Str->Option Value
 base:Heap
 A:Around
 N:List Str
 s₀:Shared
 H₀:Hp
 env:Env
 outer:List Env
 stack:List Env
 ex:List Addr
 fn:Str->Bool
 calm:Bool
 pn:List (Addr × Obj)
 xe:Value->Shared->Prop
def DW(l:List Env):List Addr:=l.filterMap (·.frame)
abbrev Cx.fs(X:Cx):List Addr:=DW X.outer
def SD(sc:Scope)(x:Str):Prop:=sc.names.lookup x=some .local\/sc.names.lookup x=some .cell\/sc.names.lookup x=some .free
def KW(sc:Scope)(x:Str):Prop:=sc.names.lookup x=some .local\/sc.names.lookup x=some .cell
def tD(env:Env)(h:Heap)(m:Str->Option Value)(x:Str)(u:Value):Prop :=
 (env.kindOf x=some .local/\m x=some u)\/((env.kindOf x=some .cell\/env.kindOf x=some .free)/\∃ c,env.cells.lookup x=some c/\h.IsCell c (some u))
structure Cx.Ok(X:Cx):Prop where
 mod:Mod X.K X.mg X.base
 kind:X.env.scope.kind=.function
 glob:X.env.globals=mainGlobals
 blt:X.env.builtins=builtinsNs
 above:X.s₀.heap.objs.size<=X.env.locals
 inj:∀ x y c,X.env.cells.lookup x=some c->X.env.cells.lookup y=some c->x=y
 has:∀ x,(X.env.kindOf x=some .cell\/X.env.kindOf x=some .free)->∃ c,X.env.cells.lookup x=some c
 cab:∀ x c,X.fn x=true->X.env.cells.lookup x=some c->X.s₀.heap.objs.size<=c
 hd:X.calm=true->X.A.handled=none
 frames:X.A.frames=some X.stack
 stk:X.stack=X.outer\/(X.stack=X.env::X.outer/\X.env.frame=some X.env.locals)
 exf:∀ b∈X.ex,b≠X.env.locals/\∀ x c,X.env.cells.lookup x=some c->c≠b
 bs:∀ b o,X.base.get? b=some o->X.s₀.heap.get? b=some o/\X.H₀ b=none
 bsz:X.base.objs.size<=X.s₀.heap.objs.size
 noex:∀ b o,X.base.get? b=some o->b∉X.ex
 exfs:∀ b∈X.ex,b∉X.fs
 funs:X.s₀.heap.FunFrames X.base X.outer
 frf:∀ b∈X.fs,X.H₀ b=none
structure Inv(X:Cx)(AA:List (Addr × Obj))(σ:List (Option V))(H:Hp)(s:Shared):Prop where
 ok:X.Ok
 os:s.os=X.s₀.os
 bare:AllBare s.gens
 base:Un X.fs X.ex X.H₀ H X.s₀.heap s.heap
 loc:∃ m,s.heap.Ns X.env.locals m/\∀ (i:Nat) (x:Str) (v:V),X.N[i]? =some x->σ[i]? =some (some v)->SD X.env.scope x->∃ u,RelV v u/\tD X.env s.heap m x u
 cell:∀ x c,X.env.cells.lookup x=some c->∃ v,s.heap.IsCell c v
 free:H X.env.locals=none
 freeC:∀ x c,X.env.cells.lookup x=some c->H c=none
 pin:∀ p∈X.pn++AA,s.heap.get? p.1=some p.2/\H p.1=none/\p.1≠X.env.locals/\p.1∉X.fs/\∀ v,p.2.data≠.cell v
 hok:HOk X.prog X.w H s.heap
 len:σ.length=X.N.length
section
variable{X:Cx}{AA:List (Addr × Obj)}{σ:List (Option V)}{H H':Hp}{s:Shared}{h':Heap}
theorem Cx.Ok.nofr(ok:X.Ok){b:Addr}{o:Obj}(e:X.base.get? b=some o):b∉X.fs:=λhb=>by
 have:=(ok.funs.mem hb).1
 rw[e]at this;cases this
theorem Inv.bs(I:Inv X AA σ H s):∀ b o,X.base.get? b=some o->s.heap.get? b=some o/\H b=none:=λb o e =>
 ⟨I.base.keep b o (I.ok.bs b o e).1 (I.ok.bs b o e).2 (I.ok.nofr e) (I.ok.noex b o e),I.base.free b o (I.ok.bs b o e).1 (I.ok.bs b o e).2 (I.ok.noex b o e)⟩
theorem Inv.bk(I:Inv X AA σ H s):∀ b o,X.base.get? b=some o->s.heap.get? b=some o:=λb o e=>(I.bs b o e).1
theorem Inv.mod(I:Inv X AA σ H s):Mod X.K X.mg X.base:=I.ok.mod
theorem Inv.kIn(I:Inv X AA σ H s):X.K.In s.heap:=I.ok.mod.kin.keeps I.bk
theorem Inv.nolimit(I:Inv X AA σ H s):s.heap.NoLimit:=I.ok.mod.nolimit.keeps I.bk
theorem Inv.fr(I:Inv X AA σ H s):∃ m,Fr X.base X.env.locals s.heap m :=
 let ⟨m,hn,_⟩:=I.loc
 ⟨m,hn,I.bk,Nat.le_trans I.ok.bsz I.ok.above⟩
theorem Inv.lt(I:Inv X AA σ H s):X.env.locals<s.heap.objs.size:=let ⟨_,hn,_⟩:=I.loc;hn.lt
theorem Inv.sz(I:Inv X AA σ H s):X.s₀.heap.objs.size<=s.heap.objs.size:=Nat.le_trans I.ok.above (Nat.le_of_lt I.lt)
theorem Inv.nofs(I:Inv X AA σ H s){a:Addr}(h:s.heap.objs.size<=a):a∉X.fs:=λhb=>by
 obtain⟨_,o,ho,_⟩:=I.ok.funs.mem hb
 exact absurd (Nat.lt_of_lt_of_le (Heap.lt_size ho) (Nat.le_trans I.sz h)) (Nat.lt_irrefl _)
theorem Inv.cne(I:Inv X AA σ H s):∀ x c,X.env.cells.lookup x=some c->c≠X.env.locals:=λx c e z=>by
 obtain⟨v,o,ho,hd⟩:=I.cell x c e
 obtain⟨m,⟨o',es,ep,ho',hd',_⟩,_⟩:=I.loc
 rw[z,ho']at ho;cases ho;rw[hd']at hd;cases hd
theorem Inv.funs(I:Inv X AA σ H s):s.heap.FunFrames X.base X.outer:=by
 have all:∀ (l:List Env),(∀ b∈DW l,b∈X.fs)->X.s₀.heap.FunFrames X.base l->s.heap.FunFrames X.base l:=by
  intro l
  induction l with
  | nil=>intro _ _;trivial
  | cons env r ih =>
   intro hs hl
   obtain⟨hk,⟨L,o,hf,hn,ho,hd⟩,hr⟩:=hl
   have hL:L∈X.fs:=hs L (by unfold DW;rw[List.filterMap_cons,hf];exact List.mem_cons_self)
   obtain⟨sl,e⟩:=I.base.slot L o ho (I.ok.frf L hL) hL λz=>I.ok.exfs L z hL
   exact⟨hk,⟨L,_,hf,hn,e,hd⟩,ih (λb hb=>hs b (by unfold DW;rw[List.filterMap_cons,hf];exact List.mem_cons_of_mem _ hb)) hr⟩
 exact all X.outer (λ_ hb=>hb) I.ok.funs
theorem Inv.stack(I:Inv X AA σ H s):s.heap.FunFrames X.base X.stack:=by
 rcases I.ok.stk with e | ⟨e,hf⟩
 ·rw[e];exact I.funs
 ·rw[e]
  obtain⟨m,hn,_⟩:=I.loc
  refine .cons (by rw[I.ok.kind];decide) hf hn ?_ I.funs
  exact Heap.get?_none_of_le (Nat.le_trans I.ok.bsz I.ok.above)
theorem Inv.stkSub(I:Inv X AA σ H s):∀ b∈DW X.stack,b∈X.env.locals::X.fs:=λb hb=>by
 rcases I.ok.stk with e | ⟨e,hf⟩
 ·rw[e]at hb;exact List.mem_cons_of_mem _ hb
 ·rw[e]at hb
  unfold DW at hb
  rw[List.filterMap_cons,hf]at hb
  exact hb
theorem Inv.stkFree(I:Inv X AA σ H s):∀ b∈DW X.stack,H b=none:=λb hb=>by
 rcases List.mem_cons.mp (I.stkSub b hb)with e | hb
 ·rw[e];exact I.free
 ·obtain⟨_,o,ho,_⟩:=I.ok.funs.mem hb
  exact I.base.free b o ho (I.ok.frf b hb) λz=>I.ok.exfs b z hb
theorem Inv.step{g':Array GenState}{t':Nat}{d':Drawn}{ch:List Addr}(I:Inv X AA σ H s)
  (DE:∀ b∈ch,(b∈X.ex\/X.s₀.heap.objs.size<=b)/\b≠X.env.locals/\(∀ x c,X.env.cells.lookup x=some c->c≠b)/\∀ p∈X.pn++AA,p.1≠b)
  (keep:∀ b o,b≠X.env.locals->b∉X.fs->b∉ch->s.heap.get? b=some o->H b=none->h'.get? b=some o)
  (slot:∀ b o,b≠X.env.locals->b∈X.fs->b∉ch->s.heap.get? b=some o->H b=none->∃ sl,h'.get? b=some { o with slots:=sl }) (free:∀ b o,b∉ch->s.heap.get? b=some o->H b=none->H' b=none)
  (there:∀ b o,b∉ch->s.heap.get? b=some o->∃ o',h'.get? b=some o')
  (tups:∀ b xs,H b=some (.tup xs)->H' b=some (.tup xs)) (frzs:∀ b o u,H b=some (.frz o u)->H' b=some (.frz o u)) (tbls:∀ b ps,H b=some (.tbl ps)->∃ more,H' b=some (.tbl (ps++more)))
  (ns:∀ m,s.heap.Ns X.env.locals m->h'.Ns X.env.locals m) (hok:HOk X.prog X.w H' h') (hg:AllBare g') :
  Inv X AA σ H' { s with heap:=h',gens:=g',drawn:=d',toks:=t' }:=by
 have neL:∀ b o,X.s₀.heap.get? b=some o->b≠X.env.locals:=λb o e=>Nat.ne_of_lt (Nat.lt_of_lt_of_le (Heap.lt_size e) I.ok.above)
 have neC:∀ b o,X.s₀.heap.get? b=some o->b∉X.ex->b∉ch:=λb o e hx hb=>by
  rcases(DE b hb).1 with z | z
  ·exact hx z
  ·exact absurd (Nat.lt_of_lt_of_le (Heap.lt_size e) z) (Nat.lt_irrefl _)
 have cellK:∀ x c,X.env.cells.lookup x=some c->∀ v,s.heap.IsCell c v->h'.IsCell c v:=λx c e v ⟨o,ho,hd⟩=>by
  have nch:c∉ch:=λz=>(DE c z).2.2.1 x c e rfl
  by_cases hc:c∈X.fs
  ·obtain⟨sl,q⟩:=slot c o (I.cne x c e) hc nch ho (I.freeC x c e)
   exact⟨_,q,hd⟩
  ·exact⟨o,keep c o (I.cne x c e) hc nch ho (I.freeC x c e),hd⟩
 refine⟨I.ok,I.os,hg,⟨λb o e n hb hx=> ?_,λb o e n hb hx=> ?_,λb o e n hx=> ?_,λb o e hx=> ?_,λb xs e=>tups b xs (I.base.tups b xs e),λb o xs e=>frzs b o xs (I.base.frzs b o xs e),λb ps e=> ?_⟩,?_,λx c e=> ?_,?_,λx c e=> ?_,λp hp=> ?_,hok,I.len⟩
 ·exact keep b o (neL b o e) hb (neC b o e hx) (I.base.keep b o e n hb hx) (I.base.free b o e n hx)
 ·obtain⟨sl,e1⟩:=I.base.slot b o e n hb hx
  obtain⟨sl',e2⟩:=slot b _ (neL b o e) hb (neC b o e hx) e1 (I.base.free b o e n hx)
  exact⟨sl',e2⟩
 ·obtain⟨o',e1⟩:=I.base.there b o e hx
  exact free b o' (neC b o e hx) e1 (I.base.free b o e n hx)
 ·obtain⟨o',e1⟩:=I.base.there b o e hx
  exact there b o' (neC b o e hx) e1
 ·obtain⟨m1,e1⟩:=I.base.tbls b ps e
  obtain⟨m2,e2⟩:=tbls b _ e1
  exact⟨m1++m2,by rw[e2,Array.append_assoc]⟩
 ·obtain⟨m,hn,hl⟩:=I.loc
  refine⟨m,ns m hn,λi x v e1 e2 e3=> ?_⟩
  obtain⟨u,r,l⟩:=hl i x v e1 e2 e3
  refine⟨u,r,?_⟩
  rcases l with l | ⟨k,c,e,z⟩
  ·exact .inl l
  ·exact .inr ⟨k,c,e,cellK x c e _ z⟩
 ·obtain⟨v,z⟩:=I.cell x c e
  exact⟨v,cellK x c e v z⟩
 ·obtain⟨m,⟨o,_,_,ho,_⟩,_⟩:=I.loc
  exact free _ o (λz=>(DE _ z).2.1 rfl) ho I.free
 ·obtain⟨v,o,ho,hd⟩:=I.cell x c e
  exact free c o (λz=>(DE c z).2.2.1 x c e rfl) ho (I.freeC x c e)
 ·obtain⟨e,n,ne,nf,d⟩:=I.pin p hp
  have nch:p.1∉ch:=λz=>(DE p.1 z).2.2.2 p hp rfl
  exact⟨keep p.1 p.2 ne nf nch e n,free p.1 p.2 nch e n,ne,nf,d⟩
theorem Inv.un{t':Nat}(I:Inv X AA σ H s)(u:Un X.fs [] H H' s.heap h')(hok:HOk X.prog X.w H' h'):Inv X AA σ H' { s with heap:=h',toks:=t' }:=by
 obtain⟨m,⟨o,es,ep,ho,r⟩,_⟩:=id I.loc
 obtain⟨sl,hL⟩:=u.any ho I.free (by simp)
 exact I.step (g':=s.gens) (d':=s.drawn) (ch:=[]) (λ_ z=>nomatch z) (λb o _ hb _ e n=>u.keep b o e n hb (by simp)) (λb o _ hb _ e n=>u.slot b o e n hb (by simp)) (λb o _ e n=>u.free b o e n (by simp)) (λb o _ e=>u.there b o e (by simp)) u.tups u.frzs u.tbls (λm' hm=>by
  obtain⟨o',es',ep',ho',r'⟩:=hm
  rw[ho]at ho';cases ho'
  exact⟨_,es',ep',hL,r'⟩) hok I.bare
theorem Inv.call{g':Array GenState}{t':Nat}{d':Drawn}{ch:List Addr}(I:Inv X AA σ H s)(u:Un (DW X.stack) ch H H' s.heap h')(hok:HOk X.prog X.w H' h')(hg:AllBare g')
  (DE:∀ b∈ch,(b∈X.ex\/X.s₀.heap.objs.size<=b)/\b≠X.env.locals/\(∀ x c,X.env.cells.lookup x=some c->c≠b)/\∀ p∈X.pn++AA,p.1≠b) :
  Inv X AA σ H' { s with heap:=h',gens:=g',drawn:=d',toks:=t' }:=by
 obtain⟨m,⟨o,es,ep,ho,r⟩,_⟩:=id I.loc
 obtain⟨sl,hL⟩:=u.any ho I.free λz=>(DE _ z).2.1 rfl
 exact I.step (ch:=ch) DE (λb o hL hb hc e n=>u.keep b o e n (λz=>(List.mem_cons.mp (I.stkSub b z)).elim hL hb) hc) (λb o _ _ hc e n=>u.any e n hc) (λb o hc e n=>u.free b o e n hc) (λb o hc e=>u.there b o e hc) u.tups u.frzs u.tbls (λm' hm=>by
  obtain⟨o',es',ep',ho',r'⟩:=hm
  rw[ho]at ho';cases ho'
  exact⟨_,es',ep',hL,r'⟩) hok hg
theorem Inv.turned{t':Nat}{it:Addr}(I:Inv X AA σ H s)(k:∀ b o,b≠it->s.heap.get? b=some o->h'.get? b=some o)(hn:H it=none)(hL:it≠X.env.locals)
  (h1:it∈X.ex\/X.s₀.heap.objs.size<=it) (h2:∀ x c,X.env.cells.lookup x=some c->c≠it) (h3:∀ p∈X.pn++AA,p.1≠it):Inv X AA σ H { s with heap:=h',toks:=t' }:=by
 have nit:∀ b u,H b=some u->b≠it:=λb u e z=>by rw[z,hn]at e;cases e
 refine I.step (g':=s.gens) (d':=s.drawn) (ch:=[it]) (λb hb=> ?_) (λb o _ _ hc e _=>k b o (λz=>hc (by simp[z])) e) (λb o _ _ hc e _=>⟨o.slots,k b o (λz=>hc (by simp[z])) e⟩) (λ_ _ _ _ n=>n)
  (λb o hc e=>⟨o,k b o (λz=>hc (by simp[z])) e⟩) (λ_ _ e=>e) (λ_ _ _ e=>e) (λb ps e=>⟨#[],by rw[e];simp⟩) (λm hm=> ?_) (λb u e=> ?_) I.bare
 ·have e:b=it:=by simpa using hb
  subst e
  exact⟨h1,hL,h2,h3⟩
 ·obtain⟨o,es,ep,ho,r⟩:=hm
  exact⟨o,es,ep,k _ o (Ne.symm hL) ho,r⟩
 ·refine(I.hok b u e).stay (λc v hc q=>k c v ?_ q) (λ_ q=>q) λ_ _ q=>q
  rcases hc with z | z
  ·rw[z];exact nit b u e
  ·exact nit c _ z
theorem Inv.tok(I:Inv X AA σ H s)(t:Nat):Inv X AA σ H { s with toks:=t }:=I.un (h':=s.heap) (t':=t) Un.refl I.hok
theorem Inv.kept{t':Nat}(I:Inv X AA σ H s)(k:∀ b u,s.heap.get? b=some u->h'.get? b=some u):Inv X AA σ H { s with heap:=h',toks:=t' }:=I.un (Un.kept k) (I.hok.kept k)
theorem Inv.laid{a:Addr}{o:HO}{t':Nat}(I:Inv X AA σ H s)(k:∀ b u,s.heap.get? b=some u->h'.get? b=some u)(hp:s.heap.objs.size<=a)(new:ObjOk X.prog X.w (upd H a o) h' a o) :
  Inv X AA σ (upd H a o) { s with heap:=h',toks:=t' }:=I.un (Un.laid k hp (I.hok.fresh hp)) (I.hok.laid k hp new)
theorem Inv.write{x e:Addr}{o:HO}{t':Nat}(I:Inv X AA σ H s)(mu:MY (H x))(he:e=x\/H e=some (.own x))(k:∀ b u,b≠e->s.heap.get? b=some u->h'.get? b=some u)(heo:∃ u,h'.get? e=some u)
  (new:ObjOk X.prog X.w (upd H x o) h' x o):Inv X AA σ (upd H x o) { s with heap:=h',toks:=t' }:=I.un (Un.write mu he k heo) (I.hok.write mu he k heo new)
theorem Inv.pins_of{pins':List (Addr × Obj)}(I:Inv X AA σ H s)(h:∀ p∈pins',s.heap.get? p.1=some p.2/\H p.1=none/\p.1≠X.env.locals/\p.1∉X.fs/\∀ v,p.2.data≠.cell v):Inv X pins' σ H s :=
 ⟨I.ok,I.os,I.bare,I.base,I.loc,I.cell,I.free,I.freeC,λp hp=>(List.mem_append.mp hp).elim (λz=>I.pin p (List.mem_append_left _ z)) (h p),I.hok,I.len⟩
theorem SE{N:List Str}(hN:N.Nodup){i j:Nat}{x:Str}(a:N[i]? =some x)(b:N[j]? =some x):i=j:=by
 obtain⟨h1,e1⟩:=List.getElem?_eq_some_iff.mp a
 obtain⟨h2,e2⟩:=List.getElem?_eq_some_iff.mp b
 exact(List.getElem_inj hN).mp (e1.trans e2.symm)
theorem bA{M:Model}{A:Around}{E:Value->Shared->Prop}{i:Nat}{x:Str}{v:V}{u:Value}{Q:Unit->Shared->Prop}(I:Inv X AA σ H s)(hN:X.N.Nodup)(hi:X.N[i]? =some x)(hx:KW X.env.scope x)(r:RelV v u)
  (h:∀ s',Inv X AA (σ.set i (some v)) H s'->(∃ a,Heap.SameBut a s.heap s'.heap/\(a=X.env.locals\/X.env.cells.lookup x=some a))->Q () s') (hf:X.fn x=true\/X.env.scope.names.lookup x=some .local:=by first | exact .inl rfl | exact .inr rfl | assumption):wpAny M A (storeName X.env x u) Q E s:=by
 obtain⟨m,hn,hl⟩:=id I.loc
 have JY:(X.env.scope.kind == .class || (X.env.scope.kind == .module && X.env.locals != X.env.globals))=false:=by rw[I.ok.kind];rfl
 have hiσ:i<σ.length:=by rw[I.len];exact(List.getElem?_eq_some_iff.mp hi).1
 have cne:=I.cne
 have tracked:∀ {a:Addr} {h':Heap},(∃ o,s.heap.get? a=some o/\H a=none)->Heap.SameBut a s.heap h'->HOk X.prog X.w H h':=λ{a h'} ha hs b ob e=>by
  obtain⟨_,_,hfree⟩:=ha
  refine(I.hok b ob e).stay (λc w' hc q=>(hs.2 c ?_).trans q) (λ_ q=>q) λ_ _ q=>q
  rintro rfl
  rcases hc with rfl | hc
  ·rw[hfree]at e;cases e
  ·rw[hfree]at hc;cases hc
 rcases hx with hk | hk
 ·refine wpAny_storeName_local hk hn (λh' hn' hs=> ?_) JY
  obtain⟨oL,_,_,hoL,_⟩:=id hn
  refine h _ ⟨I.ok,I.os,I.bare,⟨λb o e n hb hx=> ?_,λb o e n hb hx=> ?_,I.base.free,λb o e hx=> ?_,I.base.tups,I.base.frzs,I.base.tbls⟩,⟨_,hn',λj y v' e1 e2 e3=> ?_⟩,λy c e=> ?_,I.free,I.freeC,λp hp=> ?_,tracked ⟨oL,hoL,I.free⟩ hs,by simpa using I.len⟩ ⟨_,hs,.inl rfl⟩
  ·exact(hs.2 b (Nat.ne_of_lt (Nat.lt_of_lt_of_le (Heap.lt_size e) I.ok.above))).trans (I.base.keep b o e n hb hx)
  ·obtain⟨sl,e1⟩:=I.base.slot b o e n hb hx
   exact⟨sl,(hs.2 b (Nat.ne_of_lt (Nat.lt_of_lt_of_le (Heap.lt_size e) I.ok.above))).trans e1⟩
  ·obtain⟨o',e1⟩:=I.base.there b o e hx
   exact⟨o',(hs.2 b (Nat.ne_of_lt (Nat.lt_of_lt_of_le (Heap.lt_size e) I.ok.above))).trans e1⟩
  ·by_cases hj:j=i
   ·subst hj
    rw[hi]at e1;cases e1
    rw[List.getElem?_set_self hiσ]at e2
    cases e2
    exact⟨u,r,.inl ⟨hk,by simp⟩⟩
   ·rw[List.getElem?_set_ne (Ne.symm hj)]at e2
    obtain⟨u',r',q⟩:=hl j y v' e1 e2 e3
    refine⟨u',r',?_⟩
    rcases q with⟨k,e⟩ | ⟨k,c,e,z⟩
    ·refine .inl ⟨k,?_⟩
     have:y≠x:=λe=>hj (SE hN e1 (e ▸ hi))
     simp[this,e]
    ·exact .inr ⟨k,c,e,z.sameBut hs (cne y c e)⟩
  ·obtain⟨w',z⟩:=I.cell y c e
   exact⟨w',z.sameBut hs (cne y c e)⟩
  ·obtain⟨e,n,ne,nf,d⟩:=I.pin p hp
   exact⟨(hs.2 p.1 ne).trans e,n,ne,nf,d⟩
 ·have hfn:X.fn x=true:=by
   rcases hf with z | z
   ·exact z
   ·rw[z]at hk;cases hk
  obtain⟨c,hc⟩:=I.ok.has x (.inl hk)
  obtain⟨w',z⟩:=I.cell x c hc
  refine wpAny_storeName_cell I.ok.kind hk hc z (λh' hc' hs=> ?_)
  obtain⟨oc,hoc,hocd⟩:=id z
  refine h { s with heap:=h' } ⟨I.ok,I.os,I.bare,⟨λb o e n hb hx=> ?_,λb o e n hb hx=> ?_,I.base.free,λb o e hx=> ?_,I.base.tups,I.base.frzs,I.base.tbls⟩,⟨m,hn.sameBut hs (Ne.symm (cne x c hc)),λj y v' e1 e2 e3=> ?_⟩,λy c' e=> ?_,I.free,I.freeC,λp hp=> ?_,tracked ⟨oc,hoc,I.freeC x c hc⟩ hs,by simpa using I.len⟩ ⟨c,hs,.inr hc⟩
  ·exact(hs.2 b (Nat.ne_of_lt (Nat.lt_of_lt_of_le (Heap.lt_size e) (I.ok.cab x c hfn hc)))).trans (I.base.keep b o e n hb hx)
  ·obtain⟨sl,e1⟩:=I.base.slot b o e n hb hx
   exact⟨sl,(hs.2 b (Nat.ne_of_lt (Nat.lt_of_lt_of_le (Heap.lt_size e) (I.ok.cab x c hfn hc)))).trans e1⟩
  ·obtain⟨o',e1⟩:=I.base.there b o e hx
   exact⟨o',(hs.2 b (Nat.ne_of_lt (Nat.lt_of_lt_of_le (Heap.lt_size e) (I.ok.cab x c hfn hc)))).trans e1⟩
  ·by_cases hj:j=i
   ·subst hj
    rw[hi]at e1;cases e1
    rw[List.getElem?_set_self hiσ]at e2
    cases e2
    exact⟨u,r,.inr ⟨.inl hk,c,hc,hc'⟩⟩
   ·rw[List.getElem?_set_ne (Ne.symm hj)]at e2
    obtain⟨u',r',q⟩:=hl j y v' e1 e2 e3
    refine⟨u',r',?_⟩
    rcases q with q | ⟨k,c',e,z'⟩
    ·exact .inl q
    ·refine .inr ⟨k,c',e,z'.sameBut hs ?_⟩
     rintro rfl
     exact hj (SE hN e1 (I.ok.inj _ _ _ e hc ▸ hi))
  ·by_cases hcc:c'=c
   ·subst hcc;exact⟨_,hc'⟩
   ·obtain⟨w2,z2⟩:=I.cell y c' e
    exact⟨w2,z2.sameBut hs hcc⟩
  ·obtain⟨e,n,ne,nf,d⟩:=I.pin p hp
   refine⟨(hs.2 p.1 ?_).trans e,n,ne,nf,d⟩
   intro q
   rw[q,hoc]at e
   have q':oc=p.2:=Option.some.inj e
   exact d w' (by rw[<-q'];exact hocd)
theorem O5{M:Model}{A:Around}{E:Value->Shared->Prop}{i:Nat}{x:Str}{v:V}{u:Value}{Q:Unit->Shared->Prop}(I:Inv X AA σ H s)(hN:X.N.Nodup)(hi:X.N[i]? =some x)(hx:KW X.env.scope x)(r:RelV v u)
  (h:∀ s',Inv X AA (σ.set i (some v)) H s'->Q () s') (hf:X.fn x=true\/X.env.scope.names.lookup x=some .local:=by first | exact .inl rfl | exact .inr rfl | assumption):wpAny M A (storeName X.env x u) Q E s :=
 bA I hN hi hx r (λs' I' _=>h s' I') hf
theorem Inv.call'{s':Shared}{ch:List Addr}(I:Inv X AA σ H s)(ho:s'.os=s.os)(u:Un (DW X.stack) ch H H' s.heap s'.heap)(hok:HOk X.prog X.w H' s'.heap)(hg:AllBare s'.gens)
  (DE:∀ b∈ch,(b∈X.ex\/X.s₀.heap.objs.size<=b)/\b≠X.env.locals/\(∀ x c,X.env.cells.lookup x=some c->c≠b)/\∀ p∈X.pn++AA,p.1≠b):Inv X AA σ H' s':=by
 obtain⟨h',g',d',t',o'⟩:=s'
 have e:o'=s.os:=ho
 subst e
 exact I.call (g':=g') (t':=t') (d':=d') u hok hg DE
end
abbrev XK:=Value->Option Addr->Hp->Prop
abbrev St:=List (Option V)
abbrev VK:=V->Hp->Prop
abbrev TE:=St->Hp->VK->Prop
abbrev TT:=St->Hp->(Bool->Hp->Prop)->Prop
abbrev TA:=St->Hp->(List V->Hp->Prop)->Prop
structure Ends where
 nx:St->Hp->Prop
 rt:VK
 bk:St->Hp->Prop:=λ_ _=>False
 ct:St->Hp->Prop:=λ_ _=>False
abbrev TS:=Ends->St->Hp->Prop
def EP(X:Cx)(AA:List (Addr × Obj))(σ:St)(Q:VK)(u:Value)(s':Shared):Prop:=∃ v H',Inv X AA σ H' s'/\RelV v u/\Q v H'
def TP(X:Cx)(AA:List (Addr × Obj))(σ:St)(Q:Bool->Hp->Prop)(b:Bool)(s':Shared):Prop:=∃ H',Inv X AA σ H' s'/\Q b H'
def AP(X:Cx)(AA:List (Addr × Obj))(σ:St)(Q:List V->Hp->Prop)(us:List Value)(s':Shared):Prop:=∃ vs H',Inv X AA σ H' s'/\Vals vs us/\Q vs H'
def SP(X:Cx)(AA:List (Addr × Obj))(D:Ends)(f:Flow)(s':Shared):Prop :=
 match f with
 | .next=>∃ σ' H',Inv X AA σ' H' s'/\D.nx σ' H'
 | .brk=>∃ σ' H',Inv X AA σ' H' s'/\D.bk σ' H'
 | .cont=>∃ σ' H',Inv X AA σ' H' s'/\D.ct σ' H'
 | .ret u=>∃ v σ' H',Inv X AA σ' H' s'/\RelV v u/\D.rt v H'
def PE(X:Cx)(e:Expr)(t:TE):Prop :=
 ∀ (AA:List (Addr × Obj)) (s:Shared) (σ:St) (H:Hp) (Q:VK),Inv X AA σ H s->t σ H Q->wpAny (model X.prog X.w) X.A (eval e X.env) (EP X AA σ Q) X.xe s
def PT(X:Cx)(e:Expr)(t:TT):Prop :=
 ∀ (AA:List (Addr × Obj)) (s:Shared) (σ:St) (H:Hp) (Q:Bool->Hp->Prop),Inv X AA σ H s->t σ H Q->wpAny (model X.prog X.w) X.A (isTrue e X.env (eval e X.env)) (TP X AA σ Q) X.xe s
def PW(X:Cx)(e:Expr)(t:TT):Prop :=
 ∀ (whole:Sem Value) (AA:List (Addr × Obj)) (s:Shared) (σ:St) (H:Hp) (Q:Bool->Hp->Prop),Inv X AA σ H s->t σ H Q->wpAny (model X.prog X.w) X.A (isTrue e X.env whole) (TP X AA σ Q) X.xe s
theorem PW.pt{X:Cx}{e:Expr}{t:TT}(h:PW X e t):PT X e t:=h _
def PA(X:Cx)(es:List Expr)(t:TA):Prop :=
 ∀ (pos:Pos) (AA:List (Addr × Obj)) (s:Shared) (σ:St) (H:Hp) (Q:List V->Hp->Prop),Inv X AA σ H s->t σ H Q->wpAny (model X.prog X.w) X.A (spliced (backTo pos (starEach es X.env))) (AP X AA σ Q) X.xe s
def PS(X:Cx)(st:Stmt)(t:TS):Prop :=
 ∀ (AA:List (Addr × Obj)) (s:Shared) (σ:St) (H:Hp) (D:Ends),Inv X AA σ H s->t D σ H->wpAny (model X.prog X.w) X.A (exec st X.env) (SP X AA D) X.xe s
def PSs(X:Cx)(st:List Stmt)(t:TS):Prop :=
 ∀ (AA:List (Addr × Obj)) (s:Shared) (σ:St) (H:Hp) (D:Ends),Inv X AA σ H s->t D σ H->wpAny (model X.prog X.w) X.A (execs st X.env) (SP X AA D) X.xe s
theorem AT{α :Type}{t:Sem α}{Q Q': α ->Shared->Prop}{M:Model}{A:Around}{E:Value->Shared->Prop}{s:Shared}(h:wpAny M A t Q E s)(hQ:∀ a s,Q a s->Q' a s):wpAny M A t Q' E s:=wpAny_mono h hQ λ_ _ x=>x
end L2
namespace L2
section
variable{X:Cx}
def SF(i:Nat):TE:=λσ H Q=>∃ v,σ[i]? =some (some v)/\Q v H
def tC(v:V):TE:=λ_ H Q=>Q v H
theorem tE{i:Nat}{x:Str}{pos:Pos}(hN:X.N[i]? =some x)(hv:SD X.env.scope x)(hd:(x ==("__debug__":Str))=false:=by decide)(GY:(x ==("__classdict__":Str))=false:=by decide):PE X (.Name x pos) (SF i):=by
 intro AA s σ H Q I h
 obtain⟨v,e,h⟩:=h
 obtain⟨m,hn,hl⟩:=I.loc
 obtain⟨u,r,l⟩:=hl i x v hN e hv
 have fin:EP X AA σ Q u s:=⟨v,H,I,r,h⟩
 rcases l with⟨hk,hm⟩ | ⟨hk,c,hc,hcell⟩
 ·exact wpAny_Name (wpAny_loadName_local I.ok.kind hk hn hm fin) hd
 ·rcases hk with hk | hk
  ·exact wpAny_Name (wpAny_loadName_cell I.ok.kind hk hc hcell fin) hd
  ·exact wpAny_Name (wpAny_loadName_free I.ok.kind hk hc hcell fin GY) hd
theorem BK{i j pos}:PE X (.Constant (.int i) j pos) (tC (.int i)):=λ_ _ _ H _ I h=>wpAny_Constant_int ⟨.int i,H,I.tok _,⟨_,rfl⟩,h⟩
theorem HV{b j pos}:PE X (.Constant (.bool b) j pos) (tC (.bl b)):=λ_ _ _ H _ I h=>Constant_bool ⟨.bl b,H,I,rfl,h⟩
theorem FH{j pos}:PE X (.Constant .none j pos) (tC .non):=λ_ _ _ H _ I h=>Constant_none ⟨.non,H,I,rfl,h⟩
theorem AS{x j pos}:PE X (.Constant (.str x) j pos) (tC (.str x)):=λ_ _ _ H _ I h=>Calls.Constant_str ⟨.str x,H,I.tok _,⟨_,rfl⟩,h⟩
def Gl(X:Cx)(x:Str):Prop:=X.env.kindOf x=some .globalImplicit
theorem MZ{E:Value->Shared->Prop}{AA:List (Addr × Obj)}{s:Shared}{σ:St}{H:Hp}{x:Str}{u:Value}{pos:Pos}{Q:Value->Shared->Prop}(I:Inv X AA σ H s)(hg:Gl X x)(hm:X.mg x=some u)(h:Q u s)
  (hd:(x ==("__debug__":Str))=false:=by decide):wpAny (model X.prog X.w) X.A (eval (.Name x pos) X.env) Q E s :=
 Calls.Name_function_global I.ok.kind hg (Calls.loadGlobal_global (by rw[I.ok.glob];exact I.mod.glob.keeps I.bk) hm h) hd
theorem KY{E:Value->Shared->Prop}{AA:List (Addr × Obj)}{s:Shared}{σ:St}{H:Hp}{x:Str}{u:Value}{pos:Pos}{Q:Value->Shared->Prop}(I:Inv X AA σ H s)(hg:Gl X x)(hm:X.mg x=none)(hv:bootBuiltins x=some u)(h:Q u s)
  (hn:x≠"__name__":=by decide) (hd:(x ==("__debug__":Str))=false:=by decide):wpAny (model X.prog X.w) X.A (eval (.Name x pos) X.env) Q E s:=by
 obtain⟨mb,h1,h2⟩:=I.mod.blt
 exact Calls.Name_function_global I.ok.kind hg (Calls.loadGlobal_builtin (by rw[I.ok.glob];exact I.mod.glob.keeps I.bk) hm (by rw[I.ok.blt];exact h1.keeps I.bk) ((h2 x hn).trans hv) h) hd
theorem tF{x:Str}{v:V}{u:Value}{pos:Pos}(hg:Gl X x)(hm:X.mg x=some u)(r:RelV v u)(hd:(x ==("__debug__":Str))=false:=by decide):PE X (.Name x pos) (tC v) :=
 λ_ _ _ H _ I h=>MZ I hg hm ⟨v,H,I,r,h⟩ hd
theorem tG{x:Str}{v:V}{u:Value}{pos:Pos}(hg:Gl X x)(hm:X.mg x=none)(hv:bootBuiltins x=some u)(r:RelV v u)(hn:x≠"__name__":=by decide)(hd:(x ==("__debug__":Str))=false:=by decide):PE X (.Name x pos) (tC v) :=
 λ_ _ _ H _ I h=>KY I hg hm hv ⟨v,H,I,r,h⟩ hn hd
variable{a b:Expr}{ta tb:TE}{pos:Pos}
def PC(X:Cx)(op:CmpOp)(a b:Expr)(t:TE):Prop :=
 ∀ (AA:List (Addr × Obj)) (s:Shared) (σ:St) (H:Hp) (Q:VK),Inv X AA σ H s->t σ H Q →
  wpAny (model X.prog X.w) X.A (eval a X.env) (λv s₁=>wpAny (model X.prog X.w) X.A (eval b X.env) (λu s₂=>wpAny (model X.prog X.w) X.A (compareOp op v u) (EP X AA σ Q) X.xe s₂) X.xe s₁) X.xe s
theorem tH(b:Expr){op:CmpOp}(h:op≠.In)(h2:op≠.NotIn):behindInMarks op b=false:=by
 have e1:(op == CmpOp.In)=false:=by cases op<;>first | rfl | exact absurd rfl h
 have e2:(op == CmpOp.NotIn)=false:=by cases op<;>first | rfl | exact absurd rfl h2
 cases b<;>simp[behindInMarks,e1,e2]
def tB(t:TE):TT:=λσ H Q=>t σ H λx H1=>∃ c,x=.bl c/\Q c H1
theorem HH{op:CmpOp}{t:TE}(h:PC X op a b t)(h1:behindInMarks op b=false:=by first | exact tH _ (by decide) (by decide) | rfl):PT X (.Compare a [op] [b] pos) (tB t):=by
 intro AA s σ H Q I hw
 refine wpAny_isTrue_Compare1 (AT (h AA s σ H _ I hw) λv s1 h1=>AT h1 λu s2 h2=>AT h2 λc s3 hzz=> ?_) h1
 obtain⟨x,H1,I1,r1,q1⟩:=hzz
 obtain⟨d,rfl,q⟩:=q1
 cases r1
 exact wpAny_truthy_bool ⟨H1,I1,q⟩
variable{tA tB':TT}{rest:List Expr}
def KZ(t u:TT):TT:=λσ H Q=>t σ H λc H1=>if c=true then u σ H1 Q else Q false H1
def M4(t u:TT):TT:=λσ H Q=>t σ H λc H1=>if c=true then Q true H1 else u σ H1 Q
def FI(t:TT):TT:=λσ H Q=>t σ H λc H1=>Q (!c) H1
theorem O6(ha:PT X a tA):PW X (.BoolOp .And [a] pos) tA:=by
 intro wh AA s σ H Q I h
 refine isTrue_and (AT (ha AA s σ H Q I h) λc s1 e=> ?_)
 cases c with
 | true=>exact isTrue_and_nil e
 | false=>exact e
theorem SG(ha:PT X a tA):PW X (.BoolOp .Or [a] pos) tA:=by
 intro wh AA s σ H Q I h
 refine isTrue_or (AT (ha AA s σ H Q I h) λc s1 e=> ?_)
 cases c with
 | false=>exact isTrue_or_nil e
 | true=>exact e
theorem O7(ha:PT X a tA)(hb:PW X (.BoolOp .And (b::rest) pos) tB'):PW X (.BoolOp .And (a::b::rest) pos) (KZ tA tB'):=by
 intro wh AA s σ H Q I h
 refine isTrue_and (AT (ha AA s σ H _ I h) λc s1 hzz=> ?_)
 obtain⟨H1,I1,q1⟩:=hzz
 cases c with
 | true=>exact hb wh AA s1 σ H1 Q I1 q1
 | false=>exact⟨H1,I1,q1⟩
theorem SH(ha:PT X a tA)(hb:PW X (.BoolOp .Or (b::rest) pos) tB'):PW X (.BoolOp .Or (a::b::rest) pos) (M4 tA tB'):=by
 intro wh AA s σ H Q I h
 refine isTrue_or (AT (ha AA s σ H _ I h) λc s1 hzz=> ?_)
 obtain⟨H1,I1,q1⟩:=hzz
 cases c with
 | true=>exact⟨H1,I1,q1⟩
 | false=>exact hb wh AA s1 σ H1 Q I1 q1
theorem GB(ha:PT X a tA):PT X (.UnaryOp .Not a pos) (FI tA):=by
 intro AA s σ H Q I h
 exact isTrue_not (ha AA s σ H (λc H1=>Q (!c) H1) I h)
def IQ(ta tb:TE):TE:=λσ H Q=>ta σ H λx H1=>∃ c,x=.bl c/\if c=true then tb σ H1 Q else Q (.bl false) H1
def SI(ta tb:TE):TE:=λσ H Q=>ta σ H λx H1=>∃ c,x=.bl c/\if c=true then Q (.bl true) H1 else tb σ H1 Q
theorem K0{op}{t:TE}(h:PE X a t):PE X (.BoolOp op [a] pos) t:=λAA s σ H Q I hw=>BoolOp_one (h AA s σ H Q I hw)
theorem K1(ha:PE X a ta)(hb:PE X (.BoolOp .And (b::rest) pos) tb):PE X (.BoolOp .And (a::b::rest) pos) (IQ ta tb):=by
 intro AA s σ H Q I h
 refine BoolOp_and (AT (ha AA s σ H _ I h) λv s1 hzz=> ?_)
 obtain⟨x,H1,I1,r1,q1⟩:=hzz
 obtain⟨c,rfl,q1⟩:=q1
 cases r1
 refine wpAny_truthy_bool ?_
 cases c with
 | true=>exact hb AA s1 σ H1 Q I1 q1
 | false=>exact⟨.bl false,H1,I1,rfl,q1⟩
theorem tI(ha:PE X a ta)(hb:PE X (.BoolOp .Or (b::rest) pos) tb):PE X (.BoolOp .Or (a::b::rest) pos) (SI ta tb):=by
 intro AA s σ H Q I h
 refine BoolOp_or (AT (ha AA s σ H _ I h) λv s1 hzz=> ?_)
 obtain⟨x,H1,I1,r1,q1⟩:=hzz
 obtain⟨c,rfl,q1⟩:=q1
 cases r1
 refine wpAny_truthy_bool ?_
 cases c with
 | false=>exact hb AA s1 σ H1 Q I1 q1
 | true=>exact⟨.bl true,H1,I1,rfl,q1⟩
def O8(t:TT)(ta tb:TE):TE:=λσ H Q=>t σ H λc H1=>if c=true then ta σ H1 Q else tb σ H1 Q
theorem bB{c:Expr}(hc:PT X c tA)(ha:PE X a ta)(hb:PE X b tb):PE X (.IfExp c a b pos) (O8 tA ta tb):=by
 intro AA s σ H Q I h
 refine wpAny_IfExp (AT (hc AA s σ H _ I h) λd s1 hzz=> ?_)
 obtain⟨H1,I1,q1⟩:=hzz
 cases d with
 | true=>exact ha AA s1 σ H1 Q I1 q1
 | false=>exact hb AA s1 σ H1 Q I1 q1
end
end L2
namespace L2
def SqL(K:W.Frag)(H:Hp)(a:Addr)(xs:List V):Prop :=
 Rd H a (.lst xs) ∨
  ∃ (o:Obj) (its:Array Value) (n:Nat),K.lookup a=some o/\o.cls=.type "list"/\o.dict=none/\o.data=.seq its n/\its.size<=sizeLine/\Vals xs its.toList
def SqT(K:W.Frag)(H:Hp)(a:Addr)(xs:List V):Prop :=
 Rd H a (.tup xs) ∨
  ∃ (o:Obj) (its:Array Value) (n:Nat),K.lookup a=some o/\o.cls=.type "tuple"/\o.data=.seq its n/\its.size<=sizeLine/\Vals xs its.toList
def tJ:Value->Option V
 | .none=>some .non
 | .bool b=>some (.bl b)
 | .int i _=>some (.int i)
 | .str x _=>some (.str x)
 | .bytes b _=>some (.byt b)
 | .float b _=>some (.flt b)
 | .ref a=>some (.ref a)
 | .type n=>some (.ty n)
 | _=>none
theorem RelV.abs{x:V}{u:Value}(r:RelV x u):tJ u=some x:=by
 cases x with
 | non=>cases r;rfl
 | bl _=>cases r;rfl
 | int _=>obtain⟨t,rfl⟩:=r;rfl
 | str _=>obtain⟨t,rfl⟩:=r;rfl
 | byt _=>obtain⟨t,rfl⟩:=r;rfl
 | flt _=>obtain⟨t,rfl⟩:=r;rfl
 | ref _=>cases r;rfl
 | ty _=>cases r;rfl
theorem RelV.inj{x y:V}{u:Value}(r:RelV x u)(q:RelV y u):x=y:=Option.some.inj (r.abs.symm.trans q.abs)
theorem Vals.inj:∀ {xs ys:List V} {us:List Value},Vals xs us->Vals ys us->xs=ys
 | _,_,_,.nil,.nil=>rfl
 | _,_,_,.cons r t,.cons r' t'=>by rw[r.inj r',Vals.inj t t']
section
variable{X:Cx}{AA:List (Addr × Obj)}{σ:St}{H:Hp}{s:Shared}{a:Addr}{xs ys:List V}
theorem SqL.of{K:W.Frag}(h:H a=some (.lst xs)):SqL K H a xs:=.inl (.inl h)
theorem SqT.of{K:W.Frag}(h:H a=some (.tup xs)):SqT K H a xs:=.inl (.inl h)
theorem Inv.list(I:Inv X AA σ H s)(h:SqL X.K H a xs):∃ its:List Value,Vals xs its/\PlainL s.heap a its.toArray/\xs.length<=sizeLine:=by
 rcases h with h | ⟨o,its,n,hk,hc,hd,hs,hz,r⟩
 ·obtain⟨z,its,n,r,e⟩:=h.ok I.hok
  exact⟨its,r,⟨_,n,e,rfl,rfl,rfl⟩,z⟩
 ·refine⟨its.toList,r,⟨o,n,I.kIn a o hk,hc,hd,by simpa using hs⟩,?_⟩
  have e:=r.length
  simp only[Array.length_toList]at e
  omega
theorem Inv.tuple(I:Inv X AA σ H s)(h:SqT X.K H a xs):∃ its:List Value,Vals xs its/\IsTup s.heap a its.toArray/\xs.length<=sizeLine:=by
 rcases h with h | ⟨o,its,n,hk,hc,hs,hz,r⟩
 ·obtain⟨z,its,r,p⟩:=h.ok I.hok
  exact⟨its,r,p,z⟩
 ·refine⟨its.toList,r,⟨o,I.kIn a o hk,hc,n,by simpa using hs⟩,?_⟩
  have e:=r.length
  simp only[Array.length_toList]at e
  omega
theorem Inv.list_inj(I:Inv X AA σ H s)(h:SqL X.K H a xs)(h':SqL X.K H a ys):xs=ys:=by
 obtain⟨its,r,⟨o,n,e,_,_,d⟩,_⟩:=I.list h
 obtain⟨its',r',⟨o',n',e',_,_,d'⟩,_⟩:=I.list h'
 rw[e]at e';cases e'
 rw[d]at d'
 injection d' with d1 _
 have:its=its':=by simpa using congrArg Array.toList d1
 subst this
 exact r.inj r'
theorem Inv.tuple_inj(I:Inv X AA σ H s)(h:SqT X.K H a xs)(h':SqT X.K H a ys):xs=ys:=by
 obtain⟨its,r,⟨o,e,_,n,d⟩,_⟩:=I.tuple h
 obtain⟨its',r',⟨o',e',_,n',d'⟩,_⟩:=I.tuple h'
 rw[e]at e';cases e'
 rw[d]at d'
 injection d' with d1 _
 have:its=its':=by simpa using congrArg Array.toList d1
 subst this
 exact r.inj r'
end
abbrev Cx.wish(X:Cx)(E:Value->Shared->Prop):Cx:={ X with xe:=E }
abbrev Cx.nox(X:Cx):Cx:=X.wish λ_ _=>False
theorem Cx.Ok.wish{X:Cx}(ok:X.Ok)(E:Value->Shared->Prop):(X.wish E).Ok :=
 ⟨ok.mod,ok.kind,ok.glob,ok.blt,ok.above,ok.inj,ok.has,ok.cab,ok.hd,ok.frames,ok.stk,ok.exf,ok.bs,ok.bsz,ok.noex,ok.exfs,ok.funs,ok.frf⟩
theorem Cx.Ok.unwish{X:Cx}{E:Value->Shared->Prop}(ok:(X.wish E).Ok):X.Ok :=
 ⟨ok.mod,ok.kind,ok.glob,ok.blt,ok.above,ok.inj,ok.has,ok.cab,ok.hd,ok.frames,ok.stk,ok.exf,ok.bs,ok.bsz,ok.noex,ok.exfs,ok.funs,ok.frf⟩
section
variable{X:Cx}{AA:List (Addr × Obj)}{σ:St}{H:Hp}{s:Shared}{E:Value->Shared->Prop}
theorem Inv.wish(I:Inv X AA σ H s)(E:Value->Shared->Prop):Inv (X.wish E) AA σ H s:=⟨I.ok.wish E,I.os,I.bare,I.base,I.loc,I.cell,I.free,I.freeC,I.pin,I.hok,I.len⟩
theorem Inv.unwish(I:Inv (X.wish E) AA σ H s):Inv X AA σ H s:=⟨I.ok.unwish,I.os,I.bare,I.base,I.loc,I.cell,I.free,I.freeC,I.pin,I.hok,I.len⟩
theorem SP.unwish{D:Ends}{f:Flow}{s':Shared}(h:SP (X.wish E) AA D f s'):SP X AA D f s':=by
 cases f with
 | next=>obtain⟨σ',H',I,q⟩:=h;exact⟨σ',H',I.unwish,q⟩
 | brk=>obtain⟨σ',H',I,q⟩:=h;exact⟨σ',H',I.unwish,q⟩
 | cont=>obtain⟨σ',H',I,q⟩:=h;exact⟨σ',H',I.unwish,q⟩
 | ret u=>obtain⟨v,σ',H',I,r,q⟩:=h;exact⟨v,σ',H',I.unwish,r,q⟩
theorem PE.nox{e:Expr}{t:TE}(h:PE X.nox e t):PE X e t:=λAA s σ H Q I hw =>
 wpAny_mono (h AA s σ H Q (I.wish _) hw) (λ_ _ ⟨v,H',I',r,q⟩=>⟨v,H',I'.unwish,r,q⟩) λ_ _ z=>False.elim z
theorem PT.nox{e:Expr}{t:TT}(h:PT X.nox e t):PT X e t:=λAA s σ H Q I hw =>
 wpAny_mono (h AA s σ H Q (I.wish _) hw) (λ_ _ ⟨H',I',q⟩=>⟨H',I'.unwish,q⟩) λ_ _ z=>False.elim z
theorem PSs.nox{st:List Stmt}{t:TS}(h:PSs X.nox st t):PSs X st t:=λAA s σ H D I hw =>
 wpAny_mono (h AA s σ H D (I.wish _) hw) (λ_ _ q=>q.unwish) λ_ _ z=>False.elim z
end
section
variable{X:Cx}{st:Stmt}{rest:List Stmt}{t u:TS}{e:Expr}{te:TE}{pos:Pos}
def CS:TS:=λD σ H=>D.nx σ H
def AH(t u:TS):TS:=λD σ H=>t { D with nx:=u D } σ H
theorem C2:PSs X [] CS:=λ_ _ σ H _ I h=>wpAny_execs_nil ⟨σ,H,I,h⟩
theorem AM(h1:PS X st t)(h2:PSs X rest u):PSs X (st::rest) (AH t u):=by
 intro AA s σ H D I h
 refine wpAny_execs_cons (AT (h1 AA s σ H { D with nx:=u D } I h) λf s1 q=> ?_)
 cases f with
 | next =>
  obtain⟨σ',H',I',q⟩:=q
  exact h2 AA s1 σ' H' D I' q
 | ret v=>exact q
 | brk=>exact q
 | cont=>exact q
theorem AQ(h1:PS X st t):PSs X [st] t:=by
 intro AA s σ H D I h
 refine wpAny_execs_cons (AT (h1 AA s σ H D I h) λf s1 q=> ?_)
 cases f with
 | next=>exact wpAny_execs_nil q
 | ret v=>exact q
 | brk=>exact q
 | cont=>exact q
def tK:TS:=λD σ H=>D.bk σ H
def tL:TS:=λD σ H=>D.ct σ H
theorem Inv.quiet{AA:List (Addr × Obj)}{σ:St}{H:Hp}{s:Shared}(I:Inv X AA σ H s):interactive X.env=false:=by simp[interactive,I.ok.kind]
def DO(te:TE):TS:=λD σ H=>te σ H λ_ H1=>D.nx σ H1
theorem DX(he:PE X e te)(hs:swapsWith e none pos.line X.env=pure false:=by rfl):PS X (.Expr e pos) (DO te):=by
 intro AA s σ H D I h
 exact wpAny_Expr_any (AT (he AA s σ H _ I h) λv s1 ⟨x,H1,I1,r1,q1⟩=>⟨σ,H1,I1,q1⟩) I.quiet hs
def BB(te:TE):TS:=λD σ H=>te σ H D.rt
theorem BC(he:PE X e te):PS X (.Return (some e) pos) (BB te):=by
 intro AA s σ H D I h
 exact wpAny_Return_some (AT (he AA s σ H _ I h) λv s1 ⟨x,H1,I1,r1,q1⟩=>⟨x,σ,H1,I1,r1,q1⟩)
def tM:TS:=λD _ H=>D.rt .non H
def CA(c:TT)(t u:TS):TS:=λD σ H=>c σ H λb H1=>if b=true then t D σ H1 else u D σ H1
theorem CH{c:Expr}{a b:List Stmt}{tc:TT}(hc:PT X c tc)(ha:PSs X a t)(hb:PSs X b u):PS X (.If c a b pos) (CA tc t u):=by
 intro AA s σ H D I h
 refine wpAny_If (AT (hc AA s σ H _ I h) λd s1 hzz=> ?_)
 obtain⟨H1,I1,q1⟩:=hzz
 cases d with
 | true=>exact ha AA s1 σ H1 D I1 q1
 | false=>exact hb AA s1 σ H1 D I1 q1
end
abbrev TG:=V->St->Hp->(St->Hp->Prop)->Prop
abbrev IR:=List V->St->Hp->(St->Hp->Prop)->Prop
def PG(X:Cx)(target:Expr)(t:TG):Prop :=
 ∀ (AA:List (Addr × Obj)) (s:Shared) (σ:St) (H:Hp) (v:V) (u:Value) (Q:St->Hp->Prop),Inv X AA σ H s->RelV v u->t v σ H Q →
  wpAny (model X.prog X.w) X.A (assign target X.env u) (λ_ s'=>∃ σ' H',Inv X AA σ' H' s'/\Q σ' H') X.xe s
def O9(X:Cx)(ts:List Expr)(t:IR):Prop :=
 ∀ (AA:List (Addr × Obj)) (s:Shared) (σ:St) (H:Hp) (vs:List V) (us:List Value) (Q:St->Hp->Prop),Inv X AA σ H s->Vals vs us->t vs σ H Q →
  wpAny (model X.prog X.w) X.A (assignInOrder ((assignEach ts X.env).map (·.2)) us) (λ_ s'=>∃ σ' H',Inv X AA σ' H' s'/\Q σ' H') X.xe s
abbrev bC:=V->V->V->Hp->(Hp->Prop)->Prop
abbrev PB:=V->V->Hp->VK->Prop
section
variable{X:Cx}{pos:Pos}
def AN(i:Nat):TG:=λv σ H Q=>Q (σ.set i (some v)) H
theorem tN{i:Nat}{x:Str}(hN:X.N.Nodup)(hi:X.N[i]? =some x)(hx:KW X.env.scope x)(hf:X.fn x=true\/X.env.scope.names.lookup x=some .local:=by first | exact .inl rfl | exact .inr rfl | assumption):PG X (.Name x pos) (AN i):=by
 intro AA s σ H v u Q I r h
 exact wpAny_assign_Name (O5 I hN hi hx r (λs' I'=>⟨_,H,I',h⟩) hf)
def M5:IR:=λvs σ H Q=>vs=[]/\Q σ H
def IS(t:TG)(u:IR):IR:=λvs σ H Q=>∃ v r,vs=v::r/\t v σ H λσ' H'=>u r σ' H' Q
theorem SJ:O9 X [] M5:=by
 intro AA s σ H vs us Q I r h
 obtain⟨e,h⟩:=h
 subst e
 cases r
 exact assignInOrder_nil ⟨σ,H,I,h⟩
theorem K2{e:Expr}{es:List Expr}{t:TG}{u:IR}(h1:PG X e t)(h2:O9 X es u)
  (hs:(assignEach (e::es) X.env).map (·.2)=assign e X.env::(assignEach es X.env).map (·.2):=by rfl):O9 X (e::es) (IS t u):=by
 intro AA s σ H vs us Q I r h
 obtain⟨v,vr,e1,h⟩:=h
 subst e1
 cases r with
 | cons r rr =>
  rw[hs]
  refine assignInOrder_cons (AT (h1 AA s σ H _ _ _ I r h) λ_ s1 hzz=> ?_)
  obtain⟨σ1,H1,I1,q1⟩:=hzz
  exact h2 AA s1 σ1 H1 _ _ Q I1 rr q1
def M7(K:W.Frag)(n:Nat)(t:IR):TG:=λv σ H Q=>∃ a xs,v=.ref a/\SqT K H a xs/\xs.length=n/\t xs σ H Q
theorem SK{es:List Expr}{k:Nat}{t:IR}{n:Nat}(hc:X.calm=true)(h:O9 X es t)
  (hn:(assignEach es X.env).length=n:=by rfl) (hst:(assignEach es X.env).findIdx? (·.1)=none:=by rfl):PG X (.Tuple es k pos) (M7 X.K n t):=by
 intro AA s σ H v u Q I r hw
 obtain⟨a,xs,e1,hq,hl,hw⟩:=hw
 subst e1
 cases r
 obtain⟨its,rv,ht,hz⟩:=I.tuple hq
 refine assign_Tuple_tuple (I.ok.hd hc) ht (by simp[hn,<-hl,rv.length]) hst λh' hx=> ?_
 have I1:Inv X AA σ H { s with heap:=h' }:=I.kept (t':=s.toks) λb o e=>hx b o (Nat.ne_of_lt (Heap.lt_size e)) e
 exact h AA _ σ H xs _ Q I1 (by simpa using rv) hw
def tO(to ti:TE)(t:bC):TG:=λv σ H Q=>to σ H λo H1=>ti σ H1 λi H2=>t o i v H2 λH3=>Q σ H3
def A4(te:TE)(g:TG):TS:=λD σ H=>te σ H λx H1=>g x σ H1 D.nx
theorem tP{tg e:Expr}{te:TE}{g:TG}(he:PE X e te)(hg:PG X tg g)(hs:swapsWithSole [tg] e pos.line X.env=pure false:=by rfl)(hw:swappedStores [tg] e X.env=pure none:=by rfl)
  (h1:(assignEach [tg] X.env).map (·.2)=[assign tg X.env]:=by rfl):PS X (.Assign [tg] e pos) (A4 te g):=by
 intro AA s σ H D I h
 refine wpAny_Assign_stores (AT (he AA s σ H _ I h) λv s1 hzz=> ?_) hs hw
 obtain⟨x,H1,I1,r1,q1⟩:=hzz
 rw[h1]
 exact AT (hg AA s1 σ H1 x v _ I1 r1 q1) λ_ s2 q=>q
theorem PD{i:Nat}{x:Str}{e:Expr}{te:TE}{pos':Pos}(hN:X.N.Nodup)(hi:X.N[i]? =some x)(hx:KW X.env.scope x)(he:PE X e te)(hs:swapsWith e (some (.Name x pos')) pos.line X.env=pure false:=by rfl)(hf:X.fn x=true\/X.env.scope.names.lookup x=some .local:=by first | exact .inl rfl | exact .inr rfl | assumption) :
  PS X (.Assign [.Name x pos'] e pos) (A4 te (AN i)):=by
 intro AA s σ H D I h
 refine wpAny_Assign_Name (AT (he AA s σ H _ I h) λv s1 hzz=> ?_) hs
 obtain⟨y,H1,I1,r1,q1⟩:=hzz
 exact O5 I1 hN hi hx r1 (λs2 I2=>⟨_,H1,I2,q1⟩) hf
def tQ(i:Nat)(te:TE)(ti:PB):TS:=λD σ H=>∃ x,σ[i]? =some (some x)/\te σ H λy H1=>ti x y H1 λz H2=>D.nx (σ.set i (some z)) H2
def SL(f:Int->Int->Int):PB:=λx y H Q=>∃ i j,x=.int i/\y=.int j/\Q (.int (f i j)) H
end
section
variable{X:Cx}{pos:Pos}
def bD(c:TT)(tb:TS):TS:=λD σ H=>∃ W:Nat->St->Hp->Prop,(∃ m,W m σ H)/\∀ m σ H,W m σ H →
 c σ H λb H1=>if b=true then ∃ N:St->Hp->Prop,(∀ σ' H',N σ' H'->∃ m',m'<m/\W m' σ' H')/\tb { D with nx:=N,ct:=N,bk:=D.nx } σ H1 else D.nx σ H1
theorem tR{c:Expr}{body:List Stmt}{tc:TT}{tb:TS}(hp:PassesOwn (model X.prog X.w) X.A X.env X.xe)(hc:PT X c tc)(hb:PSs X body tb):PS X (.While c body [] pos) (bD tc tb):=by
 intro AA s σ H D I h
 obtain⟨W,⟨m0,w0⟩,turn⟩:=h
 refine wpAny_While (codeAny_whileLoop (λn s'=>∃ σ' H',Inv X AA σ' H' s'/\W n σ' H') ?_ m0 ⟨σ,H,I,w0⟩)
 rintro n s1 ⟨σ1,H1,I1,w1⟩
 refine wpAny_passesOwn hp (AT (hc AA s1 σ1 H1 _ I1 (turn n σ1 H1 w1)) λb s2 hzz=> ?_)
 obtain⟨H2,I2,q2⟩:=hzz
 cases b with
 | true =>
  obtain⟨N,hN,q2⟩:=q2
  rw[if_pos rfl]
  refine wpAny_passesOwn hp (AT (hb AA s2 σ1 H2 _ I2 q2) λf s3 q3=> ?_)
  cases f with
  | next =>
   obtain⟨σ3,H3,I3,n3⟩:=q3
   obtain⟨m',hm,w3⟩:=hN σ3 H3 n3
   exact⟨m',hm,σ3,H3,I3,w3⟩
  | cont =>
   obtain⟨σ3,H3,I3,n3⟩:=q3
   obtain⟨m',hm,w3⟩:=hN σ3 H3 n3
   exact⟨m',hm,σ3,H3,I3,w3⟩
  | brk=>exact q3
  | ret v=>exact q3
 | false =>
  rw[if_neg Bool.false_ne_true]
  exact wpAny_execs_nil ⟨σ1,H2,I2,q2⟩
end
structure It where
 go:Nat->Hp->Prop
 yld:Nat->Hp->V->Hp->Prop
 stop:Nat->Hp->Prop
def FpOk(X:Cx)(AA:List (Addr × Obj))(H:Hp)(b:Addr):Prop :=
 H b=none/\b≠X.env.locals/\b∉X.fs/\(b∈X.ex\/X.s₀.heap.objs.size<=b)/\(∀ x c,X.env.cells.lookup x=some c->c≠b)/\∀ p∈X.pn++AA,p.1≠b
theorem Inv.fpOk{X:Cx}{AA:List (Addr × Obj)}{σ:St}{H H':Hp}{s:Shared}{b:Addr}(I:Inv X AA σ H s)(hb:s.heap.objs.size<=b)(hn:H' b=none):FpOk X AA H' b:=by
 refine⟨hn,Nat.ne_of_gt (Nat.lt_of_lt_of_le I.lt hb),I.nofs hb,.inr (Nat.le_trans I.sz hb),λx c e z=> ?_,λp hp z=> ?_⟩
 ·obtain⟨v,q⟩:=I.cell x c e
  exact absurd (Nat.lt_of_lt_of_le q.lt (by rw[z];exact hb)) (Nat.lt_irrefl _)
 ·exact absurd (Nat.lt_of_lt_of_le (Heap.lt_size (I.pin p hp).1) (by rw[z];exact hb)) (Nat.lt_irrefl _)
structure IT(P:Program)(w:World)(K:W.Frag)(tg:Expr)(J:It)(fp:List Addr)(it:Addr)(tn:Nat->Heap->Prop):Prop where
 mem:it∈fp
 obj:∀ i h,tn i h->∀ b∈fp,∃ o,h.get? b=some o/\∀ v,o.data≠.cell v
 keep:∀ i h h',tn i h->(∀ b∈fp,∀ o,h.get? b=some o->h'.get? b=some o)->tn i h'
 item:∀ (X:Cx),X.prog=P->X.w=w->X.K=K->X.calm=true->∀ (i:Nat) (AA:List (Addr × Obj)) (s:Shared) (σ:St) (H:Hp) (E:Value->Shared->Prop),Inv X AA σ H s->(∀ b∈fp,FpOk X AA H b)->tn i s.heap->J.go i H →
  wpAny (model P w) X.A (pyNext (.ref it)) (λr s1=>∃ u,r=some u ∧
   wpAny (model P w) X.A (letOwnedTupleGo tg (.ref it) u) (λ_ s2=>∃ x H',Inv X AA σ H' s2/\RelV x u/\J.yld i H x H'/\tn (i+1) s2.heap/\∀ b∈fp,H' b=none) E s1) E s
 done:∀ (X:Cx),X.prog=P->X.w=w->X.K=K->X.calm=true->∀ (i:Nat) (AA:List (Addr × Obj)) (s:Shared) (σ:St) (H:Hp) (E:Value->Shared->Prop),Inv X AA σ H s->(∀ b∈fp,FpOk X AA H b)->tn i s.heap->J.stop i H →
  wpAny (model P w) X.A (pyNext (.ref it)) (λr s1=>r=none/\Inv X AA σ H s1) E s
 self:∀ (A:Around) (i:Nat) (s:Shared) (Q:Value->Shared->Prop) (E:Value->Shared->Prop),tn i s.heap->Q (.ref it) s->wpAny (model P w) A (pyIter (.ref it)) Q E s
abbrev TI:=St->Hp->(It->Hp->Prop)->Prop
def bE(X:Cx)(AA:List (Addr × Obj))(σ:St)(tg:Expr)(R:It->Hp->Prop)(itv:Value)(s2:Shared):Prop :=
 ∃ (it:Addr) (fp:List Addr) (tn:Nat->Heap->Prop) (J:It) (H':Hp),itv=.ref it/\Inv X AA σ H' s2/\IT X.prog X.w X.K tg J fp it tn/\tn 0 s2.heap/\(∀ b∈fp,FpOk X AA H' b)/\R J H'
def PI(X:Cx)(tg iter:Expr)(wi:TI):Prop :=
 ∀ (AA:List (Addr × Obj)) (s:Shared) (σ:St) (H:Hp) (R:It->Hp->Prop),Inv X AA σ H s->wi σ H R →
  wpAny (model X.prog X.w) X.A (eval iter X.env) (λv s1=>wpAny (model X.prog X.w) X.A (pyIter v) (bE X AA σ tg R) X.xe s1) X.xe s
theorem M8{M:Model}{A:Around}{E:Value->Shared->Prop}{s:Shared}{tg:Expr}{it:Addr}{u:Value}{o:Obj}{n:String}{vs:Array Value}{Q:Unit->Shared->Prop}(ho:s.heap.get? it=some o)(hc:o.cls=.type n)(hd:o.data=.fields vs)
    (hn:["enumerate","zip","dict_itemiterator","dict_reverseitemiterator","odict_iterator","itertools.zip_longest","itertools.pairwise"].contains n=false) (hQ:Q () s):wpAny M A (letOwnedTupleGo tg (.ref it) u) Q E s:=by
  unfold letOwnedTupleGo
  cases tg<;>first
    | exact wpAny_pure hQ
    | (cases u<;>first
        | exact wpAny_pure hQ
        | (refine wpAny_bind (wpAny_load ho ?_)
           rw[hc,hd]
           show wpAny M A (if(["enumerate","zip","dict_itemiterator","dict_reverseitemiterator","odict_iterator","itertools.zip_longest","itertools.pairwise"].contains n && vs[0]? == some (rawInt _))=true then _ else _) Q E s
           rw[if_neg (by intro h;rw[hn,Bool.false_and]at h;cases h)]
           exact wpAny_pure hQ))
def G0(K:W.Frag)(a:Addr):It :=
 ⟨λi H=>∃ xs x,SqL K H a xs/\xs[i]? =some x,λi H x H'=>H'=H/\∀ xs,SqL K H a xs->xs[i]? =some x,λi H=>∃ xs,SqL K H a xs/\xs.length<=i⟩
def HW(K:W.Frag)(a:Addr):It :=
 ⟨λi H=>∃ xs x,SqT K H a xs/\xs[i]? =some x,λi H x H'=>H'=H/\∀ xs,SqT K H a xs->xs[i]? =some x,λi H=>∃ xs,SqT K H a xs/\xs.length<=i⟩
def FD(lo:Int)(n:Nat):It:=⟨λi _=>i<n,λi H x H'=>H'=H/\x=.int (lo+i),λi _=>n<=i⟩
theorem tS{P:Program}{w:World}{K:W.Frag}{tg:Expr}(a it:Addr):IT P w K tg (G0 K a) [it] it (λi h=>h.IsListIter it a i) where
 mem:=by simp
 obj:=λi h st b hb=>by
  have e:b=it:=by simpa using hb
  subst e
  obtain⟨o,e,c,d⟩:=st
  exact⟨o,e,λv z=>by rw[d]at z;cases z⟩
 keep:=λi h h' st k=>st.at λo e=>k it (by simp) o e
 item:=by
  intro X hP hw hK hc i AA s σ H E I hf st hg
  subst hP hw hK
  obtain⟨xs,x,hq,hx⟩:=hg
  obtain⟨its,rv,p,hz⟩:=I.list hq
  obtain⟨u,hu,ru⟩:=rv.get hx
  obtain⟨f0,f1,f2,f3,f4,f5⟩:=hf it (by simp)
  refine wpAny_pyNext_list_item st p.isList (x:=u) (by simpa using hu) λh' st' sb=> ?_
  have I1:Inv X AA σ H { s with heap:=h' }:=I.turned (t':=s.toks) (λb o hb e=>(sb.2 b hb).trans e) f0 f1 f3 f4 f5
  obtain⟨o,e,c,d⟩:=id st'
  exact⟨u,rfl,M8 (s:={ s with heap:=h' }) e c d (by decide) ⟨x,H,I1,ru,⟨rfl,λys hy=>by rw[I.list_inj hy hq];exact hx⟩,st',λb hb=>(hf b hb).1⟩⟩
 done:=by
  intro X hP hw hK hc i AA s σ H E I hf st hg
  subst hP hw hK
  obtain⟨xs,hq,hx⟩:=hg
  obtain⟨its,rv,p,hz⟩:=I.list hq
  obtain⟨f0,f1,f2,f3,f4,f5⟩:=hf it (by simp)
  have hl:=rv.length
  exact wpAny_pyNext_list_end (I.ok.hd hc) st p.isList (by simp;omega) λh' eb=>⟨rfl,I.turned (t':=s.toks) (λb o hb e=>eb b o hb e) f0 f1 f3 f4 f5⟩
 self:=λ_ _ _ _ _ st h=>wpAny_pyIter_listiter st h
theorem tU{P:Program}{w:World}{K:W.Frag}{tg:Expr}(a it:Addr):IT P w K tg (HW K a) [it] it (λi h=>h.IsTupleIter it a i) where
 mem:=by simp
 obj:=λi h st b hb=>by
  have e:b=it:=by simpa using hb
  subst e
  obtain⟨o,e,c,d⟩:=st
  exact⟨o,e,λv z=>by rw[d]at z;cases z⟩
 keep:=λi h h' st k=>st.at λo e=>k it (by simp) o e
 item:=by
  intro X hP hw hK hc i AA s σ H E I hf st hg
  subst hP hw hK
  obtain⟨xs,x,hq,hx⟩:=hg
  obtain⟨its,rv,p,hz⟩:=I.tuple hq
  obtain⟨u,hu,ru⟩:=rv.get hx
  obtain⟨f0,f1,f2,f3,f4,f5⟩:=hf it (by simp)
  refine wpAny_pyNext_tuple_item st (show s.heap.IsTuple a its.toArray from p) (x:=u) (by simpa using hu) λh' st' sb=> ?_
  have I1:Inv X AA σ H { s with heap:=h' }:=I.turned (t':=s.toks) (λb o hb e=>(sb.2 b hb).trans e) f0 f1 f3 f4 f5
  obtain⟨o,e,c,d⟩:=id st'
  exact⟨u,rfl,M8 (s:={ s with heap:=h' }) e c d (by decide) ⟨x,H,I1,ru,⟨rfl,λys hy=>by rw[I.tuple_inj hy hq];exact hx⟩,st',λb hb=>(hf b hb).1⟩⟩
 done:=by
  intro X hP hw hK hc i AA s σ H E I hf st hg
  subst hP hw hK
  obtain⟨xs,hq,hx⟩:=hg
  obtain⟨its,rv,p,hz⟩:=I.tuple hq
  obtain⟨f0,f1,f2,f3,f4,f5⟩:=hf it (by simp)
  have hl:=rv.length
  exact wpAny_pyNext_tuple_end (I.ok.hd hc) st (show s.heap.IsTuple a its.toArray from p) (by simp;omega) λh' eb=>⟨rfl,I.turned (t':=s.toks) (λb o hb e=>eb b o hb e) f0 f1 f3 f4 f5⟩
 self:=λ_ _ _ _ _ st h=>wpAny_pyIter_tupleiter st h
theorem tV{P:Program}{w:World}{K:PySem.W.Frag}{tg:Expr}(it:Addr)(lo:Int)(n:Nat):IT P w K tg (FD lo n) [it] it (λi h=>IsRangeIter h it (lo+(i:Nat) * 1) ((n:Int) - (i:Nat)) 1) where
 mem:=by simp
 obj:=λi h st b hb=>by
  have e:b=it:=by simpa using hb
  subst e
  exact⟨_,st,λv z=>by
   have z':Data.fields _=Data.cell v:=z
   cases z'⟩
 keep:=λi h h' st k=>k it (by simp) _ st
 item:=by
  intro X hP hw hK hc i AA s σ H E I hf st hg
  subst hP hw hK
  obtain⟨f0,f1,f2,f3,f4,f5⟩:=hf it (by simp)
  have W:=Walks.range (prog:=X.prog) (w:=X.w) (I.ok.hd hc) it lo 1 n
  refine W.item i s _ _ hg st λv h' tk hv st' kk=> ?_
  obtain⟨t,rfl⟩:=hv
  have I1:Inv X AA σ H { s with heap:=h',toks:=tk }:=I.turned (λb o hb e=>kk b o (by simpa using hb) e) f0 f1 f3 f4 f5
  refine⟨_,rfl,M8 (s:={ s with heap:=h',toks:=tk }) (n:="range_iterator") st' rfl rfl (by decide) ⟨.int (lo+i),H,I1,⟨t,?_⟩,⟨rfl,rfl⟩,st',λb hb=>(hf b hb).1⟩⟩
  rw[Int.mul_one]
 done:=by
  intro X hP hw hK hc i AA s σ H E I hf st hg
  subst hP hw hK
  obtain⟨f0,f1,f2,f3,f4,f5⟩:=hf it (by simp)
  exact wpAny_pyNext_range_end (I.ok.hd hc) st (by have:n<=i:=hg;omega) λh' eb=>⟨rfl,I.turned (t':=s.toks) (λb o hb e=>eb b o hb e) f0 f1 f3 f4 f5⟩
 self:=λ_ _ _ _ _ st h=>wpAny_pyIter_rangeiter st h
end L2
namespace L2
section
variable{X:Cx}{tg:Expr}
theorem tW{AA:List (Addr × Obj)}{σ:St}{H:Hp}{s:Shared}{R:It->Hp->Prop}{E:Value->Shared->Prop}{lo hi:Int}{t u v:Tok}{tk:Nat}(I:Inv X AA σ H s)(h1: -(2 ^ 62)<=lo)(h2:lo<2 ^ 62)(h3: -(2 ^ 62)<=hi)(h4:hi<2 ^ 62)
  (q:R (FD lo (hi - lo).toNat) H):wpAny (model X.prog X.w) X.A (pyIter (.ref s.heap.objs.size)) (bE X AA σ tg R) E { s with heap:=s.heap.push { cls:=.type "range",data:=.fields #[.int lo t,.int hi u,.int 1 v] },toks:=tk }:=by
 refine wpAny_pyIter_range (IsRange.new ..) (small_one h1 h2 h3 h4) ?_
 have I1:Inv X AA σ H { s with heap:=s.heap.push { cls:=.type "range",data:=.fields #[.int lo t,.int hi u,.int 1 v] },toks:=tk }:=I.kept λb o e=>Heap.get?_push_of_some _ e
 refine⟨(s.heap.push { cls:=.type "range",data:=.fields #[.int lo t,.int hi u,.int 1 v] }).objs.size,[(s.heap.push { cls:=.type "range",data:=.fields #[.int lo t,.int hi u,.int 1 v] }).objs.size],_,_,H,rfl,
  I1.kept (t':=tk) λb o e=>Heap.get?_push_of_some _ e,tV _ lo (hi - lo).toNat,?_,λb hb=> ?_,q⟩
 ·have e1:lo+((0:Nat):Int) * 1=lo:=by simp
  have e2:(((hi - lo).toNat:Nat):Int) - ((0:Nat):Int)=Builtin.Range.rangeSize lo hi 1:=by rw[rangeSize_one];split<;>omega
  show IsRangeIter _ _ (lo+((0:Nat):Int) * 1) ((((hi - lo).toNat:Nat):Int) - ((0:Nat):Int)) 1
  rw[e1,e2]
  exact Heap.get?_push_size _ rfl
 ·have e:b=(s.heap.push { cls:=.type "range",data:=.fields #[.int lo t,.int hi u,.int 1 v] }).objs.size:=by simpa using hb
  subst e
  exact I1.fpOk (Nat.le_refl _) (I1.hok.fresh (Nat.le_refl _))
def G1(ta:TA):TI:=λσ H R=>ta σ H λvs H1=>∃ j:Int,vs=[.int j]/\ -(2 ^ 62)<=j/\j<2 ^ 62/\R (FD 0 j.toNat) H1
def bF(ta:TA):TI:=λσ H R=>ta σ H λvs H1=>∃ i j:Int,vs=[.int i,.int j]/\(-(2 ^ 62)<=i/\i<2 ^ 62/\ -(2 ^ 62)<=j/\j<2 ^ 62)/\R (FD i (j - i).toNat) H1
theorem IU{a:Expr}{ta:TA}{p pos:Pos}(hg:Gl X "range")(hm:X.mg "range"=none)(ha:PA X [a] ta)(hs:starEach [a] X.env=[(false,eval a X.env)]:=by rfl):PI X tg (.Call (.Name "range" p) [a] [] pos) (G1 ta):=by
 intro AA s σ H R I h
 refine Call_ (KY I hg hm boot_range (PyProof.Rows.callWith_type1 (AT (ha pos AA s σ H _ I h) λus s1 hzz=> ?_) hs rfl))
 obtain⟨vs,H1,I1,r1,q1⟩:=hzz
 obtain⟨j,e,q1,q2,q⟩:=q1
 subst e
 cases r1 with
 | cons r rr =>
  cases rr
  obtain⟨t,rfl⟩:=r
  exact call_range_1 (tW I1 (by omega) (by omega) q1 q2 (by simpa using q))
def EQ(wi:TI)(g:TG)(tb:TS):TS:=λD σ H=>wi σ H λJ H1=>∃ W:Nat->Nat->St->Hp->Prop,(∃ m,W 0 m σ H1)/\∀ i m σ H,W i m σ H →
 (J.stop i H/\D.nx σ H)\/(J.go i H/\∃ N:St->Hp->Prop,(∀ σ' H',N σ' H'->∃ m',m'<m/\W (i+1) m' σ' H')/\∀ x H',J.yld i H x H'->g x σ H' λσ2 H2=>tb { D with nx:=N,ct:=N,bk:=D.nx } σ2 H2)
def M9(fp:List Addr)(h:Heap):List (Addr × Obj):=fp.filterMap λb=>(h.get? b).map λo=>(b,o)
theorem PF{fp:List Addr}{h:Heap}{b:Addr}{o:Obj}(hb:b∈fp)(e:h.get? b=some o):(b,o)∈M9 fp h:=List.mem_filterMap.mpr ⟨b,hb,by rw[e];rfl⟩
theorem tX{fp:List Addr}{h:Heap}{p:Addr × Obj}(hp:p∈M9 fp h):p.1∈fp/\h.get? p.1=some p.2:=by
 obtain⟨b,hb,e⟩:=List.mem_filterMap.mp hp
 cases q:h.get? b with
 | none=>rw[q]at e;cases e
 | some o =>
  rw[q]at e
  have e':(b,o)=p:=Option.some.inj e
  subst e'
  exact⟨hb,q⟩
theorem Inv.pinned{AA:List (Addr × Obj)}{σ:St}{H:Hp}{s:Shared}{fp:List Addr}(I:Inv X AA σ H s)(hf:∀ b∈fp,FpOk X AA H b)(ho:∀ b∈fp,∃ o,s.heap.get? b=some o/\∀ v,o.data≠.cell v):Inv X (AA++M9 fp s.heap) σ H s :=
 I.pins_of λp hp=>(List.mem_append.mp hp).elim (λz=>I.pin p (List.mem_append_right _ z)) λz=>by
  obtain⟨hb,e⟩:=tX z
  obtain⟨f0,f1,f2,_⟩:=hf p.1 hb
  obtain⟨o,e',d⟩:=ho p.1 hb
  rw[e]at e';cases e'
  exact⟨e,f0,f1,f2,d⟩
theorem Inv.unpinned{AA pl:List (Addr × Obj)}{σ:St}{H:Hp}{s:Shared}(I:Inv X (AA++pl) σ H s):Inv X AA σ H s:=I.pins_of λp hp=>I.pin p (List.mem_append_right _ (List.mem_append_left _ hp))
theorem G2{iter:Expr}{body:List Stmt}{wi:TI}{g:TG}{tb:TS}{pos:Pos}(hp:PassesOwn (model X.prog X.w) X.A X.env X.xe)(hc:X.calm=true)(hi:PI X tg iter wi)(hg:PG X tg g)(hb:PSs X body tb)
  (hs:∀ x,foldedSetIterable iter X.env x=pure x:=by intro _;rfl):PS X (.For tg iter body [] pos) (EQ wi g tb):=by
 intro AA s σ H D I h
 refine wpAny_For (AT (hi AA s σ H _ I h) λv s1 h1=>AT h1 λitv s2 h2=> ?_) hs
 obtain⟨it,fp,tn,J,H2,e,I2,T,st2,f2,W,⟨m0,w0⟩,turn⟩:=h2
 subst e
 have stat:∀ {H':Hp},(∀ b∈fp,H' b=none)->∀ b∈fp,FpOk X AA H' b:=λhn b hb=>⟨hn b hb,(f2 b hb).2⟩
 refine codeAny_forLoop_any (λn s'=>∃ i σ' H',Inv X AA σ' H' s'/\tn i s'.heap/\(∀ b∈fp,H' b=none)/\W i n σ' H') ?_ m0 ⟨0,σ,H2,I2,st2,λb hb=>(f2 b hb).1,w0⟩
 rintro n s3 ⟨i,σ3,H3,I3,st3,fr3,w3⟩
 rcases turn i n σ3 H3 w3 with⟨stop,qn⟩ | ⟨go,N,hN,step⟩
 ·refine wpAny_passesOwn hp (AT (T.done X rfl rfl rfl hc i AA s3 σ3 H3 X.xe I3 (stat fr3) st3 stop) λr s4 ⟨hr,I4⟩=> ?_)
  subst hr
  exact wpAny_execs_nil ⟨σ3,H3,I4,qn⟩
 ·refine wpAny_passesOwn hp (AT (T.item X rfl rfl rfl hc i AA s3 σ3 H3 X.xe I3 (stat fr3) st3 go) λr s4 hzz=> ?_)
  obtain⟨u,hr,h4⟩:=hzz
  subst hr
  refine wpAny_passesOwn hp (AT h4 λ_ s5 hzz=> ?_)
  obtain⟨x,H5,I5,r5,y5,st5,fr5⟩:=hzz
  have I5':=I5.pinned (stat fr5) (T.obj _ _ st5)
  refine wpAny_passesOwn hp (AT (hg _ s5 σ3 H5 x u _ I5' r5 (step x H5 y5)) λ_ s6 hzz=> ?_)
  obtain⟨σ6,H6,I6,q6⟩:=hzz
  refine wpAny_passesOwn hp (AT (hb _ s6 σ6 H6 _ I6 q6) λf s7 q7=> ?_)
  have again:∀ {σ7:St} {H7:Hp},Inv X (AA++M9 fp s5.heap) σ7 H7 s7->N σ7 H7->∃ m,m<n/\∃ i σ' H',Inv X AA σ' H' s7/\tn i s7.heap/\(∀ b∈fp,H' b=none)/\W i m σ' H':=λ{σ7 H7} I7 n7=>by
   obtain⟨m',hm,w7⟩:=hN σ7 H7 n7
   refine⟨m',hm,i+1,σ7,H7,I7.unpinned,T.keep _ _ _ st5 λb hb o e=>(I7.pin (b,o) (List.mem_append_right _ (List.mem_append_right _ (PF hb e)))).1,λb hb=> ?_,w7⟩
   obtain⟨o,e,d⟩:=T.obj _ _ st5 b hb
   exact(I7.pin (b,o) (List.mem_append_right _ (List.mem_append_right _ (PF hb e)))).2.1
  cases f with
  | next=>obtain⟨σ7,H7,I7,n7⟩:=q7;exact again I7 n7
  | cont=>obtain⟨σ7,H7,I7,n7⟩:=q7;exact again I7 n7
  | brk=>obtain⟨σ7,H7,I7,q7⟩:=q7;exact⟨σ7,H7,I7.unpinned,q7⟩
  | ret v=>obtain⟨x7,σ7,H7,I7,r7,q7⟩:=q7;exact⟨x7,σ7,H7,I7.unpinned,r7,q7⟩
end
theorem tY{K:PySem.W.Frag}{a:Addr}{xs:List V}{g:TG}{tb:TS}{D:Ends}{σ:St}{H:Hp}(Pv:Nat->St->Hp->Prop)(h0:Pv 0 σ H)(hl:∀ i σ H,i<=xs.length->Pv i σ H->SqL K H a xs)
  (hs:∀ i x σ H,xs[i]? =some x->Pv i σ H->g x σ H λσ2 H2=>tb { D with nx:=Pv (i+1),ct:=Pv (i+1),bk:=D.nx } σ2 H2) (hd:∀ σ H,Pv xs.length σ H->D.nx σ H) :
  ∃ W:Nat->Nat->St->Hp->Prop,(∃ m,W 0 m σ H)/\∀ i m σ H,W i m σ H →
   ((G0 K a).stop i H/\D.nx σ H)\/((G0 K a).go i H/\∃ N:St->Hp->Prop,(∀ σ' H',N σ' H'->∃ m',m'<m/\W (i+1) m' σ' H')/\∀ x H',(G0 K a).yld i H x H'->g x σ H' λσ2 H2=>tb { D with nx:=N,ct:=N,bk:=D.nx } σ2 H2):=by
 refine⟨λi m σ H=>m=xs.length - i/\i<=xs.length/\Pv i σ H,⟨xs.length,by simp,Nat.zero_le _,h0⟩,?_⟩
 rintro i m σ H ⟨rfl,hi,p⟩
 have q:=hl i σ H hi p
 by_cases BE:i<xs.length
 ·refine .inr ⟨⟨xs,xs[i],q,by simp[BE]⟩,Pv (i+1),λσ' H' p'=>⟨xs.length - (i+1),by omega,rfl,BE,p'⟩,λx H' y=> ?_⟩
  obtain⟨e,y⟩:=y
  subst e
  exact hs i x σ _ (y xs q) p
 ·have e:i=xs.length:=by omega
  subst e
  exact .inl ⟨⟨xs,q,Nat.le_refl _⟩,hd σ H p⟩
theorem tZ{K:PySem.W.Frag}{a:Addr}{xs:List V}{g:TG}{tb:TS}{D:Ends}{σ:St}{H:Hp}(Pv:Nat->St->Hp->Prop)(h0:Pv 0 σ H)(hl:∀ i σ H,i<=xs.length->Pv i σ H->SqT K H a xs)
  (hs:∀ i x σ H,xs[i]? =some x->Pv i σ H->g x σ H λσ2 H2=>tb { D with nx:=Pv (i+1),ct:=Pv (i+1),bk:=D.nx } σ2 H2) (hd:∀ σ H,Pv xs.length σ H->D.nx σ H) :
  ∃ W:Nat->Nat->St->Hp->Prop,(∃ m,W 0 m σ H)/\∀ i m σ H,W i m σ H →
   ((HW K a).stop i H/\D.nx σ H)\/((HW K a).go i H/\∃ N:St->Hp->Prop,(∀ σ' H',N σ' H'->∃ m',m'<m/\W (i+1) m' σ' H')/\∀ x H',(HW K a).yld i H x H'->g x σ H' λσ2 H2=>tb { D with nx:=N,ct:=N,bk:=D.nx } σ2 H2):=by
 refine⟨λi m σ H=>m=xs.length - i/\i<=xs.length/\Pv i σ H,⟨xs.length,by simp,Nat.zero_le _,h0⟩,?_⟩
 rintro i m σ H ⟨rfl,hi,p⟩
 have q:=hl i σ H hi p
 by_cases BE:i<xs.length
 ·refine .inr ⟨⟨xs,xs[i],q,by simp[BE]⟩,Pv (i+1),λσ' H' p'=>⟨xs.length - (i+1),by omega,rfl,BE,p'⟩,λx H' y=> ?_⟩
  obtain⟨e,y⟩:=y
  subst e
  exact hs i x σ _ (y xs q) p
 ·have e:i=xs.length:=by omega
  subst e
  exact .inl ⟨⟨xs,q,Nat.le_refl _⟩,hd σ H p⟩
theorem t3{lo:Int}{n:Nat}{g:TG}{tb:TS}{D:Ends}{σ:St}{H:Hp}(Pv:Nat->St->Hp->Prop)(h0:Pv 0 σ H)
  (hs:∀ i σ H,i<n->Pv i σ H->g (.int (lo+i)) σ H λσ2 H2=>tb { D with nx:=Pv (i+1),ct:=Pv (i+1),bk:=D.nx } σ2 H2) (hd:∀ σ H,Pv n σ H->D.nx σ H) :
  ∃ W:Nat->Nat->St->Hp->Prop,(∃ m,W 0 m σ H)/\∀ i m σ H,W i m σ H →
   ((FD lo n).stop i H/\D.nx σ H)\/((FD lo n).go i H/\∃ N:St->Hp->Prop,(∀ σ' H',N σ' H'->∃ m',m'<m/\W (i+1) m' σ' H')/\∀ x H',(FD lo n).yld i H x H'->g x σ H' λσ2 H2=>tb { D with nx:=N,ct:=N,bk:=D.nx } σ2 H2):=by
 refine⟨λi m σ H=>m=n - i/\i<=n/\Pv i σ H,⟨n,by simp,Nat.zero_le _,h0⟩,?_⟩
 rintro i m σ H ⟨rfl,hi,p⟩
 by_cases BE:i<n
 ·refine .inr ⟨BE,Pv (i+1),λσ' H' p'=>⟨n - (i+1),by omega,rfl,BE,p'⟩,λx H' y=> ?_⟩
  obtain⟨e,y⟩:=y
  subst e y
  exact hs i σ _ BE p
 ·have e:i=n:=by omega
  subst e
  exact .inl ⟨Nat.le_refl _,hd σ H p⟩
end L2
namespace L2
abbrev R2:=V->V->Hp->VK->Prop
def OpR(X:Cx)(f:Value->Value->Sem Value)(r:R2):Prop :=
 ∀ (AA:List (Addr × Obj)) (s:Shared) (σ:St) (H:Hp) (x y:V) (v u:Value) (Q:VK),Inv X AA σ H s->RelV x v->RelV y u->r x y H Q →
  wpAny (model X.prog X.w) X.A (f v u) (EP X AA σ Q) X.xe s
def SN(X:Cx)(f:Value->Sem Value)(r:V->Hp->VK->Prop):Prop :=
 ∀ (AA:List (Addr × Obj)) (s:Shared) (σ:St) (H:Hp) (x:V) (v:Value) (Q:VK),Inv X AA σ H s->RelV x v->r x H Q →
  wpAny (model X.prog X.w) X.A (f v) (EP X AA σ Q) X.xe s
def CallR(X:Cx)(f:Value)(r:List V->Hp->VK->Prop):Prop :=
 ∀ (AA:List (Addr × Obj)) (s:Shared) (σ:St) (H:Hp) (xs:List V) (us:List Value) (Q:VK),Inv X AA σ H s->Vals xs us->r xs H Q →
  wpAny (model X.prog X.w) X.A (call f us) (EP X AA σ Q) X.xe s
def t4(X:Cx)(r:V->Hp->(Bool->Hp->Prop)->Prop):Prop :=
 ∀ (AA:List (Addr × Obj)) (s:Shared) (σ:St) (H:Hp) (x:V) (v:Value) (Q:Bool->Hp->Prop),Inv X AA σ H s->RelV x v->r x H Q →
  wpAny (model X.prog X.w) X.A (truthy v) (TP X AA σ Q) X.xe s
def AF(r:R2)(ta tb:TE):TE:=λσ H Q=>ta σ H λx H1=>tb σ H1 λy H2=>r x y H2 Q
def SO(r:V->Hp->VK->Prop)(ta:TE):TE:=λσ H Q=>ta σ H λx H1=>r x H1 Q
def rI(C:Int->Int->Prop)(g:Int->Int->V):R2:=λx y H Q=>∃ i j,x=.int i/\y=.int j/\C i j/\Q (g i j) H
def HX(g:Int->Int->V):R2:=λx y H Q=>∃ i j,x=.int i/\y=.int j/\Q (g i j) H
def rU(g:Int->V):V->Hp->VK->Prop:=λx H Q=>∃ i,x=.int i/\Q (g i) H
section
variable{X:Cx}{a b c:Expr}{ta tb tc:TE}{pos:Pos}
theorem SQ(ha:PE X a ta)(hb:PE X b tb){AA:List (Addr × Obj)}{s:Shared}{σ:St}{H:Hp}{R:V->V->Hp->Prop}(I:Inv X AA σ H s)
  (h:ta σ H λx H1=>tb σ H1 λy H2=>R x y H2) {Q:Value->Shared->Prop} {f:Value->Value->Sem Value}
  (hf:∀ v u s2 x y H2,Inv X AA σ H2 s2->RelV x v->RelV y u->R x y H2->wpAny (model X.prog X.w) X.A (f v u) Q X.xe s2) :
  wpAny (model X.prog X.w) X.A (eval a X.env) (λv s₁=>wpAny (model X.prog X.w) X.A (eval b X.env) (λu s₂=>wpAny (model X.prog X.w) X.A (f v u) Q X.xe s₂) X.xe s₁) X.xe s:=by
 refine AT (ha AA s σ H _ I h) λv s1 hzz=> ?_
 obtain⟨x,H1,I1,r1,q1⟩:=hzz
 refine AT (hb AA s1 σ H1 _ I1 q1) λu s2 hzz=> ?_
 obtain⟨y,H2,I2,r2,q2⟩:=hzz
 exact hf v u s2 x y H2 I2 r1 r2 q2
theorem AU{op:Operator}{r:R2}(ho:OpR X (binaryOp op) r)(ha:PE X a ta)(hb:PE X b tb):PE X (.BinOp a op b pos) (AF r ta tb):=by
 intro AA s σ H Q I h
 exact wpAny_BinOp (SQ ha hb I h λv u s2 x y H2 I2 rx ry q=>ho AA s2 σ H2 x y v u Q I2 rx ry q)
theorem t5{op:UnaryOp}{r:V->Hp->VK->Prop}(ho:SN X (unaryOp op) r)(ha:PE X a ta):PE X (.UnaryOp op a pos) (SO r ta):=by
 intro AA s σ H Q I h
 exact UnaryOp_ (AT (ha AA s σ H _ I h) λv s1 ⟨x,H1,I1,r1,q1⟩=>ho AA s1 σ H1 x v Q I1 r1 q1)
theorem SR{f:Value->Value->Sem Value}{C:Int->Int->Prop}{g:Int->Int->Int}
  (rule:∀ (i j:Int) (t u:Tok) (s:Shared) (Q:Value->Shared->Prop) (E:Value->Shared->Prop),C i j->Q (.int (g i j) s.toks) { s with toks:=s.toks+1 }->wpAny (model X.prog X.w) X.A (f (.int i t) (.int j u)) Q E s) :
  OpR X f (rI C λi j=>.int (g i j)):=by
 intro AA s σ H x y v u Q I rx ry h
 obtain⟨i,j,rfl,rfl,hc,q⟩:=h
 obtain⟨t,rfl⟩:=rx
 obtain⟨t',rfl⟩:=ry
 exact rule i j t t' s _ _ hc ⟨.int (g i j),H,I.tok _,⟨_,rfl⟩,q⟩
theorem t7{f:Value->Value->Sem Value}{g:Int->Int->Int}
  (rule:∀ (i j:Int) (t u:Tok) (s:Shared) (Q:Value->Shared->Prop) (E:Value->Shared->Prop),Q (.int (g i j) s.toks) { s with toks:=s.toks+1 }->wpAny (model X.prog X.w) X.A (f (.int i t) (.int j u)) Q E s) :
  OpR X f (HX λi j=>.int (g i j)):=by
 intro AA s σ H x y v u Q I rx ry h
 obtain⟨i,j,rfl,rfl,q⟩:=h
 obtain⟨t,rfl⟩:=rx
 obtain⟨t',rfl⟩:=ry
 exact rule i j t t' s _ _ ⟨.int (g i j),H,I.tok _,⟨_,rfl⟩,q⟩
theorem SS{f:Value->Value->Sem Value}{g:Int->Int->Bool}
  (rule:∀ (i j:Int) (t u:Tok) (s:Shared) (Q:Value->Shared->Prop) (E:Value->Shared->Prop),Q (.bool (g i j)) s->wpAny (model X.prog X.w) X.A (f (.int i t) (.int j u)) Q E s) :
  OpR X f (HX λi j=>.bl (g i j)):=by
 intro AA s σ H x y v u Q I rx ry h
 obtain⟨i,j,rfl,rfl,q⟩:=h
 obtain⟨t,rfl⟩:=rx
 obtain⟨t',rfl⟩:=ry
 exact rule i j t t' s _ _ ⟨.bl (g i j),H,I,rfl,q⟩
def bG(i j:Int):Prop:=0<j/\j<1073741824
def t8(i j:Int):Prop:=0<=j/\j<=1000000/\i.natAbs<2 ^ 64
def CMul(i j:Int):Prop:=(-(2 ^ 64)<i/\i<2 ^ 64)\/(-(2 ^ 64)<j/\j<2 ^ 64)
theorem CMul.ok{i j:Int}(h:CMul i j):IntMulOk i j:=by
 rcases h with⟨h1,h2⟩ | ⟨h1,h2⟩
 ·exact .of_left (intBits_le_64 h1 h2)
 ·exact .of_right (intBits_le_64 h1 h2)
theorem uA:OpR X (binaryOp .Add) (HX λi j=>.int (i+j)):=t7 λ_ _ _ _ _ _ _ q=>add_int q
theorem uB:OpR X (binaryOp .Mult) (rI CMul λi j=>.int (i * j)):=SR λ_ _ _ _ _ _ _ hc q=>mul_int q hc.ok
theorem J2:OpR X (binaryOp .FloorDiv) (rI bG λi j=>.int (i / j)):=SR λi j _ _ _ _ _ hc q=>by
 have h1:(0:Int)<j:=hc.1
 have h2:j<1073741824:=hc.2
 exact floordiv_int (by omega) (by rw[Int.fdiv_eq_ediv_of_nonneg i (by omega)];exact q) (.inl (PyProof.noPylong_small (by omega)))
theorem G3:OpR X (binaryOp .Mod) (rI (λ_ j=>0<j) λi j=>.int (i % j)):=SR λi j _ _ _ _ _ hc q=>by
 have h1:(0:Int)<j:=hc
 exact mod_int' (by omega) (by rw[Int.fmod_eq_emod_of_nonneg i (by omega)];exact q)
theorem uC{f:Value->Sem Value}{g:Int->Int}
  (rule:∀ (i:Int) (t:Tok) (s:Shared) (Q:Value->Shared->Prop) (E:Value->Shared->Prop),Q (.int (g i) s.toks) { s with toks:=s.toks+1 }->wpAny (model X.prog X.w) X.A (f (.int i t)) Q E s) :
  SN X f (rU λi=>.int (g i)):=by
 intro AA s σ H x v Q I rx h
 obtain⟨i,rfl,q⟩:=h
 obtain⟨t,rfl⟩:=rx
 exact rule i t s _ _ ⟨.int (g i),H,I.tok _,⟨_,rfl⟩,q⟩
theorem uD:SN X (unaryOp .USub) (rU λi=>.int (-i)):=uC λ_ _ _ _ _ q=>neg_int q
end
def EK:V->V->Bool
 | .non,.non=>true | .non,.int _=>true | .int _,.non=>true | .non,.bl _=>true | .bl _,.non=>true | .non,.str _=>true | .str _,.non=>true
 | .int _,.int _=>true | .bl _,.bl _=>true | .str _,.str _=>true | .byt _,.byt _=>true
 | .int _,.str _=>true | .str _,.int _=>true | .bl _,.str _=>true | .str _,.bl _=>true
 | _,_=>false
def uE:R2:=λx y H Q=>EK x y=true/\Q (.bl (decide (x=y))) H
def uF:R2:=λx y H Q=>EK x y=true/\Q (.bl (!decide (x=y))) H
theorem bH{i j:Int}:decide (V.int i=V.int j)=(i == j):=by
 rw[Bool.eq_iff_iff]
 simp
theorem bI{i j:Bool}:decide (V.bl i=V.bl j)=(i == j):=by
 rw[Bool.eq_iff_iff]
 simp
theorem bJ{i j:Str}:decide (V.str i=V.str j)=(i == j):=by
 rw[Bool.eq_iff_iff]
 simp
theorem bK{i j:Array UInt8}:decide (V.byt i=V.byt j)=(i.toList == j.toList):=by
 rw[Bool.eq_iff_iff]
 cases i
 cases j
 simp
section
variable{X:Cx}{a b c:Expr}{ta tb tc:TE}{pos:Pos}
theorem CO{AA:List (Addr × Obj)}{σ:St}{H:Hp}{s:Shared}{Q:VK}{k k':Bool}(I:Inv X AA σ H s)(q:Q (.bl k) H)(e:k=k'):EP X AA σ Q (.bool k') s:=by
 subst e
 exact⟨.bl k,H,I,rfl,q⟩
theorem uG:OpR X (compareOp .Eq) uE:=by
 intro AA s σ H x y v u Q I rx ry h
 obtain⟨hs,q⟩:=h
 cases x with
 | non =>
  cases rx
  cases y with
  | non=>cases ry;exact PySem.EqNone.eq_none_none (CO I q (by simp))
  | bl j=>cases ry;exact PySem.EqNone.eq_none_bool (CO I q (by simp))
  | int j=>obtain⟨t',rfl⟩:=ry;exact PySem.EqNone.eq_none_int (CO I q (by simp))
  | str j=>obtain⟨t',rfl⟩:=ry;exact PySem.EqNone.eq_none_str (CO I q (by simp))
  | _=>exact absurd (show false=true from hs) Bool.false_ne_true
 | bl i =>
  cases rx
  cases y with
  | non=>cases ry;exact PySem.EqNone.eq_bool_none (CO I q (by simp))
  | bl j=>cases ry;exact eq_bool (CO I q bI)
  | str j=>obtain⟨t',rfl⟩:=ry;exact PySem.EqMixed.eq_bool_str (CO I q (by simp))
  | _=>exact absurd (show false=true from hs) Bool.false_ne_true
 | int i =>
  obtain⟨t,rfl⟩:=rx
  cases y with
  | non=>cases ry;exact PySem.EqNone.eq_int_none (CO I q (by simp))
  | int j=>obtain⟨t',rfl⟩:=ry;exact eq_int (CO I q bH)
  | str j=>obtain⟨t',rfl⟩:=ry;exact PySem.EqMixed.eq_int_str (CO I q (by simp))
  | _=>exact absurd (show false=true from hs) Bool.false_ne_true
 | str i =>
  obtain⟨t,rfl⟩:=rx
  cases y with
  | non=>cases ry;exact PySem.EqNone.eq_str_none (CO I q (by simp))
  | bl j=>cases ry;exact PySem.EqMixed.eq_str_bool (CO I q (by simp))
  | int j=>obtain⟨t',rfl⟩:=ry;exact PySem.EqMixed.eq_str_int (CO I q (by simp))
  | str j=>obtain⟨t',rfl⟩:=ry;exact eq_str (CO I q bJ)
  | _=>exact absurd (show false=true from hs) Bool.false_ne_true
 | byt i =>
  obtain⟨t,rfl⟩:=rx
  cases y with
  | byt j=>obtain⟨t',rfl⟩:=ry;exact W.eq_bytes (CO I q bK)
  | _=>exact absurd (show false=true from hs) Bool.false_ne_true
 | _=>cases y<;>exact absurd (show false=true from hs) Bool.false_ne_true
theorem uH:OpR X (compareOp .NotEq) uF:=by
 intro AA s σ H x y v u Q I rx ry h
 obtain⟨hs,q⟩:=h
 cases x with
 | non =>
  cases rx
  cases y with
  | non=>cases ry;exact PySem.EqNone.ne_none_none (CO I q (by simp))
  | bl j=>cases ry;exact PySem.EqNone.ne_none_bool (CO I q (by simp))
  | int j=>obtain⟨t',rfl⟩:=ry;exact PySem.EqNone.ne_none_int (CO I q (by simp))
  | str j=>obtain⟨t',rfl⟩:=ry;exact PySem.EqNone.ne_none_str (CO I q (by simp))
  | _=>exact absurd (show false=true from hs) Bool.false_ne_true
 | bl i =>
  cases rx
  cases y with
  | non=>cases ry;exact PySem.EqNone.ne_bool_none (CO I q (by simp))
  | bl j=>cases ry;exact ne_bool (CO I q (congrArg not bI))
  | str j=>obtain⟨t',rfl⟩:=ry;exact PySem.EqMixed.ne_bool_str (CO I q (by simp))
  | _=>exact absurd (show false=true from hs) Bool.false_ne_true
 | int i =>
  obtain⟨t,rfl⟩:=rx
  cases y with
  | non=>cases ry;exact PySem.EqNone.ne_int_none (CO I q (by simp))
  | int j=>obtain⟨t',rfl⟩:=ry;exact ne_int (CO I q (congrArg not bH))
  | str j=>obtain⟨t',rfl⟩:=ry;exact PySem.EqMixed.ne_int_str (CO I q (by simp))
  | _=>exact absurd (show false=true from hs) Bool.false_ne_true
 | str i =>
  obtain⟨t,rfl⟩:=rx
  cases y with
  | non=>cases ry;exact PySem.EqNone.ne_str_none (CO I q (by simp))
  | bl j=>cases ry;exact PySem.EqMixed.ne_str_bool (CO I q (by simp))
  | int j=>obtain⟨t',rfl⟩:=ry;exact PySem.EqMixed.ne_str_int (CO I q (by simp))
  | str j=>obtain⟨t',rfl⟩:=ry;exact ne_str (CO I q (congrArg not bJ))
  | _=>exact absurd (show false=true from hs) Bool.false_ne_true
 | byt i =>
  obtain⟨t,rfl⟩:=rx
  cases y with
  | byt j=>obtain⟨t',rfl⟩:=ry;exact W.ne_bytes (CO I q (congrArg not bK))
  | _=>exact absurd (show false=true from hs) Bool.false_ne_true
 | _=>cases y<;>exact absurd (show false=true from hs) Bool.false_ne_true
theorem uI:OpR X (compareOp .Lt) (HX λi j=>.bl (decide (i<j))):=SS λ_ _ _ _ _ _ _ q=>lt_int q
theorem uJ:OpR X (compareOp .LtE) (HX λi j=>.bl (decide (i<=j))):=SS λ_ _ _ _ _ _ _ q=>le_int q
theorem uK:OpR X (compareOp .Gt) (HX λi j=>.bl (decide (j<i))):=SS λ_ _ _ _ _ _ _ q=>gt_int q
theorem PJ:OpR X (compareOp .Is) (λx y H Q=>y=.non/\Q (.bl (decide (x=.non))) H):=by
 intro AA s σ H x y v u Q I rx ry h
 obtain⟨rfl,q⟩:=h
 cases ry
 refine is_none_gen (CO I q ?_)
 cases x<;>first
  | (cases rx;rfl)
  | (obtain⟨t,rfl⟩:=rx;rfl)
theorem PK:OpR X (compareOp .IsNot) (λx y H Q=>y=.non/\Q (.bl (!decide (x=.non))) H):=by
 intro AA s σ H x y v u Q I rx ry h
 obtain⟨rfl,q⟩:=h
 cases ry
 refine isnot_none_gen (CO I q ?_)
 cases x<;>first
  | (cases rx;rfl)
  | (obtain⟨t,rfl⟩:=rx;rfl)
theorem OpR.or{f:Value->Value->Sem Value}{r r':R2}(h:OpR X f r)(h':OpR X f r'):OpR X f (λx y H Q=>r x y H Q\/r' x y H Q):=by
 intro AA s σ H x y v u Q I rx ry q
 rcases q with q | q
 ·exact h AA s σ H x y v u Q I rx ry q
 ·exact h' AA s σ H x y v u Q I rx ry q
theorem CJ(b:Expr){op:CmpOp}(h:op≠.In:=by decide)(h2:op≠.NotIn:=by decide):behindInMarks op b=false:=by
 have e1:(op == CmpOp.In)=false:=by cases op<;>first | rfl | exact absurd rfl h
 have e2:(op == CmpOp.NotIn)=false:=by cases op<;>first | rfl | exact absurd rfl h2
 cases b<;>simp[behindInMarks,e1,e2]
theorem HI{op:CmpOp}{r:R2}(ho:OpR X (compareOp op) r)(ha:PE X a ta)(hb:PE X b tb)(hm:behindInMarks op b=false):PE X (.Compare a [op] [b] pos) (AF r ta tb):=by
 intro AA s σ H Q I h
 exact wpAny_Compare1 (SQ ha hb I h λv u s2 x y H2 I2 rx ry q=>ho AA s2 σ H2 x y v u Q I2 rx ry q) hm
def CD(t:TE):TT:=λσ H Q=>t σ H λx H'=>∃ k,x=.bl k/\Q k H'
theorem DB{op:CmpOp}{r:R2}(ho:OpR X (compareOp op) r)(ha:PE X a ta)(hb:PE X b tb)(hm:behindInMarks op b=false):PT X (.Compare a [op] [b] pos) (CD (AF r ta tb)):=by
 intro AA s σ H Q I h
 refine wpAny_isTrue_Compare1 (AT (ha AA s σ H _ I h) λv s1 ⟨x,H1,I1,r1,q1⟩=>AT (hb AA s1 σ H1 _ I1 q1) λu s2 ⟨y,H2,I2,r2,q2⟩ =>
  AT (ho AA s2 σ H2 x y v u _ I2 r1 r2 q2) λc s3 ⟨z,H3,I3,r3,k,e,q3⟩=> ?_) hm
 subst e
 cases r3
 exact wpAny_truthy_bool ⟨H3,I3,q3⟩
def FJ(r r':R2)(ta tb tc:TE):TE:=λσ H Q=>ta σ H λx H1=>tb σ H1 λy H2=>r x y H2 λz H3=>∃ k,z=.bl k ∧
 (if k=true then tc σ H3 λw' H4=>r' y w' H4 Q else Q (.bl false) H3)
theorem NA{op op':CmpOp}{r r':R2}(ho:OpR X (compareOp op) r)(ho':OpR X (compareOp op') r')(ha:PE X a ta)(hb:PE X b tb)(hc:PE X c tc)
  (hm:lastMarks [op,op'] [b,c]=false:=by with_unfolding_all rfl):PE X (.Compare a [op,op'] [b,c] pos) (FJ r r' ta tb tc):=by
 intro AA s σ H Q I h
 refine Compare_chain (AT (ha AA s σ H _ I h) λv s1 ⟨x,H1,I1,r1,q1⟩=>chain_link (AT (hb AA s1 σ H1 _ I1 q1) λu s2 ⟨y,H2,I2,r2,q2⟩ =>
  AT (ho AA s2 σ H2 x y v u _ I2 r1 r2 q2) λd s3 ⟨z,H3,I3,r3,k,e,q3⟩=> ?_)) hm
 subst e
 cases r3
 refine wpAny_truthy_bool ?_
 cases k with
 | false=>exact ite_ff ⟨.bl false,H3,I3,rfl,q3⟩
 | true=>exact ite_tt (chain_last (AT (hc AA s3 σ H3 _ I3 q3) λw' s4 ⟨z',H4,I4,r4,q4⟩=>ho' AA s4 σ H4 y z' u w' Q I4 r2 r4 q4))
theorem K3{op op':CmpOp}{r r':R2}(ho:OpR X (compareOp op) r)(ho':OpR X (compareOp op') r')(ha:PE X a ta)(hb:PE X b tb)(hc:PE X c tc)
  (hm:lastMarks [op,op'] [b,c]=false:=by with_unfolding_all rfl):PT X (.Compare a [op,op'] [b,c] pos) (CD (FJ r r' ta tb tc)):=by
 intro AA s σ H Q I h
 refine isTrue_chain (AT (ha AA s σ H _ I h) λv s1 ⟨x,H1,I1,r1,q1⟩=>test_link (AT (hb AA s1 σ H1 _ I1 q1) λu s2 ⟨y,H2,I2,r2,q2⟩ =>
  AT (ho AA s2 σ H2 x y v u _ I2 r1 r2 q2) λd s3 ⟨z,H3,I3,r3,k,e,q3⟩=> ?_)) hm
 subst e
 cases r3
 refine wpAny_truthy_bool ?_
 cases k with
 | false =>
  obtain⟨k',e',q'⟩:=q3
  cases e'
  exact ite_ff ⟨H3,I3,q'⟩
 | true =>
  refine ite_tt (test_last (AT (hc AA s3 σ H3 _ I3 q3) λw' s4 ⟨z',H4,I4,r4,q4⟩=>AT (ho' AA s4 σ H4 y z' u w' _ I4 r2 r4 q4) λd' s5 hzz=> ?_))
  obtain⟨z2,H5,I5,r5,k2,e2,q5⟩:=hzz
  subst e2
  cases r5
  exact wpAny_truthy_bool ⟨H5,I5,q5⟩
def GD(K:W.Frag)(x:V)(H:Hp)(k:Bool):Prop :=
 match x with
 | .non=>k=false
 | .bl b=>k=b
 | .int i=>k=(i != 0)
 | .str y=>y.length<=sizeLine/\k=((y.length:Int) != 0)
 | .byt y=>y.size<=sizeLine/\k=((y.size:Int) != 0)
 | .ref p=>(∃ xs,SqL K H p xs/\k= !xs.isEmpty)\/(∃ xs,SqT K H p xs/\k= !xs.isEmpty)\/∃ AD,H p=some (.dK AD)/\k= !AD.isEmpty
 | _=>False
theorem uL{κ :Type}{AD:List (κ × V)}{vs:List (κ × Value)}(r:KV AD vs):(!vs.isEmpty)= !AD.isEmpty:=by
 cases r<;>rfl
theorem bL{xs:List V}{its:List Value}(r:Vals xs its):(!its.toArray.isEmpty)= !xs.isEmpty:=by
 cases r<;>simp
theorem NB:(sizeLine:Nat)<2 ^ 63:=by rw[sizeLine_eq];decide
theorem bM:t4 X (λx H Q=>∃ k,GD X.K x H k/\Q k H):=by
 intro AA s σ H x v Q I rx h
 obtain⟨k,e,q⟩:=h
 have hl:=NB
 have hs:sizeLine=16777216:=sizeLine_eq
 cases x with
 | non =>
  cases rx
  have e':k=false:=e
  subst e'
  exact truthy_none ⟨H,I,q⟩
 | bl b =>
  cases rx
  have e':k=b:=e
  subst e'
  exact wpAny_truthy_bool ⟨H,I,q⟩
 | int i =>
  obtain⟨t,rfl⟩:=rx
  have e':k=(i != 0):=e
  subst e'
  exact PySem.P.truthy_int ⟨H,I,q⟩
 | str y =>
  obtain⟨t,rfl⟩:=rx
  obtain⟨hy,e'⟩:y.length<=sizeLine/\k=((y.length:Int) != 0):=e
  subst e'
  exact PySem.P.truthy_str (by omega) ⟨H,I.tok _,q⟩
 | byt y =>
  obtain⟨t,rfl⟩:=rx
  obtain⟨hy,e'⟩:y.size<=sizeLine/\k=((y.size:Int) != 0):=e
  subst e'
  exact W.truthy_bytes (by omega) ⟨H,I.tok _,q⟩
 | ref p =>
  cases rx
  have e':(∃ xs,SqL X.K H p xs/\k= !xs.isEmpty)\/(∃ xs,SqT X.K H p xs/\k= !xs.isEmpty)\/∃ AD,H p=some (.dK AD)/\k= !AD.isEmpty:=e
  rcases e' with⟨xs,hx,e'⟩ | ⟨xs,hx,e'⟩ | ⟨AD,hx,e'⟩
  ·subst e'
   obtain⟨its,r,pl,hz⟩:=I.list hx
   have B0:=r.length
   exact wpAny_truthy_list pl.isList (by simp only[List.size_toArray];omega) ⟨H,I.tok _,by rw[bL r];exact q⟩
  ·subst e'
   obtain⟨its,r,pl,hz⟩:=I.tuple hx
   have B0:=r.length
   exact truthy_tuple pl (by simp only[List.size_toArray];omega) ⟨H,I.tok _,by rw[bL r];exact q⟩
  ·subst e'
   obtain⟨hz,hS,vs,r,m⟩:AD.length<=sizeLine/\(p == sysModules)=false/\∃ vs,KV AD vs/\s.heap.DictOf (EX X.prog X.w) p vs:=I.hok p _ hx
   have B0:AD.length=vs.length:=Paired.length r
   exact wpAny_truthy_dict hS m (by omega) ⟨H,I.tok _,by rw[uL r];exact q⟩
 | _=>exact(show False from e).elim
theorem J3(ha:PE X a ta)(he:∀ whole,isTrue a X.env whole=(do let v ← whole;standAt a.pos;holding [v] (truthy v))) :
  PT X a (λσ H Q=>ta σ H λx H'=>∃ k,GD X.K x H' k/\Q k H'):=by
 intro AA s σ H Q I h
 exact isTrue_plain (AT (ha AA s σ H _ I h) λv s1 ⟨x,H1,I1,r1,q1⟩=>bM AA s1 σ H1 x v Q I1 r1 q1) (he _)
theorem uM:OpR X (binaryOp .Add) (λx y H Q=>∃ i j,x=.str i/\y=.str j/\i.length+j.length<=sizeLine/\Q (.str (i++j)) H):=by
 intro AA s σ H x y v u Q I rx ry h
 obtain⟨i,j,rfl,rfl,hz,q⟩:=h
 obtain⟨t,rfl⟩:=rx
 obtain⟨t',rfl⟩:=ry
 exact add_str (λt' tk=>⟨.str (i++j),H,I.tok _,⟨_,rfl⟩,q⟩) hz
theorem FY{x:V}{us:List Value}(r:Vals [x] us):∃ u,us=[u]/\RelV x u:=by
 cases r with
 | cons r1 r2=>cases r2;exact⟨_,rfl,r1⟩
theorem uN{x y:V}{us:List Value}(r:Vals [x,y] us):∃ u w',us=[u,w']/\RelV x u/\RelV y w':=by
 cases r with
 | cons r1 r2 =>
  cases r2 with
  | cons r3 r4=>cases r4;exact⟨_,_,rfl,r1,r3⟩
theorem uO:CallR X (.builtin "ord") (λxs H Q=>∃ x,xs=[.str x]/\x.length=1/\Q (.int (x.cps.getD 0 0:Nat)) H):=by
 intro AA s σ H xs us Q I r h
 obtain⟨x,rfl,hz,q⟩:=h
 obtain⟨u,rfl,t,rfl⟩:=FY r
 exact ord_of_one hz ⟨.int _,H,I.tok _,⟨_,rfl⟩,q⟩
def ST(K:W.Frag)(x:V)(H:Hp)(n:Nat):Prop :=
 match x with
 | .str y=>y.length<=sizeLine/\n=y.length
 | .byt y=>y.size<=sizeLine/\n=y.size
 | .ref p=>(∃ xs,SqL K H p xs/\n=xs.length)\/∃ xs,SqT K H p xs/\n=xs.length
 | _=>False
theorem uP:CallR X (.builtin "len") (λxs H Q=>∃ x n,xs=[x]/\ST X.K x H n/\Q (.int n) H):=by
 intro AA s σ H xs us Q I r h
 obtain⟨x,n,rfl,e,q⟩:=h
 obtain⟨u,rfl,rx⟩:=FY r
 have hl:=NB
 have hs:sizeLine=16777216:=sizeLine_eq
 cases x with
 | str y =>
  obtain⟨t,rfl⟩:=rx
  obtain⟨hy,e'⟩:y.length<=sizeLine/\n=y.length:=e
  subst e'
  exact len_str (by omega) ⟨.int _,H,I.tok _,⟨_,rfl⟩,q⟩
 | byt y =>
  obtain⟨t,rfl⟩:=rx
  obtain⟨hy,e'⟩:y.size<=sizeLine/\n=y.size:=e
  subst e'
  exact W.len_bytes (by omega) ⟨.int _,H,I.tok _,⟨_,rfl⟩,q⟩
 | ref p =>
  cases rx
  have e':(∃ xs,SqL X.K H p xs/\n=xs.length)\/∃ xs,SqT X.K H p xs/\n=xs.length:=e
  rcases e' with⟨xs,hx,e'⟩ | ⟨xs,hx,e'⟩
  ·subst e'
   obtain⟨its,r',pl,hz⟩:=I.list hx
   have B0:=r'.length
   exact Calls.call_len_list pl.isList (by simp only[List.size_toArray];omega) ⟨.int xs.length,H,I.tok _,⟨_,by simp only[List.size_toArray];rw[B0]⟩,q⟩
  ·subst e'
   obtain⟨its,r',pl,hz⟩:=I.tuple hx
   have B0:=r'.length
   exact len_tuple pl (by simp only[List.size_toArray];omega) ⟨.int xs.length,H,I.tok _,⟨_,by simp only[List.size_toArray];rw[B0]⟩,q⟩
 | _=>exact(show False from e).elim
end
end L2
namespace L2
structure ObjM(h:Heap)(x dx C:Addr)(mA:Str->Option Value):Prop where
 obj:h.get? x=some (W.instObj C dx)
 ns:h.Ns1 dx mA
 ne:dx≠x
theorem uQ{h:Heap}{dx:Addr}{mA:Str->Option Value}(n:h.Ns1 dx mA):∃ od,h.get? dx=some od/\∀ name,W.lookIn name od=some (mA name):=by
 obtain⟨o,es,ep,ho,hd,hk,_,hm⟩:=n
 refine⟨o,ho,λname=> ?_⟩
 have e:=hm name
 unfold nsFind findBy at e
 rw[<-Array.find?_toList]at e
 unfold W.lookIn
 rw[hd]
 dsimp only
 split
 ·rename_i y q
  rw[q]at e
  exact congrArg some e
 ·rename_i q
  rw[q]at e
  have a:es.toList.any (·.refKey)=false:=by
   rw[List.any_eq_false]
   intro y hy
   obtain⟨z,t,hkey⟩:=hk y (Array.mem_toList_iff.mp hy)
   simp[DictEntry.refKey,hkey]
  have a':¬ es.toList.any (·.refKey)=true:=by rw[a];exact Bool.false_ne_true
  rw[if_neg a']
  exact congrArg some e
theorem ObjM.look{h:Heap}{x dx C:Addr}{mA:Str->Option Value}(I:ObjM h x dx C mA):∃ od,W.InstAt h x (W.instObj C dx) C (some od)/\∀ name,W.lookIn name od=some (mA name) :=
 let ⟨od,ho,hl⟩:=uQ I.ns
 ⟨od,⟨I.obj,rfl,rfl,ho⟩,hl⟩
section
variable{prog:Program}{w:World}{A:Around}{E:Value->Shared->Prop}{s:Shared}{K:W.Frag}{x dx C f:Addr}{mA:Str->Option Value}{name:Str}{v:Value}
theorem uR{expr:Bool}{Q:Value->Shared->Prop}(X:K.In s.heap)(I:ObjM s.heap x dx C mA)(hg:W.plainGet K C name=true)(hh:W.hasDictIn K C=true)
  (ha:W.findIn K (.ref C) name=some none) (hv:mA name=some v) (hv':W.handedIn v=true) (h:Q v { s with toks:=s.toks+1 }) :
  wpAny (model prog w) A (getAttr (.ref x) name expr) Q E s:=by
 obtain⟨od,J,hl⟩:=I.look
 exact W.get_value X J (W.plainGet_of hg).1 (W.findObj_own hh ha rfl (by rw[hl,hv])) hv' h
theorem uS{pl:Sem Bool}{Q:Value × List Value->Shared->Prop}(X:K.In s.heap)(I:ObjM s.heap x dx C mA)(hg:W.plainGet K C name=true)
  (hf:W.findIn K (.ref C) name=some (some (.ref f))) (ht:W.isFn K (.ref f)=true) (hv:mA name=none) (h:Q (.ref f,[.ref x]) s) :
  wpAny (model prog w) A (getMethod (.ref x) name pl) Q E s:=by
 obtain⟨od,J,hl⟩:=I.look
 exact W.method_fn X J (W.plainGet_of hg).1 (W.plainGet_of hg).2 hf (beq_iff_eq.mp ht) (by show(W.lookIn name od).map (·.isSome)=some false;rw[hl,hv];rfl) h
theorem uT{ns:List Str}{Q:Unit->Shared->Prop}(X:K.In s.heap)(I:ObjM s.heap x dx C mA)
  (hs:W.findIn K (.ref C) "__setattr__"=some (some (.builtin "object.__setattr__"))) (hp:W.plainOver K C=true) (ht:W.takerIn K C name=some none) (hh:W.hasDictIn K C=true)
  (hw:PySem.Within mA ns) (hsz:ns.length<=sizeLine)
  (h:∀ h',ObjM h' x dx C (λy=>if y=name then some v else mA y)->Heap.SameBut dx s.heap h'->Q () { s with heap:=h',toks:=s.toks+2 }) :
  wpAny (model prog w) A (setAttr (.ref x) name v) Q E s:=by
 obtain⟨od,J,hl⟩:=I.look
 refine W.set_plain X J hs (W.osa_open (s:={ s with toks:=s.toks+1 }) (r:=none) X J hp ht λb=> ?_)
 obtain⟨cd,hc,hd'⟩:=W.any_some hh
 have hx:s.heap.get? x=some ⟨.ref C,some dx,.plain,#[]⟩:=I.obj
 refine wpAny_bind (wpAny_pure (wpAny_bind (wpAny_bind (wpAny_loadPart hx (wpAny_bind (W.Looks.here (s:={ s with toks:=s.toks+1 }) (W.looks_clsIn X hc) ?_))))))
 rw[hd']
 refine wpAny_pure (a:=some dx) (wpAny_bind (wpAny_pure (wpAny_bind ?_)))
 refine wpAny_nsSet1 (s:={ s with toks:=s.toks+1 }) I.ns λh' hn2 hs2=> ?_
 obtain⟨oD,esD,epD,hoD,hdD,hcD⟩:=hn2.count (PySem.Within.cons name v hw)
 refine wpAny_bind (wpAny_lookBehind hoD (by rw[hdD];exact pastItsLine_dict (Nat.le_trans hcD (by rw[List.length_cons];omega))) ?_)
 exact wpAny_pure (h _ ⟨(hs2.2 _ (Ne.symm I.ne)).trans I.obj,hn2,I.ne⟩ hs2)
theorem uU{R:Result->Shared->Prop}{vs:List Value}{kw:List (Str × Value)}(X:K.In s.heap)(hm:W.makesIn K C=true)
  (hi:W.findIn K (.ref C) "__init__"=some (some (.ref f))) (hf:W.typeIn K (.ref f)=some (.type "function"))
  (h:codeAny (model prog w) (A.under (.builtin "type.__call__" ⟨.ref C::vs,kw⟩)) (.call (.ref f) ⟨.ref (s.heap.objs.size+1)::vs,kw⟩) (W.InitBack (s.heap.objs.size+1) R)
   { s with heap:=(s.heap.push W.emptyDict).push (W.instObj C s.heap.objs.size) }) :
  codeAny (model prog w) A (.call (.ref C) ⟨vs,kw⟩) R s:=by
 obtain⟨hh,g,d,t,os⟩:=s
 exact W.make_core (W.makes_of X hm) (W.looks_findIn X hi) (λself=>W.bind_fn X self hf) (.inl rfl) h
end
def A6(f:Str)(v:V):List (Str × V)->List (Str × V)
 | []=>[(f,v)]
 | (g,x)::r=>if g=f then(g,v)::r else(g,x)::A6 f v r
theorem bN(f g:Str)(v:V):∀ fs:List (Str × V),(A6 f v fs).lookup g=if g=f then some v else fs.lookup g
 | []=>by
  show List.lookup g [(f,v)]=_
  by_cases h:g=f
  ·have hb:(g == f)=true:=beq_iff_eq.mpr h
   simp only[List.lookup,hb,if_pos h]
  ·have hb:(g == f)=false:=beq_eq_false_iff_ne.mpr h
   simp only[List.lookup,hb,if_neg h]
 | (k,x)::r=>by
  have ih:=bN f g v r
  rw[show A6 f v ((k,x)::r)=(if k=f then(k,v)::r else(k,x)::A6 f v r)from rfl]
  by_cases hk:k=f
  ·rw[if_pos hk]
   by_cases h:g=k
   ·have hb:(g == k)=true:=beq_iff_eq.mpr h
    simp only[List.lookup,hb,if_pos (h.trans hk)]
   ·have hb:(g == k)=false:=beq_eq_false_iff_ne.mpr h
    simp only[List.lookup,hb,if_neg (λe:g=f=>h (e.trans hk.symm))]
  ·rw[if_neg hk]
   by_cases h:g=k
   ·have hb:(g == k)=true:=beq_iff_eq.mpr h
    simp only[List.lookup,hb,if_neg (λe:g=f=>hk (h.symm.trans e))]
   ·have hb:(g == k)=false:=beq_eq_false_iff_ne.mpr h
    simp only[List.lookup,hb]
    exact ih
theorem SU(f:Str)(v:V):∀ fs:List (Str × V),f∈(A6 f v fs).map (·.1)/\∀ g,g∈fs.map (·.1)->g∈(A6 f v fs).map (·.1)
 | []=>⟨by simp[A6],λg h=>by simp at h⟩
 | (k,x)::r=>by
  obtain⟨i1,i2⟩:=SU f v r
  rw[show A6 f v ((k,x)::r)=(if k=f then(k,v)::r else(k,x)::A6 f v r)from rfl]
  by_cases hk:k=f
  ·rw[if_pos hk]
   subst hk
   exact⟨by simp,λg h=>by simpa using h⟩
  ·rw[if_neg hk]
   refine⟨?_,λg h=> ?_⟩
   ·rw[List.map_cons]
    exact List.mem_cons_of_mem _ i1
   ·rw[List.map_cons]at h ⊢
    rcases List.mem_cons.mp h with e | e
    ·exact List.mem_cons.mpr (.inl e)
    ·exact List.mem_cons_of_mem _ (i2 g e)
theorem NC(f:Str)(v:V):∀ fs:List (Str × V),(A6 f v fs).length<=fs.length+1
 | []=>by simp[A6]
 | (k,x)::r=>by
  have ih:=NC f v r
  rw[show A6 f v ((k,x)::r)=(if k=f then(k,v)::r else(k,x)::A6 f v r)from rfl]
  by_cases hk:k=f
  ·rw[if_pos hk,List.length_cons,List.length_cons];omega
  ·rw[if_neg hk,List.length_cons,List.length_cons];omega
theorem RelO.some_of{v:V}{o:Option Value}(r:RelO (some v) o):∃ u,o=some u/\RelV v u:=by
 cases o with
 | none=>exact(show False from r).elim
 | some u=>exact⟨u,rfl,r⟩
theorem RelO.none_of{o:Option Value}(r:RelO none o):o=none:=by
 cases o with
 | none=>rfl
 | some u=>exact(show False from r).elim
theorem uV{v:V}{u:Value}(r:RelV v u):W.handedIn u=true:=by
 cases v with
 | non=>cases (show u=Value.none from r);rfl
 | bl b=>cases (show u=Value.bool b from r);rfl
 | int i=>obtain⟨t,e⟩:=(show ∃ t,u=Value.int i t from r);cases e;rfl
 | str x=>obtain⟨t,e⟩:=(show ∃ t,u=Value.str x t from r);cases e;rfl
 | byt b=>obtain⟨t,e⟩:=(show ∃ t,u=Value.bytes b t from r);cases e;rfl
 | flt b=>obtain⟨t,e⟩:=(show ∃ t,u=Value.float b t from r);cases e;rfl
 | ref a=>cases (show u=Value.ref a from r);rfl
 | ty n=>cases (show u=Value.type n from r);rfl
section
variable{P:Program}{w:World}{H H':Hp}{h h':Heap}{a C dx:Addr}{fs fs':List (Str × V)}
theorem PL(hok:HOk P w H h)(e:H a=some (.ins C dx fs)):∃ mA,ObjM h a dx C mA/\(∀ f,RelO (fs.lookup f) (mA f))/\PySem.Within mA (fs.map (·.1))/\fs.length<=1000/\H dx=some (.own a):=by
 obtain⟨d,z,ne,ob,mA,n,r,q⟩:=(show ObjOk P w H h a (.ins C dx fs)from hok a _ e)
 exact⟨mA,⟨ob,n,ne⟩,r,q,z,d⟩
end
structure Cls(K:W.Frag)(C:Addr):Prop where
 pg:W.plainGet K C Str.empty=true
 hd:W.hasDictIn K C=true
 po:W.plainOver K C=true
 sa:W.findIn K (.ref C) "__setattr__"=some (some (.builtin "object.__setattr__"))
theorem Cls.get{K:W.Frag}{C:Addr}(c:Cls K C)(f:Str):W.plainGet K C f=true:=c.pg
def NoAttr(K:W.Frag)(C:Addr)(f:Str):Prop:=W.findIn K (.ref C) f=some none
theorem NoAttr.taker{K:W.Frag}{C:Addr}{f:Str}(n:NoAttr K C f):W.takerIn K C f=some none:=by
 unfold W.takerIn
 rw[show W.findIn K (.ref C) f=some none from n]
 rfl
structure Con(K:W.Frag)(C:Addr)(f:Str)(v:V)(u:Value):Prop where
 at_:W.findIn K (.ref C) f=some (some u)
 rel:RelV v u
 get:W.specialIn K u "__get__"=some none
 cp:W.copiedNames.contains f=false
structure PM(K:W.Frag)(C:Addr)(m:Str)(f:Addr):Prop where
 at_:W.findIn K (.ref C) m=some (some (.ref f))
 fn:W.isFn K (.ref f)=true
 kp:W.keepIn K (.ref f)=true
section
variable{X:Cx}{AA:List (Addr × Obj)}{σ:St}{H:Hp}{s:Shared}{a C dx:Addr}{fs:List (Str × V)}{f:Str}{v:V}{A:Around}{E:Value->Shared->Prop}
theorem uW{b:Bool}{Q:Value->Shared->Prop}(I:Inv X AA σ H s)(e:H a=some (.ins C dx fs))(c:Cls X.K C)(n:NoAttr X.K C f)(l:fs.lookup f=some v)
  (h:∀ u s',Inv X AA σ H s'->RelV v u->Q u s'):wpAny (model X.prog X.w) A (getAttr (.ref a) f b) Q E s:=by
 obtain⟨mA,O,r,_,_,_⟩:=PL I.hok e
 obtain⟨u,hu,ru⟩:=RelO.some_of (v:=v) (o:=mA f) (by rw[<-l];exact r f)
 exact uR I.kIn O (c.get f) c.hd n hu (uV ru) (h u _ (I.tok _) ru)
theorem bO{m:Str}{g:Addr}{pl:Sem Bool}{Q:Value × List Value->Shared->Prop}(I:Inv X AA σ H s)(e:H a=some (.ins C dx fs))(c:Cls X.K C)(k:PM X.K C m g)(l:fs.lookup m=none)
  (h:Q (.ref g,[.ref a]) s):wpAny (model X.prog X.w) A (getMethod (.ref a) m pl) Q E s:=by
 obtain⟨mA,O,r,_,_,_⟩:=PL I.hok e
 have hn:mA m=none:=RelO.none_of (by rw[<-l];exact r m)
 exact uS I.kIn O (c.get m) k.at_ k.fn hn h
theorem uX{y:V}{u:Value}{Q:Unit->Shared->Prop}(I:Inv X AA σ H s)(e:H a=some (.ins C dx fs))(c:Cls X.K C)(n:NoAttr X.K C f)(hl:fs.length<1000)(ry:RelV y u)
  (h:∀ s',Inv X AA σ (upd H a (.ins C dx (A6 f y fs))) s'->Q () s'):wpAny (model X.prog X.w) A (setAttr (.ref a) f u) Q E s:=by
 obtain⟨mA,O,r,wi,_,ho⟩:=PL I.hok e
 have hz:(fs.map (·.1)).length<=sizeLine:=by rw[List.length_map,sizeLine_eq];omega
 refine uT I.kIn O c.sa c.po n.taker c.hd wi hz λh' O' sb=>h _ ?_
 have hd:∃ o,h'.get? dx=some o:=let ⟨o,_,_,e',_⟩:=O'.ns;⟨o,e'⟩
 refine I.write (x:=a) (e:=dx) (by rw[e];exact True.intro) (.inr ho) (λb q hb z=>(sb.2 b hb).trans z) hd ?_
 refine⟨by rw[AK O.ne];exact ho,?_,O.ne,O'.obj,_,O'.ns,λg=> ?_,λg hg=> ?_⟩
 ·have:=NC f y fs;omega
 ·show RelO ((A6 f y fs).lookup g) (if g=f then some u else mA g)
  rw[bN]
  by_cases q:g=f
  ·rw[if_pos q,if_pos q];exact ry
  ·rw[if_neg q,if_neg q];exact r g
 ·by_cases q:g=f
  ·rw[q];exact(SU f y fs).1
  ·refine(SU f y fs).2 g (wi g λz=>hg ?_)
   show(if g=f then some u else mA g)=none
   rw[if_neg q];exact z
theorem Inv.made(I:Inv X AA σ H s):Inv X AA σ (upd (upd H s.heap.objs.size (.own (s.heap.objs.size+1))) (s.heap.objs.size+1) (.ins C s.heap.objs.size []))
  { s with heap:=(s.heap.push W.emptyDict).push (W.instObj C s.heap.objs.size) }:=by
 have e1:(s.heap.push W.emptyDict).get? s.heap.objs.size=some W.emptyDict:=Heap.get?_push_size s.heap rfl
 have e2:((s.heap.push W.emptyDict).push (W.instObj C s.heap.objs.size)).get? (s.heap.objs.size+1)=some (W.instObj C s.heap.objs.size):=by
  have:=Heap.get?_push_size (s.heap.push W.emptyDict) (o:=W.instObj C s.heap.objs.size) rfl
  rwa [Heap.size_push]at this
 have e3:(s.heap.push W.emptyDict).Ns s.heap.objs.size (λ_=>none):=⟨W.emptyDict,#[],_,e1,rfl,(λe he=>absurd he (by simp)),λ_=>rfl⟩
 have I1:=I.laid (a:=s.heap.objs.size) (o:=.own (s.heap.objs.size+1)) (h':=s.heap.push W.emptyDict) (t':=s.toks) (λb u q=>Heap.get?_push_of_some _ q) (Nat.le_refl _) ⟨_,e1⟩
 refine I1.laid (a:=s.heap.objs.size+1) (o:=.ins C s.heap.objs.size []) (t':=s.toks) (λb u q=>Heap.get?_push_of_some _ q) (Nat.le_of_eq (Heap.size_push _ _)) ?_
 have ne:s.heap.objs.size≠s.heap.objs.size+1:=Nat.ne_of_lt (Nat.lt_succ_self _)
 refine⟨by rw[AK ne,AG],Nat.zero_le _,ne,e2,λ_=>none,(Heap.Ns1.of_empty e3).at λo q=>Heap.get?_push_of_some _ q,λ_=>True.intro,λy hy=>absurd rfl hy⟩
theorem uY{prog:Program}{w:World}{env:Env}{e:Expr}{f:Str}{pos:Pos}{s:Shared}{Q:Value->Shared->Prop}(hb:attributeBase e f env (eval e env)=eval e env)
  (h:wpAny (model prog w) A (eval e env) (λo s₁=>wpAny (model prog w) A (getAttr o f true) Q E s₁) E s):wpAny (model prog w) A (eval (.Attribute e f pos) env) Q E s :=
 Attribute_any_ h (by rw[arm_eval_Attribute,hb])
end
def A5(K:W.Frag)(ta:TE)(f:Str):TE:=λσ H Q=>ta σ H λx H1=>∃ a C dx fs v,x=.ref a/\H1 a=some (.ins C dx fs)/\Cls K C/\NoAttr K C f/\fs.lookup f=some v/\Q v H1
def DS(K:W.Frag)(ta tv:TE)(f:Str):TS:=λD σ H=>tv σ H λy H1=>ta σ H1 λx H2=>∃ a C dx fs,x=.ref a/\H2 a=some (.ins C dx fs)/\Cls K C/\NoAttr K C f/\fs.length<1000 ∧
 D.nx σ (upd H2 a (.ins C dx (A6 f y fs)))
def uZ(K:W.Frag)(ta tv:TE)(rd:V->V->Hp->VK->Prop)(f:Str):TS:=λD σ H=>ta σ H λx H1=>∃ a C dx fs v,x=.ref a/\H1 a=some (.ins C dx fs)/\Cls K C/\NoAttr K C f/\fs.lookup f=some v ∧
 tv σ H1 λy H2=>rd v y H2 λz H3=>∃ dx' fs',H3 a=some (.ins C dx' fs')/\fs'.length<1000/\D.nx σ (upd H3 a (.ins C dx' (A6 f z fs')))
section
variable{X:Cx}{o e value:Expr}{f:Str}{pos pos' tpos:Pos}{ta tv:TE}
theorem A7(he:PE X e ta)(hb:attributeBase e f X.env (eval e X.env)=eval e X.env):PE X (.Attribute e f pos) (A5 X.K ta f):=by
 intro AA s σ H Q I h
 refine uY hb (AT (he AA s σ H _ I h) λu s1 hzz=> ?_)
 obtain⟨x,H1,I1,rx,a,C,dx,fs,v,ex,ea,c,n,l,q⟩:=hzz
 subst ex
 obtain rfl:u=Value.ref a:=rx
 exact uW I1 ea c n l λu' s2 I2 ru=>⟨v,H1,I2,ru,q⟩
theorem D2(ha:PE X o ta)(hv:PE X value tv)(hs:swapsWith value (some (.Attribute o f pos')) pos.line X.env=pure false):PS X (.Assign [.Attribute o f pos'] value pos) (DS X.K ta tv f):=by
 intro AA s σ H D I h
 refine plainObj_wpAny_Assign_Attribute (AT (hv AA s σ H _ I h) λu s1 ⟨y,H1,I1,ry,q⟩=>AT (ha AA s1 σ H1 _ I1 q) λov s2 hzz=> ?_) hs
 obtain⟨x,H2,I2,rx,a,C,dx,fs,ex,ea,c,n,l,q2⟩:=hzz
 subst ex
 obtain rfl:ov=Value.ref a:=rx
 exact uX I2 ea c n l ry λs3 I3=>⟨σ,_,I3,q2⟩
def bP:V->V->Hp->VK->Prop:=λx y H Q=>∃ i j,x=.int i/\y=.int j/\Q (.int (i+j)) H
end
section
variable{X:Cx}{AA:List (Addr × Obj)}{σ:St}{H:Hp}{s:Shared}{A:Around}{E:Value->Shared->Prop}{Q:Value->Shared->Prop}{c:Value}{b:Bool}
inductive GE(K:W.Frag)(H:Hp):V->Value->Prop where
 | non:GE K H .non (.type "NoneType")
 | bl (x:Bool):GE K H (.bl x) (.type "bool")
 | int (i:Int):GE K H (.int i) (.type "int")
 | str (x:Str):GE K H (.str x) (.type "str")
 | flt (x:UInt64):GE K H (.flt x) (.type "float")
 | lst {a:Addr} {xs:List V} (e:H a=some (.lst xs)):GE K H (.ref a) (.type "list")
 | frz {a:Addr} {o:Obj} {xs:List V} (e:H a=some (.frz o (.lst xs))):GE K H (.ref a) (.type "list")
 | tup {a:Addr} {xs:List V} (e:H a=some (.tup xs)):GE K H (.ref a) (.type "tuple")
 | dK {a:Addr} {AD:List (AO × V)} (e:H a=some (.dK AD)):GE K H (.ref a) (.type "dict")
 | dT {a:Addr} {AD:List (List AO × V)} (e:H a=some (.dT AD)):GE K H (.ref a) (.type "dict")
 | ins {a C dx:Addr} {fs:List (Str × V)} (e:H a=some (.ins C dx fs)) (cl:Cls K C) (ha:W.findIn K (.ref C) "__class__"=some (some (.builtin "object.__class__")))
   (hn:W.specialIn K (.builtin "object.__class__") "__get__"=some (some (.builtin "getset_descriptor.__get__"))) (htk:W.takesIn K (.builtin "object.__class__")=some true)
   (hm:W.mroIn K C (.type "object")=some true):GE K H (.ref a) (.ref C)
end
end L2
namespace L2
structure Room(k:Nat)(A:Around):Prop where
 hd:A.handled=none
 dp:A.depth+3 * k+5<recursionLimit
 un:A.units+16 * k+200<cLine
theorem Room.mono{j k:Nat}{A:Around}(r:Room k A)(h:j<=k):Room j A:=⟨r.hd,by have:=r.dp;omega,by have:=r.un;omega⟩
theorem Room.deeper{k:Nat}{A:Around}(r:Room (k+1) A)(env:Env):Room k (A.deeper env) :=
 ⟨r.hd,by have:=r.dp;show A.depth+1+3 * k+5<_;omega,by have:=r.un;show A.units+3+16 * k+200<_;omega⟩
theorem Room.in1{k:Nat}{A:Around}(r:Room (k+1) A):Room k A.in1 :=
 ⟨r.hd,by have:=r.dp;show A.depth+3 * k+5<_;omega,by have:=r.un;show A.units+1+16 * k+200<_;omega⟩
theorem u1{A:Around}{C:Addr}{us:List Value}{kw:List (Str × Value)}:(A.under (.builtin "type.__call__" ⟨.ref C::us,kw⟩)).depth=A.depth+1:=by
 first | rfl | simp[Around.under,Code.weight,Code.isCreation,Code.isGuard,Code.isCaller,Code.frames,Code.isFrame,guardIds]
theorem u3{A:Around}{C:Addr}{us:List Value}{kw:List (Str × Value)}:(A.under (.builtin "type.__call__" ⟨.ref C::us,kw⟩)).units=A.units+1:=by
 first | rfl | simp[Around.under,Code.cUnits,Code.frames,Code.isFrame]
theorem Room.make{k:Nat}{A:Around}(r:Room (k+1) A)(C:Addr)(us:List Value)(kw:List (Str × Value)):Room k (A.under (.builtin "type.__call__" ⟨.ref C::us,kw⟩)) :=
 ⟨r.hd,by have:=r.dp;rw[u1];omega,by have:=r.un;rw[u3];omega⟩
theorem Room.depth{k:Nat}{A:Around}(r:Room k A):A.depth<recursionLimit:=by have:=r.dp;omega
theorem Room.units{k:Nat}{A:Around}(r:Room k A):A.units+64<cLine:=by have:=r.un;omega
def BY:TA:=λ_ H Q=>Q [] H
def DY(ta:TE)(tr:TA):TA:=λσ H Q=>ta σ H λx H1=>tr σ H1 λxs H2=>Q (x::xs) H2
section
variable{X:Cx}{e:Expr}{es:List Expr}{te:TE}{t:TA}{pos:Pos}
theorem GG:PA X [] BY:=λ_ _ _ _ H Q I h=>Calls.spliced_nil ⟨[],H,I,.nil,h⟩
theorem K4(ha:PE X e te)(hr:PA X es t)(hs:starEach (e::es) X.env=(false,eval e X.env)::starEach es X.env:=by rfl):PA X (e::es) (DY te t):=by
 intro pos AA s σ H Q I h
 rw[hs]
 show wpAny _ _ (spliced ((false,eval e X.env)::backTo pos (starEach es X.env))) _ _ s
 refine Calls.spliced_cons (AT (ha AA s σ H _ I h) λu s1 hzz=> ?_)
 obtain⟨x,H1,I1,r1,q1⟩:=hzz
 exact AT (hr pos AA s1 σ H1 _ I1 q1) λus s2 ⟨xs,H2,I2,r2,q2⟩=>⟨x::xs,H2,I2,.cons r1 r2,q2⟩
def CF(t:TA):TE:=λσ H Q=>t σ H λxs H1=>xs.length<=sizeLine/\∀ p,H1 p=none->Q (.ref p) (upd H1 p (.tup xs))
def B6(t:TA):TE:=λσ H Q=>t σ H λxs H1=>xs.length<=sizeLine/\∀ p,H1 p=none->Q (.ref p) (upd H1 p (.lst xs))
theorem CK{x1}(h:PA X es t):PE X (.Tuple es x1 pos) (CF t):=by
 intro AA s σ H Q I hq
 refine wpAny_Tuple_spliced (AT (h pos AA s σ H _ I hq) λus s1 ⟨xs,H1,I1,r,z,q⟩=>⟨by rw[<-r.length];exact z,?_⟩)
 have hf:H1 s1.heap.objs.size=none:=I1.hok.fresh (Nat.le_refl _)
 refine⟨.ref s1.heap.objs.size,upd H1 s1.heap.objs.size (.tup xs),I1.laid (t':=s1.toks) (λb u e=>Heap.get?_push_of_some _ e) (Nat.le_refl _) ?_,rfl,q _ hf⟩
 exact⟨z,us,r,⟨_,Heap.get?_push_size _ rfl,rfl,_,rfl⟩⟩
theorem B9(h:PA X es t):PE X (.List es pos) (B6 t):=by
 intro AA s σ H Q I hq
 refine wpAny_List_spliced (AT (h pos AA s σ H _ I hq) λus s1 ⟨xs,H1,I1,r,z,q⟩=>⟨by rw[<-r.length];exact z,?_⟩)
 have hf:H1 s1.heap.objs.size=none:=I1.hok.fresh (Nat.le_refl _)
 refine⟨.ref s1.heap.objs.size,upd H1 s1.heap.objs.size (.lst xs),I1.laid (t':=s1.toks) (λb u e=>Heap.get?_push_of_some _ e) (Nat.le_refl _) ?_,rfl,q _ hf⟩
 exact⟨z,us,0,r,Heap.get?_push_size _ rfl⟩
end
abbrev Sp:=List V->Hp->VK->XK->Prop
abbrev FL:=List Env->Hp->Shared->XK->Value->Shared->Prop
structure Env0(P:Program)(w:World)(K:W.Frag)(mg:Str->Option Value)(base:Heap)(A:Around)(outer:List Env)(s:Shared)(H:Hp):Prop where
 frames:A.frames=some outer
 mod:Mod K mg base
 bs:∀ b o,base.get? b=some o->s.heap.get? b=some o/\H b=none
 bsz:base.objs.size<=s.heap.objs.size
 funs:s.heap.FunFrames base outer
 frf:∀ b∈DW outer,H b=none
 hok:HOk P w H s.heap
 bare:AllBare s.gens
def CE(outer:List Env)(P:Program)(w:World)(H:Hp)(s:Shared)(Q:VK)(u:Value)(s':Shared):Prop :=
 ∃ v H',s'.os=s.os/\AllBare s'.gens/\Un (DW outer) [] H H' s.heap s'.heap/\HOk P w H' s'.heap/\RelV v u/\Q v H'
def CR(CX:FL)(outer:List Env)(P:Program)(w:World)(H:Hp)(s:Shared)(Q:VK)(E:XK)(r:Result)(s':Shared):Prop :=
 match r with
 | .ok (.ret u)=>CE outer P w H s Q u s'
 | .ok _=>False
 | .error e=>CX outer H s E e s'
structure FnOk(P:Program)(w:World)(K:W.Frag)(mg:Str->Option Value)(base:Heap)(CX:FL)(k:Nat)(f:Addr)(fd:FuncData)(ps:List Str)(sp:Sp):Prop where
 len:∀ vs H Q E,sp vs H Q E->vs.length=ps.length
 run:∀ (A:Around) (outer:List Env) (s:Shared) (H:Hp) (args:Args) (us:List Value) (vs:List V) (Q:VK) (E:XK),Room k A->Env0 P w K mg base A outer s H->BindsTo s fd args (ps.zip us)->Vals vs us->sp vs H Q E →
  codeAny (model P w) A (.call (.ref f) args) (CR CX outer P w H s Q E) s
theorem FnOk.mono{P:Program}{w:World}{K:W.Frag}{mg:Str->Option Value}{base:Heap}{CX:FL}{j k:Nat}{f:Addr}{fd:FuncData}{ps:List Str}{sp:Sp}(F:FnOk P w K mg base CX j f fd ps sp)(h:j<=k) :
  FnOk P w K mg base CX k f fd ps sp:=⟨F.len,λA outer s H args us vs Q E hr=>F.run A outer s H args us vs Q E (hr.mono h)⟩
theorem FnOk.imp{P:Program}{w:World}{K:W.Frag}{mg:Str->Option Value}{base:Heap}{CX:FL}{k:Nat}{f:Addr}{fd:FuncData}{ps:List Str}{sp sp':Sp}(F:FnOk P w K mg base CX k f fd ps sp)
  (h:∀ vs H Q E,sp' vs H Q E->sp vs H Q E):FnOk P w K mg base CX k f fd ps sp' :=
 ⟨λvs H Q E q=>F.len vs H Q E (h _ _ _ _ q),λA outer s H args us vs Q E hr he hb hv hs=>F.run A outer s H args us vs Q E hr he hb hv (h _ _ _ _ hs)⟩
theorem Env0.make{P:Program}{w:World}{K:W.Frag}{mg:Str->Option Value}{base:Heap}{A:Around}{outer:List Env}{s:Shared}{H:Hp}(e:Env0 P w K mg base A outer s H)(C:Addr)(us:List Value)(kw:List (Str × Value)) :
  Env0 P w K mg base (A.under (.builtin "type.__call__" ⟨.ref C::us,kw⟩)) outer s H:=⟨by first | exact e.frames | (simpa [Around.under,Code.envs,Code.isFrame,pushEnvs]using e.frames),e.mod,e.bs,e.bsz,e.funs,e.frf,e.hok,e.bare⟩
theorem Env0.in1{P:Program}{w:World}{K:W.Frag}{mg:Str->Option Value}{base:Heap}{A:Around}{outer:List Env}{s:Shared}{H:Hp}(e:Env0 P w K mg base A outer s H) :
  Env0 P w K mg base A.in1 outer s H:=⟨e.frames,e.mod,e.bs,e.bsz,e.funs,e.frf,e.hok,e.bare⟩
section
variable{X:Cx}{AA:List (Addr × Obj)}{σ:St}{H:Hp}{s s':Shared}
theorem Inv.env0(I:Inv X AA σ H s):Env0 X.prog X.w X.K X.mg X.base X.A X.stack s H :=
 ⟨I.ok.frames,I.ok.mod,I.bs,Nat.le_trans I.ok.bsz I.sz,I.stack,I.stkFree,I.hok,I.bare⟩
theorem Inv.after{Q:VK}{u:Value}(I:Inv X AA σ H s)(h:CE X.stack X.prog X.w H s Q u s'):EP X AA σ Q u s':=by
 obtain⟨v,H',os,bare,un,hok,r,q⟩:=h
 obtain⟨hh,g,d,t,os'⟩:=s'
 obtain rfl:os'=s.os:=os
 exact⟨v,H',I.call (h':=hh) (g':=g) (d':=d) (t':=t) (ch:=[]) un hok bare (λb z=>absurd z (by simp)),r,q⟩
end
def CW(sp:Sp)(DA:List V)(E:St->XK)(t:TA):TE:=λσ H Q=>t σ H λvs H1=>sp (vs++DA) H1 Q (E σ)
def AV(C:Addr)(m:Str)(sp:Sp)(DA:List V)(E:St->XK)(ta:TE)(t:TA):TE:=λσ H Q=>ta σ H λx H1=>∃ a dx fs,x=.ref a/\H1 a=some (.ins C dx fs)/\fs.lookup m=none ∧
 t σ H1 λvs H2=>sp (x::(vs++DA)) H2 Q (E σ)
def HY(C:Addr)(sp:Sp)(DA:List V)(E:St->XK)(t:TA):TE:=λσ H Q=>t σ H λvs H1=>∀ x dx,H1 x=none->H1 dx=none->dx≠x →
 sp (.ref x::(vs++DA)) (upd (upd H1 dx (.own x)) x (.ins C dx [])) (λv H2=>v=.non/\Q (.ref x) H2) (E σ)
def Binds(K:W.Frag)(fd:FuncData)(ps:List Str)(ds:List Value):Prop :=
 ∀ (s:Shared) (us:List Value),K.In s.heap->(us++ds).length=ps.length->BindsTo s fd ⟨us,[]⟩ (ps.zip (us++ds))
theorem Binds.all{K:W.Frag}{fd:FuncData}{ps:List Str}(h:∀ us:List Value,us.length=ps.length->bindArgs fd ⟨us,[]⟩=pure (ps.zip us)):Binds K fd ps []:=λs us _ hl=>by
 rw[List.append_nil]at hl ⊢
 exact .of_eq (h us hl)
def GH(CX:FL)(X:Cx)(E:St->XK):Prop:=∀ (AA:List (Addr × Obj)) (σ:St) (H:Hp) (s:Shared) (e:Value) (s':Shared),Inv X AA σ H s->CX X.stack H s (E σ) e s'->X.xe e s'
section
variable{X:Cx}{CX:FL}{k:Nat}{f C:Addr}{fd:FuncData}{ps:List Str}{sp:Sp}{DA:List V}{ds:List Value}{E:St->XK}{x m:Str}{p pos CU:Pos}{e o:Expr}{es:List Expr}{ta:TE}{t:TA}
theorem SV{AA:List (Addr × Obj)}{σ:St}{H:Hp}{s:Shared}{Q:VK}{us:List Value}{vs:List V}(F:FnOk X.prog X.w X.K X.mg X.base CX k f fd ps sp)(hr:Room k X.A)(hb:Binds X.K fd ps ds)(hd:Vals DA ds)(hx:GH CX X E)
  (I:Inv X AA σ H s) (r:Vals vs us) (h:sp (vs++DA) H Q (E σ)):wpAny (model X.prog X.w) X.A (call (.ref f) us) (EP X AA σ Q) X.xe s:=by
 have r2:Vals (vs++DA) (us++ds):=r.append hd
 have hl:(us++ds).length=ps.length:=by rw[<-r2.length];exact F.len _ _ _ _ h
 refine wpAny_call (codeAny_mono (F.run X.A X.stack s H ⟨us,[]⟩ (us++ds) (vs++DA) Q (E σ) hr I.env0 (hb s us I.kIn hl) r2 h) λr s' hq=> ?_)
 cases r with
 | error e=>exact hx AA σ H s e s' I hq
 | ok fl =>
  cases fl with
  | ret u=>exact I.after hq
  | next=>exact False.elim hq
  | brk=>exact False.elim hq
  | cont=>exact False.elim hq
theorem u4(F:FnOk X.prog X.w X.K X.mg X.base CX k f fd ps sp)(hr:Room k X.A)(hg:Gl X x)(hm:X.mg x=some (.ref f))(hk:W.keepIn X.K (.ref f)=true)(hb:Binds X.K fd ps ds)(hd:Vals DA ds)(hx:GH CX X E)
  (ha:PA X (e::es) t) (hdb:(x ==("__debug__":Str))=false:=by decide) (he:starEach (e::es) X.env=(false,eval e X.env)::starEach es X.env:=by rfl) (C0:(backTo pos (starEach es X.env)).any (·.1)=false:=by rfl) :
  PE X (.Call (.Name x p) (e::es) [] pos) (CW sp DA E t):=by
 intro AA s σ H Q I h
 refine wpAny_Call_Name_kw (MZ I hg hm ?_ hdb)
 refine W.callWith_K (h₀:=X.base) I.ok.mod.kin hk (AT (ha pos AA s σ H _ I h) λus s1 ⟨vs,H1,I1,r,q⟩=>⟨I1.kIn,?_⟩) he C0
 exact SV F hr hb hd hx I1 r q
theorem u5{pl:Sem Bool}(he:PE X o ta)(c:Cls X.K C)(hm:PM X.K C m f)(F:FnOk X.prog X.w X.K X.mg X.base CX k f fd ps sp)(hr:Room k X.A)(hb:Binds X.K fd ps ds)(hd:Vals DA ds)(hx:GH CX X E)(ha:PA X (e::es) t)
  (hst:starEach (e::es) X.env=(false,eval e X.env)::starEach es X.env:=by rfl) (C0:(backTo pos (starEach es X.env)).any (·.1)=false:=by rfl)
  (ht:eval (.Call (.Attribute o m CU) (e::es) [] pos) X.env=(do
   let ov ← eval o X.env
   standAt CU.atName
   let (f,first) ← holding [ov] (getMethod ov m pl)
   callWith pos f first (backTo pos (starEach (e::es) X.env)) (backToKw pos (keywordEach [] X.env))):=by rfl) :
  PE X (.Call (.Attribute o m CU) (e::es) [] pos) (AV C m sp DA E ta t):=by
 intro AA s σ H Q I h
 refine W.methodCall_KW (pl:=pl) (AT (he AA s σ H _ I h) λu s1 hzz=> ?_) ht
 obtain⟨x,H1,I1,rx,a,dx,fs,ex,ea,l,q⟩:=hzz
 subst ex
 obtain rfl:u=Value.ref a:=rx
 refine bO I1 ea c hm l ?_
 refine W.callWith_K (first:=[.ref a]) (h₀:=X.base) I.ok.mod.kin hm.kp (AT (ha pos AA s1 σ H1 _ I1 q) λus s2 ⟨vs,H2,I2,r,q2⟩=>⟨I2.kIn,?_⟩) hst C0
 exact SV (us:=.ref a::us) (vs:=.ref a::vs) F hr hb hd hx I2 (.cons rfl r) q2
theorem u6{pl:Sem Bool}(he:PE X o ta)(c:Cls X.K C)(hm:PM X.K C m f)(F:FnOk X.prog X.w X.K X.mg X.base CX k f fd ps sp)(hr:Room k X.A)(hb:Binds X.K fd ps ds)(hd:Vals DA ds)(hx:GH CX X E)
  (ht:eval (.Call (.Attribute o m CU) [] [] pos) X.env=(do
   let ov ← eval o X.env
   standAt CU.atName
   let (f,first) ← holding [ov] (getMethod ov m pl)
   callWith pos f first (backTo pos (starEach [] X.env)) (backToKw pos (keywordEach [] X.env))):=by rfl) :
  PE X (.Call (.Attribute o m CU) [] [] pos) (AV C m sp DA E ta BY):=by
 intro AA s σ H Q I h
 refine W.methodCall_KW (pl:=pl) (AT (he AA s σ H _ I h) λu s1 hzz=> ?_) ht
 obtain⟨x,H1,I1,rx,a,dx,fs,ex,ea,l,q⟩:=hzz
 subst ex
 obtain rfl:u=Value.ref a:=rx
 refine bO I1 ea c hm l ?_
 exact W.callWith_K0 (first:=[.ref a]) I1.kIn hm.kp (SV (us:=[.ref a]) (vs:=[.ref a]) F hr hb hd hx I1 (.cons rfl .nil) q)
structure Mk(K:W.Frag)(C f:Addr):Prop where
 makes:W.makesIn K C=true
 init:W.findIn K (.ref C) "__init__"=some (some (.ref f))
 fn:W.isFn K (.ref f)=true
 kp:W.keepIn K (.ref C)=true
theorem u7{AA:List (Addr × Obj)}{σ:St}{H:Hp}{s:Shared}{Q:VK}{us:List Value}{vs:List V}(M:Mk X.K C f)(F:FnOk X.prog X.w X.K X.mg X.base CX k f fd ps sp)(hr:Room (k+1) X.A)(hb:Binds X.K fd ps ds)(hd:Vals DA ds)
  (hx:GH CX X E) (I:Inv X AA σ H s) (r:Vals vs us)
  (h:∀ x dx,H x=none->H dx=none->dx≠x->sp (.ref x::(vs++DA)) (upd (upd H dx (.own x)) x (.ins C dx [])) (λv H2=>v=.non/\Q (.ref x) H2) (E σ)) :
  wpAny (model X.prog X.w) X.A (call (.ref C) us) (EP X AA σ Q) X.xe s:=by
 have hq:=h (s.heap.objs.size+1) s.heap.objs.size (I.hok.fresh (Nat.le_succ _)) (I.hok.fresh (Nat.le_refl _)) (Nat.ne_of_lt (Nat.lt_succ_self _))
 have I2:=Inv.made (C:=C) I
 have r2:Vals (V.ref (s.heap.objs.size+1)::(vs++DA)) (Value.ref (s.heap.objs.size+1)::(us++ds)):=.cons rfl (r.append hd)
 have hl:(Value.ref (s.heap.objs.size+1)::us++ds).length=ps.length:=by
  have e:=r2.length
  rw[F.len _ _ _ _ hq]at e
  exact e.symm
 refine wpAny_call (uU (f:=f) I.kIn M.makes M.init (beq_iff_eq.mp M.fn) (codeAny_mono (F.run _ X.stack _ _ ⟨Value.ref (s.heap.objs.size+1)::us,[]⟩ (Value.ref (s.heap.objs.size+1)::(us++ds)) _ _ (E σ) (hr.make C us [])
  (I2.env0.make C us []) (hb _ (Value.ref (s.heap.objs.size+1)::us) I2.kIn hl) r2 hq) λr s' hq'=> ?_))
 cases r with
 | error e=>exact hx AA σ _ _ e s' I2 hq'
 | ok fl =>
  cases fl with
  | ret u =>
   obtain⟨v,H',I3,rv,ev,q3⟩:=I2.after hq'
   subst ev
   exact⟨rv,⟨V.ref (s.heap.objs.size+1),H',I3,rfl,q3⟩⟩
  | next=>exact False.elim hq'
  | brk=>exact False.elim hq'
  | cont=>exact False.elim hq'
theorem u8(M:Mk X.K C f)(F:FnOk X.prog X.w X.K X.mg X.base CX k f fd ps sp)(hr:Room (k+1) X.A)(hg:Gl X x)(hm:X.mg x=some (.ref C))(hb:Binds X.K fd ps ds)(hd:Vals DA ds)(hx:GH CX X E)
  (ha:PA X (e::es) t) (hdb:(x ==("__debug__":Str))=false:=by decide) (he:starEach (e::es) X.env=(false,eval e X.env)::starEach es X.env:=by rfl) (C0:(backTo pos (starEach es X.env)).any (·.1)=false:=by rfl) :
  PE X (.Call (.Name x p) (e::es) [] pos) (HY C sp DA E t):=by
 intro AA s σ H Q I h
 refine wpAny_Call_Name_kw (MZ I hg hm ?_ hdb)
 refine W.callWith_K (h₀:=X.base) I.ok.mod.kin M.kp (AT (ha pos AA s σ H _ I h) λus s1 ⟨vs,H1,I1,r,q⟩=>⟨I1.kIn,?_⟩) he C0
 exact u7 M F hr hb hd hx I1 r q
end
section
variable{X:Cx}{CX:FL}{k:Nat}{f C:Addr}{fd:FuncData}{ps ks:List Str}{sp:Sp}{E:St->XK}{x m:Str}{p pos CU kpos:Pos}{e o:Expr}{es:List Expr}{kws:List Keyword}{te ta:TE}{t tk:TA}{nm:Option Str}
structure zi7(K:W.Frag)(fd:FuncData)(ps ks:List Str)(g:List Value->List Value->List Value)(gV:List V->List V->List V):Prop where
 to:∀ (s:Shared) (us ws:List Value),K.In s.heap->(g us ws).length=ps.length->BindsTo s fd ⟨us,ks.zip ws⟩ (ps.zip (g us ws))
 rel:∀ {vs:List V} {us:List Value} {zs:List V} {ws:List Value},Vals vs us->Vals zs ws->Vals (gV vs zs) (g us ws)
variable{g:List Value->List Value->List Value}{gV:List V->List V->List V}
end
structure FnScope(N P:List Str)(sc:Scope):Prop where
 kind:sc.kind=.function
 co:sc.isCoroutine=false
 gen:sc.isGenerator=false
 nd:N.Nodup
 pre:N.take P.length=P
 par:∀ x∈P,sc.names.lookup x=some .local\/sc.names.lookup x=some .cell
 nofree:∀ y∈sc.names,y.2≠.free
theorem bQ{kindOf:Str->Option NameKind}{x:Str}:∀ {binds:List (Str × Value)} {m:Str->Option Value},(∀ v,(x,v)∉binds)->bindL kindOf binds m x=m x
 | [],_,_=>rfl
 | (n,v)::r,m,h=>by
  unfold bindL
  rw[bQ λw hw=>h w (List.mem_cons_of_mem _ hw)]
  split
  ·have:x≠n:=by rintro rfl;exact h v List.mem_cons_self
   simp[this]
  ·rfl
theorem bR{kindOf:Str->Option NameKind}{x:Str}:∀ {binds:List (Str × Value)} {m:Str->Option Value},(∀ v,(x,v)∉binds)->bindC kindOf binds m x=m x
 | [],_,_=>rfl
 | (n,v)::r,m,h=>by
  unfold bindC
  rw[bR λw hw=>h w (List.mem_cons_of_mem _ hw)]
  split
  ·rfl
  ·have:x≠n:=by rintro rfl;exact h v List.mem_cons_self
   simp[this]
theorem bS{kindOf:Str->Option NameKind}{x:Str}{v:Value}:∀ {P:List Str} {vs:List Value} {i:Nat} {m:Str->Option Value},P.Nodup->P[i]? =some x->vs[i]? =some v->kindOf x=some .local →
  bindL kindOf (P.zip vs) m x=some v
 | [],_,_,_,_,h,_,_=>by simp at h
 | _::_,[],_,_,_,_,h,_=>by simp at h
 | p::P,w::vs,0,m,nd,h1,h2,hk=>by
  simp at h1 h2;subst h1;subst h2
  show bindL kindOf ((p,w)::P.zip vs) m p=_
  unfold bindL
  rw[bQ λv hv=>(List.nodup_cons.mp nd).1 (List.of_mem_zip hv).1,if_pos hk]
  simp
 | p::P,w::vs,i+1,m,nd,h1,h2,hk=>by
  show bindL kindOf ((p,w)::P.zip vs) m x=_
  unfold bindL
  exact bS (i:=i) (List.nodup_cons.mp nd).2 (by simpa using h1) (by simpa using h2) hk
theorem bT{kindOf:Str->Option NameKind}{x:Str}{v:Value}:∀ {P:List Str} {vs:List Value} {i:Nat} {m:Str->Option Value},P.Nodup->P[i]? =some x->vs[i]? =some v->kindOf x≠some .local →
  bindC kindOf (P.zip vs) m x=some v
 | [],_,_,_,_,h,_,_=>by simp at h
 | _::_,[],_,_,_,_,h,_=>by simp at h
 | p::P,w::vs,0,m,nd,h1,h2,hk=>by
  simp at h1 h2;subst h1;subst h2
  show bindC kindOf ((p,w)::P.zip vs) m p=_
  unfold bindC
  rw[bR λv hv=>(List.nodup_cons.mp nd).1 (List.of_mem_zip hv).1,if_neg hk]
  simp
 | p::P,w::vs,i+1,m,nd,h1,h2,hk=>by
  show bindC kindOf ((p,w)::P.zip vs) m x=_
  unfold bindC
  exact bT (i:=i) (List.nodup_cons.mp nd).2 (by simpa using h1) (by simpa using h2) hk
def A0(N:List Str)(vs:List V):St:=vs.map some++List.replicate (N.length - vs.length) none
def GI(CX:FL)(P:Program)(w:World)(K:W.Frag)(mg:Str->Option Value)(base:Heap)(N:List Str)(qual:Str)(scope:Scope)(f:Addr)(cd:Value)(A:Around)(outer:List Env)(s:Shared)(H:Hp)(E:XK):Cx where
 prog:=P
 w:=w
 K:=K
 mg:=mg
 base:=base
 A:=A.deeper (envOfC qual scope s.heap.objs.size f cd)
 N:=N
 s₀:=s
 H₀:=H
 env:=envOfC qual scope s.heap.objs.size f cd
 outer:=outer
 stack:=envOfC qual scope s.heap.objs.size f cd::outer
 ex:=[]
 calm:=true
 fn:=λ_=>true
 pn:=[]
 xe:=λe s'=>wpAny (model P w) (A.deeper (envOfC qual scope s.heap.objs.size f cd)) (leaving (envOfC qual scope s.heap.objs.size f cd) e) (λ_ s''=>CX outer H s E e s'') (λe' s''=>CX outer H s E e' s'') s'
theorem bU{sc:Scope}{n:Nat}{x:Str}(h:sc.names.lookup x=some .cell):∃ c,(cellsFrom n sc.names []).lookup x=some c:=by
 have q:=W.cellsFrom_some sc.names n [] (.inl h)
 exact Option.isSome_iff_exists.mp q
theorem u9{CX:FL}{P:Program}{w:World}{K:W.Frag}{mg:Str->Option Value}{base:Heap}{N ps:List Str}{qual:Str}{scope:Scope}{f:Addr}{cd:Value}{A:Around}{outer:List Env}{s s1:Shared}{H:Hp}{E:XK}{us:List Value}{vs:List V}
  (S:FnScope N ps scope) (hd:A.handled=none) (e0:Env0 P w K mg base A outer s H) (hl:vs.length=ps.length) (r:Vals vs us)
  (x:InCallC s s.heap.objs.size (bindL (envOfC qual scope s.heap.objs.size f cd).kindOf (ps.zip us) λ_=>none) (cellsFrom (s.heap.objs.size+1) scope.names []) (bindC (envOfC qual scope s.heap.objs.size f cd).kindOf (ps.zip us) λ_=>none) s1) :
  Inv (GI CX P w K mg base N qual scope f cd A outer s H E) [] (A0 N vs) H s1:=by
 have C0:ps.length<=N.length:=by have:=congrArg List.length S.pre;rw[List.length_take]at this;omega
 obtain⟨h1,tk,rfl,hk⟩:=x.done
 have noA:∀ b:Addr,b∉(GI CX P w K mg base N qual scope f cd A outer s H E).ex:=λb z=>absurd (show b∈([]:List Addr)from z) (by simp)
 refine⟨⟨e0.mod,S.kind,rfl,rfl,Nat.le_refl _,λy z c h1 h2=> ?_,λy hy=> ?_,λy c _ h=> ?_,λ_=>hd,Around.frames_deeper e0.frames,.inr ⟨rfl,rfl⟩,λb z=>absurd z (noA b),e0.bs,e0.bsz,λb _ _=>noA b,λb z=>absurd z (noA b),e0.funs,e0.frf⟩,
  rfl,e0.bare,Un.kept hk,⟨_,x.toInCall.ns,λi y v h1 h2 h3=> ?_⟩,λy c h=>⟨_,x.cell y c h⟩,e0.hok.fresh (Nat.le_refl _),λy c h=> ?_,λp hp=>absurd (show p∈([]:List (Addr × Obj))from hp) (by simp),e0.hok.kept hk,?_⟩
 ·exact name_of_addr x.apart (PySem.mem_of_lookup h1) (PySem.mem_of_lookup h2)
 ·have hy:scope.names.lookup y=some .cell\/scope.names.lookup y=some .free:=hy
  rcases hy with hy | hy
  ·exact bU hy
  ·exact absurd rfl (S.nofree _ (PySem.mem_of_lookup hy))
 ·exact Nat.le_of_lt (x.above y c (PySem.mem_of_lookup h))
 ·have hi:i<vs.length:=by
   unfold A0 at h2
   by_cases hi:i<vs.length
   ·exact hi
   ·rw[List.getElem?_append_right (by simpa using hi)]at h2
    rw[List.getElem?_replicate]at h2
    split at h2<;>cases h2
  have ha:vs[i]? =some v:=by
   unfold A0 at h2
   rw[List.getElem?_append_left (by simpa using hi),List.getElem?_map]at h2
   cases e:vs[i]? with
   | none=>rw[e]at h2;cases h2
   | some a=>rw[e]at h2;cases h2;rfl
  obtain⟨u,hu,rv⟩:=r.get ha
  have hp:ps[i]? =some y:=by
   rw[<-S.pre,List.getElem?_take_of_lt (by omega)];exact h1
  have ndP:ps.Nodup:=by rw[<-S.pre];exact S.nd.sublist (List.take_sublist _ _)
  refine⟨u,rv,?_⟩
  rcases S.par y (List.mem_of_getElem? hp)with k | k
  ·exact .inl ⟨k,bS ndP hp hu k⟩
  ·obtain⟨c,e⟩:=bU (n:=s.heap.objs.size+1) k
   refine .inr ⟨.inl k,c,e,?_⟩
   have q:=x.cell y c e
   rw[bT ndP hp hu (by show scope.names.lookup y≠_;rw[k];decide)]at q
   exact q
 ·exact e0.hok.fresh (Nat.le_of_lt (x.above y c (PySem.mem_of_lookup h)))
 ·unfold A0
  show _=N.length
  rw[List.length_append,List.length_map,List.length_replicate]
  omega
theorem bV{CX:FL}{P:Program}{w:World}{K:W.Frag}{mg:Str->Option Value}{base:Heap}{k:Nat}{f:Addr}{name qual:Str}{params:Arguments}{body:List Stmt}{scope:Scope}{dV kV doc pm BP ct oc:Value}{an od:Option Addr}
  {osl:Array (Option Value)} {N ps:List Str} {sp:Sp} (lk:K.lookup f=some ⟨oc,od,.func (W.fnOf name qual params body scope dV kV doc pm an BP ct),osl⟩) (GY:W.codeIn K BP qual=true) (S:FnScope N ps scope)
  (len:∀ vs H Q E,sp vs H Q E->vs.length=ps.length)
  (O0:∀ (A:Around) (outer:List Env) (s:Shared) (H:Hp) (vs:List V) (Q:VK) (E:XK),Room k (A.deeper (envOfC qual scope s.heap.objs.size f BP))->sp vs H Q E →
   ∃ t,PSs (GI CX P w K mg base N qual scope f BP A outer s H E) body t/\t { nx:=λ_ H'=>Q .non H',rt:=Q } (A0 N vs) H) :
  FnOk P w K mg base CX (k+1) f (W.fnOf name qual params body scope dV kV doc pm an BP ct) ps sp:=by
 refine⟨len,λA outer s H args us vs Q E hr e0 hb r hsp=> ?_⟩
 have hl:=len _ _ _ _ hsp
 have KX:K.In s.heap:=e0.mod.kin.keeps λb o e=>(e0.bs b o e).1
 have lim:s.heap.NoLimit:=e0.mod.nolimit.keeps λb o e=>(e0.bs b o e).1
 have hkind:∀ y∈ps.zip us,scope.names.lookup y.1=some .local\/(scope.names.lookup y.1=some .cell/\((cellsFrom (s.heap.objs.size+1) scope.names []).lookup y.1).isSome=true):=λ⟨n,v⟩ hy=>by
  rcases S.par n (List.of_mem_zip hy).1 with q | q
  ·exact .inl q
  ·exact .inr ⟨q,W.cellsFrom_some _ _ _ (.inl q)⟩
 refine codeAny_call_function hr.depth (KX _ _ lk) rfl S.co S.gen rfl (W.codeRec_of KX GY) (hb _ _ _ _ ?_)
 refine wpAny_newFunctionEnv_cells S.kind hkind λenv he s1 x=> ?_
 subst he
 refine⟨lim.keeps x.toInCall.keep,codeAny_func ?_⟩
 obtain⟨t,ht,hq⟩:=O0 A outer s H vs Q E (hr.deeper _) hsp
 have I:Inv (GI CX P w K mg base N qual scope f BP A outer s H E) [] (A0 N vs) H s1:=u9 S hr.hd e0 hl r x
 refine wpAny_mono (ht [] s1 (A0 N vs) H _ I hq) (λfl s' hs=> ?_) λe s' hs=>hs
 have fin:∀ {σ':St} {H':Hp} {v:V} {u:Value},Inv (GI CX P w K mg base N qual scope f BP A outer s H E) [] σ' H' s'->RelV v u->Q v H'->CE outer P w H s Q u s' :=
  λ{σ' H' v u} J rv q=>⟨v,H',J.os,J.bare,J.base,J.hok,rv,q⟩
 cases fl with
 | ret u =>
  obtain⟨v,σ',H',J,rv,q⟩:=hs
  exact fin J rv q
 | next =>
  obtain⟨σ',H',J,q⟩:=hs
  exact fin (v:=V.non) (u:=Value.none) J rfl q
 | brk =>
  obtain⟨_,_,_,q⟩:=hs
  exact False.elim q
 | cont =>
  obtain⟨_,_,_,q⟩:=hs
  exact False.elim q
end L2
namespace L2
section
variable{X:Cx}{x:Str}{p pos:Pos}{e:Expr}{es:List Expr}{t:TA}{id T:String}{r:List V->Hp->VK->Prop}
def CB(r:List V->Hp->VK->Prop)(t:TA):TE:=λσ H Q=>t σ H λvs H1=>r vs H1 Q
theorem DG(hc:CallR X (.builtin id) r)(hg:Gl X x)(hm:X.mg x=none)(hv:bootBuiltins x=some (.builtin id))(ha:PA X (e::es) t)(hn:x≠"__name__":=by decide)(hdb:(x ==("__debug__":Str))=false:=by decide)
  (he:starEach (e::es) X.env=(false,eval e X.env)::starEach es X.env:=by rfl) (C0:(backTo pos (starEach es X.env)).any (·.1)=false:=by rfl):PE X (.Call (.Name x p) (e::es) [] pos) (CB r t):=by
 intro AA s σ H Q I h
 refine wpAny_Call_Name_kw (KY I hg hm hv ?_ hn hdb)
 exact PyProof.Rows.callWith_builtin1 (AT (ha pos AA s σ H _ I h) λus s1 ⟨vs,H1,I1,r1,q1⟩=>hc AA s1 σ H1 vs us Q I1 r1 q1) he C0
theorem HJ(hc:CallR X (.type T) r)(hg:Gl X x)(hm:X.mg x=none)(hv:bootBuiltins x=some (.type T))(ha:PA X (e::es) t)(hn:x≠"__name__":=by decide)(hdb:(x ==("__debug__":Str))=false:=by decide)
  (he:starEach (e::es) X.env=(false,eval e X.env)::starEach es X.env:=by rfl) (C0:(backTo pos (starEach es X.env)).any (·.1)=false:=by rfl):PE X (.Call (.Name x p) (e::es) [] pos) (CB r t):=by
 intro AA s σ H Q I h
 refine wpAny_Call_Name_kw (KY I hg hm hv ?_ hn hdb)
 exact PyProof.Rows.callWith_type1 (AT (ha pos AA s σ H _ I h) λus s1 ⟨vs,H1,I1,r1,q1⟩=>hc AA s1 σ H1 vs us Q I1 r1 q1) he C0
end
end L2
namespace HT
open PySem PyProof.Rows
section
open PySem.SeqAt
open PySem.AutoSeq1 (wpAny_loadPart')
open PySem.MeetsSeq PySem.MeetsSeq2 PySem.MeetsSeq3
end
section
variable{prog:Program}{w:World}{A:Around}{E:Value->Shared->Prop}{s:Shared}
theorem cat_tup{t b:Addr}{vs ws:List Value}{Q:Value->Shared->Prop}(ht:IsTup s.heap t vs.toArray)(hb:IsTup s.heap b ws.toArray)(hv:vs≠[])
  (h1:ws=[]->Q (.ref t) s) (h2:ws≠[]->Q (.ref s.heap.objs.size) { s with heap:=s.heap.push { cls:=.type "tuple",data:=.seq (vs++ws).toArray } })
  (hsz:vs.length+ws.length<=sizeLine):wpAny (model prog w) A (binaryOp .Add (.ref t) (.ref b)) Q E s:=by
 obtain⟨⟨cls,dd,data,sl⟩,ho,hc,n,hd⟩:=id ht
 obtain⟨⟨cls2,dd2,data2,sl2⟩,ho2,hc2,n2,hd2⟩:=id hb
 simp only at hc hd hc2 hd2
 subst hc hd hc2 hd2
 have e:vs.toArray++ws.toArray=(vs++ws).toArray:=by simp
 by_cases hw:ws=[]
 ·exact concat_meets ⟨_,ho,rfl⟩ ⟨_,ho2,rfl⟩ noFill_tuple_add seq_tuple_add PySem.F.slot_tuple_add PySem.F.entry_tuple_add (PySem.F.args_tuple_add_2 _ _)
   (tuple_addW1 t b vs.toArray ws.toArray n n2 dd dd2 sl sl2 (by simpa using hv) (by simp[hw])) ⟨ho,ho2,h1 hw⟩
 ·refine concat_meets ⟨_,ho,rfl⟩ ⟨_,ho2,rfl⟩ noFill_tuple_add seq_tuple_add PySem.F.slot_tuple_add PySem.F.entry_tuple_add (PySem.F.args_tuple_add_2 _ _)
   (tuple_addW2 t b vs.toArray ws.toArray n n2 dd dd2 sl sl2 (by simpa using hv) (by simpa using hw) (by rw[List.size_toArray,List.size_toArray];exact hsz)) ⟨ho,ho2,?_⟩
  rw[e]
  exact h2 hw
def sIx(n d:Nat):Option Int->Nat
 | none=>d
 | some v=>if v<0 then(v+(n:Int)).toNat else min v.toNat n
theorem vA(n d:Nat)(hd:d<=n)(o:Option Int):sIx n d o<=n:=by
 cases o with
 | none=>exact hd
 | some v =>
  show(if v<0 then(v+(n:Int)).toNat else min v.toNat n)<=n
  by_cases hv:v<0
  ·rw[if_pos hv];omega
  ·rw[if_neg hv];exact Nat.min_le_right _ _
theorem bW(v:Int)(n d:Nat):(if v<0 then max (v+(n:Int)) 0 else min v (n:Int))=((sIx n d (some v):Nat):Int):=by
 show(if v<0 then max (v+(n:Int)) 0 else min v (n:Int))=(((if v<0 then(v+(n:Int)).toNat else min v.toNat n):Nat):Int)
 by_cases hv:v<0
 ·simp only[if_pos hv];omega
 ·simp only[if_neg hv];omega
theorem vB(lo hi:Option Int)(n:Nat):Builtin.Slice.sliceAdjust lo hi 1 (n:Int)=(((sIx n 0 lo:Nat):Int),((sIx n n hi:Nat):Int)):=by
 have h1:¬ ((1:Int)<0):=by omega
 unfold Builtin.Slice.sliceAdjust
 simp only[h1,if_false]
 refine Prod.ext ?_ ?_
 ·cases lo with
  | none=>rfl
  | some v=>exact bW v n 0
 ·cases hi with
  | none=>rfl
  | some v=>exact bW v n n
theorem vC(i j:Nat):Builtin.Slice.slicePlaces (i:Int) (j:Int) 1=j - i:=by
 unfold Builtin.Slice.slicePlaces
 have h1:(1:Int) > 0:=by omega
 simp only[h1,if_true,Int.ediv_one]
 split<;>omega
theorem bX{v:Value}{o:Option Int}{Q:Option Int->Shared->Prop}(p:IsPart v o)(h:Q o s):wpAny (model prog w) A (Builtin.Slice.slicePartIndex v) Q E s:=by
 cases p with
 | none=>exact slicePart_none h
 | int i t=>exact slicePart_int h
theorem vE{sl:Addr}{vl vu:Value}{lo hi:Option Int}{n:Nat}{Q:Int × Int × Nat->Shared->Prop}(hs:s.heap.IsSliceOf sl vl vu .none)(pl:IsPart vl lo)(pu:IsPart vu hi)
  (h:Q (((sIx n 0 lo:Nat):Int),1,sIx n n hi - sIx n 0 lo) s):wpAny (model prog w) A (Builtin.Slice.sliceApplied (.ref sl) (pure (n:Int))) Q E s:=by
 obtain⟨os,hos,hcs,hds⟩:=id hs
 unfold Builtin.Slice.sliceApplied Builtin.Slice.sliceFields
 refine wpAny_bind (wpAny_bind (wpAny_field hos hds (x:=vl) rfl (wpAny_bind (wpAny_field hos hds (x:=vu) rfl (wpAny_bind (wpAny_field hos hds (x:=.none) rfl (wpAny_pure ?_)))))))
 refine wpAny_bind (slicePart_none ?_)
 show wpAny _ _ (if((1:Int) == 0)=true then _ else _) _ _ s
 rw[if_neg (by decide)]
 refine wpAny_bind (bX pl (wpAny_bind (bX pu (wpAny_bind (wpAny_pure ?_)))))
 show wpAny _ _ (match Builtin.Slice.sliceAdjust lo hi 1 (n:Int)with | (lo,hi)=>pure (lo,(1:Int),Builtin.Slice.slicePlaces lo hi 1)) _ _ s
 rw[vB lo hi n]
 show wpAny _ _ (pure (((sIx n 0 lo:Nat):Int),(1:Int),Builtin.Slice.slicePlaces ((sIx n 0 lo:Nat):Int) ((sIx n n hi:Nat):Int) 1)) _ _ s
 rw[vC]
 exact wpAny_pure h
theorem vF(xs:Array Value)(i k:Nat):((List.range k).filterMap λ(m:Nat)=>xs[((i:Int)+(m:Int) * 1).toNat]?).toArray=((xs.toList.drop i).take k).toArray:=by
 have e:(λ(m:Nat)=>xs[((i:Int)+(m:Int) * 1).toNat]?)=λm=>xs[i+m]? :=by
  funext m
  have:((i:Int)+(m:Int) * 1).toNat=i+m:=by omega
  rw[this]
 rw[e]
 have:=pick_run xs i k
 rw[List.filterMap_map]at this
 have e2:((λx=>xs[x]?) ∘ λx=>i+x)=λm=>xs[i+m]? :=rfl
 rw[e2]at this
 rw[this]
theorem getItem_tuple_cut{t sl:Addr}{BJ:Array Value}{vl vu:Value}{lo hi:Option Int}{Q:Value->Shared->Prop}(ht:IsTup s.heap t BJ)(hs:s.heap.IsSliceOf sl vl vu .none)(pl:IsPart vl lo)(pu:IsPart vu hi)
  (hw:¬ (sIx BJ.size 0 lo=0/\sIx BJ.size BJ.size hi=BJ.size))
  (h:Q (.ref s.heap.objs.size) { s with heap:=s.heap.push { cls:=.type "tuple",data:=.seq ((BJ.toList.drop (sIx BJ.size 0 lo)).take (sIx BJ.size BJ.size hi - sIx BJ.size 0 lo)).toArray } })
  (hsz:BJ.size<=sizeLine):wpAny (model prog w) A (getItem (.ref t) (.ref sl)) Q E s:=by
 have htake:sizeOk (.seq ((BJ.toList.drop (sIx BJ.size 0 lo)).take (sIx BJ.size BJ.size hi - sIx BJ.size 0 lo)).toArray):=by
  show((BJ.toList.drop (sIx BJ.size 0 lo)).take (sIx BJ.size BJ.size hi - sIx BJ.size 0 lo)).toArray.size<=sizeLine
  rw[List.size_toArray,List.length_take,List.length_drop,Array.length_toList]
  omega
 have hj:sIx BJ.size BJ.size hi<=BJ.size:=vA _ _ (Nat.le_refl _) hi
 obtain⟨os,hos,hcs,hds⟩:=id hs
 have hTs:s.TypeIs (.ref sl) "slice":=⟨os,hos,hcs⟩
 unfold getItem
 try with_reducible refine wpAny_holding ?_
 first | refine wpAny_bind (wpAny_pure ?_) | skip
 refine wpAny_bind (wpAny_sequenceKey ht.typeIs (by decide) ?_)
 refine wpAny_bind (wpAny_callSpecial?_slot (name:=Str.ofString "__getitem__") ht.typeIs PyProof.Rows.slot_tuple_getitem
  (wpAny_call_entry PyProof.Rows.slot_tuple_getitem ht.typeIs entry_tuple_getitem ?_ (args_tuple_getitem _ _)))
 show wpAny _ _ (Builtin.Tuple.tupleItemsOf (.ref t) >>= _) _ _ s
 refine wpAny_bind (tupleItemsOf_ ht ?_)
 refine wpAny_bind (wpAny_typeOf hTs ?_)
 rw[if_pos (by decide)]
 refine wpAny_bind (vE hs pl pu ?_)
 have hno:¬ ((((sIx BJ.size 0 lo:Nat):Int) == 0 && (1:Int) == 1 && (sIx BJ.size BJ.size hi - sIx BJ.size 0 lo) == BJ.size)=true):=by
  intro q
  rw[Bool.and_eq_true,Bool.and_eq_true]at q
  have q1:((sIx BJ.size 0 lo:Nat):Int)=0:=eq_of_beq q.1.1
  have q2:sIx BJ.size BJ.size hi - sIx BJ.size 0 lo=BJ.size:=eq_of_beq q.2
  exact hw ⟨by omega,by omega⟩
 show wpAny _ _ (if(((sIx BJ.size 0 lo:Nat):Int) == 0 && (1:Int) == 1 && (sIx BJ.size BJ.size hi - sIx BJ.size 0 lo) == BJ.size)=true then _ else _) _ _ s
 rw[if_neg hno,vF]
 first
  | exact wpAny_bind (m:=Builtin.Tuple.tupleExact _) (wpAny_newObj_type (wpAny_pure ⟨_,rfl,wpAny_pure h⟩) htake)
  | exact wpAny_bind (m:=Builtin.Tuple.tupleExact _) (wpAny_newObj_type (wpAny_bind (wpAny_pure (wpAny_pure ⟨_,rfl,wpAny_pure h⟩))) htake)
  | exact wpAny_bind (wpAny_bind (m:=Builtin.Tuple.tupleExact _) (wpAny_newObj_type (wpAny_pure (wpAny_pure ⟨_,rfl,wpAny_pure h⟩)) htake))
  | exact wpAny_bind (wpAny_bind (m:=Builtin.Tuple.tupleExact _) (wpAny_newObj_type (wpAny_pure ⟨_,rfl,wpAny_pure h⟩) htake))
end
end HT
namespace L2
abbrev TO:=St->Hp->(Option Int->Hp->Prop)->Prop
def PO(X:Cx)(e:Option Expr)(t:TO):Prop :=
 ∀ (AA:List (Addr × Obj)) (s:Shared) (σ:St) (H:Hp) (Q:Option Int->Hp->Prop),Inv X AA σ H s->t σ H Q →
  wpAny (model X.prog X.w) X.A (evalPart e X.env) (λu s'=>∃ o H',Inv X AA σ H' s'/\IsPart u o/\Q o H') X.xe s
def IV:TO:=λ_ H Q=>Q none H
def IW(t:TE):TO:=λσ H Q=>t σ H λx H1=>∃ i,x=.int i/\Q (some i) H1
section
variable{X:Cx}{e:Expr}{te:TE}{lo hi:Option Expr}{tl th:TO}{pos p2:Pos}
theorem K5:PO X none IV:=by
 intro AA s σ H Q I h
 rw[evalPart_none]
 exact wpAny_pure ⟨none,H,I,.none,h⟩
theorem K6(h:PE X e te):PO X (some e) (IW te):=by
 intro AA s σ H Q I hw
 rw[evalPart_some]
 refine AT (h AA s σ H _ I hw) λu s1 hzz=> ?_
 obtain⟨x,H1,I1,r1,q1⟩:=hzz
 obtain⟨i,rfl,q⟩:=q1
 obtain⟨t,rfl⟩:=r1
 exact⟨some i,H1,I1,.int i t,q⟩
def SlR(X:Cx)(r:V->Option Int->Option Int->Hp->VK->Prop):Prop :=
 ∀ (AA:List (Addr × Obj)) (s:Shared) (σ:St) (H:Hp) (x:V) (v vl vu:Value) (lo hi:Option Int) (sl:Addr) (Q:VK),Inv X AA σ H s->RelV x v->s.heap.IsSliceOf sl vl vu .none->IsPart vl lo->IsPart vu hi->r x lo hi H Q →
  ∃ T id,typeLookup (.type T) "__getitem__"=pure (some (.builtin id))/\s.TypeIs v T/\wpAny (model X.prog X.w) X.A (getItem v (.ref sl)) (EP X AA σ Q) X.xe s
theorem SlR.or{r r':V->Option Int->Option Int->Hp->VK->Prop}(h:SlR X r)(h':SlR X r'):SlR X (λx lo hi H Q=>r x lo hi H Q\/r' x lo hi H Q):=by
 intro AA s σ H x v vl vu lo hi sl Q I rx hs pl pu q
 rcases q with q | q
 ·exact h AA s σ H x v vl vu lo hi sl Q I rx hs pl pu q
 ·exact h' AA s σ H x v vl vu lo hi sl Q I rx hs pl pu q
def IX(r:V->Option Int->Option Int->Hp->VK->Prop)(te:TE)(tl th:TO):TE:=λσ H Q=>te σ H λx H1=>tl σ H1 λl H2=>th σ H2 λu H3=>r x l u H3 Q
theorem K7{r:V->Option Int->Option Int->Hp->VK->Prop}(hr:SlR X r)(he:PE X e te)(hl:PO X lo tl)(hu:PO X hi th):PE X (.Subscript e (.Slice lo hi none p2) pos) (IX r te tl th):=by
 intro AA s σ H Q I h
 refine Subscript_ (AT (he AA s σ H _ I h) λv s1 hzz=> ?_)
 obtain⟨x,H1,I1,r1,q1⟩:=hzz
 refine wpAny_Slice (AT (hl AA s1 σ H1 _ I1 q1) λvl s2 ⟨l,H2,I2,pl,q2⟩=>AT (hu AA s2 σ H2 _ I2 q2) λvu s3 hzz=> ?_)
 obtain⟨u,H3,I3,pu,q3⟩:=hzz
 rw[evalPart_none]
 refine wpAny_pure ?_
 have I4:Inv X AA σ H3 { s3 with heap:=s3.heap.push { cls:=.type "slice",data:=.fields #[vl,vu,.none] } }:=I3.kept (t':=s3.toks) λb ob q=>Heap.get?_push_of_some _ q
 obtain⟨T,id,hT,ht,hg⟩:=hr AA { s3 with heap:=s3.heap.push { cls:=.type "slice",data:=.fields #[vl,vu,.none] } } σ H3 x v vl vu l u s3.heap.objs.size Q I4 r1 (Heap.IsSliceOf.new ..) pl pu q3
 show wpAny (model X.prog X.w) X.A (subscriptTail e (.Slice lo hi none p2) v (.ref s3.heap.objs.size)) (EP X AA σ Q) X.xe { s3 with heap:=s3.heap.push { cls:=.type "slice",data:=.fields #[vl,vu,.none] } }
 exact tail_any (ops:=[.ref s3.heap.objs.size,v]) ht hT hg (by with_unfolding_all rfl)
def K8(xs:List V)(lo hi:Option Int):List V:=(xs.drop (HT.sIx xs.length 0 lo)).take (HT.sIx xs.length xs.length hi - HT.sIx xs.length 0 lo)
theorem bY(xs:List V)(lo hi:Option Int):(K8 xs lo hi).length<=xs.length:=by
 unfold K8
 rw[List.length_take,List.length_drop]
 omega
def bZ(K:W.Frag):V->Option Int->Option Int->Hp->VK->Prop:=λx lo hi H Q=>∃ a xs,x=.ref a/\SqT K H a xs ∧
 ¬ (HT.sIx xs.length 0 lo=0/\HT.sIx xs.length xs.length hi=xs.length)/\∀ p,H p=none->Q (.ref p) (upd H p (.tup (K8 xs lo hi)))
theorem vG:SlR X (bZ X.K):=by
 intro AA s σ H x v vl vu lo hi sl Q I rx hs pl pu h
 obtain⟨a,xs,rfl,hx,hw,q⟩:=h
 cases rx
 obtain⟨its,r,ht,hz⟩:=I.tuple hx
 have B0:its.toArray.size=xs.length:=by rw[List.size_toArray];exact r.length.symm
 refine⟨"tuple",_,PyProof.Rows.slot_tuple_getitem.lookup,ht.typeIs,?_⟩
 refine HT.getItem_tuple_cut ht hs pl pu (by rw[B0];exact hw) ?_ (by rw[B0];exact hz)
 rw[B0]
 refine⟨.ref s.heap.objs.size,_,I.laid (t':=s.toks) (o:=.tup (K8 xs lo hi)) (λb ob q=>Heap.get?_push_of_some _ q) (Nat.le_refl _) ?_,rfl,q _ (I.hok.fresh (Nat.le_refl _))⟩
 exact⟨Nat.le_trans (bY xs lo hi) hz,_,(r.drop (HT.sIx xs.length 0 lo)).take (HT.sIx xs.length xs.length hi - HT.sIx xs.length 0 lo),IsTup.new _ _⟩
def SW(K:W.Frag):R2:=λx y H Q=>∃ a b xs ys,x=.ref a/\y=.ref b/\SqT K H a xs/\SqT K H b ys/\xs≠[]/\xs.length+ys.length<=sizeLine ∧
 (ys=[]->Q (.ref a) H)/\(ys≠[]->∀ p,H p=none->Q (.ref p) (upd H p (.tup (xs++ys))))
theorem Vals.nil_iff{xs:List V}{us:List Value}(r:Vals xs us):us=[]↔xs=[]:=by
 cases r with
 | nil=>simp
 | cons _ _=>simp
theorem vH:OpR X (binaryOp .Add) (SW X.K):=by
 intro AA s σ H x y v u Q I rx ry h
 obtain⟨a,b,xs,ys,rfl,rfl,ha,hb,hx,hz,q1,q2⟩:=h
 cases rx
 cases ry
 obtain⟨its,r1,p1,_⟩:=I.tuple ha
 obtain⟨OY,r2,p2,_⟩:=I.tuple hb
 refine HT.cat_tup p1 p2 (λz=>hx (r1.nil_iff.mp z)) (λz=>⟨.ref a,H,I,rfl,q1 (r2.nil_iff.mp z)⟩) (λz=> ?_) (by rw[<-r1.length,<-r2.length];exact hz)
 refine⟨.ref s.heap.objs.size,_,I.laid (t':=s.toks) (o:=.tup (xs++ys)) (λb ob q=>Heap.get?_push_of_some _ q) (Nat.le_refl _) ?_,rfl,q2 (λw=>z (r2.nil_iff.mpr w)) _ (I.hok.fresh (Nat.le_refl _))⟩
 exact⟨by rw[List.length_append];exact hz,_,r1.append r2,IsTup.new _ _⟩
end
end L2
namespace L2
def IY(n:Nat)(i:Int):Option Nat:=if 0<=i then(if i<n then some i.toNat else none)else if -(n:Int)<=i then some (i+n).toNat else none
def HZ{α :Type}(xs:List α)(i:Int):Option α :=(IY xs.length i).bind λj=>xs[j]?
theorem vI{n:Nat}{i:Int}{j:Nat}(h:IY n i=some j):seqIndex? i n=some j/\j<n/\ -(n:Int)<=i/\i<n:=by
 unfold IY at h
 by_cases h0:0<=i
 ·rw[if_pos h0]at h
  by_cases h1:i<n
  ·rw[if_pos h1]at h
   have e:i.toNat=j:=Option.some.inj h
   exact⟨by rw[seqIndex_of h0 h1,e],by omega,by omega,h1⟩
  ·rw[if_neg h1]at h;cases h
 ·rw[if_neg h0]at h
  by_cases h1: -(n:Int)<=i
  ·rw[if_pos h1]at h
   have e:(i+n).toNat=j:=Option.some.inj h
   exact⟨by rw[seqIndex_neg (by omega) h1,e],by omega,h1,by omega⟩
  ·rw[if_neg h1]at h;cases h
theorem SY{α :Type}{xs:List α}{i:Int}{v: α}(h:HZ xs i=some v):∃ j,seqIndex? i xs.length=some j/\xs[j]? =some v/\j<xs.length/\ -(xs.length:Int)<=i/\i<xs.length:=by
 unfold HZ at h
 cases e:IY xs.length i with
 | none=>rw[e]at h;cases h
 | some j =>
  rw[e]at h
  obtain⟨h1,h2,h3,h4⟩:=vI e
  exact⟨j,h1,h,h2,h3,h4⟩
theorem SZ{α :Type}{xs:List α}{j:Nat}{v: α}(h:xs[j]? =some v):HZ xs (j:Int)=some v:=by
 have hj:j<xs.length:=(List.getElem?_eq_some_iff.mp h).1
 have e:IY xs.length (j:Int)=some j:=by
  unfold IY
  rw[if_pos (by omega),if_pos (by omega)];simp
 unfold HZ;rw[e];exact h
def b0(b:Expr):Prop:=∀ o i,subscripted b false o i=operate [o,i] (getItem o i)
def IxR(X:Cx)(r:R2):Prop :=
 ∀ (value slice:Expr) (AA:List (Addr × Obj)) (s:Shared) (σ:St) (H:Hp) (x y:V) (v u:Value) (Q:VK),Inv X AA σ H s->RelV x v->RelV y u->r x y H Q →
  subscripted slice false v u=operate [v,u] (getItem v u)->wpAny (model X.prog X.w) X.A (subscriptTail value slice v u) (EP X AA σ Q) X.xe s
def MtR(X:Cx)(id:String)(r:V->List V->Hp->VK->Prop):Prop :=
 ∀ (AA:List (Addr × Obj)) (s:Shared) (σ:St) (H:Hp) (x:V) (xs:List V) (v:Value) (us:List Value) (Q:VK),Inv X AA σ H s->RelV x v->Vals xs us->r x xs H Q →
  wpAny (model X.prog X.w) X.A (call (.builtin id) (v::us)) (EP X AA σ Q) X.xe s
section
variable{X:Cx}{a b:Expr}{ta tb:TE}{pos:Pos}
theorem IxR.or{r r':R2}(h:IxR X r)(h':IxR X r'):IxR X (λx y H Q=>r x y H Q\/r' x y H Q):=by
 intro value slice AA s σ H x y v u Q I rx ry q hs
 rcases q with q | q
 ·exact h value slice AA s σ H x y v u Q I rx ry q hs
 ·exact h' value slice AA s σ H x y v u Q I rx ry q hs
theorem MtR.or{id:String}{r r':V->List V->Hp->VK->Prop}(h:MtR X id r)(h':MtR X id r'):MtR X id (λx xs H Q=>r x xs H Q\/r' x xs H Q):=by
 intro AA s σ H x xs v us Q I rx rs q
 rcases q with q | q
 ·exact h AA s σ H x xs v us Q I rx rs q
 ·exact h' AA s σ H x xs v us Q I rx rs q
theorem CY{r:R2}(hr:IxR X r)(ha:PE X a ta)(hb:PE X b tb)(hs:b0 b):PE X (.Subscript a b pos) (AF r ta tb):=by
 intro AA s σ H Q I h
 exact Subscript_ (SQ ha hb I h λv u s2 x y H2 I2 rx ry q=>hr a b AA s2 σ H2 x y v u Q I2 rx ry q (hs _ _))
def cA(K:W.Frag):R2:=λx y H Q=>∃ p xs i v,x=.ref p/\y=.int i/\SqL K H p xs/\HZ xs i=some v/\Q v H
def cB(K:W.Frag):R2:=λx y H Q=>∃ p xs i v,x=.ref p/\y=.int i/\SqT K H p xs/\HZ xs i=some v/\Q v H
def cC:R2:=λx y H Q=>∃ z i c,x=.str z/\y=.int i/\z.length<=sizeLine/\HZ z.cps.toList i=some c/\Q (.str ⟨#[c]⟩) H
theorem vJ:IxR X (cA X.K):=by
 intro value slice AA s σ H x y v u Q I rx ry h hs
 obtain⟨p,xs,i,z,rfl,rfl,hq,he,q⟩:=h
 cases rx
 obtain⟨t,rfl⟩:=ry
 obtain⟨its,r,pl,hz⟩:=I.list hq
 obtain⟨j,h1,h2,h3,h4,h5⟩:=SY he
 obtain⟨w,ew,rw'⟩:=r.get h2
 have hl:=r.length
 have hn:=NB
 have fin:EP X AA σ Q w s:=⟨z,H,I,rw',q⟩
 by_cases h0:0<=i
 ·have hj:i.toNat=j:=by
   rw[seqIndex_of h0 h5]at h1
   exact Option.some.inj h1
  exact item_listR pl.isList h0 (by omega) (by rw[hj];simpa using ew) fin hs
 ·have hj:(i+(its.toArray.size:Int)).toNat=j:=by
   rw[seqIndex_neg (by omega) h4]at h1
   rw[List.size_toArray,<-hl]
   exact Option.some.inj h1
  exact subscriptTail_builtinR (x:=w) pl.isList.typeIs slot_list_getitem.lookup
   (wpAny_getItem_list_neg (Q:=λr s'=>r=w/\EP X AA σ Q r s') pl.isList (by omega) (by rw[List.size_toArray]<;>omega) (by omega) (by rw[hj];simpa using ew) ⟨rfl,fin⟩) hs
theorem vK:IxR X (cB X.K):=by
 intro value slice AA s σ H x y v u Q I rx ry h hs
 obtain⟨p,xs,i,z,rfl,rfl,hq,he,q⟩:=h
 cases rx
 obtain⟨t,rfl⟩:=ry
 obtain⟨its,r,pl,hz⟩:=I.tuple hq
 obtain⟨j,h1,h2,h3,h4,h5⟩:=SY he
 obtain⟨w,ew,rw'⟩:=r.get h2
 have hl:=r.length
 have hn:=NB
 have fin:EP X AA σ Q w s:=⟨z,H,I,rw',q⟩
 exact subscriptTail_builtinR (x:=w) pl.typeIs slot_tuple_getitem.lookup
  (getItem_tuple (j:=j) (Q:=λr s'=>r=w/\EP X AA σ Q r s') pl (by omega) (by omega) (by rw[List.size_toArray,<-hl];exact h1) (by simpa using ew) ⟨rfl,fin⟩) hs
theorem vL:IxR X cC:=by
 intro value slice AA s σ H x y v u Q I rx ry h hs
 obtain⟨z,i,c,rfl,rfl,hz,he,q⟩:=h
 obtain⟨t,rfl⟩:=rx
 obtain⟨t',rfl⟩:=ry
 obtain⟨j,h1,h2,h3,h4,h5⟩:=SY he
 have hl:z.cps.toList.length=z.length:=by simp[Str.length]
 rw[hl]at h1 h4 h5
 have hn:=NB
 exact tail_any (typeIs_str s z t) slot_str_getitem.lookup (getItem_str (c:=c) (by
  have e1:decide (i< -(2 ^ 63:Int))=false:=decide_eq_false (by omega)
  have e2:decide (i ≥ 2 ^ 63)=false:=decide_eq_false (by omega)
  rw[e1,e2,Bool.or_false]) (by rw[h1];simpa using h2) ⟨.str ⟨#[c]⟩,H,I.tok _,⟨_,rfl⟩,q⟩) hs
def cD(K:W.Frag):R2:=λx y H Q=>cA K x y H Q\/cB K x y H Q\/cC x y H Q
theorem vM:IxR X (cD X.K):=vJ.or (vK.or vL)
theorem Inv.lst{AA:List (Addr × Obj)}{σ:St}{H:Hp}{s:Shared}{p:Addr}{xs:List V}(I:Inv X AA σ H s)(h:H p=some (.lst xs)) :
  ∃ (its:List Value) (n:Nat),Vals xs its/\s.heap.get? p=some { cls:=.type "list",data:=.seq its.toArray n }/\xs.length<=sizeLine:=by
 obtain⟨z,its,n,r,e⟩:=I.hok p _ h
 exact⟨its,n,r,e,z⟩
def vN:V->V->V->Hp->(Hp->Prop)->Prop:=λo i v H Q=>∃ p xs k j,o=.ref p/\i=.int k/\H p=some (.lst xs)/\IY xs.length k=some j/\Q (upd H p (.lst (xs.set j v)))
theorem vO(lo hi:Option Int)(n:Nat):(sliceBounds lo hi none n).1=((HT.sIx n 0 lo:Nat):Int)/\(sliceBounds lo hi none n).2.1=((HT.sIx n n hi:Nat):Int)/\(sliceBounds lo hi none n).2.2=1:=by
 refine⟨?_,?_,rfl⟩
 ·cases lo with
  | none=>simp[sliceBounds,HT.sIx]
  | some i =>
   simp only[sliceBounds,HT.sIx,Option.getD_none,show(1:Int) > 0 by decide,if_true]
   by_cases h:i<0
   ·simp only[h,if_true]<;>omega
   ·simp only[h,if_false]<;>omega
 ·cases hi with
  | none=>simp[sliceBounds,HT.sIx]
  | some i =>
   simp only[sliceBounds,HT.sIx,Option.getD_none,show(1:Int) > 0 by decide,if_true]
   by_cases h:i<0
   ·simp only[h,if_true]<;>omega
   ·simp only[h,if_false]<;>omega
theorem vP(its:List Value)(lo hi:Option Int):slicePick its.toArray lo hi none=((its.drop (HT.sIx its.length 0 lo)).take (HT.sIx its.length its.length hi - HT.sIx its.length 0 lo)).toArray:=by
 obtain⟨h1,h2,h3⟩:=vO lo hi its.toArray.size
 unfold slicePick
 rw[h1,h2,h3]
 simp only[sliceRange_one,pick_run,List.size_toArray]<;>rfl
def cE(K:W.Frag):V->Option Int->Option Int->Hp->VK->Prop:=λx lo hi H Q=>∃ a xs,x=.ref a/\SqL K H a xs/\∀ p,H p=none->Q (.ref p) (upd H p (.lst (K8 xs lo hi)))
theorem vQ:SlR X (cE X.K):=by
 intro AA s σ H x v vl vu lo hi sl Q I rx hs pl pu h
 obtain⟨a,xs,rfl,hx,q⟩:=h
 cases rx
 obtain⟨its,r,ht,hz⟩:=I.list hx
 have B0:=r.length
 refine⟨"list",_,slot_list_getitem.lookup,ht.isList.typeIs,?_⟩
 refine wpAny_getItem_list_slice ht.isList hs pl pu .none (by simp) ?_ (by rw[List.size_toArray]<;>omega)
 rw[vP,<-B0]
 refine⟨.ref s.heap.objs.size,_,I.laid (t':=s.toks) (o:=.lst (K8 xs lo hi)) (λb ob q=>Heap.get?_push_of_some _ q) (Nat.le_refl _) ?_,rfl,q _ (I.hok.fresh (Nat.le_refl _))⟩
 exact⟨Nat.le_trans (bY xs lo hi) hz,_,0,(r.drop (HT.sIx xs.length 0 lo)).take (HT.sIx xs.length xs.length hi - HT.sIx xs.length 0 lo),Heap.get?_push_size _ rfl⟩
def GJ:V->Bool
 | .non=>true
 | .bl _=>true
 | .int _=>true
 | .str _=>true
 | _=>false
def HK:V->V->Bool
 | .non,.non=>true
 | .bl a,.bl b=>a == b
 | .bl a,.int b=>(if a then 1 else 0) == b
 | .int a,.bl b=>a ==(if b then 1 else 0)
 | .int a,.int b=>a == b
 | .str a,.str b=>a == b
 | _,_=>false
theorem vR{A:Around}{s:Shared}{y x:V}{u v:Value}(ry:RelV y u)(rx:RelV x v)(fy:GJ y=true)(fx:GJ x=true):SeqAt.EqAt A s u v (HK y x):=by
 cases y with
 | non =>
  cases ry
  cases x with
  | non=>cases rx;exact SeqAt.EqAt.same _
  | bl b=>cases rx;exact SeqAt.EqAt.none_bool b
  | int b=>obtain⟨t,rfl⟩:=rx;exact SeqAt.EqAt.none_int b t
  | str b=>obtain⟨t,rfl⟩:=rx;exact SeqAt.EqAt.none_str b t
  | _=>exact absurd (show false=true from fx) Bool.false_ne_true
 | bl a =>
  cases ry
  cases x with
  | non=>cases rx;exact SeqAt.EqAt.bool_none a
  | bl b=>cases rx;exact SeqAt.EqAt.bool_bool a b
  | int b=>obtain⟨t,rfl⟩:=rx;exact SeqAt.EqAt.bool_int a b t
  | str b=>obtain⟨t,rfl⟩:=rx;exact SeqAt.EqAt.bool_str a b t
  | _=>exact absurd (show false=true from fx) Bool.false_ne_true
 | int a =>
  obtain⟨t',rfl⟩:=ry
  cases x with
  | non=>cases rx;exact SeqAt.EqAt.int_none a t'
  | bl b=>cases rx;exact SeqAt.EqAt.int_bool a t' b
  | int b=>obtain⟨t,rfl⟩:=rx;exact SeqAt.EqAt.int_int a t' b t
  | str b=>obtain⟨t,rfl⟩:=rx;exact SeqAt.EqAt.int_str a t' b t
  | _=>exact absurd (show false=true from fx) Bool.false_ne_true
 | str a =>
  obtain⟨t',rfl⟩:=ry
  cases x with
  | non=>cases rx;exact SeqAt.EqAt.str_none a t'
  | bl b=>cases rx;exact SeqAt.EqAt.str_bool a t' b
  | int b=>obtain⟨t,rfl⟩:=rx;exact SeqAt.EqAt.str_int a t' b t
  | str b=>obtain⟨t,rfl⟩:=rx;exact SeqAt.EqAt.str_str a t' b t
  | _=>exact absurd (show false=true from fx) Bool.false_ne_true
 | _=>exact absurd (show false=true from fy) Bool.false_ne_true
def IA(x:V)(u:Value):Bool:=match u with
 | .none=>HK .non x
 | .bool b=>HK (.bl b) x
 | .int i _=>HK (.int i) x
 | .str z _=>HK (.str z) x
 | _=>false
theorem cF{x y:V}{u:Value}(r:RelV y u)(f:GJ y=true):IA x u=HK y x:=by
 cases y with
 | non=>cases r;rfl
 | bl b=>cases r;rfl
 | int i=>obtain⟨t,rfl⟩:=r;rfl
 | str z=>obtain⟨t,rfl⟩:=r;rfl
 | _=>exact absurd (show false=true from f) Bool.false_ne_true
theorem S0{x:V}:∀ {xs:List V} {us:List Value},Vals xs us->xs.all GJ=true->us.any (IA x)=xs.any λy=>HK y x
 | _,_,.nil,_=>rfl
 | y::xs,u::us,.cons r t,f=>by
  rw[List.all_cons,Bool.and_eq_true]at f
  rw[List.any_cons,List.any_cons,cF r f.1,S0 t f.2]
theorem S4{A:Around}{s:Shared}{x:V}{v:Value}(rx:RelV x v)(fx:GJ x=true):∀ {xs:List V} {us:List Value},Vals xs us->xs.all GJ=true->∀ u∈us,SeqAt.EqAt A s u v (IA x u)
 | _,_,.nil,_=>λu hu=>by cases hu
 | y::xs,u::us,.cons r t,f=>λu' hu=>by
  rw[List.all_cons,Bool.and_eq_true]at f
  rcases List.mem_cons.mp hu with rfl | hu
  ·rw[cF r f.1];exact vR r rx f.1 fx
  ·exact S4 rx fx t f.2 u' hu
def J4(x:V)(xs:List V):Bool:=xs.any λy=>HK y x
def cG(K:W.Frag)(neg:Bool):R2:=λx y H Q=>∃ p xs,y=.ref p/\(SqL K H p xs\/SqT K H p xs)/\GJ x=true/\xs.all GJ=true/\Q (.bl (if neg then !J4 x xs else J4 x xs)) H
theorem vS:OpR X (compareOp .In) (cG X.K false):=by
 intro AA s σ H x y v u Q I rx ry h
 obtain⟨p,xs,rfl,hq,fx,fs,q⟩:=h
 cases ry
 rcases hq with hq | hq
 ·obtain⟨its,r,pl,hz⟩:=I.list hq
  refine SeqAt.in_listAt (IA x) pl.isList (λw hw=>S4 rx fx r fs w (by simpa using hw)) ⟨.bl _,H,I,rfl,?_⟩
  rw[show its.toArray.any (IA x)=its.any (IA x) by simp,S0 r fs]
  exact q
 ·obtain⟨its,r,pl,hz⟩:=I.tuple hq
  refine SeqAt.in_tupleAt (IA x) pl (λw hw=>S4 rx fx r fs w (by simpa using hw)) ⟨.bl _,H,I,rfl,?_⟩
  rw[show its.toArray.any (IA x)=its.any (IA x) by simp,S0 r fs]
  exact q
theorem CallR.or{f:Value}{r r':List V->Hp->VK->Prop}(h:CallR X f r)(h':CallR X f r'):CallR X f (λxs H Q=>r xs H Q\/r' xs H Q):=by
 intro AA s σ H xs us Q I rs q
 rcases q with q | q
 ·exact h AA s σ H xs us Q I rs q
 ·exact h' AA s σ H xs us Q I rs q
theorem vT:CallR X (.type "list") (λxs H Q=>∃ p ys,xs=[.ref p]/\(SqL X.K H p ys\/SqT X.K H p ys)/\∀ l,H l=none->Q (.ref l) (upd H l (.lst ys))):=by
 intro AA s σ H xs us Q I r h
 obtain⟨p,ys,rfl,hq,q⟩:=h
 obtain⟨u,rfl,rx⟩:=FY r
 cases rx
 have fin:∀ (its:List Value),Vals ys its->ys.length<=sizeLine->∀ (h':Heap) (c':Nat),(∀ b o',s.heap.get? b=some o'->h'.get? b=some o') →
   h'.get? s.heap.objs.size=some { cls:=.type "list",dict:=none,data:=.seq its.toArray c',slots:= #[] }->EP X AA σ Q (.ref s.heap.objs.size) { s with heap:=h' }:=λits r' hz h' c' kp e =>
  ⟨.ref s.heap.objs.size,_,I.laid (t':=s.toks) kp (Nat.le_refl _) (show ObjOk X.prog X.w _ h' _ (.lst ys)from⟨hz,its,c',r',e⟩),rfl,q _ (I.hok.fresh (Nat.le_refl _))⟩
 rcases hq with hq | hq
 ·obtain⟨its,r',pl,hz⟩:=I.list hq
  have B0:=r'.length
  obtain⟨o,ho,hc,n,hd⟩:=pl.isList
  exact call_list_seq p (.inl rfl) ho hc hd (λh' c' kp e=>fin its r' hz h' c' kp e) (by simp only[List.size_toArray]<;>omega)
 ·obtain⟨its,r',pl,hz⟩:=I.tuple hq
  have B0:=r'.length
  obtain⟨o,ho,hc,n,hd⟩:=pl
  exact call_list_seq p (.inr rfl) ho hc hd (λh' c' kp e=>fin its r' hz h' c' kp e) (by simp only[List.size_toArray]<;>omega)
theorem vU:CallR X (.type "tuple") (λxs H Q=>∃ p ys,xs=[.ref p]/\((SqL X.K H p ys/\∀ l,H l=none->Q (.ref l) (upd H l (.tup ys)))\/(SqT X.K H p ys/\Q (.ref p) H))):=by
 intro AA s σ H xs us Q I r h
 obtain⟨p,ys,rfl,h⟩:=h
 obtain⟨u,rfl,rx⟩:=FY r
 cases rx
 rcases h with⟨hq,q⟩ | ⟨hq,q⟩
 ·obtain⟨its,r',pl,hz⟩:=I.list hq
  have B0:=r'.length
  refine call_tuple_list pl.isList (λh' kp=> ?_) (by simp only[List.size_toArray]<;>omega)
  have I1:Inv X AA σ H { s with heap:=h' }:=I.kept (t':=s.toks) kp
  have I2:Inv X AA σ (upd H h'.objs.size (.tup ys)) { s with heap:=h'.push { cls:=.type "tuple",data:=.seq its.toArray } } :=
   I1.laid (t':=s.toks) (λb o e=>Heap.get?_push_of_some _ e) (Nat.le_refl _) (show ObjOk X.prog X.w _ _ _ (.tup ys)from⟨hz,its,r',IsTup.new _ _⟩)
  exact⟨.ref h'.objs.size,_,I2,rfl,q _ (I1.hok.fresh (Nat.le_refl _))⟩
 ·obtain⟨its,r',pl,hz⟩:=I.tuple hq
  exact call_tuple_same pl ⟨.ref p,H,I,rfl,q⟩
def ND(K:W.Frag)(T:String)(x:V)(H:Hp):Prop:=match x with
 | .str _=>T="str"
 | .int _=>T="int"
 | .ref p=>(T="list"/\∃ xs,SqL K H p xs)\/(T="tuple"/\∃ o,K.lookup p=some o/\o.cls=.type "tuple"/\o.dict=none) ∨
   (T="dict"/\((∃ AD,H p=some (.dK AD))\/∃ AD,H p=some (.dT AD)))\/(T="set"/\∃ S n,H p=some (.set S n))
 | _=>False
theorem vV{AA:List (Addr × Obj)}{σ:St}{H:Hp}{s:Shared}{T:String}{x:V}{v:Value}(I:Inv X AA σ H s)(r:RelV x v)(ty:ND X.K T x H) :
  s.TypeIs v T/\∀ a,v=.ref a->∃ ob,s.heap.get? a=some ob/\ob.dict=none:=by
 cases x with
 | str z =>
  obtain⟨t,rfl⟩:=r
  cases (show T="str" from ty)
  exact⟨typeIs_str s z t,λ_ e=>nomatch e⟩
 | int i =>
  obtain⟨t,rfl⟩:=r
  cases (show T="int" from ty)
  exact⟨typeIs_int s i t,λ_ e=>nomatch e⟩
 | ref p =>
  cases r
  rcases ty with⟨rfl,xs,hq⟩ | ⟨rfl,o,hk,hc,hd⟩ | ⟨rfl,hk⟩ | ⟨rfl,S,n,hk⟩
  ·obtain⟨its,_,pl,_⟩:=I.list hq
   refine⟨pl.isList.typeIs,λa e=> ?_⟩
   cases e
   obtain⟨o,n,e,c,hd,_⟩:=pl
   exact⟨o,e,hd⟩
  ·refine⟨⟨o,I.kIn p o hk,hc⟩,λa e=> ?_⟩
   cases e
   exact⟨o,I.kIn _ o hk,hd⟩
  ·have z:∃ o,s.heap.get? p=some o/\o.ExactDict:=by
    rcases hk with⟨AD,hk⟩ | ⟨AD,hk⟩
    ·obtain⟨_,_,_,_,o,_,_,e,ex,_⟩:=I.hok p _ hk
     exact⟨o,e,ex⟩
    ·obtain⟨_,_,_,_,o,_,_,e,ex,_⟩:=I.hok p _ hk
     exact⟨o,e,ex⟩
   obtain⟨o,e,ex⟩:=z
   refine⟨⟨o,e,ex.1⟩,λa e2=> ?_⟩
   cases e2
   exact⟨o,e,ex.2.1⟩
  ·obtain⟨o,_,_,_,e,ex,_⟩:=I.hok p _ hk
   refine⟨⟨o,e,ex.1⟩,λa e2=> ?_⟩
   cases e2
   exact⟨o,e,ex.2.1⟩
 | _=>exact False.elim ty
def vW(K:W.Frag)(T:String)(r:V->List V->Hp->VK->Prop)(to:TE):TE:=λσ H Q=>to σ H λx H1=>ND K T x H1/\r x [] H1 Q
def FZ(K:W.Frag)(T:String)(r:V->List V->Hp->VK->Prop)(to:TE)(t:TA):TE:=λσ H Q=>to σ H λx H1=>ND K T x H1/\t σ H1 λxs H2=>r x xs H2 Q
variable{o e:Expr}{es:List Expr}{to:TE}{t:TA}{name:Str}{CU DL:Pos}{T id:String}{r:V->List V->Hp->VK->Prop}
theorem G4(pa:PlainAttrs T)(slot:Slot T name id)(hty:typeOf (.builtin id)=pure (.type "method_descriptor"))(hm:MtR X id r)(ho:PE X o to)(ha:PA X (e::es) t)
  (hbase:attributeBase o name X.env (eval o X.env)=eval o X.env:=by rfl)
  (hfew:((backTo DL (starEach (e::es) X.env)).all (λx=> !x.1) && (backToKw DL (keywordEach [] X.env)).all (λx=>x.1.isSome)
   && decide ((e::es).length+([]:List Keyword).length+(if([]:List Keyword).isEmpty then 0 else 1)<30))=true:=by rfl)
  (hline:(CU.endLine == DL.line)=true:=by rfl) (hs:starEach (e::es) X.env=(false,eval e X.env)::starEach es X.env:=by rfl) (hplain:(backTo DL (starEach es X.env)).any (·.1)=false:=by rfl) :
  PE X (.Call (.Attribute o name CU) (e::es) [] DL) (FZ X.K T r to t):=by
 intro AA s σ H Q I h
 refine wpAny_Call_method_late hbase hfew hline rfl (AT (ho AA s σ H _ I h) λv s1 hzz=> ?_)
 obtain⟨x,H1,I1,r1,ty,q1⟩:=hzz
 obtain⟨h1,h2⟩:=vV I1 r1 ty
 refine⟨T,id,pa,slot,hty,h1,h2,?_⟩
 have hA:=ha DL AA s1 σ H1 _ I1 q1
 rw[hs]at hA ⊢
 refine Calls.callWith_builtin (by show(false || (backTo DL (starEach es X.env)).any (·.1))=false;rw[hplain]<;>rfl) (Calls.evalArgs_plain ?_)
 exact AT hA λus s2 ⟨vs,H2,I2,r2,q2⟩=>hm AA s2 σ H2 x vs v us Q I2 r1 r2 q2
end
end L2
namespace L2
def vX(X:Cx)(id:String)(r:V->List V->Hp->VK->Prop):Prop :=
 ∀ (AA:List (Addr × Obj)) (s:Shared) (σ:St) (H:Hp) (x:V) (xs:List V) (v:Value) (us:List Value) (Q:VK),Inv X AA σ H s->RelV x v->Vals xs us->r x xs H Q →
  wpAny (model X.prog X.w) X.A (call (.builtin id) (v::us)) (EP X AA σ Q) X.xe s
theorem Vals.one:∀ {x:V} {us:List Value},Vals [x] us->∃ u,us=[u]/\RelV x u
 | _,_,.cons r .nil=>⟨_,rfl,r⟩
theorem Vals.two:∀ {x y:V} {us:List Value},Vals [x,y] us->∃ u v,us=[u,v]/\RelV x u/\RelV y v
 | _,_,_,h=>by
  cases h with | cons r h=>cases h with | cons q h=>cases h;exact⟨_,_,rfl,r,q⟩
theorem Vals.zero:∀ {us:List Value},Vals [] us->us=[]
 | _,.nil=>rfl
theorem Vals.dropLast{xs:List V}{us:List Value}(h:Vals xs us):Vals xs.dropLast us.dropLast:=by
 induction h with
 | nil=>exact .nil
 | cons r t ih =>
  cases t with
  | nil=>exact .nil
  | cons q t'=>exact .cons r ih
theorem Vals.eraseIdx:∀ {xs:List V} {us:List Value} (i:Nat),Vals xs us->Vals (xs.eraseIdx i) (us.eraseIdx i)
 | _,_,_,.nil=>.nil
 | _,_,0,.cons _ t=>t
 | _,_,i+1,.cons r t=>.cons r (Vals.eraseIdx i t)
theorem Vals.reverse{xs:List V}{us:List Value}(h:Vals xs us):Vals xs.reverse us.reverse:=by
 induction h with
 | nil=>exact .nil
 | cons r t ih=>rw[List.reverse_cons,List.reverse_cons];exact Vals.append ih (.cons r .nil)
theorem Vals.rep{xs:List V}{us:List Value}(h:Vals xs us):∀ k:Nat,Vals (List.replicate k xs).flatten (List.replicate k us).flatten
 | 0=>.nil
 | k+1=>by
  rw[List.replicate_succ,List.replicate_succ,List.flatten_cons,List.flatten_cons]
  exact Vals.append h (Vals.rep h k)
theorem PN(its:List Value):∀ (k:Nat) (BW:List Value),
  List.foldl (λx1 x2=>x1++x2) BW.toArray (List.replicate k its.toArray)=(BW++(List.replicate k its).flatten).toArray
 | 0,BW=>by simp
 | k+1,BW=>by
  have e:BW.toArray++its.toArray=(BW++its).toArray:=by simp
  have e2:(BW++its)++(List.replicate k its).flatten=BW++(List.replicate (k+1) its).flatten:=by
   rw[List.replicate_succ,List.flatten_cons,List.append_assoc]
  rw[<-e2,<-PN its k (BW++its),<-e,List.replicate_succ,List.foldl_cons]
section
variable{X:Cx}{AA:List (Addr × Obj)}{σ:St}{H:Hp}{s:Shared}{l b:Addr}{xs ys zs:List V}
theorem Inv.lset{its its':List Value}{n:Nat}{f:Array Value->Array Value}{t':Nat}(I:Inv X AA σ H s)(hH:H l=some (.lst xs))
  (e:s.heap.get? l=some { cls:=.type "list",data:=.seq its.toArray n }) (hf:f its.toArray=its'.toArray) (hv:Vals ys its') (hz:ys.length<=sizeLine) :
  Inv X AA σ (upd H l (.lst ys)) { s with heap:=s.heap.update l (Obj.mapSeq f),toks:=t' }:=by
 have q:=PySem.IsL.update e f
 rw[hf]at q
 refine I.write (x:=l) (e:=l) (by rw[hH];exact trivial) (.inl rfl) (λb' u hb hu=>(Heap.get?_update_other s.heap (Obj.mapSeq f) (Ne.symm hb)).trans hu) ⟨_,q⟩ ?_
 exact⟨hz,its',_,hv,q⟩
theorem Inv.lnew{its:List Value}{t':Nat}(I:Inv X AA σ H s)(hv:Vals ys its)(hz:ys.length<=sizeLine) :
  Inv X AA σ (upd H s.heap.objs.size (.lst ys)) { s with heap:=s.heap.push { cls:=.type "list",data:=.seq its.toArray },toks:=t' } :=
 I.laid (λ_ _ q=>Heap.get?_push_of_some _ q) (Nat.le_refl _) ⟨hz,its,0,hv,Heap.get?_push_size _ rfl⟩
theorem Inv.fresh(I:Inv X AA σ H s):H s.heap.objs.size=none:=I.hok.fresh (Nat.le_refl _)
theorem Inv.lstM(I:Inv X AA σ H s)(hH:H l=some (.lst xs)):xs.length<=sizeLine/\∃ (its:List Value) (n:Nat),Vals xs its/\xs.length=its.length/\s.heap.get? l=some { cls:=.type "list",data:=.seq its.toArray n }:=by
 obtain⟨z,its,n,r,e⟩:=I.hok l _ hH
 exact⟨z,its,n,r,r.length,e⟩
theorem vY{n:Nat}(h:n<=sizeLine):Builtin.List.listTooLong n=false:=by
 unfold Builtin.List.listTooLong
 exact decide_eq_false (by omega)
end
section
variable{X:Cx}
def cH:V->List V->Hp->VK->Prop:=λx vs H Q=>∃ l xs y,x=.ref l/\vs=[y]/\H l=some (.lst xs)/\xs.length<sizeLine/\Q .non (upd H l (.lst (xs++[y])))
theorem K9:vX X "list.append" cH:=by
 intro AA s σ H x vs v us Q I rx rv h
 obtain⟨l,xs,y,rfl,rfl,hH,hz,q⟩:=h
 cases rx
 obtain⟨u,rfl,ru⟩:=rv.one
 obtain⟨z,its,n,r,hl,e⟩:=I.lstM hH
 refine call_meets F.slot_list_append ⟨_,e,rfl⟩ F.entry_list_append (F.args_list_append_2 _ _) (PySem.list_append l its.toArray n u (by rw[List.size_toArray];omega)) ⟨e,?_⟩
 refine⟨.non,_,I.lset (its':=its++[u]) hH e (by simp) (r.append (.cons ru .nil)) ?_,rfl,q⟩
 rw[List.length_append,List.length_singleton]
 omega
def PP:R2:=λx y H Q=>∃ l b xs zs,x=.ref l/\y=.ref b/\H l=some (.lst xs)/\H b=some (.lst zs)/\xs.length+zs.length<=sizeLine/\∀ p,H p=none->Q (.ref p) (upd H p (.lst (xs++zs)))
theorem vZ:OpR X (binaryOp .Add) PP:=by
 intro AA s σ H x y v u Q I rx ry h
 obtain⟨l,b,xs,zs,rfl,rfl,hH,hB,hz,q⟩:=h
 cases rx
 cases ry
 obtain⟨z,its,n,r,hl,e⟩:=I.lstM hH
 obtain⟨z2,OY,n2,r2,GW,e2⟩:=I.lstM hB
 refine PySem.P.add_list e e2 ?_ (by rw[List.size_toArray,List.size_toArray];omega)
 have ea:its.toArray++OY.toArray=(its++OY).toArray:=by simp
 rw[ea]
 exact⟨.ref _,_,I.lnew (t':=s.toks) (r.append r2) (by rw[List.length_append];omega),rfl,q _ I.fresh⟩
def S5:R2:=λx y H Q=>∃ l k xs,x=.ref l/\y=.int k/\H l=some (.lst xs)/\ -(2 ^ 63)<=k/\k<2 ^ 63/\xs.length * k.toNat<=sizeLine ∧
 ∀ p,H p=none->Q (.ref p) (upd H p (.lst (List.replicate k.toNat xs).flatten))
theorem cI{α :Type}(xs:List α)(k:Nat):(List.replicate k xs).flatten.length=k * xs.length:=by
 induction k with
 | zero=>simp
 | succ k ih=>rw[List.replicate_succ,List.flatten_cons,List.length_append,ih,Nat.succ_mul,Nat.add_comm]
theorem v0:OpR X (binaryOp .Mult) S5:=by
 intro AA s σ H x y v u Q I rx ry h
 obtain⟨l,k,xs,rfl,rfl,hH,h1,h2,hz,q⟩:=h
 cases rx
 obtain⟨t,rfl⟩:=ry
 obtain⟨z,its,n,r,hl,e⟩:=I.lstM hH
 have B0:its.toArray.size * k.toNat<=sizeLine:=by rw[List.size_toArray,<-hl];exact hz
 have hcap:¬ its.toArray.size * k.toNat >(2 ^ 63 - 1) / 8:=by
  have:(sizeLine:Nat)<=(2 ^ 63 - 1) / 8:=by decide
  omega
 have hfit:¬ (!Builtin.List.listFitsIndex k)=true:=by
  rw[fitsIndex_both h1 h2]
  exact Bool.false_ne_true
 have hlong:¬ Builtin.List.listTooLong (its.toArray.size * k.toNat)=true:=by
  rw[vY B0]
  exact Bool.false_ne_true
 have hnew:List.foldl (λx1 x2=>x1++x2) #[] (List.replicate (if its.toArray.isEmpty=true then 0 else k.toNat) its.toArray)=(List.replicate k.toNat its).flatten.toArray:=by
  have f0:∀ m:Nat,List.foldl (λx1 x2=>x1++x2) #[] (List.replicate m its.toArray)=(List.replicate m its).flatten.toArray:=λm=>by
   have:=PN its m []
   rw[List.nil_append]at this
   exact this
  rw[f0]
  cases its with
  | nil=>simp
  | cons a r'=>rw[if_neg (by simp)]
 refine wpAny_binaryOp_repeat_ref (T:="list") (U:="int") (by decide) ⟨_,e,rfl⟩ (λs'=>typeIs_int s' k t) noFill_list_mul F.fills_int_mul F.slot_int_rmul repeat_list F.slot_int_index.lookup
  (call_meets F.slot_int_rmul (typeIs_int s k t) F.entry_int_rmul (F.args_int_rmul_2 _ _) (int___rmul___int_list k t l its.toArray n)
   ⟨e,rfl,⟨_,e,rfl⟩,call_meets F.slot_list_mul ⟨_,e,rfl⟩ F.entry_list_mul (F.args_list_mul_2 _ _) (AutoListH.list___mul___list_int_3 l its.toArray n k t hfit hcap hlong) ⟨e,?_⟩⟩)
 rw[hnew]
 exact⟨.ref _,_,I.lnew (t':=s.toks) (r.rep k.toNat) (by rw[cI,Nat.mul_comm];exact hz),rfl,q _ I.fresh⟩
end
section
variable{prog:Program}{w:World}{A:Around}{E:Value->Shared->Prop}{s:Shared}
set_option maxRecDepth 100000 in
end
section
variable{X:Cx}
end
end L2
namespace L2
section
variable{κ :Type}[DecidableEq κ]
def BO(AD:List (κ × V))(k: κ):Option V:=(AD.find? λkv=>decide (kv.1=k)).map (·.2)
def C3(AD:List (κ × V))(k: κ)(v:V):List (κ × V) :=
 if(AD.any λkv=>decide (kv.1=k))=true then AD.map (λkv=>if kv.1=k then(kv.1,v)else kv)else AD++[(k,v)]
def cJ(AD:List (κ × V))(k: κ):List (κ × V):=AD.filter λkv=>decide (kv.1≠k)
theorem S6{k: κ}:BO ([]:List (κ × V)) k=none:=rfl
theorem G5{p: κ × V}{r:List (κ × V)}{k: κ}(e:p.1=k):BO (p::r) k=some p.2:=by simp[BO,List.find?_cons,e]
theorem G6{p: κ × V}{r:List (κ × V)}{k: κ}(e:¬ p.1=k):BO (p::r) k=BO r k:=by simp[BO,List.find?_cons,e]
theorem LA(k: κ):∀ AD:List (κ × V),(AD.any λkv=>decide (kv.1=k))=(BO AD k).isSome
 | []=>rfl
 | p::r=>by
  rw[List.any_cons]
  by_cases e:p.1=k
  ·simp only[G5 e,decide_eq_true e,Bool.true_or,Option.isSome_some]
  ·rw[G6 e,decide_eq_false e,Bool.false_or];exact LA k r
theorem cK(k j: κ)(y:V):∀ AD:List (κ × V),BO (AD.map λkv=>if kv.1=k then(kv.1,y)else kv) j=(BO AD j).map λx=>if j=k then y else x
 | []=>rfl
 | p::r=>by
  have ih:=cK k j y r
  rw[List.map_cons]
  by_cases h:p.1=k
  ·rw[if_pos h]
   by_cases e:p.1=j
   ·rw[G5 (p:=(p.1,y)) e,G5 e,Option.map_some,if_pos (e.symm.trans h)]
   ·rw[G6 (p:=(p.1,y)) e,G6 e,ih]
  ·rw[if_neg h]
   by_cases e:p.1=j
   ·rw[G5 (p:=p) e,G5 e,Option.map_some,if_neg (λz=>h (e.trans z))]
   ·rw[G6 (p:=p) e,G6 e,ih]
theorem cM(k j: κ)(y:V):∀ AD:List (κ × V),BO AD k=none->BO (AD++[(k,y)]) j=if j=k then some y else BO AD j
 | [],_=>by
  by_cases e:k=j
  ·rw[if_pos e.symm];exact G5 (p:=(k,y)) e
  ·rw[if_neg (λz=>e z.symm)];exact G6 (p:=(k,y)) e
 | p::r,hn=>by
  rw[List.cons_append]
  have hk:¬ p.1=k:=λz=>by rw[G5 z]at hn;cases hn
  rw[G6 hk]at hn
  have ih:=cM k j y r hn
  by_cases e:p.1=j
  ·rw[G5 e,G5 e,if_neg (λz=>hk (e.trans z))]
  ·rw[G6 e,G6 e,ih]
theorem NE(AD:List (κ × V))(k j: κ)(y:V):BO (C3 AD k y) j=if j=k then some y else BO AD j:=by
 unfold C3
 by_cases a:(AD.any λkv=>decide (kv.1=k))=true
 ·rw[if_pos a,cK]
  rw[LA]at a
  by_cases e:j=k
  ·obtain⟨x,hx⟩:=Option.isSome_iff_exists.mp a
   rw[if_pos e,e,hx,Option.map_some,if_pos rfl]
  ·rw[if_neg e]
   cases BO AD j with
   | none=>rfl
   | some x=>rw[Option.map_some,if_neg e]
 ·rw[if_neg a]
  refine cM k j y AD ?_
  rw[LA]at a
  cases q:BO AD k with
  | none=>rfl
  | some x=>rw[q]at a;exact(a rfl).elim
theorem LB(AD:List (κ × V))(k: κ)(v:V):(C3 AD k v).length<=AD.length+1:=by
 unfold C3
 split
 ·rw[List.length_map];omega
 ·rw[List.length_append,List.length_cons,List.length_nil];omega
theorem cN{AD:List (κ × V)}{k: κ}(v:V)(h:BO AD k=none):C3 AD k v=AD++[(k,v)]:=by
 unfold C3
 rw[LA,h]
 exact if_neg (by decide)
theorem RelO.isSome_eq{o:Option V}{u:Option Value}(r:RelO o u):o.isSome=u.isSome:=by
 cases o with
 | none=>cases u with
  | none=>rfl
  | some _=>exact(show False from r).elim
 | some _=>cases u with
  | none=>exact(show False from r).elim
  | some _=>rfl
theorem RelO.getD{o:Option V}{u:Option Value}{d:V}{d':Value}(r:RelO o u)(rd:RelV d d'):RelV (o.getD d) (u.getD d'):=by
 cases o with
 | none=>cases u with
  | none=>exact rd
  | some _=>exact(show False from r).elim
 | some _=>cases u with
  | none=>exact(show False from r).elim
  | some _=>exact r
theorem KV.val{AD:List (κ × V)}{vs:List (κ × Value)}(r:KV AD vs)(k: κ):RelO (BO AD k) (valueAt vs k):=by
 unfold KV at r
 induction r with
 | nil=>exact True.intro
 | @cons p q ps qs h t ih =>
  obtain⟨h1,h2⟩:=h
  by_cases e:p.1=k
  ·have e':q.1=k:=h1.symm.trans e
   have b:valueAt (q::qs) k=some q.2:=by simp[valueAt,List.find?_cons,e']
   rw[G5 e,b];exact h2
  ·have e':¬ q.1=k:=λz=>e (h1.trans z)
   have b:valueAt (q::qs) k=valueAt qs k:=by simp[valueAt,List.find?_cons,e']
   rw[G6 e,b];exact ih
theorem KV.any{AD:List (κ × V)}{vs:List (κ × Value)}(r:KV AD vs)(k: κ):(AD.any λkv=>decide (kv.1=k))=vs.any λkv=>decide (kv.1=k):=by
 unfold KV at r
 induction r with
 | nil=>rfl
 | cons h t ih=>rw[List.any_cons,List.any_cons,ih,h.1]
theorem KV.repl{AD:List (κ × V)}{vs:List (κ × Value)}(r:KV AD vs)(k: κ){y:V}{u:Value}(ry:RelV y u) :
  KV (AD.map λkv=>if kv.1=k then(kv.1,y)else kv) (vs.map λkv=>if kv.1=k then(kv.1,u)else kv):=by
 unfold KV at r ⊢
 induction r with
 | nil=>exact .nil
 | @cons p q ps qs h t ih =>
  rw[List.map_cons,List.map_cons]
  refine .cons ?_ ih
  obtain⟨h1,h2⟩:=h
  by_cases e:p.1=k
  ·rw[if_pos e,if_pos (h1.symm.trans e)];exact⟨h1,ry⟩
  ·rw[if_neg e,if_neg (λz=>e (h1.trans z))];exact⟨h1,h2⟩
theorem KV.put{AD:List (κ × V)}{vs:List (κ × Value)}(r:KV AD vs)(k: κ){y:V}{u:Value}(ry:RelV y u):KV (C3 AD k y) (stored vs k u):=by
 unfold C3 stored
 rw[r.any k]
 by_cases e:(vs.any λkv=>decide (kv.1=k))=true
 ·rw[if_pos e,if_pos e];exact r.repl k ry
 ·rw[if_neg e,if_neg e];exact Paired.snoc r ⟨rfl,ry⟩
theorem KV.drop{AD:List (κ × V)}{vs:List (κ × Value)}(r:KV AD vs)(k: κ):KV (cJ AD k) (without vs k):=by
 unfold KV at r ⊢
 unfold cJ without
 induction r with
 | nil=>exact .nil
 | @cons p q ps qs h t ih =>
  obtain⟨h1,h2⟩:=h
  rw[List.filter_cons,List.filter_cons]
  by_cases e:p.1=k
  ·have a:¬ decide (p.1≠k)=true:=by simp[e]
   have b:¬ decide (q.1≠k)=true:=by simp[h1.symm.trans e]
   rw[if_neg a,if_neg b];exact ih
  ·have e':¬ q.1=k:=λz=>e (h1.trans z)
   have a:decide (p.1≠k)=true:=by simp[e]
   have b:decide (q.1≠k)=true:=by simp[e']
   rw[if_pos a,if_pos b];exact .cons ⟨h1,h2⟩ ih
theorem KV.keys{AD:List (κ × V)}{vs:List (κ × Value)}(r:KV AD vs):AD.map (·.1)=vs.map (·.1):=by
 unfold KV at r
 induction r with
 | nil=>rfl
 | cons h t ih=>rw[List.map_cons,List.map_cons,ih,h.1]
theorem KV.length{AD:List (κ × V)}{vs:List (κ × Value)}(r:KV AD vs):AD.length=vs.length:=Paired.length r
end
theorem LC{P:Program}{w:World}{k:AO}{u:Value}(r:RelV (kV k) u):(EX P w).is k u=true:=by
 cases k with
 | inl i=>obtain⟨t,e⟩:=(show ∃ t,u=Value.int i t from r);subst e;exact sU P w i t
 | inr x=>obtain⟨t,e⟩:=(show ∃ t,u=Value.str x t from r);subst e;exact sV P w x t
theorem cO{P:Program}{w:World}:∀ {ks:List AO} {us:List Value},Vals (ks.map kV) us->ItemsAre (EX P w) ks us
 | [],_,r=>by rw[List.map_nil]at r;cases r;exact .nil
 | k::ks,_,r=>by
  rw[List.map_cons]at r
  cases r with
  | cons h t=>exact .cons (LC h) (cO t)
abbrev KT(H:Hp):List (List AO × V)->List (List AO × Addr × Value)->Prop:=Paired λp q=>p.1=q.1/\H q.2.1=some (.tup (p.1.map kV))/\RelV p.2 q.2.2
theorem KT.val{H:Hp}{AD:List (List AO × V)}{xs:List (List AO × Addr × Value)}(r:KT H AD xs)(k:List AO):RelO (BO AD k) ((atKey xs k).map (·.2)):=by
 induction r with
 | nil=>exact True.intro
 | @cons p q ps qs h t ih =>
  obtain⟨h1,_,h2⟩:=h
  by_cases e:p.1=k
  ·have e':q.1=k:=h1.symm.trans e
   have b:atKey (q::qs) k=some q.2:=by simp[atKey,List.find?_cons,e']
   rw[G5 e,b];exact h2
  ·have e':¬ q.1=k:=λz=>e (h1.trans z)
   have b:atKey (q::qs) k=atKey qs k:=by simp[atKey,List.find?_cons,e']
   rw[G6 e,b];exact ih
theorem KT.repl{H:Hp}{AD:List (List AO × V)}{xs:List (List AO × Addr × Value)}(r:KT H AD xs)(k:List AO){y:V}{u:Value}(ry:RelV y u) :
  KT H (AD.map λkv=>if kv.1=k then(kv.1,y)else kv) (xs.map (putAt k u)):=by
 induction r with
 | nil=>exact .nil
 | @cons p q ps qs h t ih =>
  rw[List.map_cons,List.map_cons]
  refine .cons ?_ ih
  obtain⟨h1,h2,h3⟩:=h
  unfold putAt
  by_cases e:p.1=k
  ·rw[if_pos e,if_pos (h1.symm.trans e)];exact⟨h1,h2,ry⟩
  ·rw[if_neg e,if_neg (λz=>e (h1.trans z))];exact⟨h1,h2,h3⟩
theorem KT.put{H:Hp}{AD:List (List AO × V)}{xs:List (List AO × Addr × Value)}(r:KT H AD xs)(k:List AO){b:Addr}{y:V}{u:Value}(hb:H b=some (.tup (k.map kV)))(ry:RelV y u) :
  KT H (C3 AD k y) (storedH xs k b u):=by
 have e:(AD.any λkv=>decide (kv.1=k))=(atKey xs k).isSome:=by
  rw[LA,(r.val k).isSome_eq,Option.isSome_map]
 unfold C3 storedH
 rw[e]
 by_cases q:(atKey xs k).isSome=true
 ·rw[if_pos q,if_pos q];exact r.repl k ry
 ·rw[if_neg q,if_neg q];exact Paired.snoc r ⟨rfl,hb,ry⟩
theorem KT.keeps{H H':Hp}{AD:List (List AO × V)}{xs:List (List AO × Addr × Value)}(r:KT H AD xs)(ht:∀ b ys,H b=some (.tup ys)->H' b=some (.tup ys)):KT H' AD xs :=
 Paired.mapP r λ_ _ z=>⟨z.1,ht _ _ z.2.1,z.2.2⟩
section
variable{P:Program}{w:World}{H:Hp}{h:Heap}{a:Addr}
theorem cP{u:HO}(ok:HOk P w H h)(e:Rd H a u):ObjOk P w H h a u:=e.ok ok
theorem IZ{AD:List (AO × V)}(ok:HOk P w H h)(e:Rd H a (.dK AD)):AD.length<=sizeLine/\(a == sysModules)=false/\∃ vs,KV AD vs/\h.DictOf (EX P w) a vs :=
 show ObjOk P w H h a (.dK AD)from cP ok e
theorem v2{AD:List (AO × V)}(ok:HOk P w H h)(e:H a=some (.dK AD)):AD.length<=sizeLine/\(a == sysModules)=false/\∃ vs,KV AD vs/\h.DictOf (EX P w) a vs:=IZ ok (.inl e)
theorem LD{ks:List AO}(ok:HOk P w H h)(e:H a=some (.tup (ks.map kV))):(tupleKind (EX P w)).is h ks a:=by
 obtain⟨_,its,r,o,h1,h2,n,h3⟩:=(show ObjOk P w H h a (.tup (ks.map kV))from ok a _ e)
 exact⟨o,its.toArray,n,h1,h2,h3,by simpa using cO r⟩
theorem J5{AD:List (List AO × V)}(ok:HOk P w H h)(e:Rd H a (.dT AD)):AD.length<=sizeLine/\(a == sysModules)=false ∧
  ∃ xs,KT H AD xs/\h.DictOfH (tupleKind (EX P w)) a xs:=by
 obtain⟨z,y,xs,r,o,es,ep,h1,h2,h3,h4,h5⟩:=(show ObjOk P w H h a (.dT AD)from cP ok e)
 refine⟨z,y,xs,r,o,es,ep,h1,h2,h3,h4,λx hx=> ?_,h5⟩
 have all:∀ {l:List (List AO × V)} {m:List (List AO × Addr × Value)},KT H l m->∀ x∈m,(tupleKind (EX P w)).is h x.1 x.2.1:=by
  intro l m q
  induction q with
  | nil=>intro x hx;exact nomatch hx
  | @cons p q ps qs hq t ih =>
   intro x hx
   rcases List.mem_cons.mp hx with e | hx
   ·subst e
    exact LD ok (by rw[<-hq.1];exact hq.2.1)
   ·exact ih x hx
 exact all r x hx
theorem v3{AD:List (List AO × V)}(ok:HOk P w H h)(e:H a=some (.dT AD)):AD.length<=sizeLine/\(a == sysModules)=false ∧
  ∃ xs,KT H AD xs/\h.DictOfH (tupleKind (EX P w)) a xs:=J5 ok (.inl e)
end
def DGet(H:Hp)(a:Addr)(y:V)(r:Option V):Prop :=
 (∃ AD k,Rd H a (.dK AD)/\y=kV k/\r=BO AD k)\/∃ AD k b,Rd H a (.dT AD)/\y=.ref b/\H b=some (.tup (k.map kV))/\r=BO AD k
def DPut(H:Hp)(a:Addr)(y v:V)(H':Hp):Prop :=
 (∃ AD k,H a=some (.dK AD)/\y=kV k/\AD.length<sizeLine/\H'=upd H a (.dK (C3 AD k v))) ∨
 ∃ AD k b,H a=some (.dT AD)/\y=.ref b/\H b=some (.tup (k.map kV))/\AD.length<sizeLine/\H'=upd H a (.dT (C3 AD k v))
theorem DGet.k{H:Hp}{a:Addr}{AD:List (AO × V)}{k:AO}(e:H a=some (.dK AD)):DGet H a (kV k) (BO AD k):=.inl ⟨AD,k,.inl e,rfl,rfl⟩
theorem DGet.t{H:Hp}{a b:Addr}{AD:List (List AO × V)}{k:List AO}(e:H a=some (.dT AD))(eb:H b=some (.tup (k.map kV))):DGet H a (.ref b) (BO AD k):=.inr ⟨AD,k,b,.inl e,rfl,eb,rfl⟩
theorem DPut.k{H:Hp}{a:Addr}{AD:List (AO × V)}{k:AO}{v:V}(e:H a=some (.dK AD))(hl:AD.length<sizeLine):DPut H a (kV k) v (upd H a (.dK (C3 AD k v))):=.inl ⟨AD,k,e,rfl,hl,rfl⟩
theorem DPut.t{H:Hp}{a b:Addr}{AD:List (List AO × V)}{k:List AO}{v:V}(e:H a=some (.dT AD))(eb:H b=some (.tup (k.map kV)))(hl:AD.length<sizeLine) :
  DPut H a (.ref b) v (upd H a (.dT (C3 AD k v))):=.inr ⟨AD,k,b,e,rfl,eb,hl,rfl⟩
section
variable{X:Cx}{AA:List (Addr × Obj)}{σ:St}{H:Hp}{s:Shared}{a:Addr}{y v:V}{u r:Value}{o:Option V}{A:Around}{E:Value->Shared->Prop}
theorem Inv.big(I:Inv X AA σ H s):sysModules<s.heap.objs.size:=by
 have h:mainGlobals<s.heap.objs.size:=(I.mod.glob.keeps I.bk).lt
 exact Nat.lt_trans (by decide) h
theorem v4{Q:Value->Shared->Prop}(hu:A.units+1<cLine)(I:Inv X AA σ H s)(g:DGet H a y (some v))(ry:RelV y u)(h:∀ w' s',Inv X AA σ H s'->RelV v w'->Q w' s') :
  wpAny (model X.prog X.w) A (getItem (.ref a) u) Q E s:=by
 rcases g with⟨AD,k,e,ey,l⟩ | ⟨AD,k,b,e,ey,eb,l⟩
 ·subst ey
  obtain⟨z,hd,vs,rel,dd⟩:=IZ I.hok e
  obtain⟨w',hw,rw'⟩:=RelO.some_of (v:=v) (o:=valueAt vs k) (by rw[l];exact rel.val k)
  exact wpAny_getItem_of (LC ry) dd.mapOf hw (h w' _ (I.tok _) rw')
 ·subst ey
  cases (show u=Value.ref b from ry)
  obtain⟨z,hd,xs,rel,dd⟩:=J5 I.hok e
  obtain⟨w',hw,rw'⟩:=RelO.some_of (v:=v) (o:=(atKey xs k).map (·.2)) (by rw[l];exact rel.val k)
  obtain⟨p,hp,JX⟩:=Option.map_eq_some_iff.mp hw
  refine wpAny_getItem_heap (tupleKind_room_in1 hu) (LD I.hok eb) dd hp ?_
  rw[JX]
  exact h w' _ (I.tok _) rw'
theorem v5{Q:Value->Shared->Prop}(hu:A.units+1<cLine)(I:Inv X AA σ H s)(g:DGet H a y o)(ry:RelV y u)(h:∀ s',Inv X AA σ H s'->Q (.bool o.isSome) s') :
  wpAny (model X.prog X.w) A (compareOp .In u (.ref a)) Q E s:=by
 rcases g with⟨AD,k,e,ey,l⟩ | ⟨AD,k,b,e,ey,eb,l⟩
 ·subst ey
  obtain⟨z,hd,vs,rel,dd⟩:=IZ I.hok e
  refine wpAny_in_of (LC ry) hd dd.mapOf ?_
  rw[<-(rel.val k).isSome_eq,<-l]
  exact h _ (I.tok _)
 ·subst ey
  cases (show u=Value.ref b from ry)
  obtain⟨z,hd,xs,rel,dd⟩:=J5 I.hok e
  refine wpAny_in_heap (tupleKind_room_in1 hu) (LD I.hok eb) hd dd ?_
  have q:=(rel.val k).isSome_eq
  rw[Option.isSome_map]at q
  rw[<-q,<-l]
  exact h _ (I.tok _)
theorem v6{Q:Value->Shared->Prop}(hu:A.units+1<cLine)(I:Inv X AA σ H s)(g:DGet H a y o)(ry:RelV y u)(h:∀ s',Inv X AA σ H s'->Q (.bool (!o.isSome)) s') :
  wpAny (model X.prog X.w) A (compareOp .NotIn u (.ref a)) Q E s:=by
 rcases g with⟨AD,k,e,ey,l⟩ | ⟨AD,k,b,e,ey,eb,l⟩
 ·subst ey
  obtain⟨z,hd,vs,rel,dd⟩:=IZ I.hok e
  refine wpAny_notIn_of (LC ry) hd dd.mapOf ?_
  rw[<-(rel.val k).isSome_eq,<-l]
  exact h _ (I.tok _)
 ·subst ey
  cases (show u=Value.ref b from ry)
  obtain⟨z,hd,xs,rel,dd⟩:=J5 I.hok e
  refine wpAny_notIn_heap (tupleKind_room_in1 hu) (LD I.hok eb) hd dd ?_
  have q:=(rel.val k).isSome_eq
  rw[Option.isSome_map]at q
  rw[<-q,<-l]
  exact h _ (I.tok _)
theorem cQ{h':Heap}{t':Nat}{ob:HO}(I:Inv X AA σ H s)(mu:MY (H a))(hs:Heap.SameBut a s.heap h')(he:∃ q,h'.get? a=some q)(new:ObjOk X.prog X.w (upd H a ob) h' a ob) :
  Inv X AA σ (upd H a ob) { s with heap:=h',toks:=t' } :=
 I.write (x:=a) (e:=a) mu (.inl rfl) (λb q hb z=>(hs.2 b hb).trans z) he new
theorem cS{P:Program}{w:World}{H':Hp}{h':Heap}{AD:List (AO × V)}{vs:List (AO × Value)}(z:AD.length<=sizeLine)(hd:(a == sysModules)=false)(rel:KV AD vs)(dd:h'.DictOf (EX P w) a vs) :
  ObjOk P w H' h' a (.dK AD):=⟨z,hd,vs,rel,dd⟩
theorem v7{H':Hp}{Q:Unit->Shared->Prop}(hu:A.units+1<cLine)(I:Inv X AA σ H s)(g:DPut H a y v H')(ry:RelV y u)(rv:RelV v r)(h:∀ s',Inv X AA σ H' s'->Q () s') :
  wpAny (model X.prog X.w) A (setItem (.ref a) u r) Q E s:=by
 rcases g with⟨AD,k,e,ey,l,eH⟩ | ⟨AD,k,b,e,ey,eb,l,eH⟩
 ·subst ey eH
  obtain⟨z,hd,vs,rel,dd⟩:=v2 I.hok e
  have hz:vs.length<=sizeLine:=by rw[<-rel.length];exact z
  have hl:(C3 AD k v).length<=sizeLine:=by have:=LB AD k v;omega
  refine wpAny_setItem_pairs (hsz:=hz) (LC ry) dd λh' dd' hs=>h _ ?_
  have he:∃ q,h'.get? a=some q:=let ⟨q,_,_,hq,_⟩:=dd';⟨q,hq⟩
  exact cQ I (by rw[e];exact True.intro) hs he (cS hl hd (rel.put k rv) dd')
 ·subst ey eH
  cases (show u=Value.ref b from ry)
  obtain⟨z,hd,xs,rel,dd⟩:=v3 I.hok e
  have hz:xs.length<=sizeLine:=by rw[<-Paired.length rel];exact z
  have hl:(C3 AD k v).length<=sizeLine:=by have:=LB AD k v;omega
  refine wpAny_setItem_heap (hsz:=hz) (tupleKind_room_in1 hu) (LD I.hok eb) dd λh' dd' hs=>h _ ?_
  obtain⟨q,es,ep,hq,h2,h3,h4,_,h5⟩:=dd'
  refine cQ I (by rw[e];exact True.intro) hs ⟨q,hq⟩ ⟨hl,hd,_,(rel.put k eb rv).keeps λc ys ec=> ?_,q,es,ep,hq,h2,h3,h4,h5⟩
  rw[AK (DF ec e (λz=>nomatch z))]
  exact ec
end
section
variable{X:Cx}{AA:List (Addr × Obj)}{σ:St}{H:Hp}{s:Shared}{a:Addr}{AD:List (AO × V)}{k:AO}{u:Value}{A:Around}{E:Value->Shared->Prop}
end
def cT(i:Expr):Prop:=∀ ov iv,subscripted i false ov iv=operate [ov,iv] (getItem ov iv)
theorem v8{prog:Program}{w:World}{A:Around}{E:Value->Shared->Prop}{s:Shared}{env:Env}{value slice:Expr}{pos:Pos}{T id:String}{Q:Value->Shared->Prop}
  (hl:typeLookup (.type T) "__getitem__"=pure (some (.builtin id))) (hs:cT slice)
  (h:wpAny (model prog w) A (eval value env) (λo s₁=>wpAny (model prog w) A (eval slice env) (λi s₂=>s₂.TypeIs o T/\wpAny (model prog w) A (getItem o i) Q E s₂) E s₁) E s) :
  wpAny (model prog w) A (eval (.Subscript value slice pos) env) Q E s:=by
 refine Subscript_ (wpAny_mono h (λo s₁ h₁=>wpAny_mono h₁ (λi s₂ h₂=> ?_) λ_ _ x=>x) λ_ _ x=>x)
 obtain⟨hT,h₂⟩:=h₂
 unfold subscriptTail
 refine wpAny_bind ?_
 rw[getitemInPython_of_ne hT.not_modules]
 refine wpAny_bind (wpAny_specialOf hT hl ?_)
 have fin:wpAny (model prog w) A (subscripted slice false o i) (λr s₃=>wpAny (model prog w) A (letTemporaryGo value o r >>= λ_=>pure r) Q E s₃) E s₂:=by
  rw[hs o i]
  exact wpAny_operating (wpAny_mono h₂ (λr s₃ h₃=>wpAny_bind (wpAny_letTemporaryGo (wpAny_pure h₃))) λ_ _ x=>x)
 first
  | exact wpAny_pure (wpAny_bind fin)
  | exact wpAny_bind (wpAny_pure (wpAny_bind fin))
  | exact wpAny_bind fin
theorem v9{X:Cx}{AA:List (Addr × Obj)}{σ:St}{H:Hp}{s:Shared}{a:Addr}{y:V}{o:Option V}(I:Inv X AA σ H s)(g:DGet H a y o):s.TypeIs (.ref a) "dict":=by
 rcases g with⟨AD,k,e,_,_⟩ | ⟨AD,k,b,e,_,_,_⟩
 ·obtain⟨_,_,vs,_,dd⟩:=IZ I.hok e
  exact dd.typeIs
 ·obtain⟨_,_,xs,_,dd⟩:=J5 I.hok e
  exact dd.typeIs
def S7(td ty:TE):TE:=λσ H Q=>td σ H λx H1=>ty σ H1 λy H2=>∃ a v,x=.ref a/\DGet H2 a y (some v)/\Q v H2
def NF(ty td:TE):TE:=λσ H Q=>ty σ H λy H1=>td σ H1 λx H2=>∃ a o,x=.ref a/\DGet H2 a y o/\Q (.bl o.isSome) H2
def JA(ty td:TE):TE:=λσ H Q=>ty σ H λy H1=>td σ H1 λx H2=>∃ a o,x=.ref a/\DGet H2 a y o/\Q (.bl (!o.isSome)) H2
def J6(td ty tv:TE):TS:=λD σ H=>tv σ H λv H1=>td σ H1 λx H2=>ty σ H2 λy H3=>∃ a H4,x=.ref a/\DPut H3 a y v H4/\D.nx σ H4
section
variable{X:Cx}{o i e value:Expr}{pos pos' tpos:Pos}{td ty tv:TE}
theorem wA(hu:X.A.units+1<cLine)(ho:PE X o td)(hi:PE X i ty)(hs:cT i):PE X (.Subscript o i pos) (S7 td ty):=by
 intro AA s σ H Q I h
 refine v8 PySem.F.slot_dict_getitem.lookup hs (AT (ho AA s σ H _ I h) λu s1 ⟨x,H1,I1,rx,q1⟩=>AT (hi AA s1 σ H1 _ I1 q1) λiv s2 hzz=> ?_)
 obtain⟨y,H2,I2,ry,a,v,ex,g,q2⟩:=hzz
 subst ex
 obtain rfl:u=Value.ref a:=rx
 exact⟨v9 I2 g,v4 hu I2 g ry λw' s3 I3 rw'=>⟨v,H2,I3,rw',q2⟩⟩
theorem S8(hu:X.A.units+1<cLine)(hi:PE X i ty)(ho:PE X o td):PC X .In i o (NF ty td):=by
 intro AA s σ H Q I h
 refine AT (hi AA s σ H _ I h) λiv s1 ⟨y,H1,I1,ry,q1⟩=>AT (ho AA s1 σ H1 _ I1 q1) λu s2 hzz=> ?_
 obtain⟨x,H2,I2,rx,a,ov,ex,g,q2⟩:=hzz
 subst ex
 obtain rfl:u=Value.ref a:=rx
 exact v5 hu I2 g ry λs3 I3=>⟨.bl ov.isSome,H2,I3,rfl,q2⟩
theorem LE(hu:X.A.units+1<cLine)(hi:PE X i ty)(ho:PE X o td):PC X .NotIn i o (JA ty td):=by
 intro AA s σ H Q I h
 refine AT (hi AA s σ H _ I h) λiv s1 ⟨y,H1,I1,ry,q1⟩=>AT (ho AA s1 σ H1 _ I1 q1) λu s2 hzz=> ?_
 obtain⟨x,H2,I2,rx,a,ov,ex,g,q2⟩:=hzz
 subst ex
 obtain rfl:u=Value.ref a:=rx
 exact v6 hu I2 g ry λs3 I3=>⟨.bl (!ov.isSome),H2,I3,rfl,q2⟩
theorem NG(hu:X.A.units+1<cLine)(ho:PE X o td)(hi:PE X i ty)(hv:PE X value tv)(hs:swapsWith value (some (.Subscript o i pos')) pos.line X.env=pure false) :
  PS X (.Assign [.Subscript o i pos'] value pos) (J6 td ty tv):=by
 intro AA s σ H D I h
 refine wpAny_Assign_Subscript (AT (hv AA s σ H _ I h) λr s1 ⟨v,H1,I1,rv,q1⟩=>AT (ho AA s1 σ H1 _ I1 q1) λu s2 ⟨x,H2,I2,rx,q2⟩=>AT (hi AA s2 σ H2 _ I2 q2) λiv s3 hzz=> ?_) hs
 obtain⟨y,H3,I3,ry,a,H4,ex,g,q3⟩:=hzz
 subst ex
 obtain rfl:u=Value.ref a:=rx
 exact v7 hu I3 g ry rv λs4 I4=>⟨σ,H4,I4,q3⟩
end
theorem wB{P:Program}{w:World}{H:Hp}(h:Heap)(hb:sysModules<h.objs.size):ObjOk P w H (h.push { cls:=.type "dict",data:=.dict #[] }) h.objs.size (.dK []) :=
 ⟨Nat.zero_le _,beq_eq_false_iff_ne.mpr (Ne.symm (Nat.ne_of_lt hb)),[],.nil,Heap.DictOf.new h⟩
theorem wC{P:Program}{w:World}{H:Hp}(h:Heap)(hb:sysModules<h.objs.size):ObjOk P w H (h.push { cls:=.type "dict",data:=.dict #[] }) h.objs.size (.dT []) :=
 ⟨Nat.zero_le _,beq_eq_false_iff_ne.mpr (Ne.symm (Nat.ne_of_lt hb)),[],.nil,_,#[],0,Heap.get?_push_size _ rfl,⟨rfl,rfl,rfl⟩,rfl,rfl,List.nodup_nil⟩
def LF:TE:=λ_ H Q=>∀ p,H p=none->Q (.ref p) (upd H p (.dK []))
def S9:TE:=λ_ H Q=>∀ p,H p=none->Q (.ref p) (upd H p (.dT []))
section
variable{X:Cx}{pos:Pos}
theorem PQ:PE X (.Dict [] [] pos) LF:=λAA s σ H Q I h =>
 wpAny_Dict_empty ⟨.ref s.heap.objs.size,_,I.laid (a:=s.heap.objs.size) (o:=.dK []) (t':=s.toks) (λ_ _ q=>Heap.get?_push_of_some _ q) (Nat.le_refl _) (wB s.heap I.big),rfl,h _ (I.hok.fresh (Nat.le_refl _))⟩
theorem wD:PE X (.Dict [] [] pos) S9:=λAA s σ H Q I h =>
 wpAny_Dict_empty ⟨.ref s.heap.objs.size,_,I.laid (a:=s.heap.objs.size) (o:=.dT []) (t':=s.toks) (λ_ _ q=>Heap.get?_push_of_some _ q) (Nat.le_refl _) (wC s.heap I.big),rfl,h _ (I.hok.fresh (Nat.le_refl _))⟩
end
def LG:List (TE × TE)->St->Hp->(List (V × V)->Hp->Prop)->Prop
 | [],_,H,Q=>Q [] H
 | (tk,tv)::r,σ,H,Q=>tk σ H λx H1=>tv σ H1 λy H2=>LG r σ H2 λps H3=>Q ((x,y)::ps) H3
def wE(AD more:List (AO × V)):List (AO × V):=more.foldl (λBW kv=>C3 BW kv.1 kv.2) AD
theorem KV.merge:∀ {more:List (AO × V)} {rs:List (AO × Value)} {AD:List (AO × V)} {vs:List (AO × Value)},KV more rs->KV AD vs->KV (wE AD more) (merged vs rs):=by
 intro more rs AD vs r
 unfold KV at r
 induction r generalizing AD vs with
 | nil=>intro q;exact q
 | @cons p q ps qs h t ih =>
  intro r0
  have e:KV (C3 AD p.1 p.2) (stored vs q.1 q.2):=by
   have:=r0.put p.1 h.2
   rw[<-h.1];exact this
  exact ih e
structure M1(X:Cx)(o:Expr)(m:Str)(CU:Pos)(e:Expr)(DL:Pos):Prop where
 base:attributeBase o m X.env (eval o X.env)=eval o X.env
 few:((backTo DL (starEach [e] X.env)).all (λx=> !x.1) && (backToKw DL (keywordEach [] X.env)).all (λx=>x.1.isSome)
  && decide (([e]:List Expr).length+([]:List Keyword).length+(if([]:List Keyword).isEmpty then 0 else 1)<30))=true
 line:(CU.endLine == DL.line)=true
 trees:backTo DL (starEach [e] X.env)=[(false,eval e X.env)]
structure M2(X:Cx)(o:Expr)(m:Str)(CU:Pos)(e f:Expr)(DL:Pos):Prop where
 base:attributeBase o m X.env (eval o X.env)=eval o X.env
 few:((backTo DL (starEach [e,f] X.env)).all (λx=> !x.1) && (backToKw DL (keywordEach [] X.env)).all (λx=>x.1.isSome)
  && decide (([e,f]:List Expr).length+([]:List Keyword).length+(if([]:List Keyword).isEmpty then 0 else 1)<30))=true
 line:(CU.endLine == DL.line)=true
 trees:backTo DL (starEach [e,f] X.env)=[(false,eval e X.env),(false,eval f X.env)]
def NH(H:Hp)(a:Addr):Prop:=(∃ AD,Rd H a (.dK AD))\/∃ AD,Rd H a (.dT AD)
theorem wF{X:Cx}{AA:List (Addr × Obj)}{σ:St}{H:Hp}{s:Shared}{a:Addr}(I:Inv X AA σ H s)(d:NH H a) :
  s.TypeIs (.ref a) "dict"/\(∀ b,Value.ref a=.ref b->∃ ob,s.heap.get? b=some ob/\ob.dict=none)/\(a == sysModules)=false:=by
 rcases d with⟨AD,e⟩ | ⟨AD,e⟩
 ·obtain⟨_,hd,vs,_,dd⟩:=IZ I.hok e
  refine⟨dd.typeIs,λb q=> ?_,hd⟩
  cases q
  obtain⟨ob,_,_,h1,h2,_⟩:=dd
  exact⟨ob,h1,h2.2.1⟩
 ·obtain⟨_,hd,xs,_,dd⟩:=J5 I.hok e
  refine⟨dd.typeIs,λb q=> ?_,hd⟩
  cases q
  obtain⟨ob,_,_,h1,h2,_⟩:=dd
  exact⟨ob,h1,h2.2.1⟩
section
variable{X:Cx}{AA:List (Addr × Obj)}{σ:St}{H:Hp}{s:Shared}{a:Addr}{y d:V}{u r:Value}{o:Option V}{A:Around}{E:Value->Shared->Prop}
theorem wG{Q:Value->Shared->Prop}(hu:A.units+1<cLine)(I:Inv X AA σ H s)(g:DGet H a y o)(ry:RelV y u)(h:∀ w' s',Inv X AA σ H s'->RelV (o.getD .non) w'->Q w' s') :
  wpAny (model X.prog X.w) A (call (.builtin "dict.get") [.ref a,u]) Q E s:=by
 rcases g with⟨AD,k,e,ey,l⟩ | ⟨AD,k,b,e,ey,eb,l⟩
 ·subst ey
  obtain⟨z,hd,vs,rel,dd⟩:=IZ I.hok e
  refine call_meetsIn PySem.F.slot_dict_get dd.typeIs PySem.F.entry_dict_get (PySem.F.args_dict_get_2 _ _) (meets_dict_get (EX X.prog X.w) a (LC ry) hd) ⟨_,dd.mapOf,h _ _ (I.tok _) ?_⟩
  rw[l]
  exact(rel.val k).getD rfl
 ·subst ey
  cases (show u=Value.ref b from ry)
  obtain⟨z,hd,xs,rel,dd⟩:=J5 I.hok e
  refine call_meetsIn PySem.F.slot_dict_get dd.typeIs PySem.F.entry_dict_get (PySem.F.args_dict_get_2 _ _) (meetsH_dict_get (tupleKind (EX X.prog X.w)) a b hd) ⟨tupleKind_room_in1 hu,k,xs,LD I.hok eb,dd,h _ _ (I.tok _) ?_⟩
  rw[l]
  exact(rel.val k).getD rfl
end
def TC(td ty:TE):TE:=λσ H Q=>td σ H λx H1=>∃ a,x=.ref a/\NH H1 a/\ty σ H1 λy H2=>∃ o,DGet H2 a y o/\Q (o.getD .non) H2
def wH(td ty tx:TE):TE:=λσ H Q=>td σ H λx H1=>∃ a,x=.ref a/\NH H1 a/\ty σ H1 λy H2=>tx σ H2 λz H3=>∃ o,DGet H3 a y o/\Q (o.getD z) H3
section
variable{X:Cx}{o e f:Expr}{CU DL:Pos}{td ty tx:TE}
theorem wI(hu:X.A.units+1<cLine)(ho:PE X o td)(he:PE X e ty)(m:M1 X o "get" CU e DL):PE X (.Call (.Attribute o "get" CU) [e] [] DL) (TC td ty):=by
 intro AA s σ H Q I h
 refine wpAny_Call_method m.base m.few m.line PySem.F.plainAttrs_dict PySem.F.slot_dict_get PySem.F.type_dict_get (AT (ho AA s σ H _ I h) λu s1 hzz=> ?_)
 obtain⟨x,H1,I1,rx,a,ex,d,q1⟩:=hzz
 subst ex
 obtain rfl:u=Value.ref a:=rx
 obtain⟨t1,t2,_⟩:=wF I1 d
 refine⟨t1,t2,?_⟩
 rw[m.trees]
 refine Calls.callWith_builtin rfl (Calls.evalArgs_plain (Calls.spliced_cons (AT (he AA s1 σ H1 _ I1 q1) λiv s2 ⟨y,H2,I2,ry,ov,g,q2⟩=>Calls.spliced_nil ?_)))
 exact wG hu I2 g ry λw' s3 I3 rw'=>⟨_,H2,I3,rw',q2⟩
end
section
variable{X:Cx}{AA:List (Addr × Obj)}{σ:St}{H:Hp}{s:Shared}{a:Addr}{AD:List (AO × V)}{A:Around}{E:Value->Shared->Prop}
theorem wJ{Q:Value->Shared->Prop}(I:Inv X AA σ H s)(e:Rd H a (.dK AD))(h:∀ p s',H p=none->Inv X AA σ (upd H p (.dK AD)) s'->Q (.ref p) s'):wpAny (model X.prog X.w) A (call (.type "dict") [.ref a]) Q E s:=by
 obtain⟨z,hd,vs,rel,dd⟩:=IZ I.hok e
 refine kt_call_dict hd dd (by rw[<-rel.length];exact z) λh' dd' hs=> ?_
 refine h _ _ (I.hok.fresh (Nat.le_refl _)) (I.laid (a:=s.heap.objs.size) (o:=.dK AD) (t':=s.toks) (λb q hq=> ?_) (Nat.le_refl _) (cS z (beq_eq_false_iff_ne.mpr (Ne.symm (Nat.ne_of_lt I.big))) rel dd'))
 exact(hs.2 b (Nat.ne_of_lt (Heap.lt_size hq))).trans (Heap.get?_push_of_some _ hq)
end
section
variable{X:Cx}{AA:List (Addr × Obj)}{σ:St}{H:Hp}{s:Shared}{a:Addr}{y:V}{u:Value}{A:Around}{E:Value->Shared->Prop}
end
end L2
namespace Att
open PySem PySem.W PySem.Calls PyProof.Rows
theorem wK{P:Params}{h:Heap}:∀ (ns:List Int) (vs:List Value),WellAll P h vs (ns.map WData.int)->IntsAre vs ns:=by
 intro ns
 induction ns with
 | nil =>
  intro vs w
  rw[List.map_nil]at w
  cases w
  exact .nil
 | cons n ns ih =>
  intro vs w
  rw[List.map_cons]at w
  cases w with
  | cons a b =>
   cases a
   exact .cons _ _ (ih _ b)
theorem wL{l:OpenLaw}{n:Nat}(hn:l.most=some n){P:Params}{h:Heap}{args:List WData}{vals:List Value}
  (hpre:l.row.toRowW.claim.pre args=true) (hwl:WellAll P h vals args) :
  ∃ a vs ns,vals=[Value.ref a]/\args=[WData.list (ns.map WData.int)]/\h.get? a=some { cls:=.type "list",data:=.seq vs.toArray }/\IntsAre vs ns/\ns.length<=n:=by
 have hsh:WShape.hasAll [] args [.list .int]=true:=(pre_splitW hpre).1
 have hc:l.pre.holds [] { args:=args }=true:=(pre_splitW hpre).2
 obtain⟨d,r,rfl,h1,h2⟩:=hasAllW_cons hsh
 obtain rfl:=hasAllW_nil h2
 obtain⟨xs,rfl,h3⟩:=hasW_list h1
 obtain⟨ns,rfl⟩:=items_int h3
 have B0:ns.length<=n:=by
  unfold OpenLaw.pre at hc
  have h4:(WTm.not (.lt (.lit (.int (n:Int))) (.len (.arg 0)))).holds [] { args:=[.list (ns.map .int)] }=true:=by
   have h4:=(holds_andW hc).1
   rw[hn]at h4
   exact h4
  have h5:=condW_of h4 (w_not (w_lt w_lit (w_len_list (w_arg rfl))))
  rw[List.length_map]at h5
  refine Nat.le_of_not_lt λq=> ?_
  have q':(n:Int)<((ns.length:Nat):Int):=by omega
  first
   | (rw[decide_eq_true q']at h5;exact absurd h5 (by decide))
   | (simp at h5;omega)
 cases hwl with
 | cons w1 w2 =>
  cases w2
  cases w1 with
  | list ho hall=>exact⟨_,_,ns,rfl,rfl,ho,wK ns _ hall,B0⟩
theorem wM(l:OpenLaw)(args:List WData):l.row.toRowW.claim.post args (.bool true) args=true :=
 postW_of (r:=l.row.toRowW) (X:=(true == true))
  (show WShape.has [] (.bool true) .bool=true by first | rfl | decide | simp[WShape.has,WShape.arms,WShape.armsAll])
  (show(WTm.eq .res (.lit (.bool true))).value [] { args:=args,res:=some (.bool true),after:=args }=some (.bool (true == true))from w_eq_bool (w_res rfl) w_lit) rfl
theorem attach_call{l:OpenLaw}{n:Nat}{q:Program}{loose:List Str}{XP:(Str->Option Value)->Heap->Prop}{YP:World->Heap->Prop}{d:DefRec}
  (hn:l.most=some n) (hdf:d.params.defaults=[])
  (call:∀ (w:World) (s₀ s₁:Shared) (mg mb:Str->Option Value) (fa:Addr) (o:Obj) (pm cd doc:Value) (a:Addr) (vs:List Value) (ns:List Int),
   Ground q loose [] XP w s₀ mg mb s₁.heap->YP w s₁.heap →
   s₁.heap.get? fa=some o->o.data=.func (docDef d.name d.params d.body d.scope pm cd doc)->s₁.heap.CodeRec cd d.name->mg d.name=some (.ref fa) →
   s₁.heap.get? a=some { cls:=.type "list",data:=.seq vs.toArray }->IntsAre vs ns->ns.length<=n->s₁.gens= #[] →
   codeAny (model l.prog w) callerA (.call (.ref fa) ⟨[.ref a],[]⟩) (λr s'=>r=.ok (.ret (.bool true))/\OldK s₁.heap s'.heap/\s'.os=s₁.os/\AllBare s'.gens) s₁) :
  WalkO q loose XP YP l.row.toRowW d [] (λf vs=>PySem.call f vs):=by
 intro w s₀ s₁ mg mb G Y fa o pm cd doc dV kV ho hd GY hD hmg hg args vals as hpre hlay hrd hwl hlo
 obtain rfl:dV=.none:=Dflts.none hD hdf
 obtain rfl:kV=.none:=Dflts.noKw hD
 obtain⟨a,vs,ns,rfl,rfl,hobj,hints,B0⟩:=wL hn hpre hwl
 refine enter_call (codeAny_mono (call w s₀ s₁ mg mb fa o pm cd doc a vs ns G Y ho (fd_plain hd) GY hmg hobj hints B0 hg) λr s' hq=> ?_)
 obtain⟨rfl,h2,h3,h4⟩:=hq
 exact⟨.inl ⟨.bool true,.bool true,[],rfl,λ_=>rfl,.bool true,wM l _,λ_=>⟨List.Pairwise.nil,λ_ hm=>(nomatch hm)⟩⟩,h2,h3,h4⟩
section
variable{prog:Program}{w:World}{A:Around}{E:Value->Shared->Prop}{s:Shared}{K:Frag}
def zi8(h:Heap)(L d:Addr):List (Addr × Obj):=(List.range h.objs.size).filterMap λa=>if a=L\/a=d then none else(h.get? a).map λo=>(a,o)
end
end Att
namespace L2
theorem TD:∀ {vs:List Value} {ns:List Int},IntsAre vs ns->Vals (ns.map V.int) vs
 | _,_,.nil=>.nil
 | _,_,.cons n t h=>.cons ⟨t,rfl⟩ (TD h)
def TF(H:Hp):Prop:=∀ b,H b=none\/∃ o xs,H b=some (.frz o (.lst xs))
theorem wN {P:Program} {w:World} {K:W.Frag} {mg mb:Str->Option Value} {CX:FL} {k:Nat} {fa a:Addr} {fd:FuncData} {x:Str} {sp:Sp} {s₁:Shared} {vs:List Value} {ns:List Int}
    (KX:K.In s₁.heap) (hns:s₁.heap.Ns mainGlobals mg) (hb:s₁.heap.Ns builtinsNs mb) (hbb:∀ x:Str,x≠"__name__"->mb x=bootBuiltins x) (hlim:s₁.heap.NoLimit) (hg:s₁.gens= #[])
    (ha:s₁.heap.get? a=some { cls:=.type "list",data:=.seq vs.toArray }) (hi:IntsAre vs ns) (hl:ns.length<=sizeLine) (hr:Room k callerA)
    (F:∀ base:Heap,K.In base->base.Ns mainGlobals mg->FnOk P w K mg base CX k fa fd [x] sp) (hbind:∀ (s:Shared) (u:Value),BindsTo s fd ⟨[u],[]⟩ [(x,u)])
    (hsp:∀ H:Hp,TF H->SqL K H a (ns.map V.int)->sp [.ref a] H (λv _=>v=.bl true) λ_ _ _=>False)
    (hCX:∀ H e s',CX [] H s₁ (λ_ _ _=>False) e s'->False) :
    codeAny (model P w) callerA (.call (.ref fa) ⟨[.ref a],[]⟩) (λr s'=>r=.ok (.ret (.bool true))/\OldK s₁.heap s'.heap/\s'.os=s₁.os/\AllBare s'.gens) s₁:=by
  have rv:=TD hi
  have lenV:=hi.length
  have core:∀ H:Hp,TF H->SqL K H a (ns.map V.int)->HOk P w H s₁.heap->(∀ b,H b≠none->b=a)->(H a≠none->K.lookup a=none) →
      codeAny (model P w) callerA (.call (.ref fa) ⟨[.ref a],[]⟩) (λr s'=>r=.ok (.ret (.bool true))/\OldK s₁.heap s'.heap/\s'.os=s₁.os/\AllBare s'.gens) s₁:=by
    intro H hO hS hok hA hK
    have base_of:∀ {b:Addr} {o:Obj},s₁.heap.get? b=some o->H b=none->(HU s₁.heap H).get? b=some o:=λe n=>sX e n
    have noA:∀ {b:Addr} {o:Obj} {es:Array DictEntry} {ep:Nat},s₁.heap.get? b=some o->o.data=.dict es ep->H b=none:=λ{b o es ep} e d=>by
      cases q:H b with
      | none=>rfl
      | some u =>
        have e':b=a:=hA b (by rw[q];simp)
        subst e'
        rw[ha]at e;cases e
        have d':Data.seq vs.toArray _=Data.dict es ep:=d
        cases d'
    have nsK:∀ {b:Addr} {m:Str->Option Value},s₁.heap.Ns b m->(HU s₁.heap H).Ns b m:=λ{b m} ⟨o,es,ep,e,d,r⟩=>⟨o,es,ep,base_of e (noA e d),d,r⟩
    have hKb:K.In (HU s₁.heap H):=λb o e=>base_of (KX b o e) (by
      cases q:H b with
      | none=>rfl
      | some u =>
        have e':b=a:=hA b (by rw[q];simp)
        subst e'
        rw[hK (by rw[q];simp)]at e;cases e)
    have hM:Mod K mg (HU s₁.heap H):=⟨hKb,nsK hns,⟨mb,nsK hb,hbb⟩,let ⟨mc,h1,h2⟩:=hlim;⟨mc,nsK h1,h2⟩⟩
    have e0:Env0 P w K mg (HU s₁.heap H) callerA [] s₁ H:=⟨rfl,hM,λb o e=>sY e,Nat.le_of_eq (sW _ _),trivial,λb hb=>absurd (show b∈([]:List Addr)from hb) (by simp),hok,.of_eq hg⟩
    refine codeAny_mono ((F _ hKb (nsK hns)).run callerA [] s₁ H ⟨[.ref a],[]⟩ [.ref a] [.ref a] _ _ hr e0 (hbind s₁ (.ref a)) (.cons rfl .nil) (hsp H hO hS)) λr s' h=> ?_
    cases r with
    | error e=>exact(hCX H e s' h).elim
    | ok fl =>
      cases fl with
      | next=>exact False.elim h
      | brk=>exact False.elim h
      | cont=>exact False.elim h
      | ret u =>
        obtain⟨v,H',os,bare,un,hok',r',q⟩:=h
        have q':v=.bl true:=q
        subst q'
        obtain rfl:u=Value.bool true:=r'
        refine⟨rfl,OldK.of_keep λb o e=> ?_,os,bare⟩
        cases q:H b with
        | none=>exact un.keep b o e q (by intro z;exact absurd (show b∈([]:List Addr)from z) (by simp)) (by simp)
        | some u =>
          rcases hO b with z | ⟨ob,xs,z⟩
          ·rw[q]at z;cases z
          · have z2:=un.frzs b ob _ z
            obtain⟨e1,_⟩:=hok b _ z
            obtain⟨e2,_⟩:=hok' b _ z2
            rw[e]at e1;cases e1
            exact e2
  cases hk:K.lookup a with
  | some o =>
    have e:=KX a o hk
    rw[ha]at e
    cases e
    refine core (λ_=>none) (λ_=>.inl rfl) (.inr ⟨_,vs.toArray,_,hk,rfl,rfl,rfl,by rw[List.size_toArray,lenV];exact hl,by simpa using rv⟩) (λb u z=>by have z':(none:Option HO)=some u:=z;cases z') (λb z=>absurd rfl z) λz=>absurd rfl z
  | none =>
    refine core (λb=>if b=a then some (.frz { cls:=.type "list",data:=.seq vs.toArray } (.lst (ns.map V.int)))else none) (λb=> ?_) (.inl (.inr ⟨{ cls:=.type "list",data:=.seq vs.toArray },if_pos rfl⟩)) (λb u z=> ?_) (λb z=> ?_) λ_=>hk
    · by_cases hb:b=a
      ·exact .inr ⟨_,_,if_pos hb⟩
      ·exact .inl (if_neg hb)
    · by_cases hb:b=a
      · have z':=(if_pos hb).symm.trans z
        cases z'
        subst hb
        exact⟨ha,by rw[List.length_map];exact hl,vs,_,rv,ha⟩
      · have z':=(if_neg hb).symm.trans z
        cases z'
    · by_cases hb:b=a
      ·exact hb
      ·exact absurd (if_neg hb) z
end L2
namespace L2
abbrev KOf{K:W.Frag}{h:Heap}(_:K.In h):W.Frag:=K
theorem walk_of{l:W.OpenLaw}{n k:Nat}{q:Program}{loose:List Str}{XP:(Str->Option Value)->Heap->Prop}{YP:World->Heap->Prop}{d:DefRec}{K:Params->W.Frag}{CX:World->FL}{sp:World->Sp}{x:Str}
  (hn:l.most=some n) (hn2:n<=sizeLine) (hdf:d.params.defaults=[]) (hr:Room k callerA)
  (hY:∀ (w:World) (h:Heap),YP w h->(K w.params).In h)
  (F:∀ (w:World) (mg:Str->Option Value) (fa:Addr) (h:Heap),(K w.params).In h->h.Ns mainGlobals mg->mg d.name=some (.ref fa) →
   ∃ fd:FuncData,(∀ (s:Shared) (u:Value),BindsTo s fd ⟨[u],[]⟩ [(x,u)]) ∧
    ∀ base:Heap,(K w.params).In base->base.Ns mainGlobals mg->FnOk l.prog w (K w.params) mg base (CX w) k fa fd [x] (sp w))
  (hsp:∀ (w:World) (H:Hp) (a:Addr) (ns:List Int),ns.length<=n->TF H->SqL (K w.params) H a (ns.map V.int)->sp w [.ref a] H (λv _=>v=.bl true) λ_ _ _=>False)
  (hCX:∀ (w:World) (H:Hp) (s:Shared) (e:Value) (s':Shared),CX w [] H s (λ_ _ _=>False) e s'->False) :
  W.WalkO q loose XP YP l.row.toRowW d [] (λf vs=>PySem.call f vs):=by
 refine Att.attach_call hn hdf λw s₀ s₁ mg mb fa o pm cd doc a vs ns G Y ho hd GY hmg hobj hints B0 hg=> ?_
 have KX:=hY w _ Y
 obtain⟨fd,hb,hF⟩:=F w mg fa _ KX G.T.g hmg
 exact wN KX G.T.g G.T.b G.T.builtins G.T.nolimit hg hobj hints (Nat.le_trans B0 hn2) hr hF hb (λH hO hS=>hsp w H a ns B0 hO hS) λH e s'=>hCX w H s₁ e s'
end L2
namespace L2
def BT(s:Stmt)(j:Nat):Stmt:=match s with
 | .ClassDef _ _ _ body _ _ _ _ _ _ _=>body.getD j (.Pass ⟨0,0,0,0⟩)
 | _=>.Pass ⟨0,0,0,0⟩
def IB(s:Stmt):Arguments:=match s with
 | .FunctionDef _ a _ _ _ _ _ _ _ _=>a
 | _=>{ posonlyargs:=[],args:=[],vararg:=none,kwonlyargs:=[],kw_defaults:=[],kwarg:=none,defaults:=[] }
def F1(s:Stmt):List Stmt:=match s with
 | .FunctionDef _ _ b _ _ _ _ _ _ _=>b
 | _=>[]
def AW(s:Stmt):Scope:=match s with
 | .FunctionDef _ _ _ _ _ _ sc _ _ _=>sc
 | _=>{ kind:=.function,names:=[],isGenerator:=false,isCoroutine:=false }
abbrev cU:FL:=λ_ _ _ _ _ _=>False
abbrev E0:XK:=λ_ _ _=>False
structure Fun(K:W.Frag)(x qual:Str)(st:Stmt)(f:Addr)(fd:FuncData):Prop where
 ex:∃ (oc:Value) (od:Option Addr) (kV doc pm:Value) (an:Option Addr) (BP ct:Value) (osl:Array (Option Value)),
  fd=W.fnOf x qual (IB st) (F1 st) (AW st) .none kV doc pm an BP ct/\K.lookup f=some ⟨oc,od,.func fd,osl⟩/\W.codeIn K BP qual=true
 kp:W.keepIn K (.ref f)=true
section
variable{P:Program}{w:World}{K:W.Frag}{mg:Str->Option Value}{base:Heap}
theorem Fun.ok{x qual:Str}{st:Stmt}{f:Addr}{fd:FuncData}{N ps:List Str}{k:Nat}{sp:Sp}(F:Fun K x qual st f fd)(S:FnScope N ps (AW st))(len:∀ vs H Q E,sp vs H Q E->vs.length=ps.length)
  (O0:∀ (BP:Value) (A:Around) (outer:List Env) (s:Shared) (H:Hp) (vs:List V) (Q:VK) (E:XK),Room k (A.deeper (envOfC qual (AW st) s.heap.objs.size f BP))->sp vs H Q E →
   ∃ t,PSs (GI cU P w K mg base N qual (AW st) f BP A outer s H E).nox (F1 st) t/\t { nx:=λ_ H'=>Q .non H',rt:=Q } (A0 N vs) H):FnOk P w K mg base cU (k+1) f fd ps sp:=by
 obtain⟨oc,od,kV,doc,pm,an,BP,ct,osl,rfl,lk,GY⟩:=F.ex
 refine bV lk GY S len λA outer s H vs Q E hr hsp=> ?_
 obtain⟨t,h,q⟩:=O0 BP A outer s H vs Q E hr hsp
 exact⟨t,h.nox,q⟩
theorem Fun.binds{x qual:Str}{st:Stmt}{f:Addr}{fd:FuncData}{ps:List Str}(F:Fun K x qual st f fd)
  (h:∀ (kV doc pm:Value) (an:Option Addr) (BP ct:Value) (us:List Value),us.length=ps.length->bindArgs (W.fnOf x qual (IB st) (F1 st) (AW st) .none kV doc pm an BP ct) ⟨us,[]⟩=pure (ps.zip us)):Binds K fd ps []:=by
 obtain⟨oc,od,kV,doc,pm,an,BP,ct,osl,rfl,lk,GY⟩:=F.ex
 exact .all (h kV doc pm an BP ct)
theorem cV{x qual:Str}{st:Stmt}{f:Addr}{oc:Value}{od an:Option Addr}{osl:Array (Option Value)}{kV doc pm BP ct:Value}(l:K.lookup f=some ⟨oc,od,.func (W.fnOf x qual (IB st) (F1 st) (AW st) .none kV doc pm an BP ct),osl⟩)
  (c:W.codeIn K BP qual=true) (k:W.keepIn K (.ref f)=true):Fun K x qual st f (W.fnOf x qual (IB st) (F1 st) (AW st) .none kV doc pm an BP ct):=⟨⟨oc,od,kV,doc,pm,an,BP,ct,osl,rfl,l,c⟩,k⟩
end
theorem EY{A:Around}{k:Nat}(hr:Room k A):A.units+1<cLine:=Nat.lt_of_le_of_lt (Nat.add_le_add_left (by decide:1<=64) _) hr.units
section
variable{X:Cx}
end
def Same(H H':Hp):Prop:=∀ b o,H b=some o->H' b=some o
theorem Same.refl(H:Hp):Same H H:=λ_ _ h=>h
theorem Same.trans{H H1 H2:Hp}(a:Same H H1)(b:Same H1 H2):Same H H2:=λc o h=>b c o (a c o h)
theorem Same.free{H H':Hp}(e:Same H H'){l:Addr}(h:H' l=Option.none):H l=Option.none:=by
 cases q:H l with
 | none=>rfl
 | some o =>
  rw[e l o q]at h
  cases h
theorem Same.seq{K:W.Frag}{H H':Hp}{a:Addr}{xs:List V}(e:Same H H')(h:SqL K H a xs):SqL K H' a xs:=by
 rcases h with(h | ⟨o,h⟩) | h
 ·exact .inl (.inl (e _ _ h))
 ·exact .inl (.inr ⟨o,e _ _ h⟩)
 ·exact .inr h
section
variable{κ :Type}[DecidableEq κ]
theorem wO{AD:List (κ × V)}{k: κ}(h:BO AD k=none):¬ k∈AD.map (·.1):=by
 intro m
 obtain⟨p,hp,e⟩:=List.mem_map.mp m
 have q:(AD.any λkv=>decide (kv.1=k))=true:=List.any_eq_true.mpr ⟨p,hp,decide_eq_true e⟩
 rw[LA,h]at q
 exact absurd q (by simp)
theorem cW:∀ {l:List κ} {k: κ},l.Nodup->¬ k∈l->(l++[k]).Nodup
 | [],k,_,_=>by simp
 | a::r,k,h,hk=>by
  obtain⟨h1,h2⟩:=List.nodup_cons.mp h
  show(a::(r++[k])).Nodup
  refine List.nodup_cons.mpr ⟨λm=> ?_,cW h2 λm=>hk (List.mem_cons.mpr (Or.inr m))⟩
  rcases List.mem_append.mp m with q | q
  ·exact h1 q
  ·exact hk (List.mem_cons.mpr (Or.inl (List.mem_singleton.mp q).symm))
theorem wP{AD:List (κ × V)}{k: κ}(v:V)(hn:(AD.map (·.1)).Nodup)(h:BO AD k=none):((C3 AD k v).map (·.1)).Nodup:=by
 rw[cN v h,List.map_append]
 exact cW hn (wO h)
end
end L2
namespace L2
theorem TJ{env:Env}:∀ (names:List (Str × NameKind)) (cs:List (Str × Addr)),
  (∀ x∈names,x.2=.free->∃ c,env.cells.lookup x.1=some c)->(∀ x c,cs.lookup x=some c->env.cells.lookup x=some c) →
  ∃ cl,(forIn names cs λx r=>(if(x.2 == NameKind.free)=true then do let a ← cellOf env x.1;pure (ForInStep.yield ((x.1,a)::r))else pure (ForInStep.yield r):Sem (ForInStep (List (Str × Addr)))))=pure cl ∧
   (∀ x c,cl.lookup x=some c->env.cells.lookup x=some c)/\(∀ x,(cs.lookup x).isSome=true->(cl.lookup x).isSome=true) ∧
   ∀ x∈names,x.2=.free->(cl.lookup x.1).isSome=true
 | [],cs,_,h=>⟨cs,rfl,h,λ_ z=>z,λ_ z=>nomatch z⟩
 | (n,k)::r,cs,hf,h=>by
  by_cases hk:k=.free
  ·subst hk
   obtain⟨c,hc⟩:=hf (n,.free) List.mem_cons_self rfl
   obtain⟨cl,e,h1,h2,h3⟩:=TJ r ((n,c)::cs) (λx hx=>hf x (List.mem_cons_of_mem _ hx)) (λx c' hx=>by
    by_cases hxn:x=n
    ·subst hxn;simp only[List.lookup_cons,beq_self_eq_true]at hx;cases hx;exact hc
    ·have:(x == n)=false:=beq_eq_false_iff_ne.mpr hxn
     simp only[List.lookup_cons,this]at hx;exact h x c' hx)
   refine⟨cl,?_,h1,λx hx=>h2 x ?_,λx hx hxf=> ?_⟩
   ·rw[List.forIn_cons]
    show((if(NameKind.free == NameKind.free)=true then _ else _) >>= _)=_
    rw[if_pos (show(NameKind.free == NameKind.free)=true from rfl)]
    unfold cellOf
    show(((match env.cells.lookup n with | some a=>pure a | none=>_) >>= _) >>= _)=_
    rw[hc]
    exact e
   ·by_cases hxn:x=n
    ·subst hxn;simp
    ·have:(x == n)=false:=beq_eq_false_iff_ne.mpr hxn
     simp only[List.lookup_cons,this];exact hx
   ·rcases List.mem_cons.mp hx with rfl | hx
    ·exact h2 n (by simp)
    ·exact h3 x hx hxf
  ·obtain⟨cl,e,h1,h2,h3⟩:=TJ r cs (λx hx=>hf x (List.mem_cons_of_mem _ hx)) h
   refine⟨cl,?_,h1,h2,λx hx hxf=> ?_⟩
   ·rw[List.forIn_cons]
    have hb:(k == NameKind.free)=false:=by simpa using hk
    show((if(k == NameKind.free)=true then _ else _) >>= _)=_
    rw[if_neg (by simp[hb])]
    exact e
   ·rcases List.mem_cons.mp hx with rfl | hx
    ·exact absurd hxf hk
    ·exact h3 x hx hxf
theorem cX{env:Env}{scope:Scope}(hf:∀ x∈scope.names,x.2=.free->∃ c,env.cells.lookup x.1=some c) :
  ∃ cl,closureFor scope env=pure cl/\(∀ x c,cl.lookup x=some c->env.cells.lookup x=some c)/\∀ x∈scope.names,x.2=.free->(cl.lookup x.1).isSome=true:=by
 obtain⟨cl,e,h1,_,h3⟩:=TJ (env:=env) scope.names [] hf (λx c h=>by simp at h)
 refine⟨cl,?_,h1,h3⟩
 unfold closureFor
 show(forIn scope.names ([]:List (Str × Addr)) _ >>= _)=_
 have:(forIn scope.names ([]:List (Str × Addr)) λx r=>(if(x.2 == NameKind.free)=true then do let a ← cellOf env x.1;pure (ForInStep.yield ((x.1,a)::r))else pure (ForInStep.yield r):Sem (ForInStep (List (Str × Addr))))) >>=(λr=>(pure r:Sem _))=(pure cl:Sem _):=by rw[e];rfl
 exact this
theorem cY{env:Env}:∀ {names:List (Str × NameKind)} {x:Str},names.lookup x=some .free →
  (names.map λ(n,k)=>if(k == NameKind.free && env.scope.kind == .function && env.kindOf n == some .cell)then(n,NameKind.cell)else(n,k)).lookup x=some .cell ∨
  (names.map λ(n,k)=>if(k == NameKind.free && env.scope.kind == .function && env.kindOf n == some .cell)then(n,NameKind.cell)else(n,k)).lookup x=some .free
 | [],_,h=>by simp at h
 | (n,k)::r,x,h=>by
  by_cases hx:x=n
  ·subst hx
   simp only[List.lookup_cons,beq_self_eq_true]at h
   cases h
   show List.lookup x ((if _ then(x,NameKind.cell)else(x,NameKind.free))::_)=_\/List.lookup x ((if _ then(x,NameKind.cell)else(x,NameKind.free))::_)=_
   split
   ·exact .inl (by simp)
   ·exact .inr (by simp)
  ·have hb:(x == n)=false:=beq_eq_false_iff_ne.mpr hx
   simp only[List.lookup_cons,hb]at h
   have ih:=cY (env:=env) h
   show List.lookup x ((if _ then(n,NameKind.cell)else(n,k))::_)=_\/List.lookup x ((if _ then(n,NameKind.cell)else(n,k))::_)=_
   split<;>(simp only[List.lookup_cons,hb];exact ih)
theorem cZ{env:Env}:∀ {names:List (Str × NameKind)} {x:Str},
  ((names.map λ(n,k)=>if(k == NameKind.free && env.scope.kind == .function && env.kindOf n == some .cell)then(n,NameKind.cell)else(n,k)).lookup x=some .cell ∨
  (names.map λ(n,k)=>if(k == NameKind.free && env.scope.kind == .function && env.kindOf n == some .cell)then(n,NameKind.cell)else(n,k)).lookup x=some .free)->(x,NameKind.free)∈names\/(x,NameKind.cell)∈names
 | [],_,h=>by simp at h
 | (n,k)::r,x,h=>by
  by_cases hx:x=n
  ·subst hx
   have h:List.lookup x ((if(k == NameKind.free && env.scope.kind == .function && env.kindOf x == some .cell)=true then(x,NameKind.cell)else(x,k))::_)=some .cell\/List.lookup x ((if(k == NameKind.free && env.scope.kind == .function && env.kindOf x == some .cell)=true then(x,NameKind.cell)else(x,k))::_)=some .free:=h
   split at h
   ·rename_i hc
    rw[Bool.and_eq_true,Bool.and_eq_true]at hc
    have:k=.free:=by simpa using hc.1.1
    subst this
    exact .inl List.mem_cons_self
   ·simp only[List.lookup_cons,beq_self_eq_true]at h
    rcases h with h | h
    ·cases h;exact .inr List.mem_cons_self
    ·cases h;exact .inl List.mem_cons_self
  ·have hb:(x == n)=false:=beq_eq_false_iff_ne.mpr hx
   have h:List.lookup x ((if(k == NameKind.free && env.scope.kind == .function && env.kindOf n == some .cell)=true then(n,NameKind.cell)else(n,k))::_)=some .cell\/List.lookup x ((if(k == NameKind.free && env.scope.kind == .function && env.kindOf n == some .cell)=true then(n,NameKind.cell)else(n,k))::_)=some .free:=h
   have h':=h
   split at h'
   all_goals
    simp only[List.lookup_cons,hb]at h'
    exact(cZ h').imp (List.mem_cons_of_mem _) (List.mem_cons_of_mem _)
theorem ER{a b:Addr}{n:Nat}(h:a<n)(h2:n<=b):a≠b:=Nat.ne_of_lt (Nat.lt_of_lt_of_le h h2)
def Cx.block(X:Cx)(AA:List (Addr × Obj))(s:Shared)(H:Hp)(Nc:List Str)(scope:Scope)(cl:List (Str × Addr))(C:Addr)(fp:List Addr):Cx where
 prog:=X.prog
 w:=X.w
 K:=X.K
 mg:=X.mg
 base:=X.base
 A:=X.A
 N:=Nc
 s₀:=s
 H₀:=H
 env:=compEnvC scope cl C X.env
 outer:=X.stack
 stack:=X.stack
 ex:=fp
 fn:=λ_=>false
 calm:=X.calm
 pn:=X.pn++AA
 xe:=λ_ _=>False
structure LH(X:Cx)(scope:Scope)(tn cn:List Str)(cap:List Nat):Prop where
 kind:scope.kind=.function
 nocell:∀ y∈scope.names,y.2≠.cell
 names:∀ y∈scope.names,y.2=.local->scope.names.lookup y.1=some .local
 free:∀ y∈scope.names,y.2=.free->X.env.kindOf y.1=some .cell\/X.env.kindOf y.1=some .free
 drawn:∀ x∈cn,scope.names.lookup x=some .free
 caps:cap.map (λi=>X.N[i]?)=cn.map some
def IC(k:Nat)(cap:List Nat)(σ:St):St:=List.replicate k none++cap.map λi=>(σ[i]?).join
theorem HOk.track{P:Program}{w:World}{H:Hp}{h:Heap}{a:Addr}{o:HO}(x:HOk P w H h)(hn:H a=none)(new:ObjOk P w (upd H a o) h a o):HOk P w (upd H a o) h:=λb u e=>by
 by_cases hb:b=a
 ·subst hb;rw[AG]at e;cases e;exact new
 ·rw[AK hb]at e
  refine(x b u e).stay (λ_ _ _ q=>q) (λc q=> ?_) λc xs q=> ?_
  ·rw[AK (BN q hn)];exact q
  ·rw[AK (BN q hn)];exact q
section
variable{X:Cx}{AA:List (Addr × Obj)}{σ:St}{H:Hp}{s:Shared}
theorem Inv.pinlt(I:Inv X AA σ H s){p:Addr × Obj}(hp:p∈X.pn++AA):p.1<s.heap.objs.size:=Heap.lt_size (I.pin p hp).1
theorem Inv.stkne(I:Inv X AA σ H s){b:Addr}(h1:b≠X.env.locals)(h2:b∉X.fs):b∉DW X.stack:=λz=>(List.mem_cons.mp (I.stkSub b z)).elim h1 h2
theorem Inv.stklt(I:Inv X AA σ H s){b:Addr}(h:b∈DW X.stack):b<s.heap.objs.size:=by
 obtain⟨_,o,ho,_⟩:=I.stack.mem h
 exact Heap.lt_size ho
theorem Inv.block{scope:Scope}{tn cn:List Str}{cap:List Nat}{cl:List (Str × Addr)}{C:Addr}{fp:List Addr}{pins':List (Addr × Obj)}{s1:Shared}(I:Inv X AA σ H s)(S:LH X scope tn cn cap)
  (BX:∀ x c,cl.lookup x=some c->X.env.cells.lookup x=some c) (J0:∀ x∈scope.names,x.2=.free->(cl.lookup x.1).isSome=true)
  (hf:∀ b∈fp,FpOk X AA H b) (hfl:∀ b∈fp,b<s.heap.objs.size) (hC:s.heap.objs.size<=C) (k:∀ b o,s.heap.get? b=some o->s1.heap.get? b=some o)
  (hos:s1.os=s.os) (hg:s1.gens=s.gens) (hns:∃ m,s1.heap.Ns C m)
  (hp:∀ p∈pins',s1.heap.get? p.1=some p.2/\H p.1=none/\p.1≠C/\p.1∉DW X.stack/\∀ v,p.2.data≠.cell v) :
  Inv (X.block AA s H (tn++cn) scope cl C fp) pins' (IC tn.length cap σ) H s1:=by
 have ok:(X.block AA s H (tn++cn) scope cl C fp).Ok:=by
  refine⟨I.ok.mod,S.kind,I.ok.glob,I.ok.blt,hC,λx y c h1 h2=>I.ok.inj x y c (BX x c h1) (BX y c h2),λx hx=> ?_,λx c z _=>(by cases z),I.ok.hd,I.ok.frames,.inl rfl,λb hb=>⟨?_,λx c e=>(hf b hb).2.2.2.2.1 x c (BX x c e)⟩,I.bs,Nat.le_trans I.ok.bsz I.sz,λb o e hb=> ?_,λb hb=>I.stkne (hf b hb).2.1 (hf b hb).2.2.1,I.stack,I.stkFree⟩
  ·rcases cZ (env:=X.env) hx with z | z
   ·exact Option.isSome_iff_exists.mp (J0 _ z rfl)
   ·exact absurd rfl (S.nocell _ z)
  ·exact Nat.ne_of_lt (Nat.lt_of_lt_of_le (hfl b hb) hC)
  ·rcases(hf b hb).2.2.2.1 with z | z
   ·exact I.ok.noex b o e z
   ·have h1:b<X.base.objs.size:=Heap.lt_size e
    exact absurd (Nat.lt_of_lt_of_le h1 (Nat.le_trans I.ok.bsz z)) (Nat.lt_irrefl _)
 refine⟨ok,hos,by rw[hg];exact I.bare,Un.kept k,?_,λx c e=> ?_,I.hok.fresh hC,λx c e=>I.freeC x c (BX x c e),λp hp'=> ?_,I.hok.kept k,?_⟩
 ·obtain⟨m,hm⟩:=hns
  refine⟨m,hm,λi x v h1 h2 h3=> ?_⟩
  have hi:tn.length<=i:=by
   rcases Nat.lt_or_ge i tn.length with z | z
   ·unfold IC at h2
    rw[List.getElem?_append_left (by simpa using z),List.getElem?_replicate]at h2
    split at h2<;>cases h2
   ·exact z
  unfold IC at h2
  rw[List.getElem?_append_right (by simpa using hi),List.length_replicate,List.getElem?_map]at h2
  have h1':cn[i - tn.length]? =some x:=by
   have:(tn++cn)[i]? =some x:=h1
   rwa [List.getElem?_append_right hi]at this
  cases hq:cap[i - tn.length]? with
  | none=>rw[hq]at h2;cases h2
  | some j =>
   rw[hq]at h2
   have hj:X.N[j]? =some x:=by
    have:=congrArg (λl=>l[i - tn.length]?) S.caps
    simp only[List.getElem?_map,hq,h1',Option.map_some]at this
    exact Option.some.inj this
   have hv:σ[j]? =some (some v):=by
    cases hs:σ[j]? with
    | none=>simp[hs]at h2
    | some y=>simp only[Option.map_some,hs,Option.join_some]at h2;cases h2;rfl
   have hxf:(x,NameKind.free)∈scope.names:=PySem.mem_of_lookup (S.drawn x (List.mem_of_getElem? h1'))
   have hk:=S.free _ hxf rfl
   obtain⟨m0,_,hl0⟩:=I.loc
   obtain⟨u,r,q⟩:=hl0 j x v hj hv (hk.elim (λz=>.inr (.inl z)) λz=>.inr (.inr z))
   refine⟨u,r,.inr ⟨cY (S.drawn x (List.mem_of_getElem? h1')),?_⟩⟩
   rcases q with⟨kl,_⟩ | ⟨_,c,hc,z⟩
   ·have kl':X.env.kindOf x=some .local:=kl
    rcases hk with hk | hk<;>(rw[kl']at hk;cases hk)
   ·obtain⟨c',hc'⟩:=Option.isSome_iff_exists.mp (J0 _ hxf rfl)
    have:=BX _ _ hc'
    rw[hc]at this
    cases this
    exact⟨c,hc',z.keeps k⟩
 ·obtain⟨v,z⟩:=I.cell x c (BX x c e)
  exact⟨v,z.keeps k⟩
 ·rcases List.mem_append.mp hp' with z | z
  ·obtain⟨e,n,ne,nf,d⟩:=I.pin p z
   exact⟨k _ _ e,n,Nat.ne_of_lt (Nat.lt_of_lt_of_le (Heap.lt_size e) hC),I.stkne ne nf,d⟩
  ·exact hp p z
 ·unfold IC
  show _=(tn++cn).length
  have:=congrArg List.length S.caps
  simp only[List.length_map]at this
  simp[this]
end
def DH:TT:=λ_ H Q=>Q true H
def NI(X:Cx)(FC:List Expr)(t:TT):Prop :=
 ∀ (AA:List (Addr × Obj)) (s:Shared) (σ:St) (H:Hp) (Q:Bool->Hp->Prop),Inv X AA σ H s->t σ H Q →
  wpAny (model X.prog X.w) X.A (forIn FC true λc r=>if r=true then do let ok ← isTrue c X.env (eval c X.env);pure (ForInStep.yield ok)else pure (ForInStep.yield r)) (TP X AA σ Q) X.xe s
theorem FM{X:Cx}:NI X [] DH:=λAA s σ H Q I h=>wpAny_tests_nil ⟨H,I,h⟩
theorem NJ{X:Cx}{c:Expr}{t:TT}(h:PT X c t):NI X [c] t:=λAA s σ H Q I q=>wpAny_tests_one (h AA s σ H Q I q)
theorem wQ {prog:Program} {w:World} {A:Around} {R:Result->Shared->Prop} {s:Shared} {FX target iter:Expr} {FC:List Expr} {scope:Scope} {pos:Pos} {it BW:Value} {env:Env} (Jn:Nat->Shared->Prop)
    (turn:∀ n s,Jn n s->wpAny (model prog w) A (pyNext it) (λr s₁=>match r with
      | none=>R (.ok .next) s₁
      | some v=>wpAny (model prog w) A (letOwnedTupleGo target it v) (λ_ s₂=>wpAny (model prog w) A (assign target env v) (λ_ s₃ =>
          wpAny (model prog w) A (forIn FC true λc r=>if r=true then do let ok ← isTrue c env (eval c env);pure (ForInStep.yield ok)else pure (ForInStep.yield r)) (λok s₄ =>
            if ok=true then wpAny (model prog w) A (eval FX env) (λx s₅ =>
              wpAny (model prog w) A (call (.builtin "list.append") [BW,x]) (λ_ s₆=>∃ m,m<n/\Jn m s₆) (λ_ _=>False) s₅) (λ_ _=>False) s₄
            else ∃ m,m<n/\Jn m s₄) (λ_ _=>False) s₃) (λ_ _=>False) s₂) (λ_ _=>False) s₁) (λ_ _=>False) s)
    (n:Nat) (h:Jn n s):codeAny (model prog w) A (.compLoop (.ListComp FX [⟨target,iter,FC,0⟩] scope pos) 0 it BW env) R s:=by
  refine codeAny_loop rfl Jn (λn' s' hJ=> ?_) n h
  show wpAny _ A ((compTurn (.ListComp FX [⟨target,iter,FC,0⟩] scope pos) 0 it BW env).onRaise (λx'=>do noteFrame x' env;theTreesLotGoes x')) _ _ s'
  refine wpAny_noted (wpAny_noRaise ?_)
  rw[compTurn_list]
  refine wpAny_bind (wpAny_standAt (wpAny_bind (AT (turn n' s' hJ) λr s₁ h₁=> ?_)))
  cases r with
  | none=>exact wpAny_pure h₁
  | some v =>
    refine wpAny_bind (AT h₁ λ_ s₂ h₂=> ?_)
    refine wpAny_bind (AT h₂ λ_ s₃ h₃=>wpAny_bind (AT h₃ λok s₄ h₄=> ?_))
    cases ok with
    | false=>exact wpAny_pure ⟨rfl,h₄⟩
    | true=>exact wpAny_bind (wpAny_bind (AT h₄ λx' s₅ h₅=>wpAny_bind (AT h₅ λ_ s₆ h₆=>wpAny_pure (wpAny_pure ⟨rfl,h₆⟩))))
def DC(wi:TI)(g:TG)(tt:TT)(te:TE)(k:Nat)(cap:List Nat):TE:=λσ H Q=>wi σ H λJ H1 =>
 ∃ W:Nat->Nat->St->List V->Hp->Prop,(∃ m,W 0 m (IC k cap σ) [] H1)/\∀ i m σ' ys H,W i m σ' ys H →
  (J.stop i H/\∀ p,H p=none->Q (.ref p) (upd H p (.lst ys))) ∨
  (J.go i H/\ys.length<sizeLine/\∀ x H',J.yld i H x H'->g x σ' H' λσ2 H2=>tt σ2 H2 λb H3 =>
   if b=true then ∃ N:VK,(∀ y H4,N y H4->∃ m',m'<m/\W (i+1) m' σ2 (ys++[y]) H4)/\te σ2 H3 N else ∃ m',m'<m/\W (i+1) m' σ2 ys H3)
structure CompDone(X:Cx)(fp:List Addr)(H:Hp)(s:Shared)(Q:VK)(BW:Value)(C:Addr)(r:Result)(s':Shared):Prop where
 ok:r=.ok .next
 ex:∃ (D:Addr) (ys:List V) (its:List Value) (n:Nat) (H':Hp),BW=.ref D/\Vals ys its/\ys.length<=sizeLine/\s'.heap.get? D=some { cls:=.type "list",data:=.seq its.toArray n }/\s.heap.objs.size<=D/\D≠C/\H' D=none/\H' C=none ∧
  (∃ m,s'.heap.Ns C m)/\Un (DW X.stack) fp H H' s.heap s'.heap/\HOk X.prog X.w H' s'.heap/\∀ p,H' p=none->Q (.ref p) (upd H' p (.lst ys))
 ge:s.heap.objs.size<=C
 os:s'.os=s.os
 bare:AllBare s'.gens
section
variable{X:Cx}{AA:List (Addr × Obj)}{σ:St}{H:Hp}{s:Shared}
theorem c7 {tg iter FX:Expr} {FC:List Expr} {scope:Scope} {pos:Pos} {g:TG} {tt:TT} {te:TE} {tn cn:List Str} {cap:List Nat} {cl:List (Str × Addr)} {it:Addr} {fp:List Addr} {tn':Nat->Heap->Prop} {J:It} {Q:VK} {E:Value->Shared->Prop}
    (I:Inv X AA σ H s) (S:LH X scope tn cn cap) (hc:X.calm=true)
    (BX:∀ x c,cl.lookup x=some c->X.env.cells.lookup x=some c) (J0:∀ x∈scope.names,x.2=.free->(cl.lookup x.1).isSome=true)
    (T:IT X.prog X.w X.K tg J fp it tn') (st:tn' 0 s.heap) (hf:∀ b∈fp,FpOk X AA H b)
    (hg:∀ C,PG (X.block AA s H (tn++cn) scope cl C fp) tg g) (ht:∀ C,NI (X.block AA s H (tn++cn) scope cl C fp) FC tt) (he:∀ C,PE (X.block AA s H (tn++cn) scope cl C fp) FX te)
    (W:Nat->Nat->St->List V->Hp->Prop) {m0:Nat} (w0:W 0 m0 (IC tn.length cap σ) [] H)
    (step:∀ i m σ' ys H,W i m σ' ys H →
      (J.stop i H/\∀ p,H p=none->Q (.ref p) (upd H p (.lst ys))) ∨
      (J.go i H/\ys.length<sizeLine/\∀ x H',J.yld i H x H'->g x σ' H' λσ2 H2=>tt σ2 H2 λb H3 =>
        if b=true then ∃ N:VK,(∀ y H4,N y H4->∃ m',m'<m/\W (i+1) m' σ2 (ys++[y]) H4)/\te σ2 H3 N else ∃ m',m'<m/\W (i+1) m' σ2 ys H3)) :
    wpAny (model X.prog X.w) X.A (newList []) (λBW s₃=>wpAny (model X.prog X.w) X.A (newFunctionEnv scope X.env.globals cl [] X.env.qual none .none (some X.env)) (λcenv s₄ =>
      codeAny (model X.prog X.w) X.A (.compStart (.ListComp FX [⟨tg,iter,FC,0⟩] scope pos) 0 (.ref it) BW { cenv with scope:=relabel scope X.env }) (CompDone X fp H s Q BW cenv.locals) s₄) E s₃) E s:=by
  refine wpAny_newObj_type (wpAny_newFunctionEnv S.nocell (by intro y hy;simp at hy) (λh₁ hns₁ hsb₁=> ?_) S.kind)
  dsimp only at hns₁ hsb₁ ⊢
  generalize hH2:s.heap.push { cls:=.type "list",dict:=none,data:=.seq ([]:List Value).toArray }=H2 at hns₁ hsb₁ ⊢
  have hCs:H2.objs.size=s.heap.objs.size+1:=by rw[<-hH2,Heap.size_push]
  generalize hCe:H2.objs.size=C at hns₁ hsb₁ ⊢
  have hC:C=s.heap.objs.size+1:=hCe.symm.trans hCs
  generalize hD:s.heap.objs.size=D at *
  have hDC:D≠C:=by rw[hC];exact Nat.ne_of_lt (Nat.lt_succ_self _)
  have old:∀ b o,s.heap.get? b=some o->h₁.get? b=some o:=λb o e=>by
    have hb:b<D:=by rw[<-hD];exact Heap.lt_size e
    have hbC:b≠C:=ER hb (by rw[hC];exact Nat.le_succ _)
    exact hsb₁.extBut b o hbC (Heap.get?_push_of_some _ (hH2 ▸ Heap.get?_push_of_some _ e))
  have hDo:h₁.get? D=some { cls:=.type "list",data:=.seq ([]:List Value).toArray }:=by
    refine hsb₁.extBut _ _ hDC (Heap.get?_push_of_some _ ?_)
    rw[<-hH2,<-hD]
    exact Heap.get?_push_size _ rfl
  have hfl:∀ b∈fp,b<s.heap.objs.size:=λb hb=>by
    obtain⟨o,e,_⟩:=T.obj 0 _ st b hb
    exact Heap.lt_size e
  have hDn:H D=none:=by rw[<-hD];exact I.hok.fresh (Nat.le_refl _)
  have hDs:D∉DW X.stack:=λz=>ER (I.stklt z) (Nat.le_of_eq hD) rfl
  have I0:Inv (X.block AA s H (tn++cn) scope cl C fp) [(D,{ cls:=.type "list",data:=.seq ([]:List Value).toArray 0 })] (IC tn.length cap σ) H { s with heap:=h₁,toks:=s.toks+([]:List (Str × Value)).length } :=
    I.block S BX J0 hf hfl (by omega) old rfl rfl ⟨_,hns₁⟩ λp hp=>by
      rw[List.mem_singleton]at hp
      subst hp
      exact⟨hDo,hDn,hDC,hDs,λv z=>nomatch z⟩
  have fpok:∀ {H':Hp} {o:Obj},(∀ b∈fp,H' b=none)->∀ b∈fp,FpOk (X.block AA s H (tn++cn) scope cl C fp) [(D,o)] H' b:=λ{H' o} hn b hb=>by
    obtain⟨_,f1,f2,f3,f4,f5⟩:=hf b hb
    have hbl:=hfl b hb
    refine⟨hn b hb,?_,I.stkne f1 f2,.inl hb,λx c e=>f4 x c (BX x c e),λp hp=> ?_⟩
    ·exact ER hbl (by rw[hD,hC];exact Nat.le_succ _)
    · rcases List.mem_append.mp hp with z | z
      ·exact f5 p z
      ·rw[List.mem_singleton]at z;subst z;exact Ne.symm (ER hbl (Nat.le_of_eq hD))
  have st1:tn' 0 h₁:=T.keep _ _ _ st λb _ o e=>old b o e
  have loop:∀ s₃:Shared,s₃={ s with heap:=h₁,toks:=s.toks+([]:List (Str × Value)).length } →
      codeAny (model X.prog X.w) X.A (.compLoop (.ListComp FX [⟨tg,iter,FC,0⟩] scope pos) 0 (.ref it) (.ref D) (compEnvC scope cl C X.env)) (CompDone X fp H s Q (.ref D) C) s₃:=by
    rintro s₃ rfl
    refine wQ (λn s'=>∃ i σ' ys its nn H',Inv (X.block AA s H (tn++cn) scope cl C fp) [(D,{ cls:=.type "list",data:=.seq (its:List Value).toArray nn })] σ' H' s'/\tn' i s'.heap/\(∀ b∈fp,H' b=none)/\Vals ys its/\ys.length<=sizeLine/\W i n σ' ys H') ?_ m0
      ⟨0,_,[],[],0,H,I0,st1,λb hb=>(hf b hb).1,.nil,Nat.zero_le _,w0⟩
    rintro n s4 ⟨i,σ4,ys,its,nn,H4,I4,st4,fr4,r4,l4,w4⟩
    rcases step i n σ4 ys H4 w4 with⟨stop,qn⟩ | ⟨go,BE,next⟩
    · refine AT (T.done (X.block AA s H (tn++cn) scope cl C fp) rfl rfl rfl hc i _ s4 σ4 H4 _ I4 (fpok fr4) st4 stop) λr s5 ⟨hr,I5⟩=> ?_
      subst hr
      have hp:=I5.pin (D,_) (List.mem_append_right _ List.mem_cons_self)
      obtain⟨m5,hm5,_⟩:=I5.loc
      exact⟨rfl,⟨D,ys,its,nn,H4,rfl,r4,l4,hp.1,by omega,hDC,hp.2.1,I5.free,⟨m5,hm5⟩,I5.base,I5.hok,qn⟩,by omega,I5.os,I5.bare⟩
    · refine AT (T.item (X.block AA s H (tn++cn) scope cl C fp) rfl rfl rfl hc i _ s4 σ4 H4 _ I4 (fpok fr4) st4 go) λr s5 hzz=> ?_
      obtain⟨u,hr,h5⟩:=hzz
      subst hr
      refine AT h5 λ_ s6 hzz=> ?_
      obtain⟨x,H6,I6,r6,y6,st6,fr6⟩:=hzz
      have I6':=I6.pinned (fpok fr6) (T.obj _ _ st6)
      refine AT (hg C _ s6 σ4 H6 x u _ I6' r6 (next x H6 y6)) λ_ s7 hzz=> ?_
      obtain⟨σ7,H7,I7,q7⟩:=hzz
      refine AT (ht C _ s7 σ7 H7 _ I7 q7) λok s8 hzz=> ?_
      obtain⟨H8,I8,q8⟩:=hzz
      have keepst:∀ {σ9:St} {H9:Hp} {s9:Shared},Inv (X.block AA s H (tn++cn) scope cl C fp) ([(D,{ cls:=.type "list",data:=.seq its.toArray nn })]++M9 fp s6.heap) σ9 H9 s9->(∀ b∈fp,∀ o,s6.heap.get? b=some o->s9.heap.get? b=some o)/\∀ b∈fp,H9 b=none:=λ{σ9 H9 s9} I9=>by
        refine⟨λb hb o e=>(I9.pin (b,o) (List.mem_append_right _ (List.mem_append_right _ (PF hb e)))).1,λb hb=> ?_⟩
        obtain⟨o,e,_⟩:=T.obj _ _ st6 b hb
        exact(I9.pin (b,o) (List.mem_append_right _ (List.mem_append_right _ (PF hb e)))).2.1
      cases ok with
      | false =>
        obtain⟨m',hm',w'⟩:=q8
        obtain⟨k1,k2⟩:=keepst I8
        exact⟨m',hm',i+1,σ7,ys,its,nn,H8,I8.unpinned,T.keep _ _ _ st6 k1,k2,r4,l4,w'⟩
      | true =>
        obtain⟨Nw,hN,q8⟩:=q8
        refine AT (he C _ s8 σ7 H8 Nw I8 q8) λv s9 hzz=> ?_
        obtain⟨y,H9,I9,r9,n9⟩:=hzz
        obtain⟨m',hm',w'⟩:=hN y H9 n9
        obtain⟨k1,k2⟩:=keepst I9
        have hp:=I9.pin (D,_) (List.mem_append_right _ (List.mem_append_left _ List.mem_cons_self))
        have e:=hp.1
        have B0:=r4.length
        refine call_meets F.slot_list_append ⟨_,e,rfl⟩ F.entry_list_append (F.args_list_append_2 _ _) (PySem.list_append D its.toArray nn v (by rw[List.size_toArray];omega)) ⟨e,?_⟩
        have q:=PySem.IsL.update e (λxs=>xs.push v)
        have Ia:Inv (X.block AA s H (tn++cn) scope cl C fp) [] σ7 H9 s9:=I9.pins_of λp hp=>nomatch hp
        have Ib:=Ia.turned (h':=s9.heap.update D (Obj.mapSeq (·.push v))) (t':=s9.toks) (it:=D) (λb o hb eb=>(Heap.get?_update_other _ _ (Ne.symm hb)).trans eb) hp.2.1 hDC (.inr (by show s.heap.objs.size<=D;omega))
          (λx c ec z=>by
            obtain⟨vv,zc⟩:=I.cell x c (BX x c ec)
            exact ER zc.lt (Nat.le_of_eq hD) z)
          (λp hp'=>by
            rw[List.append_nil]at hp'
            exact ER (I.pinlt hp') (Nat.le_of_eq hD))
        have q':(s9.heap.update D (Obj.mapSeq (·.push v))).get? D=some { cls:=.type "list",data:=.seq (its++[v]).toArray (nn+1) }:=by
          rw[if_neg (by simp)]at q
          rw[<-List.push_toArray]
          exact q
        refine⟨m',hm',i+1,σ7,ys++[y],its++[v],nn+1,H9,Ib.pins_of (λp hp'=> ?_),T.keep _ _ _ st6 λb hb o eb=> ?_,k2,r4.append (.cons r9 .nil),?_,w'⟩
        · rw[List.mem_singleton]at hp'
          subst hp'
          exact⟨q',hp.2.1,hDC,hDs,λv' z=>nomatch z⟩
        · have hbl:=hfl b hb
          exact(Heap.get?_update_other _ _ (Ne.symm (ER hbl (Nat.le_of_eq hD)))).trans (k1 b hb o eb)
        · rw[List.length_append,List.length_singleton]
          omega
  exact codeAny_compStart_list (loop _ rfl) (T.self _ 0 _ _ _ st1 (loop _ rfl))
theorem CompDone.inv{Q:VK}{BW:Value}{C:Addr}{r:Result}{s':Shared}{fp:List Addr}(I:Inv X AA σ H s)(hf:∀ b∈fp,FpOk X AA H b)(h:CompDone X fp H s Q BW C r s') :
  ∃ D H',BW=.ref D/\Inv X AA σ H' s'/\Q (.ref D) H'/\H' C=none/\∃ m,s'.heap.Ns C m:=by
 obtain⟨_,⟨D,ys,its,n,H',rfl,r4,l4,e,hD,hDC,hDn,hCn,hm,u,ok,q⟩,hC,os,bare⟩:=h
 have lt:∀ b o,s.heap.get? b=some o->b≠D:=λb o eb=>ER (Heap.lt_size eb) hD
 have ltH:∀ b o,H b=some o->b≠D:=λb o eb=>ER (I.hok.lt eb) hD
 refine⟨D,upd H' D (.lst ys),rfl,I.call' (ch:=fp) os ⟨u.keep,u.slot,λb o eb n' hx=> ?_,u.there,λb xs eb=> ?_,λb o x eb=> ?_,λb ps eb=> ?_⟩ (ok.track hDn ⟨l4,its,n,r4,e⟩) bare (λb hb=> ?_),q D hDn,?_,hm⟩
 ·rw[AK (lt b o eb)];exact u.free b o eb n' hx
 ·rw[AK (ltH b _ eb)];exact u.tups b xs eb
 ·rw[AK (ltH b _ eb)];exact u.frzs b o x eb
 ·rw[AK (ltH b _ eb)];exact u.tbls b ps eb
 ·obtain⟨_,f1,f2,f3,f4,f5⟩:=hf b hb
  exact⟨f3,f1,f4,f5⟩
 ·rw[AK (Ne.symm hDC)];exact hCn
theorem Inv.letgo{C:Addr}{h':Heap}{s1:Shared}{σ1:St}{H1:Hp}(I:Inv X AA σ H s)(hC:s.heap.objs.size<=C)(I1:Inv X AA σ1 H1 s1)(hn:H1 C=none)(hs:Heap.SameBut C s1.heap h'):Inv X AA σ1 H1 { s1 with heap:=h' }:=by
 refine I1.turned (t':=s1.toks) (it:=C) (λb o hb e=>(hs.2 b hb).trans e) hn (λz=> ?_) (.inr ?_) (λx c e z=> ?_) λp hp z=> ?_
 ·exact ER I.lt hC z.symm
 ·exact Nat.le_trans I.sz hC
 ·obtain⟨v,zc⟩:=I.cell x c e
  exact ER zc.lt hC z
 ·exact ER (I.pinlt hp) hC z
variable{tg iter FX:Expr}{FC:List Expr}{scope:Scope}{pos:Pos}{wi:TI}{g:TG}{tt:TT}{te:TE}{tn cn:List Str}{cap:List Nat}
theorem FN(S:LH X scope tn cn cap)(hc:X.calm=true)(hi:PI X tg iter wi)
  (hg:∀ AA s H cl C fp,PG (X.block AA s H (tn++cn) scope cl C fp) tg g) (ht:∀ AA s H cl C fp,NI (X.block AA s H (tn++cn) scope cl C fp) FC tt) (he:∀ AA s H cl C fp,PE (X.block AA s H (tn++cn) scope cl C fp) FX te)
  (hs:∀ x,foldedSetIterable iter X.env x=pure x:=by intro _;rfl):PE X (.ListComp FX [⟨tg,iter,FC,0⟩] scope pos) (DC wi g tt te tn.length cap):=by
 intro AA s σ H Q I h
 obtain⟨cl,ecl,BX,J0⟩:=cX (env:=X.env) (scope:=scope) λx hx hxf=>I.ok.has x.1 (S.free x hx hxf)
 rw[eval_ListComp]
 refine wpAny_comprehension_free (use:=none) rfl hs ecl S.kind S.names (AT (hi AA s σ H _ I h) λv s1 h1=>AT h1 λitv s2 h2=> ?_)
 obtain⟨it,fp,tn',J,H2,e,I2,T,st2,f2,W,⟨m0,w0⟩,turn⟩:=h2
 subst e
 refine AT (c7 I2 S hc BX J0 T st2 f2 (λC=>hg _ _ _ _ C _) (λC=>ht _ _ _ _ C _) (λC=>he _ _ _ _ C _) W w0 turn) λBW s3 h3=>AT h3 λcenv s4 h4=>codeAny_mono h4 λr s5 h5=> ?_
 have hr:=h5.ok
 subst hr
 obtain⟨D,H',rfl,I5,q5,hCn,m,hm⟩:=h5.inv I2 f2
 exact⟨m,hm,λh' hs'=>⟨.ref D,H',I2.letgo h5.ge I5 hCn hs',rfl,q5⟩⟩
theorem NK{i:Nat}{x:Str}{px spos:Pos}(S:LH X scope tn cn cap)(hc:X.calm=true)(hN:X.N.Nodup)(hi':X.N[i]? =some x)(hx:X.env.scope.names.lookup x=some .local)(hi:PI X tg iter wi)
  (hg:∀ AA s H cl C fp,PG (X.block AA s H (tn++cn) scope cl C fp) tg g) (ht:∀ AA s H cl C fp,NI (X.block AA s H (tn++cn) scope cl C fp) FC tt) (he:∀ AA s H cl C fp,PE (X.block AA s H (tn++cn) scope cl C fp) FX te)
  (hsw:swapsWith (.ListComp FX [⟨tg,iter,FC,0⟩] scope pos) (some (.Name x px)) spos.line X.env=pure true:=by rfl)
  (hs:∀ x,foldedSetIterable iter X.env x=pure x:=by intro _;rfl):PS X (.Assign [.Name x px] (.ListComp FX [⟨tg,iter,FC,0⟩] scope pos) spos) (A4 (DC wi g tt te tn.length cap) (AN i)):=by
 intro AA s σ H D I h
 obtain⟨cl,ecl,BX,J0⟩:=cX (env:=X.env) (scope:=scope) λx hx hxf=>I.ok.has x.1 (S.free x hx hxf)
 rw[exec_Assign_Name_used _ _ _ _ hsw]
 refine wpAny_bind (wpAny_standAt (wpAny_bind ?_))
 unfold evalThenUse
 refine wpAny_bind ?_
 refine wpAny_comprehension_free (use:=some (assign (.Name x px) X.env)) rfl hs ecl S.kind S.names (AT (hi AA s σ H _ I h) λv s1 h1=>AT h1 λitv s2 h2=> ?_)
 obtain⟨it,fp,tn',J,H2,e,I2,T,st2,f2,W,⟨m0,w0⟩,turn⟩:=h2
 subst e
 refine AT (c7 (Q:=λx' H1=>AN i x' σ H1 D.nx) I2 S hc BX J0 T st2 f2 (λC=>hg _ _ _ _ C _) (λC=>ht _ _ _ _ C _) (λC=>he _ _ _ _ C _) W w0 turn) λBW s3 h3=>AT h3 λcenv s4 h4=>codeAny_mono h4 λr s5 h5=> ?_
 have hr:=h5.ok
 subst hr
 obtain⟨Da,H',rfl,I5,q5,hCn,m,hm⟩:=h5.inv I2 f2
 show wpAny _ _ (assign (.Name x px) X.env (.ref Da)) _ _ s5
 refine wpAny_assign_Name (bA I5 hN hi' (.inl hx) (show RelV (.ref Da) (.ref Da)from rfl) (λs6 I6 hzz=> ?_) (.inr hx))
 obtain⟨a,hsb,ha⟩:=hzz
 refine⟨m,hm.sameBut hsb ?_,λh' hs'=> ?_⟩
 ·rcases ha with z | z
  ·exact Ne.symm (z ▸ ER I2.lt h5.ge)
  ·obtain⟨vv,zc⟩:=I2.cell x a z
   exact Ne.symm (ER zc.lt h5.ge)
 ·exact wpAny_pure (wpAny_pure ⟨σ.set i (some (.ref Da)),H',I2.letgo h5.ge I6 hCn hs',q5⟩)
end
end L2
namespace L2
theorem ObjOk.there{P:Program}{w:World}{H:Hp}{h:Heap}{a:Addr}{o:HO}(x:ObjOk P w H h a o):∃ ob,h.get? a=some ob:=by
 cases o with
 | lst xs=>obtain⟨_,_,_,_,e⟩:=x;exact⟨_,e⟩
 | tup xs=>obtain⟨_,_,_,ob,e,_⟩:=x;exact⟨_,e⟩
 | dK AD=>obtain⟨_,_,_,_,ob,_,_,e,_⟩:=x;exact⟨_,e⟩
 | dT AD=>obtain⟨_,_,_,_,ob,_,_,e,_⟩:=x;exact⟨_,e⟩
 | set S n=>obtain⟨ob,_,_,_,e,_⟩:=x;exact⟨_,e⟩
 | ins C dx fs=>obtain⟨_,_,_,e,_⟩:=x;exact⟨_,e⟩
 | own y=>exact x
 | xd fs=>obtain⟨_,⟨ob,_,_,e,_⟩,_⟩:=x;exact⟨_,e⟩
 | rng lo hi=>obtain⟨_,_,_,e⟩:=x;exact⟨_,e⟩
 | frz ob u=>obtain⟨e,_⟩:=x;exact⟨_,e⟩
 | tbl ps=>exact⟨_,show h.get? a=some _ from x⟩
 | met f y=>exact⟨_,show h.get? a=some _ from x⟩
 | ext φ =>exact x.2.1
theorem HOk.nh{P:Program}{w:World}{H:Hp}{h:Heap}{a:Addr}(x:HOk P w H h)(e:h.get? a=none):H a=none:=by
 cases q:H a with
 | none=>rfl
 | some o =>
  obtain⟨ob,e'⟩:=(x a o q).there
  rw[e]at e';cases e'
section
variable{X:Cx}{AA:List (Addr × Obj)}{σ:St}{H H':Hp}{s:Shared}{h':Heap}
theorem Inv.stepN{g':Array GenState}{t':Nat}{d':Drawn}{ch:List Addr}(I:Inv X AA σ H s)
  (DE:∀ b∈ch,(b∈X.ex\/X.s₀.heap.get? b=none)/\b≠X.env.locals/\(∀ x c,X.env.cells.lookup x=some c->c≠b)/\∀ p∈X.pn++AA,p.1≠b)
  (keep:∀ b o,b≠X.env.locals->b∉X.fs->b∉ch->s.heap.get? b=some o->H b=none->h'.get? b=some o)
  (slot:∀ b o,b≠X.env.locals->b∈X.fs->b∉ch->s.heap.get? b=some o->H b=none->∃ sl,h'.get? b=some { o with slots:=sl }) (free:∀ b o,b∉ch->s.heap.get? b=some o->H b=none->H' b=none)
  (there:∀ b o,b∉ch->s.heap.get? b=some o->∃ o',h'.get? b=some o')
  (tups:∀ b xs,H b=some (.tup xs)->H' b=some (.tup xs)) (frzs:∀ b o u,H b=some (.frz o u)->H' b=some (.frz o u)) (tbls:∀ b ps,H b=some (.tbl ps)->∃ more,H' b=some (.tbl (ps++more)))
  (ns:∀ m,s.heap.Ns X.env.locals m->h'.Ns X.env.locals m) (hok:HOk X.prog X.w H' h') (hg:AllBare g') :
  Inv X AA σ H' { s with heap:=h',gens:=g',drawn:=d',toks:=t' }:=by
 have neL:∀ b o,X.s₀.heap.get? b=some o->b≠X.env.locals:=λb o e=>Nat.ne_of_lt (Nat.lt_of_lt_of_le (Heap.lt_size e) I.ok.above)
 have neC:∀ b o,X.s₀.heap.get? b=some o->b∉X.ex->b∉ch:=λb o e hx hb=>by
  rcases(DE b hb).1 with z | z
  ·exact hx z
  ·rw[e]at z;cases z
 have cellK:∀ x c,X.env.cells.lookup x=some c->∀ v,s.heap.IsCell c v->h'.IsCell c v:=λx c e v ⟨o,ho,hd⟩=>by
  have nch:c∉ch:=λz=>(DE c z).2.2.1 x c e rfl
  by_cases hc:c∈X.fs
  ·obtain⟨sl,q⟩:=slot c o (I.cne x c e) hc nch ho (I.freeC x c e)
   exact⟨_,q,hd⟩
  ·exact⟨o,keep c o (I.cne x c e) hc nch ho (I.freeC x c e),hd⟩
 refine⟨I.ok,I.os,hg,⟨λb o e n hb hx=> ?_,λb o e n hb hx=> ?_,λb o e n hx=> ?_,λb o e hx=> ?_,λb xs e=>tups b xs (I.base.tups b xs e),λb o xs e=>frzs b o xs (I.base.frzs b o xs e),λb ps e=> ?_⟩,?_,λx c e=> ?_,?_,λx c e=> ?_,λp hp=> ?_,hok,I.len⟩
 ·exact keep b o (neL b o e) hb (neC b o e hx) (I.base.keep b o e n hb hx) (I.base.free b o e n hx)
 ·obtain⟨sl,e1⟩:=I.base.slot b o e n hb hx
  obtain⟨sl',e2⟩:=slot b _ (neL b o e) hb (neC b o e hx) e1 (I.base.free b o e n hx)
  exact⟨sl',e2⟩
 ·obtain⟨o',e1⟩:=I.base.there b o e hx
  exact free b o' (neC b o e hx) e1 (I.base.free b o e n hx)
 ·obtain⟨o',e1⟩:=I.base.there b o e hx
  exact there b o' (neC b o e hx) e1
 ·obtain⟨m1,e1⟩:=I.base.tbls b ps e
  obtain⟨m2,e2⟩:=tbls b _ e1
  exact⟨m1++m2,by rw[e2,Array.append_assoc]⟩
 ·obtain⟨m,hn,hl⟩:=I.loc
  refine⟨m,ns m hn,λi x v e1 e2 e3=> ?_⟩
  obtain⟨u,r,l⟩:=hl i x v e1 e2 e3
  refine⟨u,r,?_⟩
  rcases l with l | ⟨k,c,e,z⟩
  ·exact .inl l
  ·exact .inr ⟨k,c,e,cellK x c e _ z⟩
 ·obtain⟨v,z⟩:=I.cell x c e
  exact⟨v,cellK x c e v z⟩
 ·obtain⟨m,⟨o,_,_,ho,_⟩,_⟩:=I.loc
  exact free _ o (λz=>(DE _ z).2.1 rfl) ho I.free
 ·obtain⟨v,o,ho,hd⟩:=I.cell x c e
  exact free c o (λz=>(DE c z).2.2.1 x c e rfl) ho (I.freeC x c e)
 ·obtain⟨e,n,ne,nf,d⟩:=I.pin p hp
  have nch:p.1∉ch:=λz=>(DE p.1 z).2.2.2 p hp rfl
  exact⟨keep p.1 p.2 ne nf nch e n,free p.1 p.2 nch e n,ne,nf,d⟩
end
structure Fly(bad:Addr->Prop)(H:Hp)(h:Heap)(e:Addr)(cls:Value):Prop where
 nb:¬ bad e
 free:H e=none
 ex:∃ (oe:Obj) (vs:Array Value),h.get? e=some oe/\oe.cls=cls/\oe.dict=none/\oe.data=.fields vs/\(vs[1]? =some .none ∨
  ∃ (T:Addr) (oT:Obj) (ts:Array Value),vs[1]? =some (.ref T)/\¬ bad T/\H T=none/\T≠e/\h.get? T=some oT/\oT.data=.fields ts/\ts[3]? =some .none)
theorem Fly.mono{bad bad':Addr->Prop}{H:Hp}{h:Heap}{e:Addr}{cls:Value}(F:Fly bad H h e cls)(k:∀ a,bad' a->bad a):Fly bad' H h e cls:=by
 obtain⟨nb,fr,oe,vs,h1,h2,h3,h4,h5⟩:=F
 refine⟨λz=>nb (k _ z),fr,oe,vs,h1,h2,h3,h4,?_⟩
 rcases h5 with z | ⟨T,oT,ts,a,b,c⟩
 ·exact .inl z
 ·exact .inr ⟨T,oT,ts,a,λz=>b (k _ z),c⟩
section
variable{M:Model}{A:Around}{E:Value->Shared->Prop}{s:Shared}
theorem c8{base:Heap}{env:Env}{outer:List Env}{L e:Addr}{oe:Obj}{vs:Array Value}{hd:Value}{nx:Bool}{Q:Unit->Shared->Prop}
  (JZ:A.frames=some (env::outer)) (hl:s.heap.FunFrames base (env::outer)) (hf:env.frame=some L) (he:s.heap.get? e=some oe) (hdt:oe.data=.fields vs) (hsz:1<vs.size)
  (h:∀ h' T oT ts,(∀ b o,s.heap.get? b=some o->b≠e->b∉DW (env::outer)->h'.get? b=some o)->(∀ b o,s.heap.get? b=some o->b≠e->∃ sl,h'.get? b=some { o with slots:=sl }) →
   h'.get? e=some (oe.mapFields (·.setIfInBounds 1 (.ref T)))->s.heap.objs.size<=T->h'.get? T=some oT->oT.data=.fields ts->ts[3]? =some (rawInt L)->Q () { s with heap:=h' }) :
  wpAny M A (do let a ← frameOf env;let pl ← entryPlaceOf L nx;let b ← EntryCells.newEntry hd a .none (rawInt L) .none pl;setField (.ref e) 1 b) Q E s:=by
 have hne:e∉(env::outer).filterMap (·.frame):=λz=>by
  obtain⟨_,o,ho,hn⟩:=hl.mem z
  rw[he]at ho;cases ho
  exact hn vs hdt
 refine wpAny_bind (wpAny_frameOf_fun JZ hl hf λh1 hs1=> ?_)
 refine wpAny_bind (wpAny_entryPlaceOf λpl C0=> ?_)
 unfold EntryCells.newEntry newFields
 refine wpAny_bind (wpAny_newObj_type ?_ (C0.sizeOk5 _ _ _ _ _))
 have he1:h1.get? e=some oe:=(hs1.2.1 e hne).trans he
 refine wpAny_setField (Heap.get?_push_of_some _ he1) hdt hsz ?_
 have hTe:h1.objs.size≠e:=Nat.ne_of_gt (Heap.lt_size he1)
 have hd3:=Obj.data_mapFields hdt (·.setIfInBounds 1 (Value.ref h1.objs.size))
 have keep:∀ b o,b≠e->h1.get? b=some o->((h1.push { cls:=.type "traceback",dict:=none,data:=.fields ([hd,.ref L,.none,rawInt L,.none]++(if pl.isEmpty then List.replicate 6 Value.none else pl)).toArray }).update e (Obj.mapFields (·.setIfInBounds 1 (Value.ref h1.objs.size)))).get? b=some o:=λb o hb e1=>by
  rw[Heap.get?_update_other _ _ (Ne.symm hb)]
  exact Heap.get?_push_of_some _ e1
 refine h _ h1.objs.size _ _ (λb o e1 hb hnf=>keep b o hb ((hs1.2.1 b hnf).trans e1)) (λb o e1 hb=> ?_) (Heap.get?_update_self _ (Heap.get?_push_of_some _ he1) (Obj.isFreed_of_fields hd3)) (by rw[hs1.1];exact Nat.le_refl _)
  ((Heap.get?_update_other _ _ (Ne.symm hTe)).trans (Heap.get?_push_size _ rfl)) rfl ?_
 ·obtain⟨sl,e2⟩:=hs1.2.2 b o e1
  exact⟨sl,keep b _ hb e2⟩
 ·first | (simp;done) | (rcases C0 with rfl | ⟨_,_,_,_,_,_,_,rfl⟩<;>simp)
structure TK(fr:List Addr)(bad:Addr->Prop)(H:Hp)(e:Addr)(cls:Value)(h h':Heap):Prop where
 ch:∃ ch:List Addr,(∀ b∈ch,¬ bad b/\H b=none/\∃ o vs,h.get? b=some o/\o.data=.fields vs)/\(∀ b o,h.get? b=some o->b∉ch->b∉fr->h'.get? b=some o) ∧
  (∀ b o,h.get? b=some o->b∉ch->∃ sl,h'.get? b=some { o with slots:=sl })
 fly:Fly bad H h' e cls
theorem c9{A2:Around}{E2:Value->Shared->Prop}{base:Heap}{env:Env}{outer:List Env}{L e:Addr}{cls:Value}{bad:Addr->Prop}{H:Hp}{Q:Unit->Shared->Prop}
  (JZ:A.frames=some (env::outer)) (hl:s.heap.FunFrames base (env::outer)) (hf:env.frame=some L) (F:Fly bad H s.heap e cls) (hb:∀ a,s.heap.objs.size<=a->¬ bad a) (hH:∀ a,s.heap.objs.size<=a->H a=none)
  (h:∀ h',TK (DW (env::outer)) bad H e cls s.heap h'->Q () { s with heap:=h' }) :
  wpAny M A (noteFrame (.ref e) env) (λ_ s2=>wpAny M A2 (setFlight (.ref e) none) Q E2 s2) E s:=by
 obtain⟨nb,fr,oe,vs,he,JY,MV,hd,htb⟩:=F
 have rest:∀ (s1:Shared) (ch:List Addr) (h':Heap) (T:Addr) (oT:Obj) (ts:Array Value) (oe1:Obj),(∀ b o,s.heap.get? b=some o->s1.heap.get? b=some o\/b∈ch)->s1.heap.objs.size=s.heap.objs.size->e∈ch->(∀ b∈ch,¬ bad b/\H b=none/\∃ o vs,s.heap.get? b=some o/\o.data=.fields vs) →
   oe1.cls=cls->oe1.dict=none->oe1.data=.fields vs->1<vs.size →
   (∀ b o,s1.heap.get? b=some o->b≠e->b∉DW (env::outer)->h'.get? b=some o)->(∀ b o,s1.heap.get? b=some o->b≠e->∃ sl,h'.get? b=some { o with slots:=sl }) →
   h'.get? e=some (oe1.mapFields (·.setIfInBounds 1 (.ref T)))->s1.heap.objs.size<=T->h'.get? T=some oT->oT.data=.fields ts->ts[3]? =some (rawInt L)->wpAny M A2 (setFlight (.ref e) none) Q E2 { s with heap:=h' }:=by
  intro s1 ch h' T oT ts oe1 hk1 hsz hech DE hcls1 hdict1 hd1 hv k1 k2 e1 hT e2 hdT h3
  have hT':s.heap.objs.size<=T:=hsz ▸ hT
  have hTe:T≠e:=Ne.symm (ER (Heap.lt_size he) hT')
  have hde:=Obj.data_mapFields hd1 (·.setIfInBounds 1 (Value.ref T))
  unfold setFlight
  refine wpAny_bind (wpAny_field e1 hde (x:=.ref T) (by simp[hv]) ?_)
  rw[if_pos (show(Value.ref T != Value.none)=true from by simp)]
  have hs3:3<ts.size:=(Array.getElem?_eq_some_iff.mp h3).1
  refine wpAny_setField e2 hdT hs3 (h _ ?_)
  have oth:∀ b,b≠T->(h'.update T (Obj.mapFields (·.setIfInBounds 3 ((none:Option Addr).elim Value.none λf=>rawInt f)))).get? b=h'.get? b:=λb hb'=>Heap.get?_update_other _ _ (Ne.symm hb')
  have ltT:∀ b o,s.heap.get? b=some o->b≠T:=λb o eb=>ER (Heap.lt_size eb) hT'
  refine⟨⟨ch,DE,λb o eb hbc hbf=> ?_,λb o eb hbc=> ?_⟩,nb,fr,_,_,(oth e (Ne.symm hTe)).trans e1,(Obj.cls_mapFields _ _).trans hcls1,?_,hde,.inr ⟨T,_,_,by simp[hv],hb T hT',hH T hT',hTe,Heap.get?_update_self _ e2 (Obj.isFreed_of_fields (Obj.data_mapFields hdT _)),Obj.data_mapFields hdT _,by simp[hs3]⟩⟩
  ·rw[oth b (ltT b o eb)]
   rcases hk1 b o eb with z | z
   ·exact k1 b o z (λz'=>hbc (z' ▸ hech)) hbf
   ·exact absurd z hbc
  ·rw[oth b (ltT b o eb)]
   rcases hk1 b o eb with z | z
   ·exact k2 b o z (λz'=>hbc (z' ▸ hech))
   ·exact absurd z hbc
  ·obtain⟨c1,c2,c3,c4⟩:=oe1
   dsimp only at hd1
   subst hd1
   exact hdict1
 unfold noteFrame
 simp only[hf]
 rcases htb with h1 | ⟨T0,oT0,ts0,h1,nbT,frT,neT,eT,dT,h3⟩
 ·have hv:1<vs.size:=(Array.getElem?_eq_some_iff.mp h1).1
  refine wpAny_bind (wpAny_field he hd h1 ?_)
  rw[if_neg (by decide)]
  refine c8 JZ hl hf he hd hv λh' T oT ts k1 k2 e1 hT e2 hdT h3=> ?_
  exact rest s [e] h' T oT ts oe (λb o eb=>.inl eb) rfl (by simp) (λb hb'=>by rw[List.mem_singleton]at hb';subst hb';exact⟨nb,fr,oe,vs,he,hd⟩) JY MV hd hv k1 k2 e1 hT e2 hdT h3
 ·have hv:1<vs.size:=(Array.getElem?_eq_some_iff.mp h1).1
  refine wpAny_bind (wpAny_field he hd h1 ?_)
  rw[if_pos (show(Value.ref T0 != Value.none)=true from by simp)]
  refine wpAny_bind (wpAny_field eT dT h3 ?_)
  rw[if_neg (show ¬ ((Value.none == rawInt L)=true)from by simp[rawInt])]
  refine wpAny_bind (wpAny_setField eT dT (Array.getElem?_eq_some_iff.mp h3).1 ?_)
  have oth:∀ b,b≠T0->(s.heap.update T0 (Obj.mapFields (·.setIfInBounds 3 Value.none))).get? b=s.heap.get? b:=λb hb'=>Heap.get?_update_other _ _ (Ne.symm hb')
  have nf:∀ b o,s.heap.get? b=some o->(∀ vs,o.data≠.fields vs)->b≠T0:=λb o eb hn z=>by rw[z,eT]at eb;cases eb;exact hn ts0 dT
  refine c8 JZ (hl.of_keeps λb o eb hn=>⟨o,(oth b (nf b o eb hn)).trans eb,rfl⟩) hf ((oth e (Ne.symm neT)).trans he) hd hv λh' T oT ts k1 k2 e1 hT e2 hdT h3'=> ?_
  exact rest { s with heap:=s.heap.update T0 (Obj.mapFields (·.setIfInBounds 3 Value.none)) } [e,T0] h' T oT ts oe
   (λb o eb=>by
    by_cases z:b=T0
    ·exact .inr (by simp[z])
    ·exact .inl ((oth b z).trans eb))
   (Heap.size_after_update ..) (by simp)
   (λb hb'=>by
    rcases List.mem_cons.mp hb' with z | z
    ·subst z;exact⟨nb,fr,oe,vs,he,hd⟩
    ·rw[List.mem_singleton]at z;subst z;exact⟨nbT,frT,oT0,ts0,eT,dT⟩)
   JY MV hd hv k1 k2 e1 hT e2 hdT h3'
end
def Cx.bad(X:Cx)(AA:List (Addr × Obj)):Addr->Prop:=λa=>X.s₀.heap.get? a≠none\/∃ p∈X.pn++AA,p.1=a
structure XOk(X:Cx)(E:St->XK):Prop where
 po:PassesOwn (model X.prog X.w) X.A X.env X.xe
 ex:X.ex=[]
 calm:X.calm=true
 go:∀ (AA:List (Addr × Obj)) (σ:St) (H:Hp) (s:Shared) (e:Addr) (cls:Value),Inv X AA σ H s->Fly (X.bad AA) H s.heap e cls->E σ cls none H->X.xe (.ref e) s
section
variable{X:Cx}{AA:List (Addr × Obj)}{σ:St}{H:Hp}{s:Shared}
theorem Inv.notbad(I:Inv X AA σ H s)(hx:X.ex=[]){a:Addr}(h:s.heap.get? a=none):¬ X.bad AA a:=λz=>by
 rcases z with z | ⟨p,hp,rfl⟩
 ·cases q:X.s₀.heap.get? a with
  | none=>exact z q
  | some o =>
   obtain⟨o',e⟩:=I.base.there a o q (by rw[hx];simp)
   rw[h]at e;cases e
 ·have:=(I.pin p hp).1
  rw[h]at this;cases this
theorem dA{h:Heap}{a:Addr}(z:h.objs.size<=a):h.get? a=none:=by
 cases q:h.get? a with
 | none=>rfl
 | some o=>exact absurd (Nat.lt_of_lt_of_le (Heap.lt_size q) z) (Nat.lt_irrefl _)
theorem Inv.noted{e:Addr}{cls:Value}{h':Heap}(I:Inv X AA σ H s)(N:TK (DW X.stack) (X.bad AA) H e cls s.heap h'):Inv X AA σ H { s with heap:=h' }:=by
 obtain⟨⟨ch,DE,k1,k2⟩,_⟩:=N
 obtain⟨mL,⟨oL,esL,epL,hoL,dL,rL⟩,_⟩:=id I.loc
 have chne:∀ b∈ch,∀ o,s.heap.get? b=some o->∃ vs,o.data=.fields vs:=λb hb o eb=>by
  obtain⟨_,_,o',vs,e',d⟩:=DE b hb
  rw[eb]at e';cases e'
  exact⟨vs,d⟩
 have hL:X.env.locals∉ch:=λz=>by
  obtain⟨vs,d⟩:=chne _ z _ hoL
  rw[dL]at d;cases d
 refine I.stepN (g':=s.gens) (t':=s.toks) (d':=s.drawn) (ch:=ch) (λb hb=>⟨.inr ?_,λz=>hL (z ▸ hb),λx c ec z=> ?_,λp hp z=>(DE b hb).1 (.inr ⟨p,hp,z⟩)⟩)
  (λb o hbL hbf hbc eb _=>k1 b o eb hbc λz=>(List.mem_cons.mp (I.stkSub b z)).elim hbL hbf) (λb o _ _ hbc eb _=>k2 b o eb hbc) (λ_ _ _ _ n=>n) (λb o hbc eb=> ?_) (λ_ _ q=>q) (λ_ _ _ q=>q) (λb ps q=>⟨#[],by rw[q];simp⟩) (λm hm=> ?_) (λb o eb=> ?_) I.bare
 ·cases q:X.s₀.heap.get? b with
  | none=>rfl
  | some o=>exact absurd (.inl (by rw[q];simp)) (DE b hb).1
 ·obtain⟨v,oc,hoc,hd⟩:=I.cell x c ec
  obtain⟨vs,d⟩:=chne c (z ▸ hb) oc hoc
  rw[hd]at d;cases d
 ·obtain⟨sl,q⟩:=k2 b o eb hbc
  exact⟨_,q⟩
 ·obtain⟨o',es',ep',ho',r'⟩:=hm
  rw[hoL]at ho';cases ho'
  obtain⟨sl,q⟩:=k2 _ _ hoL hL
  exact⟨_,es',ep',q,r'⟩
 ·refine(I.hok b o eb).stay (λc u hc q=>k1 c u q ?_ ?_) (λ_ q=>q) λ_ _ q=>q
  ·intro z
   have fr:=(DE c z).2.1
   rcases hc with rfl | hc
   ·rw[eb]at fr;cases fr
   ·rw[hc]at fr;cases fr
  ·intro z
   have fr:=I.stkFree c z
   rcases hc with rfl | hc
   ·rw[eb]at fr;cases fr
   ·rw[hc]at fr;cases fr
def DZ(P:Program)(w:World):FL:=λouter H s E e s'=>∃ (ea:Addr) (cls:Value) (H':Hp),e=.ref ea/\s'.os=s.os/\AllBare s'.gens/\Un (DW outer) [] H H' s.heap s'.heap/\HOk P w H' s'.heap/\Fly (λa=>s.heap.get? a≠none) H' s'.heap ea cls/\E cls none H'
theorem dB{P:Program}{w:World}{outer:List Env}{H:Hp}{s:Shared}{e:Value}{s':Shared}(h:DZ P w outer H s (λ_ _ _=>False) e s'):False:=by
 obtain⟨_,_,_,_,_,_,_,_,_,f⟩:=h
 exact f
theorem XOk.passes{E:St->XK}(x:XOk X E):GH (DZ X.prog X.w) X E:=λAA σ H s e s' I h=>by
 obtain⟨ea,cls,H',rfl,os,bare,un,hok,F,q⟩:=h
 refine x.go AA σ H' s' ea cls (I.call' (ch:=[]) os un hok bare λb z=>absurd z (by simp)) (F.mono λa z=> ?_) q
 rcases z with z | ⟨p,hp,rfl⟩
 ·cases q0:X.s₀.heap.get? a with
  | none=>exact absurd q0 z
  | some o =>
   obtain⟨o',e⟩:=I.base.there a o q0 (by rw[x.ex];simp)
   rw[e];simp
 ·rw[(I.pin p hp).1];simp
theorem G7{P:Program}{w:World}:GH (DZ P w) X (λ_=>E0):=λ_ _ _ _ _ _ _ h=>(dB h).elim
end
theorem wR{P:Program}{w:World}{K:W.Frag}{mg:Str->Option Value}{base:Heap}{N:List Str}{qual:Str}{scope:Scope}{f:Addr}{cd:Value}{A:Around}{outer:List Env}{s:Shared}{H:Hp}{E:XK} :
  XOk (GI (DZ P w) P w K mg base N qual scope f cd A outer s H E) (λ_=>E) where
 po:=PassesOwn.leaving
 ex:=rfl
 calm:=rfl
 go:=λAA σ H' s' e cls I F q=>by
  have JZ:(A.deeper (envOfC qual scope s.heap.objs.size f cd)).frames=some (envOfC qual scope s.heap.objs.size f cd::outer):=I.ok.frames
  show wpAny _ _ (leaving _ _) _ _ _
  unfold leaving
  refine wpAny_bind (c9 JZ I.stack rfl F (λa z=>I.notbad rfl (dA z)) (λa z=>I.hok.fresh z) λh' N=> ?_)
  have I':=I.noted N
  exact⟨e,cls,H',rfl,I'.os,I'.bare,I'.base,I'.hok,N.fly.mono λa z=>.inl z,q⟩
structure Exc(K:W.Frag)(C:Addr):Prop where
 ex:W.excIn K C [.type "ValueError",.type "Exception",.type "BaseException",.type "object"] "ValueError.__new__"=true
theorem Exc.obj{K:W.Frag}{C:Addr}{h:Heap}(x:Exc K C)(X:K.In h):∃ (tl:List Value) (N:Addr) (nm q:Str) (bs:List Value) (hdct:Bool) (sn:List Str) (sub:List Value) (ab:Bool) (col:Option Bool) (dd:Option Addr) (k0 k1 k2 k3 k5:Option Value) (mN:Str->Option Value),
  h.get? C=some (excClassObj nm q C N bs tl hdct sn sub ab col dd k0 k1 k2 k3 k5 "ValueError.__new__")/\h.Ns N mN/\mN "__init__"=none/\OwnTail h [.type "ValueError",.type "Exception",.type "BaseException",.type "object"] tl:=by
 have q:=x.ex
 unfold W.excIn at q
 split at q
 ·rename_i dd cd sl ho
  split at q
  ·rename_i C' bm k0 k1 k2 k3 n k5 hm hs
   simp only[Bool.and_eq_true,beq_iff_eq,Bool.not_eq_true']at q
   obtain⟨⟨⟨⟨⟨rfl,rfl⟩,hdel⟩,ht⟩,hok⟩,hni⟩:=q
   obtain⟨nm,bs,mro,ns,qn,hd,sn,sub,ab,col,del⟩:=cd
   dsimp only at hm hdel hok hni
   subst hm hdel
   obtain⟨l⟩:=sl
   simp only at hs
   subst hs
   exact⟨bm,ns,nm,qn,bs,hd,sn,sub,ab,col,dd,k0,k1,k2,k3,k5,_,X _ _ ho,.of_isNs (W.isNs_of_in X hok),W.nsMap_none_of_in X hok hni,W.tail_of_in X ht⟩
  ·cases q
 ·cases q
def FO(C:Addr)(E:St->XK)(t:TA):TS:=λ_ σ H=>t σ H λvs H1=>vs.length<=sizeLine/\E σ (.ref C) none H1
section
variable{X:Cx}{E:St->XK}{C:Addr}{x:Str}{np DL pos:Pos}{e:Expr}{es:List Expr}{t:TA}
theorem GK(hx:XOk X E)(c:Exc X.K C)(hg:Gl X x)(hm:X.mg x=some (.ref C))(ha:PA X (e::es) t)(hdb:(x ==("__debug__":Str))=false:=by decide)
  (he:starEach (e::es) X.env=(false,eval e X.env)::starEach es X.env:=by rfl) (C0:(backTo DL (starEach es X.env)).any (·.1)=false:=by rfl) :
  PS X (.Raise (some (.Call (.Name x np) (e::es) [] DL)) none pos) (FO C E t):=by
 intro AA s σ H D I h
 obtain⟨tl,N,nm,q,bs,hdct,sn,sub,ab,col,dd,k0,k1,k2,k3,k5,mN,hC,hN,hni,T⟩:=c.obj I.mod.kin
 have hpl2:(backTo DL (starEach (e::es) X.env)).any (·.1)=false:=by
  rw[he]
  show(false || (backTo DL (starEach es X.env)).any (·.1))=false
  rw[C0];rfl
 refine wpAny_Raise_call_subT (C:=C) (nm:=nm) (q:=q) (N:=N) (bs:=bs) (bm:=tl) (hdct:=hdct) (sn:=sn) (sub:=sub) (ab:=ab) (col:=col) (dd:=dd) (k0:=k0) (k1:=k1) (k2:=k2) (k3:=k3) (k5:=k5)
  PySem.F.excBase_ValueError (mN:=mN) (T.hasType PySem.F.excBase_ValueError.hasBase) (I.ok.hd hx.calm) hpl2 hni (MZ I hg hm ⟨rfl,?_⟩ hdb)
 have hq:=ha DL AA s σ H _ I h
 rw[he]at hq ⊢
 refine Calls.evalArgs_plain (AT hq λus s1 ⟨vs,H1,I1,r,hz,q1⟩=>⟨rfl,?_,I1.bk _ _ hC,hN.keeps I1.bk,T.keeps I1.bk,λh' ea hM=> ?_⟩)
 ·show us.length<=_
  rw[<-r.length];exact hz
 ·have I2:Inv X AA σ H1 { s1 with heap:=h' }:=I1.kept (t':=s1.toks) hM.keeps
  obtain⟨tt,h1,h2,h3⟩:=hM.there
  refine hx.go AA σ H1 _ ea (.ref C) I2 ⟨λz=>I1.notbad hx.ex hM.new z,I1.hok.nh hM.new,_,_,h1,rfl,rfl,rfl,.inl rfl⟩ q1
end
end L2
namespace L2
section
variable(P:Program)(w:World)(K:W.Frag)(mg:Str->Option Value)(base:Heap)
structure DP(k:Nat)(x:Str)(ps:List Str)(sp:Sp):Prop where
 ex:∃ (f:Addr) (fd:FuncData),FnOk P w K mg base (DZ P w) k f fd ps sp/\mg x=some (.ref f)/\W.keepIn K (.ref f)=true/\Binds K fd ps []
structure BU(C:Addr)(k:Nat)(m:Str)(ps:List Str)(sp:Sp):Prop where
 ex:∃ (f:Addr) (fd:FuncData),FnOk P w K mg base (DZ P w) k f fd ps sp/\PM K C m f/\Binds K fd ps []
structure JB(C:Addr)(k:Nat)(x:Str)(ps:List Str)(sp:Sp):Prop where
 ex:∃ (f:Addr) (fd:FuncData),FnOk P w K mg base (DZ P w) k f fd ps sp/\Mk K C f/\mg x=some (.ref C)/\Binds K fd ps []
end
section
variable{X:Cx}{E:St->XK}{k:Nat}{x m:Str}{ps:List Str}{sp:Sp}{C:Addr}{p pos CU:Pos}{e o:Expr}{es:List Expr}{ta:TE}{t:TA}
theorem TM(c:DP X.prog X.w X.K X.mg X.base k x ps sp)(hr:Room k X.A)(hp:GH (DZ X.prog X.w) X E)(hg:Gl X x)(ha:PA X (e::es) t)(hdb:(x ==("__debug__":Str))=false:=by decide)
  (he:starEach (e::es) X.env=(false,eval e X.env)::starEach es X.env:=by rfl) (C0:(backTo pos (starEach es X.env)).any (·.1)=false:=by rfl):PE X (.Call (.Name x p) (e::es) [] pos) (CW sp [] E t):=by
 obtain⟨f,fd,F,hm,hk,hb⟩:=c.ex
 exact u4 F hr hg hm hk hb .nil hp ha hdb he C0
theorem G8{pl:Sem Bool}(he:PE X o ta)(cl:Cls X.K C)(c:BU X.prog X.w X.K X.mg X.base C k m ps sp)(hr:Room k X.A)(hp:GH (DZ X.prog X.w) X E)(ha:PA X (e::es) t)
  (hst:starEach (e::es) X.env=(false,eval e X.env)::starEach es X.env:=by rfl) (C0:(backTo pos (starEach es X.env)).any (·.1)=false:=by rfl)
  (ht:eval (.Call (.Attribute o m CU) (e::es) [] pos) X.env=(do
   let ov ← eval o X.env
   standAt CU.atName
   let (f,first) ← holding [ov] (getMethod ov m pl)
   callWith pos f first (backTo pos (starEach (e::es) X.env)) (backToKw pos (keywordEach [] X.env))):=by rfl):PE X (.Call (.Attribute o m CU) (e::es) [] pos) (AV C m sp [] E ta t):=by
 obtain⟨f,fd,F,hm,hb⟩:=c.ex
 exact u5 he cl hm F hr hb .nil hp ha hst C0 ht
theorem wS{pl:Sem Bool}(he:PE X o ta)(cl:Cls X.K C)(c:BU X.prog X.w X.K X.mg X.base C k m ps sp)(hr:Room k X.A)(hp:GH (DZ X.prog X.w) X E)
  (ht:eval (.Call (.Attribute o m CU) [] [] pos) X.env=(do
   let ov ← eval o X.env
   standAt CU.atName
   let (f,first) ← holding [ov] (getMethod ov m pl)
   callWith pos f first (backTo pos (starEach [] X.env)) (backToKw pos (keywordEach [] X.env))):=by rfl):PE X (.Call (.Attribute o m CU) [] [] pos) (AV C m sp [] E ta BY):=by
 obtain⟨f,fd,F,hm,hb⟩:=c.ex
 exact u6 he cl hm F hr hb .nil hp ht
theorem LI(c:JB X.prog X.w X.K X.mg X.base C k x ps sp)(hr:Room (k+1) X.A)(hp:GH (DZ X.prog X.w) X E)(hg:Gl X x)(ha:PA X (e::es) t)(hdb:(x ==("__debug__":Str))=false:=by decide)
  (he:starEach (e::es) X.env=(false,eval e X.env)::starEach es X.env:=by rfl) (C0:(backTo pos (starEach es X.env)).any (·.1)=false:=by rfl):PE X (.Call (.Name x p) (e::es) [] pos) (HY C sp [] E t):=by
 obtain⟨f,fd,F,M,hm,hb⟩:=c.ex
 exact u8 M F hr hg hm hb .nil hp ha hdb he C0
end
theorem Fun.okE{P:Program}{w:World}{K:W.Frag}{mg:Str->Option Value}{base:Heap}{x qual:Str}{st:Stmt}{f:Addr}{fd:FuncData}{N ps:List Str}{k:Nat}{sp:Sp}(F:Fun K x qual st f fd)(S:FnScope N ps (AW st))(len:∀ vs H Q E,sp vs H Q E->vs.length=ps.length)
  (O0:∀ (BP:Value) (A:Around) (outer:List Env) (s:Shared) (H:Hp) (vs:List V) (Q:VK) (E:XK),Room k (A.deeper (envOfC qual (AW st) s.heap.objs.size f BP))->sp vs H Q E →
   ∃ t,PSs (GI (DZ P w) P w K mg base N qual (AW st) f BP A outer s H E) (F1 st) t/\t { nx:=λ_ H'=>Q .non H',rt:=Q } (A0 N vs) H):FnOk P w K mg base (DZ P w) (k+1) f fd ps sp:=by
 obtain⟨oc,od,kV,doc,pm,an,BP,ct,osl,rfl,l,c⟩:=F.ex
 exact bV l c S len λA outer s H vs Q E hr h=>O0 BP A outer s H vs Q E hr h
def GV(mg:Str->Option Value)(x:Str)(v:V):Prop:=∃ u,mg x=some u/\RelV v u
theorem EZ{X:Cx}{x:Str}{v:V}{pos:Pos}(g:GV X.mg x v)(hg:Gl X x)(hd:(x ==("__debug__":Str))=false:=by decide):PE X (.Name x pos) (tC v):=by
 obtain⟨u,hm,r⟩:=g
 exact tF hg hm r hd
theorem dC{α :Type}(p: α ->Bool):∀ (l:List α) (i:Nat),(∀ x,l[i]? =some x->p x=false)->(l.eraseIdx i).find? p=l.find? p
 | [],_,_=>rfl
 | x::r,0,h=>by
  have:p x=false:=h x rfl
  simp[List.eraseIdx,List.find?,this]
 | x::r,i+1,h=>by
  rw[List.eraseIdx_cons_succ]
  simp only[List.find?_cons]
  rw[dC p r i λy hy=>h y (by simpa using hy)]
theorem wT{v:Value}{x y:Str}(h:v.isStr x=true)(hxy:y≠x):v.isStr y=false:=by
 cases v with
 | str z t =>
  have e:z=x:=by simpa [Value.isStr]using h
  subst e
  simp only[Value.isStr]
  exact beq_eq_false_iff_ne.mpr (Ne.symm hxy)
 | _=>simp[Value.isStr]at h
theorem wU{M:Model}{A:Around}{E:Value->Shared->Prop}{s:Shared}{a:Addr}{m:Str->Option Value}{name:Str}{Q:Bool->Shared->Prop}(hn:s.heap.Ns a m)
  (hQ:∀ h' m',h'.Ns a m'->(∀ y,y≠name->m' y=m y)->Heap.SameBut a s.heap h'->Q (m name).isSome { s with heap:=h' }):wpAny M A (nsDel a name) Q E s:=by
 obtain⟨o,es,ep,ho,hd,hk,hm⟩:=id hn
 have hno:es.any (·.refKey)=false:=by
  rw[Array.any_eq_false'];intro e' he';obtain⟨n',t',h'⟩:=hk e' he';simp[DictEntry.refKey,h']
 have hiff:(m name).isSome=es.any (·.key.isStr name):=by
  rw[<-hm name]
  simp only[nsFind,findBy,Option.isSome_map]
  obtain⟨l⟩:=es
  rw[Bool.eq_iff_iff]
  simp[List.find?_isSome]
 have hhas:nsHas name o=pure (es.any (·.key.isStr name)):=by
  rw[nsHas_eq];unfold nsHasByArray;rw[hd]
  show(if(es.any λx=>x.key.isStr name)=true then _ else _)=_
  generalize (es.any λx=>x.key.isStr name)=b'
  cases b'<;>simp[hno]
 unfold nsDel
 refine wpAny_bind (wpAny_loadPart ho ?_)
 rw[hhas]
 refine wpAny_bind (wpAny_pure ?_)
 rw[<-hiff]
 cases hmn:(m name).isSome
 ·have z:=hQ s.heap m hn (λ_ _=>rfl) (.refl ..)
  rw[hmn]at z
  exact wpAny_pure z
 ·refine wpAny_bind (wpAny_updatePart ho (wpAny_pure ?_))
  have key:∃ m',(s.heap.update a (Obj.dropName name)).Ns a m'/\∀ y,y≠name->m' y=m y:=by
   obtain⟨cl,d,dt,sl⟩:=o
   obtain rfl:dt=.dict es ep:=hd
   cases hi:es.findIdx? (·.key.isStr name)with
   | some i =>
    refine⟨_,⟨_,_,ep+1,Heap.get?_update_self _ ho (by simp only[Obj.dropName_eq,Obj.dropNameByArray,hi]<;>rfl),(by simp only[Obj.dropName_eq,Obj.dropNameByArray,hi]<;>rfl),hk.erase i,λ_=>rfl⟩,λy hy=> ?_⟩
    rw[<-hm y]
    unfold nsFind findBy
    obtain⟨l⟩:=es
    congr 1
    have hi':l.findIdx? (·.key.isStr name)=some i:=by simpa using hi
    obtain⟨BE,hp,_⟩:=List.findIdx?_eq_some_iff_getElem.mp hi'
    show Array.find? _ (Array.eraseIdxIfInBounds ⟨l⟩ i)=_
    rw[<-Array.find?_toList,<-Array.find?_toList]
    have:(Array.eraseIdxIfInBounds ⟨l⟩ i).toList=l.eraseIdx i:=by
     rw[Array.eraseIdxIfInBounds_eq]
     split
     ·simp
     ·rename_i hz;exact absurd BE (by simpa using hz)
    rw[this]
    refine dC _ l i λx hx=> ?_
    rw[List.getElem?_eq_getElem BE]at hx
    cases hx
    exact wT hp hy
   | none=>exact⟨m,⟨_,_,ep,Heap.get?_update_self _ ho (by simp only[Obj.dropName_eq,Obj.dropNameByArray,hi]<;>rfl),(by simp only[Obj.dropName_eq,Obj.dropNameByArray,hi]<;>rfl),hk,hm⟩,λ_ _=>rfl⟩
  obtain⟨m',hm',hy⟩:=key
  have z:=hQ _ m' hm' hy (Heap.SameBut.update ..)
  rw[hmn]at z
  exact z
theorem PR{X:Cx}{AA:List (Addr × Obj)}{σ:St}{H:Hp}{s:Shared}{A:Around}{E:Value->Shared->Prop}{i:Nat}{n:Str}{pos:Pos}{Q:Unit->Shared->Prop}(I:Inv X AA σ H s)(hN:X.N.Nodup)(hi:X.N[i]? =some n)(hl:X.env.scope.names.lookup n=some .local)
  (h:∀ s',Inv X AA (σ.set i none) H s'->Q () s'):wpAny (model X.prog X.w) A (do bindName X.env n .none;unbindBehindTheSuite X.env n pos) Q E s:=by
 have hp:(X.env.scope.kind == .class || (X.env.scope.kind == .module && X.env.locals != X.env.globals))=false:=by rw[I.ok.kind];rfl
 have hk:X.env.kindOf n=some .local:=hl
 have hiσ:i<σ.length:=by rw[I.len];exact(List.getElem?_eq_some_iff.mp hi).1
 refine wpAny_bind (wpAny_bindName (O5 I hN hi (.inl hl) (show RelV .non Value.none from rfl) (λs1 I1=> ?_) (.inr hl)))
 unfold unbindBehindTheSuite
 refine wpAny_onRaise ?_
 unfold unbindName
 refine wpAny_bind (wpAny_point (wpAny_bind ?_))
 unfold deleteName
 simp only[hk,hp]
 rw[if_neg (by decide)]
 obtain⟨m,hn,hloc⟩:=id I1.loc
 have hmn:∃ u,m n=some u:=by
  obtain⟨u,_,l⟩:=hloc i n .non hi (by rw[List.getElem?_set_self hiσ]) (.inl hl)
  rcases l with⟨_,e⟩ | ⟨z,_⟩
  ·exact⟨u,e⟩
  ·rw[hk]at z;rcases z with z | z<;>cases z
 refine wpAny_bind (wU hn λh' m' hn' hy hs=> ?_)
 obtain⟨u,hu⟩:=hmn
 rw[hu]
 simp only[Option.isSome_some,Bool.not_true,Bool.false_eq_true,if_false]
 refine wpAny_pure (wpAny_point (h _ ?_))
 have nL:∀ b o,X.s₀.heap.get? b=some o->b≠X.env.locals:=λb o e=>ER (Heap.lt_size e) I1.ok.above
 refine⟨I1.ok,I1.os,I1.bare,⟨λb o e n' hb hx=>(hs.2 b (nL b o e)).trans (I1.base.keep b o e n' hb hx),λb o e n' hb hx=> ?_,I1.base.free,λb o e hx=> ?_,I1.base.tups,I1.base.frzs,I1.base.tbls⟩,⟨m',hn',λj y v e1 e2 e3=> ?_⟩,λx c e=> ?_,I1.free,I1.freeC,λp hp'=> ?_,λb o e=> ?_,?_⟩
 ·obtain⟨sl,q⟩:=I1.base.slot b o e n' hb hx
  exact⟨sl,(hs.2 b (nL b o e)).trans q⟩
 ·obtain⟨o',q⟩:=I1.base.there b o e hx
  exact⟨o',(hs.2 b (nL b o e)).trans q⟩
 ·have hj:j≠i:=λz=>by
   subst z
   rw[List.getElem?_set_self hiσ]at e2
   cases e2
  rw[List.getElem?_set_ne (Ne.symm hj)]at e2
  obtain⟨u',r',l⟩:=hloc j y v e1 (by rw[List.getElem?_set_ne (Ne.symm hj)];exact e2) e3
  refine⟨u',r',?_⟩
  rcases l with⟨z,e⟩ | ⟨z,c,e,q⟩
  ·exact .inl ⟨z,by rw[hy y λz=>hj (SE hN e1 (z ▸ hi))];exact e⟩
  ·exact .inr ⟨z,c,e,q.sameBut hs (I1.cne y c e)⟩
 ·obtain⟨v,q⟩:=I1.cell x c e
  exact⟨v,q.sameBut hs (I1.cne x c e)⟩
 ·obtain⟨q1,q2,q3,q4⟩:=I1.pin p hp'
  exact⟨(hs.2 _ q3).trans q1,q2,q3,q4⟩
 ·refine(I1.hok b o e).stay (λc u' hc q=>(hs.2 c ?_).trans q) (λ_ q=>q) λ_ _ q=>q
  intro z
  have fr:=I1.free
  rw[<-z]at fr
  rcases hc with rfl | hc
  ·rw[e]at fr;cases fr
  ·rw[hc]at fr;cases fr
 ·rw[List.length_set];exact I.len
abbrev Cx.tri(X:Cx)(pn:List (Addr × Obj))(xe:Value->Shared->Prop):Cx:={ X with pn:=pn,xe:=xe }
abbrev Cx.hand(X:Cx)(e:Addr):Cx:={ X with A:=X.A.mark (some (.ref e)),calm:=false,xe:=λ_ _=>False }
section
variable{X:Cx}{AA:List (Addr × Obj)}{σ:St}{H:Hp}{s:Shared}
theorem Cx.Ok.tri{pn:List (Addr × Obj)}{xe:Value->Shared->Prop}(ok:X.Ok):(X.tri pn xe).Ok :=
 ⟨ok.mod,ok.kind,ok.glob,ok.blt,ok.above,ok.inj,ok.has,ok.cab,ok.hd,ok.frames,ok.stk,ok.exf,ok.bs,ok.bsz,ok.noex,ok.exfs,ok.funs,ok.frf⟩
theorem Inv.tri{xe:Value->Shared->Prop}(I:Inv X AA σ H s):Inv (X.tri (X.pn++AA) xe) [] σ H s :=
 ⟨I.ok.tri,I.os,I.bare,I.base,I.loc,I.cell,I.free,I.freeC,λp hp=>I.pin p (by simpa using hp),I.hok,I.len⟩
theorem Cx.Ok.untri{pn:List (Addr × Obj)}{xe:Value->Shared->Prop}(ok:(X.tri pn xe).Ok):X.Ok :=
 ⟨ok.mod,ok.kind,ok.glob,ok.blt,ok.above,ok.inj,ok.has,ok.cab,ok.hd,ok.frames,ok.stk,ok.exf,ok.bs,ok.bsz,ok.noex,ok.exfs,ok.funs,ok.frf⟩
theorem Inv.untri{pl:List (Addr × Obj)}{xe:Value->Shared->Prop}(I:Inv (X.tri (X.pn++AA) xe) pl σ H s):Inv X AA σ H s :=
 ⟨I.ok.untri,I.os,I.bare,I.base,I.loc,I.cell,I.free,I.freeC,λp hp=>I.pin p (List.mem_append_left _ hp),I.hok,I.len⟩
theorem Cx.Ok.hand{e:Addr}(ok:X.Ok):(X.hand e).Ok :=
 ⟨ok.mod,ok.kind,ok.glob,ok.blt,ok.above,ok.inj,ok.has,ok.cab,(λz=>nomatch z),ok.frames,ok.stk,ok.exf,ok.bs,ok.bsz,ok.noex,ok.exfs,ok.funs,ok.frf⟩
theorem Inv.hand{e:Addr}(I:Inv X AA σ H s):Inv (X.hand e) AA σ H s:=⟨I.ok.hand,I.os,I.bare,I.base,I.loc,I.cell,I.free,I.freeC,I.pin,I.hok,I.len⟩
theorem Inv.unhand{e:Addr}(ok:X.Ok)(I:Inv (X.hand e) AA σ H s):Inv X AA σ H s:=⟨ok,I.os,I.bare,I.base,I.loc,I.cell,I.free,I.freeC,I.pin,I.hok,I.len⟩
end
def ID(e:Addr)(cls:Value):Heap->Prop:=λh=>∃ oe vs,h.get? e=some oe/\oe.cls=cls/\oe.dict=none/\oe.data=.fields vs
abbrev TH:=Value->Ends->St->Hp->Prop
def TN:TH:=λ_ _ _ _=>False
def Ends.drop(D:Ends)(i:Nat):Ends:={ nx:=λσ H=>D.nx (σ.set i none) H,rt:=D.rt,bk:=λσ H=>D.bk (σ.set i none) H,ct:=λσ H=>D.ct (σ.set i none) H }
def TQ(p:Value->Option Bool)(i:Nat)(ts:TS)(rest:TH):TH:=λcls D σ H =>
 (p cls=some true/\∀ e,H e=none->ts (D.drop i) (σ.set i (some (.ref e))) (upd H e (.ext (ID e cls))))\/(p cls=some false/\rest cls D σ H)
def PH(X:Cx)(hs:List ExceptHandler)(th:TH):Prop :=
 ∀ (AA:List (Addr × Obj)) (s:Shared) (σ:St) (H:Hp) (D:Ends) (e:Addr) (cls:Value),X.ex=[]->Inv X AA σ H s->Fly (X.bad AA) H s.heap e cls->th cls D σ H →
  wpAny (model X.prog X.w) X.A (handleBy (.ref e) X.env hs) (SP X AA D) X.xe s
def PX(X:Cx)(t:Expr)(p:Value->Option Bool):Prop :=
 ∀ (AA:List (Addr × Obj)) (s:Shared) (σ:St) (H:Hp) (e:Addr) (cls:Value) (b:Bool) (Q:Bool->Shared->Prop) (E:Value->Shared->Prop),Inv X AA σ H s->Fly (X.bad AA) H s.heap e cls->p cls=some b →
  (∀ s',Inv X AA σ H s'->Fly (X.bad AA) H s'.heap e cls->Q b s')->wpAny (model X.prog X.w) (X.A.mark (some (.ref e))) (eval t X.env) (λc s1=>wpAny (model X.prog X.w) (X.A.mark (some (.ref e))) (excMatches (.ref e) c) Q E s1) E s
def TR(tb:(St->XK)->TS)(th:TH):TS:=λD σ H=>tb (λσ' cls _ H'=>th cls D σ' H') D σ H
section
variable{X:Cx}{hs:List ExceptHandler}{h₀:ExceptHandler}{th:TH}{body:List Stmt}{tb:(St->XK)->TS}{pos:Pos}
theorem wV:PH X [] TN:=λ_ _ _ _ _ _ _ _ _ _ h=>h.elim
theorem wW{bad:Addr->Prop}{H:Hp}{h:Heap}{e:Addr}{cls:Value}{M:Model}(F:Fly bad H h e cls):W.Looks M h (typeOf (.ref e)) cls:=by
 obtain⟨_,_,oe,vs,h1,h2,_⟩:=F
 subst h2
 exact(W.Looks.ld h1).andThen .now
theorem wX{x:Str}{np:Pos}{C:Value}(hg:Gl X x)(hm:X.mg x=some C)(hd:(x ==("__debug__":Str))=false:=by decide):PX X (.Name x np) (λcls=>W.exmOne X.K cls C):=by
 intro AA s σ H e cls b Q E I F hp h
 have I2:Inv (X.hand e) AA σ H s:=I.hand
 refine MZ (X:=X.hand e) I2 hg hm ?_ hd
 exact W.exm_one I.kIn (wW F) hp _ _ _ s (λ_ _ z=>z) (h s I F)
theorem wY{M:Model}{A:Around}{E:Value->Shared->Prop}{s:Shared}{bad:Addr->Prop}{H:Hp}{fr:List Addr}{e:Addr}{cls:Value}{Q:Unit->Shared->Prop}(F:Fly bad H s.heap e cls)
  (h:∀ h',TK fr bad H e cls s.heap h'->Q () { s with heap:=h' }):wpAny M A (setFlight (.ref e) none) Q E s:=by
 have F0:=F
 obtain⟨nb,frr,oe,vs,he,JY,MV,hd,htb⟩:=F
 unfold setFlight
 rcases htb with h1 | ⟨T,oT,ts,h1,nbT,frT,neT,eT,dT,h3⟩
 ·refine wpAny_bind (wpAny_field he hd h1 ?_)
  rw[if_neg (by decide)]
  exact wpAny_pure (h s.heap ⟨⟨[],(λb hb=>nomatch hb),λb o eb _ _=>eb,λb o eb _=>⟨o.slots,eb⟩⟩,F0⟩)
 ·refine wpAny_bind (wpAny_field he hd h1 ?_)
  rw[if_pos (show(Value.ref T != Value.none)=true from by simp)]
  have hs3:3<ts.size:=(Array.getElem?_eq_some_iff.mp h3).1
  refine wpAny_setField eT dT hs3 (h _ ?_)
  have oth:∀ b,b≠T->(s.heap.update T (Obj.mapFields (·.setIfInBounds 3 ((none:Option Addr).elim Value.none λf=>rawInt f)))).get? b=s.heap.get? b:=λb hb'=>Heap.get?_update_other _ _ (Ne.symm hb')
  refine⟨⟨[T],λb hb=> ?_,λb o eb hb _=>(oth b λz=>hb (by simp[z])).trans eb,λb o eb hb=>⟨o.slots,(oth b λz=>hb (by simp[z])).trans eb⟩⟩,nb,frr,oe,vs,(oth e (Ne.symm neT)).trans he,JY,MV,hd,.inr ⟨T,_,_,h1,nbT,frT,neT,Heap.get?_update_self _ eT (Obj.isFreed_of_fields (Obj.data_mapFields dT _)),Obj.data_mapFields dT _,by simp[hs3]⟩⟩
  rw[List.mem_singleton]at hb
  subst hb
  exact⟨nbT,frT,oT,ts,eT,dT⟩
theorem SP.unhand{AA:List (Addr × Obj)}{D:Ends}{e:Addr}{f:Flow}{s:Shared}(ok:X.Ok)(h:SP (X.hand e) AA D f s):SP X AA D f s:=by
 cases f with
 | next=>obtain⟨σ1,H1,I1,q⟩:=h;exact⟨σ1,H1,I1.unhand ok,q⟩
 | brk=>obtain⟨σ1,H1,I1,q⟩:=h;exact⟨σ1,H1,I1.unhand ok,q⟩
 | cont=>obtain⟨σ1,H1,I1,q⟩:=h;exact⟨σ1,H1,I1.unhand ok,q⟩
 | ret u=>obtain⟨v,σ1,H1,I1,r,q⟩:=h;exact⟨v,σ1,H1,I1.unhand ok,r,q⟩
theorem wZ{t:Expr}{n:Str}{i:Nat}{b₀:Stmt}{suite:List Stmt}{hp:Pos}{p:Value->Option Bool}{ts:TS}{rest:List ExceptHandler}{tr:TH}(hN:X.N.Nodup)(hi:X.N[i]? =some n)(hl:X.env.scope.names.lookup n=some .local)(ht:PX X t p)
  (hsu:∀ e,PSs (X.hand e) (b₀::suite) ts) (hr:PH X rest tr):PH X (.ExceptHandler (some t) (some n) (b₀::suite) hp::rest) (TQ p i ts tr):=by
 intro AA s σ H D e cls hx I F h
 have hmain:∃ b,p cls=some b/\(b=true->∀ e,H e=none->ts (D.drop i) (σ.set i (some (.ref e))) (upd H e (.ext (ID e cls))))/\(b=false->tr cls D σ H):=by
  rcases h with⟨h1,h2⟩ | ⟨h1,h2⟩
  ·exact⟨true,h1,λ_=>h2,λz=>nomatch z⟩
  ·exact⟨false,h1,(λz=>nomatch z),λ_=>h2⟩
 obtain⟨b,hp',hT,hF⟩:=hmain
 refine wpAny_handleBy_cons (codeAny_handlers_test (ht AA s σ H e cls b _ _ I F hp' λs' I' F'=> ?_)) (by intro z;cases z)
 cases b with
 | false=>exact hr AA s' σ H D e cls hx I' F' (hF rfl)
 | true =>
  refine codeAny_handlers_suite_as (wY (fr:=DW X.stack) F' λh' N=> ?_)
  have I2:=I'.noted N
  obtain⟨nb,fr,oe,vs,he,JY,MV,hd,_⟩:=N.fly
  have I3:Inv X AA σ (upd H e (.ext (ID e cls))) { s' with heap:=h' }:=by
   have hs0:X.s₀.heap.get? e=none:=by
    cases q:X.s₀.heap.get? e with
    | none=>rfl
    | some o=>exact absurd (.inl (by rw[q];simp)) nb
   have ltH:∀ b o,H b=some o->b≠e:=λb o eb z=>by rw[z,fr]at eb;cases eb
   refine⟨I2.ok,I2.os,I2.bare,⟨I2.base.keep,I2.base.slot,λb o eb n' hx'=> ?_,I2.base.there,λb xs eb=> ?_,λb o u eb=> ?_,λb ps eb=> ?_⟩,I2.loc,I2.cell,?_,λx c ec=> ?_,λp hp=> ?_,I2.hok.track fr ?_,I2.len⟩
   ·rw[AK (λz=>by rw[z,hs0]at eb;cases eb)];exact I2.base.free b o eb n' hx'
   ·rw[AK (ltH _ _ (I2.base.tups b xs eb))];exact I2.base.tups b xs eb
   ·rw[AK (ltH _ _ (I2.base.frzs b o u eb))];exact I2.base.frzs b o u eb
   ·obtain⟨m,q⟩:=I2.base.tbls b ps eb
    exact⟨m,by rw[AK (ltH _ _ q)];exact q⟩
   ·obtain⟨m,⟨oL,es,ep,hoL,dL,_⟩,_⟩:=I2.loc
    rw[AK (λz=>by rw[z]at hoL;rw[show h'.get? e=some oe from he]at hoL;cases hoL;rw[hd]at dL;cases dL)]
    exact I2.free
   ·obtain⟨v,oc,hoc,hdc⟩:=I2.cell x c ec
    rw[AK (λz=>by rw[z]at hoc;rw[show h'.get? e=some oe from he]at hoc;cases hoc;rw[hd]at hdc;cases hdc)]
    exact I2.freeC x c ec
   ·obtain⟨q1,q2,q3⟩:=I2.pin p hp
    refine⟨q1,?_,q3⟩
    rw[AK (λz=>nb (.inr ⟨p,hp,z⟩))];exact q2
   ·refine⟨⟨oe,vs,he,JY,MV,hd⟩,⟨oe,he⟩,λh1 h2 hq k=> ?_⟩
    obtain⟨o1,v1,z1,z2⟩:=hq
    exact⟨o1,v1,k _ z1,z2⟩
  refine O5 I3 hN hi (.inl hl) (show RelV (.ref e) (.ref e)from rfl) (λs4 I4=> ?_) (.inr hl)
  refine wpAny_mono (hsu e AA s4 _ _ (D.drop i) I4.hand (hT rfl e fr)) (λf s5 h5=> ?_) λ_ _ z=>z.elim
  have h6:=h5.unhand I.ok
  show wpAny _ _ (do bindName X.env n .none;unbindBehindTheSuite X.env n hp) _ _ _
  cases f with
  | next =>
   obtain⟨σ1,H1,I1,q⟩:=h6
   exact PR I1 hN hi hl λs7 I7=>⟨_,H1,I7,q⟩
  | brk =>
   obtain⟨σ1,H1,I1,q⟩:=h6
   exact PR I1 hN hi hl λs7 I7=>⟨_,H1,I7,q⟩
  | cont =>
   obtain⟨σ1,H1,I1,q⟩:=h6
   exact PR I1 hN hi hl λs7 I7=>⟨_,H1,I7,q⟩
  | ret u =>
   obtain⟨v,σ1,H1,I1,r,q⟩:=h6
   exact PR I1 hN hi hl λs7 I7=>⟨v,_,H1,I7,r,q⟩
theorem w5(hx:X.ex=[])(hcalm:X.calm=true)(hst:X.stack=X.env::X.outer)(JZ:X.env.frame=some X.env.locals)(hb:∀ (E:St->XK) (pn:List (Addr × Obj)) (xe:Value->Shared->Prop),XOk (X.tri pn xe) E->PSs (X.tri pn xe) body (tb E))(hh:PH X (h₀::hs) th) :
  PS X (.Try body (h₀::hs) [] [] pos) (TR tb th):=by
 intro AA s σ H D I h
 refine wpAny_Try_except ?_
 let xe:Value->Shared->Prop:=λe s₁=>wpAny (model X.prog X.w) X.A (noteFrame e X.env) (λ_ s₂=>wpAny (model X.prog X.w) X.A (setFlight e none) (λ_ s₃=>wpAny (model X.prog X.w) X.A (handleBy e X.env (h₀::hs)) (SP X AA D) X.xe s₃) X.xe s₂) X.xe s₁
 have xok:XOk (X.tri (X.pn++AA) xe) (λσ' cls _ H'=>th cls D σ' H'):=by
  refine⟨PassesOwn.looking,hx,hcalm,λpl σ' H' s' e cls I' F' q=> ?_⟩
  have Iu:=I'.untri
  refine c9 (hst ▸ Iu.ok.frames) (hst ▸ Iu.stack) JZ F' (λa z=>I'.notbad hx (dA z)) (λa z=>I'.hok.fresh z) λh' N=> ?_
  rw[<-hst]at N
  have I2:Inv (X.tri (X.pn++AA) xe) pl σ' H' { s' with heap:=h' }:=I'.noted N
  exact hh AA _ σ' H' D e cls hx I2.untri (N.fly.mono λa z=>by
   rcases z with z | ⟨p,hp,z⟩
   ·exact .inl z
   ·exact .inr ⟨p,List.mem_append_left _ hp,z⟩) q
 refine wpAny_mono (hb _ _ xe xok [] s σ H D I.tri h) (λf s1 hs1=> ?_) λ_ _ z=>z
 cases f with
 | next =>
  obtain⟨σ1,H1,I1,q⟩:=hs1
  exact wpAny_execs_nil ⟨σ1,H1,I1.untri,q⟩
 | brk=>obtain⟨σ1,H1,I1,q⟩:=hs1;exact⟨σ1,H1,I1.untri,q⟩
 | cont=>obtain⟨σ1,H1,I1,q⟩:=hs1;exact⟨σ1,H1,I1.untri,q⟩
 | ret u=>obtain⟨v,σ1,H1,I1,r,q⟩:=hs1;exact⟨v,σ1,H1,I1.untri,r,q⟩
end
end L2
namespace L2
mutual
inductive Rep(K:W.Frag)(H:Hp):V->PyData->Prop
 | non:Rep K H .non .none
 | bl (b:Bool):Rep K H (.bl b) (.bool b)
 | int (i:Int):Rep K H (.int i) (.int i)
 | str (x:Str):Rep K H (.str x) (.str x)
 | lst {a:Addr} {xs:List V} {ds:List PyData}:SqL K H a xs->RepAll K H xs ds->Rep K H (.ref a) (.list ds)
 | tup {a:Addr} {xs:List V} {ds:List PyData}:SqT K H a xs->RepAll K H xs ds->Rep K H (.ref a) (.tuple ds)
inductive RepAll(K:W.Frag)(H:Hp):List V->List PyData->Prop
 | nil:RepAll K H [] []
 | cons {v:V} {d:PyData} {vs:List V} {ds:List PyData}:Rep K H v d->RepAll K H vs ds->RepAll K H (v::vs) (d::ds)
end
section
variable{X:Cx}{AA:List (Addr × Obj)}{σ:St}{H:Hp}{s:Shared}
mutual
theorem Rep.reads(I:Inv X AA σ H s):∀ {v:V} {d:PyData} {u:Value},Rep X.K H v d->RelV v u->∃ as,Reads s.heap u d as
 | _,_,_,.non,r=>by cases (show _=Value.none from r);exact⟨_,.none⟩
 | _,_,_,.bl b,r=>by cases (show _=Value.bool b from r);exact⟨_,.bool b⟩
 | _,_,_,.int i,r=>by obtain⟨t,e⟩:=(show ∃ t,_=Value.int i t from r);cases e;exact⟨_,.int i t⟩
 | _,_,_,.str x,r=>by obtain⟨t,e⟩:=(show ∃ t,_=Value.str x t from r);cases e;exact⟨_,.str x t⟩
 | _,_,_,.lst (a:=a) h hr,r=>by
  cases (show _=Value.ref a from r)
  obtain⟨its,rv,p,_⟩:=I.list h
  obtain⟨as,q⟩:=RepAll.reads I hr rv
  obtain⟨o,e1,e2,n,e3⟩:=p.isList
  exact⟨_,.list e1 e2 e3 q⟩
 | _,_,_,.tup (a:=a) h hr,r=>by
  cases (show _=Value.ref a from r)
  obtain⟨its,rv,p,_⟩:=I.tuple h
  obtain⟨as,q⟩:=RepAll.reads I hr rv
  obtain⟨o,e1,e2,n,e3⟩:=p
  exact⟨_,.tuple e1 e2 e3 q⟩
theorem RepAll.reads(I:Inv X AA σ H s):∀ {vs:List V} {ds:List PyData} {us:List Value},RepAll X.K H vs ds->Vals vs us->∃ as,ReadsAll s.heap us ds as
 | _,_,_,.nil,.nil=>⟨_,.nil⟩
 | _,_,_,.cons h hr,.cons r rr=>by
  obtain⟨as,q⟩:=Rep.reads I h r
  obtain⟨bs,q2⟩:=RepAll.reads I hr rr
  exact⟨_,.cons q q2⟩
end
end
abbrev shp(d:PyData):Prop:=PySem.SeqAt.shaped d=true
def CI(K:W.Frag):R2:=λx y H Q=>if EK x y=true then Q (.bl (decide (x=y))) H else ∃ d e,Rep K H x d/\Rep K H y e/\shp d/\shp e/\Q (.bl (PyData.eqv d e)) H
def D6(K:W.Frag):R2:=λx y H Q=>if EK x y=true then Q (.bl (!decide (x=y))) H else ∃ d e,Rep K H x d/\Rep K H y e/\shp d/\shp e/\Q (.bl (!PyData.eqv d e)) H
section
variable{X:Cx}
theorem EC(hu:X.A.units+64<cLine):OpR X (compareOp .Eq) (CI X.K):=by
 intro AA s σ H x y v u Q I rx ry h
 unfold CI at h
 split at h
 ·rename_i hs
  exact uG AA s σ H x y v u Q I rx ry ⟨hs,h⟩
 ·obtain⟨d,e,rd,re,sd,se,q⟩:=h
  obtain⟨as,ra⟩:=rd.reads I rx
  obtain⟨bs,rb⟩:=re.reads I ry
  exact eq_dataH ra rb sd se hu ⟨.bl _,H,I,rfl,q⟩
theorem PU(hu:X.A.units+64<cLine):OpR X (compareOp .NotEq) (D6 X.K):=by
 intro AA s σ H x y v u Q I rx ry h
 unfold D6 at h
 split at h
 ·rename_i hs
  exact uH AA s σ H x y v u Q I rx ry ⟨hs,h⟩
 ·obtain⟨d,e,rd,re,sd,se,q⟩:=h
  obtain⟨as,ra⟩:=rd.reads I rx
  obtain⟨bs,rb⟩:=re.reads I ry
  exact ne_dataH ra rb sd se hu ⟨.bl _,H,I,rfl,q⟩
def TU(K:W.Frag):R2:=λx y H Q=>∃ a b ys,x=.ref a/\y=.ref b/\SqT K H a []/\SqT K H b ys/\Q (.ref b) H
theorem w6:OpR X (binaryOp .Add) (TU X.K):=by
 intro AA s σ H x y v u Q I rx ry h
 obtain⟨a,b,ys,rfl,rfl,ha,hb,q⟩:=h
 cases rx
 cases ry
 obtain⟨its,r1,⟨⟨c1,c2,c3,c4⟩,e1,e2,n1,e3⟩,_⟩:=I.tuple ha
 obtain⟨OY,r2,⟨⟨d1,d2,d3,d4⟩,f1,f2,n2,f3⟩,_⟩:=I.tuple hb
 obtain rfl:c1=_:=e2
 obtain rfl:c3=_:=e3
 obtain rfl:d1=_:=f2
 obtain rfl:d3=_:=f3
 cases r1
 exact concat_meets ⟨_,e1,rfl⟩ ⟨_,f1,rfl⟩ noFill_tuple_add seq_tuple_add PySem.F.slot_tuple_add PySem.F.entry_tuple_add (PySem.F.args_tuple_add_2 _ _) (tuple_addW0 a b #[] OY.toArray n1 n2 c2 d2 c4 d4 rfl) ⟨e1,f1,.ref b,H,I,rfl,q⟩
def AX(K:W.Frag):R2:=λx y H Q=>match x,y with
 | .int i,.int j=>Q (.int (i+j)) H
 | .str i,.str j=>i.length+j.length<=sizeLine/\Q (.str (i++j)) H
 | .ref _,.ref _=>PP x y H Q\/SW K x y H Q\/TU K x y H Q
 | _,_=>False
theorem AZ:OpR X (binaryOp .Add) (AX X.K):=by
 intro AA s σ H x y v u Q I rx ry h
 cases x<;>cases y<;>simp only[AX]at h
 ·exact uA AA s σ H _ _ v u Q I rx ry ⟨_,_,rfl,rfl,h⟩
 ·exact uM AA s σ H _ _ v u Q I rx ry ⟨_,_,rfl,rfl,h⟩
 ·rcases h with h | h
  ·exact vZ AA s σ H _ _ v u Q I rx ry h
  rcases h with h | h
  ·exact vH AA s σ H _ _ v u Q I rx ry h
  ·exact w6 AA s σ H _ _ v u Q I rx ry h
def HL:R2:=λx y H Q=>match x,y with
 | .int i,.int j=>Q (.bl (decide (i<j))) H
 | .str i,.str j=>Q (.bl (decide (i.cps.toList<j.cps.toList))) H
 | _,_=>False
def D3:R2:=λx y H Q=>match x,y with
 | .int i,.int j=>Q (.bl (decide (i<=j))) H
 | .str i,.str j=>Q (.bl (!decide (j.cps.toList<i.cps.toList))) H
 | _,_=>False
end
end L2
namespace L2
theorem w8:fillsNumberSlot (.type "tuple") "mul"=pure false :=
 PySem.fillsNumberSlot_seq (id:="tuple.__mul__") (r:=some (.builtin "tuple.__rmul__")) F.slot_tuple_mul.lookup (by decide +kernel) F.slot_tuple_rmul.lookup (by decide +kernel)
theorem w9:seqRepeat? (.type "tuple")=pure (some (.builtin "tuple.__mul__")):=by
 unfold seqRepeat?
 rw[PySem.seqSlot_of (T:="tuple") (name:="__mul__") (id:="tuple.__mul__") F.slot_tuple_mul.lookup (by decide +kernel),PySem.seqSlot_of (T:="tuple") (name:="__rmul__") (id:="tuple.__rmul__") F.slot_tuple_rmul.lookup (by decide +kernel)]
 rfl
theorem xA(a:Int)(t:Tok)(l:Addr)(BJ:Array Value)(dd:Option Addr)(n:Nat)(sl:Array (Option Value)) :
  Meets (Builtin.«int.__rmul__» ⟨[.int a t,.ref l],[]⟩) (λ_ R s=>s.heap.get? l=some ⟨.type "tuple",dd,.seq BJ n,sl⟩/\R (.ok (.ret Value.notImplemented)) s) :=
 .of_wp λprog w A R s h=>by obtain⟨hp,g,d,tk,os⟩:=s;obtain⟨hl,h⟩:=h;wp_walk;exact⟨_,rfl,h⟩
theorem xB(l:Addr)(BJ:Array Value)(dd:Option Addr)(n:Nat)(sl:Array (Option Value))(x:Int)(u:Tok)(h1:1<x)(h2:x<2 ^ 63)(hne:BJ.isEmpty=false)(hz:BJ.size * x.toNat<=sizeLine) :
  Meets (Builtin.«tuple.__mul__» ⟨[.ref l,.int x u],[]⟩) (λ_ R s=>s.heap.get? l=some ⟨.type "tuple",dd,.seq BJ n,sl⟩ ∧
   R (.ok (.ret (Value.ref s.heap.objs.size))) { s with heap:=s.heap.push { cls:=Value.type "tuple",data:=Data.seq (List.foldl (λx1 x2=>x1++x2) #[] (List.replicate x.toNat BJ)) } }) :=
 .of_wp λprog w A R s h=>by
  obtain⟨hp,g,d,tk,os⟩:=s;obtain⟨hl,h⟩:=h
  have hsl:(sizeLine:Nat)<=(2 ^ 63 - 1) / 8:=by decide
  have B0:(List.foldl (λx1 x2=>x1++x2) #[] (List.replicate x.toNat BJ)).size<=sizeLine:=by
   have:=PN BJ.toList x.toNat []
   simp only[List.nil_append,Array.toArray_toList]at this
   rw[this]
   simp only[List.size_toArray,List.length_flatten,List.map_replicate,List.sum_replicate_nat,Array.length_toList]
   rw[Nat.mul_comm];exact hz
  have hx:∃ N:Nat,(BJ.size:Int) * x=(N:Int)/\N<=sizeLine:=⟨BJ.size * x.toNat,by rw[Int.natCast_mul,Int.toNat_of_nonneg (by omega)],hz⟩
  obtain⟨N,hx,hN⟩:=hx
  unfold Builtin.«tuple.__mul__»
  wp_walk
  refine wpAny_ite_false (by simp;omega) ?_
  wp_walk
  refine wpAny_ite_false (by simp only[hne,Bool.false_or];simp;omega) ?_
  refine wpAny_ite_false (by simp only[hne,Bool.or_false];simp;omega) ?_
  refine wpAny_ite_false (by rw[hx];exact decide_eq_false (by omega)) ?_
  refine wpAny_ite_false (by rw[hx];unfold Builtin.Tuple.tupleTooMany;simp;omega) ?_
  wp_walk
  exact⟨_,rfl,h⟩
theorem xC(l:Addr)(BJ:Array Value)(dd:Option Addr)(n:Nat)(sl:Array (Option Value))(u:Tok) :
  Meets (Builtin.«tuple.__mul__» ⟨[.ref l,.int 1 u],[]⟩) (λ_ R s=>s.heap.get? l=some ⟨.type "tuple",dd,.seq BJ n,sl⟩/\R (.ok (.ret (Value.ref l))) s) :=
 .of_wp λprog w A R s h=>by
  obtain⟨hp,g,d,tk,os⟩:=s;obtain⟨hl,h⟩:=h
  unfold Builtin.«tuple.__mul__»
  wp_walk
  exact⟨_,rfl,h⟩
def TV(K:W.Frag):R2:=λx y H Q=>∃ a k xs,x=.ref a/\y=.int k/\SqT K H a xs/\xs≠[]/\1<=k/\k<2 ^ 63/\xs.length * k.toNat<=sizeLine ∧
 (k=1->Q (.ref a) H)/\(k≠1->∀ p,H p=none->Q (.ref p) (upd H p (.tup (List.replicate k.toNat xs).flatten)))
section
variable{X:Cx}
theorem Inv.tnew{AA:List (Addr × Obj)}{σ:St}{H:Hp}{s:Shared}{ys:List V}{its:List Value}(I:Inv X AA σ H s)(hv:Vals ys its)(hz:ys.length<=sizeLine) :
  Inv X AA σ (upd H s.heap.objs.size (.tup ys)) { s with heap:=s.heap.push { cls:=.type "tuple",data:=.seq its.toArray } } :=
 I.laid (t':=s.toks) (λ_ _ q=>Heap.get?_push_of_some _ q) (Nat.le_refl _) ⟨hz,its,hv,_,Heap.get?_push_size _ rfl,rfl,0,rfl⟩
theorem xD:OpR X (binaryOp .Mult) (TV X.K):=by
 intro AA s σ H x y v u Q I rx ry h
 obtain⟨a,k,xs,rfl,rfl,hx,hne,h1,h2,hz,q1,q2⟩:=h
 cases rx
 obtain⟨t,rfl⟩:=ry
 obtain⟨its,r,⟨⟨c1,c2,c3,c4⟩,e1,e2,n,e3⟩,_⟩:=I.tuple hx
 obtain rfl:c1=_:=e2
 obtain rfl:c3=_:=e3
 have hl:=r.length
 have he:its.toArray.isEmpty=false:=by
  cases its with
  | nil=>exact absurd (List.length_eq_zero_iff.mp hl) hne
  | cons b t=>rfl
 refine wpAny_binaryOp_repeat_ref (T:="tuple") (U:="int") (by decide) ⟨_,e1,rfl⟩ (λs'=>typeIs_int s' k t) w8 F.fills_int_mul F.slot_int_rmul w9 F.slot_int_index.lookup
  (call_meets F.slot_int_rmul (typeIs_int s k t) F.entry_int_rmul (F.args_int_rmul_2 _ _) (xA k t a its.toArray c2 n c4) ⟨e1,rfl,⟨_,e1,rfl⟩,?_⟩)
 by_cases hk:k=1
 ·subst hk
  exact call_meets F.slot_tuple_mul ⟨_,e1,rfl⟩ F.entry_tuple_mul (F.args_tuple_mul_2 _ _) (xC a its.toArray c2 n c4 t) ⟨e1,.ref a,H,I,rfl,q1 rfl⟩
 ·refine call_meets F.slot_tuple_mul ⟨_,e1,rfl⟩ F.entry_tuple_mul (F.args_tuple_mul_2 _ _) (xB a its.toArray c2 n c4 k t (by omega) h2 he (by rw[List.size_toArray,<-hl];exact hz)) ⟨e1,?_⟩
  have f0:=PN its k.toNat []
  rw[List.nil_append]at f0
  rw[f0]
  exact⟨.ref _,_,I.tnew (r.rep k.toNat) (by rw[cI,Nat.mul_comm];exact hz),rfl,q2 hk _ I.fresh⟩
abbrev xE:R2:=HX λi j=>.int (i - j)
abbrev GL:R2:=rI (λ_ j=>0<j) λi j=>.int (i % j)
abbrev JC:R2:=rI bG λi j=>.int (i / j)
abbrev xF:R2:=rI t8 λi j=>.int (i ^ j.toNat)
abbrev dD:V->Hp->VK->Prop:=rU λi=>.int (-i)
abbrev xG:PB:=SL λi j=>i+j
def LJ(z:Str)(k:Int):Str:=if k<1 then Str.empty else if(k == 1 || z.length == 0)=true then z else⟨(List.replicate k.toNat z.cps).foldl (· ++·) #[]⟩
theorem xH(z:Str)(k:Nat):(Str.mk ((List.replicate k z.cps).foldl (· ++·) #[])).length=k * z.length:=by
 have e:∀ (m:Nat) (BW:Array Nat),((List.replicate m z.cps).foldl (· ++·) BW).size=BW.size+m * z.cps.size:=λm=>by
  induction m with
  | zero=>intro BW;simp
  | succ m ih=>intro BW;rw[List.replicate_succ,List.foldl_cons,ih,Array.size_append,Nat.succ_mul];omega
 have:=e k #[]
 simpa [Str.length]using this
def xI:R2:=λx y H Q=>∃ z k,x=.str z/\y=.int k/\0<=k/\k<=1000/\z.length<=1000/\Q (.str (LJ z k)) H
theorem xJ:OpR X (binaryOp .Mult) xI:=by
 intro AA s σ H x y v u Q I rx ry h
 obtain⟨z,k,rfl,rfl,h1,h2,h3,q⟩:=h
 obtain⟨t,rfl⟩:=rx
 obtain⟨t',rfl⟩:=ry
 refine PySem.P.mul_str (by simp;omega) (λa _=> ?_) (λa _=> ?_) ?_
 ·have:(1000:Int)<=(2 ^ 63 - 1) / k:=(Int.le_ediv_iff_mul_le (by omega)).mpr (by omega)
  omega
 ·have h4:z.length * k.toNat<=1000 * 1000:=Nat.mul_le_mul h3 (by omega)
  have h5:(1000 * 1000:Nat)<=sizeLine:=by decide
  unfold Builtin.Str.tooLong
  exact decide_eq_false (by omega)
 ·unfold LJ at q
  split
  ·rename_i c
   rw[if_pos c]at q
   exact⟨by show(0:Nat)<=sizeLine;omega,.str _,H,I.tok _,⟨_,rfl⟩,q⟩
  ·rename_i c
   rw[if_neg c]at q
   split
   ·rename_i d
    rw[if_pos d]at q
    exact⟨.str _,H,I,⟨_,rfl⟩,q⟩
   ·rename_i d
    rw[if_neg d]at q
    exact⟨by rw[xH];have:=Nat.mul_le_mul (show k.toNat<=1000 by omega) h3;show _<=2 ^ 24;omega,.str _,H,I.tok _,⟨_,rfl⟩,q⟩
def GO(K:W.Frag):R2:=λx y H Q=>match x,y with
 | .int i,.int j=>CMul i j/\Q (.int (i * j)) H
 | .str z,.int k=>0<=k/\k<=1000/\z.length<=1000/\Q (.str (LJ z k)) H
 | .ref _,.int _=>S5 x y H Q\/TV K x y H Q
 | _,_=>False
theorem J7:OpR X (binaryOp .Mult) (GO X.K):=by
 intro AA s σ H x y v u Q I rx ry h
 cases x<;>cases y<;>simp only[GO]at h
 ·exact uB AA s σ H _ _ v u Q I rx ry ⟨_,_,rfl,rfl,h⟩
 ·exact xJ AA s σ H _ _ v u Q I rx ry ⟨_,_,rfl,rfl,h⟩
 ·rcases h with h | h
  ·exact v0 AA s σ H _ _ v u Q I rx ry h
  ·exact xD AA s σ H _ _ v u Q I rx ry h
def NL:R2:=λx y H Q=>match x,y with
 | .int i,.int j=>Q (.bl (decide (j<i))) H
 | _,_=>False
def xK:R2:=λx y H Q=>match x,y with
 | .int i,.int j=>Q (.bl (decide (j<=i))) H
 | _,_=>False
theorem LK:OpR X (compareOp .Lt) HL:=by
 intro AA s σ H x y v u Q I rx ry h
 cases x<;>cases y<;>simp only[HL]at h
 ·exact uI AA s σ H _ _ v u Q I rx ry ⟨_,_,rfl,rfl,h⟩
 ·obtain⟨t,rfl⟩:=rx
  obtain⟨t',rfl⟩:=ry
  exact PySem.P.lt_str ⟨.bl _,H,I,rfl,h⟩
theorem ES:OpR X (compareOp .LtE) D3:=by
 intro AA s σ H x y v u Q I rx ry h
 cases x<;>cases y<;>simp only[D3]at h
 ·exact uJ AA s σ H _ _ v u Q I rx ry ⟨_,_,rfl,rfl,h⟩
 ·obtain⟨t,rfl⟩:=rx
  obtain⟨t',rfl⟩:=ry
  exact PySem.P.le_str ⟨.bl _,H,I,rfl,h⟩
theorem dE:OpR X (compareOp .Gt) NL:=by
 intro AA s σ H x y v u Q I rx ry h
 cases x<;>cases y<;>simp only[NL]at h
 exact uK AA s σ H _ _ v u Q I rx ry ⟨_,_,rfl,rfl,h⟩
abbrev LM:R2:=λx y H Q=>y=.non/\Q (.bl (decide (x=.non))) H
abbrev LN:R2:=λx y H Q=>y=.non/\Q (.bl (!decide (x=.non))) H
variable{a:Expr}{ta:TE}{tA:TT}{pos:Pos}
abbrev JD(K:W.Frag)(ta:TE):TT:=λσ H Q=>ta σ H λx H'=>∃ k,GD K x H' k/\Q k H'
def DM(K:W.Frag):R2:=cD K
theorem CZ:IxR X (DM X.K):=vM
def xL:V->Option Int->Option Int->Hp->VK->Prop:=λx lo hi H Q=>∃ z,x=.str z/\z.length<=sizeLine/\Q (.str (Txt.slice z lo hi)) H
theorem dF{v:Value}{lo:Option Int}(p:IsPart v lo):∃ l:Option (Int × Tok),v=partValue l/\l.map (·.1)=lo:=by
 cases p with
 | none=>exact⟨none,rfl,rfl⟩
 | int i t=>exact⟨some (i,t),rfl,rfl⟩
theorem xM:SlR X xL:=by
 intro AA s σ H x v vl vu lo hi sl Q I rx hs pl pu h
 obtain⟨z,rfl,hz,q⟩:=h
 obtain⟨t,rfl⟩:=rx
 obtain⟨l,rfl,rfl⟩:=dF pl
 obtain⟨u,rfl,rfl⟩:=dF pu
 refine⟨"str",_,PySem.F.slot_str_getitem.lookup,typeIs_str _ _ _,?_⟩
 exact wpAny_getItem_str_slice (l:=l) (u:=u) (st:=none) hs rfl (post_val_or_str ⟨Nat.le_trans (Txt.slice_le z _ _) hz,λt' k=>⟨.str _,H,I.tok k,⟨t',rfl⟩,q⟩⟩)
def JE(K:W.Frag):V->Option Int->Option Int->Hp->VK->Prop:=λx lo hi H Q=>match x with
 | .str z=>z.length<=sizeLine/\Q (.str (Txt.slice z lo hi)) H
 | _=>cE K x lo hi H Q\/bZ K x lo hi H Q
theorem LO:SlR X (JE X.K):=by
 intro AA s σ H x v vl vu lo hi sl Q I rx hs pl pu h
 cases x<;>first
  | exact xM AA s σ H _ v vl vu lo hi sl Q I rx hs pl pu ⟨_,rfl,h⟩
  | exact(SlR.or vQ vG) AA s σ H _ v vl vu lo hi sl Q I rx hs pl pu h
abbrev dG:V->V->V->Hp->(Hp->Prop)->Prop:=vN
def ED(K:W.Frag)(tl:TE):TI:=λσ H R=>tl σ H λx H1=>∃ a,x=.ref a/\(((∃ xs,SqL K H1 a xs)/\R (G0 K a) H1)\/((∃ xs,SqT K H1 a xs)/\R (HW K a) H1))
theorem PI.or{tg it:Expr}{w1 w2:TI}(h1:PI X tg it w1)(h2:PI X tg it w2):PI X tg it (λσ H R=>w1 σ H R\/w2 σ H R):=λAA s σ H R I h=>h.elim (h1 AA s σ H R I) (h2 AA s σ H R I)
def E3(K:W.Frag):List V->Hp->VK->Prop:=λxs H Q=>∃ x n,xs=[x]/\ST K x H n/\Q (.int n) H
theorem F2:CallR X (.builtin "len") (E3 X.K):=uP
def NM(K:W.Frag):List V->Hp->VK->Prop:=λxs H Q=>∃ p ys,xs=[.ref p]/\(SqL K H p ys\/SqT K H p ys)/\∀ l,H l=none->Q (.ref l) (upd H l (.lst ys))
theorem dH:CallR X (.type "list") (NM X.K):=vT
def NN(K:W.Frag):List V->Hp->VK->Prop:=λxs H Q=>∃ p ys,xs=[.ref p]/\((SqL K H p ys/\∀ l,H l=none->Q (.ref l) (upd H l (.tup ys)))\/(SqT K H p ys/\Q (.ref p) H))
theorem dJ:CallR X (.type "tuple") (NN X.K):=vU
def PY(K:W.Frag):List V->Hp->VK->Prop:=λxs H Q=>(∃ i,xs=[.int i]/\Q (.int i) H)\/∃ k,xs=[.bl k]/\Q (.int (if k then 1 else 0)) H
abbrev LP:=cH
end
end L2
namespace L2
section
variable{X:Cx}{tg a:Expr}{ta:TE}{pos:Pos}
theorem E4{l:Expr}{tl:TE}(hl:PE X l tl):PI X tg l (ED X.K tl):=by
 intro AA s σ H R I h
 refine AT (hl AA s σ H _ I h) λv s1 hzz=> ?_
 obtain⟨x,H1,I1,r1,q1⟩:=hzz
 obtain⟨a,e,q1⟩:=q1
 subst e
 cases r1
 have fp1:∀ b∈[s1.heap.objs.size],FpOk X AA H1 b:=λb hb=>by
  have e:b=s1.heap.objs.size:=by simpa using hb
  subst e
  exact I1.fpOk (Nat.le_refl _) (I1.hok.fresh (Nat.le_refl _))
 rcases q1 with⟨⟨xs,hq⟩,q⟩ | ⟨⟨xs,hq⟩,q⟩
 ·obtain⟨its,rv,p,hz⟩:=I1.list hq
  refine wpAny_pyIter_list p.isList ?_
  exact⟨s1.heap.objs.size,[s1.heap.objs.size],_,_,H1,rfl,I1.kept (t':=s1.toks) λb o e=>Heap.get?_push_of_some _ e,tS a _,⟨_,Heap.get?_push_size _ rfl,rfl,rfl⟩,fp1,q⟩
 ·obtain⟨its,rv,p,hz⟩:=I1.tuple hq
  refine wpAny_pyIter_tuple (show s1.heap.IsTuple a its.toArray from p) ?_
  exact⟨s1.heap.objs.size,[s1.heap.objs.size],_,_,H1,rfl,I1.kept (t':=s1.toks) λb o e=>Heap.get?_push_of_some _ e,tU a _,⟨_,Heap.get?_push_size _ rfl,rfl,rfl⟩,fp1,q⟩
def TW(K:W.Frag)(ta:TE):TE:=λσ H Q=>ta σ H λx H1=>∃ k,GD K x H1 k/\Q (.bl (!k)) H1
theorem xN(ha:PE X a ta):PE X (.UnaryOp .Not a pos) (TW X.K ta):=by
 intro AA s σ H Q I h
 refine UnaryOp_ (AT (ha AA s σ H _ I h) λv s1 hzz=> ?_)
 obtain⟨x,H1,I1,r1,k,t1,q1⟩:=hzz
 exact not_of (AT (bM AA s1 σ H1 x v (λc H2=>c=k/\H2=H1) I1 r1 ⟨k,t1,rfl,rfl⟩) λc s2 ⟨H2,I2,e1,e2⟩=>by
  subst e1;subst e2;exact⟨.bl (!c),_,I2,rfl,q1⟩)
end
def TY(scope outer:Scope)(N cn:List Str)(cap:List Nat):Bool :=
 scope.kind == .function && scope.names.all (λy=>y.2 != .cell) && scope.names.all (λy=>y.2 != .local || scope.names.lookup y.1 == some .local) &&
 scope.names.all (λy=>y.2 != .free || outer.names.lookup y.1 == some .cell || outer.names.lookup y.1 == some .free) && cn.all (λx=>scope.names.lookup x == some .free) && (cap.map (λi=>N[i]?) == cn.map some)
theorem xO{X:Cx}{scope outer:Scope}{N tn cn:List Str}{cap:List Nat}(h1:X.env.scope=outer)(h2:X.N=N)(h:TY scope outer N cn cap=true):LH X scope tn cn cap:=by
 unfold TY at h
 simp only[Bool.and_eq_true,List.all_eq_true,Bool.or_eq_true,bne_iff_ne,beq_iff_eq]at h
 obtain⟨⟨⟨⟨⟨k1,k2⟩,k3⟩,k4⟩,k5⟩,k6⟩:=h
 refine⟨k1,k2,λy hy hl=>(k3 y hy).resolve_left λz=>z hl,λy hy hf=> ?_,k5,by rw[h2];exact k6⟩
 have z:=k4 y hy
 show X.env.scope.names.lookup y.1=_\/X.env.scope.names.lookup y.1=_
 rw[h1]
 rcases z with(z | z) | z
 ·exact absurd hf z
 ·exact .inl z
 ·exact .inr z
structure NO(K:W.Frag)(C:Addr):Prop where
 ga:W.findIn K (.ref C) "__getattribute__"=some (some (.builtin "BaseException.__getattribute__"))
 gt:W.findIn K (.ref C) "__getattr__"=some none
 be:W.mroIn K C (.type "BaseException")=some true
 cl:W.isClsIn K C=true
 ha:W.findIn K (.ref C) "__class__"=some (some (.builtin "object.__class__"))
 hn:W.specialIn K (.builtin "object.__class__") "__get__"=some (some (.builtin "getset_descriptor.__get__"))
 tk:W.takesIn K (.builtin "object.__class__")=some true
 mr:W.mroIn K C (.type "object")=some true
theorem xP{K:W.Frag}{C:Addr}{od:Option Obj}{name:Str}{a g:Value}(hc:(W.clsIn K C).isSome=true)(ha:W.findIn K (.ref C) name=some (some a))(hg:W.specialIn K a "__get__"=some (some g))(ht:W.takesIn K a=some true) :
  W.findObj K C od name=some (.bind g a):=by
 obtain⟨cd,hc⟩:=Option.isSome_iff_exists.mp hc
 unfold W.findObj
 rw[hc,Option.bind_some,ha,Option.bind_some]
 simp[hg,ht]
theorem xQ{K:W.Frag}{M:Model}{A:Around}{E:Value->Shared->Prop}{Q:Unit->Shared->Prop}{s:Shared}{x D:Addr}{ox:Obj}{nm:Value}(c:NO K D)(X:K.In s.heap)(I:W.InstAt s.heap x ox D none)(k:Q () s) :
  wpAny M A (checkBuiltinCall "BaseException.__getattribute__" ⟨[.ref x,nm],[]⟩) Q E s:=by
 have e1:builtinKind "BaseException.__getattribute__"=some .slot:=by decide +kernel
 have e2:splitId "BaseException.__getattribute__"=some ("BaseException","__getattribute__"):=by decide +kernel
 have L:W.Looks M s.heap (isInstance (.ref x) (.type "BaseException")) true:=(I.type (M:=M)).andThen (W.looks_mroIn (M:=M) X c.be)
 have ar:=PySem.F.args_bexc_ga (.ref x) nm
 obtain⟨hh,g,d,t,os⟩:=s
 simp only[checkBuiltinCall,e1,e2]
 refine wpAny_bind (L.at ?_)
 simp only[Bool.not_true,Bool.false_eq_true,if_false]
 cases hs:Manifest.signature? "BaseException.__getattribute__" with
 | none=>exact wpAny_pure k
 | some sig =>
  simp only[argsOk,hs]at ar
  have z:Bind.checkArgs "BaseException.__getattribute__" sig ⟨[.ref x,nm],[]⟩=pure ():=ar
  show wpAny M A (Bind.checkArgs "BaseException.__getattribute__" sig ⟨[.ref x,nm],[]⟩) Q E _
  rw[z];exact wpAny_pure k
theorem xR{K:W.Frag}{prog:Program}{w:World}{A:Around}{E:Value->Shared->Prop}{Q:Option Value->Shared->Prop}{s:Shared}{x D:Addr}{ox:Obj}(c:NO K D)(X:K.In s.heap)(I:W.InstAt s.heap x ox D none)
  (k:Q (some (.ref D)) { s with toks:=s.toks+1 }):wpAny (model prog w) A (getAttr? (.ref x) "__class__") Q E s:=by
 obtain⟨hh,g,d,t,os⟩:=s
 have L0:=I.type (M:=model prog w)
 have L1:=W.looks_findIn (M:=model prog w) X c.ga
 have L2:=W.looks_findIn (M:=model prog w) X c.gt
 have L3:=W.looks_find (M:=model prog w) X I (xP (name:="__class__") c.cl c.ha c.hn c.tk)
 unfold getAttr? getAttrBy? getAttrBy
 refine wpAny_bind (wpAny_mkText (wpAny_bind (wpAny_attempt (wpAny_holding (wpAny_bind (L0.at (wpAny_bind (L1.at ?_))))))))
 show wpAny _ _ (getAttrByItsOwn _ _ _ _ _ _) _ _ _
 unfold getAttrByItsOwn
 refine wpAny_bind (L2.at (wpAny_bind (wpAny_attempt (wpAny_holding ?_))))
 show wpAny _ _ (boundAndCalled _ _ _) _ _ _
 unfold boundAndCalled
 rw[PySem.F.attr_ValueError.ga.bind (.ref x)]
 refine wpAny_bind (wpAny_pure (wpAny_call (codeAny_call_builtin PySem.F.attr_ValueError.ga.plain PySem.F.entry_bexc_ga (xQ c X I ?_))))
 refine wpAny_bind (wpAny_pure (wpAny_bind (wpAny_pure (wpAny_bind (L0.at (wpAny_bind (L3.at ?_)))))))
 show wpAny _ _ (holding [_] (call _ _) >>= ret) _ _ _
 refine wpAny_bind (wpAny_holding (wpAny_call (W.class_get (ox:=ox) (od:=none) X I c.mr (wpAny_pure ?_))))
 exact W.handed_on rfl (wpAny_pure k)
theorem xS{K:W.Frag}{x D:Addr}(c:NO K D):W.KitX K (.ref x) (.ref D) (ID x (.ref D)):=by
 have inst:∀ {h:Heap},ID x (.ref D) h->∃ ox,W.InstAt h x ox D none:=λ{h} ⟨oe,vs,e1,e2,e3,e4⟩=>by
  refine⟨oe,e1,e2,?_,?_⟩
  ·unfold W.notCls;rw[e4]
  ·rw[e3];trivial
 have cls:∃ cd,W.clsIn K D=some cd:=Option.isSome_iff_exists.mp c.cl
 refine⟨λM h _ p=>(inst p).elim λ_ I=>I.type,λM h X p=> ?_,λh tp dd its n sl X htp=> ?_,λ{prog w A E Q s} X p k=> ?_⟩
 ·obtain⟨cd,hc⟩:=cls
  unfold W.clsIn at hc
  split at hc
  ·rename_i c' d' cd' sl' ho
   intro A' Q' E' s' k q
   unfold isType loadHead
   exact wpAny_bind (wpAny_loadPart (k _ _ (X _ _ ho)) (wpAny_pure q))
  ·cases hc
 ·obtain⟨cd,hc⟩:=cls
  refine Bool.eq_false_iff.mpr λq=> ?_
  have e:D=tp:=Value.ref.inj (beq_iff_eq.mp q)
  subst e
  unfold W.clsIn at hc
  split at hc
  ·rename_i c' d' cd' sl' ho
   have z:=(X _ _ ho).symm.trans htp
   cases z
  ·cases hc
 ·obtain⟨ox,I⟩:=inst p
  exact xR c X I k
def TyX(K:W.Frag)(H:Hp)(x:V)(t:Value):Prop:=GE K H x t\/∃ a C,x=.ref a/\t=.ref C/\H a=some (.ext (ID a (.ref C)))/\NO K C
inductive ClsV:V->Value->Prop
 | own (C:Addr):ClsV (.ref C) (.ref C)
 | ty (n:String):ClsV (.ty n) (.type n)
theorem ClsV.rel{y:V}{c u:Value}(h:ClsV y c)(r:RelV y u):u=c:=by
 cases h<;>exact r
theorem dM:∀ {ys:List V} {cs us:List Value},Paired ClsV ys cs->Vals ys us->us=cs
 | _,_,_,.nil,.nil=>rfl
 | _,_,_,.cons h t,.cons r rr=>by rw[h.rel r,dM t rr]
def IE(K:W.Frag):List V->Hp->VK->Prop:=λxs H Q=>∃ x y t b,xs=[x,y]/\TyX K H x t ∧
 ((∃ c,ClsV y c/\W.kitOne K t c=some b)\/∃ p ys cs,y=.ref p/\SqT K H p ys/\Paired ClsV ys cs/\W.kitAny K t cs=some b)/\Q (.bl b) H
section
variable{X:Cx}
theorem TyX.kit{AA:List (Addr × Obj)}{σ:St}{H:Hp}{s:Shared}{x:V}{t u:Value}(I:Inv X AA σ H s)(h:TyX X.K H x t)(r:RelV x u):∃ φ :Heap->Prop,W.KitX X.K u t φ /\ φ s.heap/\u≠.builtin "__main__.__loader__#opaque":=by
 rcases h with h | ⟨a,C,rfl,rfl,e,c⟩
 ·cases h with
  | non=>cases (show u=Value.none from r);exact⟨_,W.kitx_none,trivial,λz=>nomatch z⟩
  | bl y=>cases (show u=Value.bool y from r);exact⟨_,W.kitx_bool,trivial,λz=>nomatch z⟩
  | int i=>obtain⟨t,q⟩:=(show ∃ t,u=Value.int i t from r);cases q;exact⟨_,W.kitx_int,trivial,λz=>nomatch z⟩
  | str y=>obtain⟨t,q⟩:=(show ∃ t,u=Value.str y t from r);cases q;exact⟨_,W.kitx_str,trivial,λz=>nomatch z⟩
  | flt y=>obtain⟨t,q⟩:=(show ∃ t,u=Value.float y t from r);cases q;exact⟨_,W.kitx_float,trivial,λz=>nomatch z⟩
  | @lst a xs ea =>
   cases (show u=Value.ref a from r)
   obtain⟨_,_,n,_,h1⟩:=(show ObjOk X.prog X.w H s.heap a (.lst xs)from I.hok a _ ea)
   exact⟨_,W.kitx_list,⟨_,h1,rfl⟩,λz=>nomatch z⟩
  | @frz a ob xs ea =>
   cases (show u=Value.ref a from r)
   obtain⟨_,_,_,n,_,h1⟩:=(show ObjOk X.prog X.w H s.heap a (.frz ob (.lst xs))from I.hok a _ ea)
   exact⟨_,W.kitx_list,⟨_,h1,rfl⟩,λz=>nomatch z⟩
  | @tup a xs ea =>
   cases (show u=Value.ref a from r)
   obtain⟨_,_,_,p⟩:=(show ObjOk X.prog X.w H s.heap a (.tup xs)from I.hok a _ ea)
   obtain⟨o,h1,h2,_⟩:=p
   exact⟨_,W.kitx_tuple,⟨o,h1,h2⟩,λz=>nomatch z⟩
  | @dK a AD ea =>
   cases (show u=Value.ref a from r)
   obtain⟨_,_,vs,_,p⟩:=(show ObjOk X.prog X.w H s.heap a (.dK AD)from I.hok a _ ea)
   obtain⟨o,es,ep,h1,h2,_⟩:=p
   exact⟨_,W.kitx_dict,⟨o,h1,h2.1⟩,λz=>nomatch z⟩
  | @dT a AD ea =>
   cases (show u=Value.ref a from r)
   obtain⟨_,_,xs,_,o,es,ep,h1,h2,_⟩:=(show ObjOk X.prog X.w H s.heap a (.dT AD)from I.hok a _ ea)
   exact⟨_,W.kitx_dict,⟨o,h1,h2.1⟩,λz=>nomatch z⟩
  | @ins a C dx fs ea cl ha hn htk hm =>
   cases (show u=Value.ref a from r)
   obtain⟨mA,O,_⟩:=PL I.hok ea
   obtain⟨od,J,_⟩:=O.look
   exact⟨_,W.kitx_own (cl.get _) cl.hd ha hn htk hm,J,λz=>nomatch z⟩
 ·cases (show u=Value.ref a from r)
  have p:ID a (.ref C) s.heap:=(show ObjOk X.prog X.w H s.heap a (.ext (ID a (.ref C)))from I.hok a _ e).1
  exact⟨_,xS c,p,λz=>nomatch z⟩
theorem LQ:CallR X (.builtin "isinstance") (IE X.K):=by
 intro AA s σ H xs us Q I r h
 obtain⟨x,y,t,b,rfl,ty,hc,q⟩:=h
 obtain⟨u,v,rfl,rx,ry⟩:=Vals.two r
 obtain⟨φ,Z,p,ne⟩:=ty.kit I rx
 rcases hc with⟨c,hy,e⟩ | ⟨pt,ys,cs,rfl,hs,hcs,e⟩
 ·have:=hy.rel ry
  subst this
  exact W.kia_one Z I.kIn p e ne λtk=>⟨.bl b,H,I.tok tk,rfl,q⟩
 ·cases (show v=Value.ref pt from ry)
  obtain⟨its,rv,⟨⟨c1,c2,c3,c4⟩,e1,e2,n,e3⟩,_⟩:=I.tuple hs
  obtain rfl:c1=_:=e2
  obtain rfl:c3=_:=e3
  have:=dM hcs rv
  subst this
  exact W.kia_tup Z I.kIn p e1 e ne λtk=>⟨.bl b,H,I.tok tk,rfl,q⟩
end
end L2
namespace L2
def E5(J:It)(g:TG)(tt:TT)(te:TE)(k:Nat)(cap:List Nat)(σ:St)(H1:Hp)(Q:VK):Prop :=
 ∃ W:Nat->Nat->St->List V->Hp->Prop,(∃ m,W 0 m (IC k cap σ) [] H1)/\∀ i m σ' ys H,W i m σ' ys H →
  (J.stop i H/\∀ p,H p=none->Q (.ref p) (upd H p (.lst ys))) ∨
  (J.go i H/\ys.length<sizeLine/\∀ x H',J.yld i H x H'->g x σ' H' λσ2 H2=>tt σ2 H2 λb H3 =>
   if b=true then ∃ N:VK,(∀ y H4,N y H4->∃ m',m'<m/\W (i+1) m' σ2 (ys++[y]) H4)/\te σ2 H3 N else ∃ m',m'<m/\W (i+1) m' σ2 ys H3)
def G9(J:It)(g:TG)(tb:TS)(D:Ends)(σ:St)(H1:Hp):Prop :=
 ∃ W:Nat->Nat->St->Hp->Prop,(∃ m,W 0 m σ H1)/\∀ i m σ H,W i m σ H →
  (J.stop i H/\D.nx σ H)\/(J.go i H/\∃ N:St->Hp->Prop,(∀ σ' H',N σ' H'->∃ m',m'<m/\W (i+1) m' σ' H')/\∀ x H',J.yld i H x H'->g x σ H' λσ2 H2=>tb { D with nx:=N,ct:=N,bk:=D.nx } σ2 H2)
section
variable{K:W.Frag}{ta tb tc to ti tv tl:TE}{tt tA tB' tu:TT}{s1 s2:TS}{r r':R2}{σ:St}{H:Hp}{Q:VK}{D:Ends}{QB:Bool->Hp->Prop}{as:TA}{g:TG}{gs:IR}{te:TE}{k i:Nat}{cap:List Nat}{f m:Str}{C:Addr}{sp:Sp}{DA:List V}{E:St->XK}{v:V}{vs:List V}{QA:List V->Hp->Prop}{QG:St->Hp->Prop}{QO:Option Int->Hp->Prop}
theorem xT:AH s1 s2 D σ H=(s1 { D with nx:=s2 D } σ H):=rfl
theorem xU:CS D σ H=(D.nx σ H):=rfl
theorem xV:tK D σ H=(D.bk σ H):=rfl
theorem xW:tL D σ H=(D.ct σ H):=rfl
theorem xX:A4 ta g D σ H=(ta σ H λx H1=>g x σ H1 D.nx):=rfl
theorem xY:DO ta D σ H=(ta σ H λ_ H1=>D.nx σ H1):=rfl
theorem xZ:BB ta D σ H=(ta σ H D.rt):=rfl
theorem x4:tM D σ H=(D.rt .non H):=rfl
theorem x5:CA tt s1 s2 D σ H=(tt σ H λb H1=>if b=true then s1 D σ H1 else s2 D σ H1):=rfl
theorem x6:tC v σ H Q=(Q v H):=rfl
theorem x8:AF r ta tb σ H Q=(ta σ H λx H1=>tb σ H1 λy H2=>r x y H2 Q):=rfl
theorem x9:CD ta σ H QB=(ta σ H λx H'=>∃ k,x=.bl k/\QB k H'):=rfl
theorem yA:FJ r r' ta tb tc σ H Q=(ta σ H λx H1=>tb σ H1 λy H2=>r x y H2 λz H3=>∃ k,z=.bl k/\(if k=true then tc σ H3 λw' H4=>r' y w' H4 Q else Q (.bl false) H3)):=rfl
theorem yB:FI tt σ H QB=(tt σ H λc H1=>QB (!c) H1):=rfl
theorem yC:KZ tt tu σ H QB=(tt σ H λc H1=>if c=true then tu σ H1 QB else QB false H1):=rfl
theorem yD:M4 tt tu σ H QB=(tt σ H λc H1=>if c=true then QB true H1 else tu σ H1 QB):=rfl
theorem yE:IQ ta tb σ H Q=(ta σ H λx H1=>∃ c,x=.bl c/\if c=true then tb σ H1 Q else Q (.bl false) H1):=rfl
theorem yF:SI ta tb σ H Q=(ta σ H λx H1=>∃ c,x=.bl c/\if c=true then Q (.bl true) H1 else tb σ H1 Q):=rfl
theorem yG:TW K ta σ H Q=(ta σ H λx H1=>∃ k,GD K x H1 k/\Q (.bl (!k)) H1):=rfl
theorem yH:JD K ta σ H QB=(ta σ H λx H'=>∃ k,GD K x H' k/\QB k H'):=rfl
theorem yI:O8 tt ta tb σ H Q=(tt σ H λc H1=>if c=true then ta σ H1 Q else tb σ H1 Q):=rfl
theorem yJ:BY σ H QA=(QA [] H):=rfl
theorem yK:DY ta as σ H QA=(ta σ H λx H1=>as σ H1 λxs H2=>QA (x::xs) H2):=rfl
theorem yL:CF as σ H Q=(as σ H λxs H1=>xs.length<=sizeLine/\∀ p,H1 p=none->Q (.ref p) (upd H1 p (.tup xs))):=rfl
theorem yM:B6 as σ H Q=(as σ H λxs H1=>xs.length<=sizeLine/\∀ p,H1 p=none->Q (.ref p) (upd H1 p (.lst xs))):=rfl
theorem yN:CW sp DA E as σ H Q=(as σ H λvs H1=>sp (vs++DA) H1 Q (E σ)):=rfl
theorem yO:AV C m sp DA E ta as σ H Q=(ta σ H λx H1=>∃ a dx fs,x=.ref a/\H1 a=some (.ins C dx fs)/\fs.lookup m=none/\as σ H1 λvs H2=>sp (x::(vs++DA)) H2 Q (E σ)):=rfl
theorem yP:HY C sp DA E as σ H Q=(as σ H λvs H1=>∀ x dx,H1 x=none->H1 dx=none->dx≠x->sp (.ref x::(vs++DA)) (upd (upd H1 dx (.own x)) x (.ins C dx [])) (λv H2=>v=.non/\Q (.ref x) H2) (E σ)):=rfl
theorem yQ:A5 K ta f σ H Q=(ta σ H λx H1=>∃ a C dx fs v,x=.ref a/\H1 a=some (.ins C dx fs)/\Cls K C/\NoAttr K C f/\fs.lookup f=some v/\Q v H1):=rfl
theorem yR:DS K ta tv f D σ H=(tv σ H λy H1=>ta σ H1 λx H2=>∃ a C dx fs,x=.ref a/\H2 a=some (.ins C dx fs)/\Cls K C/\NoAttr K C f/\fs.length<1000/\D.nx σ (upd H2 a (.ins C dx (A6 f y fs)))):=rfl
theorem yS{ru:V->Hp->VK->Prop}:SO ru ta σ H Q=ta σ H λx H1=>ru x H1 Q:=rfl
theorem yT{rc:List V->Hp->VK->Prop}:CB rc as σ H Q=as σ H λvs H1=>rc vs H1 Q:=rfl
theorem yU:FO C E as D σ H=(as σ H λvs H1=>vs.length<=sizeLine/\E σ (.ref C) none H1):=rfl
theorem yV{sb:(St->XK)->TS}{th:TH}:TR sb th D σ H=sb (λσ' cls _ H'=>th cls D σ' H') D σ H:=rfl
theorem yW:AN i v σ H QG=(QG (σ.set i (some v)) H):=rfl
theorem yX{rs:bC}:tO to ti rs v σ H QG=to σ H λo H1=>ti σ H1 λi H2=>rs o i v H2 λH3=>QG σ H3:=rfl
theorem yY:M7 K k gs v σ H QG=(∃ a xs,v=.ref a/\SqT K H a xs/\xs.length=k/\gs xs σ H QG):=rfl
theorem yZ:M5 vs σ H QG=((vs=[]/\QG σ H)):=rfl
theorem y3:IS g gs vs σ H QG=(∃ v r,vs=v::r/\g v σ H λσ' H'=>gs r σ' H' QG):=rfl
theorem y4{rs:V->Option Int->Option Int->Hp->VK->Prop}{ol oh:TO}:IX rs ta ol oh σ H Q=ta σ H λx H1=>ol σ H1 λl H2=>oh σ H2 λu H3=>rs x l u H3 Q:=rfl
theorem y8:IV σ H QO=(QO none H):=rfl
theorem y9:IW ta σ H QO=(ta σ H λx H1=>∃ i,x=.int i/\QO (some i) H1):=rfl
theorem zA{T:String}{rm:V->List V->Hp->VK->Prop}:FZ K T rm ta as σ H Q=ta σ H λx H1=>ND K T x H1/\as σ H1 λxs H2=>rm x xs H2 Q:=rfl
theorem zB{T:String}{rm:V->List V->Hp->VK->Prop}:vW K T rm ta σ H Q=ta σ H λx H1=>ND K T x H1/\rm x [] H1 Q:=rfl
theorem zC{tip:PB}:tQ i ta tip D σ H=∃ x,σ[i]? =some (some x)/\ta σ H λy H1=>tip x y H1 λz H2=>D.nx (σ.set i (some z)) H2:=rfl
theorem zD:DH σ H QB=(QB true H):=rfl
theorem zE:DC (G1 as) g tt te k cap σ H Q=(as σ H λvs H1=>∃ j:Int,vs=[.int j]/\ -(2 ^ 62)<=j/\j<2 ^ 62/\E5 (FD 0 j.toNat) g tt te k cap σ H1 Q):=rfl
theorem zF:DC (bF as) g tt te k cap σ H Q=(as σ H λvs H1=>∃ i j:Int,vs=[.int i,.int j]/\(-(2 ^ 62)<=i/\i<2 ^ 62/\ -(2 ^ 62)<=j/\j<2 ^ 62)/\E5 (FD i (j - i).toNat) g tt te k cap σ H1 Q):=rfl
theorem zG:DC (ED K tl) g tt te k cap σ H Q=(tl σ H λx H1=>∃ a,x=.ref a/\(((∃ xs,SqL K H1 a xs)/\E5 (G0 K a) g tt te k cap σ H1 Q)\/((∃ xs,SqT K H1 a xs)/\E5 (HW K a) g tt te k cap σ H1 Q))):=rfl
theorem zH:EQ (G1 as) g s1 D σ H=(as σ H λvs H1=>∃ j:Int,vs=[.int j]/\ -(2 ^ 62)<=j/\j<2 ^ 62/\G9 (FD 0 j.toNat) g s1 D σ H1):=rfl
theorem zI:EQ (bF as) g s1 D σ H=(as σ H λvs H1=>∃ i j:Int,vs=[.int i,.int j]/\(-(2 ^ 62)<=i/\i<2 ^ 62/\ -(2 ^ 62)<=j/\j<2 ^ 62)/\G9 (FD i (j - i).toNat) g s1 D σ H1):=rfl
theorem zJ:EQ (ED K tl) g s1 D σ H=(tl σ H λx H1=>∃ a,x=.ref a/\(((∃ xs,SqL K H1 a xs)/\G9 (G0 K a) g s1 D σ H1)\/((∃ xs,SqT K H1 a xs)/\G9 (HW K a) g s1 D σ H1))):=rfl
theorem zK{rd:V->V->Hp->VK->Prop}:uZ K ta tv rd f D σ H=(ta σ H λx H1=>∃ a C dx fs v,x=.ref a/\H1 a=some (.ins C dx fs)/\Cls K C/\NoAttr K C f/\fs.lookup f=some v/\tv σ H1 λy H2=>rd v y H2 λz H3=>∃ dx' fs',H3 a=some (.ins C dx' fs')/\fs'.length<1000/\D.nx σ (upd H3 a (.ins C dx' (A6 f z fs')))):=rfl
end
end L2
namespace L2
section
variable{K:W.Frag}{σ:St}{H:Hp}{Q:VK}{P:Bool->Prop}{PI':Int->Prop}{PV:V->Prop}{QB:Bool->Hp->Prop}{v:V}{x:Option V}{i j:Int}{n:Nat}{b b':Bool}{s s':Str}{p q:Addr}{f:Int->Int->V}{C:Int->Int->Prop}
def EL(i:Nat):TE:=λσ H Q=>match σ[i]? with
 | some (some v)=>Q v H
 | _=>False
theorem zL:EL 0 (some v::σ) H Q=Q v H:=rfl
theorem zM:EL (n+1) (x::σ) H Q=EL n σ H Q:=rfl
theorem zN(i:Nat):EL i=SF i:=by
 funext σ H Q
 unfold EL SF
 cases σ[i]? with
 | none=>simp
 | some o=>cases o<;>simp
theorem zO{P:Bool->Prop}:(∃ k,V.bl b=V.bl k/\P k)=P b:=by simp
theorem zP{P:Int->Prop}:(∃ k,V.int i=V.int k/\P k)=P i:=by simp
theorem zQ{P:Addr->Prop}:(∃ k,V.ref p=V.ref k/\P k)=P p:=by simp
theorem zR{P:Bool->Prop}:(∃ k,GD K (.bl b) H k/\P k)=P b:=by simp[GD]
theorem zS{P:Bool->Prop}:(∃ k,GD K (.int i) H k/\P k)=P (i != 0):=by simp[GD]
theorem zT{P:Bool->Prop}:(∃ k,GD K .non H k/\P k)=P false:=by simp[GD]
theorem zU:AX K (.int i) (.int j) H Q=Q (.int (i+j)) H:=rfl
theorem zV:AX K (.str s) (.str s') H Q=(s.length+s'.length<=sizeLine/\Q (.str (s++s')) H):=rfl
theorem dN:AX K (.ref p) (.ref q) H Q=(PP (.ref p) (.ref q) H Q\/SW K (.ref p) (.ref q) H Q\/TU K (.ref p) (.ref q) H Q):=rfl
theorem zW{x y:Str}:D3 (.str x) (.str y) H Q=Q (.bl (!decide (y.cps.toList<x.cps.toList))) H:=rfl
theorem zX{x y:Str}:HL (.str x) (.str y) H Q=Q (.bl (decide (x.cps.toList<y.cps.toList))) H:=rfl
theorem zY{x:Str}{lo hi:Option Int}:JE K (.str x) lo hi H Q=(x.length<=sizeLine/\Q (.str (Txt.slice x lo hi)) H):=rfl
theorem zZ:GO K (.int i) (.int j) H Q=(CMul i j/\Q (.int (i * j)) H):=rfl
theorem z6{z:Str}{j:Int}:GO K (.str z) (.int j) H Q=(0<=j/\j<=1000/\z.length<=1000/\Q (.str (LJ z j)) H):=rfl
theorem z7:GO K (.ref p) (.int j) H Q=(S5 (.ref p) (.int j) H Q\/TV K (.ref p) (.int j) H Q):=rfl
theorem z8:HX f (.int i) (.int j) H Q=Q (f i j) H:=by simp[HX]
theorem z9:rI C f (.int i) (.int j) H Q=(C i j/\Q (f i j) H):=by simp[rI]
theorem Ab{g:Int->V}:rU g (.int i) H Q=Q (g i) H:=by simp[rU]
theorem Ac:HL (.int i) (.int j) H Q=Q (.bl (decide (i<j))) H:=rfl
theorem Ag:D3 (.int i) (.int j) H Q=Q (.bl (decide (i<=j))) H:=rfl
theorem Ah:NL (.int i) (.int j) H Q=Q (.bl (decide (j<i))) H:=rfl
theorem Aj:xK (.int i) (.int j) H Q=Q (.bl (decide (j<=i))) H:=rfl
theorem Ak:CI K (.int i) (.int j) H Q=Q (.bl (decide (i=j))) H:=by simp[CI,EK]
theorem Al:CI K (.str s) (.str s') H Q=Q (.bl (decide (s=s'))) H:=by simp[CI,EK]
theorem Am:CI K (.bl b) (.bl b') H Q=Q (.bl (decide (b=b'))) H:=by simp[CI,EK]
theorem Ap:CI K .non (.int j) H Q=Q (.bl false) H:=by simp[CI,EK]
theorem Aq:CI K (.int j) .non H Q=Q (.bl false) H:=by simp[CI,EK]
theorem Av:CI K .non .non H Q=Q (.bl true) H:=by simp[CI,EK]
theorem Aw:D6 K (.int i) (.int j) H Q=Q (.bl (!decide (i=j))) H:=by simp[D6,EK]
theorem Ax:D6 K (.str s) (.str s') H Q=Q (.bl (!decide (s=s'))) H:=by simp[D6,EK]
theorem Ay:D6 K (.bl b) (.bl b') H Q=Q (.bl (!decide (b=b'))) H:=by simp[D6,EK]
theorem Az:D6 K .non (.int j) H Q=Q (.bl true) H:=by simp[D6,EK]
theorem Bb:D6 K (.int j) .non H Q=Q (.bl true) H:=by simp[D6,EK]
theorem Bc:D6 K .non .non H Q=Q (.bl false) H:=by simp[D6,EK]
theorem Bd:LM v .non H Q=Q (.bl (decide (v=.non))) H:=by simp[LM]
theorem Bg:LN v .non H Q=Q (.bl (!decide (v=.non))) H:=by simp[LN]
theorem Bh{g:Int->Int->Int}:SL g (.int i) (.int j) H Q=Q (.int (g i j)) H:=by simp[SL]
theorem Bj:bP (.int i) (.int j) H Q=Q (.int (i+j)) H:=by simp[bP]
theorem Bl:E3 K [v] H Q=∃ n:Nat,ST K v H n/\Q (.int n) H:=by simp[E3]
theorem Bm:PY K [.bl b] H Q=Q (.int (if b then 1 else 0)) H:=by simp[PY]
theorem Bp:PY K [.int i] H Q=Q (.int i) H:=by simp[PY]
theorem dO:NM K [.ref p] H Q=∃ ys,(SqL K H p ys\/SqT K H p ys)/\∀ l,H l=none->Q (.ref l) (upd H l (.lst ys)):=by simp[NM]
theorem Bq:NN K [.ref p] H Q=∃ ys,((SqL K H p ys/\∀ l,H l=none->Q (.ref l) (upd H l (.tup ys)))\/(SqT K H p ys/\Q (.ref p) H)):=by simp[NN]
end
theorem AB{X:Cx}(i:Nat){x:Str}{pos:Pos}(hN:X.N[i]? =some x:=by rfl)(hv:SD X.env.scope x:=by first | exact Or.inl rfl | exact Or.inr (Or.inl rfl) | exact Or.inr (Or.inr rfl))(hd:(x ==("__debug__":Str))=false:=by decide)
  (GY:(x ==("__classdict__":Str))=false:=by decide):PE X (.Name x pos) (EL i):=by
 rw[zN]
 exact tE hN hv hd GY
end L2
namespace L2
abbrev BD(Q:VK):Ends:={ nx:=λ_ H'=>Q .non H',rt:=Q }
abbrev C7(cap:List Nat)(σ:St):St:=cap.map λi=>(σ[i]?).join
section
variable{K:W.Frag}{te:TE}{cap:List Nat}{σ:St}{H:Hp}{Q:VK}
theorem PZ{lo:Int}{n:Nat}(hn:n<=sizeLine)(Pv:Nat->List V->Hp->Prop)(h0:Pv 0 [] H)(hs:∀ i ys H,i<n->ys.length=i->Pv i ys H->te (some (.int (lo+i))::C7 cap σ) H λy H2=>Pv (i+1) (ys++[y]) H2)
  (hd:∀ ys H,ys.length=n->Pv n ys H->∀ p,H p=none->Q (.ref p) (upd H p (.lst ys))) :
  E5 (FD lo n) (AN 0) DH te 1 cap σ H Q:=by
 refine⟨λi m σ' ys H=>m=n - i/\i<=n/\ys.length=i/\(∃ x0,σ'=x0::C7 cap σ)/\Pv i ys H,⟨n,by simp,Nat.zero_le _,rfl,⟨none,rfl⟩,h0⟩,?_⟩
 rintro i m σ' ys H ⟨rfl,hi,hl,⟨x0,rfl⟩,p⟩
 by_cases BE:i<n
 ·refine .inr ⟨BE,by omega,λx H' y=> ?_⟩
  obtain⟨e,y⟩:=y
  subst e y
  simp only[AN,DH,if_true]
  refine⟨_,λy H4 q=>⟨n - (i+1),by omega,rfl,BE,?_,⟨_,rfl⟩,q⟩,hs i ys _ BE hl p⟩
  rw[List.length_append,List.length_singleton,hl]
 ·have e:i=n:=by omega
  subst e
  exact .inl ⟨Nat.le_refl _,hd ys H hl p⟩
theorem TZ{b:Addr}{xs:List V}(hn:xs.length<=sizeLine)(Pv:Nat->List V->Hp->Prop)(h0:Pv 0 [] H)(hq:∀ i ys H,i<=xs.length->Pv i ys H->SqL K H b xs)
  (hs:∀ i x ys H,xs[i]? =some x->ys.length=i->Pv i ys H->te (some x::C7 cap σ) H λy H2=>Pv (i+1) (ys++[y]) H2)
  (hd:∀ ys H,ys.length=xs.length->Pv xs.length ys H->∀ p,H p=none->Q (.ref p) (upd H p (.lst ys))) :
  E5 (G0 K b) (AN 0) DH te 1 cap σ H Q:=by
 refine⟨λi m σ' ys H=>m=xs.length - i/\i<=xs.length/\ys.length=i/\(∃ x0,σ'=x0::C7 cap σ)/\Pv i ys H,⟨xs.length,by simp,Nat.zero_le _,rfl,⟨none,rfl⟩,h0⟩,?_⟩
 rintro i m σ' ys H ⟨rfl,hi,hl,⟨x0,rfl⟩,p⟩
 have q:=hq i ys H hi p
 by_cases BE:i<xs.length
 ·refine .inr ⟨⟨xs,xs[i],q,by simp[BE]⟩,by omega,λx H' y=> ?_⟩
  obtain⟨e,y⟩:=y
  subst e
  have hx:=y xs q
  simp only[AN,DH,if_true]
  refine⟨_,λy H4 q=>⟨xs.length - (i+1),by omega,rfl,BE,?_,⟨_,rfl⟩,q⟩,hs i x ys _ hx hl p⟩
  rw[List.length_append,List.length_singleton,hl]
 ·have e:i=xs.length:=by omega
  subst e
  exact .inl ⟨⟨xs,q,Nat.le_refl _⟩,hd ys H hl p⟩
theorem NP{b:Addr}{xs:List V}{g:TG}{tb:TS}{D:Ends}(Pv:Nat->St->Hp->Prop)(h0:Pv 0 σ H)(hl:∀ i σ H,i<=xs.length->Pv i σ H->SqL K H b xs)
  (hs:∀ i x σ H,xs[i]? =some x->Pv i σ H->g x σ H λσ2 H2=>tb { D with nx:=Pv (i+1),ct:=Pv (i+1),bk:=D.nx } σ2 H2) (hd:∀ σ H,Pv xs.length σ H->D.nx σ H):G9 (G0 K b) g tb D σ H:=tY Pv h0 hl hs hd
theorem dP{b:Addr}{xs:List V}{g:TG}{tb:TS}{D:Ends}(Pv:Nat->St->Hp->Prop)(h0:Pv 0 σ H)(hl:∀ i σ H,i<=xs.length->Pv i σ H->SqT K H b xs)
  (hs:∀ i x σ H,xs[i]? =some x->Pv i σ H->g x σ H λσ2 H2=>tb { D with nx:=Pv (i+1),ct:=Pv (i+1),bk:=D.nx } σ2 H2) (hd:∀ σ H,Pv xs.length σ H->D.nx σ H):G9 (HW K b) g tb D σ H:=tZ Pv h0 hl hs hd
theorem Bv{lo:Int}{n:Nat}{g:TG}{tb:TS}{D:Ends}(Pv:Nat->St->Hp->Prop)(h0:Pv 0 σ H)
  (hs:∀ i σ H,i<n->Pv i σ H->g (.int (lo+i)) σ H λσ2 H2=>tb { D with nx:=Pv (i+1),ct:=Pv (i+1),bk:=D.nx } σ2 H2) (hd:∀ σ H,Pv n σ H->D.nx σ H):G9 (FD lo n) g tb D σ H:=t3 Pv h0 hs hd
end
theorem NQ{K:W.Frag}{H:Hp}{x y:V}{t c:Value}{b:Bool}{Q:VK}(ty:TyX K H x t)(cv:ClsV y c)(k:W.kitOne K t c=some b)(q:Q (.bl b) H):IE K [x,y] H Q:=⟨x,y,t,b,rfl,ty,.inl ⟨c,cv,k⟩,q⟩
theorem Bw{K:W.Frag}{H:Hp}{x:V}{p:Addr}{ys:List V}{cs:List Value}{t:Value}{b:Bool}{Q:VK}(ty:TyX K H x t)(hs:SqT K H p ys)(hc:Paired ClsV ys cs)(k:W.kitAny K t cs=some b)(q:Q (.bl b) H):IE K [x,.ref p] H Q:=⟨x,.ref p,t,b,rfl,ty,.inr ⟨p,ys,cs,rfl,hs,hc,k⟩,q⟩
theorem AL{H:Hp}{p:Addr}{o:HO}(h:H p=none):Same H (upd H p o):=λb u e=>by rw[AK (BN e h)];exact e
theorem NR{α β :Type}{F: α -> β ->Prop}:∀ {l:List α} {m:List β} {i:Nat} {y: β},Paired F l m->m[i]? =some y->∃ x,l[i]? =some x/\F x y
 | _,_,_,_,.nil,e=>by simp at e
 | _,_,0,_,.cons r _,e=>by simp at e;subst e;exact⟨_,rfl,r⟩
 | _,_,i+1,y,.cons _ t,e=>by
  obtain⟨u,h1,h2⟩:=NR (i:=i) (y:=y) t (by simpa using e)
  exact⟨u,by simpa using h1,h2⟩
theorem C4{K:W.Frag}{H:Hp}{p:Addr}{xs:List V}{i:Int}{n:Nat}{v:V}{Q:VK}(h:SqL K H p xs)(hi:i=n)(hx:xs[n]? =some v)(q:Q v H):DM K (.ref p) (.int i) H Q :=
 .inl ⟨p,xs,i,v,rfl,rfl,h,hi ▸ SZ hx,q⟩
theorem BV(n:Nat)(h:n<=100000):n<=sizeLine:=Nat.le_trans h (by decide)
theorem dQ{α :Type}(x: α):∀ w:Nat,(List.replicate w [x]).flatten=List.replicate w x
 | 0=>rfl
 | w+1=>by rw[List.replicate_succ,List.flatten_cons,dQ x w];rfl
theorem IF{f:Str}{v:V}{fs:List (Str × V)}{n:Nat}(h:fs.length+1<n):(A6 f v fs).length<n:=Nat.lt_of_le_of_lt (NC f v fs) h
theorem dR{d:PyData}(h:shp d):PyData.eqv d d=true:=PySem.SeqAt.eqv_refl d (PySem.SeqAt.canLay_of_shaped h)
def vD:V->PyData
 | .bl b=>.bool b
 | .int i=>.int i
 | .str x=>.str x
 | _=>.none
def JF:V->Bool
 | .non=>true
 | .bl _=>true
 | .int _=>true
 | .str x=>PyData.strOk x
 | _=>false
theorem Bx{K:W.Frag}{H:Hp}{v:V}(h:JF v=true):Rep K H v (vD v):=by
 cases v<;>first | exact .non | exact .bl _ | exact .int _ | exact .str _ | cases h
theorem NS{K:W.Frag}{H:Hp}:∀ {vs:List V},(∀ v∈vs,JF v=true)->RepAll K H vs (vs.map vD)
 | [],_=>.nil
 | v::r,h=>.cons (Bx (h v List.mem_cons_self)) (NS λx hx=>h x (List.mem_cons_of_mem _ hx))
theorem By{v:V}(h:JF v=true):(vD v).canLay0=true/\(vD v).depth=0:=by
 cases v<;>first | exact⟨rfl,rfl⟩ | exact⟨h,rfl⟩ | cases h
theorem dU:∀ {vs:List V},(∀ v∈vs,JF v=true)->PyData.canLayAll0 (vs.map vD)=true/\PyData.depthAll (vs.map vD)=0
 | [],_=>⟨rfl,rfl⟩
 | v::r,h=>by
  obtain⟨a,b⟩:=By (h v List.mem_cons_self)
  obtain⟨c,d⟩:=dU λx hx=>h x (List.mem_cons_of_mem _ hx)
  simp[PyData.canLayAll0,PyData.depthAll,a,b,c,d]
theorem LR{vs:List V}(h:∀ v∈vs,JF v=true):shp (.list (vs.map vD)):=by
 obtain⟨c,d⟩:=dU h
 unfold shp PySem.SeqAt.shaped
 simp[PyData.canLay0,PyData.depth,c,d]
theorem Bz{K:W.Frag}{H:Hp}{p q:Addr}{xs:List V}{Q:VK}(h1:SqL K H p xs)(h2:SqL K H q xs)(hf:∀ v∈xs,JF v=true)(hq:Q (.bl true) H):CI K (.ref p) (.ref q) H Q:=by
 unfold CI
 rw[if_neg (by simp[EK])]
 refine⟨_,_,.lst h1 (NS hf),.lst h2 (NS hf),LR hf,LR hf,?_⟩
 rw[dR (LR hf)]
 exact hq
theorem Cb{K:W.Frag}{H:Hp}{p q:Addr}{xs:List V}{Q:VK}(h1:SqL K H p xs)(h2:SqL K H q xs)(hf:∀ v∈xs,JF v=true)(hq:Q (.bl false) H):D6 K (.ref p) (.ref q) H Q:=by
 unfold D6
 rw[if_neg (by simp[EK])]
 refine⟨_,_,.lst h1 (NS hf),.lst h2 (NS hf),LR hf,LR hf,?_⟩
 rw[dR (LR hf)]
 exact hq
end L2
namespace L2
def ItK(k:Bool)(h:Heap)(j a:Addr)(i:Nat):Prop:=if k then h.IsListIter j a i else h.IsTupleIter j a i
def SeqK(k:Bool)(h:Heap)(a:Addr)(xs:Array Value):Prop:=if k then h.IsList a xs else h.IsTuple a xs
theorem ItK.up{k:Bool}{h h':Heap}{j a:Addr}{i:Nat}(x:ItK k h j a i)(q:∀ o,h.get? j=some o->h'.get? j=some o):ItK k h' j a i:=by
 cases k<;>exact(let ⟨o,e,r⟩:=x;⟨o,q o e,r⟩)
theorem SeqK.up{k:Bool}{h h':Heap}{a:Addr}{xs:Array Value}(x:SeqK k h a xs)(q:∀ o,h.get? a=some o->h'.get? a=some o):SeqK k h' a xs:=by
 cases k<;>exact(let ⟨o,e,r⟩:=x;⟨o,q o e,r⟩)
theorem ItK.ob{k:Bool}{h:Heap}{j a:Addr}{i:Nat}(x:ItK k h j a i):∃ o,h.get? j=some o/\o.data=.fields #[.ref a,.int i 0]:=by
 cases k<;>exact(let ⟨o,e,_,r⟩:=x;⟨o,e,r⟩)
section
variable{P:Program}{w:World}{A:Around}{E:Value->Shared->Prop}{s:Shared}
theorem Cc{j t:Addr}{i:Nat}{its:Array Value}{Q:Value->Shared->Prop}(z:A.handled=none)(c:s.heap.IsTupleIter j t i)(d:s.heap.IsTuple t its)(e:its[i]? =none)
  (q:∀ h' x,Heap.ExtBut j s.heap h'->(∃ o,h'.get? x=some o/\o.cls=.type "StopIteration")->E (.ref x) { s with heap:=h' }):wpAny (model P w) A (Builtin.SmallTypes.nextOf (.ref j)) Q E s:=by
 obtain⟨oj,e1,e2,e3⟩:=id c
 obtain⟨ot,f1,_,n,f2⟩:=d
 unfold Builtin.SmallTypes.nextOf
 refine wpAny_bind (wpAny_callSpecial?_slot (name:=Str.ofString "__next__") c.typeIs F.slot_tuple_iterator_next (wpAny_call_entry F.slot_tuple_iterator_next c.typeIs F.entry_tuple_iterator_next ?_ (F.args_tuple_iterator_next_1 _)))
 show wpAny (model P w) _ (field (.ref j) 0 >>= _) _ _ s
 refine wpAny_bind (wpAny_field e1 e3 (x:=.ref t) rfl ?_)
 show wpAny (model P w) _ (field (.ref j) 1 >>= _) _ _ s
 refine wpAny_bind (wpAny_field e1 e3 (x:=.int i 0) rfl ?_)
 show wpAny (model P w) _ (seqItems? (.ref t) >>= _) _ _ s
 refine wpAny_bind (wpAny_seqItems f1 f2 ?_)
 simp only[Int.toNat_natCast,e]
 refine wpAny_bind (wpAny_rule (wpAny_bind (wpAny_setField e1 e3 (by simp) ?_)))
 show wpAny (model P w) _ (newExc (.type "StopIteration") [] >>= _) _ _ _
 refine wpAny_bind ?_
 simp only[newExc,newTuple]
 refine wpAny_bind (wpAny_newObj_type (wpAny_bind (m:=firstArgMember _ _) (wpAny_of_eq (a:=Value.none) (by first | rfl | (simp only[firstArgMember];rfl)) (wpAny_newObj_type ?_ (by size_fits)))) (by size_fits))
 simp only[raiseNew]
 refine wpAny_bind (wpAny_handled ?_)
 rw[show A.in1.handled=none from z]
 exact wpAny_bind (wpAny_pure (wpAny_throw (q _ _ (((Heap.SameBut.update ..).extBut.push _).push _) ⟨_,Heap.get?_push_size _ rfl,rfl⟩)))
theorem Cd{k:Bool}{j t:Addr}{i:Nat}{its:Array Value}{Q:Value->Shared->Prop}(z:A.handled=none)(c:ItK k s.heap j t i)(d:SeqK k s.heap t its)(e:its[i]? =none)
  (q:∀ h' x,Heap.ExtBut j s.heap h'->(∃ o,h'.get? x=some o/\o.cls=.type "StopIteration")->E (.ref x) { s with heap:=h' }):wpAny (model P w) A (Builtin.SmallTypes.nextOf (.ref j)) Q E s:=by
 cases k
 ·exact Cc z c d e q
 ·exact wpAny_nextOf_list_end z c d e q
end
section
variable{P:Program}{w:World}{A:Around}{E:Value->Shared->Prop}{s:Shared}
end
theorem Inv.turnedS{X:Cx}{AA:List (Addr × Obj)}{σ:St}{H:Hp}{s:Shared}{h':Heap}{t':Nat}{fp:List Addr}(I:Inv X AA σ H s)(k:∀ b o,b∉fp->s.heap.get? b=some o->h'.get? b=some o)(hf:∀ b∈fp,FpOk X AA H b):Inv X AA σ H { s with heap:=h',toks:=t' }:=by
 have nit:∀ b u,H b=some u->b∉fp:=λb u e z=>by rw[(hf b z).1]at e;cases e
 refine I.step (g':=s.gens) (d':=s.drawn) (ch:=fp) (λb hb=> ?_) (λb o _ _ hc e _=>k b o hc e) (λb o _ _ hc e _=>⟨o.slots,k b o hc e⟩) (λ_ _ _ _ n=>n)
  (λb o hc e=>⟨o,k b o hc e⟩) (λ_ _ e=>e) (λ_ _ _ e=>e) (λb ps e=>⟨#[],by rw[e];simp⟩) (λm hm=> ?_) (λb u e=> ?_) I.bare
 ·obtain⟨_,f1,_,f3,f4,f5⟩:=hf b hb
  exact⟨f3,f1,f4,f5⟩
 ·obtain⟨o,es,ep,ho,r⟩:=hm
  exact⟨o,es,ep,k _ o (λz=>(hf _ z).2.1 rfl) ho,r⟩
 ·refine(I.hok b u e).stay (λc v hc q=>k c v ?_ q) (λ_ q=>q) λ_ _ q=>q
  rcases hc with z | z
  ·rw[z];exact nit b u e
  ·exact nit c _ z
def SqB(K:W.Frag)(k:Bool)(H:Hp)(a:Addr)(xs:List V):Prop:=if k then SqL K H a xs else SqT K H a xs
theorem Inv.seqK{X:Cx}{AA:List (Addr × Obj)}{σ:St}{H:Hp}{s:Shared}{k:Bool}{a:Addr}{xs:List V}(I:Inv X AA σ H s)(q:SqB X.K k H a xs):∃ its,Vals xs its/\SeqK k s.heap a its.toArray:=by
 cases k
 ·obtain⟨its,rv,p,_⟩:=I.tuple q
  exact⟨its,rv,p⟩
 ·obtain⟨its,rv,p,_⟩:=I.list q
  exact⟨its,rv,p.isList⟩
theorem Inv.seqK_inj{X:Cx}{AA:List (Addr × Obj)}{σ:St}{H:Hp}{s:Shared}{k:Bool}{a:Addr}{xs ys:List V}(I:Inv X AA σ H s)(p:SqB X.K k H a xs)(q:SqB X.K k H a ys):xs=ys:=by
 cases k
 ·exact I.tuple_inj p q
 ·exact I.list_inj p q
theorem SeqK.lt{k:Bool}{h:Heap}{a:Addr}{xs:Array Value}(x:SeqK k h a xs):a<h.objs.size:=by
 cases k<;>exact(let ⟨_,e,_⟩:=x;Heap.lt_size e)
theorem SeqK.nit{k:Bool}{h:Heap}{a b:Addr}{xs:Array Value}(x:SeqK k h a xs){o:Obj}(e:h.get? b=some o)(n:∀ its m,o.data≠.seq its m):a≠b:=by
 intro z
 subst z
 cases k<;>(obtain⟨o',e',_,m,d⟩:=x;rw[e]at e';cases e';exact n _ _ d)
def ZipSt(k k':Bool)(z l l':Addr)(f:Value)(i:Nat)(h:Heap)(T U j j':Addr):Prop :=
 IsZip h z T U f/\IsPair h T (.ref j) (.ref j')/\(∃ a b,IsPair h U a b)/\ItK k h j l i/\ItK k' h j' l' i
structure Five(z T U j j':Addr):Prop where
 a1:T≠z
 a2:U≠z
 a3:j≠z
 a4:j'≠z
 a5:T≠U
 a6:T≠j
 a7:T≠j'
 a8:U≠j
 a9:U≠j'
 a10:j≠j'
theorem SqB.off{X:Cx}{AA:List (Addr × Obj)}{σ:St}{H:Hp}{s:Shared}{k:Bool}{m b:Addr}{zs:List V}(I:Inv X AA σ H s)(q:SqB X.K k H m zs)(f:FpOk X AA H b):m≠b:=by
 intro e
 subst e
 obtain⟨f0,_,_,f3,_⟩:=f
 have no:∀ o,X.K.lookup m=some o->False:=λo hk=>by
  have e:=I.mod.kin m o hk
  rcases f3 with z | z
  ·exact I.ok.noex _ _ e z
  ·exact absurd (Heap.lt_size (I.ok.bs _ _ e).1) (Nat.not_lt.mpr z)
 have nr:∀ u,Rd H m u->False:=λu r=>by
  rcases r with r | ⟨o,r⟩<;>(rw[f0]at r;cases r)
 cases k
 ·rcases q with q | ⟨o,_,_,hk,_⟩
  ·exact nr _ q
  ·exact no o hk
 ·rcases q with q | ⟨o,_,_,hk,_⟩
  ·exact nr _ q
  ·exact no o hk
theorem FpOk.upd{X:Cx}{AA:List (Addr × Obj)}{H:Hp}{a b:Addr}{o:HO}(f:FpOk X AA H b)(n:b≠a):FpOk X AA (upd H a o) b:=⟨(AK n).trans f.1,f.2⟩
theorem ZipSt.lt{k k':Bool}{z l l' T U j j':Addr}{f:Value}{i:Nat}{h:Heap}(q:ZipSt k k' z l l' f i h T U j j'):∀ b∈[z,T,U,j,j'],b<h.objs.size:=by
 obtain⟨h1,h2,⟨a,b',h3⟩,h4,h5⟩:=q
 obtain⟨o4,e4,_⟩:=h4.ob
 obtain⟨o5,e5,_⟩:=h5.ob
 intro b hb
 simp only[List.mem_cons,List.not_mem_nil,or_false]at hb
 rcases hb with rfl | rfl | rfl | rfl | rfl
 ·exact Heap.lt_size h1
 ·exact Heap.lt_size h2
 ·exact Heap.lt_size h3
 ·exact Heap.lt_size e4
 ·exact Heap.lt_size e5
theorem Five.apart{z T U j j' l l':Addr}(D:Five z T U j j')(n:∀ b∈[z,T,U,j,j'],l≠b)(n':∀ b∈[z,T,U,j,j'],l'≠b):ZipApart z T U j j' l l' :=
 ⟨D.a1,D.a2,D.a3,D.a4,D.a5,D.a6,D.a7,D.a8,D.a9,D.a10,n _ (by simp),n _ (by simp),n _ (by simp),n _ (by simp),n' _ (by simp),n' _ (by simp),n' _ (by simp),n' _ (by simp)⟩
section
variable{X:Cx}{tg:Expr}
end
theorem Fun.none{P:Program}{w:World}{K:W.Frag}{mg:Str->Option Value}{base:Heap}{x qual:Str}{st:Stmt}{f:Addr}{fd:FuncData}{N ps:List Str}{k:Nat}{sp:Sp}(F:Fun K x qual st f fd)(S:FnScope N ps (AW st))(no:∀ vs H Q E,sp vs H Q E->False):FnOk P w K mg base (DZ P w) (k+1) f fd ps sp :=
 F.okE S (λvs H Q E h=>(no vs H Q E h).elim) λ_ _ _ _ H vs Q E _ h=>(no vs H Q E h).elim
end L2
namespace L2
def NT(z:Str):It:=⟨λi _=>i<z.cps.size,λi H x H'=>H'=H/\∃ c,z.cps[i]? =some c/\x=.str ⟨#[c]⟩,λi _=>z.cps.size<=i⟩
theorem dW{P:Program}{w:World}{K:PySem.W.Frag}{tg:Expr}{it:Addr}{z:Str}{t:Tok}{nm:String}(hn:["enumerate","zip","dict_itemiterator","dict_reverseitemiterator","odict_iterator","itertools.zip_longest","itertools.pairwise"].contains nm=false)
  (W:∀ A:Around,A.handled=none->Walks P w A it [it] [it] z.cps.size (SignAt z) (λi h=>h.IsStrIter it nm z t i)) (sf:∀ (A:Around) (i:Nat) (s:Shared) (Q:Value->Shared->Prop) (E:Value->Shared->Prop),s.heap.IsStrIter it nm z t i->Q (.ref it) s->wpAny (model P w) A (pyIter (.ref it)) Q E s) :
  IT P w K tg (NT z) [it] it (λi h=>i<=z.cps.size/\h.IsStrIter it nm z t i) where
 mem:=by simp
 obj:=λi h ⟨_,o,e,c,d⟩ b hb=>by
  have e':b=it:=by simpa using hb
  subst e'
  exact⟨o,e,λv q=>by rw[d]at q;cases q⟩
 keep:=λi h h' ⟨l,o,e,r⟩ k=>⟨l,o,k it (by simp) o e,r⟩
 item:=by
  intro X hP hw hK hc i AA s σ H E I hf ⟨_,st⟩ hg
  subst hP hw hK
  obtain⟨f0,f1,f2,f3,f4,f5⟩:=hf it (by simp)
  refine(W _ (I.ok.hd hc)).item i s _ _ hg st λv h' tk hv st' kk=> ?_
  obtain⟨c,u,hx,rfl⟩:=hv
  have I1:Inv X AA σ H { s with heap:=h',toks:=tk }:=I.turned (λb o hb e=>kk b o (by simpa using hb) e) f0 f1 f3 f4 f5
  obtain⟨o,e,c1,d⟩:=id st'
  exact⟨_,rfl,M8 (s:={ s with heap:=h',toks:=tk }) e c1 d hn ⟨.str ⟨#[c]⟩,H,I1,⟨u,rfl⟩,⟨rfl,c,hx,rfl⟩,⟨hg,st'⟩,λb hb=>(hf b hb).1⟩⟩
 done:=by
  intro X hP hw hK hc i AA s σ H E I hf ⟨l,st⟩ hg
  subst hP hw hK
  obtain⟨f0,f1,f2,f3,f4,f5⟩:=hf it (by simp)
  have e:i=z.cps.size:=Nat.le_antisymm l hg
  subst e
  exact(W _ (I.ok.hd hc)).done s _ _ st λh' tk kk=>⟨rfl,I.turned (λb o hb e=>kk b o (by simpa using hb) e) f0 f1 f3 f4 f5⟩
 self:=λA i s Q E st h=>sf A i s Q E st.2 h
theorem dX:∀ bs:List Bool,(List.range bs.length).all (λi=>bs.getD i false)=bs.all id
 | []=>rfl
 | b::t=>by
  have ih:=dX t
  rw[List.length_cons,List.range_succ_eq_map,List.all_cons,List.all_map,List.all_cons,<-ih]
  rfl
def NU(tl:TE):TI:=λσ H R=>tl σ H λx H1=>∃ z,x=.str z/\R (NT z) H1
section
variable{X:Cx}{tg:Expr}
theorem T2{l:Expr}{tl:TE}(hl:PE X l tl):PI X tg l (NU tl):=by
 intro AA s σ H R I h
 refine AT (hl AA s σ H _ I h) λv s1 hzz=> ?_
 obtain⟨x,H1,I1,r1,q1⟩:=hzz
 obtain⟨z,rfl,q⟩:=q1
 obtain⟨t,rfl⟩:=r1
 have fp1:∀ b∈[s1.heap.objs.size],FpOk X AA H1 b:=λb hb=>by
  have e:b=s1.heap.objs.size:=by simpa using hb
  subst e
  exact I1.fpOk (Nat.le_refl _) (I1.hok.fresh (Nat.le_refl _))
 cases ha:z.cps.all (· <128)
 ·refine wpAny_pyIter_wide ha ⟨s1.heap.objs.size,[s1.heap.objs.size],_,_,H1,rfl,I1.kept (t':=s1.toks) λb o e=>Heap.get?_push_of_some _ e,dW (nm:="str_iterator") (t:=t) (by decide) (λA hA=>Walks.strWide hA _ z t) (λA i s Q E st h=>wpAny_pyIter_striter_wide st h),⟨Nat.zero_le _,_,Heap.get?_push_size _ rfl,rfl,rfl⟩,fp1,q⟩
 ·refine wpAny_pyIter_ascii ha ⟨s1.heap.objs.size,[s1.heap.objs.size],_,_,H1,rfl,I1.kept (t':=s1.toks) λb o e=>Heap.get?_push_of_some _ e,dW (nm:="str_ascii_iterator") (t:=t) (by decide) (λA hA=>Walks.strAscii hA _ z t) (λA i s Q E st h=>wpAny_pyIter_striter_ascii st h),⟨Nat.zero_le _,_,Heap.get?_push_size _ rfl,rfl,rfl⟩,fp1,q⟩
def P0(K:W.Frag):List V->Hp->VK->Prop:=λxs H Q=>∃ x,xs=[.str x]/\x.length=1/\Q (.int (x.cps.getD 0 0:Nat)) H
theorem Cg:CallR X (.builtin "ord") (P0 X.K):=uO
def Cj(K:W.Frag):List V->Hp->VK->Prop:=λxs H Q=>∃ i j,xs=[.int i,.int j]/\Q (.int (if j > i then j else i)) H
def LS(K:W.Frag):List V->Hp->VK->Prop:=λxs H Q=>∃ (p:Addr) (bs:List Bool),xs=[.ref p]/\SqL K H p (bs.map V.bl)/\Q (.bl (bs.all id)) H
theorem P4(hc:X.calm=true):CallR X (.builtin "all") (LS X.K):=by
 intro AA s σ H xs us Q I r h
 obtain⟨p,bs,rfl,hp,q⟩:=h
 obtain⟨u,rfl,ru⟩:=FY r
 cases ru
 obtain⟨its,rv,pl,hz⟩:=I.list hp
 have hl:=rv.length
 refine call_all_walk (wpAny_pyIter_list pl.isList ?_)
 have hne:p≠s.heap.objs.size:=by
  obtain⟨o,e,_⟩:=pl.isList
  exact Nat.ne_of_lt (Heap.lt_size e)
 refine⟨s.heap.objs.size,_,_,_,_,_,λi=>bs.getD i false,rfl,Walks.list (show X.A.in1.handled=none from I.ok.hd hc) s.heap.objs.size p hne its.toArray,⟨⟨_,Heap.get?_push_size _ rfl,rfl,rfl⟩,pl.isList.push _⟩,?_,?_⟩
 ·intro i v s' Q' E' hv hq
  have hv:its[i]? =some v:=by simpa using hv
  have hi:=(List.getElem?_eq_some_iff.mp hv).1
  rw[List.length_map]at hl
  obtain⟨b,hb⟩:∃ b,bs[i]? =some b:=⟨_,List.getElem?_eq_getElem (by omega)⟩
  obtain⟨u,hu,ru⟩:=rv.get (i:=i) (x:=V.bl b) (by rw[List.getElem?_map,hb];rfl)
  rw[hv]at hu
  cases hu
  cases (show v=Value.bool b from ru)
  have e:bs.getD i false=b:=by rw[List.getD_eq_getElem?_getD,hb];rfl
  have hq:Q' (bs.getD i false) s':=hq
  rw[e]at hq
  exact wpAny_pure hq
 ·intro h' tk kk
  have e:(List.range its.toArray.size).all (λi=>bs.getD i false)=bs.all id:=by
   rw[List.length_map]at hl
   rw[List.size_toArray,<-hl]
   exact dX bs
  rw[e]
  exact⟨.bl _,H,I.kept (t':=tk) λb o eb=>kk b o (by simpa using Nat.ne_of_lt (Heap.lt_size eb)) (Heap.get?_push_of_some _ eb),rfl,q⟩
end
theorem Ck{K:W.Frag}{x:Str}{H:Hp}{Q:VK}:P0 K [.str x] H Q=(x.length=1/\Q (.int (x.cps.getD 0 0:Nat)) H):=by simp[P0]
theorem Cl{K:W.Frag}{i j:Int}{H:Hp}{Q:VK}:Cj K [.int i,.int j] H Q=Q (.int (if j > i then j else i)) H:=propext ⟨λ⟨_,_,e,q⟩=>by cases e;exact q,λq=>⟨_,_,rfl,q⟩⟩
section
variable{P:Program}{w:World}{A:Around}{E:Value->Shared->Prop}{s:Shared}
end
section
variable{X:Cx}
def dY(k:Nat):List V:=(List.range k).map λ(i:Nat)=>V.int (i:Int)
end
theorem Cm{tl:TE}{g:TG}{tt:TT}{te:TE}{k:Nat}{cap:List Nat}{σ:St}{H:Hp}{Q:VK}:DC (NU tl) g tt te k cap σ H Q=(tl σ H λx H1=>∃ z,x=.str z/\E5 (NT z) g tt te k cap σ H1 Q):=rfl
theorem Cp{te:TE}{cap:List Nat}{σ:St}{H:Hp}{Q:VK}{z:Str}(hn:z.cps.size<=sizeLine)(Pv:Nat->List V->Hp->Prop)(h0:Pv 0 [] H)(hs:∀ i c ys H,z.cps[i]? =some c->ys.length=i->Pv i ys H->te (some (.str ⟨#[c]⟩)::C7 cap σ) H λy H2=>Pv (i+1) (ys++[y]) H2)
  (hd:∀ ys H,ys.length=z.cps.size->Pv z.cps.size ys H->∀ p,H p=none->Q (.ref p) (upd H p (.lst ys))):E5 (NT z) (AN 0) DH te 1 cap σ H Q:=by
 refine⟨λi m σ' ys H=>m=z.cps.size - i/\i<=z.cps.size/\ys.length=i/\(∃ x0,σ'=x0::C7 cap σ)/\Pv i ys H,⟨z.cps.size,by simp,Nat.zero_le _,rfl,⟨none,rfl⟩,h0⟩,?_⟩
 rintro i m σ' ys H ⟨rfl,hi,hl,⟨x0,rfl⟩,p⟩
 by_cases BE:i<z.cps.size
 ·refine .inr ⟨BE,by omega,λx H' y=> ?_⟩
  obtain⟨e,c,hc,y⟩:=y
  subst e y
  simp only[AN,DH,if_true]
  refine⟨_,λy H4 q=>⟨z.cps.size - (i+1),by omega,rfl,BE,?_,⟨_,rfl⟩,q⟩,hs i c ys _ hc hl p⟩
  rw[List.length_append,List.length_singleton,hl]
 ·have e:i=z.cps.size:=by omega
  subst e
  exact .inl ⟨Nat.le_refl _,hd ys H hl p⟩
end L2
namespace L2
open PySem
abbrev HM(l:List Nat):Prop:=l.Pairwise (· <·)
theorem NV{l:List Nat}(R:HM l){i k a b:Nat}(h:i<k)(ha:l[i]? =some a)(hb:l[k]? =some b):a<b:=by
 obtain⟨h1,rfl⟩:=List.getElem?_eq_some_iff.mp ha
 obtain⟨h2,rfl⟩:=List.getElem?_eq_some_iff.mp hb
 exact List.pairwise_iff_getElem.mp R i k h1 h2 h
structure Below(xs:Array Nat)(j r:Nat):Prop where
 le:r<=xs.size
 lo:∀ i v,i<r->xs.toList[i]? =some v->v<j
 hi:∀ i v,r<=i->xs.toList[i]? =some v->j<=v
theorem T3{xs:Array Nat}{j:Nat}(R:HM xs.toList):∀ (fuel lo hi:Nat),lo<=hi->hi<=xs.size->hi - lo<=fuel->(∀ i v,i<lo->xs.toList[i]? =some v->v<j)->(∀ i v,hi<=i->xs.toList[i]? =some v->j<=v) →
  Below xs j (SetTable.below.go xs j fuel lo hi)
 | 0,lo,hi,h1,h2,h3,a,b=>by
  have e:lo=hi:=by omega
  subst e
  exact⟨h2,a,b⟩
 | fuel+1,lo,hi,h1,h2,h3,a,b=>by
  unfold SetTable.below.go
  by_cases BE:lo<hi
  ·rw[if_pos BE]
   have hm:(lo+hi) / 2<xs.size:=by omega
   have em:xs.toList[(lo+hi) / 2]? =some (xs[(lo+hi) / 2]):=by simp[hm]
   have ed:xs.getD ((lo+hi) / 2) j=xs[(lo+hi) / 2]:=by simp[hm]
   simp only[ed]
   split
   ·rename_i hv
    refine T3 R fuel _ _ (by omega) h2 (by omega) (λi v hi' e=> ?_) b
    by_cases q:i=(lo+hi) / 2
    ·subst q;rw[em]at e;cases e;exact hv
    ·exact Nat.lt_trans (NV R (show i<(lo+hi) / 2 by omega) e em) hv
   ·rename_i hv
    refine T3 R fuel _ _ (by omega) (by omega) (by omega) a λi v hi' e=> ?_
    by_cases q:i=(lo+hi) / 2
    ·subst q;rw[em]at e;cases e;omega
    ·have:=NV R (show(lo+hi) / 2<i by omega) em e
     omega
  ·rw[if_neg BE]
   have e:lo=hi:=by omega
   subst e
   exact⟨h2,a,b⟩
theorem T5{xs:Array Nat}{j:Nat}(R:HM xs.toList):Below xs j (SetTable.below xs j) :=
 T3 R _ _ _ (Nat.zero_le _) (Nat.le_refl _) (by omega) (λ_ _ h=>absurd h (Nat.not_lt_zero _)) λi v h e=>by
  rw[List.getElem?_eq_none (by simpa using h)]at e;cases e
theorem Below.uniq{xs:Array Nat}{j r r':Nat}(a:Below xs j r)(b:Below xs j r'):r=r':=by
 rcases Nat.lt_trichotomy r r' with h | h | h
 ·have hs:r<xs.size:=Nat.lt_of_lt_of_le h b.le
  have e:xs.toList[r]? =some (xs[r]):=by simp[hs]
  have:=b.lo _ _ h e
  have:=a.hi _ _ (Nat.le_refl _) e
  omega
 ·exact h
 ·have hs:r'<xs.size:=Nat.lt_of_lt_of_le h a.le
  have e:xs.toList[r']? =some (xs[r']):=by simp[hs]
  have:=a.lo _ _ h e
  have:=b.hi _ _ (Nat.le_refl _) e
  omega
def NotIn(t:SetTable)(j:Nat):Prop:=t.place[SetTable.below t.place j]? ≠some j
theorem Cq{t:SetTable}{j:Nat}(h:t.slot j=.empty):NotIn t j:=λe=>by
 unfold SetTable.slot at h
 simp only[e,beq_self_eq_true,if_true]at h
 cases h
theorem Cv{t:SetTable}{j:Nat}(h:t.slot j=.dummy):NotIn t j:=λe=>by
 unfold SetTable.slot at h
 simp only[e,beq_self_eq_true,if_true]at h
 cases h
theorem dZ(t:SetTable)(p:SetTable.Probe):(t.advance p).dummy=p.dummy:=by
 unfold SetTable.advance
 split<;>rfl
theorem T6{t:SetTable}{f:Nat->Int}{h:Int}:∀ (fuel:Nat) (p:SetTable.Probe) (j:Nat) (d:Option Nat),SetTable.probe.go t f h fuel p=some (.empty j d)->(∀ x,p.dummy=some x->NotIn t x)->NotIn t (d.getD j)
 | 0,p,j,d,e,_=>by cases e
 | fuel+1,p,j,d,e,hd=>by
  unfold SetTable.probe.go at e
  split at e
  ·rename_i hs
   cases e
   cases q:p.dummy with
   | none=>exact Cq hs
   | some x=>exact hd x q
  ·rename_i hs
   refine T6 fuel _ j d e λx hx=> ?_
   rw[dZ]at hx
   cases hx
   exact Cv hs
  ·rename_i i hs
   split at e
   ·cases e
   ·exact T6 fuel _ j d e λx hx=>by rw[dZ]at hx;exact hd x hx
theorem Cw{t:SetTable}{h:Int}{s:Nat}{b:Bool}(e:t.freeSlot h=some (s,b)):NotIn t s:=by
 unfold SetTable.freeSlot at e
 split at e
 ·rename_i j d hp
  cases e
  refine T6 _ _ _ _ hp λx hx=> ?_
  cases hx
 ·cases e
theorem Cy(n:Nat):HM (Array.range n).toList:=by
 rw[Array.toList_range]
 exact List.pairwise_lt_range
theorem Cz {t:SetTable} {j:Nat} (R:HM t.place.toList) (h:NotIn t j):HM (t.put j).1.place.toList:=by
  have b:=T5 (j:=j) R
  show HM (SetTable.insertAt t.place (SetTable.below t.place j) j).toList
  rw[SetTable.toList_insertAt]
  have hlo:∀ v∈t.place.toList.take (SetTable.below t.place j),v<j:=λv hv=>by
    obtain⟨i,hi,e⟩:=List.getElem_of_mem hv
    have hi':i<SetTable.below t.place j:=by rw[List.length_take]at hi;omega
    refine b.lo i v hi' ?_
    rw[<-e];simp only[List.getElem_take];exact List.getElem?_eq_getElem _
  have hhi:∀ v∈t.place.toList.drop (SetTable.below t.place j),j<v:=λv hv=>by
    obtain⟨i,hi,e⟩:=List.getElem_of_mem hv
    have e2:t.place.toList[SetTable.below t.place j+i]? =some v:=by
      rw[<-List.getElem?_drop,List.getElem?_eq_getElem hi,e]
    have:=b.hi _ _ (Nat.le_add_right _ _) e2
    by_cases q:j=v
    · subst q
      have z:i=0:=by
        by_cases z:i=0
        ·exact z
        · have hl:SetTable.below t.place j<t.place.toList.length:=by
            rw[List.length_drop]at hi;omega
          have e3:=List.getElem?_eq_getElem hl
          have:=NV R (show SetTable.below t.place j<SetTable.below t.place j+i by omega) e3 e2
          have:=b.hi _ _ (Nat.le_refl _) e3
          omega
      subst z
      rw[Nat.add_zero,Array.getElem?_toList]at e2
      exact absurd e2 h
    ·omega
  refine List.pairwise_append.mpr ⟨R.sublist (List.take_sublist ..),List.pairwise_cons.mpr ⟨hhi,R.sublist (List.drop_sublist ..)⟩,λx hx y hy=> ?_⟩
  rcases List.mem_cons.mp hy with rfl | hy
  ·exact hlo x hx
  ·exact Nat.lt_trans (hlo x hx) (hhi y hy)
structure Led(led:Bool)(t:SetTable):Prop where
 rise:HM t.place.toList
 led:t.led=led
theorem Led.standIn{led:Bool}{t:SetTable}(h:t.led=led)(n:Nat):Led led (t.standIn n):=⟨Cy n,h⟩
theorem Led.or{led:Bool}{t:SetTable}(h:Led led t)(n:Nat):Led led (t.orStandIn n):=by
 unfold SetTable.orStandIn
 split
 ·exact h
 ·exact .standIn h.led n
theorem Led.layNew{led:Bool}{t:SetTable}(L:Led led t)(es:Array (Int × Value))(h:Int)(x:Value):Led led (layNew t es h x).2.1:=by
 unfold PySem.layNew
 split
 ·rename_i slot b e
  exact Led.or ⟨Cz L.rise (Cw e),L.led⟩ _
 ·exact .standIn L.led _
theorem Db(owner:Array (Option Nat))(m:Nat):HM (((List.range m).filterMap λj=>(owner.getD j none).map (j,·)).map (·.1)):=by
 rw[List.map_filterMap]
 refine(List.pairwise_lt_range (n:=m)).filterMap _ λa b hab x hx y hy=> ?_
 simp only[Option.mem_def,Option.map_map,Option.map_eq_some_iff,Function.comp_apply]at hx hy
 obtain⟨_,_,rfl⟩:=hx
 obtain⟨_,_,rfl⟩:=hy
 exact hab
theorem Led.relayAll{led:Bool}{t:SetTable}(h:t.led=led)(L:Led led t)(es:Array (Int × Value))(wanted:Nat):Led led (relayAll t es wanted).2.1:=by
 unfold PySem.relayAll
 split
 ·rename_i t' order e
  dsimp only
  split
  ·unfold SetTable.relaid SetTable.laid at e
   simp only[Option.bind_eq_bind,Option.bind_eq_some_iff,Option.pure_def,Option.some.injEq,Prod.mk.injEq]at e
   obtain⟨owner,_,rfl,_⟩:=e
   exact⟨by simpa using Db owner _,h⟩
  ·exact .standIn h _
 ·exact .standIn h _
theorem Led.plainOff{led:Bool}{t:SetTable}(L:Led led t):Led led { t with plain:=false }:=⟨L.rise,L.led⟩
theorem Led.fresh(led:Bool):Led led (.fresh 0 0 led):=⟨List.Pairwise.nil,rfl⟩
def LT(xs:Array Nat):Nat->Nat
 | 0=>0
 | i+1=>xs.getD i 0+1
theorem Dc{xs:Array Nat}(R:HM xs.toList):∀ {i:Nat},i<=xs.size->SetTable.below xs (LT xs i)=i
 | 0,_=>(T5 R).uniq ⟨Nat.zero_le _,λ_ _ h=>absurd h (Nat.not_lt_zero _),λ_ _ _ _=>Nat.zero_le _⟩
 | i+1,hi=>(T5 R).uniq ⟨hi,λk v hk e=>by
   have hi':i<xs.size:=by omega
   have ei:xs.toList[i]? =some xs[i]:=by simp[hi']
   have ed:xs.getD i 0=xs[i]:=by simp[hi']
   show v<xs.getD i 0+1
   rw[ed]
   by_cases q:k=i
   ·subst q;rw[ei]at e;cases e;omega
   ·have:=NV R (show k<i by omega) e ei
    omega,λk v hk e=>by
   have hi':i<xs.size:=by omega
   have ei:xs.toList[i]? =some xs[i]:=by simp[hi']
   have ed:xs.getD i 0=xs[i]:=by simp[hi']
   show xs.getD i 0+1<=v
   rw[ed]
   exact NV R (show i<k by omega) ei e⟩
theorem d0{α :Type}(next:Nat->Nat):∀ (fuel k:Nat) (left:List α) (out:Array α),left.length=fuel->List.Perm (pickOrder.go next fuel k left out).toList (out.toList++left)
 | 0,k,left,out,h=>by
  rw[List.length_eq_zero_iff.mp h]
  unfold pickOrder.go
  simp
 | fuel+1,k,left,out,h=>by
  unfold pickOrder.go
  have hl:next k % left.length<left.length:=Nat.mod_lt _ (by omega)
  rw[List.getElem?_eq_getElem hl]
  dsimp only
  refine(d0 next fuel (k+1) _ _ (by rw[List.length_eraseIdx_of_lt hl];omega)).trans ?_
  rw[Array.toList_push,List.append_assoc]
  refine List.Perm.append_left _ ?_
  rw[List.eraseIdx_eq_take_drop_succ]
  show List.Perm (left[next k % left.length]::(left.take (next k % left.length)++left.drop (next k % left.length+1))) left
  refine List.perm_middle.symm.trans ?_
  rw[<-List.drop_eq_getElem_cons hl,List.take_append_drop]
theorem Dd{α :Type}(next:Nat->Nat)(xs:Array α):List.Perm (pickOrder next xs).toList xs.toList:=by
 have:=d0 next xs.size 0 xs.toList #[] (by simp)
 simpa [pickOrder]using this
end L2
namespace L2
open PySem PyProof.Rows
def J8(w:World):Bool:= !w.params.followText "set-order"
def iv:Value->Int
 | .int n _=>n
 | _=>0
def IntSet(P:Program)(w:World)(h:Heap)(a:Addr)(ms:List Int):Prop :=
 ∃ (o:Obj) (es:Array (Int × Value)) (ep:Nat) (t:SetTable),h.get? a=some o/\o.ExactSet/\o.data=.set es ep t/\ElemsOf (intKind P w) es.toList ∧
  List.Perm (es.toList.map λe=>iv e.2) ms/\es.size<scanBound/\t.fits es.size=true/\Led (J8 w) t
section
variable{P:Program}{w:World}{A:Around}{E:Value->Shared->Prop}{s:Shared}
theorem T7{es:List (Int × Value)}(h:ElemsOf (intKind P w) es){e:Int × Value}(he:e∈es):∃ t,e.2=.int (iv e.2) t:=by
 obtain⟨⟨k,hk,_⟩,_⟩:=h e he
 obtain⟨t,z⟩:=Value.isInt_shape hk
 exact⟨t,by rw[z];rfl⟩
theorem d5{es:List (Int × Value)}(h:ElemsOf (intKind P w) es){e:Int × Value}(he:e∈es){k:Int}:(intKind P w).is k e.2=true↔iv e.2=k:=by
 obtain⟨t,z⟩:=T7 h he
 rw[z]
 refine⟨λq=> ?_,λq=> ?_⟩
 ·have q':Value.isInt k (.int (iv e.2) t)=true:=q
  obtain⟨t',z'⟩:=Value.isInt_shape q'
  cases z';rfl
 ·rw[<-q];exact intKind_is ..
theorem d7{es:List (Int × Value)}{ms:List Int}(h:ElemsOf (intKind P w) es)(p:List.Perm (es.map λe=>iv e.2) ms)(k:Int):k∈ms↔∃ e∈es,(intKind P w).is k e.2=true:=by
 rw[<-p.mem_iff,List.mem_map]
 exact⟨λ⟨e,he,q⟩=>⟨e,he,(d5 h he).mpr q⟩,λ⟨e,he,q⟩=>⟨e,he,(d5 h he).mp q⟩⟩
theorem d8{h:Heap}{a:Addr}{o:Obj}{es es':Array (Int × Value)}{ep:Nat}{t t':SetTable}{ms:List Int}(ho:h.get? a=some o)(hex:o.ExactSet)(hd:o.data=.set es ep t)
  (hel:ElemsOf (intKind P w) es'.toList) (hp:List.Perm (es'.toList.map λe=>iv e.2) ms) (hb:es'.size<scanBound) (hf:t'.fits es'.size=true) (L:Led (J8 w) t') :
  (h.update a (Obj.putSet es' t')).get? a=some { o with data:=.set es' (ep+1) t' }/\IntSet P w (h.update a (Obj.putSet es' t')) a ms:=by
 have g:=(SetOf_store (knd:=intKind P w) (S':=λk=>es'.toList.any λe=>(intKind P w).is k e.2) ho hex hd hel (λk=>by rw[List.any_eq_true]) hb hf).1
 exact⟨g,_,es',ep+1,t',g,hex,rfl,hel,hp,hb,hf,L⟩
theorem d9{g:Bool->Sem Unit}(hg:∀ (b:Bool) (s1:Shared) (R:Unit->Shared->Prop),R () s1->wpAny (model P w) A (g b) R E s1){a:Addr}{o:Obj}{es e1:Array (Int × Value)}{ep:Nat}{t t1:SetTable}{ms:List Int}{wd:Bool}
  (ho:s.heap.get? a=some o) (hex:o.ExactSet) (hd:o.data=.set es ep t) (hel:ElemsOf (intKind P w) e1.toList) (hp:List.Perm (e1.toList.map λe=>iv e.2) ms) (hb:e1.size<scanBound) (hf:t1.fits e1.size=true) (L:Led (J8 w) t1)
  {R:Option Bool->Shared->Prop} (h:∀ h',Heap.SameBut a s.heap h'->IntSet P w h' a ms->R (some true) { s with heap:=h' }) :
  wpAny (model P w) A (do
   storeSet a e1 t1
   if(!wd && t1.tooFull)=true then do
    g (relayAll t1 e1 (SetTable.grown e1.size)).2.2
    storeSet a (relayAll t1 e1 (SetTable.grown e1.size)).1 (relayAll t1 e1 (SetTable.grown e1.size)).2.1
    pure (some true)
   else pure (some true)) R E s:=by
 refine wpAny_bind (wpAny_storeSet_of ho hd ?_ (fits_of_scanBound hb))
 obtain⟨g1,S1⟩:=d8 ho hex hd hel hp hb hf L
 have sb1:=Heap.SameBut.update s.heap a (Obj.putSet e1 t1)
 split
 ·have p2:=relayAll_perm t1 e1 (SetTable.grown e1.size)
  have f2:=relayAll_fits t1 e1 (SetTable.grown e1.size)
  have L2:=Led.relayAll L.led L e1 (SetTable.grown e1.size)
  revert p2 f2 L2
  generalize relayAll t1 e1 (SetTable.grown e1.size)=r
  obtain⟨e2,t2,gv⟩:=r
  intro p2 f2 L2
  dsimp only at p2 f2 L2 ⊢
  have z2:e2.size=e1.size:=by rw[<-Array.length_toList,p2.length_eq,Array.length_toList]
  have b2:e2.size<scanBound:=z2 ▸ hb
  refine wpAny_bind (hg _ _ _ ?_)
  refine wpAny_bind (wpAny_storeSet_of g1 rfl ?_ (fits_of_scanBound b2))
  obtain⟨_,S2⟩:=d8 (P:=P) (w:=w) g1 hex rfl (hel.perm p2) ((p2.map _).trans hp) b2 f2 L2
  exact wpAny_pure (h _ (sb1.trans (Heap.SameBut.update ..)) S2)
 ·exact wpAny_pure (h _ sb1 S1)
theorem eA{ms:List Int}{k:Int}(h:k∈ms):step_dedup ms k=ms:=by
 unfold step_dedup
 have e:(ms.any λx=>x == k)=true:=List.any_eq_true.mpr ⟨k,h,beq_self_eq_true k⟩
 rw[if_pos e]
theorem eB{ms:List Int}{k:Int}(h:¬ k∈ms):step_dedup ms k=ms++[k]:=by
 unfold step_dedup
 rw[if_neg λz=> ?_]
 obtain⟨x,hx,q⟩:=List.any_eq_true.mp z
 rw[beq_iff_eq]at q
 exact h (q ▸ hx)
theorem Dg{a:Addr}{ms:List Int}{k:Int}{tk:Tok}{Q:Bool->Shared->Prop}(hS:IntSet P w s.heap a ms)(hr:ms.length+1<scanBound)
    (h:∀ (b:Bool) h',Heap.SameBut a s.heap h'->IntSet P w h' a (step_dedup ms k)->Q b { s with heap:=h' }):wpAny (model P w) A (setAddHashed a (.int k tk) ((intKind P w).hash k)) Q E s:=by
  have hk:(intKind P w).is k (.int k tk)=true:=intKind_is ..
  have hsc:(Value.int k tk).scannable=true:=rfl
  generalize Value.int k tk=x at hk hsc
  obtain⟨o,es,ep,t,ho,hex,hd,hel,hp,hb,hf,L⟩:=hS
  have B0:es.size=ms.length:=by rw[<-hp.length_eq,List.length_map,Array.length_toList]
  have hivx:iv x=k:=by obtain⟨_,z⟩:=Value.isInt_shape hk;rw[z];rfl
  unfold setAddHashed setAddHashedIn
  refine wpAny_holding (wpAny_bind (wpAny_setState_of ho hd hf ?_))
  dsimp only
  rw[byScan_of hsc hb hel,if_pos rfl]
  unfold setAddByScan
  refine wpAny_bind (wpAny_bind (wpAny_rule (wpAny_bind (wpAny_setScan_of hk ho hd hf hel ?_))))
  cases hx:es.toList.findIdx? (λe=>(intKind P w).is k e.2)with
  | some j =>
    dsimp only
    obtain⟨hj,pj,_⟩:=List.findIdx?_eq_some_iff_getElem.mp hx
    have hm:k∈ms:=(d7 hel hp k).mpr ⟨_,List.getElem_mem hj,pj⟩
    refine wpAny_pure (wpAny_pure ?_)
    have:=h false s.heap (Heap.SameBut.refl a s.heap) ⟨o,es,ep,t,ho,hex,hd,hel,by rw[eA hm];exact hp,hb,hf,L⟩
    exact this
  | none =>
    dsimp only
    have hm:¬ k∈ms:=λz=>by
      obtain⟨e,he,q⟩:=(d7 hel hp k).mp z
      have:=List.findIdx?_eq_none_iff.mp hx e he
      rw[q]at this;cases this
    have p1:=layNew_perm t es ((intKind P w).hash k) x
    have f1:=layNew_fits t es ((intKind P w).hash k) x
    have L1:=L.layNew es ((intKind P w).hash k) x
    revert p1 f1 L1
    generalize layNew t es ((intKind P w).hash k) x=r
    obtain⟨e1,t1,wd,gv⟩:=r
    intro p1 f1 L1
    dsimp only at p1 f1 L1 ⊢
    rw[Array.toList_push]at p1
    have hel1:ElemsOf (intKind P w) e1.toList:=(hel.push hk hsc).perm p1
    have hp1:List.Perm (e1.toList.map λe=>iv e.2) (step_dedup ms k):=by
      rw[eB hm]
      refine(p1.map _).trans ?_
      rw[List.map_append,List.map_cons,List.map_nil,hivx]
      exact List.Perm.append_right _ hp
    have hb1:e1.size<scanBound:=by
      rw[<-Array.length_toList,p1.length_eq,List.length_append,Array.length_toList,B0]
      exact hr
    have gw:∀ (b:Bool) (s1:Shared) (R:Unit->Shared->Prop),R () s1 →
        wpAny (model P w) A (match b with
          | true=>rule "set.scan.the-table-gave-way"
          | false=>pure ()) R E s1:=λb s1 R q=>by
      cases b
      ·exact wpAny_pure q
      ·exact wpAny_rule q
    refine wpAny_bind (gw _ _ _ ?_)
    split
    · refine wpAny_bind ?_
      rw[hashByValue_scannable 8 hsc]
      refine wpAny_pure (d9 ?_ ho hex hd hel1 hp1 hb1 ?_ ?_ λh' sb S'=> ?_)
      · intro b s1 R q
        cases b
        ·exact wpAny_pure q
        ·exact wpAny_rule q
      · split
        ·exact f1
        ·exact SetTable.fits_plain_off f1
      · split
        ·exact L1
        ·exact L1.plainOff
      ·dsimp only;exact wpAny_pure (h _ h' sb S')
    · refine wpAny_bind (wpAny_pure ?_)
      rw[if_pos rfl]
      refine d9 ?_ ho hex hd hel1 hp1 hb1 f1 L1 λh' sb S'=> ?_
      · intro b s1 R q
        cases b
        ·exact wpAny_pure q
        ·exact wpAny_rule q
      ·dsimp only;exact wpAny_pure (h _ h' sb S')
theorem IntSet.at{h h':Heap}{a:Addr}{ms:List Int}(x:IntSet P w h a ms)(k:∀ o,h.get? a=some o->h'.get? a=some o):IntSet P w h' a ms:=by
 obtain⟨o,es,ep,t,ho,r⟩:=x
 exact⟨o,es,ep,t,k _ ho,r⟩
end
section
variable{P:Program}{w:World}{A:Around}{R:Result->Shared->Prop}{I:Addr}{fp wr:List Addr}{G:Array GenState->Array GenState->Prop}{n:Nat}{T:Nat->Value->Prop}{St:Nat->Shared->Prop}
theorem Dh(W:WalksS P w A.in1 I fp wr G n T St)(a:Addr)(ha:a∉fp)(val:Nat->Int)(hv:∀ i v,T i v->∃ t,v=.int (val i) t)(hb:n+1<scanBound):∀ (k i:Nat) (s:Shared),n - i=k->i<=n->St i s →
  IntSet P w s.heap a (firstMet val i)->(∀ s',Moved (a::wr) G s s'->IntSet P w s'.heap a (firstMet val n)->R (.ok (.ret .none)) s') →
  codeAny (model P w) A (.builtin "set.update.loop" ⟨[.ref a,.ref I],[]⟩) R s:=by
 have haw:a∉wr:=λz=>ha (W.sub _ z)
 have up:∀ b∈wr,b∈a::wr:=λb q=>List.mem_cons_of_mem _ q
 intro k
 induction k with
 | zero =>
  intro i s e1 e2 st S q
  obtain rfl:i=n:=by omega
  refine codeAny_builtin PyProof.Rows.F.entry_set_update_loop ?_
  rw[Around.under_plainId PyProof.Rows.F.plain_set_update_loop _]
  show wpAny _ A.in1 (pyNext (.ref I) >>= _) _ _ s
  refine wpAny_bind (W.done s _ _ st λs' m=> ?_)
  show wpAny _ A.in1 (ret Value.none) _ _ s'
  exact wpAny_pure (q s' (m.mono up) (S.at λo e=>m.heap a o haw e))
 | succ k ih =>
  intro i s e1 e2 st S q
  have hi:i<n:=by omega
  refine codeAny_builtin PyProof.Rows.F.entry_set_update_loop ?_
  rw[Around.under_plainId PyProof.Rows.F.plain_set_update_loop _]
  show wpAny _ A.in1 (pyNext (.ref I) >>= _) _ _ s
  refine wpAny_bind (W.item i s _ _ hi st λv s1 tv st1 m=> ?_)
  obtain⟨t,rfl⟩:=hv i v tv
  have S1:=S.at λo e=>m.heap a o haw e
  show wpAny _ A.in1 (holding [Value.int (val i) t] (setAdd a (.int (val i) t)) >>= _) _ _ s1
  refine wpAny_bind (wpAny_holding ?_)
  unfold setAdd
  refine wpAny_holding (wpAny_bind ((intKind P w).pyHash (k:=val i) (intKind_is ..) ?_))
  refine Dg (s:={ s1 with toks:=s1.toks+1 }) S1 (by have:=firstMet_length_le val i;omega) λb h' sb S2=> ?_
  rw[<-firstMet_succ]at S2
  refine wpAny_pure ⟨plainId_quiet PyProof.Rows.F.plain_set_update_loop _,ih (i+1) _ (by omega) hi (W.frame _ s1 _ _ st1 (Nat.le_succ _) λb hb o e=> ?_) S2 λs2 m2 S3=> ?_⟩
  ·rw[sb.2 b λz:b=a=>ha (z ▸ hb)];exact e
  ·refine q s2 (Moved.trans W.gtrans ((m.mono up).then_heap (Nat.le_succ _) λb o hb e=> ?_) m2) S3
   rw[sb.2 b λz:b=a=>hb (z ▸ List.mem_cons_self)];exact e
end
section
variable{P:Program}{w:World}{A:Around}{E:Value->Shared->Prop}{s:Shared}
theorem Dj{x:Value}{Q:Value->Shared->Prop}(h:Q (.ref s.heap.objs.size) { s with heap:=s.heap.push { cls:=.type "set",dict:=none,data:=.set #[] 0 (.fresh 0 0 (J8 w)) } }) :
  codeAny (model P w) A (.call (.builtin "set.__new__") ⟨[.type "set",x],[]⟩) (wants Q E) s:=by
 refine codeAny_of_tree ?_
 show wpAny _ A.in1 (checkBuiltinCall "set.__new__" ⟨[.type "set",x],[]⟩ >>= λ_=>again (.builtin "set.__new__" ⟨[.type "set",x],[]⟩)) _ _ s
 refine wpAny_bind (wpAny_of_eq (PySem.F.newCall_set_1 x) (wpAny_pure ⟨plainId_quiet PySem.F.plain_set_new _,codeAny_builtin PySem.F.entry_set_new ?_⟩))
 rw[Around.under_plainId PySem.F.plain_set_new _]
 unfold Builtin.«set.__new__» Builtin.Frozenset.newClass
 have e:=sub_set_self
 obtain⟨hp,g,d,tk,os⟩:=s
 dsimp only
 wp_walk
 refine wpAny_askSetting (wpAny_pure ?_)
 dsimp only
 simp only[newObj]
 exact wpAny_bind (wpAny_alloc (wpAny_pure (wpAny_pure h)))
end
end L2
namespace L2
open PySem PyProof.Rows
abbrev HA(f:Value)(i:Nat)(a:Addr)(n ep:Nat):Obj:={ cls:=.type "set_iterator",dict:=none,data:=.fields #[f,rawInt i,.ref a,rawInt n,rawInt ep],slots:= #[] }
theorem HB:Slot "set_iterator" "__next__" "set_iterator.__next__" :=
 .of (owner:="set_iterator") (n:="__next__") (by rw[typeLookup_type,builtinLookup_eq_fast];kernel_rfl) (by decide +kernel) (by decide +kernel) (by decide +kernel)
  (by first | exact .inl (by decide +kernel) | exact .inr (by decide +kernel))
  (by rw[isSubtype_type];kernel_rfl)
theorem P5:entryFor table "set_iterator.__next__"=some Builtin.«set_iterator.__next__» :=entryFor_of_fast (by kernel_rfl)
theorem P6(a:Value):argsOk "set_iterator.__next__" ⟨[a],[]⟩:=by
 unfold argsOk
 kernel_rfl
theorem eC:Slot "set_iterator" "__iter__" "set_iterator.__iter__" :=
 .of (owner:="set_iterator") (n:="__iter__") (by rw[typeLookup_type,builtinLookup_eq_fast];kernel_rfl) (by decide +kernel) (by decide +kernel) (by decide +kernel)
  (by first | exact .inl (by decide +kernel) | exact .inr (by decide +kernel))
  (by rw[isSubtype_type];kernel_rfl)
section
variable{P:Program}{w:World}{A:Around}{E:Value->Shared->Prop}{s:Shared}
theorem Dk{it a:Addr}{sl i n ep nx:Nat}{x:Value}{o:Obj}{es:Array (Int × Value)}{ep':Nat}{t:SetTable}{Q:Option Value->Shared->Prop}(hit:s.heap.get? it=some (HA (rawInt sl) i a n ep))
  (ho:s.heap.get? a=some o) (hd:o.data=.set es ep' t) (hf:t.fits es.size=true) (hn:es.size=n)
  (hs:∀ (A':Around) (E':Value->Shared->Prop) (Q':Option (Value × Nat)->Shared->Prop),Q' (some (x,nx)) s->wpAny (model P w) A' (setNext a sl i ep) Q' E' s)
  (q:∀ h',h'.get? it=some (HA (rawInt nx) (i+1) a n ep)->Heap.SameBut it s.heap h'->Q (some x) { s with heap:=h' }):wpAny (model P w) A (pyNext (.ref it)) Q E s:=by
 have T:s.TypeIs (.ref it) "set_iterator":=⟨_,hit,rfl⟩
 unfold pyNext
 refine wpAny_bind (wpAny_attempt (wpAny_callSpecial?_slot (name:=Str.ofString "__next__") T HB (wpAny_call_entry HB T P5 ?_ (P6 _))))
 unfold Builtin.«set_iterator.__next__»
 refine wpAny_bind (wpAny_pure ?_)
 refine wpAny_bind (wpAny_fieldsOf hit rfl ?_)
 show wpAny _ _ (setEntries a >>= _) _ _ s
 refine wpAny_bind (wpAny_setEntries_of ho hd hf ?_)
 rw[if_neg (by rw[hn];simp)]
 show wpAny _ _ (setNext a (sl:Int).toNat (i:Int).toNat (ep:Int).toNat >>= _) _ _ s
 rw[Int.toNat_natCast,Int.toNat_natCast,Int.toNat_natCast]
 refine wpAny_bind (hs _ _ _ ?_)
 dsimp only
 refine wpAny_bind (wpAny_setField_rec hit (by simp) λh1 g1 b1=> ?_)
 refine wpAny_bind (wpAny_setField_rec g1 (by simp) λh2 g2 b2=> ?_)
 exact wpAny_pure ⟨_,rfl,wpAny_pure (q h2 g2 (b1.trans b2))⟩
theorem eD{it:Addr}{h1:Heap}{Q:Except Value (Option Value)->Shared->Prop}(hh:A.handled=none)(hx:Heap.ExtBut it s.heap h1)
  (q:∀ h' e,Heap.ExtBut it s.heap h'->({ s with heap:=h' }:Shared).TypeIs e "StopIteration"->Q (.error e) { s with heap:=h' }) :
  wpAny (model P w) A (newExc (.type "StopIteration") [] >>= raiseNew (α :=Fin)) (λ_ _=>False) (λe=>Q (.error e)) { s with heap:=h1 }:=by
 refine wpAny_bind ?_
 simp only[newExc,newTuple]
 refine wpAny_bind (wpAny_newObj_type ?_ (by size_fits))
 refine wpAny_bind (m:=firstArgMember _ _) (wpAny_of_eq (a:=Value.none) (by first | rfl | (simp only[firstArgMember];rfl)) ?_)
 refine wpAny_newObj_type ?_ (by size_fits)
 simp only[raiseNew]
 refine wpAny_bind (wpAny_handled ?_)
 rw[hh]
 refine wpAny_bind (wpAny_pure (wpAny_throw ?_))
 exact q _ _ ((hx.push _).push _) ⟨_,Heap.get?_push_size _ rfl,rfl⟩
theorem Dl{it a:Addr}{sl i n ep:Nat}{o:Obj}{es:Array (Int × Value)}{ep':Nat}{t:SetTable}{Q:Option Value->Shared->Prop}(hh:A.handled=none)(hit:s.heap.get? it=some (HA (rawInt sl) i a n ep))
  (ho:s.heap.get? a=some o) (hd:o.data=.set es ep' t) (hf:t.fits es.size=true) (hn:es.size=n)
  (hs:∀ (A':Around) (E':Value->Shared->Prop) (Q':Option (Value × Nat)->Shared->Prop),Q' none s->wpAny (model P w) A' (setNext a sl i ep) Q' E' s)
  (q:∀ h',Heap.ExtBut it s.heap h'->Q none { s with heap:=h' }):wpAny (model P w) A (pyNext (.ref it)) Q E s:=by
 have T:s.TypeIs (.ref it) "set_iterator":=⟨_,hit,rfl⟩
 unfold pyNext
 refine wpAny_bind (wpAny_attempt (wpAny_callSpecial?_slot (name:=Str.ofString "__next__") T HB (wpAny_call_entry HB T P5 ?_ (P6 _))))
 unfold Builtin.«set_iterator.__next__»
 refine wpAny_bind (wpAny_pure ?_)
 refine wpAny_bind (wpAny_fieldsOf hit rfl ?_)
 show wpAny _ _ (setEntries a >>= _) _ _ s
 refine wpAny_bind (wpAny_setEntries_of ho hd hf ?_)
 rw[if_neg (by rw[hn];simp)]
 show wpAny _ _ (setNext a (sl:Int).toNat (i:Int).toNat (ep:Int).toNat >>= _) _ _ s
 rw[Int.toNat_natCast,Int.toNat_natCast,Int.toNat_natCast]
 refine wpAny_bind (hs _ _ _ ?_)
 dsimp only
 refine wpAny_bind (wpAny_setField_rec hit (by simp) λh1 g1 b1=> ?_)
 refine wpAny_mono (eD (s:=s) (it:=it) (A:=A.in1) (Q:=λr s'=>match r with
  | .error e=>wpAny (model P w) A (isInstance e (.type "StopIteration") >>= λb=>if b=true then pure none else throw e) Q E s'
  | _=>False) (by simpa using hh) b1.extBut λh' e hx te=> ?_) (λ_ _ z=>z.elim) (λe s' z=>z)
 refine wpAny_bind (wpAny_isInstance (T:="StopIteration") (b:=true) te isSubtype_stop ?_)
 exact wpAny_pure (q _ hx)
theorem Dm{it a tp:Addr}{i n ep pl:Nat}{ot:Obj}{ps:Array Value}{k:Nat}{x:Int × Value}{o:Obj}{es:Array (Int × Value)}{t:SetTable}{Q:Option Value->Shared->Prop}(hit:s.heap.get? it=some (HA (.ref tp) i a n ep))
  (ho:s.heap.get? a=some o) (hd:o.data=.set es ep t) (hf:t.fits es.size=true) (hn:es.size=n) (ht:s.heap.get? tp=some ot) (hdt:ot.data=.seq ps k) (hp:ps[i]? =some (rawInt pl)) (hx:es[pl]? =some x)
  (q:∀ h',h'.get? it=some (HA (.ref tp) (i+1) a n ep)->Heap.SameBut it s.heap h'->Q (some x.2) { s with heap:=h' }):wpAny (model P w) A (pyNext (.ref it)) Q E s:=by
 have T:s.TypeIs (.ref it) "set_iterator":=⟨_,hit,rfl⟩
 unfold pyNext
 refine wpAny_bind (wpAny_attempt (wpAny_callSpecial?_slot (name:=Str.ofString "__next__") T HB (wpAny_call_entry HB T P5 ?_ (P6 _))))
 unfold Builtin.«set_iterator.__next__»
 refine wpAny_bind (wpAny_pure ?_)
 refine wpAny_bind (wpAny_fieldsOf hit rfl ?_)
 show wpAny _ _ (setEntries a >>= _) _ _ s
 refine wpAny_bind (wpAny_setEntries_of ho hd hf ?_)
 rw[if_neg (by rw[hn];simp)]
 show wpAny _ _ (seqItems? (.ref tp) >>= _) _ _ s
 refine wpAny_bind (wpAny_seqItems ht hdt ?_)
 dsimp only
 rw[Int.toNat_natCast,hp]
 show wpAny _ _ (setNextDrawn a (pl:Int).toNat (ep:Int).toNat >>= _) _ _ s
 rw[Int.toNat_natCast,Int.toNat_natCast]
 unfold setNextDrawn
 refine wpAny_bind (wpAny_bind (wpAny_setState_of ho hd hf ?_))
 dsimp only
 rw[if_neg (by simp)]
 obtain⟨x1,x2⟩:=x
 rw[hx]
 refine wpAny_pure ?_
 refine wpAny_bind (wpAny_setField_rec hit (by simp) λh2 g2 b2=> ?_)
 exact wpAny_pure ⟨_,rfl,wpAny_pure (q h2 g2 b2)⟩
theorem Dp{it a tp:Addr}{i n ep:Nat}{ot:Obj}{ps:Array Value}{k:Nat}{o:Obj}{es:Array (Int × Value)}{t:SetTable}{Q:Option Value->Shared->Prop}(hh:A.handled=none)(hit:s.heap.get? it=some (HA (.ref tp) i a n ep))
  (ho:s.heap.get? a=some o) (hd:o.data=.set es ep t) (hf:t.fits es.size=true) (hn:es.size=n) (ht:s.heap.get? tp=some ot) (hdt:ot.data=.seq ps k) (hp:ps[i]? =none)
  (q:∀ h',Heap.ExtBut it s.heap h'->Q none { s with heap:=h' }):wpAny (model P w) A (pyNext (.ref it)) Q E s:=by
 have T:s.TypeIs (.ref it) "set_iterator":=⟨_,hit,rfl⟩
 unfold pyNext
 refine wpAny_bind (wpAny_attempt (wpAny_callSpecial?_slot (name:=Str.ofString "__next__") T HB (wpAny_call_entry HB T P5 ?_ (P6 _))))
 unfold Builtin.«set_iterator.__next__»
 refine wpAny_bind (wpAny_pure ?_)
 refine wpAny_bind (wpAny_fieldsOf hit rfl ?_)
 show wpAny _ _ (setEntries a >>= _) _ _ s
 refine wpAny_bind (wpAny_setEntries_of ho hd hf ?_)
 rw[if_neg (by rw[hn];simp)]
 show wpAny _ _ (seqItems? (.ref tp) >>= _) _ _ s
 refine wpAny_bind (wpAny_seqItems ht hdt ?_)
 dsimp only
 rw[Int.toNat_natCast,hp]
 dsimp only
 refine wpAny_bind (wpAny_setField_rec hit (by simp) λh1 g1 b1=> ?_)
 refine wpAny_bind (wpAny_setField_rec g1 (by simp) λh2 g2 b2=> ?_)
 refine wpAny_mono (eD (s:=s) (it:=it) (A:=A.in1) (Q:=λr s'=>match r with
  | .error e=>wpAny (model P w) A (isInstance e (.type "StopIteration") >>= λb=>if b=true then pure none else throw e) Q E s'
  | _=>False) (by simpa using hh) (b1.trans b2).extBut λh' e hx te=> ?_) (λ_ _ z=>z.elim) (λe s' z=>z)
 refine wpAny_bind (wpAny_isInstance (T:="StopIteration") (b:=true) te isSubtype_stop ?_)
 exact wpAny_pure (q _ hx)
theorem Dq{a:Addr}{o:Obj}{es:Array (Int × Value)}{ep:Nat}{t:SetTable}{i:Nat}{Q:Option (Value × Nat)->Shared->Prop}(ft:w.params.followText "set-order"=true)(ho:s.heap.get? a=some o)(hd:o.data=.set es ep t)(hf:t.fits es.size=true)
  (q:Q (((pickOrder (w.params.setOrder a ep) es)[i]?).map λe=>(e.2,0)) s):wpAny (model P w) A (setNext a 0 i ep) Q E s:=by
 unfold setNext
 refine wpAny_bind (wpAny_setState_of ho hd hf ?_)
 dsimp only
 refine wpAny_bind ?_
 unfold setsByText
 refine wpAny_bind (wpAny_askSetting (wpAny_pure ?_))
 show wpAny _ _ (if w.params.followText "set-order"=true then _ else _) _ _ s
 rw[if_pos ft,if_neg (by simp)]
 refine wpAny_bind ?_
 unfold setWalk
 refine wpAny_bind (wpAny_setState_of ho hd hf ?_)
 dsimp only
 refine wpAny_bind ?_
 unfold setsByText
 refine wpAny_bind (wpAny_askSetting (wpAny_pure ?_))
 show wpAny _ _ (if w.params.followText "set-order"=true then _ else _) _ _ s
 rw[if_pos ft]
 refine wpAny_bind (wpAny_askSetting (wpAny_pure ?_))
 exact wpAny_pure q
theorem Dv{a:Addr}{o:Obj}{es:Array (Int × Value)}{ep:Nat}{t:SetTable}{i:Nat}{Q:Option (Value × Nat)->Shared->Prop}(ft:w.params.followText "set-order"=false)(ho:s.heap.get? a=some o)(hd:o.data=.set es ep t)(hf:t.fits es.size=true)
  (L:Led (J8 w) t) (pl:(!t.plain && decide (es.size > 1))=false) (hi:i<=es.size) (q:Q ((es[i]?).map λe=>(e.2,LT t.place (i+1))) s):wpAny (model P w) A (setNext a (LT t.place i) i ep) Q E s:=by
 have hz:t.place.size=es.size:=by
  unfold SetTable.fits at hf
  simp only[Bool.and_eq_true,beq_iff_eq]at hf
  exact hf.1
 unfold setNext
 refine wpAny_bind (wpAny_setState_of ho hd hf ?_)
 dsimp only
 refine wpAny_bind ?_
 unfold setsByText
 refine wpAny_bind (wpAny_askSetting (wpAny_pure ?_))
 show wpAny _ _ (if w.params.followText "set-order"=true then _ else _) _ _ s
 rw[if_neg (show ¬ w.params.followText "set-order"=true by rw[ft];exact Bool.false_ne_true)]
 have ld:t.led=true:=by rw[L.led];unfold J8;rw[ft];rfl
 show wpAny _ _ (if(!t.plain && decide (es.size > 1))=true then _ else _) _ _ s
 rw[if_neg (by rw[pl];exact Bool.false_ne_true)]
 refine wpAny_bind (m:=if(!t.led && !es.isEmpty)=true then _ else _) ?_
 rw[if_neg (by rw[ld];simp)]
 refine wpAny_pure (wpAny_pure ?_)
 rw[Dc L.rise (by omega)]
 by_cases BE:i<es.size
 ·have h2:i<t.place.size:=by omega
  rw[Array.getElem?_eq_getElem BE,Array.getElem?_eq_getElem h2]
  rw[Array.getElem?_eq_getElem BE]at q
  have:LT t.place (i+1)=t.place[i]+1:=by simp[LT,h2]
  rw[Option.map_some,this]at q
  exact q
 ·rw[Array.getElem?_eq_none (by omega)]
  rw[Array.getElem?_eq_none (by omega),Option.map_none]at q
  exact q
end
end L2
namespace L2
open PySem PyProof.Rows
theorem Dw:entryFor table "set.__iter__"=some Builtin.«frozenset.__iter__» :=entryFor_alias (id':="frozenset.__iter__") (by kernel_rfl) rfl (by decide +kernel) (by kernel_rfl)
theorem Dx:entryFor table "set_iterator.__iter__"=some Builtin.«dict_keyiterator.__iter__» :=entryFor_alias (id':="dict_keyiterator.__iter__") (by kernel_rfl) rfl (by decide +kernel) (by kernel_rfl)
theorem Dy(a:Value):argsOk "set_iterator.__iter__" ⟨[a],[]⟩:=by
 unfold argsOk
 kernel_rfl
structure T8(P:Program)(w:World)(A:Around)(h h1:Heap)(a I:Addr)(ms:List Int):Prop where
 ex:∃ (fp:List Addr) (ord:List Value) (ks:List Int) (St:Nat->Heap->Prop),(∀ b∈fp,b=a\/h.objs.size<=b)/\Walks P w A I fp [I] ord.length (λi v=>ord[i]? =some v) St/\St 0 h1/\IntsAre ord ks/\ks.Perm ms
 new:h.objs.size<=I
section
variable{P:Program}{w:World}{A:Around}{E:Value->Shared->Prop}{s:Shared}
theorem T9:∀ {es:List (Int × Value)},ElemsOf (intKind P w) es->IntsAre (es.map (·.2)) (es.map λe=>iv e.2)
 | [],_=>.nil
 | e::r,h=>by
  obtain⟨t,z⟩:=T7 h (List.mem_cons_self ..)
  have:=T9 h.tail
  rw[List.map_cons,List.map_cons,z]
  exact .cons _ _ this
theorem eE{it:Addr}{f:Value}{i:Nat}{a:Addr}{n ep:Nat}{Q:Value->Shared->Prop}(hit:s.heap.get? it=some (HA f i a n ep))(q:Q (.ref it) s):wpAny (model P w) A (pyIter (.ref it)) Q E s:=by
 have T:s.TypeIs (.ref it) "set_iterator":=⟨_,hit,rfl⟩
 refine wpAny_pyIter_slot T eC (wpAny_call_entry eC T Dx ?_ (Dy _))
 show wpAny _ _ (ret (.ref it)) _ _ s
 exact wpAny_pure ⟨_,rfl,"set_iterator",_,T,HB.lookup,q⟩
theorem Dz{a I:Addr}{es:Array (Int × Value)}{ep:Nat}{t:SetTable}{o:Obj}{f:Nat->Nat}{ord:List Value}(hh:A.handled=none)(hne:a≠I)(hd:o.data=.set es ep t)(hf:t.fits es.size=true)(hl:ord.length=es.size)
  (nx:∀ (s:Shared),s.heap.get? a=some o->∀ (i:Nat),i<=es.size->∀ (A':Around) (E':Value->Shared->Prop) (Q':Option (Value × Nat)->Shared->Prop),Q' ((ord[i]?).map λv=>(v,f (i+1))) s->wpAny (model P w) A' (setNext a (f i) i ep) Q' E' s) :
  Walks P w A I [I,a] [I] ord.length (λi v=>ord[i]? =some v) (λi h=>h.get? I=some (HA (rawInt (f i)) i a es.size ep)/\h.get? a=some o) where
 sub:=λb hb=>by simp at hb;simp[hb]
 frame:=λ_ _ _ st k=>⟨k I (by simp) _ st.1,k a (by simp) _ st.2⟩
 item:=λi s Q E hi st q=>by
  have e:ord[i]? =some ord[i]:=List.getElem?_eq_getElem hi
  refine Dk st.1 st.2 hd hf rfl (λA' E' Q' q'=>nx s st.2 i (by omega) A' E' Q' (by rw[e];exact q')) λh' g b=> ?_
  exact q _ h' s.toks e ⟨g,b.extBut a _ hne st.2⟩ λc u hc z=>b.extBut c u (λy=>hc (by simp[y])) z
 done:=λs Q E st q=>by
  refine Dl hh st.1 st.2 hd hf rfl (λA' E' Q' q'=>nx s st.2 ord.length (by omega) A' E' Q' (by rw[List.getElem?_eq_none (Nat.le_refl _)];exact q')) λh' x=> ?_
  exact q h' s.toks λc u hc z=>x c u (λy=>hc (by simp[y])) z
 self:=λ_ _ _ _ st q=>eE st.1 q
theorem Eb{a I tp:Addr}{es:Array (Int × Value)}{ep k:Nat}{t:SetTable}{o ot:Obj}{pl:List Nat}{ord:List Value}(hh:A.handled=none)(hne:a≠I)(hnt:tp≠I)(hd:o.data=.set es ep t)(hf:t.fits es.size=true)
  (hdt:ot.data=.seq (pl.map λ(i:Nat)=>rawInt i).toArray k) (hl:ord.length=pl.length) (hx:∀ (i p:Nat),pl[i]? =some p->∃ e:Int × Value,es[p]? =some e/\ord[i]? =some e.2) :
  Walks P w A I [I,a,tp] [I] ord.length (λi v=>ord[i]? =some v) (λi h=>h.get? I=some (HA (.ref tp) i a es.size ep)/\h.get? a=some o/\h.get? tp=some ot) where
 sub:=λb hb=>by simp at hb;simp[hb]
 frame:=λ_ _ _ st k=>⟨k I (by simp) _ st.1,k a (by simp) _ st.2.1,k tp (by simp) _ st.2.2⟩
 item:=λi s Q E hi st q=>by
  have hi':i<pl.length:=by omega
  have e:=List.getElem?_eq_getElem hi'
  obtain⟨x,e1,e2⟩:=hx i _ e
  refine Dm st.1 st.2.1 hd hf rfl st.2.2 hdt (by rw[List.getElem?_toArray,List.getElem?_map,e];rfl) e1 λh' g b=> ?_
  exact q _ h' s.toks e2 ⟨g,b.extBut a _ hne st.2.1,b.extBut tp _ hnt st.2.2⟩ λc u hc z=>b.extBut c u (λy=>hc (by simp[y])) z
 done:=λs Q E st q=>by
  refine Dp hh st.1 st.2.1 hd hf rfl st.2.2 hdt (by rw[List.getElem?_toArray,List.getElem?_map,List.getElem?_eq_none (by omega)];rfl) λh' x=> ?_
  exact q h' s.toks λc u hc z=>x c u (λy=>hc (by simp[y])) z
 self:=λ_ _ _ _ st q=>eE st.1 q
theorem Ec{n:Nat}{Q:Nat->Shared->Prop}(hn:n≠0)(q:∀ i d,i<n->Q i { s with drawn:=d }):wpAny (model P w) A (choose .order n) Q E s:=fun Γ p hΓ =>by
 show Sem.wp _ _ (.choose .order n .pure) _ _ _ _
 rw[Sem.wp_choose]
 refine⟨hn,?_⟩
 show Sem.wp _ _ (.pure _) _ _ _ _
 rw[Sem.wp]
 exact q _ _ (Nat.mod_lt _ (Nat.pos_of_ne_zero hn))
theorem eF{α :Type}:∀ (n:Nat) (xs:List α) (s:Shared) (Q:List α ->Shared->Prop),xs.length=n->(∀ ys d,List.Perm ys xs->Q ys { s with drawn:=d })->wpAny (model P w) A (drawOrder n xs) Q E s
 | 0,xs,s,Q,hn,q=>by
  have:xs=[]:=List.length_eq_zero_iff.mp hn
  subst this
  unfold drawOrder
  exact wpAny_pure (q [] s.drawn .nil)
 | n+1,[],s,Q,hn,q=>by cases hn
 | n+1,x::r,s,Q,hn,q=>by
  unfold drawOrder
  refine wpAny_bind (Ec (by simp) λi d hi=> ?_)
  rw[List.getElem?_eq_getElem hi]
  dsimp only
  refine wpAny_bind (eF n _ _ _ (by rw[List.length_eraseIdx_of_lt hi,hn];rfl) λys d' p=> ?_)
  refine wpAny_pure (q _ d' ?_)
  refine(List.Perm.cons _ p).trans ?_
  rw[List.eraseIdx_eq_take_drop_succ]
  refine List.perm_middle.symm.trans ?_
  rw[<-List.drop_eq_getElem_cons hi,List.take_append_drop]
theorem Ed {a:Addr} {ms:List Int} {Q:Value->Shared->Prop} (hh:A.handled=none) (S:IntSet P w s.heap a ms)
    (q:∀ I h1 d1,(∀ b o,s.heap.get? b=some o->h1.get? b=some o)->T8 P w A s.heap h1 a I ms->Q (.ref I) { s with heap:=h1,drawn:=d1 }):wpAny (model P w) A (pyIter (.ref a)) Q E s:=by
  obtain⟨o,es,ep,t,ho,hex,hd,hel,hp,hb,hf,L⟩:=S
  have T:s.TypeIs (.ref a) "set":=⟨o,ho,hex.1⟩
  have BE:a<s.heap.objs.size:=Heap.lt_size ho
  refine wpAny_pyIter_slot T PySem.F.slot_set_iter (wpAny_call_entry PySem.F.slot_set_iter T Dw ?_ (PySem.F.args_set_iter_1 _))
  unfold Builtin.«frozenset.__iter__»
  show wpAny _ _ ((pure a:Sem Addr) >>= _) _ _ s
  refine wpAny_bind (wpAny_pure ?_)
  refine wpAny_bind ?_
  unfold Builtin.Frozenset.sizeOf
  refine wpAny_bind (wpAny_setEntries_of ho hd hf (wpAny_pure ?_))
  refine wpAny_bind ?_
  unfold setDrawn
  refine wpAny_bind (wpAny_setState_of ho hd hf ?_)
  dsimp only
  refine wpAny_bind ?_
  unfold setsByText
  refine wpAny_bind (wpAny_askSetting (wpAny_pure (wpAny_pure ?_)))
  show wpAny _ _ (if(!w.params.followText "set-order" && (!t.plain && decide (es.size > 1)))=true then _ else _) _ _ s
  have plain:∀ (f:Nat->Nat) (ord:List Value),f 0=0->ord.length=es.size->(∃ ks,IntsAre ord ks/\ks.Perm ms) →
      (∀ (s:Shared),s.heap.get? a=some o->∀ (i:Nat),i<=es.size->∀ (A':Around) (E':Value->Shared->Prop) (Q':Option (Value × Nat)->Shared->Prop),Q' ((ord[i]?).map λv=>(v,f (i+1))) s->wpAny (model P w) A' (setNext a (f i) i ep) Q' E' s) →
      T8 P w A s.heap (s.heap.push (HA (rawInt 0) 0 a es.size ep)) a s.heap.objs.size ms:=λf ord f0 hl ⟨ks,hi,pk⟩ nx =>
    ⟨⟨_,ord,ks,_,λb hb=>by
        simp only[List.mem_cons,List.not_mem_nil,or_false]at hb
        rcases hb with rfl | rfl
        ·exact .inr (Nat.le_refl _)
        ·exact .inl rfl,Dz hh (Nat.ne_of_lt BE) hd hf hl nx,⟨by rw[f0];exact Heap.get?_push_size _ rfl,Heap.get?_push_of_some _ ho⟩,hi,pk⟩,Nat.le_refl _⟩
  have fin:∀ (W:T8 P w A s.heap (s.heap.push (HA (rawInt 0) 0 a es.size ep)) a s.heap.objs.size ms),
      wpAny (model P w) A.in1 (do
        let first ← (pure (rawInt 0):Sem Value)
        ret (← newFields "set_iterator" [first,rawInt 0,.ref a,rawInt es.size,rawInt (← setEpoch a)])) (λfin s'=>∃ v,fin=.done (.ret v)/\∃ T' r,s'.TypeIs v T'/\typeLookup (.type T') "__next__"=pure (some r)/\Q v s') E s:=λW=>by
    refine wpAny_bind (wpAny_pure ?_)
    refine wpAny_bind (wpAny_setEpoch_of ho hd hf ?_)
    refine wpAny_bind (wpAny_newObj_type (wpAny_pure ⟨_,rfl,"set_iterator",_,⟨_,Heap.get?_push_size _ rfl,rfl⟩,HB.lookup,?_⟩))
    exact q _ _ s.drawn (λb u e=>Heap.get?_push_of_some _ e) W
  cases ft:w.params.followText "set-order" with
  | true =>
    rw[if_neg (by simp)]
    have pk:=Dd (w.params.setOrder a ep) es
    have hl:(pickOrder (w.params.setOrder a ep) es).size=es.size:=by rw[<-Array.length_toList,pk.length_eq,Array.length_toList]
    refine fin (plain (λ_=>0) ((pickOrder (w.params.setOrder a ep) es).toList.map (·.2)) rfl (by rw[List.length_map,Array.length_toList,hl]) ⟨_,T9 (hel.perm pk),(pk.map _).trans hp⟩ λs1 h1 i hi A' E' Q' q'=> ?_)
    refine Dq ft h1 hd hf ?_
    rw[List.getElem?_map,Array.getElem?_toList,Option.map_map]at q'
    exact q'
  | false =>
    cases pl:(!t.plain && decide (es.size > 1))with
    | false =>
      rw[if_neg (by simp)]
      refine fin (plain (LT t.place) (es.toList.map (·.2)) rfl (by rw[List.length_map,Array.length_toList]) ⟨_,T9 hel,hp⟩ λs1 h1 i hi A' E' Q' q'=> ?_)
      refine Dv ft h1 hd hf L pl hi ?_
      rw[List.getElem?_map,Array.getElem?_toList,Option.map_map]at q'
      exact q'
    | true =>
      rw[if_pos (by simp)]
      refine wpAny_bind (eF es.size (List.range es.size) s _ (List.length_range) λys d p=> ?_)
      have hy:ys.length=es.size:=by rw[p.length_eq,List.length_range]
      have hys:∀ x∈ys,x<es.size:=λx hx=>List.mem_range.mp (p.mem_iff.mp hx)
      refine wpAny_bind (wpAny_newTuple ?_ (by rw[List.length_map,hy];exact fits_of_scanBound hb))
      refine wpAny_bind (wpAny_setEpoch_of (o:=o) (Heap.get?_push_of_some _ ho) hd hf ?_)
      refine wpAny_bind (wpAny_newObj_type (wpAny_pure ⟨_,rfl,"set_iterator",_,⟨_,Heap.get?_push_size _ rfl,rfl⟩,HB.lookup,?_⟩))
      refine q _ _ d (λb u e=>Heap.get?_push_of_some _ (Heap.get?_push_of_some _ e)) ⟨⟨_,ys.map λp=>(es[p]?.map (·.2)).getD .none,ys.map λp=>(es[p]?.map λe=>iv e.2).getD 0,_,λb hb=> ?_,
        Eb hh ?_ ?_ hd hf rfl (by rw[List.length_map]) λi p e=> ?_,⟨Heap.get?_push_size _ rfl,Heap.get?_push_of_some _ (Heap.get?_push_of_some _ ho),Heap.get?_push_of_some _ (Heap.get?_push_size _ rfl)⟩,?_,?_⟩,?_⟩
      · simp only[List.mem_cons,List.not_mem_nil,or_false]at hb
        rcases hb with rfl | rfl | rfl
        ·right;rw[size_push'];exact Nat.le_succ _
        ·exact .inl rfl
        ·exact .inr (Nat.le_refl _)
      ·rw[size_push'];exact Nat.ne_of_lt (Nat.lt_succ_of_lt BE)
      ·rw[size_push'];exact Nat.ne_of_lt (Nat.lt_succ_self _)
      · have hp':p<es.size:=hys p (List.mem_of_getElem? e)
        exact⟨es[p],Array.getElem?_eq_getElem hp',by rw[List.getElem?_map,e];simp[hp']⟩
      · have all:∀ (l:List Nat),(∀ x∈l,x<es.size)->IntsAre (l.map λp=>(es[p]?.map (·.2)).getD .none) (l.map λp=>(es[p]?.map λe=>iv e.2).getD 0):=by
          intro l
          induction l with
          | nil=>exact λ_=>.nil
          | cons x r ih =>
            intro hl
            have hx:=hl x (List.mem_cons_self ..)
            obtain⟨tk,z⟩:=T7 hel (e:=es[x]) (by simp)
            have e1:(es[x]?.map (·.2)).getD Value.none=Value.int (iv es[x].2) tk:=by rw[Array.getElem?_eq_getElem hx];exact z
            have e2:(es[x]?.map λe=>iv e.2).getD 0=iv es[x].2:=by rw[Array.getElem?_eq_getElem hx];rfl
            rw[List.map_cons,List.map_cons,e1,e2]
            exact .cons _ _ (ih λy hy=>hl y (List.mem_cons_of_mem _ hy))
        exact all ys hys
      · refine(p.map _).trans (List.Perm.trans (List.Perm.of_eq ?_) hp)
        refine List.ext_getElem (by simp) λi h1 h2=> ?_
        have hi:i<es.size:=by simpa using h1
        simp[hi]
      ·rw[size_push'];exact Nat.le_succ _
theorem Eg{a:Addr}{Q:Bool->Shared->Prop}(T:s.TypeIs (.ref a) "set")(q:Q false s):wpAny (model P w) A (Builtin.List.listLengthHint (.ref a)) Q E s:=by
 unfold Builtin.List.listLengthHint
 refine wpAny_bind (wpAny_specialOf T PySem.F.slot_set_len.lookup ?_)
 generalize hid:("set.__len__":String)=id0
 wp_delta
 rw[show splitId id0=some ("set","__len__")from by subst hid;decide +kernel]
 subst hid
 refine wpAny_bind (wpAny_isInstance (T:="set") (b:=true) T (by rw[isSubtype_type];kernel_rfl) ?_)
 refine wpAny_ite_split (λz=>absurd z (by decide)) (λ_=> ?_)
 refine wpAny_ite_split (λ_=> ?_) (λz=>absurd (by decide +kernel) z)
 exact wpAny_bind (wpAny_typeOf T (wpAny_pure q))
theorem Eh{a:Addr}{ms:List Int}{R:List Value->Shared->Prop}(hh:A.handled=none)(S:IntSet P w s.heap a ms)(hn:ms.length<=sizeLine)
  (q:∀ h' tk d vs ks,(∀ b o,s.heap.get? b=some o->h'.get? b=some o)->s.heap.objs.size<=h'.objs.size->IntsAre vs ks->ks.Perm ms->R vs { s with heap:=h',toks:=tk,drawn:=d }):wpAny (model P w) A (collect (.ref a)) R E s:=by
 have BE:a<s.heap.objs.size:=let ⟨_,_,_,_,ho,_⟩:=S;Heap.lt_size ho
 unfold collect
 refine wpAny_bind (wpAny_runValue (codeAny_builtin entry_proto_collect' ?_))
 rw[Around.under_plainId PySem.F.plain_proto_collect _]
 show wpAny _ A.in1 (newList [] >>= λl=>again (.builtin "list.__iadd__" ⟨[l,.ref a],[]⟩)) _ _ s
 refine wpAny_bind (wpAny_newObj_type ?_)
 refine wpAny_pure ⟨plainId_quiet PySem.F.plain_list_iadd _,codeAny_builtin entry_list_iadd' ?_⟩
 rw[Around.under_plainId PySem.F.plain_list_iadd _]
 show wpAny _ A.in1 (Builtin.List.listExtendWith (.ref s.heap.objs.size) (.ref a) (.ref s.heap.objs.size)) _ _ _
 generalize eN:s.heap.objs.size=N at BE ⊢
 have gN:(s.heap.push { cls:=.type "list",data:=.seq ([]:List Value).toArray }).get? N=some { cls:=.type "list",data:=.seq #[] }:=eN ▸ Heap.get?_push_size _ rfl
 have keep1:∀ b o,s.heap.get? b=some o->(s.heap.push { cls:=.type "list",data:=.seq ([]:List Value).toArray }).get? b=some o:=λb o e=>Heap.get?_push_of_some _ e
 have S1:=S.at λo e=>keep1 a o e
 have big:(s.heap.push { cls:=.type "list",data:=.seq ([]:List Value).toArray }).objs.size=N+1:=by rw[size_push',eN]
 revert gN keep1 S1 big
 generalize s.heap.push { cls:=.type "list",data:=.seq ([]:List Value).toArray }=h0
 intro gN keep1 S1 big
 have T1:∀ h':Heap,(∀ b o,h0.get? b=some o->h'.get? b=some o)->∀ tk d,({ s with heap:=h',toks:=tk,drawn:=d }:Shared).TypeIs (.ref a) "set":=λh' k tk d=>by
  obtain⟨o,_,_,_,ho,hex,_⟩:=S1
  exact⟨o,k _ _ ho,hex.1⟩
 unfold Builtin.List.listExtendWith
 refine wpAny_bind (wpAny_typeOf (T:="set") (T1 h0 (λ_ _ e=>e) s.toks s.drawn) ?_)
 have ne:Builtin.List.listSameRef (.ref N) (.ref a)=false:=by
  simp only[Builtin.List.listSameRef,beq_eq_false_iff_ne]
  exact Nat.ne_of_gt BE
 have n1:(Value.type "set" == Value.type "list")=false:=by decide
 have n2:(Value.type "set" == Value.type "tuple")=false:=by decide
 simp only[ne,n1,n2,Bool.or_false,Bool.false_eq_true,if_false]
 refine wpAny_bind (Ed (A:=A.in1) (s:={ s with heap:=h0 }) (by simpa using hh) S1 λI h1 d1 k1 W=> ?_)
 obtain⟨⟨fp,ord,ks,St,hfp,W,st,hi,pk⟩,hI⟩:=W
 have hI:N+1<=I:=big ▸ hI
 have B0:ord.length=ms.length:=by rw[IntsAre.length hi,pk.length_eq]
 refine wpAny_bind (wpAny_holding (Eg (T1 h1 k1 s.toks d1) ?_))
 rw[if_pos (by decide)]
 refine wpAny_bind (wpAny_rule ?_)
 refine wpAny_bind ?_
 show wpAny _ _ (updateSeq N (·.push .none) >>= λ_=>updateSeq N (·.pop)) _ _ _
 have g1:=k1 _ _ gN
 refine wpAny_bind (wpAny_updateSeq (s:={ s with heap:=h1,drawn:=d1 }) g1 rfl ?_)
 have g2:=Heap.get?_update_self (Obj.mapSeq (·.push Value.none)) g1 rfl
 refine wpAny_updateSeq (hz:=by seq_fits) g2 rfl ?_
 have g3:=Heap.get?_update_self (Obj.mapSeq (·.pop)) g2 rfl
 have oth:∀ b o,b≠N->h1.get? b=some o->((h1.update N (Obj.mapSeq (·.push Value.none))).update N (Obj.mapSeq (·.pop))).get? b=some o:=λb o hb e =>
  (Heap.get?_update_other _ _ (Ne.symm hb)).trans ((Heap.get?_update_other _ _ (Ne.symm hb)).trans e)
 have Nfp:N∉fp:=λz=>by
  rcases hfp N z with y | y
  ·exact Nat.ne_of_gt BE y
  ·have y':h0.objs.size<=N:=y
   rw[big]at y'
   exact absurd y' (Nat.not_succ_le_self _)
 refine wpAny_pure ⟨plainId_quiet PySem.F.plain_extend_loop _,?_⟩
 refine codeAny_extend_loopS W.toS (by rw[B0];exact hn) N Nfp (.ref N) ord.length 0 _ #[] _ rfl (Nat.zero_le _) (W.frame 0 _ _ st λb hb o e=>oth b o (λz=>Nfp (z ▸ hb)) e) g3 (ItemsOf.nil _) λs' BW c m g4 hacc=> ?_
 show wpAny _ A (load N >>= _) _ _ _
 refine wpAny_bind (wpAny_load g4 ?_)
 refine wpAny_pure ?_
 have eacc:BW.toList=ord:=by
  refine List.ext_getElem? λi=> ?_
  by_cases hlt':i<ord.length
  ·have h3:i<BW.size:=by rw[hacc.1];exact hlt'
   have:=hacc.2 i BW[i] (Array.getElem?_eq_getElem h3)
   rw[Array.getElem?_toList,Array.getElem?_eq_getElem h3,this]
  ·have e1:BW.toList[i]? =none:=List.getElem?_eq_none (by rw[Array.length_toList,hacc.1];omega)
   have e2:ord[i]? =none:=List.getElem?_eq_none (by omega)
   rw[e1,e2]
 show R BW.toList s'
 rw[eacc]
 obtain⟨h3,gn3,dr3,tk3,os3⟩:=s'
 have a1:gn3=s.gens:=m.gens
 have a2:dr3=d1:=m.drawn
 have a3:os3=s.os:=m.os
 subst a1;subst a2;subst a3
 refine q _ _ dr3 ord ks (λb o e=> ?_) (by rw[eN];exact Nat.le_of_lt (Heap.lt_size g4)) hi pk
 have hb:b<N:=eN ▸ Heap.lt_size e
 refine m.heap b o (λz=> ?_) (oth b o (Nat.ne_of_lt hb) (k1 _ _ (keep1 _ _ e)))
 simp only[List.mem_cons,List.not_mem_nil,or_false]at z
 rcases z with z | z
 ·exact Nat.ne_of_lt hb z
 ·exact Nat.ne_of_lt (Nat.lt_of_lt_of_le (Nat.lt_succ_of_lt hb) hI) z
theorem Ej{a:Addr}{ms:List Int}{Q:Value->Shared->Prop}(hh:A.handled=none)(S:IntSet P w s.heap a ms)(hn:ms.length<64)
  (q:∀ D h' tk d c out ks,(∀ b o,s.heap.get? b=some o->h'.get? b=some o)->s.heap.objs.size<=D->h'.get? D=some (seqObj "list" out c)->IntsAre out.toList ks->ks.Perm ms->ks.Pairwise (· <=·)->Q (.ref D) { s with heap:=h',toks:=tk,drawn:=d }) :
  wpAny (model P w) A (call (.builtin "sorted") [.ref a]) Q E s:=by
 refine Calls.call_function_entry kind_sorted plain_sorted entry_sorted (args_sorted1 _) ?_
 unfold Builtin.«sorted»
 refine wpAny_bind (m:=checkCount "sorted" 1 1 _) (wpAny_pure ?_)
 refine wpAny_bind (Eh (A:=A.in1) (by simpa using hh) S (by rw[sizeLine_eq];omega) λh1 tk d vs ks k1 size_le hi pk=> ?_)
 have hl:vs.length<64:=by rw[IntsAre.length hi,pk.length_eq];exact hn
 refine wpAny_bind (wpAny_newList ?_ (by rw[sizeLine_eq];omega))
 have g:(h1.push (seqObj "list" vs.toArray 0)).get? h1.objs.size=some (seqObj "list" vs.toArray 0):=Heap.get?_push_size _ rfl
 show wpAny _ _ _ _ _ { s with heap:=h1.push (seqObj "list" vs.toArray 0),toks:=tk,drawn:=d }
 refine wpAny_bind (wpAny_holding (wpAny_call_entry slot_list_sort ⟨_,g,rfl⟩ entry_list_sort (list_sort_tree g hi hl λout ks' i1 p1 r1=>⟨_,rfl,?_⟩) (args_list_sort _)))
 obtain⟨c,gc⟩:=sortedHeap_at (n:=0) (out:=out) g
 refine wpAny_pure ⟨_,rfl,q _ _ tk d c out ks' (λb o e=> ?_) size_le gc i1 (p1.trans pk) r1⟩
 have hb:=Heap.lt_size (k1 _ _ e)
 rw[sortedHeap_old (Nat.ne_of_lt hb) (by rw[size_push'];exact Nat.lt_succ_of_lt hb)]
 exact Heap.get?_push_of_some _ (k1 _ _ e)
end
end L2
namespace L2
open PySem PyProof.Rows
section
variable{P:Program}{w:World}{A:Around}{E:Value->Shared->Prop}{s:Shared}
theorem Ek {l:Addr} {its:Array Value} {ns:List Int} {Q:Value->Shared->Prop} (hh:A.handled=none) (hl:s.heap.IsList l its) (hi:IntsAre its.toList ns) (hb:its.size+1<scanBound)
    (q:∀ h' tk,IntSet P w h' s.heap.objs.size (firstMet (λi=>ns.getD i 0) its.size)->(∀ b o,s.heap.get? b=some o->h'.get? b=some o)->Q (.ref s.heap.objs.size) { s with heap:=h',toks:=tk }) :
    wpAny (model P w) A (call (.type "set") [.ref l]) Q E s:=by
  obtain⟨c,tl,mro⟩:=PySem.F.called_set.mro
  have made:=PySem.F.called_set.made
  have sub:=PySem.F.called_set.sub
  refine wpAny_call (codeAny_of_tree ?_)
  show wpAny _ _ (callAny (.type "set") _) _ _ _
  refine wpAny_pure ⟨Code.quiet_builtin _ (by decide +kernel),codeAny_builtin PySem.F.entry_type_call ?_⟩
  rw[Around.under_plain (weight_type_call_type "set" [.ref l] []) rfl]
  have n1:=PySem.F.called_set.notType
  have n2:=PySem.F.called_set.canCreate
  have n3:=PySem.F.typeCall_set_1 (.ref l)
  repeat (any_goals (first | assumption | wp_step))
  generalize eS:({ cls:=.type "set",dict:=none,data:=.set #[] 0 (.fresh 0 0 (J8 w)) }:Obj)=oS
  refine codeAny_mono (Dj (E:=E) (Q:=λx s1=>x=.ref s.heap.objs.size/\s1={ s with heap:=s.heap.push oS }) ⟨rfl,by rw[<-eS]⟩) λr s1 hr=> ?_
  cases r with
  | error e=>exact hr
  | ok fl =>
    cases fl with
    | ret x =>
      obtain⟨rfl,rfl⟩:=hr
      have g0:(s.heap.push oS).get? s.heap.objs.size=some oS:=Heap.get?_push_size _ (by rw[<-eS];rfl)
      have T0:Shared.TypeIs { s with heap:=s.heap.push oS } (.ref s.heap.objs.size) "set":=⟨_,g0,by rw[<-eS]⟩
      have i1:=PySem.F.called_set.init.lookup
      have i2:=PySem.F.called_set.init.bind (.ref s.heap.objs.size)
      repeat (any_goals (first | assumption | wp_step))
      refine codeAny_mono (codeAny_call_builtin (R:=wants (λr s2=>r=.none/\∃ h' tk,s2={ s with heap:=h',toks:=tk }/\IntSet P w h' s.heap.objs.size (firstMet (λi=>ns.getD i 0) its.size) ∧
        (∀ b o,s.heap.get? b=some o->h'.get? b=some o)) E) PySem.F.called_set.init.plain PySem.F.entry_set_init (check_set_init_1 T0 ?_)) λr2 s2 aW=> ?_
      · obtain⟨ol,gl,cl,nl,dl⟩:=hl
        obtain⟨c1,d1,dt1,sl1⟩:=ol
        simp only at cl dl
        subst cl;subst dl
        have gl':=Heap.get?_push_of_some oS gl
        have e1:=PySem.F.sub_list_set
        have e2:=PySem.F.sub_list_frozenset
        have e3:(Value.type "list" == Value.type "dict")=false:=by decide
        have MU:(s.heap.push oS).IsList l its:=⟨_,gl',rfl,nl,rfl⟩
        have BE:l<s.heap.objs.size:=Heap.lt_size gl
        have big:=size_push' s.heap oS
        revert gl' MU g0 T0 big
        have keep0:∀ b o,s.heap.get? b=some o->(s.heap.push oS).get? b=some o:=λb o e=>Heap.get?_push_of_some _ e
        revert keep0
        generalize s.heap.push oS=h0
        intro keep0 g0 T0 gl' MU big
        subst eS
        unfold Builtin.«set.__init__» noKeywords Builtin.Frozenset.updateFrom
        generalize hPI:pyIter=PI
        wp_walk
        subst hPI
        refine wpAny_pyIter_list MU ?_
        refine wpAny_bind (wpAny_runValue ?_)
        have hh3:A.in1.in1.in1.handled=none:=by simp[hh]
        have ne1:l≠h0.objs.size:=Nat.ne_of_lt (by rw[big];exact Nat.lt_succ_of_lt BE)
        have nin:s.heap.objs.size∉[h0.objs.size,l]:=by
          simp only[List.mem_cons,List.not_mem_nil,or_false,not_or]
          exact⟨Nat.ne_of_lt (by rw[big];exact Nat.lt_succ_self _),Nat.ne_of_gt BE⟩
        refine Dh ((Walks.list hh3 _ l ne1 its).toS) s.heap.objs.size nin (λi=>ns.getD i 0) (λi v e=>IntsAre.int_at hi i v (by rw[Array.getElem?_toList];exact e)) hb (its.size - 0) 0 _ (by omega) (Nat.zero_le _)
          ⟨⟨_,Heap.get?_push_size _ rfl,rfl,rfl⟩,MU.push _⟩ ⟨_,#[],0,_,Heap.get?_push_of_some _ g0,⟨rfl,rfl,rfl⟩,rfl,λe he=>by simp at he,by exact .nil,by decide,by rfl,Led.fresh _⟩ λs3 m S3=> ?_
        obtain⟨h3,g3,d3,tk3,os3⟩:=s3
        have a1:g3=s.gens:=m.gens
        have a2:d3=s.drawn:=m.drawn
        have a3:os3=s.os:=m.os
        subst a1;subst a2;subst a3
        show wpAny _ _ _ _ _ _
        refine wpAny_pure ?_
        show wpAny _ _ (ret Value.none) _ _ _
        refine wpAny_pure ⟨rfl,h3,tk3,rfl,S3,λb o e=> ?_⟩
        have hb:=Heap.lt_size e
        refine m.heap b o ?_ (Heap.get?_push_of_some _ (keep0 _ _ e))
        simp only[List.mem_cons,List.not_mem_nil,or_false,not_or]
        exact⟨Nat.ne_of_lt hb,Nat.ne_of_lt (by rw[big];exact Nat.lt_succ_of_lt hb)⟩
      · cases r2 with
        | error e=>exact aW
        | ok fl2 =>
          cases fl2 with
          | ret r =>
            obtain⟨rfl,h',tk,rfl,S',k'⟩:=aW
            repeat (any_goals (first | assumption | wp_step))
            exact q _ _ S' k'
          | _=>exact aW.elim
    | _=>exact hr.elim
end
end L2
namespace L2
section
variable{X:Cx}
theorem Inv.drawn{AA:List (Addr × Obj)}{σ:St}{H:Hp}{s:Shared}(I:Inv X AA σ H s)(d):Inv X AA σ H { s with drawn:=d } :=
 { ok:=I.ok,os:=I.os,bare:=I.bare,base:=I.base,loc:=I.loc,cell:=I.cell,free:=I.free,freeC:=I.freeC,pin:=I.pin,hok:=I.hok,len:=I.len }
theorem eG:∀ {ns:List Int} {us:List Value},Vals (ns.map V.int) us->IntsAre us ns
 | [],_,.nil=>.nil
 | n::r,_,.cons h t=>by
  obtain⟨tk,rfl⟩:=h
  exact .cons _ _ (eG t)
abbrev eI(X:Cx)(a:Addr)(ms:List Int):HO:=.ext λh=>IntSet X.prog X.w h a ms
theorem El(hc:X.calm=true):CallR X (.type "set") (λxs H Q=>∃ (p:Addr) (ns:List Int),xs=[.ref p]/\SqL X.K H p (ns.map V.int)/\ns.length<=1000 ∧
  ∀ (a:Addr),H a=none->Q (.ref a) (upd H a (eI X a (firstMet (λi=>ns.getD i 0) ns.length)))):=by
 intro AA s σ H xs us Q I r h
 obtain⟨p,ns,rfl,hq,hn,q⟩:=h
 obtain⟨u,rfl,rx⟩:=FY r
 cases rx
 obtain⟨its,r',pl,hz⟩:=I.list hq
 have hi:=eG r'
 have B0:its.length=ns.length:=IntsAre.length hi
 refine Ek (I.ok.hd hc) pl.isList hi (by rw[List.size_toArray,B0];exact Nat.lt_of_le_of_lt (Nat.succ_le_succ hn) (by decide)) λh' tk S k=> ?_
 have hz2:its.toArray.size=ns.length:=by rw[List.size_toArray,B0]
 rw[hz2]at S
 refine⟨.ref s.heap.objs.size,_,I.laid k (Nat.le_refl _) ?_,rfl,q _ (I.hok.fresh (Nat.le_refl _))⟩
 exact⟨S,⟨_,S.choose_spec.choose_spec.choose_spec.choose_spec.1⟩,λh1 h2 z e=>z.at e⟩
theorem Em(hc:X.calm=true):CallR X (.builtin "sorted") (λxs H Q=>∃ (a:Addr) (ms:List Int),xs=[.ref a]/\H a=some (eI X a ms)/\ms.length<64 ∧
  ∀ (D:Addr) (ks:List Int),H D=none->List.Perm ks ms->ks.Pairwise (· <=·)->Q (.ref D) (upd H D (.lst (ks.map V.int)))):=by
 intro AA s σ H xs us Q I r h
 obtain⟨a,ms,rfl,ha,hn,q⟩:=h
 obtain⟨u,rfl,rx⟩:=FY r
 cases rx
 obtain⟨S,_,_⟩:=I.hok a _ ha
 refine Ej (I.ok.hd hc) S hn λD h' tk d c out ks k hD g hi pk hr=> ?_
 have hl:ks.length<64:=by rw[pk.length_eq];exact hn
 refine⟨.ref D,_,(I.laid (t':=tk) k hD ?_).drawn d,rfl,q D ks (I.hok.fresh hD) pk hr⟩
 exact⟨by rw[List.length_map,sizeLine_eq];omega,out.toList,c,TD hi,g⟩
theorem Ep(val:Nat->Int)(n:Nat)(x:Int):x∈firstMet val n↔∃ i,i<n/\val i=x:=by
 have h:=firstMet_any val n x
 rw[Bool.eq_iff_iff,List.any_eq_true,List.any_eq_true]at h
 constructor
 ·intro hx
  obtain⟨y,hy,e⟩:=h.mp ⟨x,hx,beq_self_eq_true x⟩
  obtain⟨i,hi,rfl⟩:=List.mem_map.mp hy
  exact⟨i,List.mem_range.mp hi,eq_of_beq e⟩
 ·rintro ⟨i,hi,rfl⟩
  obtain⟨y,hy,e⟩:=h.mpr ⟨val i,List.mem_map.mpr ⟨i,List.mem_range.mpr hi,rfl⟩,beq_self_eq_true _⟩
  exact eq_of_beq e ▸ hy
theorem UA(val:Nat->Int):∀ n,(firstMet val n).Nodup
 | 0=>by rw[firstMet_zero];exact List.nodup_nil
 | n+1=>by
  rw[firstMet_succ]
  by_cases h:val n∈firstMet val n
  ·rw[eA h];exact UA val n
  ·rw[eB h]
   exact List.nodup_append.mpr ⟨UA val n,by simp,λa ha b hb e=>by rw[List.mem_singleton]at hb;subst hb;subst e;exact h ha⟩
theorem eK:∀ {l:List Int},l.Pairwise (· <=·)->l.Nodup->l.Pairwise (· <·)
 | [],_,_=>.nil
 | x::r,h,n=>by
  obtain⟨h1,h2⟩:=List.pairwise_cons.mp h
  obtain⟨n1,n2⟩:=List.nodup_cons.mp n
  refine List.pairwise_cons.mpr ⟨λy hy=> ?_,eK h2 n2⟩
  have:=h1 y hy
  have:x≠y:=λz=>n1 (z ▸ hy)
  omega
def P7(K:W.Frag)(te:TE):TE:=λσ H Q=>te σ H λx H1=>∃ (p:Addr) (ns:List Int),x=.ref p/\SqL K H1 p (ns.map V.int)/\ns.length<64 ∧
 ∀ (a:Addr) (o:HO) (D:Addr) (ks:List Int),H1 a=none->upd H1 a o D=none->ks.Pairwise (· <·)->(∀ x,x∈ks↔x∈ns)->ks.length<=ns.length->Q (.ref D) (upd (upd H1 a o) D (.lst (ks.map V.int)))
def clo(te:TE):TE:=λσ H Q=>∃ C:VK,te σ H C/\∀ x H1,C x H1->Q x H1
theorem PE.clo{e:Expr}{te:TE}(h:PE X e te):PE X e (clo te):=λAA s σ H Q I ⟨C,q,m⟩=>AT (h AA s σ H C I q) λv s' ⟨x,H1,I1,r1,q1⟩=>⟨x,H1,I1,r1,m _ _ q1⟩
theorem eL{e:Expr}{te:TE}{p1 p2 p3 p4:Pos}(hc:X.calm=true)(g1:Gl X "sorted")(m1:X.mg "sorted"=none)(g2:Gl X "set")(m2:X.mg "set"=none)(h:PE X e te)
  (he:starEach [e] X.env=[(false,eval e X.env)]:=by rfl) :
  PE X (.Call (.Name "sorted" p1) [.Call (.Name "set" p2) [e] [] p3] [] p4) (P7 X.K te):=λAA s σ H Q I q=>by
 refine(DG (Em hc) g1 m1 (by rfl) (K4 (HJ (El hc) g2 m2 (by rfl) (K4 h.clo GG he) (he:=he)) GG)) AA s σ H Q I ?_
 refine⟨_,q,λx H1 hzz=> ?_⟩
 obtain⟨p,ns,e1,hq,hn,q1⟩:=hzz
 subst e1
 refine⟨p,ns,rfl,hq,by omega,λa ha=>⟨a,_,rfl,AG,?_,λD ks hD pk hr=> ?_⟩⟩
 ·exact Nat.lt_of_le_of_lt (firstMet_length_le ..) hn
 ·have nd:=UA (λi=>ns.getD i 0) ns.length
  refine q1 a _ D ks ha hD (eK hr (pk.nodup_iff.mpr nd)) (λx=> ?_) (by rw[pk.length_eq];exact firstMet_length_le ..)
  rw[pk.mem_iff,Ep]
  refine⟨λhzz=> ?_,λhx=> ?_⟩
  ·obtain⟨i,hi,e⟩:=hzz
   rw[<-e]
   simp[List.getD,hi]
  ·obtain⟨i,hi,e⟩:=List.getElem_of_mem hx
   exact⟨i,hi,by simp[List.getD,hi,e]⟩
end
end L2
namespace L2
def P8(K:W.Frag)(a:Addr)(n:Nat):It :=
 ⟨λi H=>i<n/\∃ xs,SqL K H a xs/\xs.length=n,λi H x H'=>H'=H/\∀ xs,SqL K H a xs->xs[n - 1 - i]? =some x,λi _=>n<=i⟩
theorem Ev{P:Program}{w:World}{K:W.Frag}{tg:Expr}(a it:Addr)(n:Nat):IT P w K tg (P8 K a n) [it] it (λi h=>i<=n/\h.IsRevIter it a ((n:Int) - 1 - (i:Int))) where
 mem:=by simp
 obj:=λi h ⟨_,st⟩ b hb=>by
  have e:b=it:=by simpa using hb
  subst e
  obtain⟨o,e,c,d⟩:=st
  exact⟨o,e,λv z=>by rw[d]at z;cases z⟩
 keep:=λi h h' ⟨l,st⟩ k=>⟨l,st.at λo e=>k it (by simp) o e⟩
 item:=by
  intro X hP hw hK hc i AA s σ H E I hf ⟨hl,st⟩ hg
  subst hP hw hK
  obtain⟨hi,xs,hq,hn⟩:=hg
  obtain⟨its,rv,p,hz⟩:=I.list hq
  have BE:n - 1 - i<xs.length:=by omega
  have hx:=List.getElem?_eq_getElem BE
  obtain⟨u,hu,ru⟩:=rv.get hx
  obtain⟨f0,f1,f2,f3,f4,f5⟩:=hf it (by simp)
  have e1:(n:Int) - 1 - (i:Int)=((n - 1 - i:Nat):Int):=by omega
  rw[e1]at st
  refine wpAny_pyNext_rev_item st p.isList (x:=u) (by simpa using hu) λh' st' sb=> ?_
  have e2:((n - 1 - i:Nat):Int) - 1=(n:Int) - 1 - ((i+1:Nat):Int):=by omega
  rw[e2]at st'
  have I1:Inv X AA σ H { s with heap:=h' }:=I.turned (t':=s.toks) (λb o hb e=>(sb.2 b hb).trans e) f0 f1 f3 f4 f5
  obtain⟨o,e,c,d⟩:=id st'
  exact⟨u,rfl,M8 (s:={ s with heap:=h' }) e c d (by decide) ⟨_,H,I1,ru,⟨rfl,λys hy=>by rw[I.list_inj hy hq];exact hx⟩,⟨hi,st'⟩,λb hb=>(hf b hb).1⟩⟩
 done:=by
  intro X hP hw hK hc i AA s σ H E I hf ⟨hl,st⟩ hg
  subst hP hw hK
  obtain⟨f0,f1,f2,f3,f4,f5⟩:=hf it (by simp)
  have e:i=n:=Nat.le_antisymm hl hg
  subst e
  have e1:(i:Int) - 1 - (i:Int)= -1:=by omega
  rw[e1]at st
  exact wpAny_pyNext_rev_end (I.ok.hd hc) st λh' eb=>⟨rfl,I.turned (t':=s.toks) (λb o hb e=>eb b o hb e) f0 f1 f3 f4 f5⟩
 self:=λ_ _ _ _ _ st h=>wpAny_pyIter_revIter st.2 h
def UB(K:W.Frag)(ta:TA):TI:=λσ H R=>ta σ H λvs H1=>∃ a xs,vs=[.ref a]/\SqL K H1 a xs/\R (P8 K a xs.length) H1
theorem Ew:bootBuiltins "reversed"=some (.type "reversed"):=by rfl
section
variable{X:Cx}{tg:Expr}
theorem Ex{a:Expr}{ta:TA}{p pos:Pos}(hg:Gl X "reversed")(hm:X.mg "reversed"=none)(ha:PA X [a] ta)(hs:starEach [a] X.env=[(false,eval a X.env)]:=by rfl):PI X tg (.Call (.Name "reversed" p) [a] [] pos) (UB X.K ta):=by
 intro AA s σ H R I h
 refine Call_ (KY I hg hm Ew (PyProof.Rows.callWith_type1 (AT (ha pos AA s σ H _ I h) λus s1 hzz=> ?_) (by rw[hs];rfl) (by rfl)))
 obtain⟨vs,H1,I1,r1,q1⟩:=hzz
 obtain⟨l,xs,e,hx,q⟩:=q1
 subst e
 obtain⟨u,rfl,rx⟩:=FY r1
 cases rx
 obtain⟨its,rv,pl,hz⟩:=I1.list hx
 have B0:=rv.length
 refine call_reversed_list pl.isList ?_
 have st:(s1.heap.push (revObj l ((its.toArray.size:Int) - 1))).IsRevIter s1.heap.objs.size l ((xs.length:Int) - 1 - ((0:Nat):Int)):=⟨_,Heap.get?_push_size _ rfl,rfl,by
  show Data.fields #[.ref l,rawInt ((its.toArray.size:Int) - 1)]=_
  rw[List.size_toArray,<-B0]
  simp⟩
 refine wpAny_pyIter_revIter st ?_
 have I2:Inv X AA σ H1 { s1 with heap:=s1.heap.push (revObj l ((its.toArray.size:Int) - 1)) }:=I1.kept (t':=s1.toks) λb o e=>Heap.get?_push_of_some _ e
 exact⟨_,[s1.heap.objs.size],_,_,H1,rfl,I2,Ev l s1.heap.objs.size xs.length,⟨Nat.zero_le _,st⟩,λb hb=>by
  have e:b=s1.heap.objs.size:=by simpa using hb
  subst e
  exact I1.fpOk (Nat.le_refl _) (I1.hok.fresh (Nat.le_refl _)),q⟩
def Ey(K:W.Frag)(te:TE)(ts:TO):TE:=λσ H Q=>te σ H λx H1=>ts σ H1 λk H2=>k=some (-1)/\∃ a xs,x=.ref a/\SqL K H2 a xs/\∀ p,H2 p=none->Q (.ref p) (upd H2 p (.lst xs.reverse))
theorem Ez{K:W.Frag}{te:TE}{ts:TO}{σ:St}{H:Hp}{Q:VK}:Ey K te ts σ H Q=(te σ H λx H1=>ts σ H1 λk H2=>k=some (-1)/\∃ a xs,x=.ref a/\SqL K H2 a xs/\∀ p,H2 p=none->Q (.ref p) (upd H2 p (.lst xs.reverse))):=rfl
def Fb(ta:TA):TE:=λσ H Q=>ta σ H λvs H1=>∃ k:Nat,vs=[.int k]/\k<=100000/\∀ p,H1 p=none->Q (.ref p) (upd H1 p (.lst (dY k)))
theorem Fc{ta:TA}{σ:St}{H:Hp}{Q:VK}:Fb ta σ H Q=(ta σ H λvs H1=>∃ k:Nat,vs=[.int k]/\k<=100000/\∀ p,H1 p=none->Q (.ref p) (upd H1 p (.lst (dY k)))):=rfl
def P9(K:W.Frag):List V->Hp->VK->Prop:=λxs H Q=>∃ (p:Addr) (AD:List (AO × V)),xs=[.ref p]/\H p=some (.dK AD)/\∀ l,H l=none->Q (.ref l) (upd H l (.dK AD))
theorem Fd:CallR X (.type "dict") (P9 X.K):=by
 intro AA s σ H xs us Q I r h
 obtain⟨p,AD,rfl,hp,q⟩:=h
 obtain⟨u,rfl,rx⟩:=FY r
 cases rx
 exact wJ I (.inl hp) λl s' hl I'=>⟨.ref l,_,I',rfl,q l hl⟩
theorem Fg{K:W.Frag}{p:Addr}{H:Hp}{Q:VK}:P9 K [.ref p] H Q=∃ AD,H p=some (.dK AD)/\∀ l,H l=none->Q (.ref l) (upd H l (.dK AD)):=by simp[P9]
end
theorem Fh{K:W.Frag}{as:TA}{g:TG}{s1:TS}{D:Ends}{σ:St}{H:Hp}:EQ (UB K as) g s1 D σ H=(as σ H λvs H1=>∃ a xs,vs=[.ref a]/\SqL K H1 a xs/\G9 (P8 K a xs.length) g s1 D σ H1):=rfl
theorem Fj{K:W.Frag}{σ:St}{H:Hp}{a:Addr}{xs:List V}{g:TG}{tb:TS}{D:Ends}(Pv:Nat->St->Hp->Prop)(h0:Pv 0 σ H)(ha:∀ i σ H,i<=xs.length->Pv i σ H->SqL K H a xs)
  (hs:∀ i x σ H,i<xs.length->xs[xs.length - 1 - i]? =some x->Pv i σ H->g x σ H λσ2 H2=>tb { D with nx:=Pv (i+1),ct:=Pv (i+1),bk:=D.nx } σ2 H2) (hd:∀ σ H,Pv xs.length σ H->D.nx σ H):G9 (P8 K a xs.length) g tb D σ H:=by
 refine⟨λi m σ H=>i+m=xs.length/\Pv i σ H,⟨xs.length,by omega,h0⟩,λi m σ H ⟨e,p⟩=> ?_⟩
 have h1:=ha i σ H (by omega) p
 by_cases hi:i<xs.length
 ·refine .inr ⟨⟨hi,xs,h1,rfl⟩,Pv (i+1),λσ' H' q=>⟨m - 1,by omega,by omega,q⟩,λv H' ⟨e1,q1⟩=> ?_⟩
  subst e1
  exact hs i v σ _ hi (q1 _ h1) p
 ·have e:i=xs.length:=by omega
  subst e
  exact .inl ⟨Nat.le_refl _,hd _ _ p⟩
section
variable{K:W.Frag}{tt:TT}{cap:List Nat}{σ:St}{H:Hp}{Q:VK}
theorem Fk{n:Nat}(p:Nat->Bool)(hn:n<=sizeLine)(ht:∀ i,i<n->∀ QB:Bool->Hp->Prop,QB (p i) H->tt (some (.int (i:Int))::C7 cap σ) H QB)
  (hd:∀ q,H q=none->Q (.ref q) (upd H q (.lst (((List.range n).filter p).map λ(i:Nat)=>V.int i)))):E5 (FD 0 n) (AN 0) tt (EL 0) 1 cap σ H Q:=by
 refine⟨λi m σ' ys H'=>m=n - i/\i<=n/\H'=H/\(∃ x0,σ'=x0::C7 cap σ)/\ys=((List.range i).filter p).map λ(i:Nat)=>V.int i,⟨n,by simp,Nat.zero_le _,rfl,⟨none,rfl⟩,rfl⟩,?_⟩
 rintro i m σ' ys H' ⟨rfl,hi,rfl,⟨x0,rfl⟩,rfl⟩
 by_cases BE:i<n
 ·refine .inr ⟨BE,?_,λx H2 y=> ?_⟩
  ·rw[List.length_map]
   have:=List.length_filter_le p (List.range i)
   rw[List.length_range]at this
   omega
  ·obtain⟨e,y⟩:=y
   subst e y
   rw[Int.zero_add]
   simp only[AN,List.set_cons_zero]
   refine ht i BE _ ?_
   cases hp:p i with
   | true =>
    rw[if_pos rfl]
    refine⟨λv H4=>v=.int i/\H4=H2,λy H4 ⟨e1,e2⟩=>⟨n - (i+1),by omega,rfl,BE,e2,⟨_,rfl⟩,?_⟩,?_⟩
    ·rw[e1,List.range_succ,List.filter_append,List.map_append]
     simp[hp]
    ·simp[EL]
   | false =>
    rw[if_neg Bool.false_ne_true]
    refine⟨n - (i+1),by omega,rfl,BE,rfl,⟨_,rfl⟩,?_⟩
    rw[List.range_succ,List.filter_append,List.map_append]
    simp[hp]
 ·have e:i=n:=by omega
  subst e
  exact .inl ⟨Nat.le_refl _,hd⟩
theorem UC{b:Addr}{xs:List V}(p:V->Bool)(hn:xs.length<=sizeLine)(hq:SqL K H b xs)(ht:∀ x∈xs,∀ QB:Bool->Hp->Prop,QB (p x) H->tt (some x::C7 cap σ) H QB)
  (hd:∀ q,H q=none->Q (.ref q) (upd H q (.lst (xs.filter p)))):E5 (G0 K b) (AN 0) tt (EL 0) 1 cap σ H Q:=by
 refine⟨λi m σ' ys H'=>m=xs.length - i/\i<=xs.length/\H'=H/\(∃ x0,σ'=x0::C7 cap σ)/\ys=(xs.take i).filter p,⟨xs.length,by simp,Nat.zero_le _,rfl,⟨none,rfl⟩,by simp⟩,?_⟩
 rintro i m σ' ys H' ⟨rfl,hi,rfl,⟨x0,rfl⟩,rfl⟩
 by_cases BE:i<xs.length
 ·refine .inr ⟨⟨xs,xs[i],hq,by simp[BE]⟩,?_,λx H2 y=> ?_⟩
  ·have:=List.length_filter_le p (xs.take i)
   rw[List.length_take]at this
   omega
  ·obtain⟨e,y⟩:=y
   subst e
   have hx:=y xs hq
   have et:xs.take (i+1)=xs.take i++[x]:=by
    obtain⟨h1,h2⟩:=List.getElem?_eq_some_iff.mp hx
    rw[<-h2,List.take_append_getElem]
   simp only[AN,List.set_cons_zero]
   refine ht x (List.mem_of_getElem? hx) _ ?_
   cases hp:p x with
   | true =>
    rw[if_pos rfl]
    refine⟨λv H4=>v=x/\H4=H2,λy H4 ⟨e1,e2⟩=>⟨xs.length - (i+1),by omega,rfl,BE,e2,⟨_,rfl⟩,?_⟩,?_⟩
    ·rw[et,List.filter_append,e1]
     simp[hp]
    ·simp[EL]
   | false =>
    rw[if_neg Bool.false_ne_true]
    refine⟨xs.length - (i+1),by omega,rfl,BE,rfl,⟨_,rfl⟩,?_⟩
    rw[et,List.filter_append]
    simp[hp]
 ·have e:i=xs.length:=by omega
  subst e
  refine .inl ⟨⟨xs,hq,Nat.le_refl _⟩,λq hq'=> ?_⟩
  rw[List.take_length]
  exact hd q hq'
end
section
variable{K:W.Frag}{td ty tv te:TE}{D:Ends}{σ:St}{H:Hp}{Q:VK}{QB:Bool->Hp->Prop}
theorem Fl:S7 td ty σ H Q=(td σ H λx H1=>ty σ H1 λy H2=>∃ a v,x=.ref a/\DGet H2 a y (some v)/\Q v H2):=rfl
theorem Fm:NF ty td σ H Q=(ty σ H λy H1=>td σ H1 λx H2=>∃ a o,x=.ref a/\DGet H2 a y o/\Q (.bl o.isSome) H2):=rfl
theorem Fp:JA ty td σ H Q=(ty σ H λy H1=>td σ H1 λx H2=>∃ a o,x=.ref a/\DGet H2 a y o/\Q (.bl (!o.isSome)) H2):=rfl
theorem Fq:J6 td ty tv D σ H=(tv σ H λv H1=>td σ H1 λx H2=>ty σ H2 λy H3=>∃ a H4,x=.ref a/\DPut H3 a y v H4/\D.nx σ H4):=rfl
theorem Fv:TC td ty σ H Q=(td σ H λx H1=>∃ a,x=.ref a/\NH H1 a/\ty σ H1 λy H2=>∃ o,DGet H2 a y o/\Q (o.getD .non) H2):=rfl
theorem Fw:LF σ H Q=(∀ p,H p=none->Q (.ref p) (upd H p (.dK []))):=rfl
theorem Fx:S9 σ H Q=(∀ p,H p=none->Q (.ref p) (upd H p (.dT []))):=rfl
theorem Fy:tB te σ H QB=(te σ H λx H1=>∃ c,x=.bl c/\QB c H1):=rfl
theorem Fz:P7 K te σ H Q=(te σ H λx H1=>∃ (p:Addr) (ns:List Int),x=.ref p/\SqL K H1 p (ns.map V.int)/\ns.length<64 ∧
 ∀ (a:Addr) (o:HO) (D:Addr) (ks:List Int),H1 a=none->upd H1 a o D=none->ks.Pairwise (· <·)->(∀ x,x∈ks↔x∈ns)->ks.length<=ns.length->Q (.ref D) (upd (upd H1 a o) D (.lst (ks.map V.int)))):=rfl
variable{a b:Addr}{i j:Int}{z:Str}{AD:List (AO × V)}{kvt:List (List AO × V)}{v:V}
theorem dI(e:H a=some (.dK AD)):DGet H a (.int i) (BO AD (.inl i)):=DGet.k (k:=.inl i) e
theorem dS(e:H a=some (.dK AD)):DGet H a (.str z) (BO AD (.inr z)):=DGet.k (k:=.inr z) e
theorem Gb(e:H a=some (.dT kvt))(eb:H b=some (.tup [.int i,.int j])):DGet H a (.ref b) (BO kvt [.inl i,.inl j]):=DGet.t (k:=[.inl i,.inl j]) e eb
theorem Gc(e:H a=some (.dK AD))(h:BO AD (.inr z)=some v):DGet H a (.str z) (some v):=h ▸ dS e
theorem pI(e:H a=some (.dK AD))(hl:AD.length<100000):DPut H a (.int i) v (upd H a (.dK (C3 AD (.inl i) v))):=DPut.k (k:=.inl i) e (Nat.lt_of_lt_of_le hl (by decide))
theorem Gd(e:H a=some (.dT kvt))(eb:H b=some (.tup [.int i,.int j]))(hl:kvt.length<100000):DPut H a (.ref b) v (upd H a (.dT (C3 kvt [.inl i,.inl j] v))):=DPut.t (k:=[.inl i,.inl j]) e eb (Nat.lt_of_lt_of_le hl (by decide))
end
end L2
namespace L2
section
variable{X:Cx}
abbrev NW(K:W.Frag):R2:=cG K false
theorem UD(hu:X.A.units+64<cLine):OpR X (compareOp .In) (NW X.K):=vS
def QC:R2:=λx y H Q=>∃ c,y=.bl c/\(∀ p,x≠.ref p)/\(∀ T,x≠.ty T)/\Q (.bl (decide (x=.bl c))) H
end
theorem SqT.same{K:W.Frag}{H H':Hp}{a:Addr}{xs:List V}(e:Same H H')(h:SqT K H a xs):SqT K H' a xs:=by
 rcases h with(h | ⟨o,h⟩) | h
 ·exact .inl (.inl (e _ _ h))
 ·exact .inl (.inr ⟨o,e _ _ h⟩)
 ·exact .inr h
mutual
theorem Rep.same{K:W.Frag}{H H':Hp}(s:Same H H'):∀ {v:V} {d:PyData},Rep K H v d->Rep K H' v d
 | _,_,.non=>.non
 | _,_,.bl b=>.bl b
 | _,_,.int i=>.int i
 | _,_,.str x=>.str x
 | _,_,.lst h r=>.lst (s.seq h) (RepAll.same s r)
 | _,_,.tup h r=>.tup (SqT.same s h) (RepAll.same s r)
theorem RepAll.same{K:W.Frag}{H H':Hp}(s:Same H H'):∀ {vs:List V} {ds:List PyData},RepAll K H vs ds->RepAll K H' vs ds
 | _,_,.nil=>.nil
 | _,_,.cons h r=>.cons (Rep.same s h) (RepAll.same s r)
end
def Dat(K:W.Frag)(H:Hp)(n:Nat)(v:V)(d:PyData):Prop:=Rep K H v d/\d.canLay0=true/\d.depth<=n
section
variable{K:W.Frag}{H:Hp}{n:Nat}{Q:VK}
theorem Dat.int(i:Int):Dat K H n (.int i) (.int i):=⟨.int i,rfl,Nat.zero_le _⟩
theorem Dat.non:Dat K H n .non .none:=⟨.non,rfl,Nat.zero_le _⟩
theorem UE:∀ {xs:List V} {ds:List PyData},Paired (Dat K H n) xs ds->RepAll K H xs ds/\PyData.canLayAll0 ds=true/\PyData.depthAll ds<=n
 | _,_,.nil=>⟨.nil,rfl,Nat.zero_le _⟩
 | _,_,.cons h t=>by
  obtain⟨a1,a2,a3⟩:=UE t
  refine⟨.cons h.1 a1,?_,?_⟩
  ·simp[PyData.canLayAll0,h.2.1,a2]
  ·simp only[PyData.depthAll];exact Nat.max_le.mpr ⟨h.2.2,a3⟩
theorem Dat.lst{p:Addr}{xs:List V}{ds:List PyData}(h:SqL K H p xs)(hs:Paired (Dat K H n) xs ds):Dat K H (n+1) (.ref p) (.list ds):=by
 obtain⟨a1,a2,a3⟩:=UE hs
 exact⟨.lst h a1,by simpa [PyData.canLay0]using a2,by simpa [PyData.depth]using a3⟩
theorem Dat.tup{p:Addr}{xs:List V}{ds:List PyData}(h:SqT K H p xs)(hs:Paired (Dat K H n) xs ds):Dat K H (n+1) (.ref p) (.tuple ds):=by
 obtain⟨a1,a2,a3⟩:=UE hs
 exact⟨.tup h a1,by simpa [PyData.canLay0]using a2,by simpa [PyData.depth]using a3⟩
theorem Dat.shp{v:V}{d:PyData}(h:Dat K H n v d)(hn:n<=64):shp d:=by
 unfold L2.shp PySem.SeqAt.shaped
 rw[h.2.1]
 simpa using Nat.le_trans h.2.2 hn
end
end L2
namespace L2
theorem Gg{i:Int}{c:Bool}{H:Hp}{Q:VK}:QC (.int i) (.bl c) H Q=Q (.bl false) H:=by simp[QC]
theorem Gh{c:Bool}{H:Hp}{Q:VK}:QC .non (.bl c) H Q=Q (.bl false) H:=by simp[QC]
end L2
namespace L2
section
variable{prog:Program}{w:World}{A:Around}{E:Value->Shared->Prop}{s:Shared}{d it:Addr}{od:Obj}{es:Array DictEntry}{ep i:Nat}
end
end L2
namespace L2
theorem UF:∀ {ys:List Str} {us:List Value},Vals (ys.map V.str) us->StrsAre us ys
 | [],_,.nil=>.nil
 | y::r,_,.cons h t=>by
  obtain⟨tk,rfl⟩:=h
  exact .cons _ _ (UF t)
section
variable{X:Cx}
def NX(K:W.Frag):V->List V->Hp->VK->Prop:=λx vs H Q=>∃ (z:Str) (p:Addr) (ys:List Str),x=.str z/\vs=[.ref p]/\SqL K H p (ys.map V.str)/\z.length<=16/\(ys.map (·.length)).sum+ys.length<=1048576/\Q (.str (Txt.join z ys)) H
theorem eO:MtR X "str.join" (NX X.K):=by
 intro AA s σ H x vs v us Q I rx rv h
 obtain⟨z,p,ys,rfl,rfl,hp,hz,hw,q⟩:=h
 obtain⟨t,rfl⟩:=rx
 obtain⟨u,rfl,ru⟩:=rv.one
 cases ru
 obtain⟨its,r,pl,hz'⟩:=I.list hp
 exact join_listW pl.isList (UF r) hz hw λt' k=>⟨.str _,H,I.tok k,⟨t',rfl⟩,q⟩
end
section
variable{K:W.Frag}{tt:TT}{te:TE}{cap:List Nat}{σ:St}{H:Hp}{Q:VK}
end
end L2
namespace L2
section
variable{X:Cx}{tg:Expr}
end
section
variable{K:W.Frag}{tt:TT}{cap:List Nat}{σ:St}{H:Hp}{Q:VK}
def zja(lo:Int)(n:Nat):List Int:=(List.range n).map λ(i:Nat)=>lo - (i:Int)
end
def eQ(n i:Nat)(P:Prop):Prop:=∃ m',m'<n - i/\m'=n - (i+1)/\i+1<=n/\P
theorem Gj{K:W.Frag}{g:TG}{tt:TT}{te:TE}{k:Nat}{cap:List Nat}{σ:St}{H:Hp}{Q:VK}{b:Addr}{xs:List V}(hn:xs.length<=sizeLine)(Pv:Nat->St->List V->Hp->Prop)(h0:Pv 0 (IC k cap σ) [] H)(hq:∀ i σ' ys H,Pv i σ' ys H->SqL K H b xs/\ys.length<=i)
  (hs:∀ i x σ' ys H,i<xs.length->xs[i]? =some x->Pv i σ' ys H->g x σ' H λσ2 H2=>tt σ2 H2 λc H3=>if c=true then ∃ N:VK,(∀ y H4,N y H4->eQ xs.length i (Pv (i+1) σ2 (ys++[y]) H4))/\te σ2 H3 N else eQ xs.length i (Pv (i+1) σ2 ys H3))
  (hd:∀ σ' ys H,Pv xs.length σ' ys H->∀ p,H p=none->Q (.ref p) (upd H p (.lst ys))):E5 (G0 K b) g tt te k cap σ H Q:=by
 refine⟨λi m σ' ys H=>m=xs.length - i/\i<=xs.length/\Pv i σ' ys H,⟨xs.length,by simp,Nat.zero_le _,h0⟩,?_⟩
 rintro i m σ' ys H ⟨rfl,hi,p⟩
 obtain⟨q,hl⟩:=hq i σ' ys H p
 by_cases BE:i<xs.length
 ·refine .inr ⟨⟨xs,xs[i],q,by simp[BE]⟩,by omega,λx H' y=> ?_⟩
  obtain⟨e,y⟩:=y
  subst e
  exact hs i x σ' ys _ BE (y xs q) p
 ·have e:i=xs.length:=by omega
  subst e
  exact .inl ⟨⟨xs,q,Nat.le_refl _⟩,hd σ' ys H p⟩
section
variable{P:Program}{w:World}{A:Around}{E:Value->Shared->Prop}{s:Shared}
end
section
variable{X:Cx}
end
end L2
namespace L2
section
variable{P:Program}{w:World}{A:Around}{E:Value->Shared->Prop}{s:Shared}
theorem Gk{e it l:Addr}{i:Nat}{BJ:Array Value}{x old:Value}{Q:Option Value->Shared->Prop}(he:IsEnum s.heap e it i old)(hi:s.heap.IsListIter it l i)(hl:s.heap.IsList l BJ)(ex:BJ[i]? =some x)(ne:e≠it)
  (q:∀ h',IsEnumOut h' e it (i+1) x s.heap.objs.size->h'.IsListIter it l (i+1)->h'.get? s.heap.objs.size=some { cls:=Value.type "tuple",data:=Data.seq #[Value.int i s.toks,x] }->(∀ b o,b≠e->b≠it->s.heap.get? b=some o->h'.get? b=some o) →
   Q (some (.ref s.heap.objs.size)) { s with heap:=h',toks:=s.toks+1 }):wpAny (model P w) A (pyNext (.ref e)) Q E s:=by
 have ty:s.TypeIs (.ref e) "enumerate":=⟨_,he,rfl⟩
 unfold pyNext
 exact wpAny_bind (wpAny_attempt (wpAny_callSpecial?_slot (name:=Str.ofString "__next__") ty F.slot_enumerate_next (wpAny_call_entry F.slot_enumerate_next ty F.entry_enumerate_next
  (enumerate_next_item he hi hl ex ne λh' a1 a2 a3 _ a4=>wpAny_pure (q h' a1 a2 a3 a4)) (F.args_enumerate_next_1 _))))
theorem Gm{e it l:Addr}{i:Nat}{BJ:Array Value}{old:Value}{Q:Fin->Shared->Prop}(hh:A.handled=none)(he:IsEnum s.heap e it i old)(hi:s.heap.IsListIter it l i)(hl:s.heap.IsList l BJ)(ex:BJ[i]? =none)
  (q:∀ h' x,Heap.ExtBut it s.heap h'->(∃ o,h'.get? x=some o/\o.cls=.type "StopIteration")->E (.ref x) { s with heap:=h' }):wpAny (model P w) A (Builtin.«enumerate.__next__» ⟨[.ref e],[]⟩) Q E s:=by
 show wpAny (model P w) A (field (.ref e) 2 >>= _) _ _ s
 refine wpAny_bind (wpAny_field he rfl (x:=.ref it) rfl ?_)
 exact wpAny_bind (Cd (k:=true) hh hi hl ex q)
theorem Gp{e it l:Addr}{i:Nat}{BJ:Array Value}{old:Value}{Q:Option Value->Shared->Prop}(hh:A.handled=none)(he:IsEnum s.heap e it i old)(hi:s.heap.IsListIter it l i)(hl:s.heap.IsList l BJ)(ex:BJ[i]? =none)
  (q:∀ h',Heap.ExtBut it s.heap h'->Q none { s with heap:=h' }):wpAny (model P w) A (pyNext (.ref e)) Q E s:=by
 have ty:s.TypeIs (.ref e) "enumerate":=⟨_,he,rfl⟩
 unfold pyNext
 refine wpAny_bind (wpAny_attempt (wpAny_callSpecial?_slot (name:=Str.ofString "__next__") ty F.slot_enumerate_next (wpAny_call_entry F.slot_enumerate_next ty F.entry_enumerate_next (Gm hh he hi hl ex λh' x kk ⟨o,e1,e2⟩=> ?_) (F.args_enumerate_next_1 _))))
 exact wpAny_bind (wpAny_isInstance (T:="StopIteration") (b:=true) ⟨o,e1,e2⟩ isSubtype_stop (wpAny_pure (q _ kk)))
end
def NY(K:W.Frag)(a:Addr):It :=
  ⟨λi H=>∃ xs x,SqL K H a xs/\xs[i]? =some x,
   λi H v H'=>∃ t,H t=none/\v=.ref t/\∃ x,H'=upd H t (.tup [.int (i:Int),x])/\∀ xs,SqL K H a xs->xs[i]? =some x,
   λi H=>∃ xs,SqL K H a xs/\xs.length<=i⟩
def EnSt(e it l:Addr)(i:Nat)(h:Heap):Prop:=(∃ old,IsEnum h e it i old)/\h.IsListIter it l i
theorem EnSt.lt{e it l:Addr}{i:Nat}{h:Heap}(q:EnSt e it l i h):∀ b∈[e,it],b<h.objs.size:=by
 obtain⟨⟨old,h1⟩,o,h2,_⟩:=q
 intro b hb
 simp only[List.mem_cons,List.not_mem_nil,or_false]at hb
 rcases hb with rfl | rfl
 ·exact Heap.lt_size h1
 ·exact Heap.lt_size h2
theorem Gq{P:Program}{w:World}{K:W.Frag}{elts:List Expr}{kn:Nat}{pos:Pos}{e it l:Addr}(ne:e≠it) :
  IT P w K (.Tuple elts kn pos) (NY K l) [e,it] e (λi h=>EnSt e it l i h) where
 mem:=by simp
 obj:=λi h st b hb=>by
  obtain⟨⟨old,h1⟩,h2⟩:=st
  obtain⟨o4,e4,d4⟩:=ItK.ob (k:=true) h2
  simp only[List.mem_cons,List.not_mem_nil,or_false]at hb
  rcases hb with rfl | rfl
  ·exact⟨_,h1,λv q=>by cases q⟩
  ·exact⟨_,e4,λv q=>by rw[d4]at q;cases q⟩
 keep:=λi h h' ⟨⟨old,h1⟩,h2⟩ q=>⟨⟨old,q e (by simp) _ h1⟩,ItK.up (k:=true) h2 λo x=>q it (by simp) o x⟩
 item:=by
  intro X hP hw hK hc i AA s σ H E I hf st hg
  subst hP hw hK
  obtain⟨xs,x,hx,ex⟩:=hg
  obtain⟨its,rv,d1⟩:=I.seqK (k:=true) hx
  obtain⟨u,hu,ru⟩:=rv.get ex
  have lt:=EnSt.lt st
  obtain⟨⟨old,h1⟩,h2⟩:=st
  refine Gk h1 h2 d1 (x:=u) (by simpa using hu) ne λh' g1 g2 g3 kk=>⟨_,rfl,?_⟩
  refine wpAny_letOwnedTupleGo_enum g1 λh2' z2 sb=> ?_
  have I1:=I.tnew (ys:=[.int (i:Int),x]) (its:=[Value.int (i:Int) s.toks,u]) (.cons (show RelV (.int (i:Int)) (Value.int (i:Int) s.toks)from⟨s.toks,rfl⟩) (.cons ru .nil)) (by show 2<=sizeLine;decide)
  have f':∀ b∈[e,it],b≠s.heap.objs.size:=λb hb=>Nat.ne_of_lt (lt b hb)
  have nz:s.heap.objs.size≠e:=(f' e (by simp)).symm
  have I2:Inv X AA σ (upd H s.heap.objs.size (.tup [.int (i:Int),x])) { s with heap:=h2',toks:=s.toks+1 }:=by
   refine Inv.turnedS (s:={ s with heap:=s.heap.push { cls:=Value.type "tuple",data:=Data.seq #[Value.int i s.toks,u] } }) (t':=s.toks+1) (fp:=[e,it]) I1 (λb o hb eo=> ?_) λb hb=>(hf b hb).upd (f' b hb)
   simp only[List.mem_cons,List.not_mem_nil,or_false,not_or]at hb
   rcases Heap.get?_push_cases eo with⟨e1,e2⟩ | e1
   ·subst e1 e2
    exact sb.extBut _ _ nz g3
   ·exact sb.extBut _ _ hb.1 (kk _ _ hb.1 hb.2 e1)
  exact⟨.ref s.heap.objs.size,_,I2,rfl,⟨s.heap.objs.size,I.fresh,rfl,x,rfl,λys' q=>by rw[I.seqK_inj (k:=true) q hx];exact ex⟩,
   ⟨⟨_,z2⟩,ItK.up (k:=true) g2 λo x=>sb.extBut _ _ ne.symm x⟩,λb hb=>((hf b hb).upd (f' b hb)).1⟩
 done:=by
  intro X hP hw hK hc i AA s σ H E I hf st hg
  subst hP hw hK
  obtain⟨xs,hx,en⟩:=hg
  obtain⟨its,rv,d1⟩:=I.seqK (k:=true) hx
  obtain⟨⟨old,h1⟩,h2⟩:=st
  have e1:=rv.length
  refine Gp (I.ok.hd hc) h1 h2 d1 (by simp;omega) λh' kk=>⟨rfl,I.turnedS (t':=s.toks) (fp:=[e,it]) (λb o hb eo=> ?_) hf⟩
  simp only[List.mem_cons,List.not_mem_nil,or_false,not_or]at hb
  exact kk _ _ hb.2 eo
 self:=λ_ _ _ _ _ st h=>by
  obtain⟨⟨old,h1⟩,_⟩:=st
  exact wpAny_pyIter_enum h1 h
section
variable{X:Cx}
def NZ(K:W.Frag)(ta:TA):TI:=λσ H R=>ta σ H λvs H1=>∃ a:Addr,vs=[.ref a]/\(∃ xs,SqL K H1 a xs)/\R (NY K a) H1
theorem eU{a:Expr}{ta:TA}{p pos p2:Pos}{elts:List Expr}{kn:Nat}(hg:Gl X "enumerate")(hm:X.mg "enumerate"=none)(ha:PA X [a] ta)(hs:starEach [a] X.env=[(false,eval a X.env)]:=by rfl) :
  PI X (.Tuple elts kn p2) (.Call (.Name "enumerate" p) [a] [] pos) (NZ X.K ta):=by
 intro AA s σ H R I h
 refine Call_ (KY I hg hm boot_enumerate (PyProof.Rows.callWith_type1 (AT (ha pos AA s σ H _ I h) λus s1 hzz=> ?_) (by rw[hs];rfl) (by rfl)))
 obtain⟨vs,H1,I1,r1,q1⟩:=hzz
 obtain⟨l,e,⟨xs,hx⟩,q⟩:=q1
 subst e
 obtain⟨u,rfl,rx⟩:=FY r1
 cases rx
 obtain⟨its,rv,d1⟩:=I1.seqK (k:=true) hx
 refine call_enumerate_list d1 λh' z1 z2 sz kk=>wpAny_pyIter_enum z1 ?_
 have I2:Inv X AA σ H1 { s1 with heap:=h' }:=I1.kept (t':=s1.toks) kk
 refine⟨_,[s1.heap.objs.size+1,s1.heap.objs.size],_,_,H1,rfl,I2,Gq (Nat.ne_of_gt (by omega)),⟨⟨_,z1⟩,z2⟩,λb hb=>I1.fpOk ?_ (I1.hok.fresh ?_),q⟩
 all_goals
  simp only[List.mem_cons,List.not_mem_nil,or_false]at hb
  rcases hb with rfl | rfl<;>omega
end
theorem Gv{K:W.Frag}{as:TA}{g:TG}{s1:TS}{D:Ends}{σ:St}{H:Hp}:EQ (NZ K as) g s1 D σ H=(as σ H λvs H1=>∃ a:Addr,vs=[.ref a]/\(∃ xs,SqL K H1 a xs)/\G9 (NY K a) g s1 D σ H1):=rfl
theorem eV{K:W.Frag}{σ:St}{H:Hp}{a:Addr}{xs:List V}{g:TG}{tb:TS}{D:Ends}(Pv:Nat->St->Hp->Prop)(h0:Pv 0 σ H)(ha:∀ i σ H,i<=xs.length->Pv i σ H->SqL K H a xs)
  (hs:∀ i x σ H t,xs[i]? =some x->Pv i σ H->H t=none->g (.ref t) σ (upd H t (.tup [.int (i:Int),x])) λσ2 H2=>tb { D with nx:=Pv (i+1),ct:=Pv (i+1),bk:=D.nx } σ2 H2) (hd:∀ σ H,Pv xs.length σ H->D.nx σ H):G9 (NY K a) g tb D σ H:=by
 refine⟨λi m σ H=>i+m=xs.length/\Pv i σ H,⟨xs.length,by omega,h0⟩,λi m σ H ⟨e,p⟩=> ?_⟩
 have h1:=ha i σ H (by omega) p
 by_cases hi:i<xs.length
 ·refine .inr ⟨⟨xs,xs[i],h1,List.getElem?_eq_getElem hi⟩,Pv (i+1),λσ' H' q=>⟨m - 1,by omega,by omega,q⟩,λv H' ⟨t,ht,e,x,e',q1⟩=> ?_⟩
  subst e e'
  exact hs i x σ H t (q1 _ h1) p ht
 ·have e:i=xs.length:=by omega
  subst e
  exact .inl ⟨⟨xs,h1,Nat.le_refl _⟩,hd _ _ p⟩
def QD(K:W.Frag):R2:=λx y H Q=>NW K x y H Q\/∃ t ts p xs,x=.ref t/\SqT K H t ts/\y=.ref p/\SqT K H p xs/\(∀ z∈xs,z=.non\/∃ i,z=.int i)/\Q (.bl false) H
theorem eW:∀ {xs:List V} {us:List Value} {u:Value},Vals xs us->u∈us->∃ x∈xs,RelV x u
 | _,_,_,.nil,h=>by cases h
 | _,_,_,.cons r t,h=>by
  rcases List.mem_cons.mp h with rfl | h
  ·exact⟨_,List.mem_cons_self ..,r⟩
  ·obtain⟨x,hx,e⟩:=eW t h
   exact⟨x,List.mem_cons_of_mem _ hx,e⟩
theorem Gw{X:Cx}(hu:X.A.units+64<cLine):OpR X (compareOp .In) (QD X.K):=by
 intro AA s σ H x y v u Q I rx ry h
 rcases h with h | ⟨t,ts,p,xs,rfl,ht,rfl,hp,hx,q⟩
 ·exact UD hu AA s σ H x y v u Q I rx ry h
 ·cases rx
  cases ry
  obtain⟨its,r,pl,hz⟩:=I.tuple hp
  obtain⟨tts,tr,tl,_⟩:=I.tuple ht
  have hin:X.A.in1.units<cLine:=by
   have:X.A.in1.units=X.A.units+1:=rfl
   omega
  refine SeqAt.in_tupleAt (λ_=>false) pl (λz hz'=> ?_) ⟨.bl _,H,I,rfl,?_⟩
  ·obtain⟨z0,h0,r0⟩:=eW r (by simpa using hz')
   rcases hx z0 h0 with rfl | ⟨i,rfl⟩
   ·cases r0
    exact SeqAt.EqAt.none_tuple tl hin
   ·obtain⟨tk,rfl⟩:=r0
    exact SeqAt.EqAt.int_tuple _ _ tl hin
  ·have:its.toArray.any (λ_=>false)=false:=by
    rw[Array.any_eq_false]
    simp
   rw[this]
   exact q
end L2
namespace L2
section
variable{X:Cx}
theorem UG:∀ {us:List Value} {ys:List Str},StrsAre us ys->Vals (ys.map V.str) us
 | _,_,.nil=>.nil
 | _,_,.cons z t h=>.cons ⟨_,rfl⟩ (UG h)
def eY(K:W.Frag):List V->Hp->VK->Prop:=λxs H Q=>∃ (p:Addr) (ys:List Str),xs=[.ref p]/\SqL K H p (ys.map V.str)/\ys.length<64 ∧
  ∀ (D:Addr) (ks:List Str),H D=none->ks.Perm ys->sortedS ks=true->Q (.ref D) (upd H D (.lst (ks.map V.str)))
theorem Gx(hc:X.calm=true):CallR X (.builtin "sorted") (eY X.K):=by
 intro AA s σ H xs us Q I r h
 obtain⟨p,ys,rfl,hp,hn,q⟩:=h
 obtain⟨u,rfl,rx⟩:=FY r
 cases rx
 obtain⟨its,rv,pl,hz⟩:=I.list hp
 have hi:=UF rv
 have B0:its.length=ys.length:=by have:=rv.length;simpa using this.symm
 refine sorted_strs pl.isList hi (by omega) λout ks ho pk hr=> ?_
 obtain⟨c,g⟩:=sortedAll_at s.heap its out
 have hD:s.heap.objs.size<=s.heap.objs.size+1:=Nat.le_succ _
 refine⟨.ref _,_,I.laid (t':=s.toks) (λb o e=>sortedAll_old e) hD ?_,rfl,q _ ks (I.hok.fresh hD) pk hr⟩
 have hl:ks.length<64:=by rw[pk.length_eq];exact hn
 exact⟨by rw[List.length_map,sizeLine_eq];omega,out.toList,c,UG ho,g⟩
def Gy(K:W.Frag):List V->Hp->VK->Prop:=λxs H Q=>∃ i j,xs=[.int i,.int j]/\Q (.int (if j<i then j else i)) H
theorem Gz{K:W.Frag}{i j:Int}{H:Hp}{Q:VK}:Gy K [.int i,.int j] H Q=Q (.int (if j<i then j else i)) H:=propext ⟨λ⟨_,_,e,q⟩=>by cases e;exact q,λq=>⟨_,_,rfl,q⟩⟩
end
end L2
namespace L2
section
variable{P:Program}{w:World}{A:Around}{E:Value->Shared->Prop}{s:Shared}
end
section
variable{X:Cx}
end
end L2
namespace L2
section
variable{X:Cx}{AA:List (Addr × Obj)}{σ:St}{H:Hp}{s:Shared}
variable{tg iter FX:Expr}{FC:List Expr}{scope:Scope}{pos:Pos}{td:TE}{g:TG}{tt:TT}{te:TE}{tn cn:List Str}{cap:List Nat}
end
end L2
namespace L2
theorem FnScope.go{N P:List Str}{sc:Scope}(h1:sc.kind=.function:=by exact rfl)(h2:sc.isCoroutine=false:=by exact rfl)(h3:sc.isGenerator=false:=by exact rfl)(h4:N.Nodup:=by decide +kernel)(h5:N.take P.length=P:=by exact rfl)(h6:∀ x∈P,sc.names.lookup x=some .local\/sc.names.lookup x=some .cell:=by decide +kernel)(h7:∀ y∈sc.names,y.2≠.free:=by decide +kernel):FnScope N P sc:=⟨h1,h2,h3,h4,h5,h6,h7⟩
theorem Room.m{j k:Nat}{A:Around}(r:Room k A)(h:j<=k:=by decide):Room j A:=r.mono h
abbrev FP(P:Program)(w:World)(K:W.Frag)(mg:Str->Option Value)(base:Heap)(k:Nat)(f:Addr)(fd:FuncData)(ps:List Str)(sp:Sp):Prop:=FnOk P w K mg base (DZ P w) k f fd ps sp
theorem Fun.okF{P:Program}{w:World}{K:W.Frag}{mg:Str->Option Value}{base:Heap}{x qual:Str}{st:Stmt}{f:Addr}{fd:FuncData}{N ps:List Str}{k:Nat}{sp:Sp}(F:Fun K x qual st f fd)(rd:(St->XK)->TS)(S:FnScope N ps (AW st))(len:∀ {vs H Q E},sp vs H Q E->vs.length=ps.length)
  (ok:∀ {vs H Q E},sp vs H Q E->rd (λ_=>E) { nx:=λ_ H'=>Q .non H',rt:=Q } (A0 N vs) H)
  (hb:∀ (BP:Value) (A:Around) (outer:List Env) (s:Shared) (H:Hp) (E:XK),Room k (A.deeper (envOfC qual (AW st) s.heap.objs.size f BP))->XOk (GI (DZ P w) P w K mg base N qual (AW st) f BP A outer s H E) (λ_=>E) →
   PSs (GI (DZ P w) P w K mg base N qual (AW st) f BP A outer s H E) (F1 st) (rd λ_=>E)):FP P w K mg base (k+1) f fd ps sp :=
 F.okE S (λ_ _ _ _=>len) λBP A outer s H _ _ E hr h=>⟨_,hb BP A outer s H E hr wR,ok h⟩
section
variable{X:Cx}{pos:Pos}
theorem BG(i:Nat){x:Str}{e:Expr}{te:TE}{pos':Pos}(hN:X.N.Nodup)(he:PE X e te)(hi:X.N[i]? =some x:=by exact rfl)(hx:KW X.env.scope x:=by exact Or.inl rfl)(hs:swapsWith e (some (.Name x pos')) pos.line X.env=pure false:=by rfl)(hf:X.fn x=true\/X.env.scope.names.lookup x=some .local:=by first | exact .inl rfl | exact .inr rfl | assumption) :
  PS X (.Assign [.Name x pos'] e pos) (A4 te (AN i)):=PD hN hi hx he hs hf
theorem CL(i:Nat){x:Str}(hN:X.N.Nodup)(hi:X.N[i]? =some x:=by exact rfl)(hx:KW X.env.scope x:=by exact Or.inl rfl)(hf:X.fn x=true\/X.env.scope.names.lookup x=some .local:=by first | exact .inl rfl | exact .inr rfl | assumption):PG X (.Name x pos) (AN i):=tN hN hi hx hf
end
end L2
namespace L2
section
variable{X:Cx}{pos:Pos}
theorem DN{a:Expr}{ta:TE}{i:Int}{j pos'}(ha:PE X a ta):PE X (.Subscript a (.Constant (.int i) j pos') pos) (AF (DM X.K) ta (tC (.int i))):=CY CZ ha BK (λ_ _=>rfl)
theorem FnScope.cp{scope outer:Scope}{N P tn cn:List Str}{cap:List Nat}(_:FnScope N P outer)(h:TY scope outer N cn cap=true:=by decide +kernel)(h1:X.env.scope=outer:=by exact rfl)(h2:X.N=N:=by exact rfl):LH X scope tn cn cap:=xO h1 h2 h
end
section
variable{X:Cx}{E:St->XK}{k j:Nat}{x m:Str}{ps:List Str}{sp:Sp}{C:Addr}{p pos CU:Pos}{e o e1 e2 e3:Expr}{es:List Expr}{ta tb tc td:TE}{t:TA}
theorem AI(h:PE X e ta)(s:starEach [e] X.env=(false,eval e X.env)::starEach [] X.env:=by rfl):PA X [e] (DY ta BY):=K4 h GG s
theorem A8(h:PE X e ta)(h1:PE X e1 tb)(s:starEach [e,e1] X.env=(false,eval e X.env)::starEach [e1] X.env:=by rfl)(s1:starEach [e1] X.env=(false,eval e1 X.env)::starEach [] X.env:=by rfl):PA X [e,e1] (DY ta (DY tb BY)):=K4 h (AI h1 s1) s
theorem D7(h:PE X e ta)(h1:PE X e1 tb)(h2:PE X e2 tc)(s:starEach [e,e1,e2] X.env=(false,eval e X.env)::starEach [e1,e2] X.env:=by rfl)(s1:starEach [e1,e2] X.env=(false,eval e1 X.env)::starEach [e2] X.env:=by rfl)(s2:starEach [e2] X.env=(false,eval e2 X.env)::starEach [] X.env:=by rfl):PA X [e,e1,e2] (DY ta (DY tb (DY tc BY))):=K4 h (A8 h1 h2 s1 s2) s
theorem J9(h:PE X e ta)(h1:PE X e1 tb)(h2:PE X e2 tc)(h3:PE X e3 td)(s:starEach [e,e1,e2,e3] X.env=(false,eval e X.env)::starEach [e1,e2,e3] X.env:=by rfl)(s1:starEach [e1,e2,e3] X.env=(false,eval e1 X.env)::starEach [e2,e3] X.env:=by rfl)(s2:starEach [e2,e3] X.env=(false,eval e2 X.env)::starEach [e3] X.env:=by rfl)(s3:starEach [e3] X.env=(false,eval e3 X.env)::starEach [] X.env:=by rfl):PA X [e,e1,e2,e3] (DY ta (DY tb (DY tc (DY td BY)))):=K4 h (D7 h1 h2 h3 s1 s2 s3) s
theorem DQ(c:DP X.prog X.w X.K X.mg X.base k x ps sp)(hr:Room j X.A)(hx:XOk X E)(ha:PA X (e::es) t)(hj:k<=j:=by decide)(hg:Gl X x:=by exact rfl)(hdb:(x ==("__debug__":Str))=false:=by decide)
  (he:starEach (e::es) X.env=(false,eval e X.env)::starEach es X.env:=by rfl) (C0:(backTo pos (starEach es X.env)).any (·.1)=false:=by rfl):PE X (.Call (.Name x p) (e::es) [] pos) (CW sp [] E t):=TM c (hr.mono hj) hx.passes hg ha hdb he C0
theorem BH{pl:Sem Bool}(he:PE X o ta)(cl:Cls X.K C)(c:BU X.prog X.w X.K X.mg X.base C k m ps sp)(hr:Room j X.A)(hx:XOk X E)(ha:PA X (e::es) t)(hj:k<=j:=by decide)
  (hst:starEach (e::es) X.env=(false,eval e X.env)::starEach es X.env:=by rfl) (C0:(backTo pos (starEach es X.env)).any (·.1)=false:=by rfl)
  (ht:eval (.Call (.Attribute o m CU) (e::es) [] pos) X.env=(do
   let ov ← eval o X.env
   standAt CU.atName
   let (f,first) ← holding [ov] (getMethod ov m pl)
   callWith pos f first (backTo pos (starEach (e::es) X.env)) (backToKw pos (keywordEach [] X.env))):=by rfl):PE X (.Call (.Attribute o m CU) (e::es) [] pos) (AV C m sp [] E ta t):=G8 he cl c (hr.mono hj) hx.passes ha hst C0 ht
theorem EE{pl:Sem Bool}(he:PE X o ta)(cl:Cls X.K C)(c:BU X.prog X.w X.K X.mg X.base C k m ps sp)(hr:Room j X.A)(hx:XOk X E)(hj:k<=j:=by decide)
  (ht:eval (.Call (.Attribute o m CU) [] [] pos) X.env=(do
   let ov ← eval o X.env
   standAt CU.atName
   let (f,first) ← holding [ov] (getMethod ov m pl)
   callWith pos f first (backTo pos (starEach [] X.env)) (backToKw pos (keywordEach [] X.env))):=by rfl):PE X (.Call (.Attribute o m CU) [] [] pos) (AV C m sp [] E ta BY):=wS he cl c (hr.mono hj) hx.passes ht
end
theorem Fun.okL{P:Program}{w:World}{K:W.Frag}{mg:Str->Option Value}{base:Heap}{x qual:Str}{st:Stmt}{f:Addr}{fd:FuncData}{N ps:List Str}{k:Nat}{sp:Sp}(F:Fun K x qual st f fd)(rd:(St->XK)->TS)(S:FnScope N ps (AW st))
  (ok:∀ {vs H Q E},sp vs H Q E->rd (λ_=>E) { nx:=λ_ H'=>Q .non H',rt:=Q } (A0 N vs) H)
  (hb:∀ (BP:Value) (A:Around) (outer:List Env) (s:Shared) (H:Hp) (E:XK),Room k (A.deeper (envOfC qual (AW st) s.heap.objs.size f BP))->XOk (GI (DZ P w) P w K mg base N qual (AW st) f BP A outer s H E) (λ_=>E) →
   PSs (GI (DZ P w) P w K mg base N qual (AW st) f BP A outer s H E) (F1 st) (rd λ_=>E))
  (len:∀ {vs H Q E},sp vs H Q E->vs.length=ps.length:=by
   intro _ _ _ _ h
   repeat (first | (obtain⟨rfl,_⟩:=h;rfl) | (refine Or.elim h ?_ ?_<;>(clear h;intro h)) | obtain⟨_,h⟩:=h)):FP P w K mg base (k+1) f fd ps sp:=F.okF rd S len ok hb
theorem Hh{α :Type}{P:List α ->Prop}(h:P []):∀ us:List α,us.length=0->P us
 | [],_=>h
theorem UH{α :Type}{P:List α ->Prop}(h:∀ a,P [a]):∀ us:List α,us.length=1->P us
 | [a],_=>h a
theorem UI{α :Type}{P:List α ->Prop}(h:∀ a b,P [a,b]):∀ us:List α,us.length=2->P us
 | [a,b],_=>h a b
theorem UJ{α :Type}{P:List α ->Prop}(h:∀ a b c,P [a,b,c]):∀ us:List α,us.length=3->P us
 | [a,b,c],_=>h a b c
theorem UK{α :Type}{P:List α ->Prop}(h:∀ a b c d,P [a,b,c,d]):∀ us:List α,us.length=4->P us
 | [a,b,c,d],_=>h a b c d
theorem UL{α :Type}{P:List α ->Prop}(h:∀ a b c d e,P [a,b,c,d,e]):∀ us:List α,us.length=5->P us
 | [a,b,c,d,e],_=>h a b c d e
theorem UM{α :Type}{P:List α ->Prop}(h:∀ a b c d e f,P [a,b,c,d,e,f]):∀ us:List α,us.length=6->P us
 | [a,b,c,d,e,f],_=>h a b c d e f
theorem UN{α :Type}{P:List α ->Prop}(h:∀ a b c d e f g,P [a,b,c,d,e,f,g]):∀ us:List α,us.length=7->P us
 | [a,b,c,d,e,f,g],_=>h a b c d e f g
def UO(x qual:Str)(st:Stmt)(ps:List Str):Prop:=∀ (kV doc pm:Value) (an:Option Addr) (BP ct:Value) (us:List Value),us.length=ps.length->bindArgs (W.fnOf x qual (IB st) (F1 st) (AW st) .none kV doc pm an BP ct) ⟨us,[]⟩=pure (ps.zip us)
structure GF(K:W.Frag)(x:Str)(st:Stmt):Prop where
 ex:∃ (f:Addr) (fd:FuncData),W.nsIn K mainGlobals x=some (some (.ref f))/\Fun K x x st f fd
structure GM(K:W.Frag)(C:Addr)(m q:Str)(st:Stmt):Prop where
 ex:∃ (f:Addr) (fd:FuncData),W.findIn K (.ref C) m=some (some (.ref f))/\W.isFn K (.ref f)=true/\Fun K m q st f fd
structure GC(K:W.Frag)(C:Addr)(x:Str):Prop where
 ac:W.nsIn K mainGlobals x=some (some (.ref C))
 c:Cls K C
structure GN(K:W.Frag)(C:Addr)(x q:Str)(st:Stmt):Prop where
 m:GM K C "__init__" q st
 mks:W.makesIn K C=true
 kc:W.keepIn K (.ref C)=true
 ac:W.nsIn K mainGlobals x=some (some (.ref C))
structure GX(K:W.Frag)(C:Addr)(x:Str):Prop where
 ac:W.nsIn K mainGlobals x=some (some (.ref C))
 ex:W.excIn K C [.type "ValueError",.type "Exception",.type "BaseException",.type "object"] "ValueError.__new__"=true
section
variable{K:W.Frag}{x q:Str}{st:Stmt}{C f:Addr}{oc:Value}{od an:Option Addr}{osl:Array (Option Value)}{kV doc pm BP ct:Value}
theorem gf(a:W.nsIn K mainGlobals x=some (some (.ref f)))(l:K.lookup f=some ⟨oc,od,.func (W.fnOf x x (IB st) (F1 st) (AW st) .none kV doc pm an BP ct),osl⟩)
  (c:W.codeIn K BP x=true) (k:W.keepIn K (.ref f)=true):GF K x st:=⟨_,_,a,cV l c k⟩
theorem gm(a:W.findIn K (.ref C) x=some (some (.ref f)))(l:K.lookup f=some ⟨oc,od,.func (W.fnOf x q (IB st) (F1 st) (AW st) .none kV doc pm an BP ct),osl⟩)
  (c:W.codeIn K BP q=true) (k:W.keepIn K (.ref f)=true) (i:W.isFn K (.ref f)=true):GM K C x q st:=⟨_,_,a,i,cV l c k⟩
theorem gn{y:Str}(a:W.findIn K (.ref C) "__init__"=some (some (.ref f)))(l:K.lookup f=some ⟨oc,od,.func (W.fnOf "__init__" q (IB st) (F1 st) (AW st) .none kV doc pm an BP ct),osl⟩)
  (c:W.codeIn K BP q=true) (k:W.keepIn K (.ref f)=true) (i:W.isFn K (.ref f)=true) (m:W.makesIn K C=true) (n:W.keepIn K (.ref C)=true) (s:W.nsIn K mainGlobals y=some (some (.ref C))):GN K C y q st:=⟨gm a l c k i,m,n,s⟩
theorem gc(a:W.nsIn K mainGlobals x=some (some (.ref C)))(l:W.plainGet K C Str.empty=true)(c:W.hasDictIn K C=true)(k:W.plainOver K C=true)(i:W.findIn K (.ref C) "__setattr__"=some (some (.builtin "object.__setattr__"))):GC K C x:=⟨a,l,c,k,i⟩
end
section
variable{P:Program}{w:World}{K:W.Frag}{h:Heap}{mg:Str->Option Value}{base:Heap}{x q:Str}{st:Stmt}{C:Addr}{k:Nat}{ps:List Str}{sp:Sp}
theorem GF.cal(g:GF K x st)(X:K.In h)(G:h.Ns mainGlobals mg)(ok:∀ {f fd},Fun K x x st f fd->FP P w K mg base k f fd ps sp)
  (b:UO x x st ps:=by intro _ _ _ _ _ _;first | exact UH λ_=>rfl | exact UI λ_ _=>rfl | exact UJ λ_ _ _=>rfl | exact UK λ_ _ _ _=>rfl | exact UL λ_ _ _ _ _=>rfl | exact Hh rfl | exact UM λ_ _ _ _ _ _=>rfl | exact UN λ_ _ _ _ _ _ _=>rfl):DP P w K mg base k x ps sp:=by
 obtain⟨f,fd,a,F⟩:=g.ex
 exact⟨f,fd,ok F,W.mg_of X G a,F.kp,F.binds b⟩
theorem GM.cal(g:GM K C x q st)(ok:∀ {f fd},Fun K x q st f fd->FP P w K mg base k f fd ps sp)
  (b:UO x q st ps:=by intro _ _ _ _ _ _;first | exact UH λ_=>rfl | exact UI λ_ _=>rfl | exact UJ λ_ _ _=>rfl | exact UK λ_ _ _ _=>rfl | exact UL λ_ _ _ _ _=>rfl | exact UM λ_ _ _ _ _ _=>rfl | exact UN λ_ _ _ _ _ _ _=>rfl):BU P w K mg base C k x ps sp:=by
 obtain⟨f,fd,a,i,F⟩:=g.ex
 exact⟨f,fd,ok F,⟨a,i,F.kp⟩,F.binds b⟩
theorem GN.cal(g:GN K C x q st)(X:K.In h)(G:h.Ns mainGlobals mg)(ok:∀ {f fd},Fun K "__init__" q st f fd->FP P w K mg base k f fd ps sp)
  (b:UO "__init__" q st ps:=by intro _ _ _ _ _ _;first | exact UH λ_=>rfl | exact UI λ_ _=>rfl | exact UJ λ_ _ _=>rfl | exact UK λ_ _ _ _=>rfl | exact UL λ_ _ _ _ _=>rfl | exact UM λ_ _ _ _ _ _=>rfl | exact UN λ_ _ _ _ _ _ _=>rfl):JB P w K mg base C k x ps sp:=by
 obtain⟨f,fd,a,i,F⟩:=g.m.ex
 exact⟨f,fd,ok F,⟨g.mks,a,i,g.kc⟩,W.mg_of X G g.ac,F.binds b⟩
theorem GF.law{fa:Addr}(g:GF K x st)(X:K.In h)(G:h.Ns mainGlobals mg)(hfa:mg x=some (.ref fa))
  (b:∀ (kV doc pm:Value) (an:Option Addr) (BP ct:Value) (s:Shared) (v:Value),BindsTo s (W.fnOf x x (IB st) (F1 st) (AW st) .none kV doc pm an BP ct) ⟨[v],[]⟩ [("script",v)]) :
  ∃ fd:FuncData,(∀ (s:Shared) (v:Value),BindsTo s fd ⟨[v],[]⟩ [("script",v)])/\Fun K x x st fa fd:=by
 obtain⟨f,fd,a,F⟩:=g.ex
 have e:=hfa.symm.trans (W.mg_of X G a)
 cases e
 obtain⟨oc,od,kV,doc,pm,an,BP,ct,osl,rfl,lk,GY⟩:=F.ex
 exact⟨_,b kV doc pm an BP ct,F⟩
end
end L2
namespace L2
def Hj(K:W.Frag)(to ti tv:TE)(rd:V->V->Hp->VK->Prop):TS:=λD σ H=>to σ H λx H1=>ti σ H1 λy H2=>∃ p xs,∃ n:Nat,∃ v,x=.ref p/\y=.int n/\SqL K H2 p xs/\xs[n]? =some v/\tv σ H2 λz H3=>rd v z H3 λu H4=>dG (.ref p) (.int n) u H4 λH5=>D.nx σ H5
theorem Hk{K:W.Frag}{to ti tv:TE}{rd:V->V->Hp->VK->Prop}{D:Ends}{σ:St}{H:Hp}:Hj K to ti tv rd D σ H=(to σ H λx H1=>ti σ H1 λy H2=>∃ p xs,∃ n:Nat,∃ v,x=.ref p/\y=.int n/\SqL K H2 p xs/\xs[n]? =some v/\tv σ H2 λz H3=>rd v z H3 λu H4=>dG (.ref p) (.int n) u H4 λH5=>D.nx σ H5):=rfl
section
variable{X:Cx}{o i value:Expr}{td ty tv:TE}{tpos pos:Pos}
end
def eZ(c:Int)(n:Nat):It:=⟨λi _=>i<n,λi H x H'=>H'=H/\x=.int ((i:Nat) * c),λi _=>n<=i⟩
section
variable{X:Cx}{tg:Expr}
def Hl(ta:TA):TI:=λσ H R=>ta σ H λvs H1=>∃ m c:Nat,vs=[.int 0,.int ((m * c:Nat):Int),.int c]/\(1<=c/\c<100000/\m * c<100000)/\R (eZ c m) H1
end
section
variable{K:W.Frag}{g:TG}{tt:TT}{te:TE}{k:Nat}{cap:List Nat}{σ:St}{H:Hp}{Q:VK}
theorem Hm{as:TA}:DC (Hl as) g tt te k cap σ H Q=(as σ H λvs H1=>∃ m c:Nat,vs=[.int 0,.int ((m * c:Nat):Int),.int c]/\(1<=c/\c<100000/\m * c<100000)/\E5 (eZ c m) g tt te k cap σ H1 Q):=rfl
theorem Hq{as:TA}:DC (NZ K as) g tt te k cap σ H Q=(as σ H λvs H1=>∃ a:Addr,vs=[.ref a]/\(∃ xs,SqL K H1 a xs)/\E5 (NY K a) g tt te k cap σ H1 Q):=rfl
end
end L2
namespace L2
section
variable{prog:Program}{w:World}{K:Type}[DecidableEq K]{knd:HeapKind prog w K}{A:Around}{E:Value->Shared->Prop}{s:Shared}
def Hv(xs ys:List (K × Addr × Value)):List (K × Addr × Value):=ys.foldl (λBW y=>storedH BW y.1 y.2.1 y.2.2) xs
end
def UP(AD more:List (List AO × V)):List (List AO × V):=more.foldl (λBW kv=>C3 BW kv.1 kv.2) AD
theorem KT.merge{H:Hp}:∀ {more:List (List AO × V)} {ys:List (List AO × Addr × Value)} {AD:List (List AO × V)} {xs:List (List AO × Addr × Value)},KT H more ys->KT H AD xs->KT H (UP AD more) (Hv xs ys):=by
 intro more ys AD xs r
 unfold KT at r
 induction r generalizing AD xs with
 | nil=>intro q;exact q
 | @cons p q ps qs h t ih =>
  intro r0
  have e:KT H (C3 AD p.1 p.2) (storedH xs q.1 q.2.1 q.2.2):=by
   have:=r0.put p.1 h.2.1 h.2.2
   rw[<-h.1];exact this
  exact ih e
theorem KT.keys{H:Hp}{AD:List (List AO × V)}{xs:List (List AO × Addr × Value)}(r:KT H AD xs):AD.map (·.1)=xs.map (·.1):=by
 unfold KT at r
 induction r with
 | nil=>rfl
 | cons h t ih=>rw[List.map_cons,List.map_cons,ih,h.1]
def fA(H:Hp)(ps:List (V × V))(AD:List (List AO × V)):Prop:=Paired (λ(q:V × V) (kv:List AO × V)=>(∃ b,q.1=.ref b/\H b=some (.tup (kv.1.map kV)))/\q.2=kv.2) ps AD
def Hw(trs:List (TE × TE)):TE:=λσ H Q=>∀ p,H p=none->LG trs σ (upd H p (.dT [])) λps H2=>H2 p=some (.dT [])/\∃ AD:List (List AO × V),fA H2 ps AD/\AD.length<=15/\Q (.ref p) (upd H2 p (.dT (UP [] AD)))
theorem Hx{trs:List (TE × TE)}{σ:St}{H:Hp}{Q:VK}:Hw trs σ H Q=∀ p,H p=none->LG trs σ (upd H p (.dT [])) λps H2=>H2 p=some (.dT [])/\∃ AD:List (List AO × V),fA H2 ps AD/\AD.length<=15/\Q (.ref p) (upd H2 p (.dT (UP [] AD))):=rfl
theorem Hy{td ty tx:TE}{σ:St}{H:Hp}{Q:VK}:wH td ty tx σ H Q=(td σ H λx H1=>∃ a,x=.ref a/\NH H1 a/\ty σ H1 λy H2=>tx σ H2 λz H3=>∃ o,DGet H3 a y o/\Q (o.getD z) H3):=rfl
theorem Hz{σ:St}{H:Hp}{QP:List (V × V)->Hp->Prop}:LG [] σ H QP=QP [] H:=rfl
theorem Jb{tk tv:TE}{r:List (TE × TE)}{σ:St}{H:Hp}{QP:List (V × V)->Hp->Prop}:LG ((tk,tv)::r) σ H QP=(tk σ H λx H1=>tv σ H1 λy H2=>LG r σ H2 λps H3=>QP ((x,y)::ps) H3):=rfl
end L2
namespace L2
end L2
namespace L2
open PySem PySem.Spec PyProof.Rows PySem.Builtin PySem.Builtin.Str
def E6:TE:=λ_ _ _=>False
theorem FE{X:Cx}{e:Expr}:PE X e E6:=λ_ _ _ _ _ _ h=>h.elim
section
variable{X:Cx}
theorem fB:∀ (l:List (Str × Tok)),Vals ((l.map (·.1)).map V.str) (strValues l)
 | []=>.nil
 | (x,t)::r=>.cons ⟨t,rfl⟩ (fB r)
theorem Inv.pushL{AA:List (Addr × Obj)}{σ:St}{H:Hp}{s:Shared}{Q:VK}(I:Inv X AA σ H s){xs:List V}{us:List Value}{t':Nat}(r:Vals xs us)(hz:xs.length<=sizeLine)(q:∀ l,H l=none->Q (.ref l) (upd H l (.lst xs))):EP X AA σ Q (.ref s.heap.objs.size) { s with heap:=s.heap.push { cls:=.type "list",data:=.seq us.toArray },toks:=t' }:=by
 refine⟨.ref s.heap.objs.size,_,I.laid (t':=t') (λb u e=>Heap.get?_push_of_some _ e) (Nat.le_refl _) (show ObjOk X.prog X.w _ _ _ (.lst xs)from⟨hz,us,0,r,Heap.get?_push_size _ rfl⟩),rfl,q _ (I.hok.fresh (Nat.le_refl _))⟩
theorem Inv.pushT{AA:List (Addr × Obj)}{σ:St}{H:Hp}{s:Shared}{Q:VK}(I:Inv X AA σ H s){xs:List V}{us:List Value}{t':Nat}(r:Vals xs us)(hz:xs.length<=sizeLine)(q:∀ l,H l=none->Q (.ref l) (upd H l (.tup xs))):EP X AA σ Q (.ref s.heap.objs.size) { s with heap:=s.heap.push { cls:=.type "tuple",data:=.seq us.toArray },toks:=t' }:=by
 refine⟨.ref s.heap.objs.size,_,I.laid (t':=t') (λb u e=>Heap.get?_push_of_some _ e) (Nat.le_refl _) (show ObjOk X.prog X.w _ _ _ (.tup xs)from⟨hz,us,r,⟨_,Heap.get?_push_size _ rfl,rfl,0,rfl⟩⟩),rfl,q _ (I.hok.fresh (Nat.le_refl _))⟩
def fC:V->List V->Hp->VK->Prop:=λx vs H Q=>∃ z y:Str,x=.str z/\vs=[.str y]/\(y.length == 0)=false/\z.length<=1000/\∀ t,H t=none->Q (.ref t) (upd H t (.tup [.str (Txt.partition z y).1,.str (Txt.partition z y).2.1,.str (Txt.partition z y).2.2]))
theorem Jc:MtR X "str.partition" fC:=by
 intro AA s σ H x vs v us Q I rx rv h
 obtain⟨z,y,rfl,rfl,hy,hz,q⟩:=h
 obtain⟨t,rfl⟩:=rx
 obtain⟨u,rfl,ru⟩:=rv.one
 obtain⟨t2,rfl⟩:=ru
 refine call_meets PySem.F.slot_str_partition (typeIs_str _ _ _) PySem.F.entry_str_partition (PySem.F.args_str_partition_2 _ _) (meets_str_partition z y t t2 hy (by rw[sizeLine_eq];omega)) ?_
 revert q
 unfold Txt.partition
 cases occurrences z y 0 z.length 1 with
 | nil=>intro q;exact I.pushT (xs:=[.str _,.str _,.str _]) (.cons ⟨_,rfl⟩ (.cons ⟨_,rfl⟩ (.cons ⟨_,rfl⟩ .nil))) (show 3<=sizeLine by rw[sizeLine_eq];omega) q
 | cons i r=>intro q;exact I.pushT (xs:=[.str _,.str _,.str _]) (.cons ⟨_,rfl⟩ (.cons ⟨_,rfl⟩ (.cons ⟨_,rfl⟩ .nil))) (show 3<=sizeLine by rw[sizeLine_eq];omega) q
def UQ:V->List V->Hp->VK->Prop:=λx vs H Q=>∃ z y:Str,x=.str z/\(y.length == 0)=false/\z.length<=1000/\((vs=[.str y]/\∀ l,H l=none->Q (.ref l) (upd H l (.lst ((Txt.split z y).map V.str))))\/∃ k:Nat,k<=100/\vs=[.str y,.int k]/\∀ l,H l=none->Q (.ref l) (upd H l (.lst ((Txt.splitMax z y k).map V.str))))
theorem fD:MtR X "str.split" UQ:=by
 intro AA s σ H x vs v us Q I rx rv h
 obtain⟨z,y,rfl,hy,hz,h⟩:=h
 obtain⟨t,rfl⟩:=rx
 have hz2:z.length+2<=sizeLine:=by rw[sizeLine_eq];omega
 have fin:∀ (l:List (Str × Tok)) (ts:List Str) (t':Nat),l.map (·.1)=ts->ts.length<=sizeLine->(∀ l,H l=none->Q (.ref l) (upd H l (.lst (ts.map V.str))))->EP X AA σ Q (.ref s.heap.objs.size) { s with heap:=s.heap.push { cls:=.type "list",data:=.seq (strValues l).toArray },toks:=t' }:=λl ts t' e hl q=>by
  subst e
  exact I.pushL (fB l) (by rw[List.length_map];exact hl) q
 rcases h with⟨rfl,q⟩ | ⟨k,hk,rfl,q⟩
 ·obtain⟨u,rfl,ru⟩:=rv.one
  obtain⟨u,rfl⟩:=ru
  have hn:(partsBetween z (occurrences z y 0 z.length (z.length+1)) y.length).length<=sizeLine:=by
   have e1:=StrLaws.occ_length_le z y 0 z.length (z.length+1)
   rw[length_partsBetween];omega
  revert q
  unfold Txt.split
  cases h1:(decide (z.length<y.length) || decide (strKind z<strKind y))
  ·cases hf:(occurrences z y 0 z.length (z.length+1)).isEmpty
   ·intro q
    refine call_meets PySem.F.slot_str_split (typeIs_str _ _ _) PySem.F.entry_str_split (PySem.F.args_str_split_2 _ _) (meets_str_split_sep z y t u h1 hy hf (by omega) hn) ?_
    show wants _ _ _ { s with toks:=_,heap:=s.heap.push { cls:=.type "list",data:=.seq (strsFrom s.toks (partsBetween z (occurrences z y 0 z.length (z.length+1)) y.length)).toArray } }
    rw[strsFrom_eq]
    exact fin (numbered s.toks _) _ _ (numbered_texts _ _) hn q
   ·intro q
    exact call_meets PySem.F.slot_str_split (typeIs_str _ _ _) PySem.F.entry_str_split (PySem.F.args_str_split_2 _ _) (meets_str_split_not_found z y t u h1 hy hf) (fin [(z,t)] _ s.toks rfl (show 1<=sizeLine by rw[sizeLine_eq];omega) q)
  ·intro q
   exact call_meets PySem.F.slot_str_split (typeIs_str _ _ _) PySem.F.entry_str_split (PySem.F.args_str_split_2 _ _) (meets_str_split_cannot_occur z y t u h1) (fin [(z,t)] _ s.toks rfl (show 1<=sizeLine by rw[sizeLine_eq];omega) q)
 ·obtain⟨u,u2,rfl,ru,ru2⟩:=uN rv
  obtain⟨u,rfl⟩:=ru
  obtain⟨w,rfl⟩:=ru2
  have hk2:(decide ((k:Int)< -(2 ^ 63:Int)) || decide ((k:Int) ≥ 2 ^ 63))=false:=by
   simp only[Bool.or_eq_false_iff,decide_eq_false_iff_not]
   omega
  have hn:(partsBetween z (occurrences z y 0 z.length (limitOf z k)) y.length).length<=sizeLine:=by
   have e1:=StrLaws.occ_length_le_len z y 0 z.length (limitOf z k)
   rw[length_partsBetween];omega
  revert q
  unfold Txt.splitMax
  cases h1:(decide (z.length<y.length) || decide (strKind z<strKind y))
  ·cases hf:(occurrences z y 0 z.length (limitOf z k)).isEmpty
   ·intro q
    refine call_meets PySem.F.slot_str_split (typeIs_str _ _ _) PySem.F.entry_str_split (PySem.F.args_str_split_3 _ _ _) (meets_str_split_sep_max z y k t u w hk2 h1 hy hf (by omega) hn) ?_
    show wants _ _ _ { s with toks:=_,heap:=s.heap.push { cls:=.type "list",data:=.seq (strsFrom s.toks (partsBetween z (occurrences z y 0 z.length (limitOf z k)) y.length)).toArray } }
    rw[strsFrom_eq]
    exact fin (numbered s.toks _) _ _ (numbered_texts _ _) hn q
   ·intro q
    exact call_meets PySem.F.slot_str_split (typeIs_str _ _ _) PySem.F.entry_str_split (PySem.F.args_str_split_3 _ _ _) (meets_str_split_max_not_found z y k t u w hk2 h1 hy hf) (fin [(z,t)] _ s.toks rfl (show 1<=sizeLine by rw[sizeLine_eq];omega) q)
  ·intro q
   exact call_meets PySem.F.slot_str_split (typeIs_str _ _ _) PySem.F.entry_str_split (PySem.F.args_str_split_3 _ _ _) (meets_str_split_max_cannot_occur z y k t u w hk2 h1) (fin [(z,t)] _ s.toks rfl (show 1<=sizeLine by rw[sizeLine_eq];omega) q)
def DI(i:Int):Str:=Str.ofString (toString i)
def QE(K:W.Frag):List V->Hp->VK->Prop:=λxs H Q=>∃ i:Int,xs=[.int i]/\0<=i/\i<1000000/\Q (.str (DI i)) H
theorem Jd{i:Int}(h0:0<=i)(h1:i<1000000):i.natAbs.log2<1920:=by
 have h:i.natAbs<2 ^ 20:=by
  have:(2:Nat) ^ 20=1048576:=by decide
  omega
 by_cases h2:i.natAbs=0
 ·rw[h2];decide
 ·have:=(Nat.log2_lt h2).mpr h
  omega
theorem UR:CallR X (.type "str") (QE X.K):=by
 intro AA s σ H xs us Q I r h
 obtain⟨i,rfl,h0,h1,q⟩:=h
 obtain⟨u,rfl,rx⟩:=FY r
 obtain⟨t,rfl⟩:=rx
 exact PySem.P.str_of_int (Jd h0 h1) ⟨.str _,H,I.tok _,⟨_,rfl⟩,q⟩
def fE(K:W.Frag):List V->Hp->VK->Prop:=λxs H Q=>∃ (z:Str) (i:Int),xs=[.str z]/\z.length<=640/\intText? z=some i/\Q (.int i) H
theorem Jg:CallR X (.type "int") (fE X.K):=by
 intro AA s σ H xs us Q I r h
 obtain⟨z,i,rfl,h0,h1,q⟩:=h
 obtain⟨u,rfl,rx⟩:=FY r
 obtain⟨t,rfl⟩:=rx
 exact W.KIN.call_text h1 h0 ⟨.int _,H,I.tok _,⟨_,rfl⟩,q⟩
def Jh(z:Str)(ta tb:TE):TE:=λσ H Q=>ta σ H λx H1=>∃ i:Int,x=.int i/\0<=i/\i<1000000/\tb σ H1 λy H2=>∃ j:Int,y=.int j/\0<=j/\j<1000000/\Q (.str (DI i++z++DI j)) H2
theorem fF{i:Int}(h0:0<=i)(h1:i<1000000):(DI i).length<=10:=W.KT.len_num h0 (by omega)
theorem Jj{z:Str}{ta tb:TE}{σ:St}{H:Hp}{Q:VK}:Jh z ta tb σ H Q=(ta σ H λx H1=>∃ i:Int,x=.int i/\0<=i/\i<1000000/\tb σ H1 λy H2=>∃ j:Int,y=.int j/\0<=j/\j<1000000/\Q (.str (DI i++z++DI j)) H2):=rfl
def LU(D:List (Str × Int)):List (Str × KTD.Dat):=D.map λp=>(p.1,.flat (.int p.2))
def QF(o:Obj)(D:List (Str × Int)):Bool:=o.cls == .type "dict" && o.dict.isNone && o.slots.isEmpty && (match o.data with | .dict es _=>KTD.rowsLook (KTD.datLooks λ_=>none) es.toList (LU D) | _=>false)
def TabK(K:W.Frag)(p:Addr)(D:List (Str × Int)):Prop:=(p == sysModules)=false/\∃ o,K.lookup p=some o/\QF o D=true
theorem TabK.text{K:W.Frag}{p:Addr}{D:List (Str × Int)}{h:Heap}(T:TabK K p D)(X:K.In h):KTD.Here h h p (LU D):=by
 obtain⟨h0,o,ho,hl⟩:=T
 refine⟨?_,λ_ _ e=>e⟩
 simp only[QF,Bool.and_eq_true]at hl
 obtain⟨⟨⟨e1,e2⟩,e3⟩,e4⟩:=hl
 split at e4
 ·rename_i es ep hd
  exact⟨h0,o,es,ep,X _ _ ho,⟨beq_iff_eq.mp e1,by simpa using e2,by simpa using e3⟩,hd,KTD.rows_of_look (KTD.dat_of_looks (h:=h) (get:=λ_=>none) λ_ _ e=>by cases e) e4⟩
 ·cases e4
def QH(o:Obj)(ss:List Str):Bool:=o.cls == .type "tuple" && (match o.data with | .seq vs _=>KTD.strsLook vs.toList ss && decide (vs.size<=1000) | _=>false)
theorem fG{K:W.Frag}{p:Addr}{o:Obj}{ss:List Str}(e:K.lookup p=some o)(hl:QH o ss=true)(H:Hp):SqT K H p (ss.map V.str):=by
 simp only[QH,Bool.and_eq_true]at hl
 obtain⟨e1,e2⟩:=hl
 split at e2
 ·rename_i vs n hd
  simp only[Bool.and_eq_true,decide_eq_true_eq]at e2
  exact .inr ⟨o,vs,n,e,beq_iff_eq.mp e1,hd,by rw[sizeLine_eq];omega,UG (KTD.strs_of_look e2.1)⟩
 ·cases e2
theorem Jk{K:W.Frag}{p:Addr}{o:Obj}{D:List (Str × Int)}(e:K.lookup p=some o)(hl:QF o D=true)(h0:(p == sysModules)=false):TabK K p D:=⟨h0,o,e,hl⟩
def F3(D:List (Str × Int))(k:Str):Option Int:=(D.find? λp=>decide (p.1=k)).map (·.2)
theorem fH{k:Str}:∀ {D:List (Str × Int)},KTD.datumAt k (LU D)=(F3 D k).map λi=>KTD.Dat.flat (.int i)
 | []=>rfl
 | (x,i)::D=>by
  show(if decide (k=x)=true then _ else KTD.datumAt k (LU D))=_
  unfold F3
  rw[List.find?_cons]
  by_cases h:k=x
  ·subst h;simp
  ·rw[if_neg (by simpa using h),show decide ((x,i).1=k)=false from decide_eq_false λe=>h e.symm]
   exact fH
theorem fI{k:Str}{D:List (Str × Int)}:KTD.inKeys k (LU D)=(F3 D k).isSome:=by
 rw[<-KTD.isSome_datumAt,fH,Option.isSome_map]
theorem fJ{h₀:Heap}{k:Str}{P:Value->Prop}{i:Int}(q:∀ t,P (.int i t)):∀ {D:List (Str × Int)},F3 D k=some i->KTD.EachL h₀ k P (LU D)
 | [],e=>by cases e
 | (x,j)::D,e=>by
  unfold F3 at e
  rw[List.find?_cons]at e
  by_cases h:k=x
  ·subst h
   rw[show decide ((k,j).1=k)=true from decide_eq_true rfl]at e
   cases e
   exact KTD.eachL_hit rfl q
  ·rw[show decide ((x,j).1=k)=false from decide_eq_false λz=>h z.symm]at e
   exact KTD.eachL_miss h (fJ q e)
section
variable{x:Str}{p:Addr}{D:List (Str × Int)}{i:Expr}{ty:TE}{pos pos':Pos}
def Jl(D:List (Str × Int))(ty:TE):TE:=λσ H Q=>ty σ H λy H1=>∃ k,y=.str k/\Q (.bl (F3 D k).isSome) H1
def US(D:List (Str × Int))(ty:TE):TE:=λσ H Q=>ty σ H λy H1=>∃ k,y=.str k/\Q (.bl (!(F3 D k).isSome)) H1
def UT(D:List (Str × Int))(ty:TE):TE:=λσ H Q=>ty σ H λy H1=>∃ k n,y=.str k/\F3 D k=some n/\Q (.int n) H1
theorem Jm{σ:St}{H:Hp}{Q:VK}:Jl D ty σ H Q=(ty σ H λy H1=>∃ k,y=.str k/\Q (.bl (F3 D k).isSome) H1):=rfl
theorem Jp{σ:St}{H:Hp}{Q:VK}:US D ty σ H Q=(ty σ H λy H1=>∃ k,y=.str k/\Q (.bl (!(F3 D k).isSome)) H1):=rfl
theorem Jq{σ:St}{H:Hp}{Q:VK}:UT D ty σ H Q=(ty σ H λy H1=>∃ k n,y=.str k/\F3 D k=some n/\Q (.int n) H1):=rfl
theorem Jv(g:GV X.mg x (.ref p))(hg:Gl X x)(T:TabK X.K p D)(hi:PE X i ty)(hd:(x ==("__debug__":Str))=false:=by decide):PC X .NotIn i (.Name x pos) (US D ty):=by
 intro AA s σ H Q I h
 refine AT (hi AA s σ H _ I h) λiv s1 ⟨y,H1,I1,ry,k,ey,q⟩=>AT ((EZ g hg hd:PE X (.Name x pos) _) AA s1 σ H1 (λv H2=>v=.ref p/\H2=H1) I1 ⟨rfl,rfl⟩) λu s2 hzz=> ?_
 obtain⟨_,_,I2,rx,ev,eH⟩:=hzz
 subst ev eH ey
 obtain rfl:u=Value.ref p:=rx
 obtain⟨t,rfl⟩:=ry
 refine KTD.notin_text (T.text I2.kIn) ⟨.bl _,_,I2.tok _,rfl,?_⟩
 rw[fI]
 exact q
theorem Jw(g:GV X.mg x (.ref p))(hg:Gl X x)(T:TabK X.K p D)(hi:PE X i ty)(hs:b0 i)(hd:(x ==("__debug__":Str))=false:=by decide):PE X (.Subscript (.Name x pos) i pos') (UT D ty):=by
 intro AA s σ H Q I h
 refine Subscript_ (AT ((EZ g hg hd:PE X (.Name x pos) _) AA s σ H (λv H2=>v=.ref p/\H2=H) I ⟨rfl,rfl⟩) λu s1 hzz=> ?_)
 obtain⟨_,_,I1,rx,ev,eH⟩:=hzz
 subst ev eH
 obtain rfl:u=Value.ref p:=rx
 refine AT (hi AA s1 σ _ _ I1 h) λiv s2 hzz=> ?_
 obtain⟨y,H2,I2,ry,k,n,ey,en,q⟩:=hzz
 subst ey
 obtain⟨t,rfl⟩:=ry
 exact KTD.item_text (T.text I2.kIn) (by rw[fI,en];rfl) (fJ (λt'=>⟨.int _,H2,I2.tok _,⟨_,rfl⟩,q⟩) en) (hs _ _)
end
end
end L2
namespace L2
abbrev Ad:=String->Addr
def SameBut(F:Addr->Prop)(H H':Hp):Prop:=∀ b o,H b=some o->¬ F b->H' b=some o
structure ET(K:W.Frag)(a:Ad):Prop where
 cl:Cls K (a "Plank")
 nC:NoAttr K (a "Plank") "contents"
 nW:NoAttr K (a "Plank") "width"
 nN:NoAttr K (a "Plank") "written"
def pf(cl:Addr)(w n:Int):List (Str × V):=[("contents",.ref cl),("width",.int w),("written",.int n)]
theorem fK:¬ ("contents":Str)="width":=by decide +kernel
theorem Jx:¬ ("contents":Str)="written":=by decide +kernel
theorem Jy:¬ ("width":Str)="written":=by decide +kernel
theorem UU(cl:Addr)(w n:Int):(pf cl w n).lookup ("contents":Str)=some (V.ref cl):=by simp[pf]
theorem Jz(cl:Addr)(w n:Int):(pf cl w n).lookup ("width":Str)=some (V.int w):=by
 have h:(("width":Str) == "contents")=false:=beq_eq_false_iff_ne.mpr (Ne.symm fK)
 simp[pf,List.lookup_cons,h]
theorem Kb(cl:Addr)(w n:Int):A6 "written" (.int n) (A6 "width" (.int w) (A6 "contents" (.ref cl) []))=pf cl w n:=by
 simp only[A6,pf]
 rw[if_neg fK]
 simp only[A6]
 rw[if_neg Jx,if_neg Jy]
theorem QI(cl:Addr)(w n:Int){m:Str}(h1:¬ m="contents")(h2:¬ m="width")(h3:¬ m="written"):(pf cl w n).lookup m=none:=by
 have e1:=beq_eq_false_iff_ne.mpr h1
 have e2:=beq_eq_false_iff_ne.mpr h2
 have e3:=beq_eq_false_iff_ne.mpr h3
 simp[pf,List.lookup_cons,e1,e2,e3]
structure PlankAt(a:Ad)(H:Hp)(p cl:Addr)(w:Nat)(rows:List (List V))(n:Nat):Prop where
 ob:∃ dx,H p=some (.ins (a "Plank") dx (pf cl w n))
 ls:∃ ts:List Addr,H cl=some (.lst (ts.map V.ref))/\Paired (λt r=>H t=some (.tup r)) ts rows
 wd:∀ r∈rows,r.length=w
 sz:rows.length<=1000
 sw:w<=1000
theorem PlankAt.ne{a:Ad}{H:Hp}{p cl:Addr}{w:Nat}{rows:List (List V)}{n:Nat}(P:PlankAt a H p cl w rows n):p≠cl:=by
 obtain⟨⟨dx,h1⟩,⟨ts,h2,_⟩,_⟩:=P
 exact DF h1 h2 (by intro z;cases z)
theorem PlankAt.keep{a:Ad}{H H':Hp}{p cl:Addr}{w:Nat}{rows:List (List V)}{n:Nat}(P:PlankAt a H p cl w rows n)(h1:H' p=H p)(h2:H' cl=H cl)(h3:∀ b xs,H b=some (.tup xs)->H' b=some (.tup xs)):PlankAt a H' p cl w rows n:=by
 obtain⟨⟨dx,e1⟩,⟨ts,e2,e3⟩,r1,r2,r3⟩:=P
 exact⟨⟨dx,h1.trans e1⟩,⟨ts,h2.trans e2,Paired.mapP e3 λt r q=>h3 t r q⟩,r1,r2,r3⟩
theorem PlankAt.same{a:Ad}{H H':Hp}{p cl:Addr}{w:Nat}{rows:List (List V)}{n:Nat}(P:PlankAt a H p cl w rows n)(s:Same H H'):PlankAt a H' p cl w rows n:=by
 obtain⟨⟨dx,e1⟩,⟨ts,e2,e3⟩,r1,r2,r3⟩:=P
 exact⟨⟨dx,s _ _ e1⟩,⟨ts,s _ _ e2,Paired.mapP e3 λt r q=>s _ _ q⟩,r1,r2,r3⟩
def QJ(K:W.Frag)(a:Ad):Sp:=λvs H Q _=>∃ (p dx:Addr) (m w:Nat),vs=[.ref p,.int m,.int w]/\ET K a/\H p=some (.ins (a "Plank") dx [])/\m<=1000/\1<=w/\w<=1000 ∧
 ∀ cl H',H cl=none->PlankAt a H' p cl w (List.replicate m (List.replicate w .non)) 0->SameBut (· =p) H H'->Q .non H'
def N0(K:W.Frag)(a:Ad):Sp:=λvs H Q _=>∃ p cl w rows n,vs=[.ref p]/\ET K a/\PlankAt a H p cl w rows n/\Q (.int rows.length) H
def QK(K:W.Frag)(a:Ad):Sp:=λvs H Q _=>∃ (p cl:Addr) (w:Nat) (rows:List (List V)) (n:Nat),vs=[.ref p]/\ET K a/\PlankAt a H p cl w rows n/\Q (.int w) H
def N1(K:W.Frag)(a:Ad):Sp:=λvs H Q E=>∃ (p cl:Addr) (w:Nat) (rows:List (List V)) (n:Nat) (b:Int),vs=[.ref p,.int b]/\ET K a/\PlankAt a H p cl w rows n ∧
 (0<=b->b<rows.length->Q .non H)/\(b<0\/rows.length<=b->E (.ref (a "NoBlock")) none H)
def QL(K:W.Frag)(a:Ad):Sp:=λvs H Q E=>∃ (p cl:Addr) (w:Nat) (rows:List (List V)) (n:Nat) (b:Int),vs=[.ref p,.int b]/\ET K a/\PlankAt a H p cl w rows n ∧
 (∀ (i:Nat) row,b=i->rows[i]? =some row->∀ l,H l=none->Q (.ref l) (upd H l (.lst row)))/\(b<0\/rows.length<=b->E (.ref (a "NoBlock")) none H)
end L2
namespace L2
theorem D8{K:W.Frag}{H:Hp}{p:Addr}{xs:List V}{i:Int}{n:Nat}{v:V}{Q:VK}(h:H p=some (.tup xs))(hi:i=n)(hx:xs[n]? =some v)(q:Q v H):DM K (.ref p) (.int i) H Q :=
 .inr (.inl ⟨p,xs,i,v,rfl,rfl,SqT.of h,by rw[hi];exact SZ hx,q⟩)
theorem QM{C C' dx dx':Addr}{fs fs':List (Str × V)}(h:fs≠fs'):HO.ins C dx fs≠HO.ins C' dx' fs':=by
 intro z
 injection z with _ _ z
 exact h z
theorem SameBut.refl{F:Addr->Prop}(H:Hp):SameBut F H H:=λ_ _ e _=>e
theorem SameBut.trans{F:Addr->Prop}{H H' H2:Hp}(s:SameBut F H H')(t:SameBut F H' H2):SameBut F H H2:=λb o e n=>t _ _ (s _ _ e n) n
theorem SameBut.wide{F G:Addr->Prop}{H H':Hp}(s:SameBut F H H')(i:∀ x,F x->G x):SameBut G H H':=λb o e n=>s _ _ e λz=>n (i _ z)
theorem Same.sb{F:Addr->Prop}{H H':Hp}(s:Same H H'):SameBut F H H':=λb o e _=>s b o e
theorem SqL.on{K:W.Frag}{H H':Hp}{x:Addr}{xs:List V}(h:SqL K H x xs)(k:∀ o,H x=some o->H' x=some o):SqL K H' x xs:=by
 rcases h with(h | ⟨o,h⟩) | h
 ·exact .inl (.inl (k _ h))
 ·exact .inl (.inr ⟨o,k _ h⟩)
 ·exact .inr h
theorem SqL.sb{K:W.Frag}{F:Addr->Prop}{H H':Hp}{x:Addr}{xs:List V}(h:SqL K H x xs)(s:SameBut F H H')(f:∀ o,H x=some o->¬ F x):SqL K H' x xs:=by
 rcases h with(h | ⟨o,h⟩) | h
 ·exact .inl (.inl (s _ _ h (f _ h)))
 ·exact .inl (.inr ⟨o,s _ _ h (f _ h)⟩)
 ·exact .inr h
theorem SameBut.upd{F:Addr->Prop}{H H':Hp}{p:Addr}{o:HO}(s:SameBut F H H')(h:F p\/H p=none):SameBut F H (upd H' p o):=λb u e n=>by
 have:b≠p:=by
  rcases h with h | h
  ·exact λz=>n (z ▸ h)
  ·exact BN e h
 rw[AK this];exact s _ _ e n
structure Ch where
 blk:Nat
 cell:Nat
 val:V
 nd:List Int
def N2:List Ch->Int->Int->Option Nat
 | [],_,_=>none
 | c::r,i,j=>if(c.blk:Int)=i/\(c.cell:Int)=j then some r.length else N2 r i j
def D0(cs:List Ch)(i j:Int):Option Nat:=N2 cs.reverse i j
def GP:List Ch->Nat->List Nat
 | [],_=>[]
 | c::r,b=>if c.blk=b then GP r b++[r.length]else GP r b
def EF(cs:List Ch)(b:Nat):List Nat:=GP cs.reverse b
theorem UV(cs:List Ch)(c:Ch)(i j:Int):D0 (cs++[c]) i j=if(c.blk:Int)=i/\(c.cell:Int)=j then some cs.length else D0 cs i j:=by
 simp[D0,N2]
theorem Kc(cs:List Ch)(c:Ch)(b:Nat):EF (cs++[c]) b=if c.blk=b then EF cs b++[cs.length]else EF cs b:=by
 simp[EF,GP]
theorem fL:∀ {l:List Ch} {i j:Int} {k:Nat},N2 l i j=some k->k<l.length
 | [],_,_,_,h=>by cases h
 | c::r,i,j,k,h=>by
  unfold N2 at h
  split at h
  ·cases h;simp
  ·have:=fL h
   simp only[List.length_cons];omega
theorem N3{cs:List Ch}{i j:Int}{k:Nat}(h:D0 cs i j=some k):k<cs.length:=by
 have:=fL h
 rwa [List.length_reverse]at this
theorem UW:∀ {l:List Ch} {b k:Nat},k∈GP l b->k<l.length
 | [],_,_,h=>by cases h
 | c::r,b,k,h=>by
  unfold GP at h
  split at h
  ·rcases List.mem_append.mp h with h | h
   ·have:=UW h
    simp only[List.length_cons];omega
   ·rw[List.mem_singleton.mp h];simp
  ·have:=UW h
   simp only[List.length_cons];omega
theorem fM{cs:List Ch}{b k:Nat}(h:k∈EF cs b):k<cs.length:=by
 have:=UW h
 rwa [List.length_reverse]at this
theorem fN:∀ (l:List Ch) (b:Nat),(GP l b).length<=l.length
 | [],_=>Nat.le_refl _
 | c::r,b=>by
  have:=fN r b
  unfold GP
  split<;>simp<;>omega
theorem fO(cs:List Ch)(b:Nat):(EF cs b).length<=cs.length:=by
 have:=fN cs.reverse b
 rwa [List.length_reverse]at this
def E7(pl:Addr)(v:V)(nt:Addr):List (Str × V):=[("place",.ref pl),("value",v),("needs",.ref nt)]
def bf(gp m mi lt ou:Addr):List (Str × V):=[("ground",.ref gp),("made",.ref m),("made_in",.ref mi),("latest",.ref lt),("outs",.ref ou)]
def FF(a b:Str):Bool:=a == b
section
variable{pl nt gp m mi lt ou:Addr}{v:V}
theorem CM{a b:Str}(h:FF a b=false):(a == b)=false:=h
theorem Kd:(E7 pl v nt).lookup ("place":Str)=some (V.ref pl):=by simp[E7]
theorem Kg:(E7 pl v nt).lookup ("value":Str)=some v:=by
 simp[E7,List.lookup_cons,CM (a:="value") (b:="place") (by decide +kernel)]
theorem fP:(E7 pl v nt).lookup ("needs":Str)=some (V.ref nt):=by
 simp[E7,List.lookup_cons,CM (a:="needs") (b:="place") (by decide +kernel),CM (a:="needs") (b:="value") (by decide +kernel)]
theorem JG{f g:Str}{x y:V}{r:List (Str × V)}(h:FF g f=false):A6 f y ((g,x)::r)=(g,x)::A6 f y r:=by
 have:¬ g=f:=λe=>by rw[e]at h;simp[FF]at h
 simp[A6,this]
theorem HN{f:Str}{y:V}:A6 f y []=[(f,y)]:=rfl
theorem Kh:A6 "needs" (.ref nt) (A6 "value" v (A6 "place" (.ref pl) []))=E7 pl v nt:=by
 rw[HN,JG (by decide +kernel),HN,JG (by decide +kernel),JG (by decide +kernel),HN]
 rfl
theorem UX:(bf gp m mi lt ou).lookup ("ground":Str)=some (V.ref gp):=by simp[bf]
theorem JH:(bf gp m mi lt ou).lookup ("made":Str)=some (V.ref m):=by
 simp[bf,List.lookup_cons,CM (a:="made") (b:="ground") (by decide +kernel)]
theorem fQ:(bf gp m mi lt ou).lookup ("made_in":Str)=some (V.ref mi):=by
 simp[bf,List.lookup_cons,CM (a:="made_in") (b:="ground") (by decide +kernel),CM (a:="made_in") (b:="made") (by decide +kernel)]
theorem fR:(bf gp m mi lt ou).lookup ("latest":Str)=some (V.ref lt):=by
 simp[bf,List.lookup_cons,CM (a:="latest") (b:="ground") (by decide +kernel),CM (a:="latest") (b:="made") (by decide +kernel),CM (a:="latest") (b:="made_in") (by decide +kernel)]
theorem UY:(bf gp m mi lt ou).lookup ("outs":Str)=some (V.ref ou):=by
 simp[bf,List.lookup_cons,CM (a:="outs") (b:="ground") (by decide +kernel),CM (a:="outs") (b:="made") (by decide +kernel),CM (a:="outs") (b:="made_in") (by decide +kernel),CM (a:="outs") (b:="latest") (by decide +kernel)]
theorem D1{x:Str}(h:(FF x "ground" || FF x "made" || FF x "made_in" || FF x "latest" || FF x "outs")=false):(bf gp m mi lt ou).lookup x=none:=by
 simp only[Bool.or_eq_false_iff]at h
 obtain⟨⟨⟨⟨h1,h2⟩,h3⟩,h4⟩,h5⟩:=h
 simp[bf,List.lookup_cons,CM h1,CM h2,CM h3,CM h4,CM h5]
theorem Kj:A6 "outs" (.ref ou) (A6 "latest" (.ref lt) (A6 "made_in" (.ref mi) (A6 "made" (.ref m) (A6 "ground" (.ref gp) []))))=bf gp m mi lt ou:=by
 repeat (first | rw[HN] | rw[JG (by decide +kernel)])
 rfl
end
structure fS(K:W.Frag)(C D:Addr):Prop where
 cl:Cls K C
 nG:NoAttr K C "ground"
 nM:NoAttr K C "made"
 nI:NoAttr K C "made_in"
 nL:NoAttr K C "latest"
 nO:NoAttr K C "outs"
 cc:Cls K D
 nP:NoAttr K D "place"
 nV:NoAttr K D "value"
 nN:NoAttr K D "needs"
def ChAt(D:Addr)(H:Hp)(x:Addr)(c:Ch):Prop:=∃ dx pl nt,H x=some (.ins D dx (E7 pl c.val nt))/\H pl=some (.tup [.int c.blk,.int c.cell])/\H nt=some (.tup (c.nd.map V.int))
structure BA where
 b:Addr
 gp:Addr
 m:Addr
 mi:Addr
 lt:Addr
 ou:Addr
 ls:List Addr
 cl:Addr
def BA.F(A:BA)(x:Addr):Prop:=x=A.m\/x=A.mi\/x∈A.ls\/x=A.lt\/x=A.ou\/x=A.cl
def KeysOk(C6:List (AO × V))(n:Nat):Prop:=(C6.map (·.1)).Nodup/\∀ p∈C6,∃ x:Nat,p.1=Sum.inl (x:Int)/\x<n
theorem KeysOk.mono{C6:List (AO × V)}{n m:Nat}(h:KeysOk C6 n)(hm:n<=m):KeysOk C6 m:=⟨h.1,λp hp=>by obtain⟨x,e,hx⟩:=h.2 p hp;exact⟨x,e,by omega⟩⟩
theorem KeysOk.len{C6:List (AO × V)}{n:Nat}(h:KeysOk C6 n):C6.length<=n:=by
 have:=List.Nodup.length_le_of_subset (l₂:=(List.range n).map λ(k:Nat)=>(Sum.inl (k:Int):AO)) h.1 λk hk=>by
  obtain⟨p,hp,rfl⟩:=List.mem_map.mp hk
  obtain⟨x,e,hx⟩:=h.2 p hp
  rw[e]
  exact List.mem_map.mpr ⟨x,List.mem_range.mpr hx,rfl⟩
 simpa using this
theorem KeysOk.put{C6:List (AO × V)}{n:Nat}(h:KeysOk C6 n){k:Nat}(hk:k<n)(hn:BO C6 (.inl (k:Int))=none)(v:V):KeysOk (C3 C6 (.inl (k:Int)) v) n:=by
 refine⟨wP v h.1 hn,λp hp=> ?_⟩
 rw[cN v hn]at hp
 rcases List.mem_append.mp hp with hp | hp
 ·exact h.2 p hp
 ·rw[List.mem_singleton.mp hp];exact⟨k,rfl,hk⟩
structure BookIn(C D:Addr)(H:Hp)(A:BA)(w:Nat)(cs:List Ch)(outs:Int->Bool):Prop where
 ob:∃ dx,H A.b=some (.ins C dx (bf A.gp A.m A.mi A.lt A.ou))
 made:∃ chs:List Addr,H A.m=some (.lst (chs.map V.ref))/\Paired (ChAt D H) chs cs
 mil:H A.mi=some (.lst (A.ls.map V.ref))
 mic:∀ (i:Nat) l,A.ls[i]? =some l->H l=some (.lst ((EF cs i).map λ(k:Nat)=>V.int k))
 nd:A.ls.Nodup
 lat:∃ AD,H A.lt=some (.dT AD)/\(∀ i j:Int,BO AD [.inl i,.inl j]=(D0 cs i j).map λ(k:Nat)=>V.int k)/\AD.length<=cs.length
 out:∃ C6,H A.ou=some (.dK C6)/\(∀ k:Int,(BO C6 (.inl k)).isSome=outs k)/\KeysOk C6 cs.length
 sz:cs.length<=990
 inn:∀ c∈cs,c.blk<A.ls.length/\c.cell<w
 need:∀ (k:Nat) c,cs[k]? =some c->(∀ x∈c.nd,0<=x/\x<k)/\c.nd.Pairwise (· <·)/\c.nd.length<=100
 ap:A.m≠A.mi/\A.m∉A.ls/\A.mi∉A.ls/\A.cl≠A.m/\A.cl≠A.mi/\A.cl∉A.ls
 chn:∀ (k:Nat) c,cs[k]? =some c->∀ j,D0 (cs.take k) c.blk c.cell=some j->(j:Int)∈c.nd
structure BookAt(a:Ad)(C:Addr)(H:Hp)(A:BA)(w:Nat)(rows:List (List V))(n:Nat)(cs:List Ch)(outs:Int->Bool):Prop where
 bk:BookIn C (a "Change") H A w cs outs
 pk:PlankAt a H A.gp A.cl w rows n
 nb:A.ls.length=rows.length
def E8(o:Option HO):Prop:=(∀ xs,o≠some (.tup xs))/\∀ C dx fs,o≠some (.ins C dx fs)
theorem ChAt.sb{D:Addr}{G:Addr->Prop}{H H':Hp}(s:SameBut G H H')(g:∀ x,G x->E8 (H x)){x:Addr}{c:Ch}(h:ChAt D H x c):ChAt D H' x c:=by
 obtain⟨dx,pl,nt,e1,e2,e3⟩:=h
 exact⟨dx,pl,nt,s _ _ e1 λz=>(g _ z).2 _ _ _ e1,s _ _ e2 λz=>(g _ z).1 _ e2,s _ _ e3 λz=>(g _ z).1 _ e3⟩
theorem BookIn.sb{C D:Addr}{G:Addr->Prop}{H H':Hp}{A:BA}{w:Nat}{cs:List Ch}{outs:Int->Bool}(B:BookIn C D H A w cs outs)(s:SameBut G H H')(g:∀ x,G x->E8 (H x))(f:∀ x,G x->¬ A.F x):BookIn C D H' A w cs outs:=by
 obtain⟨⟨dx,e1⟩,⟨chs,e2,e3⟩,e4,e5,e6,⟨AD,e7,e8⟩,⟨C6,e9,e10⟩,r1,r2,r3,r4,r5⟩:=B
 refine⟨⟨dx,s _ _ e1 λz=>(g _ z).2 _ _ _ e1⟩,⟨chs,s _ _ e2 λz=>f _ z (.inl rfl),Paired.mapP e3 λx c h=>h.sb s g⟩,s _ _ e4 λz=>f _ z (.inr (.inl rfl)),λi l h=>s _ _ (e5 i l h) λz=>f _ z (.inr (.inr (.inl (List.mem_of_getElem? h)))),e6,
  ⟨AD,s _ _ e7 λz=>f _ z (.inr (.inr (.inr (.inl rfl)))),e8⟩,⟨C6,s _ _ e9 λz=>f _ z (.inr (.inr (.inr (.inr (.inl rfl))))),e10⟩,r1,r2,r3,r4,r5⟩
theorem PlankAt.sbL{a:Ad}{G:Addr->Prop}{H H':Hp}{p cl:Addr}{w:Nat}{rows:List (List V)}{n:Nat}(P:PlankAt a H p cl w rows n)(s:SameBut G H H')(g:∀ x,G x->E8 (H x))(h:¬ G cl):PlankAt a H' p cl w rows n:=by
 obtain⟨⟨dx,e1⟩,⟨ts,e2,e3⟩,r1,r2,r3⟩:=P
 exact⟨⟨dx,s _ _ e1 λz=>(g _ z).2 _ _ _ e1⟩,⟨ts,s _ _ e2 h,Paired.mapP e3 λt r q=>s _ _ q λz=>(g _ z).1 _ q⟩,r1,r2,r3⟩
theorem BookAt.sb{a:Ad}{C:Addr}{G:Addr->Prop}{H H':Hp}{A:BA}{w:Nat}{rows:List (List V)}{n:Nat}{cs:List Ch}{outs:Int->Bool}(B:BookAt a C H A w rows n cs outs)(s:SameBut G H H')(g:∀ x,G x->E8 (H x))(f:∀ x,G x->¬ A.F x):BookAt a C H' A w rows n cs outs :=
 ⟨B.bk.sb s g f,B.pk.sbL s g λz=>f _ z (.inr (.inr (.inr (.inr (.inr rfl))))),B.nb⟩
theorem BookAt.same{a:Ad}{C:Addr}{H H':Hp}{A:BA}{w:Nat}{rows:List (List V)}{n:Nat}{cs:List Ch}{outs:Int->Bool}(B:BookAt a C H A w rows n cs outs)(s:Same H H'):BookAt a C H' A w rows n cs outs :=
 B.sb (G:=λ_=>False) (Same.sb s) (λ_ z=>z.elim) λ_ z=>z.elim
theorem BookAt.off{a:Ad}{C:Addr}{H:Hp}{A:BA}{w:Nat}{rows:List (List V)}{n:Nat}{cs:List Ch}{outs:Int->Bool}(B:BookAt a C H A w rows n cs outs){x:Addr}(h:H x=none):¬ A.F x:=by
 obtain⟨⟨_,⟨chs,e2,_⟩,e4,e5,_,⟨AD,e7,_⟩,⟨C6,e9,_⟩,_⟩,⟨_,⟨ts,e11,_⟩,_⟩,_⟩:=B
 rintro (z | z | z | z | z | z)
 ·rw[z,e2]at h;cases h
 ·rw[z,e4]at h;cases h
 ·obtain⟨i,hi,e⟩:=List.getElem_of_mem z
  have:=e5 i x (by rw[<-e];exact List.getElem?_eq_getElem hi)
  rw[this]at h;cases h
 ·rw[z,e7]at h;cases h
 ·rw[z,e9]at h;cases h
 ·rw[z,e11]at h;cases h
theorem fT{α :Type}{l:List α}{x: α}(h:x∈l):∃ i:Nat,l[i]? =some x:=by
 obtain⟨i,hi,e⟩:=List.getElem_of_mem h
 exact⟨i,by rw[<-e];exact List.getElem?_eq_getElem hi⟩
theorem QN{H:Hp}{x:Addr}{xs:List V}(h:H x=some (.lst xs)):E8 (H x):=by
 rw[h];exact⟨λ_ z=>(by cases z),λ_ _ _ z=>(by cases z)⟩
theorem fU{H:Hp}{x:Addr}{xs:List (AO × V)}(h:H x=some (.dK xs)):E8 (H x):=by
 rw[h];exact⟨λ_ z=>(by cases z),λ_ _ _ z=>(by cases z)⟩
theorem Kk{H:Hp}{x:Addr}{xs:List (List AO × V)}(h:H x=some (.dT xs)):E8 (H x):=by
 rw[h];exact⟨λ_ z=>(by cases z),λ_ _ _ z=>(by cases z)⟩
theorem BookAt.loose{a:Ad}{C:Addr}{H:Hp}{A:BA}{w:Nat}{rows:List (List V)}{n:Nat}{cs:List Ch}{outs:Int->Bool}(B:BookAt a C H A w rows n cs outs){x:Addr}(h:A.F x):E8 (H x):=by
 obtain⟨⟨_,⟨chs,e2,_⟩,e4,e5,_,⟨AD,e7,_⟩,⟨C6,e9,_⟩,_⟩,⟨_,⟨ts,e11,_⟩,_⟩,_⟩:=B
 rcases h with z | z | z | z | z | z
 ·exact QN (z ▸ e2)
 ·exact QN (z ▸ e4)
 ·obtain⟨i,e⟩:=fT z
  exact QN (e5 i x e)
 ·exact Kk (z ▸ e7)
 ·exact fU (z ▸ e9)
 ·exact QN (z ▸ e11)
structure JI(cs:List Ch)(outs:Int->Bool)(ns:List Int)(R:Int->Bool):Prop where
 all:∀ x∈ns,R x=true
 up:∀ (k:Nat) (c:Ch),cs[k]? =some c->outs k=false->R k=true->∀ y∈c.nd,R y=true
 only:∀ x,R x=true->x∈ns\/∃ (k:Nat) (c:Ch),cs[k]? =some c/\outs k=false/\R k=true/\x∈c.nd
theorem UZ{cs:List Ch}{outs:Int->Bool}{ns ms:List Int}{R S:Int->Bool}(hn:∀ (k:Nat) (c:Ch),cs[k]? =some c->∀ x∈c.nd,x<k)(h:∀ x∈ns,x∈ms)(hR:JI cs outs ns R)(hS:JI cs outs ms S):∀ (d:Nat) (x:Int),(cs.length:Int) - x<=d->R x=true->S x=true
 | 0,x,hd,hx=>by
  rcases hR.only x hx with z | ⟨k,c,e,_,_,hy⟩
  ·exact hS.all x (h x z)
  ·have:=hn k c e x hy
   have:=(List.getElem?_eq_some_iff.mp e).1
   omega
 | d+1,x,hd,hx=>by
  rcases hR.only x hx with z | ⟨k,c,e,ho,hk,hy⟩
  ·exact hS.all x (h x z)
  ·have:=hn k c e x hy
   exact hS.up k c e ho (UZ hn h hR hS d k (by omega) hk) x hy
theorem Kl{cs:List Ch}{outs:Int->Bool}{ns ms:List Int}{R S:Int->Bool}(hn:∀ (k:Nat) (c:Ch),cs[k]? =some c->∀ x∈c.nd,x<k)(h:∀ x,x∈ns↔x∈ms)(hR:JI cs outs ns R)(hS:JI cs outs ms S)(x:Int):R x=S x:=by
 rw[Bool.eq_iff_iff]
 exact⟨UZ hn (λy hy=>(h y).mp hy) hR hS ((cs.length:Int) - x).toNat x (by omega),UZ hn (λy hy=>(h y).mpr hy) hS hR ((cs.length:Int) - x).toNat x (by omega)⟩
end L2
namespace L2
def KA(nd:List Int)(there:Int->Bool):Option Int:=nd.find? λx=> !there x
theorem Km{nd:List Int}{there:Int->Bool}(h:∀ x∈nd,there x=true):KA nd there=none:=List.find?_eq_none.mpr λx hx=>by rw[h x hx];exact Bool.false_ne_true
structure Pass where
 out:List Nat
 held:List (Nat × Int)
 gone:Int->Bool
def DJ(cs:List Ch)(outs:Int->Bool)(s:Pass)(k:Nat):Pass :=
 if outs k || s.gone k then s else
  match (cs[k]?).bind λc=>KA c.nd λx=>outs x || s.gone x with
  | none=>⟨s.out++[k],s.held,λx=>s.gone x || x ==(k:Int)⟩
  | some l=>⟨s.out,s.held++[(k,l)],s.gone⟩
def outcome(cs:List Ch)(outs taken:Int->Bool)(b:Nat):Pass:=(EF cs b).foldl (DJ cs outs) ⟨[],[],taken⟩
def FQ(cs:List Ch)(outs:Int->Bool)(b:Nat):Int->Bool:=λx=>outs x || (outcome cs outs (λ_=>false) b).out.any λ(k:Nat)=>x ==(k:Int)
theorem fV{cs:List Ch}{outs:Int->Bool}:∀ (l:List Nat) (s:Pass),(l.foldl (DJ cs outs) s).out.length+(l.foldl (DJ cs outs) s).held.length<=s.out.length+s.held.length+l.length
 | [],s=>by simp
 | k::l,s=>by
  rw[List.foldl_cons]
  have h:=fV (cs:=cs) (outs:=outs) l (DJ cs outs s k)
  have h2:(DJ cs outs s k).out.length+(DJ cs outs s k).held.length<=s.out.length+s.held.length+1:=by
   unfold DJ
   split
   ·omega
   ·split<;>simp<;>omega
  simp only[List.length_cons]
  omega
theorem Kp{α β :Type}(f: β -> α -> β)(b: β){l:List α}{i:Nat}{x: α}(h:l[i]? =some x):(l.take (i+1)).foldl f b=f ((l.take i).foldl f b) x:=by
 obtain⟨hi,e⟩:=List.getElem?_eq_some_iff.mp h
 rw[<-e,<-List.take_append_getElem hi,List.foldl_append]
 rfl
theorem fW(b:Nat):∀ l:List Ch,GP l b=(List.range l.length).filter λ(k:Nat)=>(l.reverse[k]?).any λc=>c.blk == b
 | []=>rfl
 | c::r=>by
  have ih:=fW b r
  have e:(List.range r.length).filter (λ(k:Nat)=>((c::r).reverse[k]?).any λc=>c.blk == b)=GP r b:=by
   rw[ih]
   refine List.filter_congr λk hk=> ?_
   rw[List.reverse_cons,List.getElem?_append_left (by rw[List.length_reverse];exact List.mem_range.mp hk)]
  have e2:(c::r).reverse[r.length]? =some c:=by
   rw[List.reverse_cons,List.getElem?_append_right (by rw[List.length_reverse];exact Nat.le_refl _)]
   simp
  rw[List.length_cons,List.range_succ,List.filter_append,e]
  show(if c.blk=b then GP r b++[r.length]else GP r b)=_
  by_cases h:c.blk=b
  ·rw[if_pos h]
   simp[e2,h]
  ·rw[if_neg h]
   simp[e2,h]
theorem fX(cs:List Ch)(b:Nat):EF cs b=(List.range cs.length).filter λ(k:Nat)=>(cs[k]?).any λc=>c.blk == b:=by
 have:=fW b cs.reverse
 rw[List.reverse_reverse,List.length_reverse]at this
 exact this
theorem Kq(cs:List Ch)(b:Nat):(EF cs b).Pairwise (· <·):=by
 rw[fX]
 exact List.pairwise_lt_range.filter _
theorem Kv{cs:List Ch}{b k:Nat}:k∈EF cs b↔∃ c,cs[k]? =some c/\c.blk=b:=by
 rw[fX,List.mem_filter,List.mem_range]
 constructor
 ·rintro ⟨h,h2⟩
  rw[List.getElem?_eq_getElem h]at h2 ⊢
  exact⟨_,rfl,by simpa using h2⟩
 ·rintro ⟨c,e,rfl⟩
  exact⟨(List.getElem?_eq_some_iff.mp e).1,by rw[e];simp⟩
theorem Kw{cs:List Ch}{outs:Int->Bool}(s:Pass)(k:Nat):DJ cs outs s k=s\/(outs k=false/\DJ cs outs s k=⟨s.out++[k],s.held,λx=>s.gone x || x ==(k:Int)⟩)\/∃ l,DJ cs outs s k=⟨s.out,s.held++[(k,l)],s.gone⟩:=by
 unfold DJ
 split
 ·exact .inl rfl
 ·rename_i hc
  simp only[Bool.or_eq_true,not_or,Bool.not_eq_true]at hc
  split
  ·exact .inr (.inl ⟨hc.1,rfl⟩)
  ·exact .inr (.inr ⟨_,rfl⟩)
theorem QQ{cs:List Ch}{outs:Int->Bool}:∀ (l:List Nat) (s:Pass),∃ l',(l.foldl (DJ cs outs) s).out=s.out++l'/\l'.Sublist l/\(∀ k∈l',outs k=false)/\∀ x,(l.foldl (DJ cs outs) s).gone x=(s.gone x || l'.any λ(k:Nat)=>x ==(k:Int))
 | [],s=>⟨[],by simp,.slnil,by simp,by simp⟩
 | k::l,s=>by
  rw[List.foldl_cons]
  obtain⟨l',h1,h2,h3,h4⟩:=QQ (cs:=cs) (outs:=outs) l (DJ cs outs s k)
  rcases Kw (cs:=cs) (outs:=outs) s k with e | ⟨ho,e⟩ | ⟨l0,e⟩
  ·rw[e]at h1 h4 ⊢
   exact⟨l',h1,h2.cons _,h3,h4⟩
  ·rw[e]at h1 h4 ⊢
   refine⟨k::l',by rw[h1];simp,h2.cons_cons _,λx hx=> ?_,λx=> ?_⟩
   ·rcases List.mem_cons.mp hx with rfl | hx
    ·exact ho
    ·exact h3 x hx
   ·rw[h4,List.any_cons,Bool.or_assoc]
  ·rw[e]at h1 h4 ⊢
   exact⟨l',h1,h2.cons _,h3,h4⟩
theorem Kx{cs:List Ch}{outs:Int->Bool}{b:Nat}:(outcome cs outs (λ_=>false) b).out.Pairwise (· <·)/\(∀ k∈(outcome cs outs (λ_=>false) b).out,outs k=false/\k∈EF cs b)/\∀ x,(outcome cs outs (λ_=>false) b).gone x=(outcome cs outs (λ_=>false) b).out.any λ(k:Nat)=>x ==(k:Int):=by
 obtain⟨l',h1,h2,h3,h4⟩:=QQ (cs:=cs) (outs:=outs) (EF cs b) ⟨[],[],λ_=>false⟩
 have e:(outcome cs outs (λ_=>false) b).out=l':=by unfold outcome;rw[h1];rfl
 rw[e]
 exact⟨(Kq cs b).sublist h2,λk hk=>⟨h3 k hk,h2.subset hk⟩,λx=>by unfold outcome;rw[h4];simp⟩
def ToldAt(H:Hp)(t ol hl:Addr)(out:List Nat)(held:List (Nat × Int)):Prop:=H t=some (.tup [.ref ol,.ref hl])/\H ol=some (.lst (out.map λ(k:Nat)=>V.int k))/\∃ hs:List Addr,H hl=some (.lst (hs.map V.ref))/\Paired (λx (p:Nat × Int)=>H x=some (.tup [.int p.1,.int p.2])) hs held
theorem ToldAt.same{H H':Hp}{t ol hl:Addr}{out:List Nat}{held:List (Nat × Int)}(h:ToldAt H t ol hl out held)(s:Same H H'):ToldAt H' t ol hl out held:=by
 obtain⟨h1,h2,hs,h3,h4⟩:=h
 exact⟨s _ _ h1,s _ _ h2,hs,s _ _ h3,Paired.mapP h4 λx p e=>s _ _ e⟩
theorem ToldAt.sb{F:Addr->Prop}{H H':Hp}{t ol hl:Addr}{out:List Nat}{held:List (Nat × Int)}(h:ToldAt H t ol hl out held)(s:SameBut F H H')(n:∀ x,F x->∀ xs,H x≠some (.tup xs))(n1:¬ F ol)(n2:¬ F hl):ToldAt H' t ol hl out held:=by
 obtain⟨h1,h2,hs,h3,h4⟩:=h
 exact⟨s _ _ h1 λz=>n _ z _ h1,s _ _ h2 n1,hs,s _ _ h3 n2,Paired.mapP h4 λx p e=>s _ _ e λz=>n _ z _ e⟩
theorem Ky{cs:List Ch}{outs:Int->Bool}{b k:Nat}:FQ cs outs b k=true↔outs k=true\/k∈(outcome cs outs (λ_=>false) b).out:=by
 unfold FQ
 rw[Bool.or_eq_true,List.any_eq_true]
 constructor
 ·rintro (h | ⟨k',hk',e⟩)
  ·exact .inl h
  ·have e:(k:Int)=k':=by simpa using e
   have e:k=k':=by omega
   exact .inr (e ▸ hk')
 ·rintro (h | h)
  ·exact .inl h
  ·exact .inr ⟨k,h,by simp⟩
end L2
namespace L2
end L2
namespace L2
theorem QR{cs:List Ch}{outs tk:Int->Bool}:∀ (l:List Nat) (s s':Pass),s.out=s'.out->s.held=s'.held->(∀ x,s.gone x=(tk x || s'.gone x))->(l.foldl (DJ cs outs) s).out=(l.foldl (DJ cs λx=>outs x || tk x) s').out
 | [],s,s',h,_,_=>h
 | k::l,s,s',h1,h2,h3=>by
  rw[List.foldl_cons,List.foldl_cons]
  have ef:(λx=>outs x || s.gone x)=λx=>(outs x || tk x) || s'.gone x:=by funext x;rw[h3,Bool.or_assoc]
  have e0:(outs k || s.gone k)=((outs k || tk k) || s'.gone k):=congrFun ef k
  obtain⟨o,h,g⟩:=s
  obtain⟨o',h',g'⟩:=s'
  simp only at h1 h2 h3 ef e0
  subst h1;subst h2
  unfold DJ
  simp only[e0,ef]
  split
  ·exact QR l _ _ rfl rfl h3
  ·split
   ·exact QR l _ _ rfl rfl λx=>by simp only[h3,Bool.or_assoc]
   ·exact QR l _ _ rfl rfl h3
theorem Kz{cs:List Ch}{outs tk:Int->Bool}{b:Nat}:(outcome cs outs tk b).out=(outcome cs (λx=>outs x || tk x) (λ_=>false) b).out:=QR _ _ _ rfl rfl λx=>by simp
theorem Lb{cs:List Ch}{outs:Int->Bool}{k:Nat}{c:Ch}(ec:cs[k]? =some c)(ho:outs k=false)(hn:∀ x∈c.nd,outs x=true):FQ cs outs c.blk k=true:=by
 obtain⟨l1,l2,e⟩:=List.append_of_mem (Kv.mpr ⟨c,ec,rfl⟩)
 rw[Ky]
 refine .inr ?_
 unfold outcome
 rw[e,List.foldl_append,List.foldl_cons]
 obtain⟨l',h1,_,_,h4⟩:=QQ (cs:=cs) (outs:=outs) l1 ⟨[],[],λ_=>false⟩
 generalize List.foldl (DJ cs outs) ⟨[],[],λ_=>false⟩ l1=s at h1 h4
 have st:k∈(DJ cs outs s k).out:=by
  unfold DJ
  split
  ·rename_i h
   rw[ho,Bool.false_or,h4]at h
   obtain⟨y,hy,e⟩:∃ y,y∈l'/\(k:Int)=(y:Int):=by simpa using h
   rw[h1]
   have:y=k:=by omega
   exact List.mem_append_right _ (this ▸ hy)
  ·rw[ec,Option.bind_some,Km λx hx=>by rw[hn x hx,Bool.true_or]]
   simp
 obtain⟨l'',h5,_⟩:=QQ (cs:=cs) (outs:=outs) l2 (DJ cs outs s k)
 rw[h5]
 exact List.mem_append_left _ st
inductive HC(cs:List Ch):(Int->Bool)->List Nat->List Nat->Prop
 | nil {outs:Int->Bool}:HC cs outs [] []
 | cons {outs:Int->Bool} {k:Nat} {r row:List Nat} {c:Ch} (e:cs[k]? =some c) (h:HC cs (FQ cs outs c.blk) ((k::r).filter λ(x:Nat)=> !FQ cs outs c.blk x) row):HC cs outs (k::r) (c.blk::row)
abbrev EG(n:Nat)(outs R:Int->Bool):List Nat:=((List.range n).filter λ(k:Nat)=> !outs k).filter λ(k:Nat)=>R k
theorem Lc{cs:List Ch}{outs:Int->Bool}{b:Nat}{x:Int}(h:outs x=true):FQ cs outs b x=true:=by unfold FQ;rw[h,Bool.true_or]
theorem Ld(cs:List Ch)(n:Nat)(outs R:Int->Bool)(b:Nat):(EG n outs R).filter (λ(x:Nat)=> !FQ cs outs b x)=EG n (FQ cs outs b) R:=by
 simp only[EG,List.filter_filter]
 refine List.filter_congr λx _=> ?_
 cases h:outs x with
 | true=>rw[Lc h];simp
 | false=>cases R x<;>simp
theorem Lg(n:Nat)(outs R:Int->Bool):(EG n outs R).Pairwise (· <·):=(List.pairwise_lt_range.filter _).filter _
theorem QS{n:Nat}{outs R:Int->Bool}{k:Nat}:k∈EG n outs R↔k<n/\outs k=false/\R k=true:=by
 simp only[EG,List.mem_filter,List.mem_range]
 constructor
 ·rintro ⟨⟨h1,h2⟩,h3⟩;exact⟨h1,by simpa using h2,h3⟩
 ·rintro ⟨h1,h2,h3⟩;exact⟨⟨h1,by rw[h2];rfl⟩,h3⟩
theorem Lh{cs:List Ch}{outs R:Int->Bool}{k:Nat}{r:List Nat}{c:Ch}(hn:∀ (k:Nat) (c:Ch),cs[k]? =some c->∀ x∈c.nd,0<=x/\x<k)(up:∀ (k:Nat) (c:Ch),cs[k]? =some c->outs k=false->R k=true->∀ y∈c.nd,R y=true)(e:EG cs.length outs R=k::r)(ec:cs[k]? =some c):FQ cs outs c.blk k=true:=by
 have hk:=QS.mp (show k∈EG cs.length outs R by rw[e];exact List.mem_cons_self ..)
 refine Lb ec hk.2.1 λx hx=> ?_
 obtain⟨h1,h2⟩:=hn k c ec x hx
 cases ho:outs x with
 | true=>rfl
 | false =>
  exfalso
  obtain⟨y,rfl⟩:∃ y:Nat,x=y:=⟨x.toNat,by omega⟩
  have hy:y∈EG cs.length outs R:=QS.mpr ⟨by omega,ho,up k c ec hk.2.1 hk.2.2 y hx⟩
  have rise:=Lg cs.length outs R
  rw[e]at hy rise
  rcases List.mem_cons.mp hy with h | h
  ·omega
  ·have:=(List.pairwise_cons.mp rise).1 y h;omega
theorem Lj{l:List Nat}{p:Nat->Bool}{k:Nat}(h:k∈l)(hp:p k=false):(l.filter p).length<l.length:=by
 have:=List.length_filter_lt_length_iff_exists (l:=l) (p:=p)
 exact this.mpr ⟨k,h,by rw[hp];exact Bool.false_ne_true⟩
end L2
namespace L2
structure EH(K:W.Frag)(a:Ad):Prop where
 cl:Cls K (a "Layout")
 n1:NoAttr K (a "Layout") "name_blocks"
 n2:NoAttr K (a "Layout") "record_blocks"
 n3:NoAttr K (a "Layout") "piece_blocks"
 n4:NoAttr K (a "Layout") "width"
section
variable{n r c w:Int}
def lf(n r c w:Int):List (Str × V):=[("name_blocks",.int n),("record_blocks",.int r),("piece_blocks",.int c),("width",.int w)]
theorem QT:(lf n r c w).lookup ("name_blocks":Str)=some (V.int n):=by simp[lf]
theorem N4:(lf n r c w).lookup ("record_blocks":Str)=some (V.int r):=by
 simp[lf,List.lookup_cons,CM (a:="record_blocks") (b:="name_blocks") (by decide +kernel)]
theorem U0:(lf n r c w).lookup ("piece_blocks":Str)=some (V.int c):=by
 simp[lf,List.lookup_cons,CM (a:="piece_blocks") (b:="name_blocks") (by decide +kernel),CM (a:="piece_blocks") (b:="record_blocks") (by decide +kernel)]
theorem LV:(lf n r c w).lookup ("width":Str)=some (V.int w):=by
 simp[lf,List.lookup_cons,CM (a:="width") (b:="name_blocks") (by decide +kernel),CM (a:="width") (b:="record_blocks") (by decide +kernel),CM (a:="width") (b:="piece_blocks") (by decide +kernel)]
theorem C5{x:Str}(h:(FF x "name_blocks" || FF x "record_blocks" || FF x "piece_blocks" || FF x "width")=false):(lf n r c w).lookup x=none:=by
 simp only[Bool.or_eq_false_iff]at h
 obtain⟨⟨⟨h1,h2⟩,h3⟩,h4⟩:=h
 simp[lf,List.lookup_cons,CM h1,CM h2,CM h3,CM h4]
theorem Lk:A6 "width" (.int w) (A6 "piece_blocks" (.int c) (A6 "record_blocks" (.int r) (A6 "name_blocks" (.int n) [])))=lf n r c w:=by
 repeat (first | rw[HN] | rw[JG (by decide +kernel)])
 rfl
end
structure LayAt(a:Ad)(H:Hp)(p:Addr)(n r c w:Nat):Prop where
 ob:∃ dx,H p=some (.ins (a "Layout") dx (lf n r c w))
 hn:n<=100
 hr:r<=100
 hc:c<=100
 h1:1<=w
 hw:w<=100
theorem LayAt.same{a:Ad}{H H':Hp}{p:Addr}{n r c w:Nat}(L:LayAt a H p n r c w)(s:Same H H'):LayAt a H' p n r c w:=by
 obtain⟨⟨dx,e⟩,z1,z2,z3,z4,z5⟩:=L
 exact⟨⟨dx,s _ _ e⟩,z1,z2,z3,z4,z5⟩
theorem LayAt.sb{a:Ad}{F:Addr->Prop}{H H':Hp}{p:Addr}{n r c w:Nat}(L:LayAt a H p n r c w)(s:SameBut F H H')(f:¬ F p):LayAt a H' p n r c w:=by
 obtain⟨⟨dx,e⟩,z1,z2,z3,z4,z5⟩:=L
 exact⟨⟨dx,s _ _ e f⟩,z1,z2,z3,z4,z5⟩
def QU(K:W.Frag)(a:Ad):Sp:=λvs H Q _=>∃ (p dx:Addr) (n r c w:Nat),vs=[.ref p,.int n,.int r,.int c,.int w]/\EH K a/\H p=some (.ins (a "Layout") dx [])/\n<=100/\r<=100/\c<=100/\1<=w/\w<=100 ∧
 ∀ H',LayAt a H' p n r c w->SameBut (· =p) H H'->Q .non H'
def GQ(x y:Int)(Q:VK)(H:Hp):Prop:=∀ t,H t=none->Q (.ref t) (upd H t (.tup [.int x,.int y]))
def JJ(K:W.Frag)(a:Ad):Sp:=λvs H Q _=>∃ (p:Addr) (n r c w k:Nat) (b:Int),vs=[.ref p,.int b,.int k]/\EH K a/\LayAt a H p n r c w/\GQ (b+k / w) (k % w) Q H
def JK(K:W.Frag)(a:Ad):Sp:=λvs H Q _=>∃ (p:Addr) (n r c w k:Nat),vs=[.ref p,.int k]/\EH K a/\LayAt a H p n r c w/\GQ (0+k / w) (k % w) Q H
def JL(K:W.Frag)(a:Ad):Sp:=λvs H Q _=>∃ (p:Addr) (n r c w k:Nat),vs=[.ref p,.int k]/\EH K a/\LayAt a H p n r c w/\GQ (n+k / w) (k % w) Q H
def KB(K:W.Frag)(a:Ad):Sp:=λvs H Q _=>∃ (p:Addr) (n r c w k:Nat),vs=[.ref p,.int k]/\EH K a/\LayAt a H p n r c w/\GQ (n+r+k / w) (k % w) Q H
def LW(K:W.Frag)(a:Ad):Sp:=λvs H Q _=>∃ (p:Addr) (n r c w k:Nat),vs=[.ref p,.int k]/\EH K a/\LayAt a H p n r c w/\GQ (n+r+c+k / w) (k % w) Q H
def LX(K:W.Frag)(a:Ad):Sp:=λvs H Q _=>∃ (p:Addr) (n r c w k:Nat),vs=[.ref p,.int k]/\EH K a/\LayAt a H p n r c w/\GQ (n+r+c+r+k / w) (k % w) Q H
def LY(K:W.Frag)(a:Ad):Sp:=λvs H Q _=>∃ (p:Addr) (n r c w:Nat),vs=[.ref p]/\EH K a/\LayAt a H p n r c w/\Q (.int (n+r+c)) H
def QV(K:W.Frag)(a:Ad):Sp:=λvs H Q _=>∃ (p:Addr) (n r c w:Nat),vs=[.ref p]/\EH K a/\LayAt a H p n r c w/\Q (.int (n+r+c+r+c)) H
def KC(K:W.Frag)(a:Ad):Sp:=λvs H Q _=>∃ (p:Addr) (n r c w:Nat),vs=[.ref p]/\EH K a/\LayAt a H p n r c w/\∀ t,H t=none->Q (.ref t) (upd H t (.tup [.int (n * w),.int (r * w),.int (c * w)]))
def QW(K:W.Frag)(a:Ad):Sp:=λvs H Q _=>∃ (p:Addr) (n r c w:Nat),vs=[.ref p]/\EH K a/\ET K a/\LayAt a H p n r c w ∧
 ∀ x cl H',H x=none->H cl=none->PlankAt a H' x cl w (List.replicate (n+r+c+r+c) (List.replicate w .non)) 0->Same H H'->Q (.ref x) H'
end L2
namespace L2
inductive CV where
 | no
 | nm (z:Str) (k:Nat)
 | mk (i:Nat)
 | rc (m:Nat) (ps:List Nat)
 | tx (z:Str)
abbrev Md:=Nat->Nat->CV
def Md.put(M:Md)(kind k:Nat)(x:CV):Md:=λi j=>if i=kind/\j=k then x else M i j
structure AC where
 kind:Nat
 k:Nat
 x:CV
 nd:List Nat
def sh(M0:Md)(C:Nat->Bool):List AC->Md
 | []=>M0
 | a::r=>if C r.length then(sh M0 C r).put a.kind a.k a.x else sh M0 C r
abbrev CP(M0:Md)(as:List AC):Md:=sh M0 (λ_=>true) as
def HD(kind k:Nat):List AC->Option Nat
 | []=>none
 | a::r=>if a.kind=kind/\a.k=k then some r.length else HD kind k r
def F4(C:Nat->Bool):List AC->Prop
 | []=>True
 | a::r=>F4 C r/\(C r.length=true->(∀ y∈a.nd,C y=true)/\∀ j,HD a.kind a.k r=some j->C j=true)
section
variable{M0 S:Md}{C:Nat->Bool}{as:List AC}{kind k m0:Nat}{x:CV}
theorem C8:S.put kind k x kind k=x:=if_pos ⟨rfl,rfl⟩
theorem EI{i j:Nat}(h:i≠kind):S.put kind k x i j=S i j:=if_neg λz=>h z.1
theorem DT{i j:Nat}(h:j≠k):S.put kind k x i j=S i j:=if_neg λz=>h z.2
theorem Ll(h:∀ j,HD kind k as=some j->C j=true):sh M0 C as kind k=CP M0 as kind k:=by
 induction as with
 | nil=>rfl
 | cons a r ih =>
  unfold HD at h
  simp only[sh,if_true]
  by_cases e:a.kind=kind/\a.k=k
  ·rw[if_pos e]at h
   obtain⟨rfl,rfl⟩:=e
   rw[h _ rfl]
   simp only[if_true]
   rw[C8,C8]
  ·rw[if_neg e]at h
   have:=ih h
   have e':¬ (kind=a.kind/\k=a.k):=λz=>e ⟨z.1.symm,z.2.symm⟩
   unfold Md.put
   rw[if_neg e']
   by_cases c:C r.length=true
   ·rw[if_pos c,if_neg e'];exact this
   ·rw[if_neg c];exact this
theorem IG{a:AC}(h:F4 C (a::as))(c:C as.length=true):sh M0 C as a.kind a.k=CP M0 as a.kind a.k:=Ll (h.2 c).2
theorem EU{a:AC}:CP M0 (a::as)=(CP M0 as).put a.kind a.k a.x:=rfl
theorem DR{a:AC}(c:C as.length=true):sh M0 C (a::as)=(sh M0 C as).put a.kind a.k a.x:=if_pos c
theorem JM{a:AC}(c:¬ C as.length=true):sh M0 C (a::as)=sh M0 C as:=if_neg c
def FR:CV->Nat->Bool
 | .nm _ r',r=>r' == r
 | _,_=>false
def ld(m0:Nat)(S:Md)(r:Nat):Nat:=(List.range m0).countP λk=>FR (S 0 k) r
theorem QX{r:Nat}(h:kind≠0):ld m0 (S.put kind k x) r=ld m0 S r:=by
 unfold ld
 congr 1
 funext j
 rw[EI h.symm]
theorem U1{r:Nat}:∀ {m0:Nat},k<m0->ld m0 (S.put 0 k x) r+(if FR (S 0 k) r then 1 else 0)=ld m0 S r+(if FR x r then 1 else 0):=by
 intro m0
 unfold ld
 induction m0 with
 | zero=>intro h;omega
 | succ n ih =>
  intro h
  rw[List.range_succ,List.countP_append,List.countP_append]
  simp only[List.countP_cons,List.countP_nil,Nat.zero_add]
  by_cases e:k=n
  ·subst e
   have:(List.range k).countP (λj=>FR ((S.put 0 k x) 0 j) r)=(List.range k).countP (λj=>FR (S 0 j) r):=List.countP_congr λj hj=>by
    rw[DT (by have:=List.mem_range.mp hj;omega)]
   rw[this,C8]
   omega
  ·have:=ih (by omega)
   rw[DT (λz=>e z.symm)]
   omega
structure Snd(m0:Nat)(S:Md):Prop where
 nl:∀ k z r,k<m0->S 0 k=.nm z r->∃ m ps,S 3 r=.rc m ps
 ct:∀ r m ps,S 3 r=.rc m ps->ld m0 S r<=m
 mr:∀ r m ps,S 3 r=.rc m ps->S 1 r=.mk 1
 nd:∀ r m ps,S 3 r=.rc m ps->ps.Nodup
 pm:∀ r m ps,S 3 r=.rc m ps->∀ p∈ps,S 2 p=.mk 1/\∃ t,S 4 p=.tx t
 dj:∀ r r' m m' ps ps',r≠r'->S 3 r=.rc m ps->S 3 r'=.rc m' ps'->∀ p∈ps,p∉ps'
 un:∀ k k' z r r',k<m0->k'<m0->S 0 k=.nm z r->S 0 k'=.nm z r'->k=k'
theorem Snd.rmark(I:Snd m0 S){r i:Nat}(h:i=1\/∀ m ps,S 3 r≠.rc m ps):Snd m0 (S.put 1 r (.mk i)):=by
 refine⟨I.nl,λr' m ps e=>I.ct r' m ps e,λr' m ps e=> ?_,I.nd,I.pm,I.dj,I.un⟩
 have e:S 3 r'=.rc m ps:=e
 by_cases z:r'=r
 ·subst z
  rw[C8]
  rcases h with h | h
  ·rw[h]
  ·exact absurd e (h m ps)
 ·rw[DT z];exact I.mr r' m ps e
theorem Snd.pmark(I:Snd m0 S){p i:Nat}(h:i=1\/∀ r m ps,S 3 r=.rc m ps->p∉ps):Snd m0 (S.put 2 p (.mk i)):=by
 refine⟨I.nl,λr' m ps e=>I.ct r' m ps e,I.mr,I.nd,λr' m ps e q hq=>⟨?_,(I.pm r' m ps e q hq).2⟩,I.dj,I.un⟩
 have e:S 3 r'=.rc m ps:=e
 by_cases z:q=p
 ·subst z
  rw[C8]
  rcases h with h | h
  ·rw[h]
  ·exact absurd hq (h r' m ps e)
 ·rw[DT z];exact(I.pm r' m ps e q hq).1
theorem Snd.text(I:Snd m0 S){p:Nat}{t:Str}:Snd m0 (S.put 4 p (.tx t)):=by
 refine⟨I.nl,λr' m ps e=>I.ct r' m ps e,I.mr,I.nd,λr' m ps e q hq=>⟨(I.pm r' m ps e q hq).1,?_⟩,I.dj,I.un⟩
 by_cases z:q=p
 ·subst z;exact⟨t,C8⟩
 ·rw[DT z];exact(I.pm r' m ps e q hq).2
theorem Snd.gone(I:Snd m0 S)(hk:k<m0):Snd m0 (S.put 0 k .no):=by
 have at':∀ {j z r},(S.put 0 k .no) 0 j=.nm z r->S 0 j=.nm z r:=λ{j z r} e=>by
  by_cases h:j=k
  ·subst h;rw[C8]at e;cases e
  ·rw[DT h]at e;exact e
 refine⟨λj z r hj e=>I.nl j z r hj (at' e),λr m ps e=> ?_,I.mr,I.nd,I.pm,I.dj,λj j' z r r' h h' e e'=>I.un j j' z r r' h h' (at' e) (at' e')⟩
 have l:=U1 (S:=S) (x:=.no) (r:=r) hk
 have c:=I.ct r m ps e
 rw[show FR .no r=false from rfl]at l
 simp only[Bool.false_eq_true,if_false]at l
 omega
theorem Snd.fill(I:Snd m0 S)(hk:k<m0){z:Str}{r m:Nat}{ps:List Nat}(h3:S 3 r=.rc m ps)(hl:ld m0 S r+1<=m)(hz:∀ j r',j<m0->S 0 j≠.nm z r')(h0:∀ z r,S 0 k≠.nm z r):Snd m0 (S.put 0 k (.nm z r)):=by
 have at':∀ {j y q},(S.put 0 k (.nm z r)) 0 j=.nm y q->(j=k/\y=z/\q=r)\/(j≠k/\S 0 j=.nm y q):=λ{j y q} e=>by
  by_cases h:j=k
  ·subst h;rw[C8]at e;cases e;exact .inl ⟨rfl,rfl,rfl⟩
  ·rw[DT h]at e;exact .inr ⟨h,e⟩
 refine⟨λj y q hj e=> ?_,λq m' ps' e=> ?_,I.mr,I.nd,I.pm,I.dj,λj j' y q q' h h' e e'=> ?_⟩
 ·rcases at' e with⟨_,_,rfl⟩ | ⟨_,e⟩
  ·exact⟨m,ps,h3⟩
  ·exact I.nl j y q hj e
 ·have e:S 3 q=.rc m' ps':=e
  have l:=U1 (S:=S) (x:=.nm z r) (r:=q) hk
  have c:=I.ct q m' ps' e
  have n0:FR (S 0 k) q=false:=by
   cases e0:S 0 k with
   | nm y q'=>exact absurd e0 (h0 y q')
   | _=>rfl
  rw[n0]at l
  simp only[FR]at l
  by_cases z:r=q
  ·subst z
   rw[e]at h3;cases h3
   simp at l;omega
  ·simp[z]at l;omega
 ·rcases at' e with⟨e1,e2,_⟩ | ⟨e1,e2⟩<;>rcases at' e' with⟨f1,f2,_⟩ | ⟨f1,f2⟩
  ·rw[e1,f1]
  ·subst e2;exact absurd f2 (hz _ _ h')
  ·subst f2;exact absurd e2 (hz _ _ h)
  ·exact I.un j j' y q q' h h' e2 f2
theorem Snd.recd(I:Snd m0 S){r m':Nat}{ps':List Nat}(hl:ld m0 S r<=m')(hm:S 1 r=.mk 1)(hn:ps'.Nodup)(hp:∀ p∈ps',(S 2 p=.mk 1/\∃ t,S 4 p=.tx t)/\∀ q m ps,q≠r->S 3 q=.rc m ps->p∉ps):Snd m0 (S.put 3 r (.rc m' ps')):=by
 have at':∀ {q m ps},(S.put 3 r (.rc m' ps')) 3 q=.rc m ps->(q=r/\m=m'/\ps=ps')\/(q≠r/\S 3 q=.rc m ps):=λ{q m ps} e=>by
  by_cases h:q=r
  ·subst h;rw[C8]at e;cases e;exact .inl ⟨rfl,rfl,rfl⟩
  ·rw[DT h]at e;exact .inr ⟨h,e⟩
 refine⟨λj z q hj e=> ?_,λq m ps e=> ?_,λq m ps e=> ?_,λq m ps e=> ?_,λq m ps e p h=> ?_,λq q' m m1 ps ps1 ne e e' p h=> ?_,I.un⟩
 ·by_cases h:q=r
  ·subst h;exact⟨m',ps',C8⟩
  ·rw[DT h];exact I.nl j z q hj e
 ·rw[QX (by decide)]
  rcases at' e with⟨rfl,rfl,_⟩ | ⟨_,e⟩
  ·exact hl
  ·exact I.ct q m ps e
 ·rcases at' e with⟨rfl,_,_⟩ | ⟨_,e⟩
  ·exact hm
  ·exact I.mr q m ps e
 ·rcases at' e with⟨_,_,rfl⟩ | ⟨_,e⟩
  ·exact hn
  ·exact I.nd q m ps e
 ·rcases at' e with⟨_,_,rfl⟩ | ⟨_,e⟩
  ·exact(hp p h).1
  ·exact I.pm q m ps e p h
 ·rcases at' e with⟨e1,_,rfl⟩ | ⟨e1,e2⟩<;>rcases at' e' with⟨f1,_,rfl⟩ | ⟨f1,f2⟩
  ·exact absurd (e1.trans f1.symm) ne
  ·exact(hp p h).2 q' m1 ps1 (λz=>ne (e1.trans z.symm)) f2
  ·exact λz=>(hp p z).2 q m ps (λy=>ne (y.trans f1.symm)) e2 h
  ·exact I.dj q q' m m1 ps ps1 ne e2 f2 p h
theorem Snd.count(I:Snd m0 S){r m m':Nat}{ps:List Nat}(h3:S 3 r=.rc m ps)(hl:ld m0 S r<=m'):Snd m0 (S.put 3 r (.rc m' ps)) :=
 I.recd hl (I.mr r m ps h3) (I.nd r m ps h3) λp hp=>⟨I.pm r m ps h3 p hp,λq m1 ps1 ne e=>I.dj r q m m1 ps ps1 ne.symm h3 e p hp⟩
theorem Snd.less(I:Snd m0 S){r m:Nat}{ps ps':List Nat}(h3:S 3 r=.rc m ps)(hs:ps'.Sublist ps):Snd m0 (S.put 3 r (.rc m ps')) :=
 I.recd (I.ct r m ps h3) (I.mr r m ps h3) ((I.nd r m ps h3).sublist hs) λp hp=>⟨I.pm r m ps h3 p (hs.subset hp),λq m1 ps1 ne e=>I.dj r q m m1 ps ps1 ne.symm h3 e p (hs.subset hp)⟩
theorem Snd.more(I:Snd m0 S){r m p:Nat}{ps:List Nat}{t:Str}(h3:S 3 r=.rc m ps)(h2:S 2 p=.mk 1)(h4:S 4 p=.tx t)(hu:∀ q m ps,S 3 q=.rc m ps->p∉ps):Snd m0 (S.put 3 r (.rc m (ps++[p]))):=by
 refine I.recd (I.ct r m ps h3) (I.mr r m ps h3) (List.nodup_append.mpr ⟨I.nd r m ps h3,by simp,λx hx y hy e=> ?_⟩) λy hy=> ?_
 ·rw[List.mem_singleton]at hy;subst hy;subst e;exact hu r m ps h3 hx
 ·rcases List.mem_append.mp hy with hy | hy
  ·exact⟨I.pm r m ps h3 y hy,λq m1 ps1 ne e=>I.dj r q m m1 ps ps1 ne.symm h3 e y hy⟩
  ·rw[List.mem_singleton.mp hy];exact⟨⟨h2,t,h4⟩,λq m1 ps1 _ e=>hu q m1 ps1 e⟩
theorem Snd.drop(I:Snd m0 S){r:Nat}(hl:ld m0 S r=0):Snd m0 (S.put 3 r .no):=by
 have at':∀ {q m ps},(S.put 3 r .no) 3 q=.rc m ps->S 3 q=.rc m ps:=λ{q m ps} e=>by
  by_cases h:q=r
  ·subst h;rw[C8]at e;cases e
  ·rw[DT h]at e;exact e
 refine⟨λj z q hj e=> ?_,λq m ps e=> ?_,λq m ps e=>I.mr q m ps (at' e),λq m ps e=>I.nd q m ps (at' e),λq m ps e=>I.pm q m ps (at' e),λq q' m m1 ps ps1 ne e e'=>I.dj q q' m m1 ps ps1 ne (at' e) (at' e'),I.un⟩
 ·have e:S 0 j=.nm z q:=e
  by_cases h:q=r
  ·subst h
   exfalso
   have:0<ld m0 S q:=List.countP_pos_iff.mpr ⟨j,List.mem_range.mpr hj,by have e:S 0 j=.nm z q:=e;simp[e,FR]⟩
   omega
  ·rw[DT h];exact I.nl j z q hj e
 ·rw[QX (by decide)];exact I.ct q m ps (at' e)
structure Hist(m0:Nat)(M0:Md)(as:List AC)(t o:Str->Option Nat):Prop where
 sd:∀ C,F4 C as->Snd m0 (sh M0 C as)
 k1:∀ z k r,k<m0->CP M0 as 0 k=.nm z r->HD 0 k as=o z
 k2:∀ z,(∀ k r,k<m0->CP M0 as 0 k≠.nm z r)->t z=o z
 k3:∀ C z,F4 C as->(∀ j,o z=some j->C j=true)->∀ k r,k<m0->(sh M0 C as 0 k=.nm z r↔CP M0 as 0 k=.nm z r)
theorem fY:∀ as:List AC,F4 (λ_=>true) as
 | []=>trivial
 | _::r=>⟨fY r,λ_=>⟨λ_ _=>rfl,λ_ _=>rfl⟩⟩
variable{t o:Str->Option Nat}
theorem Hist.now(I:Hist m0 M0 as t o):Snd m0 (CP M0 as):=I.sd _ (fY as)
theorem Hist.step(I:Hist m0 M0 as t o){a:AC}(ha:a.kind≠0)(h:∀ C,F4 C (a::as)->C as.length=true->Snd m0 ((sh M0 C as).put a.kind a.k a.x)):Hist m0 M0 (a::as) t o:=by
 have s0:∀ (C:Nat->Bool) (k:Nat),sh M0 C (a::as) 0 k=sh M0 C as 0 k:=λC k=>by
  by_cases c:C as.length=true
  ·rw[DR c,EI ha.symm]
  ·rw[JM c]
 have s1:∀ k:Nat,CP M0 (a::as) 0 k=CP M0 as 0 k:=s0 _
 refine⟨λC hC=> ?_,λz k r hk e=> ?_,λz e=>I.k2 z λk r hk=>by rw[<-s1];exact e k r hk,λC z hC ho k r hk=> ?_⟩
 ·by_cases c:C as.length=true
  ·rw[DR c];exact h C hC c
  ·rw[JM c];exact I.sd C hC.1
 ·rw[s1]at e
  unfold HD
  rw[if_neg λz=>ha z.1]
  exact I.k1 z k r hk e
 ·rw[s0,s1];exact I.k3 C z hC.1 ho k r hk
def FS(f:Str->Option Nat)(z:Str)(j:Nat):Str->Option Nat:=λy=>if y=z then some j else f y
theorem Hist.fill(I:Hist m0 M0 as t o){z:Str}{k r:Nat}{nd:List Nat}(hk:k<m0)(h0:CP M0 as 0 k=.no)(hz:∀ j r,j<m0->CP M0 as 0 j≠.nm z r)(ht:∀ j,t z=some j->j∈nd)
  (h:∀ C,F4 C (⟨0,k,.nm z r,nd⟩::as)->C as.length=true->∃ m ps,sh M0 C as 3 r=.rc m ps/\ld m0 (sh M0 C as) r+1<=m):Hist m0 M0 (⟨0,k,.nm z r,nd⟩::as) t (FS o z as.length):=by
 have to:=I.k2 z hz
 have hnk:∀ {j y q},j<m0->CP M0 as 0 j=.nm y q->j≠k/\y≠z:=λ{j y q} hj e=>⟨λe'=>(by rw[e',h0]at e;cases e),λe'=>hz j q hj (e' ▸ e)⟩
 have free:∀ C,F4 C (⟨0,k,.nm z r,nd⟩::as)->C as.length=true->sh M0 C as 0 k=.no/\∀ j q,j<m0->sh M0 C as 0 j≠.nm z q:=λC hC c=>by
  refine⟨by rw[IG (a:=⟨0,k,.nm z r,nd⟩) hC c];exact h0,λj q hj e=> ?_⟩
  exact hz j q hj ((I.k3 C z hC.1 (λi ei=>(hC.2 c).1 i (ht i (by rw[to,ei]))) j q hj).mp e)
 refine⟨λC hC=> ?_,λy j q hj e=> ?_,λy e=> ?_,λC y hC ho j q hj=> ?_⟩
 ·by_cases c:C as.length=true
  ·obtain⟨m,ps,h3,hl⟩:=h C hC c
   obtain⟨f1,f2⟩:=free C hC c
   rw[DR c]
   exact(I.sd C hC.1).fill hk h3 hl f2 λz r e=>by rw[f1]at e;cases e
  ·rw[JM c];exact I.sd C hC.1
 ·rw[EU]at e
  unfold HD
  by_cases z':j=k
  ·subst z'
   rw[C8]at e;cases e
   rw[if_pos ⟨rfl,rfl⟩]
   exact(if_pos rfl).symm
  ·rw[DT z']at e
   rw[if_neg λw=>z' w.2.symm]
   unfold FS
   rw[if_neg (hnk hj e).2]
   exact I.k1 y j q hj e
 ·have ny:y≠z:=λw=>by
   subst w
   exact e k r hk (by rw[EU,C8])
  unfold FS
  rw[if_neg ny]
  refine I.k2 y λj q hj e'=>e j q hj ?_
  rw[EU,DT (hnk hj e').1];exact e'
 ·rw[EU]
  by_cases c:C as.length=true
  ·obtain⟨f1,f2⟩:=free C hC c
   rw[DR c]
   by_cases z':j=k
   ·subst z';rw[C8,C8]
   ·rw[DT z',DT z']
    by_cases w:y=z
    ·subst w
     exact⟨λe=>absurd e (f2 j q hj),λe=>absurd e (hz j q hj)⟩
    ·unfold FS at ho
     rw[if_neg w]at ho
     exact I.k3 C y hC.1 ho j q hj
  ·rw[JM c]
   unfold FS at ho
   by_cases w:y=z
   ·subst w
    rw[if_pos rfl]at ho
    exact absurd (ho _ rfl) c
   ·rw[if_neg w]at ho
    have k3:=I.k3 C y hC.1 ho j q hj
    by_cases z':j=k
    ·subst z'
     rw[C8]
     refine⟨λe=> ?_,λe=>absurd (by cases e;rfl) w⟩
     have:=k3.mp e
     rw[h0]at this;cases this
    ·rw[DT z'];exact k3
theorem Hist.gone(I:Hist m0 M0 as t o){z:Str}{k r:Nat}{nd:List Nat}(hk:k<m0)(h0:CP M0 as 0 k=.nm z r):Hist m0 M0 (⟨0,k,.no,nd⟩::as) (FS t z as.length) (FS o z as.length):=by
 have un:=I.now.un
 have k1:=I.k1 z k r hk h0
 have only:∀ {j q},j<m0->CP M0 as 0 j=.nm z q->j=k:=λ{j q} hj e=>un j k z q r hj hk e h0
 refine⟨λC hC=> ?_,λy j q hj e=> ?_,λy e=> ?_,λC y hC ho j q hj=> ?_⟩
 ·by_cases c:C as.length=true
  ·rw[DR c];exact(I.sd C hC.1).gone hk
  ·rw[JM c];exact I.sd C hC.1
 ·rw[EU]at e
  by_cases z':j=k
  ·subst z';rw[C8]at e;cases e
  ·rw[DT z']at e
   unfold HD FS
   rw[if_neg λw=>z' w.2.symm,if_neg λw=>z' (only hj (w ▸ e))]
   exact I.k1 y j q hj e
 ·unfold FS
  by_cases w:y=z
  ·rw[if_pos w,if_pos w]
  ·rw[if_neg w,if_neg w]
   refine I.k2 y λj q hj e'=>e j q hj ?_
   have:j≠k:=λz'=>by rw[z',h0]at e';cases e';exact w rfl
   rw[EU,DT this];exact e'
 ·rw[EU]
  unfold FS at ho
  by_cases c:C as.length=true
  ·rw[DR c]
   have ck:sh M0 C as 0 k=.nm z r:=by rw[IG (a:=⟨0,k,.no,nd⟩) hC c];exact h0
   by_cases z':j=k
   ·subst z';rw[C8,C8]
   ·rw[DT z',DT z']
    by_cases w:y=z
    ·subst w
     exact⟨λe=>absurd ((I.sd C hC.1).un j k y q r hj hk e ck) z',λe=>absurd (only hj e) z'⟩
    ·rw[if_neg w]at ho;exact I.k3 C y hC.1 ho j q hj
  ·rw[JM c]
   by_cases w:y=z
   ·subst w
    rw[if_pos rfl]at ho
    exact absurd (ho _ rfl) c
   ·rw[if_neg w]at ho
    have k3:=I.k3 C y hC.1 ho j q hj
    by_cases z':j=k
    ·subst z'
     rw[C8]
     refine⟨λe=> ?_,λe=>by cases e⟩
     have:=k3.mp e
     rw[h0]at this;cases this;exact absurd rfl w
    ·rw[DT z'];exact k3
theorem Snd.ld0(I:Snd m0 S){r:Nat}(h:∀ m ps,S 3 r≠.rc m ps):ld m0 S r=0:=by
 refine List.countP_eq_zero.mpr λk hk e=> ?_
 cases e0:S 0 k with
 | nm z q =>
  simp only[e0,FR,beq_iff_eq]at e
  subst e
  obtain⟨m,ps,e⟩:=I.nl k z q (List.mem_range.mp hk) e0
  exact h m ps e
 | _=>simp[e0,FR]at e
theorem Hist.make(I:Hist m0 M0 as t o){z:Str}{k r:Nat}{nd:List Nat}(hk:k<m0)(h0:CP M0 as 0 k=.no)(hz:∀ j r,j<m0->CP M0 as 0 j≠.nm z r)(h1:CP M0 as 1 r≠.mk 1)(hn:as.length+1∈nd)(ht:∀ j,t z=some j->j∈nd) :
  Hist m0 M0 (⟨0,k,.nm z r,nd⟩::⟨3,r,.rc 1 [],[as.length]⟩::⟨1,r,.mk 1,[]⟩::as) t (FS o z (as.length+2)):=by
 have I1:=I.step (a:=⟨1,r,.mk 1,[]⟩) (by simp) λC hC _=>(I.sd C hC.1).rmark (.inl rfl)
 have no:∀ C,F4 C (⟨3,r,.rc 1 [],[as.length]⟩::⟨1,r,.mk 1,[]⟩::as)->C (as.length+1)=true->ld m0 (sh M0 C (⟨1,r,.mk 1,[]⟩::as)) r=0:=λC hC c=>by
  refine(I1.sd C hC.1).ld0 λm ps e=> ?_
  rw[IG (a:=⟨3,r,.rc 1 [],[as.length]⟩) hC c,EU,EI (by simp)]at e
  exact h1 (I.now.mr r m ps e)
 have I2:=I1.step (a:=⟨3,r,.rc 1 [],[as.length]⟩) (by simp) λC hC c=>by
  have cL:C as.length=true:=(hC.2 c).1 _ (by simp)
  refine(I1.sd C hC.1).recd (by rw[no C hC c];omega) ?_ List.nodup_nil (by simp)
  rw[DR cL,C8]
 refine I2.fill hk (by rw[EU,EI (by simp),EU,EI (by simp)];exact h0) (λj q hj=>by rw[EU,EI (by simp),EU,EI (by simp)];exact hz j q hj) ht λC hC c=> ?_
 have cL:C (as.length+1)=true:=(hC.2 c).1 _ hn
 refine⟨1,[],by rw[DR cL,C8],?_⟩
 rw[DR cL,QX (by simp),no C hC.1 cL]
 exact Nat.le_refl 1
theorem Hist.link(I:Hist m0 M0 as t o){z:Str}{k r m:Nat}{ps nd:List Nat}(hk:k<m0)(h0:CP M0 as 0 k=.no)(hz:∀ j r,j<m0->CP M0 as 0 j≠.nm z r)(h3:CP M0 as 3 r=.rc m ps)(hn:as.length∈nd)(ht:∀ j,t z=some j->j∈nd) :
  Hist m0 M0 (⟨0,k,.nm z r,nd⟩::⟨3,r,.rc (m+1) ps,[]⟩::as) t (FS o z (as.length+1)):=by
 have a3:∀ C,F4 C (⟨3,r,.rc (m+1) ps,[]⟩::as)->C as.length=true->sh M0 C as 3 r=.rc m ps:=λC hC c=>by
  rw[IG (a:=⟨3,r,.rc (m+1) ps,[]⟩) hC c];exact h3
 have I1:=I.step (a:=⟨3,r,.rc (m+1) ps,[]⟩) (by simp) λC hC c=>(I.sd C hC.1).count (a3 C hC c) (Nat.le_succ_of_le ((I.sd C hC.1).ct r m ps (a3 C hC c)))
 refine I1.fill hk (by rw[EU,EI (by simp)];exact h0) (λj q hj=>by rw[EU,EI (by simp)];exact hz j q hj) ht λC hC c=> ?_
 have cL:C as.length=true:=(hC.2 c).1 _ hn
 refine⟨m+1,ps,by rw[DR cL,C8],?_⟩
 rw[DR cL,QX (by simp)]
 exact Nat.succ_le_succ ((I.sd C hC.1.1).ct r m ps (a3 C hC.1 cL))
theorem Hist.fewer(I:Hist m0 M0 as t o){z:Str}{k r m:Nat}{ps nd:List Nat}{b:AC}(hk:k<m0)(h0:CP M0 as 0 k=.nm z r)(h3:CP M0 as 3 r=.rc m ps)(hb:b.kind=3/\b.k=r/\as.length∈b.nd){C:Nat->Bool}(hC:F4 C (b::⟨0,k,.no,nd⟩::as))(c:C (as.length+1)=true) :
  sh M0 C (⟨0,k,.no,nd⟩::as) 3 r=.rc m ps/\ld m0 (sh M0 C (⟨0,k,.no,nd⟩::as)) r+1<=m/\sh M0 C as 3 r=.rc m ps:=by
 obtain⟨b1,b2,b3⟩:=hb
 have cL:C as.length=true:=(hC.2 c).1 _ b3
 have e3:sh M0 C (⟨0,k,.no,nd⟩::as) 3 r=.rc m ps:=by
  have:=IG (M0:=M0) hC c
  rw[b1,b2]at this
  rw[this,EU,EI (by simp)];exact h3
 have f3:sh M0 C as 3 r=.rc m ps:=by
  rw[DR cL,EI (by simp)]at e3;exact e3
 have f0:sh M0 C as 0 k=.nm z r:=by rw[IG (a:=⟨0,k,.no,nd⟩) hC.1 cL];exact h0
 refine⟨e3,?_,f3⟩
 have l:=U1 (S:=sh M0 C as) (x:=.no) (r:=r) hk
 rw[f0,show FR (.nm z r) r=true from by simp[FR],show FR .no r=false from rfl]at l
 simp only[Bool.false_eq_true,if_false,if_true]at l
 have c1:=(I.sd C hC.1.1).ct r m ps f3
 have e:ld m0 (sh M0 C (⟨0,k,.no,nd⟩::as)) r=ld m0 ((sh M0 C as).put 0 k .no) r:=by rw[DR cL]
 omega
theorem Hist.unmark{d:Nat}:∀ {ps:List Nat} {bs:List AC},Hist m0 M0 bs t o->(∀ C,F4 C bs->C d=true->∀ q m ps',sh M0 C bs 3 q=.rc m ps'->∀ p∈ps,p∉ps')->Hist m0 M0 ((ps.map λp=>(⟨2,p,.mk 0,[d]⟩:AC)).reverse++bs) t o
 | [],bs,I,_=>I
 | p::ps,bs,I,h=>by
  have I1:=I.step (a:=⟨2,p,.mk 0,[d]⟩) (by simp) λC hC c=>(I.sd C hC.1).pmark (.inr λr m ps' e=>h C hC.1 ((hC.2 c).1 d (by simp)) r m ps' e p List.mem_cons_self)
  have:=Hist.unmark (ps:=ps) I1 λC hC cd q m ps' e p' hp'=>by
   have e':sh M0 C bs 3 q=.rc m ps':=by
    by_cases c:C bs.length=true
    ·rw[DR c,EI (by simp)]at e;exact e
    ·rw[JM c]at e;exact e
   exact h C hC.1 cd q m ps' e' p' (List.mem_cons_of_mem _ hp')
  rw[List.map_cons,List.reverse_cons,List.append_assoc]
  exact this
theorem Lm{cs:List AC}{i j:Nat}(h:∀ a∈cs,a.kind≠i):sh M0 C (cs++as) i j=sh M0 C as i j:=by
 induction cs with
 | nil=>rfl
 | cons a r ih =>
  have ih:=ih λb hb=>h b (List.mem_cons_of_mem _ hb)
  rw[List.cons_append]
  by_cases c:C (r++as).length=true
  ·rw[DR c,EI (h a List.mem_cons_self).symm];exact ih
  ·rw[JM c];exact ih
theorem Hist.dropped(I:Hist m0 M0 as t o){z:Str}{k r m:Nat}{ps nd:List Nat}(hk:k<m0)(h0:CP M0 as 0 k=.nm z r)(h3:CP M0 as 3 r=.rc m ps)(hm:m<=1) :
  Hist m0 M0 (⟨1,r,.mk 0,[as.length+1]⟩::((ps.map λp=>(⟨2,p,.mk 0,[as.length+1]⟩:AC)).reverse++⟨3,r,.no,[as.length]⟩::⟨0,k,.no,nd⟩::as)) (FS t z as.length) (FS o z as.length):=by
 have I1:=I.gone (nd:=nd) hk h0
 have I2:=I1.step (a:=⟨3,r,.no,[as.length]⟩) (by simp) λC hC c=>by
  obtain⟨e1,e2,_⟩:=I.fewer hk h0 h3 ⟨rfl,rfl,by simp⟩ hC c
  exact(I1.sd C hC.1).drop (Nat.le_zero.mp (Nat.le_of_succ_le_succ (Nat.le_trans e2 hm)))
 have I3:=Hist.unmark (d:=as.length+1) (ps:=ps) I2 λC hC cd q m' ps' e p hp=>by
  obtain⟨_,_,f3⟩:=I.fewer hk h0 h3 ⟨rfl,rfl,by simp⟩ hC cd
  have cL:C as.length=true:=(hC.2 cd).1 _ (by simp)
  rw[DR cd]at e
  by_cases z:q=r
  ·subst z;rw[C8]at e;cases e
  ·rw[DT z,DR cL,EI (by simp)]at e
   exact(I.sd C hC.1.1).dj r q m m' ps ps' (λy=>z y.symm) f3 e p hp
 refine I3.step (a:=⟨1,r,.mk 0,[as.length+1]⟩) (by simp) λC hC c=>(I3.sd C hC.1).rmark (.inr λm' ps' e=> ?_)
 have cd:C (as.length+1)=true:=(hC.2 c).1 _ (by simp)
 rw[Lm (λa ha=>by
  obtain⟨p,_,rfl⟩:=List.mem_map.mp (List.mem_reverse.mp ha)
  simp),DR cd,C8]at e
 cases e
theorem Hist.put(I:Hist m0 M0 as t o){r m p:Nat}{ps:List Nat}{x:Str}(h2:CP M0 as 2 p≠.mk 1)(h3:CP M0 as 3 r=.rc m ps) :
  Hist m0 M0 (⟨3,r,.rc m (ps++[p]),[as.length+1]⟩::⟨4,p,.tx x,[as.length]⟩::⟨2,p,.mk 1,[]⟩::as) t o:=by
 have I1:=I.step (a:=⟨2,p,.mk 1,[]⟩) (by simp) λC hC _=>(I.sd C hC.1).pmark (.inl rfl)
 have I2:=I1.step (a:=⟨4,p,.tx x,[as.length]⟩) (by simp) λC hC _=>(I1.sd C hC.1).text
 refine I2.step (a:=⟨3,r,.rc m (ps++[p]),[as.length+1]⟩) (by simp) λC hC c=> ?_
 have c1:C (as.length+1)=true:=(hC.2 c).1 _ (by simp)
 have c0:C as.length=true:=(hC.1.2 c1).1 _ (by simp)
 refine(I2.sd C hC.1).more (t:=x) ?_ ?_ ?_ λq m' ps' e hp=> ?_
 ·rw[IG (a:=⟨3,r,.rc m (ps++[p]),[as.length+1]⟩) hC c,EU,EI (by simp),EU,EI (by simp)];exact h3
 ·rw[DR c1,EI (by simp),DR c0,C8]
 ·rw[DR c1,C8]
 ·rw[DR c1,EI (by simp),DR c0,EI (by simp)]at e
  have:=((I.sd C hC.1.1.1).pm q m' ps' e p hp).1
  rw[IG (a:=⟨2,p,.mk 1,[]⟩) hC.1.1 c0]at this
  exact h2 this
theorem Hist.take(I:Hist m0 M0 as t o){r m p i:Nat}{ps:List Nat}(h3:CP M0 as 3 r=.rc m ps)(hi:ps[i]? =some p) :
  Hist m0 M0 (⟨2,p,.mk 0,[as.length]⟩::⟨3,r,.rc m (ps.eraseIdx i),[]⟩::as) t o:=by
 have a3:∀ C,F4 C (⟨3,r,.rc m (ps.eraseIdx i),[]⟩::as)->C as.length=true->sh M0 C as 3 r=.rc m ps:=λC hC c=>by
  rw[IG (a:=⟨3,r,.rc m (ps.eraseIdx i),[]⟩) hC c];exact h3
 have I1:=I.step (a:=⟨3,r,.rc m (ps.eraseIdx i),[]⟩) (by simp) λC hC c=>(I.sd C hC.1).less (a3 C hC c) (List.eraseIdx_sublist ..)
 refine I1.step (a:=⟨2,p,.mk 0,[as.length]⟩) (by simp) λC hC c=>(I1.sd C hC.1).pmark (.inr λq m' ps' e=> ?_)
 have c0:C as.length=true:=(hC.2 c).1 _ (by simp)
 have e3:=a3 C hC.1 c0
 rw[DR c0]at e
 by_cases z:q=r
 ·subst z
  rw[C8]at e
  cases e
  have nd:=(I.sd C hC.1.1).nd q m ps e3
  exact λh=>by
   have hl:=(List.getElem?_eq_some_iff.mp hi).1
   obtain⟨j,hj,ej⟩:=List.mem_eraseIdx_iff_getElem?.mp h
   exact hj ((List.getElem?_inj hl nd).mp (hi.trans ej.symm)).symm
 ·rw[DT z]at e
  exact(I.sd C hC.1.1).dj r q m m' ps ps' (λy=>z y.symm) e3 e p (List.mem_of_getElem? hi)
end
end L2
namespace L2
open PySem PySem.Spec PyProof.Rows PySem.Builtin PySem.Builtin.Str
def CG:List Nat->List (List Nat)
 | []=>[[]]
 | c::r=>if c=32 then []::CG r else match CG r with
  | w::ws=>(c::w)::ws
  | []=>[[c]]
def HP:List (List Nat)->List Nat
 | []=>[]
 | [p]=>p
 | p::q::r=>p++32::HP (q::r)
theorem HE{r:List Nat}:∀ {p:List Nat},32∉p->CG (p++32::r)=p::CG r
 | [],_=>rfl
 | c::p,h=>by
  have hc:c≠32:=λe=>h (e ▸ List.mem_cons_self)
  rw[List.cons_append,CG,if_neg hc,HE λz=>h (List.mem_cons_of_mem _ z)]
theorem LZ:∀ {p:List Nat},32∉p->CG p=[p]
 | [],_=>rfl
 | c::p,h=>by
  have hc:c≠32:=λe=>h (e ▸ List.mem_cons_self)
  unfold CG
  rw[if_neg hc,LZ λz=>h (List.mem_cons_of_mem _ z)]
theorem fZ:∀ {ps:List (List Nat)},ps≠[]->(∀ p∈ps,32∉p)->CG (HP ps)=ps
 | [],h,_=>(h rfl).elim
 | [p],_,h=>LZ (h p List.mem_cons_self)
 | p::q::r,_,h=>by
  show CG (p++32::HP (q::r))=_
  rw[HE (h p List.mem_cons_self),fZ (by simp) λx hx=>h x (List.mem_cons_of_mem _ hx)]
abbrev BL(l:List Nat):Str:=⟨l.toArray⟩
theorem U2:∀ (ps:List Str),(Str.join ⟨#[32]⟩ ps).cps.toList=HP (ps.map (·.cps.toList))
 | []=>rfl
 | [p]=>rfl
 | p::q::r=>by
  show((p++(⟨#[32]⟩:Str)++Str.join ⟨#[32]⟩ (q::r)).cps).toList=p.cps.toList++32::HP ((q::r).map (·.cps.toList))
  rw[<-U2 (q::r)]
  show((p.cps++ #[32])++(Str.join ⟨#[32]⟩ (q::r)).cps).toList=_
  simp
theorem F5(x:Str):BL x.cps.toList=x:=by cases x;rfl
theorem U3:(" ":Str)=⟨#[32]⟩:=by decide +kernel
theorem f7(x:Str):Txt.split x ⟨#[32]⟩≠[]:=λe=>by have:=split_pos x ⟨#[32]⟩;rw[e]at this;simp at this
theorem U4(x:Str):Txt.split x " "=(CG x.cps.toList).map BL:=by
 rw[U3]
 have h1:=StrLaws.join_split x ⟨#[32]⟩
 have h2:=StrLaws.split_free x 32
 have h3:=f7 x
 revert h1 h2 h3
 generalize Txt.split x ⟨#[32]⟩=ps
 intro h1 h2 h3
 have e:x.cps.toList=HP (ps.map (·.cps.toList)):=by rw[<-U2,h1]
 rw[e,fZ (by simpa using h3) λp hp=> ?_,List.map_map]
 ·refine(List.map_id _).symm.trans (List.map_congr_left λp _=>(F5 p).symm)
 ·obtain⟨q,hq,rfl⟩:=List.mem_map.mp hp
  exact h2 q hq
def N5:List (List Nat)->List (List Nat)
 | a::b::c::r=>[a,b,HP (c::r)]
 | ws=>ws
theorem f8(x y:Str)(n lim:Nat)(A:Array Nat):∀ (l:List Nat) (f:Nat),lim<=A.size->(forIn l (A,f) (StrLaws.occBody x y n lim)).run.fst=A
 | [],_,_=>rfl
 | a::l,f,h=>by
  rw[List.forIn_cons]
  unfold StrLaws.occBody
  rw[if_neg λz=>by have:=z.1.1.1;simp only at this;omega]
  exact f8 x y n lim A l f h
theorem U5(x y:Str)(n lim:Nat):∀ (l:List Nat) (A:Array Nat) (f:Nat),∃ r:List Nat,(forIn l (A,f) (StrLaws.occBody x y n lim)).run.fst.toList=A.toList++r
 | [],A,_=>⟨[],(List.append_nil _).symm⟩
 | a::l,A,f=>by
  rw[List.forIn_cons]
  unfold StrLaws.occBody
  split
  ·obtain⟨r,e⟩:=U5 x y n lim l (A.push a) (a+y.length)
   exact⟨a::r,e.trans (by simp)⟩
  ·exact U5 x y n lim l A f
theorem U6(x y:Str)(n big lim:Nat)(hb:lim<=big):∀ (l:List Nat) (A:Array Nat) (f:Nat),A.size+l.length<=big->A.size<=lim →
  ∃ r:List Nat,(forIn l (A,f) (StrLaws.occBody x y n big)).run.fst.toList=A.toList++r/\(forIn l (A,f) (StrLaws.occBody x y n lim)).run.fst.toList=A.toList++r.take (lim - A.size)
 | [],A,_,_,_=>⟨[],by simp⟩
 | a::l,A,f,h1,h2=>by
  rw[List.length_cons]at h1
  by_cases hr:(f<=a/\a+y.length<=n)/\subAt x y a=true
  ·have cb:(((A,f).fst.size<big/\(A,f).snd<=a)/\a+y.length<=n)/\subAt x y a=true:=⟨⟨⟨by show A.size<big;omega,hr.1.1⟩,hr.1.2⟩,hr.2⟩
   by_cases hl:A.size<lim
   ·have cl:(((A,f).fst.size<lim/\(A,f).snd<=a)/\a+y.length<=n)/\subAt x y a=true:=⟨⟨⟨hl,hr.1.1⟩,hr.1.2⟩,hr.2⟩
    obtain⟨r,e1,e2⟩:=U6 x y n big lim hb l (A.push a) (a+y.length) (by rw[Array.size_push];omega) (by rw[Array.size_push];omega)
    refine⟨a::r,?_,?_⟩
    ·rw[List.forIn_cons]
     conv=>lhs;unfold StrLaws.occBody
     rw[if_pos cb]
     exact e1.trans (by simp)
    ·rw[List.forIn_cons]
     conv=>lhs;unfold StrLaws.occBody
     rw[if_pos cl]
     refine e2.trans ?_
     rw[Array.size_push,show lim - A.size=(lim - (A.size+1))+1 by omega,List.take_succ_cons]
     simp
   ·obtain⟨r,e1⟩:=U5 x y n big (a::l) A f
    refine⟨r,e1,?_⟩
    rw[f8 x y n lim A (a::l) f (by omega),show lim - A.size=0 by omega]
    simp
  ·obtain⟨r,e1,e2⟩:=U6 x y n big lim hb l A f (by omega) h2
   refine⟨r,?_,?_⟩
   ·rw[List.forIn_cons]
    conv=>lhs;unfold StrLaws.occBody
    rw[if_neg λz=>hr ⟨⟨z.1.1.2,z.1.2⟩,z.2⟩]
    exact e1
   ·rw[List.forIn_cons]
    conv=>lhs;unfold StrLaws.occBody
    rw[if_neg λz=>hr ⟨⟨z.1.1.2,z.1.2⟩,z.2⟩]
    exact e2
theorem Lp(x y:Str)(lim:Nat)(h:lim<=x.length+1):occurrences x y 0 x.length lim=(occurrences x y 0 x.length (x.length+1)).take lim:=by
 rw[StrLaws.occ_eq,StrLaws.occ_eq]
 obtain⟨r,e1,e2⟩:=U6 x y x.length (x.length+1) lim h (List.range' 0 (x.length+1 - 0)) #[] 0 (by simp) (Nat.zero_le _)
 rw[e1,e2]
 simp
theorem Lq (x:Str):Txt.splitMax x " " 2=(N5 (CG x.cps.toList)).map BL:=by
  have hs:=U4 x
  rw[U3]at hs ⊢
  unfold Txt.split at hs
  unfold Txt.splitMax
  by_cases h1:(decide (x.length<(⟨#[32]⟩:Str).length) || decide (strKind x<strKind ⟨#[32]⟩))=true
  · rw[if_pos h1]at hs ⊢
    cases hw:CG x.cps.toList with
    | nil=>rw[hw]at hs;cases hs
    | cons a r =>
      cases r with
      | nil=>rw[hw]at hs;exact hs
      | cons b r=>rw[hw]at hs;cases hs
  · rw[if_neg h1]at hs ⊢
    have hx:1<=x.length:=by
      rw[Bool.not_eq_true,Bool.or_eq_false_iff,decide_eq_false_iff_not]at h1
      have:=h1.1
      have e:(⟨#[32]⟩:Str).length=1:=rfl
      omega
    have el:limitOf x 2=2:=rfl
    rw[el,Lp x _ 2 (by omega)]
    obtain⟨f,hc⟩:=StrLaws.occ_chain x ⟨#[32]⟩ (x.length+1)
    revert hs hc
    generalize occurrences x ⟨#[32]⟩ 0 x.length (x.length+1)=cuts
    intro hs hc
    match cuts,hs,hc with
    | [],hs,_ =>
      rw[if_pos (by rfl)]at hs
      rw[List.take_nil,if_pos (by rfl)]
      cases hw:CG x.cps.toList with
      | nil=>rw[hw]at hs;cases hs
      | cons a r =>
        cases r with
        | nil=>rw[hw]at hs;exact hs
        | cons b r=>rw[hw]at hs;cases hs
    | [i],hs,_ =>
      rw[if_neg (by simp),StrLaws.partsBetween_eq]at hs
      rw[show [i].take 2=[i]from rfl,if_neg (by simp),StrLaws.partsBetween_eq,hs]
      have hl:=congrArg List.length hs
      rw[List.length_map]at hl
      cases hw:CG x.cps.toList with
      | nil=>rfl
      | cons a r =>
        cases r with
        | nil=>rfl
        | cons b r =>
          cases r with
          | nil=>rfl
          | cons c r=>rw[hw]at hl;simp[StrLaws.partsFrom]at hl
    | i::j::r,hs,hc =>
      rw[if_neg (by simp),StrLaws.partsBetween_eq]at hs
      rw[show(i::j::r).take 2=[i,j]from rfl,if_neg (by simp),StrLaws.partsBetween_eq]
      have hj:=StrLaws.join_partsFrom x ⟨#[32]⟩ r (j+1) f hc.2.2.2.2
      obtain⟨p,q,epq⟩:=StrLaws.partsFrom_ne x 1 (j+1) r
      have hs:strSub x 0 i::strSub x (i+1) j::StrLaws.partsFrom x 1 (j+1) r=(CG x.cps.toList).map BL:=hs
      have hj:Str.join ⟨#[32]⟩ (StrLaws.partsFrom x 1 (j+1) r)=strSub x (j+1) x.length:=hj
      show [strSub x 0 i,strSub x (i+1) j,strSub x (j+1) x.length]=_
      rw[epq]at hs hj
      cases hw:CG x.cps.toList with
      | nil=>rw[hw]at hs;cases hs
      | cons a1 r1 =>
        cases r1 with
        | nil=>rw[hw]at hs;exact absurd (congrArg List.length hs) (by simp)
        | cons a2 r2 =>
          cases r2 with
          | nil=>rw[hw]at hs;exact absurd (congrArg List.length hs) (by simp)
          | cons a3 r3 =>
            rw[hw]at hs
            simp only[List.map_cons,List.cons.injEq]at hs
            obtain⟨e1,e2,e3,e4⟩:=hs
            show _=[BL a1,BL a2,BL (HP (a3::r3))]
            rw[e1,e2,<-hj,<-F5 (Str.join ⟨#[32]⟩ (p::q)),U2,e3,e4]
            have ei:r3.map ((λx:Str=>x.cps.toList) ∘ BL)=r3:=(List.map_congr_left λx _=>rfl).trans (List.map_id _)
            rw[List.map_cons,List.map_map,ei]
theorem Lv(x:Str)(hx:x.length<=1000):(Txt.partition x " ").1=BL ((CG x.cps.toList).headD []):=by
 have hs:=U4 x
 rw[U3]at hs ⊢
 have hz:(Txt.split x ⟨#[32]⟩)[0]? =some (BL ((CG x.cps.toList).headD [])):=by
  rw[hs]
  cases hw:CG x.cps.toList with
  | nil=>rw[hw]at hs;exact absurd hs (f7 x)
  | cons a r=>rfl
 unfold Txt.partition
 rcases StrLaws.occ_head x ⟨#[32]⟩ 1 (Nat.le_refl _)with⟨e,hn⟩ | ⟨i,r,e,hi,hn⟩
 ·rw[e]
  rcases split_head x ⟨#[32]⟩ (by decide +kernel) _ hz with⟨h,_⟩ | ⟨k,h,hk,_⟩
  ·exact h.symm
  ·exact absurd hk (hn k)
 ·rw[e]
  rcases split_head x ⟨#[32]⟩ (by decide +kernel) _ hz with⟨h,hn'⟩ | ⟨k,h,hk,hk'⟩
  ·exact absurd hi (hn' i)
  ·have:k=i:=by
    rcases Nat.lt_trichotomy k i with z | z | z
    ·exact absurd hk (hn k z)
    ·exact z
    ·exact absurd hi (hk' i z)
   subst this
   exact h.symm
theorem QY:∀ {l w:List Nat},w∈CG l->w.length<=l.length
 | [],w,h=>by rw[List.mem_singleton.mp h];exact Nat.le_refl _
 | c::r,w,h=>by
  unfold CG at h
  split at h
  ·rcases List.mem_cons.mp h with h | h
   ·rw[h];exact Nat.zero_le _
   ·exact Nat.le_succ_of_le (QY h)
  ·cases hw:CG r with
   | nil=>rw[hw]at h;rw[List.mem_singleton.mp h];simp
   | cons v vs =>
    rw[hw]at h
    rcases List.mem_cons.mp h with h | h
    ·rw[h];exact Nat.succ_le_succ (QY (hw ▸ List.mem_cons_self))
    ·exact Nat.le_succ_of_le (QY (hw ▸ List.mem_cons_of_mem _ h))
theorem Lw{α :Type}{us:List α}{u: α}:HZ (us++[u]) (-1)=some u:=by
 unfold HZ IY
 rw[if_neg (by omega),if_pos (by rw[List.length_append];simp;omega)]
 have e:((-1:Int)+((us++[u]).length:Nat)).toNat=us.length:=by rw[List.length_append];simp;omega
 show(us++[u])[((-1:Int)+((us++[u]).length:Nat)).toNat]? =_
 rw[e,List.getElem?_append_right (Nat.le_refl _),Nat.sub_self]
 rfl
end L2
namespace L2
abbrev E9(a:Ad):Addr:=a "Hold"
def KD(ns:List Int)(k:Nat):Int:=ns.getD k 0
def L4(K:W.Frag)(a:Ad):Sp:=λvs H Q _=>∃ (s:Addr) (ns:List Int) (k:Nat),vs=[.ref s,.int k]/\SqL K H s (ns.map V.int)/\ns.length<=1000/\Q (.int (KD ns k)) H
theorem Lx{K:W.Frag}{a:Ad}{s:Addr}{k:Int}{H:Hp}{Q:VK}{E:XK}:L4 K a [.ref s,.int k] H Q E=∃ (ns:List Int) (n:Nat),k=n/\SqL K H s (ns.map V.int)/\ns.length<=1000/\Q (.int (KD ns n)) H:=by simp[L4,and_assoc]
abbrev TB(K:W.Frag)(a:Ad):Prop:=fS K (E9 a) (a "Change")
abbrev D9(a:Ad)(H:Hp)(A:BA)(w:Nat)(rows:List (List V))(n:Nat)(cs:List Ch)(outs:Int->Bool):Prop:=BookAt a (E9 a) H A w rows n cs outs
def FT:Option Nat->V
 | none=>.non
 | some k=>.int k
def FA(n:Nat)(outs:Int->Bool):List Nat:=(List.range n).filter λ(k:Nat)=> !outs k
def BM(l:List Nat):List V:=l.map λ(k:Nat)=>V.int k
abbrev onPl(rows:List (List V))(w:Nat)(i j:Int):Prop:=0<=i/\i<rows.length/\0<=j/\j<w
def QZ(K:W.Frag)(a:Ad):Sp:=λvs H Q _=>∃ x dx pl v nt,vs=[.ref x,.ref pl,v,.ref nt]/\TB K a/\H x=some (.ins (a "Change") dx [])/\Q .non (upd H x (.ins (a "Change") dx (E7 pl v nt)))
def N6(K:W.Frag)(a:Ad):Sp:=λvs H Q _=>∃ (b gp cl dx:Addr) (w:Nat) (rows:List (List V)) (n:Nat),vs=[.ref b,.ref gp]/\TB K a/\ET K a/\PlankAt a H gp cl w rows n/\H b=some (.ins (E9 a) dx []) ∧
 ∀ (m mi lt ou:Addr) (ls:List Addr) (H':Hp),H m=none->H mi=none->H lt=none->H ou=none->(∀ l∈ls,H l=none)->D9 a H' ⟨b,gp,m,mi,lt,ou,ls,cl⟩ w rows n [] (λ_=>false)->SameBut (· =b) H H'->Q .non H'
def Q0(K:W.Frag)(a:Ad):Sp:=λvs H Q _=>∃ (nl:Addr) (ns:List Int) (o:Option Nat),vs=[.ref nl,FT o]/\SqL K H nl (ns.map V.int)/\ns.length<=60 ∧
 ∀ (t:Addr) (ks:List Int) (H':Hp),Same H H'->H' t=some (.tup (ks.map V.int))->ks.Pairwise (· <·)->(∀ x,x∈ks↔x∈ns\/∃ k:Nat,o=some k/\x=k)->ks.length<=ns.length+1->Q (.ref t) H'
def Q1(K:W.Frag)(a:Ad):Sp:=λvs H Q E=>∃ (A:BA) (w:Nat) (rows:List (List V)) (n:Nat) (cs:List Ch) (outs:Int->Bool) (pl:Addr) (i j:Int),vs=[.ref A.b,.ref pl]/\TB K a/\ET K a/\D9 a H A w rows n cs outs/\H pl=some (.tup [.int i,.int j]) ∧
 (onPl rows w i j->Q .non H)/\(¬ onPl rows w i j->E (.ref (a "NoBlock")) none H)
def L5(K:W.Frag)(a:Ad):Sp:=λvs H Q E=>∃ (A:BA) (w:Nat) (rows:List (List V)) (n:Nat) (cs:List Ch) (outs:Int->Bool) (pl:Addr) (i j:Int),vs=[.ref A.b,.ref pl]/\TB K a/\ET K a/\D9 a H A w rows n cs outs/\H pl=some (.tup [.int i,.int j]) ∧
 (onPl rows w i j->Q (FT (D0 cs i j)) H)/\(¬ onPl rows w i j->E (.ref (a "NoBlock")) none H)
abbrev known(cs:List Ch)(x:Int):Prop:=0<=x/\x<cs.length
def N7(K:W.Frag)(a:Ad):Sp:=λvs H Q E=>∃ (A:BA) (w:Nat) (rows:List (List V)) (n:Nat) (cs:List Ch) (outs:Int->Bool) (nl:Addr) (ns:List Int),vs=[.ref A.b,.ref nl]/\TB K a/\D9 a H A w rows n cs outs/\SqL K H nl (ns.map V.int) ∧
 ((∀ x∈ns,known cs x)->Q .non H)/\((∃ x∈ns,¬ known cs x)->E (.ref (a "NoChange")) none H)
def HQ(K:W.Frag)(a:Ad):Sp:=λvs H Q E=>∃ (A:BA) (w:Nat) (rows:List (List V)) (n:Nat) (cs:List Ch) (outs:Int->Bool) (pl nl:Addr) (v:V) (ns:List Int) (i j:Int),vs=[.ref A.b,.ref pl,v,.ref nl]/\TB K a/\ET K a/\D9 a H A w rows n cs outs/\H pl=some (.tup [.int i,.int j])/\SqL K H nl (ns.map V.int)/\ns.length<=60/\cs.length<990 ∧
 (onPl rows w i j->(∀ x∈ns,known cs x)->∀ (nd:List Int) (H':Hp),nd.Pairwise (· <·)->(∀ x,x∈nd↔x∈ns\/∃ k:Nat,D0 cs i j=some k/\x=k)->D9 a H' A w rows n (cs++[⟨i.toNat,j.toNat,v,nd⟩]) outs->SameBut A.F H H'->Q (.int cs.length) H') ∧
 (¬ onPl rows w i j->E (.ref (a "NoBlock")) none H)/\(onPl rows w i j->(∃ x∈ns,¬ known cs x)->E (.ref (a "NoChange")) none H)
def N8(K:W.Frag)(a:Ad):Sp:=λvs H Q _=>∃ (A:BA) (w:Nat) (rows:List (List V)) (n:Nat) (cs:List Ch) (outs:Int->Bool),vs=[.ref A.b]/\TB K a/\D9 a H A w rows n cs outs ∧
 ∀ (l:Addr) (H':Hp),H l=none->Same H H'->H' l=some (.lst (BM (FA cs.length outs)))->Q (.ref l) H'
def Q2(K:W.Frag)(a:Ad):Sp:=λvs H Q E=>∃ (A:BA) (w:Nat) (rows:List (List V)) (n:Nat) (cs:List Ch) (outs:Int->Bool) (nl:Addr) (ns:List Int),vs=[.ref A.b,.ref nl]/\TB K a/\D9 a H A w rows n cs outs/\SqL K H nl (ns.map V.int)/\ns.length<=1000 ∧
  ((∀ x∈ns,known cs x)->∀ (l:Addr) (H':Hp) (R:Int->Bool),(∀ x∈ns,R x=true)->(∀ (k:Nat) (c:Ch),cs[k]? =some c->outs k=false->R k=true->∀ y∈c.nd,R y=true)->(∀ x,R x=true->x∈ns\/∃ (k:Nat) (c:Ch),cs[k]? =some c/\outs k=false/\R k=true/\x∈c.nd) →
    H l=none->Same H H'->H' l=some (.lst (BM ((FA cs.length outs).filter λ(k:Nat)=>R k)))->Q (.ref l) H') ∧
  ((∃ x∈ns,¬ known cs x)->E (.ref (a "NoChange")) none H)
def EM(cs:List Ch)(rows:List (List V))(i j:Int):Option V:=match D0 cs i j with
 | some k=>(cs[k]?).map (·.val)
 | none=>(rows[i.toNat]?).bind λr=>r[j.toNat]?
def KE(K:W.Frag)(a:Ad):Sp:=λvs H Q E=>∃ (A:BA) (w:Nat) (rows:List (List V)) (n:Nat) (cs:List Ch) (outs:Int->Bool) (pl:Addr) (i j:Int),vs=[.ref A.b,.ref pl]/\TB K a/\ET K a/\D9 a H A w rows n cs outs/\H pl=some (.tup [.int i,.int j]) ∧
 (onPl rows w i j->∀ (v:V) (H':Hp),EM cs rows i j=some v->Same H H'->Q v H')/\(¬ onPl rows w i j->E (.ref (a "NoBlock")) none H)
def U7:Option Int->V
 | none=>.non
 | some k=>.int k
abbrev BR(AD:List (AO × V))(x:Int):Bool:=(BO AD (.inl x)).isSome
def Q3(K:W.Frag)(a:Ad):Sp:=λvs H Q _=>∃ (A:BA) (w:Nat) (rows:List (List V)) (n:Nat) (cs:List Ch) (outs:Int->Bool) (k:Nat) (c:Ch) (g:Addr) (kvg:List (AO × V)),vs=[.ref A.b,.int k,.ref g]/\TB K a/\D9 a H A w rows n cs outs/\cs[k]? =some c/\H g=some (.dK kvg) ∧
 Q (U7 (KA c.nd λx=>outs x || BR kvg x)) H
def Q4(K:W.Frag)(a:Ad):Sp:=λvs H Q _=>∃ (A:BA) (w:Nat) (rows:List (List V)) (n:Nat) (cs:List Ch) (outs:Int->Bool) (b:Nat) (tk:Addr) (kvt:List (AO × V)),vs=[.ref A.b,.int b,.ref tk]/\TB K a/\D9 a H A w rows n cs outs/\b<rows.length/\H tk=some (.dK kvt)/\kvt.length<=1000 ∧
 ∀ (t ol hl:Addr) (H':Hp),H ol=none->H hl=none->ol≠hl->Same H H'->ToldAt H' t ol hl (outcome cs outs (BR kvt) b).out (outcome cs outs (BR kvt) b).held->Q (.ref t) H'
def Q5(K:W.Frag)(a:Ad):Sp:=λvs H Q _=>∃ (A:BA) (w:Nat) (rows:List (List V)) (n:Nat) (cs:List Ch) (outs:Int->Bool) (k:Nat) (c:Ch),vs=[.ref A.b,.int k]/\TB K a/\D9 a H A w rows n cs outs/\cs[k]? =some c/\Q (.int c.blk) H
def Q6(K:W.Frag)(a:Ad):Sp:=λvs H Q E=>∃ (A:BA) (w:Nat) (rows:List (List V)) (n:Nat) (cs:List Ch) (outs:Int->Bool) (nl:Addr) (ns:List Int),vs=[.ref A.b,.ref nl]/\TB K a/\D9 a H A w rows n cs outs/\SqL K H nl (ns.map V.int)/\ns.length<=1000 ∧
 ((∀ x∈ns,known cs x)->∀ (l:Addr) (row:List Nat) (R:Int->Bool) (H':Hp),JI cs outs ns R->HC cs outs (EG cs.length outs R) row->row.length<=cs.length->H l=none->Same H H'->H' l=some (.lst (BM row))->Q (.ref l) H') ∧
 ((∃ x∈ns,¬ known cs x)->∀ H',Same H H'->E (.ref (a "NoChange")) none H')
def GoodV:Nat->Hp->V->Prop
 | 0,_,_=>False
 | _+1,_,.int _=>True
 | _+1,_,.non=>True
 | _+1,_,.str z=>PyData.strOk z=true
 | n+1,H,.ref p=>∃ xs,H p=some (.tup xs)/\xs.length<=100/\∀ v∈xs,GoodV n H v
 | _,_,_=>False
def Q7(v:V):Prop:=v=.non\/∃ i,v=.int i
def BQ(n r c w kind k:Nat):Nat:=(if kind=0 then 0 else if kind=1 then n+r+c else if kind=2 then n+r+c+r else if kind=3 then n else n+r)+k / w
def BI(n r c w kind:Nat):Nat:=(if kind=0 then n else if kind=1 then r else if kind=2 then c else if kind=3 then r else c) * w
def IH(kind:Nat)(v:V):Bool:=decide (v=.non) || (decide (0<kind) && decide (v=.int 0))
def EV(f:Nat->Bool)(m:Nat):Int:=match (List.range m).find? f with
 | some k=>k
 | none=> -1
def f9(H:Hp)(rows:List (List V)):Prop:=∀ r∈rows,∀ v∈r,GoodV 4 H v
def goodH(H:Hp)(cs:List Ch)(rows:List (List V)):Prop:=f9 H rows/\∀ c∈cs,GoodV 4 H c.val
def JN(cs:List Ch)(rows:List (List V))(n r c w kind:Nat)(k:Nat):Bool:=match EM cs rows (BQ n r c w kind k:Nat) (k % w:Nat)with
 | some v=>IH kind v
 | none=>false
def KF(K:W.Frag)(a:Ad):Sp:=λvs H Q E=>∃ (A:BA) (w:Nat) (rows:List (List V)) (n:Nat) (cs:List Ch) (outs:Int->Bool) (pl vl:Addr) (ts:List Addr) (xs:List V) (f:Nat->Bool) (m:Nat),vs=[.ref A.b,.ref pl,.ref vl]/\TB K a/\ET K a/\D9 a H A w rows n cs outs/\H pl=some (.lst (ts.map V.ref))/\ts.length=m/\m<=1000/\H vl=some (.tup xs)/\(∀ z∈xs,Q7 z) ∧
 (∀ k t,ts[k]? =some t->∃ i j v,H t=some (.tup [.int i,.int j])/\onPl rows w i j/\EM cs rows i j=some v/\GoodV 4 H v/\f k=decide (v∈xs)) ∧
 (∀ k:Nat,EV f m=k->∀ H',Same H H'->Q (.int k) H')/\(EV f m= -1->∀ H',Same H H'->E (.ref (a "NoRoom")) none H')
def Q8(kind:Nat)(K:W.Frag)(a:Ad)(p b:Addr)(H:Hp)(Q:VK)(E:XK):Prop:=∃ (A:BA) (n r c w:Nat) (rows:List (List V)) (nn:Nat) (cs:List Ch) (outs:Int->Bool),b=A.b/\TB K a/\ET K a/\EH K a/\LayAt a H p n r c w/\n<=6/\r<=6/\c<=6/\w<=6/\D9 a H A w rows nn cs outs/\rows.length=n+r+c+r+c/\(∀ i j v,EM cs rows i j=some v->GoodV 4 H v) ∧
 (∀ k:Nat,EV (JN cs rows n r c w kind) (BI n r c w kind)=k->∀ H',Same H H'->Q (.int k) H')/\(EV (JN cs rows n r c w kind) (BI n r c w kind)= -1->∀ H',Same H H'->E (.ref (a "NoRoom")) none H')
def Q9(K:W.Frag)(a:Ad):Sp:=λvs H Q E=>∃ p b,vs=[.ref p,.ref b]/\Q8 0 K a p b H Q E
def RA(K:W.Frag)(a:Ad):Sp:=λvs H Q E=>∃ p b,vs=[.ref p,.ref b]/\Q8 1 K a p b H Q E
def RB(K:W.Frag)(a:Ad):Sp:=λvs H Q E=>∃ p b,vs=[.ref p,.ref b]/\Q8 2 K a p b H Q E
def U8(c:Nat):Bool:=decide (32<=c) && decide (c<=126) && decide (c≠37)
def L6(c:Nat):Bool:=decide (97<=c) && decide (c<=122)
def BZ(z:Str):Bool:=decide (1<=z.length) && decide (z.length<=8) && z.cps.toList.all L6
def JO(z:Str):Bool:=decide (1<=z.length) && decide (z.length<=40) && z.cps.toList.all U8
def RC(K:W.Frag)(a:Ad):Sp:=λvs H Q _=>∃ c:Nat,vs=[.str ⟨#[c]⟩]/\Q (.bl (U8 c)) H
def RD(K:W.Frag)(a:Ad):Sp:=λvs H Q _=>∃ z:Str,vs=[.str z]/\z.length<=1000/\∀ H',Same H H'->Q (.bl (BZ z)) H'
def RE(K:W.Frag)(a:Ad):Sp:=λvs H Q _=>∃ z:Str,vs=[.str z]/\z.length<=1000/\∀ H',Same H H'->Q (.bl (JO z)) H'
structure N9(K:W.Frag)(a:Ad):Prop where
 cl:Cls K (a "Store")
 n1:NoAttr K (a "Store") "plan"
 n2:NoAttr K (a "Store") "book"
 n3:NoAttr K (a "Store") "taken_out"
def sf(lp b tk:Addr):List (Str × V):=[("plan",.ref lp),("book",.ref b),("taken_out",.ref tk)]
structure SA where
 A:BA
 st:Addr
 lp:Addr
 tk:Addr
structure Hs where
 b:Md
 as:List AC
abbrev Hs.f(M:Hs):Md:=CP M.b M.as
instance:CoeFun Hs λ_=>Nat->Nat->CV:=⟨Hs.f⟩
def Hs.put(M:Hs)(kind k:Nat)(x:CV)(nd:List Nat):Hs:=⟨M.b,⟨kind,k,x,nd⟩::M.as⟩
theorem Hs.put_at{M:Hs}{kind k i j:Nat}{x:CV}{nd:List Nat}:(M.put kind k x nd) i j=if i=kind/\j=k then x else M i j:=rfl
def RepC(H:Hp):CV->V->Prop
 | .no,v=>v=.non
 | .nm z k,v=>∃ t,v=.ref t/\H t=some (.tup [.str z,.int k])
 | .mk i,v=>v=.int i
 | .rc m ps,v=>∃ t u,v=.ref t/\H t=some (.tup [.int m,.ref u])/\H u=some (.tup (BM ps))
 | .tx z,v=>v=.str z
def OA:Nat->CV->Prop
 | _,.no=>True
 | 0,.nm _ _=>True
 | 1,.mk i=>i<=1
 | 2,.mk i=>i<=1
 | 3,.rc _ _=>True
 | 4,.tx _=>True
 | _,_=>False
inductive LaidA(n r c w:Nat)(H:Hp):List Ch->List AC->Prop
 | nil:LaidA n r c w H [] []
 | snoc {cs:List Ch} {as:List AC} {ch:Ch} {x:AC}:LaidA n r c w H cs as->ch.blk=BQ n r c w x.kind x.k->ch.cell=x.k % w->RepC H x.x ch.val->(∀ y:Int,y∈ch.nd↔(∃ j∈x.nd,y=(j:Nat))\/∃ j:Nat,HD x.kind x.k as=some j/\y=j)->x.kind<5->x.k<BI n r c w x.kind->LaidA n r c w H (cs++[ch]) (x::as)
structure SM(a:Ad)(H:Hp)(S:SA)(n r c w:Nat)(rows:List (List V))(nn:Nat)(cs:List Ch)(outs:Int->Bool)(tks:List (AO × V))(M:Hs):Prop where
 ob:∃ dx,H S.st=some (.ins (a "Store") dx (sf S.lp S.A.b S.tk))
 ly:LayAt a H S.lp n r c w
 bk:D9 a H S.A w rows nn cs outs
 tk:H S.tk=some (.dK tks)
 tl:tks.length<=cs.length
 tv:∀ z v,BO tks (.inr z)=some v->∃ k:Nat,v=.int k/\k<cs.length
 ap:¬ S.A.F S.tk
 sz:n<=6/\r<=6/\c<=6/\w<=6/\rows.length=n+r+c+r+c
 gd:goodH H cs rows
 rp:∀ kind k v,kind<5->k<BI n r c w kind->EM cs rows (BQ n r c w kind k:Nat) (k % w:Nat)=some v->RepC H (M kind k) v
 ok:∀ kind k,kind<5->k<BI n r c w kind->OA kind (M kind k)
 la:LaidA n r c w H cs M.as
def EW(M:Hs)(k:Nat):Option (Str × Nat):=match M 0 k with
 | .nm z r=>some (z,r)
 | _=>none
def JP(M:Hs)(m:Nat):List Str:=(List.range m).filterMap λk=>(EW M k).map (·.1)
def cellOf(M:Hs)(m:Nat)(z:Str):Option Nat:=(List.range m).find? λk=>(EW M k).any λp=>decide (p.1=z)
def KG(kind:Nat):CV->Bool
 | .no=>true
 | .mk i=>decide (0<kind) && decide (i=0)
 | _=>false
def FU(M:Hs)(kind m:Nat):Int:=EV (λk=>KG kind (M kind k)) m
abbrev D4(K:W.Frag)(a:Ad):Prop:=TB K a/\ET K a/\EH K a/\N9 K a
abbrev gA(cs:List Ch)(i j:Int)(x:Int):Prop:=∃ k:Nat,D0 cs i j=some k/\x=k
structure SX where
 S:SA
 n:Nat
 r:Nat
 c:Nat
 w:Nat
 rows:List (List V)
 nn:Nat
 outs:Int->Bool
abbrev SX.at(X:SX)(a:Ad)(H:Hp)(cs:List Ch)(tks:List (AO × V))(M:Hs):Prop:=SM a H X.S X.n X.r X.c X.w X.rows X.nn cs X.outs tks M
abbrev SX.m0(X:SX):Nat:=X.n * X.w
def RF(K:W.Frag)(a:Ad):Sp:=λvs H Q _=>∃ (x dx lp gp cl:Addr) (n r c w:Nat) (rows:List (List V)) (nn:Nat) (M:Md),vs=[.ref x,.ref lp,.ref gp]/\D4 K a/\H x=some (.ins (a "Store") dx [])/\LayAt a H lp n r c w/\PlankAt a H gp cl w rows nn/\(n<=6/\r<=6/\c<=6/\w<=6/\rows.length=n+r+c+r+c)/\f9 H rows/\(∀ kind k v,kind<5->k<BI n r c w kind->EM [] rows (BQ n r c w kind k:Nat) (k % w:Nat)=some v->RepC H (M kind k) v)/\(∀ kind k,kind<5->k<BI n r c w kind->OA kind (M kind k)) ∧
 ∀ (S:SA) (H':Hp),S.st=x->S.lp=lp->S.A.gp=gp->S.A.cl=cl->(∀ y o,H y=some o->y=cl\/¬ S.A.F y)->H S.tk=none->SM a H' S n r c w rows nn [] (λ_=>false) [] ⟨M,[]⟩->SameBut (· =x) H H'->Q .non H'
def RG(K:W.Frag)(a:Ad):Sp:=λvs H Q _=>∃ (x dx lp b tk:Addr),vs=[.ref x]/\N9 K a/\H x=some (.ins (a "Store") dx (sf lp b tk))/\Q (.ref b) H
def L7(K:W.Frag)(a:Ad):Sp:=λvs H Q _=>∃ (X:SX) (cs:List Ch) (tks:List (AO × V)) (M:Hs),vs=[.ref X.S.st]/\D4 K a/\X.at a H cs tks M ∧
 ∀ (l:Addr) (xs:List V) (H':Hp),Same H H'->H' l=some (.lst xs)->xs.length=X.m0->(∀ k v,xs[k]? =some v->RepC H' (M 0 k) v)->Q (.ref l) H'
def OB(K:W.Frag)(a:Ad):Sp:=λvs H Q _=>∃ (X:SX) (cs:List Ch) (tks:List (AO × V)) (M:Hs),vs=[.ref X.S.st]/\D4 K a/\X.at a H cs tks M ∧
 ∀ (l:Addr) (ks:List Str) (H':Hp),H l=none->Same H H'->H' l=some (.lst (ks.map V.str))->ks.Perm (JP M X.m0)->sortedS ks=true->Q (.ref l) H'
def L8(K:W.Frag)(a:Ad):Sp:=λvs H Q _=>∃ (X:SX) (cs:List Ch) (tks:List (AO × V)) (M:Hs) (z:Str),vs=[.ref X.S.st,.str z]/\D4 K a/\X.at a H cs tks M/\∀ (H':Hp),Same H H'->Q (FT (cellOf M X.m0 z)) H'
def JQ(K:W.Frag)(a:Ad):Sp:=λvs H Q E=>∃ (X:SX) (cs:List Ch) (tks:List (AO × V)) (M:Hs) (z:Str),vs=[.ref X.S.st,.str z]/\D4 K a/\X.at a H cs tks M ∧
 (∀ cell k,cellOf M X.m0 z=some cell->cell<X.m0->M 0 cell=.nm z k->∀ H',Same H H'->Q (.int k) H')/\(cellOf M X.m0 z=none->∀ H',Same H H'->E (.ref (a "NoName")) none H')
def JR(K:W.Frag)(a:Ad):Sp:=λvs H Q _=>∃ (X:SX) (cs:List Ch) (tks:List (AO × V)) (M:Hs) (rec:Nat),vs=[.ref X.S.st,.int rec]/\D4 K a/\X.at a H cs tks M/\rec<X.r * X.w/\∀ v H',RepC H' (M 3 rec) v->Same H H'->Q v H'
def OC(K:W.Frag)(a:Ad):Sp:=λvs H Q E=>∃ (X:SX) (cs:List Ch) (tks:List (AO × V)) (M:Hs) (z:Str) (gl:Addr) (zs:List Str),vs=[.ref X.S.st,.str z,.ref gl]/\D4 K a/\X.at a H cs tks M/\H gl=some (.lst (zs.map V.str))/\zs.length<=60/\(∀ y∈zs,y.length<=1000) ∧
 (zs.all BZ=true->cellOf M X.m0 z=none->∀ H',Same H H'->Q .non H')/\(zs.all BZ=false->∀ H',Same H H'->E (.ref (a "NoName")) none H')/\(zs.all BZ=true->(∃ k,cellOf M X.m0 z=some k)->∀ H',Same H H'->E (.ref (a "Twice")) none H')
def U9(X:SX)(a:Ad)(H:Hp)(cs:List Ch)(tks:List (AO × V))(M':Hs)(Q:VK):Prop:=∀ (ch:Ch) (H':Hp),X.at a H' (cs++[ch]) tks M'->SameBut X.S.A.F H H'->Q (.int cs.length) H'
def L9(tks:List (AO × V))(z:Str):List Nat:=match BO tks (.inr z)with
 | some (.int k)=>[k.toNat]
 | _=>[]
abbrev OD(ns:List Int):List Nat:=ns.map Int.toNat
def RH(K:W.Frag)(a:Ad):Sp:=λvs H Q _=>∃ (X:SX) (cs:List Ch) (tks:List (AO × V)) (M:Hs) (cell rec need:Nat) (z:Str),vs=[.ref X.S.st,.int cell,.str z,.int rec,.int need]/\D4 K a/\X.at a H cs tks M/\cell<X.m0/\need<cs.length/\cs.length<980/\PyData.strOk z=true/\U9 X a H cs tks (M.put 0 cell (.nm z rec) (need::L9 tks z)) Q
def RI(K:W.Frag)(a:Ad):Sp:=λvs H Q _=>∃ (X:SX) (cs:List Ch) (tks:List (AO × V)) (M:Hs) (rec m:Nat) (ps ps':List Nat) (pl nl:Addr) (ns:List Int),vs=[.ref X.S.st,.int rec,.ref pl,.ref nl]/\D4 K a/\X.at a H cs tks M/\rec<X.r * X.w/\M 3 rec=.rc m ps/\H pl=some (.tup (BM ps'))/\ps'.length<=100/\H nl=some (.lst (ns.map V.int))/\ns.length<=60/\(∀ x∈ns,known cs x)/\cs.length<980/\U9 X a H cs tks (M.put 3 rec (.rc m ps') (OD ns)) Q
def Hs.unmark(M:Hs)(d:Nat)(ps:List Nat):Hs:=ps.foldl (λM p=>M.put 2 p (.mk 0) [d]) M
def gB(X:SX)(a:Ad)(H:Hp)(cs:List Ch)(d:Nat)(tks':List (AO × V))(M':Hs)(Q:VK):Prop:=∀ (ex:List Ch) (l:Addr) (H':Hp),ex.length=d->H l=none->H' l=some (.lst (BM ((List.range d).map (cs.length+·))))->X.at a H' (cs++ex) tks' M'->SameBut (λx=>X.S.A.F x\/x=X.S.tk) H H'->Q (.ref l) H'
def EA(a:Ad)(H:Hp)(c:String)(E:XK):Prop:=∀ H',Same H H'->E (.ref (a c)) none H'
def OE(K:W.Frag)(a:Ad):Sp:=λvs H Q E=>∃ (X:SX) (cs:List Ch) (tks:List (AO × V)) (M:Hs) (z:Str),vs=[.ref X.S.st,.str z]/\D4 K a/\X.at a H cs tks M/\z.length<=1000/\cs.length<930 ∧
 (BZ z=true->cellOf M X.m0 z=none->∀ rec cell:Nat,FU M 1 (X.r * X.w)=rec->FU M 0 X.m0=cell->rec<X.r * X.w->cell<X.m0->gB X a H cs 3 tks (((M.put 1 rec (.mk 1) []).put 3 rec (.rc 1 []) [cs.length]).put 0 cell (.nm z rec) ((cs.length+1)::L9 tks z)) Q) ∧
 (BZ z=false->EA a H "NoName" E)/\(BZ z=true->(∃ k,cellOf M X.m0 z=some k)->EA a H "Twice" E) ∧
 (BZ z=true->cellOf M X.m0 z=none->(FU M 1 (X.r * X.w)= -1\/FU M 0 X.m0= -1)->EA a H "NoRoom" E)
def OF(K:W.Frag)(a:Ad):Sp:=λvs H Q E=>∃ (X:SX) (cs:List Ch) (tks:List (AO × V)) (M:Hs) (z t:Str),vs=[.ref X.S.st,.str z,.str t]/\D4 K a/\X.at a H cs tks M/\t.length<=1000/\PyData.strOk t=true/\cs.length<930 ∧
 (∀ cell rec:Nat,cellOf M X.m0 z=some cell->cell<X.m0->M 0 cell=.nm z rec->JO t=true->∀ p:Nat,FU M 2 (X.c * X.w)=p->p<X.c * X.w->rec<X.r * X.w/\∃ m ps,M 3 rec=.rc m ps/\ps.length<=90/\gB X a H cs 3 tks (((M.put 2 p (.mk 1) []).put 4 p (.tx t) [cs.length]).put 3 rec (.rc m (ps++[p])) [cs.length+1]) Q) ∧
 (cellOf M X.m0 z=none->EA a H "NoName" E)/\((∃ k,cellOf M X.m0 z=some k)->JO t=false->EA a H "NoPiece" E)/\((∃ k,cellOf M X.m0 z=some k)->JO t=true->FU M 2 (X.c * X.w)= -1->EA a H "NoRoom" E)
def OG(K:W.Frag)(a:Ad):Sp:=λvs H Q E=>∃ (X:SX) (cs:List Ch) (tks:List (AO × V)) (M:Hs) (z:Str),vs=[.ref X.S.st,.str z]/\D4 K a/\X.at a H cs tks M ∧
 (∀ cell rec:Nat,cellOf M X.m0 z=some cell->cell<X.m0->M 0 cell=.nm z rec->rec<X.r * X.w/\∃ m ps,M 3 rec=.rc m ps/\ps.length<=100/\∃ ts:List Str,Paired (λp t=>p<X.c * X.w/\M 4 p=.tx t) ps ts/\∀ l H',H l=none->Same H H'->H' l=some (.lst (ts.map V.str))->Q (.ref l) H') ∧
 (cellOf M X.m0 z=none->EA a H "NoName" E)
def KH(K:W.Frag)(a:Ad):Sp:=λvs H _ E=>∃ (X:SX) (cs:List Ch) (tks:List (AO × V)) (M:Hs) (y z:Str),vs=[.ref X.S.st,.str y,.str z]/\D4 K a/\X.at a H cs tks M/\y.length<=1000/\z.length<=1000 ∧
 (((BZ y && BZ z)=false/\EA a H "NoName" E)\/((BZ y && BZ z)=true/\(∃ k,cellOf M X.m0 z=some k)/\EA a H "Twice" E))
def OH(K:W.Frag)(a:Ad):Sp:=λvs H Q E=>KH K a vs H Q E
def OI(K:W.Frag)(a:Ad):Sp:=λvs H _ E=>∃ (X:SX) (cs:List Ch) (tks:List (AO × V)) (M:Hs) (z:Str),vs=[.ref X.S.st,.str z]/\D4 K a/\X.at a H cs tks M/\cellOf M X.m0 z=none/\EA a H "NoName" E
def OJ(K:W.Frag)(a:Ad):Sp:=λvs H _ E=>∃ (X:SX) (cs:List Ch) (tks:List (AO × V)) (M:Hs) (z:Str) (x:Int),vs=[.ref X.S.st,.str z,.int x]/\D4 K a/\X.at a H cs tks M ∧
 ((cellOf M X.m0 z=none/\EA a H "NoName" E)\/∃ cell rec m ps,cellOf M X.m0 z=some cell/\cell<X.m0/\M 0 cell=.nm z rec/\rec<X.r * X.w/\M 3 rec=.rc m ps/\ps.length<=100/\(x<0\/ps.length<=x)/\EA a H "NoPiece" E)
abbrev OK(X:SX)(p:Nat × Nat):List V:=[.int (BQ X.n X.r X.c X.w p.1 p.2:Nat),.int (p.2 % X.w:Nat)]
def GR(cell rec:Nat)(ps:List Nat):List (Nat × Nat):=(0,cell)::(3,rec)::ps.map λp=>(4,p)
def RJ(K:W.Frag)(a:Ad):Sp:=λvs H Q E=>∃ (X:SX) (cs:List Ch) (tks:List (AO × V)) (M:Hs) (z:Str),vs=[.ref X.S.st,.str z]/\D4 K a/\X.at a H cs tks M ∧
 (∀ cell rec,cellOf M X.m0 z=some cell->cell<X.m0->M 0 cell=.nm z rec->rec<X.r * X.w/\∃ m ps,M 3 rec=.rc m ps/\ps.length<=100/\(∀ p∈ps,p<X.c * X.w)/\∀ l ts H',Same H H'->H' l=some (.lst (ts.map V.ref))->Paired (λt p=>H' t=some (.tup (OK X p))) ts (GR cell rec ps)->Q (.ref l) H') ∧
 (cellOf M X.m0 z=none->EA a H "NoName" E)
def KI(X:SX)(cs:List Ch)(ts:List (Nat × Nat)):List Int:=ts.filterMap λp=>(D0 cs (BQ X.n X.r X.c X.w p.1 p.2:Nat) (p.2 % X.w:Nat)).map λ(k:Nat)=>(k:Int)
def KJ(K:W.Frag)(a:Ad):Sp:=λvs H Q E=>∃ (X:SX) (cs:List Ch) (tks:List (AO × V)) (M:Hs) (z:Str),vs=[.ref X.S.st,.str z]/\D4 K a/\X.at a H cs tks M ∧
 (∀ cell rec,cellOf M X.m0 z=some cell->cell<X.m0->M 0 cell=.nm z rec->rec<X.r * X.w/\∃ m ps,M 3 rec=.rc m ps/\ps.length<=100/\(∀ p∈ps,p<X.c * X.w)/\∀ l row R H',JI cs X.outs (KI X cs (GR cell rec ps)) R->HC cs X.outs (EG cs.length X.outs R) row->row.length<=cs.length->Same H H'->H' l=some (.lst (BM row))->Q (.ref l) H') ∧
 (cellOf M X.m0 z=none->EA a H "NoName" E)
structure gC(K:W.Frag)(a:Ad):Prop where
 cl:Cls K (a "House")
 n1:NoAttr K (a "House") "plan"
 n2:NoAttr K (a "House") "ground"
 n3:NoAttr K (a "House") "store"
def MA:List (Str × Int):=[("make",2),("link",3),("cut",2),("put",3),("take",3),("move",3),("write",2),("keep",2),("show",2),("names",1),("stop",1)]
def II:List Str:=["make","link","cut","put","take","move"]
def IJ:List Str:=["take","write"]
structure FV(K:W.Frag)(a:Ad):Prop where
 s4:D4 K a
 ho:gC K a
 dd:∀ H,SqT K H (a "DEEDS") (II.map V.str)
 wn:∀ H,SqT K H (a "WITH_A_NUMBER_LAST") (IJ.map V.str)
def hf(lp gp st:Addr):List (Str × V):=[("plan",.ref lp),("ground",.ref gp),("store",.ref st)]
def GS(w:List Nat):Bool:=decide (1<=w.length) && decide (w.length<=3) && w.all (λc=>decide (48<=c) && decide (c<=57)) && (decide (w=[48]) || decide (w.head? ≠some 48))
def FG(ws:List (List Nat)):Option (List Str):=match F3 MA (BL (ws.headD []))with
 | none=>none
 | some n =>
  let vs:=if BL (ws.headD [])=("put":Str)then N5 ws else ws
  if(vs.length:Int)≠n then none else
  if BL (ws.headD [])∈IJ/\GS (vs.getLastD [])=false then none else some (vs.map BL)
def CC(z:Str):Option (List Str):=FG (CG z.cps.toList)
def RK(K:W.Frag)(a:Ad):Sp:=λvs H Q _=>∃ z:Str,vs=[.str z]/\z.length<=1000/\∀ H',Same H H'->Q (.bl (GS z.cps.toList)) H'
def RL(K:W.Frag)(a:Ad):Sp:=λvs H Q E=>∃ z:Str,vs=[.str z]/\FV K a/\z.length<=900 ∧
 (∀ ws,CC z=some ws->∀ l H',H l=none->Same H H'->H' l=some (.lst (ws.map V.str))->Q (.ref l) H')/\(CC z=none->EA a H "NoRow" E)
def IK(ks:List Str):Str:=if ks=[]then "-" else Txt.join " " ks
def MB(K:W.Frag)(a:Ad):Sp:=λvs H Q _=>∃ (l:Addr) (ks:List Str),vs=[.ref l]/\H l=some (.lst (ks.map V.str))/\(ks.map (·.length)).sum+ks.length<=1000/\Q (.str (IK ks)) H
def StAt(a:Ad)(H:Hp)(st:Addr):Prop:=∃ dx lp b tk,H st=some (.ins (a "Store") dx (sf lp b tk))
def HsAt(a:Ad)(H:Hp)(h:Addr)(X:SX)(cs:List Ch)(tks:List (AO × V))(M:Hs):Prop:=(∃ dh,H h=some (.ins (a "House") dh (hf X.S.lp X.S.A.gp X.S.st)))/\X.at a H cs tks M
def MC(K:W.Frag)(a:Ad):Sp:=λvs H Q E=>∃ (st l:Addr) (ws:List Str),vs=[.ref st,.ref l]/\StAt a H st/\H l=some (.lst (ws.map V.str)) ∧
  ((∃ y,ws=[("make":Str),y]/\OE K a [.ref st,.str y] H (λ_ H'=>Q .non H') E)\/(∃ y t,ws=[("put":Str),y,t]/\OF K a [.ref st,.str y,.str t] H (λ_ H'=>Q .non H') E) ∨
   (∃ y z,ws=[("link":Str),y,z]/\KH K a [.ref st,.str y,.str z] H (λ_ H'=>Q .non H') E)\/(∃ y z,ws=[("move":Str),y,z]/\OH K a [.ref st,.str y,.str z] H (λ_ H'=>Q .non H') E) ∨
   (∃ y,ws=[("cut":Str),y]/\OI K a [.ref st,.str y] H (λ_ H'=>Q .non H') E)\/∃ y w x,ws=[("take":Str),y,w]/\w.length<=640/\intText? w=some x/\OJ K a [.ref st,.str y,.int x] H (λ_ H'=>Q .non H') E)
def MD(K:W.Frag)(a:Ad):Sp:=λvs H Q E=>∃ (st l:Addr) (ws:List Str),vs=[.ref st,.ref l]/\StAt a H st/\H l=some (.lst (ws.map V.str)) ∧
  ((∃ y,ws=[("keep":Str),y]/\KJ K a [.ref st,.str y] H (λv H'=>∃ p row,v=.ref p/\H' p=some (.lst (BM row))/\row.length<=50/\(∀ b∈row,b<1000)/\∀ H2,Same H' H2->Q (.str (IK (row.map λ(b:Nat)=>DI b))) H2) E) ∨
   (ws=[("names":Str)]/\OB K a [.ref st] H (λv H'=>MB K a [v] H' Q E) E) ∨
   ∃ y,ws=[("show":Str),y]/\OG K a [.ref st,.str y] H (λv H'=>NX K (.str "") [v] H' Q) E)
def EN(K:W.Frag)(a:Ad):Sp:=λvs H Q E=>∃ (h dh lp gp st:Addr) (z:Str),vs=[.ref h,.str z]/\FV K a/\H h=some (.ins (a "House") dh (hf lp gp st))/\StAt a H st/\z.length<=900 ∧
  ((CC z=none/\EA a H "NoRow" E)\/∃ w ws,CC z=some (w::ws)/\w≠"stop"/\∀ l H1,Same H H1->H1 l=some (.lst ((w::ws).map V.str)) →
    (w∈II/\MC K a [.ref st,.ref l] H1 (λ_ H'=>Q (.str "ok") H') E)\/(w∉II/\MD K a [.ref st,.ref l] H1 Q E))
def RM(K:W.Frag)(a:Ad):Sp:=λvs H Q _=>∃ (h dh lp:Addr) (n r c w:Nat),vs=[.ref h,.ref lp]/\FV K a/\H h=some (.ins (a "House") dh [])/\LayAt a H lp n r c w/\(n<=6/\r<=6/\c<=6/\w<=6) ∧
 ∀ (S:SA) (H':Hp),S.lp=lp->(∀ y,S.A.F y\/y=S.tk\/y=S.A.gp\/y=S.st->H y=none)->HsAt a H' h ⟨S,n,r,c,w,List.replicate (n+r+c+r+c) (List.replicate w .non),0,λ_=>false⟩ [] [] ⟨λ_ _=>.no,[]⟩->SameBut (· =h) H H'->Q .non H'
abbrev M0:Hs:=⟨λ_ _=>.no,[]⟩
abbrev M3(y:Str):Hs:=((M0.put 1 0 (.mk 1) []).put 3 0 (.rc 1 []) [0]).put 0 0 (.nm y 0) [1]
abbrev M6(y:Str):Hs:=(((M3 y).put 2 0 (.mk 1) []).put 4 0 (.tx "first") [3]).put 3 0 (.rc 1 [0]) [4]
def EB(y n w z:Str)(d:String):Prop:=z.length<=900/\((d="NoRow"/\CC z=none) ∨
 (d="NoName"/\((∃ v,(v=n\/v=w)/\(CC z=some [("cut":Str),v]\/CC z=some [("keep":Str),v]\/CC z=some [("show":Str),v]\/CC z=some [("put":Str),v,"a"]\/CC z=some [("take":Str),v,"0"]))\/CC z=some [("make":Str),n]\/∃ u v,(u=n\/v=n)/\u.length<=20/\v.length<=20/\(CC z=some [("link":Str),u,v]\/CC z=some [("move":Str),u,v]))) ∨
 (d="NoPiece"/\((∃ t,JO t=false/\t.length<=100/\PyData.strOk t=true/\CC z=some [("put":Str),y,t])\/∃ b:Nat,1<=b/\b<1000/\CC z=some [("take":Str),y,DI b])) ∨
 (d="Twice"/\(CC z=some [("make":Str),y]\/CC z=some [("link":Str),y,y]\/CC z=some [("move":Str),y,y])))
def JS(n:Str):Prop:=BZ n=false/\n.length<=9/\32∉n.cps.toList
def RN(K:W.Frag)(a:Ad):Sp:=λvs H Q _=>∃ x:Int,vs=[.int x]/\∀ z H',BZ z=true->z.length<=5->Same H H'->Q (.str z) H'
def RO(K:W.Frag)(a:Ad):Sp:=λvs H Q _=>∃ (x:Int) (y:Str),vs=[.int x,.str y]/\BZ y=true/\y.length<=5/\∀ z H',JS z->Same H H'->Q (.str z) H'
def RP(K:W.Frag)(a:Ad):Sp:=λvs H Q _=>∃ (x:Int) (y n w:Str),vs=[.int x,.str y,.str n,.str w]/\BZ y=true/\JS n/\BZ w=true/\∀ t z d H',H' t=some (.tup [.str z,.str (Str.ofString d)])->EB y n w z d->Same H H'->Q (.ref t) H'
structure CX(K:W.Frag)(a:Ad)(c:String)(b1 b2 b3 b4:Bool):Prop where
 h:W.exmOne K (.ref (a c)) (.ref (a "HoldError"))=some true
 e:NO K (a c)
 k1:W.kitOne K (.ref (a c)) (.ref (a "NoName"))=some b1
 k2:W.kitOne K (.ref (a c)) (.ref (a "NoPiece"))=some b2
 k3:W.kitOne K (.ref (a c)) (.ref (a "Twice"))=some b3
 k4:W.kitOne K (.ref (a c)) (.ref (a "NoRow"))=some b4
 o:W.kitAny K (.ref (a c)) [.ref (a "NoBlock"),.ref (a "NoChange"),.ref (a "NoRoom"),.ref (a "NotSound")]=some false
 v:W.kitOne K (.ref (a c)) (.type "ValueError")=some true
structure VA(K:W.Frag)(a:Ad):Prop where
 n:CX K a "NoName" true false false false
 p:CX K a "NoPiece" false true false false
 t:CX K a "Twice" false false true false
 r:CX K a "NoRow" false false false true
structure H75(K:W.Frag)(a:Ad)(H:Hp)(h:Addr)(X:SX)(cs:List Ch)(y:Str):Prop where
 T:FV K a
 A:HsAt a H h X cs [] (M6 y)
 l:cs.length=6
 y:BZ y=true
 r:0<X.r * X.w
 n:0<X.m0
 c:1<X.c * X.w
def OL(K:W.Frag)(a:Ad):Sp:=λvs H Q _=>∃ (h:Addr) (X:SX) (cs:List Ch) (y n w z:Str) (d:String),vs=[.ref h,.str z,.str (Str.ofString d)]/\VA K a/\H75 K a H h X cs y/\JS n/\w≠y/\EB y n w z d/\∀ H',Same H H'->Q (.bl true) H'
def RowIs(X:SX)(cs:List Ch)(row:List Nat):Prop:=∃ R,JI cs X.outs (KI X cs (GR 0 0 [0])) R/\HC cs X.outs (EG cs.length X.outs R) row
def OM(K:W.Frag)(a:Ad):Sp:=λvs H Q _=>∃ (h:Addr) (X:SX) (cs:List Ch) (y:Str),vs=[.ref h,.str y]/\H75 K a H h X cs y/\∀ (l:Addr) (row:List Nat) (H':Hp),Same H H'->RowIs X cs row->H' l=some (.lst [.str y,.str "first",.str (IK (row.map λ(b:Nat)=>DI b))])->Q (.ref l) H'
def gD(K:W.Frag)(a:Ad):Sp:=λvs H Q _=>∃ (s:Addr) (ns:List Int),vs=[.ref s]/\FV K a/\VA K a/\SqL K H s (ns.map V.int)/\ns.length<=63/\∀ H',Q (.bl true) H'
end L2
namespace L2
abbrev FK:=W.Frag
abbrev XE:=St->XK
abbrev RT:=FK->Ad->XE->XE->TS
theorem A3{f g:RT}(h:∀ K a E E1,f K a E E1=g K a E E1){K a E E1 D σ H}:f K a E E1 D σ H=g K a E E1 D σ H:=by rw[h]
abbrev GT:TE:=tC (.int 0)
abbrev F6:TE:=tC (.int 1)
abbrev ON:TE:=tC (.int 2)
abbrev Ly:TE:=tC (.int 3)
abbrev gE:TE:=tC (.int 4)
abbrev RQ:TE:=tC (.int 5)
abbrev Lz:TE:=tC (.int 8)
abbrev HF(n:Int):TE:=tC (.int n)
abbrev AJ(x0:TE):TA:=DY x0 BY
abbrev A9(x0 x1:TE):TA:=DY x0 (DY x1 BY)
abbrev EJ(x0 x1 x2:TE):TA:=DY x0 (DY x1 (DY x2 BY))
abbrev KK(x0 x1 x2 x3:TE):TA:=DY x0 (DY x1 (DY x2 (DY x3 BY)))
abbrev B8(K:W.Frag)(x:TE)(n:Int):TE:=AF (DM K) x (tC (.int n))
abbrev AE:TE:=EL 0
abbrev AR:TE:=EL 1
abbrev AY:TE:=EL 2
abbrev BS:TE:=EL 3
abbrev D5:TE:=EL 4
abbrev DD:TE:=EL 5
abbrev EO:TE:=EL 6
abbrev OO:TE:=EL 7
section
variable{K:FK}{a:Ad}{n:Nat}{E E1:XE}{D:Ends}{σ:St}{H:Hp}
def gF:RT:=λK a E E1=>(DS K AE AR "place")
theorem Mb:type_of%(@A3 _ _ gF.eq_1):=rfl
def gG:RT:=λK a E E1=>(DS K AE AY "value")
theorem Mc:type_of%(@A3 _ _ gG.eq_1):=rfl
def gH:RT:=λK a E E1=>(DS K AE BS "needs")
theorem Mg:type_of%(@A3 _ _ gH.eq_1):=rfl
def VB(K:FK)(a:Ad)(E:XE):TS:=(AH (gF K a E E) (AH (gG K a E E) (gH K a E E)))
def gI:RT:=λK a E E1=>(BB (DC (G1 (AJ (CB (E3 K) (AJ (A5 K AE "made"))))) (AN 0) (tB (JA AE (A5 K AR "outs"))) AE 1 [0]))
theorem Mh:type_of%(@A3 _ _ gI.eq_1):=rfl
def VC(K:FK)(a:Ad)(E:XE):TS:=(gI K a E E)
def gJ:RT:=λK a E E1=>(BB (B8 K (A5 K (AF (DM K) (A5 K AE "made") AR) "place") 0))
theorem Mj:type_of%(@A3 _ _ gJ.eq_1):=rfl
def VD(K:FK)(a:Ad)(E:XE):TS:=(gJ K a E E)
def gK:RT:=λK a E E1=>(FO (a "NoChange") E (AJ (tC (.str "there is no change of such a number"))))
theorem gL:type_of%(@A3 _ _ gK.eq_1):=rfl
def gM:RT:=λK a E E1=>(CA (FI (CD (FJ D3 HL GT AY (CB (E3 K) (AJ (A5 K AE "made")))))) (gK K a E E) CS)
theorem gO:type_of%(@A3 _ _ gM.eq_1):=rfl
def gP:RT:=λK a E E1=>(EQ (ED K AR) (AN 2) (gM K a E E))
theorem gQ:type_of%(@A3 _ _ gP.eq_1):=rfl
def VE(K:FK)(a:Ad)(E:XE):TS:=(gP K a E E)
def gR:RT:=λK a E E1=>(BB (CB (NN K) (AJ (P7 K AE))))
theorem gS:type_of%(@A3 _ _ gR.eq_1):=rfl
def gT:RT:=λK a E E1=>(CA (CD (AF LM AR (tC .non))) (gR K a E E) CS)
theorem gU:type_of%(@A3 _ _ gT.eq_1):=rfl
def gW:RT:=λK a E E1=>(BB (CB (NN K) (AJ (P7 K (AF (AX K) (CB (NM K) (AJ AE)) (B6 (AJ AR)))))))
theorem gX:type_of%(@A3 _ _ gW.eq_1):=rfl
def RR(K:FK)(a:Ad)(E:XE):TS:=(AH (gT K a E E) (gW K a E E))
def gY:RT:=λK a E E1=>(BB BS)
theorem VF:type_of%(@A3 _ _ gY.eq_1):=rfl
def gZ:RT:=λK a E E1=>(CA (KZ (tB (JA BS (A5 K AE "outs"))) (tB (JA BS AY))) (gY K a E E) CS)
theorem VG:type_of%(@A3 _ _ gZ.eq_1):=rfl
def g5:RT:=λK a E E1=>(EQ (ED K (A5 K (AF (DM K) (A5 K AE "made") AR) "needs")) (AN 3) (gZ K a E E))
theorem VH:type_of%(@A3 _ _ g5.eq_1):=rfl
def g6:RT:=λK a E E1=>(BB (tC .non))
theorem VI:type_of%(@A3 _ _ g6.eq_1):=rfl
def VJ(K:FK)(a:Ad)(E:XE):TS:=(AH (g5 K a E E) (g6 K a E E))
def g7:RT:=λK a E E1=>(BB (IQ (FJ D3 D3 (tC (.str " ")) AE (tC (.str "~"))) (AF (D6 K) (CB (P0 K) (AJ AE)) (HF 37))))
theorem Ml:type_of%(@A3 _ _ g7.eq_1):=rfl
def VL(K:FK)(a:Ad)(E:XE):TS:=(g7 K a E E)
def g8:RT:=λK a E E1=>(BB (IQ (FJ D3 D3 F6 (CB (E3 K) (AJ AE)) Lz) (CB (LS K) (AJ (DC (NU AE) (AN 0) DH (FJ D3 D3 (tC (.str "a")) AE (tC (.str "z"))) 1 [])))))
theorem Mm:type_of%(@A3 _ _ g8.eq_1):=rfl
def VM(K:FK)(a:Ad)(E:XE):TS:=(g8 K a E E)
def g9:RT:=λK a E E1=>(BB (A5 K AE "book"))
theorem Mp:type_of%(@A3 _ _ g9.eq_1):=rfl
def VN(K:FK)(a:Ad)(E:XE):TS:=(g9 K a E E)
def hE:RT:=λK a E E1=>(BB (tC (.bl false)))
theorem Mq:type_of%(@A3 _ _ hE.eq_1):=rfl
def hG:RT:=λK a E E1=>(CA (M4 (FI (CD (FJ D3 D3 F6 (CB (E3 K) (AJ AE)) Ly))) (FI (JD K (CB (LS K) (AJ (DC (NU AE) (AN 0) DH (FJ D3 D3 (tC (.str "0")) AE (tC (.str "9"))) 1 [])))))) (hE K a E E) CS)
theorem Mv:type_of%(@A3 _ _ hG.eq_1):=rfl
def hU:RT:=λK a E E1=>(BB (SI (AF (CI K) AE (tC (.str "0"))) (AF (D6 K) (B8 K AE 0) (tC (.str "0")))))
theorem Mw:type_of%(@A3 _ _ hU.eq_1):=rfl
def VO(K:FK)(a:Ad)(E:XE):TS:=(AH (hG K a E E) (hU K a E E))
def hV:RT:=λK a E E1=>(BB (O8 (CD (AF NL (CB (E3 K) (AJ AE)) GT)) (FZ K "str" (NX K) (tC (.str " ")) (AJ AE)) (tC (.str "-"))))
theorem Mx:type_of%(@A3 _ _ hV.eq_1):=rfl
def VP(K:FK)(a:Ad)(E:XE):TS:=(hV K a E E)
def hX:RT:=λK a E E1=>(DS K AE (DC (G1 (AJ AR)) (AN 0) DH (AF (GO K) (CF (AJ (tC .non))) AR) 1 [2]) "contents")
theorem My:type_of%(@A3 _ _ hX.eq_1):=rfl
def hZ:RT:=λK a E E1=>(DS K AE AY "width")
theorem Mz:type_of%(@A3 _ _ hZ.eq_1):=rfl
def iA:RT:=λK a E E1=>(DS K AE GT "written")
theorem Nb:type_of%(@A3 _ _ iA.eq_1):=rfl
def VQ(K:FK)(a:Ad)(E:XE):TS:=(AH (hX K a E E) (AH (hZ K a E E) (iA K a E E)))
def iB:RT:=λK a E E1=>(BB (CB (E3 K) (AJ (A5 K AE "contents"))))
theorem Nd:type_of%(@A3 _ _ iB.eq_1):=rfl
def VR(K:FK)(a:Ad)(E:XE):TS:=(iB K a E E)
def iC:RT:=λK a E E1=>(BB (A5 K AE "width"))
theorem Ng:type_of%(@A3 _ _ iC.eq_1):=rfl
def VS(K:FK)(a:Ad)(E:XE):TS:=(iC K a E E)
def iD:RT:=λK a E E1=>(FO (a "NoBlock") E (AJ (tC (.str "there is no such block"))))
theorem Nh:type_of%(@A3 _ _ iD.eq_1):=rfl
def iE:RT:=λK a E E1=>(CA (FI (CD (FJ D3 HL GT AR (CB (E3 K) (AJ (A5 K AE "contents")))))) (iD K a E E) CS)
theorem Nj:type_of%(@A3 _ _ iE.eq_1):=rfl
def VT(K:FK)(a:Ad)(E:XE):TS:=(iE K a E E)
def iF:RT:=λK a E E1=>(DS K AE AR "name_blocks")
theorem Nk:type_of%(@A3 _ _ iF.eq_1):=rfl
def iG:RT:=λK a E E1=>(DS K AE AY "record_blocks")
theorem Nl:type_of%(@A3 _ _ iG.eq_1):=rfl
def iH:RT:=λK a E E1=>(DS K AE BS "piece_blocks")
theorem Nm:type_of%(@A3 _ _ iH.eq_1):=rfl
def iI:RT:=λK a E E1=>(DS K AE D5 "width")
theorem Np:type_of%(@A3 _ _ iI.eq_1):=rfl
def VU(K:FK)(a:Ad)(E:XE):TS:=(AH (iF K a E E) (AH (iG K a E E) (AH (iH K a E E) (iI K a E E))))
def iJ:RT:=λK a E E1=>(BB (CF (EJ (AF (GO K) (A5 K AE "name_blocks") (A5 K AE "width")) (AF (GO K) (A5 K AE "record_blocks") (A5 K AE "width")) (AF (GO K) (A5 K AE "piece_blocks") (A5 K AE "width")))))
theorem Nq:type_of%(@A3 _ _ iJ.eq_1):=rfl
def VV(K:FK)(a:Ad)(E:XE):TS:=(iJ K a E E)
def iK:RT:=λK a E E1=>(BB (AF (AX K) (AF (AX K) (A5 K AE "name_blocks") (A5 K AE "record_blocks")) (A5 K AE "piece_blocks")))
theorem Nv:type_of%(@A3 _ _ iK.eq_1):=rfl
def VW(K:FK)(a:Ad)(E:XE):TS:=(iK K a E E)
def iL:RT:=λK a E E1=>(BB (CF (A9 (AF (AX K) AR (AF JC AY (A5 K AE "width"))) (AF GL AY (A5 K AE "width")))))
theorem Nx:type_of%(@A3 _ _ iL.eq_1):=rfl
def VX(K:FK)(a:Ad)(E:XE):TS:=(iL K a E E)
def iM:RT:=λK a E E1=>(BB (AF (DM K) AE AR))
theorem Ny:type_of%(@A3 _ _ iM.eq_1):=rfl
def iN:RT:=λK a E E1=>(CA (CD (AF HL AR (CB (E3 K) (AJ AE)))) (iM K a E E) CS)
theorem Nz:type_of%(@A3 _ _ iN.eq_1):=rfl
def iO:RT:=λK a E E1=>(BB GT)
theorem Pb:type_of%(@A3 _ _ iO.eq_1):=rfl
def VY(K:FK)(a:Ad)(E:XE):TS:=(AH (iN K a E E) (iO K a E E))
def iP:RT:=λK a E E1=>(A4 (tC (.str "abcdefghijklmnopqrstuvwxyz")) (AN 1))
theorem Pc:type_of%(@A3 _ _ iP.eq_1):=rfl
def iQ:RT:=λK a E E1=>(A4 (tC (.str "")) (AN 2))
theorem Pd:type_of%(@A3 _ _ iQ.eq_1):=rfl
def iR:RT:=λK a E E1=>(A4 (AF (AX K) AY (AF (DM K) AR (AF GL (AF (AX K) (AF JC AE RQ) (AF (GO K) (AF (GO K) (AF (AX K) (AF GL (AF JC AE (HF 130)) (HF 11)) F6) BS) BS)) (HF 26)))) (AN 2))
theorem Pg:type_of%(@A3 _ _ iR.eq_1):=rfl
def iS:RT:=λK a E E1=>(EQ (G1 (AJ (AF (AX K) F6 (AF GL AE RQ)))) (AN 3) (iR K a E E))
theorem Ph:type_of%(@A3 _ _ iS.eq_1):=rfl
def iT:RT:=λK a E E1=>(BB AY)
theorem Pj:type_of%(@A3 _ _ iT.eq_1):=rfl
def VZ(K:FK)(a:Ad)(E:XE):TS:=(AH (iP K a E E) (AH (iQ K a E E) (AH (iS K a E E) (iT K a E E))))
def iU:RT:=λK a E E1=>(A4 (AF GL (AF JC AE RQ) (AF (AX K) (CB (E3 K) (AJ AR)) F6)) (AN 2))
theorem Pk:type_of%(@A3 _ _ iU.eq_1):=rfl
def iV:RT:=λK a E E1=>(A4 (B6 (KK (tC (.str "")) (AF (AX K) (AF (AX K) (IX (JE K) AR IV (IW AY)) (tC (.str "A"))) (IX (JE K) AR (IW AY) IV)) (AF (AX K) (AF (AX K) (IX (JE K) AR IV (IW AY)) (tC (.str "7"))) (IX (JE K) AR (IW AY) IV)) (AF (AX K) (AF (AX K) (IX (JE K) AR IV (IW AY)) (tC (.str "_"))) (IX (JE K) AR (IW AY) IV)))) (AN 3))
theorem Pl:type_of%(@A3 _ _ iV.eq_1):=rfl
def iW:RT:=λK a E E1=>(BB (AF (DM K) (AF (AX K) BS (B6 (AJ (tC (.str "abcdefghi"))))) (AF GL AE RQ)))
theorem Pm:type_of%(@A3 _ _ iW.eq_1):=rfl
def V0(K:FK)(a:Ad)(E:XE):TS:=(AH (iU K a E E) (AH (iV K a E E) (iW K a E E)))
def iX:RT:=λK a E E1=>(A4 (AF JC AE (HF 20)) (AN 4))
theorem Pp:type_of%(@A3 _ _ iX.eq_1):=rfl
def iY:RT:=λK a E E1=>(A4 (B6 (A9 (CF (A9 (AF (AX K) (tC (.str "make ")) AY) (tC (.str "NoName")))) (CF (A9 (AF (AX K) (AF (AX K) (AF (AX K) (tC (.str "link ")) AY) (tC (.str " "))) BS) (tC (.str "NoName")))))) (AN 5))
theorem Pq:type_of%(@A3 _ _ iY.eq_1):=rfl
def iZ:RT:=λK a E E1=>(A4 (AF (AX K) DD (B6 (A9 (CF (A9 (AF (AX K) (AF (AX K) (AF (AX K) (tC (.str "link ")) AR) (tC (.str " "))) AY) (tC (.str "NoName")))) (CF (A9 (AF (AX K) (tC (.str "cut ")) AY) (tC (.str "NoName"))))))) (AN 5))
theorem Pw:type_of%(@A3 _ _ iZ.eq_1):=rfl
def i4:RT:=λK a E E1=>(A4 (AF (AX K) DD (B6 (A9 (CF (A9 (AF (AX K) (AF (AX K) (tC (.str "put ")) AY) (tC (.str " a"))) (tC (.str "NoName")))) (CF (A9 (AF (AX K) (AF (AX K) (tC (.str "take ")) AY) (tC (.str " 0"))) (tC (.str "NoName"))))))) (AN 5))
theorem Px:type_of%(@A3 _ _ i4.eq_1):=rfl
def i5:RT:=λK a E E1=>(A4 (AF (AX K) DD (B6 (A9 (CF (A9 (AF (AX K) (AF (AX K) (AF (AX K) (tC (.str "move ")) AY) (tC (.str " "))) BS) (tC (.str "NoName")))) (CF (A9 (AF (AX K) (AF (AX K) (AF (AX K) (tC (.str "move ")) AR) (tC (.str " "))) AY) (tC (.str "NoName"))))))) (AN 5))
theorem Py:type_of%(@A3 _ _ i5.eq_1):=rfl
def i6:RT:=λK a E E1=>(A4 (AF (AX K) DD (B6 (EJ (CF (A9 (AF (AX K) (tC (.str "keep ")) AY) (tC (.str "NoName")))) (CF (A9 (AF (AX K) (tC (.str "show ")) AY) (tC (.str "NoName")))) (CF (A9 (AF (AX K) (tC (.str "cut ")) BS) (tC (.str "NoName"))))))) (AN 5))
theorem Pz:type_of%(@A3 _ _ i6.eq_1):=rfl
def i7:RT:=λK a E E1=>(A4 (AF (AX K) DD (B6 (EJ (CF (A9 (AF (AX K) (tC (.str "keep ")) BS) (tC (.str "NoName")))) (CF (A9 (AF (AX K) (tC (.str "show ")) BS) (tC (.str "NoName")))) (CF (A9 (AF (AX K) (AF (AX K) (tC (.str "put ")) BS) (tC (.str " a"))) (tC (.str "NoName"))))))) (AN 5))
theorem Qb:type_of%(@A3 _ _ i7.eq_1):=rfl
def i8:RT:=λK a E E1=>(A4 (AF (AX K) DD (B6 (A9 (CF (A9 (AF (AX K) (AF (AX K) (tC (.str "put ")) AR) (tC (.str " "))) (tC (.str "NoPiece")))) (CF (A9 (AF (AX K) (AF (AX K) (AF (AX K) (tC (.str "put ")) AR) (tC (.str " "))) (AF (GO K) (tC (.str "x")) (HF 41))) (tC (.str "NoPiece"))))))) (AN 5))
theorem Qc:type_of%(@A3 _ _ i8.eq_1):=rfl
def i9:RT:=λK a E E1=>(A4 (AF (AX K) DD (B6 (A9 (CF (A9 (AF (AX K) (AF (AX K) (AF (AX K) (tC (.str "take ")) AR) (tC (.str " "))) (CB (QE K) (AJ (AF (AX K) F6 (AF GL D5 (HF 999)))))) (tC (.str "NoPiece")))) (CF (A9 (AF (AX K) (tC (.str "make ")) AR) (tC (.str "Twice"))))))) (AN 5))
theorem Qd:type_of%(@A3 _ _ i9.eq_1):=rfl
def jA:RT:=λK a E E1=>(A4 (AF (DM K) (B6 (A9 (tC (.str "link ")) (tC (.str "move ")))) (AF GL D5 ON)) (AN 6))
theorem Qg:type_of%(@A3 _ _ jA.eq_1):=rfl
def jB:RT:=λK a E E1=>(A4 (AF (AX K) DD (B6 (A9 (CF (A9 (AF (AX K) (AF (AX K) (AF (AX K) EO AR) (tC (.str " "))) AR) (tC (.str "Twice")))) (CF (A9 (AF (AX K) (AF (AX K) (AF (AX K) (tC (.str "take ")) BS) (tC (.str " 0"))) (CB (QE K) (AJ (AF GL D5 (HF 10))))) (tC (.str "NoRow"))))))) (AN 5))
theorem Qh:type_of%(@A3 _ _ jB.eq_1):=rfl
def jC:RT:=λK a E E1=>(BB (AF (DM K) DD (AF GL AE (HF 20))))
theorem Qj:type_of%(@A3 _ _ jC.eq_1):=rfl
def V1(K:FK)(a:Ad)(E:XE):TS:=(AH (iX K a E E) (AH (iY K a E E) (AH (iZ K a E E) (AH (i4 K a E E) (AH (i5 K a E E) (AH (i6 K a E E) (AH (i7 K a E E) (AH (i8 K a E E) (AH (i9 K a E E) (AH (jA K a E E) (AH (jB K a E E) (jC K a E E))))))))))))
def jD:RT:=λK a E E1=>(DS K AE AR "ground")
theorem Qk:type_of%(@A3 _ _ jD.eq_1):=rfl
def jE:RT:=λK a E E1=>(DS K AE (B6 BY) "made")
theorem Ql:type_of%(@A3 _ _ jE.eq_1):=rfl
def jF:RT:=λK a E E1=>(DS K AE (DC (G1 (AJ (AV (a "Plank") "blocks" (N0 K a) [] E AR BY))) (AN 0) DH (B6 BY) 1 []) "made_in")
theorem Qm:type_of%(@A3 _ _ jF.eq_1):=rfl
def jG:RT:=λK a E E1=>(DS K AE S9 "latest")
theorem Qp:type_of%(@A3 _ _ jG.eq_1):=rfl
def jH:RT:=λK a E E1=>(DS K AE LF "outs")
theorem Qq:type_of%(@A3 _ _ jH.eq_1):=rfl
def V2(K:FK)(a:Ad)(E:XE):TS:=(AH (jD K a E E) (AH (jE K a E E) (AH (jF K a E E) (AH (jG K a E E) (jH K a E E)))))
def jI:RT:=λK a E E1=>(DO (AV (a "Hold") "ask_for_changes" (N7 K a) [] E AE (AJ AR)))
theorem ME:type_of%(@A3 _ _ jI.eq_1):=rfl
def jJ:RT:=λK a E E1=>(A4 LF (AN 2))
theorem MF:type_of%(@A3 _ _ jJ.eq_1):=rfl
def jK:RT:=λK a E E1=>(J6 AY BS (tC (.bl true)))
theorem MG:type_of%(@A3 _ _ jK.eq_1):=rfl
def jL:RT:=λK a E E1=>(EQ (ED K AR) (AN 3) (jK K a E E))
theorem MH:type_of%(@A3 _ _ jL.eq_1):=rfl
def jM:RT:=λK a E E1=>(J6 AY D5 (tC (.bl true)))
theorem MI:type_of%(@A3 _ _ jM.eq_1):=rfl
def jN:RT:=λK a E E1=>(EQ (ED K (A5 K (AF (DM K) (A5 K AE "made") BS) "needs")) (AN 4) (jM K a E E))
theorem MJ:type_of%(@A3 _ _ jN.eq_1):=rfl
def jO:RT:=λK a E E1=>(CA (tB (NF BS AY)) (jN K a E E) CS)
theorem MK:type_of%(@A3 _ _ jO.eq_1):=rfl
def jP:RT:=λK a E E1=>(EQ (UB K (AJ (AV (a "Hold") "waiting" (N8 K a) [] E AE BY))) (AN 3) (jO K a E E))
theorem ML:type_of%(@A3 _ _ jP.eq_1):=rfl
def jQ:RT:=λK a E E1=>(BB (DC (ED K (AV (a "Hold") "waiting" (N8 K a) [] E AE BY)) (AN 0) (tB (NF AE AR)) AE 1 [2]))
theorem MM:type_of%(@A3 _ _ jQ.eq_1):=rfl
def V3(K:FK)(a:Ad)(E:XE):TS:=(AH (jI K a E E) (AH (jJ K a E E) (AH (jL K a E E) (AH (jP K a E E) (jQ K a E E)))))
def jR:RT:=λK a E E1=>(FO (a "NoBlock") E (AJ (tC (.str "there is no such place on the plank"))))
theorem Qv:type_of%(@A3 _ _ jR.eq_1):=rfl
def jS:RT:=λK a E E1=>(CA (M4 (FI (CD (FJ D3 HL GT (B8 K AR 0) (AV (a "Plank") "blocks" (N0 K a) [] E (A5 K AE "ground") BY)))) (FI (CD (FJ D3 HL GT (B8 K AR 1) (AV (a "Plank") "cells" (QK K a) [] E (A5 K AE "ground") BY))))) (jR K a E E) CS)
theorem Qw:type_of%(@A3 _ _ jS.eq_1):=rfl
def V4(K:FK)(a:Ad)(E:XE):TS:=(jS K a E E)
def jT:RT:=λK a E E1=>(A4 (CB (P9 K) (AJ AY)) (AN 3))
theorem V5:type_of%(@A3 _ _ jT.eq_1):=rfl
def jU:RT:=λK a E E1=>(A4 (B6 BY) (AN 4))
theorem V6:type_of%(@A3 _ _ jU.eq_1):=rfl
def jV:RT:=λK a E E1=>(A4 (B6 BY) (AN 5))
theorem V7:type_of%(@A3 _ _ jV.eq_1):=rfl
def jW:RT:=λK a E E1=>(A4 (AV (a "Hold") "lack_of" (Q3 K a) [] E AE (A9 EO BS)) (AN 7))
theorem V8:type_of%(@A3 _ _ jW.eq_1):=rfl
def jX:RT:=λK a E E1=>(J6 BS EO (tC (.bl true)))
theorem V9:type_of%(@A3 _ _ jX.eq_1):=rfl
def jY:RT:=λK a E E1=>(DO (FZ K "list" LP D5 (AJ EO)))
theorem WA:type_of%(@A3 _ _ jY.eq_1):=rfl
def jZ:RT:=λK a E E1=>(DO (FZ K "list" LP DD (AJ (CF (A9 EO OO)))))
theorem WB:type_of%(@A3 _ _ jZ.eq_1):=rfl
def j2:RT:=λK a E E1=>(CA (CD (AF LM OO (tC .non))) (AH (jX K a E E) (jY K a E E)) (jZ K a E E))
theorem WC:type_of%(@A3 _ _ j2.eq_1):=rfl
def j3:RT:=λK a E E1=>(CA (KZ (tB (JA EO (A5 K AE "outs"))) (tB (JA EO BS))) (AH (jW K a E E) (j2 K a E E)) CS)
theorem WD:type_of%(@A3 _ _ j3.eq_1):=rfl
def j4:RT:=λK a E E1=>(EQ (ED K (AF (DM K) (A5 K AE "made_in") AR)) (AN 6) (j3 K a E E))
theorem WE:type_of%(@A3 _ _ j4.eq_1):=rfl
def j5:RT:=λK a E E1=>(BB (CF (A9 D5 DD)))
theorem WF:type_of%(@A3 _ _ j5.eq_1):=rfl
def WG(K:FK)(a:Ad)(E:XE):TS:=(AH (jT K a E E) (AH (jU K a E E) (AH (jV K a E E) (AH (j4 K a E E) (j5 K a E E)))))
def j6:RT:=λK a E E1=>(BB (IQ (FJ D3 D3 F6 (CB (E3 K) (AJ AE)) (HF 40)) (CB (LS K) (AJ (DC (NU AE) (AN 0) DH (CW (RC K a) [] (λ_=>E0) (AJ AE)) 1 [])))))
theorem Qx:type_of%(@A3 _ _ j6.eq_1):=rfl
def WH(K:FK)(a:Ad)(E:XE):TS:=(j6 K a E E)
def j7:RT:=λK a E E1=>(A4 (B8 K (FZ K "str" fC AE (AJ (tC (.str " ")))) 0) (AN 1))
theorem Qy:type_of%(@A3 _ _ j7.eq_1):=rfl
def j8:RT:=λK a E E1=>(FO (a "NoRow") E (AJ (tC (.str "the row begins with no word that is known"))))
theorem Qz:type_of%(@A3 _ _ j8.eq_1):=rfl
def j9:RT:=λK a E E1=>(CA (tB (US MA AR)) (j8 K a E E) CS)
theorem Rb:type_of%(@A3 _ _ j9.eq_1):=rfl
def kA:RT:=λK a E E1=>(A4 (O8 (CD (AF (CI K) AR (tC (.str "put")))) (FZ K "str" UQ AE (A9 (tC (.str " ")) ON)) (FZ K "str" UQ AE (AJ (tC (.str " "))))) (AN 2))
theorem Rc:type_of%(@A3 _ _ kA.eq_1):=rfl
def kB:RT:=λK a E E1=>(FO (a "NoRow") E (AJ (tC (.str "the row has too few words or too many"))))
theorem Rg:type_of%(@A3 _ _ kB.eq_1):=rfl
def WI:RT:=λK a E E1=>(CA (CD (AF (D6 K) (CB (E3 K) (AJ AY)) (UT MA AR))) (kB K a E E) CS)
theorem Rh:type_of%(@A3 _ _ WI.eq_1):=rfl
def kC:RT:=λK a E E1=>(FO (a "NoRow") E (AJ (tC (.str "the last word is no number of one to three figures"))))
theorem Rj:type_of%(@A3 _ _ kC.eq_1):=rfl
def WJ:RT:=λK a E E1=>(CA (KZ (CD (AF (NW K) AR (tC (.ref (a "WITH_A_NUMBER_LAST"))))) (FI (JD K (CW (RK K a) [] E (AJ (AF (DM K) AY (SO dD F6))))))) (kC K a E E) CS)
theorem Rk:type_of%(@A3 _ _ WJ.eq_1):=rfl
def WK:RT:=λK a E E1=>(BB AY)
theorem kD:type_of%(@A3 _ _ WK.eq_1):=rfl
def WL(K:FK)(a:Ad)(E:XE):TS:=(AH (j7 K a E E) (AH (j9 K a E E) (AH (kA K a E E) (AH (WI K a E E) (AH (WJ K a E E) (WK K a E E))))))
def kE:RT:=λK a E E1=>(DO (AV (a "Plank") "ask_for_block" (N1 K a) [] E AE (AJ AR)))
theorem Rl:type_of%(@A3 _ _ kE.eq_1):=rfl
def kG:RT:=λK a E E1=>(BB (CB (NM K) (AJ (AF (DM K) (A5 K AE "contents") AR))))
theorem Rm:type_of%(@A3 _ _ kG.eq_1):=rfl
def WM(K:FK)(a:Ad)(E:XE):TS:=(AH (kE K a E E) (kG K a E E))
def kH:RT:=λK a E E1=>(BB (AV (a "Layout") "place_from" (JJ K a) [] E AE (A9 GT AR)))
theorem Rp:type_of%(@A3 _ _ kH.eq_1):=rfl
def WN(K:FK)(a:Ad)(E:XE):TS:=(kH K a E E)
def kJ:RT:=λK a E E1=>(BB (AV (a "Layout") "place_from" (JJ K a) [] E AE (A9 (A5 K AE "name_blocks") AR)))
theorem Rq:type_of%(@A3 _ _ kJ.eq_1):=rfl
def WO(K:FK)(a:Ad)(E:XE):TS:=(kJ K a E E)
def kK:RT:=λK a E E1=>(BB (AV (a "Layout") "place_from" (JJ K a) [] E AE (A9 (AF (AX K) (A5 K AE "name_blocks") (A5 K AE "record_blocks")) AR)))
theorem Rv:type_of%(@A3 _ _ kK.eq_1):=rfl
def WP(K:FK)(a:Ad)(E:XE):TS:=(kK K a E E)
def kL:RT:=λK a E E1=>(BB (AV (a "Layout") "place_from" (JJ K a) [] E AE (A9 (AV (a "Layout") "blocks_ahead_of_marks" (LY K a) [] E AE BY) AR)))
theorem Rw:type_of%(@A3 _ _ kL.eq_1):=rfl
def WQ(K:FK)(a:Ad)(E:XE):TS:=(kL K a E E)
def kM:RT:=λK a E E1=>(BB (AV (a "Layout") "place_from" (JJ K a) [] E AE (A9 (AF (AX K) (AV (a "Layout") "blocks_ahead_of_marks" (LY K a) [] E AE BY) (A5 K AE "record_blocks")) AR)))
theorem Rx:type_of%(@A3 _ _ kM.eq_1):=rfl
def WR(K:FK)(a:Ad)(E:XE):TS:=(kM K a E E)
def kN:RT:=λK a E E1=>(BB (AF (AX K) (AF (AX K) (AV (a "Layout") "blocks_ahead_of_marks" (LY K a) [] E AE BY) (A5 K AE "record_blocks")) (A5 K AE "piece_blocks")))
theorem Ry:type_of%(@A3 _ _ kN.eq_1):=rfl
def WS(K:FK)(a:Ad)(E:XE):TS:=(kN K a E E)
def kO:RT:=λK a E E1=>(A4 (B6 BY) (AN 2))
theorem Rz:type_of%(@A3 _ _ kO.eq_1):=rfl
def kP:RT:=λK a E E1=>(A4 LF (AN 3))
theorem Sb:type_of%(@A3 _ _ kP.eq_1):=rfl
def kQ:RT:=λK a E E1=>(A4 (AV (a "Hold") "closure" (Q2 K a) [] E AE (AJ AR)) (AN 4))
theorem Sd:type_of%(@A3 _ _ kQ.eq_1):=rfl
def kR:RT:=λK a E E1=>(A4 (AV (a "Hold") "block_of" (Q5 K a) [] E AE (AJ (B8 K D5 0))) (AN 5))
theorem Sg:type_of%(@A3 _ _ kR.eq_1):=rfl
def kS:RT:=λK a E E1=>(DO (FZ K "list" LP AY (AJ DD)))
theorem Sh:type_of%(@A3 _ _ kS.eq_1):=rfl
def kU:RT:=λK a E E1=>(J6 BS EO (tC (.bl true)))
theorem Sj:type_of%(@A3 _ _ kU.eq_1):=rfl
def kW:RT:=λK a E E1=>(EQ (ED K (B8 K (AV (a "Hold") "outcome" (Q4 K a) [] E AE (A9 DD BS)) 0)) (AN 6) (kU K a E E))
theorem Sk:type_of%(@A3 _ _ kW.eq_1):=rfl
def kX:RT:=λK a E E1=>(A4 (DC (ED K D5) (AN 0) (tB (JA AE AR)) AE 1 [3]) (AN 4))
theorem Sl:type_of%(@A3 _ _ kX.eq_1):=rfl
def kY:RT:=λK a E E1=>(bD (JD K D5) (AH (kR K a E E) (AH (kS K a E E) (AH (kW K a E E) (kX K a E E)))))
theorem Sm:type_of%(@A3 _ _ kY.eq_1):=rfl
def kZ:RT:=λK a E E1=>(BB AY)
theorem Sq:type_of%(@A3 _ _ kZ.eq_1):=rfl
def WT(K:FK)(a:Ad)(E:XE):TS:=(AH (kO K a E E) (AH (kP K a E E) (AH (kQ K a E E) (AH (kY K a E E) (kZ K a E E)))))
def k7:RT:=λK a E E1=>(DO (AV (a "Hold") "ask_for_place" (Q1 K a) [] E AE (AJ AR)))
theorem Sv:type_of%(@A3 _ _ k7.eq_1):=rfl
def k8:RT:=λK a E E1=>(BB (TC (A5 K AE "latest") AR))
theorem Sw:type_of%(@A3 _ _ k8.eq_1):=rfl
def WU(K:FK)(a:Ad)(E:XE):TS:=(AH (k7 K a E E) (k8 K a E E))
def k9:RT:=λK a E E1=>(BB (HY (a "Plank") (QJ K a) [] E (A9 (AV (a "Layout") "blocks" (QV K a) [] E AE BY) (A5 K AE "width"))))
theorem Sx:type_of%(@A3 _ _ k9.eq_1):=rfl
def WV(K:FK)(a:Ad)(E:XE):TS:=(k9 K a E E)
def lA:RT:=λK a E E1=>(A4 (AV (a "Hold") "newest" (L5 K a) [] E AE (AJ AR)) (AN 4))
theorem Sy:type_of%(@A3 _ _ lA.eq_1):=rfl
def lB:RT:=λK a E E1=>(DO (AV (a "Hold") "ask_for_changes" (N7 K a) [] E AE (AJ BS)))
theorem Sz:type_of%(@A3 _ _ lB.eq_1):=rfl
def lC:RT:=λK a E E1=>(A4 (CB (E3 K) (AJ (A5 K AE "made"))) (AN 5))
theorem Tb:type_of%(@A3 _ _ lC.eq_1):=rfl
def lD:RT:=λK a E E1=>(DO (FZ K "list" LP (A5 K AE "made") (AJ (HY (a "Change") (QZ K a) [] E (EJ AR AY (CW (Q0 K a) [] E (A9 BS D5)))))))
theorem Tc:type_of%(@A3 _ _ lD.eq_1):=rfl
def lE:RT:=λK a E E1=>(DO (FZ K "list" LP (AF (DM K) (A5 K AE "made_in") (B8 K AR 0)) (AJ DD)))
theorem Td:type_of%(@A3 _ _ lE.eq_1):=rfl
def lF:RT:=λK a E E1=>(J6 (A5 K AE "latest") AR DD)
theorem Tg:type_of%(@A3 _ _ lF.eq_1):=rfl
def lG:RT:=λK a E E1=>(BB DD)
theorem Th:type_of%(@A3 _ _ lG.eq_1):=rfl
def WW(K:FK)(a:Ad)(E:XE):TS:=(AH (lA K a E E) (AH (lB K a E E) (AH (lC K a E E) (AH (lD K a E E) (AH (lE K a E E) (AH (lF K a E E) (lG K a E E)))))))
def lH:RT:=λK a E E1=>(A4 (AV (a "Hold") "newest" (L5 K a) [] E AE (AJ AR)) (AN 2))
theorem Tj:type_of%(@A3 _ _ lH.eq_1):=rfl
def lI:RT:=λK a E E1=>(BB (AF (DM K) (AV (a "Plank") "read" (QL K a) [] E (A5 K AE "ground") (AJ (B8 K AR 0))) (B8 K AR 1)))
theorem Tk:type_of%(@A3 _ _ lI.eq_1):=rfl
def lJ:RT:=λK a E E1=>(CA (CD (AF LM AY (tC .non))) (lI K a E E) CS)
theorem Tl:type_of%(@A3 _ _ lJ.eq_1):=rfl
def lK:RT:=λK a E E1=>(BB (A5 K (AF (DM K) (A5 K AE "made") AY) "value"))
theorem Tm:type_of%(@A3 _ _ lK.eq_1):=rfl
def WX(K:FK)(a:Ad)(E:XE):TS:=(AH (lH K a E E) (AH (lJ K a E E) (lK K a E E)))
def lL:RT:=λK a E E1=>(DS K AE AR "plan")
theorem Tp:type_of%(@A3 _ _ lL.eq_1):=rfl
def lM:RT:=λK a E E1=>(DS K AE (HY (a "Hold") (N6 K a) [] E (AJ AY)) "book")
theorem Tq:type_of%(@A3 _ _ lM.eq_1):=rfl
def lN:RT:=λK a E E1=>(DS K AE LF "taken_out")
theorem Tv:type_of%(@A3 _ _ lN.eq_1):=rfl
def WY(K:FK)(a:Ad)(E:XE):TS:=(AH (lL K a E E) (AH (lM K a E E) (lN K a E E)))
def lO:RT:=λK a E E1=>(BB BS)
theorem Tw:type_of%(@A3 _ _ lO.eq_1):=rfl
def lP:RT:=λK a E E1=>(CA (CD (AF (QD K) (AV (a "Hold") "in_hand" (KE K a) [] E AE (AJ D5)) AY)) (lO K a E E) CS)
theorem Tx:type_of%(@A3 _ _ lP.eq_1):=rfl
def lQ:RT:=λK a E E1=>(EQ (NZ K (AJ AR)) (M7 K 2 (IS (AN 3) (IS (AN 4) M5))) (lP K a E E))
theorem Ty:type_of%(@A3 _ _ lQ.eq_1):=rfl
def lR:RT:=λK a E E1=>(FO (a "NoRoom") E (AJ (tC (.str "nothing of what is to be taken is free"))))
theorem Tz:type_of%(@A3 _ _ lR.eq_1):=rfl
def WZ(K:FK)(a:Ad)(E:XE):TS:=(AH (lQ K a E E) (lR K a E E))
def lS:RT:=λK a E E1=>(BB (DC (G1 (AJ (B8 K (AV (a "Layout") "counts" (KC K a) [] E (A5 K AE "plan") BY) 0))) (AN 0) DH (AV (a "Hold") "in_hand" (KE K a) [] (λ_=>E0) (A5 K AR "book") (AJ (AV (a "Layout") "name_at" (JK K a) [] (λ_=>E0) (A5 K AR "plan") (AJ AE)))) 1 [0]))
theorem Ub:type_of%(@A3 _ _ lS.eq_1):=rfl
def W0(K:FK)(a:Ad)(E:XE):TS:=(lS K a E E)
def lT:RT:=λK a E E1=>(BB (AV (a "Hold") "in_hand" (KE K a) [] E (A5 K AE "book") (AJ (AV (a "Layout") "record_at" (JL K a) [] E (A5 K AE "plan") (AJ AR)))))
theorem Uc:type_of%(@A3 _ _ lT.eq_1):=rfl
def W3(K:FK)(a:Ad)(E:XE):TS:=(lT K a E E)
def lU:RT:=λK a E E1=>(A4 (B6 (AJ D5)) (AN 5))
theorem Ud:type_of%(@A3 _ _ lU.eq_1):=rfl
def lV:RT:=λK a E E1=>(DO (FZ K "list" LP DD (AJ (S7 (A5 K AE "taken_out") AY))))
theorem Ug:type_of%(@A3 _ _ lV.eq_1):=rfl
def lW:RT:=λK a E E1=>(CA (tB (NF AY (A5 K AE "taken_out"))) (lV K a E E) CS)
theorem Uh:type_of%(@A3 _ _ lW.eq_1):=rfl
def W4:RT:=λK a E E1=>(BB (AV (a "Hold") "change" (HQ K a) [] E (A5 K AE "book") (EJ (AV (a "Layout") "name_at" (JK K a) [] E (A5 K AE "plan") (AJ AR)) (CF (A9 AY BS)) DD)))
theorem Uj:type_of%(@A3 _ _ W4.eq_1):=rfl
def W5(K:FK)(a:Ad)(E:XE):TS:=(AH (lU K a E E) (AH (lW K a E E) (W4 K a E E)))
def lX:RT:=λK a E E1=>(A4 (DC (G1 (AJ (B8 K (AV (a "Layout") "counts" (KC K a) [] E AE BY) 0))) (AN 0) DH (AV (a "Layout") "name_at" (JK K a) [] (λ_=>E0) AR (AJ AE)) 1 [0]) (AN 2))
theorem Uk:type_of%(@A3 _ _ lX.eq_1):=rfl
def lY:RT:=λK a E E1=>(BB (CW (KF K a) [] E (EJ AR AY (CF (AJ (tC .non))))))
theorem Ul:type_of%(@A3 _ _ lY.eq_1):=rfl
def W6(K:FK)(a:Ad)(E:XE):TS:=(AH (lX K a E E) (lY K a E E))
def lZ:RT:=λK a E E1=>(A4 (DC (G1 (AJ (B8 K (AV (a "Layout") "counts" (KC K a) [] E AE BY) 1))) (AN 0) DH (AV (a "Layout") "record_mark" (LW K a) [] (λ_=>E0) AR (AJ AE)) 1 [0]) (AN 2))
theorem Um:type_of%(@A3 _ _ lZ.eq_1):=rfl
def mB:RT:=λK a E E1=>(BB (CW (KF K a) [] E (EJ AR AY (CF (A9 (tC .non) GT)))))
theorem Up:type_of%(@A3 _ _ mB.eq_1):=rfl
def W7(K:FK)(a:Ad)(E:XE):TS:=(AH (lZ K a E E) (mB K a E E))
def mC:RT:=λK a E E1=>(A4 (DC (G1 (AJ (B8 K (AV (a "Layout") "counts" (KC K a) [] E AE BY) 2))) (AN 0) DH (AV (a "Layout") "piece_mark" (LX K a) [] (λ_=>E0) AR (AJ AE)) 1 [0]) (AN 2))
theorem Uq:type_of%(@A3 _ _ mC.eq_1):=rfl
def mD:RT:=λK a E E1=>(BB (CW (KF K a) [] E (EJ AR AY (CF (A9 (tC .non) GT)))))
theorem Uv:type_of%(@A3 _ _ mD.eq_1):=rfl
def W8(K:FK)(a:Ad)(E:XE):TS:=(AH (mC K a E E) (mD K a E E))
def mE:RT:=λK a E E1=>(BB (CB (eY K) (AJ (DC (ED K (AV (a "Store") "name_cells" (L7 K a) [] E AE BY)) (AN 0) (CD (AF LN AE (tC .non))) (B8 K AE 0) 1 []))))
theorem Uw:type_of%(@A3 _ _ mE.eq_1):=rfl
def W9(K:FK)(a:Ad)(E:XE):TS:=(mE K a E E)
def mF:RT:=λK a E E1=>(BB AY)
theorem Ux:type_of%(@A3 _ _ mF.eq_1):=rfl
def mG:RT:=λK a E E1=>(CA (KZ (CD (AF LN BS (tC .non))) (CD (AF (CI K) (B8 K BS 0) AR))) (mF K a E E) CS)
theorem Uy:type_of%(@A3 _ _ mG.eq_1):=rfl
def mH:RT:=λK a E E1=>(EQ (NZ K (AJ (AV (a "Store") "name_cells" (L7 K a) [] E AE BY))) (M7 K 2 (IS (AN 2) (IS (AN 3) M5))) (mG K a E E))
theorem Uz:type_of%(@A3 _ _ mH.eq_1):=rfl
def mI:RT:=λK a E E1=>(BB (tC .non))
theorem Vb:type_of%(@A3 _ _ mI.eq_1):=rfl
def XA(K:FK)(a:Ad)(E:XE):TS:=(AH (mH K a E E) (mI K a E E))
def mJ:RT:=λK a E E1=>(BB (AV (a "Hold") "change" (HQ K a) [] E (A5 K AE "book") (EJ (AV (a "Layout") "record_at" (JL K a) [] E (A5 K AE "plan") (AJ AR)) (CF (A9 (B8 K (AV (a "Store") "standing" (JR K a) [] E AE (AJ AR)) 0) AY)) BS)))
theorem Vc:type_of%(@A3 _ _ mJ.eq_1):=rfl
def XB(K:FK)(a:Ad)(E:XE):TS:=(mJ K a E E)
def mK:RT:=λK a E E1=>(DS K AE AR "plan")
theorem Vd:type_of%(@A3 _ _ mK.eq_1):=rfl
def mM:RT:=λK a E E1=>(DS K AE (AV (a "Layout") "plank" (QW K a) [] E AR BY) "ground")
theorem Vg:type_of%(@A3 _ _ mM.eq_1):=rfl
def mO:RT:=λK a E E1=>(DS K AE (HY (a "Store") (RF K a) [] E (A9 AR (A5 K AE "ground"))) "store")
theorem Vh:type_of%(@A3 _ _ mO.eq_1):=rfl
def XC(K:FK)(a:Ad)(E:XE):TS:=(AH (mK K a E E) (AH (mM K a E E) (mO K a E E)))
def mP:RT:=λK a E E1=>(FO (a "NoName") E (AJ (tC (.str "the text is no name"))))
theorem Vj:type_of%(@A3 _ _ mP.eq_1):=rfl
def mQ:RT:=λK a E E1=>(CA (FI (JD K (CB (LS K) (AJ (DC (ED K AY) (AN 0) DH (CW (RD K a) [] (λ_=>E0) (AJ AE)) 1 []))))) (mP K a E E) CS)
theorem Vk:type_of%(@A3 _ _ mQ.eq_1):=rfl
def mR:RT:=λK a E E1=>(FO (a "Twice") E (AJ (tC (.str "the new name stands already"))))
theorem Vl:type_of%(@A3 _ _ mR.eq_1):=rfl
def mS:RT:=λK a E E1=>(CA (CD (AF LN (AV (a "Store") "cell_of" (L8 K a) [] E AE (AJ AR)) (tC .non))) (mR K a E E) CS)
theorem Vm:type_of%(@A3 _ _ mS.eq_1):=rfl
def XD(K:FK)(a:Ad)(E:XE):TS:=(AH (mQ K a E E) (mS K a E E))
def mT:RT:=λK a E E1=>(A4 (AV (a "Store") "cell_of" (L8 K a) [] E AE (AJ AR)) (AN 2))
theorem Vp:type_of%(@A3 _ _ mT.eq_1):=rfl
def mU:RT:=λK a E E1=>(FO (a "NoName") E (AJ (tC (.str "no such name stands"))))
theorem Vq:type_of%(@A3 _ _ mU.eq_1):=rfl
def mV:RT:=λK a E E1=>(CA (CD (AF LM AY (tC .non))) (mU K a E E) CS)
theorem Vv:type_of%(@A3 _ _ mV.eq_1):=rfl
def mW:RT:=λK a E E1=>(BB (B8 K (AF (DM K) (AV (a "Store") "name_cells" (L7 K a) [] E AE BY) AY) 1))
theorem Vw:type_of%(@A3 _ _ mW.eq_1):=rfl
def XF(K:FK)(a:Ad)(E:XE):TS:=(AH (mT K a E E) (AH (mV K a E E) (mW K a E E)))
def mX:RT:=λK a E E1=>(DO (AV (a "Store") "ask_for_new_name" (OC K a) [] E AE (A9 AR (B6 (AJ AR)))))
theorem Vx:type_of%(@A3 _ _ mX.eq_1):=rfl
def mY:RT:=λK a E E1=>(A4 (CW (RA K a) [] E (A9 (A5 K AE "plan") (A5 K AE "book"))) (AN 2))
theorem Vy:type_of%(@A3 _ _ mY.eq_1):=rfl
def mZ:RT:=λK a E E1=>(A4 (CW (Q9 K a) [] E (A9 (A5 K AE "plan") (A5 K AE "book"))) (AN 3))
theorem Vz:type_of%(@A3 _ _ mZ.eq_1):=rfl
def m4:RT:=λK a E E1=>(A4 (AV (a "Hold") "change" (HQ K a) [] E (A5 K AE "book") (EJ (AV (a "Layout") "record_mark" (LW K a) [] E (A5 K AE "plan") (AJ AY)) F6 (B6 BY))) (AN 4))
theorem Wb:type_of%(@A3 _ _ m4.eq_1):=rfl
def m6:RT:=λK a E E1=>(A4 (AV (a "Hold") "change" (HQ K a) [] E (A5 K AE "book") (EJ (AV (a "Layout") "record_at" (JL K a) [] E (A5 K AE "plan") (AJ AY)) (CF (A9 F6 (CF BY))) (B6 (AJ D5)))) (AN 5))
theorem Wc:type_of%(@A3 _ _ m6.eq_1):=rfl
def m7:RT:=λK a E E1=>(BB (B6 (EJ D5 DD (AV (a "Store") "fill_cell" (RH K a) [] E AE (KK BS AR AY DD)))))
theorem Wd:type_of%(@A3 _ _ m7.eq_1):=rfl
def XG(K:FK)(a:Ad)(E:XE):TS:=(AH (mX K a E E) (AH (mY K a E E) (AH (mZ K a E E) (AH (m4 K a E E) (AH (m6 K a E E) (m7 K a E E))))))
def m8:RT:=λK a E E1=>(DO (AV (a "Store") "ask_for_new_name" (OC K a) [] E AE (A9 AY (B6 (A9 AR AY)))))
theorem Wg:type_of%(@A3 _ _ m8.eq_1):=rfl
def Wh:RT:=λK a E E1=>(A4 E6 (AN 3))
def Wj:RT:=λK a E E1=>(A4 E6 (AN 4))
def Wk:RT:=λK a E E1=>(A4 E6 (AN 5))
def Wl:RT:=λK a E E1=>(BB (B6 (A9 DD E6)))
def XH(K:FK)(a:Ad)(E:XE):TS:=(AH (m8 K a E E) (AH (Wh K a E E) (AH (Wj K a E E) (AH (Wk K a E E) (Wl K a E E)))))
def m9:RT:=λK a E E1=>(A4 (AV (a "Store") "record_of" (JQ K a) [] E AE (AJ AR)) (AN 2))
theorem Wm:type_of%(@A3 _ _ m9.eq_1):=rfl
def Wp:RT:=λK a E E1=>(A4 E6 (AN 3))
def Wq:RT:=λK a E E1=>(BB (B6 (A9 BS E6)))
def Wv:RT:=λK a E E1=>(CA (CD (AF NL (B8 K E6 0) F6)) (Wq K a E E) CS)
def Ww:RT:=λK a E E1=>(BB (AF (AX K) (B6 (AJ BS)) E6))
def XI(K:FK)(a:Ad)(E:XE):TS:=(AH (m9 K a E E) (AH (Wp K a E E) (AH (Wv K a E E) (Ww K a E E))))
def nA:RT:=λK a E E1=>(A4 (AV (a "Store") "record_of" (JQ K a) [] E AE (AJ AR)) (AN 3))
theorem Wx:type_of%(@A3 _ _ nA.eq_1):=rfl
def nB:RT:=λK a E E1=>(FO (a "NoPiece") E (AJ (tC (.str "the text is none of a piece"))))
theorem Wy:type_of%(@A3 _ _ nB.eq_1):=rfl
def nD:RT:=λK a E E1=>(CA (FI (JD K (CW (RE K a) [] E (AJ AY)))) (nB K a E E) CS)
theorem Wz:type_of%(@A3 _ _ nD.eq_1):=rfl
def nE:RT:=λK a E E1=>(A4 (CW (RB K a) [] E (A9 (A5 K AE "plan") (A5 K AE "book"))) (AN 4))
theorem Xb:type_of%(@A3 _ _ nE.eq_1):=rfl
def nF:RT:=λK a E E1=>(A4 (AV (a "Hold") "change" (HQ K a) [] E (A5 K AE "book") (EJ (AV (a "Layout") "piece_mark" (LX K a) [] E (A5 K AE "plan") (AJ D5)) F6 (B6 BY))) (AN 5))
theorem Xc:type_of%(@A3 _ _ nF.eq_1):=rfl
def nH:RT:=λK a E E1=>(A4 (AV (a "Hold") "change" (HQ K a) [] E (A5 K AE "book") (EJ (AV (a "Layout") "piece_at" (KB K a) [] E (A5 K AE "plan") (AJ D5)) AY (B6 (AJ DD)))) (AN 6))
theorem Xd:type_of%(@A3 _ _ nH.eq_1):=rfl
def nJ:RT:=λK a E E1=>(BB (B6 (EJ DD EO (AV (a "Store") "regroup" (RI K a) [] E AE (EJ BS (AF (AX K) (B8 K (AV (a "Store") "standing" (JR K a) [] E AE (AJ BS)) 1) (CF (AJ D5))) (B6 (AJ EO)))))))
theorem Xg:type_of%(@A3 _ _ nJ.eq_1):=rfl
def XJ(K:FK)(a:Ad)(E:XE):TS:=(AH (nA K a E E) (AH (nD K a E E) (AH (nE K a E E) (AH (nF K a E E) (AH (nH K a E E) (nJ K a E E))))))
def nK:RT:=λK a E E1=>(A4 (AV (a "Store") "record_of" (JQ K a) [] E AE (AJ AR)) (AN 3))
theorem Xh:type_of%(@A3 _ _ nK.eq_1):=rfl
def nQ:RT:=λK a E E1=>(A4 (B8 K (AV (a "Store") "standing" (JR K a) [] E AE (AJ BS)) 1) (AN 4))
theorem Xj:type_of%(@A3 _ _ nQ.eq_1):=rfl
def nR:RT:=λK a E E1=>(FO (a "NoPiece") E (AJ (tC (.str "the record has no piece at that place"))))
theorem nS:type_of%(@A3 _ _ nR.eq_1):=rfl
def nT:RT:=λK a E E1=>(CA (FI (CD (FJ D3 HL GT AY (CB (E3 K) (AJ D5))))) (nR K a E E) CS)
theorem Xk:type_of%(@A3 _ _ nT.eq_1):=rfl
def Xl:RT:=λK a E E1=>(A4 E6 (AN 5))
def Xm:RT:=λK a E E1=>(BB (B6 (A9 DD E6)))
def XL(K:FK)(a:Ad)(E:XE):TS:=(AH (nK K a E E) (AH (nQ K a E E) (AH (nT K a E E) (AH (Xl K a E E) (Xm K a E E)))))
def nU:RT:=λK a E E1=>(A4 (B8 K (AV (a "Store") "standing" (JR K a) [] E AE (AJ (AV (a "Store") "record_of" (JQ K a) [] E AE (AJ AR)))) 1) (AN 2))
theorem Xp:type_of%(@A3 _ _ nU.eq_1):=rfl
def nX:RT:=λK a E E1=>(BB (DC (ED K AY) (AN 0) DH (AV (a "Hold") "in_hand" (KE K a) [] (λ_=>E0) (A5 K AR "book") (AJ (AV (a "Layout") "piece_at" (KB K a) [] (λ_=>E0) (A5 K AR "plan") (AJ AE)))) 1 [0]))
theorem Xq:type_of%(@A3 _ _ nX.eq_1):=rfl
def XM(K:FK)(a:Ad)(E:XE):TS:=(AH (nU K a E E) (nX K a E E))
def nY:RT:=λK a E E1=>(A4 (AV (a "Store") "record_of" (JQ K a) [] E AE (AJ AR)) (AN 2))
theorem Xv:type_of%(@A3 _ _ nY.eq_1):=rfl
def nZ:RT:=λK a E E1=>(A4 (B6 (A9 (AV (a "Layout") "name_at" (JK K a) [] E (A5 K AE "plan") (AJ (AV (a "Store") "cell_of" (L8 K a) [] E AE (AJ AR)))) (AV (a "Layout") "record_at" (JL K a) [] E (A5 K AE "plan") (AJ AY)))) (AN 3))
theorem Xw:type_of%(@A3 _ _ nZ.eq_1):=rfl
def n5:RT:=λK a E E1=>(BB (AF (AX K) BS (DC (ED K (B8 K (AV (a "Store") "standing" (JR K a) [] E AE (AJ AY)) 1)) (AN 0) DH (AV (a "Layout") "piece_at" (KB K a) [] (λ_=>E0) (A5 K AR "plan") (AJ AE)) 1 [0])))
theorem Xx:type_of%(@A3 _ _ n5.eq_1):=rfl
def XN(K:FK)(a:Ad)(E:XE):TS:=(AH (nY K a E E) (AH (nZ K a E E) (n5 K a E E)))
def n6:RT:=λK a E E1=>(A4 (AV (a "Store") "link" (KH K a) [] E AE (A9 AR AY)) (AN 3))
theorem Xy:type_of%(@A3 _ _ n6.eq_1):=rfl
def Xz:RT:=λK a E E1=>(A4 E6 (AN 4))
def Yb:RT:=λK a E E1=>(A4 E6 (AN 5))
def Yc:RT:=λK a E E1=>(BB (AF (AX K) BS (B6 (A9 DD E6))))
def XO(K:FK)(a:Ad)(E:XE):TS:=(AH (n6 K a E E) (AH (Xz K a E E) (AH (Yb K a E E) (Yc K a E E))))
def n8:RT:=λK a E E1=>(A4 (AV (a "Store") "hold" (RG K a) [] E AE BY) (AN 2))
theorem Yd:type_of%(@A3 _ _ n8.eq_1):=rfl
def oA:RT:=λK a E E1=>(A4 (DC (ED K (AV (a "Store") "places_of" (RJ K a) [] E AE (AJ AR))) (AN 0) DH (AV (a "Hold") "newest" (L5 K a) [] (λ_=>E0) AR (AJ AE)) 1 [2]) (AN 3))
theorem Yg:type_of%(@A3 _ _ oA.eq_1):=rfl
def oB:RT:=λK a E E1=>(BB (CW (Q6 K a) [] E (A9 AY (DC (ED K BS) (AN 0) (CD (AF LN AE (tC .non))) AE 1 []))))
theorem Yh:type_of%(@A3 _ _ oB.eq_1):=rfl
def XQ(K:FK)(a:Ad)(E:XE):TS:=(AH (n8 K a E E) (AH (oA K a E E) (oB K a E E)))
def oC:RT:=λK a E E1=>(A4 (B8 K AR 0) (AN 2))
theorem Yj:type_of%(@A3 _ _ oC.eq_1):=rfl
def oE:RT:=λK a E E1=>(DO (AV (a "Store") "make" (OE K a) [] E AE (AJ (B8 K AR 1))))
theorem Yk:type_of%(@A3 _ _ oE.eq_1):=rfl
def oF:RT:=λK a E E1=>(DO (AV (a "Store") "link" (KH K a) [] E AE (A9 (B8 K AR 1) (B8 K AR 2))))
theorem Yl:type_of%(@A3 _ _ oF.eq_1):=rfl
def oG:RT:=λK a E E1=>(DO (AV (a "Store") "cut" (OI K a) [] E AE (AJ (B8 K AR 1))))
theorem Ym:type_of%(@A3 _ _ oG.eq_1):=rfl
def oH:RT:=λK a E E1=>(DO (AV (a "Store") "put" (OF K a) [] E AE (A9 (B8 K AR 1) (B8 K AR 2))))
theorem Yp:type_of%(@A3 _ _ oH.eq_1):=rfl
def oI:RT:=λK a E E1=>(DO (AV (a "Store") "take" (OJ K a) [] E AE (A9 (B8 K AR 1) (CB (fE K) (AJ (B8 K AR 2))))))
theorem Yq:type_of%(@A3 _ _ oI.eq_1):=rfl
def oJ:RT:=λK a E E1=>(DO (AV (a "Store") "move" (OH K a) [] E AE (A9 (B8 K AR 1) (B8 K AR 2))))
theorem Yv:type_of%(@A3 _ _ oJ.eq_1):=rfl
def oK:RT:=λK a E E1=>(CA (CD (AF (CI K) AY (tC (.str "take")))) (oI K a E E) (oJ K a E E))
theorem oM:type_of%(@A3 _ _ oK.eq_1):=rfl
def oN:RT:=λK a E E1=>(CA (CD (AF (CI K) AY (tC (.str "put")))) (oH K a E E) (oK K a E E))
theorem XR:type_of%(@A3 _ _ oN.eq_1):=rfl
def oO:RT:=λK a E E1=>(CA (CD (AF (CI K) AY (tC (.str "cut")))) (oG K a E E) (oN K a E E))
theorem RS:type_of%(@A3 _ _ oO.eq_1):=rfl
def oP:RT:=λK a E E1=>(CA (CD (AF (CI K) AY (tC (.str "link")))) (oF K a E E) (oO K a E E))
theorem OP:type_of%(@A3 _ _ oP.eq_1):=rfl
def oQ:RT:=λK a E E1=>(CA (CD (AF (CI K) AY (tC (.str "make")))) (oE K a E E) (oP K a E E))
theorem MN:type_of%(@A3 _ _ oQ.eq_1):=rfl
def XS(K:FK)(a:Ad)(E:XE):TS:=(AH (oC K a E E) (oQ K a E E))
def oR:RT:=λK a E E1=>(A4 (B8 K AR 0) (AN 2))
theorem Yw:type_of%(@A3 _ _ oR.eq_1):=rfl
def Yx:RT:=λK a E E1=>(BB E6)
def oU:RT:=λK a E E1=>(CA (CD (AF (CI K) AY (tC (.str "write")))) (Yx K a E E) CS)
theorem XT:type_of%(@A3 _ _ oU.eq_1):=rfl
def oV:RT:=λK a E E1=>(BB (CW (MB K a) [] E (AJ (DC (ED K (CW (KJ K a) [] E (A9 AE (B8 K AR 1)))) (AN 0) DH (CB (QE K) (AJ AE)) 1 []))))
theorem Yy:type_of%(@A3 _ _ oV.eq_1):=rfl
def oX:RT:=λK a E E1=>(CA (CD (AF (CI K) AY (tC (.str "keep")))) (oV K a E E) CS)
theorem XU:type_of%(@A3 _ _ oX.eq_1):=rfl
def oY:RT:=λK a E E1=>(BB (FZ K "str" (NX K) (tC (.str "")) (AJ (AV (a "Store") "texts" (OG K a) [] E AE (AJ (B8 K AR 1))))))
theorem Yz:type_of%(@A3 _ _ oY.eq_1):=rfl
def oZ:RT:=λK a E E1=>(CA (CD (AF (CI K) AY (tC (.str "show")))) (oY K a E E) CS)
theorem o0:type_of%(@A3 _ _ oZ.eq_1):=rfl
def o3:RT:=λK a E E1=>(BB (CW (MB K a) [] E (AJ (AV (a "Store") "names" (OB K a) [] E AE BY))))
theorem Zb:type_of%(@A3 _ _ o3.eq_1):=rfl
def XV(K:FK)(a:Ad)(E:XE):TS:=(AH (oR K a E E) (AH (oU K a E E) (AH (oX K a E E) (AH (oZ K a E E) (o3 K a E E)))))
def o6:RT:=λK a E E1=>(A4 (CW (RL K a) [] E (AJ AR)) (AN 2))
theorem Zc:type_of%(@A3 _ _ o6.eq_1):=rfl
def o7:RT:=λK a E E1=>(DO (CW (MC K a) [] E (A9 (A5 K AE "store") AY)))
theorem Zd:type_of%(@A3 _ _ o7.eq_1):=rfl
def o8:RT:=λK a E E1=>(BB (tC (.str "ok")))
theorem Zg:type_of%(@A3 _ _ o8.eq_1):=rfl
def o9:RT:=λK a E E1=>(CA (CD (AF (NW K) (B8 K AY 0) (tC (.ref (a "DEEDS"))))) (AH (o7 K a E E) (o8 K a E E)) CS)
theorem Zh:type_of%(@A3 _ _ o9.eq_1):=rfl
def Zj:RT:=λK a E E1=>(BB E6)
def pA:RT:=λK a E E1=>(CA (CD (AF (CI K) (B8 K AY 0) (tC (.str "stop")))) (Zj K a E E) CS)
theorem Zk:type_of%(@A3 _ _ pA.eq_1):=rfl
def pB:RT:=λK a E E1=>(BB (CW (MD K a) [] E (A9 (A5 K AE "store") AY)))
theorem Zl:type_of%(@A3 _ _ pB.eq_1):=rfl
def XW(K:FK)(a:Ad)(E:XE):TS:=(AH (o6 K a E E) (AH (o9 K a E E) (AH (pA K a E E) (pB K a E E))))
def pC:RT:=λK a E E1=>(A4 (B6 BY) (AN 3))
theorem Zm:type_of%(@A3 _ _ pC.eq_1):=rfl
def pD:RT:=λK a E E1=>(A4 (tC (.bl false)) (AN 4))
theorem Zp:type_of%(@A3 _ _ pD.eq_1):=rfl
def pE:RT:=λK a E E1=>(A4 (tC (.bl false)) (AN 5))
theorem Zq:type_of%(@A3 _ _ pE.eq_1):=rfl
def pF:RT:=λK a E E1=>(DO (AV (a "House") "say" (EN K a) [] E1 AE (AJ AR)))
theorem Zv:type_of%(@A3 _ _ pF.eq_1):=rfl
def XX:RT:=λK a E E1=>(A4 (B6 (KK (CB (IE K) (A9 EO (tC (.ref (a "NoName"))))) (CB (IE K) (A9 EO (tC (.ref (a "NoPiece"))))) (CB (IE K) (A9 EO (tC (.ref (a "Twice"))))) (CB (IE K) (A9 EO (tC (.ref (a "NoRow"))))))) (AN 3))
theorem Zw:type_of%(@A3 _ _ XX.eq_1):=rfl
def XY:RT:=λK a E E1=>(A4 (CB (IE K) (A9 EO (CF (KK (tC (.ref (a "NoBlock"))) (tC (.ref (a "NoChange"))) (tC (.ref (a "NoRoom"))) (tC (.ref (a "NotSound"))))))) (AN 5))
theorem Zx:type_of%(@A3 _ _ XY.eq_1):=rfl
def XZ:RT:=λK a E E1=>(A4 (CB (IE K) (A9 EO (tC (.ty "ValueError")))) (AN 4))
theorem Zy:type_of%(@A3 _ _ XZ.eq_1):=rfl
def pG:RT:=λK a E E1=>(TR (λE1=>(pF K a E E1)) (TQ (λcls=>W.exmOne K cls (.ref (a "HoldError"))) 6 (AH (XX K a E E) (AH (XY K a E E) (XZ K a E E))) TN))
theorem Zz:type_of%(@A3 _ _ pG.eq_1):=rfl
def X0:RT:=λK a E E1=>(A4 (B6 (KK (AF (CI K) AY (tC (.str "NoName"))) (AF (CI K) AY (tC (.str "NoPiece"))) (AF (CI K) AY (tC (.str "Twice"))) (AF (CI K) AY (tC (.str "NoRow"))))) (AN 7))
theorem zaa:type_of%(@A3 _ _ X0.eq_1):=rfl
def X1:RT:=λK a E E1=>(BB (IQ D5 (IQ (TW K DD) (AF (CI K) BS OO))))
theorem zab:type_of%(@A3 _ _ X1.eq_1):=rfl
def X2(K:FK)(a:Ad)(E:XE):TS:=(AH (pC K a E E) (AH (pD K a E E) (AH (pE K a E E) (AH (pG K a E E) (AH (X0 K a E E) (X1 K a E E))))))
def pH:RT:=λK a E E1=>(BB (B6 (EJ (AV (a "House") "say" (EN K a) [] E AE (AJ (tC (.str "names")))) (AV (a "House") "say" (EN K a) [] E AE (AJ (AF (AX K) (tC (.str "show ")) AR))) (AV (a "House") "say" (EN K a) [] E AE (AJ (AF (AX K) (tC (.str "keep ")) AR))))))
theorem zac:type_of%(@A3 _ _ pH.eq_1):=rfl
def X3(K:FK)(a:Ad)(E:XE):TS:=(pH K a E E)
def pJ:RT:=λK a E E1=>(A4 (CW (L4 K a) [] E (A9 AE GT)) (AN 1))
theorem zad:type_of%(@A3 _ _ pJ.eq_1):=rfl
def pK:RT:=λK a E E1=>(A4 (HY (a "House") (RM K a) [] E (AJ (HY (a "Layout") (QU K a) [] E (KK ON ON ON (AF (AX K) F6 (AF GL AR gE)))))) (AN 2))
theorem zae:type_of%(@A3 _ _ pK.eq_1):=rfl
def pL:RT:=λK a E E1=>(A4 (CW (RN K a) [] E (AJ (AF JC AR gE))) (AN 3))
theorem zaf:type_of%(@A3 _ _ pL.eq_1):=rfl
def pM:RT:=λK a E E1=>(DO (AV (a "House") "say" (EN K a) [] E AY (AJ (AF (AX K) (tC (.str "make ")) BS))))
theorem zag:type_of%(@A3 _ _ pM.eq_1):=rfl
def pN:RT:=λK a E E1=>(DO (AV (a "House") "say" (EN K a) [] E AY (AJ (AF (AX K) (AF (AX K) (tC (.str "put ")) BS) (tC (.str " first"))))))
theorem zah:type_of%(@A3 _ _ pN.eq_1):=rfl
def pO:RT:=λK a E E1=>(A4 (CW (OM K a) [] E (A9 AY BS)) (AN 4))
theorem zai:type_of%(@A3 _ _ pO.eq_1):=rfl
def pP:RT:=λK a E E1=>(A4 (CW (RO K a) [] E (A9 (AF JC AR (HF 400)) BS)) (AN 5))
theorem zaj:type_of%(@A3 _ _ pP.eq_1):=rfl
def pQ:RT:=λK a E E1=>(A4 (CW (RP K a) [] E (KK AR BS DD (AF (AX K) BS (tC (.str "q"))))) (M7 K 2 (IS (AN 6) (IS (AN 7) M5))))
theorem zak:type_of%(@A3 _ _ pQ.eq_1):=rfl
def zal:RT:=λK a E E1=>(BB (tC (.bl false)))
def pR:RT:=λK a E E1=>(CA (M4 (FI (JD K (CW (OL K a) [] E (EJ AY EO OO)))) (FI (JD K (CW (OL K a) [] E (EJ AY EO OO))))) (zal K a E E) CS)
theorem zam:type_of%(@A3 _ _ pR.eq_1):=rfl
def zan:RT:=λK a E E1=>(BB (tC (.bl false)))
def pS:RT:=λK a E E1=>(CA (CD (AF (D6 K) (CW (OM K a) [] E (A9 AY BS)) D5)) (zan K a E E) CS)
theorem zao:type_of%(@A3 _ _ pS.eq_1):=rfl
def pT:RT:=λK a E E1=>(EQ (ED K AE) (AN 1) (AH (pP K a E E) (AH (pQ K a E E) (AH (pR K a E E) (pS K a E E)))))
theorem zap:type_of%(@A3 _ _ pT.eq_1):=rfl
def pU:RT:=λK a E E1=>(BB (IQ (AF (CI K) (AV (a "House") "say" (EN K a) [] E AY (AJ (AF (AX K) (AF (AX K) (tC (.str "put ")) BS) (tC (.str "  second"))))) (tC (.str "ok"))) (AF (CI K) (AV (a "House") "say" (EN K a) [] E AY (AJ (AF (AX K) (tC (.str "show ")) BS))) (tC (.str "first second")))))
theorem zaq:type_of%(@A3 _ _ pU.eq_1):=rfl
def X4(K:FK)(a:Ad)(E:XE):TS:=(AH (pJ K a E E) (AH (pK K a E E) (AH (pL K a E E) (AH (pM K a E E) (AH (pN K a E E) (AH (pO K a E E) (AH (pT K a E E) (pU K a E E))))))))
end
end L2
namespace L2
local macro_rules
 | `(tactic| push_cast[$ls,*])=>`(tactic| simp only[↓xT,↓xU,↓xV,↓xW,↓xX,↓xY,↓xZ,↓x4,↓x5,↓x6,↓x8,↓x9,↓yA,↓yB,↓yC,↓yD,↓yE,↓yF,↓yG,↓yH,↓yI,↓yJ,↓yK,↓yL,↓yM,↓yN,↓yO,↓yP,↓yQ,↓yR,↓yS,↓yT,↓yU,↓yV,↓yW,↓yX,↓yY,↓yZ,↓y3,↓y4,↓y8,↓y9,↓zA,↓zB,↓zC,↓zD,↓zE,↓zF,↓zG,↓zH,↓zI,↓zJ,↓zK,
     ↓zL,↓zM,↓zO,↓zP,↓zQ,↓zR,↓zS,↓zT,↓zU,↓zV,↓dN,↓zZ,↓z7,↓z6,↓z8,↓z9,↓Ab,↓Ac,↓Ag,↓zX,↓zW,↓zY,↓Ah,↓Aj,↓Ak,↓Al,↓Am,↓Ap,↓Aq,↓Av,↓Aw,↓Ax,↓Ay,↓Az,↓Bb,↓Bc,↓Bd,↓Bg,↓Bh,↓Bj,↓Bl,↓Bm,↓Bp,↓dO,↓Bq,
     xE,GL,JC,xF,dD,xG,Ends.drop,A0,List.map_cons,List.map_nil,List.length_cons,List.length_nil,List.reduceReplicate,Nat.reduceAdd,Nat.reduceSub,Nat.zero_add,List.cons_append,List.nil_append,List.append_nil,List.getElem?_cons_zero,List.getElem?_cons_succ,Option.some.injEq,Option.join_some,List.set_cons_zero,List.set_cons_succ,
     V.int.injEq,V.ref.injEq,V.bl.injEq,V.str.injEq,List.cons.injEq,and_true,true_and,exists_eq_left',exists_eq_left,exists_eq',exists_eq,exists_and_left,exists_and_right,reduceCtorEq,false_and,and_false,or_false,false_or,exists_false,decide_eq_true_eq,Bool.not_eq_true',Bool.not_eq_true,decide_eq_false_iff_not,eq_self_iff_true,if_true,Bool.false_eq_true,if_false,ite_true,Bool.true_eq_false,forall_const,and_assoc,Int.reduceToNat,Int.reduceLT,Int.reduceLE,Int.reduceEq,Nat.reduceLeDiff,Int.toNat_natCast,not_true_eq_false,not_false_eq_true,Bool.not_false,Bool.not_true,↓Fl,↓Fm,↓Fp,↓Fq,↓Fv,↓Fw,↓Fx,↓Fy,↓Fz,↓Fh,↓Fg,↓Ez,↓Fc,↓Cl,↓Gg,↓Gh,↓Gv,↓Hq,↓Hm,↓Hk,↓Hx,↓Hy,↓Hz,↓Jb,↓Gz,↓Cm,↓Ck,↓Jm,↓Jp,↓Jq,↓Jj,$ls,*])
section
variable{K:W.Frag}{a:Ad}{vs:List V}{H:Hp}{Q:VK}{E:XK}
theorem zar(h:L4 K a vs H Q E):VY K a (λ_=>E) (BD Q) (A0 ["script","k"] vs) H:=by
 obtain⟨s,ns,k,rfl,hs,hl,q⟩:=h
 push_cast[VY,↓Ny,↓Nz,↓Pb]
 refine⟨ns.length,?_,?_⟩
 ·exact .inl ⟨_,hs,(List.length_map _).symm⟩
 split
 ·rename_i hk
  have hk:k<ns.length:=by omega
  refine C4 hs rfl (v:=.int (KD ns k)) ?_ q
  unfold KD
  rw[List.getElem?_map,List.getElem?_eq_getElem hk]
  simp[List.getD,hk]
 ·rename_i hk
  have:KD ns k=0:=by
   unfold KD
   rw[List.getD_eq_getElem?_getD,List.getElem?_eq_none (by omega)];rfl
  rw[this]at q
  exact q
theorem zas(h:QJ K a vs H Q E):VQ K a (λ_=>E) (BD Q) (A0 ["self","blocks","cells"] vs) H:=by
 obtain⟨p,dx,m,w,rfl,T,hp,hm,h1,h2,q⟩:=h
 push_cast[VQ,↓My,↓Mz,↓Nb]
 refine⟨by omega,by omega,?_⟩
 refine PZ (BV m (by omega)) (λi ys H'=>Same H H'/\∃ ts:List Addr,ys=ts.map V.ref/\Paired (λt r=>H' t=some (.tup r)) ts (List.replicate i (List.replicate w .non))) ⟨Same.refl _,[],rfl,.nil⟩ (λi ys H' hi hl hzz=> ?_) (λys H' hl ⟨s,ts,e,P⟩ cl BX=> ?_)
 ·obtain⟨s,ts,e,P⟩:=hzz
  push_cast[C7,Option.join_some,Int.zero_add]
  refine⟨by decide,λt ht=>.inr ?_⟩
  have fin:∀ (t':Addr) (H2:Hp),Same H' H2->H2 t'=some (.tup (List.replicate w .non))->Same H H2/\∃ ts':List Addr,ys++[V.ref t']=ts'.map V.ref/\Paired (λt r=>H2 t=some (.tup r)) ts' (List.replicate (i+1) (List.replicate w .non)):=λt' H2 s2 e2=>by
   refine⟨s.trans s2,ts++[t'],by rw[e,List.map_append];rfl,?_⟩
   rw[List.replicate_succ']
   exact Paired.snoc (Paired.mapP P λt r z=>s2 _ _ z) e2
  have s1:Same H' (upd H' t (.tup [V.non])):=λb o z=>by rw[AK (BN z ht)];exact z
  refine⟨t,w,[.non],rfl,rfl,SqT.of AG,by simp,by omega,by omega,BV _ (by simp;omega),λe1=> ?_,λe1 u hu=> ?_⟩
  ·have e1:w=1:=by omega
   refine fin t _ s1 ?_
   rw[AG,e1];rfl
  ·rw[Int.toNat_natCast,dQ]
   exact fin u _ (s1.trans λb o z=>by rw[AK (BN z hu)];exact z) AG
 ·have npc:p≠cl:=BN (s _ _ hp) BX
  have e1:upd H' cl (HO.lst ys) p=some (HO.ins (a "Plank") dx []):=by rw[AK npc];exact s _ _ hp
  refine⟨_,_,_,e1,T.cl,T.nC,by decide,_,_,_,AG,T.cl,T.nW,IF (by decide),_,_,_,AG,T.cl,T.nN,IF (n:=1000) (Nat.succ_lt_succ (IF (n:=999) (by decide))),?_⟩
  rw[Kb,GA,GA]
  refine q cl _ (s.free BX) ⟨⟨dx,AG⟩,⟨ts,by rw[AK npc.symm,AG,e],?_⟩,λr hr=> ?_,by simpa using hm,h2⟩ λb o eb hb=> ?_
  ·refine Paired.mapP P λt r z=> ?_
   rw[AK (DF z (s _ _ hp) (by intro z';cases z')),AK (BN z BX)]
   exact z
  ·rw[List.eq_of_mem_replicate hr,List.length_replicate]
  ·rw[AK hb,AK (BN (s _ _ eb) BX)]
   exact s _ _ eb
theorem zat(h:N0 K a vs H Q E):VR K a (λ_=>E) (BD Q) (A0 ["self"] vs) H:=by
 obtain⟨p,cl,w,rows,n,rfl,T,P,q⟩:=h
 obtain⟨dx,h1⟩:=P.ob
 obtain⟨ts,h2,h3⟩:=P.ls
 push_cast[VR,↓Nd]
 refine⟨_,_,_,h1,T.cl,T.nC,_,UU _ _ _,rows.length,.inl ⟨_,SqL.of h2,?_⟩,q⟩
 rw[List.length_map,h3.length]
theorem zau(h:QK K a vs H Q E):VS K a (λ_=>E) (BD Q) (A0 ["self"] vs) H:=by
 obtain⟨p,cl,w,rows,n,rfl,T,P,q⟩:=h
 obtain⟨dx,h1⟩:=P.ob
 push_cast[VS,↓Ng]
 exact⟨_,_,_,h1,T.cl,T.nW,_,Jz _ _ _,q⟩
theorem zav(h:N1 K a vs H Q E):VT K a (λ_=>E) (BD Q) (A0 ["self","block"] vs) H:=by
 obtain⟨p,cl,w,rows,n,b,rfl,T,P,q,qe⟩:=h
 obtain⟨dx,h1⟩:=P.ob
 obtain⟨ts,h2,h3⟩:=P.ls
 push_cast[VT,↓Nh,↓Nj]
 have hl:rows.length=(ts.map V.ref).length:=by rw[List.length_map,h3.length]
 split
 ·rename_i h0
  refine⟨_,_,_,h1,T.cl,T.nC,_,UU _ _ _,rows.length,.inl ⟨_,SqL.of h2,hl⟩,?_⟩
  split
  ·exact⟨by decide,qe (by omega)⟩
  ·exact q h0 (by omega)
 ·exact⟨by decide,qe (by omega)⟩
theorem zaw(cl:Addr)(w n:Int):(pf cl w n).lookup ("ask_for_block":Str)=none:=QI _ _ _ (by decide +kernel) (by decide +kernel) (by decide +kernel)
theorem zax(h:QL K a vs H Q E):WM K a (λ_=>E) (BD Q) (A0 ["self","block"] vs) H:=by
 obtain⟨p,cl,w,rows,n,b,rfl,T,P,q,qe⟩:=h
 obtain⟨dx,h1⟩:=P.ob
 obtain⟨ts,h2,h3⟩:=P.ls
 push_cast[WM,↓Rl,↓Rm,N1]
 refine⟨_,_,h1,zaw _ _ _,T,cl,w,rows,⟨n,P⟩,λh0 hb=>⟨_,_,_,h1,T.cl,T.nC,_,UU _ _ _,?_⟩,qe⟩
 obtain⟨i,rfl⟩:∃ i:Nat,b=i:=⟨b.toNat,by omega⟩
 have hi:i<rows.length:=by omega
 obtain⟨t,et,ht⟩:=NR h3 (List.getElem?_eq_getElem hi)
 refine C4 (SqL.of h2) rfl (v:=.ref t) (by rw[List.getElem?_map,et];rfl) ?_
 rw[dO]
 exact⟨_,.inr (SqT.of ht),q i _ rfl (List.getElem?_eq_getElem hi)⟩
theorem zay(cl:Addr)(w n:Int):(pf cl w n).lookup ("read":Str)=none:=QI _ _ _ (by decide +kernel) (by decide +kernel) (by decide +kernel)
theorem FB{f:Str}{v:V}{fs:List (Str × V)}{n:Nat}(h:fs.length<n):(A6 f v fs).length<n+1:=Nat.lt_of_le_of_lt (NC f v fs) (Nat.succ_lt_succ h)
theorem SameBut.none{b:Addr}{H H1:Hp}{x:Addr}(s:SameBut (· =b) H H1)(hb:H1 b≠Option.none)(h:H1 x=Option.none):H x=Option.none:=by
 cases e:H x with
 | none=>rfl
 | some o =>
  have:x≠b:=λz=>hb (z ▸ h)
  rw[s _ _ e this]at h
  cases h
theorem zaz(h:QZ K a vs H Q E):VB K a (λ_=>E) (BD Q) (A0 ["self","place","value","needs"] vs) H:=by
 obtain⟨x,dx,pl,v,nt,rfl,T,hx,q⟩:=h
 push_cast[VB,↓Mb,↓Mc,↓Mg]
 refine⟨_,_,_,hx,T.cc,T.nP,by decide,_,_,_,AG,T.cc,T.nV,FB (n:=999) (by decide),_,_,_,AG,T.cc,T.nN,FB (n:=999) (FB (n:=998) (by decide)),?_⟩
 rw[Kh,GA,GA]
 exact q
theorem za0(h:N6 K a vs H Q E):V2 K a (λ_=>E) (BD Q) (A0 ["self","plank"] vs) H:=by
 obtain⟨b,gp,cl,dx,w,rows,n,rfl,T,TP,P,hb,q⟩:=h
 push_cast[V2,↓Qk,↓Ql,↓Qm,↓Qp,↓Qq]
 refine⟨_,_,_,hb,T.cl,T.nG,by decide,by decide,?_⟩
 have e1:upd H b (.ins (E9 a) dx (A6 "ground" (.ref gp) [])) b=some (.ins (E9 a) dx (A6 "ground" (.ref gp) [])):=AG
 have s1:SameBut (· =b) H (upd H b (.ins (E9 a) dx (A6 "ground" (.ref gp) []))):=λx o e n=>by rw[AK n];exact e
 revert e1 s1
 generalize upd H b (.ins (E9 a) dx (A6 "ground" (.ref gp) []))=H1
 intro e1 s1 m hm
 have nbm:b≠m:=BN e1 hm
 have hmH:=s1.none (by rw[e1];intro z;cases z) hm
 refine⟨_,_,_,by rw[AK nbm];exact e1,T.cl,T.nM,FB (n:=999) (by decide),?_⟩
 have s2:SameBut (· =b) H (upd (upd H1 m (.lst [])) b (.ins (E9 a) dx (A6 "made" (.ref m) (A6 "ground" (.ref gp) [])))):=(s1.upd (.inr hmH)).upd (.inl rfl)
 have e2:upd (upd H1 m (.lst [])) b (.ins (E9 a) dx (A6 "made" (.ref m) (A6 "ground" (.ref gp) []))) b=some (.ins (E9 a) dx (A6 "made" (.ref m) (A6 "ground" (.ref gp) []))):=AG
 have m2:upd (upd H1 m (.lst [])) b (.ins (E9 a) dx (A6 "made" (.ref m) (A6 "ground" (.ref gp) []))) m=some (.lst []):=by rw[AK nbm.symm,AG]
 revert s2 e2 m2
 generalize upd (upd H1 m (.lst [])) b (.ins (E9 a) dx (A6 "made" (.ref m) (A6 "ground" (.ref gp) [])))=H2
 intro s2 e2 m2
 have gb:∀ x xs,(· =b) x->H x≠some (.tup xs):=λx xs e=>by rw[show x=b from e,hb];intro z;cases z
 have ncl:¬ cl=b:=by obtain⟨ts,z,_⟩:=P.ls;exact DF z hb (by intro z;cases z)
 have P2:PlankAt a H2 gp cl w rows n:=by
  obtain⟨⟨dx',f1⟩,⟨ts,f2,f3⟩,r1,r2,r3⟩:=P
  exact⟨⟨dx',s2 _ _ f1 (DF f1 hb (QM (by simp[pf])))⟩,⟨ts,s2 _ _ f2 (DF f2 hb (by intro z;cases z)),Paired.mapP f3 λt r z=>s2 _ _ z (DF z hb (by intro z;cases z))⟩,r1,r2,r3⟩
 obtain⟨dp,hp⟩:=P2.ob
 refine⟨_,_,hp,QI _ _ _ (by decide +kernel) (by decide +kernel) (by decide +kernel),gp,cl,w,rows,n,rfl,TP,P2,rows.length,rfl,by omega,by have:=P.sz;omega,?_⟩
 rw[Int.toNat_natCast]
 refine PZ (BV _ (by have:=P.sz;omega)) (λi ys H'=>Same H2 H'/\∃ ls:List Addr,ys=ls.map V.ref/\ls.Nodup/\∀ l∈ls,H' l=some (.lst [])/\H2 l=none) ⟨Same.refl _,[],rfl,List.nodup_nil,by simp⟩ (λi ys H' hi hl hzz=> ?_) (λys H' hl ⟨s,ls,ey,nd,al⟩ mi GZ=> ?_)
 ·obtain⟨s,ls,ey,nd,al⟩:=hzz
  push_cast[]
  refine⟨by decide,λl hl'=>⟨s.trans (AL hl'),ls++[l],by rw[ey,List.map_append];rfl,?_,λx hx=> ?_⟩⟩
  ·exact List.nodup_append.mpr ⟨nd,by simp,λx hx y hy e=>by rw[List.mem_singleton]at hy;subst hy;subst e;rw[(al _ hx).1]at hl';cases hl'⟩
  ·rcases List.mem_append.mp hx with hx | hx
   ·exact⟨AL hl' _ _ (al x hx).1,(al x hx).2⟩
   ·rw[List.mem_singleton.mp hx];exact⟨AG,s.free hl'⟩
 ·have s3:SameBut (· =b) H (upd H' mi (.lst ys)):=by
   intro x o e nx
   have e':=s _ _ (s2 _ _ e nx)
   rw[AK (BN e' GZ)];exact e'
  have e3:upd H' mi (.lst ys) b=some (.ins (E9 a) dx (A6 "made" (.ref m) (A6 "ground" (.ref gp) []))):=by rw[AK (BN (s _ _ e2) GZ)];exact s _ _ e2
  have m3:upd H' mi (.lst ys) m=some (.lst []):=by rw[AK (BN (s _ _ m2) GZ)];exact s _ _ m2
  have i3:upd H' mi (.lst ys) mi=some (.lst (ls.map V.ref)):=by rw[AG,ey]
  have l3:∀ l∈ls,upd H' mi (.lst ys) l=some (.lst [])/\H l=none/\l≠mi/\l≠m:=λl hl'=>by
   have z:=al l hl'
   have n1:=BN z.1 GZ
   exact⟨by rw[AK n1];exact z.1,s2.none (by rw[e2];intro z;cases z) z.2,n1,λy=>by rw[y,m2]at z;cases z.2⟩
  have hmiH:H mi=none:=s2.none (by rw[e2];intro z;cases z) (s.free GZ)
  have nmm:m≠mi:=BN (s _ _ m2) GZ
  have B0:ls.length=rows.length:=by rw[<-hl,ey,List.length_map]
  revert s3 e3 m3 i3 l3
  generalize upd H' mi (.lst ys)=H3
  intro s3 e3 m3 i3 l3
  refine⟨_,_,_,e3,T.cl,T.nI,FB (n:=999) (FB (n:=998) (by decide)),λlt BE=> ?_⟩
  have nb4:b≠lt:=BN AG BE
  rw[AK nb4.symm]at BE
  have ltH:H lt=none:=s3.none (by rw[e3];intro z;cases z) BE
  refine⟨_,_,_,by rw[AK nb4,AG],T.cl,T.nL,FB (n:=999) (FB (n:=998) (FB (n:=997) (by decide))),λou F8=> ?_⟩
  have nb5:b≠ou:=BN AG F8
  rw[AK nb5.symm]at F8
  have nl5:lt≠ou:=BN AG F8
  rw[AK nl5.symm,AK nb5.symm]at F8
  have ouH:H ou=none:=s3.none (by rw[e3];intro z;cases z) F8
  refine⟨_,_,_,by rw[AK nb5,AG],T.cl,T.nO,FB (n:=999) (FB (n:=998) (FB (n:=997) (FB (n:=996) (by decide)))),?_⟩
  rw[Kj]
  generalize eH:upd (upd (upd (upd (upd H3 b _) lt (.dT [])) b _) ou (.dK [])) b (.ins (E9 a) dx (bf gp m mi lt ou))=H5
  have kp:∀ x,x≠b->x≠lt->x≠ou->H5 x=H3 x:=λx n1 n2 n3=>by rw[<-eH,AK n1,AK n3,AK n1,AK n2,AK n1]
  have kk:∀ x o,H3 x=some o->x≠b->H5 x=some o:=λx o e n1=>by rw[kp x n1 (BN e BE) (BN e F8)];exact e
  have s5:SameBut (· =b) H H5:=λx o e n1=>kk x o (s3 _ _ e n1) n1
  have nbx:∀ x xs,H3 x=some (.lst xs)->x≠b:=λx xs e=>DF e e3 (by intro z;cases z)
  refine q m mi lt ou ls H5 hmH hmiH ltH ouH (λl hl'=>(l3 l hl').2.1) ⟨⟨⟨dx,by rw[<-eH,AG]⟩,⟨[],kk _ _ m3 (nbx _ _ m3),.nil⟩,kk _ _ i3 (nbx _ _ i3),λi l e=> ?_,nd,⟨[],?_,λi j=>rfl,Nat.le_refl _⟩,⟨[],?_,λk=>rfl,List.nodup_nil,by simp⟩,by simp,by simp,by simp,⟨nmm,?_,?_,?_,?_,?_⟩,by simp⟩,?_,B0⟩ s5
  ·have z:=l3 l (List.mem_of_getElem? e)
   exact kk _ _ z.1 (nbx _ _ z.1)
  ·rw[<-eH,AK nb4.symm,AK nl5,AK nb4.symm,AG]
  ·rw[<-eH,AK nb5.symm,AG]
  ·exact λz=>(l3 _ z).2.2.2 rfl
  ·exact λz=>(l3 _ z).2.2.1 rfl
  ·obtain⟨ts,z,_⟩:=P.ls;exact BN z hmH
  ·obtain⟨ts,z,_⟩:=P.ls;exact BN z hmiH
  ·obtain⟨ts,z,_⟩:=P.ls;exact λy=>by rw[(l3 _ y).2.1]at z;cases z
  ·obtain⟨⟨dx',f1⟩,⟨ts,f2,f3⟩,r1,r2,r3⟩:=P
   exact⟨⟨dx',s5 _ _ f1 (DF f1 hb (QM (by simp[pf])))⟩,⟨ts,s5 _ _ f2 (DF f2 hb (by intro z;cases z)),Paired.mapP f3 λt r z=>s5 _ _ z (DF z hb (by intro z;cases z))⟩,r1,r2,r3⟩
theorem za1(h:Q0 K a vs H Q E):RR K a (λ_=>E) (BD Q) (A0 ["needs","ahead"] vs) H:=by
 obtain⟨nl,ns,o,rfl,hs,hl,q⟩:=h
 cases o with
 | none =>
  push_cast[RR,↓gS,↓gU,↓gX,FT]
  refine⟨ns,hs,by omega,λx o D ks hx hD r m l=>⟨_,.inl ⟨SqL.of AG,λt ht=>q t ks _ (((AL hx).trans (AL hD)).trans (AL ht)) AG r (λy=> ?_) (by omega)⟩⟩⟩
  rw[m y];simp
 | some k =>
  push_cast[RR,↓gS,↓gU,↓gX,FT]
  refine⟨_,.inl hs,λl hl'=>⟨by decide,λp hp=>.inl ?_⟩⟩
  have np:l≠p:=BN AG hp
  have s0:Same H (upd (upd H l (.lst (ns.map V.int))) p (.lst [.int k])):=(AL hl').trans (AL hp)
  have e1:upd (upd H l (.lst (ns.map V.int))) p (.lst [.int k]) l=some (.lst (ns.map V.int)):=by rw[AK np,AG]
  have e2:upd (upd H l (.lst (ns.map V.int))) p (.lst [.int k]) p=some (.lst [.int k]):=AG
  revert s0 e1 e2
  generalize upd (upd H l (.lst (ns.map V.int))) p (.lst [.int k])=H1
  intro s0 e1 e2
  refine⟨l,p,_,_,rfl,rfl,e1,e2,BV _ (by simp;omega),λr hr=>⟨r,rfl,ns++[(k:Int)],?_,by simp;omega,λx o D ks hx hD rs m ll=>⟨_,.inl ⟨SqL.of AG,λt ht=>q t ks _ ((((s0.trans (AL hr)).trans (AL hx)).trans (AL hD)).trans (AL ht)) AG rs (λy=> ?_) (by simpa using ll)⟩⟩⟩⟩
  ·rw[List.map_append];exact SqL.of AG
  ·rw[m y,List.mem_append,List.mem_singleton];simp
theorem za2(h:Q1 K a vs H Q E):V4 K a (λ_=>E) (BD Q) (A0 ["self","place"] vs) H:=by
 obtain⟨A,w,rows,n,cs,outs,pl,i,j,rfl,T,TP,B,hp,q,qe⟩:=h
 obtain⟨dx,hb⟩:=B.bk.ob
 obtain⟨dp,hg⟩:=B.pk.ob
 have ng:∀ {m:Str},¬ m="contents"->¬ m="width"->¬ m="written"->(pf A.cl w n).lookup m=none:=λh1 h2 h3=>QI _ _ _ h1 h2 h3
 push_cast[V4,↓Qv,↓Qw]
 refine D8 hp (n:=0) rfl rfl ?_
 push_cast[]
 split
 ·rename_i h0
  refine⟨_,_,_,hb,T.cl,T.nG,_,UX,A.gp,rfl,_,_,hg,ng (by decide +kernel) (by decide +kernel) (by decide +kernel),A.gp,A.cl,w,rows,n,rfl,TP,B.pk,?_⟩
  push_cast[]
  split
  ·exact⟨by decide,qe λz=>by omega⟩
  ·rename_i h1
   refine D8 hp (n:=1) rfl rfl ?_
   push_cast[]
   split
   ·rename_i h2
    refine⟨_,_,_,hb,T.cl,T.nG,_,UX,A.gp,rfl,_,_,hg,ng (by decide +kernel) (by decide +kernel) (by decide +kernel),A.gp,A.cl,w,rows,n,rfl,TP,B.pk,?_⟩
    push_cast[]
    split
    ·exact⟨by decide,qe λz=>by omega⟩
    ·exact q ⟨h0,by omega,h2,by omega⟩
   ·exact⟨by decide,qe λz=>by omega⟩
 ·exact⟨by decide,qe λz=>by omega⟩
theorem za3(h:L5 K a vs H Q E):WU K a (λ_=>E) (BD Q) (A0 ["self","place"] vs) H:=by
 obtain⟨A,w,rows,n,cs,outs,pl,i,j,rfl,T,TP,B,hp,q,qe⟩:=h
 obtain⟨dx,hb⟩:=B.bk.ob
 obtain⟨AD,hl,hv,_⟩:=B.bk.lat
 push_cast[WU,↓Sv,↓Sw]
 refine⟨_,_,hb,D1 (by decide +kernel),A,w,rows,n,cs,outs,pl,i,j,rfl,T,TP,B,hp,λh=> ?_,qe⟩
 push_cast[]
 refine⟨_,_,_,hb,T.cl,T.nL,_,fR,A.lt,rfl,.inr ⟨_,.inl hl⟩,_,Gb hl hp,?_⟩
 rw[hv]
 have:=q h
 cases e:D0 cs i j with
 | none=>rw[e]at this;exact this
 | some k=>rw[e]at this;exact this
theorem BookIn.len{C D:Addr}{A:BA}{w:Nat}{cs:List Ch}{outs:Int->Bool}(B:BookIn C D H A w cs outs):∃ xs,H A.m=some (.lst xs)/\xs.length=cs.length:=by
 obtain⟨chs,e,p⟩:=B.made
 exact⟨_,e,by rw[List.length_map,p.length]⟩
theorem za4(h:N7 K a vs H Q E):VE K a (λ_=>E) (BD Q) (A0 ["self","numbers","number"] vs) H:=by
 obtain⟨A,w,rows,n,cs,outs,nl,ns,rfl,T,B,hs,q,qe⟩:=h
 obtain⟨dx,hb⟩:=B.bk.ob
 obtain⟨xs,hm,hml⟩:=B.bk.len
 push_cast[VE,↓gL,↓gO,↓gQ]
 refine .inl ⟨⟨_,hs⟩,?_⟩
 refine NP (xs:=ns.map V.int) (λi σ H'=>H'=H/\(∃ z,σ=[some (.ref A.b),some (.ref nl),z])/\∀ x∈ns.take i,known cs x) ⟨rfl,⟨_,rfl⟩,by simp⟩ (λi σ H' _ ⟨e,_⟩=>e ▸ hs) (λi x σ H' hx ⟨e,⟨z,ez⟩,kn⟩=> ?_) (λσ H' ⟨e,⟨z,ez⟩,kn⟩=> ?_)
 ·subst e;subst ez
  rw[List.getElem?_map,Option.map_eq_some_iff]at hx
  obtain⟨x',hx',rfl⟩:=hx
  push_cast[↓gL,↓gO,↓gQ]
  have bad:¬ known cs x'->1<=sizeLine/\E (.ref (a "NoChange")) none H':=λh=>⟨by decide,qe ⟨x',List.mem_of_getElem? hx',h⟩⟩
  split
  ·rename_i h0
   refine⟨_,_,_,hb,T.cl,T.nM,_,JH,cs.length,.inl ⟨_,SqL.of hm,hml.symm⟩,?_⟩
   split
   ·exact bad λz=>by omega
   ·intro y hy
    rw[List.take_add_one,hx']at hy
    rcases List.mem_append.mp hy with hy | hy
    ·exact kn y hy
    ·simp only[Option.toList_some,List.mem_singleton]at hy
     subst hy
     exact⟨h0,by omega⟩
  ·exact bad λz=>by omega
 ·subst e
  refine q λx hx=>kn x ?_
  rw[List.length_map,List.take_length];exact hx
theorem za5(h:N8 K a vs H Q E):VC K a (λ_=>E) (BD Q) (A0 ["self"] vs) H:=by
 obtain⟨A,w,rows,n,cs,outs,rfl,T,B,q⟩:=h
 obtain⟨dx,hb⟩:=B.bk.ob
 obtain⟨xs,hm,hml⟩:=B.bk.len
 obtain⟨C6,ho,hv,_⟩:=B.bk.out
 have sz:=B.bk.sz
 push_cast[VC,↓Mh]
 refine⟨_,_,_,hb,T.cl,T.nM,_,JH,cs.length,.inl ⟨_,SqL.of hm,hml.symm⟩,by omega,by omega,?_⟩
 refine Fk (λ(k:Nat)=> !outs k) (BV _ (by omega)) (λi hi QB qb=> ?_) λp hp=> ?_
 ·push_cast[C7]
  refine⟨_,_,_,hb,T.cl,T.nO,_,UY,A.ou,rfl,_,dI ho,?_⟩
  rw[hv];exact qb
 ·exact q p _ hp (AL hp) (by rw[AG];rfl)
theorem za6(h:HQ K a vs H Q E):WW K a (λ_=>E) (BD Q) (A0 ["self","place","value","needs","ahead","number"] vs) H:=by
 obtain⟨A,w,rows,n,cs,outs,pl,nl,v,ns,i,j,rfl,T,TP,B,hp,hs,hl,hc,q,q1,q2⟩:=h
 obtain⟨dx,hb⟩:=B.bk.ob
 obtain⟨xs,hm,hml⟩:=B.bk.len
 push_cast[WW,↓Sy]
 refine⟨_,_,hb,D1 (by decide +kernel),A,w,rows,n,cs,outs,pl,i,j,rfl,T,TP,B,hp,λhon=> ?_,q1⟩
 push_cast[↓Sz]
 refine⟨_,_,hb,D1 (by decide +kernel),A,w,rows,n,cs,outs,nl,ns,rfl,T,B,hs,λhkn=> ?_,q2 hon⟩
 push_cast[↓Tb]
 refine⟨_,_,_,hb,T.cl,T.nM,_,JH,cs.length,.inl ⟨_,SqL.of hm,hml.symm⟩,?_⟩
 push_cast[↓Tc]
 refine⟨_,_,_,hb,T.cl,T.nM,_,JH,.inl ⟨rfl,_,SqL.of hm⟩,nl,ns,D0 cs i j,rfl,hs,hl,λt ks H1 s1 et kr km kl=> ?_⟩
 push_cast[]
 intro x dy hx hdy ndy
 refine⟨x,dy,pl,v,t,rfl,T,AG,rfl,?_⟩
 rw[GA]
 have s2:Same H1 (upd (upd H1 dy (.own x)) x (.ins (a "Change") dy (E7 pl v t))):=(AL hdy).trans (AL (by rw[AK ndy.symm];exact hx))
 have ex:upd (upd H1 dy (.own x)) x (.ins (a "Change") dy (E7 pl v t)) x=some (.ins (a "Change") dy (E7 pl v t)):=AG
 revert s2 ex
 generalize upd (upd H1 dy (.own x)) x (.ins (a "Change") dy (E7 pl v t))=H2
 intro s2 ex
 have s:=s1.trans s2
 have hxH:H x=none:=s1.free hx
 replace et:=s2 _ _ et
 obtain⟨chs,hm',pch⟩:=B.bk.made
 have GZ:=B.bk.mil
 obtain⟨AD,BE,hv,OZ⟩:=B.bk.lat
 obtain⟨C6,F8,hvo,hko⟩:=B.bk.out
 obtain⟨i0,i1,j0,j1⟩:=hon
 obtain⟨i',rfl⟩:∃ i':Nat,i=i':=⟨i.toNat,by omega⟩
 obtain⟨j',rfl⟩:∃ j':Nat,j=j':=⟨j.toNat,by omega⟩
 have hil:i'<A.ls.length:=by rw[B.nb];omega
 have el:=List.getElem?_eq_getElem hil
 have hll:=B.bk.mic i' _ el
 have hmem:A.ls[i']∈A.ls:=List.getElem_mem hil
 revert el hll hmem
 generalize A.ls[i']=l
 intro el hll hmem
 have ap:=B.bk.ap
 have nml:A.m≠l:=λz=>ap.2.1 (z ▸ hmem)
 have nil':A.mi≠l:=λz=>ap.2.2.1 (z ▸ hmem)
 have ncl:A.cl≠l:=λz=>ap.2.2.2.2.2 (z ▸ hmem)
 have klt:∀ {y:Addr} {o:HO},H2 y=some o->(∀ k,o≠.dT k)->y≠A.lt:=λe h=>DF e (s _ _ BE) (h _)
 have km':∀ {y:Addr} {o:HO},H2 y=some o->(∀ k,o≠.lst k)->y≠A.m:=λe h=>DF e (s _ _ hm') (h _)
 have kll:∀ {y:Addr} {o:HO},H2 y=some o->(∀ k,o≠.lst k)->y≠l:=λe h=>DF e (s _ _ hll) (h _)
 have hb2:=s _ _ hb
 have JX:=s _ _ hp
 have sz:=B.bk.sz
 have lenc:chs.length=cs.length:=pch.length
 refine⟨A.m,_,_,rfl,rfl,s _ _ hm',Nat.lt_of_lt_of_le (show(chs.map V.ref).length<1000 by rw[List.length_map];omega) (by decide),?_⟩
 push_cast[↓Td]
 have bb:A.b≠A.m:=km' hb2 (by intro k z;cases z)
 have bl:A.b≠l:=kll hb2 (by intro k z;cases z)
 have bt:A.b≠A.lt:=klt hb2 (by intro k z;cases z)
 have pm:pl≠A.m:=km' JX (by intro k z;cases z)
 have pl':pl≠l:=kll JX (by intro k z;cases z)
 have pt:pl≠A.lt:=klt JX (by intro k z;cases z)
 have lt':l≠A.lt:=klt (s _ _ hll) (by intro k z;cases z)
 have mt:A.m≠A.lt:=klt (s _ _ hm') (by intro k z;cases z)
 have it:A.mi≠A.lt:=klt (s _ _ GZ) (by intro k z;cases z)
 refine⟨_,_,_,by rw[AK bb];exact hb2,T.cl,T.nI,_,fQ,D8 (by rw[AK pm];exact JX) (n:=0) rfl rfl (C4 (SqL.of (by rw[AK ap.1.symm];exact s _ _ GZ)) (n:=i') (v:=.ref l) rfl (by rw[List.getElem?_map,el];rfl) ⟨.inl ⟨rfl,_,SqL.of (by rw[AK nml.symm];exact s _ _ hll)⟩,?_⟩)⟩
 have bln:=fO cs i'
 refine⟨l,_,_,rfl,rfl,by rw[AK nml.symm];exact s _ _ hll,Nat.lt_of_lt_of_le (show((EF cs i').map λ(k:Nat)=>V.int k).length<1000 by rw[List.length_map];omega) (by decide),?_⟩
 push_cast[↓Tg,↓Th]
 refine⟨_,_,_,by rw[AK bl,AK bb];exact hb2,T.cl,T.nL,_,fR,A.lt,rfl,_,Gd (by rw[AK lt'.symm,AK mt.symm];exact s _ _ BE) (by rw[AK pl',AK pm];exact JX) (by omega),?_⟩
 generalize eH:upd (upd (upd H2 A.m _) l _) A.lt (.dT (C3 AD [.inl ↑i',.inl ↑j'] (.int ↑cs.length)))=H5
 have kp:∀ y,y≠A.m->y≠l->y≠A.lt->H5 y=H2 y:=λy n1 n2 n3=>by rw[<-eH,AK n3,AK n2,AK n1]
 have s5:SameBut (λy=>y=A.m\/y=l\/y=A.lt) H H5:=λy o e ny=>by
  rw[kp y (λz=>ny (.inl z)) (λz=>ny (.inr (.inl z))) (λz=>ny (.inr (.inr z)))]
  exact s _ _ e
 have lo:∀ y,(y=A.m\/y=l\/y=A.lt)->E8 (H y):=by
  rintro y (z | z | z)
  ·exact B.loose (.inl z)
  ·exact B.loose (.inr (.inr (.inl (z ▸ hmem))))
  ·exact B.loose (.inr (.inr (.inr (.inl z))))
 have CP:∀ y∈ks,0<=y/\y<cs.length:=λy hy=>by
  rcases(km y).mp hy with h | ⟨k,e,rfl⟩
  ·exact hkn y h
  ·exact⟨by omega,by have:=N3 e;omega⟩
 refine q ⟨i0,i1,j0,j1⟩ hkn ks H5 kr km ⟨⟨⟨dx,by rw[kp _ bb bl bt];exact hb2⟩,⟨chs++[x],?_,Paired.snoc (Paired.mapP pch λy c h=>h.sb s5 lo) ⟨dy,pl,t,?_,?_,?_⟩⟩,?_,λk l' e=> ?_,B.bk.nd,⟨C3 AD [.inl ↑i',.inl ↑j'] (.int ↑cs.length),?_,λp q=> ?_,?_⟩,⟨C6,?_,hvo,?_⟩,?_,λc hc'=> ?_,λk c e=> ?_,ap,λk c e j ej=> ?_⟩,B.pk.sbL s5 lo ?_,B.nb⟩ (s5.wide λy z=> ?_)
 ·rw[<-eH,AK mt,AK nml,AG,List.map_append];rfl
 ·rw[kp x (km' ex (by intro k z;cases z)) (kll ex (by intro k z;cases z)) (klt ex (by intro k z;cases z))];exact ex
 ·rw[kp pl pm pl' pt];exact JX
 ·rw[kp t (km' et (by intro k z;cases z)) (kll et (by intro k z;cases z)) (klt et (by intro k z;cases z))];exact et
 ·rw[kp _ ap.1.symm nil' it];exact s _ _ GZ
 ·rw[Kc]
  by_cases z:l'=l
  ·subst z
   have ek:k=i':=by
    obtain⟨h1,h2⟩:=List.getElem?_eq_some_iff.mp e
    obtain⟨h3,h4⟩:=List.getElem?_eq_some_iff.mp el
    exact(List.getElem_inj B.bk.nd).mp (h2.trans h4.symm)
   subst ek
   rw[<-eH,AK lt',AG]
   simp
  ·have nk:¬ i'=k:=λy=>by subst y;rw[el]at e;cases e;exact z rfl
   have hl':=B.bk.mic k l' e
   rw[kp l' (λy=>ap.2.1 (y ▸ List.mem_of_getElem? e)) z (klt (s _ _ hl') (by intro k z;cases z))]
   simp only[Int.toNat_natCast,if_neg nk]
   exact s _ _ hl'
 ·rw[<-eH,AG]
 ·rw[NE,UV]
  by_cases z:p=i'/\q=j'
  ·obtain⟨rfl,rfl⟩:=z
   simp
  ·have z1:¬ ([Sum.inl p,Sum.inl q]:List AO)=[.inl ↑i',.inl ↑j']:=λy=>z (by simpa using y)
   have z2:¬ ((((i':Int).toNat:Nat):Int)=p/\(((j':Int).toNat:Nat):Int)=q):=λy=>z ⟨by omega,by omega⟩
   rw[if_neg z1,if_neg z2]
   exact hv p q
 ·have:=LB AD [.inl ↑i',.inl ↑j'] (.int ↑cs.length)
  simp;omega
 ·rw[kp _ (km' (s _ _ F8) (by intro k z;cases z)) (kll (s _ _ F8) (by intro k z;cases z)) (klt (s _ _ F8) (by intro k z;cases z))];exact s _ _ F8
 ·exact hko.mono (by simp)
 ·simp;omega
 ·rcases List.mem_append.mp hc' with h | h
  ·exact B.bk.inn c h
  ·rw[List.mem_singleton.mp h]
   exact⟨by rw[Int.toNat_natCast];exact hil,(show(j':Int).toNat<w by omega)⟩
 ·rcases Nat.lt_or_ge k cs.length with h | h
  ·rw[List.getElem?_append_left h]at e
   exact B.bk.need k c e
  ·rw[List.getElem?_append_right h]at e
   have:k - cs.length=0:=by
    rcases Nat.eq_zero_or_pos (k - cs.length)with z | z
    ·exact z
    ·rw[List.getElem?_eq_none (by simp;omega)]at e;cases e
   rw[this]at e
   cases e
   exact⟨λy hy=>⟨(CP y hy).1,by have:=(CP y hy).2;omega⟩,kr,(show ks.length<=100 by omega)⟩
 ·rcases Nat.lt_or_ge k cs.length with h | h
  ·rw[List.getElem?_append_left h]at e
   rw[List.take_append_of_le_length (by omega)]at ej
   exact B.bk.chn k c e j ej
  ·rw[List.getElem?_append_right h]at e
   have:k - cs.length=0:=by
    rcases Nat.eq_zero_or_pos (k - cs.length)with z | z
    ·exact z
    ·rw[List.getElem?_eq_none (by simp;omega)]at e;cases e
   have hk:k=cs.length:=by omega
   subst hk
   rw[this]at e
   cases e
   rw[List.take_left' rfl]at ej
   exact(km _).mpr (.inr ⟨j,by simpa using ej,rfl⟩)
 ·rintro (z | z | z)
  ·exact ap.2.2.2.1 z
  ·exact ncl z
  ·obtain⟨ts,e,_⟩:=B.pk.ls
   exact klt (s _ _ e) (by intro k z;cases z) z
 ·rcases z with z | z | z
  ·exact .inl z
  ·exact .inr (.inr (.inl (z ▸ hmem)))
  ·exact .inr (.inr (.inr (.inl z)))
theorem BookIn.at{C D:Addr}{A:BA}{w:Nat}{cs:List Ch}{outs:Int->Bool}{H:Hp}(B:BookIn C D H A w cs outs){k:Nat}{c:Ch}(e:cs[k]? =some c):∃ xs x,H A.m=some (.lst xs)/\xs[k]? =some (.ref x)/\ChAt D H x c:=by
 obtain⟨chs,h,p⟩:=B.made
 obtain⟨x,ex,hx⟩:=NR p e
 exact⟨_,x,h,by rw[List.getElem?_map,ex];rfl,hx⟩
theorem za7{n:Nat}{outs:Int->Bool}{k:Nat}(h:k∈FA n outs):k<n/\outs k=false:=by
 have:=List.mem_filter.mp h
 exact⟨List.mem_range.mp this.1,by simpa using this.2⟩
theorem za8(n:Nat)(outs:Int->Bool):(FA n outs).Pairwise (· <·):=List.pairwise_lt_range.filter _
theorem za9(n:Nat)(outs:Int->Bool):(FA n outs).length<=n:=by
 have:=List.length_filter_le (λ(k:Nat)=> !outs k) (List.range n)
 rwa [List.length_range]at this
theorem zba(h:Q2 K a vs H Q E):V3 K a (λ_=>E) (BD Q) (A0 ["self","numbers","found","number","need"] vs) H:=by
  obtain⟨A,w,rows,n,cs,outs,nl,ns,rfl,T,B,hs,hl,q,qe⟩:=h
  obtain⟨dx,hb⟩:=B.bk.ob
  push_cast[V3,↓ME,↓MF,↓MG,↓MH,↓MI,↓MJ,↓MK,↓ML,↓MM]
  refine⟨_,_,hb,D1 (by decide +kernel),A,w,rows,n,cs,outs,nl,ns,rfl,T,B,hs,λhkn f hf=> ?_,qe⟩
  refine .inl ⟨⟨_,(AL hf).seq hs⟩,?_⟩
  refine NP (xs:=ns.map V.int) (λi σ H'=>∃ AD,H'=upd H f (.dK AD)/\(∀ x:Int,(BO AD (.inl x)).isSome=true↔x∈ns.take i)/\AD.length<=i/\∃ z,σ=[some (.ref A.b),some (.ref nl),some (.ref f),z,none]) ⟨[],rfl,by simp[S6],Nat.le_refl _,_,rfl⟩ (λi σ H' _ ⟨AD,e,_⟩=>by rw[e];exact(AL hf).seq hs) (λi x σ H' hx hzz=> ?_) (λσ H' hzz=> ?_)
  · obtain⟨AD,e,hv,OZ,z,ez⟩:=hzz
    subst e;subst ez
    have hi:=(List.getElem?_eq_some_iff.mp hx).1
    rw[List.length_map]at hi
    rw[List.getElem?_map,Option.map_eq_some_iff]at hx
    obtain⟨x',hx',rfl⟩:=hx
    push_cast[↓ME,↓MF,↓MG,↓MH,↓MI,↓MJ,↓MK,↓ML,↓MM]
    refine⟨_,pI AG (by omega),_,GA,λy=> ?_,?_⟩
    · rw[NE,List.take_add_one,hx',List.mem_append,<-hv y]
      by_cases e:y=x'
      ·subst e;simp
      · have:¬ (Sum.inl y:AO)=Sum.inl x':=λz=>e (by simpa using z)
        rw[if_neg this];simp[e]
    · have:=LB AD (.inl x') (.bl true)
      omega
  · obtain⟨AD,e,hv,OZ,z,ez⟩:=hzz
    subst e;subst ez
    rw[List.length_map,List.take_length]at hv
    rw[List.length_map]at OZ
    push_cast[↓ME,↓MF,↓MG,↓MH,↓MI,↓MJ,↓MK,↓ML,↓MM]
    have s1:=AL (o:=.dK AD) hf
    have f1:upd H f (.dK AD) f=some (.dK AD):=AG
    have B1:=B.same s1
    refine⟨_,_,s1 _ _ hb,D1 (by decide +kernel),A,w,rows,n,cs,outs,rfl,T,B1,λl H2 GW s2 el=> ?_⟩
    push_cast[]
    have f2:=s2 _ _ f1
    have s02:=s1.trans s2
    have B2:=B.same s02
    have nfl:f≠l:=BN f1 GW
    refine⟨_,SqL.of el,?_⟩
    have wl:=za9 cs.length outs
    have sz:=B.bk.sz
    have rise:=za8 cs.length outs
    have hW:(BM (FA cs.length outs)).length=(FA cs.length outs).length:=List.length_map _
    have keep:∀ kvs',Same H (upd H2 f (.dK kvs')):=λkvs' b o e=>by
      rw[AK (BN e hf)];exact s02 _ _ e
    have Bk:∀ kvs',D9 a (upd H2 f (.dK kvs')) A w rows n cs outs:=λkvs'=>B.same (keep kvs')
    refine Fj (λi σ H'=>∃ kvs',H'=upd H2 f (.dK kvs')/\(∀ x∈ns,(BO kvs' (.inl x)).isSome=true)/\(∀ x:Int,(BO kvs' (.inl x)).isSome=true->x∈ns\/∃ (k:Nat) (c:Ch),cs[k]? =some c/\outs k=false/\(BO kvs' (.inl (k:Int))).isSome=true/\x∈c.nd) ∧
      (∀ (t:Nat) (k:Nat) (c:Ch),(FA cs.length outs)[t]? =some k->(FA cs.length outs).length - i<=t->cs[k]? =some c->(BO kvs' (.inl (k:Int))).isSome=true->∀ y∈c.nd,(BO kvs' (.inl y)).isSome=true)/\kvs'.length<=1000+100 * i/\∃ z z',σ=[some (.ref A.b),some (.ref nl),some (.ref f),z,z'])
      ⟨AD,?_,λx hx=>(hv x).mpr hx,λx hx=>.inl ((hv x).mp hx),λt k c e1 e2=> ?_,by omega,_,_,rfl⟩ (λi σ H' _ ⟨kvs',e,_⟩=>by rw[e];exact SqL.of (by rw[AK nfl.symm];exact el)) (λi x σ H' hi hx ⟨kvs',e,h1,h3,h2,hkl',z,z',ez⟩=> ?_) (λσ H' ⟨kvs',e,h1,h3,h2,hkl',z,z',ez⟩=> ?_)
    · funext b
      by_cases e:b=f
      ·subst e;rw[AG];exact f2
      ·rw[AK e]
    · have:=(List.getElem?_eq_some_iff.mp e1).1
      omega
    · subst e;subst ez
      rw[hW]at hi hx
      unfold BM at hx
      rw[List.getElem?_map,Option.map_eq_some_iff]at hx
      obtain⟨k,hx',rfl⟩:=hx
      obtain⟨hk,ho⟩:=za7 (List.mem_of_getElem? hx')
      have ec:=List.getElem?_eq_getElem hk
      revert ec
      generalize cs[k]=c
      intro ec
      push_cast[↓ME,↓MF,↓MG,↓MH,↓MI,↓MJ,↓MK,↓ML,↓MM]
      refine⟨_,dI AG,?_⟩
      have later:∀ (t k':Nat),(FA cs.length outs)[t]? =some k'->(FA cs.length outs).length - (i+1)<=t->k'=k\/(k<k'/\(FA cs.length outs).length - i<=t):=λt k' e1 e2=>by
        by_cases z:t=(FA cs.length outs).length - 1 - i
        ·subst z;rw[hx']at e1;cases e1;exact .inl rfl
        · obtain⟨h5,rfl⟩:=List.getElem?_eq_some_iff.mp e1
          obtain⟨h6,rfl⟩:=List.getElem?_eq_some_iff.mp hx'
          exact .inr ⟨List.pairwise_iff_getElem.mp rise _ _ h6 h5 (by omega),by omega⟩
      cases hin:(BO kvs' (.inl (k:Int))).isSome with
      | false =>
        push_cast[]
        refine⟨_,rfl,h1,h3,λt k' c' e1 e2 e3 e4=> ?_,by omega⟩
        rcases later t k' e1 e2 with rfl | ⟨_,z⟩
        ·rw[hin]at e4;cases e4
        ·exact h2 t k' c' e1 z e3 e4
      | true =>
        push_cast[]
        obtain⟨xs,cx,hm,ex,DE⟩:=(Bk kvs').bk.at ec
        obtain⟨dc,pl,nt,hc1,hc2,hc3⟩:=DE
        have hb2:=(keep kvs') _ _ hb
        refine⟨_,_,_,hb2,T.cl,T.nM,_,JH,C4 (SqL.of hm) rfl ex ⟨cx,rfl,_,_,_,hc1,T.cc,T.nN,_,fP,nt,rfl,.inr ⟨⟨_,SqT.of hc3⟩,?_⟩⟩⟩
        obtain⟨nd1,nd2,nd3⟩:=B.bk.need k c ec
        refine dP (xs:=c.nd.map V.int) (λt σ H'=>∃ kv2,H'=upd H2 f (.dK kv2)/\(∀ x:Int,(BO kv2 (.inl x)).isSome=true↔(BO kvs' (.inl x)).isSome=true\/x∈c.nd.take t)/\kv2.length<=kvs'.length+t/\∃ z',σ=[some (.ref A.b),some (.ref nl),some (.ref f),some (.int k),z'])
          ⟨kvs',rfl,by simp,Nat.le_refl _,_,rfl⟩ (λt σ H' _ ⟨kv2,e,_⟩=> ?_) (λt y σ H' hy ⟨kv2,e,KS,hl2',z2,ez⟩=> ?_) (λσ H' ⟨kv2,e,KS,hl2',z2,ez⟩=> ?_)
        · rw[e]
          have nf:nt≠f:=DF hc3 AG (by intro z;cases z)
          rw[AK nf]at hc3
          exact SqT.of (by rw[AK nf];exact hc3)
        · subst e;subst ez
          have hty:=(List.getElem?_eq_some_iff.mp hy).1
          rw[List.length_map]at hty
          rw[List.getElem?_map,Option.map_eq_some_iff]at hy
          obtain⟨y',hy',rfl⟩:=hy
          push_cast[↓ME,↓MF,↓MG,↓MH,↓MI,↓MJ,↓MK,↓ML,↓MM]
          refine⟨_,pI AG (by omega),_,GA,λx=> ?_,?_⟩
          · rw[NE,List.take_add_one,hy',List.mem_append]
            by_cases e:x=y'
            ·subst e;simp
            · have:¬ (Sum.inl x:AO)=Sum.inl y':=λz=>e (by simpa using z)
              rw[if_neg this,KS x];simp[e]
          · have:=LB kv2 (.inl y') (.bl true)
            omega
        · subst e;subst ez
          rw[List.length_map,List.take_length]at KS
          rw[List.length_map]at hl2'
          have up:∀ {x:Int},(BO kvs' (.inl x)).isSome=true->(BO kv2 (.inl x)).isSome=true:=λh=>(KS _).mpr (.inl h)
          refine⟨kv2,rfl,λx hx=>up (h1 x hx),λx hx=> ?_,λt k' c' e1 e2 e3 e4 y hy=> ?_,by omega,_,_,rfl⟩
          · rcases(KS x).mp hx with h | h
            · rcases h3 x h with h | ⟨k',c',e1,e2,e3,e4⟩
              ·exact .inl h
              ·exact .inr ⟨k',c',e1,e2,up e3,e4⟩
            ·exact .inr ⟨k,c,ec,ho,up hin,h⟩
          · rcases later t k' e1 e2 with rfl | ⟨BE,z⟩
            · rw[ec]at e3;cases e3
              exact(KS y).mpr (.inr hy)
            · rcases(KS _).mp e4 with h | h
              ·exact up (h2 t k' c' e1 z e3 h y hy)
              · have:=(nd1 _ h).2
                omega
    · subst e;subst ez
      rw[hW]at h2
      push_cast[↓ME,↓MF,↓MG,↓MH,↓MI,↓MJ,↓MK,↓ML,↓MM]
      have s3:=keep kvs'
      refine⟨_,_,s3 _ _ hb,D1 (by decide +kernel),A,w,rows,n,cs,outs,rfl,T,Bk kvs',λl2 H4 hl4 s4 el4=> ?_⟩
      push_cast[]
      have f4:H4 f=some (.dK kvs'):=s4 _ _ AG
      refine .inl ⟨⟨_,SqL.of el4⟩,?_⟩
      refine UC (λv=>match v with
        | .int x=>(BO kvs' (.inl x)).isSome
        | _=>false) (BV _ (by omega)) (SqL.of el4) (λx hx QB qb=> ?_) λr hr=> ?_
      · unfold BM at hx
        obtain⟨k,hk,rfl⟩:=List.mem_map.mp hx
        push_cast[C7]
        exact⟨_,dI f4,qb⟩
      · refine q hkn r _ (λx=>(BO kvs' (.inl x)).isSome) h1 (λk c e1 e2 e3 y hy=> ?_) h3 ((s3.trans s4).free hr) ((s3.trans s4).trans (AL hr)) ?_
        · have hkm:k∈FA cs.length outs:=List.mem_filter.mpr ⟨List.mem_range.mpr (List.getElem?_eq_some_iff.mp e1).1,by rw[e2];rfl⟩
          obtain⟨t,et⟩:=fT hkm
          exact h2 t k c et (by omega) e1 e3 y hy
        · rw[AG]
          unfold BM
          rw[List.filter_map]
          rfl
theorem zbb{w n:Nat}{rows:List (List V)}{gp cl:Addr}{H1:Hp}{Q:Addr->Hp->Prop}{E:XK}(T:TB K a)(TP:ET K a)(P:PlankAt a H1 gp cl w rows n)
  (q:∀ (A:BA) (H2:Hp),A.gp=gp->A.cl=cl->(∀ x o,H1 x=some o->x=cl\/¬ A.F x)->D9 a H2 A w rows n [] (λ_=>false)->Same H1 H2->Q A.b H2) :
  ∀ x dx,H1 x=none->H1 dx=none->dx≠x->N6 K a [.ref x,.ref gp] (upd (upd H1 dx (.own x)) x (.ins (E9 a) dx [])) (λv H2=>v=.non/\Q x H2) E:=λb db hb hdb ndb=>by
 have s0:Same H1 (upd (upd H1 db (.own b)) b (.ins (E9 a) db [])):=(AL hdb).trans (AL (by rw[AK ndb.symm];exact hb))
 refine⟨b,gp,cl,db,w,rows,n,rfl,T,TP,P.same s0,AG,λm mi lt ou ls H4 hm GZ BE F8 hls B4 sb4=>⟨rfl,?_⟩⟩
 refine q ⟨b,gp,m,mi,lt,ou,ls,cl⟩ H4 rfl rfl (λx o e=> ?_) B4 λy o e=>sb4 _ _ (s0 _ _ e) (BN e hb)
 by_cases z:x=cl
 ·exact .inl z
 ·refine .inr ?_
  have e':=s0 _ _ e
  rintro (y | y | y | y | y | y)
  ·rw[y]at e';rw[show(BA.mk b gp m mi lt ou ls cl).m=m from rfl,hm]at e';cases e'
  ·rw[y]at e';rw[show(BA.mk b gp m mi lt ou ls cl).mi=mi from rfl,GZ]at e';cases e'
  ·rw[hls x y]at e';cases e'
  ·rw[y]at e';rw[show(BA.mk b gp m mi lt ou ls cl).lt=lt from rfl,BE]at e';cases e'
  ·rw[y]at e';rw[show(BA.mk b gp m mi lt ou ls cl).ou=ou from rfl,F8]at e';cases e'
  ·exact z y
theorem zbc(h:KE K a vs H Q E):WX K a (λ_=>E) (BD Q) (A0 ["self","place","number"] vs) H:=by
 obtain⟨A,w,rows,n,cs,outs,pl,i,j,rfl,T,TP,B,hp,q,qe⟩:=h
 obtain⟨dx,hb⟩:=B.bk.ob
 obtain⟨dp,hg⟩:=B.pk.ob
 push_cast[WX,↓Tj,↓Tk,↓Tl,↓Tm]
 refine⟨_,_,hb,D1 (by decide +kernel),A,w,rows,n,cs,outs,pl,i,j,rfl,T,TP,B,hp,λh=> ?_,qe⟩
 have q:=q h
 unfold EM at q
 cases e:D0 cs i j with
 | none =>
  rw[e]at q
  push_cast[FT]
  refine⟨_,_,_,hb,T.cl,T.nG,_,UX,A.gp,rfl,_,_,hg,zay _ _ _,D8 hp (n:=0) rfl rfl ?_⟩
  refine⟨A.gp,A.cl,w,rows,n,i,rfl,TP,B.pk,λb' row eb er vl hvl=> ?_,λz=>absurd h λy=>by omega⟩
  subst eb
  have s1:=AL (o:=.lst row) hvl
  refine D8 (s1 _ _ hp) (n:=1) rfl rfl ?_
  have rl:=B.pk.wd row (List.mem_of_getElem? er)
  have hj:j.toNat<row.length:=by omega
  have ej:=List.getElem?_eq_getElem hj
  refine C4 (SqL.of AG) (n:=j.toNat) (v:=row[j.toNat]) (by omega) ej ?_
  refine q _ _ ?_ s1
  rw[show((b':Int)).toNat=b' from by omega,er]
  exact ej
 | some k =>
  rw[e]at q
  push_cast[FT]
  have hk:=N3 e
  have ec:=List.getElem?_eq_getElem hk
  obtain⟨chs,hm,pc⟩:=B.bk.made
  obtain⟨x,ex,dx',p1,n1,h1,h2,h3⟩:=NR pc ec
  refine⟨_,_,_,hb,T.cl,T.nM,_,JH,C4 (SqL.of hm) (n:=k) (v:=.ref x) rfl (by rw[List.getElem?_map,ex];rfl) ⟨x,rfl,_,_,_,h1,T.cc,T.nV,_,Kg,q _ _ ?_ (Same.refl _)⟩⟩
  show(cs[k]?).map (·.val)=_
  rw[ec]
  rfl
theorem zbd(h:Q3 K a vs H Q E):VJ K a (λ_=>E) (BD Q) (A0 ["self","number","gone","need"] vs) H:=by
 obtain⟨A,w,rows,n,cs,outs,k,c,g,kvg,rfl,T,B,ec,hg,q⟩:=h
 obtain⟨dx,hb⟩:=B.bk.ob
 obtain⟨xs,cx,hm,ex,DE⟩:=B.bk.at ec
 obtain⟨dc,pl,nt,hc1,hc2,hc3⟩:=DE
 obtain⟨C6,ho,hv,_⟩:=B.bk.out
 push_cast[VJ,↓VF,↓VG,↓VH,↓VI]
 refine⟨_,_,_,hb,T.cl,T.nM,_,JH,C4 (SqL.of hm) rfl ex ⟨cx,rfl,_,_,_,hc1,T.cc,T.nN,_,fP,nt,rfl,.inr ⟨⟨_,SqT.of hc3⟩,?_⟩⟩⟩
 refine dP (xs:=c.nd.map V.int) (λi σ H'=>H'=H/\(∀ x∈c.nd.take i,(outs x || BR kvg x)=true)/\∃ z,σ=[some (.ref A.b),some (.int k),some (.ref g),z]) ⟨rfl,by simp,_,rfl⟩ (λi σ H' _ ⟨e,_⟩=>e ▸ SqT.of hc3) (λi x σ H' hx hzz=> ?_) (λσ H' hzz=> ?_)
 ·obtain⟨e,al,z,ez⟩:=hzz
  subst e;subst ez
  rw[List.getElem?_map,Option.map_eq_some_iff]at hx
  obtain⟨y,hy,rfl⟩:=hx
  push_cast[↓VF,↓VG,↓VH,↓VI]
  have step:(outs y || BR kvg y)=true->∀ x∈c.nd.take (i+1),(outs x || BR kvg x)=true:=λh x hx=>by
   rw[List.take_add_one,hy]at hx
   rcases List.mem_append.mp hx with hx | hx
   ·exact al x hx
   ·have:x=y:=by simpa using hx
    exact this ▸ h
  refine⟨_,_,_,hb,T.cl,T.nO,_,UY,A.ou,rfl,_,dI ho,?_⟩
  rw[hv]
  cases h1:outs y with
  | true =>
   push_cast[]
   exact step (by rw[h1];rfl)
  | false =>
   push_cast[]
   refine⟨_,dI hg,?_⟩
   cases h2:(BO kvg (.inl y)).isSome with
   | true =>
    push_cast[]
    exact step (by show(outs y || (BO kvg (.inl y)).isSome)=true;rw[h2];simp)
   | false =>
    push_cast[]
    have e:KA c.nd (λx=>outs x || BR kvg x)=some y:=by
     obtain⟨hi,e⟩:=List.getElem?_eq_some_iff.mp hy
     unfold KA
     rw[List.find?_eq_some_iff_append]
     refine⟨by show(!(outs y || (BO kvg (.inl y)).isSome))=true;rw[h1,h2];rfl,c.nd.take i,c.nd.drop (i+1),?_,λx hx=>by show(!!(outs x || BR kvg x))=true;rw[al x hx];rfl⟩
     rw[<-e,<-List.drop_eq_getElem_cons hi,List.take_append_drop]
    rw[e]at q
    exact q
 ·obtain⟨e,al,z,ez⟩:=hzz
  subst e;subst ez
  rw[List.length_map,List.take_length]at al
  push_cast[↓VF,↓VG,↓VH,↓VI]
  have e:KA c.nd (λx=>outs x || BR kvg x)=none:=List.find?_eq_none.mpr λx hx=>by show ¬ (!(outs x || BR kvg x))=true;rw[al x hx];exact Bool.false_ne_true
  rw[e]at q
  exact q
def zbe(s:Pass)(m:Nat)(H1 H':Hp)(g ol hl:Addr):Prop:=∃ (kvg:List (AO × V)) (hs:List Addr),SameBut (λy=>y=g\/y=ol\/y=hl) H1 H'/\H' g=some (.dK kvg)/\(∀ x:Int,BR kvg x=s.gone x)/\kvg.length<=m/\H' ol=some (.lst (s.out.map λ(k:Nat)=>V.int k)) ∧
 H' hl=some (.lst (hs.map V.ref))/\Paired (λx (p:Nat × Int)=>H' x=some (.tup [.int p.1,.int p.2])) hs s.held
theorem zbf(AD:List (AO × V))(k x:Int)(v:V):BR (C3 AD (.inl k) v) x=(BR AD x || x == k):=by
 unfold BR
 rw[NE]
 by_cases e:x=k
 ·subst e;simp
 ·have:¬ (Sum.inl x:AO)=Sum.inl k:=λz=>e (by simpa using z)
  rw[if_neg this];simp[e]
theorem zbg(h:Q4 K a vs H Q E):WG K a (λ_=>E) (BD Q) (A0 ["self","block","taken","gone","out","held","number","lack"] vs) H:=by
 obtain⟨A,w,rows,n,cs,outs,b,tk,kvt,rfl,T,B,hbl,htk,hkt,q⟩:=h
 obtain⟨dx,hb⟩:=B.bk.ob
 push_cast[WG,↓V5,↓V6,↓V7,↓V8,↓V9,↓WA,↓WB,↓WC,↓WD,↓WE,↓WF]
 refine⟨_,htk,λg hg=>⟨by decide,λol hol=>⟨by decide,λhl hhl=> ?_⟩⟩⟩
 have s1:Same H (upd (upd (upd H g (.dK kvt)) ol (.lst [])) hl (.lst [])):=((AL hg).trans (AL hol)).trans (AL hhl)
 have ngo:g≠ol:=BN AG hol
 have nol:ol≠hl:=BN AG hhl
 have ngl:g≠hl:=BN (by rw[AK ngo];exact AG) hhl
 have eg:upd (upd (upd H g (.dK kvt)) ol (.lst [])) hl (.lst []) g=some (.dK kvt):=by rw[AK ngl,AK ngo,AG]
 have eo:upd (upd (upd H g (.dK kvt)) ol (.lst [])) hl (.lst []) ol=some (.lst []):=by rw[AK nol,AG]
 have el:upd (upd (upd H g (.dK kvt)) ol (.lst [])) hl (.lst []) hl=some (.lst []):=AG
 have holH:H ol=none:=(AL hg).free hol
 have hhlH:H hl=none:=((AL hg).trans (AL hol)).free hhl
 revert s1 eg eo el
 generalize upd (upd (upd H g (.dK kvt)) ol (.lst [])) hl (.lst [])=H1
 intro s1 eg eo el
 have hil:b<A.ls.length:=by rw[B.nb];exact hbl
 have ell:=List.getElem?_eq_getElem hil
 have hll:=B.bk.mic b _ ell
 revert ell hll
 generalize A.ls[b]=l
 intro ell hll
 refine⟨_,_,_,s1 _ _ hb,T.cl,T.nI,_,fQ,C4 (SqL.of (s1 _ _ B.bk.mil)) (n:=b) (v:=.ref l) rfl (by rw[List.getElem?_map,ell];rfl) ⟨l,rfl,.inl ⟨⟨_,SqL.of (s1 _ _ hll)⟩,?_⟩⟩⟩
 have bln:=fO cs b
 have sz:=B.bk.sz
 have G:∀ {H':Hp},SameBut (λy=>y=g\/y=ol\/y=hl) H1 H'->Same H H':=λsb y o e=>sb _ _ (s1 _ _ e) (by
  rintro (z | z | z)
  ·rw[z,hg]at e;cases e
  ·rw[z,holH]at e;cases e
  ·rw[z,hhlH]at e;cases e)
 refine NP (xs:=(EF cs b).map λ(k:Nat)=>V.int k) (λi σ H'=>zbe (((EF cs b).take i).foldl (DJ cs outs) ⟨[],[],BR kvt⟩) (1000+i) H1 H' g ol hl/\∃ z1 z2,σ=[some (.ref A.b),some (.int b),some (.ref tk),some (.ref g),some (.ref ol),some (.ref hl),z1,z2])
  ⟨⟨kvt,[],SameBut.refl _,eg,λ_=>rfl,by omega,eo,el,.nil⟩,_,_,rfl⟩ (λi σ H' _ ⟨⟨kvg,hs,sb,_⟩,_⟩=>SqL.of (G sb _ _ hll)) (λi x σ H' hx ⟨iv,z1,z2,ez⟩=> ?_) (λσ H' ⟨iv,z1,z2,ez⟩=> ?_)
 ·subst ez
  have hi:=(List.getElem?_eq_some_iff.mp hx).1
  rw[List.length_map]at hi
  rw[List.getElem?_map,Option.map_eq_some_iff]at hx
  obtain⟨k,hk,rfl⟩:=hx
  have hkc:=fM (List.mem_of_getElem? hk)
  have ec:=List.getElem?_eq_getElem hkc
  revert ec
  generalize cs[k]=c
  intro ec
  have hszs:=fV (cs:=cs) (outs:=outs) ((EF cs b).take i) ⟨[],[],BR kvt⟩
  have es:=Kp (DJ cs outs) (⟨[],[],BR kvt⟩:Pass) hk
  revert iv hszs es
  generalize ((EF cs b).take i).foldl (DJ cs outs) ⟨[],[],BR kvt⟩=s
  generalize ((EF cs b).take (i+1)).foldl (DJ cs outs) ⟨[],[],BR kvt⟩=s'
  intro iv hszs es
  obtain⟨kvg,hs,sb,e1,e2,e3,e4,e5,e6⟩:=iv
  simp only[List.length_nil,List.length_take]at hszs
  have sH:=G sb
  have B':=B.same sH
  obtain⟨C6,ho,hv,_⟩:=B.bk.out
  push_cast[↓V5,↓V6,↓V7,↓V8,↓V9,↓WA,↓WB,↓WC,↓WD,↓WE,↓WF]
  refine⟨_,_,_,sH _ _ hb,T.cl,T.nO,_,UY,A.ou,rfl,_,dI (sH _ _ ho),?_⟩
  rw[hv]
  unfold DJ at es
  cases h1:outs k with
  | true =>
   rw[h1,Bool.true_or,if_pos rfl]at es
   push_cast[]
   rw[es]
   exact⟨kvg,hs,sb,e1,e2,by omega,e4,e5,e6⟩
  | false =>
   rw[h1,Bool.false_or]at es
   push_cast[]
   refine⟨_,dI e1,?_⟩
   have e2k:(BO kvg (.inl (k:Int))).isSome=s.gone k:=e2 k
   rw[e2k]
   cases h2:s.gone k with
   | true =>
    rw[h2,if_pos rfl]at es
    push_cast[]
    rw[es]
    exact⟨kvg,hs,sb,e1,e2,by omega,e4,e5,e6⟩
   | false =>
    rw[h2,if_neg Bool.false_ne_true,ec]at es
    push_cast[]
    refine⟨_,_,sH _ _ hb,D1 (by decide +kernel),A,w,rows,n,cs,outs,k,c,g,kvg,rfl,T,B',ec,e1,?_⟩
    have efn:(λx=>outs x || BR kvg x)=λx=>outs x || s.gone x:=by funext x;rw[e2]
    rw[efn]
    simp only[Option.bind_some]at es
    cases h3:KA c.nd (λx=>outs x || s.gone x)with
    | none =>
     rw[h3]at es
     dsimp only at es
     dsimp only [U7]
     rw[if_pos rfl]
     refine⟨_,pI e1 (by omega),.inl ⟨rfl,_,SqL.of (by rw[AK ngo.symm];exact e4)⟩,ol,_,_,rfl,rfl,by rw[AK ngo.symm];exact e4,Nat.lt_of_lt_of_le (show(s.out.map λ(k:Nat)=>V.int k).length<1000 by rw[List.length_map];omega) (by decide),?_⟩
     rw[es]
     refine⟨_,hs,?_,by rw[AK ngo,AG],λx=>by rw[zbf,e2],?_,by rw[AG,List.map_append];rfl,by rw[AK nol.symm,AK ngl.symm];exact e5,Paired.mapP e6 λx p e=> ?_⟩
     ·intro y o e ny
      rw[AK λz=>ny (.inr (.inl z)),AK λz=>ny (.inl z)]
      exact sb _ _ e ny
     ·have:=LB kvg (.inl (k:Int)) (.bl true)
      omega
     ·rw[AK (DF e e4 (by intro z;cases z)),AK (DF e e1 (by intro z;cases z))];exact e
    | some l' =>
     rw[h3]at es
     dsimp only at es
     dsimp only [U7]
     rw[if_neg (by intro z;cases z)]
     refine⟨.inl ⟨rfl,_,SqL.of e5⟩,by decide,λtp htp=> ?_⟩
     have ntl:hl≠tp:=BN e5 htp
     refine⟨hl,_,_,rfl,rfl,by rw[AK ntl];exact e5,Nat.lt_of_lt_of_le (show(hs.map V.ref).length<1000 by rw[List.length_map,e6.length];omega) (by decide),?_⟩
     rw[es]
     have s2:=AL (o:=.tup [.int (k:Int),.int l']) htp
     have kp:∀ y,y≠hl->y≠tp->upd (upd H' tp (.tup [.int (k:Int),.int l'])) hl (.lst (hs.map V.ref++[.ref tp])) y=H' y:=λy n1 n2=>by rw[AK n1,AK n2]
     refine⟨kvg,hs++[tp],?_,by rw[kp g ngl (BN e1 htp)];exact e1,e2,by omega,by rw[kp ol nol (BN e4 htp)];exact e4,by rw[AG,List.map_append];rfl,Paired.snoc (Paired.mapP e6 λx p e=> ?_) ?_⟩
     ·intro y o e ny
      have e':=sb _ _ e ny
      rw[kp y (λz=>ny (.inr (.inr z))) (BN e' htp)];exact e'
     ·rw[kp x (DF e e5 (by intro z;cases z)) (BN e htp)];exact e
     ·rw[AK ntl.symm,AG]
 ·subst ez
  rw[List.length_map,List.take_length]at iv
  push_cast[↓V5,↓V6,↓V7,↓V8,↓V9,↓WA,↓WB,↓WC,↓WD,↓WE,↓WF]
  obtain⟨kvg,hs,sb,e1,e2,e3,e4,e5,e6⟩:=iv
  refine⟨by decide,λt ht=> ?_⟩
  have s2:=AL (o:=.tup [.ref ol,.ref hl]) ht
  exact q t ol hl _ holH hhlH nol ((G sb).trans s2) ⟨AG,s2 _ _ e4,hs,s2 _ _ e5,Paired.mapP e6 λx p e=>s2 _ _ e⟩
theorem zbh(h:Q5 K a vs H Q E):VD K a (λ_=>E) (BD Q) (A0 ["self","number"] vs) H:=by
 obtain⟨A,w,rows,n,cs,outs,k,c,rfl,T,B,ec,q⟩:=h
 obtain⟨dx,hb⟩:=B.bk.ob
 obtain⟨xs,p,e1,e2,dx2,pl,nt,c1,c2,c3⟩:=B.bk.at ec
 push_cast[VD,↓Mj]
 refine⟨_,_,_,hb,T.cl,T.nM,_,JH,C4 (SqL.of e1) rfl e2 ?_⟩
 push_cast[]
 exact⟨_,_,_,c1,T.cc,T.nP,_,Kd,D8 c2 (n:=0) rfl rfl q⟩
structure pV(cs:List Ch)(outs R:Int->Bool)(H0:Hp)(rw tk lf:Addr)(sofar lefts:List Nat)(kvt:List (AO × V))(H:Hp):Prop where
 sb:Same H0 H
 er:H rw=some (.lst (BM sofar))
 et:H tk=some (.dK kvt)
 el:H lf=some (.lst (BM lefts))
 nrt:H0 rw=none/\H0 tk=none/\rw≠lf
 lft:lefts=EG cs.length (λx=>outs x || BR kvt x) R
 row:∀ rest,HC cs (λx=>outs x || BR kvt x) lefts rest->HC cs outs (EG cs.length outs R) (sofar++rest)
 ks:KeysOk kvt cs.length
 sl:sofar.length+lefts.length<=cs.length
theorem zbi(AD:List (AO × V))(k x:Int)(v:V):BR (C3 AD (.inl k) v) x=(BR AD x || x == k):=by
 unfold BR
 rw[NE]
 by_cases e:(Sum.inl x:AO)=.inl k
 ·cases e;simp
 ·have:¬ x=k:=λy=>e (by rw[y])
  rw[if_neg e]
  simp[this]
theorem zbj(h:Q6 K a vs H Q E):WT K a (λ_=>E) (BD Q) (A0 ["hold","numbers","row","taken","left","block","number"] vs) H:=by
 obtain⟨A,w,rows,n,cs,outs,nl,ns,rfl,T,B,hs,hl,q,qe⟩:=h
 push_cast[WT,↓Rz,↓Sb,↓Sd]
 refine⟨by decide,λrw hrw tk htk=> ?_⟩
 have nrt:rw≠tk:=BN AG htk
 have htkH:H tk=none:=by rw[AK nrt.symm]at htk;exact htk
 have s1:=(AL (o:=.lst []) hrw).trans (AL (o:=.dK []) htk)
 have er1:upd (upd H rw (.lst [])) tk (.dK []) rw=some (.lst []):=by rw[AK nrt,AG]
 have et1:upd (upd H rw (.lst [])) tk (.dK []) tk=some (.dK []):=AG
 revert s1 er1 et1
 generalize upd (upd H rw (.lst [])) tk (.dK [])=H1
 intro s1 er1 et1
 have B1:=B.same s1
 obtain⟨dx1,hb1⟩:=B1.bk.ob
 refine⟨_,_,hb1,D1 (by decide +kernel),A,w,rows,n,cs,outs,nl,ns,rfl,T,B1,s1.seq hs,hl,λkn lf H2 R r1 r2 r3 hlf s2 elf=> ?_,λbad=>qe bad _ s1⟩
 have cR:JI cs outs ns R:=⟨r1,r2,r3⟩
 have low:=λk c e=>(B.bk.need k c e).1
 have csz:=B.bk.sz
 simp only[↓Sm]
 have DU:=s1.trans s2
 have nlf:rw≠lf:=λe=>by rw[<-e,er1]at hlf;cases hlf
 have llen:(EG cs.length outs R).length<=cs.length:=by
  have h1:=List.length_filter_le (λ(k:Nat)=>R k) ((List.range cs.length).filter λ(k:Nat)=> !outs k)
  have h2:=List.length_filter_le (λ(k:Nat)=> !outs k) (List.range cs.length)
  rw[List.length_range]at h2
  exact Nat.le_trans h1 h2
 refine⟨λm σ H'=>∃ (lf:Addr) (sofar lefts:List Nat) (kvt:List (AO × V)),pV cs outs R H rw tk lf sofar lefts kvt H'/\lefts.length=m/\∃ y5 y6,σ=[some (.ref A.b),some (.ref nl),some (.ref rw),some (.ref tk),some (.ref lf),y5,y6],⟨_,lf,[],_,[],⟨DU,s2 _ _ er1,s2 _ _ et1,elf,⟨hrw,htkH,nlf⟩,?_,λrest h=> ?_,⟨List.nodup_nil,by simp⟩,by show 0+_<=_;rw[Nat.zero_add];exact llen⟩,rfl,_,_,rfl⟩,?_⟩
 ·simp[BR,S6,EG,FA]
 ·simpa [BR,S6,EG,FA]using h
 rintro m σ H3 ⟨lf,sofar,lefts,kvt,I,hm,y5,y6,rfl⟩
 push_cast[]
 refine⟨!(BM lefts).isEmpty,.inl ⟨_,SqL.of I.el,rfl⟩,?_⟩
 cases lefts with
 | nil =>
  rw[if_neg (by simp[BM])]
  push_cast[↓Sq]
  have sl:=I.sl
  have:=I.row [] .nil
  rw[List.append_nil]at this
  exact q kn rw sofar R H3 cR this (by simpa using sl) hrw I.sb I.er
 | cons k r =>
  rw[if_pos (by simp[BM])]
  have hk:=QS.mp (show k∈EG cs.length (λx=>outs x || BR kvt x) R by rw[<-I.lft];exact List.mem_cons_self ..)
  have ec:=List.getElem?_eq_getElem hk.1
  revert ec
  generalize cs[k]=c
  intro ec
  have B3:=B.same I.sb
  obtain⟨dx3,hb3⟩:=B3.bk.ob
  have hkk:=I.ks.len
  refine⟨λσ' H'=>∃ (lf':Addr) (lefts':List Nat) (kvt':List (AO × V)),pV cs outs R H rw tk lf' (sofar++[c.blk]) lefts' kvt' H'/\lefts'.length<m/\∃ y5 y6,σ'=[some (.ref A.b),some (.ref nl),some (.ref rw),some (.ref tk),some (.ref lf'),y5,y6],λσ' H' ⟨lf',lefts',kvt',I',BE,y5,y6,e⟩=>⟨_,BE,lf',_,lefts',⟨kvt',I'⟩,rfl,y5,y6,e⟩,?_⟩
  obtain⟨g1,g2,g3⟩:=I.nrt
  push_cast[↓Sg]
  refine⟨_,_,hb3,D1 (by decide +kernel),C4 (SqL.of I.el) (n:=0) (v:=.int k) rfl rfl ⟨A,w,rows,n,cs,outs,k,c,rfl,T,B3,ec,?_⟩⟩
  push_cast[↓Sh]
  have sl:=I.sl
  rw[List.length_cons]at sl
  refine⟨.inl ⟨rfl,_,SqL.of I.er⟩,rw,_,_,rfl,rfl,I.er,Nat.lt_of_lt_of_le (show(BM sofar).length<1000 by unfold BM;rw[List.length_map];omega) (by decide),?_⟩
  have nrk:tk≠rw:=nrt.symm
  have s4:Same H (upd H3 rw (.lst (BM sofar++[.int c.blk]))):=λy o e=>by rw[AK (BN e hrw)];exact I.sb _ _ e
  have aV:upd H3 rw (.lst (BM sofar++[.int c.blk])) rw=some (.lst (BM (sofar++[c.blk]))):=by rw[AG];simp[BM]
  have et4:upd H3 rw (.lst (BM sofar++[.int c.blk])) tk=some (.dK kvt):=by rw[AK nrk];exact I.et
  have el4:upd H3 rw (.lst (BM sofar++[.int c.blk])) lf=some (.lst (BM (k::r))):=by rw[AK g3.symm];exact I.el
  revert s4 aV et4 el4
  generalize upd H3 rw (.lst (BM sofar++[.int c.blk]))=H4
  intro s4 aV et4 el4
  push_cast[↓Sk]
  have B4:=B.same s4
  obtain⟨dx4,hb4⟩:=B4.bk.ob
  have cbl:c.blk<rows.length:=by rw[<-B.nb];exact(B.bk.inn c (List.mem_of_getElem? ec)).1
  refine⟨_,_,hb4,D1 (by decide +kernel),A,w,rows,n,cs,outs,c.blk,tk,kvt,rfl,T,B4,cbl,et4,by omega,λt ol hl5 H5 hol hhl nol s5 told=>D8 told.1 (n:=0) rfl rfl ⟨ol,rfl,.inl ⟨⟨_,SqL.of told.2.1⟩,?_⟩⟩⟩
  have eo:=told.2.1
  rw[Kz]at eo
  obtain⟨o1,o2,_⟩:=Kx (cs:=cs) (outs:=λx=>outs x || BR kvt x) (b:=c.blk)
  have oW:∀ x:Int,FQ cs (λx=>outs x || BR kvt x) c.blk x=((outs x || BR kvt x) || (outcome cs (λx=>outs x || BR kvt x) (λ_=>false) c.blk).out.any λ(k:Nat)=>x ==(k:Int)):=λx=>rfl
  generalize (outcome cs (λx=>outs x || BR kvt x) (λ_=>false) c.blk).out=out at eo o1 o2 oW
  have et5:=s5 _ _ et4
  have er5:=s5 _ _ aV
  have el5:=s5 _ _ el4
  have s45:=s4.trans s5
  have ntk:ol≠tk:=λe=>by rw[e,et4]at hol;cases hol
  refine NP (xs:=out.map λ(k:Nat)=>V.int k) (λq σ H'=>(∃ kv:List (AO × V),H'=upd H5 tk (.dK kv)/\(∀ x,BR kv x=(BR kvt x || (out.take q).any λ(k:Nat)=>x ==(k:Int)))/\KeysOk kv cs.length)/\∃ y6,σ=[some (.ref A.b),some (.ref nl),some (.ref rw),some (.ref tk),some (.ref lf),some (.int c.blk),y6]) ⟨⟨kvt,?_,by simp,I.ks⟩,_,rfl⟩ (λq σ H' _ ⟨⟨kv,e,_⟩,_⟩=>by rw[e];exact SqL.of (by rw[AK ntk];exact eo)) (λq x σ H' hx ⟨⟨kv,e,hkv,hks⟩,y6,ez⟩=> ?_) (λσ H' ⟨⟨kv,e,hkv,hks⟩,y6,ez⟩=> ?_)
  ·funext y
   by_cases e:y=tk
   ·subst e;rw[AG];exact et5
   ·rw[AK e]
  ·subst e;subst ez
   rw[List.getElem?_map,Option.map_eq_some_iff]at hx
   obtain⟨x',hx',rfl⟩:=hx
   have OZ:=hks.len
   have et:out.take (q+1)=out.take q++[x']:=by
    obtain⟨h1,h2⟩:=List.getElem?_eq_some_iff.mp hx'
    rw[<-h2,List.take_append_getElem]
   obtain⟨q1,q2⟩:=o2 x' (List.mem_of_getElem? hx')
   have hxn:x'<cs.length:=fM q2
   have hno:BR kv x'=false:=by
    rw[hkv,(Bool.or_eq_false_iff.mp q1).2,Bool.false_or]
    cases h:(out.take q).any λ(k:Nat)=>(x':Int) ==(k:Int)with
    | false=>rfl
    | true =>
     exfalso
     obtain⟨y,hy,e⟩:=List.any_eq_true.mp h
     have e:x'=y:=by have:=eq_of_beq e;omega
     obtain⟨h1,h2⟩:=List.getElem?_eq_some_iff.mp hx'
     have rise:=o1
     rw[<-List.take_append_drop q out,List.drop_eq_getElem_cons h1,h2]at rise
     have:=(List.pairwise_append.mp rise).2.2 y hy x' (List.mem_cons_self ..)
     omega
   push_cast[↓Sj]
   refine⟨_,pI AG (by omega),C3 kv (.inl x') (.bl true),GA,λx=> ?_,hks.put hxn (by simpa [BR]using hno) _⟩
   rw[zbi,hkv,et,List.any_append]
   simp[Bool.or_assoc]
  ·subst e;subst ez
   rw[List.length_map,List.take_length]at hkv
   have s6:Same H (upd H5 tk (.dK kv)):=λy o e=>by rw[AK (BN e htkH)];exact s45 _ _ e
   have er6:upd H5 tk (.dK kv) rw=some (.lst (BM (sofar++[c.blk]))):=by rw[AK nrt];exact er5
   have et6:upd H5 tk (.dK kv) tk=some (.dK kv):=AG
   have el6:upd H5 tk (.dK kv) lf=some (.lst (BM (k::r))):=by rw[AK (DF el5 et5 (by intro z;cases z))];exact el5
   revert s6 er6 et6 el6
   generalize upd H5 tk (.dK kv)=H6
   intro s6 er6 et6 el6
   have eJ:(λx=>outs x || BR kv x)=FQ cs (λx=>outs x || BR kvt x) c.blk:=by funext x;rw[oW,hkv,Bool.or_assoc]
   have hll:(BM (k::r)).length<=1000:=by unfold BM;rw[List.length_map,List.length_cons];omega
   push_cast[↓Sl]
   refine .inl ⟨⟨_,SqL.of el6⟩,UC (λv=>match v with | .int x=> !BR kv x | _=>false) (BV _ (by omega)) (SqL.of el6) (λv hv QB qb=> ?_) λl2 GW=> ?_⟩
   ·obtain⟨x,_,rfl⟩:=List.mem_map.mp hv
    push_cast[C7]
    exact⟨_,dI et6,qb⟩
   ·have ef:(BM (k::r)).filter (λv=>match v with | .int x=> !BR kv x | _=>false)=BM ((k::r).filter λ(x:Nat)=> !BR kv x):=by
     unfold BM
     rw[List.filter_map]
     rfl
    rw[ef]
    have e2:(k::r).filter (λ(x:Nat)=> !BR kv x)=(k::r).filter λ(x:Nat)=> !FQ cs (λx=>outs x || BR kvt x) c.blk x:=List.filter_congr λx hx=>by
     rw[I.lft]at hx
     have:=(Bool.or_eq_false_iff.mp (QS.mp hx).2.1).1
     rw[<-eJ]
     show(!BR kv x)= !(outs x || BR kv x)
     rw[this,Bool.false_or]
    have e3:(k::r).filter (λ(x:Nat)=> !BR kv x)=EG cs.length (λx=>outs x || BR kv x) R:=by rw[e2,I.lft,Ld,eJ]
    have k1:FQ cs (λx=>outs x || BR kvt x) c.blk k=true:=Lh low (λk c e ho=>cR.up k c e (Bool.or_eq_false_iff.mp ho).1) I.lft.symm ec
    have short:((k::r).filter λ(x:Nat)=> !BR kv x).length<(k::r).length:=by
     rw[e2]
     exact Lj (List.mem_cons_self ..) (by rw[k1];rfl)
    have nl2:rw≠l2:=BN er6 GW
    refine⟨l2,_,⟨kv,⟨s6.trans (AL GW),AL GW _ _ er6,AL GW _ _ et6,AG,⟨g1,g2,nl2⟩,e3,λrest hr=> ?_,hks,?_⟩⟩,by omega,rfl⟩
    ·rw[List.append_assoc]
     refine I.row _ (.cons ec ?_)
     rw[<-e2,<-eJ]
     exact hr
    ·rw[List.length_append,List.length_singleton]
     rw[List.length_cons]at short
     omega
theorem zbk(h:QU K a vs H Q E):VU K a (λ_=>E) (BD Q) (A0 ["self","names","records","pieces","cells"] vs) H:=by
 obtain⟨p,dx,n,r,c,w,rfl,T,hp,b1,b2,b3,b4,b5,q⟩:=h
 push_cast[VU,↓Nk,↓Nl,↓Nm,↓Np]
 refine⟨_,_,_,hp,T.cl,T.n1,by decide,_,_,_,AG,T.cl,T.n2,IF (by decide),_,_,_,AG,T.cl,T.n3,IF (n:=1000) (Nat.succ_lt_succ (IF (n:=999) (by decide))),_,_,_,AG,T.cl,T.n4,?_,?_⟩
 ·exact IF (n:=1000) (Nat.succ_lt_succ (IF (n:=999) (Nat.succ_lt_succ (IF (n:=998) (by decide)))))
 ·rw[Lk,GA,GA,GA]
  exact q _ ⟨⟨dx,AG⟩,b1,b2,b3,b4,b5⟩ λb o e hb=>by rw[AK hb];exact e
theorem zbl(h:JJ K a vs H Q E):VX K a (λ_=>E) (BD Q) (A0 ["self","block","k"] vs) H:=by
 obtain⟨p,n,r,c,w,k,b,rfl,T,L,q⟩:=h
 obtain⟨dx,e⟩:=L.ob
 have:=L.h1
 have:=L.hw
 push_cast[VX,↓Nx]
 refine⟨_,_,_,e,T.cl,T.n4,_,LV,?_⟩
 push_cast[]
 refine⟨⟨by omega,by omega⟩,_,_,_,e,T.cl,T.n4,_,LV,?_⟩
 push_cast[]
 exact⟨by omega,by decide,q⟩
theorem zbm(h:JK K a vs H Q E):WN K a (λ_=>E) (BD Q) (A0 ["self","k"] vs) H:=by
 obtain⟨p,n,r,c,w,k,rfl,T,L,q⟩:=h
 obtain⟨dx,e⟩:=L.ob
 push_cast[WN,↓Rp]
 exact⟨_,_,e,C5 (by decide +kernel),p,n,r,c,w,k,0,rfl,T,L,q⟩
theorem zbn(h:JL K a vs H Q E):WO K a (λ_=>E) (BD Q) (A0 ["self","k"] vs) H:=by
 obtain⟨p,n,r,c,w,k,rfl,T,L,q⟩:=h
 obtain⟨dx,e⟩:=L.ob
 push_cast[WO,↓Rq]
 exact⟨_,_,e,C5 (by decide +kernel),_,_,_,e,T.cl,T.n1,_,QT,p,n,r,c,w,k,_,rfl,T,L,q⟩
theorem zbo(h:KB K a vs H Q E):WP K a (λ_=>E) (BD Q) (A0 ["self","k"] vs) H:=by
 obtain⟨p,n,r,c,w,k,rfl,T,L,q⟩:=h
 obtain⟨dx,e⟩:=L.ob
 push_cast[WP,↓Rv]
 refine⟨_,_,e,C5 (by decide +kernel),_,_,_,e,T.cl,T.n1,_,QT,_,_,_,e,T.cl,T.n2,_,N4,?_⟩
 push_cast[]
 exact⟨p,n,r,c,w,k,_,rfl,T,L,q⟩
theorem zbp(h:LW K a vs H Q E):WQ K a (λ_=>E) (BD Q) (A0 ["self","k"] vs) H:=by
 obtain⟨p,n,r,c,w,k,rfl,T,L,q⟩:=h
 obtain⟨dx,e⟩:=L.ob
 push_cast[WQ,↓Rw]
 exact⟨_,_,e,C5 (by decide +kernel),_,_,e,C5 (by decide +kernel),p,n,r,c,w,rfl,T,L,p,n,r,c,w,k,_,rfl,T,L,q⟩
theorem zbq(h:LX K a vs H Q E):WR K a (λ_=>E) (BD Q) (A0 ["self","k"] vs) H:=by
 obtain⟨p,n,r,c,w,k,rfl,T,L,q⟩:=h
 obtain⟨dx,e⟩:=L.ob
 push_cast[WR,↓Rx]
 refine⟨_,_,e,C5 (by decide +kernel),_,_,e,C5 (by decide +kernel),p,n,r,c,w,rfl,T,L,_,_,_,e,T.cl,T.n2,_,N4,?_⟩
 push_cast[]
 exact⟨p,n,r,c,w,k,_,rfl,T,L,q⟩
theorem zbr(h:LY K a vs H Q E):VW K a (λ_=>E) (BD Q) (A0 ["self"] vs) H:=by
 obtain⟨p,n,r,c,w,rfl,T,L,q⟩:=h
 obtain⟨dx,e⟩:=L.ob
 push_cast[VW,↓Nv]
 refine⟨_,_,_,e,T.cl,T.n1,_,QT,_,_,_,e,T.cl,T.n2,_,N4,?_⟩
 push_cast[]
 refine⟨_,_,_,e,T.cl,T.n3,_,U0,?_⟩
 push_cast[]
 exact q
theorem zbs(h:QV K a vs H Q E):WS K a (λ_=>E) (BD Q) (A0 ["self"] vs) H:=by
 obtain⟨p,n,r,c,w,rfl,T,L,q⟩:=h
 obtain⟨dx,e⟩:=L.ob
 push_cast[WS,↓Ry]
 refine⟨_,_,e,C5 (by decide +kernel),p,n,r,c,w,rfl,T,L,_,_,_,e,T.cl,T.n2,_,N4,?_⟩
 push_cast[]
 refine⟨_,_,_,e,T.cl,T.n3,_,U0,?_⟩
 push_cast[]
 exact q
theorem zbt(h:KC K a vs H Q E):VV K a (λ_=>E) (BD Q) (A0 ["self"] vs) H:=by
 obtain⟨p,n,r,c,w,rfl,T,L,q⟩:=h
 obtain⟨dx,e⟩:=L.ob
 obtain⟨_,b1,b2,b3,b4,b5⟩:=L
 push_cast[VV,↓Nq]
 refine⟨_,_,_,e,T.cl,T.n1,_,QT,_,_,_,e,T.cl,T.n4,_,LV,?_⟩
 push_cast[]
 refine⟨.inl ⟨by omega,by omega⟩,_,_,_,e,T.cl,T.n2,_,N4,_,_,_,e,T.cl,T.n4,_,LV,?_⟩
 push_cast[]
 refine⟨.inl ⟨by omega,by omega⟩,_,_,_,e,T.cl,T.n3,_,U0,_,_,_,e,T.cl,T.n4,_,LV,?_⟩
 push_cast[]
 exact⟨.inl ⟨by omega,by omega⟩,by decide,q⟩
theorem zbu(h:QW K a vs H Q E):WV K a (λ_=>E) (BD Q) (A0 ["self"] vs) H:=by
 obtain⟨p,n,r,c,w,rfl,T,TP,L,q⟩:=h
 obtain⟨dx,e⟩:=L.ob
 have LL:=L
 obtain⟨_,b1,b2,b3,b4,b5⟩:=L
 push_cast[WV,↓Sx]
 refine⟨_,_,e,C5 (by decide +kernel),p,n,r,c,w,rfl,T,LL,_,_,_,e,T.cl,T.n4,_,LV,λx dx' hx hdx hne=> ?_⟩
 have s3:Same H (upd (upd H dx' (.own x)) x (.ins (a "Plank") dx' [])):=(AL hdx).trans (AL (by rw[AK hne.symm];exact hx))
 refine⟨x,dx',n+r+c+r+c,w,by simp,TP,AG,by omega,b4,by omega,λcl H2 BX P2 s4=>⟨rfl,q x cl H2 hx (s3.free BX) P2 λb o eb=>s4 _ _ (s3 _ _ eb) (BN eb hx)⟩⟩
theorem KL{f:Nat->Bool}{m i:Nat}(hi:i<m)(h:f i=true)(hl:∀ j<i,f j=false):EV f m=i:=by
 unfold EV
 have:(List.range m).find? f=some i:=by
  rw[List.find?_eq_some_iff_append]
  refine⟨h,List.range i,(List.range (m - i - 1)).map (i+1+·),?_,λj hj=>by rw[hl j (List.mem_range.mp hj)];rfl⟩
  have e1:m=i+(1+(m - i - 1)):=by omega
  conv=>lhs;rw[e1]
  rw[List.range_add,List.range_add]
  simp[Nat.add_assoc,Function.comp_def]
 rw[this]
theorem zbv{f:Nat->Bool}{m:Nat}(hl:∀ j<m,f j=false):EV f m= -1:=by
 unfold EV
 have:(List.range m).find? f=none:=List.find?_eq_none.mpr λj hj=>by rw[hl j (List.mem_range.mp hj)];exact Bool.false_ne_true
 rw[this]
theorem zbw{n:Nat}{H:Hp}{v:V}{xs:List V}(hx:∀ z∈xs,Q7 z)(hv:GoodV n H v)(hf:GJ v=true):J4 v xs=decide (v∈xs):=by
 rw[Bool.eq_iff_iff,decide_eq_true_iff]
 unfold J4
 rw[List.any_eq_true]
 have key:∀ z,Q7 z->(HK z v=true↔z=v):=λz hz=>by
  rcases hz with rfl | ⟨i,rfl⟩<;>(cases v<;>first | (simp[HK];done) | (cases n<;>exact hv.elim) | (simp[GJ]at hf))
 constructor
 ·rintro ⟨z,hz,e⟩
  rw[<-(key z (hx z hz)).mp e];exact hz
 ·intro h
  exact⟨v,h,(key v (hx v h)).mpr rfl⟩
def HG(H H':Hp):Prop:=∀ b xs,H b=some (.tup xs)->H' b=some (.tup xs)
theorem GoodV.keep{H H':Hp}(k:HG H H'):∀ {n:Nat} {v:V},GoodV n H v->GoodV n H' v
 | 0,_,h=>h
 | _+1,.int _,_=>trivial
 | _+1,.non,_=>trivial
 | _+1,.str _,h=>h
 | n+1,.ref p,⟨xs,h1,h2,h3⟩=>⟨xs,k _ _ h1,h2,λv hv=>(h3 v hv).keep k⟩
theorem Same.tk{H H':Hp}(s:Same H H'):HG H H':=λb xs e=>s _ _ e
theorem zbx{v:V}{vl:Addr}{xs:List V}(hg:GoodV 4 H v)(hv:H vl=some (.tup xs))(hx:∀ z∈xs,Q7 z)(q:Q (.bl (decide (v∈xs))) H):QD K v (.ref vl) H Q:=by
 have fx:xs.all GJ=true:=List.all_eq_true.mpr λz hz=>by rcases hx z hz with rfl | ⟨i,rfl⟩<;>rfl
 have flat:GJ v=true->QD K v (.ref vl) H Q:=λhf=>.inl ⟨vl,xs,rfl,.inr (SqT.of hv),hf,fx,by
  show Q (.bl (J4 v xs)) H
  rw[zbw hx hg hf];exact q⟩
 cases v with
 | ref t =>
  obtain⟨ys,e,_⟩:=hg
  have:decide ((V.ref t)∈xs)=false:=decide_eq_false λhm=>by rcases hx _ hm with z | ⟨i,z⟩<;>cases z
  rw[this]at q
  exact .inr ⟨t,ys,vl,xs,rfl,SqT.of e,rfl,SqT.of hv,hx,q⟩
 | int i=>exact flat rfl
 | non=>exact flat rfl
 | str z=>exact flat rfl
 | _=>exact hg.elim
theorem zby(h:KF K a vs H Q E):WZ K a (λ_=>E) (BD Q) (A0 ["hold","places","values","k","place"] vs) H:=by
 obtain⟨A,w,rows,n,cs,outs,pl,vl,ts,xs,f,m,rfl,T,TP,B,hp,hm,hm2,hv,hx,hf,q,qe⟩:=h
 obtain⟨dx,ho⟩:=B.bk.ob
 push_cast[WZ,↓Ty]
 refine⟨⟨_,SqL.of hp⟩,eV (xs:=ts.map V.ref) (λi σ H'=>(Same H H'/\∀ j<i,f j=false)/\∃ x y,σ=[some (.ref A.b),some (.ref pl),some (.ref vl),x,y]) ⟨⟨Same.refl _,λj hj=>absurd hj (Nat.not_lt_zero _)⟩,_,_,rfl⟩ (λi σ H' _ ⟨⟨s,_⟩,_⟩=>SqL.of (s _ _ hp)) (λi x σ H' t hx' ⟨⟨s,lo⟩,x0,y0,ez⟩ ht=> ?_) (λσ H' ⟨⟨s,lo⟩,x0,y0,ez⟩=> ?_)⟩
 ·subst ez
  rw[List.getElem?_map]at hx'
  cases et:ts[i]? with
  | none=>rw[et]at hx';cases hx'
  | some tt =>
   rw[et]at hx'
   cases hx'
   obtain⟨bi,bj,v,e1,on,ev,gv,ef⟩:=hf i tt et
   have s2:=s.trans (AL (o:=.tup [.int (i:Int),.ref tt]) ht)
   push_cast[]
   refine⟨_,SqT.of AG,rfl,_,_,rfl,_,_,rfl,rfl,?_⟩
   revert s2
   generalize upd H' t (.tup [.int (i:Int),.ref tt])=H2
   intro s2
   push_cast[↓Tx,↓Tw]
   refine⟨_,_,s2 _ _ ho,D1 (by decide +kernel),A,w,rows,n,cs,outs,tt,bi,bj,rfl,T,TP,B.same s2,s2 _ _ e1,λ_ v' H3 ev' s3=> ?_,λz=>absurd on z⟩
   rw[ev]at ev'
   cases ev'
   have s4:=s2.trans s3
   refine zbx (gv.keep s4.tk) (s4 _ _ hv) hx ?_
   rw[<-ef]
   push_cast[]
   cases hfi:f i with
   | true=>exact q i (KL (by have:=(List.getElem?_eq_some_iff.mp et).1;omega) hfi lo) _ s4
   | false=>exact⟨s4,λj hj=>by
     rcases Nat.lt_or_ge j i with z | z
     ·exact lo j z
     ·rw[show j=i by omega];exact hfi⟩
 ·subst ez
  push_cast[↓Tz]
  rw[List.length_map,hm]at lo
  exact⟨by decide,qe (zbv lo) _ s⟩
theorem X5{m w:Nat}{B:Nat->Int}{te:TE}{cap:List Nat}{σ:St}{H:Hp}{Q:VK}(hm:m<=1000)(ht:∀ i H' Q',i<m->Same H H'->GQ (B i) (i % w:Nat) Q' H'->te (some (.int (0+(i:Int)))::C7 cap σ) H' Q')
  (q:∀ (ts:List Addr) (H':Hp) (l:Addr),ts.length=m->Same H H'->(∀ k t,ts[k]? =some t->H' t=some (.tup [.int (B k),.int (k % w:Nat)]))->H' l=some (.lst (ts.map V.ref))->Q (.ref l) H'):E5 (FD 0 m) (AN 0) DH te 1 cap σ H Q:=by
 refine PZ (BV m (by omega)) (λi ys H'=>Same H H'/\∃ ts:List Addr,ys=ts.map V.ref/\ts.length=i/\∀ k t,ts[k]? =some t->H' t=some (.tup [.int (B k),.int (k % w:Nat)])) ⟨Same.refl _,[],rfl,rfl,λk t h=>by simp at h⟩ (λi ys H' hi hl hzz=> ?_) λys H' hl ⟨s,ts,e,el,h⟩ l hl'=> ?_
 ·obtain⟨s,ts,e,el,h⟩:=hzz
  refine ht i H' _ hi s λt htn=> ?_
  have st:=AL (o:=.tup [.int (B i),.int (i % w:Nat)]) htn
  refine⟨s.trans st,ts++[t],by rw[e,List.map_append];rfl,by simp[el],λk t' hk=> ?_⟩
  rcases Nat.lt_or_ge k ts.length with z | z
  ·rw[List.getElem?_append_left z]at hk
   exact st _ _ (h k t' hk)
  ·rw[List.getElem?_append_right z]at hk
   have hk0:k - ts.length=0:=by
    rcases Nat.eq_zero_or_pos (k - ts.length)with z | z
    ·exact z
    ·rw[List.getElem?_eq_none (by simp;omega)]at hk;cases hk
   rw[hk0]at hk
   cases hk
   have:k=i:=by omega
   subst this
   exact AG
 ·subst e
  have st:=AL (o:=.lst (ts.map V.ref)) hl'
  exact q ts _ l (by simpa using hl) (s.trans st) (λk t hk=>st _ _ (h k t hk)) AG
theorem pW{rows:List (List V)}{w i j:Nat}(hw:∀ r∈rows,r.length=w)(hi:i<rows.length)(hj:j<w)(cs:List Ch):∃ v,EM cs rows i j=some v:=by
 unfold EM
 cases e:D0 cs i j with
 | some k =>
  have:=N3 e
  exact⟨_,by show(cs[k]?).map _=_;rw[List.getElem?_eq_getElem this];rfl⟩
 | none =>
  have er:=List.getElem?_eq_getElem hi
  have hl:=hw _ (List.mem_of_getElem? er)
  exact⟨rows[i][j],by show(rows[(i:Int).toNat]?).bind (λr=>r[(j:Int).toNat]?)=_;rw[Int.toNat_natCast,Int.toNat_natCast,er];exact List.getElem?_eq_getElem (by omega)⟩
theorem zbz{n r c w kind k:Nat}(hk:kind<3)(h:k<BI n r c w kind):BQ n r c w kind k<n+r+c+r+c:=by
 unfold BI at h
 unfold BQ
 have hd:k / w<(if kind=0 then n else if kind=1 then r else if kind=2 then c else if kind=3 then r else c):=Nat.div_lt_of_lt_mul (by rw[Nat.mul_comm];exact h)
 rcases(by omega:kind=0\/kind=1\/kind=2)with z | z | z<;>subst z<;>simp at hd ⊢ <;>omega
theorem pX{n r c w kind k:Nat}(h:k<BI n r c w kind):1<=w:=by
 unfold BI at h
 rcases Nat.eq_zero_or_pos w with z | z
 ·rw[z,Nat.mul_zero]at h;omega
 ·exact z
theorem RU{n r c w kind:Nat}(h1:n<=6)(h2:r<=6)(h3:c<=6)(h4:w<=6):BI n r c w kind<=36:=by
 unfold BI
 have h:(if kind=0 then n else if kind=1 then r else if kind=2 then c else if kind=3 then r else c)<=6:=by
  split<;>(try split)<;>(try split)<;>(try split)<;>omega
 exact Nat.mul_le_mul h h4
def MO(kind:Nat):List V:=if kind=0 then [.non]else [.non,.int 0]
theorem zb0(kind:Nat)(v:V):decide (v∈MO kind)=IH kind v:=by
 unfold MO IH
 by_cases h:kind=0
 ·subst h;simp
 ·rw[if_neg h];simp[Nat.pos_of_ne_zero h]
theorem X6{kind:Nat}{A:BA}{n r c w:Nat}{rows:List (List V)}{nn:Nat}{cs:List Ch}{outs:Int->Bool}{ts:List Addr}{l:Addr}{H':Hp}(hk:kind<3)(T:TB K a)(TP:ET K a)(s:Same H H')(B:D9 a H A w rows nn cs outs)(hM:rows.length=n+r+c+r+c)(h1:n<=6)(h2:r<=6)(h3:c<=6)(h4:w<=6)
  (gh:∀ i j v,EM cs rows i j=some v->GoodV 4 H v) (hts:ts.length=BI n r c w kind) (ht:∀ k t,ts[k]? =some t->H' t=some (.tup [.int (BQ n r c w kind k:Nat),.int (k % w:Nat)])) (el:H' l=some (.lst (ts.map V.ref)))
  (q:∀ k:Nat,EV (JN cs rows n r c w kind) (BI n r c w kind)=k->∀ H',Same H H'->Q (.int k) H') (qe:EV (JN cs rows n r c w kind) (BI n r c w kind)= -1->∀ H',Same H H'->E (.ref (a "NoRoom")) none H') :
  ∀ u,H' u=none->KF K a [.ref A.b,.ref l,.ref u] (upd H' u (.tup (MO kind))) Q E:=λu hu=>by
 have su:=AL (o:=.tup (MO kind)) hu
 have s2:=s.trans su
 refine⟨A,w,rows,nn,cs,outs,l,u,ts,MO kind,JN cs rows n r c w kind,BI n r c w kind,rfl,T,TP,B.same s2,su _ _ el,hts,by have:=RU (kind:=kind) h1 h2 h3 h4;omega,AG,λz hz=> ?_,λk t hkt=> ?_,λk hk' H3 s3=>q k hk' H3 (s2.trans s3),λhk' H3 s3=>qe hk' H3 (s2.trans s3)⟩
 ·unfold MO at hz
  split at hz<;>simp at hz
  ·exact .inl hz
  ·rcases hz with z | z
   ·exact .inl z
   ·exact .inr ⟨0,z⟩
 ·have BE:k<BI n r c w kind:=by have:=(List.getElem?_eq_some_iff.mp hkt).1;omega
  have hb:=zbz hk BE
  have hw:=pX BE
  have hj:k % w<w:=Nat.mod_lt _ (by omega)
  obtain⟨v,ev⟩:=pW (λr' hr'=>B.pk.wd r' hr') (show BQ n r c w kind k<rows.length by omega) hj cs
  refine⟨_,_,v,su _ _ (ht k t hkt),⟨by omega,by omega,by omega,by omega⟩,ev,(gh _ _ _ ev).keep s2.tk,?_⟩
  unfold JN
  rw[ev,zb0]
theorem zb1(h:Q9 K a vs H Q E):W6 K a (λ_=>E) (BD Q) (A0 ["layout","hold","places"] vs) H:=by
 obtain⟨p,b,rfl,A,n,r,c,w,rows,nn,cs,outs,rfl,T,TP,TL,L,h1,h2,h3,h4,B,hM,gh,q,qe⟩:=h
 obtain⟨dx,e⟩:=L.ob
 push_cast[W6,↓Uk,↓Ul]
 refine⟨_,_,e,C5 (by decide +kernel),p,n,r,c,w,rfl,TL,L,λt ht=> ?_⟩
 have s1:=AL (o:=.tup [V.int ((n:Int) * w),V.int ((r:Int) * w),V.int ((c:Int) * w)]) ht
 refine D8 AG (n:=0) rfl rfl ?_
 revert s1
 generalize upd H t (.tup [V.int ((n:Int) * w),V.int ((r:Int) * w),V.int ((c:Int) * w)])=H1
 intro s1
 have hk:=RU (kind:=0) h1 h2 h3 h4
 have em:(n:Int) * w=(BI n r c w 0:Nat):=by unfold BI;simp
 rw[em]
 push_cast[]
 refine⟨by omega,by omega,X5 (B:=λk=>(BQ n r c w 0 k:Nat)) (w:=w) (by omega) (λi H' Q' hi s' q'=> ?_) λts H' l hts s' htt el=> ?_⟩
 ·push_cast[C7]
  refine⟨_,_,s' _ _ (s1 _ _ e),C5 (by decide +kernel),p,n,r,c,w,i,(by simp),TL,(L.same s1).same s',?_⟩
  unfold BQ at q'
  simpa using q'
 ·push_cast[]
  exact⟨by decide,X6 (kind:=0) (by decide) T TP (s1.trans s') B hM h1 h2 h3 h4 gh hts htt el q qe⟩
theorem zb2(h:RA K a vs H Q E):W7 K a (λ_=>E) (BD Q) (A0 ["layout","hold","marks"] vs) H:=by
 obtain⟨p,b,rfl,A,n,r,c,w,rows,nn,cs,outs,rfl,T,TP,TL,L,h1,h2,h3,h4,B,hM,gh,q,qe⟩:=h
 obtain⟨dx,e⟩:=L.ob
 push_cast[W7,↓Um,↓Up]
 refine⟨_,_,e,C5 (by decide +kernel),p,n,r,c,w,rfl,TL,L,λt ht=> ?_⟩
 have s1:=AL (o:=.tup [V.int ((n:Int) * w),V.int ((r:Int) * w),V.int ((c:Int) * w)]) ht
 refine D8 AG (n:=1) rfl rfl ?_
 revert s1
 generalize upd H t (.tup [V.int ((n:Int) * w),V.int ((r:Int) * w),V.int ((c:Int) * w)])=H1
 intro s1
 have hk:=RU (kind:=1) h1 h2 h3 h4
 have em:(r:Int) * w=(BI n r c w 1:Nat):=by unfold BI;simp
 rw[em]
 push_cast[]
 refine⟨by omega,by omega,X5 (B:=λk=>(BQ n r c w 1 k:Nat)) (w:=w) (by omega) (λi H' Q' hi s' q'=> ?_) λts H' l hts s' htt el=> ?_⟩
 ·push_cast[C7]
  refine⟨_,_,s' _ _ (s1 _ _ e),C5 (by decide +kernel),p,n,r,c,w,i,(by simp),TL,(L.same s1).same s',?_⟩
  unfold BQ at q'
  simpa using q'
 ·push_cast[]
  exact⟨by decide,X6 (kind:=1) (by decide) T TP (s1.trans s') B hM h1 h2 h3 h4 gh hts htt el q qe⟩
theorem zb3(h:RB K a vs H Q E):W8 K a (λ_=>E) (BD Q) (A0 ["layout","hold","marks"] vs) H:=by
 obtain⟨p,b,rfl,A,n,r,c,w,rows,nn,cs,outs,rfl,T,TP,TL,L,h1,h2,h3,h4,B,hM,gh,q,qe⟩:=h
 obtain⟨dx,e⟩:=L.ob
 push_cast[W8,↓Uq,↓Uv]
 refine⟨_,_,e,C5 (by decide +kernel),p,n,r,c,w,rfl,TL,L,λt ht=> ?_⟩
 have s1:=AL (o:=.tup [V.int ((n:Int) * w),V.int ((r:Int) * w),V.int ((c:Int) * w)]) ht
 refine D8 AG (n:=2) rfl rfl ?_
 revert s1
 generalize upd H t (.tup [V.int ((n:Int) * w),V.int ((r:Int) * w),V.int ((c:Int) * w)])=H1
 intro s1
 have hk:=RU (kind:=2) h1 h2 h3 h4
 have em:(c:Int) * w=(BI n r c w 2:Nat):=by unfold BI;simp
 rw[em]
 push_cast[]
 refine⟨by omega,by omega,X5 (B:=λk=>(BQ n r c w 2 k:Nat)) (w:=w) (by omega) (λi H' Q' hi s' q'=> ?_) λts H' l hts s' htt el=> ?_⟩
 ·push_cast[C7]
  refine⟨_,_,s' _ _ (s1 _ _ e),C5 (by decide +kernel),p,n,r,c,w,i,(by simp),TL,(L.same s1).same s',?_⟩
  unfold BQ at q'
  simpa using q'
 ·push_cast[]
  exact⟨by decide,X6 (kind:=2) (by decide) T TP (s1.trans s') B hM h1 h2 h3 h4 gh hts htt el q qe⟩
theorem zb4{cs:List Ch}{rows:List (List V)}(g:goodH H cs rows){i j:Int}{v:V}(h:EM cs rows i j=some v):GoodV 4 H v:=by
 unfold EM at h
 cases e:D0 cs i j with
 | some k =>
  rw[e]at h
  have h:(cs[k]?).map (·.val)=some v:=h
  cases ec:cs[k]? with
  | none=>rw[ec]at h;cases h
  | some c =>
   rw[ec]at h
   cases h
   exact g.2 c (List.mem_of_getElem? ec)
 | none =>
  rw[e]at h
  have h:(rows[i.toNat]?).bind (λr=>r[j.toNat]?)=some v:=h
  cases er:rows[i.toNat]? with
  | none=>rw[er]at h;cases h
  | some r =>
   rw[er]at h
   exact g.1 r (List.mem_of_getElem? er) v (List.mem_of_getElem? h)
theorem goodH.keep{H H':Hp}{cs:List Ch}{rows:List (List V)}(g:goodH H cs rows)(k:HG H H'):goodH H' cs rows:=⟨λr hr v hv=>(g.1 r hr v hv).keep k,λc hc=>(g.2 c hc).keep k⟩
theorem zb5{cs:List Ch}{rows:List (List V)}{i j:Int}{bi bj:Nat}{v:V}{nd:List Int}:EM (cs++[⟨bi,bj,v,nd⟩]) rows i j=if(bi:Int)=i/\(bj:Int)=j then some v else EM cs rows i j:=by
 unfold EM
 rw[UV]
 by_cases h:(bi:Int)=i/\(bj:Int)=j
 ·rw[if_pos h,if_pos h]
  simp
 ·rw[if_neg h,if_neg h]
  cases e:D0 cs i j with
  | none=>rfl
  | some k =>
   show((cs++[_])[k]?).map _=(cs[k]?).map _
   rw[List.getElem?_append_left (N3 e)]
theorem X7{G:Addr->Prop}{H H':Hp}(s:SameBut G H H')(g:∀ x,G x->E8 (H x)):HG H H':=λb xs e=>s _ _ e λz=>(g _ z).1 _ e
theorem pY{z:Str}{i:Int}{n:Nat}{c:Nat}{Q:VK}(hi:i=n)(hL:z.cps.toList.length<=1000)(hc:z.cps.toList[n]? =some c)(q:Q (.str ⟨#[c]⟩) H):DM K (.str z) (.int i) H Q:=by
 subst hi
 exact .inr (.inr ⟨z,n,c,rfl,rfl,Nat.le_trans (by simpa [Str.length]using hL) (BV _ (by omega)),SZ hc,q⟩)
theorem zb6{c:Nat}:[c]<(Str.ofString " ").cps.toList↔c<32:=by
 rw[show(Str.ofString " ").cps.toList=[32] by decide +kernel,List.cons_lt_cons_iff]
 simp
theorem zb7{c:Nat}:(Str.ofString "~").cps.toList<[c]↔126<c:=by
 rw[show(Str.ofString "~").cps.toList=[126] by decide +kernel,List.cons_lt_cons_iff]
 simp
theorem zb8{c:Nat}:[c]<(Str.ofString "a").cps.toList↔c<97:=by
 rw[show(Str.ofString "a").cps.toList=[97] by decide +kernel,List.cons_lt_cons_iff]
 simp
theorem zb9{c:Nat}:(Str.ofString "z").cps.toList<[c]↔122<c:=by
 rw[show(Str.ofString "z").cps.toList=[122] by decide +kernel,List.cons_lt_cons_iff]
 simp
theorem zca(h:RC K a vs H Q E):VL K a (λ_=>E) (BD Q) (A0 ["sign"] vs) H:=by
 obtain⟨c,rfl,q⟩:=h
 push_cast[VL,↓Ml,zb6,zb7]
 unfold U8 at q
 split
 ·rename_i h1
  split
  ·rename_i h2
   rw[show decide (32<=c)=true from decide_eq_true (by omega),show decide (c<=126)=true from decide_eq_true (by omega)]at q
   refine⟨rfl,?_⟩
   have e:(!decide (((#[c].getD 0 0:Nat):Int)=37))=decide (c≠37):=by
    rw[show(#[c]:Array Nat).getD 0 0=c from rfl,<-decide_not]
    exact decide_eq_decide.mpr (by omega)
   rw[e]
   simpa using q
  ·rename_i h2
   rw[show decide (c<=126)=false from decide_eq_false (by omega)]at q
   simpa using q
 ·rename_i h1
  rw[show decide (32<=c)=false from decide_eq_false (by omega)]at q
  simpa using q
theorem X8{z:Str}{f:Nat->Bool}{te:TE}{Q:VK}(hz:z.length<=1000)(ht:∀ c (Q':VK),Q' (.bl (f c)) H->te [some (.str ⟨#[c]⟩)] H Q')(q:∀ H',Same H H'->Q (.bl (z.cps.toList.all f)) H') :
  E5 (NT z) (AN 0) DH te 1 [] [some (.str z)] H λx H1=>LS K [x] H1 Q:=by
 have hs:z.cps.size=z.length:=rfl
 refine Cp (BV _ (by omega)) (λi ys H'=>H'=H/\ys=(z.cps.toList.take i).map λc=>V.bl (f c)) ⟨rfl,by simp⟩ (λi c ys H' hc hl ⟨e1,e2⟩=> ?_) (λys H' hl ⟨e1,e2⟩ p hp=> ?_)
 ·subst e1
  refine ht c _ ⟨rfl,?_⟩
  have hc':z.cps.toList[i]? =some c:=by simpa using hc
  rw[List.take_add_one,hc',e2]
  simp
 ·subst e1
  have e3:ys=(z.cps.toList.map f).map V.bl:=by
   rw[e2,List.map_map,List.take_of_length_le (by simp)];rfl
  refine⟨p,z.cps.toList.map f,rfl,by rw[<-e3];exact SqL.of AG,?_⟩
  have:=q _ (AL (o:=.lst ys) hp)
  rw[List.all_map]
  exact this
theorem zcb(h:RD K a vs H Q E):VM K a (λ_=>E) (BD Q) (A0 ["thing"] vs) H:=by
 obtain⟨z,rfl,hz,q⟩:=h
 push_cast[VM,↓Mm]
 unfold BZ at q
 refine⟨z.length,⟨BV _ (by omega),rfl⟩,?_⟩
 split
 ·rename_i h1
  rw[show decide (1<=z.length)=true from decide_eq_true (by omega),Bool.true_and]at q
  by_cases h2:z.length<=8
  ·rw[show decide (z.length<=8)=true from decide_eq_true h2,Bool.true_and]at q
   rw[if_pos (by omega)]
   refine X8 hz (λc Q' q'=> ?_) q
   push_cast[zb8,zb9]
   unfold L6 at q'
   split
   ·rename_i h3
    rw[show decide (97<=c)=true from decide_eq_true (by omega),Bool.true_and]at q'
    rw[show(!decide (122<c))=decide (c<=122) by rw[<-decide_not];exact decide_eq_decide.mpr (by omega)]
    exact q'
   ·rename_i h3
    rw[show decide (97<=c)=false from decide_eq_false (by omega),Bool.false_and]at q'
    exact q'
  ·rw[show decide (z.length<=8)=false from decide_eq_false h2,Bool.false_and]at q
   rw[if_neg (by omega)]
   exact q _ (Same.refl _)
 ·rename_i h1
  rw[show decide (1<=z.length)=false from decide_eq_false (by omega),Bool.false_and,Bool.false_and]at q
  exact q _ (Same.refl _)
theorem zcc(h:RE K a vs H Q E):WH K a (λ_=>E) (BD Q) (A0 ["thing"] vs) H:=by
 obtain⟨z,rfl,hz,q⟩:=h
 push_cast[WH,↓Qx]
 unfold JO at q
 refine⟨z.length,⟨BV _ (by omega),rfl⟩,?_⟩
 split
 ·rename_i h1
  rw[show decide (1<=z.length)=true from decide_eq_true (by omega),Bool.true_and]at q
  by_cases h2:z.length<=40
  ·rw[show decide (z.length<=40)=true from decide_eq_true h2,Bool.true_and]at q
   rw[if_pos (by omega)]
   refine X8 hz (λc Q' q'=> ?_) q
   push_cast[]
   exact⟨c,rfl,q'⟩
  ·rw[show decide (z.length<=40)=false from decide_eq_false h2,Bool.false_and]at q
   rw[if_neg (by omega)]
   exact q _ (Same.refl _)
 ·rename_i h1
  rw[show decide (1<=z.length)=false from decide_eq_false (by omega),Bool.false_and,Bool.false_and]at q
  exact q _ (Same.refl _)
theorem DK(x y:Str):(x++y).length=x.length+y.length:=PySem.strLen_append x y
theorem KM(x:Int){n:Nat}(h:1<=n):∃ b:Nat,x % (n:Int)=b/\b<n :=
  ⟨(x % (n:Int)).toNat,by have:=Int.emod_nonneg x (show(n:Int)≠0 by omega);omega,by
    have:=Int.emod_lt_of_pos x (show(0:Int)<n by omega)
    have:=Int.emod_nonneg x (show(n:Int)≠0 by omega);omega⟩
section
variable{lp b tk:Addr}
theorem KN:(sf lp b tk).lookup ("plan":Str)=some (V.ref lp):=by simp[sf]
theorem KO:(sf lp b tk).lookup ("book":Str)=some (V.ref b):=by
 simp[sf,List.lookup_cons,CM (a:="book") (b:="plan") (by decide +kernel)]
theorem pZ:(sf lp b tk).lookup ("taken_out":Str)=some (V.ref tk):=by
 simp[sf,List.lookup_cons,CM (a:="taken_out") (b:="plan") (by decide +kernel),CM (a:="taken_out") (b:="book") (by decide +kernel)]
theorem CT{x:Str}(h:(FF x "plan" || FF x "book" || FF x "taken_out")=false):(sf lp b tk).lookup x=none:=by
 simp only[Bool.or_eq_false_iff]at h
 obtain⟨⟨h1,h2⟩,h3⟩:=h
 simp[sf,List.lookup_cons,CM h1,CM h2,CM h3]
theorem zcd:A6 "taken_out" (.ref tk) (A6 "book" (.ref b) (A6 "plan" (.ref lp) []))=sf lp b tk:=by
 repeat (first | rw[HN] | rw[JG (by decide +kernel)])
 rfl
end
theorem zce{w k k':Nat}(h1:k / w=k' / w)(h2:k % w=k' % w):k=k':=by
 rw[<-Nat.div_add_mod k w,<-Nat.div_add_mod k' w,h1,h2]
theorem zcf{f:Nat->Bool}{m k:Nat}(h:EV f m=k):k<m:=by
 unfold EV at h
 cases e:(List.range m).find? f with
 | none=>rw[e]at h;simp at h
 | some k' =>
  rw[e]at h
  have:=List.mem_range.mp (List.mem_of_find?_eq_some e)
  simp at h
  omega
theorem p0{z:Str}(h:BZ z=true):PyData.strOk z=true:=by
 unfold BZ at h
 rw[Bool.and_eq_true]at h
 have h:=h.2
 unfold PyData.strOk
 rw[<-Array.all_toList]
 rw[List.all_eq_true]at h ⊢
 intro c hc
 have:=h c hc
 simp only[L6,Bool.and_eq_true,decide_eq_true_eq]at this ⊢
 omega
theorem RepC.keep{H H':Hp}(k:HG H H'):∀ {x:CV} {v:V},RepC H x v->RepC H' x v
 | .no,_,h=>h
 | .nm _ _,_,⟨t,e,et⟩=>⟨t,e,k _ _ et⟩
 | .mk _,_,h=>h
 | .rc _ _,_,⟨t,u,e,et,eu⟩=>⟨t,u,e,k _ _ et,k _ _ eu⟩
 | .tx _,_,h=>h
theorem LaidA.keep{n r c w:Nat}{H H':Hp}{cs:List Ch}{as:List AC}(k:HG H H')(h:LaidA n r c w H cs as):LaidA n r c w H' cs as:=by
 induction h with
 | nil=>exact .nil
 | snoc _ e1 e2 e3 e4 e5 e6 ih=>exact ih.snoc e1 e2 (e3.keep k) e4 e5 e6
theorem SM.same{H H':Hp}{S:SA}{n r c w:Nat}{rows:List (List V)}{nn:Nat}{cs:List Ch}{outs:Int->Bool}{tks:List (AO × V)}{M:Hs}(I:SM a H S n r c w rows nn cs outs tks M)(s:Same H H'):SM a H' S n r c w rows nn cs outs tks M:=by
 obtain⟨⟨dx,e1⟩,e2,e3,e4,e5,e6,e7,e8,e9,e10,e11,e12⟩:=I
 exact⟨⟨dx,s _ _ e1⟩,e2.same s,e3.same s,s _ _ e4,e5,e6,e7,e8,e9.keep s.tk,λkind k v h1 h2 hv=>(e10 kind k v h1 h2 hv).keep s.tk,e11,e12.keep s.tk⟩
theorem zcg(h:RG K a vs H Q E):VN K a (λ_=>E) (BD Q) (A0 ["self"] vs) H:=by
 obtain⟨x,dx,lp,b,tk,rfl,T,e,q⟩:=h
 push_cast[VN,↓Mp]
 exact⟨_,_,_,e,T.cl,T.n2,_,KO,q⟩
theorem BookAt.ins1{C:Addr}{H H':Hp}{A:BA}{w:Nat}{rows:List (List V)}{n:Nat}{cs:List Ch}{outs:Int->Bool}{x C' dx:Addr}{fs:List (Str × V)}(B:BookAt a C H A w rows n cs outs)(s:SameBut (· =x) H H')(hx:H x=some (.ins C' dx fs))(hf:fs.length<=2):BookAt a C H' A w rows n cs outs:=by
 obtain⟨⟨⟨d1,e1⟩,⟨chs,e2,e3⟩,e4,e5,e6,⟨AD,e7,e8⟩,⟨C6,e9,e10⟩,r1,r2,r3,r4,r5⟩,⟨⟨d2,f1⟩,⟨ts,f2,f3⟩,f4,f5,f6⟩,nb⟩:=B
 have o:∀ {y:Addr} {o:HO},H y=some o->(∀ C'' d'' ,o≠.ins C'' d'' fs)->H' y=some o:=λe h=>s _ _ e (DF e hx (h _ _))
 have oi:∀ {y:Addr} {C'' d'':Addr} {gs:List (Str × V)},H y=some (.ins C'' d'' gs)->2<gs.length->H' y=some (.ins C'' d'' gs):=λe h=>o e λ_ _ z=>by injection z with _ _ z;rw[z]at h;omega
 have ol:∀ {y:Addr} {o':HO},H y=some o'->(∀ C'' d'' gs,o'≠.ins C'' d'' gs)->H' y=some o':=λe h=>o e λ_ _=>h _ _ _
 exact⟨⟨⟨d1,oi e1 (by simp[bf])⟩,⟨chs,ol e2 (by intros;simp),Paired.mapP e3 λy c ⟨d,pl,nt,g1,g2,g3⟩=>⟨d,pl,nt,oi g1 (by simp[E7]),ol g2 (by intros;simp),ol g3 (by intros;simp)⟩⟩,ol e4 (by intros;simp),λi l h=>ol (e5 i l h) (by intros;simp),e6,⟨AD,ol e7 (by intros;simp),e8⟩,⟨C6,ol e9 (by intros;simp),e10⟩,r1,r2,r3,r4,r5⟩,⟨⟨d2,oi f1 (by simp[pf])⟩,⟨ts,ol f2 (by intros;simp),Paired.mapP f3 λt r z=>ol z (by intros;simp)⟩,f4,f5,f6⟩,nb⟩
theorem zch(h:RF K a vs H Q E):WY K a (λ_=>E) (BD Q) (A0 ["self","layout","plank"] vs) H:=by
 obtain⟨x,dx,lp,gp,cl,n,r,c,w,rows,nn,M,rfl,⟨T,TP,TL,TS⟩,hx,L,P,sz,g,hrp,hok,q⟩:=h
 push_cast[WY,↓Tp,↓Tq,↓Tv]
 refine⟨_,_,_,hx,TS.cl,TS.n1,by decide,?_⟩
 have e1:upd H x (.ins (a "Store") dx (A6 "plan" (.ref lp) [])) x=some (.ins (a "Store") dx (A6 "plan" (.ref lp) [])):=AG
 have s1:SameBut (· =x) H (upd H x (.ins (a "Store") dx (A6 "plan" (.ref lp) []))):=λy o e n=>by rw[AK n];exact e
 revert e1 s1
 generalize upd H x (.ins (a "Store") dx (A6 "plan" (.ref lp) []))=H1
 intro e1 s1
 have P1:PlankAt a H1 gp cl w rows nn:=by
  obtain⟨⟨dx',f1⟩,⟨ts,f2,f3⟩,r1,r2,r3⟩:=P
  exact⟨⟨dx',s1 _ _ f1 (DF f1 hx (QM (by simp[pf])))⟩,⟨ts,s1 _ _ f2 (DF f2 hx (by intro z;cases z)),Paired.mapP f3 λt r z=>s1 _ _ z (DF z hx (by intro z;cases z))⟩,r1,r2,r3⟩
 have ncl:cl≠x:=by obtain⟨ts,z,_⟩:=P.ls;exact DF z hx (by intro z;cases z)
 refine zbb T TP P1 λA H2 eg ec off B s2=> ?_
 have hx2:=s2 _ _ e1
 refine⟨_,_,_,hx2,TS.cl,TS.n2,FB (n:=999) (by decide),λp hp=> ?_⟩
 have np:x≠p:=BN AG hp
 rw[AK np.symm]at hp
 refine⟨_,_,_,by rw[AK np,AG],TS.cl,TS.n3,FB (n:=999) (FB (n:=998) (by decide)),?_⟩
 rw[zcd]
 have s3:SameBut (· =x) H2 (upd (upd (upd H2 x (.ins (a "Store") dx (A6 "book" (.ref A.b) (A6 "plan" (.ref lp) [])))) p (.dK [])) x (.ins (a "Store") dx (sf lp A.b p))):=λy o e n=>by
  rw[AK n,AK (BN e hp),AK n];exact e
 have e3:upd (upd (upd H2 x (.ins (a "Store") dx (A6 "book" (.ref A.b) (A6 "plan" (.ref lp) [])))) p (.dK [])) x (.ins (a "Store") dx (sf lp A.b p)) x=some (.ins (a "Store") dx (sf lp A.b p)):=AG
 have p3:upd (upd (upd H2 x (.ins (a "Store") dx (A6 "book" (.ref A.b) (A6 "plan" (.ref lp) [])))) p (.dK [])) x (.ins (a "Store") dx (sf lp A.b p)) p=some (.dK []):=by rw[AK np.symm,AG]
 revert s3 e3 p3
 generalize upd (upd (upd H2 x (.ins (a "Store") dx (A6 "book" (.ref A.b) (A6 "plan" (.ref lp) [])))) p (.dK [])) x (.ins (a "Store") dx (sf lp A.b p))=H3
 intro s3 e3 p3
 have B3:=B.ins1 s3 hx2 (Nat.le_trans (NC _ _ _) (by simp))
 have sb:SameBut (· =x) H H3:=(s1.trans (Same.sb s2)).trans s3
 have tk:HG H H3:=λb xs e=>sb _ _ e (DF e hx (by intro z;cases z))
 have hpH:H p=none:=s1.none (by rw[e1];intro z;cases z) (s2.free hp)
 obtain⟨dl,el⟩:=L.ob
 refine q ⟨A,x,lp,p⟩ H3 rfl rfl eg ec (λy o e=> ?_) hpH ⟨⟨dx,e3⟩,L.sb sb (DF el hx (QM (by simp[lf]))),B3,p3,Nat.le_refl _,λz v h=>by simp[BO]at h,B.off hp,sz,⟨λr hr v hv=>(g r hr v hv).keep tk,λc hc=>by cases hc⟩,λkind k v h1 h2 hv=>(hrp kind k v h1 h2 hv).keep tk,hok,.nil⟩ sb
 by_cases hy:y=x
 ·subst hy
  exact(off _ _ e1).imp id id
 ·exact off y o (s1 _ _ e hy)
section
variable{X:SX}{cs:List Ch}{tks:List (AO × V)}{M:Hs}
theorem p5{n r c w kind kind' k k':Nat}(h1:kind<5)(h2:kind'<5)(hk:k<BI n r c w kind)(hk':k'<BI n r c w kind')(e1:BQ n r c w kind k=BQ n r c w kind' k')(e2:k % w=k' % w):kind=kind'/\k=k':=by
 unfold BI at hk hk'
 unfold BQ at e1
 have d1:k / w<(if kind=0 then n else if kind=1 then r else if kind=2 then c else if kind=3 then r else c):=Nat.div_lt_of_lt_mul (by rw[Nat.mul_comm];exact hk)
 have d2:k' / w<(if kind'=0 then n else if kind'=1 then r else if kind'=2 then c else if kind'=3 then r else c):=Nat.div_lt_of_lt_mul (by rw[Nat.mul_comm];exact hk')
 have key:kind=kind'/\k / w=k' / w:=by
  generalize k / w=x at *
  generalize k' / w=y at *
  clear hk hk' e2
  rcases(by omega:kind=0\/kind=1\/kind=2\/kind=3\/kind=4)with z | z | z | z | z<;>rcases(by omega:kind'=0\/kind'=1\/kind'=2\/kind'=3\/kind'=4)with y | y | y | y | y<;>subst z<;>subst y<;>simp at d1 d2 e1 ⊢ <;>omega
 exact⟨key.1,zce key.2 e2⟩
theorem LaidA.newest{n r c w:Nat}{H:Hp}{cs:List Ch}{as:List AC}(h:LaidA n r c w H cs as){kind k:Nat}(h1:kind<5)(hk:k<BI n r c w kind):D0 cs (BQ n r c w kind k:Nat) (k % w:Nat)=HD kind k as/\cs.length=as.length:=by
 induction h with
 | nil=>exact⟨rfl,rfl⟩
 | @snoc cs as ch x _ e1 e2 e3 e4 e5 e6 ih =>
  refine⟨?_,by rw[List.length_append,ih.2];rfl⟩
  rw[UV,ih.1,ih.2]
  show _=(if x.kind=kind/\x.k=k then some as.length else HD kind k as)
  by_cases e:x.kind=kind/\x.k=k
  ·rw[if_pos e,if_pos ⟨by rw[e1,e.1,e.2],by rw[e2,e.2]⟩]
  ·rw[if_neg e,if_neg λz=>e (p5 e5 h1 e6 hk (by have:=z.1;rw[e1]at this;omega) (by have:=z.2;rw[e2]at this;omega))]
theorem SM.on(I:X.at a H cs tks M){kind k:Nat}(h1:kind<5)(hk:k<BI X.n X.r X.c X.w kind):BQ X.n X.r X.c X.w kind k<X.rows.length/\k % X.w<X.w:=by
 refine⟨?_,Nat.mod_lt _ (by have:=pX hk;omega)⟩
 rw[I.sz.2.2.2.2]
 unfold BI at hk
 unfold BQ
 have hd:k / X.w<(if kind=0 then X.n else if kind=1 then X.r else if kind=2 then X.c else if kind=3 then X.r else X.c):=Nat.div_lt_of_lt_mul (by rw[Nat.mul_comm];exact hk)
 generalize k / X.w=x at *
 clear hk
 rcases(by omega:kind=0\/kind=1\/kind=2\/kind=3\/kind=4)with z | z | z | z | z<;>subst z<;>simp at hd ⊢ <;>omega
theorem SM.onPl(I:X.at a H cs tks M){kind k:Nat}(h1:kind<5)(hk:k<BI X.n X.r X.c X.w kind):onPl X.rows X.w (BQ X.n X.r X.c X.w kind k:Nat) (k % X.w:Nat):=by
 have:=I.on h1 hk
 exact⟨Int.natCast_nonneg _,by omega,Int.natCast_nonneg _,by omega⟩
theorem SM.val(I:X.at a H cs tks M){kind k:Nat}(h1:kind<5)(hk:k<BI X.n X.r X.c X.w kind):∃ v,EM cs X.rows (BQ X.n X.r X.c X.w kind k:Nat) (k % X.w:Nat)=some v/\RepC H (M kind k) v:=by
 obtain⟨b1,b2⟩:=I.on h1 hk
 obtain⟨v,ev⟩:=pW (λr' hr'=>I.bk.pk.wd r' hr') b1 b2 cs
 exact⟨v,ev,I.rp kind k v h1 hk ev⟩
theorem SM.snoc{H':Hp}{kind k:Nat}{v:V}{x:CV}{nd:List Int}{nd':List Nat}(hd:∀ y:Int,y∈nd↔(∃ j∈nd',y=(j:Nat))\/gA cs (BQ X.n X.r X.c X.w kind k:Nat) (k % X.w:Nat) y)(I:X.at a H cs tks M)(h1:kind<5)(hk:k<BI X.n X.r X.c X.w kind)(B:D9 a H' X.S.A X.w X.rows X.nn (cs++[⟨BQ X.n X.r X.c X.w kind k,k % X.w,v,nd⟩]) X.outs)(s:SameBut X.S.A.F H H')(g:GoodV 4 H' v)(rx:RepC H' x v)(ox:OA kind x):X.at a H' (cs++[⟨BQ X.n X.r X.c X.w kind k,k % X.w,v,nd⟩]) tks (M.put kind k x nd'):=by
 have lo:∀ x,X.S.A.F x->E8 (H x):=λx hx=>I.bk.loose hx
 have tk:HG H H':=X7 s lo
 obtain⟨⟨dx,e1⟩,e2,e3,e4,e5,e6,e7,e8,e9,e10,e11,e12⟩:=I
 obtain⟨dl,el⟩:=e2.ob
 refine⟨⟨dx,s _ _ e1 λz=>(lo _ z).2 _ _ _ e1⟩,e2.sb s λz=>(lo _ z).2 _ _ _ el,B,s _ _ e4 e7,by rw[List.length_append];omega,λz v h=> ?_,e7,e8,⟨(e9.keep tk).1,λc hc=> ?_⟩,λkind' k' v' h1' hk' hv=> ?_,λkind' k' h1' hk'=> ?_,(e12.keep tk).snoc rfl rfl rx (λy=>by rw[hd];unfold gA;rw[(e12.newest h1 hk).1]) h1 hk⟩
 ·obtain⟨k,ek,hk⟩:=e6 z v h
  exact⟨k,ek,by rw[List.length_append];omega⟩
 ·rcases List.mem_append.mp hc with y | y
  ·exact(e9.keep tk).2 c y
  ·rw[List.mem_singleton.mp y];exact g
 ·rw[zb5]at hv
  rw[Hs.put_at]
  by_cases hp:kind'=kind/\k'=k
  ·obtain⟨rfl,rfl⟩:=hp
   rw[if_pos ⟨rfl,rfl⟩]at hv ⊢
   cases hv
   exact rx
  ·rw[if_neg λy=>hp (by
    have:=p5 h1 h1' hk hk' (by omega) (by omega)
    exact⟨this.1.symm,this.2.symm⟩)]at hv
   rw[if_neg hp]
   exact(e10 kind' k' v' h1' hk' hv).keep tk
 ·rw[Hs.put_at]
  split
  ·rename_i y
   rw[y.1];exact ox
  ·exact e11 kind' k' h1' hk'
theorem MP{kind k:Nat}{v:V}{x:CV}{u nl:Addr}{ns:List Int}(T4:D4 K a)(I:X.at a H cs tks M)(h1:kind<5)(hk:k<BI X.n X.r X.c X.w kind)(hu:H u=some (.tup [.int (BQ X.n X.r X.c X.w kind k:Nat),.int (k % X.w:Nat)]))(hn:H nl=some (.lst (ns.map V.int)))(hl:ns.length<=60)(hcs:cs.length<990)(kn:∀ x∈ns,known cs x)(g:GoodV 4 H v)(rx:RepC H x v)(ox:OA kind x)
  (q:∀ ch H',X.at a H' (cs++[ch]) tks (M.put kind k x (OD ns))->SameBut X.S.A.F H H'->Q (.int cs.length) H'):HQ K a [.ref X.S.A.b,.ref u,v,.ref nl] H Q E:=by
 obtain⟨T,TP,TL,TS⟩:=T4
 refine⟨X.S.A,X.w,X.rows,X.nn,cs,X.outs,u,nl,v,ns,_,_,rfl,T,TP,I.bk,hu,SqL.of hn,hl,hcs,λ_ _ nd H5 pw mem B5 KR=> ?_,λy=>absurd (I.onPl h1 hk) y,λ_ ⟨x,hx,hk⟩=>absurd (kn x hx) hk⟩
 rw[Int.toNat_natCast,Int.toNat_natCast]at B5
 have tk:=X7 KR λx hx=>I.bk.loose hx
 refine q _ H5 (I.snoc (λy=> ?_) h1 hk B5 KR (g.keep tk) (rx.keep tk) ox) KR
 rw[mem]
 refine or_congr ⟨λh=>⟨y.toNat,List.mem_map.mpr ⟨y,h,rfl⟩,by have:=(kn y h).1;omega⟩,λhzz=> ?_⟩ Iff.rfl
 obtain⟨j,hj,e⟩:=hzz
 obtain⟨x,hx,rfl⟩:=List.mem_map.mp hj
 have:=(kn x hx).1
 rw[show y=x by omega]
 exact hx
end
def NmV(H:Hp)(v:V):Option (Str × Nat)->Prop
 | none=>v=.non
 | some (z,k)=>∃ t,v=.ref t/\H t=some (.tup [.str z,.int k])
theorem NmV.keep{H H':Hp}{v:V}{x:Option (Str × Nat)}(h:NmV H v x)(k:HG H H'):NmV H' v x:=by
 cases x with
 | none=>exact h
 | some p=>obtain⟨t,e,et⟩:=h;exact⟨t,e,k _ _ et⟩
theorem RepC.nmv{M:Hs}{k:Nat}{v:V}(h:RepC H (M 0 k) v)(ok:OA 0 (M 0 k)):NmV H v (EW M k):=by
 unfold EW
 cases e:M 0 k with
 | no=>rw[e]at h;exact h
 | nm z r=>rw[e]at h;exact h
 | mk i=>rw[e]at ok;exact ok.elim
 | rc m ps=>rw[e]at ok;exact ok.elim
 | tx z=>rw[e]at ok;exact ok.elim
theorem zci(h:L7 K a vs H Q E):W0 K a (λ_=>E) (BD Q) (A0 ["self"] vs) H:=by
 obtain⟨X,cs,tks,M,rfl,⟨T,TP,TL,TS⟩,I,q⟩:=h
 obtain⟨S,n,r,c,w,rows,nn,outs⟩:=X
 dsimp only at *
 have I0:(SX.mk S n r c w rows nn outs).at a H cs tks M:=I
 obtain⟨dx,ho⟩:=I.ob
 obtain⟨dl,el⟩:=I.ly.ob
 obtain⟨db,eb⟩:=I.bk.bk.ob
 have hz:=I.sz
 have hkm:n * w<=36:=Nat.mul_le_mul hz.1 hz.2.2.2.1
 push_cast[W0,↓Ub]
 refine⟨_,_,_,ho,TS.cl,TS.n1,_,KN,S.lp,rfl,_,_,el,C5 (by decide +kernel),S.lp,n,r,c,w,rfl,TL,I.ly,λt ht=> ?_⟩
 have s1:=AL (o:=.tup [V.int ((n:Int) * w),V.int ((r:Int) * w),V.int ((c:Int) * w)]) ht
 refine D8 AG (n:=0) rfl rfl ?_
 revert s1
 generalize upd H t (.tup [V.int ((n:Int) * w),V.int ((r:Int) * w),V.int ((c:Int) * w)])=H1
 intro s1
 have em:(n:Int) * w=(n * w:Nat):=by simp
 rw[em]
 push_cast[]
 refine⟨by omega,by omega,PZ (BV _ (by omega)) (λi ys H'=>Same H H'/\ys.length=i/\∀ k v,ys[k]? =some v->EM cs rows (BQ n r c w 0 k:Nat) (k % w:Nat)=some v) ⟨s1,rfl,λk v h=>by simp at h⟩ (λi ys H' hi hl hzz=> ?_) (λys H' hl ⟨s,_,al⟩ p hp=> ?_)⟩
 ·obtain⟨s,_,al⟩:=hzz
  push_cast[C7]
  refine⟨_,_,_,s _ _ ho,TS.cl,TS.n2,_,KO,S.A.b,rfl,_,_,s _ _ eb,D1 (by decide +kernel),_,_,_,s _ _ ho,TS.cl,TS.n1,_,KN,S.lp,rfl,_,_,s _ _ el,C5 (by decide +kernel),S.lp,n,r,c,w,i,by simp,TL,I.ly.same s,λu hu=> ?_⟩
  have s2:=s.trans (AL (o:=.tup [.int (0+(i:Int) / w),.int ((i:Int) % w)]) hu)
  have hm0:i<BI n r c w 0:=by simpa [BI]using hi
  refine⟨S.A,w,rows,nn,cs,outs,u,(BQ n r c w 0 i:Nat),(i % w:Nat),rfl,T,TP,I.bk.same s2,by rw[AG];simp[BQ],λ_ v H3 ev s3=>⟨s2.trans s3,by simp[hl],λk v' hk=> ?_⟩,λz=>absurd (SM.onPl I0 (kind:=0) (by decide) hm0) z⟩
  rcases Nat.lt_or_ge k ys.length with z | z
  ·rw[List.getElem?_append_left z]at hk;exact al k v' hk
  ·rw[List.getElem?_append_right z]at hk
   have:k=i:=by
    rcases Nat.eq_or_lt_of_le z with y | y
    ·omega
    ·rw[List.getElem?_eq_none (by simp;omega)]at hk;cases hk
   subst this
   rw[hl,Nat.sub_self]at hk
   cases hk
   exact ev
 ·have sp:=AL (o:=.lst ys) hp
  have s3:=s.trans sp
  refine q p ys _ s3 AG hl λk v hk=> ?_
  have OZ:=(List.getElem?_eq_some_iff.mp hk).1
  exact(I.rp 0 k v (by decide) (by simp[BI];omega) (al k v hk)).keep s3.tk
theorem RV{M:Hs}{m i:Nat}{z:Str}(hi:i<m)(h:(EW M i).any (λp=>decide (p.1=z))=true)(hl:∀ j<i,(EW M j).any (λp=>decide (p.1=z))=false):cellOf M m z=some i:=by
 unfold cellOf
 rw[List.find?_eq_some_iff_append]
 refine⟨h,List.range i,(List.range (m - i - 1)).map (i+1+·),?_,λj hj=>by rw[hl j (List.mem_range.mp hj)];rfl⟩
 have e1:m=i+(1+(m - i - 1)):=by omega
 conv=>lhs;rw[e1]
 rw[List.range_add,List.range_add]
 simp[Nat.add_assoc,Function.comp_def]
theorem X9{M:Hs}{m:Nat}{z:Str}(hl:∀ j<m,(EW M j).any (λp=>decide (p.1=z))=false):cellOf M m z=none:=by
 unfold cellOf
 exact List.find?_eq_none.mpr λj hj=>by rw[hl j (List.mem_range.mp hj)];exact Bool.false_ne_true
theorem zcj(h:L8 K a vs H Q E):XA K a (λ_=>E) (BD Q) (A0 ["self","name","cell","value"] vs) H:=by
 obtain⟨X,cs,tks,M,z,rfl,T4,I,q⟩:=h
 obtain⟨dx,ho⟩:=I.ob
 push_cast[XA,↓Uz]
 refine⟨_,_,ho,CT (by decide +kernel),X,cs,tks,M,rfl,T4,I,λl xs H1 s1 el hl hx=> ?_⟩
 refine⟨l,rfl,⟨_,SqL.of el⟩,eV (xs:=xs) (λi σ H'=>(Same H H'/\Same H1 H'/\∀ j<i,(EW M j).any (λp=>decide (p.1=z))=false)/\∃ x y,σ=[some (.ref X.S.st),some (.str z),x,y]) ⟨⟨s1,Same.refl _,λj hj=>absurd hj (Nat.not_lt_zero _)⟩,_,_,rfl⟩ (λi σ H' _ ⟨⟨_,s,_⟩,_⟩=>SqL.of (s _ _ el)) (λi x σ H' t hxi ⟨⟨sH,s,lo⟩,y1,y2,ez⟩ ht=> ?_) (λσ H' ⟨⟨sH,s,lo⟩,y1,y2,ez⟩=> ?_)⟩
 ·subst ez
  have hi:=(List.getElem?_eq_some_iff.mp hxi).1
  have s2:=s.trans (AL (o:=.tup [.int (i:Int),x]) ht)
  have sH2:=sH.trans (AL (o:=.tup [.int (i:Int),x]) ht)
  have nx:=((hx i x hxi).nmv (I.ok 0 i (by decide) (by rw[hl]at hi;simpa [BI]using hi))).keep s2.tk
  push_cast[]
  refine⟨_,SqT.of AG,rfl,_,_,rfl,_,_,rfl,rfl,?_⟩
  revert s2 sH2 nx
  generalize upd H' t (.tup [.int (i:Int),x])=H2
  intro s2 sH2 nx
  have next:(EW M i).any (λp=>decide (p.1=z))=false->Same H H2/\Same H1 H2/\∀ j<i+1,(EW M j).any (λp=>decide (p.1=z))=false:=λh=>⟨sH2,s2,λj hj=>by
   rcases Nat.lt_or_ge j i with y | y
   ·exact lo j y
   ·rw[show j=i by omega];exact h⟩
  push_cast[↓Uy,↓Ux]
  cases en:EW M i with
  | none =>
   rw[en]at nx next
   rw[show x=.non from nx]
   push_cast[]
   exact next rfl
  | some p =>
   rw[en]at nx next
   obtain⟨u,rfl,eu⟩:=nx
   rw[if_pos (by simp)]
   refine D8 eu (n:=0) rfl rfl ?_
   push_cast[]
   by_cases hz:p.1=z
   ·rw[if_pos hz]
    have:=q _ sH2
    rw[RV (i:=i) (by omega) (by rw[en];simpa using hz) lo]at this
    exact this
   ·rw[if_neg hz]
    exact next (by simpa using hz)
 ·subst ez
  push_cast[↓Vb]
  have:=q _ sH
  rw[X9 (by rw[<-hl];exact lo)]at this
  exact this
theorem zck(h:OB K a vs H Q E):W9 K a (λ_=>E) (BD Q) (A0 ["self"] vs) H:=by
 obtain⟨X,cs,tks,M,rfl,T4,I,q⟩:=h
 obtain⟨dx,ho⟩:=I.ob
 have hz:=I.sz
 have hkm:X.m0<=36:=Nat.mul_le_mul hz.1 hz.2.2.2.1
 push_cast[W9,↓Uw]
 refine⟨_,_,ho,CT (by decide +kernel),X,cs,tks,M,rfl,T4,I,λl xs H1 s1 el hl hx=> ?_⟩
 push_cast[]
 refine .inl ⟨⟨_,SqL.of el⟩,Gj (xs:=xs) (BV _ (by omega)) (λi σ' ys H'=>H'=H1/\(∃ y0,σ'=[y0])/\ys=(JP M i).map V.str) ⟨rfl,⟨_,rfl⟩,rfl⟩ (λi σ' ys H' ⟨e,_,ey⟩=>⟨e ▸ SqL.of el,by rw[ey,List.length_map];exact Nat.le_trans (List.length_filterMap_le _ _) (by simp)⟩) (λi x σ' ys H' hi hxi ⟨e,⟨y0,es⟩,ey⟩=> ?_) (λσ' ys H' ⟨e,_,ey⟩ p hp=> ?_)⟩
 ·subst e es
  have nx:=(hx i x hxi).nmv (I.ok 0 i (by decide) (by rw[hl]at hi;simpa [BI]using hi))
  have SB:JP M (i+1)=JP M i++((EW M i).map (·.1)).toList:=by
   unfold JP
   rw[List.range_succ,List.filterMap_append]
   cases e:EW M i<;>simp[e]
  push_cast[]
  cases en:EW M i with
  | none =>
   rw[en]at nx SB
   rw[show x=.non from nx,if_neg (by simp)]
   exact⟨_,by omega,rfl,by omega,by rw[SB,ey];simp⟩
  | some p =>
   rw[en]at nx SB
   obtain⟨u,rfl,eu⟩:=nx
   rw[if_pos (by simp)]
   exact⟨λy H4=>y=.str p.1/\H4=H',λy H4 ⟨e1,e2⟩=>⟨_,by omega,rfl,by omega,e2,by rw[SB,ey,e1];simp⟩,D8 eu (n:=0) rfl rfl ⟨rfl,rfl⟩⟩
 ·subst e
  have sp:=AL (o:=.lst ys) hp
  refine⟨p,JP M X.m0,rfl,by rw[<-hl,<-ey];exact SqL.of AG,Nat.lt_of_le_of_lt (List.length_filterMap_le _ _) (by simp;omega),λD ks hD pk hs=> ?_⟩
  exact q D ks _ (s1.free (sp.free hD)) ((s1.trans sp).trans (AL hD)) AG pk hs
theorem zcl(h:OC K a vs H Q E):XD K a (λ_=>E) (BD Q) (A0 ["self","new","given"] vs) H:=by
 obtain⟨X,cs,tks,M,z,gl,zs,rfl,T4,I,eg,hl,hy,q,q1,q2⟩:=h
 obtain⟨dx,ho⟩:=I.ob
 push_cast[XD,↓Vk]
 refine .inl ⟨⟨_,SqL.of eg⟩,TZ (xs:=zs.map V.str) (BV _ (by rw[List.length_map];omega)) (λi ys H'=>Same H H'/\ys=((zs.take i).map BZ).map V.bl) ⟨Same.refl _,rfl⟩ (λi ys H' _ ⟨s,_⟩=>SqL.of (s _ _ eg)) (λi x ys H' hxi hyl ⟨s,ey⟩=> ?_) (λys H' hyl ⟨s,ey⟩ p hp=> ?_)⟩
 ·rw[List.getElem?_map,Option.map_eq_some_iff]at hxi
  obtain⟨x',hx',rfl⟩:=hxi
  push_cast[C7]
  refine⟨x',rfl,hy x' (List.mem_of_getElem? hx'),λH2 s2=>⟨s.trans s2,?_⟩⟩
  rw[List.take_add_one,hx',ey]
  simp
 ·rw[List.length_map,List.take_length]at ey
  have sp:=AL (o:=.lst ys) hp
  have s2:=s.trans sp
  refine⟨p,zs.map BZ,rfl,by rw[<-ey];exact SqL.of AG,?_⟩
  rw[List.all_map,Function.id_comp]
  revert s2
  generalize upd H' p (.lst ys)=H2
  intro s2
  cases hb:zs.all BZ with
  | false =>
   push_cast[↓Vj]
   exact⟨by decide,q1 hb _ s2⟩
  | true =>
   push_cast[↓Vm]
   refine⟨_,_,s2 _ _ ho,CT (by decide +kernel),X,cs,tks,M,z,rfl,T4,I.same s2,λH3 s3=> ?_⟩
   have s4:=s2.trans s3
   cases hc:cellOf M X.m0 z with
   | none =>
    push_cast[FT]
    exact q hb hc _ s4
   | some k =>
    push_cast[FT,↓Vl]
    exact⟨by decide,q2 hb ⟨k,hc⟩ _ s4⟩
theorem KP{S:SA}{dx db gp mm mi lt ou:Addr}{mth:Str}{P:V->Prop}(TS:N9 K a)(ho:H S.st=some (.ins (a "Store") dx (sf S.lp S.A.b S.tk)))(eb:H S.A.b=some (.ins (a "Hold") db (bf gp mm mi lt ou)))(hm:(bf gp mm mi lt ou).lookup mth=none)(p:P (.ref S.A.b)) :
  ∃ x x1 x2,H S.st=some (.ins x x1 x2)/\Cls K x/\NoAttr K x "book"/\∃ v,x2.lookup ("book":Str)=some v/\∃ b,v=.ref b/\∃ y y1,H b=some (.ins (a "Hold") y y1)/\y1.lookup mth=none/\P v:=⟨_,_,_,ho,TS.cl,TS.n2,_,KO,_,rfl,_,_,eb,hm,p⟩
theorem HR{S:SA}{dx dl:Addr}{n r c w:Int}{mth:Str}{P:V->Prop}(TS:N9 K a)(ho:H S.st=some (.ins (a "Store") dx (sf S.lp S.A.b S.tk)))(el:H S.lp=some (.ins (a "Layout") dl (lf n r c w)))(hm:(lf n r c w).lookup mth=none)(p:P (.ref S.lp)) :
  ∃ x x1 x2,H S.st=some (.ins x x1 x2)/\Cls K x/\NoAttr K x "plan"/\∃ v,x2.lookup ("plan":Str)=some v/\∃ b,v=.ref b/\∃ y y1,H b=some (.ins (a "Layout") y y1)/\y1.lookup mth=none/\P v:=⟨_,_,_,ho,TS.cl,TS.n1,_,KN,_,rfl,_,_,el,hm,p⟩
section
variable{p:Addr}{n r c w k:Nat}
theorem p6(TL:EH K a)(L:LayAt a H p n r c w)(q:GQ (0+k / w) (k % w) Q H):JK K a [.ref p,.int k] H Q E:=⟨p,n,r,c,w,k,rfl,TL,L,q⟩
theorem RW(TL:EH K a)(L:LayAt a H p n r c w)(q:GQ (n+k / w) (k % w) Q H):JL K a [.ref p,.int k] H Q E:=⟨p,n,r,c,w,k,rfl,TL,L,q⟩
theorem p7(TL:EH K a)(L:LayAt a H p n r c w)(q:GQ (n+r+k / w) (k % w) Q H):KB K a [.ref p,.int k] H Q E:=⟨p,n,r,c,w,k,rfl,TL,L,q⟩
theorem lRM(TL:EH K a)(L:LayAt a H p n r c w)(q:GQ (n+r+c+k / w) (k % w) Q H):LW K a [.ref p,.int k] H Q E:=⟨p,n,r,c,w,k,rfl,TL,L,q⟩
theorem lPM(TL:EH K a)(L:LayAt a H p n r c w)(q:GQ (n+r+c+r+k / w) (k % w) Q H):LX K a [.ref p,.int k] H Q E:=⟨p,n,r,c,w,k,rfl,TL,L,q⟩
end
theorem p8{f g:Nat->Bool}:∀ {l:List Nat},(∀ k∈l,f k=g k)->l.find? f=l.find? g
 | [],_=>rfl
 | k::l,h=>by
  rw[List.find?_cons,List.find?_cons,h k List.mem_cons_self,p8 λk' hk'=>h k' (List.mem_cons_of_mem _ hk')]
theorem zco{f g:Nat->Bool}{m:Nat}(h:∀ k<m,f k=g k):EV f m=EV g m:=by
 unfold EV
 rw[p8 λk hk=>h k (List.mem_range.mp hk)]
section
variable{X:SX}{cs:List Ch}{tks:List (AO × V)}{M:Hs}
theorem SM.free(I:X.at a H cs tks M){kind:Nat}(hk:kind<3):EV (JN cs X.rows X.n X.r X.c X.w kind) (BI X.n X.r X.c X.w kind)=FU M kind (BI X.n X.r X.c X.w kind):=zco λk hkm=>by
 obtain⟨v,ev,rv⟩:=I.val (by omega:kind<5) hkm
 have ok:=I.ok kind k (by omega) hkm
 unfold JN
 rw[ev]
 show IH kind v=KG kind (M kind k)
 cases e:M kind k with
 | no=>rw[e]at rv;rw[show v=.non from rv];simp[IH,KG]
 | nm z r=>rw[e]at rv;obtain⟨t,rfl,_⟩:=rv;simp[IH,KG]
 | mk i =>
  rw[e]at rv;rw[show v=.int i from rv]
  simp[IH,KG]
 | rc m ps=>rw[e]at rv;obtain⟨t,u,rfl,_⟩:=rv;simp[IH,KG]
 | tx z=>rw[e]at rv;rw[show v=.str z from rv];simp[IH,KG]
theorem zcp{m cell:Nat}{z:Str}(h:cellOf M m z=some cell):cell<m/\∃ k,M 0 cell=.nm z k:=by
 unfold cellOf at h
 have h1:=List.mem_range.mp (List.mem_of_find?_eq_some h)
 have h2:=List.find?_some h
 unfold EW at h2
 refine⟨h1,?_⟩
 cases e:M 0 cell with
 | nm z' k =>
  rw[e]at h2
  simp at h2
  exact⟨k,by rw[h2]⟩
 | _=>rw[e]at h2;simp at h2
theorem YA{kind:Nat}(T4:D4 K a)(I:X.at a H cs tks M)(hk:kind<3)(q:∀ k:Nat,FU M kind (BI X.n X.r X.c X.w kind)=k->k<BI X.n X.r X.c X.w kind->∀ H',Same H H'->Q (.int k) H')(qe:FU M kind (BI X.n X.r X.c X.w kind)= -1->EA a H "NoRoom" E):Q8 kind K a X.S.lp X.S.A.b H Q E:=by
 obtain⟨T,TP,TL,TS⟩:=T4
 obtain⟨z1,z2,z3,z4,z5⟩:=I.sz
 refine⟨X.S.A,X.n,X.r,X.c,X.w,X.rows,X.nn,cs,X.outs,rfl,T,TP,TL,I.ly,z1,z2,z3,z4,I.bk,z5,λi j v hv=>zb4 I.gd hv,λk e H' s=> ?_,λe H' s=> ?_⟩
 ·rw[I.free hk]at e
  exact q k e (zcf e) H' s
 ·rw[I.free hk]at e
  exact qe e H' s
end
theorem zcq(h:JR K a vs H Q E):W3 K a (λ_=>E) (BD Q) (A0 ["self","record"] vs) H:=by
 obtain⟨X,cs,tks,M,rec,rfl,⟨T,TP,TL,TS⟩,I,hr,q⟩:=h
 obtain⟨dx,ho⟩:=I.ob
 obtain⟨dl,el⟩:=I.ly.ob
 obtain⟨db,eb⟩:=I.bk.bk.ob
 have hm:rec<BI X.n X.r X.c X.w 3:=by simpa [BI]using hr
 push_cast[W3,↓Uc]
 refine KP TS (ho) (eb) (D1 (by decide +kernel)) (HR TS (ho) (el) (C5 (by decide +kernel)) (RW TL (I.ly) λu hu=> ?_))
 have s2:=AL (o:=.tup [.int (X.n+(rec:Int) / X.w),.int ((rec:Int) % X.w)]) hu
 refine⟨X.S.A,X.w,X.rows,X.nn,cs,X.outs,u,(BQ X.n X.r X.c X.w 3 rec:Nat),(rec % X.w:Nat),rfl,T,TP,I.bk.same s2,by rw[AG];simp[BQ],λ_ v H3 ev s3=> ?_,λz=>absurd (I.onPl (kind:=3) (by decide) hm) z⟩
 have s4:=s2.trans s3
 exact q v H3 ((I.rp 3 rec v (by decide) hm ev).keep s4.tk) s4
theorem zcr(h:JQ K a vs H Q E):XF K a (λ_=>E) (BD Q) (A0 ["self","name","cell"] vs) H:=by
 obtain⟨X,cs,tks,M,z,rfl,T4,I,q,qe⟩:=h
 obtain⟨dx,ho⟩:=I.ob
 push_cast[XF,↓Vp]
 refine⟨_,_,ho,CT (by decide +kernel),X,cs,tks,M,z,rfl,T4,I,λH1 s1=> ?_⟩
 push_cast[↓Vv]
 cases e:cellOf M X.m0 z with
 | none =>
  push_cast[FT,↓Vq]
  exact⟨by decide,qe e _ s1⟩
 | some cell =>
  push_cast[FT,↓Vw]
  obtain⟨hc,k,ek⟩:=zcp e
  refine⟨_,_,s1 _ _ ho,CT (by decide +kernel),X,cs,tks,M,rfl,T4,I.same s1,λl xs H2 s2 el hl hx=> ?_⟩
  have BX:cell<xs.length:=by rw[hl];exact hc
  have ex:=List.getElem?_eq_getElem BX
  have rx:=hx cell _ ex
  rw[ek]at rx
  obtain⟨t,et,et2⟩:=rx
  exact C4 (SqL.of el) rfl ex (by rw[et];exact D8 et2 (n:=1) rfl rfl (q cell k e hc ek _ (s1.trans s2)))
theorem p9{X:SX}{cs:List Ch}{tks:List (AO × V)}{M:Hs}{cell rec need:Nat}{z:Str}{nl:Addr}{ns:List Int}{H2:Hp}(T4:D4 K a)(I:X.at a H cs tks M)(hc:cell<X.m0)(hcs:cs.length<980)(hz:PyData.strOk z=true)(s:Same H H2)(en:H2 nl=some (.lst (ns.map V.int)))(hl:ns.length<=60)(kn:∀ x∈ns,known cs x)
  (q:U9 X a H cs tks (M.put 0 cell (.nm z rec) (OD ns)) Q) :
  W4 K a (λ_=>E) (λ_=>E) (BD Q) [some (.ref X.S.st),some (.int cell),some (.str z),some (.int rec),some (.int need),some (.ref nl)] H2:=by
 have T4':=T4
 obtain⟨T,TP,TL,TS⟩:=T4
 obtain⟨dx,ho⟩:=I.ob
 obtain⟨dl,el⟩:=I.ly.ob
 obtain⟨db,eb⟩:=I.bk.bk.ob
 have hm:cell<BI X.n X.r X.c X.w 0:=by simpa [BI]using hc
 push_cast[↓Uj]
 refine KP TS (s _ _ ho) (s _ _ eb) (D1 (by decide +kernel)) (HR TS (s _ _ ho) (s _ _ el) (C5 (by decide +kernel)) (p6 TL (I.ly.same s) λu hu=> ?_))
 have s2:=s.trans (AL (o:=.tup [.int (0+(cell:Int) / X.w),.int ((cell:Int) % X.w)]) hu)
 have eu:upd H2 u (.tup [.int (0+(cell:Int) / X.w),.int ((cell:Int) % X.w)]) u=some (.tup [.int (BQ X.n X.r X.c X.w 0 cell:Nat),.int (cell % X.w:Nat)]):=by rw[AG];simp[BQ]
 have en2:=AL (o:=.tup [.int (0+(cell:Int) / X.w),.int ((cell:Int) % X.w)]) hu _ _ en
 revert s2 eu en2
 generalize upd H2 u (.tup [.int (0+(cell:Int) / X.w),.int ((cell:Int) % X.w)])=H3
 intro s2 eu en2
 push_cast[]
 refine⟨by decide,λt ht=> ?_⟩
 have st:=AL (o:=.tup [V.str z,V.int rec]) ht
 have s4:=s2.trans st
 have et:upd H3 t (.tup [V.str z,V.int rec]) t=some (.tup [V.str z,V.int rec]):=AG
 refine MP T4' (I.same s4) (kind:=0) (x:=.nm z rec) (by decide) hm (st _ _ eu) (st _ _ en2) hl (by omega) kn ⟨_,et,by simp,λv hv=> ?_⟩ ⟨t,rfl,et⟩ trivial λch H' I' sb=>q ch H' I' λb o e n=>sb _ _ (s4 _ _ e) n
 simp only[List.mem_cons,List.not_mem_nil,or_false]at hv
 rcases hv with rfl | rfl
 ·exact hz
 ·trivial
theorem zcs(h:RH K a vs H Q E):W5 K a (λ_=>E) (BD Q) (A0 ["self","cell","name","record","need","needs"] vs) H:=by
 obtain⟨X,cs,tks,M,cell,rec,need,z,rfl,T4,I,hc,hn,hcs,hz,q⟩:=h
 obtain⟨T,TP,TL,TS⟩:=T4
 obtain⟨dx,ho⟩:=I.ob
 push_cast[W5,↓Ud,↓Uh]
 refine⟨by decide,λnl hnl=> ?_⟩
 have s1:=AL (o:=.lst [V.int need]) hnl
 refine⟨_,_,_,s1 _ _ ho,TS.cl,TS.n3,_,pZ,X.S.tk,rfl,_,dS (s1 _ _ I.tk),?_⟩
 have e1:upd H nl (.lst [V.int need]) nl=some (.lst [V.int need]):=AG
 have kn:known cs (need:Int):=⟨by omega,by omega⟩
 cases hv:BO tks (.inr z)with
 | none =>
  rw[show L9 tks z=[] by unfold L9;rw[hv]]at q
  rw[if_neg (by simp)]
  exact p9 (ns:=[(need:Int)]) ⟨T,TP,TL,TS⟩ I hc hcs hz s1 e1 (by simp) (λx hx=>by rw[List.mem_singleton.mp hx];exact kn) q
 | some v =>
  obtain⟨k,rfl,hk⟩:=I.tv z v hv
  rw[show L9 tks z=[k] by unfold L9;rw[hv];rfl]at q
  rw[if_pos (by simp)]
  push_cast[↓Ug]
  refine⟨.inl ⟨rfl,_,SqL.of e1⟩,_,_,_,s1 _ _ ho,TS.cl,TS.n3,_,pZ,X.S.tk,rfl,_,Gc (s1 _ _ I.tk) hv,nl,_,_,rfl,rfl,e1,(by show 1<sizeLine;decide),?_⟩
  rw[GA]
  refine p9 (ns:=[(need:Int),(k:Int)]) ⟨T,TP,TL,TS⟩ I hc hcs hz (AL hnl) AG (by simp) (λx hx=> ?_) q
  simp only[List.mem_cons,List.not_mem_nil,or_false]at hx
  rcases hx with rfl | rfl
  ·exact kn
  ·exact⟨by omega,by omega⟩
theorem zct{n:Nat}{H:Hp}(ps:List Nat):∀ v∈BM ps,GoodV (n+1) H v:=λv hv=>by
 obtain⟨p,_,rfl⟩:=List.mem_map.mp hv
 trivial
theorem qA{H:Hp}{t u:Addr}{m:Nat}{ps:List Nat}(h1:H t=some (.tup [.int m,.ref u]))(h2:H u=some (.tup (BM ps)))(hl:ps.length<=100):GoodV 4 H (.ref t):=⟨_,h1,by simp,λv hv=>by
 simp only[List.mem_cons,List.not_mem_nil,or_false]at hv
 rcases hv with rfl | rfl
 ·trivial
 ·exact⟨_,h2,by simp[BM];exact hl,zct ps⟩⟩
theorem zcu(h:RI K a vs H Q E):XB K a (λ_=>E) (BD Q) (A0 ["self","record","pieces","needs"] vs) H:=by
 obtain⟨X,cs,tks,M,rec,m,ps,ps',pl,nl,ns,rfl,T4,I,hr,eM,epl,hps,en,hl,kn,hcs,q⟩:=h
 have T4':=T4
 obtain⟨T,TP,TL,TS⟩:=T4
 obtain⟨dx,ho⟩:=I.ob
 obtain⟨dl,el⟩:=I.ly.ob
 obtain⟨db,eb⟩:=I.bk.bk.ob
 have hm:rec<BI X.n X.r X.c X.w 3:=by simpa [BI]using hr
 push_cast[XB,↓Vc]
 refine KP TS (ho) (eb) (D1 (by decide +kernel)) (HR TS (ho) (el) (C5 (by decide +kernel)) (RW TL (I.ly) λu hu=> ?_))
 have sa:=AL (o:=.tup [.int (X.n+(rec:Int) / X.w),.int ((rec:Int) % X.w)]) hu
 have eu:upd H u (.tup [.int (X.n+(rec:Int) / X.w),.int ((rec:Int) % X.w)]) u=some (.tup [.int (BQ X.n X.r X.c X.w 3 rec:Nat),.int (rec % X.w:Nat)]):=by rw[AG];simp[BQ]
 revert sa eu
 generalize upd H u (.tup [.int (X.n+(rec:Int) / X.w),.int ((rec:Int) % X.w)])=H2
 intro sa eu
 push_cast[]
 refine⟨_,_,sa _ _ ho,CT (by decide +kernel),X,cs,tks,M,rec,rfl,T4',I.same sa,hr,λv H3 rv s3=> ?_⟩
 rw[eM]at rv
 obtain⟨t0,u0,rfl,O2,O3⟩:=rv
 refine D8 O2 (n:=0) rfl rfl ?_
 push_cast[]
 refine⟨by decide,λt ht=> ?_⟩
 have st:=AL (o:=.tup [V.int m,V.ref pl]) ht
 have s4:=(sa.trans s3).trans st
 have e1:upd H3 t (.tup [V.int m,V.ref pl]) t=some (.tup [V.int m,V.ref pl]):=AG
 have e2:=s4 _ _ epl
 exact MP T4' (I.same s4) (kind:=3) (x:=.rc m ps') (by decide) hm (st _ _ (s3 _ _ eu)) (s4 _ _ en) hl (by omega) kn (qA e1 e2 hps) ⟨t,pl,rfl,e1,e2⟩ trivial λch H' I' sb=>q ch H' I' λb o e n=>sb _ _ (s4 _ _ e) n
theorem qB{te:TE}{cap:List Nat}{σ:St}{b:Addr}{xs:List V}(hn:xs.length<=sizeLine)(Pv:Nat->List V->Hp->Prop)(h0:Pv 0 [] H)(hq:∀ i ys H,i<=xs.length->Pv i ys H->SqT K H b xs)
  (hs:∀ i x ys H,xs[i]? =some x->ys.length=i->Pv i ys H->te (some x::C7 cap σ) H λy H2=>Pv (i+1) (ys++[y]) H2)
  (hd:∀ ys H,ys.length=xs.length->Pv xs.length ys H->∀ p,H p=none->Q (.ref p) (upd H p (.lst ys))) :
  E5 (HW K b) (AN 0) DH te 1 cap σ H Q:=by
 refine⟨λi m σ' ys H=>m=xs.length - i/\i<=xs.length/\ys.length=i/\(∃ x0,σ'=x0::C7 cap σ)/\Pv i ys H,⟨xs.length,by simp,Nat.zero_le _,rfl,⟨none,rfl⟩,h0⟩,?_⟩
 rintro i m σ' ys H ⟨rfl,hi,hl,⟨x0,rfl⟩,p⟩
 have q:=hq i ys H hi p
 by_cases BE:i<xs.length
 ·refine .inr ⟨⟨xs,xs[i],q,by simp[BE]⟩,by omega,λx H' y=> ?_⟩
  obtain⟨e,y⟩:=y
  subst e
  have hx:=y xs q
  simp only[AN,DH,if_true]
  refine⟨_,λy H4 q=>⟨xs.length - (i+1),by omega,rfl,BE,?_,⟨_,rfl⟩,q⟩,hs i x ys _ hx hl p⟩
  rw[List.length_append,List.length_singleton,hl]
 ·have e:i=xs.length:=by omega
  subst e
  exact .inl ⟨⟨xs,q,Nat.le_refl _⟩,hd ys H hl p⟩
section
variable{X:SX}{cs:List Ch}{tks:List (AO × V)}{M:Hs}
end
theorem qC{X:SX}{cs:List Ch}{tks:List (AO × V)}{M:Hs}{H':Hp}{l:Addr}(I:X.at a H' cs tks M)(sb:SameBut (λx=>X.S.A.F x\/x=X.S.tk) H H')(hl:H' l=none):H l=none:=by
 cases e:H l with
 | none=>rfl
 | some o =>
  have:=sb _ _ e λz=>z.elim (I.bk.off hl) λz=>by rw[z,I.tk]at hl;cases hl
  rw[hl]at this
  cases this
theorem zcv(h:OE K a vs H Q E):XG K a (λ_=>E) (BD Q) (A0 ["self","name","record","cell","mark","stands"] vs) H:=by
 obtain⟨X,cs,tks,M,z,rfl,T4,I,hzl,hcs,q,q1,q2,q3⟩:=h
 have T4':=T4
 obtain⟨dx,ho⟩:=I.ob
 have hm1:BI X.n X.r X.c X.w 1=X.r * X.w:=by simp[BI]
 have hm0:BI X.n X.r X.c X.w 0=X.m0:=by simp[BI]
 have hm3:BI X.n X.r X.c X.w 3=X.r * X.w:=by simp[BI]
 push_cast[XG,↓Vx]
 refine⟨_,_,ho,CT (by decide +kernel),by decide,λgl hgl=> ?_⟩
 have s1:=AL (o:=.lst [V.str z]) hgl
 refine⟨X,cs,tks,M,z,gl,[z],rfl,T4,I.same s1,AG,by simp,λy hy=>by rw[List.mem_singleton.mp hy];exact hzl,λhb hc H2 s2=> ?_,λhb H2 s2=>q1 (by simpa using hb) _ (s1.trans s2),λhb hc H2 s2=>q2 (by simpa using hb) hc _ (s1.trans s2)⟩
 have hb:BZ z=true:=by simpa using hb
 have DU:=s1.trans s2
 clear s1 s2 hgl
 obtain⟨T,TP,TL,TS⟩:=T4
 push_cast[↓Vy]
 refine⟨_,_,_,DU _ _ ho,TS.cl,TS.n1,_,KN,_,_,_,DU _ _ ho,TS.cl,TS.n2,_,KO,X.S.lp,X.S.A.b,rfl,YA T4' (I.same DU) (by decide) (λrec er R8 H3 s3=> ?_) λer H3 s3=>q3 hb hc (.inl (by rw[<-hm1];exact er)) _ (DU.trans s3)⟩
 rw[hm1]at er R8
 have s13:=DU.trans s3
 clear DU s3
 push_cast[↓Vz]
 refine⟨_,_,_,s13 _ _ ho,TS.cl,TS.n1,_,KN,_,_,_,s13 _ _ ho,TS.cl,TS.n2,_,KO,X.S.lp,X.S.A.b,rfl,YA T4' (I.same s13) (by decide) (λcell ec BX H4 s4=> ?_) λer H3 s3=>q3 hb hc (.inr (by rw[<-hm0];exact er)) _ (s13.trans s3)⟩
 rw[hm0]at ec BX
 have s14:=s13.trans s4
 have I4:=I.same s14
 clear s13 s4
 obtain⟨dx4,ho4⟩:=I4.ob
 obtain⟨dl4,el4⟩:=I4.ly.ob
 obtain⟨db4,eb4⟩:=I4.bk.bk.ob
 push_cast[↓Wb]
 refine KP TS (ho4) (eb4) (D1 (by decide +kernel)) (HR TS (ho4) (el4) (C5 (by decide +kernel)) (lRM TL (I4.ly) λu hu=>⟨by decide,λl0 hl0=> ?_⟩))
 have sa:=AL (o:=.tup [.int (X.n+X.r+X.c+(rec:Int) / X.w),.int ((rec:Int) % X.w)]) hu
 have sb:=AL (o:=.lst []) hl0
 have eu:=sb _ _ (show upd H4 u (.tup [.int (X.n+X.r+X.c+(rec:Int) / X.w),.int ((rec:Int) % X.w)]) u=some (.tup [.int (BQ X.n X.r X.c X.w 1 rec:Nat),.int (rec % X.w:Nat)]) by rw[AG];simp[BQ])
 have el0:upd (upd H4 u (.tup [.int (X.n+X.r+X.c+(rec:Int) / X.w),.int ((rec:Int) % X.w)])) l0 (.lst []) l0=some (.lst (([]:List Int).map V.int)):=AG
 have s5:=sa.trans sb
 revert eu el0 s5
 clear sa sb
 generalize upd (upd H4 u (.tup [.int (X.n+X.r+X.c+(rec:Int) / X.w),.int ((rec:Int) % X.w)])) l0 (.lst [])=H5
 intro eu el0 s5
 refine MP T4' (I4.same s5) (kind:=1) (x:=.mk 1) (by decide) (by rw[hm1];exact R8) eu el0 (by simp) (by omega) (λx hx=>by cases hx) trivial rfl (Nat.le_refl _) λc1 H6 I6 sb6=> ?_
 obtain⟨dx6,ho6⟩:=I6.ob
 obtain⟨dl6,el6⟩:=I6.ly.ob
 obtain⟨db6,eb6⟩:=I6.bk.bk.ob
 push_cast[↓Wc]
 refine KP TS (ho6) (eb6) (D1 (by decide +kernel)) (HR TS (ho6) (el6) (C5 (by decide +kernel)) (RW TL (I6.ly) λu2 hu2=> ?_))
 push_cast[]
 refine⟨by decide,λe6 he6=>⟨by decide,λt6 ht6=>⟨by decide,λl6 hl6=> ?_⟩⟩⟩
 have sa:=AL (o:=.tup [.int (X.n+(rec:Int) / X.w),.int ((rec:Int) % X.w)]) hu2
 have sb:=AL (o:=.tup []) he6
 have sc:=AL (o:=.tup [.int 1,.ref e6]) ht6
 have sd:=AL (o:=.lst [.int cs.length]) hl6
 have s67:=((sa.trans sb).trans sc).trans sd
 have f1:=sd _ _ (sc _ _ (sb _ _ (show upd H6 u2 (.tup [.int (X.n+(rec:Int) / X.w),.int ((rec:Int) % X.w)]) u2=some (.tup [.int (BQ X.n X.r X.c X.w 3 rec:Nat),.int (rec % X.w:Nat)]) by rw[AG];simp[BQ])))
 have f2:=sd _ _ (sc _ _ (AG (H:=upd H6 u2 (.tup [.int (X.n+(rec:Int) / X.w),.int ((rec:Int) % X.w)])) (a:=e6) (o:=.tup [])))
 have f3:=sd _ _ (AG (H:=upd (upd H6 u2 (.tup [.int (X.n+(rec:Int) / X.w),.int ((rec:Int) % X.w)])) e6 (.tup [])) (a:=t6) (o:=.tup [.int 1,.ref e6]))
 have f4:=AG (H:=upd (upd (upd H6 u2 (.tup [.int (X.n+(rec:Int) / X.w),.int ((rec:Int) % X.w)])) e6 (.tup [])) t6 (.tup [.int 1,.ref e6])) (a:=l6) (o:=.lst [.int cs.length])
 revert s67 f1 f2 f3 f4
 generalize upd (upd (upd (upd H6 u2 (.tup [.int (X.n+(rec:Int) / X.w),.int ((rec:Int) % X.w)])) e6 (.tup [])) t6 (.tup [.int 1,.ref e6])) l6 (.lst [.int cs.length])=H7
 clear sa sb sc sd
 intro s67 f1 f2 f3 f4
 refine MP (ns:=[(cs.length:Int)]) T4' (I6.same s67) (kind:=3) (x:=.rc 1 []) (by decide) (by rw[hm3];exact R8) f1 f4 (by simp) (by simp;omega) (λx hx=>by rw[List.mem_singleton.mp hx];exact⟨by omega,by simp;omega⟩) (qA (ps:=[]) f3 f2 (by simp)) ⟨t6,e6,rfl,f3,f2⟩ trivial λc2 H8 I8 sb8=> ?_
 obtain⟨dx8,ho8⟩:=I8.ob
 push_cast[↓Wd]
 have B0:(cs++[c1]).length=cs.length+1:=by simp
 rw[B0]
 refine⟨_,_,ho8,CT (by decide +kernel),X,_,tks,_,cell,rec,cs.length+1,z,rfl,T4',I8,BX,by simp,by simp;omega,p0 hb,λc3 H9 I9 sb9=>⟨by decide,λl hl=> ?_⟩⟩
 have sl:=AL (o:=.lst [V.int cs.length,V.int (cs.length+1:Nat),V.int ((cs++[c1]++[c2]).length:Nat)]) hl
 have sbH:SameBut (λx=>X.S.A.F x\/x=X.S.tk) H H9:=λy o e n=>sb9 _ _ (sb8 _ _ (s67 _ _ (sb6 _ _ (s5 _ _ (s14 _ _ e)) λz=>n (.inl z))) λz=>n (.inl z)) λz=>n (.inl z)
 exact q hb hc rec cell er ec R8 BX [c1,c2,c3] l _ rfl (qC I9 sbH hl) (by rw[AG];simp[BM,List.range_succ]) (by have:=I9.same sl;simpa using this) λy o e n=>sl _ _ (sbH _ _ e n)
theorem cat_tup{b d:Addr}{xs ys:List V}(h1:H b=some (.tup xs))(h2:H d=some (.tup ys))(hy:ys≠[])(hl:xs.length+ys.length<=1000)(q:∀ p H',Same H H'->H' p=some (.tup (xs++ys))->Q (.ref p) H'):AX K (.ref b) (.ref d) H Q:=by
 rw[dN]
 by_cases hx:xs=[]
 ·subst hx
  exact .inr (.inr ⟨b,d,ys,rfl,rfl,SqT.of h1,SqT.of h2,q d H (Same.refl _) h2⟩)
 ·exact .inr (.inl ⟨b,d,xs,ys,rfl,rfl,SqT.of h1,SqT.of h2,hx,BV _ (by omega),λe=>absurd e hy,λ_ p hp=>q p _ (AL hp) AG⟩)
theorem zcw(h:OF K a vs H Q E):XJ K a (λ_=>E) (BD Q) (A0 ["self","name","text","record","piece","mark","filled"] vs) H:=by
 obtain⟨X,cs,tks,M,z,t,rfl,T4,I,htl,hts,hcs,q,q1,q2,q3⟩:=h
 have T4':=T4
 obtain⟨dx,ho⟩:=I.ob
 have hm2:BI X.n X.r X.c X.w 2=X.c * X.w:=by simp[BI]
 have hm4:BI X.n X.r X.c X.w 4=X.c * X.w:=by simp[BI]
 push_cast[XJ,↓Wx]
 refine⟨_,_,ho,CT (by decide +kernel),X,cs,tks,M,z,rfl,T4,I,λcell rec ec BX eM H1 s1=> ?_,λeo H3 s3=>q1 eo _ s3⟩
 obtain⟨T,TP,TL,TS⟩:=T4
 push_cast[↓Wz]
 refine⟨t,rfl,htl,λH2 s2=> ?_⟩
 have DU:=s1.trans s2
 cases hb:JO t with
 | false =>
  push_cast[↓Wy]
  exact⟨by decide,q2 ⟨cell,ec⟩ hb _ DU⟩
 | true =>
  push_cast[↓Xb]
  refine⟨_,_,_,DU _ _ ho,TS.cl,TS.n1,_,KN,_,_,_,DU _ _ ho,TS.cl,TS.n2,_,KO,X.S.lp,X.S.A.b,rfl,YA T4' (I.same DU) (by decide) (λp ep C0 H4 s4=> ?_) λer H3 s3=>q3 ⟨cell,ec⟩ hb (by rw[<-hm2];exact er) _ (DU.trans s3)⟩
  rw[hm2]at ep C0
  obtain⟨hr,m,ps,eR,hps,q⟩:=q cell rec ec BX eM hb p ep C0
  have s14:=DU.trans s4
  have I4:=I.same s14
  clear s1 s2 DU s4
  obtain⟨dx4,ho4⟩:=I4.ob
  obtain⟨dl4,el4⟩:=I4.ly.ob
  obtain⟨db4,eb4⟩:=I4.bk.bk.ob
  push_cast[↓Xc]
  refine KP TS (ho4) (eb4) (D1 (by decide +kernel)) (HR TS (ho4) (el4) (C5 (by decide +kernel)) (lPM TL (I4.ly) λu hu=>⟨by decide,λl0 hl0=> ?_⟩))
  have sa:=AL (o:=.tup [.int (X.n+X.r+X.c+X.r+(p:Int) / X.w),.int ((p:Int) % X.w)]) hu
  have sb:=AL (o:=.lst []) hl0
  have eu:=sb _ _ (show upd H4 u (.tup [.int (X.n+X.r+X.c+X.r+(p:Int) / X.w),.int ((p:Int) % X.w)]) u=some (.tup [.int (BQ X.n X.r X.c X.w 2 p:Nat),.int (p % X.w:Nat)]) by rw[AG];simp[BQ])
  have el0:upd (upd H4 u (.tup [.int (X.n+X.r+X.c+X.r+(p:Int) / X.w),.int ((p:Int) % X.w)])) l0 (.lst []) l0=some (.lst (([]:List Int).map V.int)):=AG
  have s5:=sa.trans sb
  revert eu el0 s5
  clear sa sb
  generalize upd (upd H4 u (.tup [.int (X.n+X.r+X.c+X.r+(p:Int) / X.w),.int ((p:Int) % X.w)])) l0 (.lst [])=H5
  intro eu el0 s5
  refine MP T4' (I4.same s5) (kind:=2) (x:=.mk 1) (by decide) (by rw[hm2];exact C0) eu el0 (by simp) (by omega) (λx hx=>by cases hx) trivial rfl (Nat.le_refl _) λc1 H6 I6 sb6=> ?_
  obtain⟨dx6,ho6⟩:=I6.ob
  obtain⟨dl6,el6⟩:=I6.ly.ob
  obtain⟨db6,eb6⟩:=I6.bk.bk.ob
  push_cast[↓Xd]
  refine KP TS (ho6) (eb6) (D1 (by decide +kernel)) (HR TS (ho6) (el6) (C5 (by decide +kernel)) (p7 TL (I6.ly) λu2 hu2=>⟨by decide,λl6 hl6=> ?_⟩))
  have sa:=AL (o:=.tup [.int (X.n+X.r+(p:Int) / X.w),.int ((p:Int) % X.w)]) hu2
  have sb:=AL (o:=.lst [.int cs.length]) hl6
  have f1:=sb _ _ (show upd H6 u2 (.tup [.int (X.n+X.r+(p:Int) / X.w),.int ((p:Int) % X.w)]) u2=some (.tup [.int (BQ X.n X.r X.c X.w 4 p:Nat),.int (p % X.w:Nat)]) by rw[AG];simp[BQ])
  have f4:=AG (H:=upd H6 u2 (.tup [.int (X.n+X.r+(p:Int) / X.w),.int ((p:Int) % X.w)])) (a:=l6) (o:=.lst [.int cs.length])
  have s67:=sa.trans sb
  revert s67 f1 f4
  generalize upd (upd H6 u2 (.tup [.int (X.n+X.r+(p:Int) / X.w),.int ((p:Int) % X.w)])) l6 (.lst [.int cs.length])=H7
  clear sa sb
  intro f1 f4 s67
  refine MP (ns:=[(cs.length:Int)]) T4' (I6.same s67) (kind:=4) (x:=.tx t) (by decide) (by rw[hm4];exact C0) f1 f4 (by simp) (by simp;omega) (λx hx=>by rw[List.mem_singleton.mp hx];exact⟨by omega,by simp;omega⟩) hts rfl trivial λc2 H8 I8 sb8=> ?_
  obtain⟨dx8,ho8⟩:=I8.ob
  have eR':((M.put 2 p (.mk 1) (OD [])).put 4 p (.tx t) (OD [(cs.length:Int)])) 3 rec=.rc m ps:=by rw[Hs.put_at,if_neg (by omega),Hs.put_at,if_neg (by omega)];exact eR
  push_cast[↓Xg]
  refine⟨_,_,ho8,CT (by decide +kernel),_,_,ho8,CT (by decide +kernel),X,_,tks,_,rec,rfl,T4',I8,hr,λv H9 rv s9=> ?_⟩
  rw[eR']at rv
  obtain⟨t0,u0,rfl,O2,O3⟩:=rv
  have B0:(cs++[c1]).length=cs.length+1:=by simp
  refine D8 O2 (n:=1) rfl rfl ⟨by decide,λt9 ht9=> ?_⟩
  have sa:=AL (o:=.tup [V.int p]) ht9
  refine cat_tup (sa _ _ O3) AG (by simp) (by simp[BM];omega) λpp H10 s10 epp=>⟨by decide,λl10 hl10=> ?_⟩
  have s11:=(s9.trans sa).trans s10
  have sc:=AL (o:=.lst [V.int ((cs++[c1]).length:Nat)]) hl10
  have DU:=s11.trans sc
  refine⟨X,_,tks,_,rec,m,ps,ps++[p],pp,l10,[((cs++[c1]).length:Int)],rfl,T4',I8.same DU,hr,eR',sc _ _ (by rw[epp];simp[BM]),by simp;omega,AG,by simp,(λx hx=>by rw[List.mem_singleton.mp hx];exact⟨by omega,by simp⟩),by simp;omega,λc3 H13 I13 sb13=>⟨by decide,λl hl=> ?_⟩⟩
  have sl:=AL (o:=.lst [V.int cs.length,V.int ((cs++[c1]).length:Nat),V.int ((cs++[c1]++[c2]).length:Nat)]) hl
  have sbH:SameBut (λx=>X.S.A.F x\/x=X.S.tk) H H13:=λy o e n=>sb13 _ _ (DU _ _ (sb8 _ _ (s67 _ _ (sb6 _ _ (s5 _ _ (s14 _ _ e)) λz=>n (.inl z))) λz=>n (.inl z))) λz=>n (.inl z)
  exact q [c1,c2,c3] l _ rfl (qC I13 sbH hl) (by rw[AG];simp[BM,List.range_succ]) (by have:=I13.same sl;simpa using this) λy o e n=>sl _ _ (sbH _ _ e n)
theorem zcx(h:OG K a vs H Q E):XM K a (λ_=>E) (BD Q) (A0 ["self","name","pieces"] vs) H:=by
 obtain⟨X,cs,tks,M,z,rfl,T4,I,q,q1⟩:=h
 have T4':=T4
 obtain⟨T,TP,TL,TS⟩:=T4
 obtain⟨dx,ho⟩:=I.ob
 obtain⟨dl,el⟩:=I.ly.ob
 obtain⟨db,eb⟩:=I.bk.bk.ob
 push_cast[XM,↓Xp]
 refine⟨_,_,ho,CT (by decide +kernel),_,_,ho,CT (by decide +kernel),X,cs,tks,M,z,rfl,T4',I,λcell rec ec BX eM H1 s1=> ?_,λeo H3 s3=>q1 eo _ s3⟩
 obtain⟨hr,m,ps,eR,hps,ts,pt,q⟩:=q cell rec ec BX eM
 refine⟨X,cs,tks,M,rec,rfl,T4',I.same s1,hr,λv H2 rv s2=> ?_⟩
 rw[eR]at rv
 obtain⟨t0,u0,rfl,O2,O3⟩:=rv
 refine D8 O2 (n:=1) rfl rfl ?_
 have DU:=s1.trans s2
 push_cast[↓Xq]
 refine .inr ⟨⟨_,SqT.of O3⟩,qB (xs:=BM ps) (BV _ (by simp[BM];omega)) (λi ys H'=>Same H2 H'/\ys=(ts.take i).map V.str) ⟨Same.refl _,rfl⟩ (λi ys H' _ ⟨s',_⟩=>SqT.of (s' _ _ O3)) (λi x ys H' hx hyl ⟨s',ey⟩=> ?_) (λys H' hyl ⟨s',ey⟩ lc hlc=> ?_)⟩
 ·unfold BM at hx
  rw[List.getElem?_map,Option.map_eq_some_iff]at hx
  obtain⟨p,ep,rfl⟩:=hx
  have hti:i<ts.length:=by have:=(List.getElem?_eq_some_iff.mp ep).1;have:=pt.length;omega
  have eti:=List.getElem?_eq_getElem hti
  obtain⟨p',ep',O1,eP⟩:=NR pt eti
  rw[ep]at ep'
  cases ep'
  have hm:p<BI X.n X.r X.c X.w 4:=by simpa [BI]using O1
  have sH:=DU.trans s'
  have I':=I.same sH
  push_cast[C7]
  refine⟨_,_,_,sH _ _ ho,TS.cl,TS.n2,_,KO,X.S.A.b,rfl,_,_,sH _ _ eb,D1 (by decide +kernel),_,_,_,sH _ _ ho,TS.cl,TS.n1,_,KN,X.S.lp,rfl,_,_,sH _ _ el,C5 (by decide +kernel),X.S.lp,X.n,X.r,X.c,X.w,p,rfl,TL,I'.ly,λu' hu'=> ?_⟩
  have su:=AL (o:=.tup [.int (X.n+X.r+(p:Int) / X.w),.int ((p:Int) % X.w)]) hu'
  refine⟨X.S.A,X.w,X.rows,X.nn,cs,X.outs,u',(BQ X.n X.r X.c X.w 4 p:Nat),(p % X.w:Nat),rfl,T,TP,I'.bk.same su,by rw[AG];simp[BQ],λ_ v H3 ev s3=> ?_,λz=>absurd (I.onPl (kind:=4) (by decide) hm) z⟩
  have rv:=I.rp 4 p v (by decide) hm ev
  rw[eP]at rv
  rw[show v=.str ts[i]from rv]
  refine⟨(s'.trans su).trans s3,?_⟩
  rw[List.take_add_one,eti,ey,List.map_append]
  rfl
 ·have hl:(BM ps).length=ts.length:=by rw[<-pt.length];simp[BM]
  rw[hl,List.take_length]at ey
  subst ey
  have sl:=AL (o:=.lst (ts.map V.str)) hlc
  exact q lc _ (DU.free (s'.free hlc)) ((DU.trans s').trans sl) AG
theorem qD{α β :Type}{F: α -> β ->Prop}{x: α}:∀ {l:List α} {m:List β} {i:Nat},Paired F l m->l[i]? =some x->∃ y,m[i]? =some y/\F x y
 | _,_,0,.cons h _,e=>⟨_,rfl,by cases e;exact h⟩
 | _,_,i+1,.cons _ t,e=>qD (i:=i) t e
theorem zcy(h:KH K a vs H Q E):XH K a (λ_=>E) (BD Q) (A0 ["self","old","new","record","cell","more"] vs) H:=by
 obtain⟨X,cs,tks,M,y,z,rfl,T4,I,hy,hz,h⟩:=h
 have T4':=T4
 obtain⟨T,TP,TL,TS⟩:=T4
 obtain⟨dx,ho⟩:=I.ob
 push_cast[XH,↓Wg]
 refine⟨_,_,ho,CT (by decide +kernel),by decide,λgl hgl=>⟨X,cs,tks,M,z,gl,[y,z],rfl,T4',I.same (AL hgl),AG,by simp,λu hu=> ?_,λe1 e2=> ?_,λe=> ?_,λe1 e2=> ?_⟩⟩
 ·simp only[List.mem_cons,List.not_mem_nil,or_false]at hu
  rcases hu with rfl | rfl<;>assumption
 ·exfalso
  have e:(BZ y && BZ z)=true:=by simpa using e1
  rcases h with⟨e',_⟩ | ⟨_,⟨k,hk⟩,_⟩
  ·rw[e]at e';cases e'
  ·rw[hk]at e2;cases e2
 ·have e:(BZ y && BZ z)=false:=by simpa using e
  rcases h with⟨_,q⟩ | ⟨e',_⟩
  ·exact λH' s=>q H' ((AL hgl).trans s)
  ·rw[e]at e';cases e'
 ·have e:(BZ y && BZ z)=true:=by simpa using e1
  rcases h with⟨e',_⟩ | ⟨_,_,q⟩
  ·rw[e]at e';cases e'
  ·exact λH' s=>q H' ((AL hgl).trans s)
theorem zcz(h:OH K a vs H Q E):XO K a (λ_=>E) (BD Q) (A0 ["self","old","new","linked","record","gone"] vs) H:=by
 obtain⟨X,cs,tks,M,y,z,rfl,T4,I,hy,hz,h⟩:=h
 obtain⟨dx,ho⟩:=I.ob
 push_cast[XO,↓Xy]
 exact⟨_,_,ho,CT (by decide +kernel),X,cs,tks,M,y,z,rfl,T4,I,hy,hz,h⟩
theorem zc0(h:OI K a vs H Q E):XI K a (λ_=>E) (BD Q) (A0 ["self","name","record","gone"] vs) H:=by
 obtain⟨X,cs,tks,M,z,rfl,T4,I,hc,q⟩:=h
 obtain⟨dx,ho⟩:=I.ob
 push_cast[XI,↓Wm]
 exact⟨_,_,ho,CT (by decide +kernel),X,cs,tks,M,z,rfl,T4,I,λcell k e=>(by rw[hc]at e;cases e),λ_=>q⟩
theorem zc1(h:OJ K a vs H Q E):XL K a (λ_=>E) (BD Q) (A0 ["self","name","at","record","pieces","without"] vs) H:=by
 obtain⟨X,cs,tks,M,z,x,rfl,T4,I,h⟩:=h
 obtain⟨dx,ho⟩:=I.ob
 push_cast[XL,↓Xh]
 refine⟨_,_,ho,CT (by decide +kernel),X,cs,tks,M,z,rfl,T4,I,λcell k e BX hm H1 s1=> ?_,λe=> ?_⟩
 ·rcases h with⟨e',_⟩ | ⟨cell',rec,m,ps,e1,e2,e3,e4,e5,e6,e7,q⟩
  ·rw[e]at e';cases e'
  ·rw[e]at e1
   cases e1
   have er:k=rec:=by
    rw[e3]at hm
    injection hm with _ h;exact h.symm
   subst er
   push_cast[↓Xj]
   refine⟨_,_,s1 _ _ ho,CT (by decide +kernel),X,cs,tks,M,k,rfl,T4,I.same s1,e4,λv H2 rv s2=> ?_⟩
   rw[e5]at rv
   obtain⟨t,u,rfl,et,eu⟩:=rv
   refine D8 et (n:=1) rfl rfl ?_
   push_cast[↓Xk]
   by_cases h0:0<=x
   ·rw[if_pos h0]
    refine⟨ps.length,.inr ⟨_,SqT.of eu,by simp[BM]⟩,?_⟩
    rw[if_pos (by omega)]
    push_cast[↓nS]
    exact⟨by decide,q _ (s1.trans s2)⟩
   ·rw[if_neg h0]
    push_cast[↓nS]
    exact⟨by decide,q _ (s1.trans s2)⟩
 ·rcases h with⟨_,q⟩ | ⟨cell',rec,m,ps,e1,_⟩
  ·exact q
  ·rw[e]at e1;cases e1
theorem zc2(h:RJ K a vs H Q E):XN K a (λ_=>E) (BD Q) (A0 ["self","name","record","own"] vs) H:=by
 obtain⟨X,cs,tks,M,z,rfl,T4,I,q,qE⟩:=h
 obtain⟨dx,ho⟩:=I.ob
 have T4':=T4
 obtain⟨T,TP,TL,TS⟩:=T4
 push_cast[XN,↓Xv]
 refine⟨_,_,ho,CT (by decide +kernel),X,cs,tks,M,z,rfl,T4',I,λcell rec e BX hm H1 s1=> ?_,qE⟩
 obtain⟨hr,m,ps,e3,hps,O1,q⟩:=q cell rec e BX hm
 push_cast[↓Xw]
 have I1:=I.same s1
 obtain⟨d1,ho1⟩:=I1.ob
 obtain⟨dl1,el1⟩:=I1.ly.ob
 refine HR TS ho1 el1 (C5 (by decide +kernel)) ⟨_,_,ho1,CT (by decide +kernel),X,cs,tks,M,z,rfl,T4',I1,λH2 s2=> ?_⟩
 rw[e]
 have I2:=I1.same s2
 refine p6 (k:=cell) TL I2.ly λt1 ht1=> ?_
 have I3:=I2.same (AL (o:=.tup [.int (0+(cell:Int) / X.w),.int ((cell:Int) % X.w)]) ht1)
 obtain⟨d3,ho3⟩:=I3.ob
 obtain⟨dl3,el3⟩:=I3.ly.ob
 refine HR TS ho3 el3 (C5 (by decide +kernel)) (RW (k:=rec) TL I3.ly λt2 ht2=>⟨by decide,λl1 MU=> ?_⟩)
 have b1:∀ k:Nat,[V.int (0+(k:Int) / X.w),V.int ((k:Int) % X.w)]=OK X (0,k):=λk=>by
  show [V.int (0+(k:Int) / X.w),V.int ((k:Int) % X.w)]=[V.int ((0+k / X.w:Nat):Int),V.int ((k % X.w:Nat):Int)]
  rfl
 have b3:∀ k:Nat,[V.int ((X.n:Int)+(k:Int) / X.w),V.int ((k:Int) % X.w)]=OK X (3,k):=λk=>rfl
 have b4:∀ k:Nat,[V.int ((X.n:Int)+X.r+(k:Int) / X.w),V.int ((k:Int) % X.w)]=OK X (4,k):=λk=>rfl
 have st1:=AL (o:=.tup [.int (0+(cell:Int) / X.w),.int ((cell:Int) % X.w)]) ht1
 have st2:=AL (o:=.tup [.int ((X.n:Int)+(rec:Int) / X.w),.int ((rec:Int) % X.w)]) ht2
 have st3:=AL (o:=.lst [.ref t1,.ref t2]) MU
 have et1:=st3 _ _ (st2 _ _ (AG (H:=H2) (a:=t1) (o:=.tup [.int (0+(cell:Int) / X.w),.int ((cell:Int) % X.w)])))
 have et2:=st3 _ _ (AG (a:=t2) (o:=.tup [.int ((X.n:Int)+(rec:Int) / X.w),.int ((rec:Int) % X.w)]))
 have s4:=s1.trans (s2.trans (st1.trans (st2.trans st3)))
 have el1':upd (upd (upd H2 t1 (.tup [.int (0+(cell:Int) / X.w),.int ((cell:Int) % X.w)])) t2 (.tup [.int ((X.n:Int)+(rec:Int) / X.w),.int ((rec:Int) % X.w)])) l1 (.lst [.ref t1,.ref t2]) l1=some (.lst [.ref t1,.ref t2]):=AG
 clear st1 st2 st3
 push_cast[↓Xx]
 revert et1 et2 s4 el1'
 generalize upd (upd (upd H2 t1 (.tup [.int (0+(cell:Int) / X.w),.int ((cell:Int) % X.w)])) t2 (.tup [.int ((X.n:Int)+(rec:Int) / X.w),.int ((rec:Int) % X.w)])) l1 (.lst [.ref t1,.ref t2])=H4
 intro et1 et2 s4 el1'
 have I4:=I.same s4
 obtain⟨d4,ho4⟩:=I4.ob
 refine⟨_,_,ho4,CT (by decide +kernel),X,cs,tks,M,rec,rfl,T4',I4,hr,λv H5 rv s5=> ?_⟩
 rw[e3]at rv
 obtain⟨t,u,rfl,et,eu⟩:=rv
 refine D8 et (n:=1) rfl rfl ⟨u,rfl,.inr ⟨⟨_,SqT.of eu⟩,qB (xs:=BM ps) (BV _ (by simp[BM];omega)) (λi ys H'=>Same H5 H'/\∃ ts:List Addr,ys=ts.map V.ref/\Paired (λt p=>H' t=some (.tup (OK X p))) ts ((ps.take i).map λp=>(4,p))) ⟨Same.refl _,[],rfl,.nil⟩ (λi ys H' _ ⟨s',_⟩=>SqT.of (s' _ _ eu)) (λi x ys H' hx hyl hzz=> ?_) (λys H' hyl ⟨s',ts,ey,P⟩ lc hlc=> ?_)⟩⟩
 ·obtain⟨s',ts,ey,P⟩:=hzz
  unfold BM at hx
  rw[List.getElem?_map,Option.map_eq_some_iff]at hx
  obtain⟨p,hp,rfl⟩:=hx
  have I6:=(I4.same s5).same s'
  obtain⟨d6,ho6⟩:=I6.ob
  obtain⟨dl6,el6⟩:=I6.ly.ob
  push_cast[C7]
  refine HR TS ho6 el6 (C5 (by decide +kernel)) (p7 (k:=p) TL I6.ly λt ht=>⟨s'.trans (AL ht),ts++[t],by rw[ey,List.map_append];rfl,?_⟩)
  rw[List.take_add_one,hp,List.map_append]
  exact Paired.snoc (Paired.mapP P λt p h=>AL ht _ _ h) AG
 ·rw[ey]
  have s6:=AL (o:=.lst (ts.map V.ref)) hlc
  have hts:ts.length<=100:=by
   have:=P.length
   rw[List.length_map,List.length_take]at this
   omega
  push_cast[]
  refine .inl ⟨l1,lc,_,_,rfl,rfl,s6 _ _ (s' _ _ (s5 _ _ el1')),AG,by rw[List.length_map,sizeLine_eq];simp;omega,λl hl=> ?_⟩
  have s7:=s6.trans (AL (o:=.lst ([V.ref t1,V.ref t2]++ts.map V.ref)) hl)
  have s57:=s5.trans (s'.trans s7)
  refine q l (t1::t2::ts) _ (s4.trans s57) AG (.cons ?_ (.cons ?_ ?_))
  ·rw[<-b1];exact s57 _ _ et1
  ·rw[<-b3];exact s57 _ _ et2
  ·have P':=Paired.mapP P λt p h=>s7 _ _ h
   rw[List.take_of_length_le (by simp[BM])]at P'
   exact P'
theorem zc3(h:KJ K a vs H Q E):XQ K a (λ_=>E) (BD Q) (A0 ["store","name","hold","newest"] vs) H:=by
 obtain⟨X,cs,tks,M,z,rfl,T4,I,q,qE⟩:=h
 obtain⟨dx,ho⟩:=I.ob
 have T4':=T4
 obtain⟨T,TP,TL,TS⟩:=T4
 push_cast[XQ,↓Yd]
 refine⟨_,_,ho,CT (by decide +kernel),_,_,_,_,_,rfl,TS,ho,?_⟩
 push_cast[↓Yg]
 refine⟨_,_,ho,CT (by decide +kernel),X,cs,tks,M,z,rfl,T4',I,λcell rec e BX hm=> ?_,qE⟩
 obtain⟨hr,m,ps,e3,hps,O1,q⟩:=q cell rec e BX hm
 refine⟨hr,m,ps,e3,hps,O1,λl ts H1 s1 el P=>⟨l,rfl,.inl ⟨⟨_,SqL.of el⟩,?_⟩⟩⟩
 have hts:ts.length<=102:=by
  have:=P.length
  unfold GR at this
  simp at this
  omega
 have I1:=I.same s1
 have on:∀ p∈GR cell rec ps,p.1<5/\p.2<BI X.n X.r X.c X.w p.1:=λp hp=>by
  unfold GR at hp
  rcases List.mem_cons.mp hp with rfl | hp
  ·exact⟨by show 0<5;decide,BX⟩
  ·rcases List.mem_cons.mp hp with rfl | hp
   ·exact⟨by show 3<5;decide,hr⟩
   ·obtain⟨k,hk,rfl⟩:=List.mem_map.mp hp
    exact⟨by show 4<5;decide,O1 k hk⟩
 refine TZ (xs:=ts.map V.ref) (BV _ (by rw[List.length_map];omega)) (λi ys H'=>Same H1 H'/\ys=((GR cell rec ps).take i).map λp=>FT (D0 cs (BQ X.n X.r X.c X.w p.1 p.2:Nat) (p.2 % X.w:Nat))) ⟨Same.refl _,rfl⟩ (λi ys H' _ ⟨s',_⟩=>SqL.of (s' _ _ el)) (λi x ys H' hx hyl ⟨s',ey⟩=> ?_) (λys H' hyl ⟨s',ey⟩ lc hlc=> ?_)
 ·rw[List.getElem?_map,Option.map_eq_some_iff]at hx
  obtain⟨t,ht,rfl⟩:=hx
  have I2:=I1.same s'
  obtain⟨db,eb⟩:=I2.bk.bk.ob
  obtain⟨p,hp,e1⟩:=qD P ht
  obtain⟨o1,o2⟩:=on p (List.mem_of_getElem? hp)
  push_cast[C7]
  refine⟨_,_,eb,D1 (by decide +kernel),X.S.A,X.w,X.rows,X.nn,cs,X.outs,t,_,_,rfl,T,TP,I2.bk,s' _ _ e1,λ_=>⟨s',?_⟩,λz=>absurd (I2.onPl o1 o2) z⟩
  rw[List.take_add_one,hp,List.map_append,ey]
  rfl
 ·push_cast[↓Yh]
  have s6:=AL (o:=.lst ys) hlc
  have e6:upd H' lc (.lst ys) lc=some (.lst ys):=AG
  refine .inl ⟨⟨_,SqL.of e6⟩,UC (λv=>match v with | .non=>false | _=>true) (BV _ (by rw[ey,List.length_map,List.length_take];have:=P.length;unfold GR at *;simp at *;omega)) (SqL.of e6) (λv hv QB qb=> ?_) λl2 GW=> ?_⟩
  ·rw[ey]at hv
   obtain⟨p,_,rfl⟩:=List.mem_map.mp hv
   revert qb
   cases D0 cs (BQ X.n X.r X.c X.w p.1 p.2:Nat) (p.2 % X.w:Nat)with
   | none=>intro qb;push_cast[C7,FT];exact qb
   | some k=>intro qb;push_cast[C7,FT];exact qb
  ·have ef:ys.filter (λv=>match v with | .non=>false | _=>true)=(KI X cs (GR cell rec ps)).map V.int:=by
    rw[ey,List.take_of_length_le (by have:=P.length;rw[List.length_map];omega)]
    unfold KI
    generalize GR cell rec ps=L
    induction L with
    | nil=>rfl
    | cons p L ih =>
     rw[List.map_cons,List.filter_cons,List.filterMap_cons]
     cases D0 cs (BQ X.n X.r X.c X.w p.1 p.2:Nat) (p.2 % X.w:Nat)with
     | none=>exact ih
     | some k=>exact congrArg (V.int k::·) ih
   rw[ef]
   have s7:=s6.trans (AL (o:=.lst ((KI X cs (GR cell rec ps)).map V.int)) GW)
   have I7:=I1.same (s'.trans s7)
   have ln:(KI X cs (GR cell rec ps)).length<=200:=by
    unfold KI
    refine Nat.le_trans (List.length_filterMap_le _ _) ?_
    have:=P.length
    omega
   refine⟨X.S.A,X.w,X.rows,X.nn,cs,X.outs,l2,_,rfl,T,I7.bk,SqL.of AG,by omega,λ_ l' row R H8 c1 c2 c3 _ s8 e8=>q l' row R H8 c1 c2 c3 (s1.trans ((s'.trans s7).trans s8)) e8,λhzz=> ?_⟩
   obtain⟨x,hx,nx⟩:=hzz
   exfalso
   obtain⟨p,_,ex⟩:=List.mem_filterMap.mp hx
   obtain⟨k,ek,rfl⟩:=Option.map_eq_some_iff.mp ex
   exact nx ⟨by omega,by have:=N3 ek;omega⟩
theorem zc4{c:Nat}:[c]<(Str.ofString "0").cps.toList↔c<48:=by
 rw[show(Str.ofString "0").cps.toList=[48] by decide +kernel,List.cons_lt_cons_iff]
 simp
theorem zc5{c:Nat}:(Str.ofString "9").cps.toList<[c]↔57<c:=by
 rw[show(Str.ofString "9").cps.toList=[57] by decide +kernel,List.cons_lt_cons_iff]
 simp
theorem zc6(h:RK K a vs H Q E):VO K a (λ_=>E) (BD Q) (A0 ["word"] vs) H:=by
  obtain⟨z,rfl,hz,q⟩:=h
  push_cast[VO,↓Mq,↓Mv,↓Mw]
  have ez:z.cps.toList.length=z.length:=by simp[Str.length]
  unfold GS at q
  rw[ez]at q
  refine⟨z.length,⟨BV _ (by omega),rfl⟩,?_⟩
  split
  · rename_i h1
    rw[show decide (1<=z.length)=true from decide_eq_true (by omega),Bool.true_and]at q
    by_cases h2:z.length<=3
    · rw[show decide (z.length<=3)=true from decide_eq_true h2,Bool.true_and]at q
      rw[if_neg (by omega)]
      refine X8 hz (f:=λc=>decide (48<=c) && decide (c<=57)) (λc Q' q'=> ?_) λH' s=>⟨_,rfl,?_⟩
      · push_cast[zc4,zc5]
        split
        · rename_i h3
          rw[show decide (48<=c)=true from decide_eq_true (by omega),Bool.true_and]at q'
          rw[show(!decide (57<c))=decide (c<=57) by rw[<-decide_not];exact decide_eq_decide.mpr (by omega)]
          exact q'
        · rename_i h3
          rw[show decide (48<=c)=false from decide_eq_false (by omega),Bool.false_and]at q'
          exact q'
      · have q':=q H' s
        revert q'
        cases z.cps.toList.all λc=>decide (48<=c) && decide (c<=57)with
        | false=>intro q';rw[if_pos rfl];exact q'
        | true =>
          intro q'
          rw[if_neg (by simp)]
          rw[Bool.true_and]at q'
          have e0:(Str.ofString "0").cps.toList=[48]:=by decide +kernel
          by_cases h4:z=Str.ofString "0"
          · rw[if_pos h4]
            rw[h4,e0]at q'
            exact q'
          · rw[if_neg h4]
            have h5:¬ z.cps.toList=[48]:=λe=>h4 (by rw[<-F5 z,e,<-e0,F5])
            rw[decide_eq_false h5,Bool.false_or]at q'
            cases hl:z.cps.toList with
            | nil=>rw[hl]at ez;simp at ez;omega
            | cons c r =>
              refine pY (n:=0) rfl (by omega) (by rw[hl];rfl) ?_
              rw[hl]at q'
              push_cast[]
              have e1:(!decide ((⟨#[c]⟩:Str)=Str.ofString "0"))=decide ((c::r).head? ≠some 48):=by
                rw[<-decide_not]
                refine decide_eq_decide.mpr (not_congr ⟨λe=> ?_,λe=> ?_⟩)
                · have:=congrArg (λs:Str=>s.cps.toList) e
                  rw[e0]at this
                  simpa using this
                · simp at e
                  rw[e];decide +kernel
              rw[e1]
              exact q'
    · rw[show decide (z.length<=3)=false from decide_eq_false h2]at q
      rw[if_pos (by omega)]
      exact q H (Same.refl _)
  · rename_i h1
    rw[show decide (1<=z.length)=false from decide_eq_false (by omega)]at q
    exact q H (Same.refl _)
theorem zc7(h:MB K a vs H Q E):VP K a (λ_=>E) (BD Q) (A0 ["parts"] vs) H:=by
 obtain⟨l,ks,rfl,e,hl,q⟩:=h
 push_cast[VP,↓Mx]
 unfold IK at q
 refine⟨ks.length,.inl ⟨_,SqL.of e,by rw[List.length_map]⟩,?_⟩
 cases ks with
 | nil=>exact q
 | cons k r =>
  rw[if_pos (by simp)]
  rw[if_neg (by simp)]at q
  exact⟨rfl,_,l,_,rfl,rfl,SqL.of e,by decide +kernel,by omega,q⟩
theorem zc8(h:RL K a vs H Q E):WL K a (λ_=>E) (BD Q) (A0 ["row","kind","words"] vs) H:=by
  obtain⟨z,rfl,T,hz,q1,q2⟩:=h
  push_cast[WL,↓Qy]
  refine⟨rfl,z,_,rfl,rfl,by decide +kernel,by omega,λt ht=>D8 AG (n:=0) rfl rfl ?_⟩
  have s1:=AL (o:=.tup [.str (Txt.partition z (Str.ofString " ")).1,.str (Txt.partition z (Str.ofString " ")).2.1,.str (Txt.partition z (Str.ofString " ")).2.2]) ht
  revert s1
  generalize upd H t (.tup [.str (Txt.partition z (Str.ofString " ")).1,.str (Txt.partition z (Str.ofString " ")).2.1,.str (Txt.partition z (Str.ofString " ")).2.2])=H1
  intro s1
  rw[show(Txt.partition z (Str.ofString " ")).1=BL ((CG z.cps.toList).headD [])from Lv z (by omega)]
  unfold CC FG at q1 q2
  have hs:Txt.split z (Str.ofString " ")=(CG z.cps.toList).map BL:=U4 z
  have hm:Txt.splitMax z (Str.ofString " ") 2=(N5 (CG z.cps.toList)).map BL:=Lq z
  have hw:∀ w∈CG z.cps.toList,w.length<=z.cps.toList.length:=λw h=>QY h
  revert q1 q2 hs hm hw
  generalize CG z.cps.toList=ws
  generalize BL (ws.headD [])=k
  intro q1 q2 hs hm hw
  push_cast[↓Rb]
  cases ht:F3 MA k with
  | none =>
    simp only[ht]at q2
    rw[if_pos (by rfl)]
    push_cast[↓Qz]
    exact⟨by decide,q2 trivial _ s1⟩
  | some n =>
    simp only[ht]at q1 q2
    rw[if_neg (by simp)]
    push_cast[↓Rc]
    have fin:∀ {vs:List (List Nat)} {l:Addr} {H3:Hp},(if k=("put":Str)then N5 ws else ws)=vs->H l=none->Same H H3->H3 l=some (.lst ((vs.map BL).map V.str))->WI K a (λ_=>E) (λ_=>E) { nx:=AH (WJ K a (λ_=>E) λ_=>E) (WK K a (λ_=>E) λ_=>E) (BD Q),rt:=Q } [some (.str z),some (.str k),some (.ref l)] H3:=by
      intro vs l H3 ev hl s3 el
      rw[ev]at q1 q2
      push_cast[↓Rh]
      refine⟨vs.length,.inl ⟨_,SqL.of el,by rw[List.length_map,List.length_map]⟩,n,ht,?_⟩
      by_cases hn:(vs.length:Int)=n
      · rw[if_neg (by simpa using hn)]
        rw[if_neg (by simpa using hn)]at q1 q2
        push_cast[↓Rk]
        refine⟨_,_,rfl,.inr (T.wn H3),rfl,rfl,⟨_,rfl,?_⟩⟩
        have ei:J4 (.str k) (IJ.map V.str)=decide (k∈IJ):=by
          show((Str.ofString "take") == k || ((Str.ofString "write") == k || false))=_
          rw[Bool.eq_iff_iff]
          simp only[Bool.or_eq_true,beq_iff_eq,Bool.false_eq_true,or_false,decide_eq_true_eq,IJ,List.mem_cons,List.not_mem_nil]
          exact⟨λh=>h.imp Eq.symm Eq.symm,λh=>h.imp Eq.symm Eq.symm⟩
        simp only[Bool.false_eq_true,if_false]
        rw[ei]
        by_cases hk:k∈IJ
        · rw[if_pos (decide_eq_true hk)]
          have hv:vs≠[]:=λe=>by
            rw[e]at hn
            have:n=0:=hn.symm
            rw[this]at ht
            rcases(show k=("take":Str)\/k=("write":Str) by simpa [IJ]using hk)with h | h
            ·rw[h]at ht;revert ht;decide +kernel
            ·rw[h]at ht;revert ht;decide +kernel
          obtain⟨us,u,rfl⟩:∃ us u,vs=us++[u]:=⟨vs.dropLast,vs.getLast hv,(List.dropLast_concat_getLast hv).symm⟩
          refine .inl ⟨l,_,_,.str (BL u),rfl,rfl,SqL.of el,?_,BL u,rfl,?_,λH4 s4=>⟨_,rfl,?_⟩⟩
          · rw[List.map_append,List.map_append]
            exact Lw
          · have kp:¬ k=("put":Str):=λe=>by rw[e]at hk;revert hk;decide +kernel
            rw[if_neg kp]at ev
            have:=hw u (by rw[ev];exact List.mem_append_right _ List.mem_cons_self)
            show u.toArray.size<=_
            rw[List.size_toArray]
            have ez:z.cps.toList.length=z.length:=by simp[Str.length]
            omega
          · rw[show GS ((us++[u]).getLastD [])=GS u by simp]at q1 q2
            have eu:(BL u).cps.toList=u:=rfl
            rw[eu]
            cases hu:GS u with
            | false =>
              rw[if_pos ⟨hk,hu⟩]at q2
              rw[if_pos rfl]
              push_cast[↓Rj]
              exact⟨by decide,q2 rfl _ (s3.trans s4)⟩
            | true =>
              rw[if_neg (by rw[hu];simp)]at q1
              rw[if_neg (by simp)]
              push_cast[↓kD]
              exact q1 _ rfl _ _ hl (s3.trans s4) (s4 _ _ el)
        · rw[if_neg (by rw[decide_eq_true_eq];exact hk)]
          rw[if_neg λz=>hk z.1]at q1
          push_cast[↓kD]
          exact q1 _ rfl _ _ hl s3 el
      · rw[if_pos hn]
        rw[if_pos hn]at q2
        push_cast[↓Rg]
        exact⟨by decide,q2 rfl _ s3⟩
    split
    · rename_i hk
      refine⟨rfl,z,_,rfl,by decide +kernel,by omega,.inr ⟨2,by omega,rfl,λl hl=> ?_⟩⟩
      have hm2:Txt.splitMax z (Str.ofString " ") ((2:Nat):Int)=(N5 ws).map BL:=hm
      rw[hm2]
      exact fin (if_pos hk) (s1.free hl) (s1.trans (AL hl)) AG
    · rename_i hk
      refine⟨rfl,z,_,rfl,by decide +kernel,by omega,.inl ⟨rfl,λl hl=> ?_⟩⟩
      rw[hs]
      exact fin (if_neg hk) (s1.free hl) (s1.trans (AL hl)) AG
theorem zc9(h:MC K a vs H Q E):XS K a (λ_=>E) (BD Q) (A0 ["store","words","kind"] vs) H:=by
 obtain⟨st,l,ws,rfl,⟨dx,lp,b,tk,es⟩,el,h⟩:=h
 push_cast[XS,↓Yj]
 rcases h with⟨y,rfl,h⟩ | ⟨y,t,rfl,h⟩ | ⟨y,z,rfl,h⟩ | ⟨y,z,rfl,h⟩ | ⟨y,rfl,h⟩ | ⟨y,w,x,rfl,hw,hx,h⟩<;>refine C4 (SqL.of el) (n:=0) rfl rfl ?_
 ·push_cast[↓MN,↓Yk]
  exact⟨_,_,es,CT (by decide +kernel),C4 (SqL.of el) (n:=1) rfl rfl h⟩
 ·push_cast[↓MN]
  rw[if_neg (by decide +kernel)]
  push_cast[↓OP]
  rw[if_neg (by decide +kernel)]
  push_cast[↓RS]
  rw[if_neg (by decide +kernel)]
  push_cast[↓XR,↓Yp]
  exact⟨_,_,es,CT (by decide +kernel),C4 (SqL.of el) (n:=1) rfl rfl (C4 (SqL.of el) (n:=2) rfl rfl h)⟩
 ·push_cast[↓MN]
  rw[if_neg (by decide +kernel)]
  push_cast[↓OP,↓Yl]
  exact⟨_,_,es,CT (by decide +kernel),C4 (SqL.of el) (n:=1) rfl rfl (C4 (SqL.of el) (n:=2) rfl rfl h)⟩
 ·push_cast[↓MN]
  rw[if_neg (by decide +kernel)]
  push_cast[↓OP]
  rw[if_neg (by decide +kernel)]
  push_cast[↓RS]
  rw[if_neg (by decide +kernel)]
  push_cast[↓XR]
  rw[if_neg (by decide +kernel)]
  push_cast[↓oM]
  rw[if_neg (by decide +kernel)]
  push_cast[↓Yv]
  exact⟨_,_,es,CT (by decide +kernel),C4 (SqL.of el) (n:=1) rfl rfl (C4 (SqL.of el) (n:=2) rfl rfl h)⟩
 ·push_cast[↓MN]
  rw[if_neg (by decide +kernel)]
  push_cast[↓OP]
  rw[if_neg (by decide +kernel)]
  push_cast[↓RS,↓Ym]
  exact⟨_,_,es,CT (by decide +kernel),C4 (SqL.of el) (n:=1) rfl rfl h⟩
 ·push_cast[↓MN]
  rw[if_neg (by decide +kernel)]
  push_cast[↓OP]
  rw[if_neg (by decide +kernel)]
  push_cast[↓RS]
  rw[if_neg (by decide +kernel)]
  push_cast[↓XR]
  rw[if_neg (by decide +kernel)]
  push_cast[↓oM,↓Yq]
  exact⟨_,_,es,CT (by decide +kernel),C4 (SqL.of el) (n:=1) rfl rfl (C4 (SqL.of el) (n:=2) rfl rfl ⟨w,x,rfl,hw,hx,h⟩)⟩
theorem SM.far{X:SX}{cs:List Ch}{tks:List (AO × V)}{M:Hs}{G:Addr->Prop}{H':Hp}{e C dx:Addr}{fs:List (Str × V)}(I:X.at a H cs tks M)(he:H e=some (.ins C dx fs))(hc:∀ pl v nt,fs≠E7 pl v nt)(n1:X.S.st≠e)(n2:X.S.lp≠e)(n3:X.S.A.b≠e)(n4:X.S.A.gp≠e)(s:SameBut G H H')(g:∀ x,G x->x=e\/E8 (H x))(f:∀ x,G x->x=e\/(¬ X.S.A.F x/\x≠X.S.tk)):X.at a H' cs tks M:=by
 have ne:∀ {y:Addr} {o:HO},H y=some o->(∀ C dx fs,o≠.ins C dx fs)->y≠e:=λh n z=>by rw[z,he]at h;cases h;exact n _ _ _ rfl
 have kT:HG H H':=λy ys h=>s _ _ h λz=>(g _ z).elim (ne h (by intro _ _ _ z;cases z)) λl=>l.1 _ h
 have kI:∀ {y C' dx':Addr} {fs':List (Str × V)},H y=some (.ins C' dx' fs')->y≠e->H' y=some (.ins C' dx' fs'):=λh n=>s _ _ h λz=>(g _ z).elim n λl=>l.2 _ _ _ h
 have kF:∀ {y:Addr} {o:HO},H y=some o->X.S.A.F y->H' y=some o:=λh hf=>s _ _ h λz=>(f _ z).elim (λz=>(I.bk.loose hf).2 _ _ _ (z ▸ he)) λq=>q.1 hf
 obtain⟨⟨d1,e1⟩,e2,⟨⟨⟨d3,b1⟩,⟨chs,b2,b3⟩,b4,b5,b6,⟨AD,b7,b8⟩,⟨C6,b9,b10⟩,r1,r2,r3,r4,r5⟩,⟨⟨d4,p1⟩,⟨ts,p2,p3⟩,q1,q2,q3⟩,nb⟩,e4,e5,e6,e7,e8,e9,e10,e11,e12⟩:=I
 obtain⟨dl,el⟩:=e2.ob
 refine⟨⟨d1,kI e1 n1⟩,e2.sb (F:=λy=>y=e\/E8 (H y)) (λy o h n=>s _ _ h λz=>n (g _ z)) λz=>z.elim n2 λl=>l.2 _ _ _ el,⟨⟨⟨d3,kI b1 n3⟩,⟨chs,kF b2 (.inl rfl),Paired.mapP b3 λx c h=> ?_⟩,kF b4 (.inr (.inl rfl)),λi l h=>kF (b5 i l h) (.inr (.inr (.inl (List.mem_of_getElem? h)))),b6,⟨AD,kF b7 (.inr (.inr (.inr (.inl rfl)))),b8⟩,⟨C6,kF b9 (.inr (.inr (.inr (.inr (.inl rfl))))),b10⟩,r1,r2,r3,r4,r5⟩,⟨⟨d4,kI p1 n4⟩,⟨ts,kF p2 (.inr (.inr (.inr (.inr (.inr rfl))))),Paired.mapP p3 λt r q=>kT _ _ q⟩,q1,q2,q3⟩,nb⟩,s _ _ e4 λz=>(f _ z).elim (ne e4 (by intro _ _ _ z;cases z)) λq=>q.2 rfl,e5,e6,e7,e8,e9.keep kT,λkind k v h1 h2 hv=>(e10 kind k v h1 h2 hv).keep kT,e11,e12.keep kT⟩
 obtain⟨dx',pl,nt,c1,c2,c3⟩:=h
 exact⟨dx',pl,nt,kI c1 λz=>by rw[z,he]at c1;injection c1 with c1;injection c1 with _ _ c1;exact hc _ _ _ c1,kT _ _ c2,kT _ _ c3⟩
theorem SM.sbG{X:SX}{cs:List Ch}{tks:List (AO × V)}{M:Hs}{G:Addr->Prop}{H':Hp}(I:X.at a H cs tks M)(s:SameBut G H H')(g:∀ x,G x->E8 (H x))(f:∀ x,G x->¬ X.S.A.F x/\x≠X.S.tk):X.at a H' cs tks M:=by
 have tk:HG H H':=X7 s g
 obtain⟨⟨dx,e1⟩,e2,e3,e4,e5,e6,e7,e8,e9,e10,e11,e12⟩:=I
 obtain⟨dl,el⟩:=e2.ob
 exact⟨⟨dx,s _ _ e1 λz=>(g _ z).2 _ _ _ e1⟩,e2.sb s λz=>(g _ z).2 _ _ _ el,e3.sb s g λx hx=>(f x hx).1,s _ _ e4 λz=>(f _ z).2 rfl,e5,e6,e7,e8,e9.keep tk,λkind k v h1 h2 hv=>(e10 kind k v h1 h2 hv).keep tk,e11,e12.keep tk⟩
theorem zda{Q':VK}(h:KJ K a vs H Q E)(m:∀ v H',Q v H'->Q' v H'):KJ K a vs H Q' E:=by
 obtain⟨X,cs,tks,M,z,e,T,I,q,qE⟩:=h
 refine⟨X,cs,tks,M,z,e,T,I,λcell rec h1 h2 h3=> ?_,qE⟩
 obtain⟨hr,m',ps,e1,e2,e3,q⟩:=q cell rec h1 h2 h3
 exact⟨hr,m',ps,e1,e2,e3,λl row R H' c1 c2 c3 c4 c5=>m _ _ (q l row R H' c1 c2 c3 c4 c5)⟩
theorem qF:∀ {row:List Nat},(∀ b∈row,b<1000)->((row.map λ(b:Nat)=>DI b).map (·.length)).sum<=10 * row.length
 | [],_=>Nat.zero_le _
 | b::row,h=>by
  have:=fF (i:=(b:Nat)) (by omega) (by have:=h b List.mem_cons_self;omega)
  have:=qF (row:=row) λx hx=>h x (List.mem_cons_of_mem _ hx)
  simp only[List.map_cons,List.sum_cons,List.length_cons]
  omega
theorem zdb(h:MD K a vs H Q E):XV K a (λ_=>E) (BD Q) (A0 ["store","words","kind"] vs) H:=by
 obtain⟨st,l,ws,rfl,⟨dx,lp,b,tk,es⟩,el,h⟩:=h
 push_cast[XV,↓Yw]
 rcases h with⟨y,rfl,h⟩ | ⟨rfl,h⟩ | ⟨y,rfl,h⟩<;>refine C4 (SqL.of el) (n:=0) rfl rfl ?_
 ·push_cast[↓XT]
  rw[if_neg (by decide +kernel)]
  push_cast[↓XU,↓Yy]
  refine C4 (SqL.of el) (n:=1) rfl rfl (zda h λv H1 ⟨p,row,ev,ep,hr,hb,q⟩=>⟨p,ev,.inl ⟨⟨_,SqL.of ep⟩,?_⟩⟩)
  have hlr:(BM row).length=row.length:=by unfold BM;rw[List.length_map]
  refine TZ (xs:=BM row) (BV _ (by omega)) (λi ys H'=>H'=H1/\ys=(row.take i).map λ(b:Nat)=>V.str (DI b)) ⟨rfl,rfl⟩ (λi ys H' _ ⟨e,_⟩=>by rw[e];exact SqL.of ep) (λi x ys H' hx hyl ⟨e,ey⟩=> ?_) (λys H' hyl ⟨e,ey⟩ lc hlc=> ?_)
  ·unfold BM at hx
   rw[List.getElem?_map,Option.map_eq_some_iff]at hx
   obtain⟨c,hc,rfl⟩:=hx
   have:=hb c (List.mem_of_getElem? hc)
   push_cast[C7]
   refine⟨_,rfl,by omega,by omega,e,?_⟩
   rw[List.take_add_one,hc,List.map_append,ey]
   rfl
  ·rw[e]at hlc ⊢
   rw[hlr,List.take_of_length_le (Nat.le_refl _)]at ey
   have:=qF hb
   exact⟨lc,row.map λ(b:Nat)=>DI b,rfl,by rw[AG,ey,List.map_map];rfl,by rw[List.length_map];omega,q _ (AL hlc)⟩
 ·push_cast[↓XT]
  rw[if_neg (by decide +kernel)]
  push_cast[↓XU]
  rw[if_neg (by decide +kernel)]
  push_cast[↓o0]
  rw[if_neg (by decide +kernel)]
  push_cast[↓Zb]
  exact⟨_,_,es,CT (by decide +kernel),h⟩
 ·push_cast[↓XT]
  rw[if_neg (by decide +kernel)]
  push_cast[↓XU]
  rw[if_neg (by decide +kernel)]
  push_cast[↓o0,↓Yz]
  exact⟨rfl,_,_,es,CT (by decide +kernel),C4 (SqL.of el) (n:=1) rfl rfl h⟩
def JT(lp gp:Addr):List (Str × V):=[("plan",.ref lp),("ground",.ref gp)]
theorem StAt.same{st:Addr}{H':Hp}(h:StAt a H st)(s:Same H H'):StAt a H' st:=by
 obtain⟨dx,lp,b,tk,e⟩:=h
 exact⟨dx,lp,b,tk,s _ _ e⟩
theorem zdc{k:Str}{Q:VK}(T:FV K a)(q:Q (.bl (decide (k∈II))) H):NW K (.str k) (.ref (a "DEEDS")) H Q:=by
 refine⟨_,_,rfl,.inr (T.dd H),rfl,rfl,?_⟩
 have ei:J4 (.str k) (II.map V.str)=decide (k∈II):=by
  show((Str.ofString "make") == k || ((Str.ofString "link") == k || ((Str.ofString "cut") == k || ((Str.ofString "put") == k || ((Str.ofString "take") == k || ((Str.ofString "move") == k || false))))))=_
  rw[Bool.eq_iff_iff]
  simp only[Bool.or_eq_true,beq_iff_eq,Bool.false_eq_true,or_false,decide_eq_true_eq,II,List.mem_cons,List.not_mem_nil]
  have e:∀ {x:Str},x=k↔k=x:=⟨Eq.symm,Eq.symm⟩
  rw[e,e,e,e,e,e]
 simp only[Bool.false_eq_true,if_false]
 rw[ei]
 exact q
theorem zdd(h:EN K a vs H Q E):XW K a (λ_=>E) (BD Q) (A0 ["self","row","words"] vs) H:=by
 obtain⟨h,dh,lp,gp,st,z,rfl,T,eh,est,hz,hh⟩:=h
 push_cast[XW,↓Zc]
 have hst:(hf lp gp st).lookup (Str.ofString "store")=some (.ref st):=rfl
 rcases hh with⟨e,q⟩ | ⟨w,ws,e,nw,q⟩
 ·refine⟨z,rfl,T,hz,?_,λ_=>q⟩
  intro ws' e'
  rw[e]at e'
  cases e'
 ·refine⟨z,rfl,T,hz,λws' e' l H1 hl s1 el=> ?_,λe'=>by rw[e]at e';cases e'⟩
  rw[e]at e'
  cases e'
  have q:=q l H1 s1 el
  push_cast[↓Zh]
  refine C4 (SqL.of el) (n:=0) rfl rfl (zdc T ⟨_,rfl,?_⟩)
  rcases q with⟨hd,q⟩ | ⟨hd,q⟩
  ·rw[if_pos (decide_eq_true hd)]
   push_cast[↓Zd,↓Zg]
   exact⟨_,_,_,s1 _ _ eh,T.ho.cl,T.ho.n3,_,hst,q⟩
  ·rw[if_neg (by rw[decide_eq_true_eq];exact hd)]
   push_cast[↓Zk]
   refine C4 (SqL.of el) (n:=0) rfl rfl ?_
   push_cast[]
   rw[if_neg nw]
   push_cast[↓Zl]
   exact⟨_,_,_,s1 _ _ eh,T.ho.cl,T.ho.n3,_,hst,q⟩
theorem zde(h:RM K a vs H Q E):XC K a (λ_=>E) (BD Q) (A0 ["self","layout"] vs) H:=by
 obtain⟨h,dh,lp,n,r,c,w,rfl,T,eh,L,sz,q⟩:=h
 push_cast[XC,↓Vd]
 obtain⟨T4,TH,_,_⟩:=T
 have T4':=T4
 obtain⟨TB',TP,TL,TS⟩:=T4
 refine⟨_,_,_,eh,TH.cl,TH.n1,by decide,?_⟩
 push_cast[↓Vg]
 obtain⟨dl,el⟩:=L.ob
 have nh:lp≠h:=λz=>by
  rw[z,eh]at el
  injection el with el
  injection el with _ _ el
  exact absurd (congrArg List.length el) (by simp[lf])
 have k1:∀ {y:Addr} {o:HO} {f:List (Str × V)},H y=some o->y≠h->upd H h (.ins (a "House") dh f) y=some o:=λe n=>by rw[AK n];exact e
 have L1:∀ {f:List (Str × V)},LayAt a (upd H h (.ins (a "House") dh f)) lp n r c w:=L.sb (F:=(· =h)) (λy o e n=>k1 e n) nh
 obtain⟨H1,eH1,eh1,L1',f1,k1'⟩:∃ H1,H1=upd H h (.ins (a "House") dh (A6 (Str.ofString "plan") (.ref lp) []))/\H1 h=some (.ins (a "House") dh (A6 (Str.ofString "plan") (.ref lp) []))/\LayAt a H1 lp n r c w/\(∀ y,H1 y=none->H y=none)/\∀ y o,H y=some o->y≠h->H1 y=some o:=⟨_,rfl,AG,L1,λy hy=>(by
  by_cases z:y=h
  ·rw[z,AG]at hy;cases hy
  ·rw[AK z]at hy;exact hy),λy o e n=>k1 e n⟩
 rw[<-eH1]
 obtain⟨dl1,el1⟩:=L1'.ob
 refine⟨_,_,el1,C5 (by decide +kernel),lp,n,r,c,w,rfl,TL,TP,L1',λgp cl H2 hgp BX P2 s2=>⟨_,_,_,s2 _ _ eh1,TH.cl,TH.n2,by rw[HN];show 1<1000;omega,?_⟩⟩
 push_cast[↓Vh]
 have e12:A6 (Str.ofString "ground") (.ref gp) (A6 (Str.ofString "plan") (.ref lp) [])=JT lp gp:=by
  rw[HN,JG (by decide +kernel),HN]
  rfl
 rw[e12]
 have ngp:gp≠h:=(BN eh1 hgp).symm
 have ncl:cl≠h:=(BN eh1 BX).symm
 obtain⟨H3,eH3,eh3,k3,f3⟩:∃ H3,H3=upd H2 h (.ins (a "House") dh (JT lp gp))/\H3 h=some (.ins (a "House") dh (JT lp gp))/\(∀ y o,H2 y=some o->y≠h->H3 y=some o)/\∀ y,H3 y=none->H2 y=none:=⟨_,rfl,AG,λy o e n=>by rw[AK n];exact e,λy hy=>(by
  by_cases z:y=h
  ·rw[z,AG]at hy;cases hy
  ·rw[AK z]at hy;exact hy)⟩
 rw[<-eH3]
 have L3:LayAt a H3 lp n r c w:=(L1'.same s2).sb (F:=(· =h)) k3 nh
 have P3:PlankAt a H3 gp cl w (List.replicate (n+r+c+r+c) (List.replicate w .non)) 0:=by
  obtain⟨⟨dx,p1⟩,⟨ts,p2,p3⟩,q1,q2,q3⟩:=P2
  exact⟨⟨dx,k3 _ _ p1 ngp⟩,⟨ts,k3 _ _ p2 ncl,Paired.mapP p3 λt r q=>k3 _ _ q λz=>by rw[z,s2 _ _ eh1]at q;cases q⟩,q1,q2,q3⟩
 refine⟨_,_,_,eh3,TH.cl,TH.n2,_,rfl,λst dst hst hdst ndst=> ?_⟩
 have s4:Same H3 (upd (upd H3 dst (.own st)) st (.ins (a "Store") dst [])):=(AL hdst).trans (AL (by rw[AK ndst.symm];exact hst))
 have hN:∀ r'∈List.replicate (n+r+c+r+c) (List.replicate w V.non),∀ v∈r',v=.non:=λr' hr' v hv=>by
  rw[List.eq_of_mem_replicate hr']at hv
  exact List.eq_of_mem_replicate hv
 refine⟨st,dst,lp,gp,cl,n,r,c,w,_,0,λ_ _=>.no,rfl,T4',AG,L3.same s4,P3.same s4,⟨sz.1,sz.2.1,sz.2.2.1,sz.2.2.2,by simp⟩,(λr' hr' v hv=>by rw[hN r' hr' v hv];trivial),λkind k v h1 hk hv=> ?_,λ_ _ _ _=>trivial,λS H5 e1 e2 e3 e4 off htk I KR=>⟨rfl,_,_,_,KR _ _ (s4 _ _ eh3) (BN eh3 hst),TH.cl,TH.n3,by show 2<1000;omega,?_⟩⟩
 ·unfold EM at hv
  have:D0 [] (BQ n r c w kind k:Nat) (k % w:Nat)=none:=rfl
  rw[this]at hv
  obtain⟨r',er',ev⟩:=Option.bind_eq_some_iff.mp hv
  exact hN r' (List.mem_of_getElem? er') _ (List.mem_of_getElem? ev)
 have e13:A6 (Str.ofString "store") (.ref st) (JT lp gp)=hf lp gp st:=by
  unfold JT
  repeat (first | rw[HN] | rw[JG (by decide +kernel)])
  rfl
 rw[e13]
 subst e1 e2 e3 e4
 have eh5:H5 h=some (.ins (a "House") dh (JT S.lp S.A.gp)):=KR _ _ (s4 _ _ eh3) (BN eh3 hst)
 have all:∀ y o,H y=some o->y≠h->H3 y=some o:=λy o e n=>k3 _ _ (s2 _ _ (k1' _ _ e n)) n
 have fr:∀ y,H3 y=none->H y=none:=λy hy=>f1 y (s2.free (f3 y hy))
 refine q S _ rfl (λy hy=> ?_) ⟨⟨dh,AG⟩,I.far (e:=h) eh5 (λpl v nt z=>absurd (congrArg List.length z) (by simp[JT,E7])) (BN eh3 hst).symm nh (λz=> ?_) ngp (G:=(· =h)) (λy o e n=>by rw[AK n];exact e) (λx hx=>.inl hx) λx hx=>.inl hx⟩ λy o e n=>by rw[AK n];exact KR _ _ (s4 _ _ (all _ _ e n)) (BN (all _ _ e n) hst)
 ·rcases hy with hy | rfl | rfl | rfl
  ·cases e:H y with
   | none=>rfl
   | some o =>
    exfalso
    by_cases z:y=h
    ·rcases off y _ (s4 _ _ (z ▸ eh3))with z' | z'
     ·exact ncl (z' ▸ z)
     ·exact z' hy
    ·rcases off y _ (s4 _ _ (all _ _ e z))with z' | z'
     ·rw[z']at e z
      have:=k1' _ _ e z
      rw[BX]at this;cases this
     ·exact z' hy
  ·exact fr _ (s4.free htk)
  ·exact f1 _ hgp
  ·exact fr _ hst
 ·obtain⟨db,eb⟩:=I.bk.bk.ob
  rw[z,eh5]at eb
  injection eb with eb
  injection eb with _ _ eb
  exact absurd (congrArg List.length eb) (by simp[JT,bf])
theorem zdf:∀ i:Fin 26,(Str.ofString "abcdefghijklmnopqrstuvwxyz").cps.toList[i.val]? =some (97+i.val):=by decide +kernel
theorem zdg{i:Int}{n:Nat}{Q:VK}(hi:i=n)(hn:n<26)(q:Q (.str ⟨#[97+n]⟩) H):DM K (.str (Str.ofString "abcdefghijklmnopqrstuvwxyz")) (.int i) H Q:=pY hi (by decide +kernel) (zdf ⟨n,hn⟩) q
theorem zdh{x:Int}{Q:VK}(q:∀ n:Nat,n<26->Q (.str ⟨#[97+n]⟩) H):DM K (.str (Str.ofString "abcdefghijklmnopqrstuvwxyz")) (.int (x % 26)) H Q:=by
 obtain⟨b,eb,hb⟩:=KM x (n:=26) (by omega)
 rw[show((26:Nat):Int)=26 from rfl]at eb
 rw[eb]
 exact zdg rfl hb (q b hb)
theorem FW(x y:Str):(x++y).cps.toList=x.cps.toList++y.cps.toList:=by
 show(x.cps++y.cps).toList=_
 simp
theorem MQ(z:Str):z.cps.toList.length=z.length:=by simp[Str.length]
theorem qG{z:Str}{k:Nat}(h:k<=z.length):(Txt.slice z none (some (k:Int))).cps.toList=z.cps.toList.take k:=by
 rw[eq_of_beq (slice_closes_to (x:=z) (j:=(k:Int)) ⟨by omega,by rw[MQ];omega⟩)]
 simp
theorem qH{z:Str}{k:Nat}(h:k<=z.length):(Txt.slice z (some (k:Int)) none).cps.toList=z.cps.toList.drop k:=by
 rw[eq_of_beq (slice_closes_from (x:=z) (i:=(k:Int)) ⟨by omega,by rw[MQ];omega⟩)]
 have:((z.cps.toList.length:Int) - k).toNat=(z.cps.toList.drop k).length:=by rw[List.length_drop];omega
 simp only[Int.toNat_natCast,this,List.take_length]
def Lts(z:Str)(n:Nat):Prop:=z.cps.toList.length=n/\z.cps.toList.all L6=true
theorem Lts.len{z:Str}{n:Nat}(h:Lts z n):z.length=n:=by rw[<-MQ];exact h.1
theorem Lts.cat{x y:Str}{n m:Nat}(h:Lts x n)(h':Lts y m):Lts (x++y) (n+m):=by
 unfold Lts
 rw[FW,List.length_append,List.all_append,h.1,h'.1,h.2,h'.2]
 exact⟨rfl,rfl⟩
theorem Lts.one{n:Nat}(h:n<26):Lts ⟨#[97+n]⟩ 1:=⟨rfl,by simp[L6];omega⟩
theorem Lts.to{z:Str}{n k:Nat}(h:Lts z n)(hk:k<=n):Lts (Txt.slice z none (some (k:Int))) k:=by
 unfold Lts
 rw[qG (by rw[h.len];exact hk)]
 refine⟨by rw[List.length_take,h.1];omega,?_⟩
 rw[List.all_eq_true]
 exact λc hc=>List.all_eq_true.mp h.2 c (List.mem_of_mem_take hc)
theorem Lts.from{z:Str}{n k:Nat}(h:Lts z n)(hk:k<=n):Lts (Txt.slice z (some (k:Int)) none) (n - k):=by
 unfold Lts
 rw[qH (by rw[h.len];exact hk)]
 refine⟨by rw[List.length_drop,h.1],?_⟩
 rw[List.all_eq_true]
 exact λc hc=>List.all_eq_true.mp h.2 c (List.mem_of_mem_drop hc)
theorem Lts.name{z:Str}{n:Nat}(h:Lts z n)(h1:1<=n)(h8:n<=8):BZ z=true:=by
 unfold BZ
 rw[h.len,h.2]
 simp
 omega
theorem F7{z:Str}(h:BZ z=true):Lts z z.length/\1<=z.length/\z.length<=8:=by
 unfold BZ at h
 simp only[Bool.and_eq_true,decide_eq_true_eq]at h
 exact⟨⟨MQ z,h.2⟩,h.1.1,h.1.2⟩
theorem zdi(h:RN K a vs H Q E):VZ K a (λ_=>E) (BD Q) (A0 ["cell","letters","name","k"] vs) H:=by
 obtain⟨x,rfl,q⟩:=h
 push_cast[VZ,↓Pc,↓Pd,↓Ph]
 obtain⟨m,em,hm⟩:∃ m:Nat,1+x % 5=m/\1<=m/\m<=5:=⟨(1+x % 5).toNat,by omega,by omega⟩
 rw[em,Int.toNat_natCast]
 refine⟨by omega,by omega,Bv (λi σ H'=>∃ p:Str,H'=H/\Lts p i/\∃ y,σ=[some (.int x),some (.str (Str.ofString "abcdefghijklmnopqrstuvwxyz")),some (.str p),y]) ⟨Str.ofString "",rfl,⟨by decide +kernel,by decide +kernel⟩,_,rfl⟩ (λi σ H' hi hzz=> ?_) (λσ H' hzz=> ?_)⟩
 ·obtain⟨p,e,hp,y,ez⟩:=hzz
  subst e ez
  push_cast[↓Pg]
  have:=hp.len
  refine⟨⟨by decide,by decide⟩,⟨by decide,by decide⟩,.inl ⟨by omega,by omega⟩,.inr ⟨by omega,by omega⟩,zdh λn hn=> ?_⟩
  have h1:=(Lts.one hn).len
  push_cast[]
  exact⟨BV _ (by omega),_,hp.cat (Lts.one hn),rfl⟩
 ·obtain⟨p,e,hp,y,ez⟩:=hzz
  subst e ez
  push_cast[↓Pj]
  exact q _ _ (hp.name hm.1 (by omega)) (by rw[hp.len];exact hm.2) (Same.refl _)
theorem qI{l:Addr}{zs:List Str}{i:Nat}{z:Str}{Q:VK}(e:H l=some (.lst (zs.map V.str)))(hz:zs[i]? =some z)(q:Q (.str z) H):DM K (.ref l) (.int i) H Q :=
 C4 (SqL.of e) (n:=i) (v:=.str z) rfl (by rw[List.getElem?_map,hz];rfl) q
theorem IL{y:Str}(h:BZ y=true):32∉y.cps.toList:=λz=>by
 obtain⟨⟨_,h2⟩,_⟩:=F7 h
 have:=List.all_eq_true.mp h2 32 z
 revert this;decide
theorem RX{p y:Str}{w:List Nat}(hp:p.cps.toList=w++[32])(hw:32∉w)(hy:32∉y.cps.toList):CC (p++y)=FG [w,y.cps.toList]:=by
 unfold CC
 rw[FW,hp,List.append_assoc]
 show FG (CG (w++32::y.cps.toList))=_
 rw[HE hw,LZ hy]
theorem zdj{p y q:Str}{w v:List Nat}(hp:p.cps.toList=w++[32])(hw:32∉w)(hy:32∉y.cps.toList)(hq:q.cps.toList=32::v)(hv:32∉v):CC (p++y++q)=FG [w,y.cps.toList,v]:=by
 unfold CC
 rw[FW,FW,hp,hq,List.append_assoc,List.append_assoc]
 show FG (CG (w++32::(y.cps.toList++32::v)))=_
 rw[HE hw,HE hy,LZ hv]
theorem YB{y:Str}{k c:Nat}{m:Str}(hy:BZ y=true)(h5:y.length<=5)(hk:k<=y.length)(em:m.cps.toList=[c])(hc:L6 c=false)(h32:c≠32):JS (Txt.slice y none (some (k:Int))++m++Txt.slice y (some (k:Int)) none):=by
 have e:(Txt.slice y none (some (k:Int))++m++Txt.slice y (some (k:Int)) none).cps.toList=y.cps.toList.take k++[c]++y.cps.toList.drop k:=by rw[FW,FW,qG hk,qH hk,em]
 have el:(Txt.slice y none (some (k:Int))++m++Txt.slice y (some (k:Int)) none).length=y.length+1:=by
  rw[<-MQ,e]
  have:=MQ y
  simp only[List.length_append,List.length_take,List.length_drop,List.length_cons,List.length_nil]
  omega
 refine⟨?_,by omega,?_⟩
 ·unfold BZ
  rw[e,List.all_append,List.all_append,List.all_cons,hc]
  simp
 ·rw[e]
  intro z
  rcases List.mem_append.mp z with z | z
  ·rcases List.mem_append.mp z with z | z
   ·exact IL hy (List.mem_of_mem_take z)
   ·exact h32 (List.mem_singleton.mp z).symm
  ·exact IL hy (List.mem_of_mem_drop z)
theorem zdk(h:RO K a vs H Q E):V0 K a (λ_=>E) (BD Q) (A0 ["cell","name","at","some"] vs) H:=by
 obtain⟨x,y,rfl,hy,h5,q⟩:=h
 push_cast[V0,↓Pk]
 refine⟨⟨by decide,by decide⟩,y.length,⟨BV _ (by omega),rfl⟩,by omega,?_⟩
 obtain⟨k,ek,hk⟩:=KM (x / 5) (n:=y.length+1) (by omega)
 rw[show((y.length+1:Nat):Int)=(y.length:Int)+1 by omega]at ek
 rw[ek]
 have n1:=YB (m:=Str.ofString "A") (c:=65) hy h5 (Nat.le_of_lt_succ hk) (by decide +kernel) (by decide +kernel) (by decide)
 have n2:=YB (m:=Str.ofString "7") (c:=55) hy h5 (Nat.le_of_lt_succ hk) (by decide +kernel) (by decide +kernel) (by decide)
 have n3:=YB (m:=Str.ofString "_") (c:=95) hy h5 (Nat.le_of_lt_succ hk) (by decide +kernel) (by decide +kernel) (by decide)
 have m1:=n1.2.1
 have m2:=n2.2.1
 have m3:=n3.2.1
 rw[DK,DK]at m1 m2 m3
 push_cast[↓Pl]
 refine⟨BV _ (by omega),BV _ (by omega),BV _ (by omega),BV _ (by rw[DK];omega),BV _ (by omega),BV _ (by omega),BV _ (by omega),BV _ (by rw[DK];omega),BV _ (by omega),BV _ (by omega),BV _ (by omega),BV _ (by rw[DK];omega),by decide,λp hp=> ?_⟩
 revert n1 n2 n3
 generalize Txt.slice y none (some (k:Int))++Str.ofString "A"++Txt.slice y (some (k:Int)) none=z1
 generalize Txt.slice y none (some (k:Int))++Str.ofString "7"++Txt.slice y (some (k:Int)) none=z2
 generalize Txt.slice y none (some (k:Int))++Str.ofString "_"++Txt.slice y (some (k:Int)) none=z3
 intro n1 n2 n3
 push_cast[↓Pm]
 refine⟨by decide,λp2 h2=>.inl ⟨p,p2,_,_,rfl,rfl,AL h2 _ _ AG,AG,BV _ (by simp only[List.length_cons,List.length_nil];omega),λp3 h3=> ?_⟩⟩
 have s3:=(AL hp).trans ((AL h2).trans (AL (o:=.lst ([("":Str),z1,z2,z3,"abcdefghi"].map V.str)) h3))
 obtain⟨i,ei,hi⟩:=KM x (n:=5) (by omega)
 rw[show((5:Nat):Int)=5 from rfl]at ei
 rw[ei]
 have hz:∀ z∈[("":Str),z1,z2,z3,"abcdefghi"],JS z:=λz hz=>by
  simp only[List.mem_cons,List.not_mem_nil,or_false]at hz
  rcases hz with rfl | rfl | rfl | rfl | rfl
  ·unfold JS;decide +kernel
  ·exact n1
  ·exact n2
  ·exact n3
  ·unfold JS;decide +kernel
 have hi':i<[("":Str),z1,z2,z3,"abcdefghi"].length:=hi
 exact qI AG (List.getElem?_eq_getElem hi') (q _ _ (hz _ (List.getElem_mem hi')) s3)
section
variable{h:Addr}{X:SX}{cs:List Ch}{tks:List (AO × V)}{M:Hs}{y:Str}
theorem HsAt.same{H':Hp}(A:HsAt a H h X cs tks M)(s:Same H H'):HsAt a H' h X cs tks M:=by
 obtain⟨⟨dh,e⟩,I⟩:=A
 exact⟨⟨dh,s _ _ e⟩,I.same s⟩
theorem HsAt.sb{G:Addr->Prop}{H':Hp}(A:HsAt a H h X cs tks M)(s:SameBut G H H')(g:∀ x,G x->E8 (H x))(f:∀ x,G x->¬ X.S.A.F x/\x≠X.S.tk):HsAt a H' h X cs tks M:=by
 obtain⟨⟨dh,e⟩,I⟩:=A
 exact⟨⟨dh,s _ _ e λz=>(g _ z).2 _ _ _ e⟩,I.sbG s g f⟩
theorem SM.fLoose(I:X.at a H cs tks M):∀ x,X.S.A.F x\/x=X.S.tk->E8 (H x):=λx hx=>hx.elim (λh=>I.bk.loose h) λh=>by rw[h];exact fU I.tk
theorem HsAt.say(T:FV K a)(A:HsAt a H h X cs tks M){z:Str}(hz:z.length<=900)(q:(CC z=none/\EA a H "NoRow" E)\/∃ w ws,CC z=some (w::ws)/\w≠"stop"/\∀ l H1,Same H H1->H1 l=some (.lst ((w::ws).map V.str))->(w∈II/\MC K a [.ref X.S.st,.ref l] H1 (λ_ H'=>Q (.str "ok") H') E)\/(w∉II/\MD K a [.ref X.S.st,.ref l] H1 Q E)):EN K a [.ref h,.str z] H Q E:=by
 obtain⟨⟨dh,e⟩,I⟩:=A
 obtain⟨dx,est⟩:=I.ob
 exact⟨h,dh,_,_,_,z,rfl,T,e,⟨dx,_,_,_,est⟩,hz,q⟩
theorem HsAt.st(A:HsAt a H h X cs tks M):StAt a H X.S.st:=by
 obtain⟨dx,est⟩:=A.2.ob
 exact⟨dx,_,_,_,est⟩
theorem zdl{m:Nat}(hm:0<m):cellOf (M3 y) m y=some 0:=RV hm (by show decide (y=y)=true;simp) λj hj=>by omega
theorem OQ{m:Nat}(hm:0<m):cellOf (M6 y) m y=some 0:=RV hm (by show decide (y=y)=true;simp) λj hj=>by omega
theorem zdm{m:Nat}{z:Str}(h:z≠y):cellOf (M6 y) m z=none:=by
 refine X9 λj _=> ?_
 show((EW (M6 y) j).any λp=>decide (p.1=z))=false
 cases j with
 | zero =>
  show decide (y=z)=false
  exact decide_eq_false λe=>h e.symm
 | succ j=>rfl
theorem HsAt.make(T:FV K a)(A:HsAt a H h X [] [] M0)(hr:0<X.r * X.w)(hn:0<X.m0)(hy:BZ y=true)(q:∀ cs' H',cs'.length=3->HsAt a H' h X cs' [] (M3 y)->SameBut (λx=>X.S.A.F x\/x=X.S.tk) H H'->Q (.str "ok") H'):EN K a [.ref h,.str (Str.ofString "make "++y)] H Q E:=by
 have hl:=(F7 hy).2.2
 refine A.say T (by rw[DK,show(Str.ofString "make ").length=5 by decide +kernel];omega) (.inr ⟨"make",[y],?_,by decide +kernel,λl H1 s1 el=>.inl ⟨by decide +kernel,X.S.st,l,_,rfl,(A.same s1).st,el,.inl ⟨y,rfl,X,[],[],M0,y,rfl,T.s4,(A.same s1).2,by omega,by simp,λ_ _ rec cell h1 h2 hr' hc=> ?_,λz=> ?_,λ_ z=> ?_,λ_ _ z=> ?_⟩⟩⟩)
 ·rw[RX (w:=[109,97,107,101]) (by decide +kernel) (by decide) (IL hy)]
  show some [BL [109,97,107,101],BL y.cps.toList]=_
  rw[F5,show BL [109,97,107,101]=Str.ofString "make" by decide +kernel]
 ·have e1:FU M0 1 (X.r * X.w)=(0:Nat):=KL hr rfl λj hj=>by omega
  have e2:FU M0 0 X.m0=(0:Nat):=KL hn rfl λj hj=>by omega
  obtain rfl:rec=0:=by rw[e1]at h1;omega
  obtain rfl:cell=0:=by rw[e2]at h2;omega
  intro ex l' H' ex3 _ _ I' sb
  obtain⟨dh,e⟩:=A.1
  exact q ex H' ex3 ⟨⟨dh,sb _ _ (s1 _ _ e) λz=>((A.same s1).2.fLoose _ z).2 _ _ _ (s1 _ _ e)⟩,I'⟩ λx o ex n=>sb _ _ (s1 _ _ ex) n
 ·rw[hy]at z;cases z
 ·obtain⟨k,hk⟩:=z
  rw[X9 λj _=>rfl]at hk
  cases hk
 ·exfalso
  have e1:FU M0 1 (X.r * X.w)=(0:Nat):=KL hr rfl λj hj=>by omega
  have e2:FU M0 0 X.m0=(0:Nat):=KL hn rfl λj hj=>by omega
  rw[e1,e2]at z
  omega
theorem HsAt.names{ks:List Str}(T:FV K a)(A:HsAt a H h X cs tks M)(hk:∀ l,l.Perm (JP M X.m0)->l=ks)(hs:(ks.map (·.length)).sum+ks.length<=1000)(q:∀ H',Same H H'->Q (.str (IK ks)) H'):EN K a [.ref h,.str (Str.ofString "names")] H Q E:=by
 refine A.say T (by decide +kernel) (.inr ⟨"names",[],by decide +kernel,by decide +kernel,λl H1 s1 el=>.inr ⟨by decide +kernel,X.S.st,l,_,rfl,(A.same s1).st,el,.inr (.inl ⟨rfl,X,cs,tks,M,rfl,T.s4,(A.same s1).2,λp ks' H2 _ s2 e2 hp _=> ?_⟩)⟩⟩)
 rw[hk _ hp]at e2
 exact⟨p,ks,rfl,e2,hs,q H2 (s1.trans s2)⟩
theorem HsAt.put{ps:List Nat}{p:Nat}{t z:Str}(T:FV K a)(A:HsAt a H h X cs [] M)(hl:cs.length<=100)(hr:0<X.r * X.w)(BX:cellOf M X.m0 y=some 0)(hm:M 0 0=.nm y 0)(h3:M 3 0=.rc 1 ps)(hps:ps.length<=90)(low:FU M 2 (X.c * X.w)=(p:Nat))(hw:CC z=some [("put":Str),y,t])(hz:z.length<=900)(ht:JO t=true)(hs:PyData.strOk t=true)(htl:t.length<=1000)(q:∀ cs' H',cs'.length=cs.length+3->HsAt a H' h X cs' [] (((M.put 2 p (.mk 1) []).put 4 p (.tx t) [cs.length]).put 3 0 (.rc 1 (ps++[p])) [cs.length+1])->SameBut (λx=>X.S.A.F x\/x=X.S.tk) H H'->Q (.str "ok") H'):EN K a [.ref h,.str z] H Q E:=by
 refine A.say T hz (.inr ⟨"put",[y,t],hw,by decide +kernel,λl H1 s1 el=>.inl ⟨by decide +kernel,X.S.st,l,_,rfl,(A.same s1).st,el,.inr (.inl ⟨y,_,rfl,X,cs,[],M,y,_,rfl,T.s4,(A.same s1).2,htl,hs,by omega,λcell rec hcl' _ hm' _ p' hp' _=> ?_,λz=> ?_,λ_ z=> ?_,λ_ _ z=> ?_⟩)⟩⟩)
 ·rw[BX]at hcl'
  cases hcl'
  rw[hm]at hm'
  cases hm'
  obtain rfl:p'=p:=by rw[low]at hp';omega
  refine⟨hr,1,ps,h3,hps,λex l' H' ex3 _ _ I' sb=> ?_⟩
  obtain⟨dh,e⟩:=A.1
  exact q (cs++ex) H' (by rw[List.length_append,ex3]) ⟨⟨dh,sb _ _ (s1 _ _ e) λz=>((A.same s1).2.fLoose _ z).2 _ _ _ (s1 _ _ e)⟩,I'⟩ λx o ex n=>sb _ _ (s1 _ _ ex) n
 ·rw[BX]at z;cases z
 ·rw[ht]at z;cases z
 ·rw[low]at z;omega
theorem HsAt.shows{ps:List Nat}{ts:List Str}(T:FV K a)(A:HsAt a H h X cs tks M)(hr:0<X.r * X.w)(BX:cellOf M X.m0 y=some 0)(hm:M 0 0=.nm y 0)(h3:M 3 0=.rc 1 ps)(hps:ps.length<=90)(P:Paired (λp t=>p<X.c * X.w/\M 4 p=.tx t) ps ts)(hy:BZ y=true)(q:∀ p H',Same H H'->H' p=some (.lst (ts.map V.str))->NX K (.str "") [.ref p] H' Q):EN K a [.ref h,.str (Str.ofString "show "++y)] H Q E:=by
 have hl:=(F7 hy).2.2
 refine A.say T (by rw[DK,show(Str.ofString "show ").length=5 by decide +kernel];omega) (.inr ⟨"show",[y],?_,by decide +kernel,λl H1 s1 el=>.inr ⟨by decide +kernel,X.S.st,l,_,rfl,(A.same s1).st,el,.inr (.inr ⟨y,rfl,X,cs,tks,M,y,rfl,T.s4,(A.same s1).2,λcell rec hcl' _ hm'=> ?_,λz=> ?_⟩)⟩⟩)
 ·rw[RX (w:=[115,104,111,119]) (by decide +kernel) (by decide) (IL hy)]
  show some [BL [115,104,111,119],BL y.cps.toList]=_
  rw[F5,show BL [115,104,111,119]=Str.ofString "show" by decide +kernel]
 ·rw[BX]at hcl'
  cases hcl'
  rw[hm]at hm'
  cases hm'
  exact⟨hr,1,ps,h3,by omega,ts,P,λp H2 _ s2 e2=>q p H2 (s1.trans s2) e2⟩
 ·rw[BX]at z;cases z
theorem qJ{outs:Int->Bool}{L row:List Nat}(h:HC cs outs L row):∀ b∈row,∃ c∈cs,b=c.blk:=by
 induction h with
 | nil=>intro b hb;cases hb
 | cons e _ ih =>
  intro b hb
  rcases List.mem_cons.mp hb with rfl | hb
  ·exact⟨_,List.mem_of_getElem? e,rfl⟩
  ·exact ih b hb
theorem zdn{outs:Int->Bool}{L row row':List Nat}(h:HC cs outs L row)(h':HC cs outs L row'):row=row':=by
 induction h generalizing row' with
 | nil=>cases h';rfl
 | cons e _ ih =>
  cases h' with
  | cons e' h' =>
   rw[e]at e'
   cases e'
   rw[ih h']
theorem RowIs.uniq{row row':List Nat}(I:X.at a H cs tks M)(h:RowIs X cs row)(h':RowIs X cs row'):row=row':=by
 obtain⟨R,c,o⟩:=h
 obtain⟨R',c',o'⟩:=h'
 have e:R=R':=funext λx=>Kl (λk ch hk x hx=>((I.bk.bk.need k ch hk).1 x hx).2) (λ_=>.rfl) c c' x
 subst e
 exact zdn o o'
end
section
variable{h:Addr}{X:SX}{cs:List Ch}{y n w z:Str}{d:String}
theorem H75.same{H':Hp}(W:H75 K a H h X cs y)(s:Same H H'):H75 K a H' h X cs y:=⟨W.T,W.A.same s,W.l,W.y,W.r,W.n,W.c⟩
theorem H75.keep(W:H75 K a H h X cs y)(q:∀ row H',Same H H'->RowIs X cs row->Q (.str (IK (row.map λ(b:Nat)=>DI b))) H'):EN K a [.ref h,.str (Str.ofString "keep "++y)] H Q E:=by
 obtain⟨T,A,hl,hy,hr,hn,hc⟩:=W
 have h8:=(F7 hy).2.2
 refine A.say T (by rw[DK,show(Str.ofString "keep ").length=5 by decide +kernel];omega) (.inr ⟨"keep",[y],?_,by decide +kernel,λl H1 s1 el=>.inr ⟨by decide +kernel,X.S.st,l,_,rfl,(A.same s1).st,el,.inl ⟨y,rfl,X,cs,[],M6 y,y,rfl,T.s4,(A.same s1).2,λcell rec hcl' _ hm'=> ?_,λz=> ?_⟩⟩⟩)
 ·rw[RX (w:=[107,101,101,112]) (by decide +kernel) (by decide) (IL hy)]
  show some [BL [107,101,101,112],BL y.cps.toList]=_
  rw[F5,show BL [107,101,101,112]=Str.ofString "keep" by decide +kernel]
 ·rw[OQ hn]at hcl'
  cases hcl'
  have er:rec=0:=by
   have:CV.nm y 0=CV.nm y rec:=hm'
   injection this with _ h;exact h.symm
  subst er
  refine⟨hr,1,[0],rfl,by simp,λp hp=>by rw[List.mem_singleton.mp hp];omega,λp row R H2 c1 c2 c3 s2 e2=>⟨p,row,rfl,e2,by omega,λb hb=> ?_,λH3 s3=>q row H3 (s1.trans (s2.trans s3)) ⟨R,c1,c2⟩⟩⟩
  obtain⟨c,hc,rfl⟩:=qJ c2 b hb
  have h1:=(A.2.bk.bk.inn c hc).1
  have h2:=A.2.bk.nb
  have h3:=A.2.sz
  omega
 ·rw[OQ hn]at z;cases z
theorem zdo(hn:0<X.m0):JP (M6 y) X.m0=[y]:=by
 show(List.range X.m0).filterMap (λk=>(EW (M6 y) k).map (·.1))=[y]
 obtain⟨m,em⟩:∃ m,X.m0=m+1:=⟨X.m0 - 1,by omega⟩
 rw[em,List.range_succ_eq_map,List.filterMap_cons]
 show y::(List.map Nat.succ (List.range m)).filterMap _=[y]
 rw[List.filterMap_eq_nil_iff.mpr]
 intro k hk
 obtain⟨j,_,rfl⟩:=List.mem_map.mp hk
 rfl
theorem H75.refuse(W:H75 K a H h X cs y)(hn':JS n)(hw:w≠y)(c:EB y n w z d)(q:EA a H d E):EN K a [.ref h,.str z] H Q E:=by
 obtain⟨T,A,hl,hy,hr,hn,hc⟩:=W
 obtain⟨hz,c⟩:=c
 have c6:=OQ (y:=y) hn
 have nn:∀ {v:Str},v=n\/v=w->cellOf (M6 y) X.m0 v=none:=λh=>zdm λe=>h.elim (λz=>by have:=hn'.1;rw[<-z,e,hy]at this;cases this) λz=>hw (z ▸ e)
 have go:∀ {H1:Hp},Same H H1->EA a H1 d E:=λs H' s'=>q H' (s.trans s')
 refine A.say T hz ?_
 rcases c with⟨rfl,e⟩ | ⟨rfl,c⟩ | ⟨rfl,c⟩ | ⟨rfl,c⟩
 ·exact .inl ⟨e,q⟩
 ·rcases c with⟨v,hv,e | e | e | e | e⟩ | e | ⟨u,v,hv,lu,lv,e | e⟩<;>refine .inr ⟨_,_,e,by decide +kernel,λl H1 s1 el=> ?_⟩
  ·exact .inl ⟨by decide +kernel,X.S.st,l,_,rfl,(A.same s1).st,el,.inr (.inr (.inr (.inr (.inl ⟨v,rfl,X,cs,[],M6 y,v,rfl,T.s4,(A.same s1).2,nn hv,go s1⟩))))⟩
  ·exact .inr ⟨by decide +kernel,X.S.st,l,_,rfl,(A.same s1).st,el,.inl ⟨v,rfl,X,cs,[],M6 y,v,rfl,T.s4,(A.same s1).2,λ_ _ z=>(by rw[nn hv]at z;cases z),λ_=>go s1⟩⟩
  ·exact .inr ⟨by decide +kernel,X.S.st,l,_,rfl,(A.same s1).st,el,.inr (.inr ⟨v,rfl,X,cs,[],M6 y,v,rfl,T.s4,(A.same s1).2,λ_ _ z=>(by rw[nn hv]at z;cases z),λ_=>go s1⟩)⟩
  ·exact .inl ⟨by decide +kernel,X.S.st,l,_,rfl,(A.same s1).st,el,.inr (.inl ⟨v,_,rfl,X,cs,[],M6 y,v,_,rfl,T.s4,(A.same s1).2,by decide +kernel,by decide +kernel,by omega,λ_ _ z=>(by rw[nn hv]at z;cases z),λ_=>go s1,λ⟨_,z⟩=>(by rw[nn hv]at z;cases z),λ⟨_,z⟩=>(by rw[nn hv]at z;cases z)⟩)⟩
  ·exact .inl ⟨by decide +kernel,X.S.st,l,_,rfl,(A.same s1).st,el,.inr (.inr (.inr (.inr (.inr ⟨v,_,0,rfl,by decide +kernel,by decide +kernel,X,cs,[],M6 y,v,_,rfl,T.s4,(A.same s1).2,.inl ⟨nn hv,go s1⟩⟩))))⟩
  ·exact .inl ⟨by decide +kernel,X.S.st,l,_,rfl,(A.same s1).st,el,.inl ⟨n,rfl,X,cs,[],M6 y,n,rfl,T.s4,(A.same s1).2,by have:=hn'.2.1;omega,by omega,λz=>(by rw[hn'.1]at z;cases z),λ_=>go s1,λz=>(by rw[hn'.1]at z;cases z),λz=>(by rw[hn'.1]at z;cases z)⟩⟩
  ·exact .inl ⟨by decide +kernel,X.S.st,l,_,rfl,(A.same s1).st,el,.inr (.inr (.inl ⟨u,v,rfl,X,cs,[],M6 y,u,v,rfl,T.s4,(A.same s1).2,by omega,by omega,.inl ⟨by rcases hv with rfl | rfl<;>rw[hn'.1]<;>simp,go s1⟩⟩))⟩
  ·exact .inl ⟨by decide +kernel,X.S.st,l,_,rfl,(A.same s1).st,el,.inr (.inr (.inr (.inl ⟨u,v,rfl,X,cs,[],M6 y,u,v,rfl,T.s4,(A.same s1).2,by omega,by omega,.inl ⟨by rcases hv with rfl | rfl<;>rw[hn'.1]<;>simp,go s1⟩⟩)))⟩
 ·rcases c with⟨t,ht,lt,st,e⟩ | ⟨b,b1,b2,e⟩<;>refine .inr ⟨_,_,e,by decide +kernel,λl H1 s1 el=>.inl ⟨by decide +kernel,X.S.st,l,_,rfl,(A.same s1).st,el,?_⟩⟩
  ·exact .inr (.inl ⟨y,_,rfl,X,cs,[],M6 y,y,_,rfl,T.s4,(A.same s1).2,by omega,st,by omega,λ_ _ _ _ _ z=>(by rw[ht]at z;cases z),λz=>(by rw[c6]at z;cases z),λ_ _=>go s1,λ_ z=>(by rw[ht]at z;cases z)⟩)
  ·exact .inr (.inr (.inr (.inr (.inr ⟨y,_,b,rfl,Nat.le_trans (fF (by omega) (by omega)) (by omega),PySem.W.KIN.num_reads (by omega) (by omega),X,cs,[],M6 y,y,_,rfl,T.s4,(A.same s1).2,.inr ⟨0,0,1,[0],c6,hn,rfl,hr,rfl,by simp,.inr (by simp;omega),go s1⟩⟩))))
 ·rcases c with e | e | e<;>refine .inr ⟨_,_,e,by decide +kernel,λl H1 s1 el=>.inl ⟨by decide +kernel,X.S.st,l,_,rfl,(A.same s1).st,el,?_⟩⟩
  ·exact .inl ⟨y,rfl,X,cs,[],M6 y,y,rfl,T.s4,(A.same s1).2,by have:=(F7 hy).2.2;omega,by omega,λ_ z=>(by rw[c6]at z;cases z),λz=>(by rw[hy]at z;cases z),λ_ _=>go s1,λ_ z=>(by rw[c6]at z;cases z)⟩
  ·exact .inr (.inr (.inl ⟨y,y,rfl,X,cs,[],M6 y,y,y,rfl,T.s4,(A.same s1).2,by have:=(F7 hy).2.2;omega,by have:=(F7 hy).2.2;omega,.inr ⟨by rw[hy];rfl,⟨0,c6⟩,go s1⟩⟩))
  ·exact .inr (.inr (.inr (.inl ⟨y,y,rfl,X,cs,[],M6 y,y,y,rfl,T.s4,(A.same s1).2,by have:=(F7 hy).2.2;omega,by have:=(F7 hy).2.2;omega,.inr ⟨by rw[hy];rfl,⟨0,c6⟩,go s1⟩⟩)))
end
theorem zdp(h:OL K a vs H Q E):X2 K a (λ_=>E) (BD Q) (A0 ["house","row","due","kinds","right","other","e","wanted"] vs) H:=by
 obtain⟨h,X,cs,y,n,w,z,d,rfl,TX,W,hn,hw,hc,q⟩:=h
 push_cast[X2,↓Zm,↓Zp,↓Zq,↓Zz,↓Zv]
 refine⟨by decide,λp hp=> ?_⟩
 have s0:=AL (o:=.lst []) hp
 obtain⟨dh,e⟩:=W.A.1
 refine⟨_,_,s0 _ _ e,rfl,(W.same s0).refuse hn hw hc λH1 s1=> ?_⟩
 have sH:=s0.trans s1
 clear s0 s1 e
 have fin:∀ {b1 b2 b3 b4:Bool},CX K a d b1 b2 b3 b4->decide (Str.ofString d=Str.ofString "NoName")=b1->decide (Str.ofString d=Str.ofString "NoPiece")=b2->decide (Str.ofString d=Str.ofString "Twice")=b3->decide (Str.ofString d=Str.ofString "NoRow")=b4->TQ (λcls=>PySem.W.exmOne K cls (.ref (a "HoldError"))) 6 (AH (XX K a (λ_=>E) λ_=>E) (AH (XY K a (λ_=>E) λ_=>E) (XZ K a (λ_=>E) λ_=>E))) TN (.ref (a d)) { nx:=AH (X0 K a (λ_=>E) λ_=>E) (X1 K a (λ_=>E) λ_=>E) (BD Q),rt:=Q } [some (.ref h),some (.str z),some (.str (Str.ofString d)),some (.ref p),some (.bl false),some (.bl false),none,none] H1:=by
  intro b1 b2 b3 b4 C e1 e2 e3 e4
  refine .inl ⟨C.h,λe he=> ?_⟩
  have ty:∀ {H2:Hp},Same (upd H1 e (.ext (ID e (.ref (a d))))) H2->TyX K H2 (.ref e) (.ref (a d)):=λs=>.inr ⟨e,a d,rfl,rfl,s _ _ AG,C.e⟩
  push_cast[↓Zw]
  refine NQ (ty (Same.refl _)) (.own _) C.k1 (NQ (ty (Same.refl _)) (.own _) C.k2 (NQ (ty (Same.refl _)) (.own _) C.k3 (NQ (ty (Same.refl _)) (.own _) C.k4 ⟨by decide,λk hk=> ?_⟩)))
  push_cast[↓Zx]
  have s2:=AL (o:=.lst [.bl b1,.bl b2,.bl b3,.bl b4]) hk
  refine⟨by decide,λt ht=>Bw (ty (s2.trans (AL ht))) (SqT.of AG) (.cons (.own _) (.cons (.own _) (.cons (.own _) (.cons (.own _) .nil)))) C.o ?_⟩
  push_cast[↓Zy]
  refine NQ (ty (s2.trans (AL ht))) (.ty _) C.v ?_
  push_cast[↓zaa,e1,e2,e3,e4]
  refine⟨by decide,λl hl=> ?_⟩
  push_cast[↓zab]
  exact Bz (xs:=[.bl b1,.bl b2,.bl b3,.bl b4]) (SqL.of (AL hl _ _ (AL ht _ _ AG))) (SqL.of AG) (by simp[JF]) (q _ (sH.trans ((AL he).trans (s2.trans ((AL ht).trans (AL hl))))))
 rcases hc.2 with⟨rfl,_⟩ | ⟨rfl,_⟩ | ⟨rfl,_⟩ | ⟨rfl,_⟩
 ·exact fin TX.r (by decide +kernel) (by decide +kernel) (by decide +kernel) (by decide +kernel)
 ·exact fin TX.n (by decide +kernel) (by decide +kernel) (by decide +kernel) (by decide +kernel)
 ·exact fin TX.p (by decide +kernel) (by decide +kernel) (by decide +kernel) (by decide +kernel)
 ·exact fin TX.t (by decide +kernel) (by decide +kernel) (by decide +kernel) (by decide +kernel)
theorem zdq(h:OM K a vs H Q E):X3 K a (λ_=>E) (BD Q) (A0 ["house","name"] vs) H:=by
 obtain⟨h,X,cs,y,rfl,W,q⟩:=h
 have hyl:=(F7 W.y).2.2
 obtain⟨dh,e⟩:=W.A.1
 push_cast[X3,↓zac]
 refine⟨_,_,e,rfl,W.A.names W.T (ks:=[y]) (λl hl=> ?_) (by simp;omega) λH1 s1=> ?_⟩
 ·rw[zdo W.n]at hl
  exact List.perm_singleton.mp hl
 have ej:IK [y]=y:=by
  show Txt.join (Str.ofString " ") [y]=y
  rfl
 rw[ej]
 have W1:=W.same s1
 refine⟨_,_,s1 _ _ e,rfl,BV _ (by rw[show(Str.ofString "show ").length=5 by decide +kernel];omega),W1.A.shows W.T W.r (OQ W.n) rfl (ps:=[0]) (ts:=["first"]) rfl (by simp) (.cons ⟨by have:=W.c;omega,rfl⟩ .nil) W.y λp H2 s2 e2=> ?_⟩
 refine⟨"",p,["first"],rfl,rfl,SqL.of e2,by decide +kernel,by decide +kernel,?_⟩
 rw[show Txt.join (Str.ofString "") [Str.ofString "first"]=Str.ofString "first" by decide +kernel]
 have W2:=W1.same s2
 refine⟨_,_,s2 _ _ (s1 _ _ e),rfl,BV _ (by rw[show(Str.ofString "keep ").length=5 by decide +kernel];omega),W2.keep λrow H3 s3 hrow=> ?_⟩
 exact⟨by decide,λl hl=>q l row _ (s1.trans (s2.trans (s3.trans (AL hl)))) hrow AG⟩
theorem zdr{p u v:Str}{w:List Nat}(hp:p.cps.toList=w++[32])(hw:32∉w)(hu:32∉u.cps.toList)(hv:32∉v.cps.toList):CC (p++u++Str.ofString " "++v)=FG [w,u.cps.toList,v.cps.toList]:=by
 unfold CC
 rw[FW,FW,FW,hp,show(Str.ofString " ").cps.toList=[32] by decide +kernel,List.append_assoc,List.append_assoc,List.append_assoc]
 show FG (CG (w++32::(u.cps.toList++32::v.cps.toList)))=_
 rw[HE hw,HE hu,LZ hv]
section
variable{y n w u v:Str}
theorem w2{p k:Str}{c:List Nat}(hp:p.cps.toList=c++[32])(hc:32∉c)(hv:32∉v.cps.toList)(h:∀ u,FG [c,u]=some [BL c,BL u])(hk:BL c=k):CC (p++v)=some [k,v]:=by
 rw[RX hp hc hv,h,F5,hk]
theorem w3{p q k t:Str}{c x:List Nat}(hp:p.cps.toList=c++[32])(hc:32∉c)(hv:32∉v.cps.toList)(hq:q.cps.toList=32::x)(hx:32∉x)(h:∀ u,FG [c,u,x]=some [BL c,BL u,BL x])(hk:BL c=k)(ht:BL x=t):CC (p++v++q)=some [k,v,t]:=by
 rw[zdj hp hc hv hq hx,h,F5,hk,ht]
theorem RY{p k:Str}{c:List Nat}(hp:p.cps.toList=c++[32])(hc:32∉c)(hu:32∉u.cps.toList)(hv:32∉v.cps.toList)(h:FG [c,u.cps.toList,v.cps.toList]=some [BL c,BL u.cps.toList,BL v.cps.toList])(hk:BL c=k):CC (p++u++Str.ofString " "++v)=some [k,u,v]:=by
 rw[zdr hp hc hu hv,h,F5,F5,hk]
theorem l2{p:Str}(hp:p.length<=20)(hv:v.length<=20):(p++v).length<=900:=by rw[DK];omega
theorem l3{p q:Str}(hp:p.length<=20)(hv:v.length<=20)(hq:q.length<=20):(p++v++q).length<=900:=by rw[DK,DK];omega
theorem l4{p:Str}(hp:p.length<=20)(hu:u.length<=20)(hv:v.length<=100):(p++u++Str.ofString " "++v).length<=900:=by rw[DK,DK,DK,show(Str.ofString " ").length=1 by decide +kernel];omega
abbrev CN(y n w z:Str):Prop:=EB y n w z "NoName"
theorem qK(h:v=n\/v=w)(hv:32∉v.cps.toList)(hl:v.length<=20):CN y n w (Str.ofString "cut "++v):=⟨l2 (by decide +kernel) hl,.inr (.inl ⟨rfl,.inl ⟨v,h,.inl (w2 (c:=[99,117,116]) (by decide +kernel) (by decide) hv (λ_=>rfl) (by decide +kernel))⟩⟩)⟩
theorem qL(h:v=n\/v=w)(hv:32∉v.cps.toList)(hl:v.length<=20):CN y n w (Str.ofString "keep "++v):=⟨l2 (by decide +kernel) hl,.inr (.inl ⟨rfl,.inl ⟨v,h,.inr (.inl (w2 (c:=[107,101,101,112]) (by decide +kernel) (by decide) hv (λ_=>rfl) (by decide +kernel)))⟩⟩)⟩
theorem qM(h:v=n\/v=w)(hv:32∉v.cps.toList)(hl:v.length<=20):CN y n w (Str.ofString "show "++v):=⟨l2 (by decide +kernel) hl,.inr (.inl ⟨rfl,.inl ⟨v,h,.inr (.inr (.inl (w2 (c:=[115,104,111,119]) (by decide +kernel) (by decide) hv (λ_=>rfl) (by decide +kernel))))⟩⟩)⟩
theorem qN(h:v=n\/v=w)(hv:32∉v.cps.toList)(hl:v.length<=20):CN y n w (Str.ofString "put "++v++Str.ofString " a"):=⟨l3 (by decide +kernel) hl (by decide +kernel),.inr (.inl ⟨rfl,.inl ⟨v,h,.inr (.inr (.inr (.inl (w3 (c:=[112,117,116]) (x:=[97]) (by decide +kernel) (by decide) hv (by decide +kernel) (by decide) (λ_=>rfl) (by decide +kernel) (by decide +kernel)))))⟩⟩)⟩
theorem zds(h:v=n\/v=w)(hv:32∉v.cps.toList)(hl:v.length<=20):CN y n w (Str.ofString "take "++v++Str.ofString " 0"):=⟨l3 (by decide +kernel) hl (by decide +kernel),.inr (.inl ⟨rfl,.inl ⟨v,h,.inr (.inr (.inr (.inr (w3 (c:=[116,97,107,101]) (x:=[48]) (by decide +kernel) (by decide) hv (by decide +kernel) (by decide) (λ_=>rfl) (by decide +kernel) (by decide +kernel)))))⟩⟩)⟩
theorem qO(hv:32∉v.cps.toList):CC (Str.ofString "make "++v)=some [("make":Str),v]:=w2 (c:=[109,97,107,101]) (by decide +kernel) (by decide) hv (λ_=>rfl) (by decide +kernel)
theorem qP(hu:32∉u.cps.toList)(hv:32∉v.cps.toList):CC (Str.ofString "link "++u++Str.ofString " "++v)=some [("link":Str),u,v]:=RY (c:=[108,105,110,107]) (by decide +kernel) (by decide) hu hv rfl (by decide +kernel)
theorem qQ(hu:32∉u.cps.toList)(hv:32∉v.cps.toList):CC (Str.ofString "move "++u++Str.ofString " "++v)=some [("move":Str),u,v]:=RY (c:=[109,111,118,101]) (by decide +kernel) (by decide) hu hv rfl (by decide +kernel)
theorem qR(h:u=n\/v=n)(hu:32∉u.cps.toList)(hv:32∉v.cps.toList)(lu:u.length<=20)(lv:v.length<=20):CN y n w (Str.ofString "link "++u++Str.ofString " "++v):=⟨l4 (by decide +kernel) lu (by omega),.inr (.inl ⟨rfl,.inr (.inr ⟨u,v,h,lu,lv,.inl (qP hu hv)⟩)⟩)⟩
theorem qS(h:u=n\/v=n)(hu:32∉u.cps.toList)(hv:32∉v.cps.toList)(lu:u.length<=20)(lv:v.length<=20):CN y n w (Str.ofString "move "++u++Str.ofString " "++v):=⟨l4 (by decide +kernel) lu (by omega),.inr (.inl ⟨rfl,.inr (.inr ⟨u,v,h,lu,lv,.inr (qQ hu hv)⟩)⟩)⟩
theorem zdt(hy:32∉y.cps.toList)(ly:y.length<=20):EB y n w (Str.ofString "put "++y++Str.ofString " ") "NoPiece":=⟨l3 (by decide +kernel) ly (by decide +kernel),.inr (.inr (.inl ⟨rfl,.inl ⟨BL [],by decide +kernel,by decide +kernel,by decide +kernel,w3 (c:=[112,117,116]) (x:=[]) (by decide +kernel) (by decide) hy (by decide +kernel) (by decide) (λ_=>rfl) (by decide +kernel) rfl⟩⟩))⟩
theorem zdu(hy:32∉y.cps.toList)(ly:y.length<=20):EB y n w (Str.ofString "put "++y++Str.ofString " "++LJ (Str.ofString "x") 41) "NoPiece":=⟨l4 (by decide +kernel) ly (by decide +kernel),.inr (.inr (.inl ⟨rfl,.inl ⟨_,by decide +kernel,by decide +kernel,by decide +kernel,RY (c:=[112,117,116]) (by decide +kernel) (by decide) hy (by decide +kernel) rfl (by decide +kernel)⟩⟩))⟩
theorem zdv:∀ b:Fin 1000,GS (DI (b.val:Nat)).cps.toList=true/\32∉(DI (b.val:Nat)).cps.toList/\(DI (b.val:Nat)).length<=4:=by decide +kernel
theorem zdw{x z:List Nat}(h:GS z=true):FG [[116,97,107,101],x,z]=some [BL [116,97,107,101],BL x,BL z]:=by
 show(if BL [116,97,107,101]∈IJ/\GS z=false then none else some [BL [116,97,107,101],BL x,BL z])=_
 rw[if_neg λe=>by rw[h]at e;cases e.2]
theorem zdx{x z:List Nat}(h:GS z=false):FG [[116,97,107,101],x,z]=none:=by
 show(if BL [116,97,107,101]∈IJ/\GS z=false then none else some [BL [116,97,107,101],BL x,BL z])=_
 rw[if_pos ⟨by decide +kernel,h⟩]
theorem zdy(hy:32∉y.cps.toList)(ly:y.length<=20){b:Nat}(h1:1<=b)(h2:b<1000):EB y n w (Str.ofString "take "++y++Str.ofString " "++DI b) "NoPiece":=by
 obtain⟨e1,e2,e3⟩:=zdv ⟨b,h2⟩
 exact⟨l4 (by decide +kernel) ly (by simp only at e3;omega),.inr (.inr (.inl ⟨rfl,.inr ⟨b,h1,h2,RY (c:=[116,97,107,101]) (by decide +kernel) (by decide) hy e2 (zdw e1) (by decide +kernel)⟩⟩))⟩
theorem zdz:∀ b:Fin 10,GS (48::(DI (b.val:Nat)).cps.toList)=false/\32∉(DI (b.val:Nat)).cps.toList/\(DI (b.val:Nat)).length<=4:=by decide +kernel
theorem zd0(hv:32∉v.cps.toList)(hl:v.length<=20){b:Nat}(h:b<10):EB y n w (Str.ofString "take "++v++Str.ofString " 0"++DI b) "NoRow":=by
 obtain⟨e1,e2,e3⟩:=zdz ⟨b,h⟩
 refine⟨?_,.inl ⟨rfl,?_⟩⟩
 ·simp only at e3
  rw[DK,DK,DK,show(Str.ofString " 0").length=2 by decide +kernel,show(Str.ofString "take ").length=5 by decide +kernel];omega
 ·unfold CC
  rw[FW,FW,FW,show(Str.ofString "take ").cps.toList=[116,97,107,101]++[32] by decide +kernel,show(Str.ofString " 0").cps.toList=[32,48] by decide +kernel,List.append_assoc,List.append_assoc,List.append_assoc]
  show FG (CG ([116,97,107,101]++32::(v.cps.toList++32::(48::(DI b).cps.toList))))=_
  rw[HE (by decide),HE hv,LZ (List.not_mem_cons_of_ne_of_not_mem (by decide) e2),zdx e1]
end
def CaL(y n w:Str)(H:Hp)(l:Addr)(k:Nat):Prop:=∃ ts:List Addr,H l=some (.lst (ts.map V.ref))/\ts.length=k/\∀ t∈ts,∃ z d,H t=some (.tup [.str z,.str (Str.ofString d)])/\EB y n w z d
section
variable{y n w:Str}{l l' p1 p2 p3:Addr}{k m:Nat}{z1 z2 z3:Str}{d1 d2 d3:String}
theorem CaL.same{H':Hp}(B:CaL y n w H l k)(s:Same H H'):CaL y n w H' l k:=by
 obtain⟨ts,e,hl,ht⟩:=B
 refine⟨ts,s _ _ e,hl,λt h=> ?_⟩
 obtain⟨z,d,e,c⟩:=ht t h
 exact⟨z,d,s _ _ e,c⟩
abbrev tT(z:Str)(d:String):HO:=.tup [.str z,.str (Str.ofString d)]
theorem KQ(h1:H p1=none)(h2:upd H p1 (tT z1 d1) p2=none)(h3:upd (upd H p1 (tT z1 d1)) p2 (tT z2 d2) l=none)(c1:EB y n w z1 d1)(c2:EB y n w z2 d2):Same H (upd (upd (upd H p1 (tT z1 d1)) p2 (tT z2 d2)) l (.lst [.ref p1,.ref p2]))/\CaL y n w (upd (upd (upd H p1 (tT z1 d1)) p2 (tT z2 d2)) l (.lst [.ref p1,.ref p2])) l 2 :=
  ⟨(AL h1).trans ((AL h2).trans (AL h3)),[p1,p2],AG,rfl,λt ht=>by
    rcases List.mem_cons.mp ht with rfl | ht
    ·exact⟨_,_,AL h3 _ _ (AL h2 _ _ AG),c1⟩
    · rw[List.mem_singleton.mp ht]
      exact⟨_,_,AL h3 _ _ AG,c2⟩⟩
theorem qT(h1:H p1=none)(h2:upd H p1 (tT z1 d1) p2=none)(h3:upd (upd H p1 (tT z1 d1)) p2 (tT z2 d2) p3=none)(h4:upd (upd (upd H p1 (tT z1 d1)) p2 (tT z2 d2)) p3 (tT z3 d3) l=none)(c1:EB y n w z1 d1)(c2:EB y n w z2 d2)(c3:EB y n w z3 d3):Same H (upd (upd (upd (upd H p1 (tT z1 d1)) p2 (tT z2 d2)) p3 (tT z3 d3)) l (.lst [.ref p1,.ref p2,.ref p3]))/\CaL y n w (upd (upd (upd (upd H p1 (tT z1 d1)) p2 (tT z2 d2)) p3 (tT z3 d3)) l (.lst [.ref p1,.ref p2,.ref p3])) l 3 :=
  ⟨(AL h1).trans ((AL h2).trans ((AL h3).trans (AL h4))),[p1,p2,p3],AG,rfl,λt ht=>by
    rcases List.mem_cons.mp ht with rfl | ht
    ·exact⟨_,_,AL h4 _ _ (AL h3 _ _ (AL h2 _ _ AG)),c1⟩
    · rcases List.mem_cons.mp ht with rfl | ht
      ·exact⟨_,_,AL h4 _ _ (AL h3 _ _ AG),c2⟩
      · rw[List.mem_singleton.mp ht]
        exact⟨_,_,AL h4 _ _ AG,c3⟩⟩
theorem CaL.cat{H1:Hp}{Q:VK}(B:CaL y n w H l k)(C:Same H H1/\CaL y n w H1 l' m)(hk:k<=100)(hm:m<=100)(q:∀ l2 H',Same H H'->CaL y n w H' l2 (k+m)->Q (.ref l2) H'):PP (.ref l) (.ref l') H1 Q:=by
 obtain⟨s,us,e',hu,hc⟩:=C
 obtain⟨ts,e,hl,ht⟩:=B.same s
 refine⟨l,l',_,_,rfl,rfl,e,e',by rw[List.length_map,List.length_map,sizeLine_eq];omega,λl2 GW=>q l2 _ (s.trans (AL GW)) ⟨ts++us,by rw[AG,List.map_append],by rw[List.length_append,hl,hu],λt h=> ?_⟩⟩
 obtain⟨z,d,e,c⟩:=(List.mem_append.mp h).elim (ht t) (hc t)
 exact⟨z,d,AL GW _ _ e,c⟩
theorem B7{p v:Str}(h:(p++v).length<=900):p.length+v.length<=sizeLine:=by rw[DK]at h;exact BV _ (by omega)
theorem C9{p u v:Str}(h:(p++u++v).length<=900):(p++u).length<=900:=by rw[DK]at h;omega
end
theorem zd1(h:RP K a vs H Q E):V1 K a (λ_=>E) (BD Q) (A0 ["cell","name","none","away","rest","cases","word"] vs) H:=by
 obtain⟨x,y,n,w,rfl,hy,hn,hw,q⟩:=h
 have yl:y.length<=20:=by have:=(F7 hy).2.2;omega
 have wl:w.length<=20:=by have:=(F7 hw).2.2;omega
 have nl:n.length<=20:=by have:=hn.2.1;omega
 have yb:=IL hy
 have wb:=IL hw
 have nb:=hn.2.2
 have a1:CN y n w (Str.ofString "make "++n):=⟨l2 (by decide +kernel) nl,.inr (.inl ⟨rfl,.inr (.inl (qO nb))⟩)⟩
 have a2:CN y n w (Str.ofString "link "++n++Str.ofString " "++w):=qR (.inl rfl) nb wb nl wl
 have a3:CN y n w (Str.ofString "link "++y++Str.ofString " "++n):=qR (.inr rfl) yb nb yl nl
 have a4:CN y n w (Str.ofString "cut "++n):=qK (.inl rfl) nb nl
 have a5:CN y n w (Str.ofString "put "++n++Str.ofString " a"):=qN (.inl rfl) nb nl
 have a6:CN y n w (Str.ofString "take "++n++Str.ofString " 0"):=zds (.inl rfl) nb nl
 have a7:CN y n w (Str.ofString "move "++n++Str.ofString " "++w):=qS (.inl rfl) nb wb nl wl
 have a8:CN y n w (Str.ofString "move "++y++Str.ofString " "++n):=qS (.inr rfl) yb nb yl nl
 have a9:CN y n w (Str.ofString "keep "++n):=qL (.inl rfl) nb nl
 have a10:CN y n w (Str.ofString "show "++n):=qM (.inl rfl) nb nl
 have a11:CN y n w (Str.ofString "cut "++w):=qK (.inr rfl) wb wl
 have a12:CN y n w (Str.ofString "keep "++w):=qL (.inr rfl) wb wl
 have a13:CN y n w (Str.ofString "show "++w):=qM (.inr rfl) wb wl
 have a14:CN y n w (Str.ofString "put "++w++Str.ofString " a"):=qN (.inr rfl) wb wl
 have a15:EB y n w (Str.ofString "put "++y++Str.ofString " ") "NoPiece":=zdt yb yl
 have a16:EB y n w (Str.ofString "put "++y++Str.ofString " "++LJ (Str.ofString "x") 41) "NoPiece":=zdu yb yl
 have a18:EB y n w (Str.ofString "make "++y) "Twice":=⟨l2 (by decide +kernel) yl,.inr (.inr (.inr ⟨rfl,.inl (qO yb)⟩))⟩
 push_cast[V1,↓Pp,↓Pq]
 refine⟨⟨by decide,by decide⟩,B7 a1.1,by decide,λp1 h1=>⟨B7 (C9 (C9 a2.1)),B7 (C9 a2.1),B7 a2.1,by decide,λp2 h2=>⟨by decide,λl1 h3=> ?_⟩⟩⟩
 obtain⟨s1,B⟩:=KQ h1 h2 h3 a1 a2
 clear h1 h2 h3
 revert s1 B
 generalize upd _ l1 _=H1
 intro s1 B
 push_cast[↓Pw]
 refine⟨B7 (C9 (C9 a3.1)),B7 (C9 a3.1),B7 a3.1,by decide,λp1 h1=>⟨B7 a4.1,by decide,λp2 h2=>⟨by decide,λl2 h3=>.inl (B.cat (KQ h1 h2 h3 a3 a4) (by omega) (by omega) λl2 H2 s2 B=> ?_)⟩⟩⟩
 replace s2:=s1.trans s2
 push_cast[↓Px]
 refine⟨B7 (C9 a5.1),B7 a5.1,by decide,λp1 h1=>⟨B7 (C9 a6.1),B7 a6.1,by decide,λp2 h2=>⟨by decide,λl3 h3=>.inl (B.cat (KQ h1 h2 h3 a5 a6) (by omega) (by omega) λl3 H3 s3 B=> ?_)⟩⟩⟩
 replace s3:=s2.trans s3
 push_cast[↓Py]
 refine⟨B7 (C9 (C9 a7.1)),B7 (C9 a7.1),B7 a7.1,by decide,λp1 h1=>⟨B7 (C9 (C9 a8.1)),B7 (C9 a8.1),B7 a8.1,by decide,λp2 h2=>⟨by decide,λl4 h3=>.inl (B.cat (KQ h1 h2 h3 a7 a8) (by omega) (by omega) λl4 H4 s4 B=> ?_)⟩⟩⟩
 replace s4:=s3.trans s4
 push_cast[↓Pz]
 refine⟨B7 a9.1,by decide,λp1 h1=>⟨B7 a10.1,by decide,λp2 h2=>⟨B7 a11.1,by decide,λp3 h3=>⟨by decide,λl5 h4=>.inl (B.cat (qT h1 h2 h3 h4 a9 a10 a11) (by omega) (by omega) λl5 H5 s5 B=> ?_)⟩⟩⟩⟩
 replace s5:=s4.trans s5
 push_cast[↓Qb]
 refine⟨B7 a12.1,by decide,λp1 h1=>⟨B7 a13.1,by decide,λp2 h2=>⟨B7 (C9 a14.1),B7 a14.1,by decide,λp3 h3=>⟨by decide,λl6 h4=>.inl (B.cat (qT h1 h2 h3 h4 a12 a13 a14) (by omega) (by omega) λl6 H6 s6 B=> ?_)⟩⟩⟩⟩
 replace s6:=s5.trans s6
 clear a1 a2 a3 a4 a5 a6 a7 a8 a9 a10 a11 a12 a13 a14
 push_cast[↓Qc]
 refine⟨B7 (C9 a15.1),B7 a15.1,by decide,λp1 h1=>⟨B7 (C9 (C9 a16.1)),B7 (C9 a16.1),by decide +kernel,B7 a16.1,by decide,λp2 h2=>⟨by decide,λl7 h3=>.inl (B.cat (KQ h1 h2 h3 a15 a16) (by omega) (by omega) λl7 H7 s7 B=> ?_)⟩⟩⟩
 replace s7:=s6.trans s7
 clear a15 a16
 obtain⟨b,eb,hb⟩:=KM (x / 20) (n:=999) (by omega)
 rw[show((999:Nat):Int)=999 from rfl]at eb
 have a17:EB y n w (Str.ofString "take "++y++Str.ofString " "++DI (1+b:Nat)) "NoPiece":=zdy yb yl (by omega) (by omega)
 push_cast[↓Qd]
 rw[eb,show(1:Int)+(b:Nat)=((1+b:Nat):Int) by omega]
 refine⟨B7 (C9 (C9 a17.1)),B7 (C9 a17.1),_,rfl,by omega,by omega,?_⟩
 push_cast[]
 refine⟨B7 a17.1,by decide,λp1 h1=>⟨B7 a18.1,by decide,λp2 h2=>⟨by decide,λl8 h3=>.inl (B.cat (KQ h1 h2 h3 a17 a18) (by omega) (by omega) λl8 H8 s8 B=> ?_)⟩⟩⟩
 replace s8:=s7.trans s8
 clear a17 a18
 push_cast[↓Qg]
 refine⟨by decide,λl9 h9=> ?_⟩
 have s9:=s8.trans (AL (o:=.lst ([("link ":Str),"move "].map V.str)) h9)
 have e9:upd H8 l9 (.lst ([("link ":Str),"move "].map V.str)) l9=some (.lst ([("link ":Str),"move "].map V.str)):=AG
 replace B:=B.same (AL (o:=.lst ([("link ":Str),"move "].map V.str)) h9)
 show DM K (.ref l9) (.int (x / 20 % 2)) (upd H8 l9 (.lst ([("link ":Str),"move "].map V.str))) _
 revert s9 e9 B
 generalize upd H8 l9 (.lst ([("link ":Str),"move "].map V.str))=H9
 intro s9 e9 B
 obtain⟨j,ej,hj⟩:=KM (x / 20) (n:=2) (by omega)
 rw[show((2:Nat):Int)=2 from rfl]at ej
 rw[ej]
 have hj':j<[("link ":Str),"move "].length:=hj
 refine qI e9 (List.getElem?_eq_getElem hj') ?_
 have a19:EB y n w ([("link ":Str),"move "][j]++y++Str.ofString " "++y) "Twice":=by
  match j,hj' with
  | 0,_=>exact⟨L2.l4 (show(Str.ofString "link ").length<=20 by decide +kernel) yl (by omega),.inr (.inr (.inr ⟨rfl,.inr (.inl (qP yb yb))⟩))⟩
  | 1,_=>exact⟨L2.l4 (show(Str.ofString "move ").length<=20 by decide +kernel) yl (by omega),.inr (.inr (.inr ⟨rfl,.inr (.inr (qQ yb yb))⟩))⟩
 revert a19
 generalize [("link ":Str),"move "][j]=wd
 intro a19
 obtain⟨c,ec,hc⟩:=KM (x / 20) (n:=10) (by omega)
 rw[show((10:Nat):Int)=10 from rfl]at ec
 have a20:EB y n w (Str.ofString "take "++w++Str.ofString " 0"++DI c) "NoRow":=zd0 wb wl hc
 push_cast[↓Qh]
 rw[ec]
 refine⟨B7 (C9 (C9 a19.1)),B7 (C9 a19.1),B7 a19.1,by decide,λp1 h1=>⟨B7 (C9 (C9 a20.1)),B7 (C9 a20.1),_,rfl,by omega,by omega,?_⟩⟩
 push_cast[]
 refine⟨B7 a20.1,by decide,λp2 h2=>⟨by decide,λl10 h3=>.inl (B.cat (KQ h1 h2 h3 a19 a20) (by omega) (by omega) λl10 H10 s10 B=> ?_)⟩⟩
 obtain⟨ts,e10,hl,ht⟩:=B
 obtain⟨i,ei,hi⟩:=KM x (n:=20) (by omega)
 rw[show((20:Nat):Int)=20 from rfl]at ei
 push_cast[↓Qj]
 rw[ei]
 have hi':i<ts.length:=by omega
 obtain⟨z,d,et,cz⟩:=ht _ (List.getElem_mem hi')
 exact C4 (SqL.of e10) (n:=i) (v:=.ref ts[i]) rfl (by rw[List.getElem?_map,List.getElem?_eq_getElem hi'];rfl) (q _ z d _ et cz (s9.trans s10))
def Sc(K:W.Frag)(H:Hp)(s:Addr)(xs:List V)(N:Prop):Prop:=(∀ H,SqL K H s xs)\/(Rd H s (.lst xs)/\N)
theorem Sc.sq{s:Addr}{xs:List V}{N:Prop}(h:Sc K H s xs N):SqL K H s xs:=h.elim (λh=>h H) λh=>.inl h.1
theorem Sc.sb{s:Addr}{xs:List V}{N:Prop}{G:Addr->Prop}{H':Hp}(h:Sc K H s xs N)(sb:SameBut G H H')(n:N->¬ G s):Sc K H' s xs N:=by
 rcases h with h | ⟨h,hn⟩
 ·exact .inl h
 ·refine .inr ⟨?_,hn⟩
  rcases h with h | ⟨o,h⟩
  ·exact .inl (sb _ _ h (n hn))
  ·exact .inr ⟨o,sb _ _ h (n hn)⟩
theorem Sc.of{s:Addr}{xs:List V}{N:Prop}(h:SqL K H s xs)(n:H s≠none->N):Sc K H s xs N:=by
 rcases h with h | h
 ·refine .inr ⟨h,n ?_⟩
  rcases h with h | ⟨o,h⟩<;>rw[h]<;>simp
 ·exact .inl λH=>.inr h
theorem qU{y t q:Str}{c:List Nat}(hy:32∉y.cps.toList)(hq:q.cps.toList=32::c)(hc:HP (CG c)=t.cps.toList/\CG c≠[]):CC (Str.ofString "put "++y++q)=some [("put":Str),y,t]:=by
 unfold CC
 rw[FW,FW,show(Str.ofString "put ").cps.toList=[112,117,116]++[32] by decide +kernel,hq,List.append_assoc,List.append_assoc]
 show FG (CG ([112,117,116]++32::(y.cps.toList++32::c)))=_
 rw[HE (by decide),HE hy]
 obtain⟨e,n⟩:=hc
 revert e n
 cases CG c with
 | nil=>intro _ n;exact absurd rfl n
 | cons v vs =>
  intro e _
  show some [BL [112,117,116],BL y.cps.toList,BL (HP (v::vs))]=_
  rw[e,F5,F5,show BL [112,117,116]=Str.ofString "put" by decide +kernel]
theorem qV{g:Str}(hg:PyData.strOk g=true):∀ (l:List Str) (BW:Array Nat),(BW.all λx=>decide (x<1114112))=true->(∀ z∈l,PyData.strOk z=true)->((l.foldl (λBW p=>BW++g.cps++p.cps) BW).all λx=>decide (x<1114112))=true
 | [],BW,h,_=>h
 | z::l,BW,h,hz=>by
  rw[List.foldl_cons]
  refine qV hg l _ ?_ λy hy=>hz y (List.mem_cons_of_mem _ hy)
  have h1:(g.cps.all λx=>decide (x<1114112))=true:=hg
  have h2:(z.cps.all λx=>decide (x<1114112))=true:=hz z List.mem_cons_self
  rw[Array.all_append,Array.all_append,h,h1,h2,Bool.true_and,Bool.true_and]
theorem zd2{g:Str}{l:List Str}(hg:PyData.strOk g=true)(h:∀ z∈l,PyData.strOk z=true):PyData.strOk (Txt.join g l)=true:=by
 unfold PyData.strOk Txt.join Builtin.Str.glued
 cases l with
 | nil=>show((Str.empty.cps).all λx=>decide (x<1114112))=true;decide +kernel
 | cons z l=>exact qV hg l z.cps (h z List.mem_cons_self) λy hy=>h y (List.mem_cons_of_mem _ hy)
theorem zd3:∀ b:Fin 1000,PyData.strOk (DI (b.val:Nat))=true:=by decide +kernel
theorem H75.rowOk{h:Addr}{X:SX}{cs:List Ch}{y:Str}{row:List Nat}(W:H75 K a H h X cs y)(hr:RowIs X cs row):PyData.strOk (IK (row.map λ(b:Nat)=>DI b))=true:=by
 obtain⟨R,_,o⟩:=hr
 unfold IK
 split
 ·decide +kernel
 ·refine zd2 (by decide +kernel) λz hz=> ?_
  obtain⟨b,hb,rfl⟩:=List.mem_map.mp hz
  obtain⟨c,hc,rfl⟩:=qJ o b hb
  have h1:=(W.A.2.bk.bk.inn c hc).1
  have h2:=W.A.2.bk.nb
  have h3:=W.A.2.sz
  exact zd3 ⟨c.blk,by omega⟩
theorem zd4(h:gD K a vs H Q E):X4 K a (λ_=>E) (BD Q) (A0 ["script","cell","house","name","ahead","none","row","due"] vs) H:=by
 obtain⟨s,ns,rfl,T,TX,hs,hl,q⟩:=h
 obtain⟨TB',TP,TL,TS⟩:=T.s4
 push_cast[X4,↓zad,↓Lx]
 refine⟨ns,0,rfl,hs,by omega,?_⟩
 generalize KD ns 0=x
 obtain⟨w,ew,hw⟩:∃ n:Nat,1+x % 4=n/\1<=n/\n<=4:=⟨(1+x % 4).toNat,by omega,by omega⟩
 push_cast[↓zae,ew]
 intro lp dl hlp hdl ndl
 have s0:Same H (upd (upd H dl (.own lp)) lp (.ins (a "Layout") dl [])):=(AL hdl).trans (AL (by rw[AK ndl.symm];exact hlp))
 refine⟨lp,dl,2,2,2,w,rfl,TL,AG,by omega,by omega,by omega,hw.1,by omega,λH2 L2 R9=>⟨rfl,λh dh hh hdh ndh=> ?_⟩⟩
 have s2:Same H H2:=λy o e=>R9 _ _ (s0 _ _ e) (BN e hlp)
 have s4:Same H2 (upd (upd H2 dh (.own h)) h (.ins (a "House") dh [])):=(AL hdh).trans (AL (by rw[AK ndh.symm];exact hh))
 refine⟨h,dh,lp,2,2,2,w,rfl,T,AG,L2.same s4,⟨by omega,by omega,by omega,by omega⟩,λS H5 elp off A sb=>⟨rfl,?_⟩⟩
 have s5:Same H2 H5:=λy o e=>sb _ _ (s4 _ _ e) (BN e hh)
 have sc:Sc K H2 s (ns.map V.int) (¬ (S.A.F s\/s=S.tk)):=Sc.of (s2.seq hs) λn z=>n (s4.free (off s (z.elim .inl λz=>.inr (.inl z))))
 replace sc:=sc.sb (G:=λ_=>False) (Same.sb s5) λ_ z=>z
 obtain⟨X,eX⟩:∃ X:SX,X=⟨S,2,2,2,w,List.replicate (2+2+2+2+2) (List.replicate w .non),0,λ_=>false⟩:=⟨_,rfl⟩
 rw[<-eX]at A
 have g:S=X.S/\0<X.r * X.w/\0<X.m0/\1<X.c * X.w:=by rw[eX];exact⟨rfl,by show 0<2 * w;omega,by show 0<2 * w;omega,by show 1<2 * w;omega⟩
 obtain⟨rfl,gr,gn,gc⟩:=g
 clear eX s0 s2 s4 s5 off sb R9 L2 hh hdh ndh hlp hdl ndl hs
 push_cast[↓zaf]
 refine⟨⟨by decide,by decide⟩,_,rfl,λy H6 hy yl5 s6=> ?_⟩
 replace A:=A.same s6
 replace sc:=sc.sb (G:=λ_=>False) (Same.sb s6) λ_ z=>z
 obtain⟨dh,e⟩:=A.1
 push_cast[↓zag]
 refine⟨_,_,e,rfl,BV _ (by rw[show(Str.ofString "make ").length=5 by decide +kernel];omega),A.make T gr gn hy λcs1 H7 l1 A1 sb1=> ?_⟩
 replace sc:=sc.sb sb1 λn=>n
 obtain⟨dh,e⟩:=A1.1
 push_cast[↓zah]
 refine⟨_,_,e,rfl,BV _ (by rw[show(Str.ofString "put ").length=4 by decide +kernel];omega),BV _ (by rw[DK,show(Str.ofString "put ").length=4 by decide +kernel,show(Str.ofString " first").length=6 by decide +kernel];omega),A1.put (ps:=[]) (p:=0) (t:="first") T (by omega) gr (zdl gn) rfl rfl (by simp) (KL (by omega) rfl λj hj=>by omega) (qU (c:=[102,105,114,115,116]) (IL hy) (by decide +kernel) (by decide +kernel)) (by rw[DK,DK,show(Str.ofString "put ").length=4 by decide +kernel,show(Str.ofString " first").length=6 by decide +kernel];omega) (by decide +kernel) (by decide +kernel) (by decide +kernel) λcs H8 l2 A2 R9=> ?_⟩
 replace sc:=sc.sb R9 λn=>n
 rw[l1]at A2 l2
 have W:H75 K a H8 h X cs y:=⟨T,A2,l2,hy,gr,gn,gc⟩
 clear A A1 A2 e
 push_cast[↓zai]
 refine⟨h,X,cs,y,rfl,W,λla row H9 s9 hrow el=> ?_⟩
 replace W:=W.same s9
 replace sc:=sc.sb (G:=λ_=>False) (Same.sb s9) λ_ z=>z
 push_cast[↓zap]
 refine .inl ⟨⟨_,sc.sq⟩,NP (xs:=ns.map V.int) (λi σ H'=>Same H9 H'/\∃ y1 y5 y6 y7,σ=[some (.ref s),y1,some (.ref h),some (.str y),some (.ref la),y5,y6,y7]) ⟨Same.refl _,_,_,_,_,rfl⟩ (λi σ H' _ ⟨s',_⟩=>s'.seq sc.sq) (λi v σ H' hv hzz=> ?_) (λσ H' hzz=> ?_)⟩
 ·obtain⟨s',y1,y5,y6,y7,es⟩:=hzz
  subst es
  rw[List.getElem?_map,Option.map_eq_some_iff]at hv
  obtain⟨c,_,rfl⟩:=hv
  push_cast[AN,↓zaj,↓zak]
  have lq:Lts (Str.ofString "q") 1:=⟨by decide +kernel,by decide +kernel⟩
  have hq:BZ (y++Str.ofString "q")=true:=((F7 hy).1.cat lq).name (by omega) (by omega)
  have nq:y++Str.ofString "q"≠y:=λe=>by
   have:=congrArg Str.length e
   rw[DK,lq.len]at this
   omega
  refine⟨⟨by decide,by decide⟩,_,y,rfl,hy,yl5,λn Ha hn sa=>⟨BV _ (by rw[lq.len];omega),c,y,n,_,rfl,hy,hn,hq,λt z d Hb et hc sb=>⟨t,rfl,_,SqT.of et,rfl,_,_,rfl,_,_,rfl,rfl,?_⟩⟩⟩
  have s2:=s'.trans (sa.trans sb)
  push_cast[↓zam]
  refine⟨h,X,cs,y,n,_,z,d,rfl,TX,W.same s2,hn,nq,hc,λHc sc'=> ?_⟩
  push_cast[]
  replace s2:=s2.trans sc'
  refine⟨h,X,cs,y,n,_,z,d,rfl,TX,W.same s2,hn,nq,hc,λHd sd=> ?_⟩
  push_cast[]
  replace s2:=s2.trans sd
  push_cast[↓zao]
  refine⟨h,X,cs,y,rfl,W.same s2,λlb row' He se hrow' el'=> ?_⟩
  replace s2:=s2.trans se
  obtain rfl:=hrow.uniq W.A.2 hrow'
  refine Cb (SqL.of el') (SqL.of (s2 _ _ el)) (λv hv=> ?_) ⟨_,rfl,?_⟩
  ·simp only[List.mem_cons,List.not_mem_nil,or_false]at hv
   rcases hv with rfl | rfl | rfl
   ·exact p0 hy
   ·show PyData.strOk (Str.ofString "first")=true
    decide +kernel
   ·exact W.rowOk hrow
  push_cast[]
  exact s2
 ·obtain⟨s',y1,y5,y6,y7,es⟩:=hzz
  subst es
  push_cast[↓zaq]
  replace W:=W.same s'
  obtain⟨dh,e⟩:=W.A.1
  have l2':=W.l
  refine⟨_,_,e,rfl,BV _ (by rw[show(Str.ofString "put ").length=4 by decide +kernel];omega),BV _ (by rw[DK,show(Str.ofString "put ").length=4 by decide +kernel,show(Str.ofString "  second").length=8 by decide +kernel];omega),W.A.put (ps:=[0]) (p:=1) (t:=" second") T (by omega) gr (OQ gn) rfl rfl (by simp) (KL gc rfl λj hj=>Nat.lt_one_iff.mp hj ▸ rfl) (qU (c:=[32,115,101,99,111,110,100]) (IL hy) (by decide +kernel) (by decide +kernel)) (by rw[DK,DK,show(Str.ofString "put ").length=4 by decide +kernel,show(Str.ofString "  second").length=8 by decide +kernel];omega) (by decide +kernel) (by decide +kernel) (by decide +kernel) λcs' Hf l3 A3 sb3=> ?_⟩
  push_cast[]
  obtain⟨dh,e⟩:=A3.1
  refine⟨_,_,e,rfl,BV _ (by rw[show(Str.ofString "show ").length=5 by decide +kernel];omega),A3.shows (ps:=[0,1]) (ts:=["first"," second"]) T gr (RV gn (by show decide (y=y)=true;simp) λj hj=>by omega) rfl rfl (by simp) (.cons ⟨by omega,rfl⟩ (.cons ⟨gc,rfl⟩ .nil)) hy λp Hg s7 e7=>⟨"",p,["first"," second"],rfl,rfl,SqL.of e7,by decide +kernel,by decide +kernel,?_⟩⟩
  rw[show Txt.join (Str.ofString "") [Str.ofString "first",Str.ofString " second"]=Str.ofString "first second" by decide +kernel]
  push_cast[]
  exact q _
end
end L2
namespace L2
def BF(i:Nat):Stmt:=PySem.Challenge.pw_holdback_k75_refused_by_deeds.main.body.getD i (.Pass ⟨0,0,0,0⟩)
structure Txt(K:W.Frag)(mg:Str->Option Value)(a:Ad):Prop where
 zij:Cls K (a "Change")
 DV:Cls K (a "Hold")
 IP:Cls K (a "House")
 C1:Cls K (a "Layout")
 MX:Cls K (a "Plank")
 CQ:Cls K (a "Store")
 zik:GV mg "DEEDS" (.ref (a "DEEDS"))
 sE:GV mg "FORMS" (.ref (a "FORMS"))
 sF:TabK K (a "FORMS") MA
 ziz:mg "HoldError"=some (.ref (a "HoldError"))
 zjb:GV mg "HoldError" (.ref (a "HoldError"))
 zjd:Exc K (a "HoldError")
 zil:GV mg "MOST_FIGURES" (.int 3)
 zim:GV mg "MOST_LETTERS" (.int 8)
 zin:GV mg "MOST_PIECE_SIGNS" (.int 40)
 sG:mg "NoBlock"=some (.ref (a "NoBlock"))
 zio:GV mg "NoBlock" (.ref (a "NoBlock"))
 sK:Exc K (a "NoBlock")
 zi0:mg "NoChange"=some (.ref (a "NoChange"))
 ziq:GV mg "NoChange" (.ref (a "NoChange"))
 zi3:Exc K (a "NoChange")
 sI:mg "NoName"=some (.ref (a "NoName"))
 zir:GV mg "NoName" (.ref (a "NoName"))
 sL:Exc K (a "NoName")
 sJ:mg "NoPiece"=some (.ref (a "NoPiece"))
 zis:GV mg "NoPiece" (.ref (a "NoPiece"))
 sM:Exc K (a "NoPiece")
 zi1:mg "NoRoom"=some (.ref (a "NoRoom"))
 zit:GV mg "NoRoom" (.ref (a "NoRoom"))
 zi4:Exc K (a "NoRoom")
 aZ:mg "NoRow"=some (.ref (a "NoRow"))
 ziu:GV mg "NoRow" (.ref (a "NoRow"))
 a0:Exc K (a "NoRow")
 zjc:mg "NotSound"=some (.ref (a "NotSound"))
 ziv:GV mg "NotSound" (.ref (a "NotSound"))
 zje:Exc K (a "NotSound")
 ziw:GV mg "PERCENT" (.int 37)
 zi2:mg "Twice"=some (.ref (a "Twice"))
 zix:GV mg "Twice" (.ref (a "Twice"))
 zi5:Exc K (a "Twice")
 ziy:GV mg "WITH_A_NUMBER_LAST" (.ref (a "WITH_A_NUMBER_LAST"))
 zie:mg "ValueError"=none
 SC:mg "all"=none
 zif:mg "dict"=none
 sA:mg "enumerate"=none
 zig:mg "int"=none
 MW:mg "isinstance"=none
 F9:mg "len"=none
 sB:mg "list"=none
 zih:mg "ord"=none
 J1:mg "range"=none
 zii:mg "reversed"=none
 sC:mg "set"=none
 aX:mg "sorted"=none
 aY:mg "str"=none
 sD:mg "tuple"=none
section
variable(P:Program)(w:World){K:W.Frag}{mg:Str->Option Value}(base:Heap){a:Ad}{f:Addr}{fd:FuncData}
seal wpAny
abbrev YC:Stmt:=BT (BF 33) 0
theorem zd5:FnScope ["self","place","value","needs"] ["self","place","value","needs"] (AW YC):=.go
def zd6(T:Txt K mg a)(F:Fun K "__init__" "Change.__init__" YC f fd) :
  FP P w K mg base 1 f fd ["self","place","value","needs"] (QZ K a) :=
 F.okL (VB K a) zd5 zaz λ_ _ _ _ _ E hr hx=>(AM (D2 (AB 0) (AB 1) rfl) (AM (D2 (AB 0) (AB 2) rfl) (AQ (D2 (AB 0) (AB 3) rfl))))
abbrev YD:Stmt:=BT (BF 34) 4
theorem qW:FnScope ["self"] ["self"] (AW YD):=.go
theorem zd7:(["number","self"]:List Str).Nodup:=by decide +kernel
def zd8(T:Txt K mg a)(F:Fun K "waiting" "Book.waiting" YD f fd) :
  FP P w K mg base 1 f fd ["self"] (N8 K a) :=
 F.okL (VC K a) qW za5 λ_ _ _ _ _ E hr hx=>(AQ (BC (FN (tn:=["number"]) (cn:=["self"]) (cap:=[0]) qW.cp rfl (IU rfl T.J1 (AI (DG F2 rfl T.F9 (by rfl) (AI (A7 (AB 0) rfl))))) (λ_ _ _ _ _ _=>(CL 0 zd7)) (λ_ _ _ _ _ _=>(NJ (HH (LE (EY hr) (AB 0) (A7 (AB 1) rfl)) (by with_unfolding_all rfl)))) (λ_ _ _ _ _ _=>(AB 0)))))
abbrev YE:Stmt:=BT (BF 34) 8
theorem zd9:FnScope ["self","number"] ["self","number"] (AW YE):=.go
def zea(T:Txt K mg a)(F:Fun K "block_of" "Book.block_of" YE f fd) :
  FP P w K mg base 1 f fd ["self","number"] (Q5 K a) :=
 F.okL (VD K a) zd9 zbh λ_ _ _ _ _ E hr hx=>(AQ (BC (CY CZ (A7 (CY CZ (A7 (AB 0) rfl) (AB 1) (λ_ _=>rfl)) rfl) BK (λ_ _=>rfl))))
abbrev YF:Stmt:=BT (BF 34) 10
theorem qX:FnScope ["self","numbers","number"] ["self","numbers"] (AW YF):=.go
def zeb(T:Txt K mg a)(F:Fun K "ask_for_changes" "Book.ask_for_changes" YF f fd) :
  FP P w K mg base 1 f fd ["self","numbers"] (N7 K a) :=
 F.okL (VE K a) qX za4 λ_ _ _ _ _ E hr hx=>(AQ (G2 hx.po rfl (E4 (AB 1)) (CL 2 qX.nd) (AQ (CH (GB (K3 ES LK BK (AB 2) (DG F2 rfl T.F9 (by rfl) (AI (A7 (AB 0) rfl))))) (AQ (GK hx T.zi3 rfl T.zi0 (AI AS))) C2))))
abbrev YG:Stmt:=BF 35
theorem zec:FnScope ["needs","ahead"] ["needs","ahead"] (AW YG):=.go
def zed(T:Txt K mg a)(F:Fun K "needs_with" "needs_with" YG f fd) :
  FP P w K mg base 1 f fd ["needs","ahead"] (Q0 K a) :=
 F.okL (RR K a) zec za1 λ_ _ _ _ _ E hr hx=>(AM (CH (DB PJ (AB 1) FH (CJ _)) (AQ (BC (HJ dJ rfl T.sD (by rfl) (AI (eL rfl rfl T.aX rfl T.sC (AB 0)))))) C2) (AQ (BC (HJ dJ rfl T.sD (by rfl) (AI (eL rfl rfl T.aX rfl T.sC (AU AZ (HJ dH rfl T.sB (by rfl) (AI (AB 0))) (B9 (AI (AB 1))))))))))
abbrev YH:Stmt:=BT (BF 37) 2
theorem qY:FnScope ["self","number","gone","need"] ["self","number","gone"] (AW YH):=.go
def zee(T:Txt K mg a)(F:Fun K "lack_of" "Hold.lack_of" YH f fd) :
  FP P w K mg base 1 f fd ["self","number","gone"] (Q3 K a) :=
 F.okL (VJ K a) qY zbd λ_ _ _ _ _ E hr hx=>(AM (G2 hx.po rfl (E4 (A7 (CY CZ (A7 (AB 0) rfl) (AB 1) (λ_ _=>rfl)) rfl)) (CL 3 qY.nd) (AQ (CH (PW.pt (O7 (HH (LE (EY hr) (AB 3) (A7 (AB 0) rfl)) (by with_unfolding_all rfl)) (O6 (HH (LE (EY hr) (AB 3) (AB 2)) (by with_unfolding_all rfl))))) (AQ (BC (AB 3))) C2))) (AQ (BC FH)))
abbrev YI:Stmt:=BF 40
theorem zef:FnScope ["sign"] ["sign"] (AW YI):=.go
def zeg(T:Txt K mg a)(F:Fun K "is_sign" "is_sign" YI f fd) :
  FP P w K mg base 1 f fd ["sign"] (RC K a) :=
 F.okL (VL K a) zef zca λ_ _ _ _ _ E hr hx=>(AQ (BC (K1 (NA ES ES AS (AB 0) AS) (K0 (HI (PU hr.units) (DG Cg rfl T.zih (by rfl) (AI (AB 0))) (EZ T.ziw rfl) (CJ _))))))
abbrev YJ:Stmt:=BF 44
theorem qZ:FnScope ["thing"] ["thing"] (AW YJ):=.go
theorem YK:(["sign"]:List Str).Nodup:=by decide +kernel
def zeh(T:Txt K mg a)(F:Fun K "is_name" "is_name" YJ f fd) :
  FP P w K mg base 1 f fd ["thing"] (RD K a) :=
 F.okL (VM K a) qZ zcb λ_ _ _ _ _ E hr hx=>(AQ (BC (K1 (NA ES ES BK (DG F2 rfl T.F9 (by rfl) (AI (AB 0))) (EZ T.zim rfl)) (K0 (DG (P4 rfl) rfl T.SC (by rfl) (AI (FN (tn:=["sign"]) (cn:=[]) (cap:=[]) qZ.cp rfl (T2 (AB 0)) (λ_ _ _ _ _ _=>(CL 0 YK)) (λ_ _ _ _ _ _=>FM) (λ_ _ _ _ _ _=>(NA ES ES AS (AB 0) AS)))))))))
abbrev YL:Stmt:=BT (BF 51) 12
theorem zei:FnScope ["self"] ["self"] (AW YL):=.go
def zej(T:Txt K mg a)(F:Fun K "hold" "Store.hold" YL f fd) :
  FP P w K mg base 1 f fd ["self"] (RG K a) :=
 F.okL (VN K a) zei zcg λ_ _ _ _ _ E hr hx=>(AQ (BC (A7 (AB 0) rfl)))
abbrev YM:Stmt:=BF 62
theorem rA:FnScope ["word"] ["word"] (AW YM):=.go
def zek(T:Txt K mg a)(F:Fun K "is_number" "is_number" YM f fd) :
  FP P w K mg base 1 f fd ["word"] (RK K a) :=
 F.okL (VO K a) rA zc6 λ_ _ _ _ _ E hr hx=>(AM (CH (PW.pt (SH (GB (K3 ES ES BK (DG F2 rfl T.F9 (by rfl) (AI (AB 0))) (EZ T.zil rfl))) (SG (GB (J3 (DG (P4 rfl) rfl T.SC (by rfl) (AI (FN (tn:=["sign"]) (cn:=[]) (cap:=[]) rA.cp rfl (T2 (AB 0)) (λ_ _ _ _ _ _=>(CL 0 YK)) (λ_ _ _ _ _ _=>FM) (λ_ _ _ _ _ _=>(NA ES ES AS (AB 0) AS))))) (λ_=>rfl)))))) (AQ (BC HV)) C2) (AQ (BC (tI (HI (EC hr.units) (AB 0) AS (CJ _)) (K0 (HI (PU hr.units) (DN (AB 0)) AS (CJ _)))))))
abbrev YN:Stmt:=BF 66
theorem zel:FnScope ["parts"] ["parts"] (AW YN):=.go
def zem(T:Txt K mg a)(F:Fun K "joined_or_dash" "joined_or_dash" YN f fd) :
  FP P w K mg base 1 f fd ["parts"] (MB K a) :=
 F.okL (VP K a) zel zc7 λ_ _ _ _ _ E hr hx=>(AQ (BC (bB (DB dE (DG F2 rfl T.F9 (by rfl) (AI (AB 0))) BK (CJ _)) (G4 PySem.F.plainAttrs_str PySem.F.slot_str_join PySem.F.type_str_join eO AS (AI (AB 0))) AS)))
abbrev YO:Stmt:=BT (BF 68) 0
theorem rB:FnScope ["self","blocks","cells"] ["self","blocks","cells"] (AW YO):=.go
theorem zen:(["block","cells"]:List Str).Nodup:=by decide +kernel
def zeo(T:Txt K mg a)(F:Fun K "__init__" "Plank.__init__" YO f fd) :
  FP P w K mg base 1 f fd ["self","blocks","cells"] (QJ K a) :=
 F.okL (VQ K a) rB zas λ_ _ _ _ _ E hr hx=>(AM (D2 (AB 0) (FN (tn:=["block"]) (cn:=["cells"]) (cap:=[2]) rB.cp rfl (IU rfl T.J1 (AI (AB 1))) (λ_ _ _ _ _ _=>(CL 0 zen)) (λ_ _ _ _ _ _=>FM) (λ_ _ _ _ _ _=>(AU J7 (CK (AI FH)) (AB 1)))) rfl) (AM (D2 (AB 0) (AB 2) rfl) (AQ (D2 (AB 0) BK rfl))))
abbrev YQ:Stmt:=BT (BF 68) 1
theorem zep:FnScope ["self"] ["self"] (AW YQ):=.go
def zeq(T:Txt K mg a)(F:Fun K "blocks" "Plank.blocks" YQ f fd) :
  FP P w K mg base 1 f fd ["self"] (N0 K a) :=
 F.okL (VR K a) zep zat λ_ _ _ _ _ E hr hx=>(AQ (BC (DG F2 rfl T.F9 (by rfl) (AI (A7 (AB 0) rfl)))))
abbrev YR:Stmt:=BT (BF 68) 2
theorem zer:FnScope ["self"] ["self"] (AW YR):=.go
def zes(T:Txt K mg a)(F:Fun K "cells" "Plank.cells" YR f fd) :
  FP P w K mg base 1 f fd ["self"] (QK K a) :=
 F.okL (VS K a) zer zau λ_ _ _ _ _ E hr hx=>(AQ (BC (A7 (AB 0) rfl)))
abbrev YS:Stmt:=BT (BF 68) 6
theorem zet:FnScope ["self","block"] ["self","block"] (AW YS):=.go
def zeu(T:Txt K mg a)(F:Fun K "ask_for_block" "Plank.ask_for_block" YS f fd) :
  FP P w K mg base 1 f fd ["self","block"] (N1 K a) :=
 F.okL (VT K a) zet zav λ_ _ _ _ _ E hr hx=>(AQ (CH (GB (K3 ES LK BK (AB 1) (DG F2 rfl T.F9 (by rfl) (AI (A7 (AB 0) rfl))))) (AQ (GK hx T.sK rfl T.sG (AI AS))) C2))
abbrev YT:Stmt:=BT (BF 70) 0
theorem zev:FnScope ["self","names","records","pieces","cells"] ["self","names","records","pieces","cells"] (AW YT):=.go
def zew(T:Txt K mg a)(F:Fun K "__init__" "Layout.__init__" YT f fd) :
  FP P w K mg base 1 f fd ["self","names","records","pieces","cells"] (QU K a) :=
 F.okL (VU K a) zev zbk λ_ _ _ _ _ E hr hx=>(AM (D2 (AB 0) (AB 1) rfl) (AM (D2 (AB 0) (AB 2) rfl) (AM (D2 (AB 0) (AB 3) rfl) (AQ (D2 (AB 0) (AB 4) rfl)))))
abbrev YU:Stmt:=BT (BF 70) 6
theorem zex:FnScope ["self"] ["self"] (AW YU):=.go
def zey(T:Txt K mg a)(F:Fun K "counts" "Layout.counts" YU f fd) :
  FP P w K mg base 1 f fd ["self"] (KC K a) :=
 F.okL (VV K a) zex zbt λ_ _ _ _ _ E hr hx=>(AQ (BC (CK (D7 (AU J7 (A7 (AB 0) rfl) (A7 (AB 0) rfl)) (AU J7 (A7 (AB 0) rfl) (A7 (AB 0) rfl)) (AU J7 (A7 (AB 0) rfl) (A7 (AB 0) rfl))))))
abbrev YV:Stmt:=BT (BF 70) 9
theorem zez:FnScope ["self"] ["self"] (AW YV):=.go
def ze0(T:Txt K mg a)(F:Fun K "blocks_ahead_of_marks" "Layout.blocks_ahead_of_marks" YV f fd) :
  FP P w K mg base 1 f fd ["self"] (LY K a) :=
 F.okL (VW K a) zez zbr λ_ _ _ _ _ E hr hx=>(AQ (BC (AU AZ (AU AZ (A7 (AB 0) rfl) (A7 (AB 0) rfl)) (A7 (AB 0) rfl))))
abbrev YW:Stmt:=BT (BF 70) 10
theorem ze1:FnScope ["self","block","k"] ["self","block","k"] (AW YW):=.go
def ze2(T:Txt K mg a)(F:Fun K "place_from" "Layout.place_from" YW f fd) :
  FP P w K mg base 1 f fd ["self","block","k"] (JJ K a) :=
 F.okL (VX K a) ze1 zbl λ_ _ _ _ _ E hr hx=>(AQ (BC (CK (A8 (AU AZ (AB 1) (AU J2 (AB 2) (A7 (AB 0) rfl))) (AU G3 (AB 2) (A7 (AB 0) rfl))))))
abbrev YX:Stmt:=BF 72
theorem ze3:FnScope ["script","k"] ["script","k"] (AW YX):=.go
def ze4(T:Txt K mg a)(F:Fun K "_law_cell_at" "_law_cell_at" YX f fd) :
  FP P w K mg base 1 f fd ["script","k"] (L4 K a) :=
 F.okL (VY K a) ze3 zar λ_ _ _ _ _ E hr hx=>(AM (CH (DB LK (AB 1) (DG F2 rfl T.F9 (by rfl) (AI (AB 0))) (CJ _)) (AQ (BC (CY CZ (AB 0) (AB 1) (λ_ _=>rfl)))) C2) (AQ (BC BK)))
abbrev YY:Stmt:=BF 73
theorem OR:FnScope ["cell","letters","name","k"] ["cell"] (AW YY):=.go
def ze5(T:Txt K mg a)(F:Fun K "_law_name" "_law_name" YY f fd) :
  FP P w K mg base 1 f fd ["cell"] (RN K a) :=
 F.okL (VZ K a) OR zdi λ_ _ _ _ _ E hr hx=>(AM (BG 1 OR.nd AS) (AM (BG 2 OR.nd AS) (AM (G2 hx.po rfl (IU rfl T.J1 (AI (AU AZ BK (AU G3 (AB 0) BK)))) (CL 3 OR.nd) (AQ (BG 2 OR.nd (AU AZ (AB 2) (CY CZ (AB 1) (AU G3 (AU AZ (AU J2 (AB 0) BK) (AU J7 (AU J7 (AU AZ (AU G3 (AU J2 (AB 0) BK) BK) BK) (AB 3)) (AB 3))) BK) (λ_ _=>rfl)))))) (AQ (BC (AB 2))))))
abbrev YZ:Stmt:=BF 74
theorem Y0:FnScope ["cell","name","at","some"] ["cell","name"] (AW YZ):=.go
def ze6(T:Txt K mg a)(F:Fun K "_law_none" "_law_none" YZ f fd) :
  FP P w K mg base 1 f fd ["cell","name"] (RO K a) :=
 F.okL (V0 K a) Y0 zdk λ_ _ _ _ _ E hr hx=>(AM (BG 2 Y0.nd (AU G3 (AU J2 (AB 0) BK) (AU AZ (DG F2 rfl T.F9 (by rfl) (AI (AB 1))) BK))) (AM (BG 3 Y0.nd (B9 (J9 AS (AU AZ (AU AZ (K7 LO (AB 1) K5 (K6 (AB 2))) AS) (K7 LO (AB 1) (K6 (AB 2)) K5)) (AU AZ (AU AZ (K7 LO (AB 1) K5 (K6 (AB 2))) AS) (K7 LO (AB 1) (K6 (AB 2)) K5)) (AU AZ (AU AZ (K7 LO (AB 1) K5 (K6 (AB 2))) AS) (K7 LO (AB 1) (K6 (AB 2)) K5))))) (AQ (BC (CY CZ (AU AZ (AB 3) (B9 (AI AS))) (AU G3 (AB 0) BK) (λ_ _=>rfl))))))
abbrev Y1:Stmt:=BF 75
theorem GU:FnScope ["cell","name","none","away","rest","cases","word"] ["cell","name","none","away"] (AW Y1):=.go
def ze7(T:Txt K mg a)(F:Fun K "_law_case" "_law_case" Y1 f fd) :
  FP P w K mg base 1 f fd ["cell","name","none","away"] (RP K a) :=
 F.okL (V1 K a) GU zd1 λ_ _ _ _ _ E hr hx=>(AM (BG 4 GU.nd (AU J2 (AB 0) BK)) (AM (BG 5 GU.nd (B9 (A8 (CK (A8 (AU AZ AS (AB 2)) AS)) (CK (A8 (AU AZ (AU AZ (AU AZ AS (AB 2)) AS) (AB 3)) AS))))) (AM (BG 5 GU.nd (AU AZ (AB 5) (B9 (A8 (CK (A8 (AU AZ (AU AZ (AU AZ AS (AB 1)) AS) (AB 2)) AS)) (CK (A8 (AU AZ AS (AB 2)) AS)))))) (AM (BG 5 GU.nd (AU AZ (AB 5) (B9 (A8 (CK (A8 (AU AZ (AU AZ AS (AB 2)) AS) AS)) (CK (A8 (AU AZ (AU AZ AS (AB 2)) AS) AS)))))) (AM (BG 5 GU.nd (AU AZ (AB 5) (B9 (A8 (CK (A8 (AU AZ (AU AZ (AU AZ AS (AB 2)) AS) (AB 3)) AS)) (CK (A8 (AU AZ (AU AZ (AU AZ AS (AB 1)) AS) (AB 2)) AS)))))) (AM (BG 5 GU.nd (AU AZ (AB 5) (B9 (D7 (CK (A8 (AU AZ AS (AB 2)) AS)) (CK (A8 (AU AZ AS (AB 2)) AS)) (CK (A8 (AU AZ AS (AB 3)) AS)))))) (AM (BG 5 GU.nd (AU AZ (AB 5) (B9 (D7 (CK (A8 (AU AZ AS (AB 3)) AS)) (CK (A8 (AU AZ AS (AB 3)) AS)) (CK (A8 (AU AZ (AU AZ AS (AB 3)) AS) AS)))))) (AM (BG 5 GU.nd (AU AZ (AB 5) (B9 (A8 (CK (A8 (AU AZ (AU AZ AS (AB 1)) AS) AS)) (CK (A8 (AU AZ (AU AZ (AU AZ AS (AB 1)) AS) (AU J7 AS BK)) AS)))))) (AM (BG 5 GU.nd (AU AZ (AB 5) (B9 (A8 (CK (A8 (AU AZ (AU AZ (AU AZ AS (AB 1)) AS) (HJ UR rfl T.aY (by rfl) (AI (AU AZ BK (AU G3 (AB 4) BK))))) AS)) (CK (A8 (AU AZ AS (AB 1)) AS)))))) (AM (BG 6 GU.nd (CY CZ (B9 (A8 AS AS)) (AU G3 (AB 4) BK) (λ_ _=>rfl))) (AM (BG 5 GU.nd (AU AZ (AB 5) (B9 (A8 (CK (A8 (AU AZ (AU AZ (AU AZ (AB 6) (AB 1)) AS) (AB 1)) AS)) (CK (A8 (AU AZ (AU AZ (AU AZ AS (AB 3)) AS) (HJ UR rfl T.aY (by rfl) (AI (AU G3 (AB 4) BK)))) AS)))))) (AQ (BC (CY CZ (AB 5) (AU G3 (AB 0) BK) (λ_ _=>rfl)))))))))))))))
abbrev Y2:Stmt:=BT (BF 34) 0
theorem rC:FnScope ["self","plank"] ["self","plank"] (AW Y2):=.go
variable(rY:BU P w K mg base (a "Plank") 1 "blocks" ["self"] (N0 K a))
theorem rD:(["block"]:List Str).Nodup:=by decide +kernel
def ze8(T:Txt K mg a)(F:Fun K "__init__" "Book.__init__" Y2 f fd) :
  FP P w K mg base 2 f fd ["self","plank"] (N6 K a) :=
 F.okL (V2 K a) rC za0 λ_ _ _ _ _ E hr hx=>(AM (D2 (AB 0) (AB 1) rfl) (AM (D2 (AB 0) (B9 GG) rfl) (AM (D2 (AB 0) (FN (tn:=["block"]) (cn:=[]) (cap:=[]) rC.cp rfl (IU rfl T.J1 (AI (EE (AB 1) T.MX rY hr hx))) (λ_ _ _ _ _ _=>(CL 0 rD)) (λ_ _ _ _ _ _=>FM) (λ_ _ _ _ _ _=>(B9 GG))) rfl) (AM (D2 (AB 0) wD rfl) (AQ (D2 (AB 0) PQ rfl))))))
abbrev Y3:Stmt:=BT (BF 34) 6
theorem MR:FnScope ["self","numbers","found","number","need"] ["self","numbers"] (AW Y3):=.go
variable(rT:BU P w K mg base (a "Hold") 1 "ask_for_changes" ["self","numbers"] (N7 K a))(rV:BU P w K mg base (a "Hold") 1 "waiting" ["self"] (N8 K a))
theorem ze9:(["number","found"]:List Str).Nodup:=by decide +kernel
def zfa(T:Txt K mg a)(F:Fun K "closure" "Book.closure" Y3 f fd) :
  FP P w K mg base 2 f fd ["self","numbers"] (Q2 K a) :=
 F.okL (V3 K a) MR zba λ_ _ _ _ _ E hr hx=>(AM (DX (BH (AB 0) T.DV rT hr hx (AI (AB 1)))) (AM (PD (i:=2) MR.nd rfl (Or.inr rfl) PQ) (AM (G2 hx.po rfl (E4 (AB 1)) (CL 3 MR.nd) (AQ (NG (EY hr) (AB 2) (AB 3) HV rfl))) (AM (G2 hx.po rfl (Ex rfl T.zii (AI (EE (AB 0) T.DV rV hr hx))) (CL 3 MR.nd) (AQ (CH (HH (S8 (EY hr) (AB 3) (AB 2)) (by with_unfolding_all rfl)) (AQ (G2 hx.po rfl (E4 (A7 (CY CZ (A7 (AB 0) rfl) (AB 3) (λ_ _=>rfl)) rfl)) (CL 4 MR.nd) (AQ (NG (EY hr) (AB 2) (AB 4) HV rfl)))) C2))) (AQ (BC (FN (tn:=["number"]) (cn:=["found"]) (cap:=[2]) MR.cp rfl (E4 (EE (AB 0) T.DV rV hr hx)) (λ_ _ _ _ _ _=>(CL 0 ze9)) (λ_ _ _ _ _ _=>(NJ (HH (S8 (EY hr) (AB 0) (AB 1)) (by with_unfolding_all rfl)))) (λ_ _ _ _ _ _=>(AB 0)))))))))
abbrev Y4:Stmt:=BT (BF 34) 9
theorem zfb:FnScope ["self","place"] ["self","place"] (AW Y4):=.go
variable(zhv:BU P w K mg base (a "Plank") 1 "cells" ["self"] (QK K a))
def zfc(T:Txt K mg a)(F:Fun K "ask_for_place" "Book.ask_for_place" Y4 f fd) :
  FP P w K mg base 2 f fd ["self","place"] (Q1 K a) :=
 F.okL (V4 K a) zfb za2 λ_ _ _ _ _ E hr hx=>(AQ (CH (PW.pt (SH (GB (K3 ES LK BK (DN (AB 1)) (EE (A7 (AB 0) rfl) T.MX rY hr hx))) (SG (GB (K3 ES LK BK (DN (AB 1)) (EE (A7 (AB 0) rfl) T.MX zhv hr hx)))))) (AQ (GK hx T.sK rfl T.sG (AI AS))) C2))
abbrev Y5:Stmt:=BT (BF 37) 1
theorem MS:FnScope ["self","block","taken","gone","out","held","number","lack"] ["self","block","taken"] (AW Y5):=.go
variable(zhq:BU P w K mg base (a "Hold") 1 "lack_of" ["self","number","gone"] (Q3 K a))
def zfd(T:Txt K mg a)(F:Fun K "outcome" "Hold.outcome" Y5 f fd) :
  FP P w K mg base 2 f fd ["self","block","taken"] (Q4 K a) :=
 F.okL (WG K a) MS zbg λ_ _ _ _ _ E hr hx=>(AM (BG 3 MS.nd (HJ Fd rfl T.zif (by rfl) (AI (AB 2)))) (AM (BG 4 MS.nd (B9 GG)) (AM (BG 5 MS.nd (B9 GG)) (AM (G2 hx.po rfl (E4 (CY CZ (A7 (AB 0) rfl) (AB 1) (λ_ _=>rfl))) (CL 6 MS.nd) (AQ (CH (PW.pt (O7 (HH (LE (EY hr) (AB 6) (A7 (AB 0) rfl)) (by with_unfolding_all rfl)) (O6 (HH (LE (EY hr) (AB 6) (AB 3)) (by with_unfolding_all rfl))))) (AM (BG 7 MS.nd (BH (AB 0) T.DV zhq hr hx (A8 (AB 6) (AB 3)))) (AQ (CH (DB PJ (AB 7) FH (CJ _)) (AM (NG (EY hr) (AB 3) (AB 6) HV rfl) (AQ (DX (G4 PySem.F.plainAttrs_list PySem.F.slot_list_append PySem.F.type_list_append K9 (AB 4) (AI (AB 6)))))) (AQ (DX (G4 PySem.F.plainAttrs_list PySem.F.slot_list_append PySem.F.type_list_append K9 (AB 5) (AI (CK (A8 (AB 6) (AB 7)))))))))) C2))) (AQ (BC (CK (A8 (AB 4) (AB 5)))))))))
abbrev Y6:Stmt:=BF 45
theorem rE:FnScope ["thing"] ["thing"] (AW Y6):=.go
variable(zhe:DP P w K mg base (1) "is_sign" ["sign"] (RC K a))
def zfe(T:Txt K mg a)(F:Fun K "is_piece" "is_piece" Y6 f fd) :
  FP P w K mg base 2 f fd ["thing"] (RE K a) :=
 F.okL (WH K a) rE zcc λ_ _ _ _ _ E hr hx=>(AQ (BC (K1 (NA ES ES BK (DG F2 rfl T.F9 (by rfl) (AI (AB 0))) (EZ T.zin rfl)) (K0 (DG (P4 rfl) rfl T.SC (by rfl) (AI (FN (tn:=["sign"]) (cn:=[]) (cap:=[]) rE.cp rfl (T2 (AB 0)) (λ_ _ _ _ _ _=>(CL 0 YK)) (λ_ _ _ _ _ _=>FM) (λ_ _ _ _ _ _=>(TM zhe hr.m G7 rfl (AI (AB 0)))))))))))
abbrev Y7:Stmt:=BF 61
theorem Y8:FnScope ["row","kind","words"] ["row"] (AW Y7):=.go
variable(zhc:DP P w K mg base (1) "is_number" ["word"] (RK K a))
def zff(T:Txt K mg a)(F:Fun K "words_of" "words_of" Y7 f fd) :
  FP P w K mg base 2 f fd ["row"] (RL K a) :=
 F.okL (WL K a) Y8 zc8 λ_ _ _ _ _ E hr hx=>(AM (BG 1 Y8.nd (CY CZ (G4 PySem.F.plainAttrs_str PySem.F.slot_str_partition PySem.F.type_str_partition Jc (AB 0) (AI AS)) BK (λ_ _=>rfl))) (AM (CH (HH (Jv T.sE rfl T.sF (AB 1)) (by with_unfolding_all rfl)) (AQ (GK hx T.a0 rfl T.aZ (AI AS))) C2) (AM (BG 2 Y8.nd (bB (DB (EC hr.units) (AB 1) AS (CJ _)) (G4 PySem.F.plainAttrs_str PySem.F.slot_str_split PySem.F.type_str_split fD (AB 0) (A8 AS BK)) (G4 PySem.F.plainAttrs_str PySem.F.slot_str_split PySem.F.type_str_split fD (AB 0) (AI AS)))) (AM (CH (DB (PU hr.units) (DG F2 rfl T.F9 (by rfl) (AI (AB 2))) (Jw T.sE rfl T.sF (AB 1) (λ_ _=>rfl)) (CJ _)) (AQ (GK hx T.a0 rfl T.aZ (AI AS))) C2) (AM (CH (PW.pt (O7 (DB (UD hr.units) (AB 1) (EZ T.ziy rfl) (by with_unfolding_all rfl)) (O6 (GB (J3 (DQ zhc hr hx (AI (CY CZ (AB 2) (t5 uD BK) (λ_ _=>rfl)))) (λ_=>rfl)))))) (AQ (GK hx T.a0 rfl T.aZ (AI AS))) C2) (AQ (BC (AB 2))))))))
abbrev Y9:Stmt:=BT (BF 68) 4
theorem zfg:FnScope ["self","block"] ["self","block"] (AW Y9):=.go
variable(zhu:BU P w K mg base (a "Plank") 1 "ask_for_block" ["self","block"] (N1 K a))
def zfh(T:Txt K mg a)(F:Fun K "read" "Plank.read" Y9 f fd) :
  FP P w K mg base 2 f fd ["self","block"] (QL K a) :=
 F.okL (WM K a) zfg zax λ_ _ _ _ _ E hr hx=>(AM (DX (BH (AB 0) T.MX zhu hr hx (AI (AB 1)))) (AQ (BC (HJ dH rfl T.sB (by rfl) (AI (CY CZ (A7 (AB 0) rfl) (AB 1) (λ_ _=>rfl)))))))
abbrev ZA:Stmt:=BT (BF 70) 1
theorem zfi:FnScope ["self","k"] ["self","k"] (AW ZA):=.go
variable(OV:BU P w K mg base (a "Layout") 1 "place_from" ["self","block","k"] (JJ K a))
def zfj(T:Txt K mg a)(F:Fun K "name_at" "Layout.name_at" ZA f fd) :
  FP P w K mg base 2 f fd ["self","k"] (JK K a) :=
 F.okL (WN K a) zfi zbm λ_ _ _ _ _ E hr hx=>(AQ (BC (BH (AB 0) T.C1 OV hr hx (A8 BK (AB 1)))))
abbrev ZB:Stmt:=BT (BF 70) 2
theorem zfk:FnScope ["self","k"] ["self","k"] (AW ZB):=.go
def zfl(T:Txt K mg a)(F:Fun K "record_at" "Layout.record_at" ZB f fd) :
  FP P w K mg base 2 f fd ["self","k"] (JL K a) :=
 F.okL (WO K a) zfk zbn λ_ _ _ _ _ E hr hx=>(AQ (BC (BH (AB 0) T.C1 OV hr hx (A8 (A7 (AB 0) rfl) (AB 1)))))
abbrev ZC:Stmt:=BT (BF 70) 3
theorem zfm:FnScope ["self","k"] ["self","k"] (AW ZC):=.go
def zfn(T:Txt K mg a)(F:Fun K "piece_at" "Layout.piece_at" ZC f fd) :
  FP P w K mg base 2 f fd ["self","k"] (KB K a) :=
 F.okL (WP K a) zfm zbo λ_ _ _ _ _ E hr hx=>(AQ (BC (BH (AB 0) T.C1 OV hr hx (A8 (AU AZ (A7 (AB 0) rfl) (A7 (AB 0) rfl)) (AB 1)))))
abbrev ZD:Stmt:=BT (BF 70) 4
theorem zfo:FnScope ["self","k"] ["self","k"] (AW ZD):=.go
variable(aR:BU P w K mg base (a "Layout") 1 "blocks_ahead_of_marks" ["self"] (LY K a))
def zfp(T:Txt K mg a)(F:Fun K "record_mark" "Layout.record_mark" ZD f fd) :
  FP P w K mg base 2 f fd ["self","k"] (LW K a) :=
 F.okL (WQ K a) zfo zbp λ_ _ _ _ _ E hr hx=>(AQ (BC (BH (AB 0) T.C1 OV hr hx (A8 (EE (AB 0) T.C1 aR hr hx) (AB 1)))))
abbrev ZE:Stmt:=BT (BF 70) 5
theorem zfq:FnScope ["self","k"] ["self","k"] (AW ZE):=.go
def zfr(T:Txt K mg a)(F:Fun K "piece_mark" "Layout.piece_mark" ZE f fd) :
  FP P w K mg base 2 f fd ["self","k"] (LX K a) :=
 F.okL (WR K a) zfq zbq λ_ _ _ _ _ E hr hx=>(AQ (BC (BH (AB 0) T.C1 OV hr hx (A8 (AU AZ (EE (AB 0) T.C1 aR hr hx) (A7 (AB 0) rfl)) (AB 1)))))
abbrev ZF:Stmt:=BT (BF 70) 7
theorem zfs:FnScope ["self"] ["self"] (AW ZF):=.go
def zft(T:Txt K mg a)(F:Fun K "blocks" "Layout.blocks" ZF f fd) :
  FP P w K mg base 2 f fd ["self"] (QV K a) :=
 F.okL (WS K a) zfs zbs λ_ _ _ _ _ E hr hx=>(AQ (BC (AU AZ (AU AZ (EE (AB 0) T.C1 aR hr hx) (A7 (AB 0) rfl)) (A7 (AB 0) rfl))))
abbrev ZG:Stmt:=BF 31
theorem JU:FnScope ["hold","numbers","row","taken","left","block","number"] ["hold","numbers"] (AW ZG):=.go
variable(zhp:BU P w K mg base (a "Hold") 2 "closure" ["self","numbers"] (Q2 K a))(zho:BU P w K mg base (a "Hold") 1 "block_of" ["self","number"] (Q5 K a))(zhr:BU P w K mg base (a "Hold") 2 "outcome" ["self","block","taken"] (Q4 K a))
theorem zfu:(["number","taken"]:List Str).Nodup:=by decide +kernel
def zfv(T:Txt K mg a)(F:Fun K "row_for" "row_for" ZG f fd) :
  FP P w K mg base 3 f fd ["hold","numbers"] (Q6 K a) :=
 F.okL (WT K a) JU zbj λ_ _ _ _ _ E hr hx=>(AM (BG 2 JU.nd (B9 GG)) (AM (PD (i:=3) JU.nd rfl (Or.inr rfl) PQ) (AM (BG 4 JU.nd (BH (AB 0) T.DV zhp hr hx (AI (AB 1)))) (AM (tR hx.po (J3 (AB 4) (λ_=>rfl)) (AM (BG 5 JU.nd (BH (AB 0) T.DV zho hr hx (AI (DN (AB 4))))) (AM (DX (G4 PySem.F.plainAttrs_list PySem.F.slot_list_append PySem.F.type_list_append K9 (AB 2) (AI (AB 5)))) (AM (G2 hx.po rfl (E4 (CY CZ (BH (AB 0) T.DV zhr hr hx (A8 (AB 5) (AB 3))) BK (λ_ _=>rfl))) (CL 6 JU.nd) (AQ (NG (EY hr) (AB 3) (AB 6) HV rfl))) (AQ (NK (i:=4) (tn:=["number"]) (cn:=["taken"]) (cap:=[3]) JU.cp rfl JU.nd rfl rfl (E4 (AB 4)) (λ_ _ _ _ _ _=>(CL 0 zfu)) (λ_ _ _ _ _ _=>(NJ (HH (LE (EY hr) (AB 0) (AB 1)) (by with_unfolding_all rfl)))) (λ_ _ _ _ _ _=>(AB 0)))))))) (AQ (BC (AB 2)))))))
abbrev ZH:Stmt:=BT (BF 34) 3
theorem zfw:FnScope ["self","place"] ["self","place"] (AW ZH):=.go
variable(zhn:BU P w K mg base (a "Hold") 2 "ask_for_place" ["self","place"] (Q1 K a))
def zfx(T:Txt K mg a)(F:Fun K "newest" "Book.newest" ZH f fd) :
  FP P w K mg base 3 f fd ["self","place"] (L5 K a) :=
 F.okL (WU K a) zfw za3 λ_ _ _ _ _ E hr hx=>(AM (DX (BH (AB 0) T.DV zhn hr hx (AI (AB 1)))) (AQ (BC (wI (EY hr) (A7 (AB 0) rfl) (AB 1) ⟨rfl,rfl,rfl,rfl⟩))))
abbrev ZI:Stmt:=BT (BF 70) 8
theorem zfy:FnScope ["self"] ["self"] (AW ZI):=.go
variable(zhs:BU P w K mg base (a "Layout") 2 "blocks" ["self"] (QV K a))(zic:JB P w K mg base (a "Plank") 1 "Plank" ["self","blocks","cells"] (QJ K a))
def zfz(T:Txt K mg a)(F:Fun K "plank" "Layout.plank" ZI f fd) :
  FP P w K mg base 3 f fd ["self"] (QW K a) :=
 F.okL (WV K a) zfy zbu λ_ _ _ _ _ E hr hx=>(AQ (BC (LI zic hr.m hx.passes rfl (A8 (EE (AB 0) T.C1 zhs hr hx) (A7 (AB 0) rfl)))))
abbrev ZJ:Stmt:=BT (BF 34) 1
theorem ZK:FnScope ["self","place","value","needs","ahead","number"] ["self","place","value","needs"] (AW ZJ):=.go
variable(aQ:BU P w K mg base (a "Hold") 3 "newest" ["self","place"] (L5 K a))(zhj:DP P w K mg base (1) "needs_with" ["needs","ahead"] (Q0 K a))(zh8:JB P w K mg base (a "Change") 1 "Change" ["self","place","value","needs"] (QZ K a))
def zf0(T:Txt K mg a)(F:Fun K "change" "Book.change" ZJ f fd) :
  FP P w K mg base 4 f fd ["self","place","value","needs"] (HQ K a) :=
 F.okL (WW K a) ZK za6 λ_ _ _ _ _ E hr hx=>(AM (BG 4 ZK.nd (BH (AB 0) T.DV aQ hr hx (AI (AB 1)))) (AM (DX (BH (AB 0) T.DV rT hr hx (AI (AB 3)))) (AM (BG 5 ZK.nd (DG F2 rfl T.F9 (by rfl) (AI (A7 (AB 0) rfl)))) (AM (DX (G4 PySem.F.plainAttrs_list PySem.F.slot_list_append PySem.F.type_list_append K9 (A7 (AB 0) rfl) (AI (LI zh8 hr.m hx.passes rfl (D7 (AB 1) (AB 2) (DQ zhj hr hx (A8 (AB 3) (AB 4)))))))) (AM (DX (G4 PySem.F.plainAttrs_list PySem.F.slot_list_append PySem.F.type_list_append K9 (CY CZ (A7 (AB 0) rfl) (DN (AB 1)) (λ_ _=>rfl)) (AI (AB 5)))) (AM (NG (EY hr) (A7 (AB 0) rfl) (AB 1) (AB 5) rfl) (AQ (BC (AB 5)))))))))
abbrev ZL:Stmt:=BT (BF 34) 2
theorem rF:FnScope ["self","place","number"] ["self","place"] (AW ZL):=.go
variable(zhw:BU P w K mg base (a "Plank") 2 "read" ["self","block"] (QL K a))
def zf1(T:Txt K mg a)(F:Fun K "in_hand" "Book.in_hand" ZL f fd) :
  FP P w K mg base 4 f fd ["self","place"] (KE K a) :=
 F.okL (WX K a) rF zbc λ_ _ _ _ _ E hr hx=>(AM (BG 2 rF.nd (BH (AB 0) T.DV aQ hr hx (AI (AB 1)))) (AM (CH (DB PJ (AB 2) FH (CJ _)) (AQ (BC (CY CZ (BH (A7 (AB 0) rfl) T.MX zhw hr hx (AI (DN (AB 1)))) (DN (AB 1)) (λ_ _=>rfl)))) C2) (AQ (BC (A7 (CY CZ (A7 (AB 0) rfl) (AB 2) (λ_ _=>rfl)) rfl)))))
abbrev ZM:Stmt:=BT (BF 51) 0
theorem zf2:FnScope ["self","layout","plank"] ["self","layout","plank"] (AW ZM):=.go
variable(zh9:JB P w K mg base (a "Hold") 2 "Hold" ["self","plank"] (N6 K a))
def zf3(T:Txt K mg a)(F:Fun K "__init__" "Store.__init__" ZM f fd) :
  FP P w K mg base 4 f fd ["self","layout","plank"] (RF K a) :=
 F.okL (WY K a) zf2 zch λ_ _ _ _ _ E hr hx=>(AM (D2 (AB 0) (AB 1) rfl) (AM (D2 (AB 0) (LI zh9 hr.m hx.passes rfl (AI (AB 2))) rfl) (AQ (D2 (AB 0) PQ rfl))))
abbrev ZN:Stmt:=BF 49
theorem ZO:FnScope ["hold","places","values","k","place"] ["hold","places","values"] (AW ZN):=.go
variable(R4:BU P w K mg base (a "Hold") 4 "in_hand" ["self","place"] (KE K a))
def zf4(T:Txt K mg a)(F:Fun K "lowest_with" "lowest_with" ZN f fd) :
  FP P w K mg base 5 f fd ["hold","places","values"] (KF K a) :=
 F.okL (WZ K a) ZO zby λ_ _ _ _ _ E hr hx=>(AM (G2 hx.po rfl (eU rfl T.sA (AI (AB 1))) (SK rfl (K2 (CL 3 ZO.nd) (K2 (CL 4 ZO.nd) SJ))) (AQ (CH (DB (Gw hr.units) (BH (AB 0) T.DV R4 hr hx (AI (AB 4))) (AB 2) (by with_unfolding_all rfl)) (AQ (BC (AB 3))) C2))) (AQ (GK hx T.zi4 rfl T.zi1 (AI AS))))
abbrev ZP:Stmt:=BT (BF 51) 16
theorem rG:FnScope ["self"] ["self"] (AW ZP):=.go
variable(R5:BU P w K mg base (a "Layout") 1 "counts" ["self"] (KC K a))(R6:BU P w K mg base (a "Layout") 2 "name_at" ["self","k"] (JK K a))
theorem zf5:(["k","self"]:List Str).Nodup:=by decide +kernel
def zf6(T:Txt K mg a)(F:Fun K "name_cells" "Store.name_cells" ZP f fd) :
  FP P w K mg base 5 f fd ["self"] (L7 K a) :=
 F.okL (W0 K a) rG zci λ_ _ _ _ _ E hr hx=>(AQ (BC (FN (tn:=["k"]) (cn:=["self"]) (cap:=[0]) rG.cp rfl (IU rfl T.J1 (AI (CY CZ (EE (A7 (AB 0) rfl) T.C1 R5 hr hx) BK (λ_ _=>rfl)))) (λ_ _ _ _ _ _=>(CL 0 zf5)) (λ_ _ _ _ _ _=>FM) (λ_ _ _ _ _ _=>(G8 (A7 (AB 1) rfl) T.DV R4 hr.m G7 (AI (G8 (A7 (AB 1) rfl) T.C1 R6 hr.m G7 (AI (AB 0)))))))))
abbrev ZQ:Stmt:=BT (BF 51) 17
theorem zf7:FnScope ["self","record"] ["self","record"] (AW ZQ):=.go
variable(R7:BU P w K mg base (a "Layout") 2 "record_at" ["self","k"] (JL K a))
def zf8(T:Txt K mg a)(F:Fun K "standing" "Store.standing" ZQ f fd) :
  FP P w K mg base 5 f fd ["self","record"] (JR K a) :=
 F.okL (W3 K a) zf7 zcq λ_ _ _ _ _ E hr hx=>(AQ (BC (BH (A7 (AB 0) rfl) T.DV R4 hr hx (AI (BH (A7 (AB 0) rfl) T.C1 R7 hr hx (AI (AB 1)))))))
abbrev ZR:Stmt:=BT (BF 51) 18
theorem rH:FnScope ["self","cell","name","record","need","needs"] ["self","cell","name","record","need"] (AW ZR):=.go
variable(MT:BU P w K mg base (a "Hold") 4 "change" ["self","place","value","needs"] (HQ K a))
def zf9(T:Txt K mg a)(F:Fun K "fill_cell" "Store.fill_cell" ZR f fd) :
  FP P w K mg base 5 f fd ["self","cell","name","record","need"] (RH K a) :=
 F.okL (W5 K a) rH zcs λ_ _ _ _ _ E hr hx=>(AM (BG 5 rH.nd (B9 (AI (AB 4)))) (AM (CH (HH (S8 (EY hr) (AB 2) (A7 (AB 0) rfl)) (by with_unfolding_all rfl)) (AQ (DX (G4 PySem.F.plainAttrs_list PySem.F.slot_list_append PySem.F.type_list_append K9 (AB 5) (AI (wA (EY hr) (A7 (AB 0) rfl) (AB 2) (λ_ _=>rfl)))))) C2) (AQ (BC (BH (A7 (AB 0) rfl) T.DV MT hr hx (D7 (BH (A7 (AB 0) rfl) T.C1 R6 hr hx (AI (AB 1))) (CK (A8 (AB 2) (AB 3))) (AB 5)))))))
abbrev ZS:Stmt:=BF 46
theorem ZT:FnScope ["layout","hold","places"] ["layout","hold"] (AW ZS):=.go
variable(aP:DP P w K mg base (5) "lowest_with" ["hold","places","values"] (KF K a))
theorem ZU:(["k","layout"]:List Str).Nodup:=by decide +kernel
def zga(T:Txt K mg a)(F:Fun K "free_name" "free_name" ZS f fd) :
  FP P w K mg base 6 f fd ["layout","hold"] (Q9 K a) :=
 F.okL (W6 K a) ZT zb1 λ_ _ _ _ _ E hr hx=>(AM (NK (i:=2) (tn:=["k"]) (cn:=["layout"]) (cap:=[0]) ZT.cp rfl ZT.nd rfl rfl (IU rfl T.J1 (AI (CY CZ (EE (AB 0) T.C1 R5 hr hx) BK (λ_ _=>rfl)))) (λ_ _ _ _ _ _=>(CL 0 ZU)) (λ_ _ _ _ _ _=>FM) (λ_ _ _ _ _ _=>(G8 (AB 1) T.C1 R6 hr.m G7 (AI (AB 0))))) (AQ (BC (DQ aP hr hx (D7 (AB 1) (AB 2) (CK (AI FH)))))))
abbrev ZV:Stmt:=BF 47
theorem ZW:FnScope ["layout","hold","marks"] ["layout","hold"] (AW ZV):=.go
variable(rX:BU P w K mg base (a "Layout") 2 "record_mark" ["self","k"] (LW K a))
def zgb(T:Txt K mg a)(F:Fun K "free_record" "free_record" ZV f fd) :
  FP P w K mg base 6 f fd ["layout","hold"] (RA K a) :=
 F.okL (W7 K a) ZW zb2 λ_ _ _ _ _ E hr hx=>(AM (NK (i:=2) (tn:=["k"]) (cn:=["layout"]) (cap:=[0]) ZW.cp rfl ZW.nd rfl rfl (IU rfl T.J1 (AI (CY CZ (EE (AB 0) T.C1 R5 hr hx) BK (λ_ _=>rfl)))) (λ_ _ _ _ _ _=>(CL 0 ZU)) (λ_ _ _ _ _ _=>FM) (λ_ _ _ _ _ _=>(G8 (AB 1) T.C1 rX hr.m G7 (AI (AB 0))))) (AQ (BC (DQ aP hr hx (D7 (AB 1) (AB 2) (CK (A8 FH BK)))))))
abbrev ZX:Stmt:=BF 48
theorem ZY:FnScope ["layout","hold","marks"] ["layout","hold"] (AW ZX):=.go
variable(rW:BU P w K mg base (a "Layout") 2 "piece_mark" ["self","k"] (LX K a))
def zgc(T:Txt K mg a)(F:Fun K "free_piece" "free_piece" ZX f fd) :
  FP P w K mg base 6 f fd ["layout","hold"] (RB K a) :=
 F.okL (W8 K a) ZY zb3 λ_ _ _ _ _ E hr hx=>(AM (NK (i:=2) (tn:=["k"]) (cn:=["layout"]) (cap:=[0]) ZY.cp rfl ZY.nd rfl rfl (IU rfl T.J1 (AI (CY CZ (EE (AB 0) T.C1 R5 hr hx) BK (λ_ _=>rfl)))) (λ_ _ _ _ _ _=>(CL 0 ZU)) (λ_ _ _ _ _ _=>FM) (λ_ _ _ _ _ _=>(G8 (AB 1) T.C1 rW hr.m G7 (AI (AB 0))))) (AQ (BC (DQ aP hr hx (D7 (AB 1) (AB 2) (CK (A8 FH BK)))))))
abbrev ZZ:Stmt:=BT (BF 51) 7
theorem rJ:FnScope ["self"] ["self"] (AW ZZ):=.go
variable(aU:BU P w K mg base (a "Store") 5 "name_cells" ["self"] (L7 K a))
theorem zgd:(["value"]:List Str).Nodup:=by decide +kernel
def zge(T:Txt K mg a)(F:Fun K "names" "Store.names" ZZ f fd) :
  FP P w K mg base 6 f fd ["self"] (OB K a) :=
 F.okL (W9 K a) rJ zck λ_ _ _ _ _ E hr hx=>(AQ (BC (DG (Gx rfl) rfl T.aX (by rfl) (AI (FN (tn:=["value"]) (cn:=[]) (cap:=[]) rJ.cp rfl (E4 (EE (AB 0) T.CQ aU hr hx)) (λ_ _ _ _ _ _=>(CL 0 zgd)) (λ_ _ _ _ _ _=>(NJ (DB PK (AB 0) FH (CJ _)))) (λ_ _ _ _ _ _=>(DN (AB 0))))))))
abbrev Z0:Stmt:=BT (BF 51) 15
theorem Z1:FnScope ["self","name","cell","value"] ["self","name"] (AW Z0):=.go
def zgf(T:Txt K mg a)(F:Fun K "cell_of" "Store.cell_of" Z0 f fd) :
  FP P w K mg base 6 f fd ["self","name"] (L8 K a) :=
 F.okL (XA K a) Z1 zcj λ_ _ _ _ _ E hr hx=>(AM (G2 hx.po rfl (eU rfl T.sA (AI (EE (AB 0) T.CQ aU hr hx))) (SK rfl (K2 (CL 2 Z1.nd) (K2 (CL 3 Z1.nd) SJ))) (AQ (CH (PW.pt (O7 (DB PK (AB 3) FH (CJ _)) (O6 (DB (EC hr.units) (DN (AB 3)) (AB 1) (CJ _))))) (AQ (BC (AB 2))) C2))) (AQ (BC FH)))
abbrev Z2:Stmt:=BT (BF 51) 21
theorem zgg:FnScope ["self","record","pieces","needs"] ["self","record","pieces","needs"] (AW Z2):=.go
variable(OX:BU P w K mg base (a "Store") 5 "standing" ["self","record"] (JR K a))
def zgh(T:Txt K mg a)(F:Fun K "regroup" "Store.regroup" Z2 f fd) :
  FP P w K mg base 6 f fd ["self","record","pieces","needs"] (RI K a) :=
 F.okL (XB K a) zgg zcu λ_ _ _ _ _ E hr hx=>(AQ (BC (BH (A7 (AB 0) rfl) T.DV MT hr hx (D7 (BH (A7 (AB 0) rfl) T.C1 R7 hr hx (AI (AB 1))) (CK (A8 (CY CZ (BH (AB 0) T.CQ OX hr hx (AI (AB 1))) BK (λ_ _=>rfl)) (AB 2))) (AB 3)))))
abbrev Z3:Stmt:=BT (BF 60) 0
theorem zgi:FnScope ["self","layout"] ["self","layout"] (AW Z3):=.go
variable(zht:BU P w K mg base (a "Layout") 3 "plank" ["self"] (QW K a))(zid:JB P w K mg base (a "Store") 4 "Store" ["self","layout","plank"] (RF K a))
def zgj(T:Txt K mg a)(F:Fun K "__init__" "House.__init__" Z3 f fd) :
  FP P w K mg base 6 f fd ["self","layout"] (RM K a) :=
 F.okL (XC K a) zgi zde λ_ _ _ _ _ E hr hx=>(AM (D2 (AB 0) (AB 1) rfl) (AM (D2 (AB 0) (EE (AB 1) T.C1 zht hr hx) rfl) (AQ (D2 (AB 0) (LI zid hr.m hx.passes rfl (A8 (AB 1) (A7 (AB 0) rfl))) rfl))))
abbrev Z4:Stmt:=BT (BF 51) 13
theorem rK:FnScope ["self","new","given"] ["self","new","given"] (AW Z4):=.go
variable(zhb:DP P w K mg base (1) "is_name" ["thing"] (RD K a))(aT:BU P w K mg base (a "Store") 6 "cell_of" ["self","name"] (L8 K a))
theorem zgk:(["text"]:List Str).Nodup:=by decide +kernel
def zgl(T:Txt K mg a)(F:Fun K "ask_for_new_name" "Store.ask_for_new_name" Z4 f fd) :
  FP P w K mg base 7 f fd ["self","new","given"] (OC K a) :=
 F.okL (XD K a) rK zcl λ_ _ _ _ _ E hr hx=>(AM (CH (GB (J3 (DG (P4 rfl) rfl T.SC (by rfl) (AI (FN (tn:=["text"]) (cn:=[]) (cap:=[]) rK.cp rfl (E4 (AB 2)) (λ_ _ _ _ _ _=>(CL 0 zgk)) (λ_ _ _ _ _ _=>FM) (λ_ _ _ _ _ _=>(TM zhb hr.m G7 rfl (AI (AB 0))))))) (λ_=>rfl))) (AQ (GK hx T.sL rfl T.sI (AI AS))) C2) (AQ (CH (DB PK (BH (AB 0) T.CQ aT hr hx (AI (AB 1))) FH (CJ _)) (AQ (GK hx T.zi5 rfl T.zi2 (AI AS))) C2)))
abbrev Z5:Stmt:=BT (BF 51) 14
theorem rM:FnScope ["self","name","cell"] ["self","name"] (AW Z5):=.go
def zgm(T:Txt K mg a)(F:Fun K "record_of" "Store.record_of" Z5 f fd) :
  FP P w K mg base 7 f fd ["self","name"] (JQ K a) :=
 F.okL (XF K a) rM zcr λ_ _ _ _ _ E hr hx=>(AM (BG 2 rM.nd (BH (AB 0) T.CQ aT hr hx (AI (AB 1)))) (AM (CH (DB PJ (AB 2) FH (CJ _)) (AQ (GK hx T.sL rfl T.sI (AI AS))) C2) (AQ (BC (CY CZ (CY CZ (EE (AB 0) T.CQ aU hr hx) (AB 2) (λ_ _=>rfl)) BK (λ_ _=>rfl))))))
abbrev Z6:Stmt:=BT (BF 51) 1
theorem OS:FnScope ["self","name","record","cell","mark","stands"] ["self","name"] (AW Z6):=.go
variable(rZ:BU P w K mg base (a "Store") 7 "ask_for_new_name" ["self","new","given"] (OC K a))(zha:DP P w K mg base (6) "free_record" ["layout","hold"] (RA K a))(zg8:DP P w K mg base (6) "free_name" ["layout","hold"] (Q9 K a))(zhy:BU P w K mg base (a "Store") 5 "fill_cell" ["self","cell","name","record","need"] (RH K a))
def zgn(T:Txt K mg a)(F:Fun K "make" "Store.make" Z6 f fd) :
  FP P w K mg base 8 f fd ["self","name"] (OE K a) :=
 F.okL (XG K a) OS zcv λ_ _ _ _ _ E hr hx=>(AM (DX (BH (AB 0) T.CQ rZ hr hx (A8 (AB 1) (B9 (AI (AB 1)))))) (AM (BG 2 OS.nd (DQ zha hr hx (A8 (A7 (AB 0) rfl) (A7 (AB 0) rfl)))) (AM (BG 3 OS.nd (DQ zg8 hr hx (A8 (A7 (AB 0) rfl) (A7 (AB 0) rfl)))) (AM (BG 4 OS.nd (BH (A7 (AB 0) rfl) T.DV MT hr hx (D7 (BH (A7 (AB 0) rfl) T.C1 rX hr hx (AI (AB 2))) BK (B9 GG)))) (AM (BG 5 OS.nd (BH (A7 (AB 0) rfl) T.DV MT hr hx (D7 (BH (A7 (AB 0) rfl) T.C1 R7 hr hx (AI (AB 2))) (CK (A8 BK (CK GG))) (B9 (AI (AB 4)))))) (AQ (BC (B9 (D7 (AB 4) (AB 5) (BH (AB 0) T.CQ zhy hr hx (J9 (AB 3) (AB 1) (AB 2) (AB 5))))))))))))
abbrev Z7:Stmt:=BT (BF 51) 2
theorem RZ:FnScope ["self","old","new","record","cell","more"] ["self","old","new"] (AW Z7):=.go
def zgo(T:Txt K mg a)(F:Fun K "link" "Store.link" Z7 f fd) :
  FP P w K mg base 8 f fd ["self","old","new"] (KH K a) :=
 F.okL (XH K a) RZ zcy λ_ _ _ _ _ E hr hx=>(AM (DX (BH (AB 0) T.CQ rZ hr hx (A8 (AB 2) (B9 (A8 (AB 1) (AB 2)))))) (AM (BG 3 RZ.nd FE) (AM (BG 4 RZ.nd FE) (AM (BG 5 RZ.nd FE) (AQ (BC (B9 (A8 (AB 5) FE))))))))
abbrev Z8:Stmt:=BT (BF 51) 3
theorem Z9:FnScope ["self","name","record","gone"] ["self","name"] (AW Z8):=.go
variable(OW:BU P w K mg base (a "Store") 7 "record_of" ["self","name"] (JQ K a))
def zgp(T:Txt K mg a)(F:Fun K "cut" "Store.cut" Z8 f fd) :
  FP P w K mg base 8 f fd ["self","name"] (OI K a) :=
 F.okL (XI K a) Z9 zc0 λ_ _ _ _ _ E hr hx=>(AM (BG 2 Z9.nd (BH (AB 0) T.CQ OW hr hx (AI (AB 1)))) (AM (BG 3 Z9.nd FE) (AM (CH (DB dE (CY CZ FE BK (λ_ _=>rfl)) BK (CJ _)) (AQ (BC (B9 (A8 (AB 3) FE)))) C2) (AQ (BC (AU AZ (B9 (AI (AB 3))) FE))))))
abbrev aA:Stmt:=BT (BF 51) 4
theorem OT:FnScope ["self","name","text","record","piece","mark","filled"] ["self","name","text"] (AW aA):=.go
variable(zhd:DP P w K mg base (2) "is_piece" ["thing"] (RE K a))(zg9:DP P w K mg base (6) "free_piece" ["layout","hold"] (RB K a))(aS:BU P w K mg base (a "Layout") 2 "piece_at" ["self","k"] (KB K a))(zh5:BU P w K mg base (a "Store") 6 "regroup" ["self","record","pieces","needs"] (RI K a))
def zgq(T:Txt K mg a)(F:Fun K "put" "Store.put" aA f fd) :
  FP P w K mg base 8 f fd ["self","name","text"] (OF K a) :=
 F.okL (XJ K a) OT zcw λ_ _ _ _ _ E hr hx=>(AM (BG 3 OT.nd (BH (AB 0) T.CQ OW hr hx (AI (AB 1)))) (AM (CH (GB (J3 (DQ zhd hr hx (AI (AB 2))) (λ_=>rfl))) (AQ (GK hx T.sM rfl T.sJ (AI AS))) C2) (AM (BG 4 OT.nd (DQ zg9 hr hx (A8 (A7 (AB 0) rfl) (A7 (AB 0) rfl)))) (AM (BG 5 OT.nd (BH (A7 (AB 0) rfl) T.DV MT hr hx (D7 (BH (A7 (AB 0) rfl) T.C1 rW hr hx (AI (AB 4))) BK (B9 GG)))) (AM (BG 6 OT.nd (BH (A7 (AB 0) rfl) T.DV MT hr hx (D7 (BH (A7 (AB 0) rfl) T.C1 aS hr hx (AI (AB 4))) (AB 2) (B9 (AI (AB 5)))))) (AQ (BC (B9 (D7 (AB 5) (AB 6) (BH (AB 0) T.CQ zh5 hr hx (D7 (AB 3) (AU AZ (CY CZ (BH (AB 0) T.CQ OX hr hx (AI (AB 3))) BK (λ_ _=>rfl)) (CK (AI (AB 4)))) (B9 (AI (AB 6))))))))))))))
abbrev aB:Stmt:=BT (BF 51) 5
theorem R0:FnScope ["self","name","at","record","pieces","without"] ["self","name","at"] (AW aB):=.go
def zgr(T:Txt K mg a)(F:Fun K "take" "Store.take" aB f fd) :
  FP P w K mg base 8 f fd ["self","name","at"] (OJ K a) :=
 F.okL (XL K a) R0 zc1 λ_ _ _ _ _ E hr hx=>(AM (BG 3 R0.nd (BH (AB 0) T.CQ OW hr hx (AI (AB 1)))) (AM (BG 4 R0.nd (CY CZ (BH (AB 0) T.CQ OX hr hx (AI (AB 3))) BK (λ_ _=>rfl))) (AM (CH (GB (K3 ES LK BK (AB 2) (DG F2 rfl T.F9 (by rfl) (AI (AB 4))))) (AQ (GK hx T.sM rfl T.sJ (AI AS))) C2) (AM (BG 5 R0.nd FE) (AQ (BC (B9 (A8 (AB 5) FE))))))))
abbrev aC:Stmt:=BT (BF 51) 8
theorem aD:FnScope ["self","name","pieces"] ["self","name"] (AW aC):=.go
theorem rN:(["piece","self"]:List Str).Nodup:=by decide +kernel
def zgs(T:Txt K mg a)(F:Fun K "texts" "Store.texts" aC f fd) :
  FP P w K mg base 8 f fd ["self","name"] (OG K a) :=
 F.okL (XM K a) aD zcx λ_ _ _ _ _ E hr hx=>(AM (BG 2 aD.nd (CY CZ (BH (AB 0) T.CQ OX hr hx (AI (BH (AB 0) T.CQ OW hr hx (AI (AB 1))))) BK (λ_ _=>rfl))) (AQ (BC (FN (tn:=["piece"]) (cn:=["self"]) (cap:=[0]) aD.cp rfl (E4 (AB 2)) (λ_ _ _ _ _ _=>(CL 0 rN)) (λ_ _ _ _ _ _=>FM) (λ_ _ _ _ _ _=>(G8 (A7 (AB 1) rfl) T.DV R4 hr.m G7 (AI (G8 (A7 (AB 1) rfl) T.C1 aS hr.m G7 (AI (AB 0))))))))))
abbrev aE:Stmt:=BT (BF 51) 9
theorem R1:FnScope ["self","name","record","own"] ["self","name"] (AW aE):=.go
def zgt(T:Txt K mg a)(F:Fun K "places_of" "Store.places_of" aE f fd) :
  FP P w K mg base 8 f fd ["self","name"] (RJ K a) :=
 F.okL (XN K a) R1 zc2 λ_ _ _ _ _ E hr hx=>(AM (BG 2 R1.nd (BH (AB 0) T.CQ OW hr hx (AI (AB 1)))) (AM (BG 3 R1.nd (B9 (A8 (BH (A7 (AB 0) rfl) T.C1 R6 hr hx (AI (BH (AB 0) T.CQ aT hr hx (AI (AB 1))))) (BH (A7 (AB 0) rfl) T.C1 R7 hr hx (AI (AB 2)))))) (AQ (BC (AU AZ (AB 3) (FN (tn:=["piece"]) (cn:=["self"]) (cap:=[0]) R1.cp rfl (E4 (CY CZ (BH (AB 0) T.CQ OX hr hx (AI (AB 2))) BK (λ_ _=>rfl))) (λ_ _ _ _ _ _=>(CL 0 rN)) (λ_ _ _ _ _ _=>FM) (λ_ _ _ _ _ _=>(G8 (A7 (AB 1) rfl) T.C1 aS hr.m G7 (AI (AB 0))))))))))
abbrev aF:Stmt:=BT (BF 51) 6
theorem R3:FnScope ["self","old","new","linked","record","gone"] ["self","old","new"] (AW aF):=.go
variable(r8:BU P w K mg base (a "Store") 8 "link" ["self","old","new"] (KH K a))
def zgu(T:Txt K mg a)(F:Fun K "move" "Store.move" aF f fd) :
  FP P w K mg base 9 f fd ["self","old","new"] (OH K a) :=
 F.okL (XO K a) R3 zcz λ_ _ _ _ _ E hr hx=>(AM (BG 3 R3.nd (BH (AB 0) T.CQ r8 hr hx (A8 (AB 1) (AB 2)))) (AM (BG 4 R3.nd FE) (AM (BG 5 R3.nd FE) (AQ (BC (AU AZ (AB 3) (B9 (A8 (AB 5) FE))))))))
abbrev aG:Stmt:=BF 53
theorem OU:FnScope ["store","name","hold","newest"] ["store","name"] (AW aG):=.go
variable(zhz:BU P w K mg base (a "Store") 1 "hold" ["self"] (RG K a))(zh3:BU P w K mg base (a "Store") 8 "places_of" ["self","name"] (RJ K a))(zhk:DP P w K mg base (3) "row_for" ["hold","numbers"] (Q6 K a))
theorem zgv:(["place","hold"]:List Str).Nodup:=by decide +kernel
theorem zgw:(["number"]:List Str).Nodup:=by decide +kernel
def zgx(T:Txt K mg a)(F:Fun K "row_to_keep" "row_to_keep" aG f fd) :
  FP P w K mg base 9 f fd ["store","name"] (KJ K a) :=
 F.okL (XQ K a) OU zc3 λ_ _ _ _ _ E hr hx=>(AM (PD (i:=2) OU.nd rfl (Or.inr rfl) (EE (AB 0) T.CQ zhz hr hx)) (AM (NK (i:=3) (tn:=["place"]) (cn:=["hold"]) (cap:=[2]) OU.cp rfl OU.nd rfl rfl (E4 (BH (AB 0) T.CQ zh3 hr hx (AI (AB 1)))) (λ_ _ _ _ _ _=>(CL 0 zgv)) (λ_ _ _ _ _ _=>FM) (λ_ _ _ _ _ _=>(G8 (AB 1) T.DV aQ hr.m G7 (AI (AB 0))))) (AQ (BC (DQ zhk hr hx (A8 (AB 2) (FN (tn:=["number"]) (cn:=[]) (cap:=[]) OU.cp rfl (E4 (AB 3)) (λ_ _ _ _ _ _=>(CL 0 zgw)) (λ_ _ _ _ _ _=>(NJ (DB PK (AB 0) FH (CJ _)))) (λ_ _ _ _ _ _=>(AB 0)))))))))
abbrev aH:Stmt:=BF 63
theorem rO:FnScope ["store","words","kind"] ["store","words"] (AW aH):=.go
variable(zh0:BU P w K mg base (a "Store") 8 "make" ["self","name"] (OE K a))(zhx:BU P w K mg base (a "Store") 8 "cut" ["self","name"] (OI K a))(zh4:BU P w K mg base (a "Store") 8 "put" ["self","name","text"] (OF K a))(zh6:BU P w K mg base (a "Store") 8 "take" ["self","name","at"] (OJ K a))(zh1:BU P w K mg base (a "Store") 9 "move" ["self","old","new"] (OH K a))
def zgy(T:Txt K mg a)(F:Fun K "do_deed" "do_deed" aH f fd) :
  FP P w K mg base 10 f fd ["store","words"] (MC K a) :=
 F.okL (XS K a) rO zc9 λ_ _ _ _ _ E hr hx=>(AM (BG 2 rO.nd (DN (AB 1))) (AQ (CH (DB (EC hr.units) (AB 2) AS (CJ _)) (AQ (DX (BH (AB 0) T.CQ zh0 hr hx (AI (DN (AB 1)))))) (AQ (CH (DB (EC hr.units) (AB 2) AS (CJ _)) (AQ (DX (BH (AB 0) T.CQ r8 hr hx (A8 (DN (AB 1)) (DN (AB 1)))))) (AQ (CH (DB (EC hr.units) (AB 2) AS (CJ _)) (AQ (DX (BH (AB 0) T.CQ zhx hr hx (AI (DN (AB 1)))))) (AQ (CH (DB (EC hr.units) (AB 2) AS (CJ _)) (AQ (DX (BH (AB 0) T.CQ zh4 hr hx (A8 (DN (AB 1)) (DN (AB 1)))))) (AQ (CH (DB (EC hr.units) (AB 2) AS (CJ _)) (AQ (DX (BH (AB 0) T.CQ zh6 hr hx (A8 (DN (AB 1)) (HJ Jg rfl T.zig (by rfl) (AI (DN (AB 1)))))))) (AQ (DX (BH (AB 0) T.CQ zh1 hr hx (A8 (DN (AB 1)) (DN (AB 1)))))))))))))))))
abbrev aI:Stmt:=BF 64
theorem aJ:FnScope ["store","words","kind"] ["store","words"] (AW aI):=.go
variable(zhl:DP P w K mg base (9) "row_to_keep" ["store","name"] (KJ K a))(rQ:DP P w K mg base (1) "joined_or_dash" ["parts"] (MB K a))(zh7:BU P w K mg base (a "Store") 8 "texts" ["self","name"] (OG K a))(zh2:BU P w K mg base (a "Store") 6 "names" ["self"] (OB K a))
def zgz(T:Txt K mg a)(F:Fun K "answer_of" "answer_of" aI f fd) :
  FP P w K mg base 10 f fd ["store","words"] (MD K a) :=
 F.okL (XV K a) aJ zdb λ_ _ _ _ _ E hr hx=>(AM (BG 2 aJ.nd (DN (AB 1))) (AM (CH (DB (EC hr.units) (AB 2) AS (CJ _)) (AQ (BC FE)) C2) (AM (CH (DB (EC hr.units) (AB 2) AS (CJ _)) (AQ (BC (DQ rQ hr hx (AI (FN (tn:=["block"]) (cn:=[]) (cap:=[]) aJ.cp rfl (E4 (DQ zhl hr hx (A8 (AB 0) (DN (AB 1))))) (λ_ _ _ _ _ _=>(CL 0 rD)) (λ_ _ _ _ _ _=>FM) (λ_ _ _ _ _ _=>(HJ UR rfl T.aY (by rfl) (AI (AB 0))))))))) C2) (AM (CH (DB (EC hr.units) (AB 2) AS (CJ _)) (AQ (BC (G4 PySem.F.plainAttrs_str PySem.F.slot_str_join PySem.F.type_str_join eO AS (AI (BH (AB 0) T.CQ zh7 hr hx (AI (DN (AB 1)))))))) C2) (AQ (BC (DQ rQ hr hx (AI (EE (AB 0) T.CQ zh2 hr hx)))))))))
abbrev aK:Stmt:=BT (BF 60) 2
theorem rP:FnScope ["self","row","words"] ["self","row"] (AW aK):=.go
variable(zhm:DP P w K mg base (2) "words_of" ["row"] (RL K a))(zg7:DP P w K mg base (10) "do_deed" ["store","words"] (MC K a))(zg6:DP P w K mg base (10) "answer_of" ["store","words"] (MD K a))
def zg0(T:Txt K mg a)(F:Fun K "say" "House.say" aK f fd) :
  FP P w K mg base 11 f fd ["self","row"] (EN K a) :=
 F.okL (XW K a) rP zdd λ_ _ _ _ _ E hr hx=>(AM (BG 2 rP.nd (DQ zhm hr hx (AI (AB 1)))) (AM (CH (DB (UD hr.units) (DN (AB 2)) (EZ T.zik rfl) (by with_unfolding_all rfl)) (AM (DX (DQ zg7 hr hx (A8 (A7 (AB 0) rfl) (AB 2)))) (AQ (BC AS))) C2) (AM (CH (DB (EC hr.units) (DN (AB 2)) AS (CJ _)) (AQ (BC FE)) C2) (AQ (BC (DQ zg6 hr hx (A8 (A7 (AB 0) rfl) (AB 2))))))))
abbrev aL:Stmt:=BF 76
theorem IM:FnScope ["house","row","due","kinds","right","other","e","wanted"] ["house","row","due"] (AW aL):=.go
variable(JV:BU P w K mg base (a "House") 11 "say" ["self","row"] (EN K a))
def zg1(T:Txt K mg a)(F:Fun K "_law_refused" "_law_refused" aL f fd) :
  FP P w K mg base 12 f fd ["house","row","due"] (OL K a) :=
 F.okL (X2 K a) IM zdp λ_ _ _ _ _ E hr hx=>(AM (BG 3 IM.nd (B9 GG)) (AM (BG 4 IM.nd HV) (AM (BG 5 IM.nd HV) (AM (w5 rfl rfl rfl rfl (λE1 _ _ hx1=>(AQ (DX (G8 (AB 0) T.IP JV hr.m hx1.passes (AI (AB 1)))))) (wZ (i:=6) IM.nd rfl rfl (wX rfl T.ziz) (λ_=>(AM (BG 3 IM.nd (B9 (J9 (DG LQ rfl T.MW (by rfl) (A8 (AB 6) (EZ T.zir rfl))) (DG LQ rfl T.MW (by rfl) (A8 (AB 6) (EZ T.zis rfl))) (DG LQ rfl T.MW (by rfl) (A8 (AB 6) (EZ T.zix rfl))) (DG LQ rfl T.MW (by rfl) (A8 (AB 6) (EZ T.ziu rfl)))))) (AM (BG 5 IM.nd (DG LQ rfl T.MW (by rfl) (A8 (AB 6) (CK (J9 (EZ T.zio rfl) (EZ T.ziq rfl) (EZ T.zit rfl) (EZ T.ziv rfl)))))) (AQ (BG 4 IM.nd (DG LQ rfl T.MW (by rfl) (A8 (AB 6) (tG rfl T.zie (by rfl) rfl)))))))) wV)) (AM (BG 7 IM.nd (B9 (J9 (HI (EC hr.units) (AB 2) AS (CJ _)) (HI (EC hr.units) (AB 2) AS (CJ _)) (HI (EC hr.units) (AB 2) AS (CJ _)) (HI (EC hr.units) (AB 2) AS (CJ _))))) (AQ (BC (K1 (AB 4) (K1 (xN (AB 5)) (K0 (HI (EC hr.units) (AB 3) (AB 7) (CJ _))))))))))))
abbrev aM:Stmt:=BF 77
theorem zg2:FnScope ["house","name"] ["house","name"] (AW aM):=.go
def zg3(T:Txt K mg a)(F:Fun K "_law_look" "_law_look" aM f fd) :
  FP P w K mg base 12 f fd ["house","name"] (OM K a) :=
 F.okL (X3 K a) zg2 zdq λ_ _ _ _ _ E hr hx=>(AQ (BC (B9 (D7 (BH (AB 0) T.IP JV hr hx (AI AS)) (BH (AB 0) T.IP JV hr hx (AI (AU AZ AS (AB 1)))) (BH (AB 0) T.IP JV hr hx (AI (AU AZ AS (AB 1))))))))
abbrev aN:Stmt:=BF 78
theorem IN:FnScope ["script","cell","house","name","ahead","none","row","due"] ["script"] (AW aN):=.go
variable(zhg:DP P w K mg base (1) "_law_cell_at" ["script","k"] (L4 K a))(zib:JB P w K mg base (a "Layout") 1 "Layout" ["self","names","records","pieces","cells"] (QU K a))(zia:JB P w K mg base (a "House") 6 "House" ["self","layout"] (RM K a))(zhh:DP P w K mg base (1) "_law_name" ["cell"] (RN K a))(rR:DP P w K mg base (12) "_law_look" ["house","name"] (OM K a))(zhi:DP P w K mg base (1) "_law_none" ["cell","name"] (RO K a))(zhf:DP P w K mg base (1) "_law_case" ["cell","name","none","away"] (RP K a))(rS:DP P w K mg base (12) "_law_refused" ["house","row","due"] (OL K a))
def zg4(T:Txt K mg a)(F:Fun K "law" "law" aN f fd) :
  FP P w K mg base 13 f fd ["script"] (gD K a) :=
 F.okL (X4 K a) IN zd4 λ_ _ _ _ _ E hr hx=>(AM (BG 1 IN.nd (DQ zhg hr hx (A8 (AB 0) BK))) (AM (BG 2 IN.nd (LI zia hr.m hx.passes rfl (AI (LI zib hr.m hx.passes rfl (J9 BK BK BK (AU AZ BK (AU G3 (AB 1) BK))))))) (AM (BG 3 IN.nd (DQ zhh hr hx (AI (AU J2 (AB 1) BK)))) (AM (DX (BH (AB 2) T.IP JV hr hx (AI (AU AZ AS (AB 3))))) (AM (DX (BH (AB 2) T.IP JV hr hx (AI (AU AZ (AU AZ AS (AB 3)) AS)))) (AM (BG 4 IN.nd (DQ rR hr hx (A8 (AB 2) (AB 3)))) (AM (G2 hx.po rfl (E4 (AB 0)) (CL 1 IN.nd) (AM (BG 5 IN.nd (DQ zhi hr hx (A8 (AU J2 (AB 1) BK) (AB 3)))) (AM (tP (DQ zhf hr hx (J9 (AB 1) (AB 3) (AB 5) (AU AZ (AB 3) AS))) (SK rfl (K2 (CL 6 IN.nd) (K2 (CL 7 IN.nd) SJ)))) (AM (CH (PW.pt (SH (GB (J3 (DQ rS hr hx (D7 (AB 2) (AB 6) (AB 7))) (λ_=>rfl))) (SG (GB (J3 (DQ rS hr hx (D7 (AB 2) (AB 6) (AB 7))) (λ_=>rfl)))))) (AQ (BC HV)) C2) (AQ (CH (DB (PU hr.units) (DQ rR hr hx (A8 (AB 2) (AB 3))) (AB 4) (CJ _)) (AQ (BC HV)) C2)))))) (AQ (BC (K1 (HI (EC hr.units) (BH (AB 2) T.IP JV hr hx (AI (AU AZ (AU AZ AS (AB 3)) AS))) AS (CJ _)) (K0 (HI (EC hr.units) (BH (AB 2) T.IP JV hr hx (AI (AU AZ AS (AB 3)))) AS (CJ _)))))))))))))
end
end L2
namespace L2
theorem zg5(q5f q5g q5h q5i q5j q5k q5l q5m q5n q5o q5p q5q q5r q5s q5t q5u q5v q5w:Addr):∃ a:Ad,a "HoldError"=q5f/\a "NoBlock"=q5g/\a "NoChange"=q5h/\a "NoRoom"=q5i/\a "NoName"=q5j/\a "Twice"=q5k/\a "NoPiece"=q5l/\a "NotSound"=q5m/\a "NoRow"=q5n/\a "Change"=q5o/\a "Hold"=q5p/\a "Store"=q5q/\a "House"=q5r/\a "Plank"=q5s/\a "Layout"=q5t/\a "DEEDS"=q5u/\a "FORMS"=q5v/\a "WITH_A_NUMBER_LAST"=q5w :=
 ⟨λs=>if s="HoldError" then q5f else if s="NoBlock" then q5g else if s="NoChange" then q5h else if s="NoRoom" then q5i else if s="NoName" then q5j else if s="Twice" then q5k else if s="NoPiece" then q5l else if s="NotSound" then q5m else if s="NoRow" then q5n else if s="Change" then q5o else if s="Hold" then q5p else if s="Store" then q5q else if s="House" then q5r else if s="Plank" then q5s else if s="Layout" then q5t else if s="DEEDS" then q5u else if s="FORMS" then q5v else if s="WITH_A_NUMBER_LAST" then q5w else 0,by simp⟩
def aO(K:W.Frag):Sp:=λvs H Q _=>∃ (s:Addr) (ns:List Int),vs=[.ref s]/\SqL K H s (ns.map V.int)/\ns.length<=63/\∀ H',Q (.bl true) H'
theorem all_mk{l:W.OpenLaw}{w:World}{K:W.Frag}{h:Heap}{mg:Str->Option Value}{fa:Addr}{q5f q5g q5h q5i q5j q5k q5l q5m q5n q5o q5p q5q q5r q5s q5t q5u q5v q5w:Addr}{tk_MOST_FIGURES:Tok}{tk_MOST_LETTERS:Tok}{tk_MOST_PIECE_SIGNS:Tok}{tk_PERCENT:Tok}{o_DEEDS:Obj}{o_FORMS:Obj}{o_WITH_A_NUMBER_LAST:Obj}(X:K.In h)(G:h.Ns mainGlobals mg)(hfa:mg "law"=some (.ref fa))
  (q0:GX K q5f "HoldError")
  (q1:GX K q5g "NoBlock")
  (q2:GX K q5h "NoChange")
  (q3:GX K q5i "NoRoom")
  (q4:GX K q5j "NoName")
  (q5:GX K q5k "Twice")
  (q6:GX K q5l "NoPiece")
  (q7:GX K q5m "NotSound")
  (q8:GX K q5n "NoRow")
  (q9:GC K q5o "Change")
  (qa:GC K q5p "Hold")
  (qb:GC K q5q "Store")
  (qc:GC K q5r "House")
  (qd:GC K q5s "Plank")
  (qe:GC K q5t "Layout")
  (qf:W.nsIn K mainGlobals "DEEDS"=some (some (.ref q5u)))
  (qg:K.lookup q5u=some o_DEEDS)
  (qh:QH o_DEEDS ["make","link","cut","put","take","move"]=true)
  (qi:W.nsIn K mainGlobals "FORMS"=some (some (.ref q5v)))
  (qj:K.lookup q5v=some o_FORMS)
  (qk:(q5v == sysModules)=false)
  (ql:QF o_FORMS MA=true)
  (qm:W.nsIn K mainGlobals "MOST_FIGURES"=some (some (.int 3 tk_MOST_FIGURES)))
  (qn:W.nsIn K mainGlobals "MOST_LETTERS"=some (some (.int 8 tk_MOST_LETTERS)))
  (qo:W.nsIn K mainGlobals "MOST_PIECE_SIGNS"=some (some (.int 40 tk_MOST_PIECE_SIGNS)))
  (qp:W.nsIn K mainGlobals "PERCENT"=some (some (.int 37 tk_PERCENT)))
  (qq:W.nsIn K mainGlobals "WITH_A_NUMBER_LAST"=some (some (.ref q5w)))
  (qr:K.lookup q5w=some o_WITH_A_NUMBER_LAST)
  (qs:QH o_WITH_A_NUMBER_LAST ["take","write"]=true)
  (qt:W.nsIn K mainGlobals "ValueError"=some none)
  (qu:W.nsIn K mainGlobals "all"=some none)
  (qv:W.nsIn K mainGlobals "dict"=some none)
  (qw:W.nsIn K mainGlobals "enumerate"=some none)
  (qx:W.nsIn K mainGlobals "int"=some none)
  (qy:W.nsIn K mainGlobals "isinstance"=some none)
  (qz:W.nsIn K mainGlobals "len"=some none)
  (q10:W.nsIn K mainGlobals "list"=some none)
  (q11:W.nsIn K mainGlobals "ord"=some none)
  (q12:W.nsIn K mainGlobals "range"=some none)
  (q13:W.nsIn K mainGlobals "reversed"=some none)
  (q14:W.nsIn K mainGlobals "set"=some none)
  (q15:W.nsIn K mainGlobals "sorted"=some none)
  (q16:W.nsIn K mainGlobals "str"=some none)
  (q17:W.nsIn K mainGlobals "tuple"=some none)
  (q18:GF K "law" aN)
  (q19:GM K q5s "blocks" "Plank.blocks" YQ)
  (q1a:GM K q5p "ask_for_changes" "Book.ask_for_changes" YF)
  (q1b:GM K q5p "waiting" "Book.waiting" YD)
  (q1c:GM K q5s "cells" "Plank.cells" YR)
  (q1d:GM K q5p "lack_of" "Hold.lack_of" YH)
  (q1e:GF K "is_sign" YI)
  (q1f:GF K "is_number" YM)
  (q1g:GM K q5s "ask_for_block" "Plank.ask_for_block" YS)
  (q1h:GM K q5t "place_from" "Layout.place_from" YW)
  (q1i:GM K q5t "blocks_ahead_of_marks" "Layout.blocks_ahead_of_marks" YV)
  (q1j:GM K q5p "closure" "Book.closure" Y3)
  (q1k:GM K q5p "block_of" "Book.block_of" YE)
  (q1l:GM K q5p "outcome" "Hold.outcome" Y5)
  (q1m:GM K q5p "ask_for_place" "Book.ask_for_place" Y4)
  (q1n:GM K q5t "blocks" "Layout.blocks" ZF)
  (q1o:GN K q5s "Plank" "Plank.__init__" YO)
  (q1p:GM K q5p "newest" "Book.newest" ZH)
  (q1q:GF K "needs_with" YG)
  (q1r:GN K q5o "Change" "Change.__init__" YC)
  (q1s:GM K q5s "read" "Plank.read" Y9)
  (q1t:GN K q5p "Hold" "Book.__init__" Y2)
  (q1u:GM K q5p "in_hand" "Book.in_hand" ZL)
  (q1v:GM K q5t "counts" "Layout.counts" YU)
  (q1w:GM K q5t "name_at" "Layout.name_at" ZA)
  (q1x:GM K q5t "record_at" "Layout.record_at" ZB)
  (q1y:GM K q5p "change" "Book.change" ZJ)
  (q1z:GF K "lowest_with" ZN)
  (q20:GM K q5t "record_mark" "Layout.record_mark" ZD)
  (q21:GM K q5t "piece_mark" "Layout.piece_mark" ZE)
  (q22:GM K q5q "name_cells" "Store.name_cells" ZP)
  (q23:GM K q5q "standing" "Store.standing" ZQ)
  (q24:GM K q5t "plank" "Layout.plank" ZI)
  (q25:GN K q5q "Store" "Store.__init__" ZM)
  (q26:GF K "is_name" YJ)
  (q27:GM K q5q "cell_of" "Store.cell_of" Z0)
  (q28:GM K q5q "ask_for_new_name" "Store.ask_for_new_name" Z4)
  (q29:GF K "free_record" ZV)
  (q2a:GF K "free_name" ZS)
  (q2b:GM K q5q "fill_cell" "Store.fill_cell" ZR)
  (q2c:GM K q5q "record_of" "Store.record_of" Z5)
  (q2d:GF K "is_piece" Y6)
  (q2e:GF K "free_piece" ZX)
  (q2f:GM K q5t "piece_at" "Layout.piece_at" ZC)
  (q2g:GM K q5q "regroup" "Store.regroup" Z2)
  (q2h:GM K q5q "link" "Store.link" Z7)
  (q2i:GM K q5q "hold" "Store.hold" YL)
  (q2j:GM K q5q "places_of" "Store.places_of" aE)
  (q2k:GF K "row_for" ZG)
  (q2l:GM K q5q "make" "Store.make" Z6)
  (q2m:GM K q5q "cut" "Store.cut" Z8)
  (q2n:GM K q5q "put" "Store.put" aA)
  (q2o:GM K q5q "take" "Store.take" aB)
  (q2p:GM K q5q "move" "Store.move" aF)
  (q2q:GF K "row_to_keep" aG)
  (q2r:GF K "joined_or_dash" YN)
  (q2s:GM K q5q "texts" "Store.texts" aC)
  (q2t:GM K q5q "names" "Store.names" ZZ)
  (q2u:GF K "words_of" Y7)
  (q2v:GF K "do_deed" aH)
  (q2w:GF K "answer_of" aI)
  (q2x:GM K q5r "say" "House.say" aK)
  (q2y:GF K "_law_cell_at" YX)
  (q2z:GN K q5t "Layout" "Layout.__init__" YT)
  (q30:GN K q5r "House" "House.__init__" Z3)
  (q31:GF K "_law_name" YY)
  (q32:GF K "_law_look" aM)
  (q33:GF K "_law_none" YZ)
  (q34:GF K "_law_case" Y1)
  (q35:GF K "_law_refused" aL)
  (q36:W.findIn K (.ref q5s) "contents"=some none)
  (q37:W.findIn K (.ref q5s) "width"=some none)
  (q38:W.findIn K (.ref q5s) "written"=some none)
  (q39:W.findIn K (.ref q5p) "ground"=some none)
  (q3a:W.findIn K (.ref q5p) "made"=some none)
  (q3b:W.findIn K (.ref q5p) "made_in"=some none)
  (q3c:W.findIn K (.ref q5p) "latest"=some none)
  (q3d:W.findIn K (.ref q5p) "outs"=some none)
  (q3e:W.findIn K (.ref q5o) "place"=some none)
  (q3f:W.findIn K (.ref q5o) "value"=some none)
  (q3g:W.findIn K (.ref q5o) "needs"=some none)
  (q3h:W.findIn K (.ref q5t) "name_blocks"=some none)
  (q3i:W.findIn K (.ref q5t) "record_blocks"=some none)
  (q3j:W.findIn K (.ref q5t) "piece_blocks"=some none)
  (q3k:W.findIn K (.ref q5t) "width"=some none)
  (q3l:W.findIn K (.ref q5q) "plan"=some none)
  (q3m:W.findIn K (.ref q5q) "book"=some none)
  (q3n:W.findIn K (.ref q5q) "taken_out"=some none)
  (q3o:W.findIn K (.ref q5r) "plan"=some none)
  (q3p:W.findIn K (.ref q5r) "ground"=some none)
  (q3q:W.findIn K (.ref q5r) "store"=some none)
  (q3r:W.findIn K (.ref q5j) "__getattribute__"=some (some (.builtin "BaseException.__getattribute__")))
  (q3s:W.findIn K (.ref q5j) "__getattr__"=some none)
  (q3t:W.mroIn K q5j (.type "BaseException")=some true)
  (q3u:W.isClsIn K q5j=true)
  (q3v:W.findIn K (.ref q5j) "__class__"=some (some (.builtin "object.__class__")))
  (q3w:W.specialIn K (.builtin "object.__class__") "__get__"=some (some (.builtin "getset_descriptor.__get__")))
  (q3x:W.takesIn K (.builtin "object.__class__")=some true)
  (q3y:W.mroIn K q5j (.type "object")=some true)
  (q3z:W.exmOne K (.ref q5j) (.ref q5f)=some true)
  (q40:W.kitOne K (.ref q5j) (.ref q5j)=some true)
  (q41:W.kitOne K (.ref q5j) (.ref q5l)=some false)
  (q42:W.kitOne K (.ref q5j) (.ref q5k)=some false)
  (q43:W.kitOne K (.ref q5j) (.ref q5n)=some false)
  (q44:W.kitAny K (.ref q5j) [.ref q5g,.ref q5h,.ref q5i,.ref q5m]=some false)
  (q45:W.kitOne K (.ref q5j) (.type "ValueError")=some true)
  (q46:W.findIn K (.ref q5l) "__getattribute__"=some (some (.builtin "BaseException.__getattribute__")))
  (q47:W.findIn K (.ref q5l) "__getattr__"=some none)
  (q48:W.mroIn K q5l (.type "BaseException")=some true)
  (q49:W.isClsIn K q5l=true)
  (q4a:W.findIn K (.ref q5l) "__class__"=some (some (.builtin "object.__class__")))
  (q4b:W.specialIn K (.builtin "object.__class__") "__get__"=some (some (.builtin "getset_descriptor.__get__")))
  (q4c:W.takesIn K (.builtin "object.__class__")=some true)
  (q4d:W.mroIn K q5l (.type "object")=some true)
  (q4e:W.exmOne K (.ref q5l) (.ref q5f)=some true)
  (q4f:W.kitOne K (.ref q5l) (.ref q5j)=some false)
  (q4g:W.kitOne K (.ref q5l) (.ref q5l)=some true)
  (q4h:W.kitOne K (.ref q5l) (.ref q5k)=some false)
  (q4i:W.kitOne K (.ref q5l) (.ref q5n)=some false)
  (q4j:W.kitAny K (.ref q5l) [.ref q5g,.ref q5h,.ref q5i,.ref q5m]=some false)
  (q4k:W.kitOne K (.ref q5l) (.type "ValueError")=some true)
  (q4l:W.findIn K (.ref q5k) "__getattribute__"=some (some (.builtin "BaseException.__getattribute__")))
  (q4m:W.findIn K (.ref q5k) "__getattr__"=some none)
  (q4n:W.mroIn K q5k (.type "BaseException")=some true)
  (q4o:W.isClsIn K q5k=true)
  (q4p:W.findIn K (.ref q5k) "__class__"=some (some (.builtin "object.__class__")))
  (q4q:W.specialIn K (.builtin "object.__class__") "__get__"=some (some (.builtin "getset_descriptor.__get__")))
  (q4r:W.takesIn K (.builtin "object.__class__")=some true)
  (q4s:W.mroIn K q5k (.type "object")=some true)
  (q4t:W.exmOne K (.ref q5k) (.ref q5f)=some true)
  (q4u:W.kitOne K (.ref q5k) (.ref q5j)=some false)
  (q4v:W.kitOne K (.ref q5k) (.ref q5l)=some false)
  (q4w:W.kitOne K (.ref q5k) (.ref q5k)=some true)
  (q4x:W.kitOne K (.ref q5k) (.ref q5n)=some false)
  (q4y:W.kitAny K (.ref q5k) [.ref q5g,.ref q5h,.ref q5i,.ref q5m]=some false)
  (q4z:W.kitOne K (.ref q5k) (.type "ValueError")=some true)
  (q50:W.findIn K (.ref q5n) "__getattribute__"=some (some (.builtin "BaseException.__getattribute__")))
  (q51:W.findIn K (.ref q5n) "__getattr__"=some none)
  (q52:W.mroIn K q5n (.type "BaseException")=some true)
  (q53:W.isClsIn K q5n=true)
  (q54:W.findIn K (.ref q5n) "__class__"=some (some (.builtin "object.__class__")))
  (q55:W.specialIn K (.builtin "object.__class__") "__get__"=some (some (.builtin "getset_descriptor.__get__")))
  (q56:W.takesIn K (.builtin "object.__class__")=some true)
  (q57:W.mroIn K q5n (.type "object")=some true)
  (q58:W.exmOne K (.ref q5n) (.ref q5f)=some true)
  (q59:W.kitOne K (.ref q5n) (.ref q5j)=some false)
  (q5a:W.kitOne K (.ref q5n) (.ref q5l)=some false)
  (q5b:W.kitOne K (.ref q5n) (.ref q5k)=some false)
  (q5c:W.kitOne K (.ref q5n) (.ref q5n)=some true)
  (q5d:W.kitAny K (.ref q5n) [.ref q5g,.ref q5h,.ref q5i,.ref q5m]=some false)
  (q5e:W.kitOne K (.ref q5n) (.type "ValueError")=some true) :
  ∃ fd:FuncData,(∀ (s:Shared) (v:Value),BindsTo s fd ⟨[v],[]⟩ [("script",v)])/\∀ base:Heap,K.In base->base.Ns mainGlobals mg->FnOk l.prog w K mg base (DZ l.prog w) 13 fa fd ["script"] (aO K):=by
 obtain⟨a,rfl,rfl,rfl,rfl,rfl,rfl,rfl,rfl,rfl,rfl,rfl,rfl,rfl,rfl,rfl,rfl,rfl,rfl⟩:=zg5 q5f q5g q5h q5i q5j q5k q5l q5m q5n q5o q5p q5q q5r q5s q5t q5u q5v q5w
 have T:Txt K mg a:=⟨q9.c,qa.c,qc.c,qe.c,qd.c,qb.c,⟨_,W.mg_of X G qf,rfl⟩,⟨_,W.mg_of X G qi,rfl⟩,Jk qj ql qk,W.mg_of X G q0.ac,⟨_,W.mg_of X G q0.ac,rfl⟩,⟨q0.ex⟩,⟨_,W.mg_of X G qm,_,rfl⟩,⟨_,W.mg_of X G qn,_,rfl⟩,⟨_,W.mg_of X G qo,_,rfl⟩,W.mg_of X G q1.ac,⟨_,W.mg_of X G q1.ac,rfl⟩,⟨q1.ex⟩,W.mg_of X G q2.ac,⟨_,W.mg_of X G q2.ac,rfl⟩,⟨q2.ex⟩,W.mg_of X G q4.ac,⟨_,W.mg_of X G q4.ac,rfl⟩,⟨q4.ex⟩,W.mg_of X G q6.ac,⟨_,W.mg_of X G q6.ac,rfl⟩,⟨q6.ex⟩,W.mg_of X G q3.ac,⟨_,W.mg_of X G q3.ac,rfl⟩,⟨q3.ex⟩,W.mg_of X G q8.ac,⟨_,W.mg_of X G q8.ac,rfl⟩,⟨q8.ex⟩,W.mg_of X G q7.ac,⟨_,W.mg_of X G q7.ac,rfl⟩,⟨q7.ex⟩,⟨_,W.mg_of X G qp,_,rfl⟩,W.mg_of X G q5.ac,⟨_,W.mg_of X G q5.ac,rfl⟩,⟨q5.ex⟩,⟨_,W.mg_of X G qq,rfl⟩,W.mg_none_of X G qt,W.mg_none_of X G qu,W.mg_none_of X G qv,W.mg_none_of X G qw,W.mg_none_of X G qx,W.mg_none_of X G qy,W.mg_none_of X G qz,W.mg_none_of X G q10,W.mg_none_of X G q11,W.mg_none_of X G q12,W.mg_none_of X G q13,W.mg_none_of X G q14,W.mg_none_of X G q15,W.mg_none_of X G q16,W.mg_none_of X G q17⟩
 have TPk:ET K a:=⟨T.MX,q36,q37,q38⟩
 have TBk:fS K (a "Hold") (a "Change"):=⟨T.DV,q39,q3a,q3b,q3c,q3d,T.zij,q3e,q3f,q3g⟩
 have TLy:EH K a:=⟨T.C1,q3h,q3i,q3j,q3k⟩
 have TSt:N9 K a:=⟨T.CQ,q3l,q3m,q3n⟩
 have THo:gC K a:=⟨T.IP,q3o,q3p,q3q⟩
 have FV:FV K a:=⟨⟨TBk,TPk,TLy,TSt⟩,THo,fG qg qh,fG qr qs⟩
 have TXc:VA K a:=⟨⟨q3z,⟨q3r,q3s,q3t,q3u,q3v,q3w,q3x,q3y⟩,q40,q41,q42,q43,q44,q45⟩,⟨q4e,⟨q46,q47,q48,q49,q4a,q4b,q4c,q4d⟩,q4f,q4g,q4h,q4i,q4j,q4k⟩,⟨q4t,⟨q4l,q4m,q4n,q4o,q4p,q4q,q4r,q4s⟩,q4u,q4v,q4w,q4x,q4y,q4z⟩,⟨q58,⟨q50,q51,q52,q53,q54,q55,q56,q57⟩,q59,q5a,q5b,q5c,q5d,q5e⟩⟩
 obtain⟨fd,hb,F⟩:=q18.law X G hfa (λ_ _ _ _ _ _ _ _=>.of_eq rfl)
 refine⟨fd,hb,λbase _ _=> ?_⟩
 have q6f:=q1r.cal X G (zd6 l.prog w base T)
 have q5z:=q1b.cal (zd8 l.prog w base T)
 have q68:=q1k.cal (zea l.prog w base T)
 have q5y:=q1a.cal (zeb l.prog w base T)
 have q6e:=q1q.cal X G (zed l.prog w base T)
 have q61:=q1d.cal (zee l.prog w base T)
 have q62:=q1e.cal X G (zeg l.prog w base T)
 have q6u:=q26.cal X G (zeh l.prog w base T)
 have q76:=q2i.cal (zej l.prog w base T)
 have q63:=q1f.cal X G (zek l.prog w base T)
 have q7f:=q2r.cal X G (zem l.prog w base T)
 have q6c:=q1o.cal X G (zeo l.prog w base T)
 have q5x:=q19.cal (zeq l.prog w base T)
 have q60:=q1c.cal (zes l.prog w base T)
 have q64:=q1g.cal (zeu l.prog w base T)
 have q7n:=q2z.cal X G (zew l.prog w base T)
 have q6j:=q1v.cal (zey l.prog w base T)
 have q66:=q1i.cal (ze0 l.prog w base T)
 have q65:=q1h.cal (ze2 l.prog w base T)
 have q7m:=q2y.cal X G (ze4 l.prog w base T)
 have q7p:=q31.cal X G (ze5 l.prog w base T)
 have q7r:=q33.cal X G (ze6 l.prog w base T)
 have q7s:=q34.cal X G (ze7 l.prog w base T)
 have q6h:=q1t.cal X G (ze8 l.prog w base q5x T)
 have q67:=q1j.cal (zfa l.prog w base q5y q5z T)
 have q6a:=q1m.cal (zfc l.prog w base q5x q60 T)
 have q69:=q1l.cal (zfd l.prog w base q61 T)
 have q71:=q2d.cal X G (zfe l.prog w base q62 T)
 have q7i:=q2u.cal X G (zff l.prog w base q63 T)
 have q6g:=q1s.cal (zfh l.prog w base q64 T)
 have q6k:=q1w.cal (zfj l.prog w base q65 T)
 have q6l:=q1x.cal (zfl l.prog w base q65 T)
 have q73:=q2f.cal (zfn l.prog w base q65 T)
 have q6o:=q20.cal (zfp l.prog w base q65 q66 T)
 have q6p:=q21.cal (zfr l.prog w base q65 q66 T)
 have q6b:=q1n.cal (zft l.prog w base q66 T)
 have q78:=q2k.cal X G (zfv l.prog w base q67 q68 q69 T)
 have q6d:=q1p.cal (zfx l.prog w base q6a T)
 have q6s:=q24.cal (zfz l.prog w base q6b q6c T)
 have q6m:=q1y.cal (zf0 l.prog w base q5y q6d q6e q6f T)
 have q6i:=q1u.cal (zf1 l.prog w base q6d q6g T)
 have q6t:=q25.cal X G (zf3 l.prog w base q6h T)
 have q6n:=q1z.cal X G (zf4 l.prog w base q6i T)
 have q6q:=q22.cal (zf6 l.prog w base q6i q6j q6k T)
 have q6r:=q23.cal (zf8 l.prog w base q6i q6l T)
 have q6z:=q2b.cal (zf9 l.prog w base q6k q6m T)
 have q6y:=q2a.cal X G (zga l.prog w base q6j q6k q6n T)
 have q6x:=q29.cal X G (zgb l.prog w base q6j q6n q6o T)
 have q72:=q2e.cal X G (zgc l.prog w base q6j q6n q6p T)
 have q7h:=q2t.cal (zge l.prog w base q6q T)
 have q6v:=q27.cal (zgf l.prog w base q6q T)
 have q74:=q2g.cal (zgh l.prog w base q6l q6m q6r T)
 have q7o:=q30.cal X G (zgj l.prog w base q6s q6t T)
 have q6w:=q28.cal (zgl l.prog w base q6u q6v T)
 have q70:=q2c.cal (zgm l.prog w base q6q q6v T)
 have q79:=q2l.cal (zgn l.prog w base q6l q6m q6o q6w q6x q6y q6z T)
 have q75:=q2h.cal (zgo l.prog w base q6w T)
 have q7a:=q2m.cal (zgp l.prog w base q70 T)
 have q7b:=q2n.cal (zgq l.prog w base q6m q6p q6r q70 q71 q72 q73 q74 T)
 have q7c:=q2o.cal (zgr l.prog w base q6r q70 T)
 have q7g:=q2s.cal (zgs l.prog w base q6i q6r q70 q73 T)
 have q77:=q2j.cal (zgt l.prog w base q6k q6l q6r q6v q70 q73 T)
 have q7d:=q2p.cal (zgu l.prog w base q75 T)
 have q7e:=q2q.cal X G (zgx l.prog w base q6d q76 q77 q78 T)
 have q7j:=q2v.cal X G (zgy l.prog w base q75 q79 q7a q7b q7c q7d T)
 have q7k:=q2w.cal X G (zgz l.prog w base q7e q7f q7g q7h T)
 have q7l:=q2x.cal (zg0 l.prog w base q7i q7j q7k T)
 have q7t:=q35.cal X G (zg1 l.prog w base q7l T)
 have q7q:=q32.cal X G (zg3 l.prog w base q7l T)
 exact(zg4 l.prog w base q7l q7m q7n q7o q7p q7q q7r q7s q7t T F).imp (λvs H Q E ⟨s,ns,e,hs,hn,q⟩=>⟨s,ns,e,FV,TXc,hs,hn,q⟩)
theorem walk{l:W.OpenLaw}{q:Program}{loose:List Str}{XP:(Str->Option Value)->Heap->Prop}{YP:World->Heap->Prop}{d:DefRec}{K:Params->W.Frag}(hn:l.most=some 63)(hdf:d.params.defaults=[])
  (hY:∀ (w:World) (h:Heap),YP w h->(K w.params).In h)
  (F:∀ (w:World) (mg:Str->Option Value) (fa:Addr) (h:Heap),(K w.params).In h->h.Ns mainGlobals mg->mg d.name=some (.ref fa) →
   ∃ fd:FuncData,(∀ (s:Shared) (u:Value),BindsTo s fd ⟨[u],[]⟩ [("script",u)])/\∀ base:Heap,(K w.params).In base->base.Ns mainGlobals mg->FnOk l.prog w (K w.params) mg base (DZ l.prog w) 13 fa fd ["script"] (aO (K w.params))) :
  W.WalkO q loose XP YP l.row.toRowW d [] (λf vs=>PySem.call f vs) :=
 L2.walk_of (n:=63) (k:=13) (x:="script") (CX:=λw=>DZ l.prog w) (sp:=λw=>aO (K w.params)) hn (by decide) hdf ⟨rfl,by decide,by decide⟩ hY F (λ_ _ a ns hl _ hS=>⟨a,ns,rfl,hS,hl,λ_=>rfl⟩) λ_ _ _ _ _ z=>dB z
end L2
namespace PySem.W.Fast
def tw4332323431927780144:=()
def tw5470258276820977288:=()
def tw1796351590512937558:=()
def tw10459746666867684436:=()
def tw4042256717558670986:=()
def tw6925146578274719508:=()
def tw990491564647125985:=()
def tw3615044148725704601:=()
def tw11834226182170714785:=()
def tw3004844449471793404:=()
def tw9220436499164444605:=()
def tw9685081038050040799:=()
def tw5600065668826066662:=()
def tw269654439714552218:=()
def tw11548162335182520014:=()
def tw8977956997623164260:=()
def tw16082350383506326988:=()
def tw15838058734165412871:=()
def tw12672454828285079968:=()
def tw838266676583025552:=()
def tw272628957156465020:=()
def tw11629618602814611137:=()
def tw15746773899511899330:=()
def tw2984220483145864378:=()
def tw1812484365522521946:=()
def tw16663208506481292769:=()
def tw10643919050628091697:=()
def tw712254363835868022:=()
def tw4037196838194778393:=()
def tw8291002638735425595:=()
def tw1398737434677525185:=()
def tw9030437987520213005:=()
def tw5839253840714166967:=()
def tw17020949332179226014:=()
def tw5350700169130617112:=()
def tw5851020026126581122:=()
def tw12186729223249489536:=()
def tw11729902718174668286:=()
def tw10130103193901002313:=()
def tw12004552526604073828:=()
def tw13436130940765048628:=()
def tw635648072284160777:=()
def tw3172147925077803989:=()
def tw13914408650701200205:=()
def tw17415000671188427541:=()
def tw18185627378496969136:=()
def tw11654050004565949873:=()
def tw4366773256174693644:=()
def tw2123091049005039210:=()
def tw4084698475057377980:=()
def tw10755901411004886162:=()
def tw13674478320508838971:=()
def tw9130707824798866776:=()
def tw13206758808044165546:=()
def tw5404119766297281882:=()
def tw15416685632947930988:=()
def tw1760272133034374183:=()
def tw1555689820367641338:=()
def tw5819184653645056845:=()
def tw16743573787088427494:=()
def tw17096598207046075528:=()
def tw7720581211273326574:=()
def tw17063393095824949180:=()
def tw9778042605117209393:=()
def tw10359759153386311789:=()
def tw3511446403023658638:=()
def tw14732926489400721173:=()
def tw4254843826323156451:=()
def tw13691422270115436791:=()
def tw11183685323861863161:=()
def tw13769878208014816127:=()
def tw4599170907770451495:=()
def tw8827276908901719036:=()
def tw6723572759553954653:=()
def tw13204012851031665056:=()
def tw297059908678388554:=()
def tw5309250965858437926:=()
def tw17045361468835070591:=()
def tw11302245758294205206:=()
def tw6781759129013715450:=()
def tw8860901006626834917:=()
def tw13828695334252959241:=()
def tw7146030561874182192:=()
def tw1422066390641608063:=()
def tw11588504304637712312:=()
def tw12789445950084852309:=()
def tw3479025384293011690:=()
def tw8504991624665993270:=()
def tw9941589360113175096:=()
def tw8303782898719542677:=()
def tw13763513566265249906:=()
def tw18409659387729027916:=()
def tw16161053832228713702:=()
def tw12247332793437936939:=()
def tw6186825036299691775:=()
def tw4321426016036800452:=()
def tw18248931524451617832:=()
def tw15176320188673776401:=()
def tw14803501853016911743:=()
def tw17520852217341929805:=()
def tw7910276117789767221:=()
def tw4127552607983677770:=()
def tw6692174838213296600:=()
def tw5628909121921265879:=()
def tw15953016068936752698:=()
def tw7840154077772738017:=()
def tw15536235864615777772:=()
def tw13264127658560803862:=()
def tw17793295649344835298:=()
def tw18292734562973839323:=()
def tw16744315308852420142:=()
def tw13853656140720149516:=()
def tw5480522497338934048:=()
def tw11541101265030438076:=()
def tw18211111262427104290:=()
def tw7661313281354948210:=()
def tw2383890929924082596:=()
def tw3215815967492652398:=()
def tw9333041255585226951:=()
def tw8587470410623320619:=()
def tw16045117363393026509:=()
def tw14166414938665102584:=()
def tw3318993880290200722:=()
def tw9492587907540825367:=()
def tw14166775624562835596:=()
def tw4020839711130787325:=()
def tw7788684499704843640:=()
def tw9127065604193557036:=()
def tw1634632449519241132:=()
def tw11157893095777883193:=()
def tw12523233916545935928:=()
def tw12309385858918588289:=()
def tw9367412525773567120:=()
def tw6030806151582162556:=()
def tw9758147588627983270:=()
def tw4468747955227184257:=()
def tw1073996433284464082:=()
def tw11758631599929538708:=()
def tw5234604555960234540:=()
def tw12234988486936160802:=()
def tw7850940613305917762:=()
def tw9296567716886484901:=()
def tw15888568287413605156:=()
def tw15214831619290927964:=()
def tw12317260241688641506:=()
def tw14474515948213543321:=()
def tw8340206216554871613:=()
def tw13579336999978379277:=()
def tw16010932877303380927:=()
def tw2763619165453007446:=()
def tw6532700001864779459:=()
def tw3368775220537178493:=()
def tw9989194182603975758:=()
def tw15860777138775579624:=()
def tw14905816755899024457:=()
def tw17636651442040312308:=()
def tw8189411589327766637:=()
def tw8886961447580621150:=()
def tw16392675344367055772:=()
def tw13413597520308168263:=()
def tw10638538540224922626:=()
def tw13234785947281245939:=()
def tw9894348048761755244:=()
def tw503590629072417791:=()
def tw15983529283575055616:=()
def tw7862751032145047207:=()
def tw14692553628052217438:=()
def tw386096731105314705:=()
def tw10164595718740435727:=()
def tw14852630764195139343:=()
def tw10228747622727884855:=()
def tw6212523764290355095:=()
def tw1021074230190855958:=()
def tw12654203858187278478:=()
def tw284060949561311464:=()
def tw5211363117343169291:=()
def tw11298008385531646266:=()
def tw3397114763349290786:=()
def tw7844019243255166101:=()
def tw15616911901838895861:=()
def tw3774131354780505999:=()
def tw2079111892201406888:=()
def tw3593216118080808846:=()
def tw4863920900759427262:=()
def tw16100484681262197485:=()
def tw7872280447646151801:=()
def tw11243643157369128722:=()
def tw4312020456643612821:=()
def tw16061983389078586321:=()
def tw1937141252678519864:=()
def tw4541040961765350453:=()
def tw18003943610709066803:=()
def tw273249005822875434:=()
def tw17554664082492159727:=()
def tw7211904355231934647:=()
def tw6126236356039984578:=()
def tw8909239929744635054:=()
def tw12769475262908651754:=()
def tw5851159451472272609:=()
def tw4315951437236048264:=()
def tw4742185289423032041:=()
def tw10416665683981987744:=()
def tw4559692771335527823:=()
def tw6784261498999370687:=()
def tw4275092229506854497:=()
def tw17945789046967642831:=()
def tw12027137915900393771:=()
def tw4734141100542420636:=()
def tw11513662999303927099:=()
def tw8243022608534408727:=()
def tw4368588905269915941:=()
def tw6395753014631723142:=()
def tw3301988948861774044:=()
def tw6217289118057093815:=()
def tw17816136100053545614:=()
def tw9971604132718648341:=()
def tw11746056692256667876:=()
def tw9713716877074960595:=()
def tw8479287930451995304:=()
def tw2426620106854255066:=()
def tw15724500618145323255:=()
def tw11492201839885161688:=()
def tw8637711679370946899:=()
def tw6026525956935306246:=()
def tw2628468517094667309:=()
def tw3485594654125569024:=()
def tw16458689121952150677:=()
def tw1570620152099968149:=()
def tw14374945903826216243:=()
def tw5545120802649599887:=()
def tw11001293105029882026:=()
def tw11350522794741335329:=()
def tw4570100685697221116:=()
def tw14475821712193055658:=()
def tw15425081131386398878:=()
def tw5281321615568861362:=()
def tw124700422388212147:=()
def tw1250124788609960718:=()
def tw9490188758489431302:=()
def tw2105484596329031745:=()
def tw1615941706550674753:=()
def tw14476561630967484811:=()
def tw10366679447166915789:=()
def tw5760783226361940143:=()
def tw4264466899578073313:=()
def tw14679842092439698659:=()
def tw11236326800665418935:=()
def tw16799267637934692446:=()
def tw2668472170049280449:=()
def tw16841524813799599894:=()
def tw616483409731621347:=()
def tw262497948053611884:=()
def tw1179717333334572837:=()
def tw13924641411046303924:=()
def tw1670239782905732187:=()
def tw15507768672166872555:=()
def tw4461952146059881792:=()
def tw3689758158025513069:=()
def tw13579159829526441176:=()
def tw10263118995295906900:=()
def tw18053532857234127678:=()
def tw10975815033354714650:=()
def tw1162523128047640750:=()
def tw3102742804976825031:=()
def tw3215286362630267347:=()
def tw9162702751958875176:=()
def tw14042581749494110641:=()
def tw7002409785472044640:=()
def tw17405089434468769104:=()
def tw14736857001747235995:=()
def tw8164618972469651967:=()
def tw15008556673189810306:=()
def tw13605193455780003471:=()
def tw1717351613150995015:=()
def tw11028980697806790577:=()
def tw16645830780218468568:=()
def tw7810794268472484223:=()
def tw5040162846171202078:=()
def tw391456804218518282:=()
def tw1379054765019511149:=()
def tw7818969634629251558:=()
def tw8374219730228360718:=()
def tw13197581456194474436:=()
def tw2077270578875648484:=()
def tw14406079219114597150:=()
def tw232058637350405510:=()
def tw15281991393704255160:=()
def tw14500062137691407150:=()
def tw12500085795295733099:=()
def tw18427221201062349645:=()
def tw5840051474506959330:=()
def tw17896653170721722593:=()
def tw16813225584082560885:=()
def tw2807138255312525824:=()
def tw3050059457462967000:=()
def tw10077715356990845425:=()
def tw6939076322342583465:=()
def tw1007321587503693051:=()
def tw3312077978359417120:=()
def tw16694585748387754370:=()
def tw11409582558595129866:=()
def tw18389759546151490470:=()
def tw7218233413445093176:=()
def tw8725674745412840806:=()
def tw12756585220627378552:=()
def tw3579054522105362470:=()
def tw15145104559107720429:=()
def tw17541571383630587794:=()
def tw10059498878020052189:=()
def tw5175674110640069637:=()
def tw17369278660535963705:=()
def tw10442092705769013500:=()
def tw8516192255698598975:=()
def tw12872326309049933515:=()
def tw16512483874465881717:=()
def tw2297470812878005906:=()
def tw10770568154510130264:=()
def tw6009361126411802546:=()
def tw4864669449712775743:=()
def tw14473299491885186715:=()
def tw14173667350837481426:=()
def tw13649923337716774768:=()
def tw224393439550373615:=()
def tw6041390943777787078:=()
def tw1944782271359927724:=()
def tw10755974176106551969:=()
def tw6023080322960670451:=()
def tw9668470745809097120:=()
def tw1973826707633518593:=()
def tw1800023331621263793:=()
def tw12167381915600455185:=()
def tw9978181901880795201:=()
def tw5704424789607437501:=()
def tw16662602491633666007:=()
def tw3747606765721751923:=()
def tw3852481044645226410:=()
def tw2416867672802216448:=()
def tw16752944795789846023:=()
def tw13521604980913154222:=()
def tw6254944256606198641:=()
def tw6302697713508199312:=()
def tw10649654096194801210:=()
def tw18073203032264578679:=()
def tw183394340891061565:=()
def tw13916509817128343789:=()
def tw15295358495248252773:=()
def tw8124912244334478787:=()
def tw3116987922905396476:=()
def tw6657519934870280539:=()
def tw9689224146765061394:=()
def tw8837814922177804280:=()
def tw13653789265292098084:=()
def tw15457139549437717754:=()
def tw6905177802816450404:=()
def tw9102547731852324736:=()
def tw6590307081059927457:=()
def tw3944287559984812794:=()
def tw5119403208585273361:=()
def tw18204783649284134044:=()
def tw8667356655090312334:=()
def tw12840715938925482079:=()
def tw2913070769501890520:=()
def tw9269783245350147241:=()
def tw10579028099682284367:=()
def tw3164395167014999885:=()
def tw12377996744535179001:=()
def tw12299705511234491054:=()
def tw4000979994614141234:=()
def tw16494232114039293996:=()
def tw8415311821357147789:=()
def tw15202865103688376460:=()
def tw18091183002215093223:=()
def tw7084235098093235019:=()
def tw16527738163515508134:=()
def tw2186632095791114267:=()
def tw4104320625923056044:=()
def tw6295277336305402035:=()
def tw13805587095168990249:=()
def tw18088610240300405166:=()
def tw526890175108012042:=()
def tw681923630352006977:=()
def tw10844310799211051256:=()
def tw11561705968657850167:=()
def tw8496716351437062719:=()
def tw2877569394706642345:=()
def tw14844978528762881633:=()
def tw9355206778952861544:=()
def tw15363249660921860142:=()
def tw7993284125042698860:=()
def tw8587559297379931850:=()
def tw14720636992795126107:=()
def tw16740448205711199100:=()
def tw13548756131857500936:=()
def tw10418259689983320824:=()
def tw2268678780653614504:=()
def tw7962547775290196737:=()
def tw5070562840054510106:=()
def tw8220919626856019916:=()
def tw14670808062386577761:=()
def tw6435896842849390948:=()
def tw4918292845122656562:=()
def tw3562649342891906040:=()
def tw14076181277557317303:=()
def tw15408926557254430547:=()
def tw18341673888982869518:=()
def tw17212359845508116240:=()
def tw12574946516256316337:=()
def tw14882136309421491132:=()
def tw2685083628243743083:=()
def tw13310076395414000970:=()
def tw632835951543849931:=()
def tw12920727097802504517:=()
def tw15944313338827659207:=()
def tw5233192450552362601:=()
def tw4123056085147090944:=()
def tw15589965983344935915:=()
def tw16147346358501214487:=()
def tw14233455658057987041:=()
def tw5669888617994665945:=()
def tw9518773034446263080:=()
def tw675699896800222628:=()
def tw10652836820682876087:=()
def tw8534816938646187350:=()
def tw13810148806946979243:=()
def tw10143475549430034795:=()
def tw727781992804594433:=()
def tw1397806396958352458:=()
def tw16119636252807515016:=()
def tw10432588306274334993:=()
def tw8333018879230765475:=()
def tw14460408504797655308:=()
def tw3723793043047488113:=()
def tw15898726758480909296:=()
def tw8006136202944419055:=()
def tw6428036391526787547:=()
def tw7620245965938488839:=()
def tw3050682383260304815:=()
def tw1684814181879790870:=()
def tw13532584524426368607:=()
def tw9941056181441279661:=()
def tw15818349262685868846:=()
def tw11492659465642133404:=()
def tw6114940193869978337:=()
def tw13903624163591099779:=()
def tw17834938660529753182:=()
def tw14265616992643396501:=()
def tw16352401023399304687:=()
def tw16776246121886757099:=()
def tw10711417548056249275:=()
def tw268356285234427710:=()
def tw14145805762904926420:=()
def tw9139941766841802894:=()
def tw5458169623590557451:=()
def tw4930404373443863499:=()
def tw3625891908859246561:=()
end PySem.W.Fast
open PySem PySem.W PyProof.Rows
set_option Elab.async false
set_option maxRecDepth 100000 in
set_option maxHeartbeats 0 in
theorem PySem.Challenge.cw_holdback_k75_refused_by_deeds_holds : PySem.Challenge.rw_holdback_k75_refused_by_deeds.Holds := by
 w_on;o_law;k_head;(case hw=>w_witness2)
 k_fill
 refine L2.walk (l:=PySem.Challenge.rw_holdback_k75_refused_by_deeds) rfl rfl (λw h Y=>PySem.W.kIn_of Y) ?F
 case F =>
  intro w mg fa h KX G hmg
  refine' L2.all_mk KX G hmg ?q0 ?q1 ?q2 ?q3 ?q4 ?q5 ?q6 ?q7 ?q8 ?q9 ?qa ?qb ?qc ?qd ?qe ?qf ?qg ?qh ?qi ?qj ?qk ?ql ?qm ?qn ?qo ?qp ?qq ?qr ?qs ?qt ?qu ?qv ?qw ?qx ?qy ?qz ?q10 ?q11 ?q12 ?q13 ?q14 ?q15 ?q16 ?q17 ?q18 ?q19 ?q1a ?q1b ?q1c ?q1d ?q1e ?q1f ?q1g ?q1h ?q1i ?q1j ?q1k ?q1l ?q1m ?q1n ?q1o ?q1p ?q1q ?q1r ?q1s ?q1t ?q1u ?q1v ?q1w ?q1x ?q1y ?q1z ?q20 ?q21 ?q22 ?q23 ?q24 ?q25 ?q26 ?q27 ?q28 ?q29 ?q2a ?q2b ?q2c ?q2d ?q2e ?q2f ?q2g ?q2h ?q2i ?q2j ?q2k ?q2l ?q2m ?q2n ?q2o ?q2p ?q2q ?q2r ?q2s ?q2t ?q2u ?q2v ?q2w ?q2x ?q2y ?q2z ?q30 ?q31 ?q32 ?q33 ?q34 ?q35 ?q36 ?q37 ?q38 ?q39 ?q3a ?q3b ?q3c ?q3d ?q3e ?q3f ?q3g ?q3h ?q3i ?q3j ?q3k ?q3l ?q3m ?q3n ?q3o ?q3p ?q3q ?q3r ?q3s ?q3t ?q3u ?q3v ?q3w ?q3x ?q3y ?q3z ?q40 ?q41 ?q42 ?q43 ?q44 ?q45 ?q46 ?q47 ?q48 ?q49 ?q4a ?q4b ?q4c ?q4d ?q4e ?q4f ?q4g ?q4h ?q4i ?q4j ?q4k ?q4l ?q4m ?q4n ?q4o ?q4p ?q4q ?q4r ?q4s ?q4t ?q4u ?q4v ?q4w ?q4x ?q4y ?q4z ?q50 ?q51 ?q52 ?q53 ?q54 ?q55 ?q56 ?q57 ?q58 ?q59 ?q5a ?q5b ?q5c ?q5d ?q5e
  case q9 | qa | qb | qc | qd | qe=>(apply L2.gc;(case a=>k_is);(case l=>k_is);(case c=>k_is);(case k=>k_is);(case i=>k_is))
  case q0 | q1 | q2 | q3 | q4 | q5 | q6 | q7 | q8=>(apply L2.GX.mk;(case ac=>k_is);(case ex=>k_exc))
  case qf | qg | qi | qj | qm | qn | qo | qp | qq | qr | qt | qu | qv | qw | qx | qy | qz | q10 | q11 | q12 | q13 | q14 | q15 | q16 | q17 | q36 | q37 | q38 | q39 | q3a | q3b | q3c | q3d | q3e | q3f | q3g | q3h | q3i | q3j | q3k | q3l | q3m | q3n | q3o | q3p | q3q | q3r | q3s | q3t | q3u | q3v | q3w | q3x | q3y | q46 | q47 | q48 | q49 | q4a | q4b | q4c | q4d | q4l | q4m | q4n | q4o | q4p | q4q | q4r | q4s | q50 | q51 | q52 | q53 | q54 | q55 | q56 | q57=>k_is
  case qh | qk | qs=>decide +kernel
  case ql=>kernel_rfl
  case q18 | q1e | q1f | q1q | q1z | q26 | q29 | q2a | q2d | q2e | q2k | q2q | q2r | q2u | q2v | q2w | q2y | q31 | q32 | q33 | q34 | q35=>(apply L2.gf;(case a=>k_is);(case l=>k_is);(case c=>k_is);(case k=>k_is))
  case q19 | q1a | q1b | q1c | q1d | q1g | q1h | q1i | q1j | q1k | q1l | q1m | q1n | q1p | q1s | q1u | q1v | q1w | q1x | q1y | q20 | q21 | q22 | q23 | q24 | q27 | q28 | q2b | q2c | q2f | q2g | q2h | q2i | q2j | q2l | q2m | q2n | q2o | q2p | q2s | q2t | q2x=>(apply L2.gm;(case a=>k_is);(case l=>k_is);(case c=>k_is);(case k=>k_is);(case i=>k_is))
  case q1o | q1r | q1t | q25 | q2z | q30=>(apply L2.gn;(case a=>k_is);(case l=>k_is);(case c=>k_is);(case k=>k_is);(case i=>k_is);(case m=>k_is);(case n=>k_is);(case s=>k_is))
  case q3z | q4e | q4t | q58=>kts_exm
  case q40 | q41 | q42 | q43 | q44 | q45 | q4f | q4g | q4h | q4i | q4j | q4k | q4u | q4v | q4w | q4x | q4y | q4z | q59 | q5a | q5b | q5c | q5d | q5e=>kit_is
