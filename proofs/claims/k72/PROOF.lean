import PyProof.Rows.All
import Wide.All
import OpenK.AllK
import Wide.FinOn
import Lean
import PyProof.EqAt
import PyProof.EqKinds
import PyProof.TupleCall
import PyProof.SetScanFacts
import PyProof.Rows.SetFrom
import PyProof.Rows.SortWalk
import PyProof.CollectWalk
import PyProof.DictWalks
import PySem.Challenge.RW_holdback_k72_no_rows
set_option linter.all false
set_option maxRecDepth 100000
set_option maxHeartbeats 8000000
open PySem PySem.Spec PyProof.Rows
set_option Elab.async false
namespace L2
abbrev AO:=Sum Int Str
def KH:AO->Value->Bool
 | .inl k,v=>Value.isInt k v
 | .inr x,v=>Value.isStrOf x v
def sA(w:World):AO->Int
 | .inl k=>hashInt k
 | .inr x=>hashStr w x
theorem HX:∀ {k:AO} {v:Value},KH k v=true->(∃ i t,k=Sum.inl i/\v=Value.int i t)\/(∃ x t,k=Sum.inr x/\v=Value.str x t)
 | .inl i,v,h=>by
  obtain⟨t,e⟩:=Value.isInt_shape (k:=i) (v:=v) h
  exact .inl ⟨i,t,rfl,e⟩
 | .inr x,v,h=>by
  obtain⟨t,e⟩:=Value.isStrOf_shape (x:=x) (v:=v) h
  exact .inr ⟨x,t,rfl,e⟩
theorem sB(i:Int)(t:Tok):KH (.inl i) (.int i t)=true:=by simp[KH,Value.isInt]
theorem sC(x:Str)(t:Tok):KH (.inr x) (.str x t)=true:=by simp[KH,Value.isStrOf]
theorem sD(a b:Int):decide ((Sum.inl a:AO)=Sum.inl b)=(a == b):=by
 by_cases e:a=b
 ·subst e;simp
 ·have h:¬ (Sum.inl a:AO)=Sum.inl b:=λq=>e (Sum.inl.inj q)
  rw[decide_eq_false h]
  exact(beq_eq_false_iff_ne.mpr e).symm
theorem sE(a b:Str):decide ((Sum.inr a:AO)=Sum.inr b)=decide (a=b):=by
 by_cases e:a=b
 ·subst e;simp
 ·have h:¬ (Sum.inr a:AO)=Sum.inr b:=λq=>e (Sum.inr.inj q)
  rw[decide_eq_false h,decide_eq_false e]
theorem sF(a:Int)(b:Str):decide ((Sum.inl a:AO)=Sum.inr b)=false:=decide_eq_false (λq=>nomatch q)
theorem sG(a:Str)(b:Int):decide ((Sum.inr a:AO)=Sum.inl b)=false:=decide_eq_false (λq=>nomatch q)
def EV(prog:Program)(w:World):PySem.KeyKind prog w AO where
 is:=KH
 hash:=sA w
 inj:=λv a b ha hb=>by
  rcases HX ha with⟨i,t,rfl,rfl⟩ | ⟨x,t,rfl,rfl⟩
  ·rcases HX hb with⟨j,u,rfl,e⟩ | ⟨y,u,rfl,e⟩
   ·injection e with e1 _;rw[e1]
   ·exact nomatch e
  ·rcases HX hb with⟨j,u,rfl,e⟩ | ⟨y,u,rfl,e⟩
   ·exact nomatch e
   ·injection e with e1 _;rw[e1]
 byValue:=λk v h=>by
  rcases HX h with⟨i,t,rfl,rfl⟩ | ⟨x,t,rfl,rfl⟩<;>rfl
 pyHash:=λhv h=>by
  rcases HX hv with⟨i,t,rfl,rfl⟩ | ⟨x,t,rfl,rfl⟩
  ·exact wpAny_pyHash_int h
  ·exact wpAny_pyHash_str h
 eqBool:=λhu hv h=>by
  rcases HX hu with⟨i,t,rfl,rfl⟩ | ⟨x,t,rfl,rfl⟩
  ·rcases HX hv with⟨j,u,rfl,rfl⟩ | ⟨y,u,rfl,rfl⟩
   ·rw[sD]at h;exact wpAny_eqBool_int h
   ·rw[sF]at h;exact SeqAt.EqAt.int_str i t y u _ _ _ _ h
  ·rcases HX hv with⟨j,u,rfl,rfl⟩ | ⟨y,u,rfl,rfl⟩
   ·rw[sG]at h;exact SeqAt.EqAt.str_int x t j u _ _ _ _ h
   ·rw[sE]at h;exact wpAny_eqBool_str h
 «strs» :=λk x t v h=>by
  rcases HX h with⟨i,u,rfl,e⟩ | ⟨y,u,rfl,e⟩
  ·exact nomatch e
  ·injection e with e1 _
   subst e1
   cases v<;>rfl
theorem sI(prog:Program)(w:World)(i:Int)(t:Tok):(EV prog w).is (.inl i) (.int i t)=true:=sB i t
theorem sJ(prog:Program)(w:World)(x:Str)(t:Tok):(EV prog w).is (.inr x) (.str x t)=true:=sC x t
end L2
namespace L2
inductive V where
 | non | bl (b:Bool) | int (i:Int) | str (x:Str) | byt (b:Array UInt8) | flt (b:UInt64) | ref (a:Addr) | ty (n:String)
 deriving DecidableEq
def RelV:V->Value->Prop
 | .non,u=>u=Value.none
 | .bl b,u=>u=Value.bool b
 | .int i,u=>∃ t,u=Value.int i t
 | .str x,u=>∃ t,u=Value.str x t
 | .byt b,u=>∃ t,u=Value.bytes b t
 | .flt b,u=>∃ t,u=Value.float b t
 | .ref a,u=>u=Value.ref a
 | .ty n,u=>u=Value.type n
abbrev Vals:List V->List Value->Prop:=Paired RelV
theorem Vals.length{xs:List V}{us:List Value}(r:Vals xs us):xs.length=us.length:=Paired.length r
theorem Vals.get:∀ {xs:List V} {us:List Value} {i:Nat} {x:V},Vals xs us->xs[i]? =some x->∃ u,us[i]? =some u/\RelV x u
 | _,_,_,_,.nil,e=>by simp at e
 | _,_,0,_,.cons r _,e=>by simp at e;subst e;exact⟨_,rfl,r⟩
 | _,_,i+1,x,.cons _ t,e=>by
  obtain⟨u,h1,h2⟩:=Vals.get (i:=i) (x:=x) t (by simpa using e)
  exact⟨u,by simpa using h1,h2⟩
theorem Vals.set{x:V}{u:Value}(r:RelV x u):∀ {xs:List V} {us:List Value} (i:Nat),Vals xs us->Vals (xs.set i x) (us.set i u)
 | _,_,_,.nil=>.nil
 | _,_,0,.cons _ t=>.cons r t
 | _,_,i+1,.cons q t=>.cons q (Vals.set r i t)
theorem Vals.append:∀ {xs ys:List V} {us ws:List Value},Vals xs us->Vals ys ws->Vals (xs++ys) (us++ws)
 | _,_,_,_,.nil,s=>s
 | _,_,_,_,.cons r t,s=>.cons r (Vals.append t s)
theorem Vals.take:∀ {xs:List V} {us:List Value} (n:Nat),Vals xs us->Vals (xs.take n) (us.take n)
 | _,_,0,_=>.nil
 | _,_,_+1,.nil=>.nil
 | _,_,n+1,.cons r t=>.cons r (Vals.take n t)
theorem Vals.drop:∀ {xs:List V} {us:List Value} (n:Nat),Vals xs us->Vals (xs.drop n) (us.drop n)
 | _,_,0,r=>r
 | _,_,_+1,.nil=>.nil
 | _,_,n+1,.cons _ t=>Vals.drop n t
theorem Vals.none_of:∀ {xs:List V} {us:List Value} {i:Nat},Vals xs us->xs[i]? =none->us[i]? =none:=λ{xs us i} r e=>by
 have h1:=r.length
 have h2:xs.length<=i:=List.getElem?_eq_none_iff.mp e
 exact List.getElem?_eq_none_iff.mpr (by omega)
def RelO:Option V->Option Value->Prop
 | some v,some u=>RelV v u
 | none,none=>True
 | _,_=>False
def KV{κ :Type}:List (κ × V)->List (κ × Value)->Prop:=Paired λ(p: κ × V) (q: κ × Value)=>p.1=q.1/\RelV p.2 q.2
def kV:AO->V
 | .inl i=>.int i
 | .inr x=>.str x
inductive HO where
 /-- a list -/
 | lst (xs:List V)
 /-- a tuple (never changes) -/
 | tup (xs:List V)
 /-- a dict whose keys are ints and texts;one whose keys are tuples of ints and texts (the empty one is both) -/
 | dK (AD:List (AO × V)) | dT (AD:List (List AO × V))
 /-- a set of ints: its members,its size -/
 | set (S:Int->Bool) (n:Nat)
 /-- an instance of the class at C,its dict at dx,its attributes -/
 | ins (C dx:Addr) (fs:List (Str × V))
 /-- the dict of the instance at x -/
 | own (x:Addr)
 /-- the dict of an exception -/
 | xd (fs:List (Str × V))
 /-- a bound method,f of x -/
 | met (f x:Addr)
 /-- a range object lo,lo+1,.. below hi -/
 | rng (lo hi:Int)
 /-- a thing that is known to the object (the script;a dict while a loop walks it): read,never written while it is so -/
 | frz (o:Obj) (u:HO)
 /-- a code object's table -/
 | tbl (ps:Array Value)
 /-- any other thing,by what is true of its one object (a def of one's own: SetO a S n:=HO.ext λh=>..) -/
 | ext (φ :Heap->Prop)
abbrev Hp:=Addr->Option HO
def upd(H:Hp)(a:Addr)(o:HO):Hp:=λb=>if b=a then some o else H b
theorem AH{H:Hp}{a:Addr}{o:HO}:upd H a o a=some o:=by unfold upd;rw[if_pos rfl]
theorem AG{H:Hp}{a b:Addr}{o:HO}(h:b≠a):upd H a o b=H b:=by unfold upd;rw[if_neg h]
theorem GS{H:Hp}{a:Addr}{o u:HO}:upd (upd H a o) a u=upd H a u:=by
 funext b;unfold upd;split<;>rfl
theorem BK{H:Hp}{a b:Addr}{o u:HO}(h:H a=some o)(h':H b=some u)(d:o≠u):a≠b:=by
 intro e;subst e;rw[h]at h';exact d (Option.some.inj h')
theorem BL{H:Hp}{a b:Addr}{o:HO}(h:H a=some o)(h':H b=none):a≠b:=by
 intro e;subst e;rw[h]at h';cases h'
section
variable(P:Program)(w:World)
def ObjOk(H:Hp)(h:Heap)(a:Addr):HO->Prop
 | .lst xs=>xs.length<=sizeLine/\∃ (its:List Value) (n:Nat),Vals xs its/\h.get? a=some { cls:=.type "list",data:=.seq its.toArray n }
 | .tup xs=>xs.length<=sizeLine/\∃ its:List Value,Vals xs its/\IsTup h a its.toArray
 | .dK AD=>AD.length<=sizeLine/\(a == sysModules)=false/\∃ vs,KV AD vs/\h.DictOf (EV P w) a vs
 | .dT AD=>AD.length<=sizeLine/\(a == sysModules)=false/\∃ xs:List (List AO × Addr × Value),
   Paired (λ(p:List AO × V) (q:List AO × Addr × Value)=>p.1=q.1/\H q.2.1=some (.tup (p.1.map kV))/\RelV p.2 q.2.2) AD xs ∧
   ∃ o es ep,h.get? a=some o/\o.ExactDict/\o.data=.dict es ep/\es.toList=xs.map (entryOfKey (tupleKind (EV P w)))/\(xs.map (·.1)).Nodup
 | .set S n=>h.SetOf (intKind P w) a S n
 | .ins C dx fs=>H dx=some (.own a)/\fs.length<=1000/\dx≠a/\h.get? a=some (W.instObj C dx) ∧
   ∃ mA,h.Ns1 dx mA/\(∀ f,RelO (fs.lookup f) (mA f))/\PySem.Within mA (fs.map (·.1))
 | .own _=>∃ o,h.get? a=some o
 | .xd fs=>∃ mA,h.Ns1 a mA/\∀ f,RelO (fs.lookup f) (mA f)
 | .rng lo hi=>∃ t u v,h.get? a=some { cls:=.type "range",data:=.fields #[.int lo t,.int hi u,.int 1 v] }
 | .frz o u=>h.get? a=some o/\ObjOk H h a u
 | .tbl ps=>h.get? a=some { cls:=.none,data:=.fields ps }
 | .met f x=>h.get? a=some (W.methodObj (.ref f) (.ref x))
 | .ext φ => φ h/\(∃ o,h.get? a=some o)/\∀ h1 h2:Heap,φ h1->(∀ o,h1.get? a=some o->h2.get? a=some o)-> φ h2
def HOk(H:Hp)(h:Heap):Prop:=∀ a o,H a=some o->ObjOk P w H h a o
end
section
variable{P:Program}{w:World}{H H':Hp}{h h':Heap}{a:Addr}{o:HO}
theorem ObjOk.lt(x:ObjOk P w H h a o):a<h.objs.size:=by
 cases o with
 | lst xs=>obtain⟨_,_,_,_,e⟩:=x;exact Heap.lt_size e
 | tup xs=>obtain⟨_,_,_,p⟩:=x;exact p.lt
 | dK AD=>obtain⟨_,_,_,_,o,_,_,e,_⟩:=x;exact Heap.lt_size e
 | dT AD=>obtain⟨_,_,_,_,o,_,_,e,_⟩:=x;exact Heap.lt_size e
 | set S n=>obtain⟨o,_,_,_,e,_⟩:=x;exact Heap.lt_size e
 | ins C dx fs=>obtain⟨_,_,_,e,_⟩:=x;exact Heap.lt_size e
 | own y=>obtain⟨_,e⟩:=x;exact Heap.lt_size e
 | xd fs=>obtain⟨_,⟨_,_,_,e,_⟩,_⟩:=x;exact Heap.lt_size e
 | rng lo hi=>obtain⟨_,_,_,e⟩:=x;exact Heap.lt_size e
 | frz ob u=>obtain⟨e,_⟩:=x;exact Heap.lt_size e
 | tbl ps=>exact Heap.lt_size (show h.get? a=some _ from x)
 | met f y=>exact Heap.lt_size (show h.get? a=some _ from x)
 | ext φ =>obtain⟨_,⟨_,e⟩,_⟩:=x;exact Heap.lt_size e
theorem Paired.mapP{α β :Type}{F G: α -> β ->Prop}:∀ {l₁:List α} {l₂:List β},Paired F l₁ l₂->(∀ a b,F a b->G a b)->Paired G l₁ l₂
 | _,_,.nil,_=>.nil
 | _,_,.cons r t,f=>.cons (f _ _ r) (Paired.mapP t f)
theorem ObjOk.stay(x:ObjOk P w H h a o)(k:∀ b u,(b=a\/H b=some (.own a))->h.get? b=some u->h'.get? b=some u)
  (ho:∀ b,H b=some (.own a)->H' b=some (.own a)) (ht:∀ b xs,H b=some (.tup xs)->H' b=some (.tup xs)):ObjOk P w H' h' a o:=by
 induction o with
 | lst xs=>obtain⟨z,its,n,r,e⟩:=x;exact⟨z,its,n,r,k _ _ (.inl rfl) e⟩
 | tup xs=>obtain⟨z,its,r,ob,e,c⟩:=x;exact⟨z,its,r,ob,k _ _ (.inl rfl) e,c⟩
 | dK AD=>obtain⟨z,y,vs,r,ob,es,ep,e,c⟩:=x;exact⟨z,y,vs,r,ob,es,ep,k _ _ (.inl rfl) e,c⟩
 | dT AD =>
  obtain⟨z,y,xs,r,ob,es,ep,e,c⟩:=x
  exact⟨z,y,xs,Paired.mapP r λp q z=>⟨z.1,ht _ _ z.2.1,z.2.2⟩,ob,es,ep,k _ _ (.inl rfl) e,c⟩
 | set S n=>obtain⟨ob,es,ep,t,e,c⟩:=x;exact⟨ob,es,ep,t,k _ _ (.inl rfl) e,c⟩
 | ins C dx fs =>
  obtain⟨d,z,ne,e,mA,⟨od,es,ep,e2,c⟩,r⟩:=x
  exact⟨ho _ d,z,ne,k _ _ (.inl rfl) e,mA,⟨od,es,ep,k _ _ (.inr d) e2,c⟩,r⟩
 | own y=>obtain⟨ob,e⟩:=x;exact⟨ob,k _ _ (.inl rfl) e⟩
 | xd fs=>obtain⟨mA,⟨od,es,ep,e,c⟩,r⟩:=x;exact⟨mA,⟨od,es,ep,k _ _ (.inl rfl) e,c⟩,r⟩
 | rng lo hi=>obtain⟨t,u,v,e⟩:=x;exact⟨t,u,v,k _ _ (.inl rfl) e⟩
 | frz ob u ih=>obtain⟨e,q⟩:=x;exact⟨k _ _ (.inl rfl) e,ih q⟩
 | tbl ps =>
  have e:h.get? a=some { cls:=.none,data:=.fields ps }:=x
  show h'.get? a=some { cls:=.none,data:=.fields ps }
  exact k a _ (.inl rfl) e
 | met f y =>
  have e:h.get? a=some (W.methodObj (.ref f) (.ref y)):=x
  show h'.get? a=some (W.methodObj (.ref f) (.ref y))
  exact k a _ (.inl rfl) e
 | ext φ =>obtain⟨p,⟨o,e⟩,st⟩:=x;exact⟨st _ _ p λo q=>k _ _ (.inl rfl) q,⟨o,k _ _ (.inl rfl) e⟩,st⟩
theorem HOk.lt(x:HOk P w H h)(e:H a=some o):a<h.objs.size:=(x a o e).lt
theorem HOk.fresh(x:HOk P w H h)(e:h.objs.size<=a):H a=none:=by
 cases q:H a with
 | none=>rfl
 | some u=>exact absurd (Nat.lt_of_lt_of_le (x.lt q) e) (Nat.lt_irrefl _)
theorem HOk.kept(x:HOk P w H h)(k:∀ b u,h.get? b=some u->h'.get? b=some u):HOk P w H h':=λa o e =>
 (x a o e).stay (λb u _ q=>k b u q) (λ_ q=>q) λ_ _ q=>q
theorem HOk.laid(x:HOk P w H h)(k:∀ b u,h.get? b=some u->h'.get? b=some u)(hp:h.objs.size<=a)(new:ObjOk P w (upd H a o) h' a o):HOk P w (upd H a o) h':=λb u e=>by
 have hn:=x.fresh hp
 by_cases hb:b=a
 ·subst hb;rw[AH]at e;cases e;exact new
 ·rw[AG hb]at e
  exact(x b u e).stay (λc v _ q=>k c v q) (λc q=>by rw[AG (BL q hn)];exact q) λc xs q=>by rw[AG (BL q hn)];exact q
end
def Rd(H:Hp)(a:Addr)(u:HO):Prop:=H a=some u\/∃ o,H a=some (.frz o u)
theorem Rd.of{H:Hp}{a:Addr}{u:HO}(h:H a=some u):Rd H a u:=.inl h
theorem Rd.ok{P:Program}{w:World}{H:Hp}{h:Heap}{a:Addr}{u:HO}(r:Rd H a u)(x:HOk P w H h):ObjOk P w H h a u:=by
 rcases r with r | ⟨o,r⟩
 ·exact x a u r
 ·obtain⟨_,q⟩:=x a _ r
  exact q
def MA:Option HO->Prop
 | some (.lst _)=>True
 | some (.dK _)=>True
 | some (.dT _)=>True
 | some (.set _ _)=>True
 | some (.ins _ _ _)=>True
 | some (.ext _)=>True
 | _=>False
section
variable{P:Program}{w:World}{H:Hp}{h h':Heap}{x e:Addr}{o':HO}
theorem HOk.write(ok:HOk P w H h)(mu:MA (H x))(he:e=x\/H e=some (.own x))(k:∀ b u,b≠e->h.get? b=some u->h'.get? b=some u)(heo:∃ u,h'.get? e=some u)
  (new:ObjOk P w (upd H x o') h' x o'):HOk P w (upd H x o') h':=λb u q=>by
 have nown:∀ c y,H c=some (.own y)->c≠x:=λc y r z=>by subst z;rw[r]at mu;exact mu
 have ntup:∀ c xs,H c=some (.tup xs)->c≠x:=λc xs r z=>by subst z;rw[r]at mu;exact mu
 by_cases hb:b=x
 ·subst hb;rw[AH]at q;cases q;exact new
 ·rw[AG hb]at q
  by_cases hbe:b=e
  ·have q':H b=some (.own x):=by
    rcases he with z | z
    ·exact absurd (hbe.trans z) hb
    ·rw[hbe];exact z
   rw[q]at q';cases q'
   obtain⟨v,hv⟩:=heo
   exact⟨v,by rw[hbe];exact hv⟩
  ·refine(ok b u q).stay (λc v hc r=>k c v ?_ r) (λc r=>by rw[AG (nown c b r)];exact r) λc xs r=>by rw[AG (ntup c xs r)];exact r
   rcases hc with rfl | hc
   ·exact hbe
   ·rintro rfl
    rcases he with z | z
    ·exact nown c b hc z
    ·rw[hc]at z;cases z;exact hb rfl
end
structure Un(fs ex:List Addr)(H H':Hp)(h h':Heap):Prop where
 keep:∀ b o,h.get? b=some o->H b=none->b∉fs->b∉ex->h'.get? b=some o
 slot:∀ b o,h.get? b=some o->H b=none->b∈fs->b∉ex->∃ sl,h'.get? b=some { o with slots:=sl }
 free:∀ b o,h.get? b=some o->H b=none->b∉ex->H' b=none
 there:∀ b o,h.get? b=some o->b∉ex->∃ o',h'.get? b=some o'
 tups:∀ b xs,H b=some (.tup xs)->H' b=some (.tup xs)
 frzs:∀ b o u,H b=some (.frz o u)->H' b=some (.frz o u)
 tbls:∀ b ps,H b=some (.tbl ps)->∃ more,H' b=some (.tbl (ps++more))
section
variable{fs fs' ex ex':List Addr}{H H1 H2:Hp}{h h1 h2 h':Heap}{a x e:Addr}{o:HO}
theorem Un.any(u:Un fs ex H H1 h h1){b:Addr}{ob:Obj}(q:h.get? b=some ob)(n:H b=none)(hx:b∉ex):∃ sl,h1.get? b=some { ob with slots:=sl }:=by
 by_cases hb:b∈fs
 ·exact u.slot b ob q n hb hx
 ·exact⟨ob.slots,u.keep b ob q n hb hx⟩
theorem Un.trans(a:Un fs ex H H1 h h1)(b:Un fs ex H1 H2 h1 h2):Un fs ex H H2 h h2 where
 keep:=λc ob q n hc hx=>b.keep c ob (a.keep c ob q n hc hx) (a.free c ob q n hx) hc hx
 slot:=λc ob q n hc hx=>by
  obtain⟨sl,e1⟩:=a.slot c ob q n hc hx
  obtain⟨sl',e2⟩:=b.slot c _ e1 (a.free c ob q n hx) hc hx
  exact⟨sl',e2⟩
 free:=λc ob q n hx=>by
  obtain⟨o',e1⟩:=a.there c ob q hx
  exact b.free c o' e1 (a.free c ob q n hx) hx
 there:=λc ob q hx=>by
  obtain⟨o',e1⟩:=a.there c ob q hx
  exact b.there c o' e1 hx
 tups:=λc xs q=>b.tups c xs (a.tups c xs q)
 frzs:=λc ob xs q=>b.frzs c ob xs (a.frzs c ob xs q)
 tbls:=λc ps q=>by
  obtain⟨m1,e1⟩:=a.tbls c ps q
  obtain⟨m2,e2⟩:=b.tbls c _ e1
  exact⟨m1++m2,by rw[e2,Array.append_assoc]⟩
theorem Un.kept(k:∀ b u,h.get? b=some u->h'.get? b=some u):Un fs ex H H h h' :=
 ⟨λb ob q _ _ _=>k b ob q,λb ob q _ _ _=>⟨ob.slots,k b ob q⟩,λ_ _ _ n _=>n,λb ob q _=>⟨ob,k b ob q⟩,λ_ _ q=>q,λ_ _ _ q=>q,λ_ ps q=>⟨#[],by rw[q];simp⟩⟩
theorem Un.refl:Un fs ex H H h h:=Un.kept λ_ _ q=>q
theorem Un.laid(k:∀ b u,h.get? b=some u->h'.get? b=some u)(hp:h.objs.size<=a)(hn:H a=none):Un fs ex H (upd H a o) h h' where
 keep:=λb u q _ _ _=>k b u q
 slot:=λb u q _ _ _=>⟨u.slots,k b u q⟩
 free:=λb u q n _=>by rw[AG (Nat.ne_of_lt (Nat.lt_of_lt_of_le (Heap.lt_size q) hp))];exact n
 there:=λb u q _=>⟨u,k b u q⟩
 tups:=λb xs q=>by rw[AG (BL q hn)];exact q
 frzs:=λb u xs q=>by rw[AG (BL q hn)];exact q
 tbls:=λb ps q=>⟨#[],by rw[AG (BL q hn),q];simp⟩
theorem Un.write(mu:MA (H x))(he:e=x\/H e=some (.own x))(k:∀ b u,b≠e->h.get? b=some u->h'.get? b=some u)(heo:∃ u,h'.get? e=some u):Un fs ex H (upd H x o) h h':=by
 have hx:∀ b,H b=none->b≠x:=λb n z=>by subst z;rw[n]at mu;exact mu
 have hb:∀ b,H b=none->b≠e:=λb n z=>by
  subst z
  rcases he with r | r
  ·exact hx b n r
  ·rw[n]at r;cases r
 have hm:∀ b u,H b=some u->¬ MA (some u)->b≠x:=λb u q nm z=>by subst z;rw[q]at mu;exact nm mu
 refine⟨λb u q n _ _=>k b u (hb b n) q,λb u q n _ _=>⟨u.slots,k b u (hb b n) q⟩,λb u q n _=>by rw[AG (hx b n)];exact n,λb u q _=> ?_,
  λb xs q=>by rw[AG (hm b _ q λz=>z)];exact q,λb u xs q=>by rw[AG (hm b _ q λz=>z)];exact q,λb ps q=>⟨#[],by rw[AG (hm b _ q λz=>z),q];simp⟩⟩
 by_cases hbe:b=e
 ·subst hbe;exact heo
 ·exact⟨u,k b u hbe q⟩
theorem Un.mono(u:Un fs ex H H1 h h1)(hs:∀ b∈fs,b∈fs')(hx:∀ b∈ex,b∈ex'):Un fs' ex' H H1 h h1 :=
 ⟨λb ob q n hb he=>u.keep b ob q n (λz=>hb (hs b z)) λz=>he (hx b z),λ_ _ q n _ he=>u.any q n λz=>he (hx _ z),λb ob q n he=>u.free b ob q n λz=>he (hx b z),λb ob q he=>u.there b ob q λz=>he (hx b z),u.tups,u.frzs,u.tbls⟩
end
def OB(h:Heap)(H:Hp):List Addr:=(List.range h.objs.size).filter λa=>(H a).isSome
def HY(h:Heap)(H:Hp):Heap:=W.hideAll h (OB h H)
theorem sK(h:Heap)(H:Hp):(HY h H).objs.size=h.objs.size:=W.hideAll_size _ _
theorem sL{h:Heap}{H:Hp}{b:Addr}{o:Obj}(e:h.get? b=some o)(n:H b=none):(HY h H).get? b=some o :=
 W.hideAll_get _ e λhm=>by
  have q:(H b).isSome=true:=(List.mem_filter.mp hm).2
  rw[n]at q;simp at q
theorem sM{h:Heap}{H:Hp}{b:Addr}{o:Obj}(e:(HY h H).get? b=some o):h.get? b=some o/\H b=none:=by
 have e':h.get? b=some o:=W.of_hideAll (OB h H) e
 refine⟨e',?_⟩
 cases q:H b with
 | none=>rfl
 | some x =>
  have hm:b∈OB h H:=List.mem_filter.mpr ⟨List.mem_range.mpr (Heap.lt_size e'),by simp[q]⟩
  have z:(HY h H).get? b=none:=W.hideAll_none (OB h H) hm
  rw[z]at e;cases e
def sN(g h:Heap)(L:Addr):List (Addr × Obj):=(List.range h.objs.size).filterMap λa=>if a=L\/(g.get? a).isSome=true then none else(h.get? a).map λo=>(a,o)
def DZ(g h:Heap)(L d:Addr):List (Addr × Obj):=(sN g h L).filter λp=>decide (p.1≠d)
end L2
namespace L2
structure Mod(K:W.Frag)(mg:Str->Option Value)(base:Heap):Prop where
 kin:K.In base
 glob:base.Ns mainGlobals mg
 blt:∃ mb,base.Ns builtinsNs mb/\∀ x:Str,x≠"__name__"->mb x=bootBuiltins x
 nolimit:base.NoLimit
structure Cx where
 prog:Program
 w:World
 K:W.Frag
 mg:Str->Option Value
 base:Heap
 A:Around
 N:List Str
 s₀:Shared
 H₀:Hp
 env:Env
 outer:List Env
 stack:List Env
 ex:List Addr
 fn:Str->Bool
 calm:Bool
 pn:List (Addr × Obj)
 xe:Value->Shared->Prop
def DL(l:List Env):List Addr:=l.filterMap (·.frame)
abbrev Cx.fs(X:Cx):List Addr:=DL X.outer
def R1(sc:Scope)(x:Str):Prop:=sc.names.lookup x=some .local\/sc.names.lookup x=some .cell\/sc.names.lookup x=some .free
def KI(sc:Scope)(x:Str):Prop:=sc.names.lookup x=some .local\/sc.names.lookup x=some .cell
def sO(env:Env)(h:Heap)(m:Str->Option Value)(x:Str)(u:Value):Prop :=
 (env.kindOf x=some .local/\m x=some u)\/((env.kindOf x=some .cell\/env.kindOf x=some .free)/\∃ c,env.cells.lookup x=some c/\h.IsCell c (some u))
structure Cx.Ok(X:Cx):Prop where
 mod:Mod X.K X.mg X.base
 kind:X.env.scope.kind=.function
 glob:X.env.globals=mainGlobals
 blt:X.env.builtins=builtinsNs
 above:X.s₀.heap.objs.size<=X.env.locals
 inj:∀ x y c,X.env.cells.lookup x=some c->X.env.cells.lookup y=some c->x=y
 has:∀ x,(X.env.kindOf x=some .cell\/X.env.kindOf x=some .free)->∃ c,X.env.cells.lookup x=some c
 cab:∀ x c,X.fn x=true->X.env.cells.lookup x=some c->X.s₀.heap.objs.size<=c
 hd:X.calm=true->X.A.handled=none
 frames:X.A.frames=some X.stack
 stk:X.stack=X.outer\/(X.stack=X.env::X.outer/\X.env.frame=some X.env.locals)
 exf:∀ b∈X.ex,b≠X.env.locals/\∀ x c,X.env.cells.lookup x=some c->c≠b
 bs:∀ b o,X.base.get? b=some o->X.s₀.heap.get? b=some o/\X.H₀ b=none
 bsz:X.base.objs.size<=X.s₀.heap.objs.size
 noex:∀ b o,X.base.get? b=some o->b∉X.ex
 exfs:∀ b∈X.ex,b∉X.fs
 funs:X.s₀.heap.FunFrames X.base X.outer
 frf:∀ b∈X.fs,X.H₀ b=none
structure Inv(X:Cx)(AA:List (Addr × Obj))(σ:List (Option V))(H:Hp)(s:Shared):Prop where
 ok:X.Ok
 os:s.os=X.s₀.os
 bare:AllBare s.gens
 base:Un X.fs X.ex X.H₀ H X.s₀.heap s.heap
 loc:∃ m,s.heap.Ns X.env.locals m/\∀ (i:Nat) (x:Str) (v:V),X.N[i]? =some x->σ[i]? =some (some v)->R1 X.env.scope x->∃ u,RelV v u/\sO X.env s.heap m x u
 cell:∀ x c,X.env.cells.lookup x=some c->∃ v,s.heap.IsCell c v
 free:H X.env.locals=none
 freeC:∀ x c,X.env.cells.lookup x=some c->H c=none
 pin:∀ p∈X.pn++AA,s.heap.get? p.1=some p.2/\H p.1=none/\p.1≠X.env.locals/\p.1∉X.fs/\∀ v,p.2.data≠.cell v
 hok:HOk X.prog X.w H s.heap
 len:σ.length=X.N.length
section
variable{X:Cx}{AA:List (Addr × Obj)}{σ:List (Option V)}{H H':Hp}{s:Shared}{h':Heap}
theorem Cx.Ok.nofr(ok:X.Ok){b:Addr}{o:Obj}(e:X.base.get? b=some o):b∉X.fs:=λhb=>by
 have:=(ok.funs.mem hb).1
 rw[e]at this;cases this
theorem Inv.bs(I:Inv X AA σ H s):∀ b o,X.base.get? b=some o->s.heap.get? b=some o/\H b=none:=λb o e =>
 ⟨I.base.keep b o (I.ok.bs b o e).1 (I.ok.bs b o e).2 (I.ok.nofr e) (I.ok.noex b o e),I.base.free b o (I.ok.bs b o e).1 (I.ok.bs b o e).2 (I.ok.noex b o e)⟩
theorem Inv.bk(I:Inv X AA σ H s):∀ b o,X.base.get? b=some o->s.heap.get? b=some o:=λb o e=>(I.bs b o e).1
theorem Inv.mod(I:Inv X AA σ H s):Mod X.K X.mg X.base:=I.ok.mod
theorem Inv.kIn(I:Inv X AA σ H s):X.K.In s.heap:=I.ok.mod.kin.keeps I.bk
theorem Inv.nolimit(I:Inv X AA σ H s):s.heap.NoLimit:=I.ok.mod.nolimit.keeps I.bk
theorem Inv.fr(I:Inv X AA σ H s):∃ m,Fr X.base X.env.locals s.heap m :=
 let ⟨m,hn,_⟩:=I.loc
 ⟨m,hn,I.bk,Nat.le_trans I.ok.bsz I.ok.above⟩
theorem Inv.lt(I:Inv X AA σ H s):X.env.locals<s.heap.objs.size:=let ⟨_,hn,_⟩:=I.loc;hn.lt
theorem Inv.sz(I:Inv X AA σ H s):X.s₀.heap.objs.size<=s.heap.objs.size:=Nat.le_trans I.ok.above (Nat.le_of_lt I.lt)
theorem Inv.nofs(I:Inv X AA σ H s){a:Addr}(h:s.heap.objs.size<=a):a∉X.fs:=λhb=>by
 obtain⟨_,o,ho,_⟩:=I.ok.funs.mem hb
 exact absurd (Nat.lt_of_lt_of_le (Heap.lt_size ho) (Nat.le_trans I.sz h)) (Nat.lt_irrefl _)
theorem Inv.cne(I:Inv X AA σ H s):∀ x c,X.env.cells.lookup x=some c->c≠X.env.locals:=λx c e z=>by
 obtain⟨v,o,ho,hd⟩:=I.cell x c e
 obtain⟨m,⟨o',es,ep,ho',hd',_⟩,_⟩:=I.loc
 rw[z,ho']at ho;cases ho;rw[hd']at hd;cases hd
theorem Inv.funs(I:Inv X AA σ H s):s.heap.FunFrames X.base X.outer:=by
 have all:∀ (l:List Env),(∀ b∈DL l,b∈X.fs)->X.s₀.heap.FunFrames X.base l->s.heap.FunFrames X.base l:=by
  intro l
  induction l with
  | nil=>intro _ _;trivial
  | cons env r ih =>
   intro hs hl
   obtain⟨hk,⟨L,o,hf,hn,ho,hd⟩,hr⟩:=hl
   have hL:L∈X.fs:=hs L (by unfold DL;rw[List.filterMap_cons,hf];exact List.mem_cons_self)
   obtain⟨sl,e⟩:=I.base.slot L o ho (I.ok.frf L hL) hL λz=>I.ok.exfs L z hL
   exact⟨hk,⟨L,_,hf,hn,e,hd⟩,ih (λb hb=>hs b (by unfold DL;rw[List.filterMap_cons,hf];exact List.mem_cons_of_mem _ hb)) hr⟩
 exact all X.outer (λ_ hb=>hb) I.ok.funs
theorem Inv.stack(I:Inv X AA σ H s):s.heap.FunFrames X.base X.stack:=by
 rcases I.ok.stk with e | ⟨e,hf⟩
 ·rw[e];exact I.funs
 ·rw[e]
  obtain⟨m,hn,_⟩:=I.loc
  refine .cons (by rw[I.ok.kind];decide) hf hn ?_ I.funs
  exact Heap.get?_none_of_le (Nat.le_trans I.ok.bsz I.ok.above)
theorem Inv.stkSub(I:Inv X AA σ H s):∀ b∈DL X.stack,b∈X.env.locals::X.fs:=λb hb=>by
 rcases I.ok.stk with e | ⟨e,hf⟩
 ·rw[e]at hb;exact List.mem_cons_of_mem _ hb
 ·rw[e]at hb
  unfold DL at hb
  rw[List.filterMap_cons,hf]at hb
  exact hb
theorem Inv.stkFree(I:Inv X AA σ H s):∀ b∈DL X.stack,H b=none:=λb hb=>by
 rcases List.mem_cons.mp (I.stkSub b hb)with e | hb
 ·rw[e];exact I.free
 ·obtain⟨_,o,ho,_⟩:=I.ok.funs.mem hb
  exact I.base.free b o ho (I.ok.frf b hb) λz=>I.ok.exfs b z hb
theorem Inv.step{g':Array GenState}{t':Nat}{d':Drawn}{ch:List Addr}(I:Inv X AA σ H s)
  (DC:∀ b∈ch,(b∈X.ex\/X.s₀.heap.objs.size<=b)/\b≠X.env.locals/\(∀ x c,X.env.cells.lookup x=some c->c≠b)/\∀ p∈X.pn++AA,p.1≠b)
  (keep:∀ b o,b≠X.env.locals->b∉X.fs->b∉ch->s.heap.get? b=some o->H b=none->h'.get? b=some o)
  (slot:∀ b o,b≠X.env.locals->b∈X.fs->b∉ch->s.heap.get? b=some o->H b=none->∃ sl,h'.get? b=some { o with slots:=sl }) (free:∀ b o,b∉ch->s.heap.get? b=some o->H b=none->H' b=none)
  (there:∀ b o,b∉ch->s.heap.get? b=some o->∃ o',h'.get? b=some o')
  (tups:∀ b xs,H b=some (.tup xs)->H' b=some (.tup xs)) (frzs:∀ b o u,H b=some (.frz o u)->H' b=some (.frz o u)) (tbls:∀ b ps,H b=some (.tbl ps)->∃ more,H' b=some (.tbl (ps++more)))
  (ns:∀ m,s.heap.Ns X.env.locals m->h'.Ns X.env.locals m) (hok:HOk X.prog X.w H' h') (hg:AllBare g') :
  Inv X AA σ H' { s with heap:=h',gens:=g',drawn:=d',toks:=t' }:=by
 have neL:∀ b o,X.s₀.heap.get? b=some o->b≠X.env.locals:=λb o e=>Nat.ne_of_lt (Nat.lt_of_lt_of_le (Heap.lt_size e) I.ok.above)
 have neC:∀ b o,X.s₀.heap.get? b=some o->b∉X.ex->b∉ch:=λb o e hx hb=>by
  rcases(DC b hb).1 with z | z
  ·exact hx z
  ·exact absurd (Nat.lt_of_lt_of_le (Heap.lt_size e) z) (Nat.lt_irrefl _)
 have cellK:∀ x c,X.env.cells.lookup x=some c->∀ v,s.heap.IsCell c v->h'.IsCell c v:=λx c e v ⟨o,ho,hd⟩=>by
  have nch:c∉ch:=λz=>(DC c z).2.2.1 x c e rfl
  by_cases hc:c∈X.fs
  ·obtain⟨sl,q⟩:=slot c o (I.cne x c e) hc nch ho (I.freeC x c e)
   exact⟨_,q,hd⟩
  ·exact⟨o,keep c o (I.cne x c e) hc nch ho (I.freeC x c e),hd⟩
 refine⟨I.ok,I.os,hg,⟨λb o e n hb hx=> ?_,λb o e n hb hx=> ?_,λb o e n hx=> ?_,λb o e hx=> ?_,λb xs e=>tups b xs (I.base.tups b xs e),λb o xs e=>frzs b o xs (I.base.frzs b o xs e),λb ps e=> ?_⟩,?_,λx c e=> ?_,?_,λx c e=> ?_,λp hp=> ?_,hok,I.len⟩
 ·exact keep b o (neL b o e) hb (neC b o e hx) (I.base.keep b o e n hb hx) (I.base.free b o e n hx)
 ·obtain⟨sl,e1⟩:=I.base.slot b o e n hb hx
  obtain⟨sl',e2⟩:=slot b _ (neL b o e) hb (neC b o e hx) e1 (I.base.free b o e n hx)
  exact⟨sl',e2⟩
 ·obtain⟨o',e1⟩:=I.base.there b o e hx
  exact free b o' (neC b o e hx) e1 (I.base.free b o e n hx)
 ·obtain⟨o',e1⟩:=I.base.there b o e hx
  exact there b o' (neC b o e hx) e1
 ·obtain⟨m1,e1⟩:=I.base.tbls b ps e
  obtain⟨m2,e2⟩:=tbls b _ e1
  exact⟨m1++m2,by rw[e2,Array.append_assoc]⟩
 ·obtain⟨m,hn,hl⟩:=I.loc
  refine⟨m,ns m hn,λi x v e1 e2 e3=> ?_⟩
  obtain⟨u,r,l⟩:=hl i x v e1 e2 e3
  refine⟨u,r,?_⟩
  rcases l with l | ⟨k,c,e,z⟩
  ·exact .inl l
  ·exact .inr ⟨k,c,e,cellK x c e _ z⟩
 ·obtain⟨v,z⟩:=I.cell x c e
  exact⟨v,cellK x c e v z⟩
 ·obtain⟨m,⟨o,_,_,ho,_⟩,_⟩:=I.loc
  exact free _ o (λz=>(DC _ z).2.1 rfl) ho I.free
 ·obtain⟨v,o,ho,hd⟩:=I.cell x c e
  exact free c o (λz=>(DC c z).2.2.1 x c e rfl) ho (I.freeC x c e)
 ·obtain⟨e,n,ne,nf,d⟩:=I.pin p hp
  have nch:p.1∉ch:=λz=>(DC p.1 z).2.2.2 p hp rfl
  exact⟨keep p.1 p.2 ne nf nch e n,free p.1 p.2 nch e n,ne,nf,d⟩
theorem Inv.un{t':Nat}(I:Inv X AA σ H s)(u:Un X.fs [] H H' s.heap h')(hok:HOk X.prog X.w H' h'):Inv X AA σ H' { s with heap:=h',toks:=t' }:=by
 obtain⟨m,⟨o,es,ep,ho,r⟩,_⟩:=id I.loc
 obtain⟨sl,hL⟩:=u.any ho I.free (by simp)
 exact I.step (g':=s.gens) (d':=s.drawn) (ch:=[]) (λ_ z=>nomatch z) (λb o _ hb _ e n=>u.keep b o e n hb (by simp)) (λb o _ hb _ e n=>u.slot b o e n hb (by simp)) (λb o _ e n=>u.free b o e n (by simp)) (λb o _ e=>u.there b o e (by simp)) u.tups u.frzs u.tbls (λm' hm=>by
  obtain⟨o',es',ep',ho',r'⟩:=hm
  rw[ho]at ho';cases ho'
  exact⟨_,es',ep',hL,r'⟩) hok I.bare
theorem Inv.call{g':Array GenState}{t':Nat}{d':Drawn}{ch:List Addr}(I:Inv X AA σ H s)(u:Un (DL X.stack) ch H H' s.heap h')(hok:HOk X.prog X.w H' h')(hg:AllBare g')
  (DC:∀ b∈ch,(b∈X.ex\/X.s₀.heap.objs.size<=b)/\b≠X.env.locals/\(∀ x c,X.env.cells.lookup x=some c->c≠b)/\∀ p∈X.pn++AA,p.1≠b) :
  Inv X AA σ H' { s with heap:=h',gens:=g',drawn:=d',toks:=t' }:=by
 obtain⟨m,⟨o,es,ep,ho,r⟩,_⟩:=id I.loc
 obtain⟨sl,hL⟩:=u.any ho I.free λz=>(DC _ z).2.1 rfl
 exact I.step (ch:=ch) DC (λb o hL hb hc e n=>u.keep b o e n (λz=>(List.mem_cons.mp (I.stkSub b z)).elim hL hb) hc) (λb o _ _ hc e n=>u.any e n hc) (λb o hc e n=>u.free b o e n hc) (λb o hc e=>u.there b o e hc) u.tups u.frzs u.tbls (λm' hm=>by
  obtain⟨o',es',ep',ho',r'⟩:=hm
  rw[ho]at ho';cases ho'
  exact⟨_,es',ep',hL,r'⟩) hok hg
theorem Inv.turned{t':Nat}{it:Addr}(I:Inv X AA σ H s)(k:∀ b o,b≠it->s.heap.get? b=some o->h'.get? b=some o)(hn:H it=none)(hL:it≠X.env.locals)
  (h1:it∈X.ex\/X.s₀.heap.objs.size<=it) (h2:∀ x c,X.env.cells.lookup x=some c->c≠it) (h3:∀ p∈X.pn++AA,p.1≠it):Inv X AA σ H { s with heap:=h',toks:=t' }:=by
 have nit:∀ b u,H b=some u->b≠it:=λb u e z=>by rw[z,hn]at e;cases e
 refine I.step (g':=s.gens) (d':=s.drawn) (ch:=[it]) (λb hb=> ?_) (λb o _ _ hc e _=>k b o (λz=>hc (by simp[z])) e) (λb o _ _ hc e _=>⟨o.slots,k b o (λz=>hc (by simp[z])) e⟩) (λ_ _ _ _ n=>n)
  (λb o hc e=>⟨o,k b o (λz=>hc (by simp[z])) e⟩) (λ_ _ e=>e) (λ_ _ _ e=>e) (λb ps e=>⟨#[],by rw[e];simp⟩) (λm hm=> ?_) (λb u e=> ?_) I.bare
 ·have e:b=it:=by simpa using hb
  subst e
  exact⟨h1,hL,h2,h3⟩
 ·obtain⟨o,es,ep,ho,r⟩:=hm
  exact⟨o,es,ep,k _ o (Ne.symm hL) ho,r⟩
 ·refine(I.hok b u e).stay (λc v hc q=>k c v ?_ q) (λ_ q=>q) λ_ _ q=>q
  rcases hc with z | z
  ·rw[z];exact nit b u e
  ·exact nit c _ z
theorem Inv.tok(I:Inv X AA σ H s)(t:Nat):Inv X AA σ H { s with toks:=t }:=I.un (h':=s.heap) (t':=t) Un.refl I.hok
theorem Inv.kept{t':Nat}(I:Inv X AA σ H s)(k:∀ b u,s.heap.get? b=some u->h'.get? b=some u):Inv X AA σ H { s with heap:=h',toks:=t' }:=I.un (Un.kept k) (I.hok.kept k)
theorem Inv.laid{a:Addr}{o:HO}{t':Nat}(I:Inv X AA σ H s)(k:∀ b u,s.heap.get? b=some u->h'.get? b=some u)(hp:s.heap.objs.size<=a)(new:ObjOk X.prog X.w (upd H a o) h' a o) :
  Inv X AA σ (upd H a o) { s with heap:=h',toks:=t' }:=I.un (Un.laid k hp (I.hok.fresh hp)) (I.hok.laid k hp new)
theorem Inv.write{x e:Addr}{o:HO}{t':Nat}(I:Inv X AA σ H s)(mu:MA (H x))(he:e=x\/H e=some (.own x))(k:∀ b u,b≠e->s.heap.get? b=some u->h'.get? b=some u)(heo:∃ u,h'.get? e=some u)
  (new:ObjOk X.prog X.w (upd H x o) h' x o):Inv X AA σ (upd H x o) { s with heap:=h',toks:=t' }:=I.un (Un.write mu he k heo) (I.hok.write mu he k heo new)
theorem Inv.pins_of{pins':List (Addr × Obj)}(I:Inv X AA σ H s)(h:∀ p∈pins',s.heap.get? p.1=some p.2/\H p.1=none/\p.1≠X.env.locals/\p.1∉X.fs/\∀ v,p.2.data≠.cell v):Inv X pins' σ H s :=
 ⟨I.ok,I.os,I.bare,I.base,I.loc,I.cell,I.free,I.freeC,λp hp=>(List.mem_append.mp hp).elim (λz=>I.pin p (List.mem_append_left _ z)) (h p),I.hok,I.len⟩
theorem R3{N:List Str}(hN:N.Nodup){i j:Nat}{x:Str}(a:N[i]? =some x)(b:N[j]? =some x):i=j:=by
 obtain⟨h1,e1⟩:=List.getElem?_eq_some_iff.mp a
 obtain⟨h2,e2⟩:=List.getElem?_eq_some_iff.mp b
 exact(List.getElem_inj hN).mp (e1.trans e2.symm)
theorem bP{M:Model}{A:Around}{E:Value->Shared->Prop}{i:Nat}{x:Str}{v:V}{u:Value}{Q:Unit->Shared->Prop}(I:Inv X AA σ H s)(hN:X.N.Nodup)(hi:X.N[i]? =some x)(hx:KI X.env.scope x)(r:RelV v u)
  (h:∀ s',Inv X AA (σ.set i (some v)) H s'->(∃ a,Heap.SameBut a s.heap s'.heap/\(a=X.env.locals\/X.env.cells.lookup x=some a))->Q () s') (hf:X.fn x=true\/X.env.scope.names.lookup x=some .local:=by first | exact .inl rfl | exact .inr rfl | assumption):wpAny M A (storeName X.env x u) Q E s:=by
 obtain⟨m,hn,hl⟩:=id I.loc
 have JJ:(X.env.scope.kind == .class || (X.env.scope.kind == .module && X.env.locals != X.env.globals))=false:=by rw[I.ok.kind];rfl
 have hiσ:i<σ.length:=by rw[I.len];exact(List.getElem?_eq_some_iff.mp hi).1
 have cne:=I.cne
 have tracked:∀ {a:Addr} {h':Heap},(∃ o,s.heap.get? a=some o/\H a=none)->Heap.SameBut a s.heap h'->HOk X.prog X.w H h':=λ{a h'} ha hs b ob e=>by
  obtain⟨_,_,hfree⟩:=ha
  refine(I.hok b ob e).stay (λc w' hc q=>(hs.2 c ?_).trans q) (λ_ q=>q) λ_ _ q=>q
  rintro rfl
  rcases hc with rfl | hc
  ·rw[hfree]at e;cases e
  ·rw[hfree]at hc;cases hc
 rcases hx with hk | hk
 ·refine wpAny_storeName_local hk hn (λh' hn' hs=> ?_) JJ
  obtain⟨oL,_,_,hoL,_⟩:=id hn
  refine h _ ⟨I.ok,I.os,I.bare,⟨λb o e n hb hx=> ?_,λb o e n hb hx=> ?_,I.base.free,λb o e hx=> ?_,I.base.tups,I.base.frzs,I.base.tbls⟩,⟨_,hn',λj y v' e1 e2 e3=> ?_⟩,λy c e=> ?_,I.free,I.freeC,λp hp=> ?_,tracked ⟨oL,hoL,I.free⟩ hs,by simpa using I.len⟩ ⟨_,hs,.inl rfl⟩
  ·exact(hs.2 b (Nat.ne_of_lt (Nat.lt_of_lt_of_le (Heap.lt_size e) I.ok.above))).trans (I.base.keep b o e n hb hx)
  ·obtain⟨sl,e1⟩:=I.base.slot b o e n hb hx
   exact⟨sl,(hs.2 b (Nat.ne_of_lt (Nat.lt_of_lt_of_le (Heap.lt_size e) I.ok.above))).trans e1⟩
  ·obtain⟨o',e1⟩:=I.base.there b o e hx
   exact⟨o',(hs.2 b (Nat.ne_of_lt (Nat.lt_of_lt_of_le (Heap.lt_size e) I.ok.above))).trans e1⟩
  ·by_cases hj:j=i
   ·subst hj
    rw[hi]at e1;cases e1
    rw[List.getElem?_set_self hiσ]at e2
    cases e2
    exact⟨u,r,.inl ⟨hk,by simp⟩⟩
   ·rw[List.getElem?_set_ne (Ne.symm hj)]at e2
    obtain⟨u',r',q⟩:=hl j y v' e1 e2 e3
    refine⟨u',r',?_⟩
    rcases q with⟨k,e⟩ | ⟨k,c,e,z⟩
    ·refine .inl ⟨k,?_⟩
     have:y≠x:=λe=>hj (R3 hN e1 (e ▸ hi))
     simp[this,e]
    ·exact .inr ⟨k,c,e,z.sameBut hs (cne y c e)⟩
  ·obtain⟨w',z⟩:=I.cell y c e
   exact⟨w',z.sameBut hs (cne y c e)⟩
  ·obtain⟨e,n,ne,nf,d⟩:=I.pin p hp
   exact⟨(hs.2 p.1 ne).trans e,n,ne,nf,d⟩
 ·have hfn:X.fn x=true:=by
   rcases hf with z | z
   ·exact z
   ·rw[z]at hk;cases hk
  obtain⟨c,hc⟩:=I.ok.has x (.inl hk)
  obtain⟨w',z⟩:=I.cell x c hc
  refine wpAny_storeName_cell I.ok.kind hk hc z (λh' hc' hs=> ?_)
  obtain⟨oc,hoc,hocd⟩:=id z
  refine h { s with heap:=h' } ⟨I.ok,I.os,I.bare,⟨λb o e n hb hx=> ?_,λb o e n hb hx=> ?_,I.base.free,λb o e hx=> ?_,I.base.tups,I.base.frzs,I.base.tbls⟩,⟨m,hn.sameBut hs (Ne.symm (cne x c hc)),λj y v' e1 e2 e3=> ?_⟩,λy c' e=> ?_,I.free,I.freeC,λp hp=> ?_,tracked ⟨oc,hoc,I.freeC x c hc⟩ hs,by simpa using I.len⟩ ⟨c,hs,.inr hc⟩
  ·exact(hs.2 b (Nat.ne_of_lt (Nat.lt_of_lt_of_le (Heap.lt_size e) (I.ok.cab x c hfn hc)))).trans (I.base.keep b o e n hb hx)
  ·obtain⟨sl,e1⟩:=I.base.slot b o e n hb hx
   exact⟨sl,(hs.2 b (Nat.ne_of_lt (Nat.lt_of_lt_of_le (Heap.lt_size e) (I.ok.cab x c hfn hc)))).trans e1⟩
  ·obtain⟨o',e1⟩:=I.base.there b o e hx
   exact⟨o',(hs.2 b (Nat.ne_of_lt (Nat.lt_of_lt_of_le (Heap.lt_size e) (I.ok.cab x c hfn hc)))).trans e1⟩
  ·by_cases hj:j=i
   ·subst hj
    rw[hi]at e1;cases e1
    rw[List.getElem?_set_self hiσ]at e2
    cases e2
    exact⟨u,r,.inr ⟨.inl hk,c,hc,hc'⟩⟩
   ·rw[List.getElem?_set_ne (Ne.symm hj)]at e2
    obtain⟨u',r',q⟩:=hl j y v' e1 e2 e3
    refine⟨u',r',?_⟩
    rcases q with q | ⟨k,c',e,z'⟩
    ·exact .inl q
    ·refine .inr ⟨k,c',e,z'.sameBut hs ?_⟩
     rintro rfl
     exact hj (R3 hN e1 (I.ok.inj _ _ _ e hc ▸ hi))
  ·by_cases hcc:c'=c
   ·subst hcc;exact⟨_,hc'⟩
   ·obtain⟨w2,z2⟩:=I.cell y c' e
    exact⟨w2,z2.sameBut hs hcc⟩
  ·obtain⟨e,n,ne,nf,d⟩:=I.pin p hp
   refine⟨(hs.2 p.1 ?_).trans e,n,ne,nf,d⟩
   intro q
   rw[q,hoc]at e
   have q':oc=p.2:=Option.some.inj e
   exact d w' (by rw[<-q'];exact hocd)
theorem OC{M:Model}{A:Around}{E:Value->Shared->Prop}{i:Nat}{x:Str}{v:V}{u:Value}{Q:Unit->Shared->Prop}(I:Inv X AA σ H s)(hN:X.N.Nodup)(hi:X.N[i]? =some x)(hx:KI X.env.scope x)(r:RelV v u)
  (h:∀ s',Inv X AA (σ.set i (some v)) H s'->Q () s') (hf:X.fn x=true\/X.env.scope.names.lookup x=some .local:=by first | exact .inl rfl | exact .inr rfl | assumption):wpAny M A (storeName X.env x u) Q E s :=
 bP I hN hi hx r (λs' I' _=>h s' I') hf
theorem Inv.call'{s':Shared}{ch:List Addr}(I:Inv X AA σ H s)(ho:s'.os=s.os)(u:Un (DL X.stack) ch H H' s.heap s'.heap)(hok:HOk X.prog X.w H' s'.heap)(hg:AllBare s'.gens)
  (DC:∀ b∈ch,(b∈X.ex\/X.s₀.heap.objs.size<=b)/\b≠X.env.locals/\(∀ x c,X.env.cells.lookup x=some c->c≠b)/\∀ p∈X.pn++AA,p.1≠b):Inv X AA σ H' s':=by
 obtain⟨h',g',d',t',o'⟩:=s'
 have e:o'=s.os:=ho
 subst e
 exact I.call (g':=g') (t':=t') (d':=d') u hok hg DC
end
abbrev XK:=Value->Option Addr->Hp->Prop
abbrev St:=List (Option V)
abbrev VK:=V->Hp->Prop
abbrev TE:=St->Hp->VK->Prop
abbrev TT:=St->Hp->(Bool->Hp->Prop)->Prop
abbrev TA:=St->Hp->(List V->Hp->Prop)->Prop
structure Ends where
 nx:St->Hp->Prop
 rt:VK
 bk:St->Hp->Prop:=λ_ _=>False
 ct:St->Hp->Prop:=λ_ _=>False
abbrev TS:=Ends->St->Hp->Prop
def EP(X:Cx)(AA:List (Addr × Obj))(σ:St)(Q:VK)(u:Value)(s':Shared):Prop:=∃ v H',Inv X AA σ H' s'/\RelV v u/\Q v H'
def TP(X:Cx)(AA:List (Addr × Obj))(σ:St)(Q:Bool->Hp->Prop)(b:Bool)(s':Shared):Prop:=∃ H',Inv X AA σ H' s'/\Q b H'
def AP(X:Cx)(AA:List (Addr × Obj))(σ:St)(Q:List V->Hp->Prop)(us:List Value)(s':Shared):Prop:=∃ vs H',Inv X AA σ H' s'/\Vals vs us/\Q vs H'
def SP(X:Cx)(AA:List (Addr × Obj))(D:Ends)(f:Flow)(s':Shared):Prop :=
 match f with
 | .next=>∃ σ' H',Inv X AA σ' H' s'/\D.nx σ' H'
 | .brk=>∃ σ' H',Inv X AA σ' H' s'/\D.bk σ' H'
 | .cont=>∃ σ' H',Inv X AA σ' H' s'/\D.ct σ' H'
 | .ret u=>∃ v σ' H',Inv X AA σ' H' s'/\RelV v u/\D.rt v H'
def PE(X:Cx)(e:Expr)(t:TE):Prop :=
 ∀ (AA:List (Addr × Obj)) (s:Shared) (σ:St) (H:Hp) (Q:VK),Inv X AA σ H s->t σ H Q->wpAny (model X.prog X.w) X.A (eval e X.env) (EP X AA σ Q) X.xe s
def PT(X:Cx)(e:Expr)(t:TT):Prop :=
 ∀ (AA:List (Addr × Obj)) (s:Shared) (σ:St) (H:Hp) (Q:Bool->Hp->Prop),Inv X AA σ H s->t σ H Q->wpAny (model X.prog X.w) X.A (isTrue e X.env (eval e X.env)) (TP X AA σ Q) X.xe s
def PW(X:Cx)(e:Expr)(t:TT):Prop :=
 ∀ (whole:Sem Value) (AA:List (Addr × Obj)) (s:Shared) (σ:St) (H:Hp) (Q:Bool->Hp->Prop),Inv X AA σ H s->t σ H Q->wpAny (model X.prog X.w) X.A (isTrue e X.env whole) (TP X AA σ Q) X.xe s
theorem PW.pt{X:Cx}{e:Expr}{t:TT}(h:PW X e t):PT X e t:=h _
def PA(X:Cx)(es:List Expr)(t:TA):Prop :=
 ∀ (pos:Pos) (AA:List (Addr × Obj)) (s:Shared) (σ:St) (H:Hp) (Q:List V->Hp->Prop),Inv X AA σ H s->t σ H Q->wpAny (model X.prog X.w) X.A (spliced (backTo pos (starEach es X.env))) (AP X AA σ Q) X.xe s
def PS(X:Cx)(st:Stmt)(t:TS):Prop :=
 ∀ (AA:List (Addr × Obj)) (s:Shared) (σ:St) (H:Hp) (D:Ends),Inv X AA σ H s->t D σ H->wpAny (model X.prog X.w) X.A (exec st X.env) (SP X AA D) X.xe s
def PSs(X:Cx)(st:List Stmt)(t:TS):Prop :=
 ∀ (AA:List (Addr × Obj)) (s:Shared) (σ:St) (H:Hp) (D:Ends),Inv X AA σ H s->t D σ H->wpAny (model X.prog X.w) X.A (execs st X.env) (SP X AA D) X.xe s
theorem AR{α :Type}{t:Sem α}{Q Q': α ->Shared->Prop}{M:Model}{A:Around}{E:Value->Shared->Prop}{s:Shared}(h:wpAny M A t Q E s)(hQ:∀ a s,Q a s->Q' a s):wpAny M A t Q' E s:=wpAny_mono h hQ λ_ _ x=>x
end L2
namespace L2
section
variable{X:Cx}
def R4(i:Nat):TE:=λσ H Q=>∃ v,σ[i]? =some (some v)/\Q v H
def tC(v:V):TE:=λ_ H Q=>Q v H
theorem sP{i:Nat}{x:Str}{pos:Pos}(hN:X.N[i]? =some x)(hv:R1 X.env.scope x)(hd:(x ==("__debug__":Str))=false:=by decide)(GQ:(x ==("__classdict__":Str))=false:=by decide):PE X (.Name x pos) (R4 i):=by
 intro AA s σ H Q I h
 obtain⟨v,e,h⟩:=h
 obtain⟨m,hn,hl⟩:=I.loc
 obtain⟨u,r,l⟩:=hl i x v hN e hv
 have fin:EP X AA σ Q u s:=⟨v,H,I,r,h⟩
 rcases l with⟨hk,hm⟩ | ⟨hk,c,hc,hcell⟩
 ·exact wpAny_Name (wpAny_loadName_local I.ok.kind hk hn hm fin) hd
 ·rcases hk with hk | hk
  ·exact wpAny_Name (wpAny_loadName_cell I.ok.kind hk hc hcell fin) hd
  ·exact wpAny_Name (wpAny_loadName_free I.ok.kind hk hc hcell fin GQ) hd
theorem A0{i j pos}:PE X (.Constant (.int i) j pos) (tC (.int i)):=λ_ _ _ H _ I h=>wpAny_Constant_int ⟨.int i,H,I.tok _,⟨_,rfl⟩,h⟩
theorem HZ{b j pos}:PE X (.Constant (.bool b) j pos) (tC (.bl b)):=λ_ _ _ H _ I h=>Constant_bool ⟨.bl b,H,I,rfl,h⟩
theorem FE{j pos}:PE X (.Constant .none j pos) (tC .non):=λ_ _ _ H _ I h=>Constant_none ⟨.non,H,I,rfl,h⟩
theorem AL{x j pos}:PE X (.Constant (.str x) j pos) (tC (.str x)):=λ_ _ _ H _ I h=>Calls.Constant_str ⟨.str x,H,I.tok _,⟨_,rfl⟩,h⟩
def Gl(X:Cx)(x:Str):Prop:=X.env.kindOf x=some .globalImplicit
theorem MB{E:Value->Shared->Prop}{AA:List (Addr × Obj)}{s:Shared}{σ:St}{H:Hp}{x:Str}{u:Value}{pos:Pos}{Q:Value->Shared->Prop}(I:Inv X AA σ H s)(hg:Gl X x)(hm:X.mg x=some u)(h:Q u s)
  (hd:(x ==("__debug__":Str))=false:=by decide):wpAny (model X.prog X.w) X.A (eval (.Name x pos) X.env) Q E s :=
 Calls.Name_function_global I.ok.kind hg (Calls.loadGlobal_global (by rw[I.ok.glob];exact I.mod.glob.keeps I.bk) hm h) hd
theorem MC{E:Value->Shared->Prop}{AA:List (Addr × Obj)}{s:Shared}{σ:St}{H:Hp}{x:Str}{u:Value}{pos:Pos}{Q:Value->Shared->Prop}(I:Inv X AA σ H s)(hg:Gl X x)(hm:X.mg x=none)(hv:bootBuiltins x=some u)(h:Q u s)
  (hn:x≠"__name__":=by decide) (hd:(x ==("__debug__":Str))=false:=by decide):wpAny (model X.prog X.w) X.A (eval (.Name x pos) X.env) Q E s:=by
 obtain⟨mb,h1,h2⟩:=I.mod.blt
 exact Calls.Name_function_global I.ok.kind hg (Calls.loadGlobal_builtin (by rw[I.ok.glob];exact I.mod.glob.keeps I.bk) hm (by rw[I.ok.blt];exact h1.keeps I.bk) ((h2 x hn).trans hv) h) hd
theorem sQ{x:Str}{v:V}{u:Value}{pos:Pos}(hg:Gl X x)(hm:X.mg x=some u)(r:RelV v u)(hd:(x ==("__debug__":Str))=false:=by decide):PE X (.Name x pos) (tC v) :=
 λ_ _ _ H _ I h=>MB I hg hm ⟨v,H,I,r,h⟩ hd
theorem sR{x:Str}{v:V}{u:Value}{pos:Pos}(hg:Gl X x)(hm:X.mg x=none)(hv:bootBuiltins x=some u)(r:RelV v u)(hn:x≠"__name__":=by decide)(hd:(x ==("__debug__":Str))=false:=by decide):PE X (.Name x pos) (tC v) :=
 λ_ _ _ H _ I h=>MC I hg hm hv ⟨v,H,I,r,h⟩ hn hd
variable{a b:Expr}{ta tb:TE}{pos:Pos}
def PC(X:Cx)(op:CmpOp)(a b:Expr)(t:TE):Prop :=
 ∀ (AA:List (Addr × Obj)) (s:Shared) (σ:St) (H:Hp) (Q:VK),Inv X AA σ H s->t σ H Q →
  wpAny (model X.prog X.w) X.A (eval a X.env) (λv s₁=>wpAny (model X.prog X.w) X.A (eval b X.env) (λu s₂=>wpAny (model X.prog X.w) X.A (compareOp op v u) (EP X AA σ Q) X.xe s₂) X.xe s₁) X.xe s
theorem sS(b:Expr){op:CmpOp}(h:op≠.In)(h2:op≠.NotIn):behindInMarks op b=false:=by
 have e1:(op == CmpOp.In)=false:=by cases op<;>first | rfl | exact absurd rfl h
 have e2:(op == CmpOp.NotIn)=false:=by cases op<;>first | rfl | exact absurd rfl h2
 cases b<;>simp[behindInMarks,e1,e2]
def tB(t:TE):TT:=λσ H Q=>t σ H λx H1=>∃ c,x=.bl c/\Q c H1
theorem JM{op:CmpOp}{t:TE}(h:PC X op a b t)(h1:behindInMarks op b=false:=by first | exact sS _ (by decide) (by decide) | rfl):PT X (.Compare a [op] [b] pos) (tB t):=by
 intro AA s σ H Q I hw
 refine wpAny_isTrue_Compare1 (AR (h AA s σ H _ I hw) λv s1 h1=>AR h1 λu s2 h2=>AR h2 λc s3 hzz=> ?_) h1
 obtain⟨x,H1,I1,r1,q1⟩:=hzz
 obtain⟨d,rfl,q⟩:=q1
 cases r1
 exact wpAny_truthy_bool ⟨H1,I1,q⟩
variable{tA tB':TT}{DZ:List Expr}
def KJ(t u:TT):TT:=λσ H Q=>t σ H λc H1=>if c=true then u σ H1 Q else Q false H1
def MD(t u:TT):TT:=λσ H Q=>t σ H λc H1=>if c=true then Q true H1 else u σ H1 Q
def F6(t:TT):TT:=λσ H Q=>t σ H λc H1=>Q (!c) H1
theorem OD(ha:PT X a tA):PW X (.BoolOp .And [a] pos) tA:=by
 intro wh AA s σ H Q I h
 refine isTrue_and (AR (ha AA s σ H Q I h) λc s1 e=> ?_)
 cases c with
 | true=>exact isTrue_and_nil e
 | false=>exact e
theorem R5(ha:PT X a tA):PW X (.BoolOp .Or [a] pos) tA:=by
 intro wh AA s σ H Q I h
 refine isTrue_or (AR (ha AA s σ H Q I h) λc s1 e=> ?_)
 cases c with
 | false=>exact isTrue_or_nil e
 | true=>exact e
theorem OE(ha:PT X a tA)(hb:PW X (.BoolOp .And (b::DZ) pos) tB'):PW X (.BoolOp .And (a::b::DZ) pos) (KJ tA tB'):=by
 intro wh AA s σ H Q I h
 refine isTrue_and (AR (ha AA s σ H _ I h) λc s1 hzz=> ?_)
 obtain⟨H1,I1,q1⟩:=hzz
 cases c with
 | true=>exact hb wh AA s1 σ H1 Q I1 q1
 | false=>exact⟨H1,I1,q1⟩
theorem R6(ha:PT X a tA)(hb:PW X (.BoolOp .Or (b::DZ) pos) tB'):PW X (.BoolOp .Or (a::b::DZ) pos) (MD tA tB'):=by
 intro wh AA s σ H Q I h
 refine isTrue_or (AR (ha AA s σ H _ I h) λc s1 hzz=> ?_)
 obtain⟨H1,I1,q1⟩:=hzz
 cases c with
 | true=>exact⟨H1,I1,q1⟩
 | false=>exact hb wh AA s1 σ H1 Q I1 q1
theorem G9(ha:PT X a tA):PT X (.UnaryOp .Not a pos) (F6 tA):=by
 intro AA s σ H Q I h
 exact isTrue_not (ha AA s σ H (λc H1=>Q (!c) H1) I h)
def JN(ta tb:TE):TE:=λσ H Q=>ta σ H λx H1=>∃ c,x=.bl c/\if c=true then tb σ H1 Q else Q (.bl false) H1
def R7(ta tb:TE):TE:=λσ H Q=>ta σ H λx H1=>∃ c,x=.bl c/\if c=true then Q (.bl true) H1 else tb σ H1 Q
theorem ME{op}{t:TE}(h:PE X a t):PE X (.BoolOp op [a] pos) t:=λAA s σ H Q I hw=>BoolOp_one (h AA s σ H Q I hw)
theorem MF(ha:PE X a ta)(hb:PE X (.BoolOp .And (b::DZ) pos) tb):PE X (.BoolOp .And (a::b::DZ) pos) (JN ta tb):=by
 intro AA s σ H Q I h
 refine BoolOp_and (AR (ha AA s σ H _ I h) λv s1 hzz=> ?_)
 obtain⟨x,H1,I1,r1,q1⟩:=hzz
 obtain⟨c,rfl,q1⟩:=q1
 cases r1
 refine wpAny_truthy_bool ?_
 cases c with
 | true=>exact hb AA s1 σ H1 Q I1 q1
 | false=>exact⟨.bl false,H1,I1,rfl,q1⟩
theorem sT(ha:PE X a ta)(hb:PE X (.BoolOp .Or (b::DZ) pos) tb):PE X (.BoolOp .Or (a::b::DZ) pos) (R7 ta tb):=by
 intro AA s σ H Q I h
 refine BoolOp_or (AR (ha AA s σ H _ I h) λv s1 hzz=> ?_)
 obtain⟨x,H1,I1,r1,q1⟩:=hzz
 obtain⟨c,rfl,q1⟩:=q1
 cases r1
 refine wpAny_truthy_bool ?_
 cases c with
 | false=>exact hb AA s1 σ H1 Q I1 q1
 | true=>exact⟨.bl true,H1,I1,rfl,q1⟩
def OF(t:TT)(ta tb:TE):TE:=λσ H Q=>t σ H λc H1=>if c=true then ta σ H1 Q else tb σ H1 Q
theorem bQ{c:Expr}(hc:PT X c tA)(ha:PE X a ta)(hb:PE X b tb):PE X (.IfExp c a b pos) (OF tA ta tb):=by
 intro AA s σ H Q I h
 refine wpAny_IfExp (AR (hc AA s σ H _ I h) λd s1 hzz=> ?_)
 obtain⟨H1,I1,q1⟩:=hzz
 cases d with
 | true=>exact ha AA s1 σ H1 Q I1 q1
 | false=>exact hb AA s1 σ H1 Q I1 q1
end
end L2
namespace L2
def SqL(K:W.Frag)(H:Hp)(a:Addr)(xs:List V):Prop :=
 Rd H a (.lst xs) ∨
  ∃ (o:Obj) (its:Array Value) (n:Nat),K.lookup a=some o/\o.cls=.type "list"/\o.dict=none/\o.data=.seq its n/\its.size<=sizeLine/\Vals xs its.toList
def SqT(K:W.Frag)(H:Hp)(a:Addr)(xs:List V):Prop :=
 Rd H a (.tup xs) ∨
  ∃ (o:Obj) (its:Array Value) (n:Nat),K.lookup a=some o/\o.cls=.type "tuple"/\o.data=.seq its n/\its.size<=sizeLine/\Vals xs its.toList
def sU:Value->Option V
 | .none=>some .non
 | .bool b=>some (.bl b)
 | .int i _=>some (.int i)
 | .str x _=>some (.str x)
 | .bytes b _=>some (.byt b)
 | .float b _=>some (.flt b)
 | .ref a=>some (.ref a)
 | .type n=>some (.ty n)
 | _=>none
theorem RelV.abs{x:V}{u:Value}(r:RelV x u):sU u=some x:=by
 cases x with
 | non=>cases r;rfl
 | bl _=>cases r;rfl
 | int _=>obtain⟨t,rfl⟩:=r;rfl
 | str _=>obtain⟨t,rfl⟩:=r;rfl
 | byt _=>obtain⟨t,rfl⟩:=r;rfl
 | flt _=>obtain⟨t,rfl⟩:=r;rfl
 | ref _=>cases r;rfl
 | ty _=>cases r;rfl
theorem RelV.inj{x y:V}{u:Value}(r:RelV x u)(q:RelV y u):x=y:=Option.some.inj (r.abs.symm.trans q.abs)
theorem Vals.inj:∀ {xs ys:List V} {us:List Value},Vals xs us->Vals ys us->xs=ys
 | _,_,_,.nil,.nil=>rfl
 | _,_,_,.cons r t,.cons r' t'=>by rw[r.inj r',Vals.inj t t']
section
variable{X:Cx}{AA:List (Addr × Obj)}{σ:St}{H:Hp}{s:Shared}{a:Addr}{xs ys:List V}
theorem SqL.of{K:W.Frag}(h:H a=some (.lst xs)):SqL K H a xs:=.inl (.inl h)
theorem SqT.of{K:W.Frag}(h:H a=some (.tup xs)):SqT K H a xs:=.inl (.inl h)
theorem Inv.list(I:Inv X AA σ H s)(h:SqL X.K H a xs):∃ its:List Value,Vals xs its/\PlainL s.heap a its.toArray/\xs.length<=sizeLine:=by
 rcases h with h | ⟨o,its,n,hk,hc,hd,hs,hz,r⟩
 ·obtain⟨z,its,n,r,e⟩:=h.ok I.hok
  exact⟨its,r,⟨_,n,e,rfl,rfl,rfl⟩,z⟩
 ·refine⟨its.toList,r,⟨o,n,I.kIn a o hk,hc,hd,by simpa using hs⟩,?_⟩
  have e:=r.length
  simp only[Array.length_toList]at e
  omega
theorem Inv.tuple(I:Inv X AA σ H s)(h:SqT X.K H a xs):∃ its:List Value,Vals xs its/\IsTup s.heap a its.toArray/\xs.length<=sizeLine:=by
 rcases h with h | ⟨o,its,n,hk,hc,hs,hz,r⟩
 ·obtain⟨z,its,r,p⟩:=h.ok I.hok
  exact⟨its,r,p,z⟩
 ·refine⟨its.toList,r,⟨o,I.kIn a o hk,hc,n,by simpa using hs⟩,?_⟩
  have e:=r.length
  simp only[Array.length_toList]at e
  omega
theorem Inv.list_inj(I:Inv X AA σ H s)(h:SqL X.K H a xs)(h':SqL X.K H a ys):xs=ys:=by
 obtain⟨its,r,⟨o,n,e,_,_,d⟩,_⟩:=I.list h
 obtain⟨its',r',⟨o',n',e',_,_,d'⟩,_⟩:=I.list h'
 rw[e]at e';cases e'
 rw[d]at d'
 injection d' with d1 _
 have:its=its':=by simpa using congrArg Array.toList d1
 subst this
 exact r.inj r'
theorem Inv.tuple_inj(I:Inv X AA σ H s)(h:SqT X.K H a xs)(h':SqT X.K H a ys):xs=ys:=by
 obtain⟨its,r,⟨o,e,_,n,d⟩,_⟩:=I.tuple h
 obtain⟨its',r',⟨o',e',_,n',d'⟩,_⟩:=I.tuple h'
 rw[e]at e';cases e'
 rw[d]at d'
 injection d' with d1 _
 have:its=its':=by simpa using congrArg Array.toList d1
 subst this
 exact r.inj r'
end
abbrev Cx.wish(X:Cx)(E:Value->Shared->Prop):Cx:={ X with xe:=E }
abbrev Cx.nox(X:Cx):Cx:=X.wish λ_ _=>False
theorem Cx.Ok.wish{X:Cx}(ok:X.Ok)(E:Value->Shared->Prop):(X.wish E).Ok :=
 ⟨ok.mod,ok.kind,ok.glob,ok.blt,ok.above,ok.inj,ok.has,ok.cab,ok.hd,ok.frames,ok.stk,ok.exf,ok.bs,ok.bsz,ok.noex,ok.exfs,ok.funs,ok.frf⟩
theorem Cx.Ok.unwish{X:Cx}{E:Value->Shared->Prop}(ok:(X.wish E).Ok):X.Ok :=
 ⟨ok.mod,ok.kind,ok.glob,ok.blt,ok.above,ok.inj,ok.has,ok.cab,ok.hd,ok.frames,ok.stk,ok.exf,ok.bs,ok.bsz,ok.noex,ok.exfs,ok.funs,ok.frf⟩
section
variable{X:Cx}{AA:List (Addr × Obj)}{σ:St}{H:Hp}{s:Shared}{E:Value->Shared->Prop}
theorem Inv.wish(I:Inv X AA σ H s)(E:Value->Shared->Prop):Inv (X.wish E) AA σ H s:=⟨I.ok.wish E,I.os,I.bare,I.base,I.loc,I.cell,I.free,I.freeC,I.pin,I.hok,I.len⟩
theorem Inv.unwish(I:Inv (X.wish E) AA σ H s):Inv X AA σ H s:=⟨I.ok.unwish,I.os,I.bare,I.base,I.loc,I.cell,I.free,I.freeC,I.pin,I.hok,I.len⟩
theorem SP.unwish{D:Ends}{f:Flow}{s':Shared}(h:SP (X.wish E) AA D f s'):SP X AA D f s':=by
 cases f with
 | next=>obtain⟨σ',H',I,q⟩:=h;exact⟨σ',H',I.unwish,q⟩
 | brk=>obtain⟨σ',H',I,q⟩:=h;exact⟨σ',H',I.unwish,q⟩
 | cont=>obtain⟨σ',H',I,q⟩:=h;exact⟨σ',H',I.unwish,q⟩
 | ret u=>obtain⟨v,σ',H',I,r,q⟩:=h;exact⟨v,σ',H',I.unwish,r,q⟩
theorem PE.nox{e:Expr}{t:TE}(h:PE X.nox e t):PE X e t:=λAA s σ H Q I hw =>
 wpAny_mono (h AA s σ H Q (I.wish _) hw) (λ_ _ ⟨v,H',I',r,q⟩=>⟨v,H',I'.unwish,r,q⟩) λ_ _ z=>False.elim z
theorem PT.nox{e:Expr}{t:TT}(h:PT X.nox e t):PT X e t:=λAA s σ H Q I hw =>
 wpAny_mono (h AA s σ H Q (I.wish _) hw) (λ_ _ ⟨H',I',q⟩=>⟨H',I'.unwish,q⟩) λ_ _ z=>False.elim z
theorem PSs.nox{st:List Stmt}{t:TS}(h:PSs X.nox st t):PSs X st t:=λAA s σ H D I hw =>
 wpAny_mono (h AA s σ H D (I.wish _) hw) (λ_ _ q=>q.unwish) λ_ _ z=>False.elim z
end
section
variable{X:Cx}{st:Stmt}{DZ:List Stmt}{t u:TS}{e:Expr}{te:TE}{pos:Pos}
def B8:TS:=λD σ H=>D.nx σ H
def AK(t u:TS):TS:=λD σ H=>t { D with nx:=u D } σ H
theorem CB:PSs X [] B8:=λ_ _ σ H _ I h=>wpAny_execs_nil ⟨σ,H,I,h⟩
theorem AN(h1:PS X st t)(h2:PSs X DZ u):PSs X (st::DZ) (AK t u):=by
 intro AA s σ H D I h
 refine wpAny_execs_cons (AR (h1 AA s σ H { D with nx:=u D } I h) λf s1 q=> ?_)
 cases f with
 | next =>
  obtain⟨σ',H',I',q⟩:=q
  exact h2 AA s1 σ' H' D I' q
 | ret v=>exact q
 | brk=>exact q
 | cont=>exact q
theorem AM(h1:PS X st t):PSs X [st] t:=by
 intro AA s σ H D I h
 refine wpAny_execs_cons (AR (h1 AA s σ H D I h) λf s1 q=> ?_)
 cases f with
 | next=>exact wpAny_execs_nil q
 | ret v=>exact q
 | brk=>exact q
 | cont=>exact q
def sV:TS:=λD σ H=>D.bk σ H
def sW:TS:=λD σ H=>D.ct σ H
theorem Inv.quiet{AA:List (Addr × Obj)}{σ:St}{H:Hp}{s:Shared}(I:Inv X AA σ H s):interactive X.env=false:=by simp[interactive,I.ok.kind]
def DH(te:TE):TS:=λD σ H=>te σ H λ_ H1=>D.nx σ H1
theorem DT(he:PE X e te)(hs:swapsWith e none pos.line X.env=pure false:=by rfl):PS X (.Expr e pos) (DH te):=by
 intro AA s σ H D I h
 exact wpAny_Expr_any (AR (he AA s σ H _ I h) λv s1 ⟨x,H1,I1,r1,q1⟩=>⟨σ,H1,I1,q1⟩) I.quiet hs
def A6(te:TE):TS:=λD σ H=>te σ H D.rt
theorem A8(he:PE X e te):PS X (.Return (some e) pos) (A6 te):=by
 intro AA s σ H D I h
 exact wpAny_Return_some (AR (he AA s σ H _ I h) λv s1 ⟨x,H1,I1,r1,q1⟩=>⟨x,σ,H1,I1,r1,q1⟩)
def sX:TS:=λD _ H=>D.rt .non H
def BQ(c:TT)(t u:TS):TS:=λD σ H=>c σ H λb H1=>if b=true then t D σ H1 else u D σ H1
theorem BV{c:Expr}{a b:List Stmt}{tc:TT}(hc:PT X c tc)(ha:PSs X a t)(hb:PSs X b u):PS X (.If c a b pos) (BQ tc t u):=by
 intro AA s σ H D I h
 refine wpAny_If (AR (hc AA s σ H _ I h) λd s1 hzz=> ?_)
 obtain⟨H1,I1,q1⟩:=hzz
 cases d with
 | true=>exact ha AA s1 σ H1 D I1 q1
 | false=>exact hb AA s1 σ H1 D I1 q1
end
abbrev TG:=V->St->Hp->(St->Hp->Prop)->Prop
abbrev IS:=List V->St->Hp->(St->Hp->Prop)->Prop
def PG(X:Cx)(target:Expr)(t:TG):Prop :=
 ∀ (AA:List (Addr × Obj)) (s:Shared) (σ:St) (H:Hp) (v:V) (u:Value) (Q:St->Hp->Prop),Inv X AA σ H s->RelV v u->t v σ H Q →
  wpAny (model X.prog X.w) X.A (assign target X.env u) (λ_ s'=>∃ σ' H',Inv X AA σ' H' s'/\Q σ' H') X.xe s
def OG(X:Cx)(ts:List Expr)(t:IS):Prop :=
 ∀ (AA:List (Addr × Obj)) (s:Shared) (σ:St) (H:Hp) (vs:List V) (us:List Value) (Q:St->Hp->Prop),Inv X AA σ H s->Vals vs us->t vs σ H Q →
  wpAny (model X.prog X.w) X.A (assignInOrder ((assignEach ts X.env).map (·.2)) us) (λ_ s'=>∃ σ' H',Inv X AA σ' H' s'/\Q σ' H') X.xe s
abbrev OH:=V->V->V->Hp->(Hp->Prop)->Prop
def R8(X:Cx)(t:OH):Prop :=
 ∀ (AA:List (Addr × Obj)) (s:Shared) (σ:St) (H:Hp) (o i v:V) (ov iv u:Value) (Q:Hp->Prop),Inv X AA σ H s->RelV o ov->RelV i iv->RelV v u->t o i v H Q →
  wpAny (model X.prog X.w) X.A (setItem ov iv u) (λ_ s'=>∃ H',Inv X AA σ H' s'/\Q H') X.xe s
abbrev OI:=V->V->Hp->VK->Prop
section
variable{X:Cx}{pos:Pos}
def AQ(i:Nat):TG:=λv σ H Q=>Q (σ.set i (some v)) H
theorem sY{i:Nat}{x:Str}(hN:X.N.Nodup)(hi:X.N[i]? =some x)(hx:KI X.env.scope x)(hf:X.fn x=true\/X.env.scope.names.lookup x=some .local:=by first | exact .inl rfl | exact .inr rfl | assumption):PG X (.Name x pos) (AQ i):=by
 intro AA s σ H v u Q I r h
 exact wpAny_assign_Name (OC I hN hi hx r (λs' I'=>⟨_,H,I',h⟩) hf)
def OJ:IS:=λvs σ H Q=>vs=[]/\Q σ H
def KK(t:TG)(u:IS):IS:=λvs σ H Q=>∃ v r,vs=v::r/\t v σ H λσ' H'=>u r σ' H' Q
theorem bR:OG X [] OJ:=by
 intro AA s σ H vs us Q I r h
 obtain⟨e,h⟩:=h
 subst e
 cases r
 exact assignInOrder_nil ⟨σ,H,I,h⟩
theorem OK{e:Expr}{es:List Expr}{t:TG}{u:IS}(h1:PG X e t)(h2:OG X es u)
  (hs:(assignEach (e::es) X.env).map (·.2)=assign e X.env::(assignEach es X.env).map (·.2):=by rfl):OG X (e::es) (KK t u):=by
 intro AA s σ H vs us Q I r h
 obtain⟨v,vr,e1,h⟩:=h
 subst e1
 cases r with
 | cons r rr =>
  rw[hs]
  refine assignInOrder_cons (AR (h1 AA s σ H _ _ _ I r h) λ_ s1 hzz=> ?_)
  obtain⟨σ1,H1,I1,q1⟩:=hzz
  exact h2 AA s1 σ1 H1 _ _ Q I1 rr q1
def OL(K:W.Frag)(n:Nat)(t:IS):TG:=λv σ H Q=>∃ a xs,v=.ref a/\SqT K H a xs/\xs.length=n/\t xs σ H Q
theorem bS{es:List Expr}{k:Nat}{t:IS}{n:Nat}(hc:X.calm=true)(h:OG X es t)
  (hn:(assignEach es X.env).length=n:=by rfl) (hst:(assignEach es X.env).findIdx? (·.1)=none:=by rfl):PG X (.Tuple es k pos) (OL X.K n t):=by
 intro AA s σ H v u Q I r hw
 obtain⟨a,xs,e1,hq,hl,hw⟩:=hw
 subst e1
 cases r
 obtain⟨its,rv,ht,hz⟩:=I.tuple hq
 refine assign_Tuple_tuple (I.ok.hd hc) ht (by simp[hn,<-hl,rv.length]) hst λh' hx=> ?_
 have I1:Inv X AA σ H { s with heap:=h' }:=I.kept (t':=s.toks) λb o e=>hx b o (Nat.ne_of_lt (Heap.lt_size e)) e
 exact h AA _ σ H xs _ Q I1 (by simpa using rv) hw
def OM(to ti:TE)(t:OH):TG:=λv σ H Q=>to σ H λo H1=>ti σ H1 λi H2=>t o i v H2 λH3=>Q σ H3
theorem bT{o i:Expr}{to ti:TE}{t:OH}(ho:PE X o to)(hi:PE X i ti)(hs:R8 X t)
  (ha:∀ v,assign (.Subscript o i pos) X.env v=(do
   let ov ← holding [v] (eval o X.env)
   let iv ← holding [v,ov] (eval i X.env)
   standAt pos
   holding [v,ov,iv] (setItem ov iv v)
   release [v,ov,iv] []):=by intro _;rfl):PG X (.Subscript o i pos) (OM to ti t):=by
 intro AA s σ H v u Q I r h
 rw[ha]
 refine wpAny_bind (wpAny_holding (AR (ho AA s σ H _ I h) λov s1 hzz=> ?_))
 obtain⟨x,H1,I1,r1,q1⟩:=hzz
 refine wpAny_bind (wpAny_holding (AR (hi AA s1 σ H1 _ I1 q1) λiv s2 hzz=> ?_))
 obtain⟨y,H2,I2,r2,q2⟩:=hzz
 refine wpAny_bind (wpAny_standAt (wpAny_bind (wpAny_holding (AR (hs AA s2 σ H2 x y v ov iv u _ I2 r1 r2 r q2) λ_ s3 hzz=> ?_))))
 obtain⟨H3,I3,q3⟩:=hzz
 exact wpAny_release ⟨σ,H3,I3,q3⟩
def A5(te:TE)(g:TG):TS:=λD σ H=>te σ H λx H1=>g x σ H1 D.nx
theorem bU{tg e:Expr}{te:TE}{g:TG}(he:PE X e te)(hg:PG X tg g)(hs:swapsWithSole [tg] e pos.line X.env=pure false:=by rfl)(hw:swappedStores [tg] e X.env=pure none:=by rfl)
  (h1:(assignEach [tg] X.env).map (·.2)=[assign tg X.env]:=by rfl):PS X (.Assign [tg] e pos) (A5 te g):=by
 intro AA s σ H D I h
 refine wpAny_Assign_stores (AR (he AA s σ H _ I h) λv s1 hzz=> ?_) hs hw
 obtain⟨x,H1,I1,r1,q1⟩:=hzz
 rw[h1]
 exact AR (hg AA s1 σ H1 x v _ I1 r1 q1) λ_ s2 q=>q
theorem sZ{i:Nat}{x:Str}{e:Expr}{te:TE}{pos':Pos}(hN:X.N.Nodup)(hi:X.N[i]? =some x)(hx:KI X.env.scope x)(he:PE X e te)(hs:swapsWith e (some (.Name x pos')) pos.line X.env=pure false:=by rfl)(hf:X.fn x=true\/X.env.scope.names.lookup x=some .local:=by first | exact .inl rfl | exact .inr rfl | assumption) :
  PS X (.Assign [.Name x pos'] e pos) (A5 te (AQ i)):=by
 intro AA s σ H D I h
 refine wpAny_Assign_Name (AR (he AA s σ H _ I h) λv s1 hzz=> ?_) hs
 obtain⟨y,H1,I1,r1,q1⟩:=hzz
 exact OC I1 hN hi hx r1 (λs2 I2=>⟨_,H1,I2,q1⟩) hf
def tD(i:Nat)(te:TE)(ti:OI):TS:=λD σ H=>∃ x,σ[i]? =some (some x)/\te σ H λy H1=>ti x y H1 λz H2=>D.nx (σ.set i (some z)) H2
def R9(f:Int->Int->Int):OI:=λx y H Q=>∃ i j,x=.int i/\y=.int j/\Q (.int (f i j)) H
end
section
variable{X:Cx}{pos:Pos}
end
structure It where
 go:Nat->Hp->Prop
 yld:Nat->Hp->V->Hp->Prop
 stop:Nat->Hp->Prop
def FpOk(X:Cx)(AA:List (Addr × Obj))(H:Hp)(b:Addr):Prop :=
 H b=none/\b≠X.env.locals/\b∉X.fs/\(b∈X.ex\/X.s₀.heap.objs.size<=b)/\(∀ x c,X.env.cells.lookup x=some c->c≠b)/\∀ p∈X.pn++AA,p.1≠b
theorem Inv.fpOk{X:Cx}{AA:List (Addr × Obj)}{σ:St}{H H':Hp}{s:Shared}{b:Addr}(I:Inv X AA σ H s)(hb:s.heap.objs.size<=b)(hn:H' b=none):FpOk X AA H' b:=by
 refine⟨hn,Nat.ne_of_gt (Nat.lt_of_lt_of_le I.lt hb),I.nofs hb,.inr (Nat.le_trans I.sz hb),λx c e z=> ?_,λp hp z=> ?_⟩
 ·obtain⟨v,q⟩:=I.cell x c e
  exact absurd (Nat.lt_of_lt_of_le q.lt (by rw[z];exact hb)) (Nat.lt_irrefl _)
 ·exact absurd (Nat.lt_of_lt_of_le (Heap.lt_size (I.pin p hp).1) (by rw[z];exact hb)) (Nat.lt_irrefl _)
structure JO(P:Program)(w:World)(K:W.Frag)(tg:Expr)(J:It)(fp:List Addr)(it:Addr)(tn:Nat->Heap->Prop):Prop where
 mem:it∈fp
 obj:∀ i h,tn i h->∀ b∈fp,∃ o,h.get? b=some o/\∀ v,o.data≠.cell v
 keep:∀ i h h',tn i h->(∀ b∈fp,∀ o,h.get? b=some o->h'.get? b=some o)->tn i h'
 item:∀ (X:Cx),X.prog=P->X.w=w->X.K=K->X.calm=true->∀ (i:Nat) (AA:List (Addr × Obj)) (s:Shared) (σ:St) (H:Hp) (E:Value->Shared->Prop),Inv X AA σ H s->(∀ b∈fp,FpOk X AA H b)->tn i s.heap->J.go i H →
  wpAny (model P w) X.A (pyNext (.ref it)) (λr s1=>∃ u,r=some u ∧
   wpAny (model P w) X.A (letOwnedTupleGo tg (.ref it) u) (λ_ s2=>∃ x H',Inv X AA σ H' s2/\RelV x u/\J.yld i H x H'/\tn (i+1) s2.heap/\∀ b∈fp,H' b=none) E s1) E s
 done:∀ (X:Cx),X.prog=P->X.w=w->X.K=K->X.calm=true->∀ (i:Nat) (AA:List (Addr × Obj)) (s:Shared) (σ:St) (H:Hp) (E:Value->Shared->Prop),Inv X AA σ H s->(∀ b∈fp,FpOk X AA H b)->tn i s.heap->J.stop i H →
  wpAny (model P w) X.A (pyNext (.ref it)) (λr s1=>r=none/\Inv X AA σ H s1) E s
 self:∀ (A:Around) (i:Nat) (s:Shared) (Q:Value->Shared->Prop) (E:Value->Shared->Prop),tn i s.heap->Q (.ref it) s->wpAny (model P w) A (pyIter (.ref it)) Q E s
abbrev TI:=St->Hp->(It->Hp->Prop)->Prop
def bV(X:Cx)(AA:List (Addr × Obj))(σ:St)(tg:Expr)(R:It->Hp->Prop)(itv:Value)(s2:Shared):Prop :=
 ∃ (it:Addr) (fp:List Addr) (tn:Nat->Heap->Prop) (J:It) (H':Hp),itv=.ref it/\Inv X AA σ H' s2/\JO X.prog X.w X.K tg J fp it tn/\tn 0 s2.heap/\(∀ b∈fp,FpOk X AA H' b)/\R J H'
def PI(X:Cx)(tg iter:Expr)(wi:TI):Prop :=
 ∀ (AA:List (Addr × Obj)) (s:Shared) (σ:St) (H:Hp) (R:It->Hp->Prop),Inv X AA σ H s->wi σ H R →
  wpAny (model X.prog X.w) X.A (eval iter X.env) (λv s1=>wpAny (model X.prog X.w) X.A (pyIter v) (bV X AA σ tg R) X.xe s1) X.xe s
theorem ON{M:Model}{A:Around}{E:Value->Shared->Prop}{s:Shared}{tg:Expr}{it:Addr}{u:Value}{o:Obj}{n:String}{vs:Array Value}{Q:Unit->Shared->Prop}(ho:s.heap.get? it=some o)(hc:o.cls=.type n)(hd:o.data=.fields vs)
    (hn:["enumerate","zip","dict_itemiterator","dict_reverseitemiterator","odict_iterator","itertools.zip_longest","itertools.pairwise"].contains n=false) (hQ:Q () s):wpAny M A (letOwnedTupleGo tg (.ref it) u) Q E s:=by
  unfold letOwnedTupleGo
  cases tg<;>first
    | exact wpAny_pure hQ
    | (cases u<;>first
        | exact wpAny_pure hQ
        | (refine wpAny_bind (wpAny_load ho ?_)
           rw[hc,hd]
           show wpAny M A (if(["enumerate","zip","dict_itemiterator","dict_reverseitemiterator","odict_iterator","itertools.zip_longest","itertools.pairwise"].contains n && vs[0]? == some (rawInt _))=true then _ else _) Q E s
           rw[if_neg (by intro h;rw[hn,Bool.false_and]at h;cases h)]
           exact wpAny_pure hQ))
def HA(K:W.Frag)(a:Addr):It :=
 ⟨λi H=>∃ xs x,SqL K H a xs/\xs[i]? =some x,λi H x H'=>H'=H/\∀ xs,SqL K H a xs->xs[i]? =some x,λi H=>∃ xs,SqL K H a xs/\xs.length<=i⟩
def H0(K:W.Frag)(a:Addr):It :=
 ⟨λi H=>∃ xs x,SqT K H a xs/\xs[i]? =some x,λi H x H'=>H'=H/\∀ xs,SqT K H a xs->xs[i]? =some x,λi H=>∃ xs,SqT K H a xs/\xs.length<=i⟩
def E7(lo:Int)(n:Nat):It:=⟨λi _=>i<n,λi H x H'=>H'=H/\x=.int (lo+i),λi _=>n<=i⟩
theorem tE{P:Program}{w:World}{K:W.Frag}{tg:Expr}(a it:Addr):JO P w K tg (HA K a) [it] it (λi h=>h.IsListIter it a i) where
 mem:=by simp
 obj:=λi h st b hb=>by
  have e:b=it:=by simpa using hb
  subst e
  obtain⟨o,e,c,d⟩:=st
  exact⟨o,e,λv z=>by rw[d]at z;cases z⟩
 keep:=λi h h' st k=>st.at λo e=>k it (by simp) o e
 item:=by
  intro X hP hw hK hc i AA s σ H E I hf st hg
  subst hP hw hK
  obtain⟨xs,x,hq,hx⟩:=hg
  obtain⟨its,rv,p,hz⟩:=I.list hq
  obtain⟨u,hu,ru⟩:=rv.get hx
  obtain⟨f0,f1,f2,f3,f4,f5⟩:=hf it (by simp)
  refine wpAny_pyNext_list_item st p.isList (x:=u) (by simpa using hu) λh' st' sb=> ?_
  have I1:Inv X AA σ H { s with heap:=h' }:=I.turned (t':=s.toks) (λb o hb e=>(sb.2 b hb).trans e) f0 f1 f3 f4 f5
  obtain⟨o,e,c,d⟩:=id st'
  exact⟨u,rfl,ON (s:={ s with heap:=h' }) e c d (by decide) ⟨x,H,I1,ru,⟨rfl,λys hy=>by rw[I.list_inj hy hq];exact hx⟩,st',λb hb=>(hf b hb).1⟩⟩
 done:=by
  intro X hP hw hK hc i AA s σ H E I hf st hg
  subst hP hw hK
  obtain⟨xs,hq,hx⟩:=hg
  obtain⟨its,rv,p,hz⟩:=I.list hq
  obtain⟨f0,f1,f2,f3,f4,f5⟩:=hf it (by simp)
  have hl:=rv.length
  exact wpAny_pyNext_list_end (I.ok.hd hc) st p.isList (by simp;omega) λh' eb=>⟨rfl,I.turned (t':=s.toks) (λb o hb e=>eb b o hb e) f0 f1 f3 f4 f5⟩
 self:=λ_ _ _ _ _ st h=>wpAny_pyIter_listiter st h
theorem tF{P:Program}{w:World}{K:W.Frag}{tg:Expr}(a it:Addr):JO P w K tg (H0 K a) [it] it (λi h=>h.IsTupleIter it a i) where
 mem:=by simp
 obj:=λi h st b hb=>by
  have e:b=it:=by simpa using hb
  subst e
  obtain⟨o,e,c,d⟩:=st
  exact⟨o,e,λv z=>by rw[d]at z;cases z⟩
 keep:=λi h h' st k=>st.at λo e=>k it (by simp) o e
 item:=by
  intro X hP hw hK hc i AA s σ H E I hf st hg
  subst hP hw hK
  obtain⟨xs,x,hq,hx⟩:=hg
  obtain⟨its,rv,p,hz⟩:=I.tuple hq
  obtain⟨u,hu,ru⟩:=rv.get hx
  obtain⟨f0,f1,f2,f3,f4,f5⟩:=hf it (by simp)
  refine wpAny_pyNext_tuple_item st (show s.heap.IsTuple a its.toArray from p) (x:=u) (by simpa using hu) λh' st' sb=> ?_
  have I1:Inv X AA σ H { s with heap:=h' }:=I.turned (t':=s.toks) (λb o hb e=>(sb.2 b hb).trans e) f0 f1 f3 f4 f5
  obtain⟨o,e,c,d⟩:=id st'
  exact⟨u,rfl,ON (s:={ s with heap:=h' }) e c d (by decide) ⟨x,H,I1,ru,⟨rfl,λys hy=>by rw[I.tuple_inj hy hq];exact hx⟩,st',λb hb=>(hf b hb).1⟩⟩
 done:=by
  intro X hP hw hK hc i AA s σ H E I hf st hg
  subst hP hw hK
  obtain⟨xs,hq,hx⟩:=hg
  obtain⟨its,rv,p,hz⟩:=I.tuple hq
  obtain⟨f0,f1,f2,f3,f4,f5⟩:=hf it (by simp)
  have hl:=rv.length
  exact wpAny_pyNext_tuple_end (I.ok.hd hc) st (show s.heap.IsTuple a its.toArray from p) (by simp;omega) λh' eb=>⟨rfl,I.turned (t':=s.toks) (λb o hb e=>eb b o hb e) f0 f1 f3 f4 f5⟩
 self:=λ_ _ _ _ _ st h=>wpAny_pyIter_tupleiter st h
theorem tG{P:Program}{w:World}{K:PySem.W.Frag}{tg:Expr}(it:Addr)(lo:Int)(n:Nat):JO P w K tg (E7 lo n) [it] it (λi h=>IsRangeIter h it (lo+(i:Nat) * 1) ((n:Int) - (i:Nat)) 1) where
 mem:=by simp
 obj:=λi h st b hb=>by
  have e:b=it:=by simpa using hb
  subst e
  exact⟨_,st,λv z=>by
   have z':Data.fields _=Data.cell v:=z
   cases z'⟩
 keep:=λi h h' st k=>k it (by simp) _ st
 item:=by
  intro X hP hw hK hc i AA s σ H E I hf st hg
  subst hP hw hK
  obtain⟨f0,f1,f2,f3,f4,f5⟩:=hf it (by simp)
  have W:=Walks.range (prog:=X.prog) (w:=X.w) (I.ok.hd hc) it lo 1 n
  refine W.item i s _ _ hg st λv h' tk hv st' kk=> ?_
  obtain⟨t,rfl⟩:=hv
  have I1:Inv X AA σ H { s with heap:=h',toks:=tk }:=I.turned (λb o hb e=>kk b o (by simpa using hb) e) f0 f1 f3 f4 f5
  refine⟨_,rfl,ON (s:={ s with heap:=h',toks:=tk }) (n:="range_iterator") st' rfl rfl (by decide) ⟨.int (lo+i),H,I1,⟨t,?_⟩,⟨rfl,rfl⟩,st',λb hb=>(hf b hb).1⟩⟩
  rw[Int.mul_one]
 done:=by
  intro X hP hw hK hc i AA s σ H E I hf st hg
  subst hP hw hK
  obtain⟨f0,f1,f2,f3,f4,f5⟩:=hf it (by simp)
  exact wpAny_pyNext_range_end (I.ok.hd hc) st (by have:n<=i:=hg;omega) λh' eb=>⟨rfl,I.turned (t':=s.toks) (λb o hb e=>eb b o hb e) f0 f1 f3 f4 f5⟩
 self:=λ_ _ _ _ _ st h=>wpAny_pyIter_rangeiter st h
end L2
namespace L2
section
variable{X:Cx}{tg:Expr}
theorem tH{AA:List (Addr × Obj)}{σ:St}{H:Hp}{s:Shared}{R:It->Hp->Prop}{E:Value->Shared->Prop}{lo hi:Int}{t u v:Tok}{tk:Nat}(I:Inv X AA σ H s)(h1: -(2 ^ 62)<=lo)(h2:lo<2 ^ 62)(h3: -(2 ^ 62)<=hi)(h4:hi<2 ^ 62)
  (q:R (E7 lo (hi - lo).toNat) H):wpAny (model X.prog X.w) X.A (pyIter (.ref s.heap.objs.size)) (bV X AA σ tg R) E { s with heap:=s.heap.push { cls:=.type "range",data:=.fields #[.int lo t,.int hi u,.int 1 v] },toks:=tk }:=by
 refine wpAny_pyIter_range (IsRange.new ..) (small_one h1 h2 h3 h4) ?_
 have I1:Inv X AA σ H { s with heap:=s.heap.push { cls:=.type "range",data:=.fields #[.int lo t,.int hi u,.int 1 v] },toks:=tk }:=I.kept λb o e=>Heap.get?_push_of_some _ e
 refine⟨(s.heap.push { cls:=.type "range",data:=.fields #[.int lo t,.int hi u,.int 1 v] }).objs.size,[(s.heap.push { cls:=.type "range",data:=.fields #[.int lo t,.int hi u,.int 1 v] }).objs.size],_,_,H,rfl,
  I1.kept (t':=tk) λb o e=>Heap.get?_push_of_some _ e,tG _ lo (hi - lo).toNat,?_,λb hb=> ?_,q⟩
 ·have e1:lo+((0:Nat):Int) * 1=lo:=by simp
  have e2:(((hi - lo).toNat:Nat):Int) - ((0:Nat):Int)=Builtin.Range.rangeSize lo hi 1:=by rw[rangeSize_one];split<;>omega
  show IsRangeIter _ _ (lo+((0:Nat):Int) * 1) ((((hi - lo).toNat:Nat):Int) - ((0:Nat):Int)) 1
  rw[e1,e2]
  exact Heap.get?_push_size _ rfl
 ·have e:b=(s.heap.push { cls:=.type "range",data:=.fields #[.int lo t,.int hi u,.int 1 v] }).objs.size:=by simpa using hb
  subst e
  exact I1.fpOk (Nat.le_refl _) (I1.hok.fresh (Nat.le_refl _))
def F7(ta:TA):TI:=λσ H R=>ta σ H λvs H1=>∃ j:Int,vs=[.int j]/\ -(2 ^ 62)<=j/\j<2 ^ 62/\R (E7 0 j.toNat) H1
def bW(ta:TA):TI:=λσ H R=>ta σ H λvs H1=>∃ i j:Int,vs=[.int i,.int j]/\(-(2 ^ 62)<=i/\i<2 ^ 62/\ -(2 ^ 62)<=j/\j<2 ^ 62)/\R (E7 i (j - i).toNat) H1
theorem IA{a:Expr}{ta:TA}{p pos:Pos}(hg:Gl X "range")(hm:X.mg "range"=none)(ha:PA X [a] ta)(hs:starEach [a] X.env=[(false,eval a X.env)]:=by rfl):PI X tg (.Call (.Name "range" p) [a] [] pos) (F7 ta):=by
 intro AA s σ H R I h
 refine Call_ (MC I hg hm boot_range (PyProof.Rows.callWith_type1 (AR (ha pos AA s σ H _ I h) λus s1 hzz=> ?_) hs rfl))
 obtain⟨vs,H1,I1,r1,q1⟩:=hzz
 obtain⟨j,e,q1,q2,q⟩:=q1
 subst e
 cases r1 with
 | cons r rr =>
  cases rr
  obtain⟨t,rfl⟩:=r
  exact call_range_1 (tH I1 (by omega) (by omega) q1 q2 (by simpa using q))
def EI(wi:TI)(g:TG)(tb:TS):TS:=λD σ H=>wi σ H λJ H1=>∃ W:Nat->Nat->St->Hp->Prop,(∃ m,W 0 m σ H1)/\∀ i m σ H,W i m σ H →
 (J.stop i H/\D.nx σ H)\/(J.go i H/\∃ N:St->Hp->Prop,(∀ σ' H',N σ' H'->∃ m',m'<m/\W (i+1) m' σ' H')/\∀ x H',J.yld i H x H'->g x σ H' λσ2 H2=>tb { D with nx:=N,ct:=N,bk:=D.nx } σ2 H2)
def MG(fp:List Addr)(h:Heap):List (Addr × Obj):=fp.filterMap λb=>(h.get? b).map λo=>(b,o)
theorem OO{fp:List Addr}{h:Heap}{b:Addr}{o:Obj}(hb:b∈fp)(e:h.get? b=some o):(b,o)∈MG fp h:=List.mem_filterMap.mpr ⟨b,hb,by rw[e];rfl⟩
theorem tI{fp:List Addr}{h:Heap}{p:Addr × Obj}(hp:p∈MG fp h):p.1∈fp/\h.get? p.1=some p.2:=by
 obtain⟨b,hb,e⟩:=List.mem_filterMap.mp hp
 cases q:h.get? b with
 | none=>rw[q]at e;cases e
 | some o =>
  rw[q]at e
  have e':(b,o)=p:=Option.some.inj e
  subst e'
  exact⟨hb,q⟩
theorem Inv.pinned{AA:List (Addr × Obj)}{σ:St}{H:Hp}{s:Shared}{fp:List Addr}(I:Inv X AA σ H s)(hf:∀ b∈fp,FpOk X AA H b)(ho:∀ b∈fp,∃ o,s.heap.get? b=some o/\∀ v,o.data≠.cell v):Inv X (AA++MG fp s.heap) σ H s :=
 I.pins_of λp hp=>(List.mem_append.mp hp).elim (λz=>I.pin p (List.mem_append_right _ z)) λz=>by
  obtain⟨hb,e⟩:=tI z
  obtain⟨f0,f1,f2,_⟩:=hf p.1 hb
  obtain⟨o,e',d⟩:=ho p.1 hb
  rw[e]at e';cases e'
  exact⟨e,f0,f1,f2,d⟩
theorem Inv.unpinned{AA pl:List (Addr × Obj)}{σ:St}{H:Hp}{s:Shared}(I:Inv X (AA++pl) σ H s):Inv X AA σ H s:=I.pins_of λp hp=>I.pin p (List.mem_append_right _ (List.mem_append_left _ hp))
theorem GT{iter:Expr}{body:List Stmt}{wi:TI}{g:TG}{tb:TS}{pos:Pos}(hp:PassesOwn (model X.prog X.w) X.A X.env X.xe)(hc:X.calm=true)(hi:PI X tg iter wi)(hg:PG X tg g)(hb:PSs X body tb)
  (hs:∀ x,foldedSetIterable iter X.env x=pure x:=by intro _;rfl):PS X (.For tg iter body [] pos) (EI wi g tb):=by
 intro AA s σ H D I h
 refine wpAny_For (AR (hi AA s σ H _ I h) λv s1 h1=>AR h1 λitv s2 h2=> ?_) hs
 obtain⟨it,fp,tn,J,H2,e,I2,T,st2,f2,W,⟨m0,w0⟩,turn⟩:=h2
 subst e
 have stat:∀ {H':Hp},(∀ b∈fp,H' b=none)->∀ b∈fp,FpOk X AA H' b:=λhn b hb=>⟨hn b hb,(f2 b hb).2⟩
 refine codeAny_forLoop_any (λn s'=>∃ i σ' H',Inv X AA σ' H' s'/\tn i s'.heap/\(∀ b∈fp,H' b=none)/\W i n σ' H') ?_ m0 ⟨0,σ,H2,I2,st2,λb hb=>(f2 b hb).1,w0⟩
 rintro n s3 ⟨i,σ3,H3,I3,st3,fr3,w3⟩
 rcases turn i n σ3 H3 w3 with⟨stop,qn⟩ | ⟨go,N,hN,step⟩
 ·refine wpAny_passesOwn hp (AR (T.done X rfl rfl rfl hc i AA s3 σ3 H3 X.xe I3 (stat fr3) st3 stop) λr s4 ⟨hr,I4⟩=> ?_)
  subst hr
  exact wpAny_execs_nil ⟨σ3,H3,I4,qn⟩
 ·refine wpAny_passesOwn hp (AR (T.item X rfl rfl rfl hc i AA s3 σ3 H3 X.xe I3 (stat fr3) st3 go) λr s4 hzz=> ?_)
  obtain⟨u,hr,h4⟩:=hzz
  subst hr
  refine wpAny_passesOwn hp (AR h4 λ_ s5 hzz=> ?_)
  obtain⟨x,H5,I5,r5,y5,st5,fr5⟩:=hzz
  have I5':=I5.pinned (stat fr5) (T.obj _ _ st5)
  refine wpAny_passesOwn hp (AR (hg _ s5 σ3 H5 x u _ I5' r5 (step x H5 y5)) λ_ s6 hzz=> ?_)
  obtain⟨σ6,H6,I6,q6⟩:=hzz
  refine wpAny_passesOwn hp (AR (hb _ s6 σ6 H6 _ I6 q6) λf s7 q7=> ?_)
  have again:∀ {σ7:St} {H7:Hp},Inv X (AA++MG fp s5.heap) σ7 H7 s7->N σ7 H7->∃ m,m<n/\∃ i σ' H',Inv X AA σ' H' s7/\tn i s7.heap/\(∀ b∈fp,H' b=none)/\W i m σ' H':=λ{σ7 H7} I7 n7=>by
   obtain⟨m',hm,w7⟩:=hN σ7 H7 n7
   refine⟨m',hm,i+1,σ7,H7,I7.unpinned,T.keep _ _ _ st5 λb hb o e=>(I7.pin (b,o) (List.mem_append_right _ (List.mem_append_right _ (OO hb e)))).1,λb hb=> ?_,w7⟩
   obtain⟨o,e,d⟩:=T.obj _ _ st5 b hb
   exact(I7.pin (b,o) (List.mem_append_right _ (List.mem_append_right _ (OO hb e)))).2.1
  cases f with
  | next=>obtain⟨σ7,H7,I7,n7⟩:=q7;exact again I7 n7
  | cont=>obtain⟨σ7,H7,I7,n7⟩:=q7;exact again I7 n7
  | brk=>obtain⟨σ7,H7,I7,q7⟩:=q7;exact⟨σ7,H7,I7.unpinned,q7⟩
  | ret v=>obtain⟨x7,σ7,H7,I7,r7,q7⟩:=q7;exact⟨x7,σ7,H7,I7.unpinned,r7,q7⟩
end
theorem tJ{K:PySem.W.Frag}{a:Addr}{xs:List V}{g:TG}{tb:TS}{D:Ends}{σ:St}{H:Hp}(Pv:Nat->St->Hp->Prop)(h0:Pv 0 σ H)(hl:∀ i σ H,i<=xs.length->Pv i σ H->SqL K H a xs)
  (hs:∀ i x σ H,xs[i]? =some x->Pv i σ H->g x σ H λσ2 H2=>tb { D with nx:=Pv (i+1),ct:=Pv (i+1),bk:=D.nx } σ2 H2) (hd:∀ σ H,Pv xs.length σ H->D.nx σ H) :
  ∃ W:Nat->Nat->St->Hp->Prop,(∃ m,W 0 m σ H)/\∀ i m σ H,W i m σ H →
   ((HA K a).stop i H/\D.nx σ H)\/((HA K a).go i H/\∃ N:St->Hp->Prop,(∀ σ' H',N σ' H'->∃ m',m'<m/\W (i+1) m' σ' H')/\∀ x H',(HA K a).yld i H x H'->g x σ H' λσ2 H2=>tb { D with nx:=N,ct:=N,bk:=D.nx } σ2 H2):=by
 refine⟨λi m σ H=>m=xs.length - i/\i<=xs.length/\Pv i σ H,⟨xs.length,by simp,Nat.zero_le _,h0⟩,?_⟩
 rintro i m σ H ⟨rfl,hi,p⟩
 have q:=hl i σ H hi p
 by_cases BD:i<xs.length
 ·refine .inr ⟨⟨xs,xs[i],q,by simp[BD]⟩,Pv (i+1),λσ' H' p'=>⟨xs.length - (i+1),by omega,rfl,BD,p'⟩,λx H' y=> ?_⟩
  obtain⟨e,y⟩:=y
  subst e
  exact hs i x σ _ (y xs q) p
 ·have e:i=xs.length:=by omega
  subst e
  exact .inl ⟨⟨xs,q,Nat.le_refl _⟩,hd σ H p⟩
theorem tK{K:PySem.W.Frag}{a:Addr}{xs:List V}{g:TG}{tb:TS}{D:Ends}{σ:St}{H:Hp}(Pv:Nat->St->Hp->Prop)(h0:Pv 0 σ H)(hl:∀ i σ H,i<=xs.length->Pv i σ H->SqT K H a xs)
  (hs:∀ i x σ H,xs[i]? =some x->Pv i σ H->g x σ H λσ2 H2=>tb { D with nx:=Pv (i+1),ct:=Pv (i+1),bk:=D.nx } σ2 H2) (hd:∀ σ H,Pv xs.length σ H->D.nx σ H) :
  ∃ W:Nat->Nat->St->Hp->Prop,(∃ m,W 0 m σ H)/\∀ i m σ H,W i m σ H →
   ((H0 K a).stop i H/\D.nx σ H)\/((H0 K a).go i H/\∃ N:St->Hp->Prop,(∀ σ' H',N σ' H'->∃ m',m'<m/\W (i+1) m' σ' H')/\∀ x H',(H0 K a).yld i H x H'->g x σ H' λσ2 H2=>tb { D with nx:=N,ct:=N,bk:=D.nx } σ2 H2):=by
 refine⟨λi m σ H=>m=xs.length - i/\i<=xs.length/\Pv i σ H,⟨xs.length,by simp,Nat.zero_le _,h0⟩,?_⟩
 rintro i m σ H ⟨rfl,hi,p⟩
 have q:=hl i σ H hi p
 by_cases BD:i<xs.length
 ·refine .inr ⟨⟨xs,xs[i],q,by simp[BD]⟩,Pv (i+1),λσ' H' p'=>⟨xs.length - (i+1),by omega,rfl,BD,p'⟩,λx H' y=> ?_⟩
  obtain⟨e,y⟩:=y
  subst e
  exact hs i x σ _ (y xs q) p
 ·have e:i=xs.length:=by omega
  subst e
  exact .inl ⟨⟨xs,q,Nat.le_refl _⟩,hd σ H p⟩
theorem tL{lo:Int}{n:Nat}{g:TG}{tb:TS}{D:Ends}{σ:St}{H:Hp}(Pv:Nat->St->Hp->Prop)(h0:Pv 0 σ H)
  (hs:∀ i σ H,i<n->Pv i σ H->g (.int (lo+i)) σ H λσ2 H2=>tb { D with nx:=Pv (i+1),ct:=Pv (i+1),bk:=D.nx } σ2 H2) (hd:∀ σ H,Pv n σ H->D.nx σ H) :
  ∃ W:Nat->Nat->St->Hp->Prop,(∃ m,W 0 m σ H)/\∀ i m σ H,W i m σ H →
   ((E7 lo n).stop i H/\D.nx σ H)\/((E7 lo n).go i H/\∃ N:St->Hp->Prop,(∀ σ' H',N σ' H'->∃ m',m'<m/\W (i+1) m' σ' H')/\∀ x H',(E7 lo n).yld i H x H'->g x σ H' λσ2 H2=>tb { D with nx:=N,ct:=N,bk:=D.nx } σ2 H2):=by
 refine⟨λi m σ H=>m=n - i/\i<=n/\Pv i σ H,⟨n,by simp,Nat.zero_le _,h0⟩,?_⟩
 rintro i m σ H ⟨rfl,hi,p⟩
 by_cases BD:i<n
 ·refine .inr ⟨BD,Pv (i+1),λσ' H' p'=>⟨n - (i+1),by omega,rfl,BD,p'⟩,λx H' y=> ?_⟩
  obtain⟨e,y⟩:=y
  subst e y
  exact hs i σ _ BD p
 ·have e:i=n:=by omega
  subst e
  exact .inl ⟨Nat.le_refl _,hd σ H p⟩
end L2
namespace L2
abbrev R2:=V->V->Hp->VK->Prop
def OpR(X:Cx)(f:Value->Value->Sem Value)(r:R2):Prop :=
 ∀ (AA:List (Addr × Obj)) (s:Shared) (σ:St) (H:Hp) (x y:V) (v u:Value) (Q:VK),Inv X AA σ H s->RelV x v->RelV y u->r x y H Q →
  wpAny (model X.prog X.w) X.A (f v u) (EP X AA σ Q) X.xe s
def SB(X:Cx)(f:Value->Sem Value)(r:V->Hp->VK->Prop):Prop :=
 ∀ (AA:List (Addr × Obj)) (s:Shared) (σ:St) (H:Hp) (x:V) (v:Value) (Q:VK),Inv X AA σ H s->RelV x v->r x H Q →
  wpAny (model X.prog X.w) X.A (f v) (EP X AA σ Q) X.xe s
def CallR(X:Cx)(f:Value)(r:List V->Hp->VK->Prop):Prop :=
 ∀ (AA:List (Addr × Obj)) (s:Shared) (σ:St) (H:Hp) (xs:List V) (us:List Value) (Q:VK),Inv X AA σ H s->Vals xs us->r xs H Q →
  wpAny (model X.prog X.w) X.A (call f us) (EP X AA σ Q) X.xe s
def tM(X:Cx)(r:V->Hp->(Bool->Hp->Prop)->Prop):Prop :=
 ∀ (AA:List (Addr × Obj)) (s:Shared) (σ:St) (H:Hp) (x:V) (v:Value) (Q:Bool->Hp->Prop),Inv X AA σ H s->RelV x v->r x H Q →
  wpAny (model X.prog X.w) X.A (truthy v) (TP X AA σ Q) X.xe s
def AF(r:R2)(ta tb:TE):TE:=λσ H Q=>ta σ H λx H1=>tb σ H1 λy H2=>r x y H2 Q
def OP(r:V->Hp->VK->Prop)(ta:TE):TE:=λσ H Q=>ta σ H λx H1=>r x H1 Q
def rI(C:Int->Int->Prop)(g:Int->Int->V):R2:=λx y H Q=>∃ i j,x=.int i/\y=.int j/\C i j/\Q (g i j) H
def HB(g:Int->Int->V):R2:=λx y H Q=>∃ i j,x=.int i/\y=.int j/\Q (g i j) H
def rU(g:Int->V):V->Hp->VK->Prop:=λx H Q=>∃ i,x=.int i/\Q (g i) H
section
variable{X:Cx}{a b c:Expr}{ta tb tc:TE}{pos:Pos}
theorem SC(ha:PE X a ta)(hb:PE X b tb){AA:List (Addr × Obj)}{s:Shared}{σ:St}{H:Hp}{R:V->V->Hp->Prop}(I:Inv X AA σ H s)
  (h:ta σ H λx H1=>tb σ H1 λy H2=>R x y H2) {Q:Value->Shared->Prop} {f:Value->Value->Sem Value}
  (hf:∀ v u s2 x y H2,Inv X AA σ H2 s2->RelV x v->RelV y u->R x y H2->wpAny (model X.prog X.w) X.A (f v u) Q X.xe s2) :
  wpAny (model X.prog X.w) X.A (eval a X.env) (λv s₁=>wpAny (model X.prog X.w) X.A (eval b X.env) (λu s₂=>wpAny (model X.prog X.w) X.A (f v u) Q X.xe s₂) X.xe s₁) X.xe s:=by
 refine AR (ha AA s σ H _ I h) λv s1 hzz=> ?_
 obtain⟨x,H1,I1,r1,q1⟩:=hzz
 refine AR (hb AA s1 σ H1 _ I1 q1) λu s2 hzz=> ?_
 obtain⟨y,H2,I2,r2,q2⟩:=hzz
 exact hf v u s2 x y H2 I2 r1 r2 q2
theorem AU{op:Operator}{r:R2}(ho:OpR X (binaryOp op) r)(ha:PE X a ta)(hb:PE X b tb):PE X (.BinOp a op b pos) (AF r ta tb):=by
 intro AA s σ H Q I h
 exact wpAny_BinOp (SC ha hb I h λv u s2 x y H2 I2 rx ry q=>ho AA s2 σ H2 x y v u Q I2 rx ry q)
theorem bX{op:UnaryOp}{r:V->Hp->VK->Prop}(ho:SB X (unaryOp op) r)(ha:PE X a ta):PE X (.UnaryOp op a pos) (OP r ta):=by
 intro AA s σ H Q I h
 exact UnaryOp_ (AR (ha AA s σ H _ I h) λv s1 ⟨x,H1,I1,r1,q1⟩=>ho AA s1 σ H1 x v Q I1 r1 q1)
theorem SD{f:Value->Value->Sem Value}{C:Int->Int->Prop}{g:Int->Int->Int}
  (rule:∀ (i j:Int) (t u:Tok) (s:Shared) (Q:Value->Shared->Prop) (E:Value->Shared->Prop),C i j->Q (.int (g i j) s.toks) { s with toks:=s.toks+1 }->wpAny (model X.prog X.w) X.A (f (.int i t) (.int j u)) Q E s) :
  OpR X f (rI C λi j=>.int (g i j)):=by
 intro AA s σ H x y v u Q I rx ry h
 obtain⟨i,j,rfl,rfl,hc,q⟩:=h
 obtain⟨t,rfl⟩:=rx
 obtain⟨t',rfl⟩:=ry
 exact rule i j t t' s _ _ hc ⟨.int (g i j),H,I.tok _,⟨_,rfl⟩,q⟩
theorem bY{f:Value->Value->Sem Value}{g:Int->Int->Int}
  (rule:∀ (i j:Int) (t u:Tok) (s:Shared) (Q:Value->Shared->Prop) (E:Value->Shared->Prop),Q (.int (g i j) s.toks) { s with toks:=s.toks+1 }->wpAny (model X.prog X.w) X.A (f (.int i t) (.int j u)) Q E s) :
  OpR X f (HB λi j=>.int (g i j)):=by
 intro AA s σ H x y v u Q I rx ry h
 obtain⟨i,j,rfl,rfl,q⟩:=h
 obtain⟨t,rfl⟩:=rx
 obtain⟨t',rfl⟩:=ry
 exact rule i j t t' s _ _ ⟨.int (g i j),H,I.tok _,⟨_,rfl⟩,q⟩
theorem SE{f:Value->Value->Sem Value}{g:Int->Int->Bool}
  (rule:∀ (i j:Int) (t u:Tok) (s:Shared) (Q:Value->Shared->Prop) (E:Value->Shared->Prop),Q (.bool (g i j)) s->wpAny (model X.prog X.w) X.A (f (.int i t) (.int j u)) Q E s) :
  OpR X f (HB λi j=>.bl (g i j)):=by
 intro AA s σ H x y v u Q I rx ry h
 obtain⟨i,j,rfl,rfl,q⟩:=h
 obtain⟨t,rfl⟩:=rx
 obtain⟨t',rfl⟩:=ry
 exact rule i j t t' s _ _ ⟨.bl (g i j),H,I,rfl,q⟩
def bZ(i j:Int):Prop:=0<j/\j<1073741824
def tN(i j:Int):Prop:=0<=j/\j<=1000000/\i.natAbs<2 ^ 64
def CMul(i j:Int):Prop:=(-(2 ^ 64)<i/\i<2 ^ 64)\/(-(2 ^ 64)<j/\j<2 ^ 64)
theorem CMul.ok{i j:Int}(h:CMul i j):IntMulOk i j:=by
 rcases h with⟨h1,h2⟩ | ⟨h1,h2⟩
 ·exact .of_left (intBits_le_64 h1 h2)
 ·exact .of_right (intBits_le_64 h1 h2)
theorem tO:OpR X (binaryOp .Add) (HB λi j=>.int (i+j)):=bY λ_ _ _ _ _ _ _ q=>add_int q
theorem tP:OpR X (binaryOp .Sub) (HB λi j=>.int (i - j)):=bY λ_ _ _ _ _ _ _ q=>sub_int q
theorem tQ:OpR X (binaryOp .Mult) (rI CMul λi j=>.int (i * j)):=SD λ_ _ _ _ _ _ _ hc q=>mul_int q hc.ok
theorem FW:OpR X (binaryOp .FloorDiv) (rI bZ λi j=>.int (i / j)):=SD λi j _ _ _ _ _ hc q=>by
 have h1:(0:Int)<j:=hc.1
 have h2:j<1073741824:=hc.2
 exact floordiv_int (by omega) (by rw[Int.fdiv_eq_ediv_of_nonneg i (by omega)];exact q) (.inl (PyProof.noPylong_small (by omega)))
theorem E8:OpR X (binaryOp .Mod) (rI (λ_ j=>0<j) λi j=>.int (i % j)):=SD λi j _ _ _ _ _ hc q=>by
 have h1:(0:Int)<j:=hc
 exact mod_int' (by omega) (by rw[Int.fmod_eq_emod_of_nonneg i (by omega)];exact q)
theorem tR{f:Value->Sem Value}{g:Int->Int}
  (rule:∀ (i:Int) (t:Tok) (s:Shared) (Q:Value->Shared->Prop) (E:Value->Shared->Prop),Q (.int (g i) s.toks) { s with toks:=s.toks+1 }->wpAny (model X.prog X.w) X.A (f (.int i t)) Q E s) :
  SB X f (rU λi=>.int (g i)):=by
 intro AA s σ H x v Q I rx h
 obtain⟨i,rfl,q⟩:=h
 obtain⟨t,rfl⟩:=rx
 exact rule i t s _ _ ⟨.int (g i),H,I.tok _,⟨_,rfl⟩,q⟩
theorem b0:SB X (unaryOp .USub) (rU λi=>.int (-i)):=tR λ_ _ _ _ _ q=>neg_int q
end
def EJ:V->V->Bool
 | .non,.non=>true | .non,.int _=>true | .int _,.non=>true | .non,.bl _=>true | .bl _,.non=>true | .non,.str _=>true | .str _,.non=>true
 | .int _,.int _=>true | .bl _,.bl _=>true | .str _,.str _=>true | .byt _,.byt _=>true
 | .int _,.str _=>true | .str _,.int _=>true | .bl _,.str _=>true | .str _,.bl _=>true
 | _,_=>false
def tS:R2:=λx y H Q=>EJ x y=true/\Q (.bl (decide (x=y))) H
def tT:R2:=λx y H Q=>EJ x y=true/\Q (.bl (!decide (x=y))) H
theorem cA{i j:Int}:decide (V.int i=V.int j)=(i == j):=by
 rw[Bool.eq_iff_iff]
 simp
theorem cB{i j:Bool}:decide (V.bl i=V.bl j)=(i == j):=by
 rw[Bool.eq_iff_iff]
 simp
theorem cC{i j:Str}:decide (V.str i=V.str j)=(i == j):=by
 rw[Bool.eq_iff_iff]
 simp
theorem cD{i j:Array UInt8}:decide (V.byt i=V.byt j)=(i.toList == j.toList):=by
 rw[Bool.eq_iff_iff]
 cases i
 cases j
 simp
section
variable{X:Cx}{a b c:Expr}{ta tb tc:TE}{pos:Pos}
theorem CI{AA:List (Addr × Obj)}{σ:St}{H:Hp}{s:Shared}{Q:VK}{k k':Bool}(I:Inv X AA σ H s)(q:Q (.bl k) H)(e:k=k'):EP X AA σ Q (.bool k') s:=by
 subst e
 exact⟨.bl k,H,I,rfl,q⟩
theorem tU:OpR X (compareOp .Eq) tS:=by
 intro AA s σ H x y v u Q I rx ry h
 obtain⟨hs,q⟩:=h
 cases x with
 | non =>
  cases rx
  cases y with
  | non=>cases ry;exact PySem.EqNone.eq_none_none (CI I q (by simp))
  | bl j=>cases ry;exact PySem.EqNone.eq_none_bool (CI I q (by simp))
  | int j=>obtain⟨t',rfl⟩:=ry;exact PySem.EqNone.eq_none_int (CI I q (by simp))
  | str j=>obtain⟨t',rfl⟩:=ry;exact PySem.EqNone.eq_none_str (CI I q (by simp))
  | _=>exact absurd (show false=true from hs) Bool.false_ne_true
 | bl i =>
  cases rx
  cases y with
  | non=>cases ry;exact PySem.EqNone.eq_bool_none (CI I q (by simp))
  | bl j=>cases ry;exact eq_bool (CI I q cB)
  | str j=>obtain⟨t',rfl⟩:=ry;exact PySem.EqMixed.eq_bool_str (CI I q (by simp))
  | _=>exact absurd (show false=true from hs) Bool.false_ne_true
 | int i =>
  obtain⟨t,rfl⟩:=rx
  cases y with
  | non=>cases ry;exact PySem.EqNone.eq_int_none (CI I q (by simp))
  | int j=>obtain⟨t',rfl⟩:=ry;exact eq_int (CI I q cA)
  | str j=>obtain⟨t',rfl⟩:=ry;exact PySem.EqMixed.eq_int_str (CI I q (by simp))
  | _=>exact absurd (show false=true from hs) Bool.false_ne_true
 | str i =>
  obtain⟨t,rfl⟩:=rx
  cases y with
  | non=>cases ry;exact PySem.EqNone.eq_str_none (CI I q (by simp))
  | bl j=>cases ry;exact PySem.EqMixed.eq_str_bool (CI I q (by simp))
  | int j=>obtain⟨t',rfl⟩:=ry;exact PySem.EqMixed.eq_str_int (CI I q (by simp))
  | str j=>obtain⟨t',rfl⟩:=ry;exact eq_str (CI I q cC)
  | _=>exact absurd (show false=true from hs) Bool.false_ne_true
 | byt i =>
  obtain⟨t,rfl⟩:=rx
  cases y with
  | byt j=>obtain⟨t',rfl⟩:=ry;exact W.eq_bytes (CI I q cD)
  | _=>exact absurd (show false=true from hs) Bool.false_ne_true
 | _=>cases y<;>exact absurd (show false=true from hs) Bool.false_ne_true
theorem tV:OpR X (compareOp .NotEq) tT:=by
 intro AA s σ H x y v u Q I rx ry h
 obtain⟨hs,q⟩:=h
 cases x with
 | non =>
  cases rx
  cases y with
  | non=>cases ry;exact PySem.EqNone.ne_none_none (CI I q (by simp))
  | bl j=>cases ry;exact PySem.EqNone.ne_none_bool (CI I q (by simp))
  | int j=>obtain⟨t',rfl⟩:=ry;exact PySem.EqNone.ne_none_int (CI I q (by simp))
  | str j=>obtain⟨t',rfl⟩:=ry;exact PySem.EqNone.ne_none_str (CI I q (by simp))
  | _=>exact absurd (show false=true from hs) Bool.false_ne_true
 | bl i =>
  cases rx
  cases y with
  | non=>cases ry;exact PySem.EqNone.ne_bool_none (CI I q (by simp))
  | bl j=>cases ry;exact ne_bool (CI I q (congrArg not cB))
  | str j=>obtain⟨t',rfl⟩:=ry;exact PySem.EqMixed.ne_bool_str (CI I q (by simp))
  | _=>exact absurd (show false=true from hs) Bool.false_ne_true
 | int i =>
  obtain⟨t,rfl⟩:=rx
  cases y with
  | non=>cases ry;exact PySem.EqNone.ne_int_none (CI I q (by simp))
  | int j=>obtain⟨t',rfl⟩:=ry;exact ne_int (CI I q (congrArg not cA))
  | str j=>obtain⟨t',rfl⟩:=ry;exact PySem.EqMixed.ne_int_str (CI I q (by simp))
  | _=>exact absurd (show false=true from hs) Bool.false_ne_true
 | str i =>
  obtain⟨t,rfl⟩:=rx
  cases y with
  | non=>cases ry;exact PySem.EqNone.ne_str_none (CI I q (by simp))
  | bl j=>cases ry;exact PySem.EqMixed.ne_str_bool (CI I q (by simp))
  | int j=>obtain⟨t',rfl⟩:=ry;exact PySem.EqMixed.ne_str_int (CI I q (by simp))
  | str j=>obtain⟨t',rfl⟩:=ry;exact ne_str (CI I q (congrArg not cC))
  | _=>exact absurd (show false=true from hs) Bool.false_ne_true
 | byt i =>
  obtain⟨t,rfl⟩:=rx
  cases y with
  | byt j=>obtain⟨t',rfl⟩:=ry;exact W.ne_bytes (CI I q (congrArg not cD))
  | _=>exact absurd (show false=true from hs) Bool.false_ne_true
 | _=>cases y<;>exact absurd (show false=true from hs) Bool.false_ne_true
theorem tW:OpR X (compareOp .Lt) (HB λi j=>.bl (decide (i<j))):=SE λ_ _ _ _ _ _ _ q=>lt_int q
theorem tX:OpR X (compareOp .LtE) (HB λi j=>.bl (decide (i<=j))):=SE λ_ _ _ _ _ _ _ q=>le_int q
theorem tY:OpR X (compareOp .Gt) (HB λi j=>.bl (decide (j<i))):=SE λ_ _ _ _ _ _ _ q=>gt_int q
theorem OQ:OpR X (compareOp .Is) (λx y H Q=>y=.non/\Q (.bl (decide (x=.non))) H):=by
 intro AA s σ H x y v u Q I rx ry h
 obtain⟨rfl,q⟩:=h
 cases ry
 refine is_none_gen (CI I q ?_)
 cases x<;>first
  | (cases rx;rfl)
  | (obtain⟨t,rfl⟩:=rx;rfl)
theorem SF:OpR X (compareOp .IsNot) (λx y H Q=>y=.non/\Q (.bl (!decide (x=.non))) H):=by
 intro AA s σ H x y v u Q I rx ry h
 obtain⟨rfl,q⟩:=h
 cases ry
 refine isnot_none_gen (CI I q ?_)
 cases x<;>first
  | (cases rx;rfl)
  | (obtain⟨t,rfl⟩:=rx;rfl)
theorem OpR.or{f:Value->Value->Sem Value}{r r':R2}(h:OpR X f r)(h':OpR X f r'):OpR X f (λx y H Q=>r x y H Q\/r' x y H Q):=by
 intro AA s σ H x y v u Q I rx ry q
 rcases q with q | q
 ·exact h AA s σ H x y v u Q I rx ry q
 ·exact h' AA s σ H x y v u Q I rx ry q
theorem BY(b:Expr){op:CmpOp}(h:op≠.In:=by decide)(h2:op≠.NotIn:=by decide):behindInMarks op b=false:=by
 have e1:(op == CmpOp.In)=false:=by cases op<;>first | rfl | exact absurd rfl h
 have e2:(op == CmpOp.NotIn)=false:=by cases op<;>first | rfl | exact absurd rfl h2
 cases b<;>simp[behindInMarks,e1,e2]
theorem IT{op:CmpOp}{r:R2}(ho:OpR X (compareOp op) r)(ha:PE X a ta)(hb:PE X b tb)(hm:behindInMarks op b=false):PE X (.Compare a [op] [b] pos) (AF r ta tb):=by
 intro AA s σ H Q I h
 exact wpAny_Compare1 (SC ha hb I h λv u s2 x y H2 I2 rx ry q=>ho AA s2 σ H2 x y v u Q I2 rx ry q) hm
def BU(t:TE):TT:=λσ H Q=>t σ H λx H'=>∃ k,x=.bl k/\Q k H'
theorem CD{op:CmpOp}{r:R2}(ho:OpR X (compareOp op) r)(ha:PE X a ta)(hb:PE X b tb)(hm:behindInMarks op b=false):PT X (.Compare a [op] [b] pos) (BU (AF r ta tb)):=by
 intro AA s σ H Q I h
 refine wpAny_isTrue_Compare1 (AR (ha AA s σ H _ I h) λv s1 ⟨x,H1,I1,r1,q1⟩=>AR (hb AA s1 σ H1 _ I1 q1) λu s2 ⟨y,H2,I2,r2,q2⟩ =>
  AR (ho AA s2 σ H2 x y v u _ I2 r1 r2 q2) λc s3 ⟨z,H3,I3,r3,k,e,q3⟩=> ?_) hm
 subst e
 cases r3
 exact wpAny_truthy_bool ⟨H3,I3,q3⟩
def FX(r r':R2)(ta tb tc:TE):TE:=λσ H Q=>ta σ H λx H1=>tb σ H1 λy H2=>r x y H2 λz H3=>∃ k,z=.bl k ∧
 (if k=true then tc σ H3 λw' H4=>r' y w' H4 Q else Q (.bl false) H3)
theorem MH{op op':CmpOp}{r r':R2}(ho:OpR X (compareOp op) r)(ho':OpR X (compareOp op') r')(ha:PE X a ta)(hb:PE X b tb)(hc:PE X c tc)
  (hm:lastMarks [op,op'] [b,c]=false:=by with_unfolding_all rfl):PE X (.Compare a [op,op'] [b,c] pos) (FX r r' ta tb tc):=by
 intro AA s σ H Q I h
 refine Compare_chain (AR (ha AA s σ H _ I h) λv s1 ⟨x,H1,I1,r1,q1⟩=>chain_link (AR (hb AA s1 σ H1 _ I1 q1) λu s2 ⟨y,H2,I2,r2,q2⟩ =>
  AR (ho AA s2 σ H2 x y v u _ I2 r1 r2 q2) λd s3 ⟨z,H3,I3,r3,k,e,q3⟩=> ?_)) hm
 subst e
 cases r3
 refine wpAny_truthy_bool ?_
 cases k with
 | false=>exact ite_ff ⟨.bl false,H3,I3,rfl,q3⟩
 | true=>exact ite_tt (chain_last (AR (hc AA s3 σ H3 _ I3 q3) λw' s4 ⟨z',H4,I4,r4,q4⟩=>ho' AA s4 σ H4 y z' u w' Q I4 r2 r4 q4))
theorem MI{op op':CmpOp}{r r':R2}(ho:OpR X (compareOp op) r)(ho':OpR X (compareOp op') r')(ha:PE X a ta)(hb:PE X b tb)(hc:PE X c tc)
  (hm:lastMarks [op,op'] [b,c]=false:=by with_unfolding_all rfl):PT X (.Compare a [op,op'] [b,c] pos) (BU (FX r r' ta tb tc)):=by
 intro AA s σ H Q I h
 refine isTrue_chain (AR (ha AA s σ H _ I h) λv s1 ⟨x,H1,I1,r1,q1⟩=>test_link (AR (hb AA s1 σ H1 _ I1 q1) λu s2 ⟨y,H2,I2,r2,q2⟩ =>
  AR (ho AA s2 σ H2 x y v u _ I2 r1 r2 q2) λd s3 ⟨z,H3,I3,r3,k,e,q3⟩=> ?_)) hm
 subst e
 cases r3
 refine wpAny_truthy_bool ?_
 cases k with
 | false =>
  obtain⟨k',e',q'⟩:=q3
  cases e'
  exact ite_ff ⟨H3,I3,q'⟩
 | true =>
  refine ite_tt (test_last (AR (hc AA s3 σ H3 _ I3 q3) λw' s4 ⟨z',H4,I4,r4,q4⟩=>AR (ho' AA s4 σ H4 y z' u w' _ I4 r2 r4 q4) λd' s5 hzz=> ?_))
  obtain⟨z2,H5,I5,r5,k2,e2,q5⟩:=hzz
  subst e2
  cases r5
  exact wpAny_truthy_bool ⟨H5,I5,q5⟩
def F8(K:W.Frag)(x:V)(H:Hp)(k:Bool):Prop :=
 match x with
 | .non=>k=false
 | .bl b=>k=b
 | .int i=>k=(i != 0)
 | .str y=>y.length<=sizeLine/\k=((y.length:Int) != 0)
 | .byt y=>y.size<=sizeLine/\k=((y.size:Int) != 0)
 | .ref p=>(∃ xs,SqL K H p xs/\k= !xs.isEmpty)\/(∃ xs,SqT K H p xs/\k= !xs.isEmpty)\/∃ AD,H p=some (.dK AD)/\k= !AD.isEmpty
 | _=>False
theorem tZ{κ :Type}{AD:List (κ × V)}{vs:List (κ × Value)}(r:KV AD vs):(!vs.isEmpty)= !AD.isEmpty:=by
 cases r<;>rfl
theorem cE{xs:List V}{its:List Value}(r:Vals xs its):(!its.toArray.isEmpty)= !xs.isEmpty:=by
 cases r<;>simp
theorem KL:(sizeLine:Nat)<2 ^ 63:=by rw[sizeLine_eq];decide
theorem cF:tM X (λx H Q=>∃ k,F8 X.K x H k/\Q k H):=by
 intro AA s σ H x v Q I rx h
 obtain⟨k,e,q⟩:=h
 have hl:=KL
 have hs:sizeLine=16777216:=sizeLine_eq
 cases x with
 | non =>
  cases rx
  have e':k=false:=e
  subst e'
  exact truthy_none ⟨H,I,q⟩
 | bl b =>
  cases rx
  have e':k=b:=e
  subst e'
  exact wpAny_truthy_bool ⟨H,I,q⟩
 | int i =>
  obtain⟨t,rfl⟩:=rx
  have e':k=(i != 0):=e
  subst e'
  exact PySem.P.truthy_int ⟨H,I,q⟩
 | str y =>
  obtain⟨t,rfl⟩:=rx
  obtain⟨hy,e'⟩:y.length<=sizeLine/\k=((y.length:Int) != 0):=e
  subst e'
  exact PySem.P.truthy_str (by omega) ⟨H,I.tok _,q⟩
 | byt y =>
  obtain⟨t,rfl⟩:=rx
  obtain⟨hy,e'⟩:y.size<=sizeLine/\k=((y.size:Int) != 0):=e
  subst e'
  exact W.truthy_bytes (by omega) ⟨H,I.tok _,q⟩
 | ref p =>
  cases rx
  have e':(∃ xs,SqL X.K H p xs/\k= !xs.isEmpty)\/(∃ xs,SqT X.K H p xs/\k= !xs.isEmpty)\/∃ AD,H p=some (.dK AD)/\k= !AD.isEmpty:=e
  rcases e' with⟨xs,hx,e'⟩ | ⟨xs,hx,e'⟩ | ⟨AD,hx,e'⟩
  ·subst e'
   obtain⟨its,r,pl,hz⟩:=I.list hx
   have BT:=r.length
   exact wpAny_truthy_list pl.isList (by simp only[List.size_toArray];omega) ⟨H,I.tok _,by rw[cE r];exact q⟩
  ·subst e'
   obtain⟨its,r,pl,hz⟩:=I.tuple hx
   have BT:=r.length
   exact truthy_tuple pl (by simp only[List.size_toArray];omega) ⟨H,I.tok _,by rw[cE r];exact q⟩
  ·subst e'
   obtain⟨hz,hS,vs,r,m⟩:AD.length<=sizeLine/\(p == sysModules)=false/\∃ vs,KV AD vs/\s.heap.DictOf (EV X.prog X.w) p vs:=I.hok p _ hx
   have BT:AD.length=vs.length:=Paired.length r
   exact wpAny_truthy_dict hS m (by omega) ⟨H,I.tok _,by rw[tZ r];exact q⟩
 | _=>exact(show False from e).elim
theorem MJ(ha:PE X a ta)(he:∀ whole,isTrue a X.env whole=(do let v ← whole;standAt a.pos;holding [v] (truthy v))) :
  PT X a (λσ H Q=>ta σ H λx H'=>∃ k,F8 X.K x H' k/\Q k H'):=by
 intro AA s σ H Q I h
 exact isTrue_plain (AR (ha AA s σ H _ I h) λv s1 ⟨x,H1,I1,r1,q1⟩=>cF AA s1 σ H1 x v Q I1 r1 q1) (he _)
theorem t3:OpR X (binaryOp .Add) (λx y H Q=>∃ i j,x=.str i/\y=.str j/\i.length+j.length<=sizeLine/\Q (.str (i++j)) H):=by
 intro AA s σ H x y v u Q I rx ry h
 obtain⟨i,j,rfl,rfl,hz,q⟩:=h
 obtain⟨t,rfl⟩:=rx
 obtain⟨t',rfl⟩:=ry
 exact add_str (λt' tk=>⟨.str (i++j),H,I.tok _,⟨_,rfl⟩,q⟩) hz
theorem FF{x:V}{us:List Value}(r:Vals [x] us):∃ u,us=[u]/\RelV x u:=by
 cases r with
 | cons r1 r2=>cases r2;exact⟨_,rfl,r1⟩
theorem t4{x y:V}{us:List Value}(r:Vals [x,y] us):∃ u w',us=[u,w']/\RelV x u/\RelV y w':=by
 cases r with
 | cons r1 r2 =>
  cases r2 with
  | cons r3 r4=>cases r4;exact⟨_,_,rfl,r1,r3⟩
theorem MK:CallR X (.type "int") (λxs H Q=>(∃ i,xs=[.int i]/\Q (.int i) H)\/∃ k,xs=[.bl k]/\Q (.int (if k then 1 else 0)) H):=by
 intro AA s σ H xs us Q I r h
 rcases h with⟨i,rfl,q⟩ | ⟨k,rfl,q⟩
 ·obtain⟨u,rfl,t,rfl⟩:=FF r
  exact call_int_int ⟨.int i,H,I,⟨_,rfl⟩,q⟩
 ·obtain⟨u,rfl,r1⟩:=FF r
  cases r1
  exact call_int_bool ⟨.int (if k then 1 else 0),H,I.tok _,⟨_,rfl⟩,q⟩
theorem t5:CallR X (.builtin "ord") (λxs H Q=>∃ x,xs=[.str x]/\x.length=1/\Q (.int (x.cps.getD 0 0:Nat)) H):=by
 intro AA s σ H xs us Q I r h
 obtain⟨x,rfl,hz,q⟩:=h
 obtain⟨u,rfl,t,rfl⟩:=FF r
 exact ord_of_one hz ⟨.int _,H,I.tok _,⟨_,rfl⟩,q⟩
def SG(K:W.Frag)(x:V)(H:Hp)(n:Nat):Prop :=
 match x with
 | .str y=>y.length<=sizeLine/\n=y.length
 | .byt y=>y.size<=sizeLine/\n=y.size
 | .ref p=>(∃ xs,SqL K H p xs/\n=xs.length)\/∃ xs,SqT K H p xs/\n=xs.length
 | _=>False
theorem t7:CallR X (.builtin "len") (λxs H Q=>∃ x n,xs=[x]/\SG X.K x H n/\Q (.int n) H):=by
 intro AA s σ H xs us Q I r h
 obtain⟨x,n,rfl,e,q⟩:=h
 obtain⟨u,rfl,rx⟩:=FF r
 have hl:=KL
 have hs:sizeLine=16777216:=sizeLine_eq
 cases x with
 | str y =>
  obtain⟨t,rfl⟩:=rx
  obtain⟨hy,e'⟩:y.length<=sizeLine/\n=y.length:=e
  subst e'
  exact len_str (by omega) ⟨.int _,H,I.tok _,⟨_,rfl⟩,q⟩
 | byt y =>
  obtain⟨t,rfl⟩:=rx
  obtain⟨hy,e'⟩:y.size<=sizeLine/\n=y.size:=e
  subst e'
  exact W.len_bytes (by omega) ⟨.int _,H,I.tok _,⟨_,rfl⟩,q⟩
 | ref p =>
  cases rx
  have e':(∃ xs,SqL X.K H p xs/\n=xs.length)\/∃ xs,SqT X.K H p xs/\n=xs.length:=e
  rcases e' with⟨xs,hx,e'⟩ | ⟨xs,hx,e'⟩
  ·subst e'
   obtain⟨its,r',pl,hz⟩:=I.list hx
   have BT:=r'.length
   exact Calls.call_len_list pl.isList (by simp only[List.size_toArray];omega) ⟨.int xs.length,H,I.tok _,⟨_,by simp only[List.size_toArray];rw[BT]⟩,q⟩
  ·subst e'
   obtain⟨its,r',pl,hz⟩:=I.tuple hx
   have BT:=r'.length
   exact len_tuple pl (by simp only[List.size_toArray];omega) ⟨.int xs.length,H,I.tok _,⟨_,by simp only[List.size_toArray];rw[BT]⟩,q⟩
 | _=>exact(show False from e).elim
end
end L2
namespace L2
structure ObjM(h:Heap)(x dx C:Addr)(mA:Str->Option Value):Prop where
 obj:h.get? x=some (W.instObj C dx)
 ns:h.Ns1 dx mA
 ne:dx≠x
theorem t8{h:Heap}{dx:Addr}{mA:Str->Option Value}(n:h.Ns1 dx mA):∃ od,h.get? dx=some od/\∀ name,W.lookIn name od=some (mA name):=by
 obtain⟨o,es,ep,ho,hd,hk,_,hm⟩:=n
 refine⟨o,ho,λname=> ?_⟩
 have e:=hm name
 unfold nsFind findBy at e
 rw[<-Array.find?_toList]at e
 unfold W.lookIn
 rw[hd]
 dsimp only
 split
 ·rename_i y q
  rw[q]at e
  exact congrArg some e
 ·rename_i q
  rw[q]at e
  have a:es.toList.any (·.refKey)=false:=by
   rw[List.any_eq_false]
   intro y hy
   obtain⟨z,t,hkey⟩:=hk y (Array.mem_toList_iff.mp hy)
   simp[DictEntry.refKey,hkey]
  have a':¬ es.toList.any (·.refKey)=true:=by rw[a];exact Bool.false_ne_true
  rw[if_neg a']
  exact congrArg some e
theorem ObjM.look{h:Heap}{x dx C:Addr}{mA:Str->Option Value}(I:ObjM h x dx C mA):∃ od,W.InstAt h x (W.instObj C dx) C (some od)/\∀ name,W.lookIn name od=some (mA name) :=
 let ⟨od,ho,hl⟩:=t8 I.ns
 ⟨od,⟨I.obj,rfl,rfl,ho⟩,hl⟩
section
variable{prog:Program}{w:World}{A:Around}{E:Value->Shared->Prop}{s:Shared}{K:W.Frag}{x dx C f:Addr}{mA:Str->Option Value}{name:Str}{v:Value}
theorem uA{expr:Bool}{Q:Value->Shared->Prop}(X:K.In s.heap)(I:ObjM s.heap x dx C mA)(hg:W.plainGet K C name=true)(hh:W.hasDictIn K C=true)
  (ha:W.findIn K (.ref C) name=some none) (hv:mA name=some v) (hv':W.handedIn v=true) (h:Q v { s with toks:=s.toks+1 }) :
  wpAny (model prog w) A (getAttr (.ref x) name expr) Q E s:=by
 obtain⟨od,J,hl⟩:=I.look
 exact W.get_value X J (W.plainGet_of hg).1 (W.findObj_own hh ha rfl (by rw[hl,hv])) hv' h
theorem uB{pl:Sem Bool}{Q:Value × List Value->Shared->Prop}(X:K.In s.heap)(I:ObjM s.heap x dx C mA)(hg:W.plainGet K C name=true)
  (hf:W.findIn K (.ref C) name=some (some (.ref f))) (ht:W.isFn K (.ref f)=true) (hv:mA name=none) (h:Q (.ref f,[.ref x]) s) :
  wpAny (model prog w) A (getMethod (.ref x) name pl) Q E s:=by
 obtain⟨od,J,hl⟩:=I.look
 exact W.method_fn X J (W.plainGet_of hg).1 (W.plainGet_of hg).2 hf (beq_iff_eq.mp ht) (by show(W.lookIn name od).map (·.isSome)=some false;rw[hl,hv];rfl) h
theorem uC{ns:List Str}{Q:Unit->Shared->Prop}(X:K.In s.heap)(I:ObjM s.heap x dx C mA)
  (hs:W.findIn K (.ref C) "__setattr__"=some (some (.builtin "object.__setattr__"))) (hp:W.plainOver K C=true) (ht:W.takerIn K C name=some none) (hh:W.hasDictIn K C=true)
  (hw:PySem.Within mA ns) (hsz:ns.length<=sizeLine)
  (h:∀ h',ObjM h' x dx C (λy=>if y=name then some v else mA y)->Heap.SameBut dx s.heap h'->Q () { s with heap:=h',toks:=s.toks+2 }) :
  wpAny (model prog w) A (setAttr (.ref x) name v) Q E s:=by
 obtain⟨od,J,hl⟩:=I.look
 refine W.set_plain X J hs (W.osa_open (s:={ s with toks:=s.toks+1 }) (r:=none) X J hp ht λb=> ?_)
 obtain⟨cd,hc,hd'⟩:=W.any_some hh
 have hx:s.heap.get? x=some ⟨.ref C,some dx,.plain,#[]⟩:=I.obj
 refine wpAny_bind (wpAny_pure (wpAny_bind (wpAny_bind (wpAny_loadPart hx (wpAny_bind (W.Looks.here (s:={ s with toks:=s.toks+1 }) (W.looks_clsIn X hc) ?_))))))
 rw[hd']
 refine wpAny_pure (a:=some dx) (wpAny_bind (wpAny_pure (wpAny_bind ?_)))
 refine wpAny_nsSet1 (s:={ s with toks:=s.toks+1 }) I.ns λh' hn2 hs2=> ?_
 obtain⟨oD,esD,epD,hoD,hdD,hcD⟩:=hn2.count (PySem.Within.cons name v hw)
 refine wpAny_bind (wpAny_lookBehind hoD (by rw[hdD];exact pastItsLine_dict (Nat.le_trans hcD (by rw[List.length_cons];omega))) ?_)
 exact wpAny_pure (h _ ⟨(hs2.2 _ (Ne.symm I.ne)).trans I.obj,hn2,I.ne⟩ hs2)
theorem uD{R:Result->Shared->Prop}{vs:List Value}{kw:List (Str × Value)}(X:K.In s.heap)(hm:W.makesIn K C=true)
  (hi:W.findIn K (.ref C) "__init__"=some (some (.ref f))) (hf:W.typeIn K (.ref f)=some (.type "function"))
  (h:codeAny (model prog w) (A.under (.builtin "type.__call__" ⟨.ref C::vs,kw⟩)) (.call (.ref f) ⟨.ref (s.heap.objs.size+1)::vs,kw⟩) (W.InitBack (s.heap.objs.size+1) R)
   { s with heap:=(s.heap.push W.emptyDict).push (W.instObj C s.heap.objs.size) }) :
  codeAny (model prog w) A (.call (.ref C) ⟨vs,kw⟩) R s:=by
 obtain⟨hh,g,d,t,os⟩:=s
 exact W.make_core (W.makes_of X hm) (W.looks_findIn X hi) (λself=>W.bind_fn X self hf) (.inl rfl) h
end
def AZ(f:Str)(v:V):List (Str × V)->List (Str × V)
 | []=>[(f,v)]
 | (g,x)::r=>if g=f then(g,v)::r else(g,x)::AZ f v r
theorem cG(f g:Str)(v:V):∀ fs:List (Str × V),(AZ f v fs).lookup g=if g=f then some v else fs.lookup g
 | []=>by
  show List.lookup g [(f,v)]=_
  by_cases h:g=f
  ·have hb:(g == f)=true:=beq_iff_eq.mpr h
   simp only[List.lookup,hb,if_pos h]
  ·have hb:(g == f)=false:=beq_eq_false_iff_ne.mpr h
   simp only[List.lookup,hb,if_neg h]
 | (k,x)::r=>by
  have ih:=cG f g v r
  rw[show AZ f v ((k,x)::r)=(if k=f then(k,v)::r else(k,x)::AZ f v r)from rfl]
  by_cases hk:k=f
  ·rw[if_pos hk]
   by_cases h:g=k
   ·have hb:(g == k)=true:=beq_iff_eq.mpr h
    simp only[List.lookup,hb,if_pos (h.trans hk)]
   ·have hb:(g == k)=false:=beq_eq_false_iff_ne.mpr h
    simp only[List.lookup,hb,if_neg (λe:g=f=>h (e.trans hk.symm))]
  ·rw[if_neg hk]
   by_cases h:g=k
   ·have hb:(g == k)=true:=beq_iff_eq.mpr h
    simp only[List.lookup,hb,if_neg (λe:g=f=>hk (h.symm.trans e))]
   ·have hb:(g == k)=false:=beq_eq_false_iff_ne.mpr h
    simp only[List.lookup,hb]
    exact ih
theorem SH(f:Str)(v:V):∀ fs:List (Str × V),f∈(AZ f v fs).map (·.1)/\∀ g,g∈fs.map (·.1)->g∈(AZ f v fs).map (·.1)
 | []=>⟨by simp[AZ],λg h=>by simp at h⟩
 | (k,x)::r=>by
  obtain⟨i1,i2⟩:=SH f v r
  rw[show AZ f v ((k,x)::r)=(if k=f then(k,v)::r else(k,x)::AZ f v r)from rfl]
  by_cases hk:k=f
  ·rw[if_pos hk]
   subst hk
   exact⟨by simp,λg h=>by simpa using h⟩
  ·rw[if_neg hk]
   refine⟨?_,λg h=> ?_⟩
   ·rw[List.map_cons]
    exact List.mem_cons_of_mem _ i1
   ·rw[List.map_cons]at h ⊢
    rcases List.mem_cons.mp h with e | e
    ·exact List.mem_cons.mpr (.inl e)
    ·exact List.mem_cons_of_mem _ (i2 g e)
theorem ML(f:Str)(v:V):∀ fs:List (Str × V),(AZ f v fs).length<=fs.length+1
 | []=>by simp[AZ]
 | (k,x)::r=>by
  have ih:=ML f v r
  rw[show AZ f v ((k,x)::r)=(if k=f then(k,v)::r else(k,x)::AZ f v r)from rfl]
  by_cases hk:k=f
  ·rw[if_pos hk,List.length_cons,List.length_cons];omega
  ·rw[if_neg hk,List.length_cons,List.length_cons];omega
theorem RelO.some_of{v:V}{o:Option Value}(r:RelO (some v) o):∃ u,o=some u/\RelV v u:=by
 cases o with
 | none=>exact(show False from r).elim
 | some u=>exact⟨u,rfl,r⟩
theorem RelO.none_of{o:Option Value}(r:RelO none o):o=none:=by
 cases o with
 | none=>rfl
 | some u=>exact(show False from r).elim
theorem uE{v:V}{u:Value}(r:RelV v u):W.handedIn u=true:=by
 cases v with
 | non=>cases (show u=Value.none from r);rfl
 | bl b=>cases (show u=Value.bool b from r);rfl
 | int i=>obtain⟨t,e⟩:=(show ∃ t,u=Value.int i t from r);cases e;rfl
 | str x=>obtain⟨t,e⟩:=(show ∃ t,u=Value.str x t from r);cases e;rfl
 | byt b=>obtain⟨t,e⟩:=(show ∃ t,u=Value.bytes b t from r);cases e;rfl
 | flt b=>obtain⟨t,e⟩:=(show ∃ t,u=Value.float b t from r);cases e;rfl
 | ref a=>cases (show u=Value.ref a from r);rfl
 | ty n=>cases (show u=Value.type n from r);rfl
section
variable{P:Program}{w:World}{H H':Hp}{h h':Heap}{a C dx:Addr}{fs fs':List (Str × V)}
theorem OR(hok:HOk P w H h)(e:H a=some (.ins C dx fs)):∃ mA,ObjM h a dx C mA/\(∀ f,RelO (fs.lookup f) (mA f))/\PySem.Within mA (fs.map (·.1))/\fs.length<=1000/\H dx=some (.own a):=by
 obtain⟨d,z,ne,ob,mA,n,r,q⟩:=(show ObjOk P w H h a (.ins C dx fs)from hok a _ e)
 exact⟨mA,⟨ob,n,ne⟩,r,q,z,d⟩
end
structure Cls(K:W.Frag)(C:Addr):Prop where
 pg:W.plainGet K C Str.empty=true
 hd:W.hasDictIn K C=true
 po:W.plainOver K C=true
 sa:W.findIn K (.ref C) "__setattr__"=some (some (.builtin "object.__setattr__"))
theorem Cls.get{K:W.Frag}{C:Addr}(c:Cls K C)(f:Str):W.plainGet K C f=true:=c.pg
def NoAttr(K:W.Frag)(C:Addr)(f:Str):Prop:=W.findIn K (.ref C) f=some none
theorem NoAttr.taker{K:W.Frag}{C:Addr}{f:Str}(n:NoAttr K C f):W.takerIn K C f=some none:=by
 unfold W.takerIn
 rw[show W.findIn K (.ref C) f=some none from n]
 rfl
structure Con(K:W.Frag)(C:Addr)(f:Str)(v:V)(u:Value):Prop where
 at_:W.findIn K (.ref C) f=some (some u)
 rel:RelV v u
 get:W.specialIn K u "__get__"=some none
 cp:W.copiedNames.contains f=false
structure OS(K:W.Frag)(C:Addr)(m:Str)(f:Addr):Prop where
 at_:W.findIn K (.ref C) m=some (some (.ref f))
 fn:W.isFn K (.ref f)=true
 kp:W.keepIn K (.ref f)=true
section
variable{X:Cx}{AA:List (Addr × Obj)}{σ:St}{H:Hp}{s:Shared}{a C dx:Addr}{fs:List (Str × V)}{f:Str}{v:V}{A:Around}{E:Value->Shared->Prop}
theorem cH{b:Bool}{Q:Value->Shared->Prop}(I:Inv X AA σ H s)(e:H a=some (.ins C dx fs))(c:Cls X.K C)(n:NoAttr X.K C f)(l:fs.lookup f=some v)
  (h:∀ u s',Inv X AA σ H s'->RelV v u->Q u s'):wpAny (model X.prog X.w) A (getAttr (.ref a) f b) Q E s:=by
 obtain⟨mA,O,r,_,_,_⟩:=OR I.hok e
 obtain⟨u,hu,ru⟩:=RelO.some_of (v:=v) (o:=mA f) (by rw[<-l];exact r f)
 exact uA I.kIn O (c.get f) c.hd n hu (uE ru) (h u _ (I.tok _) ru)
theorem cI{m:Str}{g:Addr}{pl:Sem Bool}{Q:Value × List Value->Shared->Prop}(I:Inv X AA σ H s)(e:H a=some (.ins C dx fs))(c:Cls X.K C)(k:OS X.K C m g)(l:fs.lookup m=none)
  (h:Q (.ref g,[.ref a]) s):wpAny (model X.prog X.w) A (getMethod (.ref a) m pl) Q E s:=by
 obtain⟨mA,O,r,_,_,_⟩:=OR I.hok e
 have hn:mA m=none:=RelO.none_of (by rw[<-l];exact r m)
 exact uB I.kIn O (c.get m) k.at_ k.fn hn h
theorem cJ{y:V}{u:Value}{Q:Unit->Shared->Prop}(I:Inv X AA σ H s)(e:H a=some (.ins C dx fs))(c:Cls X.K C)(n:NoAttr X.K C f)(hl:fs.length<1000)(ry:RelV y u)
  (h:∀ s',Inv X AA σ (upd H a (.ins C dx (AZ f y fs))) s'->Q () s'):wpAny (model X.prog X.w) A (setAttr (.ref a) f u) Q E s:=by
 obtain⟨mA,O,r,wi,_,ho⟩:=OR I.hok e
 have hz:(fs.map (·.1)).length<=sizeLine:=by rw[List.length_map,sizeLine_eq];omega
 refine uC I.kIn O c.sa c.po n.taker c.hd wi hz λh' O' sb=>h _ ?_
 have hd:∃ o,h'.get? dx=some o:=let ⟨o,_,_,e',_⟩:=O'.ns;⟨o,e'⟩
 refine I.write (x:=a) (e:=dx) (by rw[e];exact True.intro) (.inr ho) (λb q hb z=>(sb.2 b hb).trans z) hd ?_
 refine⟨by rw[AG O.ne];exact ho,?_,O.ne,O'.obj,_,O'.ns,λg=> ?_,λg hg=> ?_⟩
 ·have:=ML f y fs;omega
 ·show RelO ((AZ f y fs).lookup g) (if g=f then some u else mA g)
  rw[cG]
  by_cases q:g=f
  ·rw[if_pos q,if_pos q];exact ry
  ·rw[if_neg q,if_neg q];exact r g
 ·by_cases q:g=f
  ·rw[q];exact(SH f y fs).1
  ·refine(SH f y fs).2 g (wi g λz=>hg ?_)
   show(if g=f then some u else mA g)=none
   rw[if_neg q];exact z
theorem Inv.made(I:Inv X AA σ H s):Inv X AA σ (upd (upd H s.heap.objs.size (.own (s.heap.objs.size+1))) (s.heap.objs.size+1) (.ins C s.heap.objs.size []))
  { s with heap:=(s.heap.push W.emptyDict).push (W.instObj C s.heap.objs.size) }:=by
 have e1:(s.heap.push W.emptyDict).get? s.heap.objs.size=some W.emptyDict:=Heap.get?_push_size s.heap rfl
 have e2:((s.heap.push W.emptyDict).push (W.instObj C s.heap.objs.size)).get? (s.heap.objs.size+1)=some (W.instObj C s.heap.objs.size):=by
  have:=Heap.get?_push_size (s.heap.push W.emptyDict) (o:=W.instObj C s.heap.objs.size) rfl
  rwa [Heap.size_push]at this
 have e3:(s.heap.push W.emptyDict).Ns s.heap.objs.size (λ_=>none):=⟨W.emptyDict,#[],_,e1,rfl,(λe he=>absurd he (by simp)),λ_=>rfl⟩
 have I1:=I.laid (a:=s.heap.objs.size) (o:=.own (s.heap.objs.size+1)) (h':=s.heap.push W.emptyDict) (t':=s.toks) (λb u q=>Heap.get?_push_of_some _ q) (Nat.le_refl _) ⟨_,e1⟩
 refine I1.laid (a:=s.heap.objs.size+1) (o:=.ins C s.heap.objs.size []) (t':=s.toks) (λb u q=>Heap.get?_push_of_some _ q) (Nat.le_of_eq (Heap.size_push _ _)) ?_
 have ne:s.heap.objs.size≠s.heap.objs.size+1:=Nat.ne_of_lt (Nat.lt_succ_self _)
 refine⟨by rw[AG ne,AH],Nat.zero_le _,ne,e2,λ_=>none,(Heap.Ns1.of_empty e3).at λo q=>Heap.get?_push_of_some _ q,λ_=>True.intro,λy hy=>absurd rfl hy⟩
theorem uF{prog:Program}{w:World}{env:Env}{e:Expr}{f:Str}{pos:Pos}{s:Shared}{Q:Value->Shared->Prop}(hb:attributeBase e f env (eval e env)=eval e env)
  (h:wpAny (model prog w) A (eval e env) (λo s₁=>wpAny (model prog w) A (getAttr o f true) Q E s₁) E s):wpAny (model prog w) A (eval (.Attribute e f pos) env) Q E s :=
 Attribute_any_ h (by rw[arm_eval_Attribute,hb])
end
def AX(K:W.Frag)(ta:TE)(f:Str):TE:=λσ H Q=>ta σ H λx H1=>∃ a C dx fs v,x=.ref a/\H1 a=some (.ins C dx fs)/\Cls K C/\NoAttr K C f/\fs.lookup f=some v/\Q v H1
def DI(K:W.Frag)(ta tv:TE)(f:Str):TS:=λD σ H=>tv σ H λy H1=>ta σ H1 λx H2=>∃ a C dx fs,x=.ref a/\H2 a=some (.ins C dx fs)/\Cls K C/\NoAttr K C f/\fs.length<1000 ∧
 D.nx σ (upd H2 a (.ins C dx (AZ f y fs)))
def cK(X:Cx)(op:Operator)(rd:V->V->Hp->VK->Prop):Prop :=
 ∀ (AA:List (Addr × Obj)) (s:Shared) (σ:St) (H:Hp) (x y:V) (u v:Value) (Q:VK),Inv X AA σ H s->RelV x u->RelV y v->rd x y H Q->wpAny (model X.prog X.w) X.A (inplaceOp op u v) (EP X AA σ Q) X.xe s
def SI(K:W.Frag)(ta tv:TE)(rd:V->V->Hp->VK->Prop)(f:Str):TS:=λD σ H=>ta σ H λx H1=>∃ a C dx fs v,x=.ref a/\H1 a=some (.ins C dx fs)/\Cls K C/\NoAttr K C f/\fs.lookup f=some v ∧
 tv σ H1 λy H2=>rd v y H2 λz H3=>∃ dx' fs',H3 a=some (.ins C dx' fs')/\fs'.length<1000/\D.nx σ (upd H3 a (.ins C dx' (AZ f z fs')))
section
variable{X:Cx}{o e value:Expr}{f:Str}{pos pos' tpos:Pos}{ta tv:TE}
theorem AY(he:PE X e ta)(hb:attributeBase e f X.env (eval e X.env)=eval e X.env):PE X (.Attribute e f pos) (AX X.K ta f):=by
 intro AA s σ H Q I h
 refine uF hb (AR (he AA s σ H _ I h) λu s1 hzz=> ?_)
 obtain⟨x,H1,I1,rx,a,C,dx,fs,v,ex,ea,c,n,l,q⟩:=hzz
 subst ex
 obtain rfl:u=Value.ref a:=rx
 exact cH I1 ea c n l λu' s2 I2 ru=>⟨v,H1,I2,ru,q⟩
theorem DU(ha:PE X o ta)(hv:PE X value tv)(hs:swapsWith value (some (.Attribute o f pos')) pos.line X.env=pure false):PS X (.Assign [.Attribute o f pos'] value pos) (DI X.K ta tv f):=by
 intro AA s σ H D I h
 refine plainObj_wpAny_Assign_Attribute (AR (hv AA s σ H _ I h) λu s1 ⟨y,H1,I1,ry,q⟩=>AR (ha AA s1 σ H1 _ I1 q) λov s2 hzz=> ?_) hs
 obtain⟨x,H2,I2,rx,a,C,dx,fs,ex,ea,c,n,l,q2⟩:=hzz
 subst ex
 obtain rfl:ov=Value.ref a:=rx
 exact cJ I2 ea c n l ry λs3 I3=>⟨σ,_,I3,q2⟩
theorem uG{op:Operator}{rd:V->V->Hp->VK->Prop}(ha:PE X o ta)(hv:PE X value tv)(hop:cK X op rd):PS X (.AugAssign (.Attribute o f tpos) op value pos) (SI X.K ta tv rd f):=by
 intro AA s σ H D I h
 refine wpAny_AugAssign_AttributeAny (AR (ha AA s σ H _ I h) λov s1 hzz=> ?_)
 obtain⟨x,H1,I1,rx,a,C,dx,fs,v,ex,ea,c,n,l,q⟩:=hzz
 subst ex
 obtain rfl:ov=Value.ref a:=rx
 refine cH I1 ea c n l λu s2 I2 ru=>AR (hv AA s2 σ H1 _ I2 q) λw3 s3 ⟨y,H2,I3,ry,q3⟩=>AR (hop AA s3 σ H2 v y u w3 _ I3 ru ry q3) λw4 s4 hzz=> ?_
 obtain⟨z,H3,I4,rz,dx',fs',ea',l',q4⟩:=hzz
 exact cJ I4 ea' c n l' rz λs5 I5=>⟨σ,_,I5,q4⟩
def OT:V->V->Hp->VK->Prop:=λx y H Q=>∃ i j,x=.int i/\y=.int j/\Q (.int (i+j)) H
theorem uH:cK X .Add OT:=by
 rintro AA s σ H x y u v Q I rx ry ⟨i,j,rfl,rfl,q⟩
 obtain⟨t,rfl⟩:=(show ∃ t,u=Value.int i t from rx)
 obtain⟨t',rfl⟩:=(show ∃ t',v=Value.int j t' from ry)
 exact PyProof.Rows.iadd_int ⟨.int (i+j),H,I.tok _,⟨_,rfl⟩,q⟩
end
section
variable{X:Cx}{AA:List (Addr × Obj)}{σ:St}{H:Hp}{s:Shared}{A:Around}{E:Value->Shared->Prop}{Q:Value->Shared->Prop}{c:Value}{b:Bool}
inductive F9(K:W.Frag)(H:Hp):V->Value->Prop where
 | non:F9 K H .non (.type "NoneType")
 | bl (x:Bool):F9 K H (.bl x) (.type "bool")
 | int (i:Int):F9 K H (.int i) (.type "int")
 | str (x:Str):F9 K H (.str x) (.type "str")
 | flt (x:UInt64):F9 K H (.flt x) (.type "float")
 | lst {a:Addr} {xs:List V} (e:H a=some (.lst xs)):F9 K H (.ref a) (.type "list")
 | frz {a:Addr} {o:Obj} {xs:List V} (e:H a=some (.frz o (.lst xs))):F9 K H (.ref a) (.type "list")
 | tup {a:Addr} {xs:List V} (e:H a=some (.tup xs)):F9 K H (.ref a) (.type "tuple")
 | dK {a:Addr} {AD:List (AO × V)} (e:H a=some (.dK AD)):F9 K H (.ref a) (.type "dict")
 | dT {a:Addr} {AD:List (List AO × V)} (e:H a=some (.dT AD)):F9 K H (.ref a) (.type "dict")
 | ins {a C dx:Addr} {fs:List (Str × V)} (e:H a=some (.ins C dx fs)) (cl:Cls K C) (ha:W.findIn K (.ref C) "__class__"=some (some (.builtin "object.__class__")))
   (hn:W.specialIn K (.builtin "object.__class__") "__get__"=some (some (.builtin "getset_descriptor.__get__"))) (htk:W.takesIn K (.builtin "object.__class__")=some true)
   (hm:W.mroIn K C (.type "object")=some true):F9 K H (.ref a) (.ref C)
end
end L2
namespace L2
structure Room(k:Nat)(A:Around):Prop where
 hd:A.handled=none
 dp:A.depth+3 * k+5<recursionLimit
 un:A.units+16 * k+200<cLine
theorem Room.mono{j k:Nat}{A:Around}(r:Room k A)(h:j<=k):Room j A:=⟨r.hd,by have:=r.dp;omega,by have:=r.un;omega⟩
theorem Room.deeper{k:Nat}{A:Around}(r:Room (k+1) A)(env:Env):Room k (A.deeper env) :=
 ⟨r.hd,by have:=r.dp;show A.depth+1+3 * k+5<_;omega,by have:=r.un;show A.units+3+16 * k+200<_;omega⟩
theorem Room.in1{k:Nat}{A:Around}(r:Room (k+1) A):Room k A.in1 :=
 ⟨r.hd,by have:=r.dp;show A.depth+3 * k+5<_;omega,by have:=r.un;show A.units+1+16 * k+200<_;omega⟩
theorem uI{A:Around}{C:Addr}{us:List Value}{kw:List (Str × Value)}:(A.under (.builtin "type.__call__" ⟨.ref C::us,kw⟩)).depth=A.depth+1:=by
 first | rfl | simp[Around.under,Code.weight,Code.isCreation,Code.isGuard,Code.isCaller,Code.frames,Code.isFrame,guardIds]
theorem uJ{A:Around}{C:Addr}{us:List Value}{kw:List (Str × Value)}:(A.under (.builtin "type.__call__" ⟨.ref C::us,kw⟩)).units=A.units+1:=by
 first | rfl | simp[Around.under,Code.cUnits,Code.frames,Code.isFrame]
theorem Room.make{k:Nat}{A:Around}(r:Room (k+1) A)(C:Addr)(us:List Value)(kw:List (Str × Value)):Room k (A.under (.builtin "type.__call__" ⟨.ref C::us,kw⟩)) :=
 ⟨r.hd,by have:=r.dp;rw[uI];omega,by have:=r.un;rw[uJ];omega⟩
theorem Room.depth{k:Nat}{A:Around}(r:Room k A):A.depth<recursionLimit:=by have:=r.dp;omega
theorem Room.units{k:Nat}{A:Around}(r:Room k A):A.units+64<cLine:=by have:=r.un;omega
def BZ:TA:=λ_ H Q=>Q [] H
def BJ(ta:TE)(tr:TA):TA:=λσ H Q=>ta σ H λx H1=>tr σ H1 λxs H2=>Q (x::xs) H2
section
variable{X:Cx}{e:Expr}{es:List Expr}{te:TE}{t:TA}{pos:Pos}
theorem HC:PA X [] BZ:=λ_ _ _ _ H Q I h=>Calls.spliced_nil ⟨[],H,I,.nil,h⟩
theorem B0(ha:PE X e te)(hr:PA X es t)(hs:starEach (e::es) X.env=(false,eval e X.env)::starEach es X.env:=by rfl):PA X (e::es) (BJ te t):=by
 intro pos AA s σ H Q I h
 rw[hs]
 show wpAny _ _ (spliced ((false,eval e X.env)::backTo pos (starEach es X.env))) _ _ s
 refine Calls.spliced_cons (AR (ha AA s σ H _ I h) λu s1 hzz=> ?_)
 obtain⟨x,H1,I1,r1,q1⟩:=hzz
 exact AR (hr pos AA s1 σ H1 _ I1 q1) λus s2 ⟨xs,H2,I2,r2,q2⟩=>⟨x::xs,H2,I2,.cons r1 r2,q2⟩
def EK(t:TA):TE:=λσ H Q=>t σ H λxs H1=>xs.length<=sizeLine/\∀ p,H1 p=none->Q (.ref p) (upd H1 p (.tup xs))
def C6(t:TA):TE:=λσ H Q=>t σ H λxs H1=>xs.length<=sizeLine/\∀ p,H1 p=none->Q (.ref p) (upd H1 p (.lst xs))
theorem E9{x1}(h:PA X es t):PE X (.Tuple es x1 pos) (EK t):=by
 intro AA s σ H Q I hq
 refine wpAny_Tuple_spliced (AR (h pos AA s σ H _ I hq) λus s1 ⟨xs,H1,I1,r,z,q⟩=>⟨by rw[<-r.length];exact z,?_⟩)
 have hf:H1 s1.heap.objs.size=none:=I1.hok.fresh (Nat.le_refl _)
 refine⟨.ref s1.heap.objs.size,upd H1 s1.heap.objs.size (.tup xs),I1.laid (t':=s1.toks) (λb u e=>Heap.get?_push_of_some _ e) (Nat.le_refl _) ?_,rfl,q _ hf⟩
 exact⟨z,us,r,⟨_,Heap.get?_push_size _ rfl,rfl,_,rfl⟩⟩
theorem DD(h:PA X es t):PE X (.List es pos) (C6 t):=by
 intro AA s σ H Q I hq
 refine wpAny_List_spliced (AR (h pos AA s σ H _ I hq) λus s1 ⟨xs,H1,I1,r,z,q⟩=>⟨by rw[<-r.length];exact z,?_⟩)
 have hf:H1 s1.heap.objs.size=none:=I1.hok.fresh (Nat.le_refl _)
 refine⟨.ref s1.heap.objs.size,upd H1 s1.heap.objs.size (.lst xs),I1.laid (t':=s1.toks) (λb u e=>Heap.get?_push_of_some _ e) (Nat.le_refl _) ?_,rfl,q _ hf⟩
 exact⟨z,us,0,r,Heap.get?_push_size _ rfl⟩
end
abbrev Sp:=List V->Hp->VK->XK->Prop
abbrev FG:=List Env->Hp->Shared->XK->Value->Shared->Prop
structure Env0(P:Program)(w:World)(K:W.Frag)(mg:Str->Option Value)(base:Heap)(A:Around)(outer:List Env)(s:Shared)(H:Hp):Prop where
 frames:A.frames=some outer
 mod:Mod K mg base
 bs:∀ b o,base.get? b=some o->s.heap.get? b=some o/\H b=none
 bsz:base.objs.size<=s.heap.objs.size
 funs:s.heap.FunFrames base outer
 frf:∀ b∈DL outer,H b=none
 hok:HOk P w H s.heap
 bare:AllBare s.gens
def CE(outer:List Env)(P:Program)(w:World)(H:Hp)(s:Shared)(Q:VK)(u:Value)(s':Shared):Prop :=
 ∃ v H',s'.os=s.os/\AllBare s'.gens/\Un (DL outer) [] H H' s.heap s'.heap/\HOk P w H' s'.heap/\RelV v u/\Q v H'
def CR(CX:FG)(outer:List Env)(P:Program)(w:World)(H:Hp)(s:Shared)(Q:VK)(E:XK)(r:Result)(s':Shared):Prop :=
 match r with
 | .ok (.ret u)=>CE outer P w H s Q u s'
 | .ok _=>False
 | .error e=>CX outer H s E e s'
structure FnOk(P:Program)(w:World)(K:W.Frag)(mg:Str->Option Value)(base:Heap)(CX:FG)(k:Nat)(f:Addr)(fd:FuncData)(ps:List Str)(sp:Sp):Prop where
 len:∀ vs H Q E,sp vs H Q E->vs.length=ps.length
 run:∀ (A:Around) (outer:List Env) (s:Shared) (H:Hp) (args:Args) (us:List Value) (vs:List V) (Q:VK) (E:XK),Room k A->Env0 P w K mg base A outer s H->BindsTo s fd args (ps.zip us)->Vals vs us->sp vs H Q E →
  codeAny (model P w) A (.call (.ref f) args) (CR CX outer P w H s Q E) s
theorem FnOk.mono{P:Program}{w:World}{K:W.Frag}{mg:Str->Option Value}{base:Heap}{CX:FG}{j k:Nat}{f:Addr}{fd:FuncData}{ps:List Str}{sp:Sp}(F:FnOk P w K mg base CX j f fd ps sp)(h:j<=k) :
  FnOk P w K mg base CX k f fd ps sp:=⟨F.len,λA outer s H args us vs Q E hr=>F.run A outer s H args us vs Q E (hr.mono h)⟩
theorem FnOk.imp{P:Program}{w:World}{K:W.Frag}{mg:Str->Option Value}{base:Heap}{CX:FG}{k:Nat}{f:Addr}{fd:FuncData}{ps:List Str}{sp sp':Sp}(F:FnOk P w K mg base CX k f fd ps sp)
  (h:∀ vs H Q E,sp' vs H Q E->sp vs H Q E):FnOk P w K mg base CX k f fd ps sp' :=
 ⟨λvs H Q E q=>F.len vs H Q E (h _ _ _ _ q),λA outer s H args us vs Q E hr he hb hv hs=>F.run A outer s H args us vs Q E hr he hb hv (h _ _ _ _ hs)⟩
theorem Env0.make{P:Program}{w:World}{K:W.Frag}{mg:Str->Option Value}{base:Heap}{A:Around}{outer:List Env}{s:Shared}{H:Hp}(e:Env0 P w K mg base A outer s H)(C:Addr)(us:List Value)(kw:List (Str × Value)) :
  Env0 P w K mg base (A.under (.builtin "type.__call__" ⟨.ref C::us,kw⟩)) outer s H:=⟨by first | exact e.frames | (simpa [Around.under,Code.envs,Code.isFrame,pushEnvs]using e.frames),e.mod,e.bs,e.bsz,e.funs,e.frf,e.hok,e.bare⟩
theorem Env0.in1{P:Program}{w:World}{K:W.Frag}{mg:Str->Option Value}{base:Heap}{A:Around}{outer:List Env}{s:Shared}{H:Hp}(e:Env0 P w K mg base A outer s H) :
  Env0 P w K mg base A.in1 outer s H:=⟨e.frames,e.mod,e.bs,e.bsz,e.funs,e.frf,e.hok,e.bare⟩
section
variable{X:Cx}{AA:List (Addr × Obj)}{σ:St}{H:Hp}{s s':Shared}
theorem Inv.env0(I:Inv X AA σ H s):Env0 X.prog X.w X.K X.mg X.base X.A X.stack s H :=
 ⟨I.ok.frames,I.ok.mod,I.bs,Nat.le_trans I.ok.bsz I.sz,I.stack,I.stkFree,I.hok,I.bare⟩
theorem Inv.after{Q:VK}{u:Value}(I:Inv X AA σ H s)(h:CE X.stack X.prog X.w H s Q u s'):EP X AA σ Q u s':=by
 obtain⟨v,H',os,bare,un,hok,r,q⟩:=h
 obtain⟨hh,g,d,t,os'⟩:=s'
 obtain rfl:os'=s.os:=os
 exact⟨v,H',I.call (h':=hh) (g':=g) (d':=d) (t':=t) (ch:=[]) un hok bare (λb z=>absurd z (by simp)),r,q⟩
end
def C2(sp:Sp)(C0:List V)(E:St->XK)(t:TA):TE:=λσ H Q=>t σ H λvs H1=>sp (vs++C0) H1 Q (E σ)
def AV(C:Addr)(m:Str)(sp:Sp)(C0:List V)(E:St->XK)(ta:TE)(t:TA):TE:=λσ H Q=>ta σ H λx H1=>∃ a dx fs,x=.ref a/\H1 a=some (.ins C dx fs)/\fs.lookup m=none ∧
 t σ H1 λvs H2=>sp (x::(vs++C0)) H2 Q (E σ)
def GU(C:Addr)(sp:Sp)(C0:List V)(E:St->XK)(t:TA):TE:=λσ H Q=>t σ H λvs H1=>∀ x dx,H1 x=none->H1 dx=none->dx≠x →
 sp (.ref x::(vs++C0)) (upd (upd H1 dx (.own x)) x (.ins C dx [])) (λv H2=>v=.non/\Q (.ref x) H2) (E σ)
def Binds(K:W.Frag)(fd:FuncData)(ps:List Str)(ds:List Value):Prop :=
 ∀ (s:Shared) (us:List Value),K.In s.heap->(us++ds).length=ps.length->BindsTo s fd ⟨us,[]⟩ (ps.zip (us++ds))
theorem Binds.all{K:W.Frag}{fd:FuncData}{ps:List Str}(h:∀ us:List Value,us.length=ps.length->bindArgs fd ⟨us,[]⟩=pure (ps.zip us)):Binds K fd ps []:=λs us _ hl=>by
 rw[List.append_nil]at hl ⊢
 exact .of_eq (h us hl)
def GA(CX:FG)(X:Cx)(E:St->XK):Prop:=∀ (AA:List (Addr × Obj)) (σ:St) (H:Hp) (s:Shared) (e:Value) (s':Shared),Inv X AA σ H s->CX X.stack H s (E σ) e s'->X.xe e s'
section
variable{X:Cx}{CX:FG}{k:Nat}{f C:Addr}{fd:FuncData}{ps:List Str}{sp:Sp}{C0:List V}{ds:List Value}{E:St->XK}{x m:Str}{p pos CO:Pos}{e o:Expr}{es:List Expr}{ta:TE}{t:TA}
theorem SJ{AA:List (Addr × Obj)}{σ:St}{H:Hp}{s:Shared}{Q:VK}{us:List Value}{vs:List V}(F:FnOk X.prog X.w X.K X.mg X.base CX k f fd ps sp)(hr:Room k X.A)(hb:Binds X.K fd ps ds)(hd:Vals C0 ds)(hx:GA CX X E)
  (I:Inv X AA σ H s) (r:Vals vs us) (h:sp (vs++C0) H Q (E σ)):wpAny (model X.prog X.w) X.A (call (.ref f) us) (EP X AA σ Q) X.xe s:=by
 have r2:Vals (vs++C0) (us++ds):=r.append hd
 have hl:(us++ds).length=ps.length:=by rw[<-r2.length];exact F.len _ _ _ _ h
 refine wpAny_call (codeAny_mono (F.run X.A X.stack s H ⟨us,[]⟩ (us++ds) (vs++C0) Q (E σ) hr I.env0 (hb s us I.kIn hl) r2 h) λr s' hq=> ?_)
 cases r with
 | error e=>exact hx AA σ H s e s' I hq
 | ok fl =>
  cases fl with
  | ret u=>exact I.after hq
  | next=>exact False.elim hq
  | brk=>exact False.elim hq
  | cont=>exact False.elim hq
theorem uK(F:FnOk X.prog X.w X.K X.mg X.base CX k f fd ps sp)(hr:Room k X.A)(hg:Gl X x)(hm:X.mg x=some (.ref f))(hk:W.keepIn X.K (.ref f)=true)(hb:Binds X.K fd ps ds)(hd:Vals C0 ds)(hx:GA CX X E)
  (ha:PA X (e::es) t) (hdb:(x ==("__debug__":Str))=false:=by decide) (he:starEach (e::es) X.env=(false,eval e X.env)::starEach es X.env:=by rfl) (CT:(backTo pos (starEach es X.env)).any (·.1)=false:=by rfl) :
  PE X (.Call (.Name x p) (e::es) [] pos) (C2 sp C0 E t):=by
 intro AA s σ H Q I h
 refine wpAny_Call_Name_kw (MB I hg hm ?_ hdb)
 refine W.callWith_K (h₀:=X.base) I.ok.mod.kin hk (AR (ha pos AA s σ H _ I h) λus s1 ⟨vs,H1,I1,r,q⟩=>⟨I1.kIn,?_⟩) he CT
 exact SJ F hr hb hd hx I1 r q
theorem uL{pl:Sem Bool}(he:PE X o ta)(c:Cls X.K C)(hm:OS X.K C m f)(F:FnOk X.prog X.w X.K X.mg X.base CX k f fd ps sp)(hr:Room k X.A)(hb:Binds X.K fd ps ds)(hd:Vals C0 ds)(hx:GA CX X E)(ha:PA X (e::es) t)
  (hst:starEach (e::es) X.env=(false,eval e X.env)::starEach es X.env:=by rfl) (CT:(backTo pos (starEach es X.env)).any (·.1)=false:=by rfl)
  (ht:eval (.Call (.Attribute o m CO) (e::es) [] pos) X.env=(do
   let ov ← eval o X.env
   standAt CO.atName
   let (f,first) ← holding [ov] (getMethod ov m pl)
   callWith pos f first (backTo pos (starEach (e::es) X.env)) (backToKw pos (keywordEach [] X.env))):=by rfl) :
  PE X (.Call (.Attribute o m CO) (e::es) [] pos) (AV C m sp C0 E ta t):=by
 intro AA s σ H Q I h
 refine W.methodCall_KW (pl:=pl) (AR (he AA s σ H _ I h) λu s1 hzz=> ?_) ht
 obtain⟨x,H1,I1,rx,a,dx,fs,ex,ea,l,q⟩:=hzz
 subst ex
 obtain rfl:u=Value.ref a:=rx
 refine cI I1 ea c hm l ?_
 refine W.callWith_K (first:=[.ref a]) (h₀:=X.base) I.ok.mod.kin hm.kp (AR (ha pos AA s1 σ H1 _ I1 q) λus s2 ⟨vs,H2,I2,r,q2⟩=>⟨I2.kIn,?_⟩) hst CT
 exact SJ (us:=.ref a::us) (vs:=.ref a::vs) F hr hb hd hx I2 (.cons rfl r) q2
theorem uM{pl:Sem Bool}(he:PE X o ta)(c:Cls X.K C)(hm:OS X.K C m f)(F:FnOk X.prog X.w X.K X.mg X.base CX k f fd ps sp)(hr:Room k X.A)(hb:Binds X.K fd ps ds)(hd:Vals C0 ds)(hx:GA CX X E)
  (ht:eval (.Call (.Attribute o m CO) [] [] pos) X.env=(do
   let ov ← eval o X.env
   standAt CO.atName
   let (f,first) ← holding [ov] (getMethod ov m pl)
   callWith pos f first (backTo pos (starEach [] X.env)) (backToKw pos (keywordEach [] X.env))):=by rfl) :
  PE X (.Call (.Attribute o m CO) [] [] pos) (AV C m sp C0 E ta BZ):=by
 intro AA s σ H Q I h
 refine W.methodCall_KW (pl:=pl) (AR (he AA s σ H _ I h) λu s1 hzz=> ?_) ht
 obtain⟨x,H1,I1,rx,a,dx,fs,ex,ea,l,q⟩:=hzz
 subst ex
 obtain rfl:u=Value.ref a:=rx
 refine cI I1 ea c hm l ?_
 exact W.callWith_K0 (first:=[.ref a]) I1.kIn hm.kp (SJ (us:=[.ref a]) (vs:=[.ref a]) F hr hb hd hx I1 (.cons rfl .nil) q)
structure Mk(K:W.Frag)(C f:Addr):Prop where
 makes:W.makesIn K C=true
 init:W.findIn K (.ref C) "__init__"=some (some (.ref f))
 fn:W.isFn K (.ref f)=true
 kp:W.keepIn K (.ref C)=true
theorem uN{AA:List (Addr × Obj)}{σ:St}{H:Hp}{s:Shared}{Q:VK}{us:List Value}{vs:List V}(M:Mk X.K C f)(F:FnOk X.prog X.w X.K X.mg X.base CX k f fd ps sp)(hr:Room (k+1) X.A)(hb:Binds X.K fd ps ds)(hd:Vals C0 ds)
  (hx:GA CX X E) (I:Inv X AA σ H s) (r:Vals vs us)
  (h:∀ x dx,H x=none->H dx=none->dx≠x->sp (.ref x::(vs++C0)) (upd (upd H dx (.own x)) x (.ins C dx [])) (λv H2=>v=.non/\Q (.ref x) H2) (E σ)) :
  wpAny (model X.prog X.w) X.A (call (.ref C) us) (EP X AA σ Q) X.xe s:=by
 have hq:=h (s.heap.objs.size+1) s.heap.objs.size (I.hok.fresh (Nat.le_succ _)) (I.hok.fresh (Nat.le_refl _)) (Nat.ne_of_lt (Nat.lt_succ_self _))
 have I2:=Inv.made (C:=C) I
 have r2:Vals (V.ref (s.heap.objs.size+1)::(vs++C0)) (Value.ref (s.heap.objs.size+1)::(us++ds)):=.cons rfl (r.append hd)
 have hl:(Value.ref (s.heap.objs.size+1)::us++ds).length=ps.length:=by
  have e:=r2.length
  rw[F.len _ _ _ _ hq]at e
  exact e.symm
 refine wpAny_call (uD (f:=f) I.kIn M.makes M.init (beq_iff_eq.mp M.fn) (codeAny_mono (F.run _ X.stack _ _ ⟨Value.ref (s.heap.objs.size+1)::us,[]⟩ (Value.ref (s.heap.objs.size+1)::(us++ds)) _ _ (E σ) (hr.make C us [])
  (I2.env0.make C us []) (hb _ (Value.ref (s.heap.objs.size+1)::us) I2.kIn hl) r2 hq) λr s' hq'=> ?_))
 cases r with
 | error e=>exact hx AA σ _ _ e s' I2 hq'
 | ok fl =>
  cases fl with
  | ret u =>
   obtain⟨v,H',I3,rv,ev,q3⟩:=I2.after hq'
   subst ev
   exact⟨rv,⟨V.ref (s.heap.objs.size+1),H',I3,rfl,q3⟩⟩
  | next=>exact False.elim hq'
  | brk=>exact False.elim hq'
  | cont=>exact False.elim hq'
theorem uO(M:Mk X.K C f)(F:FnOk X.prog X.w X.K X.mg X.base CX k f fd ps sp)(hr:Room (k+1) X.A)(hg:Gl X x)(hm:X.mg x=some (.ref C))(hb:Binds X.K fd ps ds)(hd:Vals C0 ds)(hx:GA CX X E)
  (ha:PA X (e::es) t) (hdb:(x ==("__debug__":Str))=false:=by decide) (he:starEach (e::es) X.env=(false,eval e X.env)::starEach es X.env:=by rfl) (CT:(backTo pos (starEach es X.env)).any (·.1)=false:=by rfl) :
  PE X (.Call (.Name x p) (e::es) [] pos) (GU C sp C0 E t):=by
 intro AA s σ H Q I h
 refine wpAny_Call_Name_kw (MB I hg hm ?_ hdb)
 refine W.callWith_K (h₀:=X.base) I.ok.mod.kin M.kp (AR (ha pos AA s σ H _ I h) λus s1 ⟨vs,H1,I1,r,q⟩=>⟨I1.kIn,?_⟩) he CT
 exact uN M F hr hb hd hx I1 r q
end
section
variable{X:Cx}{CX:FG}{k:Nat}{f C:Addr}{fd:FuncData}{ps ks:List Str}{sp:Sp}{E:St->XK}{x m:Str}{p pos CO kpos:Pos}{e o:Expr}{es:List Expr}{kws:List Keyword}{te ta:TE}{t tk:TA}{nm:Option Str}
structure zhc(K:W.Frag)(fd:FuncData)(ps ks:List Str)(g:List Value->List Value->List Value)(gV:List V->List V->List V):Prop where
 to:∀ (s:Shared) (us ws:List Value),K.In s.heap->(g us ws).length=ps.length->BindsTo s fd ⟨us,ks.zip ws⟩ (ps.zip (g us ws))
 rel:∀ {vs:List V} {us:List Value} {zs:List V} {ws:List Value},Vals vs us->Vals zs ws->Vals (gV vs zs) (g us ws)
variable{g:List Value->List Value->List Value}{gV:List V->List V->List V}
end
structure FnScope(N P:List Str)(sc:Scope):Prop where
 kind:sc.kind=.function
 co:sc.isCoroutine=false
 gen:sc.isGenerator=false
 nd:N.Nodup
 pre:N.take P.length=P
 par:∀ x∈P,sc.names.lookup x=some .local\/sc.names.lookup x=some .cell
 nofree:∀ y∈sc.names,y.2≠.free
theorem cM{kindOf:Str->Option NameKind}{x:Str}:∀ {binds:List (Str × Value)} {m:Str->Option Value},(∀ v,(x,v)∉binds)->bindL kindOf binds m x=m x
 | [],_,_=>rfl
 | (n,v)::r,m,h=>by
  unfold bindL
  rw[cM λw hw=>h w (List.mem_cons_of_mem _ hw)]
  split
  ·have:x≠n:=by rintro rfl;exact h v List.mem_cons_self
   simp[this]
  ·rfl
theorem cN{kindOf:Str->Option NameKind}{x:Str}:∀ {binds:List (Str × Value)} {m:Str->Option Value},(∀ v,(x,v)∉binds)->bindC kindOf binds m x=m x
 | [],_,_=>rfl
 | (n,v)::r,m,h=>by
  unfold bindC
  rw[cN λw hw=>h w (List.mem_cons_of_mem _ hw)]
  split
  ·rfl
  ·have:x≠n:=by rintro rfl;exact h v List.mem_cons_self
   simp[this]
theorem cO{kindOf:Str->Option NameKind}{x:Str}{v:Value}:∀ {P:List Str} {vs:List Value} {i:Nat} {m:Str->Option Value},P.Nodup->P[i]? =some x->vs[i]? =some v->kindOf x=some .local →
  bindL kindOf (P.zip vs) m x=some v
 | [],_,_,_,_,h,_,_=>by simp at h
 | _::_,[],_,_,_,_,h,_=>by simp at h
 | p::P,w::vs,0,m,nd,h1,h2,hk=>by
  simp at h1 h2;subst h1;subst h2
  show bindL kindOf ((p,w)::P.zip vs) m p=_
  unfold bindL
  rw[cM λv hv=>(List.nodup_cons.mp nd).1 (List.of_mem_zip hv).1,if_pos hk]
  simp
 | p::P,w::vs,i+1,m,nd,h1,h2,hk=>by
  show bindL kindOf ((p,w)::P.zip vs) m x=_
  unfold bindL
  exact cO (i:=i) (List.nodup_cons.mp nd).2 (by simpa using h1) (by simpa using h2) hk
theorem cP{kindOf:Str->Option NameKind}{x:Str}{v:Value}:∀ {P:List Str} {vs:List Value} {i:Nat} {m:Str->Option Value},P.Nodup->P[i]? =some x->vs[i]? =some v->kindOf x≠some .local →
  bindC kindOf (P.zip vs) m x=some v
 | [],_,_,_,_,h,_,_=>by simp at h
 | _::_,[],_,_,_,_,h,_=>by simp at h
 | p::P,w::vs,0,m,nd,h1,h2,hk=>by
  simp at h1 h2;subst h1;subst h2
  show bindC kindOf ((p,w)::P.zip vs) m p=_
  unfold bindC
  rw[cN λv hv=>(List.nodup_cons.mp nd).1 (List.of_mem_zip hv).1,if_neg hk]
  simp
 | p::P,w::vs,i+1,m,nd,h1,h2,hk=>by
  show bindC kindOf ((p,w)::P.zip vs) m x=_
  unfold bindC
  exact cP (i:=i) (List.nodup_cons.mp nd).2 (by simpa using h1) (by simpa using h2) hk
def A4(N:List Str)(vs:List V):St:=vs.map some++List.replicate (N.length - vs.length) none
def GB(CX:FG)(P:Program)(w:World)(K:W.Frag)(mg:Str->Option Value)(base:Heap)(N:List Str)(qual:Str)(scope:Scope)(f:Addr)(cd:Value)(A:Around)(outer:List Env)(s:Shared)(H:Hp)(E:XK):Cx where
 prog:=P
 w:=w
 K:=K
 mg:=mg
 base:=base
 A:=A.deeper (envOfC qual scope s.heap.objs.size f cd)
 N:=N
 s₀:=s
 H₀:=H
 env:=envOfC qual scope s.heap.objs.size f cd
 outer:=outer
 stack:=envOfC qual scope s.heap.objs.size f cd::outer
 ex:=[]
 calm:=true
 fn:=λ_=>true
 pn:=[]
 xe:=λe s'=>wpAny (model P w) (A.deeper (envOfC qual scope s.heap.objs.size f cd)) (leaving (envOfC qual scope s.heap.objs.size f cd) e) (λ_ s''=>CX outer H s E e s'') (λe' s''=>CX outer H s E e' s'') s'
theorem cQ{sc:Scope}{n:Nat}{x:Str}(h:sc.names.lookup x=some .cell):∃ c,(cellsFrom n sc.names []).lookup x=some c:=by
 have q:=W.cellsFrom_some sc.names n [] (.inl h)
 exact Option.isSome_iff_exists.mp q
theorem uP{CX:FG}{P:Program}{w:World}{K:W.Frag}{mg:Str->Option Value}{base:Heap}{N ps:List Str}{qual:Str}{scope:Scope}{f:Addr}{cd:Value}{A:Around}{outer:List Env}{s s1:Shared}{H:Hp}{E:XK}{us:List Value}{vs:List V}
  (S:FnScope N ps scope) (hd:A.handled=none) (e0:Env0 P w K mg base A outer s H) (hl:vs.length=ps.length) (r:Vals vs us)
  (x:InCallC s s.heap.objs.size (bindL (envOfC qual scope s.heap.objs.size f cd).kindOf (ps.zip us) λ_=>none) (cellsFrom (s.heap.objs.size+1) scope.names []) (bindC (envOfC qual scope s.heap.objs.size f cd).kindOf (ps.zip us) λ_=>none) s1) :
  Inv (GB CX P w K mg base N qual scope f cd A outer s H E) [] (A4 N vs) H s1:=by
 have CT:ps.length<=N.length:=by have:=congrArg List.length S.pre;rw[List.length_take]at this;omega
 obtain⟨h1,tk,rfl,hk⟩:=x.done
 have noA:∀ b:Addr,b∉(GB CX P w K mg base N qual scope f cd A outer s H E).ex:=λb z=>absurd (show b∈([]:List Addr)from z) (by simp)
 refine⟨⟨e0.mod,S.kind,rfl,rfl,Nat.le_refl _,λy z c h1 h2=> ?_,λy hy=> ?_,λy c _ h=> ?_,λ_=>hd,Around.frames_deeper e0.frames,.inr ⟨rfl,rfl⟩,λb z=>absurd z (noA b),e0.bs,e0.bsz,λb _ _=>noA b,λb z=>absurd z (noA b),e0.funs,e0.frf⟩,
  rfl,e0.bare,Un.kept hk,⟨_,x.toInCall.ns,λi y v h1 h2 h3=> ?_⟩,λy c h=>⟨_,x.cell y c h⟩,e0.hok.fresh (Nat.le_refl _),λy c h=> ?_,λp hp=>absurd (show p∈([]:List (Addr × Obj))from hp) (by simp),e0.hok.kept hk,?_⟩
 ·exact name_of_addr x.apart (PySem.mem_of_lookup h1) (PySem.mem_of_lookup h2)
 ·have hy:scope.names.lookup y=some .cell\/scope.names.lookup y=some .free:=hy
  rcases hy with hy | hy
  ·exact cQ hy
  ·exact absurd rfl (S.nofree _ (PySem.mem_of_lookup hy))
 ·exact Nat.le_of_lt (x.above y c (PySem.mem_of_lookup h))
 ·have hi:i<vs.length:=by
   unfold A4 at h2
   by_cases hi:i<vs.length
   ·exact hi
   ·rw[List.getElem?_append_right (by simpa using hi)]at h2
    rw[List.getElem?_replicate]at h2
    split at h2<;>cases h2
  have ha:vs[i]? =some v:=by
   unfold A4 at h2
   rw[List.getElem?_append_left (by simpa using hi),List.getElem?_map]at h2
   cases e:vs[i]? with
   | none=>rw[e]at h2;cases h2
   | some a=>rw[e]at h2;cases h2;rfl
  obtain⟨u,hu,rv⟩:=r.get ha
  have hp:ps[i]? =some y:=by
   rw[<-S.pre,List.getElem?_take_of_lt (by omega)];exact h1
  have ndP:ps.Nodup:=by rw[<-S.pre];exact S.nd.sublist (List.take_sublist _ _)
  refine⟨u,rv,?_⟩
  rcases S.par y (List.mem_of_getElem? hp)with k | k
  ·exact .inl ⟨k,cO ndP hp hu k⟩
  ·obtain⟨c,e⟩:=cQ (n:=s.heap.objs.size+1) k
   refine .inr ⟨.inl k,c,e,?_⟩
   have q:=x.cell y c e
   rw[cP ndP hp hu (by show scope.names.lookup y≠_;rw[k];decide)]at q
   exact q
 ·exact e0.hok.fresh (Nat.le_of_lt (x.above y c (PySem.mem_of_lookup h)))
 ·unfold A4
  show _=N.length
  rw[List.length_append,List.length_map,List.length_replicate]
  omega
theorem cR{CX:FG}{P:Program}{w:World}{K:W.Frag}{mg:Str->Option Value}{base:Heap}{k:Nat}{f:Addr}{name qual:Str}{params:Arguments}{body:List Stmt}{scope:Scope}{dV kV doc pm BM ct oc:Value}{an od:Option Addr}
  {osl:Array (Option Value)} {N ps:List Str} {sp:Sp} (lk:K.lookup f=some ⟨oc,od,.func (W.fnOf name qual params body scope dV kV doc pm an BM ct),osl⟩) (GQ:W.codeIn K BM qual=true) (S:FnScope N ps scope)
  (len:∀ vs H Q E,sp vs H Q E->vs.length=ps.length)
  (N8:∀ (A:Around) (outer:List Env) (s:Shared) (H:Hp) (vs:List V) (Q:VK) (E:XK),Room k (A.deeper (envOfC qual scope s.heap.objs.size f BM))->sp vs H Q E →
   ∃ t,PSs (GB CX P w K mg base N qual scope f BM A outer s H E) body t/\t { nx:=λ_ H'=>Q .non H',rt:=Q } (A4 N vs) H) :
  FnOk P w K mg base CX (k+1) f (W.fnOf name qual params body scope dV kV doc pm an BM ct) ps sp:=by
 refine⟨len,λA outer s H args us vs Q E hr e0 hb r hsp=> ?_⟩
 have hl:=len _ _ _ _ hsp
 have KX:K.In s.heap:=e0.mod.kin.keeps λb o e=>(e0.bs b o e).1
 have lim:s.heap.NoLimit:=e0.mod.nolimit.keeps λb o e=>(e0.bs b o e).1
 have hkind:∀ y∈ps.zip us,scope.names.lookup y.1=some .local\/(scope.names.lookup y.1=some .cell/\((cellsFrom (s.heap.objs.size+1) scope.names []).lookup y.1).isSome=true):=λ⟨n,v⟩ hy=>by
  rcases S.par n (List.of_mem_zip hy).1 with q | q
  ·exact .inl q
  ·exact .inr ⟨q,W.cellsFrom_some _ _ _ (.inl q)⟩
 refine codeAny_call_function hr.depth (KX _ _ lk) rfl S.co S.gen rfl (W.codeRec_of KX GQ) (hb _ _ _ _ ?_)
 refine wpAny_newFunctionEnv_cells S.kind hkind λenv he s1 x=> ?_
 subst he
 refine⟨lim.keeps x.toInCall.keep,codeAny_func ?_⟩
 obtain⟨t,ht,hq⟩:=N8 A outer s H vs Q E (hr.deeper _) hsp
 have I:Inv (GB CX P w K mg base N qual scope f BM A outer s H E) [] (A4 N vs) H s1:=uP S hr.hd e0 hl r x
 refine wpAny_mono (ht [] s1 (A4 N vs) H _ I hq) (λfl s' hs=> ?_) λe s' hs=>hs
 have fin:∀ {σ':St} {H':Hp} {v:V} {u:Value},Inv (GB CX P w K mg base N qual scope f BM A outer s H E) [] σ' H' s'->RelV v u->Q v H'->CE outer P w H s Q u s' :=
  λ{σ' H' v u} J rv q=>⟨v,H',J.os,J.bare,J.base,J.hok,rv,q⟩
 cases fl with
 | ret u =>
  obtain⟨v,σ',H',J,rv,q⟩:=hs
  exact fin J rv q
 | next =>
  obtain⟨σ',H',J,q⟩:=hs
  exact fin (v:=V.non) (u:=Value.none) J rfl q
 | brk =>
  obtain⟨_,_,_,q⟩:=hs
  exact False.elim q
 | cont =>
  obtain⟨_,_,_,q⟩:=hs
  exact False.elim q
end L2
namespace L2
section
variable{X:Cx}{x:Str}{p pos:Pos}{e:Expr}{es:List Expr}{t:TA}{id T:String}{r:List V->Hp->VK->Prop}
def BO(r:List V->Hp->VK->Prop)(t:TA):TE:=λσ H Q=>t σ H λvs H1=>r vs H1 Q
theorem DA(hc:CallR X (.builtin id) r)(hg:Gl X x)(hm:X.mg x=none)(hv:bootBuiltins x=some (.builtin id))(ha:PA X (e::es) t)(hn:x≠"__name__":=by decide)(hdb:(x ==("__debug__":Str))=false:=by decide)
  (he:starEach (e::es) X.env=(false,eval e X.env)::starEach es X.env:=by rfl) (CT:(backTo pos (starEach es X.env)).any (·.1)=false:=by rfl):PE X (.Call (.Name x p) (e::es) [] pos) (BO r t):=by
 intro AA s σ H Q I h
 refine wpAny_Call_Name_kw (MC I hg hm hv ?_ hn hdb)
 exact PyProof.Rows.callWith_builtin1 (AR (ha pos AA s σ H _ I h) λus s1 ⟨vs,H1,I1,r1,q1⟩=>hc AA s1 σ H1 vs us Q I1 r1 q1) he CT
theorem EE(hc:CallR X (.type T) r)(hg:Gl X x)(hm:X.mg x=none)(hv:bootBuiltins x=some (.type T))(ha:PA X (e::es) t)(hn:x≠"__name__":=by decide)(hdb:(x ==("__debug__":Str))=false:=by decide)
  (he:starEach (e::es) X.env=(false,eval e X.env)::starEach es X.env:=by rfl) (CT:(backTo pos (starEach es X.env)).any (·.1)=false:=by rfl):PE X (.Call (.Name x p) (e::es) [] pos) (BO r t):=by
 intro AA s σ H Q I h
 refine wpAny_Call_Name_kw (MC I hg hm hv ?_ hn hdb)
 exact PyProof.Rows.callWith_type1 (AR (ha pos AA s σ H _ I h) λus s1 ⟨vs,H1,I1,r1,q1⟩=>hc AA s1 σ H1 vs us Q I1 r1 q1) he CT
end
end L2
namespace HT
open PySem PyProof.Rows
section
open PySem.SeqAt
open PySem.AutoSeq1 (wpAny_loadPart')
open PySem.MeetsSeq PySem.MeetsSeq2 PySem.MeetsSeq3
end
section
variable{prog:Program}{w:World}{A:Around}{E:Value->Shared->Prop}{s:Shared}
theorem cat_tup{t b:Addr}{vs ws:List Value}{Q:Value->Shared->Prop}(ht:IsTup s.heap t vs.toArray)(hb:IsTup s.heap b ws.toArray)(hv:vs≠[])
  (h1:ws=[]->Q (.ref t) s) (h2:ws≠[]->Q (.ref s.heap.objs.size) { s with heap:=s.heap.push { cls:=.type "tuple",data:=.seq (vs++ws).toArray } })
  (hsz:vs.length+ws.length<=sizeLine):wpAny (model prog w) A (binaryOp .Add (.ref t) (.ref b)) Q E s:=by
 obtain⟨⟨cls,dd,data,sl⟩,ho,hc,n,hd⟩:=id ht
 obtain⟨⟨cls2,dd2,data2,sl2⟩,ho2,hc2,n2,hd2⟩:=id hb
 simp only at hc hd hc2 hd2
 subst hc hd hc2 hd2
 have e:vs.toArray++ws.toArray=(vs++ws).toArray:=by simp
 by_cases hw:ws=[]
 ·exact concat_meets ⟨_,ho,rfl⟩ ⟨_,ho2,rfl⟩ noFill_tuple_add seq_tuple_add PySem.F.slot_tuple_add PySem.F.entry_tuple_add (PySem.F.args_tuple_add_2 _ _)
   (tuple_addW1 t b vs.toArray ws.toArray n n2 dd dd2 sl sl2 (by simpa using hv) (by simp[hw])) ⟨ho,ho2,h1 hw⟩
 ·refine concat_meets ⟨_,ho,rfl⟩ ⟨_,ho2,rfl⟩ noFill_tuple_add seq_tuple_add PySem.F.slot_tuple_add PySem.F.entry_tuple_add (PySem.F.args_tuple_add_2 _ _)
   (tuple_addW2 t b vs.toArray ws.toArray n n2 dd dd2 sl sl2 (by simpa using hv) (by simpa using hw) (by rw[List.size_toArray,List.size_toArray];exact hsz)) ⟨ho,ho2,?_⟩
  rw[e]
  exact h2 hw
def sIx(n d:Nat):Option Int->Nat
 | none=>d
 | some v=>if v<0 then(v+(n:Int)).toNat else min v.toNat n
theorem uQ(n d:Nat)(hd:d<=n)(o:Option Int):sIx n d o<=n:=by
 cases o with
 | none=>exact hd
 | some v =>
  show(if v<0 then(v+(n:Int)).toNat else min v.toNat n)<=n
  by_cases hv:v<0
  ·rw[if_pos hv];omega
  ·rw[if_neg hv];exact Nat.min_le_right _ _
theorem cS(v:Int)(n d:Nat):(if v<0 then max (v+(n:Int)) 0 else min v (n:Int))=((sIx n d (some v):Nat):Int):=by
 show(if v<0 then max (v+(n:Int)) 0 else min v (n:Int))=(((if v<0 then(v+(n:Int)).toNat else min v.toNat n):Nat):Int)
 by_cases hv:v<0
 ·simp only[if_pos hv];omega
 ·simp only[if_neg hv];omega
theorem uR(lo hi:Option Int)(n:Nat):Builtin.Slice.sliceAdjust lo hi 1 (n:Int)=(((sIx n 0 lo:Nat):Int),((sIx n n hi:Nat):Int)):=by
 have h1:¬ ((1:Int)<0):=by omega
 unfold Builtin.Slice.sliceAdjust
 simp only[h1,if_false]
 refine Prod.ext ?_ ?_
 ·cases lo with
  | none=>rfl
  | some v=>exact cS v n 0
 ·cases hi with
  | none=>rfl
  | some v=>exact cS v n n
theorem uS(i j:Nat):Builtin.Slice.slicePlaces (i:Int) (j:Int) 1=j - i:=by
 unfold Builtin.Slice.slicePlaces
 have h1:(1:Int) > 0:=by omega
 simp only[h1,if_true,Int.ediv_one]
 split<;>omega
theorem cT{v:Value}{o:Option Int}{Q:Option Int->Shared->Prop}(p:IsPart v o)(h:Q o s):wpAny (model prog w) A (Builtin.Slice.slicePartIndex v) Q E s:=by
 cases p with
 | none=>exact slicePart_none h
 | int i t=>exact slicePart_int h
theorem uT{sl:Addr}{vl vu:Value}{lo hi:Option Int}{n:Nat}{Q:Int × Int × Nat->Shared->Prop}(hs:s.heap.IsSliceOf sl vl vu .none)(pl:IsPart vl lo)(pu:IsPart vu hi)
  (h:Q (((sIx n 0 lo:Nat):Int),1,sIx n n hi - sIx n 0 lo) s):wpAny (model prog w) A (Builtin.Slice.sliceApplied (.ref sl) (pure (n:Int))) Q E s:=by
 obtain⟨os,hos,hcs,hds⟩:=id hs
 unfold Builtin.Slice.sliceApplied Builtin.Slice.sliceFields
 refine wpAny_bind (wpAny_bind (wpAny_field hos hds (x:=vl) rfl (wpAny_bind (wpAny_field hos hds (x:=vu) rfl (wpAny_bind (wpAny_field hos hds (x:=.none) rfl (wpAny_pure ?_)))))))
 refine wpAny_bind (slicePart_none ?_)
 show wpAny _ _ (if((1:Int) == 0)=true then _ else _) _ _ s
 rw[if_neg (by decide)]
 refine wpAny_bind (cT pl (wpAny_bind (cT pu (wpAny_bind (wpAny_pure ?_)))))
 show wpAny _ _ (match Builtin.Slice.sliceAdjust lo hi 1 (n:Int)with | (lo,hi)=>pure (lo,(1:Int),Builtin.Slice.slicePlaces lo hi 1)) _ _ s
 rw[uR lo hi n]
 show wpAny _ _ (pure (((sIx n 0 lo:Nat):Int),(1:Int),Builtin.Slice.slicePlaces ((sIx n 0 lo:Nat):Int) ((sIx n n hi:Nat):Int) 1)) _ _ s
 rw[uS]
 exact wpAny_pure h
theorem uU(xs:Array Value)(i k:Nat):((List.range k).filterMap λ(m:Nat)=>xs[((i:Int)+(m:Int) * 1).toNat]?).toArray=((xs.toList.drop i).take k).toArray:=by
 have e:(λ(m:Nat)=>xs[((i:Int)+(m:Int) * 1).toNat]?)=λm=>xs[i+m]? :=by
  funext m
  have:((i:Int)+(m:Int) * 1).toNat=i+m:=by omega
  rw[this]
 rw[e]
 have:=pick_run xs i k
 rw[List.filterMap_map]at this
 have e2:((λx=>xs[x]?) ∘ λx=>i+x)=λm=>xs[i+m]? :=rfl
 rw[e2]at this
 rw[this]
theorem getItem_tuple_cut{t sl:Addr}{BH:Array Value}{vl vu:Value}{lo hi:Option Int}{Q:Value->Shared->Prop}(ht:IsTup s.heap t BH)(hs:s.heap.IsSliceOf sl vl vu .none)(pl:IsPart vl lo)(pu:IsPart vu hi)
  (hw:¬ (sIx BH.size 0 lo=0/\sIx BH.size BH.size hi=BH.size))
  (h:Q (.ref s.heap.objs.size) { s with heap:=s.heap.push { cls:=.type "tuple",data:=.seq ((BH.toList.drop (sIx BH.size 0 lo)).take (sIx BH.size BH.size hi - sIx BH.size 0 lo)).toArray } })
  (hsz:BH.size<=sizeLine):wpAny (model prog w) A (getItem (.ref t) (.ref sl)) Q E s:=by
 have htake:sizeOk (.seq ((BH.toList.drop (sIx BH.size 0 lo)).take (sIx BH.size BH.size hi - sIx BH.size 0 lo)).toArray):=by
  show((BH.toList.drop (sIx BH.size 0 lo)).take (sIx BH.size BH.size hi - sIx BH.size 0 lo)).toArray.size<=sizeLine
  rw[List.size_toArray,List.length_take,List.length_drop,Array.length_toList]
  omega
 have hj:sIx BH.size BH.size hi<=BH.size:=uQ _ _ (Nat.le_refl _) hi
 obtain⟨os,hos,hcs,hds⟩:=id hs
 have hTs:s.TypeIs (.ref sl) "slice":=⟨os,hos,hcs⟩
 unfold getItem
 try with_reducible refine wpAny_holding ?_
 first | refine wpAny_bind (wpAny_pure ?_) | skip
 refine wpAny_bind (wpAny_sequenceKey ht.typeIs (by decide) ?_)
 refine wpAny_bind (wpAny_callSpecial?_slot (name:=Str.ofString "__getitem__") ht.typeIs PyProof.Rows.slot_tuple_getitem
  (wpAny_call_entry PyProof.Rows.slot_tuple_getitem ht.typeIs entry_tuple_getitem ?_ (args_tuple_getitem _ _)))
 show wpAny _ _ (Builtin.Tuple.tupleItemsOf (.ref t) >>= _) _ _ s
 refine wpAny_bind (tupleItemsOf_ ht ?_)
 refine wpAny_bind (wpAny_typeOf hTs ?_)
 rw[if_pos (by decide)]
 refine wpAny_bind (uT hs pl pu ?_)
 have hno:¬ ((((sIx BH.size 0 lo:Nat):Int) == 0 && (1:Int) == 1 && (sIx BH.size BH.size hi - sIx BH.size 0 lo) == BH.size)=true):=by
  intro q
  rw[Bool.and_eq_true,Bool.and_eq_true]at q
  have q1:((sIx BH.size 0 lo:Nat):Int)=0:=eq_of_beq q.1.1
  have q2:sIx BH.size BH.size hi - sIx BH.size 0 lo=BH.size:=eq_of_beq q.2
  exact hw ⟨by omega,by omega⟩
 show wpAny _ _ (if(((sIx BH.size 0 lo:Nat):Int) == 0 && (1:Int) == 1 && (sIx BH.size BH.size hi - sIx BH.size 0 lo) == BH.size)=true then _ else _) _ _ s
 rw[if_neg hno,uU]
 first
  | exact wpAny_bind (m:=Builtin.Tuple.tupleExact _) (wpAny_newObj_type (wpAny_pure ⟨_,rfl,wpAny_pure h⟩) htake)
  | exact wpAny_bind (m:=Builtin.Tuple.tupleExact _) (wpAny_newObj_type (wpAny_bind (wpAny_pure (wpAny_pure ⟨_,rfl,wpAny_pure h⟩))) htake)
  | exact wpAny_bind (wpAny_bind (m:=Builtin.Tuple.tupleExact _) (wpAny_newObj_type (wpAny_pure (wpAny_pure ⟨_,rfl,wpAny_pure h⟩)) htake))
  | exact wpAny_bind (wpAny_bind (m:=Builtin.Tuple.tupleExact _) (wpAny_newObj_type (wpAny_pure ⟨_,rfl,wpAny_pure h⟩) htake))
end
end HT
namespace L2
abbrev TO:=St->Hp->(Option Int->Hp->Prop)->Prop
def PO(X:Cx)(e:Option Expr)(t:TO):Prop :=
 ∀ (AA:List (Addr × Obj)) (s:Shared) (σ:St) (H:Hp) (Q:Option Int->Hp->Prop),Inv X AA σ H s->t σ H Q →
  wpAny (model X.prog X.w) X.A (evalPart e X.env) (λu s'=>∃ o H',Inv X AA σ H' s'/\IsPart u o/\Q o H') X.xe s
def KM:TO:=λ_ H Q=>Q none H
def KN(t:TE):TO:=λσ H Q=>t σ H λx H1=>∃ i,x=.int i/\Q (some i) H1
section
variable{X:Cx}{e:Expr}{te:TE}{lo hi:Option Expr}{tl th:TO}{pos p2:Pos}
theorem OU:PO X none KM:=by
 intro AA s σ H Q I h
 rw[evalPart_none]
 exact wpAny_pure ⟨none,H,I,.none,h⟩
theorem OV(h:PE X e te):PO X (some e) (KN te):=by
 intro AA s σ H Q I hw
 rw[evalPart_some]
 refine AR (h AA s σ H _ I hw) λu s1 hzz=> ?_
 obtain⟨x,H1,I1,r1,q1⟩:=hzz
 obtain⟨i,rfl,q⟩:=q1
 obtain⟨t,rfl⟩:=r1
 exact⟨some i,H1,I1,.int i t,q⟩
def SlR(X:Cx)(r:V->Option Int->Option Int->Hp->VK->Prop):Prop :=
 ∀ (AA:List (Addr × Obj)) (s:Shared) (σ:St) (H:Hp) (x:V) (v vl vu:Value) (lo hi:Option Int) (sl:Addr) (Q:VK),Inv X AA σ H s->RelV x v->s.heap.IsSliceOf sl vl vu .none->IsPart vl lo->IsPart vu hi->r x lo hi H Q →
  ∃ T id,typeLookup (.type T) "__getitem__"=pure (some (.builtin id))/\s.TypeIs v T/\wpAny (model X.prog X.w) X.A (getItem v (.ref sl)) (EP X AA σ Q) X.xe s
theorem SlR.or{r r':V->Option Int->Option Int->Hp->VK->Prop}(h:SlR X r)(h':SlR X r'):SlR X (λx lo hi H Q=>r x lo hi H Q\/r' x lo hi H Q):=by
 intro AA s σ H x v vl vu lo hi sl Q I rx hs pl pu q
 rcases q with q | q
 ·exact h AA s σ H x v vl vu lo hi sl Q I rx hs pl pu q
 ·exact h' AA s σ H x v vl vu lo hi sl Q I rx hs pl pu q
def KO(r:V->Option Int->Option Int->Hp->VK->Prop)(te:TE)(tl th:TO):TE:=λσ H Q=>te σ H λx H1=>tl σ H1 λl H2=>th σ H2 λu H3=>r x l u H3 Q
theorem OW{r:V->Option Int->Option Int->Hp->VK->Prop}(hr:SlR X r)(he:PE X e te)(hl:PO X lo tl)(hu:PO X hi th):PE X (.Subscript e (.Slice lo hi none p2) pos) (KO r te tl th):=by
 intro AA s σ H Q I h
 refine Subscript_ (AR (he AA s σ H _ I h) λv s1 hzz=> ?_)
 obtain⟨x,H1,I1,r1,q1⟩:=hzz
 refine wpAny_Slice (AR (hl AA s1 σ H1 _ I1 q1) λvl s2 ⟨l,H2,I2,pl,q2⟩=>AR (hu AA s2 σ H2 _ I2 q2) λvu s3 hzz=> ?_)
 obtain⟨u,H3,I3,pu,q3⟩:=hzz
 rw[evalPart_none]
 refine wpAny_pure ?_
 have I4:Inv X AA σ H3 { s3 with heap:=s3.heap.push { cls:=.type "slice",data:=.fields #[vl,vu,.none] } }:=I3.kept (t':=s3.toks) λb ob q=>Heap.get?_push_of_some _ q
 obtain⟨T,id,hT,ht,hg⟩:=hr AA { s3 with heap:=s3.heap.push { cls:=.type "slice",data:=.fields #[vl,vu,.none] } } σ H3 x v vl vu l u s3.heap.objs.size Q I4 r1 (Heap.IsSliceOf.new ..) pl pu q3
 show wpAny (model X.prog X.w) X.A (subscriptTail e (.Slice lo hi none p2) v (.ref s3.heap.objs.size)) (EP X AA σ Q) X.xe { s3 with heap:=s3.heap.push { cls:=.type "slice",data:=.fields #[vl,vu,.none] } }
 exact tail_any (ops:=[.ref s3.heap.objs.size,v]) ht hT hg (by with_unfolding_all rfl)
def KP(xs:List V)(lo hi:Option Int):List V:=(xs.drop (HT.sIx xs.length 0 lo)).take (HT.sIx xs.length xs.length hi - HT.sIx xs.length 0 lo)
theorem cU(xs:List V)(lo hi:Option Int):(KP xs lo hi).length<=xs.length:=by
 unfold KP
 rw[List.length_take,List.length_drop]
 omega
def cV(K:W.Frag):V->Option Int->Option Int->Hp->VK->Prop:=λx lo hi H Q=>∃ a xs,x=.ref a/\SqT K H a xs ∧
 ¬ (HT.sIx xs.length 0 lo=0/\HT.sIx xs.length xs.length hi=xs.length)/\∀ p,H p=none->Q (.ref p) (upd H p (.tup (KP xs lo hi)))
theorem uV:SlR X (cV X.K):=by
 intro AA s σ H x v vl vu lo hi sl Q I rx hs pl pu h
 obtain⟨a,xs,rfl,hx,hw,q⟩:=h
 cases rx
 obtain⟨its,r,ht,hz⟩:=I.tuple hx
 have BT:its.toArray.size=xs.length:=by rw[List.size_toArray];exact r.length.symm
 refine⟨"tuple",_,PyProof.Rows.slot_tuple_getitem.lookup,ht.typeIs,?_⟩
 refine HT.getItem_tuple_cut ht hs pl pu (by rw[BT];exact hw) ?_ (by rw[BT];exact hz)
 rw[BT]
 refine⟨.ref s.heap.objs.size,_,I.laid (t':=s.toks) (o:=.tup (KP xs lo hi)) (λb ob q=>Heap.get?_push_of_some _ q) (Nat.le_refl _) ?_,rfl,q _ (I.hok.fresh (Nat.le_refl _))⟩
 exact⟨Nat.le_trans (cU xs lo hi) hz,_,(r.drop (HT.sIx xs.length 0 lo)).take (HT.sIx xs.length xs.length hi - HT.sIx xs.length 0 lo),IsTup.new _ _⟩
def SK(K:W.Frag):R2:=λx y H Q=>∃ a b xs ys,x=.ref a/\y=.ref b/\SqT K H a xs/\SqT K H b ys/\xs≠[]/\xs.length+ys.length<=sizeLine ∧
 (ys=[]->Q (.ref a) H)/\(ys≠[]->∀ p,H p=none->Q (.ref p) (upd H p (.tup (xs++ys))))
theorem Vals.nil_iff{xs:List V}{us:List Value}(r:Vals xs us):us=[]↔xs=[]:=by
 cases r with
 | nil=>simp
 | cons _ _=>simp
theorem uW:OpR X (binaryOp .Add) (SK X.K):=by
 intro AA s σ H x y v u Q I rx ry h
 obtain⟨a,b,xs,ys,rfl,rfl,ha,hb,hx,hz,q1,q2⟩:=h
 cases rx
 cases ry
 obtain⟨its,r1,p1,_⟩:=I.tuple ha
 obtain⟨N7,r2,p2,_⟩:=I.tuple hb
 refine HT.cat_tup p1 p2 (λz=>hx (r1.nil_iff.mp z)) (λz=>⟨.ref a,H,I,rfl,q1 (r2.nil_iff.mp z)⟩) (λz=> ?_) (by rw[<-r1.length,<-r2.length];exact hz)
 refine⟨.ref s.heap.objs.size,_,I.laid (t':=s.toks) (o:=.tup (xs++ys)) (λb ob q=>Heap.get?_push_of_some _ q) (Nat.le_refl _) ?_,rfl,q2 (λw=>z (r2.nil_iff.mpr w)) _ (I.hok.fresh (Nat.le_refl _))⟩
 exact⟨by rw[List.length_append];exact hz,_,r1.append r2,IsTup.new _ _⟩
end
end L2
namespace L2
def HD(n:Nat)(i:Int):Option Nat:=if 0<=i then(if i<n then some i.toNat else none)else if -(n:Int)<=i then some (i+n).toNat else none
def IB{α :Type}(xs:List α)(i:Int):Option α :=(HD xs.length i).bind λj=>xs[j]?
theorem cW{n:Nat}{i:Int}{j:Nat}(h:HD n i=some j):seqIndex? i n=some j/\j<n/\ -(n:Int)<=i/\i<n:=by
 unfold HD at h
 by_cases h0:0<=i
 ·rw[if_pos h0]at h
  by_cases h1:i<n
  ·rw[if_pos h1]at h
   have e:i.toNat=j:=Option.some.inj h
   exact⟨by rw[seqIndex_of h0 h1,e],by omega,by omega,h1⟩
  ·rw[if_neg h1]at h;cases h
 ·rw[if_neg h0]at h
  by_cases h1: -(n:Int)<=i
  ·rw[if_pos h1]at h
   have e:(i+n).toNat=j:=Option.some.inj h
   exact⟨by rw[seqIndex_neg (by omega) h1,e],by omega,h1,by omega⟩
  ·rw[if_neg h1]at h;cases h
theorem SL{α :Type}{xs:List α}{i:Int}{v: α}(h:IB xs i=some v):∃ j,seqIndex? i xs.length=some j/\xs[j]? =some v/\j<xs.length/\ -(xs.length:Int)<=i/\i<xs.length:=by
 unfold IB at h
 cases e:HD xs.length i with
 | none=>rw[e]at h;cases h
 | some j =>
  rw[e]at h
  obtain⟨h1,h2,h3,h4⟩:=cW e
  exact⟨j,h1,h,h2,h3,h4⟩
theorem SN{α :Type}{xs:List α}{j:Nat}{v: α}(h:xs[j]? =some v):IB xs (j:Int)=some v:=by
 have hj:j<xs.length:=(List.getElem?_eq_some_iff.mp h).1
 have e:HD xs.length (j:Int)=some j:=by
  unfold HD
  rw[if_pos (by omega),if_pos (by omega)];simp
 unfold IB;rw[e];exact h
def cX(b:Expr):Prop:=∀ o i,subscripted b false o i=operate [o,i] (getItem o i)
def IxR(X:Cx)(r:R2):Prop :=
 ∀ (value slice:Expr) (AA:List (Addr × Obj)) (s:Shared) (σ:St) (H:Hp) (x y:V) (v u:Value) (Q:VK),Inv X AA σ H s->RelV x v->RelV y u->r x y H Q →
  subscripted slice false v u=operate [v,u] (getItem v u)->wpAny (model X.prog X.w) X.A (subscriptTail value slice v u) (EP X AA σ Q) X.xe s
def MtR(X:Cx)(id:String)(r:V->List V->Hp->VK->Prop):Prop :=
 ∀ (AA:List (Addr × Obj)) (s:Shared) (σ:St) (H:Hp) (x:V) (xs:List V) (v:Value) (us:List Value) (Q:VK),Inv X AA σ H s->RelV x v->Vals xs us->r x xs H Q →
  wpAny (model X.prog X.w) X.A (call (.builtin id) (v::us)) (EP X AA σ Q) X.xe s
section
variable{X:Cx}{a b:Expr}{ta tb:TE}{pos:Pos}
theorem IxR.or{r r':R2}(h:IxR X r)(h':IxR X r'):IxR X (λx y H Q=>r x y H Q\/r' x y H Q):=by
 intro value slice AA s σ H x y v u Q I rx ry q hs
 rcases q with q | q
 ·exact h value slice AA s σ H x y v u Q I rx ry q hs
 ·exact h' value slice AA s σ H x y v u Q I rx ry q hs
theorem MtR.or{id:String}{r r':V->List V->Hp->VK->Prop}(h:MtR X id r)(h':MtR X id r'):MtR X id (λx xs H Q=>r x xs H Q\/r' x xs H Q):=by
 intro AA s σ H x xs v us Q I rx rs q
 rcases q with q | q
 ·exact h AA s σ H x xs v us Q I rx rs q
 ·exact h' AA s σ H x xs v us Q I rx rs q
theorem CU{r:R2}(hr:IxR X r)(ha:PE X a ta)(hb:PE X b tb)(hs:cX b):PE X (.Subscript a b pos) (AF r ta tb):=by
 intro AA s σ H Q I h
 exact Subscript_ (SC ha hb I h λv u s2 x y H2 I2 rx ry q=>hr a b AA s2 σ H2 x y v u Q I2 rx ry q (hs _ _))
def cY(K:W.Frag):R2:=λx y H Q=>∃ p xs i v,x=.ref p/\y=.int i/\SqL K H p xs/\IB xs i=some v/\Q v H
def cZ(K:W.Frag):R2:=λx y H Q=>∃ p xs i v,x=.ref p/\y=.int i/\SqT K H p xs/\IB xs i=some v/\Q v H
def c5:R2:=λx y H Q=>∃ z i c,x=.str z/\y=.int i/\z.length<=sizeLine/\IB z.cps.toList i=some c/\Q (.str ⟨#[c]⟩) H
theorem uX:IxR X (cY X.K):=by
 intro value slice AA s σ H x y v u Q I rx ry h hs
 obtain⟨p,xs,i,z,rfl,rfl,hq,he,q⟩:=h
 cases rx
 obtain⟨t,rfl⟩:=ry
 obtain⟨its,r,pl,hz⟩:=I.list hq
 obtain⟨j,h1,h2,h3,h4,h5⟩:=SL he
 obtain⟨w,ew,rw'⟩:=r.get h2
 have hl:=r.length
 have hn:=KL
 have fin:EP X AA σ Q w s:=⟨z,H,I,rw',q⟩
 by_cases h0:0<=i
 ·have hj:i.toNat=j:=by
   rw[seqIndex_of h0 h5]at h1
   exact Option.some.inj h1
  exact item_listR pl.isList h0 (by omega) (by rw[hj];simpa using ew) fin hs
 ·have hj:(i+(its.toArray.size:Int)).toNat=j:=by
   rw[seqIndex_neg (by omega) h4]at h1
   rw[List.size_toArray,<-hl]
   exact Option.some.inj h1
  exact subscriptTail_builtinR (x:=w) pl.isList.typeIs slot_list_getitem.lookup
   (wpAny_getItem_list_neg (Q:=λr s'=>r=w/\EP X AA σ Q r s') pl.isList (by omega) (by rw[List.size_toArray]<;>omega) (by omega) (by rw[hj];simpa using ew) ⟨rfl,fin⟩) hs
theorem uY:IxR X (cZ X.K):=by
 intro value slice AA s σ H x y v u Q I rx ry h hs
 obtain⟨p,xs,i,z,rfl,rfl,hq,he,q⟩:=h
 cases rx
 obtain⟨t,rfl⟩:=ry
 obtain⟨its,r,pl,hz⟩:=I.tuple hq
 obtain⟨j,h1,h2,h3,h4,h5⟩:=SL he
 obtain⟨w,ew,rw'⟩:=r.get h2
 have hl:=r.length
 have hn:=KL
 have fin:EP X AA σ Q w s:=⟨z,H,I,rw',q⟩
 exact subscriptTail_builtinR (x:=w) pl.typeIs slot_tuple_getitem.lookup
  (getItem_tuple (j:=j) (Q:=λr s'=>r=w/\EP X AA σ Q r s') pl (by omega) (by omega) (by rw[List.size_toArray,<-hl];exact h1) (by simpa using ew) ⟨rfl,fin⟩) hs
theorem uZ:IxR X c5:=by
 intro value slice AA s σ H x y v u Q I rx ry h hs
 obtain⟨z,i,c,rfl,rfl,hz,he,q⟩:=h
 obtain⟨t,rfl⟩:=rx
 obtain⟨t',rfl⟩:=ry
 obtain⟨j,h1,h2,h3,h4,h5⟩:=SL he
 have hl:z.cps.toList.length=z.length:=by simp[Str.length]
 rw[hl]at h1 h4 h5
 have hn:=KL
 exact tail_any (typeIs_str s z t) slot_str_getitem.lookup (getItem_str (c:=c) (by
  have e1:decide (i< -(2 ^ 63:Int))=false:=decide_eq_false (by omega)
  have e2:decide (i ≥ 2 ^ 63)=false:=decide_eq_false (by omega)
  rw[e1,e2,Bool.or_false]) (by rw[h1];simpa using h2) ⟨.str ⟨#[c]⟩,H,I.tok _,⟨_,rfl⟩,q⟩) hs
def c6(K:W.Frag):R2:=λx y H Q=>cY K x y H Q\/cZ K x y H Q\/c5 x y H Q
theorem u1:IxR X (c6 X.K):=uX.or (uY.or uZ)
theorem u3(its:List Value)(n j:Nat)(u:Value):Obj.mapSeq (·.setIfInBounds j u) { cls:=.type "list",data:=.seq its.toArray n }={ cls:=.type "list",data:=.seq (its.set j u).toArray n }:=by
 simp[Obj.mapSeq]
theorem Inv.lst{AA:List (Addr × Obj)}{σ:St}{H:Hp}{s:Shared}{p:Addr}{xs:List V}(I:Inv X AA σ H s)(h:H p=some (.lst xs)) :
  ∃ (its:List Value) (n:Nat),Vals xs its/\s.heap.get? p=some { cls:=.type "list",data:=.seq its.toArray n }/\xs.length<=sizeLine:=by
 obtain⟨z,its,n,r,e⟩:=I.hok p _ h
 exact⟨its,n,r,e,z⟩
theorem Inv.lstUpd{AA:List (Addr × Obj)}{σ:St}{H:Hp}{s:Shared}{p:Addr}{xs ys:List V}{its its':List Value}{n n':Nat}{f:Obj->Obj}(I:Inv X AA σ H s)(h:H p=some (.lst xs))
  (ho:s.heap.get? p=some { cls:=.type "list",data:=.seq its.toArray n }) (hf:f { cls:=.type "list",data:=.seq its.toArray n }={ cls:=.type "list",data:=.seq its'.toArray n' }) (r:Vals ys its') (hz:ys.length<=sizeLine) (t:Nat) :
  Inv X AA σ (upd H p (.lst ys)) { s with heap:=s.heap.update p f,toks:=t }:=by
 have e:(s.heap.update p f).get? p=some { cls:=.type "list",data:=.seq its'.toArray n' }:=by
  rw[Heap.get?_update_self f ho (by rw[hf]<;>rfl),hf]
 refine I.write (x:=p) (e:=p) (by rw[h];trivial) (.inl rfl) (λb u hb q=>(Heap.get?_update_other _ _ (Ne.symm hb)).trans q) ⟨_,e⟩ ?_
 exact⟨hz,its',n',r,e⟩
def c7:V->V->V->Hp->(Hp->Prop)->Prop:=λo i v H Q=>∃ p xs k j,o=.ref p/\i=.int k/\H p=some (.lst xs)/\HD xs.length k=some j/\Q (upd H p (.lst (xs.set j v)))
theorem u4:R8 X c7:=by
 intro AA s σ H o i v ov iv u Q I ro ri rv h
 obtain⟨p,xs,k,j,rfl,rfl,hp,hj,q⟩:=h
 cases ro
 obtain⟨t,rfl⟩:=ri
 obtain⟨its,n,r,ho,hz⟩:=I.lst hp
 obtain⟨h1,h2,h3,h4⟩:=cW hj
 have hl:=r.length
 have hn:=KL
 have I':Inv X AA σ (upd H p (.lst (xs.set j v))) { s with heap:=s.heap.update p (Obj.mapSeq (·.setIfInBounds j u)) } :=
  I.lstUpd hp ho (u3 its n j u) (r.set rv j) (by rw[List.length_set];exact hz) s.toks
 by_cases h0:0<=k
 ·have hk:k.toNat=j:=by
   rw[seqIndex_of h0 h4]at h1
   exact Option.some.inj h1
  exact W.ki_setAt ho h0 (by omega) (by rw[List.size_toArray,<-hl];exact h4) (by rw[hk];exact⟨_,I',q⟩)
 ·have hk:(k+(its.toArray.size:Int)).toNat=j:=by
   rw[seqIndex_neg (by omega) h3]at h1
   rw[List.size_toArray,<-hl]
   exact Option.some.inj h1
  exact W.ki_setBack ho (by omega) (by rw[List.size_toArray,<-hl];exact h3) (by omega) (by rw[hk];exact⟨_,I',q⟩)
theorem u5(lo hi:Option Int)(n:Nat):(sliceBounds lo hi none n).1=((HT.sIx n 0 lo:Nat):Int)/\(sliceBounds lo hi none n).2.1=((HT.sIx n n hi:Nat):Int)/\(sliceBounds lo hi none n).2.2=1:=by
 refine⟨?_,?_,rfl⟩
 ·cases lo with
  | none=>simp[sliceBounds,HT.sIx]
  | some i =>
   simp only[sliceBounds,HT.sIx,Option.getD_none,show(1:Int) > 0 by decide,if_true]
   by_cases h:i<0
   ·simp only[h,if_true]<;>omega
   ·simp only[h,if_false]<;>omega
 ·cases hi with
  | none=>simp[sliceBounds,HT.sIx]
  | some i =>
   simp only[sliceBounds,HT.sIx,Option.getD_none,show(1:Int) > 0 by decide,if_true]
   by_cases h:i<0
   ·simp only[h,if_true]<;>omega
   ·simp only[h,if_false]<;>omega
theorem u6(its:List Value)(lo hi:Option Int):slicePick its.toArray lo hi none=((its.drop (HT.sIx its.length 0 lo)).take (HT.sIx its.length its.length hi - HT.sIx its.length 0 lo)).toArray:=by
 obtain⟨h1,h2,h3⟩:=u5 lo hi its.toArray.size
 unfold slicePick
 rw[h1,h2,h3]
 simp only[sliceRange_one,pick_run,List.size_toArray]<;>rfl
def c8(K:W.Frag):V->Option Int->Option Int->Hp->VK->Prop:=λx lo hi H Q=>∃ a xs,x=.ref a/\SqL K H a xs/\∀ p,H p=none->Q (.ref p) (upd H p (.lst (KP xs lo hi)))
theorem u7:SlR X (c8 X.K):=by
 intro AA s σ H x v vl vu lo hi sl Q I rx hs pl pu h
 obtain⟨a,xs,rfl,hx,q⟩:=h
 cases rx
 obtain⟨its,r,ht,hz⟩:=I.list hx
 have BT:=r.length
 refine⟨"list",_,slot_list_getitem.lookup,ht.isList.typeIs,?_⟩
 refine wpAny_getItem_list_slice ht.isList hs pl pu .none (by simp) ?_ (by rw[List.size_toArray]<;>omega)
 rw[u6,<-BT]
 refine⟨.ref s.heap.objs.size,_,I.laid (t':=s.toks) (o:=.lst (KP xs lo hi)) (λb ob q=>Heap.get?_push_of_some _ q) (Nat.le_refl _) ?_,rfl,q _ (I.hok.fresh (Nat.le_refl _))⟩
 exact⟨Nat.le_trans (cU xs lo hi) hz,_,0,(r.drop (HT.sIx xs.length 0 lo)).take (HT.sIx xs.length xs.length hi - HT.sIx xs.length 0 lo),Heap.get?_push_size _ rfl⟩
def GD:V->Bool
 | .non=>true
 | .bl _=>true
 | .int _=>true
 | .str _=>true
 | _=>false
def HE:V->V->Bool
 | .non,.non=>true
 | .bl a,.bl b=>a == b
 | .bl a,.int b=>(if a then 1 else 0) == b
 | .int a,.bl b=>a ==(if b then 1 else 0)
 | .int a,.int b=>a == b
 | .str a,.str b=>a == b
 | _,_=>false
theorem u8{A:Around}{s:Shared}{y x:V}{u v:Value}(ry:RelV y u)(rx:RelV x v)(fy:GD y=true)(fx:GD x=true):SeqAt.EqAt A s u v (HE y x):=by
 cases y with
 | non =>
  cases ry
  cases x with
  | non=>cases rx;exact SeqAt.EqAt.same _
  | bl b=>cases rx;exact SeqAt.EqAt.none_bool b
  | int b=>obtain⟨t,rfl⟩:=rx;exact SeqAt.EqAt.none_int b t
  | str b=>obtain⟨t,rfl⟩:=rx;exact SeqAt.EqAt.none_str b t
  | _=>exact absurd (show false=true from fx) Bool.false_ne_true
 | bl a =>
  cases ry
  cases x with
  | non=>cases rx;exact SeqAt.EqAt.bool_none a
  | bl b=>cases rx;exact SeqAt.EqAt.bool_bool a b
  | int b=>obtain⟨t,rfl⟩:=rx;exact SeqAt.EqAt.bool_int a b t
  | str b=>obtain⟨t,rfl⟩:=rx;exact SeqAt.EqAt.bool_str a b t
  | _=>exact absurd (show false=true from fx) Bool.false_ne_true
 | int a =>
  obtain⟨t',rfl⟩:=ry
  cases x with
  | non=>cases rx;exact SeqAt.EqAt.int_none a t'
  | bl b=>cases rx;exact SeqAt.EqAt.int_bool a t' b
  | int b=>obtain⟨t,rfl⟩:=rx;exact SeqAt.EqAt.int_int a t' b t
  | str b=>obtain⟨t,rfl⟩:=rx;exact SeqAt.EqAt.int_str a t' b t
  | _=>exact absurd (show false=true from fx) Bool.false_ne_true
 | str a =>
  obtain⟨t',rfl⟩:=ry
  cases x with
  | non=>cases rx;exact SeqAt.EqAt.str_none a t'
  | bl b=>cases rx;exact SeqAt.EqAt.str_bool a t' b
  | int b=>obtain⟨t,rfl⟩:=rx;exact SeqAt.EqAt.str_int a t' b t
  | str b=>obtain⟨t,rfl⟩:=rx;exact SeqAt.EqAt.str_str a t' b t
  | _=>exact absurd (show false=true from fx) Bool.false_ne_true
 | _=>exact absurd (show false=true from fy) Bool.false_ne_true
def IC(x:V)(u:Value):Bool:=match u with
 | .none=>HE .non x
 | .bool b=>HE (.bl b) x
 | .int i _=>HE (.int i) x
 | .str z _=>HE (.str z) x
 | _=>false
theorem c9{x y:V}{u:Value}(r:RelV y u)(f:GD y=true):IC x u=HE y x:=by
 cases y with
 | non=>cases r;rfl
 | bl b=>cases r;rfl
 | int i=>obtain⟨t,rfl⟩:=r;rfl
 | str z=>obtain⟨t,rfl⟩:=r;rfl
 | _=>exact absurd (show false=true from f) Bool.false_ne_true
theorem SO{x:V}:∀ {xs:List V} {us:List Value},Vals xs us->xs.all GD=true->us.any (IC x)=xs.any λy=>HE y x
 | _,_,.nil,_=>rfl
 | y::xs,u::us,.cons r t,f=>by
  rw[List.all_cons,Bool.and_eq_true]at f
  rw[List.any_cons,List.any_cons,c9 r f.1,SO t f.2]
theorem SQ{A:Around}{s:Shared}{x:V}{v:Value}(rx:RelV x v)(fx:GD x=true):∀ {xs:List V} {us:List Value},Vals xs us->xs.all GD=true->∀ u∈us,SeqAt.EqAt A s u v (IC x u)
 | _,_,.nil,_=>λu hu=>by cases hu
 | y::xs,u::us,.cons r t,f=>λu' hu=>by
  rw[List.all_cons,Bool.and_eq_true]at f
  rcases List.mem_cons.mp hu with rfl | hu
  ·rw[c9 r f.1];exact u8 r rx f.1 fx
  ·exact SQ rx fx t f.2 u' hu
def JP(x:V)(xs:List V):Bool:=xs.any λy=>HE y x
def dA(K:W.Frag)(neg:Bool):R2:=λx y H Q=>∃ p xs,y=.ref p/\(SqL K H p xs\/SqT K H p xs)/\GD x=true/\xs.all GD=true/\Q (.bl (if neg then !JP x xs else JP x xs)) H
theorem u9:OpR X (compareOp .In) (dA X.K false):=by
 intro AA s σ H x y v u Q I rx ry h
 obtain⟨p,xs,rfl,hq,fx,fs,q⟩:=h
 cases ry
 rcases hq with hq | hq
 ·obtain⟨its,r,pl,hz⟩:=I.list hq
  refine SeqAt.in_listAt (IC x) pl.isList (λw hw=>SQ rx fx r fs w (by simpa using hw)) ⟨.bl _,H,I,rfl,?_⟩
  rw[show its.toArray.any (IC x)=its.any (IC x) by simp,SO r fs]
  exact q
 ·obtain⟨its,r,pl,hz⟩:=I.tuple hq
  refine SeqAt.in_tupleAt (IC x) pl (λw hw=>SQ rx fx r fs w (by simpa using hw)) ⟨.bl _,H,I,rfl,?_⟩
  rw[show its.toArray.any (IC x)=its.any (IC x) by simp,SO r fs]
  exact q
theorem CallR.or{f:Value}{r r':List V->Hp->VK->Prop}(h:CallR X f r)(h':CallR X f r'):CallR X f (λxs H Q=>r xs H Q\/r' xs H Q):=by
 intro AA s σ H xs us Q I rs q
 rcases q with q | q
 ·exact h AA s σ H xs us Q I rs q
 ·exact h' AA s σ H xs us Q I rs q
theorem vA:CallR X (.type "list") (λxs H Q=>∃ p ys,xs=[.ref p]/\(SqL X.K H p ys\/SqT X.K H p ys)/\∀ l,H l=none->Q (.ref l) (upd H l (.lst ys))):=by
 intro AA s σ H xs us Q I r h
 obtain⟨p,ys,rfl,hq,q⟩:=h
 obtain⟨u,rfl,rx⟩:=FF r
 cases rx
 have fin:∀ (its:List Value),Vals ys its->ys.length<=sizeLine->∀ (h':Heap) (c':Nat),(∀ b o',s.heap.get? b=some o'->h'.get? b=some o') →
   h'.get? s.heap.objs.size=some { cls:=.type "list",dict:=none,data:=.seq its.toArray c',slots:= #[] }->EP X AA σ Q (.ref s.heap.objs.size) { s with heap:=h' }:=λits r' hz h' c' kp e =>
  ⟨.ref s.heap.objs.size,_,I.laid (t':=s.toks) kp (Nat.le_refl _) (show ObjOk X.prog X.w _ h' _ (.lst ys)from⟨hz,its,c',r',e⟩),rfl,q _ (I.hok.fresh (Nat.le_refl _))⟩
 rcases hq with hq | hq
 ·obtain⟨its,r',pl,hz⟩:=I.list hq
  have BT:=r'.length
  obtain⟨o,ho,hc,n,hd⟩:=pl.isList
  exact call_list_seq p (.inl rfl) ho hc hd (λh' c' kp e=>fin its r' hz h' c' kp e) (by simp only[List.size_toArray]<;>omega)
 ·obtain⟨its,r',pl,hz⟩:=I.tuple hq
  have BT:=r'.length
  obtain⟨o,ho,hc,n,hd⟩:=pl
  exact call_list_seq p (.inr rfl) ho hc hd (λh' c' kp e=>fin its r' hz h' c' kp e) (by simp only[List.size_toArray]<;>omega)
theorem vB:CallR X (.type "tuple") (λxs H Q=>∃ p ys,xs=[.ref p]/\((SqL X.K H p ys/\∀ l,H l=none->Q (.ref l) (upd H l (.tup ys)))\/(SqT X.K H p ys/\Q (.ref p) H))):=by
 intro AA s σ H xs us Q I r h
 obtain⟨p,ys,rfl,h⟩:=h
 obtain⟨u,rfl,rx⟩:=FF r
 cases rx
 rcases h with⟨hq,q⟩ | ⟨hq,q⟩
 ·obtain⟨its,r',pl,hz⟩:=I.list hq
  have BT:=r'.length
  refine call_tuple_list pl.isList (λh' kp=> ?_) (by simp only[List.size_toArray]<;>omega)
  have I1:Inv X AA σ H { s with heap:=h' }:=I.kept (t':=s.toks) kp
  have I2:Inv X AA σ (upd H h'.objs.size (.tup ys)) { s with heap:=h'.push { cls:=.type "tuple",data:=.seq its.toArray } } :=
   I1.laid (t':=s.toks) (λb o e=>Heap.get?_push_of_some _ e) (Nat.le_refl _) (show ObjOk X.prog X.w _ _ _ (.tup ys)from⟨hz,its,r',IsTup.new _ _⟩)
  exact⟨.ref h'.objs.size,_,I2,rfl,q _ (I1.hok.fresh (Nat.le_refl _))⟩
 ·obtain⟨its,r',pl,hz⟩:=I.tuple hq
  exact call_tuple_same pl ⟨.ref p,H,I,rfl,q⟩
def MM(K:W.Frag)(T:String)(x:V)(H:Hp):Prop:=match x with
 | .str _=>T="str"
 | .int _=>T="int"
 | .ref p=>(T="list"/\∃ xs,SqL K H p xs)\/(T="tuple"/\∃ o,K.lookup p=some o/\o.cls=.type "tuple"/\o.dict=none) ∨
   (T="dict"/\((∃ AD,H p=some (.dK AD))\/∃ AD,H p=some (.dT AD)))\/(T="set"/\∃ S n,H p=some (.set S n))
 | _=>False
theorem vC{AA:List (Addr × Obj)}{σ:St}{H:Hp}{s:Shared}{T:String}{x:V}{v:Value}(I:Inv X AA σ H s)(r:RelV x v)(ty:MM X.K T x H) :
  s.TypeIs v T/\∀ a,v=.ref a->∃ ob,s.heap.get? a=some ob/\ob.dict=none:=by
 cases x with
 | str z =>
  obtain⟨t,rfl⟩:=r
  cases (show T="str" from ty)
  exact⟨typeIs_str s z t,λ_ e=>nomatch e⟩
 | int i =>
  obtain⟨t,rfl⟩:=r
  cases (show T="int" from ty)
  exact⟨typeIs_int s i t,λ_ e=>nomatch e⟩
 | ref p =>
  cases r
  rcases ty with⟨rfl,xs,hq⟩ | ⟨rfl,o,hk,hc,hd⟩ | ⟨rfl,hk⟩ | ⟨rfl,S,n,hk⟩
  ·obtain⟨its,_,pl,_⟩:=I.list hq
   refine⟨pl.isList.typeIs,λa e=> ?_⟩
   cases e
   obtain⟨o,n,e,c,hd,_⟩:=pl
   exact⟨o,e,hd⟩
  ·refine⟨⟨o,I.kIn p o hk,hc⟩,λa e=> ?_⟩
   cases e
   exact⟨o,I.kIn _ o hk,hd⟩
  ·have z:∃ o,s.heap.get? p=some o/\o.ExactDict:=by
    rcases hk with⟨AD,hk⟩ | ⟨AD,hk⟩
    ·obtain⟨_,_,_,_,o,_,_,e,ex,_⟩:=I.hok p _ hk
     exact⟨o,e,ex⟩
    ·obtain⟨_,_,_,_,o,_,_,e,ex,_⟩:=I.hok p _ hk
     exact⟨o,e,ex⟩
   obtain⟨o,e,ex⟩:=z
   refine⟨⟨o,e,ex.1⟩,λa e2=> ?_⟩
   cases e2
   exact⟨o,e,ex.2.1⟩
  ·obtain⟨o,_,_,_,e,ex,_⟩:=I.hok p _ hk
   refine⟨⟨o,e,ex.1⟩,λa e2=> ?_⟩
   cases e2
   exact⟨o,e,ex.2.1⟩
 | _=>exact False.elim ty
def vE(K:W.Frag)(T:String)(r:V->List V->Hp->VK->Prop)(to:TE):TE:=λσ H Q=>to σ H λx H1=>MM K T x H1/\r x [] H1 Q
def GE(K:W.Frag)(T:String)(r:V->List V->Hp->VK->Prop)(to:TE)(t:TA):TE:=λσ H Q=>to σ H λx H1=>MM K T x H1/\t σ H1 λxs H2=>r x xs H2 Q
variable{o e:Expr}{es:List Expr}{to:TE}{t:TA}{name:Str}{CO C9:Pos}{T id:String}{r:V->List V->Hp->VK->Prop}
theorem HF(pa:PlainAttrs T)(slot:Slot T name id)(hty:typeOf (.builtin id)=pure (.type "method_descriptor"))(hm:MtR X id r)(ho:PE X o to)(ha:PA X (e::es) t)
  (hbase:attributeBase o name X.env (eval o X.env)=eval o X.env:=by rfl)
  (hfew:((backTo C9 (starEach (e::es) X.env)).all (λx=> !x.1) && (backToKw C9 (keywordEach [] X.env)).all (λx=>x.1.isSome)
   && decide ((e::es).length+([]:List Keyword).length+(if([]:List Keyword).isEmpty then 0 else 1)<30))=true:=by rfl)
  (hline:(CO.endLine == C9.line)=true:=by rfl) (hs:starEach (e::es) X.env=(false,eval e X.env)::starEach es X.env:=by rfl) (hplain:(backTo C9 (starEach es X.env)).any (·.1)=false:=by rfl) :
  PE X (.Call (.Attribute o name CO) (e::es) [] C9) (GE X.K T r to t):=by
 intro AA s σ H Q I h
 refine wpAny_Call_method_late hbase hfew hline rfl (AR (ho AA s σ H _ I h) λv s1 hzz=> ?_)
 obtain⟨x,H1,I1,r1,ty,q1⟩:=hzz
 obtain⟨h1,h2⟩:=vC I1 r1 ty
 refine⟨T,id,pa,slot,hty,h1,h2,?_⟩
 have hA:=ha C9 AA s1 σ H1 _ I1 q1
 rw[hs]at hA ⊢
 refine Calls.callWith_builtin (by show(false || (backTo C9 (starEach es X.env)).any (·.1))=false;rw[hplain]<;>rfl) (Calls.evalArgs_plain ?_)
 exact AR hA λus s2 ⟨vs,H2,I2,r2,q2⟩=>hm AA s2 σ H2 x vs v us Q I2 r1 r2 q2
end
end L2
namespace L2
def vF(X:Cx)(id:String)(r:V->List V->Hp->VK->Prop):Prop :=
 ∀ (AA:List (Addr × Obj)) (s:Shared) (σ:St) (H:Hp) (x:V) (xs:List V) (v:Value) (us:List Value) (Q:VK),Inv X AA σ H s->RelV x v->Vals xs us->r x xs H Q →
  wpAny (model X.prog X.w) X.A (call (.builtin id) (v::us)) (EP X AA σ Q) X.xe s
theorem Vals.one:∀ {x:V} {us:List Value},Vals [x] us->∃ u,us=[u]/\RelV x u
 | _,_,.cons r .nil=>⟨_,rfl,r⟩
theorem Vals.two:∀ {x y:V} {us:List Value},Vals [x,y] us->∃ u v,us=[u,v]/\RelV x u/\RelV y v
 | _,_,_,h=>by
  cases h with | cons r h=>cases h with | cons q h=>cases h;exact⟨_,_,rfl,r,q⟩
theorem Vals.zero:∀ {us:List Value},Vals [] us->us=[]
 | _,.nil=>rfl
theorem Vals.dropLast{xs:List V}{us:List Value}(h:Vals xs us):Vals xs.dropLast us.dropLast:=by
 induction h with
 | nil=>exact .nil
 | cons r t ih =>
  cases t with
  | nil=>exact .nil
  | cons q t'=>exact .cons r ih
theorem Vals.eraseIdx:∀ {xs:List V} {us:List Value} (i:Nat),Vals xs us->Vals (xs.eraseIdx i) (us.eraseIdx i)
 | _,_,_,.nil=>.nil
 | _,_,0,.cons _ t=>t
 | _,_,i+1,.cons r t=>.cons r (Vals.eraseIdx i t)
theorem Vals.reverse{xs:List V}{us:List Value}(h:Vals xs us):Vals xs.reverse us.reverse:=by
 induction h with
 | nil=>exact .nil
 | cons r t ih=>rw[List.reverse_cons,List.reverse_cons];exact Vals.append ih (.cons r .nil)
theorem Vals.rep{xs:List V}{us:List Value}(h:Vals xs us):∀ k:Nat,Vals (List.replicate k xs).flatten (List.replicate k us).flatten
 | 0=>.nil
 | k+1=>by
  rw[List.replicate_succ,List.replicate_succ,List.flatten_cons,List.flatten_cons]
  exact Vals.append h (Vals.rep h k)
theorem OX(its:List Value):∀ (k:Nat) (BW:List Value),
  List.foldl (λx1 x2=>x1++x2) BW.toArray (List.replicate k its.toArray)=(BW++(List.replicate k its).flatten).toArray
 | 0,BW=>by simp
 | k+1,BW=>by
  have e:BW.toArray++its.toArray=(BW++its).toArray:=by simp
  have e2:(BW++its)++(List.replicate k its).flatten=BW++(List.replicate (k+1) its).flatten:=by
   rw[List.replicate_succ,List.flatten_cons,List.append_assoc]
  rw[<-e2,<-OX its k (BW++its),<-e,List.replicate_succ,List.foldl_cons]
section
variable{X:Cx}{AA:List (Addr × Obj)}{σ:St}{H:Hp}{s:Shared}{l b:Addr}{xs ys zs:List V}
theorem Inv.lset{its its':List Value}{n:Nat}{f:Array Value->Array Value}{t':Nat}(I:Inv X AA σ H s)(hH:H l=some (.lst xs))
  (e:s.heap.get? l=some { cls:=.type "list",data:=.seq its.toArray n }) (hf:f its.toArray=its'.toArray) (hv:Vals ys its') (hz:ys.length<=sizeLine) :
  Inv X AA σ (upd H l (.lst ys)) { s with heap:=s.heap.update l (Obj.mapSeq f),toks:=t' }:=by
 have q:=PySem.IsL.update e f
 rw[hf]at q
 refine I.write (x:=l) (e:=l) (by rw[hH];exact trivial) (.inl rfl) (λb' u hb hu=>(Heap.get?_update_other s.heap (Obj.mapSeq f) (Ne.symm hb)).trans hu) ⟨_,q⟩ ?_
 exact⟨hz,its',_,hv,q⟩
theorem Inv.lnew{its:List Value}{t':Nat}(I:Inv X AA σ H s)(hv:Vals ys its)(hz:ys.length<=sizeLine) :
  Inv X AA σ (upd H s.heap.objs.size (.lst ys)) { s with heap:=s.heap.push { cls:=.type "list",data:=.seq its.toArray },toks:=t' } :=
 I.laid (λ_ _ q=>Heap.get?_push_of_some _ q) (Nat.le_refl _) ⟨hz,its,0,hv,Heap.get?_push_size _ rfl⟩
theorem Inv.fresh(I:Inv X AA σ H s):H s.heap.objs.size=none:=I.hok.fresh (Nat.le_refl _)
theorem Inv.lstM(I:Inv X AA σ H s)(hH:H l=some (.lst xs)):xs.length<=sizeLine/\∃ (its:List Value) (n:Nat),Vals xs its/\xs.length=its.length/\s.heap.get? l=some { cls:=.type "list",data:=.seq its.toArray n }:=by
 obtain⟨z,its,n,r,e⟩:=I.hok l _ hH
 exact⟨z,its,n,r,r.length,e⟩
theorem vG{n:Nat}(h:n<=sizeLine):Builtin.List.listTooLong n=false:=by
 unfold Builtin.List.listTooLong
 exact decide_eq_false (by omega)
end
section
variable{X:Cx}
def dB:V->List V->Hp->VK->Prop:=λx vs H Q=>∃ l xs y,x=.ref l/\vs=[y]/\H l=some (.lst xs)/\xs.length<sizeLine/\Q .non (upd H l (.lst (xs++[y])))
theorem MN:vF X "list.append" dB:=by
 intro AA s σ H x vs v us Q I rx rv h
 obtain⟨l,xs,y,rfl,rfl,hH,hz,q⟩:=h
 cases rx
 obtain⟨u,rfl,ru⟩:=rv.one
 obtain⟨z,its,n,r,hl,e⟩:=I.lstM hH
 refine call_meets F.slot_list_append ⟨_,e,rfl⟩ F.entry_list_append (F.args_list_append_2 _ _) (PySem.list_append l its.toArray n u (by rw[List.size_toArray];omega)) ⟨e,?_⟩
 refine⟨.non,_,I.lset (its':=its++[u]) hH e (by simp) (r.append (.cons ru .nil)) ?_,rfl,q⟩
 rw[List.length_append,List.length_singleton]
 omega
def OY:R2:=λx y H Q=>∃ l b xs zs,x=.ref l/\y=.ref b/\H l=some (.lst xs)/\H b=some (.lst zs)/\xs.length+zs.length<=sizeLine/\∀ p,H p=none->Q (.ref p) (upd H p (.lst (xs++zs)))
theorem vH:OpR X (binaryOp .Add) OY:=by
 intro AA s σ H x y v u Q I rx ry h
 obtain⟨l,b,xs,zs,rfl,rfl,hH,hB,hz,q⟩:=h
 cases rx
 cases ry
 obtain⟨z,its,n,r,hl,e⟩:=I.lstM hH
 obtain⟨z2,N7,n2,r2,RW,e2⟩:=I.lstM hB
 refine PySem.P.add_list e e2 ?_ (by rw[List.size_toArray,List.size_toArray];omega)
 have ea:its.toArray++N7.toArray=(its++N7).toArray:=by simp
 rw[ea]
 exact⟨.ref _,_,I.lnew (t':=s.toks) (r.append r2) (by rw[List.length_append];omega),rfl,q _ I.fresh⟩
def SR:R2:=λx y H Q=>∃ l k xs,x=.ref l/\y=.int k/\H l=some (.lst xs)/\ -(2 ^ 63)<=k/\k<2 ^ 63/\xs.length * k.toNat<=sizeLine ∧
 ∀ p,H p=none->Q (.ref p) (upd H p (.lst (List.replicate k.toNat xs).flatten))
theorem dC{α :Type}(xs:List α)(k:Nat):(List.replicate k xs).flatten.length=k * xs.length:=by
 induction k with
 | zero=>simp
 | succ k ih=>rw[List.replicate_succ,List.flatten_cons,List.length_append,ih,Nat.succ_mul,Nat.add_comm]
theorem vI:OpR X (binaryOp .Mult) SR:=by
 intro AA s σ H x y v u Q I rx ry h
 obtain⟨l,k,xs,rfl,rfl,hH,h1,h2,hz,q⟩:=h
 cases rx
 obtain⟨t,rfl⟩:=ry
 obtain⟨z,its,n,r,hl,e⟩:=I.lstM hH
 have BT:its.toArray.size * k.toNat<=sizeLine:=by rw[List.size_toArray,<-hl];exact hz
 have hcap:¬ its.toArray.size * k.toNat >(2 ^ 63 - 1) / 8:=by
  have:(sizeLine:Nat)<=(2 ^ 63 - 1) / 8:=by decide
  omega
 have hfit:¬ (!Builtin.List.listFitsIndex k)=true:=by
  rw[fitsIndex_both h1 h2]
  exact Bool.false_ne_true
 have hlong:¬ Builtin.List.listTooLong (its.toArray.size * k.toNat)=true:=by
  rw[vG BT]
  exact Bool.false_ne_true
 have hnew:List.foldl (λx1 x2=>x1++x2) #[] (List.replicate (if its.toArray.isEmpty=true then 0 else k.toNat) its.toArray)=(List.replicate k.toNat its).flatten.toArray:=by
  have f0:∀ m:Nat,List.foldl (λx1 x2=>x1++x2) #[] (List.replicate m its.toArray)=(List.replicate m its).flatten.toArray:=λm=>by
   have:=OX its m []
   rw[List.nil_append]at this
   exact this
  rw[f0]
  cases its with
  | nil=>simp
  | cons a r'=>rw[if_neg (by simp)]
 refine wpAny_binaryOp_repeat_ref (T:="list") (U:="int") (by decide) ⟨_,e,rfl⟩ (λs'=>typeIs_int s' k t) noFill_list_mul F.fills_int_mul F.slot_int_rmul repeat_list F.slot_int_index.lookup
  (call_meets F.slot_int_rmul (typeIs_int s k t) F.entry_int_rmul (F.args_int_rmul_2 _ _) (int___rmul___int_list k t l its.toArray n)
   ⟨e,rfl,⟨_,e,rfl⟩,call_meets F.slot_list_mul ⟨_,e,rfl⟩ F.entry_list_mul (F.args_list_mul_2 _ _) (AutoListH.list___mul___list_int_3 l its.toArray n k t hfit hcap hlong) ⟨e,?_⟩⟩)
 rw[hnew]
 exact⟨.ref _,_,I.lnew (t':=s.toks) (r.rep k.toNat) (by rw[dC,Nat.mul_comm];exact hz),rfl,q _ I.fresh⟩
end
section
variable{prog:Program}{w:World}{A:Around}{E:Value->Shared->Prop}{s:Shared}
set_option maxRecDepth 100000 in
end
section
variable{X:Cx}
end
end L2
namespace L2
section
variable{κ :Type}[DecidableEq κ]
def BR(AD:List (κ × V))(k: κ):Option V:=(AD.find? λkv=>decide (kv.1=k)).map (·.2)
def CL(AD:List (κ × V))(k: κ)(v:V):List (κ × V) :=
 if(AD.any λkv=>decide (kv.1=k))=true then AD.map (λkv=>if kv.1=k then(kv.1,v)else kv)else AD++[(k,v)]
def dD(AD:List (κ × V))(k: κ):List (κ × V):=AD.filter λkv=>decide (kv.1≠k)
theorem GW{p: κ × V}{r:List (κ × V)}{k: κ}(e:p.1=k):BR (p::r) k=some p.2:=by simp[BR,List.find?_cons,e]
theorem GY{p: κ × V}{r:List (κ × V)}{k: κ}(e:¬ p.1=k):BR (p::r) k=BR r k:=by simp[BR,List.find?_cons,e]
theorem KQ(k: κ):∀ AD:List (κ × V),(AD.any λkv=>decide (kv.1=k))=(BR AD k).isSome
 | []=>rfl
 | p::r=>by
  rw[List.any_cons]
  by_cases e:p.1=k
  ·simp only[GW e,decide_eq_true e,Bool.true_or,Option.isSome_some]
  ·rw[GY e,decide_eq_false e,Bool.false_or];exact KQ k r
theorem dE(k j: κ)(y:V):∀ AD:List (κ × V),BR (AD.map λkv=>if kv.1=k then(kv.1,y)else kv) j=(BR AD j).map λx=>if j=k then y else x
 | []=>rfl
 | p::r=>by
  have ih:=dE k j y r
  rw[List.map_cons]
  by_cases h:p.1=k
  ·rw[if_pos h]
   by_cases e:p.1=j
   ·rw[GW (p:=(p.1,y)) e,GW e,Option.map_some,if_pos (e.symm.trans h)]
   ·rw[GY (p:=(p.1,y)) e,GY e,ih]
  ·rw[if_neg h]
   by_cases e:p.1=j
   ·rw[GW (p:=p) e,GW e,Option.map_some,if_neg (λz=>h (e.trans z))]
   ·rw[GY (p:=p) e,GY e,ih]
theorem dF(k j: κ)(y:V):∀ AD:List (κ × V),BR AD k=none->BR (AD++[(k,y)]) j=if j=k then some y else BR AD j
 | [],_=>by
  by_cases e:k=j
  ·rw[if_pos e.symm];exact GW (p:=(k,y)) e
  ·rw[if_neg (λz=>e z.symm)];exact GY (p:=(k,y)) e
 | p::r,hn=>by
  rw[List.cons_append]
  have hk:¬ p.1=k:=λz=>by rw[GW z]at hn;cases hn
  rw[GY hk]at hn
  have ih:=dF k j y r hn
  by_cases e:p.1=j
  ·rw[GW e,GW e,if_neg (λz=>hk (e.trans z))]
  ·rw[GY e,GY e,ih]
theorem SS(AD:List (κ × V))(k j: κ)(y:V):BR (CL AD k y) j=if j=k then some y else BR AD j:=by
 unfold CL
 by_cases a:(AD.any λkv=>decide (kv.1=k))=true
 ·rw[if_pos a,dE]
  rw[KQ]at a
  by_cases e:j=k
  ·obtain⟨x,hx⟩:=Option.isSome_iff_exists.mp a
   rw[if_pos e,e,hx,Option.map_some,if_pos rfl]
  ·rw[if_neg e]
   cases BR AD j with
   | none=>rfl
   | some x=>rw[Option.map_some,if_neg e]
 ·rw[if_neg a]
  refine dF k j y AD ?_
  rw[KQ]at a
  cases q:BR AD k with
  | none=>rfl
  | some x=>rw[q]at a;exact(a rfl).elim
theorem MO(AD:List (κ × V))(k: κ)(v:V):(CL AD k v).length<=AD.length+1:=by
 unfold CL
 split
 ·rw[List.length_map];omega
 ·rw[List.length_append,List.length_cons,List.length_nil];omega
theorem dG{AD:List (κ × V)}{k: κ}(v:V)(h:BR AD k=none):CL AD k v=AD++[(k,v)]:=by
 unfold CL
 rw[KQ,h]
 exact if_neg (by decide)
theorem RelO.isSome_eq{o:Option V}{u:Option Value}(r:RelO o u):o.isSome=u.isSome:=by
 cases o with
 | none=>cases u with
  | none=>rfl
  | some _=>exact(show False from r).elim
 | some _=>cases u with
  | none=>exact(show False from r).elim
  | some _=>rfl
theorem RelO.getD{o:Option V}{u:Option Value}{d:V}{d':Value}(r:RelO o u)(rd:RelV d d'):RelV (o.getD d) (u.getD d'):=by
 cases o with
 | none=>cases u with
  | none=>exact rd
  | some _=>exact(show False from r).elim
 | some _=>cases u with
  | none=>exact(show False from r).elim
  | some _=>exact r
theorem KV.val{AD:List (κ × V)}{vs:List (κ × Value)}(r:KV AD vs)(k: κ):RelO (BR AD k) (valueAt vs k):=by
 unfold KV at r
 induction r with
 | nil=>exact True.intro
 | @cons p q ps qs h t ih =>
  obtain⟨h1,h2⟩:=h
  by_cases e:p.1=k
  ·have e':q.1=k:=h1.symm.trans e
   have b:valueAt (q::qs) k=some q.2:=by simp[valueAt,List.find?_cons,e']
   rw[GW e,b];exact h2
  ·have e':¬ q.1=k:=λz=>e (h1.trans z)
   have b:valueAt (q::qs) k=valueAt qs k:=by simp[valueAt,List.find?_cons,e']
   rw[GY e,b];exact ih
theorem KV.any{AD:List (κ × V)}{vs:List (κ × Value)}(r:KV AD vs)(k: κ):(AD.any λkv=>decide (kv.1=k))=vs.any λkv=>decide (kv.1=k):=by
 unfold KV at r
 induction r with
 | nil=>rfl
 | cons h t ih=>rw[List.any_cons,List.any_cons,ih,h.1]
theorem KV.repl{AD:List (κ × V)}{vs:List (κ × Value)}(r:KV AD vs)(k: κ){y:V}{u:Value}(ry:RelV y u) :
  KV (AD.map λkv=>if kv.1=k then(kv.1,y)else kv) (vs.map λkv=>if kv.1=k then(kv.1,u)else kv):=by
 unfold KV at r ⊢
 induction r with
 | nil=>exact .nil
 | @cons p q ps qs h t ih =>
  rw[List.map_cons,List.map_cons]
  refine .cons ?_ ih
  obtain⟨h1,h2⟩:=h
  by_cases e:p.1=k
  ·rw[if_pos e,if_pos (h1.symm.trans e)];exact⟨h1,ry⟩
  ·rw[if_neg e,if_neg (λz=>e (h1.trans z))];exact⟨h1,h2⟩
theorem KV.put{AD:List (κ × V)}{vs:List (κ × Value)}(r:KV AD vs)(k: κ){y:V}{u:Value}(ry:RelV y u):KV (CL AD k y) (stored vs k u):=by
 unfold CL stored
 rw[r.any k]
 by_cases e:(vs.any λkv=>decide (kv.1=k))=true
 ·rw[if_pos e,if_pos e];exact r.repl k ry
 ·rw[if_neg e,if_neg e];exact Paired.snoc r ⟨rfl,ry⟩
theorem KV.drop{AD:List (κ × V)}{vs:List (κ × Value)}(r:KV AD vs)(k: κ):KV (dD AD k) (without vs k):=by
 unfold KV at r ⊢
 unfold dD without
 induction r with
 | nil=>exact .nil
 | @cons p q ps qs h t ih =>
  obtain⟨h1,h2⟩:=h
  rw[List.filter_cons,List.filter_cons]
  by_cases e:p.1=k
  ·have a:¬ decide (p.1≠k)=true:=by simp[e]
   have b:¬ decide (q.1≠k)=true:=by simp[h1.symm.trans e]
   rw[if_neg a,if_neg b];exact ih
  ·have e':¬ q.1=k:=λz=>e (h1.trans z)
   have a:decide (p.1≠k)=true:=by simp[e]
   have b:decide (q.1≠k)=true:=by simp[e']
   rw[if_pos a,if_pos b];exact .cons ⟨h1,h2⟩ ih
theorem KV.keys{AD:List (κ × V)}{vs:List (κ × Value)}(r:KV AD vs):AD.map (·.1)=vs.map (·.1):=by
 unfold KV at r
 induction r with
 | nil=>rfl
 | cons h t ih=>rw[List.map_cons,List.map_cons,ih,h.1]
theorem KV.length{AD:List (κ × V)}{vs:List (κ × Value)}(r:KV AD vs):AD.length=vs.length:=Paired.length r
end
theorem KR{P:Program}{w:World}{k:AO}{u:Value}(r:RelV (kV k) u):(EV P w).is k u=true:=by
 cases k with
 | inl i=>obtain⟨t,e⟩:=(show ∃ t,u=Value.int i t from r);subst e;exact sI P w i t
 | inr x=>obtain⟨t,e⟩:=(show ∃ t,u=Value.str x t from r);subst e;exact sJ P w x t
theorem dH{P:Program}{w:World}:∀ {ks:List AO} {us:List Value},Vals (ks.map kV) us->ItemsAre (EV P w) ks us
 | [],_,r=>by rw[List.map_nil]at r;cases r;exact .nil
 | k::ks,_,r=>by
  rw[List.map_cons]at r
  cases r with
  | cons h t=>exact .cons (KR h) (dH t)
abbrev KT(H:Hp):List (List AO × V)->List (List AO × Addr × Value)->Prop:=Paired λp q=>p.1=q.1/\H q.2.1=some (.tup (p.1.map kV))/\RelV p.2 q.2.2
theorem KT.val{H:Hp}{AD:List (List AO × V)}{xs:List (List AO × Addr × Value)}(r:KT H AD xs)(k:List AO):RelO (BR AD k) ((atKey xs k).map (·.2)):=by
 induction r with
 | nil=>exact True.intro
 | @cons p q ps qs h t ih =>
  obtain⟨h1,_,h2⟩:=h
  by_cases e:p.1=k
  ·have e':q.1=k:=h1.symm.trans e
   have b:atKey (q::qs) k=some q.2:=by simp[atKey,List.find?_cons,e']
   rw[GW e,b];exact h2
  ·have e':¬ q.1=k:=λz=>e (h1.trans z)
   have b:atKey (q::qs) k=atKey qs k:=by simp[atKey,List.find?_cons,e']
   rw[GY e,b];exact ih
theorem KT.repl{H:Hp}{AD:List (List AO × V)}{xs:List (List AO × Addr × Value)}(r:KT H AD xs)(k:List AO){y:V}{u:Value}(ry:RelV y u) :
  KT H (AD.map λkv=>if kv.1=k then(kv.1,y)else kv) (xs.map (putAt k u)):=by
 induction r with
 | nil=>exact .nil
 | @cons p q ps qs h t ih =>
  rw[List.map_cons,List.map_cons]
  refine .cons ?_ ih
  obtain⟨h1,h2,h3⟩:=h
  unfold putAt
  by_cases e:p.1=k
  ·rw[if_pos e,if_pos (h1.symm.trans e)];exact⟨h1,h2,ry⟩
  ·rw[if_neg e,if_neg (λz=>e (h1.trans z))];exact⟨h1,h2,h3⟩
theorem KT.put{H:Hp}{AD:List (List AO × V)}{xs:List (List AO × Addr × Value)}(r:KT H AD xs)(k:List AO){b:Addr}{y:V}{u:Value}(hb:H b=some (.tup (k.map kV)))(ry:RelV y u) :
  KT H (CL AD k y) (storedH xs k b u):=by
 have e:(AD.any λkv=>decide (kv.1=k))=(atKey xs k).isSome:=by
  rw[KQ,(r.val k).isSome_eq,Option.isSome_map]
 unfold CL storedH
 rw[e]
 by_cases q:(atKey xs k).isSome=true
 ·rw[if_pos q,if_pos q];exact r.repl k ry
 ·rw[if_neg q,if_neg q];exact Paired.snoc r ⟨rfl,hb,ry⟩
theorem KT.keeps{H H':Hp}{AD:List (List AO × V)}{xs:List (List AO × Addr × Value)}(r:KT H AD xs)(ht:∀ b ys,H b=some (.tup ys)->H' b=some (.tup ys)):KT H' AD xs :=
 Paired.mapP r λ_ _ z=>⟨z.1,ht _ _ z.2.1,z.2.2⟩
section
variable{P:Program}{w:World}{H:Hp}{h:Heap}{a:Addr}
theorem dJ{u:HO}(ok:HOk P w H h)(e:Rd H a u):ObjOk P w H h a u:=e.ok ok
theorem IU{AD:List (AO × V)}(ok:HOk P w H h)(e:Rd H a (.dK AD)):AD.length<=sizeLine/\(a == sysModules)=false/\∃ vs,KV AD vs/\h.DictOf (EV P w) a vs :=
 show ObjOk P w H h a (.dK AD)from dJ ok e
theorem vJ{AD:List (AO × V)}(ok:HOk P w H h)(e:H a=some (.dK AD)):AD.length<=sizeLine/\(a == sysModules)=false/\∃ vs,KV AD vs/\h.DictOf (EV P w) a vs:=IU ok (.inl e)
theorem KS{ks:List AO}(ok:HOk P w H h)(e:H a=some (.tup (ks.map kV))):(tupleKind (EV P w)).is h ks a:=by
 obtain⟨_,its,r,o,h1,h2,n,h3⟩:=(show ObjOk P w H h a (.tup (ks.map kV))from ok a _ e)
 exact⟨o,its.toArray,n,h1,h2,h3,by simpa using dH r⟩
theorem JQ{AD:List (List AO × V)}(ok:HOk P w H h)(e:Rd H a (.dT AD)):AD.length<=sizeLine/\(a == sysModules)=false ∧
  ∃ xs,KT H AD xs/\h.DictOfH (tupleKind (EV P w)) a xs:=by
 obtain⟨z,y,xs,r,o,es,ep,h1,h2,h3,h4,h5⟩:=(show ObjOk P w H h a (.dT AD)from dJ ok e)
 refine⟨z,y,xs,r,o,es,ep,h1,h2,h3,h4,λx hx=> ?_,h5⟩
 have all:∀ {l:List (List AO × V)} {m:List (List AO × Addr × Value)},KT H l m->∀ x∈m,(tupleKind (EV P w)).is h x.1 x.2.1:=by
  intro l m q
  induction q with
  | nil=>intro x hx;exact nomatch hx
  | @cons p q ps qs hq t ih =>
   intro x hx
   rcases List.mem_cons.mp hx with e | hx
   ·subst e
    exact KS ok (by rw[<-hq.1];exact hq.2.1)
   ·exact ih x hx
 exact all r x hx
theorem vK{AD:List (List AO × V)}(ok:HOk P w H h)(e:H a=some (.dT AD)):AD.length<=sizeLine/\(a == sysModules)=false ∧
  ∃ xs,KT H AD xs/\h.DictOfH (tupleKind (EV P w)) a xs:=JQ ok (.inl e)
end
def DGet(H:Hp)(a:Addr)(y:V)(r:Option V):Prop :=
 (∃ AD k,Rd H a (.dK AD)/\y=kV k/\r=BR AD k)\/∃ AD k b,Rd H a (.dT AD)/\y=.ref b/\H b=some (.tup (k.map kV))/\r=BR AD k
def DPut(H:Hp)(a:Addr)(y v:V)(H':Hp):Prop :=
 (∃ AD k,H a=some (.dK AD)/\y=kV k/\AD.length<sizeLine/\H'=upd H a (.dK (CL AD k v))) ∨
 ∃ AD k b,H a=some (.dT AD)/\y=.ref b/\H b=some (.tup (k.map kV))/\AD.length<sizeLine/\H'=upd H a (.dT (CL AD k v))
theorem DGet.k{H:Hp}{a:Addr}{AD:List (AO × V)}{k:AO}(e:H a=some (.dK AD)):DGet H a (kV k) (BR AD k):=.inl ⟨AD,k,.inl e,rfl,rfl⟩
theorem DGet.t{H:Hp}{a b:Addr}{AD:List (List AO × V)}{k:List AO}(e:H a=some (.dT AD))(eb:H b=some (.tup (k.map kV))):DGet H a (.ref b) (BR AD k):=.inr ⟨AD,k,b,.inl e,rfl,eb,rfl⟩
theorem DPut.k{H:Hp}{a:Addr}{AD:List (AO × V)}{k:AO}{v:V}(e:H a=some (.dK AD))(hl:AD.length<sizeLine):DPut H a (kV k) v (upd H a (.dK (CL AD k v))):=.inl ⟨AD,k,e,rfl,hl,rfl⟩
theorem DPut.t{H:Hp}{a b:Addr}{AD:List (List AO × V)}{k:List AO}{v:V}(e:H a=some (.dT AD))(eb:H b=some (.tup (k.map kV)))(hl:AD.length<sizeLine) :
  DPut H a (.ref b) v (upd H a (.dT (CL AD k v))):=.inr ⟨AD,k,b,e,rfl,eb,hl,rfl⟩
section
variable{X:Cx}{AA:List (Addr × Obj)}{σ:St}{H:Hp}{s:Shared}{a:Addr}{y v:V}{u r:Value}{o:Option V}{A:Around}{E:Value->Shared->Prop}
theorem Inv.big(I:Inv X AA σ H s):sysModules<s.heap.objs.size:=by
 have h:mainGlobals<s.heap.objs.size:=(I.mod.glob.keeps I.bk).lt
 exact Nat.lt_trans (by decide) h
theorem vL{Q:Value->Shared->Prop}(hu:A.units+1<cLine)(I:Inv X AA σ H s)(g:DGet H a y (some v))(ry:RelV y u)(h:∀ w' s',Inv X AA σ H s'->RelV v w'->Q w' s') :
  wpAny (model X.prog X.w) A (getItem (.ref a) u) Q E s:=by
 rcases g with⟨AD,k,e,ey,l⟩ | ⟨AD,k,b,e,ey,eb,l⟩
 ·subst ey
  obtain⟨z,hd,vs,rel,dd⟩:=IU I.hok e
  obtain⟨w',hw,rw'⟩:=RelO.some_of (v:=v) (o:=valueAt vs k) (by rw[l];exact rel.val k)
  exact wpAny_getItem_of (KR ry) dd.mapOf hw (h w' _ (I.tok _) rw')
 ·subst ey
  cases (show u=Value.ref b from ry)
  obtain⟨z,hd,xs,rel,dd⟩:=JQ I.hok e
  obtain⟨w',hw,rw'⟩:=RelO.some_of (v:=v) (o:=(atKey xs k).map (·.2)) (by rw[l];exact rel.val k)
  obtain⟨p,hp,JI⟩:=Option.map_eq_some_iff.mp hw
  refine wpAny_getItem_heap (tupleKind_room_in1 hu) (KS I.hok eb) dd hp ?_
  rw[JI]
  exact h w' _ (I.tok _) rw'
theorem vM{Q:Value->Shared->Prop}(hu:A.units+1<cLine)(I:Inv X AA σ H s)(g:DGet H a y o)(ry:RelV y u)(h:∀ s',Inv X AA σ H s'->Q (.bool o.isSome) s') :
  wpAny (model X.prog X.w) A (compareOp .In u (.ref a)) Q E s:=by
 rcases g with⟨AD,k,e,ey,l⟩ | ⟨AD,k,b,e,ey,eb,l⟩
 ·subst ey
  obtain⟨z,hd,vs,rel,dd⟩:=IU I.hok e
  refine wpAny_in_of (KR ry) hd dd.mapOf ?_
  rw[<-(rel.val k).isSome_eq,<-l]
  exact h _ (I.tok _)
 ·subst ey
  cases (show u=Value.ref b from ry)
  obtain⟨z,hd,xs,rel,dd⟩:=JQ I.hok e
  refine wpAny_in_heap (tupleKind_room_in1 hu) (KS I.hok eb) hd dd ?_
  have q:=(rel.val k).isSome_eq
  rw[Option.isSome_map]at q
  rw[<-q,<-l]
  exact h _ (I.tok _)
theorem vN{Q:Value->Shared->Prop}(hu:A.units+1<cLine)(I:Inv X AA σ H s)(g:DGet H a y o)(ry:RelV y u)(h:∀ s',Inv X AA σ H s'->Q (.bool (!o.isSome)) s') :
  wpAny (model X.prog X.w) A (compareOp .NotIn u (.ref a)) Q E s:=by
 rcases g with⟨AD,k,e,ey,l⟩ | ⟨AD,k,b,e,ey,eb,l⟩
 ·subst ey
  obtain⟨z,hd,vs,rel,dd⟩:=IU I.hok e
  refine wpAny_notIn_of (KR ry) hd dd.mapOf ?_
  rw[<-(rel.val k).isSome_eq,<-l]
  exact h _ (I.tok _)
 ·subst ey
  cases (show u=Value.ref b from ry)
  obtain⟨z,hd,xs,rel,dd⟩:=JQ I.hok e
  refine wpAny_notIn_heap (tupleKind_room_in1 hu) (KS I.hok eb) hd dd ?_
  have q:=(rel.val k).isSome_eq
  rw[Option.isSome_map]at q
  rw[<-q,<-l]
  exact h _ (I.tok _)
theorem dM{h':Heap}{t':Nat}{ob:HO}(I:Inv X AA σ H s)(mu:MA (H a))(hs:Heap.SameBut a s.heap h')(he:∃ q,h'.get? a=some q)(new:ObjOk X.prog X.w (upd H a ob) h' a ob) :
  Inv X AA σ (upd H a ob) { s with heap:=h',toks:=t' } :=
 I.write (x:=a) (e:=a) mu (.inl rfl) (λb q hb z=>(hs.2 b hb).trans z) he new
theorem dN{P:Program}{w:World}{H':Hp}{h':Heap}{AD:List (AO × V)}{vs:List (AO × Value)}(z:AD.length<=sizeLine)(hd:(a == sysModules)=false)(rel:KV AD vs)(dd:h'.DictOf (EV P w) a vs) :
  ObjOk P w H' h' a (.dK AD):=⟨z,hd,vs,rel,dd⟩
theorem vO{H':Hp}{Q:Unit->Shared->Prop}(hu:A.units+1<cLine)(I:Inv X AA σ H s)(g:DPut H a y v H')(ry:RelV y u)(rv:RelV v r)(h:∀ s',Inv X AA σ H' s'->Q () s') :
  wpAny (model X.prog X.w) A (setItem (.ref a) u r) Q E s:=by
 rcases g with⟨AD,k,e,ey,l,eH⟩ | ⟨AD,k,b,e,ey,eb,l,eH⟩
 ·subst ey eH
  obtain⟨z,hd,vs,rel,dd⟩:=vJ I.hok e
  have hz:vs.length<=sizeLine:=by rw[<-rel.length];exact z
  have hl:(CL AD k v).length<=sizeLine:=by have:=MO AD k v;omega
  refine wpAny_setItem_pairs (hsz:=hz) (KR ry) dd λh' dd' hs=>h _ ?_
  have he:∃ q,h'.get? a=some q:=let ⟨q,_,_,hq,_⟩:=dd';⟨q,hq⟩
  exact dM I (by rw[e];exact True.intro) hs he (dN hl hd (rel.put k rv) dd')
 ·subst ey eH
  cases (show u=Value.ref b from ry)
  obtain⟨z,hd,xs,rel,dd⟩:=vK I.hok e
  have hz:xs.length<=sizeLine:=by rw[<-Paired.length rel];exact z
  have hl:(CL AD k v).length<=sizeLine:=by have:=MO AD k v;omega
  refine wpAny_setItem_heap (hsz:=hz) (tupleKind_room_in1 hu) (KS I.hok eb) dd λh' dd' hs=>h _ ?_
  obtain⟨q,es,ep,hq,h2,h3,h4,_,h5⟩:=dd'
  refine dM I (by rw[e];exact True.intro) hs ⟨q,hq⟩ ⟨hl,hd,_,(rel.put k eb rv).keeps λc ys ec=> ?_,q,es,ep,hq,h2,h3,h4,h5⟩
  rw[AG (BK ec e (λz=>nomatch z))]
  exact ec
end
section
variable{X:Cx}{AA:List (Addr × Obj)}{σ:St}{H:Hp}{s:Shared}{a:Addr}{AD:List (AO × V)}{k:AO}{u:Value}{A:Around}{E:Value->Shared->Prop}
end
def dO(i:Expr):Prop:=∀ ov iv,subscripted i false ov iv=operate [ov,iv] (getItem ov iv)
theorem vP{prog:Program}{w:World}{A:Around}{E:Value->Shared->Prop}{s:Shared}{env:Env}{value slice:Expr}{pos:Pos}{T id:String}{Q:Value->Shared->Prop}
  (hl:typeLookup (.type T) "__getitem__"=pure (some (.builtin id))) (hs:dO slice)
  (h:wpAny (model prog w) A (eval value env) (λo s₁=>wpAny (model prog w) A (eval slice env) (λi s₂=>s₂.TypeIs o T/\wpAny (model prog w) A (getItem o i) Q E s₂) E s₁) E s) :
  wpAny (model prog w) A (eval (.Subscript value slice pos) env) Q E s:=by
 refine Subscript_ (wpAny_mono h (λo s₁ h₁=>wpAny_mono h₁ (λi s₂ h₂=> ?_) λ_ _ x=>x) λ_ _ x=>x)
 obtain⟨hT,h₂⟩:=h₂
 unfold subscriptTail
 refine wpAny_bind ?_
 rw[getitemInPython_of_ne hT.not_modules]
 refine wpAny_bind (wpAny_specialOf hT hl ?_)
 have fin:wpAny (model prog w) A (subscripted slice false o i) (λr s₃=>wpAny (model prog w) A (letTemporaryGo value o r >>= λ_=>pure r) Q E s₃) E s₂:=by
  rw[hs o i]
  exact wpAny_operating (wpAny_mono h₂ (λr s₃ h₃=>wpAny_bind (wpAny_letTemporaryGo (wpAny_pure h₃))) λ_ _ x=>x)
 first
  | exact wpAny_pure (wpAny_bind fin)
  | exact wpAny_bind (wpAny_pure (wpAny_bind fin))
  | exact wpAny_bind fin
theorem vQ{X:Cx}{AA:List (Addr × Obj)}{σ:St}{H:Hp}{s:Shared}{a:Addr}{y:V}{o:Option V}(I:Inv X AA σ H s)(g:DGet H a y o):s.TypeIs (.ref a) "dict":=by
 rcases g with⟨AD,k,e,_,_⟩ | ⟨AD,k,b,e,_,_,_⟩
 ·obtain⟨_,_,vs,_,dd⟩:=IU I.hok e
  exact dd.typeIs
 ·obtain⟨_,_,xs,_,dd⟩:=JQ I.hok e
  exact dd.typeIs
def ST(td ty:TE):TE:=λσ H Q=>td σ H λx H1=>ty σ H1 λy H2=>∃ a v,x=.ref a/\DGet H2 a y (some v)/\Q v H2
def OZ(ty td:TE):TE:=λσ H Q=>ty σ H λy H1=>td σ H1 λx H2=>∃ a o,x=.ref a/\DGet H2 a y o/\Q (.bl o.isSome) H2
def KU(ty td:TE):TE:=λσ H Q=>ty σ H λy H1=>td σ H1 λx H2=>∃ a o,x=.ref a/\DGet H2 a y o/\Q (.bl (!o.isSome)) H2
def MP(td ty tv:TE):TS:=λD σ H=>tv σ H λv H1=>td σ H1 λx H2=>ty σ H2 λy H3=>∃ a H4,x=.ref a/\DPut H3 a y v H4/\D.nx σ H4
section
variable{X:Cx}{o i e value:Expr}{pos pos' tpos:Pos}{td ty tv:TE}
theorem vR(hu:X.A.units+1<cLine)(ho:PE X o td)(hi:PE X i ty)(hs:dO i):PE X (.Subscript o i pos) (ST td ty):=by
 intro AA s σ H Q I h
 refine vP PySem.F.slot_dict_getitem.lookup hs (AR (ho AA s σ H _ I h) λu s1 ⟨x,H1,I1,rx,q1⟩=>AR (hi AA s1 σ H1 _ I1 q1) λiv s2 hzz=> ?_)
 obtain⟨y,H2,I2,ry,a,v,ex,g,q2⟩:=hzz
 subst ex
 obtain rfl:u=Value.ref a:=rx
 exact⟨vQ I2 g,vL hu I2 g ry λw' s3 I3 rw'=>⟨v,H2,I3,rw',q2⟩⟩
theorem dP(hu:X.A.units+1<cLine)(hi:PE X i ty)(ho:PE X o td):PC X .In i o (OZ ty td):=by
 intro AA s σ H Q I h
 refine AR (hi AA s σ H _ I h) λiv s1 ⟨y,H1,I1,ry,q1⟩=>AR (ho AA s1 σ H1 _ I1 q1) λu s2 hzz=> ?_
 obtain⟨x,H2,I2,rx,a,ov,ex,g,q2⟩:=hzz
 subst ex
 obtain rfl:u=Value.ref a:=rx
 exact vM hu I2 g ry λs3 I3=>⟨.bl ov.isSome,H2,I3,rfl,q2⟩
theorem O0(hu:X.A.units+1<cLine)(hi:PE X i ty)(ho:PE X o td):PC X .NotIn i o (KU ty td):=by
 intro AA s σ H Q I h
 refine AR (hi AA s σ H _ I h) λiv s1 ⟨y,H1,I1,ry,q1⟩=>AR (ho AA s1 σ H1 _ I1 q1) λu s2 hzz=> ?_
 obtain⟨x,H2,I2,rx,a,ov,ex,g,q2⟩:=hzz
 subst ex
 obtain rfl:u=Value.ref a:=rx
 exact vN hu I2 g ry λs3 I3=>⟨.bl (!ov.isSome),H2,I3,rfl,q2⟩
theorem SU(hu:X.A.units+1<cLine)(ho:PE X o td)(hi:PE X i ty)(hv:PE X value tv)(hs:swapsWith value (some (.Subscript o i pos')) pos.line X.env=pure false) :
  PS X (.Assign [.Subscript o i pos'] value pos) (MP td ty tv):=by
 intro AA s σ H D I h
 refine wpAny_Assign_Subscript (AR (hv AA s σ H _ I h) λr s1 ⟨v,H1,I1,rv,q1⟩=>AR (ho AA s1 σ H1 _ I1 q1) λu s2 ⟨x,H2,I2,rx,q2⟩=>AR (hi AA s2 σ H2 _ I2 q2) λiv s3 hzz=> ?_) hs
 obtain⟨y,H3,I3,ry,a,H4,ex,g,q3⟩:=hzz
 subst ex
 obtain rfl:u=Value.ref a:=rx
 exact vO hu I3 g ry rv λs4 I4=>⟨σ,H4,I4,q3⟩
end
theorem vS{P:Program}{w:World}{H:Hp}(h:Heap)(hb:sysModules<h.objs.size):ObjOk P w H (h.push { cls:=.type "dict",data:=.dict #[] }) h.objs.size (.dK []) :=
 ⟨Nat.zero_le _,beq_eq_false_iff_ne.mpr (Ne.symm (Nat.ne_of_lt hb)),[],.nil,Heap.DictOf.new h⟩
theorem vT{P:Program}{w:World}{H:Hp}(h:Heap)(hb:sysModules<h.objs.size):ObjOk P w H (h.push { cls:=.type "dict",data:=.dict #[] }) h.objs.size (.dT []) :=
 ⟨Nat.zero_le _,beq_eq_false_iff_ne.mpr (Ne.symm (Nat.ne_of_lt hb)),[],.nil,_,#[],0,Heap.get?_push_size _ rfl,⟨rfl,rfl,rfl⟩,rfl,rfl,List.nodup_nil⟩
def MQ:TE:=λ_ H Q=>∀ p,H p=none->Q (.ref p) (upd H p (.dK []))
def SV:TE:=λ_ H Q=>∀ p,H p=none->Q (.ref p) (upd H p (.dT []))
section
variable{X:Cx}{pos:Pos}
theorem SW:PE X (.Dict [] [] pos) MQ:=λAA s σ H Q I h =>
 wpAny_Dict_empty ⟨.ref s.heap.objs.size,_,I.laid (a:=s.heap.objs.size) (o:=.dK []) (t':=s.toks) (λ_ _ q=>Heap.get?_push_of_some _ q) (Nat.le_refl _) (vS s.heap I.big),rfl,h _ (I.hok.fresh (Nat.le_refl _))⟩
theorem vU:PE X (.Dict [] [] pos) SV:=λAA s σ H Q I h =>
 wpAny_Dict_empty ⟨.ref s.heap.objs.size,_,I.laid (a:=s.heap.objs.size) (o:=.dT []) (t':=s.toks) (λ_ _ q=>Heap.get?_push_of_some _ q) (Nat.le_refl _) (vT s.heap I.big),rfl,h _ (I.hok.fresh (Nat.le_refl _))⟩
end
def KW:List (TE × TE)->St->Hp->(List (V × V)->Hp->Prop)->Prop
 | [],_,H,Q=>Q [] H
 | (tk,tv)::r,σ,H,Q=>tk σ H λx H1=>tv σ H1 λy H2=>KW r σ H2 λps H3=>Q ((x,y)::ps) H3
def vV(AD more:List (AO × V)):List (AO × V):=more.foldl (λBW kv=>CL BW kv.1 kv.2) AD
theorem KV.merge:∀ {more:List (AO × V)} {rs:List (AO × Value)} {AD:List (AO × V)} {vs:List (AO × Value)},KV more rs->KV AD vs->KV (vV AD more) (merged vs rs):=by
 intro more rs AD vs r
 unfold KV at r
 induction r generalizing AD vs with
 | nil=>intro q;exact q
 | @cons p q ps qs h t ih =>
  intro r0
  have e:KV (CL AD p.1 p.2) (stored vs q.1 q.2):=by
   have:=r0.put p.1 h.2
   rw[<-h.1];exact this
  exact ih e
structure M1(X:Cx)(o:Expr)(m:Str)(CO:Pos)(e:Expr)(C9:Pos):Prop where
 base:attributeBase o m X.env (eval o X.env)=eval o X.env
 few:((backTo C9 (starEach [e] X.env)).all (λx=> !x.1) && (backToKw C9 (keywordEach [] X.env)).all (λx=>x.1.isSome)
  && decide (([e]:List Expr).length+([]:List Keyword).length+(if([]:List Keyword).isEmpty then 0 else 1)<30))=true
 line:(CO.endLine == C9.line)=true
 trees:backTo C9 (starEach [e] X.env)=[(false,eval e X.env)]
structure M2(X:Cx)(o:Expr)(m:Str)(CO:Pos)(e f:Expr)(C9:Pos):Prop where
 base:attributeBase o m X.env (eval o X.env)=eval o X.env
 few:((backTo C9 (starEach [e,f] X.env)).all (λx=> !x.1) && (backToKw C9 (keywordEach [] X.env)).all (λx=>x.1.isSome)
  && decide (([e,f]:List Expr).length+([]:List Keyword).length+(if([]:List Keyword).isEmpty then 0 else 1)<30))=true
 line:(CO.endLine == C9.line)=true
 trees:backTo C9 (starEach [e,f] X.env)=[(false,eval e X.env),(false,eval f X.env)]
def MR(H:Hp)(a:Addr):Prop:=(∃ AD,Rd H a (.dK AD))\/∃ AD,Rd H a (.dT AD)
theorem vW{X:Cx}{AA:List (Addr × Obj)}{σ:St}{H:Hp}{s:Shared}{a:Addr}(I:Inv X AA σ H s)(d:MR H a) :
  s.TypeIs (.ref a) "dict"/\(∀ b,Value.ref a=.ref b->∃ ob,s.heap.get? b=some ob/\ob.dict=none)/\(a == sysModules)=false:=by
 rcases d with⟨AD,e⟩ | ⟨AD,e⟩
 ·obtain⟨_,hd,vs,_,dd⟩:=IU I.hok e
  refine⟨dd.typeIs,λb q=> ?_,hd⟩
  cases q
  obtain⟨ob,_,_,h1,h2,_⟩:=dd
  exact⟨ob,h1,h2.2.1⟩
 ·obtain⟨_,hd,xs,_,dd⟩:=JQ I.hok e
  refine⟨dd.typeIs,λb q=> ?_,hd⟩
  cases q
  obtain⟨ob,_,_,h1,h2,_⟩:=dd
  exact⟨ob,h1,h2.2.1⟩
section
variable{X:Cx}{AA:List (Addr × Obj)}{σ:St}{H:Hp}{s:Shared}{a:Addr}{y d:V}{u r:Value}{o:Option V}{A:Around}{E:Value->Shared->Prop}
theorem vX{Q:Value->Shared->Prop}(hu:A.units+1<cLine)(I:Inv X AA σ H s)(g:DGet H a y o)(ry:RelV y u)(h:∀ w' s',Inv X AA σ H s'->RelV (o.getD .non) w'->Q w' s') :
  wpAny (model X.prog X.w) A (call (.builtin "dict.get") [.ref a,u]) Q E s:=by
 rcases g with⟨AD,k,e,ey,l⟩ | ⟨AD,k,b,e,ey,eb,l⟩
 ·subst ey
  obtain⟨z,hd,vs,rel,dd⟩:=IU I.hok e
  refine call_meetsIn PySem.F.slot_dict_get dd.typeIs PySem.F.entry_dict_get (PySem.F.args_dict_get_2 _ _) (meets_dict_get (EV X.prog X.w) a (KR ry) hd) ⟨_,dd.mapOf,h _ _ (I.tok _) ?_⟩
  rw[l]
  exact(rel.val k).getD rfl
 ·subst ey
  cases (show u=Value.ref b from ry)
  obtain⟨z,hd,xs,rel,dd⟩:=JQ I.hok e
  refine call_meetsIn PySem.F.slot_dict_get dd.typeIs PySem.F.entry_dict_get (PySem.F.args_dict_get_2 _ _) (meetsH_dict_get (tupleKind (EV X.prog X.w)) a b hd) ⟨tupleKind_room_in1 hu,k,xs,KS I.hok eb,dd,h _ _ (I.tok _) ?_⟩
  rw[l]
  exact(rel.val k).getD rfl
end
def SY(td ty:TE):TE:=λσ H Q=>td σ H λx H1=>∃ a,x=.ref a/\MR H1 a/\ty σ H1 λy H2=>∃ o,DGet H2 a y o/\Q (o.getD .non) H2
def vY(td ty tx:TE):TE:=λσ H Q=>td σ H λx H1=>∃ a,x=.ref a/\MR H1 a/\ty σ H1 λy H2=>tx σ H2 λz H3=>∃ o,DGet H3 a y o/\Q (o.getD z) H3
section
variable{X:Cx}{o e f:Expr}{CO C9:Pos}{td ty tx:TE}
theorem vZ(hu:X.A.units+1<cLine)(ho:PE X o td)(he:PE X e ty)(m:M1 X o "get" CO e C9):PE X (.Call (.Attribute o "get" CO) [e] [] C9) (SY td ty):=by
 intro AA s σ H Q I h
 refine wpAny_Call_method m.base m.few m.line PySem.F.plainAttrs_dict PySem.F.slot_dict_get PySem.F.type_dict_get (AR (ho AA s σ H _ I h) λu s1 hzz=> ?_)
 obtain⟨x,H1,I1,rx,a,ex,d,q1⟩:=hzz
 subst ex
 obtain rfl:u=Value.ref a:=rx
 obtain⟨t1,t2,_⟩:=vW I1 d
 refine⟨t1,t2,?_⟩
 rw[m.trees]
 refine Calls.callWith_builtin rfl (Calls.evalArgs_plain (Calls.spliced_cons (AR (he AA s1 σ H1 _ I1 q1) λiv s2 ⟨y,H2,I2,ry,ov,g,q2⟩=>Calls.spliced_nil ?_)))
 exact vX hu I2 g ry λw' s3 I3 rw'=>⟨_,H2,I3,rw',q2⟩
end
section
variable{X:Cx}{AA:List (Addr × Obj)}{σ:St}{H:Hp}{s:Shared}{a:Addr}{AD:List (AO × V)}{A:Around}{E:Value->Shared->Prop}
theorem v0{Q:Value->Shared->Prop}(I:Inv X AA σ H s)(e:Rd H a (.dK AD))(h:∀ p s',H p=none->Inv X AA σ (upd H p (.dK AD)) s'->Q (.ref p) s'):wpAny (model X.prog X.w) A (call (.type "dict") [.ref a]) Q E s:=by
 obtain⟨z,hd,vs,rel,dd⟩:=IU I.hok e
 refine kt_call_dict hd dd (by rw[<-rel.length];exact z) λh' dd' hs=> ?_
 refine h _ _ (I.hok.fresh (Nat.le_refl _)) (I.laid (a:=s.heap.objs.size) (o:=.dK AD) (t':=s.toks) (λb q hq=> ?_) (Nat.le_refl _) (dN z (beq_eq_false_iff_ne.mpr (Ne.symm (Nat.ne_of_lt I.big))) rel dd'))
 exact(hs.2 b (Nat.ne_of_lt (Heap.lt_size hq))).trans (Heap.get?_push_of_some _ hq)
end
section
variable{X:Cx}{AA:List (Addr × Obj)}{σ:St}{H:Hp}{s:Shared}{a:Addr}{y:V}{u:Value}{A:Around}{E:Value->Shared->Prop}
end
end L2
namespace Att
open PySem PySem.W PySem.Calls PyProof.Rows
theorem v2{P:Params}{h:Heap}:∀ (ns:List Int) (vs:List Value),WellAll P h vs (ns.map WData.int)->IntsAre vs ns:=by
 intro ns
 induction ns with
 | nil =>
  intro vs w
  rw[List.map_nil]at w
  cases w
  exact .nil
 | cons n ns ih =>
  intro vs w
  rw[List.map_cons]at w
  cases w with
  | cons a b =>
   cases a
   exact .cons _ _ (ih _ b)
theorem v3{l:OpenLaw}{n:Nat}(hn:l.most=some n){P:Params}{h:Heap}{args:List WData}{vals:List Value}
  (hpre:l.row.toRowW.claim.pre args=true) (hwl:WellAll P h vals args) :
  ∃ a vs ns,vals=[Value.ref a]/\args=[WData.list (ns.map WData.int)]/\h.get? a=some { cls:=.type "list",data:=.seq vs.toArray }/\IntsAre vs ns/\ns.length<=n:=by
 have hsh:WShape.hasAll [] args [.list .int]=true:=(pre_splitW hpre).1
 have hc:l.pre.holds [] { args:=args }=true:=(pre_splitW hpre).2
 obtain⟨d,r,rfl,h1,h2⟩:=hasAllW_cons hsh
 obtain rfl:=hasAllW_nil h2
 obtain⟨xs,rfl,h3⟩:=hasW_list h1
 obtain⟨ns,rfl⟩:=items_int h3
 have BT:ns.length<=n:=by
  unfold OpenLaw.pre at hc
  have h4:(WTm.not (.lt (.lit (.int (n:Int))) (.len (.arg 0)))).holds [] { args:=[.list (ns.map .int)] }=true:=by
   have h4:=(holds_andW hc).1
   rw[hn]at h4
   exact h4
  have h5:=condW_of h4 (w_not (w_lt w_lit (w_len_list (w_arg rfl))))
  rw[List.length_map]at h5
  refine Nat.le_of_not_lt λq=> ?_
  have q':(n:Int)<((ns.length:Nat):Int):=by omega
  first
   | (rw[decide_eq_true q']at h5;exact absurd h5 (by decide))
   | (simp at h5;omega)
 cases hwl with
 | cons w1 w2 =>
  cases w2
  cases w1 with
  | list ho hall=>exact⟨_,_,ns,rfl,rfl,ho,v2 ns _ hall,BT⟩
theorem v4(l:OpenLaw)(args:List WData):l.row.toRowW.claim.post args (.bool true) args=true :=
 postW_of (r:=l.row.toRowW) (X:=(true == true))
  (show WShape.has [] (.bool true) .bool=true by first | rfl | decide | simp[WShape.has,WShape.arms,WShape.armsAll])
  (show(WTm.eq .res (.lit (.bool true))).value [] { args:=args,res:=some (.bool true),after:=args }=some (.bool (true == true))from w_eq_bool (w_res rfl) w_lit) rfl
theorem attach_call{l:OpenLaw}{n:Nat}{q:Program}{loose:List Str}{XP:(Str->Option Value)->Heap->Prop}{YP:World->Heap->Prop}{d:DefRec}
  (hn:l.most=some n) (hdf:d.params.defaults=[])
  (call:∀ (w:World) (s₀ s₁:Shared) (mg mb:Str->Option Value) (fa:Addr) (o:Obj) (pm cd doc:Value) (a:Addr) (vs:List Value) (ns:List Int),
   Ground q loose [] XP w s₀ mg mb s₁.heap->YP w s₁.heap →
   s₁.heap.get? fa=some o->o.data=.func (docDef d.name d.params d.body d.scope pm cd doc)->s₁.heap.CodeRec cd d.name->mg d.name=some (.ref fa) →
   s₁.heap.get? a=some { cls:=.type "list",data:=.seq vs.toArray }->IntsAre vs ns->ns.length<=n->s₁.gens= #[] →
   codeAny (model l.prog w) callerA (.call (.ref fa) ⟨[.ref a],[]⟩) (λr s'=>r=.ok (.ret (.bool true))/\OldK s₁.heap s'.heap/\s'.os=s₁.os/\AllBare s'.gens) s₁) :
  WalkO q loose XP YP l.row.toRowW d [] (λf vs=>PySem.call f vs):=by
 intro w s₀ s₁ mg mb G Y fa o pm cd doc dV kV ho hd GQ hD hmg hg args vals as hpre hlay hrd hwl hlo
 obtain rfl:dV=.none:=Dflts.none hD hdf
 obtain rfl:kV=.none:=Dflts.noKw hD
 obtain⟨a,vs,ns,rfl,rfl,hobj,hints,BT⟩:=v3 hn hpre hwl
 refine enter_call (codeAny_mono (call w s₀ s₁ mg mb fa o pm cd doc a vs ns G Y ho (fd_plain hd) GQ hmg hobj hints BT hg) λr s' hq=> ?_)
 obtain⟨rfl,h2,h3,h4⟩:=hq
 exact⟨.inl ⟨.bool true,.bool true,[],rfl,λ_=>rfl,.bool true,v4 l _,λ_=>⟨List.Pairwise.nil,λ_ hm=>(nomatch hm)⟩⟩,h2,h3,h4⟩
section
variable{prog:Program}{w:World}{A:Around}{E:Value->Shared->Prop}{s:Shared}{K:Frag}
def zhd(h:Heap)(L d:Addr):List (Addr × Obj):=(List.range h.objs.size).filterMap λa=>if a=L\/a=d then none else(h.get? a).map λo=>(a,o)
end
end Att
namespace L2
theorem SZ:∀ {vs:List Value} {ns:List Int},IntsAre vs ns->Vals (ns.map V.int) vs
 | _,_,.nil=>.nil
 | _,_,.cons n t h=>.cons ⟨t,rfl⟩ (SZ h)
def S0(H:Hp):Prop:=∀ b,H b=none\/∃ o xs,H b=some (.frz o (.lst xs))
theorem v5 {P:Program} {w:World} {K:W.Frag} {mg mb:Str->Option Value} {CX:FG} {k:Nat} {fa a:Addr} {fd:FuncData} {x:Str} {sp:Sp} {s₁:Shared} {vs:List Value} {ns:List Int}
    (KX:K.In s₁.heap) (hns:s₁.heap.Ns mainGlobals mg) (hb:s₁.heap.Ns builtinsNs mb) (hbb:∀ x:Str,x≠"__name__"->mb x=bootBuiltins x) (hlim:s₁.heap.NoLimit) (hg:s₁.gens= #[])
    (ha:s₁.heap.get? a=some { cls:=.type "list",data:=.seq vs.toArray }) (hi:IntsAre vs ns) (hl:ns.length<=sizeLine) (hr:Room k callerA)
    (F:∀ base:Heap,K.In base->base.Ns mainGlobals mg->FnOk P w K mg base CX k fa fd [x] sp) (hbind:∀ (s:Shared) (u:Value),BindsTo s fd ⟨[u],[]⟩ [(x,u)])
    (hsp:∀ H:Hp,S0 H->SqL K H a (ns.map V.int)->sp [.ref a] H (λv _=>v=.bl true) λ_ _ _=>False)
    (hCX:∀ H e s',CX [] H s₁ (λ_ _ _=>False) e s'->False) :
    codeAny (model P w) callerA (.call (.ref fa) ⟨[.ref a],[]⟩) (λr s'=>r=.ok (.ret (.bool true))/\OldK s₁.heap s'.heap/\s'.os=s₁.os/\AllBare s'.gens) s₁:=by
  have rv:=SZ hi
  have lenV:=hi.length
  have core:∀ H:Hp,S0 H->SqL K H a (ns.map V.int)->HOk P w H s₁.heap->(∀ b,H b≠none->b=a)->(H a≠none->K.lookup a=none) →
      codeAny (model P w) callerA (.call (.ref fa) ⟨[.ref a],[]⟩) (λr s'=>r=.ok (.ret (.bool true))/\OldK s₁.heap s'.heap/\s'.os=s₁.os/\AllBare s'.gens) s₁:=by
    intro H hO hS hok hA hK
    have base_of:∀ {b:Addr} {o:Obj},s₁.heap.get? b=some o->H b=none->(HY s₁.heap H).get? b=some o:=λe n=>sL e n
    have noA:∀ {b:Addr} {o:Obj} {es:Array DictEntry} {ep:Nat},s₁.heap.get? b=some o->o.data=.dict es ep->H b=none:=λ{b o es ep} e d=>by
      cases q:H b with
      | none=>rfl
      | some u =>
        have e':b=a:=hA b (by rw[q];simp)
        subst e'
        rw[ha]at e;cases e
        have d':Data.seq vs.toArray _=Data.dict es ep:=d
        cases d'
    have nsK:∀ {b:Addr} {m:Str->Option Value},s₁.heap.Ns b m->(HY s₁.heap H).Ns b m:=λ{b m} ⟨o,es,ep,e,d,r⟩=>⟨o,es,ep,base_of e (noA e d),d,r⟩
    have hKb:K.In (HY s₁.heap H):=λb o e=>base_of (KX b o e) (by
      cases q:H b with
      | none=>rfl
      | some u =>
        have e':b=a:=hA b (by rw[q];simp)
        subst e'
        rw[hK (by rw[q];simp)]at e;cases e)
    have hM:Mod K mg (HY s₁.heap H):=⟨hKb,nsK hns,⟨mb,nsK hb,hbb⟩,let ⟨mc,h1,h2⟩:=hlim;⟨mc,nsK h1,h2⟩⟩
    have e0:Env0 P w K mg (HY s₁.heap H) callerA [] s₁ H:=⟨rfl,hM,λb o e=>sM e,Nat.le_of_eq (sK _ _),trivial,λb hb=>absurd (show b∈([]:List Addr)from hb) (by simp),hok,.of_eq hg⟩
    refine codeAny_mono ((F _ hKb (nsK hns)).run callerA [] s₁ H ⟨[.ref a],[]⟩ [.ref a] [.ref a] _ _ hr e0 (hbind s₁ (.ref a)) (.cons rfl .nil) (hsp H hO hS)) λr s' h=> ?_
    cases r with
    | error e=>exact(hCX H e s' h).elim
    | ok fl =>
      cases fl with
      | next=>exact False.elim h
      | brk=>exact False.elim h
      | cont=>exact False.elim h
      | ret u =>
        obtain⟨v,H',os,bare,un,hok',r',q⟩:=h
        have q':v=.bl true:=q
        subst q'
        obtain rfl:u=Value.bool true:=r'
        refine⟨rfl,OldK.of_keep λb o e=> ?_,os,bare⟩
        cases q:H b with
        | none=>exact un.keep b o e q (by intro z;exact absurd (show b∈([]:List Addr)from z) (by simp)) (by simp)
        | some u =>
          rcases hO b with z | ⟨ob,xs,z⟩
          ·rw[q]at z;cases z
          · have z2:=un.frzs b ob _ z
            obtain⟨e1,_⟩:=hok b _ z
            obtain⟨e2,_⟩:=hok' b _ z2
            rw[e]at e1;cases e1
            exact e2
  cases hk:K.lookup a with
  | some o =>
    have e:=KX a o hk
    rw[ha]at e
    cases e
    refine core (λ_=>none) (λ_=>.inl rfl) (.inr ⟨_,vs.toArray,_,hk,rfl,rfl,rfl,by rw[List.size_toArray,lenV];exact hl,by simpa using rv⟩) (λb u z=>by have z':(none:Option HO)=some u:=z;cases z') (λb z=>absurd rfl z) λz=>absurd rfl z
  | none =>
    refine core (λb=>if b=a then some (.frz { cls:=.type "list",data:=.seq vs.toArray } (.lst (ns.map V.int)))else none) (λb=> ?_) (.inl (.inr ⟨{ cls:=.type "list",data:=.seq vs.toArray },if_pos rfl⟩)) (λb u z=> ?_) (λb z=> ?_) λ_=>hk
    · by_cases hb:b=a
      ·exact .inr ⟨_,_,if_pos hb⟩
      ·exact .inl (if_neg hb)
    · by_cases hb:b=a
      · have z':=(if_pos hb).symm.trans z
        cases z'
        subst hb
        exact⟨ha,by rw[List.length_map];exact hl,vs,_,rv,ha⟩
      · have z':=(if_neg hb).symm.trans z
        cases z'
    · by_cases hb:b=a
      ·exact hb
      ·exact absurd (if_neg hb) z
end L2
namespace L2
abbrev KOf{K:W.Frag}{h:Heap}(_:K.In h):W.Frag:=K
theorem walk_of{l:W.OpenLaw}{n k:Nat}{q:Program}{loose:List Str}{XP:(Str->Option Value)->Heap->Prop}{YP:World->Heap->Prop}{d:DefRec}{K:Params->W.Frag}{CX:World->FG}{sp:World->Sp}{x:Str}
  (hn:l.most=some n) (hn2:n<=sizeLine) (hdf:d.params.defaults=[]) (hr:Room k callerA)
  (hY:∀ (w:World) (h:Heap),YP w h->(K w.params).In h)
  (F:∀ (w:World) (mg:Str->Option Value) (fa:Addr) (h:Heap),(K w.params).In h->h.Ns mainGlobals mg->mg d.name=some (.ref fa) →
   ∃ fd:FuncData,(∀ (s:Shared) (u:Value),BindsTo s fd ⟨[u],[]⟩ [(x,u)]) ∧
    ∀ base:Heap,(K w.params).In base->base.Ns mainGlobals mg->FnOk l.prog w (K w.params) mg base (CX w) k fa fd [x] (sp w))
  (hsp:∀ (w:World) (H:Hp) (a:Addr) (ns:List Int),ns.length<=n->S0 H->SqL (K w.params) H a (ns.map V.int)->sp w [.ref a] H (λv _=>v=.bl true) λ_ _ _=>False)
  (hCX:∀ (w:World) (H:Hp) (s:Shared) (e:Value) (s':Shared),CX w [] H s (λ_ _ _=>False) e s'->False) :
  W.WalkO q loose XP YP l.row.toRowW d [] (λf vs=>PySem.call f vs):=by
 refine Att.attach_call hn hdf λw s₀ s₁ mg mb fa o pm cd doc a vs ns G Y ho hd GQ hmg hobj hints BT hg=> ?_
 have KX:=hY w _ Y
 obtain⟨fd,hb,hF⟩:=F w mg fa _ KX G.T.g hmg
 exact v5 KX G.T.g G.T.b G.T.builtins G.T.nolimit hg hobj hints (Nat.le_trans BT hn2) hr hF hb (λH hO hS=>hsp w H a ns BT hO hS) λH e s'=>hCX w H s₁ e s'
end L2
namespace L2
def BP(s:Stmt)(j:Nat):Stmt:=match s with
 | .ClassDef _ _ _ body _ _ _ _ _ _ _=>body.getD j (.Pass ⟨0,0,0,0⟩)
 | _=>.Pass ⟨0,0,0,0⟩
def ID(s:Stmt):Arguments:=match s with
 | .FunctionDef _ a _ _ _ _ _ _ _ _=>a
 | _=>{ posonlyargs:=[],args:=[],vararg:=none,kwonlyargs:=[],kw_defaults:=[],kwarg:=none,defaults:=[] }
def FY(s:Stmt):List Stmt:=match s with
 | .FunctionDef _ _ b _ _ _ _ _ _ _=>b
 | _=>[]
def AW(s:Stmt):Scope:=match s with
 | .FunctionDef _ _ _ _ _ _ sc _ _ _=>sc
 | _=>{ kind:=.function,names:=[],isGenerator:=false,isCoroutine:=false }
abbrev dQ:FG:=λ_ _ _ _ _ _=>False
abbrev E0:XK:=λ_ _ _=>False
structure Fun(K:W.Frag)(x qual:Str)(st:Stmt)(f:Addr)(fd:FuncData):Prop where
 ex:∃ (oc:Value) (od:Option Addr) (kV doc pm:Value) (an:Option Addr) (BM ct:Value) (osl:Array (Option Value)),
  fd=W.fnOf x qual (ID st) (FY st) (AW st) .none kV doc pm an BM ct/\K.lookup f=some ⟨oc,od,.func fd,osl⟩/\W.codeIn K BM qual=true
 kp:W.keepIn K (.ref f)=true
section
variable{P:Program}{w:World}{K:W.Frag}{mg:Str->Option Value}{base:Heap}
theorem Fun.ok{x qual:Str}{st:Stmt}{f:Addr}{fd:FuncData}{N ps:List Str}{k:Nat}{sp:Sp}(F:Fun K x qual st f fd)(S:FnScope N ps (AW st))(len:∀ vs H Q E,sp vs H Q E->vs.length=ps.length)
  (N8:∀ (BM:Value) (A:Around) (outer:List Env) (s:Shared) (H:Hp) (vs:List V) (Q:VK) (E:XK),Room k (A.deeper (envOfC qual (AW st) s.heap.objs.size f BM))->sp vs H Q E →
   ∃ t,PSs (GB dQ P w K mg base N qual (AW st) f BM A outer s H E).nox (FY st) t/\t { nx:=λ_ H'=>Q .non H',rt:=Q } (A4 N vs) H):FnOk P w K mg base dQ (k+1) f fd ps sp:=by
 obtain⟨oc,od,kV,doc,pm,an,BM,ct,osl,rfl,lk,GQ⟩:=F.ex
 refine cR lk GQ S len λA outer s H vs Q E hr hsp=> ?_
 obtain⟨t,h,q⟩:=N8 BM A outer s H vs Q E hr hsp
 exact⟨t,h.nox,q⟩
theorem Fun.binds{x qual:Str}{st:Stmt}{f:Addr}{fd:FuncData}{ps:List Str}(F:Fun K x qual st f fd)
  (h:∀ (kV doc pm:Value) (an:Option Addr) (BM ct:Value) (us:List Value),us.length=ps.length->bindArgs (W.fnOf x qual (ID st) (FY st) (AW st) .none kV doc pm an BM ct) ⟨us,[]⟩=pure (ps.zip us)):Binds K fd ps []:=by
 obtain⟨oc,od,kV,doc,pm,an,BM,ct,osl,rfl,lk,GQ⟩:=F.ex
 exact .all (h kV doc pm an BM ct)
theorem dR{x qual:Str}{st:Stmt}{f:Addr}{oc:Value}{od an:Option Addr}{osl:Array (Option Value)}{kV doc pm BM ct:Value}(l:K.lookup f=some ⟨oc,od,.func (W.fnOf x qual (ID st) (FY st) (AW st) .none kV doc pm an BM ct),osl⟩)
  (c:W.codeIn K BM qual=true) (k:W.keepIn K (.ref f)=true):Fun K x qual st f (W.fnOf x qual (ID st) (FY st) (AW st) .none kV doc pm an BM ct):=⟨⟨oc,od,kV,doc,pm,an,BM,ct,osl,rfl,l,c⟩,k⟩
end
theorem GZ{A:Around}{k:Nat}(hr:Room k A):A.units+1<cLine:=Nat.lt_of_le_of_lt (Nat.add_le_add_left (by decide:1<=64) _) hr.units
section
variable{X:Cx}
end
def Same(H H':Hp):Prop:=∀ b o,H b=some o->H' b=some o
theorem Same.refl(H:Hp):Same H H:=λ_ _ h=>h
theorem Same.trans{H H1 H2:Hp}(a:Same H H1)(b:Same H1 H2):Same H H2:=λc o h=>b c o (a c o h)
theorem Same.free{H H':Hp}(e:Same H H'){l:Addr}(h:H' l=Option.none):H l=Option.none:=by
 cases q:H l with
 | none=>rfl
 | some o =>
  rw[e l o q]at h
  cases h
theorem Same.seq{K:W.Frag}{H H':Hp}{a:Addr}{xs:List V}(e:Same H H')(h:SqL K H a xs):SqL K H' a xs:=by
 rcases h with(h | ⟨o,h⟩) | h
 ·exact .inl (.inl (e _ _ h))
 ·exact .inl (.inr ⟨o,e _ _ h⟩)
 ·exact .inr h
section
variable{κ :Type}[DecidableEq κ]
theorem v6{AD:List (κ × V)}{k: κ}(h:BR AD k=none):¬ k∈AD.map (·.1):=by
 intro m
 obtain⟨p,hp,e⟩:=List.mem_map.mp m
 have q:(AD.any λkv=>decide (kv.1=k))=true:=List.any_eq_true.mpr ⟨p,hp,decide_eq_true e⟩
 rw[KQ,h]at q
 exact absurd q (by simp)
theorem dU:∀ {l:List κ} {k: κ},l.Nodup->¬ k∈l->(l++[k]).Nodup
 | [],k,_,_=>by simp
 | a::r,k,h,hk=>by
  obtain⟨h1,h2⟩:=List.nodup_cons.mp h
  show(a::(r++[k])).Nodup
  refine List.nodup_cons.mpr ⟨λm=> ?_,dU h2 λm=>hk (List.mem_cons.mpr (Or.inr m))⟩
  rcases List.mem_append.mp m with q | q
  ·exact h1 q
  ·exact hk (List.mem_cons.mpr (Or.inl (List.mem_singleton.mp q).symm))
theorem v7{AD:List (κ × V)}{k: κ}(v:V)(hn:(AD.map (·.1)).Nodup)(h:BR AD k=none):((CL AD k v).map (·.1)).Nodup:=by
 rw[dG v h,List.map_append]
 exact dU hn (v6 h)
end
end L2
namespace L2
theorem S4{env:Env}:∀ (names:List (Str × NameKind)) (cs:List (Str × Addr)),
  (∀ x∈names,x.2=.free->∃ c,env.cells.lookup x.1=some c)->(∀ x c,cs.lookup x=some c->env.cells.lookup x=some c) →
  ∃ cl,(forIn names cs λx r=>(if(x.2 == NameKind.free)=true then do let a ← cellOf env x.1;pure (ForInStep.yield ((x.1,a)::r))else pure (ForInStep.yield r):Sem (ForInStep (List (Str × Addr)))))=pure cl ∧
   (∀ x c,cl.lookup x=some c->env.cells.lookup x=some c)/\(∀ x,(cs.lookup x).isSome=true->(cl.lookup x).isSome=true) ∧
   ∀ x∈names,x.2=.free->(cl.lookup x.1).isSome=true
 | [],cs,_,h=>⟨cs,rfl,h,λ_ z=>z,λ_ z=>nomatch z⟩
 | (n,k)::r,cs,hf,h=>by
  by_cases hk:k=.free
  ·subst hk
   obtain⟨c,hc⟩:=hf (n,.free) List.mem_cons_self rfl
   obtain⟨cl,e,h1,h2,h3⟩:=S4 r ((n,c)::cs) (λx hx=>hf x (List.mem_cons_of_mem _ hx)) (λx c' hx=>by
    by_cases hxn:x=n
    ·subst hxn;simp only[List.lookup_cons,beq_self_eq_true]at hx;cases hx;exact hc
    ·have:(x == n)=false:=beq_eq_false_iff_ne.mpr hxn
     simp only[List.lookup_cons,this]at hx;exact h x c' hx)
   refine⟨cl,?_,h1,λx hx=>h2 x ?_,λx hx hxf=> ?_⟩
   ·rw[List.forIn_cons]
    show((if(NameKind.free == NameKind.free)=true then _ else _) >>= _)=_
    rw[if_pos (show(NameKind.free == NameKind.free)=true from rfl)]
    unfold cellOf
    show(((match env.cells.lookup n with | some a=>pure a | none=>_) >>= _) >>= _)=_
    rw[hc]
    exact e
   ·by_cases hxn:x=n
    ·subst hxn;simp
    ·have:(x == n)=false:=beq_eq_false_iff_ne.mpr hxn
     simp only[List.lookup_cons,this];exact hx
   ·rcases List.mem_cons.mp hx with rfl | hx
    ·exact h2 n (by simp)
    ·exact h3 x hx hxf
  ·obtain⟨cl,e,h1,h2,h3⟩:=S4 r cs (λx hx=>hf x (List.mem_cons_of_mem _ hx)) h
   refine⟨cl,?_,h1,h2,λx hx hxf=> ?_⟩
   ·rw[List.forIn_cons]
    have hb:(k == NameKind.free)=false:=by simpa using hk
    show((if(k == NameKind.free)=true then _ else _) >>= _)=_
    rw[if_neg (by simp[hb])]
    exact e
   ·rcases List.mem_cons.mp hx with rfl | hx
    ·exact absurd hxf hk
    ·exact h3 x hx hxf
theorem dW{env:Env}{scope:Scope}(hf:∀ x∈scope.names,x.2=.free->∃ c,env.cells.lookup x.1=some c) :
  ∃ cl,closureFor scope env=pure cl/\(∀ x c,cl.lookup x=some c->env.cells.lookup x=some c)/\∀ x∈scope.names,x.2=.free->(cl.lookup x.1).isSome=true:=by
 obtain⟨cl,e,h1,_,h3⟩:=S4 (env:=env) scope.names [] hf (λx c h=>by simp at h)
 refine⟨cl,?_,h1,h3⟩
 unfold closureFor
 show(forIn scope.names ([]:List (Str × Addr)) _ >>= _)=_
 have:(forIn scope.names ([]:List (Str × Addr)) λx r=>(if(x.2 == NameKind.free)=true then do let a ← cellOf env x.1;pure (ForInStep.yield ((x.1,a)::r))else pure (ForInStep.yield r):Sem (ForInStep (List (Str × Addr))))) >>=(λr=>(pure r:Sem _))=(pure cl:Sem _):=by rw[e];rfl
 exact this
theorem dX{env:Env}:∀ {names:List (Str × NameKind)} {x:Str},names.lookup x=some .free →
  (names.map λ(n,k)=>if(k == NameKind.free && env.scope.kind == .function && env.kindOf n == some .cell)then(n,NameKind.cell)else(n,k)).lookup x=some .cell ∨
  (names.map λ(n,k)=>if(k == NameKind.free && env.scope.kind == .function && env.kindOf n == some .cell)then(n,NameKind.cell)else(n,k)).lookup x=some .free
 | [],_,h=>by simp at h
 | (n,k)::r,x,h=>by
  by_cases hx:x=n
  ·subst hx
   simp only[List.lookup_cons,beq_self_eq_true]at h
   cases h
   show List.lookup x ((if _ then(x,NameKind.cell)else(x,NameKind.free))::_)=_\/List.lookup x ((if _ then(x,NameKind.cell)else(x,NameKind.free))::_)=_
   split
   ·exact .inl (by simp)
   ·exact .inr (by simp)
  ·have hb:(x == n)=false:=beq_eq_false_iff_ne.mpr hx
   simp only[List.lookup_cons,hb]at h
   have ih:=dX (env:=env) h
   show List.lookup x ((if _ then(n,NameKind.cell)else(n,k))::_)=_\/List.lookup x ((if _ then(n,NameKind.cell)else(n,k))::_)=_
   split<;>(simp only[List.lookup_cons,hb];exact ih)
theorem dY{env:Env}:∀ {names:List (Str × NameKind)} {x:Str},
  ((names.map λ(n,k)=>if(k == NameKind.free && env.scope.kind == .function && env.kindOf n == some .cell)then(n,NameKind.cell)else(n,k)).lookup x=some .cell ∨
  (names.map λ(n,k)=>if(k == NameKind.free && env.scope.kind == .function && env.kindOf n == some .cell)then(n,NameKind.cell)else(n,k)).lookup x=some .free)->(x,NameKind.free)∈names\/(x,NameKind.cell)∈names
 | [],_,h=>by simp at h
 | (n,k)::r,x,h=>by
  by_cases hx:x=n
  ·subst hx
   have h:List.lookup x ((if(k == NameKind.free && env.scope.kind == .function && env.kindOf x == some .cell)=true then(x,NameKind.cell)else(x,k))::_)=some .cell\/List.lookup x ((if(k == NameKind.free && env.scope.kind == .function && env.kindOf x == some .cell)=true then(x,NameKind.cell)else(x,k))::_)=some .free:=h
   split at h
   ·rename_i hc
    rw[Bool.and_eq_true,Bool.and_eq_true]at hc
    have:k=.free:=by simpa using hc.1.1
    subst this
    exact .inl List.mem_cons_self
   ·simp only[List.lookup_cons,beq_self_eq_true]at h
    rcases h with h | h
    ·cases h;exact .inr List.mem_cons_self
    ·cases h;exact .inl List.mem_cons_self
  ·have hb:(x == n)=false:=beq_eq_false_iff_ne.mpr hx
   have h:List.lookup x ((if(k == NameKind.free && env.scope.kind == .function && env.kindOf n == some .cell)=true then(n,NameKind.cell)else(n,k))::_)=some .cell\/List.lookup x ((if(k == NameKind.free && env.scope.kind == .function && env.kindOf n == some .cell)=true then(n,NameKind.cell)else(n,k))::_)=some .free:=h
   have h':=h
   split at h'
   all_goals
    simp only[List.lookup_cons,hb]at h'
    exact(dY h').imp (List.mem_cons_of_mem _) (List.mem_cons_of_mem _)
theorem EL{a b:Addr}{n:Nat}(h:a<n)(h2:n<=b):a≠b:=Nat.ne_of_lt (Nat.lt_of_lt_of_le h h2)
def Cx.block(X:Cx)(AA:List (Addr × Obj))(s:Shared)(H:Hp)(Nc:List Str)(scope:Scope)(cl:List (Str × Addr))(C:Addr)(fp:List Addr):Cx where
 prog:=X.prog
 w:=X.w
 K:=X.K
 mg:=X.mg
 base:=X.base
 A:=X.A
 N:=Nc
 s₀:=s
 H₀:=H
 env:=compEnvC scope cl C X.env
 outer:=X.stack
 stack:=X.stack
 ex:=fp
 fn:=λ_=>false
 calm:=X.calm
 pn:=X.pn++AA
 xe:=λ_ _=>False
structure KY(X:Cx)(scope:Scope)(tn cn:List Str)(cap:List Nat):Prop where
 kind:scope.kind=.function
 nocell:∀ y∈scope.names,y.2≠.cell
 names:∀ y∈scope.names,y.2=.local->scope.names.lookup y.1=some .local
 free:∀ y∈scope.names,y.2=.free->X.env.kindOf y.1=some .cell\/X.env.kindOf y.1=some .free
 drawn:∀ x∈cn,scope.names.lookup x=some .free
 caps:cap.map (λi=>X.N[i]?)=cn.map some
def IE(k:Nat)(cap:List Nat)(σ:St):St:=List.replicate k none++cap.map λi=>(σ[i]?).join
theorem HOk.track{P:Program}{w:World}{H:Hp}{h:Heap}{a:Addr}{o:HO}(x:HOk P w H h)(hn:H a=none)(new:ObjOk P w (upd H a o) h a o):HOk P w (upd H a o) h:=λb u e=>by
 by_cases hb:b=a
 ·subst hb;rw[AH]at e;cases e;exact new
 ·rw[AG hb]at e
  refine(x b u e).stay (λ_ _ _ q=>q) (λc q=> ?_) λc xs q=> ?_
  ·rw[AG (BL q hn)];exact q
  ·rw[AG (BL q hn)];exact q
section
variable{X:Cx}{AA:List (Addr × Obj)}{σ:St}{H:Hp}{s:Shared}
theorem Inv.pinlt(I:Inv X AA σ H s){p:Addr × Obj}(hp:p∈X.pn++AA):p.1<s.heap.objs.size:=Heap.lt_size (I.pin p hp).1
theorem Inv.stkne(I:Inv X AA σ H s){b:Addr}(h1:b≠X.env.locals)(h2:b∉X.fs):b∉DL X.stack:=λz=>(List.mem_cons.mp (I.stkSub b z)).elim h1 h2
theorem Inv.stklt(I:Inv X AA σ H s){b:Addr}(h:b∈DL X.stack):b<s.heap.objs.size:=by
 obtain⟨_,o,ho,_⟩:=I.stack.mem h
 exact Heap.lt_size ho
theorem Inv.block{scope:Scope}{tn cn:List Str}{cap:List Nat}{cl:List (Str × Addr)}{C:Addr}{fp:List Addr}{pins':List (Addr × Obj)}{s1:Shared}(I:Inv X AA σ H s)(S:KY X scope tn cn cap)
  (BX:∀ x c,cl.lookup x=some c->X.env.cells.lookup x=some c) (JL:∀ x∈scope.names,x.2=.free->(cl.lookup x.1).isSome=true)
  (hf:∀ b∈fp,FpOk X AA H b) (hfl:∀ b∈fp,b<s.heap.objs.size) (hC:s.heap.objs.size<=C) (k:∀ b o,s.heap.get? b=some o->s1.heap.get? b=some o)
  (hos:s1.os=s.os) (hg:s1.gens=s.gens) (hns:∃ m,s1.heap.Ns C m)
  (hp:∀ p∈pins',s1.heap.get? p.1=some p.2/\H p.1=none/\p.1≠C/\p.1∉DL X.stack/\∀ v,p.2.data≠.cell v) :
  Inv (X.block AA s H (tn++cn) scope cl C fp) pins' (IE tn.length cap σ) H s1:=by
 have ok:(X.block AA s H (tn++cn) scope cl C fp).Ok:=by
  refine⟨I.ok.mod,S.kind,I.ok.glob,I.ok.blt,hC,λx y c h1 h2=>I.ok.inj x y c (BX x c h1) (BX y c h2),λx hx=> ?_,λx c z _=>(by cases z),I.ok.hd,I.ok.frames,.inl rfl,λb hb=>⟨?_,λx c e=>(hf b hb).2.2.2.2.1 x c (BX x c e)⟩,I.bs,Nat.le_trans I.ok.bsz I.sz,λb o e hb=> ?_,λb hb=>I.stkne (hf b hb).2.1 (hf b hb).2.2.1,I.stack,I.stkFree⟩
  ·rcases dY (env:=X.env) hx with z | z
   ·exact Option.isSome_iff_exists.mp (JL _ z rfl)
   ·exact absurd rfl (S.nocell _ z)
  ·exact Nat.ne_of_lt (Nat.lt_of_lt_of_le (hfl b hb) hC)
  ·rcases(hf b hb).2.2.2.1 with z | z
   ·exact I.ok.noex b o e z
   ·have h1:b<X.base.objs.size:=Heap.lt_size e
    exact absurd (Nat.lt_of_lt_of_le h1 (Nat.le_trans I.ok.bsz z)) (Nat.lt_irrefl _)
 refine⟨ok,hos,by rw[hg];exact I.bare,Un.kept k,?_,λx c e=> ?_,I.hok.fresh hC,λx c e=>I.freeC x c (BX x c e),λp hp'=> ?_,I.hok.kept k,?_⟩
 ·obtain⟨m,hm⟩:=hns
  refine⟨m,hm,λi x v h1 h2 h3=> ?_⟩
  have hi:tn.length<=i:=by
   rcases Nat.lt_or_ge i tn.length with z | z
   ·unfold IE at h2
    rw[List.getElem?_append_left (by simpa using z),List.getElem?_replicate]at h2
    split at h2<;>cases h2
   ·exact z
  unfold IE at h2
  rw[List.getElem?_append_right (by simpa using hi),List.length_replicate,List.getElem?_map]at h2
  have h1':cn[i - tn.length]? =some x:=by
   have:(tn++cn)[i]? =some x:=h1
   rwa [List.getElem?_append_right hi]at this
  cases hq:cap[i - tn.length]? with
  | none=>rw[hq]at h2;cases h2
  | some j =>
   rw[hq]at h2
   have hj:X.N[j]? =some x:=by
    have:=congrArg (λl=>l[i - tn.length]?) S.caps
    simp only[List.getElem?_map,hq,h1',Option.map_some]at this
    exact Option.some.inj this
   have hv:σ[j]? =some (some v):=by
    cases hs:σ[j]? with
    | none=>simp[hs]at h2
    | some y=>simp only[Option.map_some,hs,Option.join_some]at h2;cases h2;rfl
   have hxf:(x,NameKind.free)∈scope.names:=PySem.mem_of_lookup (S.drawn x (List.mem_of_getElem? h1'))
   have hk:=S.free _ hxf rfl
   obtain⟨m0,_,hl0⟩:=I.loc
   obtain⟨u,r,q⟩:=hl0 j x v hj hv (hk.elim (λz=>.inr (.inl z)) λz=>.inr (.inr z))
   refine⟨u,r,.inr ⟨dX (S.drawn x (List.mem_of_getElem? h1')),?_⟩⟩
   rcases q with⟨kl,_⟩ | ⟨_,c,hc,z⟩
   ·have kl':X.env.kindOf x=some .local:=kl
    rcases hk with hk | hk<;>(rw[kl']at hk;cases hk)
   ·obtain⟨c',hc'⟩:=Option.isSome_iff_exists.mp (JL _ hxf rfl)
    have:=BX _ _ hc'
    rw[hc]at this
    cases this
    exact⟨c,hc',z.keeps k⟩
 ·obtain⟨v,z⟩:=I.cell x c (BX x c e)
  exact⟨v,z.keeps k⟩
 ·rcases List.mem_append.mp hp' with z | z
  ·obtain⟨e,n,ne,nf,d⟩:=I.pin p z
   exact⟨k _ _ e,n,Nat.ne_of_lt (Nat.lt_of_lt_of_le (Heap.lt_size e) hC),I.stkne ne nf,d⟩
  ·exact hp p z
 ·unfold IE
  show _=(tn++cn).length
  have:=congrArg List.length S.caps
  simp only[List.length_map]at this
  simp[this]
end
def C7:TT:=λ_ H Q=>Q true H
def MS(X:Cx)(E6:List Expr)(t:TT):Prop :=
 ∀ (AA:List (Addr × Obj)) (s:Shared) (σ:St) (H:Hp) (Q:Bool->Hp->Prop),Inv X AA σ H s->t σ H Q →
  wpAny (model X.prog X.w) X.A (forIn E6 true λc r=>if r=true then do let ok ← isTrue c X.env (eval c X.env);pure (ForInStep.yield ok)else pure (ForInStep.yield r)) (TP X AA σ Q) X.xe s
theorem FZ{X:Cx}:MS X [] C7:=λAA s σ H Q I h=>wpAny_tests_nil ⟨H,I,h⟩
theorem v8{X:Cx}{c:Expr}{t:TT}(h:PT X c t):MS X [c] t:=λAA s σ H Q I q=>wpAny_tests_one (h AA s σ H Q I q)
theorem v9 {prog:Program} {w:World} {A:Around} {R:Result->Shared->Prop} {s:Shared} {FU target iter:Expr} {E6:List Expr} {scope:Scope} {pos:Pos} {it BW:Value} {env:Env} (Jn:Nat->Shared->Prop)
    (turn:∀ n s,Jn n s->wpAny (model prog w) A (pyNext it) (λr s₁=>match r with
      | none=>R (.ok .next) s₁
      | some v=>wpAny (model prog w) A (letOwnedTupleGo target it v) (λ_ s₂=>wpAny (model prog w) A (assign target env v) (λ_ s₃ =>
          wpAny (model prog w) A (forIn E6 true λc r=>if r=true then do let ok ← isTrue c env (eval c env);pure (ForInStep.yield ok)else pure (ForInStep.yield r)) (λok s₄ =>
            if ok=true then wpAny (model prog w) A (eval FU env) (λx s₅ =>
              wpAny (model prog w) A (call (.builtin "list.append") [BW,x]) (λ_ s₆=>∃ m,m<n/\Jn m s₆) (λ_ _=>False) s₅) (λ_ _=>False) s₄
            else ∃ m,m<n/\Jn m s₄) (λ_ _=>False) s₃) (λ_ _=>False) s₂) (λ_ _=>False) s₁) (λ_ _=>False) s)
    (n:Nat) (h:Jn n s):codeAny (model prog w) A (.compLoop (.ListComp FU [⟨target,iter,E6,0⟩] scope pos) 0 it BW env) R s:=by
  refine codeAny_loop rfl Jn (λn' s' hJ=> ?_) n h
  show wpAny _ A ((compTurn (.ListComp FU [⟨target,iter,E6,0⟩] scope pos) 0 it BW env).onRaise (λx'=>do noteFrame x' env;theTreesLotGoes x')) _ _ s'
  refine wpAny_noted (wpAny_noRaise ?_)
  rw[compTurn_list]
  refine wpAny_bind (wpAny_standAt (wpAny_bind (AR (turn n' s' hJ) λr s₁ h₁=> ?_)))
  cases r with
  | none=>exact wpAny_pure h₁
  | some v =>
    refine wpAny_bind (AR h₁ λ_ s₂ h₂=> ?_)
    refine wpAny_bind (AR h₂ λ_ s₃ h₃=>wpAny_bind (AR h₃ λok s₄ h₄=> ?_))
    cases ok with
    | false=>exact wpAny_pure ⟨rfl,h₄⟩
    | true=>exact wpAny_bind (wpAny_bind (AR h₄ λx' s₅ h₅=>wpAny_bind (AR h₅ λ_ s₆ h₆=>wpAny_pure (wpAny_pure ⟨rfl,h₆⟩))))
def DM(wi:TI)(g:TG)(tt:TT)(te:TE)(k:Nat)(cap:List Nat):TE:=λσ H Q=>wi σ H λJ H1 =>
 ∃ W:Nat->Nat->St->List V->Hp->Prop,(∃ m,W 0 m (IE k cap σ) [] H1)/\∀ i m σ' ys H,W i m σ' ys H →
  (J.stop i H/\∀ p,H p=none->Q (.ref p) (upd H p (.lst ys))) ∨
  (J.go i H/\ys.length<sizeLine/\∀ x H',J.yld i H x H'->g x σ' H' λσ2 H2=>tt σ2 H2 λb H3 =>
   if b=true then ∃ N:VK,(∀ y H4,N y H4->∃ m',m'<m/\W (i+1) m' σ2 (ys++[y]) H4)/\te σ2 H3 N else ∃ m',m'<m/\W (i+1) m' σ2 ys H3)
structure CompDone(X:Cx)(fp:List Addr)(H:Hp)(s:Shared)(Q:VK)(BW:Value)(C:Addr)(r:Result)(s':Shared):Prop where
 ok:r=.ok .next
 ex:∃ (D:Addr) (ys:List V) (its:List Value) (n:Nat) (H':Hp),BW=.ref D/\Vals ys its/\ys.length<=sizeLine/\s'.heap.get? D=some { cls:=.type "list",data:=.seq its.toArray n }/\s.heap.objs.size<=D/\D≠C/\H' D=none/\H' C=none ∧
  (∃ m,s'.heap.Ns C m)/\Un (DL X.stack) fp H H' s.heap s'.heap/\HOk X.prog X.w H' s'.heap/\∀ p,H' p=none->Q (.ref p) (upd H' p (.lst ys))
 ge:s.heap.objs.size<=C
 os:s'.os=s.os
 bare:AllBare s'.gens
section
variable{X:Cx}{AA:List (Addr × Obj)}{σ:St}{H:Hp}{s:Shared}
theorem dZ {tg iter FU:Expr} {E6:List Expr} {scope:Scope} {pos:Pos} {g:TG} {tt:TT} {te:TE} {tn cn:List Str} {cap:List Nat} {cl:List (Str × Addr)} {it:Addr} {fp:List Addr} {tn':Nat->Heap->Prop} {J:It} {Q:VK} {E:Value->Shared->Prop}
    (I:Inv X AA σ H s) (S:KY X scope tn cn cap) (hc:X.calm=true)
    (BX:∀ x c,cl.lookup x=some c->X.env.cells.lookup x=some c) (JL:∀ x∈scope.names,x.2=.free->(cl.lookup x.1).isSome=true)
    (T:JO X.prog X.w X.K tg J fp it tn') (st:tn' 0 s.heap) (hf:∀ b∈fp,FpOk X AA H b)
    (hg:∀ C,PG (X.block AA s H (tn++cn) scope cl C fp) tg g) (ht:∀ C,MS (X.block AA s H (tn++cn) scope cl C fp) E6 tt) (he:∀ C,PE (X.block AA s H (tn++cn) scope cl C fp) FU te)
    (W:Nat->Nat->St->List V->Hp->Prop) {m0:Nat} (w0:W 0 m0 (IE tn.length cap σ) [] H)
    (step:∀ i m σ' ys H,W i m σ' ys H →
      (J.stop i H/\∀ p,H p=none->Q (.ref p) (upd H p (.lst ys))) ∨
      (J.go i H/\ys.length<sizeLine/\∀ x H',J.yld i H x H'->g x σ' H' λσ2 H2=>tt σ2 H2 λb H3 =>
        if b=true then ∃ N:VK,(∀ y H4,N y H4->∃ m',m'<m/\W (i+1) m' σ2 (ys++[y]) H4)/\te σ2 H3 N else ∃ m',m'<m/\W (i+1) m' σ2 ys H3)) :
    wpAny (model X.prog X.w) X.A (newList []) (λBW s₃=>wpAny (model X.prog X.w) X.A (newFunctionEnv scope X.env.globals cl [] X.env.qual none .none (some X.env)) (λcenv s₄ =>
      codeAny (model X.prog X.w) X.A (.compStart (.ListComp FU [⟨tg,iter,E6,0⟩] scope pos) 0 (.ref it) BW { cenv with scope:=relabel scope X.env }) (CompDone X fp H s Q BW cenv.locals) s₄) E s₃) E s:=by
  refine wpAny_newObj_type (wpAny_newFunctionEnv S.nocell (by intro y hy;simp at hy) (λh₁ hns₁ hsb₁=> ?_) S.kind)
  dsimp only at hns₁ hsb₁ ⊢
  generalize hH2:s.heap.push { cls:=.type "list",dict:=none,data:=.seq ([]:List Value).toArray }=H2 at hns₁ hsb₁ ⊢
  have hCs:H2.objs.size=s.heap.objs.size+1:=by rw[<-hH2,Heap.size_push]
  generalize hCe:H2.objs.size=C at hns₁ hsb₁ ⊢
  have hC:C=s.heap.objs.size+1:=hCe.symm.trans hCs
  generalize hD:s.heap.objs.size=D at *
  have hDC:D≠C:=by rw[hC];exact Nat.ne_of_lt (Nat.lt_succ_self _)
  have old:∀ b o,s.heap.get? b=some o->h₁.get? b=some o:=λb o e=>by
    have hb:b<D:=by rw[<-hD];exact Heap.lt_size e
    have hbC:b≠C:=EL hb (by rw[hC];exact Nat.le_succ _)
    exact hsb₁.extBut b o hbC (Heap.get?_push_of_some _ (hH2 ▸ Heap.get?_push_of_some _ e))
  have hDo:h₁.get? D=some { cls:=.type "list",data:=.seq ([]:List Value).toArray }:=by
    refine hsb₁.extBut _ _ hDC (Heap.get?_push_of_some _ ?_)
    rw[<-hH2,<-hD]
    exact Heap.get?_push_size _ rfl
  have hfl:∀ b∈fp,b<s.heap.objs.size:=λb hb=>by
    obtain⟨o,e,_⟩:=T.obj 0 _ st b hb
    exact Heap.lt_size e
  have hDn:H D=none:=by rw[<-hD];exact I.hok.fresh (Nat.le_refl _)
  have hDs:D∉DL X.stack:=λz=>EL (I.stklt z) (Nat.le_of_eq hD) rfl
  have I0:Inv (X.block AA s H (tn++cn) scope cl C fp) [(D,{ cls:=.type "list",data:=.seq ([]:List Value).toArray 0 })] (IE tn.length cap σ) H { s with heap:=h₁,toks:=s.toks+([]:List (Str × Value)).length } :=
    I.block S BX JL hf hfl (by omega) old rfl rfl ⟨_,hns₁⟩ λp hp=>by
      rw[List.mem_singleton]at hp
      subst hp
      exact⟨hDo,hDn,hDC,hDs,λv z=>nomatch z⟩
  have fpok:∀ {H':Hp} {o:Obj},(∀ b∈fp,H' b=none)->∀ b∈fp,FpOk (X.block AA s H (tn++cn) scope cl C fp) [(D,o)] H' b:=λ{H' o} hn b hb=>by
    obtain⟨_,f1,f2,f3,f4,f5⟩:=hf b hb
    have hbl:=hfl b hb
    refine⟨hn b hb,?_,I.stkne f1 f2,.inl hb,λx c e=>f4 x c (BX x c e),λp hp=> ?_⟩
    ·exact EL hbl (by rw[hD,hC];exact Nat.le_succ _)
    · rcases List.mem_append.mp hp with z | z
      ·exact f5 p z
      ·rw[List.mem_singleton]at z;subst z;exact Ne.symm (EL hbl (Nat.le_of_eq hD))
  have st1:tn' 0 h₁:=T.keep _ _ _ st λb _ o e=>old b o e
  have loop:∀ s₃:Shared,s₃={ s with heap:=h₁,toks:=s.toks+([]:List (Str × Value)).length } →
      codeAny (model X.prog X.w) X.A (.compLoop (.ListComp FU [⟨tg,iter,E6,0⟩] scope pos) 0 (.ref it) (.ref D) (compEnvC scope cl C X.env)) (CompDone X fp H s Q (.ref D) C) s₃:=by
    rintro s₃ rfl
    refine v9 (λn s'=>∃ i σ' ys its nn H',Inv (X.block AA s H (tn++cn) scope cl C fp) [(D,{ cls:=.type "list",data:=.seq (its:List Value).toArray nn })] σ' H' s'/\tn' i s'.heap/\(∀ b∈fp,H' b=none)/\Vals ys its/\ys.length<=sizeLine/\W i n σ' ys H') ?_ m0
      ⟨0,_,[],[],0,H,I0,st1,λb hb=>(hf b hb).1,.nil,Nat.zero_le _,w0⟩
    rintro n s4 ⟨i,σ4,ys,its,nn,H4,I4,st4,fr4,r4,l4,w4⟩
    rcases step i n σ4 ys H4 w4 with⟨stop,qn⟩ | ⟨go,BD,next⟩
    · refine AR (T.done (X.block AA s H (tn++cn) scope cl C fp) rfl rfl rfl hc i _ s4 σ4 H4 _ I4 (fpok fr4) st4 stop) λr s5 ⟨hr,I5⟩=> ?_
      subst hr
      have hp:=I5.pin (D,_) (List.mem_append_right _ List.mem_cons_self)
      obtain⟨m5,hm5,_⟩:=I5.loc
      exact⟨rfl,⟨D,ys,its,nn,H4,rfl,r4,l4,hp.1,by omega,hDC,hp.2.1,I5.free,⟨m5,hm5⟩,I5.base,I5.hok,qn⟩,by omega,I5.os,I5.bare⟩
    · refine AR (T.item (X.block AA s H (tn++cn) scope cl C fp) rfl rfl rfl hc i _ s4 σ4 H4 _ I4 (fpok fr4) st4 go) λr s5 hzz=> ?_
      obtain⟨u,hr,h5⟩:=hzz
      subst hr
      refine AR h5 λ_ s6 hzz=> ?_
      obtain⟨x,H6,I6,r6,y6,st6,fr6⟩:=hzz
      have I6':=I6.pinned (fpok fr6) (T.obj _ _ st6)
      refine AR (hg C _ s6 σ4 H6 x u _ I6' r6 (next x H6 y6)) λ_ s7 hzz=> ?_
      obtain⟨σ7,H7,I7,q7⟩:=hzz
      refine AR (ht C _ s7 σ7 H7 _ I7 q7) λok s8 hzz=> ?_
      obtain⟨H8,I8,q8⟩:=hzz
      have keepst:∀ {σ9:St} {H9:Hp} {s9:Shared},Inv (X.block AA s H (tn++cn) scope cl C fp) ([(D,{ cls:=.type "list",data:=.seq its.toArray nn })]++MG fp s6.heap) σ9 H9 s9->(∀ b∈fp,∀ o,s6.heap.get? b=some o->s9.heap.get? b=some o)/\∀ b∈fp,H9 b=none:=λ{σ9 H9 s9} I9=>by
        refine⟨λb hb o e=>(I9.pin (b,o) (List.mem_append_right _ (List.mem_append_right _ (OO hb e)))).1,λb hb=> ?_⟩
        obtain⟨o,e,_⟩:=T.obj _ _ st6 b hb
        exact(I9.pin (b,o) (List.mem_append_right _ (List.mem_append_right _ (OO hb e)))).2.1
      cases ok with
      | false =>
        obtain⟨m',hm',w'⟩:=q8
        obtain⟨k1,k2⟩:=keepst I8
        exact⟨m',hm',i+1,σ7,ys,its,nn,H8,I8.unpinned,T.keep _ _ _ st6 k1,k2,r4,l4,w'⟩
      | true =>
        obtain⟨Nw,hN,q8⟩:=q8
        refine AR (he C _ s8 σ7 H8 Nw I8 q8) λv s9 hzz=> ?_
        obtain⟨y,H9,I9,r9,n9⟩:=hzz
        obtain⟨m',hm',w'⟩:=hN y H9 n9
        obtain⟨k1,k2⟩:=keepst I9
        have hp:=I9.pin (D,_) (List.mem_append_right _ (List.mem_append_left _ List.mem_cons_self))
        have e:=hp.1
        have BT:=r4.length
        refine call_meets F.slot_list_append ⟨_,e,rfl⟩ F.entry_list_append (F.args_list_append_2 _ _) (PySem.list_append D its.toArray nn v (by rw[List.size_toArray];omega)) ⟨e,?_⟩
        have q:=PySem.IsL.update e (λxs=>xs.push v)
        have Ia:Inv (X.block AA s H (tn++cn) scope cl C fp) [] σ7 H9 s9:=I9.pins_of λp hp=>nomatch hp
        have Ib:=Ia.turned (h':=s9.heap.update D (Obj.mapSeq (·.push v))) (t':=s9.toks) (it:=D) (λb o hb eb=>(Heap.get?_update_other _ _ (Ne.symm hb)).trans eb) hp.2.1 hDC (.inr (by show s.heap.objs.size<=D;omega))
          (λx c ec z=>by
            obtain⟨vv,zc⟩:=I.cell x c (BX x c ec)
            exact EL zc.lt (Nat.le_of_eq hD) z)
          (λp hp'=>by
            rw[List.append_nil]at hp'
            exact EL (I.pinlt hp') (Nat.le_of_eq hD))
        have q':(s9.heap.update D (Obj.mapSeq (·.push v))).get? D=some { cls:=.type "list",data:=.seq (its++[v]).toArray (nn+1) }:=by
          rw[if_neg (by simp)]at q
          rw[<-List.push_toArray]
          exact q
        refine⟨m',hm',i+1,σ7,ys++[y],its++[v],nn+1,H9,Ib.pins_of (λp hp'=> ?_),T.keep _ _ _ st6 λb hb o eb=> ?_,k2,r4.append (.cons r9 .nil),?_,w'⟩
        · rw[List.mem_singleton]at hp'
          subst hp'
          exact⟨q',hp.2.1,hDC,hDs,λv' z=>nomatch z⟩
        · have hbl:=hfl b hb
          exact(Heap.get?_update_other _ _ (Ne.symm (EL hbl (Nat.le_of_eq hD)))).trans (k1 b hb o eb)
        · rw[List.length_append,List.length_singleton]
          omega
  exact codeAny_compStart_list (loop _ rfl) (T.self _ 0 _ _ _ st1 (loop _ rfl))
theorem CompDone.inv{Q:VK}{BW:Value}{C:Addr}{r:Result}{s':Shared}{fp:List Addr}(I:Inv X AA σ H s)(hf:∀ b∈fp,FpOk X AA H b)(h:CompDone X fp H s Q BW C r s') :
  ∃ D H',BW=.ref D/\Inv X AA σ H' s'/\Q (.ref D) H'/\H' C=none/\∃ m,s'.heap.Ns C m:=by
 obtain⟨_,⟨D,ys,its,n,H',rfl,r4,l4,e,hD,hDC,hDn,hCn,hm,u,ok,q⟩,hC,os,bare⟩:=h
 have lt:∀ b o,s.heap.get? b=some o->b≠D:=λb o eb=>EL (Heap.lt_size eb) hD
 have ltH:∀ b o,H b=some o->b≠D:=λb o eb=>EL (I.hok.lt eb) hD
 refine⟨D,upd H' D (.lst ys),rfl,I.call' (ch:=fp) os ⟨u.keep,u.slot,λb o eb n' hx=> ?_,u.there,λb xs eb=> ?_,λb o x eb=> ?_,λb ps eb=> ?_⟩ (ok.track hDn ⟨l4,its,n,r4,e⟩) bare (λb hb=> ?_),q D hDn,?_,hm⟩
 ·rw[AG (lt b o eb)];exact u.free b o eb n' hx
 ·rw[AG (ltH b _ eb)];exact u.tups b xs eb
 ·rw[AG (ltH b _ eb)];exact u.frzs b o x eb
 ·rw[AG (ltH b _ eb)];exact u.tbls b ps eb
 ·obtain⟨_,f1,f2,f3,f4,f5⟩:=hf b hb
  exact⟨f3,f1,f4,f5⟩
 ·rw[AG (Ne.symm hDC)];exact hCn
theorem Inv.letgo{C:Addr}{h':Heap}{s1:Shared}{σ1:St}{H1:Hp}(I:Inv X AA σ H s)(hC:s.heap.objs.size<=C)(I1:Inv X AA σ1 H1 s1)(hn:H1 C=none)(hs:Heap.SameBut C s1.heap h'):Inv X AA σ1 H1 { s1 with heap:=h' }:=by
 refine I1.turned (t':=s1.toks) (it:=C) (λb o hb e=>(hs.2 b hb).trans e) hn (λz=> ?_) (.inr ?_) (λx c e z=> ?_) λp hp z=> ?_
 ·exact EL I.lt hC z.symm
 ·exact Nat.le_trans I.sz hC
 ·obtain⟨v,zc⟩:=I.cell x c e
  exact EL zc.lt hC z
 ·exact EL (I.pinlt hp) hC z
variable{tg iter FU:Expr}{E6:List Expr}{scope:Scope}{pos:Pos}{wi:TI}{g:TG}{tt:TT}{te:TE}{tn cn:List Str}{cap:List Nat}
theorem G0(S:KY X scope tn cn cap)(hc:X.calm=true)(hi:PI X tg iter wi)
  (hg:∀ AA s H cl C fp,PG (X.block AA s H (tn++cn) scope cl C fp) tg g) (ht:∀ AA s H cl C fp,MS (X.block AA s H (tn++cn) scope cl C fp) E6 tt) (he:∀ AA s H cl C fp,PE (X.block AA s H (tn++cn) scope cl C fp) FU te)
  (hs:∀ x,foldedSetIterable iter X.env x=pure x:=by intro _;rfl):PE X (.ListComp FU [⟨tg,iter,E6,0⟩] scope pos) (DM wi g tt te tn.length cap):=by
 intro AA s σ H Q I h
 obtain⟨cl,ecl,BX,JL⟩:=dW (env:=X.env) (scope:=scope) λx hx hxf=>I.ok.has x.1 (S.free x hx hxf)
 rw[eval_ListComp]
 refine wpAny_comprehension_free (use:=none) rfl hs ecl S.kind S.names (AR (hi AA s σ H _ I h) λv s1 h1=>AR h1 λitv s2 h2=> ?_)
 obtain⟨it,fp,tn',J,H2,e,I2,T,st2,f2,W,⟨m0,w0⟩,turn⟩:=h2
 subst e
 refine AR (dZ I2 S hc BX JL T st2 f2 (λC=>hg _ _ _ _ C _) (λC=>ht _ _ _ _ C _) (λC=>he _ _ _ _ C _) W w0 turn) λBW s3 h3=>AR h3 λcenv s4 h4=>codeAny_mono h4 λr s5 h5=> ?_
 have hr:=h5.ok
 subst hr
 obtain⟨D,H',rfl,I5,q5,hCn,m,hm⟩:=h5.inv I2 f2
 exact⟨m,hm,λh' hs'=>⟨.ref D,H',I2.letgo h5.ge I5 hCn hs',rfl,q5⟩⟩
theorem S5{i:Nat}{x:Str}{px spos:Pos}(S:KY X scope tn cn cap)(hc:X.calm=true)(hN:X.N.Nodup)(hi':X.N[i]? =some x)(hx:X.env.scope.names.lookup x=some .local)(hi:PI X tg iter wi)
  (hg:∀ AA s H cl C fp,PG (X.block AA s H (tn++cn) scope cl C fp) tg g) (ht:∀ AA s H cl C fp,MS (X.block AA s H (tn++cn) scope cl C fp) E6 tt) (he:∀ AA s H cl C fp,PE (X.block AA s H (tn++cn) scope cl C fp) FU te)
  (hsw:swapsWith (.ListComp FU [⟨tg,iter,E6,0⟩] scope pos) (some (.Name x px)) spos.line X.env=pure true:=by rfl)
  (hs:∀ x,foldedSetIterable iter X.env x=pure x:=by intro _;rfl):PS X (.Assign [.Name x px] (.ListComp FU [⟨tg,iter,E6,0⟩] scope pos) spos) (A5 (DM wi g tt te tn.length cap) (AQ i)):=by
 intro AA s σ H D I h
 obtain⟨cl,ecl,BX,JL⟩:=dW (env:=X.env) (scope:=scope) λx hx hxf=>I.ok.has x.1 (S.free x hx hxf)
 rw[exec_Assign_Name_used _ _ _ _ hsw]
 refine wpAny_bind (wpAny_standAt (wpAny_bind ?_))
 unfold evalThenUse
 refine wpAny_bind ?_
 refine wpAny_comprehension_free (use:=some (assign (.Name x px) X.env)) rfl hs ecl S.kind S.names (AR (hi AA s σ H _ I h) λv s1 h1=>AR h1 λitv s2 h2=> ?_)
 obtain⟨it,fp,tn',J,H2,e,I2,T,st2,f2,W,⟨m0,w0⟩,turn⟩:=h2
 subst e
 refine AR (dZ (Q:=λx' H1=>AQ i x' σ H1 D.nx) I2 S hc BX JL T st2 f2 (λC=>hg _ _ _ _ C _) (λC=>ht _ _ _ _ C _) (λC=>he _ _ _ _ C _) W w0 turn) λBW s3 h3=>AR h3 λcenv s4 h4=>codeAny_mono h4 λr s5 h5=> ?_
 have hr:=h5.ok
 subst hr
 obtain⟨Da,H',rfl,I5,q5,hCn,m,hm⟩:=h5.inv I2 f2
 show wpAny _ _ (assign (.Name x px) X.env (.ref Da)) _ _ s5
 refine wpAny_assign_Name (bP I5 hN hi' (.inl hx) (show RelV (.ref Da) (.ref Da)from rfl) (λs6 I6 hzz=> ?_) (.inr hx))
 obtain⟨a,hsb,ha⟩:=hzz
 refine⟨m,hm.sameBut hsb ?_,λh' hs'=> ?_⟩
 ·rcases ha with z | z
  ·exact Ne.symm (z ▸ EL I2.lt h5.ge)
  ·obtain⟨vv,zc⟩:=I2.cell x a z
   exact Ne.symm (EL zc.lt h5.ge)
 ·exact wpAny_pure (wpAny_pure ⟨σ.set i (some (.ref Da)),H',I2.letgo h5.ge I6 hCn hs',q5⟩)
end
end L2
namespace L2
theorem ObjOk.there{P:Program}{w:World}{H:Hp}{h:Heap}{a:Addr}{o:HO}(x:ObjOk P w H h a o):∃ ob,h.get? a=some ob:=by
 cases o with
 | lst xs=>obtain⟨_,_,_,_,e⟩:=x;exact⟨_,e⟩
 | tup xs=>obtain⟨_,_,_,ob,e,_⟩:=x;exact⟨_,e⟩
 | dK AD=>obtain⟨_,_,_,_,ob,_,_,e,_⟩:=x;exact⟨_,e⟩
 | dT AD=>obtain⟨_,_,_,_,ob,_,_,e,_⟩:=x;exact⟨_,e⟩
 | set S n=>obtain⟨ob,_,_,_,e,_⟩:=x;exact⟨_,e⟩
 | ins C dx fs=>obtain⟨_,_,_,e,_⟩:=x;exact⟨_,e⟩
 | own y=>exact x
 | xd fs=>obtain⟨_,⟨ob,_,_,e,_⟩,_⟩:=x;exact⟨_,e⟩
 | rng lo hi=>obtain⟨_,_,_,e⟩:=x;exact⟨_,e⟩
 | frz ob u=>obtain⟨e,_⟩:=x;exact⟨_,e⟩
 | tbl ps=>exact⟨_,show h.get? a=some _ from x⟩
 | met f y=>exact⟨_,show h.get? a=some _ from x⟩
 | ext φ =>exact x.2.1
theorem HOk.nh{P:Program}{w:World}{H:Hp}{h:Heap}{a:Addr}(x:HOk P w H h)(e:h.get? a=none):H a=none:=by
 cases q:H a with
 | none=>rfl
 | some o =>
  obtain⟨ob,e'⟩:=(x a o q).there
  rw[e]at e';cases e'
section
variable{X:Cx}{AA:List (Addr × Obj)}{σ:St}{H H':Hp}{s:Shared}{h':Heap}
theorem Inv.stepN{g':Array GenState}{t':Nat}{d':Drawn}{ch:List Addr}(I:Inv X AA σ H s)
  (DC:∀ b∈ch,(b∈X.ex\/X.s₀.heap.get? b=none)/\b≠X.env.locals/\(∀ x c,X.env.cells.lookup x=some c->c≠b)/\∀ p∈X.pn++AA,p.1≠b)
  (keep:∀ b o,b≠X.env.locals->b∉X.fs->b∉ch->s.heap.get? b=some o->H b=none->h'.get? b=some o)
  (slot:∀ b o,b≠X.env.locals->b∈X.fs->b∉ch->s.heap.get? b=some o->H b=none->∃ sl,h'.get? b=some { o with slots:=sl }) (free:∀ b o,b∉ch->s.heap.get? b=some o->H b=none->H' b=none)
  (there:∀ b o,b∉ch->s.heap.get? b=some o->∃ o',h'.get? b=some o')
  (tups:∀ b xs,H b=some (.tup xs)->H' b=some (.tup xs)) (frzs:∀ b o u,H b=some (.frz o u)->H' b=some (.frz o u)) (tbls:∀ b ps,H b=some (.tbl ps)->∃ more,H' b=some (.tbl (ps++more)))
  (ns:∀ m,s.heap.Ns X.env.locals m->h'.Ns X.env.locals m) (hok:HOk X.prog X.w H' h') (hg:AllBare g') :
  Inv X AA σ H' { s with heap:=h',gens:=g',drawn:=d',toks:=t' }:=by
 have neL:∀ b o,X.s₀.heap.get? b=some o->b≠X.env.locals:=λb o e=>Nat.ne_of_lt (Nat.lt_of_lt_of_le (Heap.lt_size e) I.ok.above)
 have neC:∀ b o,X.s₀.heap.get? b=some o->b∉X.ex->b∉ch:=λb o e hx hb=>by
  rcases(DC b hb).1 with z | z
  ·exact hx z
  ·rw[e]at z;cases z
 have cellK:∀ x c,X.env.cells.lookup x=some c->∀ v,s.heap.IsCell c v->h'.IsCell c v:=λx c e v ⟨o,ho,hd⟩=>by
  have nch:c∉ch:=λz=>(DC c z).2.2.1 x c e rfl
  by_cases hc:c∈X.fs
  ·obtain⟨sl,q⟩:=slot c o (I.cne x c e) hc nch ho (I.freeC x c e)
   exact⟨_,q,hd⟩
  ·exact⟨o,keep c o (I.cne x c e) hc nch ho (I.freeC x c e),hd⟩
 refine⟨I.ok,I.os,hg,⟨λb o e n hb hx=> ?_,λb o e n hb hx=> ?_,λb o e n hx=> ?_,λb o e hx=> ?_,λb xs e=>tups b xs (I.base.tups b xs e),λb o xs e=>frzs b o xs (I.base.frzs b o xs e),λb ps e=> ?_⟩,?_,λx c e=> ?_,?_,λx c e=> ?_,λp hp=> ?_,hok,I.len⟩
 ·exact keep b o (neL b o e) hb (neC b o e hx) (I.base.keep b o e n hb hx) (I.base.free b o e n hx)
 ·obtain⟨sl,e1⟩:=I.base.slot b o e n hb hx
  obtain⟨sl',e2⟩:=slot b _ (neL b o e) hb (neC b o e hx) e1 (I.base.free b o e n hx)
  exact⟨sl',e2⟩
 ·obtain⟨o',e1⟩:=I.base.there b o e hx
  exact free b o' (neC b o e hx) e1 (I.base.free b o e n hx)
 ·obtain⟨o',e1⟩:=I.base.there b o e hx
  exact there b o' (neC b o e hx) e1
 ·obtain⟨m1,e1⟩:=I.base.tbls b ps e
  obtain⟨m2,e2⟩:=tbls b _ e1
  exact⟨m1++m2,by rw[e2,Array.append_assoc]⟩
 ·obtain⟨m,hn,hl⟩:=I.loc
  refine⟨m,ns m hn,λi x v e1 e2 e3=> ?_⟩
  obtain⟨u,r,l⟩:=hl i x v e1 e2 e3
  refine⟨u,r,?_⟩
  rcases l with l | ⟨k,c,e,z⟩
  ·exact .inl l
  ·exact .inr ⟨k,c,e,cellK x c e _ z⟩
 ·obtain⟨v,z⟩:=I.cell x c e
  exact⟨v,cellK x c e v z⟩
 ·obtain⟨m,⟨o,_,_,ho,_⟩,_⟩:=I.loc
  exact free _ o (λz=>(DC _ z).2.1 rfl) ho I.free
 ·obtain⟨v,o,ho,hd⟩:=I.cell x c e
  exact free c o (λz=>(DC c z).2.2.1 x c e rfl) ho (I.freeC x c e)
 ·obtain⟨e,n,ne,nf,d⟩:=I.pin p hp
  have nch:p.1∉ch:=λz=>(DC p.1 z).2.2.2 p hp rfl
  exact⟨keep p.1 p.2 ne nf nch e n,free p.1 p.2 nch e n,ne,nf,d⟩
end
structure Fly(bad:Addr->Prop)(H:Hp)(h:Heap)(e:Addr)(cls:Value):Prop where
 nb:¬ bad e
 free:H e=none
 ex:∃ (oe:Obj) (vs:Array Value),h.get? e=some oe/\oe.cls=cls/\oe.dict=none/\oe.data=.fields vs/\(vs[1]? =some .none ∨
  ∃ (T:Addr) (oT:Obj) (ts:Array Value),vs[1]? =some (.ref T)/\¬ bad T/\H T=none/\T≠e/\h.get? T=some oT/\oT.data=.fields ts/\ts[3]? =some .none)
theorem Fly.mono{bad bad':Addr->Prop}{H:Hp}{h:Heap}{e:Addr}{cls:Value}(F:Fly bad H h e cls)(k:∀ a,bad' a->bad a):Fly bad' H h e cls:=by
 obtain⟨nb,fr,oe,vs,h1,h2,h3,h4,h5⟩:=F
 refine⟨λz=>nb (k _ z),fr,oe,vs,h1,h2,h3,h4,?_⟩
 rcases h5 with z | ⟨T,oT,ts,a,b,c⟩
 ·exact .inl z
 ·exact .inr ⟨T,oT,ts,a,λz=>b (k _ z),c⟩
section
variable{M:Model}{A:Around}{E:Value->Shared->Prop}{s:Shared}
theorem d0{base:Heap}{env:Env}{outer:List Env}{L e:Addr}{oe:Obj}{vs:Array Value}{hd:Value}{nx:Bool}{Q:Unit->Shared->Prop}
  (JK:A.frames=some (env::outer)) (hl:s.heap.FunFrames base (env::outer)) (hf:env.frame=some L) (he:s.heap.get? e=some oe) (hdt:oe.data=.fields vs) (hsz:1<vs.size)
  (h:∀ h' T oT ts,(∀ b o,s.heap.get? b=some o->b≠e->b∉DL (env::outer)->h'.get? b=some o)->(∀ b o,s.heap.get? b=some o->b≠e->∃ sl,h'.get? b=some { o with slots:=sl }) →
   h'.get? e=some (oe.mapFields (·.setIfInBounds 1 (.ref T)))->s.heap.objs.size<=T->h'.get? T=some oT->oT.data=.fields ts->ts[3]? =some (rawInt L)->Q () { s with heap:=h' }) :
  wpAny M A (do let a ← frameOf env;let pl ← entryPlaceOf L nx;let b ← EntryCells.newEntry hd a .none (rawInt L) .none pl;setField (.ref e) 1 b) Q E s:=by
 have hne:e∉(env::outer).filterMap (·.frame):=λz=>by
  obtain⟨_,o,ho,hn⟩:=hl.mem z
  rw[he]at ho;cases ho
  exact hn vs hdt
 refine wpAny_bind (wpAny_frameOf_fun JK hl hf λh1 hs1=> ?_)
 refine wpAny_bind (wpAny_entryPlaceOf λpl CT=> ?_)
 unfold EntryCells.newEntry newFields
 refine wpAny_bind (wpAny_newObj_type ?_ (CT.sizeOk5 _ _ _ _ _))
 have he1:h1.get? e=some oe:=(hs1.2.1 e hne).trans he
 refine wpAny_setField (Heap.get?_push_of_some _ he1) hdt hsz ?_
 have hTe:h1.objs.size≠e:=Nat.ne_of_gt (Heap.lt_size he1)
 have hd3:=Obj.data_mapFields hdt (·.setIfInBounds 1 (Value.ref h1.objs.size))
 have keep:∀ b o,b≠e->h1.get? b=some o->((h1.push { cls:=.type "traceback",dict:=none,data:=.fields ([hd,.ref L,.none,rawInt L,.none]++(if pl.isEmpty then List.replicate 6 Value.none else pl)).toArray }).update e (Obj.mapFields (·.setIfInBounds 1 (Value.ref h1.objs.size)))).get? b=some o:=λb o hb e1=>by
  rw[Heap.get?_update_other _ _ (Ne.symm hb)]
  exact Heap.get?_push_of_some _ e1
 refine h _ h1.objs.size _ _ (λb o e1 hb hnf=>keep b o hb ((hs1.2.1 b hnf).trans e1)) (λb o e1 hb=> ?_) (Heap.get?_update_self _ (Heap.get?_push_of_some _ he1) (Obj.isFreed_of_fields hd3)) (by rw[hs1.1];exact Nat.le_refl _)
  ((Heap.get?_update_other _ _ (Ne.symm hTe)).trans (Heap.get?_push_size _ rfl)) rfl ?_
 ·obtain⟨sl,e2⟩:=hs1.2.2 b o e1
  exact⟨sl,keep b _ hb e2⟩
 ·first | (simp;done) | (rcases CT with rfl | ⟨_,_,_,_,_,_,_,rfl⟩<;>simp)
structure S6(fr:List Addr)(bad:Addr->Prop)(H:Hp)(e:Addr)(cls:Value)(h h':Heap):Prop where
 ch:∃ ch:List Addr,(∀ b∈ch,¬ bad b/\H b=none/\∃ o vs,h.get? b=some o/\o.data=.fields vs)/\(∀ b o,h.get? b=some o->b∉ch->b∉fr->h'.get? b=some o) ∧
  (∀ b o,h.get? b=some o->b∉ch->∃ sl,h'.get? b=some { o with slots:=sl })
 fly:Fly bad H h' e cls
theorem d6{A2:Around}{E2:Value->Shared->Prop}{base:Heap}{env:Env}{outer:List Env}{L e:Addr}{cls:Value}{bad:Addr->Prop}{H:Hp}{Q:Unit->Shared->Prop}
  (JK:A.frames=some (env::outer)) (hl:s.heap.FunFrames base (env::outer)) (hf:env.frame=some L) (F:Fly bad H s.heap e cls) (hb:∀ a,s.heap.objs.size<=a->¬ bad a) (hH:∀ a,s.heap.objs.size<=a->H a=none)
  (h:∀ h',S6 (DL (env::outer)) bad H e cls s.heap h'->Q () { s with heap:=h' }) :
  wpAny M A (noteFrame (.ref e) env) (λ_ s2=>wpAny M A2 (setFlight (.ref e) none) Q E2 s2) E s:=by
 obtain⟨nb,fr,oe,vs,he,JJ,L8,hd,htb⟩:=F
 have DZ:∀ (s1:Shared) (ch:List Addr) (h':Heap) (T:Addr) (oT:Obj) (ts:Array Value) (oe1:Obj),(∀ b o,s.heap.get? b=some o->s1.heap.get? b=some o\/b∈ch)->s1.heap.objs.size=s.heap.objs.size->e∈ch->(∀ b∈ch,¬ bad b/\H b=none/\∃ o vs,s.heap.get? b=some o/\o.data=.fields vs) →
   oe1.cls=cls->oe1.dict=none->oe1.data=.fields vs->1<vs.size →
   (∀ b o,s1.heap.get? b=some o->b≠e->b∉DL (env::outer)->h'.get? b=some o)->(∀ b o,s1.heap.get? b=some o->b≠e->∃ sl,h'.get? b=some { o with slots:=sl }) →
   h'.get? e=some (oe1.mapFields (·.setIfInBounds 1 (.ref T)))->s1.heap.objs.size<=T->h'.get? T=some oT->oT.data=.fields ts->ts[3]? =some (rawInt L)->wpAny M A2 (setFlight (.ref e) none) Q E2 { s with heap:=h' }:=by
  intro s1 ch h' T oT ts oe1 hk1 hsz hech DC hcls1 hdict1 hd1 hv k1 k2 e1 hT e2 hdT h3
  have hT':s.heap.objs.size<=T:=hsz ▸ hT
  have hTe:T≠e:=Ne.symm (EL (Heap.lt_size he) hT')
  have hde:=Obj.data_mapFields hd1 (·.setIfInBounds 1 (Value.ref T))
  unfold setFlight
  refine wpAny_bind (wpAny_field e1 hde (x:=.ref T) (by simp[hv]) ?_)
  rw[if_pos (show(Value.ref T != Value.none)=true from by simp)]
  have hs3:3<ts.size:=(Array.getElem?_eq_some_iff.mp h3).1
  refine wpAny_setField e2 hdT hs3 (h _ ?_)
  have oth:∀ b,b≠T->(h'.update T (Obj.mapFields (·.setIfInBounds 3 ((none:Option Addr).elim Value.none λf=>rawInt f)))).get? b=h'.get? b:=λb hb'=>Heap.get?_update_other _ _ (Ne.symm hb')
  have ltT:∀ b o,s.heap.get? b=some o->b≠T:=λb o eb=>EL (Heap.lt_size eb) hT'
  refine⟨⟨ch,DC,λb o eb hbc hbf=> ?_,λb o eb hbc=> ?_⟩,nb,fr,_,_,(oth e (Ne.symm hTe)).trans e1,(Obj.cls_mapFields _ _).trans hcls1,?_,hde,.inr ⟨T,_,_,by simp[hv],hb T hT',hH T hT',hTe,Heap.get?_update_self _ e2 (Obj.isFreed_of_fields (Obj.data_mapFields hdT _)),Obj.data_mapFields hdT _,by simp[hs3]⟩⟩
  ·rw[oth b (ltT b o eb)]
   rcases hk1 b o eb with z | z
   ·exact k1 b o z (λz'=>hbc (z' ▸ hech)) hbf
   ·exact absurd z hbc
  ·rw[oth b (ltT b o eb)]
   rcases hk1 b o eb with z | z
   ·exact k2 b o z (λz'=>hbc (z' ▸ hech))
   ·exact absurd z hbc
  ·obtain⟨c1,c2,c3,c4⟩:=oe1
   dsimp only at hd1
   subst hd1
   exact hdict1
 unfold noteFrame
 simp only[hf]
 rcases htb with h1 | ⟨T0,oT0,ts0,h1,nbT,frT,neT,eT,dT,h3⟩
 ·have hv:1<vs.size:=(Array.getElem?_eq_some_iff.mp h1).1
  refine wpAny_bind (wpAny_field he hd h1 ?_)
  rw[if_neg (by decide)]
  refine d0 JK hl hf he hd hv λh' T oT ts k1 k2 e1 hT e2 hdT h3=> ?_
  exact DZ s [e] h' T oT ts oe (λb o eb=>.inl eb) rfl (by simp) (λb hb'=>by rw[List.mem_singleton]at hb';subst hb';exact⟨nb,fr,oe,vs,he,hd⟩) JJ L8 hd hv k1 k2 e1 hT e2 hdT h3
 ·have hv:1<vs.size:=(Array.getElem?_eq_some_iff.mp h1).1
  refine wpAny_bind (wpAny_field he hd h1 ?_)
  rw[if_pos (show(Value.ref T0 != Value.none)=true from by simp)]
  refine wpAny_bind (wpAny_field eT dT h3 ?_)
  rw[if_neg (show ¬ ((Value.none == rawInt L)=true)from by simp[rawInt])]
  refine wpAny_bind (wpAny_setField eT dT (Array.getElem?_eq_some_iff.mp h3).1 ?_)
  have oth:∀ b,b≠T0->(s.heap.update T0 (Obj.mapFields (·.setIfInBounds 3 Value.none))).get? b=s.heap.get? b:=λb hb'=>Heap.get?_update_other _ _ (Ne.symm hb')
  have nf:∀ b o,s.heap.get? b=some o->(∀ vs,o.data≠.fields vs)->b≠T0:=λb o eb hn z=>by rw[z,eT]at eb;cases eb;exact hn ts0 dT
  refine d0 JK (hl.of_keeps λb o eb hn=>⟨o,(oth b (nf b o eb hn)).trans eb,rfl⟩) hf ((oth e (Ne.symm neT)).trans he) hd hv λh' T oT ts k1 k2 e1 hT e2 hdT h3'=> ?_
  exact DZ { s with heap:=s.heap.update T0 (Obj.mapFields (·.setIfInBounds 3 Value.none)) } [e,T0] h' T oT ts oe
   (λb o eb=>by
    by_cases z:b=T0
    ·exact .inr (by simp[z])
    ·exact .inl ((oth b z).trans eb))
   (Heap.size_after_update ..) (by simp)
   (λb hb'=>by
    rcases List.mem_cons.mp hb' with z | z
    ·subst z;exact⟨nb,fr,oe,vs,he,hd⟩
    ·rw[List.mem_singleton]at z;subst z;exact⟨nbT,frT,oT0,ts0,eT,dT⟩)
   JJ L8 hd hv k1 k2 e1 hT e2 hdT h3'
end
def Cx.bad(X:Cx)(AA:List (Addr × Obj)):Addr->Prop:=λa=>X.s₀.heap.get? a≠none\/∃ p∈X.pn++AA,p.1=a
structure XOk(X:Cx)(E:St->XK):Prop where
 po:PassesOwn (model X.prog X.w) X.A X.env X.xe
 ex:X.ex=[]
 calm:X.calm=true
 go:∀ (AA:List (Addr × Obj)) (σ:St) (H:Hp) (s:Shared) (e:Addr) (cls:Value),Inv X AA σ H s->Fly (X.bad AA) H s.heap e cls->E σ cls none H->X.xe (.ref e) s
section
variable{X:Cx}{AA:List (Addr × Obj)}{σ:St}{H:Hp}{s:Shared}
theorem Inv.notbad(I:Inv X AA σ H s)(hx:X.ex=[]){a:Addr}(h:s.heap.get? a=none):¬ X.bad AA a:=λz=>by
 rcases z with z | ⟨p,hp,rfl⟩
 ·cases q:X.s₀.heap.get? a with
  | none=>exact z q
  | some o =>
   obtain⟨o',e⟩:=I.base.there a o q (by rw[hx];simp)
   rw[h]at e;cases e
 ·have:=(I.pin p hp).1
  rw[h]at this;cases this
theorem d7{h:Heap}{a:Addr}(z:h.objs.size<=a):h.get? a=none:=by
 cases q:h.get? a with
 | none=>rfl
 | some o=>exact absurd (Nat.lt_of_lt_of_le (Heap.lt_size q) z) (Nat.lt_irrefl _)
theorem Inv.noted{e:Addr}{cls:Value}{h':Heap}(I:Inv X AA σ H s)(N:S6 (DL X.stack) (X.bad AA) H e cls s.heap h'):Inv X AA σ H { s with heap:=h' }:=by
 obtain⟨⟨ch,DC,k1,k2⟩,_⟩:=N
 obtain⟨mL,⟨oL,esL,epL,hoL,dL,rL⟩,_⟩:=id I.loc
 have chne:∀ b∈ch,∀ o,s.heap.get? b=some o->∃ vs,o.data=.fields vs:=λb hb o eb=>by
  obtain⟨_,_,o',vs,e',d⟩:=DC b hb
  rw[eb]at e';cases e'
  exact⟨vs,d⟩
 have hL:X.env.locals∉ch:=λz=>by
  obtain⟨vs,d⟩:=chne _ z _ hoL
  rw[dL]at d;cases d
 refine I.stepN (g':=s.gens) (t':=s.toks) (d':=s.drawn) (ch:=ch) (λb hb=>⟨.inr ?_,λz=>hL (z ▸ hb),λx c ec z=> ?_,λp hp z=>(DC b hb).1 (.inr ⟨p,hp,z⟩)⟩)
  (λb o hbL hbf hbc eb _=>k1 b o eb hbc λz=>(List.mem_cons.mp (I.stkSub b z)).elim hbL hbf) (λb o _ _ hbc eb _=>k2 b o eb hbc) (λ_ _ _ _ n=>n) (λb o hbc eb=> ?_) (λ_ _ q=>q) (λ_ _ _ q=>q) (λb ps q=>⟨#[],by rw[q];simp⟩) (λm hm=> ?_) (λb o eb=> ?_) I.bare
 ·cases q:X.s₀.heap.get? b with
  | none=>rfl
  | some o=>exact absurd (.inl (by rw[q];simp)) (DC b hb).1
 ·obtain⟨v,oc,hoc,hd⟩:=I.cell x c ec
  obtain⟨vs,d⟩:=chne c (z ▸ hb) oc hoc
  rw[hd]at d;cases d
 ·obtain⟨sl,q⟩:=k2 b o eb hbc
  exact⟨_,q⟩
 ·obtain⟨o',es',ep',ho',r'⟩:=hm
  rw[hoL]at ho';cases ho'
  obtain⟨sl,q⟩:=k2 _ _ hoL hL
  exact⟨_,es',ep',q,r'⟩
 ·refine(I.hok b o eb).stay (λc u hc q=>k1 c u q ?_ ?_) (λ_ q=>q) λ_ _ q=>q
  ·intro z
   have fr:=(DC c z).2.1
   rcases hc with rfl | hc
   ·rw[eb]at fr;cases fr
   ·rw[hc]at fr;cases fr
  ·intro z
   have fr:=I.stkFree c z
   rcases hc with rfl | hc
   ·rw[eb]at fr;cases fr
   ·rw[hc]at fr;cases fr
def DN(P:Program)(w:World):FG:=λouter H s E e s'=>∃ (ea:Addr) (cls:Value) (H':Hp),e=.ref ea/\s'.os=s.os/\AllBare s'.gens/\Un (DL outer) [] H H' s.heap s'.heap/\HOk P w H' s'.heap/\Fly (λa=>s.heap.get? a≠none) H' s'.heap ea cls/\E cls none H'
theorem d8{P:Program}{w:World}{outer:List Env}{H:Hp}{s:Shared}{e:Value}{s':Shared}(h:DN P w outer H s (λ_ _ _=>False) e s'):False:=by
 obtain⟨_,_,_,_,_,_,_,_,_,f⟩:=h
 exact f
theorem XOk.passes{E:St->XK}(x:XOk X E):GA (DN X.prog X.w) X E:=λAA σ H s e s' I h=>by
 obtain⟨ea,cls,H',rfl,os,bare,un,hok,F,q⟩:=h
 refine x.go AA σ H' s' ea cls (I.call' (ch:=[]) os un hok bare λb z=>absurd z (by simp)) (F.mono λa z=> ?_) q
 rcases z with z | ⟨p,hp,rfl⟩
 ·cases q0:X.s₀.heap.get? a with
  | none=>exact absurd q0 z
  | some o =>
   obtain⟨o',e⟩:=I.base.there a o q0 (by rw[x.ex];simp)
   rw[e];simp
 ·rw[(I.pin p hp).1];simp
theorem IF{P:Program}{w:World}:GA (DN P w) X (λ_=>E0):=λ_ _ _ _ _ _ _ h=>(d8 h).elim
end
theorem wA{P:Program}{w:World}{K:W.Frag}{mg:Str->Option Value}{base:Heap}{N:List Str}{qual:Str}{scope:Scope}{f:Addr}{cd:Value}{A:Around}{outer:List Env}{s:Shared}{H:Hp}{E:XK} :
  XOk (GB (DN P w) P w K mg base N qual scope f cd A outer s H E) (λ_=>E) where
 po:=PassesOwn.leaving
 ex:=rfl
 calm:=rfl
 go:=λAA σ H' s' e cls I F q=>by
  have JK:(A.deeper (envOfC qual scope s.heap.objs.size f cd)).frames=some (envOfC qual scope s.heap.objs.size f cd::outer):=I.ok.frames
  show wpAny _ _ (leaving _ _) _ _ _
  unfold leaving
  refine wpAny_bind (d6 JK I.stack rfl F (λa z=>I.notbad rfl (d7 z)) (λa z=>I.hok.fresh z) λh' N=> ?_)
  have I':=I.noted N
  exact⟨e,cls,H',rfl,I'.os,I'.bare,I'.base,I'.hok,N.fly.mono λa z=>.inl z,q⟩
structure Exc(K:W.Frag)(C:Addr):Prop where
 ex:W.excIn K C [.type "ValueError",.type "Exception",.type "BaseException",.type "object"] "ValueError.__new__"=true
theorem Exc.obj{K:W.Frag}{C:Addr}{h:Heap}(x:Exc K C)(X:K.In h):∃ (tl:List Value) (N:Addr) (nm q:Str) (bs:List Value) (hdct:Bool) (sn:List Str) (sub:List Value) (ab:Bool) (col:Option Bool) (dd:Option Addr) (k0 k1 k2 k3 k5:Option Value) (mN:Str->Option Value),
  h.get? C=some (excClassObj nm q C N bs tl hdct sn sub ab col dd k0 k1 k2 k3 k5 "ValueError.__new__")/\h.Ns N mN/\mN "__init__"=none/\OwnTail h [.type "ValueError",.type "Exception",.type "BaseException",.type "object"] tl:=by
 have q:=x.ex
 unfold W.excIn at q
 split at q
 ·rename_i dd cd sl ho
  split at q
  ·rename_i C' bm k0 k1 k2 k3 n k5 hm hs
   simp only[Bool.and_eq_true,beq_iff_eq,Bool.not_eq_true']at q
   obtain⟨⟨⟨⟨⟨rfl,rfl⟩,hdel⟩,ht⟩,hok⟩,hni⟩:=q
   obtain⟨nm,bs,mro,ns,qn,hd,sn,sub,ab,col,del⟩:=cd
   dsimp only at hm hdel hok hni
   subst hm hdel
   obtain⟨l⟩:=sl
   simp only at hs
   subst hs
   exact⟨bm,ns,nm,qn,bs,hd,sn,sub,ab,col,dd,k0,k1,k2,k3,k5,_,X _ _ ho,.of_isNs (W.isNs_of_in X hok),W.nsMap_none_of_in X hok hni,W.tail_of_in X ht⟩
  ·cases q
 ·cases q
def FH(C:Addr)(E:St->XK)(t:TA):TS:=λ_ σ H=>t σ H λvs H1=>vs.length<=sizeLine/\E σ (.ref C) none H1
section
variable{X:Cx}{E:St->XK}{C:Addr}{x:Str}{np C9 pos:Pos}{e:Expr}{es:List Expr}{t:TA}
theorem GG(hx:XOk X E)(c:Exc X.K C)(hg:Gl X x)(hm:X.mg x=some (.ref C))(ha:PA X (e::es) t)(hdb:(x ==("__debug__":Str))=false:=by decide)
  (he:starEach (e::es) X.env=(false,eval e X.env)::starEach es X.env:=by rfl) (CT:(backTo C9 (starEach es X.env)).any (·.1)=false:=by rfl) :
  PS X (.Raise (some (.Call (.Name x np) (e::es) [] C9)) none pos) (FH C E t):=by
 intro AA s σ H D I h
 obtain⟨tl,N,nm,q,bs,hdct,sn,sub,ab,col,dd,k0,k1,k2,k3,k5,mN,hC,hN,hni,T⟩:=c.obj I.mod.kin
 have hpl2:(backTo C9 (starEach (e::es) X.env)).any (·.1)=false:=by
  rw[he]
  show(false || (backTo C9 (starEach es X.env)).any (·.1))=false
  rw[CT];rfl
 refine wpAny_Raise_call_subT (C:=C) (nm:=nm) (q:=q) (N:=N) (bs:=bs) (bm:=tl) (hdct:=hdct) (sn:=sn) (sub:=sub) (ab:=ab) (col:=col) (dd:=dd) (k0:=k0) (k1:=k1) (k2:=k2) (k3:=k3) (k5:=k5)
  PySem.F.excBase_ValueError (mN:=mN) (T.hasType PySem.F.excBase_ValueError.hasBase) (I.ok.hd hx.calm) hpl2 hni (MB I hg hm ⟨rfl,?_⟩ hdb)
 have hq:=ha C9 AA s σ H _ I h
 rw[he]at hq ⊢
 refine Calls.evalArgs_plain (AR hq λus s1 ⟨vs,H1,I1,r,hz,q1⟩=>⟨rfl,?_,I1.bk _ _ hC,hN.keeps I1.bk,T.keeps I1.bk,λh' ea hM=> ?_⟩)
 ·show us.length<=_
  rw[<-r.length];exact hz
 ·have I2:Inv X AA σ H1 { s1 with heap:=h' }:=I1.kept (t':=s1.toks) hM.keeps
  obtain⟨tt,h1,h2,h3⟩:=hM.there
  refine hx.go AA σ H1 _ ea (.ref C) I2 ⟨λz=>I1.notbad hx.ex hM.new z,I1.hok.nh hM.new,_,_,h1,rfl,rfl,rfl,.inl rfl⟩ q1
end
end L2
namespace L2
section
variable(P:Program)(w:World)(K:W.Frag)(mg:Str->Option Value)(base:Heap)
structure DJ(k:Nat)(x:Str)(ps:List Str)(sp:Sp):Prop where
 ex:∃ (f:Addr) (fd:FuncData),FnOk P w K mg base (DN P w) k f fd ps sp/\mg x=some (.ref f)/\W.keepIn K (.ref f)=true/\Binds K fd ps []
structure BS(C:Addr)(k:Nat)(m:Str)(ps:List Str)(sp:Sp):Prop where
 ex:∃ (f:Addr) (fd:FuncData),FnOk P w K mg base (DN P w) k f fd ps sp/\OS K C m f/\Binds K fd ps []
structure IV(C:Addr)(k:Nat)(x:Str)(ps:List Str)(sp:Sp):Prop where
 ex:∃ (f:Addr) (fd:FuncData),FnOk P w K mg base (DN P w) k f fd ps sp/\Mk K C f/\mg x=some (.ref C)/\Binds K fd ps []
end
section
variable{X:Cx}{E:St->XK}{k:Nat}{x m:Str}{ps:List Str}{sp:Sp}{C:Addr}{p pos CO:Pos}{e o:Expr}{es:List Expr}{ta:TE}{t:TA}
theorem S7(c:DJ X.prog X.w X.K X.mg X.base k x ps sp)(hr:Room k X.A)(hp:GA (DN X.prog X.w) X E)(hg:Gl X x)(ha:PA X (e::es) t)(hdb:(x ==("__debug__":Str))=false:=by decide)
  (he:starEach (e::es) X.env=(false,eval e X.env)::starEach es X.env:=by rfl) (CT:(backTo pos (starEach es X.env)).any (·.1)=false:=by rfl):PE X (.Call (.Name x p) (e::es) [] pos) (C2 sp [] E t):=by
 obtain⟨f,fd,F,hm,hk,hb⟩:=c.ex
 exact uK F hr hg hm hk hb .nil hp ha hdb he CT
theorem IG{pl:Sem Bool}(he:PE X o ta)(cl:Cls X.K C)(c:BS X.prog X.w X.K X.mg X.base C k m ps sp)(hr:Room k X.A)(hp:GA (DN X.prog X.w) X E)(ha:PA X (e::es) t)
  (hst:starEach (e::es) X.env=(false,eval e X.env)::starEach es X.env:=by rfl) (CT:(backTo pos (starEach es X.env)).any (·.1)=false:=by rfl)
  (ht:eval (.Call (.Attribute o m CO) (e::es) [] pos) X.env=(do
   let ov ← eval o X.env
   standAt CO.atName
   let (f,first) ← holding [ov] (getMethod ov m pl)
   callWith pos f first (backTo pos (starEach (e::es) X.env)) (backToKw pos (keywordEach [] X.env))):=by rfl):PE X (.Call (.Attribute o m CO) (e::es) [] pos) (AV C m sp [] E ta t):=by
 obtain⟨f,fd,F,hm,hb⟩:=c.ex
 exact uL he cl hm F hr hb .nil hp ha hst CT ht
theorem wB{pl:Sem Bool}(he:PE X o ta)(cl:Cls X.K C)(c:BS X.prog X.w X.K X.mg X.base C k m ps sp)(hr:Room k X.A)(hp:GA (DN X.prog X.w) X E)
  (ht:eval (.Call (.Attribute o m CO) [] [] pos) X.env=(do
   let ov ← eval o X.env
   standAt CO.atName
   let (f,first) ← holding [ov] (getMethod ov m pl)
   callWith pos f first (backTo pos (starEach [] X.env)) (backToKw pos (keywordEach [] X.env))):=by rfl):PE X (.Call (.Attribute o m CO) [] [] pos) (AV C m sp [] E ta BZ):=by
 obtain⟨f,fd,F,hm,hb⟩:=c.ex
 exact uM he cl hm F hr hb .nil hp ht
theorem IW(c:IV X.prog X.w X.K X.mg X.base C k x ps sp)(hr:Room (k+1) X.A)(hp:GA (DN X.prog X.w) X E)(hg:Gl X x)(ha:PA X (e::es) t)(hdb:(x ==("__debug__":Str))=false:=by decide)
  (he:starEach (e::es) X.env=(false,eval e X.env)::starEach es X.env:=by rfl) (CT:(backTo pos (starEach es X.env)).any (·.1)=false:=by rfl):PE X (.Call (.Name x p) (e::es) [] pos) (GU C sp [] E t):=by
 obtain⟨f,fd,F,M,hm,hb⟩:=c.ex
 exact uO M F hr hg hm hb .nil hp ha hdb he CT
end
theorem Fun.okE{P:Program}{w:World}{K:W.Frag}{mg:Str->Option Value}{base:Heap}{x qual:Str}{st:Stmt}{f:Addr}{fd:FuncData}{N ps:List Str}{k:Nat}{sp:Sp}(F:Fun K x qual st f fd)(S:FnScope N ps (AW st))(len:∀ vs H Q E,sp vs H Q E->vs.length=ps.length)
  (N8:∀ (BM:Value) (A:Around) (outer:List Env) (s:Shared) (H:Hp) (vs:List V) (Q:VK) (E:XK),Room k (A.deeper (envOfC qual (AW st) s.heap.objs.size f BM))->sp vs H Q E →
   ∃ t,PSs (GB (DN P w) P w K mg base N qual (AW st) f BM A outer s H E) (FY st) t/\t { nx:=λ_ H'=>Q .non H',rt:=Q } (A4 N vs) H):FnOk P w K mg base (DN P w) (k+1) f fd ps sp:=by
 obtain⟨oc,od,kV,doc,pm,an,BM,ct,osl,rfl,l,c⟩:=F.ex
 exact cR l c S len λA outer s H vs Q E hr h=>N8 BM A outer s H vs Q E hr h
def GV(mg:Str->Option Value)(x:Str)(v:V):Prop:=∃ u,mg x=some u/\RelV v u
theorem EW{X:Cx}{x:Str}{v:V}{pos:Pos}(g:GV X.mg x v)(hg:Gl X x)(hd:(x ==("__debug__":Str))=false:=by decide):PE X (.Name x pos) (tC v):=by
 obtain⟨u,hm,r⟩:=g
 exact sQ hg hm r hd
theorem d9{α :Type}(p: α ->Bool):∀ (l:List α) (i:Nat),(∀ x,l[i]? =some x->p x=false)->(l.eraseIdx i).find? p=l.find? p
 | [],_,_=>rfl
 | x::r,0,h=>by
  have:p x=false:=h x rfl
  simp[List.eraseIdx,List.find?,this]
 | x::r,i+1,h=>by
  rw[List.eraseIdx_cons_succ]
  simp only[List.find?_cons]
  rw[d9 p r i λy hy=>h y (by simpa using hy)]
theorem wC{v:Value}{x y:Str}(h:v.isStr x=true)(hxy:y≠x):v.isStr y=false:=by
 cases v with
 | str z t =>
  have e:z=x:=by simpa [Value.isStr]using h
  subst e
  simp only[Value.isStr]
  exact beq_eq_false_iff_ne.mpr (Ne.symm hxy)
 | _=>simp[Value.isStr]at h
theorem wD{M:Model}{A:Around}{E:Value->Shared->Prop}{s:Shared}{a:Addr}{m:Str->Option Value}{name:Str}{Q:Bool->Shared->Prop}(hn:s.heap.Ns a m)
  (hQ:∀ h' m',h'.Ns a m'->(∀ y,y≠name->m' y=m y)->Heap.SameBut a s.heap h'->Q (m name).isSome { s with heap:=h' }):wpAny M A (nsDel a name) Q E s:=by
 obtain⟨o,es,ep,ho,hd,hk,hm⟩:=id hn
 have hno:es.any (·.refKey)=false:=by
  rw[Array.any_eq_false'];intro e' he';obtain⟨n',t',h'⟩:=hk e' he';simp[DictEntry.refKey,h']
 have hiff:(m name).isSome=es.any (·.key.isStr name):=by
  rw[<-hm name]
  simp only[nsFind,findBy,Option.isSome_map]
  obtain⟨l⟩:=es
  rw[Bool.eq_iff_iff]
  simp[List.find?_isSome]
 have hhas:nsHas name o=pure (es.any (·.key.isStr name)):=by
  rw[nsHas_eq];unfold nsHasByArray;rw[hd]
  show(if(es.any λx=>x.key.isStr name)=true then _ else _)=_
  generalize (es.any λx=>x.key.isStr name)=b'
  cases b'<;>simp[hno]
 unfold nsDel
 refine wpAny_bind (wpAny_loadPart ho ?_)
 rw[hhas]
 refine wpAny_bind (wpAny_pure ?_)
 rw[<-hiff]
 cases hmn:(m name).isSome
 ·have z:=hQ s.heap m hn (λ_ _=>rfl) (.refl ..)
  rw[hmn]at z
  exact wpAny_pure z
 ·refine wpAny_bind (wpAny_updatePart ho (wpAny_pure ?_))
  have key:∃ m',(s.heap.update a (Obj.dropName name)).Ns a m'/\∀ y,y≠name->m' y=m y:=by
   obtain⟨cl,d,dt,sl⟩:=o
   obtain rfl:dt=.dict es ep:=hd
   cases hi:es.findIdx? (·.key.isStr name)with
   | some i =>
    refine⟨_,⟨_,_,ep+1,Heap.get?_update_self _ ho (by simp only[Obj.dropName_eq,Obj.dropNameByArray,hi]<;>rfl),(by simp only[Obj.dropName_eq,Obj.dropNameByArray,hi]<;>rfl),hk.erase i,λ_=>rfl⟩,λy hy=> ?_⟩
    rw[<-hm y]
    unfold nsFind findBy
    obtain⟨l⟩:=es
    congr 1
    have hi':l.findIdx? (·.key.isStr name)=some i:=by simpa using hi
    obtain⟨BD,hp,_⟩:=List.findIdx?_eq_some_iff_getElem.mp hi'
    show Array.find? _ (Array.eraseIdxIfInBounds ⟨l⟩ i)=_
    rw[<-Array.find?_toList,<-Array.find?_toList]
    have:(Array.eraseIdxIfInBounds ⟨l⟩ i).toList=l.eraseIdx i:=by
     rw[Array.eraseIdxIfInBounds_eq]
     split
     ·simp
     ·rename_i hz;exact absurd BD (by simpa using hz)
    rw[this]
    refine d9 _ l i λx hx=> ?_
    rw[List.getElem?_eq_getElem BD]at hx
    cases hx
    exact wC hp hy
   | none=>exact⟨m,⟨_,_,ep,Heap.get?_update_self _ ho (by simp only[Obj.dropName_eq,Obj.dropNameByArray,hi]<;>rfl),(by simp only[Obj.dropName_eq,Obj.dropNameByArray,hi]<;>rfl),hk,hm⟩,λ_ _=>rfl⟩
  obtain⟨m',hm',hy⟩:=key
  have z:=hQ _ m' hm' hy (Heap.SameBut.update ..)
  rw[hmn]at z
  exact z
theorem O1{X:Cx}{AA:List (Addr × Obj)}{σ:St}{H:Hp}{s:Shared}{A:Around}{E:Value->Shared->Prop}{i:Nat}{n:Str}{pos:Pos}{Q:Unit->Shared->Prop}(I:Inv X AA σ H s)(hN:X.N.Nodup)(hi:X.N[i]? =some n)(hl:X.env.scope.names.lookup n=some .local)
  (h:∀ s',Inv X AA (σ.set i none) H s'->Q () s'):wpAny (model X.prog X.w) A (do bindName X.env n .none;unbindBehindTheSuite X.env n pos) Q E s:=by
 have hp:(X.env.scope.kind == .class || (X.env.scope.kind == .module && X.env.locals != X.env.globals))=false:=by rw[I.ok.kind];rfl
 have hk:X.env.kindOf n=some .local:=hl
 have hiσ:i<σ.length:=by rw[I.len];exact(List.getElem?_eq_some_iff.mp hi).1
 refine wpAny_bind (wpAny_bindName (OC I hN hi (.inl hl) (show RelV .non Value.none from rfl) (λs1 I1=> ?_) (.inr hl)))
 unfold unbindBehindTheSuite
 refine wpAny_onRaise ?_
 unfold unbindName
 refine wpAny_bind (wpAny_point (wpAny_bind ?_))
 unfold deleteName
 simp only[hk,hp]
 rw[if_neg (by decide)]
 obtain⟨m,hn,hloc⟩:=id I1.loc
 have hmn:∃ u,m n=some u:=by
  obtain⟨u,_,l⟩:=hloc i n .non hi (by rw[List.getElem?_set_self hiσ]) (.inl hl)
  rcases l with⟨_,e⟩ | ⟨z,_⟩
  ·exact⟨u,e⟩
  ·rw[hk]at z;rcases z with z | z<;>cases z
 refine wpAny_bind (wD hn λh' m' hn' hy hs=> ?_)
 obtain⟨u,hu⟩:=hmn
 rw[hu]
 simp only[Option.isSome_some,Bool.not_true,Bool.false_eq_true,if_false]
 refine wpAny_pure (wpAny_point (h _ ?_))
 have nL:∀ b o,X.s₀.heap.get? b=some o->b≠X.env.locals:=λb o e=>EL (Heap.lt_size e) I1.ok.above
 refine⟨I1.ok,I1.os,I1.bare,⟨λb o e n' hb hx=>(hs.2 b (nL b o e)).trans (I1.base.keep b o e n' hb hx),λb o e n' hb hx=> ?_,I1.base.free,λb o e hx=> ?_,I1.base.tups,I1.base.frzs,I1.base.tbls⟩,⟨m',hn',λj y v e1 e2 e3=> ?_⟩,λx c e=> ?_,I1.free,I1.freeC,λp hp'=> ?_,λb o e=> ?_,?_⟩
 ·obtain⟨sl,q⟩:=I1.base.slot b o e n' hb hx
  exact⟨sl,(hs.2 b (nL b o e)).trans q⟩
 ·obtain⟨o',q⟩:=I1.base.there b o e hx
  exact⟨o',(hs.2 b (nL b o e)).trans q⟩
 ·have hj:j≠i:=λz=>by
   subst z
   rw[List.getElem?_set_self hiσ]at e2
   cases e2
  rw[List.getElem?_set_ne (Ne.symm hj)]at e2
  obtain⟨u',r',l⟩:=hloc j y v e1 (by rw[List.getElem?_set_ne (Ne.symm hj)];exact e2) e3
  refine⟨u',r',?_⟩
  rcases l with⟨z,e⟩ | ⟨z,c,e,q⟩
  ·exact .inl ⟨z,by rw[hy y λz=>hj (R3 hN e1 (z ▸ hi))];exact e⟩
  ·exact .inr ⟨z,c,e,q.sameBut hs (I1.cne y c e)⟩
 ·obtain⟨v,q⟩:=I1.cell x c e
  exact⟨v,q.sameBut hs (I1.cne x c e)⟩
 ·obtain⟨q1,q2,q3,q4⟩:=I1.pin p hp'
  exact⟨(hs.2 _ q3).trans q1,q2,q3,q4⟩
 ·refine(I1.hok b o e).stay (λc u' hc q=>(hs.2 c ?_).trans q) (λ_ q=>q) λ_ _ q=>q
  intro z
  have fr:=I1.free
  rw[<-z]at fr
  rcases hc with rfl | hc
  ·rw[e]at fr;cases fr
  ·rw[hc]at fr;cases fr
 ·rw[List.length_set];exact I.len
abbrev Cx.tri(X:Cx)(pn:List (Addr × Obj))(xe:Value->Shared->Prop):Cx:={ X with pn:=pn,xe:=xe }
abbrev Cx.hand(X:Cx)(e:Addr):Cx:={ X with A:=X.A.mark (some (.ref e)),calm:=false,xe:=λ_ _=>False }
section
variable{X:Cx}{AA:List (Addr × Obj)}{σ:St}{H:Hp}{s:Shared}
theorem Cx.Ok.tri{pn:List (Addr × Obj)}{xe:Value->Shared->Prop}(ok:X.Ok):(X.tri pn xe).Ok :=
 ⟨ok.mod,ok.kind,ok.glob,ok.blt,ok.above,ok.inj,ok.has,ok.cab,ok.hd,ok.frames,ok.stk,ok.exf,ok.bs,ok.bsz,ok.noex,ok.exfs,ok.funs,ok.frf⟩
theorem Inv.tri{xe:Value->Shared->Prop}(I:Inv X AA σ H s):Inv (X.tri (X.pn++AA) xe) [] σ H s :=
 ⟨I.ok.tri,I.os,I.bare,I.base,I.loc,I.cell,I.free,I.freeC,λp hp=>I.pin p (by simpa using hp),I.hok,I.len⟩
theorem Cx.Ok.untri{pn:List (Addr × Obj)}{xe:Value->Shared->Prop}(ok:(X.tri pn xe).Ok):X.Ok :=
 ⟨ok.mod,ok.kind,ok.glob,ok.blt,ok.above,ok.inj,ok.has,ok.cab,ok.hd,ok.frames,ok.stk,ok.exf,ok.bs,ok.bsz,ok.noex,ok.exfs,ok.funs,ok.frf⟩
theorem Inv.untri{pl:List (Addr × Obj)}{xe:Value->Shared->Prop}(I:Inv (X.tri (X.pn++AA) xe) pl σ H s):Inv X AA σ H s :=
 ⟨I.ok.untri,I.os,I.bare,I.base,I.loc,I.cell,I.free,I.freeC,λp hp=>I.pin p (List.mem_append_left _ hp),I.hok,I.len⟩
theorem Cx.Ok.hand{e:Addr}(ok:X.Ok):(X.hand e).Ok :=
 ⟨ok.mod,ok.kind,ok.glob,ok.blt,ok.above,ok.inj,ok.has,ok.cab,(λz=>nomatch z),ok.frames,ok.stk,ok.exf,ok.bs,ok.bsz,ok.noex,ok.exfs,ok.funs,ok.frf⟩
theorem Inv.hand{e:Addr}(I:Inv X AA σ H s):Inv (X.hand e) AA σ H s:=⟨I.ok.hand,I.os,I.bare,I.base,I.loc,I.cell,I.free,I.freeC,I.pin,I.hok,I.len⟩
theorem Inv.unhand{e:Addr}(ok:X.Ok)(I:Inv (X.hand e) AA σ H s):Inv X AA σ H s:=⟨ok,I.os,I.bare,I.base,I.loc,I.cell,I.free,I.freeC,I.pin,I.hok,I.len⟩
end
def HG(e:Addr)(cls:Value):Heap->Prop:=λh=>∃ oe vs,h.get? e=some oe/\oe.cls=cls/\oe.dict=none/\oe.data=.fields vs
abbrev TH:=Value->Ends->St->Hp->Prop
def S8:TH:=λ_ _ _ _=>False
def Ends.drop(D:Ends)(i:Nat):Ends:={ nx:=λσ H=>D.nx (σ.set i none) H,rt:=D.rt,bk:=λσ H=>D.bk (σ.set i none) H,ct:=λσ H=>D.ct (σ.set i none) H }
def S9(p:Value->Option Bool)(i:Nat)(ts:TS)(DZ:TH):TH:=λcls D σ H =>
 (p cls=some true/\∀ e,H e=none->ts (D.drop i) (σ.set i (some (.ref e))) (upd H e (.ext (HG e cls))))\/(p cls=some false/\DZ cls D σ H)
def PH(X:Cx)(hs:List ExceptHandler)(th:TH):Prop :=
 ∀ (AA:List (Addr × Obj)) (s:Shared) (σ:St) (H:Hp) (D:Ends) (e:Addr) (cls:Value),X.ex=[]->Inv X AA σ H s->Fly (X.bad AA) H s.heap e cls->th cls D σ H →
  wpAny (model X.prog X.w) X.A (handleBy (.ref e) X.env hs) (SP X AA D) X.xe s
def PX(X:Cx)(t:Expr)(p:Value->Option Bool):Prop :=
 ∀ (AA:List (Addr × Obj)) (s:Shared) (σ:St) (H:Hp) (e:Addr) (cls:Value) (b:Bool) (Q:Bool->Shared->Prop) (E:Value->Shared->Prop),Inv X AA σ H s->Fly (X.bad AA) H s.heap e cls->p cls=some b →
  (∀ s',Inv X AA σ H s'->Fly (X.bad AA) H s'.heap e cls->Q b s')->wpAny (model X.prog X.w) (X.A.mark (some (.ref e))) (eval t X.env) (λc s1=>wpAny (model X.prog X.w) (X.A.mark (some (.ref e))) (excMatches (.ref e) c) Q E s1) E s
def TC(tb:(St->XK)->TS)(th:TH):TS:=λD σ H=>tb (λσ' cls _ H'=>th cls D σ' H') D σ H
section
variable{X:Cx}{hs:List ExceptHandler}{h₀:ExceptHandler}{th:TH}{body:List Stmt}{tb:(St->XK)->TS}{pos:Pos}
theorem wE:PH X [] S8:=λ_ _ _ _ _ _ _ _ _ _ h=>h.elim
theorem wF{bad:Addr->Prop}{H:Hp}{h:Heap}{e:Addr}{cls:Value}{M:Model}(F:Fly bad H h e cls):W.Looks M h (typeOf (.ref e)) cls:=by
 obtain⟨_,_,oe,vs,h1,h2,_⟩:=F
 subst h2
 exact(W.Looks.ld h1).andThen .now
theorem wG{x:Str}{np:Pos}{C:Value}(hg:Gl X x)(hm:X.mg x=some C)(hd:(x ==("__debug__":Str))=false:=by decide):PX X (.Name x np) (λcls=>W.exmOne X.K cls C):=by
 intro AA s σ H e cls b Q E I F hp h
 have I2:Inv (X.hand e) AA σ H s:=I.hand
 refine MB (X:=X.hand e) I2 hg hm ?_ hd
 exact W.exm_one I.kIn (wF F) hp _ _ _ s (λ_ _ z=>z) (h s I F)
theorem wH{M:Model}{A:Around}{E:Value->Shared->Prop}{s:Shared}{bad:Addr->Prop}{H:Hp}{fr:List Addr}{e:Addr}{cls:Value}{Q:Unit->Shared->Prop}(F:Fly bad H s.heap e cls)
  (h:∀ h',S6 fr bad H e cls s.heap h'->Q () { s with heap:=h' }):wpAny M A (setFlight (.ref e) none) Q E s:=by
 have F0:=F
 obtain⟨nb,frr,oe,vs,he,JJ,L8,hd,htb⟩:=F
 unfold setFlight
 rcases htb with h1 | ⟨T,oT,ts,h1,nbT,frT,neT,eT,dT,h3⟩
 ·refine wpAny_bind (wpAny_field he hd h1 ?_)
  rw[if_neg (by decide)]
  exact wpAny_pure (h s.heap ⟨⟨[],(λb hb=>nomatch hb),λb o eb _ _=>eb,λb o eb _=>⟨o.slots,eb⟩⟩,F0⟩)
 ·refine wpAny_bind (wpAny_field he hd h1 ?_)
  rw[if_pos (show(Value.ref T != Value.none)=true from by simp)]
  have hs3:3<ts.size:=(Array.getElem?_eq_some_iff.mp h3).1
  refine wpAny_setField eT dT hs3 (h _ ?_)
  have oth:∀ b,b≠T->(s.heap.update T (Obj.mapFields (·.setIfInBounds 3 ((none:Option Addr).elim Value.none λf=>rawInt f)))).get? b=s.heap.get? b:=λb hb'=>Heap.get?_update_other _ _ (Ne.symm hb')
  refine⟨⟨[T],λb hb=> ?_,λb o eb hb _=>(oth b λz=>hb (by simp[z])).trans eb,λb o eb hb=>⟨o.slots,(oth b λz=>hb (by simp[z])).trans eb⟩⟩,nb,frr,oe,vs,(oth e (Ne.symm neT)).trans he,JJ,L8,hd,.inr ⟨T,_,_,h1,nbT,frT,neT,Heap.get?_update_self _ eT (Obj.isFreed_of_fields (Obj.data_mapFields dT _)),Obj.data_mapFields dT _,by simp[hs3]⟩⟩
  rw[List.mem_singleton]at hb
  subst hb
  exact⟨nbT,frT,oT,ts,eT,dT⟩
theorem SP.unhand{AA:List (Addr × Obj)}{D:Ends}{e:Addr}{f:Flow}{s:Shared}(ok:X.Ok)(h:SP (X.hand e) AA D f s):SP X AA D f s:=by
 cases f with
 | next=>obtain⟨σ1,H1,I1,q⟩:=h;exact⟨σ1,H1,I1.unhand ok,q⟩
 | brk=>obtain⟨σ1,H1,I1,q⟩:=h;exact⟨σ1,H1,I1.unhand ok,q⟩
 | cont=>obtain⟨σ1,H1,I1,q⟩:=h;exact⟨σ1,H1,I1.unhand ok,q⟩
 | ret u=>obtain⟨v,σ1,H1,I1,r,q⟩:=h;exact⟨v,σ1,H1,I1.unhand ok,r,q⟩
theorem wI{t:Expr}{n:Str}{i:Nat}{b₀:Stmt}{suite:List Stmt}{hp:Pos}{p:Value->Option Bool}{ts:TS}{DZ:List ExceptHandler}{tr:TH}(hN:X.N.Nodup)(hi:X.N[i]? =some n)(hl:X.env.scope.names.lookup n=some .local)(ht:PX X t p)
  (hsu:∀ e,PSs (X.hand e) (b₀::suite) ts) (hr:PH X DZ tr):PH X (.ExceptHandler (some t) (some n) (b₀::suite) hp::DZ) (S9 p i ts tr):=by
 intro AA s σ H D e cls hx I F h
 have hmain:∃ b,p cls=some b/\(b=true->∀ e,H e=none->ts (D.drop i) (σ.set i (some (.ref e))) (upd H e (.ext (HG e cls))))/\(b=false->tr cls D σ H):=by
  rcases h with⟨h1,h2⟩ | ⟨h1,h2⟩
  ·exact⟨true,h1,λ_=>h2,λz=>nomatch z⟩
  ·exact⟨false,h1,(λz=>nomatch z),λ_=>h2⟩
 obtain⟨b,hp',hT,hF⟩:=hmain
 refine wpAny_handleBy_cons (codeAny_handlers_test (ht AA s σ H e cls b _ _ I F hp' λs' I' F'=> ?_)) (by intro z;cases z)
 cases b with
 | false=>exact hr AA s' σ H D e cls hx I' F' (hF rfl)
 | true =>
  refine codeAny_handlers_suite_as (wH (fr:=DL X.stack) F' λh' N=> ?_)
  have I2:=I'.noted N
  obtain⟨nb,fr,oe,vs,he,JJ,L8,hd,_⟩:=N.fly
  have I3:Inv X AA σ (upd H e (.ext (HG e cls))) { s' with heap:=h' }:=by
   have hs0:X.s₀.heap.get? e=none:=by
    cases q:X.s₀.heap.get? e with
    | none=>rfl
    | some o=>exact absurd (.inl (by rw[q];simp)) nb
   have ltH:∀ b o,H b=some o->b≠e:=λb o eb z=>by rw[z,fr]at eb;cases eb
   refine⟨I2.ok,I2.os,I2.bare,⟨I2.base.keep,I2.base.slot,λb o eb n' hx'=> ?_,I2.base.there,λb xs eb=> ?_,λb o u eb=> ?_,λb ps eb=> ?_⟩,I2.loc,I2.cell,?_,λx c ec=> ?_,λp hp=> ?_,I2.hok.track fr ?_,I2.len⟩
   ·rw[AG (λz=>by rw[z,hs0]at eb;cases eb)];exact I2.base.free b o eb n' hx'
   ·rw[AG (ltH _ _ (I2.base.tups b xs eb))];exact I2.base.tups b xs eb
   ·rw[AG (ltH _ _ (I2.base.frzs b o u eb))];exact I2.base.frzs b o u eb
   ·obtain⟨m,q⟩:=I2.base.tbls b ps eb
    exact⟨m,by rw[AG (ltH _ _ q)];exact q⟩
   ·obtain⟨m,⟨oL,es,ep,hoL,dL,_⟩,_⟩:=I2.loc
    rw[AG (λz=>by rw[z]at hoL;rw[show h'.get? e=some oe from he]at hoL;cases hoL;rw[hd]at dL;cases dL)]
    exact I2.free
   ·obtain⟨v,oc,hoc,hdc⟩:=I2.cell x c ec
    rw[AG (λz=>by rw[z]at hoc;rw[show h'.get? e=some oe from he]at hoc;cases hoc;rw[hd]at hdc;cases hdc)]
    exact I2.freeC x c ec
   ·obtain⟨q1,q2,q3⟩:=I2.pin p hp
    refine⟨q1,?_,q3⟩
    rw[AG (λz=>nb (.inr ⟨p,hp,z⟩))];exact q2
   ·refine⟨⟨oe,vs,he,JJ,L8,hd⟩,⟨oe,he⟩,λh1 h2 hq k=> ?_⟩
    obtain⟨o1,v1,z1,z2⟩:=hq
    exact⟨o1,v1,k _ z1,z2⟩
  refine OC I3 hN hi (.inl hl) (show RelV (.ref e) (.ref e)from rfl) (λs4 I4=> ?_) (.inr hl)
  refine wpAny_mono (hsu e AA s4 _ _ (D.drop i) I4.hand (hT rfl e fr)) (λf s5 h5=> ?_) λ_ _ z=>z.elim
  have h6:=h5.unhand I.ok
  show wpAny _ _ (do bindName X.env n .none;unbindBehindTheSuite X.env n hp) _ _ _
  cases f with
  | next =>
   obtain⟨σ1,H1,I1,q⟩:=h6
   exact O1 I1 hN hi hl λs7 I7=>⟨_,H1,I7,q⟩
  | brk =>
   obtain⟨σ1,H1,I1,q⟩:=h6
   exact O1 I1 hN hi hl λs7 I7=>⟨_,H1,I7,q⟩
  | cont =>
   obtain⟨σ1,H1,I1,q⟩:=h6
   exact O1 I1 hN hi hl λs7 I7=>⟨_,H1,I7,q⟩
  | ret u =>
   obtain⟨v,σ1,H1,I1,r,q⟩:=h6
   exact O1 I1 hN hi hl λs7 I7=>⟨v,_,H1,I7,r,q⟩
theorem wJ(hx:X.ex=[])(hcalm:X.calm=true)(hst:X.stack=X.env::X.outer)(JK:X.env.frame=some X.env.locals)(hb:∀ (E:St->XK) (pn:List (Addr × Obj)) (xe:Value->Shared->Prop),XOk (X.tri pn xe) E->PSs (X.tri pn xe) body (tb E))(hh:PH X (h₀::hs) th) :
  PS X (.Try body (h₀::hs) [] [] pos) (TC tb th):=by
 intro AA s σ H D I h
 refine wpAny_Try_except ?_
 let xe:Value->Shared->Prop:=λe s₁=>wpAny (model X.prog X.w) X.A (noteFrame e X.env) (λ_ s₂=>wpAny (model X.prog X.w) X.A (setFlight e none) (λ_ s₃=>wpAny (model X.prog X.w) X.A (handleBy e X.env (h₀::hs)) (SP X AA D) X.xe s₃) X.xe s₂) X.xe s₁
 have xok:XOk (X.tri (X.pn++AA) xe) (λσ' cls _ H'=>th cls D σ' H'):=by
  refine⟨PassesOwn.looking,hx,hcalm,λpl σ' H' s' e cls I' F' q=> ?_⟩
  have Iu:=I'.untri
  refine d6 (hst ▸ Iu.ok.frames) (hst ▸ Iu.stack) JK F' (λa z=>I'.notbad hx (d7 z)) (λa z=>I'.hok.fresh z) λh' N=> ?_
  rw[<-hst]at N
  have I2:Inv (X.tri (X.pn++AA) xe) pl σ' H' { s' with heap:=h' }:=I'.noted N
  exact hh AA _ σ' H' D e cls hx I2.untri (N.fly.mono λa z=>by
   rcases z with z | ⟨p,hp,z⟩
   ·exact .inl z
   ·exact .inr ⟨p,List.mem_append_left _ hp,z⟩) q
 refine wpAny_mono (hb _ _ xe xok [] s σ H D I.tri h) (λf s1 hs1=> ?_) λ_ _ z=>z
 cases f with
 | next =>
  obtain⟨σ1,H1,I1,q⟩:=hs1
  exact wpAny_execs_nil ⟨σ1,H1,I1.untri,q⟩
 | brk=>obtain⟨σ1,H1,I1,q⟩:=hs1;exact⟨σ1,H1,I1.untri,q⟩
 | cont=>obtain⟨σ1,H1,I1,q⟩:=hs1;exact⟨σ1,H1,I1.untri,q⟩
 | ret u=>obtain⟨v,σ1,H1,I1,r,q⟩:=hs1;exact⟨v,σ1,H1,I1.untri,r,q⟩
end
end L2
namespace L2
mutual
inductive Rep(K:W.Frag)(H:Hp):V->PyData->Prop
 | non:Rep K H .non .none
 | bl (b:Bool):Rep K H (.bl b) (.bool b)
 | int (i:Int):Rep K H (.int i) (.int i)
 | str (x:Str):Rep K H (.str x) (.str x)
 | lst {a:Addr} {xs:List V} {ds:List PyData}:SqL K H a xs->RepAll K H xs ds->Rep K H (.ref a) (.list ds)
 | tup {a:Addr} {xs:List V} {ds:List PyData}:SqT K H a xs->RepAll K H xs ds->Rep K H (.ref a) (.tuple ds)
inductive RepAll(K:W.Frag)(H:Hp):List V->List PyData->Prop
 | nil:RepAll K H [] []
 | cons {v:V} {d:PyData} {vs:List V} {ds:List PyData}:Rep K H v d->RepAll K H vs ds->RepAll K H (v::vs) (d::ds)
end
section
variable{X:Cx}{AA:List (Addr × Obj)}{σ:St}{H:Hp}{s:Shared}
mutual
theorem Rep.reads(I:Inv X AA σ H s):∀ {v:V} {d:PyData} {u:Value},Rep X.K H v d->RelV v u->∃ as,Reads s.heap u d as
 | _,_,_,.non,r=>by cases (show _=Value.none from r);exact⟨_,.none⟩
 | _,_,_,.bl b,r=>by cases (show _=Value.bool b from r);exact⟨_,.bool b⟩
 | _,_,_,.int i,r=>by obtain⟨t,e⟩:=(show ∃ t,_=Value.int i t from r);cases e;exact⟨_,.int i t⟩
 | _,_,_,.str x,r=>by obtain⟨t,e⟩:=(show ∃ t,_=Value.str x t from r);cases e;exact⟨_,.str x t⟩
 | _,_,_,.lst (a:=a) h hr,r=>by
  cases (show _=Value.ref a from r)
  obtain⟨its,rv,p,_⟩:=I.list h
  obtain⟨as,q⟩:=RepAll.reads I hr rv
  obtain⟨o,e1,e2,n,e3⟩:=p.isList
  exact⟨_,.list e1 e2 e3 q⟩
 | _,_,_,.tup (a:=a) h hr,r=>by
  cases (show _=Value.ref a from r)
  obtain⟨its,rv,p,_⟩:=I.tuple h
  obtain⟨as,q⟩:=RepAll.reads I hr rv
  obtain⟨o,e1,e2,n,e3⟩:=p
  exact⟨_,.tuple e1 e2 e3 q⟩
theorem RepAll.reads(I:Inv X AA σ H s):∀ {vs:List V} {ds:List PyData} {us:List Value},RepAll X.K H vs ds->Vals vs us->∃ as,ReadsAll s.heap us ds as
 | _,_,_,.nil,.nil=>⟨_,.nil⟩
 | _,_,_,.cons h hr,.cons r rr=>by
  obtain⟨as,q⟩:=Rep.reads I h r
  obtain⟨bs,q2⟩:=RepAll.reads I hr rr
  exact⟨_,.cons q q2⟩
end
end
abbrev shp(d:PyData):Prop:=PySem.SeqAt.shaped d=true
def CC(K:W.Frag):R2:=λx y H Q=>if EJ x y=true then Q (.bl (decide (x=y))) H else ∃ d e,Rep K H x d/\Rep K H y e/\shp d/\shp e/\Q (.bl (PyData.eqv d e)) H
def DE(K:W.Frag):R2:=λx y H Q=>if EJ x y=true then Q (.bl (!decide (x=y))) H else ∃ d e,Rep K H x d/\Rep K H y e/\shp d/\shp e/\Q (.bl (!PyData.eqv d e)) H
section
variable{X:Cx}
theorem D0(hu:X.A.units+64<cLine):OpR X (compareOp .Eq) (CC X.K):=by
 intro AA s σ H x y v u Q I rx ry h
 unfold CC at h
 split at h
 ·rename_i hs
  exact tU AA s σ H x y v u Q I rx ry ⟨hs,h⟩
 ·obtain⟨d,e,rd,re,sd,se,q⟩:=h
  obtain⟨as,ra⟩:=rd.reads I rx
  obtain⟨bs,rb⟩:=re.reads I ry
  exact eq_dataH ra rb sd se hu ⟨.bl _,H,I,rfl,q⟩
theorem IX(hu:X.A.units+64<cLine):OpR X (compareOp .NotEq) (DE X.K):=by
 intro AA s σ H x y v u Q I rx ry h
 unfold DE at h
 split at h
 ·rename_i hs
  exact tV AA s σ H x y v u Q I rx ry ⟨hs,h⟩
 ·obtain⟨d,e,rd,re,sd,se,q⟩:=h
  obtain⟨as,ra⟩:=rd.reads I rx
  obtain⟨bs,rb⟩:=re.reads I ry
  exact ne_dataH ra rb sd se hu ⟨.bl _,H,I,rfl,q⟩
def TD(K:W.Frag):R2:=λx y H Q=>∃ a b ys,x=.ref a/\y=.ref b/\SqT K H a []/\SqT K H b ys/\Q (.ref b) H
theorem wK:OpR X (binaryOp .Add) (TD X.K):=by
 intro AA s σ H x y v u Q I rx ry h
 obtain⟨a,b,ys,rfl,rfl,ha,hb,q⟩:=h
 cases rx
 cases ry
 obtain⟨its,r1,⟨⟨c1,c2,c3,c4⟩,e1,e2,n1,e3⟩,_⟩:=I.tuple ha
 obtain⟨N7,r2,⟨⟨d1,d2,d3,d4⟩,f1,f2,n2,f3⟩,_⟩:=I.tuple hb
 obtain rfl:c1=_:=e2
 obtain rfl:c3=_:=e3
 obtain rfl:d1=_:=f2
 obtain rfl:d3=_:=f3
 cases r1
 exact concat_meets ⟨_,e1,rfl⟩ ⟨_,f1,rfl⟩ noFill_tuple_add seq_tuple_add PySem.F.slot_tuple_add PySem.F.entry_tuple_add (PySem.F.args_tuple_add_2 _ _) (tuple_addW0 a b #[] N7.toArray n1 n2 c2 d2 c4 d4 rfl) ⟨e1,f1,.ref b,H,I,rfl,q⟩
def BB(K:W.Frag):R2:=λx y H Q=>match x,y with
 | .int i,.int j=>Q (.int (i+j)) H
 | .str i,.str j=>i.length+j.length<=sizeLine/\Q (.str (i++j)) H
 | .ref _,.ref _=>OY x y H Q\/SK K x y H Q\/TD K x y H Q
 | _,_=>False
theorem BG:OpR X (binaryOp .Add) (BB X.K):=by
 intro AA s σ H x y v u Q I rx ry h
 cases x<;>cases y<;>simp only[BB]at h
 ·exact tO AA s σ H _ _ v u Q I rx ry ⟨_,_,rfl,rfl,h⟩
 ·exact t3 AA s σ H _ _ v u Q I rx ry ⟨_,_,rfl,rfl,h⟩
 ·rcases h with h | h
  ·exact vH AA s σ H _ _ v u Q I rx ry h
  rcases h with h | h
  ·exact uW AA s σ H _ _ v u Q I rx ry h
  ·exact wK AA s σ H _ _ v u Q I rx ry h
def IH:R2:=λx y H Q=>match x,y with
 | .int i,.int j=>Q (.bl (decide (i<j))) H
 | .str i,.str j=>Q (.bl (decide (i.cps.toList<j.cps.toList))) H
 | _,_=>False
def D1:R2:=λx y H Q=>match x,y with
 | .int i,.int j=>Q (.bl (decide (i<=j))) H
 | .str i,.str j=>Q (.bl (!decide (j.cps.toList<i.cps.toList))) H
 | _,_=>False
end
end L2
namespace L2
theorem wL:fillsNumberSlot (.type "tuple") "mul"=pure false :=
 PySem.fillsNumberSlot_seq (id:="tuple.__mul__") (r:=some (.builtin "tuple.__rmul__")) F.slot_tuple_mul.lookup (by decide +kernel) F.slot_tuple_rmul.lookup (by decide +kernel)
theorem wM:seqRepeat? (.type "tuple")=pure (some (.builtin "tuple.__mul__")):=by
 unfold seqRepeat?
 rw[PySem.seqSlot_of (T:="tuple") (name:="__mul__") (id:="tuple.__mul__") F.slot_tuple_mul.lookup (by decide +kernel),PySem.seqSlot_of (T:="tuple") (name:="__rmul__") (id:="tuple.__rmul__") F.slot_tuple_rmul.lookup (by decide +kernel)]
 rfl
theorem wN(a:Int)(t:Tok)(l:Addr)(BH:Array Value)(dd:Option Addr)(n:Nat)(sl:Array (Option Value)) :
  Meets (Builtin.«int.__rmul__» ⟨[.int a t,.ref l],[]⟩) (λ_ R s=>s.heap.get? l=some ⟨.type "tuple",dd,.seq BH n,sl⟩/\R (.ok (.ret Value.notImplemented)) s) :=
 .of_wp λprog w A R s h=>by obtain⟨hp,g,d,tk,os⟩:=s;obtain⟨hl,h⟩:=h;wp_walk;exact⟨_,rfl,h⟩
theorem wO(l:Addr)(BH:Array Value)(dd:Option Addr)(n:Nat)(sl:Array (Option Value))(x:Int)(u:Tok)(h1:1<x)(h2:x<2 ^ 63)(hne:BH.isEmpty=false)(hz:BH.size * x.toNat<=sizeLine) :
  Meets (Builtin.«tuple.__mul__» ⟨[.ref l,.int x u],[]⟩) (λ_ R s=>s.heap.get? l=some ⟨.type "tuple",dd,.seq BH n,sl⟩ ∧
   R (.ok (.ret (Value.ref s.heap.objs.size))) { s with heap:=s.heap.push { cls:=Value.type "tuple",data:=Data.seq (List.foldl (λx1 x2=>x1++x2) #[] (List.replicate x.toNat BH)) } }) :=
 .of_wp λprog w A R s h=>by
  obtain⟨hp,g,d,tk,os⟩:=s;obtain⟨hl,h⟩:=h
  have hsl:(sizeLine:Nat)<=(2 ^ 63 - 1) / 8:=by decide
  have BT:(List.foldl (λx1 x2=>x1++x2) #[] (List.replicate x.toNat BH)).size<=sizeLine:=by
   have:=OX BH.toList x.toNat []
   simp only[List.nil_append,Array.toArray_toList]at this
   rw[this]
   simp only[List.size_toArray,List.length_flatten,List.map_replicate,List.sum_replicate_nat,Array.length_toList]
   rw[Nat.mul_comm];exact hz
  have hx:∃ N:Nat,(BH.size:Int) * x=(N:Int)/\N<=sizeLine:=⟨BH.size * x.toNat,by rw[Int.natCast_mul,Int.toNat_of_nonneg (by omega)],hz⟩
  obtain⟨N,hx,hN⟩:=hx
  unfold Builtin.«tuple.__mul__»
  wp_walk
  refine wpAny_ite_false (by simp;omega) ?_
  wp_walk
  refine wpAny_ite_false (by simp only[hne,Bool.false_or];simp;omega) ?_
  refine wpAny_ite_false (by simp only[hne,Bool.or_false];simp;omega) ?_
  refine wpAny_ite_false (by rw[hx];exact decide_eq_false (by omega)) ?_
  refine wpAny_ite_false (by rw[hx];unfold Builtin.Tuple.tupleTooMany;simp;omega) ?_
  wp_walk
  exact⟨_,rfl,h⟩
theorem wP(l:Addr)(BH:Array Value)(dd:Option Addr)(n:Nat)(sl:Array (Option Value))(u:Tok) :
  Meets (Builtin.«tuple.__mul__» ⟨[.ref l,.int 1 u],[]⟩) (λ_ R s=>s.heap.get? l=some ⟨.type "tuple",dd,.seq BH n,sl⟩/\R (.ok (.ret (Value.ref l))) s) :=
 .of_wp λprog w A R s h=>by
  obtain⟨hp,g,d,tk,os⟩:=s;obtain⟨hl,h⟩:=h
  unfold Builtin.«tuple.__mul__»
  wp_walk
  exact⟨_,rfl,h⟩
def TF(K:W.Frag):R2:=λx y H Q=>∃ a k xs,x=.ref a/\y=.int k/\SqT K H a xs/\xs≠[]/\1<=k/\k<2 ^ 63/\xs.length * k.toNat<=sizeLine ∧
 (k=1->Q (.ref a) H)/\(k≠1->∀ p,H p=none->Q (.ref p) (upd H p (.tup (List.replicate k.toNat xs).flatten)))
section
variable{X:Cx}
theorem Inv.tnew{AA:List (Addr × Obj)}{σ:St}{H:Hp}{s:Shared}{ys:List V}{its:List Value}(I:Inv X AA σ H s)(hv:Vals ys its)(hz:ys.length<=sizeLine) :
  Inv X AA σ (upd H s.heap.objs.size (.tup ys)) { s with heap:=s.heap.push { cls:=.type "tuple",data:=.seq its.toArray } } :=
 I.laid (t':=s.toks) (λ_ _ q=>Heap.get?_push_of_some _ q) (Nat.le_refl _) ⟨hz,its,hv,_,Heap.get?_push_size _ rfl,rfl,0,rfl⟩
theorem wQ:OpR X (binaryOp .Mult) (TF X.K):=by
 intro AA s σ H x y v u Q I rx ry h
 obtain⟨a,k,xs,rfl,rfl,hx,hne,h1,h2,hz,q1,q2⟩:=h
 cases rx
 obtain⟨t,rfl⟩:=ry
 obtain⟨its,r,⟨⟨c1,c2,c3,c4⟩,e1,e2,n,e3⟩,_⟩:=I.tuple hx
 obtain rfl:c1=_:=e2
 obtain rfl:c3=_:=e3
 have hl:=r.length
 have he:its.toArray.isEmpty=false:=by
  cases its with
  | nil=>exact absurd (List.length_eq_zero_iff.mp hl) hne
  | cons b t=>rfl
 refine wpAny_binaryOp_repeat_ref (T:="tuple") (U:="int") (by decide) ⟨_,e1,rfl⟩ (λs'=>typeIs_int s' k t) wL F.fills_int_mul F.slot_int_rmul wM F.slot_int_index.lookup
  (call_meets F.slot_int_rmul (typeIs_int s k t) F.entry_int_rmul (F.args_int_rmul_2 _ _) (wN k t a its.toArray c2 n c4) ⟨e1,rfl,⟨_,e1,rfl⟩,?_⟩)
 by_cases hk:k=1
 ·subst hk
  exact call_meets F.slot_tuple_mul ⟨_,e1,rfl⟩ F.entry_tuple_mul (F.args_tuple_mul_2 _ _) (wP a its.toArray c2 n c4 t) ⟨e1,.ref a,H,I,rfl,q1 rfl⟩
 ·refine call_meets F.slot_tuple_mul ⟨_,e1,rfl⟩ F.entry_tuple_mul (F.args_tuple_mul_2 _ _) (wO a its.toArray c2 n c4 k t (by omega) h2 he (by rw[List.size_toArray,<-hl];exact hz)) ⟨e1,?_⟩
  have f0:=OX its k.toNat []
  rw[List.nil_append]at f0
  rw[f0]
  exact⟨.ref _,_,I.tnew (r.rep k.toNat) (by rw[dC,Nat.mul_comm];exact hz),rfl,q2 hk _ I.fresh⟩
abbrev eA:R2:=HB λi j=>.int (i - j)
abbrev EX:R2:=rI (λ_ j=>0<j) λi j=>.int (i % j)
abbrev FI:R2:=rI bZ λi j=>.int (i / j)
abbrev wR:R2:=rI tN λi j=>.int (i ^ j.toNat)
abbrev TJ:V->Hp->VK->Prop:=rU λi=>.int (-i)
abbrev wS:OI:=R9 λi j=>i+j
def KZ(z:Str)(k:Int):Str:=if k<1 then Str.empty else if(k == 1 || z.length == 0)=true then z else⟨(List.replicate k.toNat z.cps).foldl (· ++·) #[]⟩
theorem wT(z:Str)(k:Nat):(Str.mk ((List.replicate k z.cps).foldl (· ++·) #[])).length=k * z.length:=by
 have e:∀ (m:Nat) (BW:Array Nat),((List.replicate m z.cps).foldl (· ++·) BW).size=BW.size+m * z.cps.size:=λm=>by
  induction m with
  | zero=>intro BW;simp
  | succ m ih=>intro BW;rw[List.replicate_succ,List.foldl_cons,ih,Array.size_append,Nat.succ_mul];omega
 have:=e k #[]
 simpa [Str.length]using this
def wU:R2:=λx y H Q=>∃ z k,x=.str z/\y=.int k/\0<=k/\k<=1000/\z.length<=1000/\Q (.str (KZ z k)) H
theorem wV:OpR X (binaryOp .Mult) wU:=by
 intro AA s σ H x y v u Q I rx ry h
 obtain⟨z,k,rfl,rfl,h1,h2,h3,q⟩:=h
 obtain⟨t,rfl⟩:=rx
 obtain⟨t',rfl⟩:=ry
 refine PySem.P.mul_str (by simp;omega) (λa _=> ?_) (λa _=> ?_) ?_
 ·have:(1000:Int)<=(2 ^ 63 - 1) / k:=(Int.le_ediv_iff_mul_le (by omega)).mpr (by omega)
  omega
 ·have h4:z.length * k.toNat<=1000 * 1000:=Nat.mul_le_mul h3 (by omega)
  have h5:(1000 * 1000:Nat)<=sizeLine:=by decide
  unfold Builtin.Str.tooLong
  exact decide_eq_false (by omega)
 ·unfold KZ at q
  split
  ·rename_i c
   rw[if_pos c]at q
   exact⟨by show(0:Nat)<=sizeLine;omega,.str _,H,I.tok _,⟨_,rfl⟩,q⟩
  ·rename_i c
   rw[if_neg c]at q
   split
   ·rename_i d
    rw[if_pos d]at q
    exact⟨.str _,H,I,⟨_,rfl⟩,q⟩
   ·rename_i d
    rw[if_neg d]at q
    exact⟨by rw[wT];have:=Nat.mul_le_mul (show k.toNat<=1000 by omega) h3;show _<=2 ^ 24;omega,.str _,H,I.tok _,⟨_,rfl⟩,q⟩
def F1(K:W.Frag):R2:=λx y H Q=>match x,y with
 | .int i,.int j=>CMul i j/\Q (.int (i * j)) H
 | .str z,.int k=>0<=k/\k<=1000/\z.length<=1000/\Q (.str (KZ z k)) H
 | .ref _,.int _=>SR x y H Q\/TF K x y H Q
 | _,_=>False
theorem IY:OpR X (binaryOp .Mult) (F1 X.K):=by
 intro AA s σ H x y v u Q I rx ry h
 cases x<;>cases y<;>simp only[F1]at h
 ·exact tQ AA s σ H _ _ v u Q I rx ry ⟨_,_,rfl,rfl,h⟩
 ·exact wV AA s σ H _ _ v u Q I rx ry ⟨_,_,rfl,rfl,h⟩
 ·rcases h with h | h
  ·exact vI AA s σ H _ _ v u Q I rx ry h
  ·exact wQ AA s σ H _ _ v u Q I rx ry h
def K0:R2:=λx y H Q=>match x,y with
 | .int i,.int j=>Q (.bl (decide (j<i))) H
 | _,_=>False
def wW:R2:=λx y H Q=>match x,y with
 | .int i,.int j=>Q (.bl (decide (j<=i))) H
 | _,_=>False
theorem MT:OpR X (compareOp .Lt) IH:=by
 intro AA s σ H x y v u Q I rx ry h
 cases x<;>cases y<;>simp only[IH]at h
 ·exact tW AA s σ H _ _ v u Q I rx ry ⟨_,_,rfl,rfl,h⟩
 ·obtain⟨t,rfl⟩:=rx
  obtain⟨t',rfl⟩:=ry
  exact PySem.P.lt_str ⟨.bl _,H,I,rfl,h⟩
theorem EY:OpR X (compareOp .LtE) D1:=by
 intro AA s σ H x y v u Q I rx ry h
 cases x<;>cases y<;>simp only[D1]at h
 ·exact tX AA s σ H _ _ v u Q I rx ry ⟨_,_,rfl,rfl,h⟩
 ·obtain⟨t,rfl⟩:=rx
  obtain⟨t',rfl⟩:=ry
  exact PySem.P.le_str ⟨.bl _,H,I,rfl,h⟩
theorem TK:OpR X (compareOp .Gt) K0:=by
 intro AA s σ H x y v u Q I rx ry h
 cases x<;>cases y<;>simp only[K0]at h
 exact tY AA s σ H _ _ v u Q I rx ry ⟨_,_,rfl,rfl,h⟩
abbrev K1:R2:=λx y H Q=>y=.non/\Q (.bl (decide (x=.non))) H
abbrev MU:R2:=λx y H Q=>y=.non/\Q (.bl (!decide (x=.non))) H
variable{a:Expr}{ta:TE}{tA:TT}{pos:Pos}
abbrev K2(K:W.Frag)(ta:TE):TT:=λσ H Q=>ta σ H λx H'=>∃ k,F8 K x H' k/\Q k H'
def CQ(K:W.Frag):R2:=c6 K
theorem CW:IxR X (CQ X.K):=u1
def wX:V->Option Int->Option Int->Hp->VK->Prop:=λx lo hi H Q=>∃ z,x=.str z/\z.length<=sizeLine/\Q (.str (Txt.slice z lo hi)) H
theorem eC{v:Value}{lo:Option Int}(p:IsPart v lo):∃ l:Option (Int × Tok),v=partValue l/\l.map (·.1)=lo:=by
 cases p with
 | none=>exact⟨none,rfl,rfl⟩
 | int i t=>exact⟨some (i,t),rfl,rfl⟩
theorem wY:SlR X wX:=by
 intro AA s σ H x v vl vu lo hi sl Q I rx hs pl pu h
 obtain⟨z,rfl,hz,q⟩:=h
 obtain⟨t,rfl⟩:=rx
 obtain⟨l,rfl,rfl⟩:=eC pl
 obtain⟨u,rfl,rfl⟩:=eC pu
 refine⟨"str",_,PySem.F.slot_str_getitem.lookup,typeIs_str _ _ _,?_⟩
 exact wpAny_getItem_str_slice (l:=l) (u:=u) (st:=none) hs rfl (post_val_or_str ⟨Nat.le_trans (Txt.slice_le z _ _) hz,λt' k=>⟨.str _,H,I.tok k,⟨t',rfl⟩,q⟩⟩)
def K3(K:W.Frag):V->Option Int->Option Int->Hp->VK->Prop:=λx lo hi H Q=>match x with
 | .str z=>z.length<=sizeLine/\Q (.str (Txt.slice z lo hi)) H
 | _=>c8 K x lo hi H Q\/cV K x lo hi H Q
theorem O2:SlR X (K3 X.K):=by
 intro AA s σ H x v vl vu lo hi sl Q I rx hs pl pu h
 cases x<;>first
  | exact wY AA s σ H _ v vl vu lo hi sl Q I rx hs pl pu ⟨_,rfl,h⟩
  | exact(SlR.or u7 uV) AA s σ H _ v vl vu lo hi sl Q I rx hs pl pu h
abbrev MV:V->V->V->Hp->(Hp->Prop)->Prop:=c7
theorem eD:R8 X MV:=u4
def FJ(K:W.Frag)(tl:TE):TI:=λσ H R=>tl σ H λx H1=>∃ a,x=.ref a/\(((∃ xs,SqL K H1 a xs)/\R (HA K a) H1)\/((∃ xs,SqT K H1 a xs)/\R (H0 K a) H1))
theorem PI.or{tg it:Expr}{w1 w2:TI}(h1:PI X tg it w1)(h2:PI X tg it w2):PI X tg it (λσ H R=>w1 σ H R\/w2 σ H R):=λAA s σ H R I h=>h.elim (h1 AA s σ H R I) (h2 AA s σ H R I)
def EM(K:W.Frag):List V->Hp->VK->Prop:=λxs H Q=>∃ x n,xs=[x]/\SG K x H n/\Q (.int n) H
theorem FL:CallR X (.builtin "len") (EM X.K):=t7
def K4(K:W.Frag):List V->Hp->VK->Prop:=λxs H Q=>∃ p ys,xs=[.ref p]/\(SqL K H p ys\/SqT K H p ys)/\∀ l,H l=none->Q (.ref l) (upd H l (.lst ys))
theorem TM:CallR X (.type "list") (K4 X.K):=vA
def K5(K:W.Frag):List V->Hp->VK->Prop:=λxs H Q=>∃ p ys,xs=[.ref p]/\((SqL K H p ys/\∀ l,H l=none->Q (.ref l) (upd H l (.tup ys)))\/(SqT K H p ys/\Q (.ref p) H))
theorem TN:CallR X (.type "tuple") (K5 X.K):=vB
def II(K:W.Frag):List V->Hp->VK->Prop:=λxs H Q=>(∃ i,xs=[.int i]/\Q (.int i) H)\/∃ k,xs=[.bl k]/\Q (.int (if k then 1 else 0)) H
abbrev MW:=dB
end
end L2
namespace L2
section
variable{X:Cx}{tg a:Expr}{ta:TE}{pos:Pos}
theorem G1{l:Expr}{tl:TE}(hl:PE X l tl):PI X tg l (FJ X.K tl):=by
 intro AA s σ H R I h
 refine AR (hl AA s σ H _ I h) λv s1 hzz=> ?_
 obtain⟨x,H1,I1,r1,q1⟩:=hzz
 obtain⟨a,e,q1⟩:=q1
 subst e
 cases r1
 have fp1:∀ b∈[s1.heap.objs.size],FpOk X AA H1 b:=λb hb=>by
  have e:b=s1.heap.objs.size:=by simpa using hb
  subst e
  exact I1.fpOk (Nat.le_refl _) (I1.hok.fresh (Nat.le_refl _))
 rcases q1 with⟨⟨xs,hq⟩,q⟩ | ⟨⟨xs,hq⟩,q⟩
 ·obtain⟨its,rv,p,hz⟩:=I1.list hq
  refine wpAny_pyIter_list p.isList ?_
  exact⟨s1.heap.objs.size,[s1.heap.objs.size],_,_,H1,rfl,I1.kept (t':=s1.toks) λb o e=>Heap.get?_push_of_some _ e,tE a _,⟨_,Heap.get?_push_size _ rfl,rfl,rfl⟩,fp1,q⟩
 ·obtain⟨its,rv,p,hz⟩:=I1.tuple hq
  refine wpAny_pyIter_tuple (show s1.heap.IsTuple a its.toArray from p) ?_
  exact⟨s1.heap.objs.size,[s1.heap.objs.size],_,_,H1,rfl,I1.kept (t':=s1.toks) λb o e=>Heap.get?_push_of_some _ e,tF a _,⟨_,Heap.get?_push_size _ rfl,rfl,rfl⟩,fp1,q⟩
def TQ(K:W.Frag)(ta:TE):TE:=λσ H Q=>ta σ H λx H1=>∃ k,F8 K x H1 k/\Q (.bl (!k)) H1
theorem wZ(ha:PE X a ta):PE X (.UnaryOp .Not a pos) (TQ X.K ta):=by
 intro AA s σ H Q I h
 refine UnaryOp_ (AR (ha AA s σ H _ I h) λv s1 hzz=> ?_)
 obtain⟨x,H1,I1,r1,k,t1,q1⟩:=hzz
 exact not_of (AR (cF AA s1 σ H1 x v (λc H2=>c=k/\H2=H1) I1 r1 ⟨k,t1,rfl,rfl⟩) λc s2 ⟨H2,I2,e1,e2⟩=>by
  subst e1;subst e2;exact⟨.bl (!c),_,I2,rfl,q1⟩)
end
def TR(scope outer:Scope)(N cn:List Str)(cap:List Nat):Bool :=
 scope.kind == .function && scope.names.all (λy=>y.2 != .cell) && scope.names.all (λy=>y.2 != .local || scope.names.lookup y.1 == some .local) &&
 scope.names.all (λy=>y.2 != .free || outer.names.lookup y.1 == some .cell || outer.names.lookup y.1 == some .free) && cn.all (λx=>scope.names.lookup x == some .free) && (cap.map (λi=>N[i]?) == cn.map some)
theorem w5{X:Cx}{scope outer:Scope}{N tn cn:List Str}{cap:List Nat}(h1:X.env.scope=outer)(h2:X.N=N)(h:TR scope outer N cn cap=true):KY X scope tn cn cap:=by
 unfold TR at h
 simp only[Bool.and_eq_true,List.all_eq_true,Bool.or_eq_true,bne_iff_ne,beq_iff_eq]at h
 obtain⟨⟨⟨⟨⟨k1,k2⟩,k3⟩,k4⟩,k5⟩,k6⟩:=h
 refine⟨k1,k2,λy hy hl=>(k3 y hy).resolve_left λz=>z hl,λy hy hf=> ?_,k5,by rw[h2];exact k6⟩
 have z:=k4 y hy
 show X.env.scope.names.lookup y.1=_\/X.env.scope.names.lookup y.1=_
 rw[h1]
 rcases z with(z | z) | z
 ·exact absurd hf z
 ·exact .inl z
 ·exact .inr z
structure K6(K:W.Frag)(C:Addr):Prop where
 ga:W.findIn K (.ref C) "__getattribute__"=some (some (.builtin "BaseException.__getattribute__"))
 gt:W.findIn K (.ref C) "__getattr__"=some none
 be:W.mroIn K C (.type "BaseException")=some true
 cl:W.isClsIn K C=true
 ha:W.findIn K (.ref C) "__class__"=some (some (.builtin "object.__class__"))
 hn:W.specialIn K (.builtin "object.__class__") "__get__"=some (some (.builtin "getset_descriptor.__get__"))
 tk:W.takesIn K (.builtin "object.__class__")=some true
 mr:W.mroIn K C (.type "object")=some true
theorem w6{K:W.Frag}{C:Addr}{od:Option Obj}{name:Str}{a g:Value}(hc:(W.clsIn K C).isSome=true)(ha:W.findIn K (.ref C) name=some (some a))(hg:W.specialIn K a "__get__"=some (some g))(ht:W.takesIn K a=some true) :
  W.findObj K C od name=some (.bind g a):=by
 obtain⟨cd,hc⟩:=Option.isSome_iff_exists.mp hc
 unfold W.findObj
 rw[hc,Option.bind_some,ha,Option.bind_some]
 simp[hg,ht]
theorem w8{K:W.Frag}{M:Model}{A:Around}{E:Value->Shared->Prop}{Q:Unit->Shared->Prop}{s:Shared}{x D:Addr}{ox:Obj}{nm:Value}(c:K6 K D)(X:K.In s.heap)(I:W.InstAt s.heap x ox D none)(k:Q () s) :
  wpAny M A (checkBuiltinCall "BaseException.__getattribute__" ⟨[.ref x,nm],[]⟩) Q E s:=by
 have e1:builtinKind "BaseException.__getattribute__"=some .slot:=by decide +kernel
 have e2:splitId "BaseException.__getattribute__"=some ("BaseException","__getattribute__"):=by decide +kernel
 have L:W.Looks M s.heap (isInstance (.ref x) (.type "BaseException")) true:=(I.type (M:=M)).andThen (W.looks_mroIn (M:=M) X c.be)
 have ar:=PySem.F.args_bexc_ga (.ref x) nm
 obtain⟨hh,g,d,t,os⟩:=s
 simp only[checkBuiltinCall,e1,e2]
 refine wpAny_bind (L.at ?_)
 simp only[Bool.not_true,Bool.false_eq_true,if_false]
 cases hs:Manifest.signature? "BaseException.__getattribute__" with
 | none=>exact wpAny_pure k
 | some sig =>
  simp only[argsOk,hs]at ar
  have z:Bind.checkArgs "BaseException.__getattribute__" sig ⟨[.ref x,nm],[]⟩=pure ():=ar
  show wpAny M A (Bind.checkArgs "BaseException.__getattribute__" sig ⟨[.ref x,nm],[]⟩) Q E _
  rw[z];exact wpAny_pure k
theorem w9{K:W.Frag}{prog:Program}{w:World}{A:Around}{E:Value->Shared->Prop}{Q:Option Value->Shared->Prop}{s:Shared}{x D:Addr}{ox:Obj}(c:K6 K D)(X:K.In s.heap)(I:W.InstAt s.heap x ox D none)
  (k:Q (some (.ref D)) { s with toks:=s.toks+1 }):wpAny (model prog w) A (getAttr? (.ref x) "__class__") Q E s:=by
 obtain⟨hh,g,d,t,os⟩:=s
 have L0:=I.type (M:=model prog w)
 have L1:=W.looks_findIn (M:=model prog w) X c.ga
 have L2:=W.looks_findIn (M:=model prog w) X c.gt
 have L3:=W.looks_find (M:=model prog w) X I (w6 (name:="__class__") c.cl c.ha c.hn c.tk)
 unfold getAttr? getAttrBy? getAttrBy
 refine wpAny_bind (wpAny_mkText (wpAny_bind (wpAny_attempt (wpAny_holding (wpAny_bind (L0.at (wpAny_bind (L1.at ?_))))))))
 show wpAny _ _ (getAttrByItsOwn _ _ _ _ _ _) _ _ _
 unfold getAttrByItsOwn
 refine wpAny_bind (L2.at (wpAny_bind (wpAny_attempt (wpAny_holding ?_))))
 show wpAny _ _ (boundAndCalled _ _ _) _ _ _
 unfold boundAndCalled
 rw[PySem.F.attr_ValueError.ga.bind (.ref x)]
 refine wpAny_bind (wpAny_pure (wpAny_call (codeAny_call_builtin PySem.F.attr_ValueError.ga.plain PySem.F.entry_bexc_ga (w8 c X I ?_))))
 refine wpAny_bind (wpAny_pure (wpAny_bind (wpAny_pure (wpAny_bind (L0.at (wpAny_bind (L3.at ?_)))))))
 show wpAny _ _ (holding [_] (call _ _) >>= ret) _ _ _
 refine wpAny_bind (wpAny_holding (wpAny_call (W.class_get (ox:=ox) (od:=none) X I c.mr (wpAny_pure ?_))))
 exact W.handed_on rfl (wpAny_pure k)
theorem xA{K:W.Frag}{x D:Addr}(c:K6 K D):W.KitX K (.ref x) (.ref D) (HG x (.ref D)):=by
 have inst:∀ {h:Heap},HG x (.ref D) h->∃ ox,W.InstAt h x ox D none:=λ{h} ⟨oe,vs,e1,e2,e3,e4⟩=>by
  refine⟨oe,e1,e2,?_,?_⟩
  ·unfold W.notCls;rw[e4]
  ·rw[e3];trivial
 have cls:∃ cd,W.clsIn K D=some cd:=Option.isSome_iff_exists.mp c.cl
 refine⟨λM h _ p=>(inst p).elim λ_ I=>I.type,λM h X p=> ?_,λh tp dd its n sl X htp=> ?_,λ{prog w A E Q s} X p k=> ?_⟩
 ·obtain⟨cd,hc⟩:=cls
  unfold W.clsIn at hc
  split at hc
  ·rename_i c' d' cd' sl' ho
   intro A' Q' E' s' k q
   unfold isType loadHead
   exact wpAny_bind (wpAny_loadPart (k _ _ (X _ _ ho)) (wpAny_pure q))
  ·cases hc
 ·obtain⟨cd,hc⟩:=cls
  refine Bool.eq_false_iff.mpr λq=> ?_
  have e:D=tp:=Value.ref.inj (beq_iff_eq.mp q)
  subst e
  unfold W.clsIn at hc
  split at hc
  ·rename_i c' d' cd' sl' ho
   have z:=(X _ _ ho).symm.trans htp
   cases z
  ·cases hc
 ·obtain⟨ox,I⟩:=inst p
  exact w9 c X I k
def TyX(K:W.Frag)(H:Hp)(x:V)(t:Value):Prop:=F9 K H x t\/∃ a C,x=.ref a/\t=.ref C/\H a=some (.ext (HG a (.ref C)))/\K6 K C
inductive ClsV:V->Value->Prop
 | own (C:Addr):ClsV (.ref C) (.ref C)
 | ty (n:String):ClsV (.ty n) (.type n)
theorem ClsV.rel{y:V}{c u:Value}(h:ClsV y c)(r:RelV y u):u=c:=by
 cases h<;>exact r
theorem eE:∀ {ys:List V} {cs us:List Value},Paired ClsV ys cs->Vals ys us->us=cs
 | _,_,_,.nil,.nil=>rfl
 | _,_,_,.cons h t,.cons r rr=>by rw[h.rel r,eE t rr]
def JR(K:W.Frag):List V->Hp->VK->Prop:=λxs H Q=>∃ x y t b,xs=[x,y]/\TyX K H x t ∧
 ((∃ c,ClsV y c/\W.kitOne K t c=some b)\/∃ p ys cs,y=.ref p/\SqT K H p ys/\Paired ClsV ys cs/\W.kitAny K t cs=some b)/\Q (.bl b) H
section
variable{X:Cx}
theorem TyX.kit{AA:List (Addr × Obj)}{σ:St}{H:Hp}{s:Shared}{x:V}{t u:Value}(I:Inv X AA σ H s)(h:TyX X.K H x t)(r:RelV x u):∃ φ :Heap->Prop,W.KitX X.K u t φ /\ φ s.heap/\u≠.builtin "__main__.__loader__#opaque":=by
 rcases h with h | ⟨a,C,rfl,rfl,e,c⟩
 ·cases h with
  | non=>cases (show u=Value.none from r);exact⟨_,W.kitx_none,trivial,λz=>nomatch z⟩
  | bl y=>cases (show u=Value.bool y from r);exact⟨_,W.kitx_bool,trivial,λz=>nomatch z⟩
  | int i=>obtain⟨t,q⟩:=(show ∃ t,u=Value.int i t from r);cases q;exact⟨_,W.kitx_int,trivial,λz=>nomatch z⟩
  | str y=>obtain⟨t,q⟩:=(show ∃ t,u=Value.str y t from r);cases q;exact⟨_,W.kitx_str,trivial,λz=>nomatch z⟩
  | flt y=>obtain⟨t,q⟩:=(show ∃ t,u=Value.float y t from r);cases q;exact⟨_,W.kitx_float,trivial,λz=>nomatch z⟩
  | @lst a xs ea =>
   cases (show u=Value.ref a from r)
   obtain⟨_,_,n,_,h1⟩:=(show ObjOk X.prog X.w H s.heap a (.lst xs)from I.hok a _ ea)
   exact⟨_,W.kitx_list,⟨_,h1,rfl⟩,λz=>nomatch z⟩
  | @frz a ob xs ea =>
   cases (show u=Value.ref a from r)
   obtain⟨_,_,_,n,_,h1⟩:=(show ObjOk X.prog X.w H s.heap a (.frz ob (.lst xs))from I.hok a _ ea)
   exact⟨_,W.kitx_list,⟨_,h1,rfl⟩,λz=>nomatch z⟩
  | @tup a xs ea =>
   cases (show u=Value.ref a from r)
   obtain⟨_,_,_,p⟩:=(show ObjOk X.prog X.w H s.heap a (.tup xs)from I.hok a _ ea)
   obtain⟨o,h1,h2,_⟩:=p
   exact⟨_,W.kitx_tuple,⟨o,h1,h2⟩,λz=>nomatch z⟩
  | @dK a AD ea =>
   cases (show u=Value.ref a from r)
   obtain⟨_,_,vs,_,p⟩:=(show ObjOk X.prog X.w H s.heap a (.dK AD)from I.hok a _ ea)
   obtain⟨o,es,ep,h1,h2,_⟩:=p
   exact⟨_,W.kitx_dict,⟨o,h1,h2.1⟩,λz=>nomatch z⟩
  | @dT a AD ea =>
   cases (show u=Value.ref a from r)
   obtain⟨_,_,xs,_,o,es,ep,h1,h2,_⟩:=(show ObjOk X.prog X.w H s.heap a (.dT AD)from I.hok a _ ea)
   exact⟨_,W.kitx_dict,⟨o,h1,h2.1⟩,λz=>nomatch z⟩
  | @ins a C dx fs ea cl ha hn htk hm =>
   cases (show u=Value.ref a from r)
   obtain⟨mA,O,_⟩:=OR I.hok ea
   obtain⟨od,J,_⟩:=O.look
   exact⟨_,W.kitx_own (cl.get _) cl.hd ha hn htk hm,J,λz=>nomatch z⟩
 ·cases (show u=Value.ref a from r)
  have p:HG a (.ref C) s.heap:=(show ObjOk X.prog X.w H s.heap a (.ext (HG a (.ref C)))from I.hok a _ e).1
  exact⟨_,xA c,p,λz=>nomatch z⟩
theorem O3:CallR X (.builtin "isinstance") (JR X.K):=by
 intro AA s σ H xs us Q I r h
 obtain⟨x,y,t,b,rfl,ty,hc,q⟩:=h
 obtain⟨u,v,rfl,rx,ry⟩:=Vals.two r
 obtain⟨φ,Z,p,ne⟩:=ty.kit I rx
 rcases hc with⟨c,hy,e⟩ | ⟨pt,ys,cs,rfl,hs,hcs,e⟩
 ·have:=hy.rel ry
  subst this
  exact W.kia_one Z I.kIn p e ne λtk=>⟨.bl b,H,I.tok tk,rfl,q⟩
 ·cases (show v=Value.ref pt from ry)
  obtain⟨its,rv,⟨⟨c1,c2,c3,c4⟩,e1,e2,n,e3⟩,_⟩:=I.tuple hs
  obtain rfl:c1=_:=e2
  obtain rfl:c3=_:=e3
  have:=eE hcs rv
  subst this
  exact W.kia_tup Z I.kIn p e1 e ne λtk=>⟨.bl b,H,I.tok tk,rfl,q⟩
end
end L2
namespace L2
def FA(J:It)(g:TG)(tt:TT)(te:TE)(k:Nat)(cap:List Nat)(σ:St)(H1:Hp)(Q:VK):Prop :=
 ∃ W:Nat->Nat->St->List V->Hp->Prop,(∃ m,W 0 m (IE k cap σ) [] H1)/\∀ i m σ' ys H,W i m σ' ys H →
  (J.stop i H/\∀ p,H p=none->Q (.ref p) (upd H p (.lst ys))) ∨
  (J.go i H/\ys.length<sizeLine/\∀ x H',J.yld i H x H'->g x σ' H' λσ2 H2=>tt σ2 H2 λb H3 =>
   if b=true then ∃ N:VK,(∀ y H4,N y H4->∃ m',m'<m/\W (i+1) m' σ2 (ys++[y]) H4)/\te σ2 H3 N else ∃ m',m'<m/\W (i+1) m' σ2 ys H3)
def HH(J:It)(g:TG)(tb:TS)(D:Ends)(σ:St)(H1:Hp):Prop :=
 ∃ W:Nat->Nat->St->Hp->Prop,(∃ m,W 0 m σ H1)/\∀ i m σ H,W i m σ H →
  (J.stop i H/\D.nx σ H)\/(J.go i H/\∃ N:St->Hp->Prop,(∀ σ' H',N σ' H'->∃ m',m'<m/\W (i+1) m' σ' H')/\∀ x H',J.yld i H x H'->g x σ H' λσ2 H2=>tb { D with nx:=N,ct:=N,bk:=D.nx } σ2 H2)
section
variable{K:W.Frag}{ta tb tc to ti tv tl:TE}{tt tA tB' tu:TT}{s1 s2:TS}{r r':R2}{σ:St}{H:Hp}{Q:VK}{D:Ends}{QB:Bool->Hp->Prop}{as:TA}{g:TG}{gs:IS}{te:TE}{k i:Nat}{cap:List Nat}{f m:Str}{C:Addr}{sp:Sp}{C0:List V}{E:St->XK}{v:V}{vs:List V}{QA:List V->Hp->Prop}{QG:St->Hp->Prop}{QO:Option Int->Hp->Prop}
theorem xB:AK s1 s2 D σ H=(s1 { D with nx:=s2 D } σ H):=rfl
theorem xC:B8 D σ H=(D.nx σ H):=rfl
theorem xD:sV D σ H=(D.bk σ H):=rfl
theorem xE:sW D σ H=(D.ct σ H):=rfl
theorem xF:A5 ta g D σ H=(ta σ H λx H1=>g x σ H1 D.nx):=rfl
theorem xG:DH ta D σ H=(ta σ H λ_ H1=>D.nx σ H1):=rfl
theorem xH:A6 ta D σ H=(ta σ H D.rt):=rfl
theorem xI:sX D σ H=(D.rt .non H):=rfl
theorem xJ:BQ tt s1 s2 D σ H=(tt σ H λb H1=>if b=true then s1 D σ H1 else s2 D σ H1):=rfl
theorem xK:tC v σ H Q=(Q v H):=rfl
theorem xL:AF r ta tb σ H Q=(ta σ H λx H1=>tb σ H1 λy H2=>r x y H2 Q):=rfl
theorem xM:BU ta σ H QB=(ta σ H λx H'=>∃ k,x=.bl k/\QB k H'):=rfl
theorem xN:FX r r' ta tb tc σ H Q=(ta σ H λx H1=>tb σ H1 λy H2=>r x y H2 λz H3=>∃ k,z=.bl k/\(if k=true then tc σ H3 λw' H4=>r' y w' H4 Q else Q (.bl false) H3)):=rfl
theorem xO:F6 tt σ H QB=(tt σ H λc H1=>QB (!c) H1):=rfl
theorem xP:KJ tt tu σ H QB=(tt σ H λc H1=>if c=true then tu σ H1 QB else QB false H1):=rfl
theorem xQ:MD tt tu σ H QB=(tt σ H λc H1=>if c=true then QB true H1 else tu σ H1 QB):=rfl
theorem xR:JN ta tb σ H Q=(ta σ H λx H1=>∃ c,x=.bl c/\if c=true then tb σ H1 Q else Q (.bl false) H1):=rfl
theorem xS:R7 ta tb σ H Q=(ta σ H λx H1=>∃ c,x=.bl c/\if c=true then Q (.bl true) H1 else tb σ H1 Q):=rfl
theorem xT:TQ K ta σ H Q=(ta σ H λx H1=>∃ k,F8 K x H1 k/\Q (.bl (!k)) H1):=rfl
theorem xU:K2 K ta σ H QB=(ta σ H λx H'=>∃ k,F8 K x H' k/\QB k H'):=rfl
theorem xV:OF tt ta tb σ H Q=(tt σ H λc H1=>if c=true then ta σ H1 Q else tb σ H1 Q):=rfl
theorem xW:BZ σ H QA=(QA [] H):=rfl
theorem xX:BJ ta as σ H QA=(ta σ H λx H1=>as σ H1 λxs H2=>QA (x::xs) H2):=rfl
theorem xY:EK as σ H Q=(as σ H λxs H1=>xs.length<=sizeLine/\∀ p,H1 p=none->Q (.ref p) (upd H1 p (.tup xs))):=rfl
theorem xZ:C6 as σ H Q=(as σ H λxs H1=>xs.length<=sizeLine/\∀ p,H1 p=none->Q (.ref p) (upd H1 p (.lst xs))):=rfl
theorem x4:C2 sp C0 E as σ H Q=(as σ H λvs H1=>sp (vs++C0) H1 Q (E σ)):=rfl
theorem x5:AV C m sp C0 E ta as σ H Q=(ta σ H λx H1=>∃ a dx fs,x=.ref a/\H1 a=some (.ins C dx fs)/\fs.lookup m=none/\as σ H1 λvs H2=>sp (x::(vs++C0)) H2 Q (E σ)):=rfl
theorem x6:GU C sp C0 E as σ H Q=(as σ H λvs H1=>∀ x dx,H1 x=none->H1 dx=none->dx≠x->sp (.ref x::(vs++C0)) (upd (upd H1 dx (.own x)) x (.ins C dx [])) (λv H2=>v=.non/\Q (.ref x) H2) (E σ)):=rfl
theorem x8:AX K ta f σ H Q=(ta σ H λx H1=>∃ a C dx fs v,x=.ref a/\H1 a=some (.ins C dx fs)/\Cls K C/\NoAttr K C f/\fs.lookup f=some v/\Q v H1):=rfl
theorem x9:DI K ta tv f D σ H=(tv σ H λy H1=>ta σ H1 λx H2=>∃ a C dx fs,x=.ref a/\H2 a=some (.ins C dx fs)/\Cls K C/\NoAttr K C f/\fs.length<1000/\D.nx σ (upd H2 a (.ins C dx (AZ f y fs)))):=rfl
theorem yA{ru:V->Hp->VK->Prop}:OP ru ta σ H Q=ta σ H λx H1=>ru x H1 Q:=rfl
theorem yB{rc:List V->Hp->VK->Prop}:BO rc as σ H Q=as σ H λvs H1=>rc vs H1 Q:=rfl
theorem yC:FH C E as D σ H=(as σ H λvs H1=>vs.length<=sizeLine/\E σ (.ref C) none H1):=rfl
theorem yD{sb:(St->XK)->TS}{th:TH}:TC sb th D σ H=sb (λσ' cls _ H'=>th cls D σ' H') D σ H:=rfl
theorem yE:AQ i v σ H QG=(QG (σ.set i (some v)) H):=rfl
theorem yF{rs:OH}:OM to ti rs v σ H QG=to σ H λo H1=>ti σ H1 λi H2=>rs o i v H2 λH3=>QG σ H3:=rfl
theorem yG:OL K k gs v σ H QG=(∃ a xs,v=.ref a/\SqT K H a xs/\xs.length=k/\gs xs σ H QG):=rfl
theorem yH:OJ vs σ H QG=((vs=[]/\QG σ H)):=rfl
theorem yI:KK g gs vs σ H QG=(∃ v r,vs=v::r/\g v σ H λσ' H'=>gs r σ' H' QG):=rfl
theorem yJ{rs:V->Option Int->Option Int->Hp->VK->Prop}{ol oh:TO}:KO rs ta ol oh σ H Q=ta σ H λx H1=>ol σ H1 λl H2=>oh σ H2 λu H3=>rs x l u H3 Q:=rfl
theorem yK:KM σ H QO=(QO none H):=rfl
theorem yL:KN ta σ H QO=(ta σ H λx H1=>∃ i,x=.int i/\QO (some i) H1):=rfl
theorem yM{T:String}{rm:V->List V->Hp->VK->Prop}:GE K T rm ta as σ H Q=ta σ H λx H1=>MM K T x H1/\as σ H1 λxs H2=>rm x xs H2 Q:=rfl
theorem yN{T:String}{rm:V->List V->Hp->VK->Prop}:vE K T rm ta σ H Q=ta σ H λx H1=>MM K T x H1/\rm x [] H1 Q:=rfl
theorem yO{tip:OI}:tD i ta tip D σ H=∃ x,σ[i]? =some (some x)/\ta σ H λy H1=>tip x y H1 λz H2=>D.nx (σ.set i (some z)) H2:=rfl
theorem yP:C7 σ H QB=(QB true H):=rfl
theorem yQ:DM (F7 as) g tt te k cap σ H Q=(as σ H λvs H1=>∃ j:Int,vs=[.int j]/\ -(2 ^ 62)<=j/\j<2 ^ 62/\FA (E7 0 j.toNat) g tt te k cap σ H1 Q):=rfl
theorem yR:DM (bW as) g tt te k cap σ H Q=(as σ H λvs H1=>∃ i j:Int,vs=[.int i,.int j]/\(-(2 ^ 62)<=i/\i<2 ^ 62/\ -(2 ^ 62)<=j/\j<2 ^ 62)/\FA (E7 i (j - i).toNat) g tt te k cap σ H1 Q):=rfl
theorem yS:DM (FJ K tl) g tt te k cap σ H Q=(tl σ H λx H1=>∃ a,x=.ref a/\(((∃ xs,SqL K H1 a xs)/\FA (HA K a) g tt te k cap σ H1 Q)\/((∃ xs,SqT K H1 a xs)/\FA (H0 K a) g tt te k cap σ H1 Q))):=rfl
theorem yT:EI (F7 as) g s1 D σ H=(as σ H λvs H1=>∃ j:Int,vs=[.int j]/\ -(2 ^ 62)<=j/\j<2 ^ 62/\HH (E7 0 j.toNat) g s1 D σ H1):=rfl
theorem yU:EI (bW as) g s1 D σ H=(as σ H λvs H1=>∃ i j:Int,vs=[.int i,.int j]/\(-(2 ^ 62)<=i/\i<2 ^ 62/\ -(2 ^ 62)<=j/\j<2 ^ 62)/\HH (E7 i (j - i).toNat) g s1 D σ H1):=rfl
theorem yV:EI (FJ K tl) g s1 D σ H=(tl σ H λx H1=>∃ a,x=.ref a/\(((∃ xs,SqL K H1 a xs)/\HH (HA K a) g s1 D σ H1)\/((∃ xs,SqT K H1 a xs)/\HH (H0 K a) g s1 D σ H1))):=rfl
theorem yW{rd:V->V->Hp->VK->Prop}:SI K ta tv rd f D σ H=(ta σ H λx H1=>∃ a C dx fs v,x=.ref a/\H1 a=some (.ins C dx fs)/\Cls K C/\NoAttr K C f/\fs.lookup f=some v/\tv σ H1 λy H2=>rd v y H2 λz H3=>∃ dx' fs',H3 a=some (.ins C dx' fs')/\fs'.length<1000/\D.nx σ (upd H3 a (.ins C dx' (AZ f z fs')))):=rfl
end
end L2
namespace L2
section
variable{K:W.Frag}{σ:St}{H:Hp}{Q:VK}{P:Bool->Prop}{PI':Int->Prop}{PV:V->Prop}{QB:Bool->Hp->Prop}{v:V}{x:Option V}{i j:Int}{n:Nat}{b b':Bool}{s s':Str}{p q:Addr}{f:Int->Int->V}{C:Int->Int->Prop}
def EN(i:Nat):TE:=λσ H Q=>match σ[i]? with
 | some (some v)=>Q v H
 | _=>False
theorem yX:EN 0 (some v::σ) H Q=Q v H:=rfl
theorem yY:EN (n+1) (x::σ) H Q=EN n σ H Q:=rfl
theorem yZ(i:Nat):EN i=R4 i:=by
 funext σ H Q
 unfold EN R4
 cases σ[i]? with
 | none=>simp
 | some o=>cases o<;>simp
theorem y3{P:Bool->Prop}:(∃ k,V.bl b=V.bl k/\P k)=P b:=by simp
theorem y4{P:Int->Prop}:(∃ k,V.int i=V.int k/\P k)=P i:=by simp
theorem zA{P:Addr->Prop}:(∃ k,V.ref p=V.ref k/\P k)=P p:=by simp
theorem zB{P:Bool->Prop}:(∃ k,F8 K (.bl b) H k/\P k)=P b:=by simp[F8]
theorem zC{P:Bool->Prop}:(∃ k,F8 K (.int i) H k/\P k)=P (i != 0):=by simp[F8]
theorem zD{P:Bool->Prop}:(∃ k,F8 K .non H k/\P k)=P false:=by simp[F8]
theorem zE:BB K (.int i) (.int j) H Q=Q (.int (i+j)) H:=rfl
theorem zF:BB K (.str s) (.str s') H Q=(s.length+s'.length<=sizeLine/\Q (.str (s++s')) H):=rfl
theorem eF:BB K (.ref p) (.ref q) H Q=(OY (.ref p) (.ref q) H Q\/SK K (.ref p) (.ref q) H Q\/TD K (.ref p) (.ref q) H Q):=rfl
theorem zG{x y:Str}:D1 (.str x) (.str y) H Q=Q (.bl (!decide (y.cps.toList<x.cps.toList))) H:=rfl
theorem zH{x y:Str}:IH (.str x) (.str y) H Q=Q (.bl (decide (x.cps.toList<y.cps.toList))) H:=rfl
theorem zI{x:Str}{lo hi:Option Int}:K3 K (.str x) lo hi H Q=(x.length<=sizeLine/\Q (.str (Txt.slice x lo hi)) H):=rfl
theorem zJ:F1 K (.int i) (.int j) H Q=(CMul i j/\Q (.int (i * j)) H):=rfl
theorem zK{z:Str}{j:Int}:F1 K (.str z) (.int j) H Q=(0<=j/\j<=1000/\z.length<=1000/\Q (.str (KZ z j)) H):=rfl
theorem zL:F1 K (.ref p) (.int j) H Q=(SR (.ref p) (.int j) H Q\/TF K (.ref p) (.int j) H Q):=rfl
theorem zM:HB f (.int i) (.int j) H Q=Q (f i j) H:=by simp[HB]
theorem zN:rI C f (.int i) (.int j) H Q=(C i j/\Q (f i j) H):=by simp[rI]
theorem zO{g:Int->V}:rU g (.int i) H Q=Q (g i) H:=by simp[rU]
theorem zP:IH (.int i) (.int j) H Q=Q (.bl (decide (i<j))) H:=rfl
theorem zQ:D1 (.int i) (.int j) H Q=Q (.bl (decide (i<=j))) H:=rfl
theorem zR:K0 (.int i) (.int j) H Q=Q (.bl (decide (j<i))) H:=rfl
theorem zS:wW (.int i) (.int j) H Q=Q (.bl (decide (j<=i))) H:=rfl
theorem zT:CC K (.int i) (.int j) H Q=Q (.bl (decide (i=j))) H:=by simp[CC,EJ]
theorem zU:CC K (.str s) (.str s') H Q=Q (.bl (decide (s=s'))) H:=by simp[CC,EJ]
theorem zV:CC K (.bl b) (.bl b') H Q=Q (.bl (decide (b=b'))) H:=by simp[CC,EJ]
theorem zW:CC K .non (.int j) H Q=Q (.bl false) H:=by simp[CC,EJ]
theorem zX:CC K (.int j) .non H Q=Q (.bl false) H:=by simp[CC,EJ]
theorem zY:CC K .non .non H Q=Q (.bl true) H:=by simp[CC,EJ]
theorem zZ:DE K (.int i) (.int j) H Q=Q (.bl (!decide (i=j))) H:=by simp[DE,EJ]
theorem z6:DE K (.str s) (.str s') H Q=Q (.bl (!decide (s=s'))) H:=by simp[DE,EJ]
theorem z7:DE K (.bl b) (.bl b') H Q=Q (.bl (!decide (b=b'))) H:=by simp[DE,EJ]
theorem z8:DE K .non (.int j) H Q=Q (.bl true) H:=by simp[DE,EJ]
theorem z9:DE K (.int j) .non H Q=Q (.bl true) H:=by simp[DE,EJ]
theorem Ab:DE K .non .non H Q=Q (.bl false) H:=by simp[DE,EJ]
theorem Ac:K1 v .non H Q=Q (.bl (decide (v=.non))) H:=by simp[K1]
theorem Ag:MU v .non H Q=Q (.bl (!decide (v=.non))) H:=by simp[MU]
theorem Ah{g:Int->Int->Int}:R9 g (.int i) (.int j) H Q=Q (.int (g i j)) H:=by simp[R9]
theorem Aj:OT (.int i) (.int j) H Q=Q (.int (i+j)) H:=by simp[OT]
theorem Ak:EM K [v] H Q=∃ n:Nat,SG K v H n/\Q (.int n) H:=by simp[EM]
theorem Al:II K [.bl b] H Q=Q (.int (if b then 1 else 0)) H:=by simp[II]
theorem Am:II K [.int i] H Q=Q (.int i) H:=by simp[II]
theorem eG:K4 K [.ref p] H Q=∃ ys,(SqL K H p ys\/SqT K H p ys)/\∀ l,H l=none->Q (.ref l) (upd H l (.lst ys)):=by simp[K4]
theorem Ap:K5 K [.ref p] H Q=∃ ys,((SqL K H p ys/\∀ l,H l=none->Q (.ref l) (upd H l (.tup ys)))\/(SqT K H p ys/\Q (.ref p) H)):=by simp[K5]
end
theorem AB{X:Cx}(i:Nat){x:Str}{pos:Pos}(hN:X.N[i]? =some x:=by rfl)(hv:R1 X.env.scope x:=by first | exact Or.inl rfl | exact Or.inr (Or.inl rfl) | exact Or.inr (Or.inr rfl))(hd:(x ==("__debug__":Str))=false:=by decide)
  (GQ:(x ==("__classdict__":Str))=false:=by decide):PE X (.Name x pos) (EN i):=by
 rw[yZ]
 exact sP hN hv hd GQ
end L2
namespace L2
abbrev A9(Q:VK):Ends:={ nx:=λ_ H'=>Q .non H',rt:=Q }
abbrev EO(cap:List Nat)(σ:St):St:=cap.map λi=>(σ[i]?).join
section
variable{K:W.Frag}{te:TE}{cap:List Nat}{σ:St}{H:Hp}{Q:VK}
theorem MX{lo:Int}{n:Nat}(hn:n<=sizeLine)(Pv:Nat->List V->Hp->Prop)(h0:Pv 0 [] H)(hs:∀ i ys H,i<n->ys.length=i->Pv i ys H->te (some (.int (lo+i))::EO cap σ) H λy H2=>Pv (i+1) (ys++[y]) H2)
  (hd:∀ ys H,ys.length=n->Pv n ys H->∀ p,H p=none->Q (.ref p) (upd H p (.lst ys))) :
  FA (E7 lo n) (AQ 0) C7 te 1 cap σ H Q:=by
 refine⟨λi m σ' ys H=>m=n - i/\i<=n/\ys.length=i/\(∃ x0,σ'=x0::EO cap σ)/\Pv i ys H,⟨n,by simp,Nat.zero_le _,rfl,⟨none,rfl⟩,h0⟩,?_⟩
 rintro i m σ' ys H ⟨rfl,hi,hl,⟨x0,rfl⟩,p⟩
 by_cases BD:i<n
 ·refine .inr ⟨BD,by omega,λx H' y=> ?_⟩
  obtain⟨e,y⟩:=y
  subst e y
  simp only[AQ,C7,if_true]
  refine⟨_,λy H4 q=>⟨n - (i+1),by omega,rfl,BD,?_,⟨_,rfl⟩,q⟩,hs i ys _ BD hl p⟩
  rw[List.length_append,List.length_singleton,hl]
 ·have e:i=n:=by omega
  subst e
  exact .inl ⟨Nat.le_refl _,hd ys H hl p⟩
theorem Aq{b:Addr}{xs:List V}(hn:xs.length<=sizeLine)(Pv:Nat->List V->Hp->Prop)(h0:Pv 0 [] H)(hq:∀ i ys H,i<=xs.length->Pv i ys H->SqL K H b xs)
  (hs:∀ i x ys H,xs[i]? =some x->ys.length=i->Pv i ys H->te (some x::EO cap σ) H λy H2=>Pv (i+1) (ys++[y]) H2)
  (hd:∀ ys H,ys.length=xs.length->Pv xs.length ys H->∀ p,H p=none->Q (.ref p) (upd H p (.lst ys))) :
  FA (HA K b) (AQ 0) C7 te 1 cap σ H Q:=by
 refine⟨λi m σ' ys H=>m=xs.length - i/\i<=xs.length/\ys.length=i/\(∃ x0,σ'=x0::EO cap σ)/\Pv i ys H,⟨xs.length,by simp,Nat.zero_le _,rfl,⟨none,rfl⟩,h0⟩,?_⟩
 rintro i m σ' ys H ⟨rfl,hi,hl,⟨x0,rfl⟩,p⟩
 have q:=hq i ys H hi p
 by_cases BD:i<xs.length
 ·refine .inr ⟨⟨xs,xs[i],q,by simp[BD]⟩,by omega,λx H' y=> ?_⟩
  obtain⟨e,y⟩:=y
  subst e
  have hx:=y xs q
  simp only[AQ,C7,if_true]
  refine⟨_,λy H4 q=>⟨xs.length - (i+1),by omega,rfl,BD,?_,⟨_,rfl⟩,q⟩,hs i x ys _ hx hl p⟩
  rw[List.length_append,List.length_singleton,hl]
 ·have e:i=xs.length:=by omega
  subst e
  exact .inl ⟨⟨xs,q,Nat.le_refl _⟩,hd ys H hl p⟩
theorem Av{lo:Int}{n:Nat}(hn:n<=sizeLine)(f:Nat->V)(hs:∀ i,i<n->∀ Q':VK,Q' (f i) H->te (some (.int (lo+i))::EO cap σ) H Q')
  (hd:∀ p,H p=none->Q (.ref p) (upd H p (.lst ((List.range n).map f)))) :
  FA (E7 lo n) (AQ 0) C7 te 1 cap σ H Q:=by
 refine MX hn (λi ys H'=>H'=H/\ys=(List.range i).map f) ⟨rfl,rfl⟩ (λi ys H' hi hl ⟨e1,e2⟩=> ?_) (λys H' hl ⟨e1,e2⟩=> ?_)
 ·subst e1
  refine hs i hi _ ⟨rfl,?_⟩
  rw[e2,List.range_succ,List.map_append];rfl
 ·subst e1;subst e2;exact hd
theorem MY{b:Addr}{xs:List V}{g:TG}{tb:TS}{D:Ends}(Pv:Nat->St->Hp->Prop)(h0:Pv 0 σ H)(hl:∀ i σ H,i<=xs.length->Pv i σ H->SqL K H b xs)
  (hs:∀ i x σ H,xs[i]? =some x->Pv i σ H->g x σ H λσ2 H2=>tb { D with nx:=Pv (i+1),ct:=Pv (i+1),bk:=D.nx } σ2 H2) (hd:∀ σ H,Pv xs.length σ H->D.nx σ H):HH (HA K b) g tb D σ H:=tJ Pv h0 hl hs hd
theorem eI{b:Addr}{xs:List V}{g:TG}{tb:TS}{D:Ends}(Pv:Nat->St->Hp->Prop)(h0:Pv 0 σ H)(hl:∀ i σ H,i<=xs.length->Pv i σ H->SqT K H b xs)
  (hs:∀ i x σ H,xs[i]? =some x->Pv i σ H->g x σ H λσ2 H2=>tb { D with nx:=Pv (i+1),ct:=Pv (i+1),bk:=D.nx } σ2 H2) (hd:∀ σ H,Pv xs.length σ H->D.nx σ H):HH (H0 K b) g tb D σ H:=tK Pv h0 hl hs hd
theorem eJ{lo:Int}{n:Nat}{g:TG}{tb:TS}{D:Ends}(Pv:Nat->St->Hp->Prop)(h0:Pv 0 σ H)
  (hs:∀ i σ H,i<n->Pv i σ H->g (.int (lo+i)) σ H λσ2 H2=>tb { D with nx:=Pv (i+1),ct:=Pv (i+1),bk:=D.nx } σ2 H2) (hd:∀ σ H,Pv n σ H->D.nx σ H):HH (E7 lo n) g tb D σ H:=tL Pv h0 hs hd
end
theorem K7{K:W.Frag}{H:Hp}{x y:V}{t c:Value}{b:Bool}{Q:VK}(ty:TyX K H x t)(cv:ClsV y c)(k:W.kitOne K t c=some b)(q:Q (.bl b) H):JR K [x,y] H Q:=⟨x,y,t,b,rfl,ty,.inl ⟨c,cv,k⟩,q⟩
theorem eK{K:W.Frag}{H:Hp}{x:V}{p:Addr}{ys:List V}{cs:List Value}{t:Value}{b:Bool}{Q:VK}(ty:TyX K H x t)(hs:SqT K H p ys)(hc:Paired ClsV ys cs)(k:W.kitAny K t cs=some b)(q:Q (.bl b) H):JR K [x,.ref p] H Q:=⟨x,.ref p,t,b,rfl,ty,.inr ⟨p,ys,cs,rfl,hs,hc,k⟩,q⟩
theorem AT{H:Hp}{p:Addr}{o:HO}(h:H p=none):Same H (upd H p o):=λb u e=>by rw[AG (BL e h)];exact e
theorem MZ{α β :Type}{F: α -> β ->Prop}:∀ {l:List α} {m:List β} {i:Nat} {y: β},Paired F l m->m[i]? =some y->∃ x,l[i]? =some x/\F x y
 | _,_,_,_,.nil,e=>by simp at e
 | _,_,0,_,.cons r _,e=>by simp at e;subst e;exact⟨_,rfl,r⟩
 | _,_,i+1,y,.cons _ t,e=>by
  obtain⟨u,h1,h2⟩:=MZ (i:=i) (y:=y) t (by simpa using e)
  exact⟨u,by simpa using h1,h2⟩
theorem eL{α β :Type}{F: α -> β ->Prop}{x: α}{y: β}(r:F x y):∀ {l:List α} {m:List β} (i:Nat),Paired F l m->Paired F (l.set i x) (m.set i y)
 | _,_,_,.nil=>.nil
 | _,_,0,.cons _ t=>.cons r t
 | _,_,i+1,.cons q t=>.cons q (eL r i t)
theorem DF{K:W.Frag}{H:Hp}{p:Addr}{xs:List V}{i:Int}{n:Nat}{v:V}{Q:VK}(h:SqL K H p xs)(hi:i=n)(hx:xs[n]? =some v)(q:Q v H):CQ K (.ref p) (.int i) H Q :=
 .inl ⟨p,xs,i,v,rfl,rfl,h,hi ▸ SN hx,q⟩
theorem B7(n:Nat)(h:n<=100000):n<=sizeLine:=Nat.le_trans h (by decide)
theorem eO{α :Type}(x: α):∀ w:Nat,(List.replicate w [x]).flatten=List.replicate w x
 | 0=>rfl
 | w+1=>by rw[List.replicate_succ,List.flatten_cons,eO x w];rfl
theorem IJ{f:Str}{v:V}{fs:List (Str × V)}{n:Nat}(h:fs.length+1<n):(AZ f v fs).length<n:=Nat.lt_of_le_of_lt (ML f v fs) h
theorem Aw{d:PyData}(h:shp d):PyData.eqv d d=true:=PySem.SeqAt.eqv_refl d (PySem.SeqAt.canLay_of_shaped h)
def vD:V->PyData
 | .bl b=>.bool b
 | .int i=>.int i
 | .str x=>.str x
 | _=>.none
def K8:V->Bool
 | .non=>true
 | .bl _=>true
 | .int _=>true
 | .str x=>PyData.strOk x
 | _=>false
theorem Ax{K:W.Frag}{H:Hp}{v:V}(h:K8 v=true):Rep K H v (vD v):=by
 cases v<;>first | exact .non | exact .bl _ | exact .int _ | exact .str _ | cases h
theorem TU{K:W.Frag}{H:Hp}:∀ {vs:List V},(∀ v∈vs,K8 v=true)->RepAll K H vs (vs.map vD)
 | [],_=>.nil
 | v::r,h=>.cons (Ax (h v List.mem_cons_self)) (TU λx hx=>h x (List.mem_cons_of_mem _ hx))
theorem Ay{v:V}(h:K8 v=true):(vD v).canLay0=true/\(vD v).depth=0:=by
 cases v<;>first | exact⟨rfl,rfl⟩ | exact⟨h,rfl⟩ | cases h
theorem eQ:∀ {vs:List V},(∀ v∈vs,K8 v=true)->PyData.canLayAll0 (vs.map vD)=true/\PyData.depthAll (vs.map vD)=0
 | [],_=>⟨rfl,rfl⟩
 | v::r,h=>by
  obtain⟨a,b⟩:=Ay (h v List.mem_cons_self)
  obtain⟨c,d⟩:=eQ λx hx=>h x (List.mem_cons_of_mem _ hx)
  simp[PyData.canLayAll0,PyData.depthAll,a,b,c,d]
theorem TV{vs:List V}(h:∀ v∈vs,K8 v=true):shp (.list (vs.map vD)):=by
 obtain⟨c,d⟩:=eQ h
 unfold shp PySem.SeqAt.shaped
 simp[PyData.canLay0,PyData.depth,c,d]
theorem Az{K:W.Frag}{H:Hp}{p q:Addr}{xs:List V}{Q:VK}(h1:SqL K H p xs)(h2:SqL K H q xs)(hf:∀ v∈xs,K8 v=true)(hq:Q (.bl false) H):DE K (.ref p) (.ref q) H Q:=by
 unfold DE
 rw[if_neg (by simp[EJ])]
 refine⟨_,_,.lst h1 (TU hf),.lst h2 (TU hf),TV hf,TV hf,?_⟩
 rw[Aw (TV hf)]
 exact hq
end L2
namespace L2
def ItK(k:Bool)(h:Heap)(j a:Addr)(i:Nat):Prop:=if k then h.IsListIter j a i else h.IsTupleIter j a i
def SeqK(k:Bool)(h:Heap)(a:Addr)(xs:Array Value):Prop:=if k then h.IsList a xs else h.IsTuple a xs
theorem ItK.up{k:Bool}{h h':Heap}{j a:Addr}{i:Nat}(x:ItK k h j a i)(q:∀ o,h.get? j=some o->h'.get? j=some o):ItK k h' j a i:=by
 cases k<;>exact(let ⟨o,e,r⟩:=x;⟨o,q o e,r⟩)
theorem SeqK.up{k:Bool}{h h':Heap}{a:Addr}{xs:Array Value}(x:SeqK k h a xs)(q:∀ o,h.get? a=some o->h'.get? a=some o):SeqK k h' a xs:=by
 cases k<;>exact(let ⟨o,e,r⟩:=x;⟨o,q o e,r⟩)
theorem ItK.ob{k:Bool}{h:Heap}{j a:Addr}{i:Nat}(x:ItK k h j a i):∃ o,h.get? j=some o/\o.data=.fields #[.ref a,.int i 0]:=by
 cases k<;>exact(let ⟨o,e,_,r⟩:=x;⟨o,e,r⟩)
section
variable{P:Program}{w:World}{A:Around}{E:Value->Shared->Prop}{s:Shared}
theorem Bb{j t:Addr}{i:Nat}{its:Array Value}{Q:Value->Shared->Prop}(z:A.handled=none)(c:s.heap.IsTupleIter j t i)(d:s.heap.IsTuple t its)(e:its[i]? =none)
  (q:∀ h' x,Heap.ExtBut j s.heap h'->(∃ o,h'.get? x=some o/\o.cls=.type "StopIteration")->E (.ref x) { s with heap:=h' }):wpAny (model P w) A (Builtin.SmallTypes.nextOf (.ref j)) Q E s:=by
 obtain⟨oj,e1,e2,e3⟩:=id c
 obtain⟨ot,f1,_,n,f2⟩:=d
 unfold Builtin.SmallTypes.nextOf
 refine wpAny_bind (wpAny_callSpecial?_slot (name:=Str.ofString "__next__") c.typeIs F.slot_tuple_iterator_next (wpAny_call_entry F.slot_tuple_iterator_next c.typeIs F.entry_tuple_iterator_next ?_ (F.args_tuple_iterator_next_1 _)))
 show wpAny (model P w) _ (field (.ref j) 0 >>= _) _ _ s
 refine wpAny_bind (wpAny_field e1 e3 (x:=.ref t) rfl ?_)
 show wpAny (model P w) _ (field (.ref j) 1 >>= _) _ _ s
 refine wpAny_bind (wpAny_field e1 e3 (x:=.int i 0) rfl ?_)
 show wpAny (model P w) _ (seqItems? (.ref t) >>= _) _ _ s
 refine wpAny_bind (wpAny_seqItems f1 f2 ?_)
 simp only[Int.toNat_natCast,e]
 refine wpAny_bind (wpAny_rule (wpAny_bind (wpAny_setField e1 e3 (by simp) ?_)))
 show wpAny (model P w) _ (newExc (.type "StopIteration") [] >>= _) _ _ _
 refine wpAny_bind ?_
 simp only[newExc,newTuple]
 refine wpAny_bind (wpAny_newObj_type (wpAny_bind (m:=firstArgMember _ _) (wpAny_of_eq (a:=Value.none) (by first | rfl | (simp only[firstArgMember];rfl)) (wpAny_newObj_type ?_ (by size_fits)))) (by size_fits))
 simp only[raiseNew]
 refine wpAny_bind (wpAny_handled ?_)
 rw[show A.in1.handled=none from z]
 exact wpAny_bind (wpAny_pure (wpAny_throw (q _ _ (((Heap.SameBut.update ..).extBut.push _).push _) ⟨_,Heap.get?_push_size _ rfl,rfl⟩)))
theorem Bc{k:Bool}{j t:Addr}{i:Nat}{its:Array Value}{Q:Value->Shared->Prop}(z:A.handled=none)(c:ItK k s.heap j t i)(d:SeqK k s.heap t its)(e:its[i]? =none)
  (q:∀ h' x,Heap.ExtBut j s.heap h'->(∃ o,h'.get? x=some o/\o.cls=.type "StopIteration")->E (.ref x) { s with heap:=h' }):wpAny (model P w) A (Builtin.SmallTypes.nextOf (.ref j)) Q E s:=by
 cases k
 ·exact Bb z c d e q
 ·exact wpAny_nextOf_list_end z c d e q
end
section
variable{P:Program}{w:World}{A:Around}{E:Value->Shared->Prop}{s:Shared}
end
theorem Inv.turnedS{X:Cx}{AA:List (Addr × Obj)}{σ:St}{H:Hp}{s:Shared}{h':Heap}{t':Nat}{fp:List Addr}(I:Inv X AA σ H s)(k:∀ b o,b∉fp->s.heap.get? b=some o->h'.get? b=some o)(hf:∀ b∈fp,FpOk X AA H b):Inv X AA σ H { s with heap:=h',toks:=t' }:=by
 have nit:∀ b u,H b=some u->b∉fp:=λb u e z=>by rw[(hf b z).1]at e;cases e
 refine I.step (g':=s.gens) (d':=s.drawn) (ch:=fp) (λb hb=> ?_) (λb o _ _ hc e _=>k b o hc e) (λb o _ _ hc e _=>⟨o.slots,k b o hc e⟩) (λ_ _ _ _ n=>n)
  (λb o hc e=>⟨o,k b o hc e⟩) (λ_ _ e=>e) (λ_ _ _ e=>e) (λb ps e=>⟨#[],by rw[e];simp⟩) (λm hm=> ?_) (λb u e=> ?_) I.bare
 ·obtain⟨_,f1,_,f3,f4,f5⟩:=hf b hb
  exact⟨f3,f1,f4,f5⟩
 ·obtain⟨o,es,ep,ho,r⟩:=hm
  exact⟨o,es,ep,k _ o (λz=>(hf _ z).2.1 rfl) ho,r⟩
 ·refine(I.hok b u e).stay (λc v hc q=>k c v ?_ q) (λ_ q=>q) λ_ _ q=>q
  rcases hc with z | z
  ·rw[z];exact nit b u e
  ·exact nit c _ z
def SqB(K:W.Frag)(k:Bool)(H:Hp)(a:Addr)(xs:List V):Prop:=if k then SqL K H a xs else SqT K H a xs
theorem Inv.seqK{X:Cx}{AA:List (Addr × Obj)}{σ:St}{H:Hp}{s:Shared}{k:Bool}{a:Addr}{xs:List V}(I:Inv X AA σ H s)(q:SqB X.K k H a xs):∃ its,Vals xs its/\SeqK k s.heap a its.toArray:=by
 cases k
 ·obtain⟨its,rv,p,_⟩:=I.tuple q
  exact⟨its,rv,p⟩
 ·obtain⟨its,rv,p,_⟩:=I.list q
  exact⟨its,rv,p.isList⟩
theorem Inv.seqK_inj{X:Cx}{AA:List (Addr × Obj)}{σ:St}{H:Hp}{s:Shared}{k:Bool}{a:Addr}{xs ys:List V}(I:Inv X AA σ H s)(p:SqB X.K k H a xs)(q:SqB X.K k H a ys):xs=ys:=by
 cases k
 ·exact I.tuple_inj p q
 ·exact I.list_inj p q
theorem SeqK.lt{k:Bool}{h:Heap}{a:Addr}{xs:Array Value}(x:SeqK k h a xs):a<h.objs.size:=by
 cases k<;>exact(let ⟨_,e,_⟩:=x;Heap.lt_size e)
theorem SeqK.nit{k:Bool}{h:Heap}{a b:Addr}{xs:Array Value}(x:SeqK k h a xs){o:Obj}(e:h.get? b=some o)(n:∀ its m,o.data≠.seq its m):a≠b:=by
 intro z
 subst z
 cases k<;>(obtain⟨o',e',_,m,d⟩:=x;rw[e]at e';cases e';exact n _ _ d)
def ZipSt(k k':Bool)(z l l':Addr)(f:Value)(i:Nat)(h:Heap)(T U j j':Addr):Prop :=
 IsZip h z T U f/\IsPair h T (.ref j) (.ref j')/\(∃ a b,IsPair h U a b)/\ItK k h j l i/\ItK k' h j' l' i
structure Five(z T U j j':Addr):Prop where
 a1:T≠z
 a2:U≠z
 a3:j≠z
 a4:j'≠z
 a5:T≠U
 a6:T≠j
 a7:T≠j'
 a8:U≠j
 a9:U≠j'
 a10:j≠j'
theorem SqB.off{X:Cx}{AA:List (Addr × Obj)}{σ:St}{H:Hp}{s:Shared}{k:Bool}{m b:Addr}{zs:List V}(I:Inv X AA σ H s)(q:SqB X.K k H m zs)(f:FpOk X AA H b):m≠b:=by
 intro e
 subst e
 obtain⟨f0,_,_,f3,_⟩:=f
 have no:∀ o,X.K.lookup m=some o->False:=λo hk=>by
  have e:=I.mod.kin m o hk
  rcases f3 with z | z
  ·exact I.ok.noex _ _ e z
  ·exact absurd (Heap.lt_size (I.ok.bs _ _ e).1) (Nat.not_lt.mpr z)
 have nr:∀ u,Rd H m u->False:=λu r=>by
  rcases r with r | ⟨o,r⟩<;>(rw[f0]at r;cases r)
 cases k
 ·rcases q with q | ⟨o,_,_,hk,_⟩
  ·exact nr _ q
  ·exact no o hk
 ·rcases q with q | ⟨o,_,_,hk,_⟩
  ·exact nr _ q
  ·exact no o hk
theorem FpOk.upd{X:Cx}{AA:List (Addr × Obj)}{H:Hp}{a b:Addr}{o:HO}(f:FpOk X AA H b)(n:b≠a):FpOk X AA (upd H a o) b:=⟨(AG n).trans f.1,f.2⟩
theorem ZipSt.lt{k k':Bool}{z l l' T U j j':Addr}{f:Value}{i:Nat}{h:Heap}(q:ZipSt k k' z l l' f i h T U j j'):∀ b∈[z,T,U,j,j'],b<h.objs.size:=by
 obtain⟨h1,h2,⟨a,b',h3⟩,h4,h5⟩:=q
 obtain⟨o4,e4,_⟩:=h4.ob
 obtain⟨o5,e5,_⟩:=h5.ob
 intro b hb
 simp only[List.mem_cons,List.not_mem_nil,or_false]at hb
 rcases hb with rfl | rfl | rfl | rfl | rfl
 ·exact Heap.lt_size h1
 ·exact Heap.lt_size h2
 ·exact Heap.lt_size h3
 ·exact Heap.lt_size e4
 ·exact Heap.lt_size e5
theorem Five.apart{z T U j j' l l':Addr}(D:Five z T U j j')(n:∀ b∈[z,T,U,j,j'],l≠b)(n':∀ b∈[z,T,U,j,j'],l'≠b):ZipApart z T U j j' l l' :=
 ⟨D.a1,D.a2,D.a3,D.a4,D.a5,D.a6,D.a7,D.a8,D.a9,D.a10,n _ (by simp),n _ (by simp),n _ (by simp),n _ (by simp),n' _ (by simp),n' _ (by simp),n' _ (by simp),n' _ (by simp)⟩
section
variable{X:Cx}{tg:Expr}
end
theorem Fun.none{P:Program}{w:World}{K:W.Frag}{mg:Str->Option Value}{base:Heap}{x qual:Str}{st:Stmt}{f:Addr}{fd:FuncData}{N ps:List Str}{k:Nat}{sp:Sp}(F:Fun K x qual st f fd)(S:FnScope N ps (AW st))(no:∀ vs H Q E,sp vs H Q E->False):FnOk P w K mg base (DN P w) (k+1) f fd ps sp :=
 F.okE S (λvs H Q E h=>(no vs H Q E h).elim) λ_ _ _ _ H vs Q E _ h=>(no vs H Q E h).elim
end L2
namespace L2
def M4(z:Str):It:=⟨λi _=>i<z.cps.size,λi H x H'=>H'=H/\∃ c,z.cps[i]? =some c/\x=.str ⟨#[c]⟩,λi _=>z.cps.size<=i⟩
theorem eU{P:Program}{w:World}{K:PySem.W.Frag}{tg:Expr}{it:Addr}{z:Str}{t:Tok}{nm:String}(hn:["enumerate","zip","dict_itemiterator","dict_reverseitemiterator","odict_iterator","itertools.zip_longest","itertools.pairwise"].contains nm=false)
  (W:∀ A:Around,A.handled=none->Walks P w A it [it] [it] z.cps.size (SignAt z) (λi h=>h.IsStrIter it nm z t i)) (sf:∀ (A:Around) (i:Nat) (s:Shared) (Q:Value->Shared->Prop) (E:Value->Shared->Prop),s.heap.IsStrIter it nm z t i->Q (.ref it) s->wpAny (model P w) A (pyIter (.ref it)) Q E s) :
  JO P w K tg (M4 z) [it] it (λi h=>i<=z.cps.size/\h.IsStrIter it nm z t i) where
 mem:=by simp
 obj:=λi h ⟨_,o,e,c,d⟩ b hb=>by
  have e':b=it:=by simpa using hb
  subst e'
  exact⟨o,e,λv q=>by rw[d]at q;cases q⟩
 keep:=λi h h' ⟨l,o,e,r⟩ k=>⟨l,o,k it (by simp) o e,r⟩
 item:=by
  intro X hP hw hK hc i AA s σ H E I hf ⟨_,st⟩ hg
  subst hP hw hK
  obtain⟨f0,f1,f2,f3,f4,f5⟩:=hf it (by simp)
  refine(W _ (I.ok.hd hc)).item i s _ _ hg st λv h' tk hv st' kk=> ?_
  obtain⟨c,u,hx,rfl⟩:=hv
  have I1:Inv X AA σ H { s with heap:=h',toks:=tk }:=I.turned (λb o hb e=>kk b o (by simpa using hb) e) f0 f1 f3 f4 f5
  obtain⟨o,e,c1,d⟩:=id st'
  exact⟨_,rfl,ON (s:={ s with heap:=h',toks:=tk }) e c1 d hn ⟨.str ⟨#[c]⟩,H,I1,⟨u,rfl⟩,⟨rfl,c,hx,rfl⟩,⟨hg,st'⟩,λb hb=>(hf b hb).1⟩⟩
 done:=by
  intro X hP hw hK hc i AA s σ H E I hf ⟨l,st⟩ hg
  subst hP hw hK
  obtain⟨f0,f1,f2,f3,f4,f5⟩:=hf it (by simp)
  have e:i=z.cps.size:=Nat.le_antisymm l hg
  subst e
  exact(W _ (I.ok.hd hc)).done s _ _ st λh' tk kk=>⟨rfl,I.turned (λb o hb e=>kk b o (by simpa using hb) e) f0 f1 f3 f4 f5⟩
 self:=λA i s Q E st h=>sf A i s Q E st.2 h
theorem eV:∀ bs:List Bool,(List.range bs.length).all (λi=>bs.getD i false)=bs.all id
 | []=>rfl
 | b::t=>by
  have ih:=eV t
  rw[List.length_cons,List.range_succ_eq_map,List.all_cons,List.all_map,List.all_cons,<-ih]
  rfl
def M5(tl:TE):TI:=λσ H R=>tl σ H λx H1=>∃ z,x=.str z/\R (M4 z) H1
section
variable{X:Cx}{tg:Expr}
theorem TW{l:Expr}{tl:TE}(hl:PE X l tl):PI X tg l (M5 tl):=by
 intro AA s σ H R I h
 refine AR (hl AA s σ H _ I h) λv s1 hzz=> ?_
 obtain⟨x,H1,I1,r1,q1⟩:=hzz
 obtain⟨z,rfl,q⟩:=q1
 obtain⟨t,rfl⟩:=r1
 have fp1:∀ b∈[s1.heap.objs.size],FpOk X AA H1 b:=λb hb=>by
  have e:b=s1.heap.objs.size:=by simpa using hb
  subst e
  exact I1.fpOk (Nat.le_refl _) (I1.hok.fresh (Nat.le_refl _))
 cases ha:z.cps.all (· <128)
 ·refine wpAny_pyIter_wide ha ⟨s1.heap.objs.size,[s1.heap.objs.size],_,_,H1,rfl,I1.kept (t':=s1.toks) λb o e=>Heap.get?_push_of_some _ e,eU (nm:="str_iterator") (t:=t) (by decide) (λA hA=>Walks.strWide hA _ z t) (λA i s Q E st h=>wpAny_pyIter_striter_wide st h),⟨Nat.zero_le _,_,Heap.get?_push_size _ rfl,rfl,rfl⟩,fp1,q⟩
 ·refine wpAny_pyIter_ascii ha ⟨s1.heap.objs.size,[s1.heap.objs.size],_,_,H1,rfl,I1.kept (t':=s1.toks) λb o e=>Heap.get?_push_of_some _ e,eU (nm:="str_ascii_iterator") (t:=t) (by decide) (λA hA=>Walks.strAscii hA _ z t) (λA i s Q E st h=>wpAny_pyIter_striter_ascii st h),⟨Nat.zero_le _,_,Heap.get?_push_size _ rfl,rfl,rfl⟩,fp1,q⟩
def O4(K:W.Frag):List V->Hp->VK->Prop:=λxs H Q=>∃ x,xs=[.str x]/\x.length=1/\Q (.int (x.cps.getD 0 0:Nat)) H
theorem Bd:CallR X (.builtin "ord") (O4 X.K):=t5
def Bg(K:W.Frag):List V->Hp->VK->Prop:=λxs H Q=>∃ i j,xs=[.int i,.int j]/\Q (.int (if j > i then j else i)) H
def K9(K:W.Frag):List V->Hp->VK->Prop:=λxs H Q=>∃ (p:Addr) (bs:List Bool),xs=[.ref p]/\SqL K H p (bs.map V.bl)/\Q (.bl (bs.all id)) H
theorem O5(hc:X.calm=true):CallR X (.builtin "all") (K9 X.K):=by
 intro AA s σ H xs us Q I r h
 obtain⟨p,bs,rfl,hp,q⟩:=h
 obtain⟨u,rfl,ru⟩:=FF r
 cases ru
 obtain⟨its,rv,pl,hz⟩:=I.list hp
 have hl:=rv.length
 refine call_all_walk (wpAny_pyIter_list pl.isList ?_)
 have hne:p≠s.heap.objs.size:=by
  obtain⟨o,e,_⟩:=pl.isList
  exact Nat.ne_of_lt (Heap.lt_size e)
 refine⟨s.heap.objs.size,_,_,_,_,_,λi=>bs.getD i false,rfl,Walks.list (show X.A.in1.handled=none from I.ok.hd hc) s.heap.objs.size p hne its.toArray,⟨⟨_,Heap.get?_push_size _ rfl,rfl,rfl⟩,pl.isList.push _⟩,?_,?_⟩
 ·intro i v s' Q' E' hv hq
  have hv:its[i]? =some v:=by simpa using hv
  have hi:=(List.getElem?_eq_some_iff.mp hv).1
  rw[List.length_map]at hl
  obtain⟨b,hb⟩:∃ b,bs[i]? =some b:=⟨_,List.getElem?_eq_getElem (by omega)⟩
  obtain⟨u,hu,ru⟩:=rv.get (i:=i) (x:=V.bl b) (by rw[List.getElem?_map,hb];rfl)
  rw[hv]at hu
  cases hu
  cases (show v=Value.bool b from ru)
  have e:bs.getD i false=b:=by rw[List.getD_eq_getElem?_getD,hb];rfl
  have hq:Q' (bs.getD i false) s':=hq
  rw[e]at hq
  exact wpAny_pure hq
 ·intro h' tk kk
  have e:(List.range its.toArray.size).all (λi=>bs.getD i false)=bs.all id:=by
   rw[List.length_map]at hl
   rw[List.size_toArray,<-hl]
   exact eV bs
  rw[e]
  exact⟨.bl _,H,I.kept (t':=tk) λb o eb=>kk b o (by simpa using Nat.ne_of_lt (Heap.lt_size eb)) (Heap.get?_push_of_some _ eb),rfl,q⟩
end
theorem Bh{K:W.Frag}{x:Str}{H:Hp}{Q:VK}:O4 K [.str x] H Q=(x.length=1/\Q (.int (x.cps.getD 0 0:Nat)) H):=by simp[O4]
theorem Bj{K:W.Frag}{i j:Int}{H:Hp}{Q:VK}:Bg K [.int i,.int j] H Q=Q (.int (if j > i then j else i)) H:=propext ⟨λ⟨_,_,e,q⟩=>by cases e;exact q,λq=>⟨_,_,rfl,q⟩⟩
section
variable{P:Program}{w:World}{A:Around}{E:Value->Shared->Prop}{s:Shared}
end
section
variable{X:Cx}
def eX(k:Nat):List V:=(List.range k).map λ(i:Nat)=>V.int (i:Int)
end
theorem Bk{tl:TE}{g:TG}{tt:TT}{te:TE}{k:Nat}{cap:List Nat}{σ:St}{H:Hp}{Q:VK}:DM (M5 tl) g tt te k cap σ H Q=(tl σ H λx H1=>∃ z,x=.str z/\FA (M4 z) g tt te k cap σ H1 Q):=rfl
theorem Bl{te:TE}{cap:List Nat}{σ:St}{H:Hp}{Q:VK}{z:Str}(hn:z.cps.size<=sizeLine)(Pv:Nat->List V->Hp->Prop)(h0:Pv 0 [] H)(hs:∀ i c ys H,z.cps[i]? =some c->ys.length=i->Pv i ys H->te (some (.str ⟨#[c]⟩)::EO cap σ) H λy H2=>Pv (i+1) (ys++[y]) H2)
  (hd:∀ ys H,ys.length=z.cps.size->Pv z.cps.size ys H->∀ p,H p=none->Q (.ref p) (upd H p (.lst ys))):FA (M4 z) (AQ 0) C7 te 1 cap σ H Q:=by
 refine⟨λi m σ' ys H=>m=z.cps.size - i/\i<=z.cps.size/\ys.length=i/\(∃ x0,σ'=x0::EO cap σ)/\Pv i ys H,⟨z.cps.size,by simp,Nat.zero_le _,rfl,⟨none,rfl⟩,h0⟩,?_⟩
 rintro i m σ' ys H ⟨rfl,hi,hl,⟨x0,rfl⟩,p⟩
 by_cases BD:i<z.cps.size
 ·refine .inr ⟨BD,by omega,λx H' y=> ?_⟩
  obtain⟨e,c,hc,y⟩:=y
  subst e y
  simp only[AQ,C7,if_true]
  refine⟨_,λy H4 q=>⟨z.cps.size - (i+1),by omega,rfl,BD,?_,⟨_,rfl⟩,q⟩,hs i c ys _ hc hl p⟩
  rw[List.length_append,List.length_singleton,hl]
 ·have e:i=z.cps.size:=by omega
  subst e
  exact .inl ⟨Nat.le_refl _,hd ys H hl p⟩
end L2
namespace L2
open PySem
abbrev HI(l:List Nat):Prop:=l.Pairwise (· <·)
theorem M7{l:List Nat}(R:HI l){i k a b:Nat}(h:i<k)(ha:l[i]? =some a)(hb:l[k]? =some b):a<b:=by
 obtain⟨h1,rfl⟩:=List.getElem?_eq_some_iff.mp ha
 obtain⟨h2,rfl⟩:=List.getElem?_eq_some_iff.mp hb
 exact List.pairwise_iff_getElem.mp R i k h1 h2 h
structure Below(xs:Array Nat)(j r:Nat):Prop where
 le:r<=xs.size
 lo:∀ i v,i<r->xs.toList[i]? =some v->v<j
 hi:∀ i v,r<=i->xs.toList[i]? =some v->j<=v
theorem TY{xs:Array Nat}{j:Nat}(R:HI xs.toList):∀ (fuel lo hi:Nat),lo<=hi->hi<=xs.size->hi - lo<=fuel->(∀ i v,i<lo->xs.toList[i]? =some v->v<j)->(∀ i v,hi<=i->xs.toList[i]? =some v->j<=v) →
  Below xs j (SetTable.below.go xs j fuel lo hi)
 | 0,lo,hi,h1,h2,h3,a,b=>by
  have e:lo=hi:=by omega
  subst e
  exact⟨h2,a,b⟩
 | fuel+1,lo,hi,h1,h2,h3,a,b=>by
  unfold SetTable.below.go
  by_cases BD:lo<hi
  ·rw[if_pos BD]
   have hm:(lo+hi) / 2<xs.size:=by omega
   have em:xs.toList[(lo+hi) / 2]? =some (xs[(lo+hi) / 2]):=by simp[hm]
   have ed:xs.getD ((lo+hi) / 2) j=xs[(lo+hi) / 2]:=by simp[hm]
   simp only[ed]
   split
   ·rename_i hv
    refine TY R fuel _ _ (by omega) h2 (by omega) (λi v hi' e=> ?_) b
    by_cases q:i=(lo+hi) / 2
    ·subst q;rw[em]at e;cases e;exact hv
    ·exact Nat.lt_trans (M7 R (show i<(lo+hi) / 2 by omega) e em) hv
   ·rename_i hv
    refine TY R fuel _ _ (by omega) (by omega) (by omega) a λi v hi' e=> ?_
    by_cases q:i=(lo+hi) / 2
    ·subst q;rw[em]at e;cases e;omega
    ·have:=M7 R (show(lo+hi) / 2<i by omega) em e
     omega
  ·rw[if_neg BD]
   have e:lo=hi:=by omega
   subst e
   exact⟨h2,a,b⟩
theorem TZ{xs:Array Nat}{j:Nat}(R:HI xs.toList):Below xs j (SetTable.below xs j) :=
 TY R _ _ _ (Nat.zero_le _) (Nat.le_refl _) (by omega) (λ_ _ h=>absurd h (Nat.not_lt_zero _)) λi v h e=>by
  rw[List.getElem?_eq_none (by simpa using h)]at e;cases e
theorem Below.uniq{xs:Array Nat}{j r r':Nat}(a:Below xs j r)(b:Below xs j r'):r=r':=by
 rcases Nat.lt_trichotomy r r' with h | h | h
 ·have hs:r<xs.size:=Nat.lt_of_lt_of_le h b.le
  have e:xs.toList[r]? =some (xs[r]):=by simp[hs]
  have:=b.lo _ _ h e
  have:=a.hi _ _ (Nat.le_refl _) e
  omega
 ·exact h
 ·have hs:r'<xs.size:=Nat.lt_of_lt_of_le h a.le
  have e:xs.toList[r']? =some (xs[r']):=by simp[hs]
  have:=a.lo _ _ h e
  have:=b.hi _ _ (Nat.le_refl _) e
  omega
def NotIn(t:SetTable)(j:Nat):Prop:=t.place[SetTable.below t.place j]? ≠some j
theorem Bm{t:SetTable}{j:Nat}(h:t.slot j=.empty):NotIn t j:=λe=>by
 unfold SetTable.slot at h
 simp only[e,beq_self_eq_true,if_true]at h
 cases h
theorem Bp{t:SetTable}{j:Nat}(h:t.slot j=.dummy):NotIn t j:=λe=>by
 unfold SetTable.slot at h
 simp only[e,beq_self_eq_true,if_true]at h
 cases h
theorem eY(t:SetTable)(p:SetTable.Probe):(t.advance p).dummy=p.dummy:=by
 unfold SetTable.advance
 split<;>rfl
theorem T2{t:SetTable}{f:Nat->Int}{h:Int}:∀ (fuel:Nat) (p:SetTable.Probe) (j:Nat) (d:Option Nat),SetTable.probe.go t f h fuel p=some (.empty j d)->(∀ x,p.dummy=some x->NotIn t x)->NotIn t (d.getD j)
 | 0,p,j,d,e,_=>by cases e
 | fuel+1,p,j,d,e,hd=>by
  unfold SetTable.probe.go at e
  split at e
  ·rename_i hs
   cases e
   cases q:p.dummy with
   | none=>exact Bm hs
   | some x=>exact hd x q
  ·rename_i hs
   refine T2 fuel _ j d e λx hx=> ?_
   rw[eY]at hx
   cases hx
   exact Bp hs
  ·rename_i i hs
   split at e
   ·cases e
   ·exact T2 fuel _ j d e λx hx=>by rw[eY]at hx;exact hd x hx
theorem Bq{t:SetTable}{h:Int}{s:Nat}{b:Bool}(e:t.freeSlot h=some (s,b)):NotIn t s:=by
 unfold SetTable.freeSlot at e
 split at e
 ·rename_i j d hp
  cases e
  refine T2 _ _ _ _ hp λx hx=> ?_
  cases hx
 ·cases e
theorem Bv(n:Nat):HI (Array.range n).toList:=by
 rw[Array.toList_range]
 exact List.pairwise_lt_range
theorem Bw {t:SetTable} {j:Nat} (R:HI t.place.toList) (h:NotIn t j):HI (t.put j).1.place.toList:=by
  have b:=TZ (j:=j) R
  show HI (SetTable.insertAt t.place (SetTable.below t.place j) j).toList
  rw[SetTable.toList_insertAt]
  have hlo:∀ v∈t.place.toList.take (SetTable.below t.place j),v<j:=λv hv=>by
    obtain⟨i,hi,e⟩:=List.getElem_of_mem hv
    have hi':i<SetTable.below t.place j:=by rw[List.length_take]at hi;omega
    refine b.lo i v hi' ?_
    rw[<-e];simp only[List.getElem_take];exact List.getElem?_eq_getElem _
  have hhi:∀ v∈t.place.toList.drop (SetTable.below t.place j),j<v:=λv hv=>by
    obtain⟨i,hi,e⟩:=List.getElem_of_mem hv
    have e2:t.place.toList[SetTable.below t.place j+i]? =some v:=by
      rw[<-List.getElem?_drop,List.getElem?_eq_getElem hi,e]
    have:=b.hi _ _ (Nat.le_add_right _ _) e2
    by_cases q:j=v
    · subst q
      have z:i=0:=by
        by_cases z:i=0
        ·exact z
        · have hl:SetTable.below t.place j<t.place.toList.length:=by
            rw[List.length_drop]at hi;omega
          have e3:=List.getElem?_eq_getElem hl
          have:=M7 R (show SetTable.below t.place j<SetTable.below t.place j+i by omega) e3 e2
          have:=b.hi _ _ (Nat.le_refl _) e3
          omega
      subst z
      rw[Nat.add_zero,Array.getElem?_toList]at e2
      exact absurd e2 h
    ·omega
  refine List.pairwise_append.mpr ⟨R.sublist (List.take_sublist ..),List.pairwise_cons.mpr ⟨hhi,R.sublist (List.drop_sublist ..)⟩,λx hx y hy=> ?_⟩
  rcases List.mem_cons.mp hy with rfl | hy
  ·exact hlo x hx
  ·exact Nat.lt_trans (hlo x hx) (hhi y hy)
structure Led(led:Bool)(t:SetTable):Prop where
 rise:HI t.place.toList
 led:t.led=led
theorem Led.standIn{led:Bool}{t:SetTable}(h:t.led=led)(n:Nat):Led led (t.standIn n):=⟨Bv n,h⟩
theorem Led.or{led:Bool}{t:SetTable}(h:Led led t)(n:Nat):Led led (t.orStandIn n):=by
 unfold SetTable.orStandIn
 split
 ·exact h
 ·exact .standIn h.led n
theorem Led.layNew{led:Bool}{t:SetTable}(L:Led led t)(es:Array (Int × Value))(h:Int)(x:Value):Led led (layNew t es h x).2.1:=by
 unfold PySem.layNew
 split
 ·rename_i slot b e
  exact Led.or ⟨Bw L.rise (Bq e),L.led⟩ _
 ·exact .standIn L.led _
theorem Bx(owner:Array (Option Nat))(m:Nat):HI (((List.range m).filterMap λj=>(owner.getD j none).map (j,·)).map (·.1)):=by
 rw[List.map_filterMap]
 refine(List.pairwise_lt_range (n:=m)).filterMap _ λa b hab x hx y hy=> ?_
 simp only[Option.mem_def,Option.map_map,Option.map_eq_some_iff,Function.comp_apply]at hx hy
 obtain⟨_,_,rfl⟩:=hx
 obtain⟨_,_,rfl⟩:=hy
 exact hab
theorem Led.relayAll{led:Bool}{t:SetTable}(h:t.led=led)(L:Led led t)(es:Array (Int × Value))(wanted:Nat):Led led (relayAll t es wanted).2.1:=by
 unfold PySem.relayAll
 split
 ·rename_i t' order e
  dsimp only
  split
  ·unfold SetTable.relaid SetTable.laid at e
   simp only[Option.bind_eq_bind,Option.bind_eq_some_iff,Option.pure_def,Option.some.injEq,Prod.mk.injEq]at e
   obtain⟨owner,_,rfl,_⟩:=e
   exact⟨by simpa using Bx owner _,h⟩
  ·exact .standIn h _
 ·exact .standIn h _
theorem Led.plainOff{led:Bool}{t:SetTable}(L:Led led t):Led led { t with plain:=false }:=⟨L.rise,L.led⟩
theorem Led.fresh(led:Bool):Led led (.fresh 0 0 led):=⟨List.Pairwise.nil,rfl⟩
def LA(xs:Array Nat):Nat->Nat
 | 0=>0
 | i+1=>xs.getD i 0+1
theorem By{xs:Array Nat}(R:HI xs.toList):∀ {i:Nat},i<=xs.size->SetTable.below xs (LA xs i)=i
 | 0,_=>(TZ R).uniq ⟨Nat.zero_le _,λ_ _ h=>absurd h (Nat.not_lt_zero _),λ_ _ _ _=>Nat.zero_le _⟩
 | i+1,hi=>(TZ R).uniq ⟨hi,λk v hk e=>by
   have hi':i<xs.size:=by omega
   have ei:xs.toList[i]? =some xs[i]:=by simp[hi']
   have ed:xs.getD i 0=xs[i]:=by simp[hi']
   show v<xs.getD i 0+1
   rw[ed]
   by_cases q:k=i
   ·subst q;rw[ei]at e;cases e;omega
   ·have:=M7 R (show k<i by omega) e ei
    omega,λk v hk e=>by
   have hi':i<xs.size:=by omega
   have ei:xs.toList[i]? =some xs[i]:=by simp[hi']
   have ed:xs.getD i 0=xs[i]:=by simp[hi']
   show xs.getD i 0+1<=v
   rw[ed]
   exact M7 R (show i<k by omega) ei e⟩
theorem eZ{α :Type}(next:Nat->Nat):∀ (fuel k:Nat) (left:List α) (out:Array α),left.length=fuel->List.Perm (pickOrder.go next fuel k left out).toList (out.toList++left)
 | 0,k,left,out,h=>by
  rw[List.length_eq_zero_iff.mp h]
  unfold pickOrder.go
  simp
 | fuel+1,k,left,out,h=>by
  unfold pickOrder.go
  have hl:next k % left.length<left.length:=Nat.mod_lt _ (by omega)
  rw[List.getElem?_eq_getElem hl]
  dsimp only
  refine(eZ next fuel (k+1) _ _ (by rw[List.length_eraseIdx_of_lt hl];omega)).trans ?_
  rw[Array.toList_push,List.append_assoc]
  refine List.Perm.append_left _ ?_
  rw[List.eraseIdx_eq_take_drop_succ]
  show List.Perm (left[next k % left.length]::(left.take (next k % left.length)++left.drop (next k % left.length+1))) left
  refine List.perm_middle.symm.trans ?_
  rw[<-List.drop_eq_getElem_cons hl,List.take_append_drop]
theorem Bz{α :Type}(next:Nat->Nat)(xs:Array α):List.Perm (pickOrder next xs).toList xs.toList:=by
 have:=eZ next xs.size 0 xs.toList #[] (by simp)
 simpa [pickOrder]using this
end L2
namespace L2
open PySem PyProof.Rows
def JS(w:World):Bool:= !w.params.followText "set-order"
def iv:Value->Int
 | .int n _=>n
 | _=>0
def IntSet(P:Program)(w:World)(h:Heap)(a:Addr)(ms:List Int):Prop :=
 ∃ (o:Obj) (es:Array (Int × Value)) (ep:Nat) (t:SetTable),h.get? a=some o/\o.ExactSet/\o.data=.set es ep t/\ElemsOf (intKind P w) es.toList ∧
  List.Perm (es.toList.map λe=>iv e.2) ms/\es.size<scanBound/\t.fits es.size=true/\Led (JS w) t
section
variable{P:Program}{w:World}{A:Around}{E:Value->Shared->Prop}{s:Shared}
theorem T3{es:List (Int × Value)}(h:ElemsOf (intKind P w) es){e:Int × Value}(he:e∈es):∃ t,e.2=.int (iv e.2) t:=by
 obtain⟨⟨k,hk,_⟩,_⟩:=h e he
 obtain⟨t,z⟩:=Value.isInt_shape hk
 exact⟨t,by rw[z];rfl⟩
theorem fA{es:List (Int × Value)}(h:ElemsOf (intKind P w) es){e:Int × Value}(he:e∈es){k:Int}:(intKind P w).is k e.2=true↔iv e.2=k:=by
 obtain⟨t,z⟩:=T3 h he
 rw[z]
 refine⟨λq=> ?_,λq=> ?_⟩
 ·have q':Value.isInt k (.int (iv e.2) t)=true:=q
  obtain⟨t',z'⟩:=Value.isInt_shape q'
  cases z';rfl
 ·rw[<-q];exact intKind_is ..
theorem fB{es:List (Int × Value)}{ms:List Int}(h:ElemsOf (intKind P w) es)(p:List.Perm (es.map λe=>iv e.2) ms)(k:Int):k∈ms↔∃ e∈es,(intKind P w).is k e.2=true:=by
 rw[<-p.mem_iff,List.mem_map]
 exact⟨λ⟨e,he,q⟩=>⟨e,he,(fA h he).mpr q⟩,λ⟨e,he,q⟩=>⟨e,he,(fA h he).mp q⟩⟩
theorem fC{h:Heap}{a:Addr}{o:Obj}{es es':Array (Int × Value)}{ep:Nat}{t t':SetTable}{ms:List Int}(ho:h.get? a=some o)(hex:o.ExactSet)(hd:o.data=.set es ep t)
  (hel:ElemsOf (intKind P w) es'.toList) (hp:List.Perm (es'.toList.map λe=>iv e.2) ms) (hb:es'.size<scanBound) (hf:t'.fits es'.size=true) (L:Led (JS w) t') :
  (h.update a (Obj.putSet es' t')).get? a=some { o with data:=.set es' (ep+1) t' }/\IntSet P w (h.update a (Obj.putSet es' t')) a ms:=by
 have g:=(SetOf_store (knd:=intKind P w) (S':=λk=>es'.toList.any λe=>(intKind P w).is k e.2) ho hex hd hel (λk=>by rw[List.any_eq_true]) hb hf).1
 exact⟨g,_,es',ep+1,t',g,hex,rfl,hel,hp,hb,hf,L⟩
theorem fD{g:Bool->Sem Unit}(hg:∀ (b:Bool) (s1:Shared) (R:Unit->Shared->Prop),R () s1->wpAny (model P w) A (g b) R E s1){a:Addr}{o:Obj}{es e1:Array (Int × Value)}{ep:Nat}{t t1:SetTable}{ms:List Int}{wd:Bool}
  (ho:s.heap.get? a=some o) (hex:o.ExactSet) (hd:o.data=.set es ep t) (hel:ElemsOf (intKind P w) e1.toList) (hp:List.Perm (e1.toList.map λe=>iv e.2) ms) (hb:e1.size<scanBound) (hf:t1.fits e1.size=true) (L:Led (JS w) t1)
  {R:Option Bool->Shared->Prop} (h:∀ h',Heap.SameBut a s.heap h'->IntSet P w h' a ms->R (some true) { s with heap:=h' }) :
  wpAny (model P w) A (do
   storeSet a e1 t1
   if(!wd && t1.tooFull)=true then do
    g (relayAll t1 e1 (SetTable.grown e1.size)).2.2
    storeSet a (relayAll t1 e1 (SetTable.grown e1.size)).1 (relayAll t1 e1 (SetTable.grown e1.size)).2.1
    pure (some true)
   else pure (some true)) R E s:=by
 refine wpAny_bind (wpAny_storeSet_of ho hd ?_ (fits_of_scanBound hb))
 obtain⟨g1,S1⟩:=fC ho hex hd hel hp hb hf L
 have sb1:=Heap.SameBut.update s.heap a (Obj.putSet e1 t1)
 split
 ·have p2:=relayAll_perm t1 e1 (SetTable.grown e1.size)
  have f2:=relayAll_fits t1 e1 (SetTable.grown e1.size)
  have L2:=Led.relayAll L.led L e1 (SetTable.grown e1.size)
  revert p2 f2 L2
  generalize relayAll t1 e1 (SetTable.grown e1.size)=r
  obtain⟨e2,t2,gv⟩:=r
  intro p2 f2 L2
  dsimp only at p2 f2 L2 ⊢
  have z2:e2.size=e1.size:=by rw[<-Array.length_toList,p2.length_eq,Array.length_toList]
  have b2:e2.size<scanBound:=z2 ▸ hb
  refine wpAny_bind (hg _ _ _ ?_)
  refine wpAny_bind (wpAny_storeSet_of g1 rfl ?_ (fits_of_scanBound b2))
  obtain⟨_,S2⟩:=fC (P:=P) (w:=w) g1 hex rfl (hel.perm p2) ((p2.map _).trans hp) b2 f2 L2
  exact wpAny_pure (h _ (sb1.trans (Heap.SameBut.update ..)) S2)
 ·exact wpAny_pure (h _ sb1 S1)
theorem fE{ms:List Int}{k:Int}(h:k∈ms):step_dedup ms k=ms:=by
 unfold step_dedup
 have e:(ms.any λx=>x == k)=true:=List.any_eq_true.mpr ⟨k,h,beq_self_eq_true k⟩
 rw[if_pos e]
theorem fF{ms:List Int}{k:Int}(h:¬ k∈ms):step_dedup ms k=ms++[k]:=by
 unfold step_dedup
 rw[if_neg λz=> ?_]
 obtain⟨x,hx,q⟩:=List.any_eq_true.mp z
 rw[beq_iff_eq]at q
 exact h (q ▸ hx)
theorem Cb{a:Addr}{ms:List Int}{k:Int}{tk:Tok}{Q:Bool->Shared->Prop}(hS:IntSet P w s.heap a ms)(hr:ms.length+1<scanBound)
    (h:∀ (b:Bool) h',Heap.SameBut a s.heap h'->IntSet P w h' a (step_dedup ms k)->Q b { s with heap:=h' }):wpAny (model P w) A (setAddHashed a (.int k tk) ((intKind P w).hash k)) Q E s:=by
  have hk:(intKind P w).is k (.int k tk)=true:=intKind_is ..
  have hsc:(Value.int k tk).scannable=true:=rfl
  generalize Value.int k tk=x at hk hsc
  obtain⟨o,es,ep,t,ho,hex,hd,hel,hp,hb,hf,L⟩:=hS
  have BT:es.size=ms.length:=by rw[<-hp.length_eq,List.length_map,Array.length_toList]
  have hivx:iv x=k:=by obtain⟨_,z⟩:=Value.isInt_shape hk;rw[z];rfl
  unfold setAddHashed setAddHashedIn
  refine wpAny_holding (wpAny_bind (wpAny_setState_of ho hd hf ?_))
  dsimp only
  rw[byScan_of hsc hb hel,if_pos rfl]
  unfold setAddByScan
  refine wpAny_bind (wpAny_bind (wpAny_rule (wpAny_bind (wpAny_setScan_of hk ho hd hf hel ?_))))
  cases hx:es.toList.findIdx? (λe=>(intKind P w).is k e.2)with
  | some j =>
    dsimp only
    obtain⟨hj,pj,_⟩:=List.findIdx?_eq_some_iff_getElem.mp hx
    have hm:k∈ms:=(fB hel hp k).mpr ⟨_,List.getElem_mem hj,pj⟩
    refine wpAny_pure (wpAny_pure ?_)
    have:=h false s.heap (Heap.SameBut.refl a s.heap) ⟨o,es,ep,t,ho,hex,hd,hel,by rw[fE hm];exact hp,hb,hf,L⟩
    exact this
  | none =>
    dsimp only
    have hm:¬ k∈ms:=λz=>by
      obtain⟨e,he,q⟩:=(fB hel hp k).mp z
      have:=List.findIdx?_eq_none_iff.mp hx e he
      rw[q]at this;cases this
    have p1:=layNew_perm t es ((intKind P w).hash k) x
    have f1:=layNew_fits t es ((intKind P w).hash k) x
    have L1:=L.layNew es ((intKind P w).hash k) x
    revert p1 f1 L1
    generalize layNew t es ((intKind P w).hash k) x=r
    obtain⟨e1,t1,wd,gv⟩:=r
    intro p1 f1 L1
    dsimp only at p1 f1 L1 ⊢
    rw[Array.toList_push]at p1
    have hel1:ElemsOf (intKind P w) e1.toList:=(hel.push hk hsc).perm p1
    have hp1:List.Perm (e1.toList.map λe=>iv e.2) (step_dedup ms k):=by
      rw[fF hm]
      refine(p1.map _).trans ?_
      rw[List.map_append,List.map_cons,List.map_nil,hivx]
      exact List.Perm.append_right _ hp
    have hb1:e1.size<scanBound:=by
      rw[<-Array.length_toList,p1.length_eq,List.length_append,Array.length_toList,BT]
      exact hr
    have gw:∀ (b:Bool) (s1:Shared) (R:Unit->Shared->Prop),R () s1 →
        wpAny (model P w) A (match b with
          | true=>rule "set.scan.the-table-gave-way"
          | false=>pure ()) R E s1:=λb s1 R q=>by
      cases b
      ·exact wpAny_pure q
      ·exact wpAny_rule q
    refine wpAny_bind (gw _ _ _ ?_)
    split
    · refine wpAny_bind ?_
      rw[hashByValue_scannable 8 hsc]
      refine wpAny_pure (fD ?_ ho hex hd hel1 hp1 hb1 ?_ ?_ λh' sb S'=> ?_)
      · intro b s1 R q
        cases b
        ·exact wpAny_pure q
        ·exact wpAny_rule q
      · split
        ·exact f1
        ·exact SetTable.fits_plain_off f1
      · split
        ·exact L1
        ·exact L1.plainOff
      ·dsimp only;exact wpAny_pure (h _ h' sb S')
    · refine wpAny_bind (wpAny_pure ?_)
      rw[if_pos rfl]
      refine fD ?_ ho hex hd hel1 hp1 hb1 f1 L1 λh' sb S'=> ?_
      · intro b s1 R q
        cases b
        ·exact wpAny_pure q
        ·exact wpAny_rule q
      ·dsimp only;exact wpAny_pure (h _ h' sb S')
theorem IntSet.at{h h':Heap}{a:Addr}{ms:List Int}(x:IntSet P w h a ms)(k:∀ o,h.get? a=some o->h'.get? a=some o):IntSet P w h' a ms:=by
 obtain⟨o,es,ep,t,ho,r⟩:=x
 exact⟨o,es,ep,t,k _ ho,r⟩
end
section
variable{P:Program}{w:World}{A:Around}{R:Result->Shared->Prop}{I:Addr}{fp wr:List Addr}{G:Array GenState->Array GenState->Prop}{n:Nat}{T:Nat->Value->Prop}{St:Nat->Shared->Prop}
theorem Cc(W:WalksS P w A.in1 I fp wr G n T St)(a:Addr)(ha:a∉fp)(val:Nat->Int)(hv:∀ i v,T i v->∃ t,v=.int (val i) t)(hb:n+1<scanBound):∀ (k i:Nat) (s:Shared),n - i=k->i<=n->St i s →
  IntSet P w s.heap a (firstMet val i)->(∀ s',Moved (a::wr) G s s'->IntSet P w s'.heap a (firstMet val n)->R (.ok (.ret .none)) s') →
  codeAny (model P w) A (.builtin "set.update.loop" ⟨[.ref a,.ref I],[]⟩) R s:=by
 have haw:a∉wr:=λz=>ha (W.sub _ z)
 have up:∀ b∈wr,b∈a::wr:=λb q=>List.mem_cons_of_mem _ q
 intro k
 induction k with
 | zero =>
  intro i s e1 e2 st S q
  obtain rfl:i=n:=by omega
  refine codeAny_builtin PyProof.Rows.F.entry_set_update_loop ?_
  rw[Around.under_plainId PyProof.Rows.F.plain_set_update_loop _]
  show wpAny _ A.in1 (pyNext (.ref I) >>= _) _ _ s
  refine wpAny_bind (W.done s _ _ st λs' m=> ?_)
  show wpAny _ A.in1 (ret Value.none) _ _ s'
  exact wpAny_pure (q s' (m.mono up) (S.at λo e=>m.heap a o haw e))
 | succ k ih =>
  intro i s e1 e2 st S q
  have hi:i<n:=by omega
  refine codeAny_builtin PyProof.Rows.F.entry_set_update_loop ?_
  rw[Around.under_plainId PyProof.Rows.F.plain_set_update_loop _]
  show wpAny _ A.in1 (pyNext (.ref I) >>= _) _ _ s
  refine wpAny_bind (W.item i s _ _ hi st λv s1 tv st1 m=> ?_)
  obtain⟨t,rfl⟩:=hv i v tv
  have S1:=S.at λo e=>m.heap a o haw e
  show wpAny _ A.in1 (holding [Value.int (val i) t] (setAdd a (.int (val i) t)) >>= _) _ _ s1
  refine wpAny_bind (wpAny_holding ?_)
  unfold setAdd
  refine wpAny_holding (wpAny_bind ((intKind P w).pyHash (k:=val i) (intKind_is ..) ?_))
  refine Cb (s:={ s1 with toks:=s1.toks+1 }) S1 (by have:=firstMet_length_le val i;omega) λb h' sb S2=> ?_
  rw[<-firstMet_succ]at S2
  refine wpAny_pure ⟨plainId_quiet PyProof.Rows.F.plain_set_update_loop _,ih (i+1) _ (by omega) hi (W.frame _ s1 _ _ st1 (Nat.le_succ _) λb hb o e=> ?_) S2 λs2 m2 S3=> ?_⟩
  ·rw[sb.2 b λz:b=a=>ha (z ▸ hb)];exact e
  ·refine q s2 (Moved.trans W.gtrans ((m.mono up).then_heap (Nat.le_succ _) λb o hb e=> ?_) m2) S3
   rw[sb.2 b λz:b=a=>hb (z ▸ List.mem_cons_self)];exact e
end
section
variable{P:Program}{w:World}{A:Around}{E:Value->Shared->Prop}{s:Shared}
theorem Cd{x:Value}{Q:Value->Shared->Prop}(h:Q (.ref s.heap.objs.size) { s with heap:=s.heap.push { cls:=.type "set",dict:=none,data:=.set #[] 0 (.fresh 0 0 (JS w)) } }) :
  codeAny (model P w) A (.call (.builtin "set.__new__") ⟨[.type "set",x],[]⟩) (wants Q E) s:=by
 refine codeAny_of_tree ?_
 show wpAny _ A.in1 (checkBuiltinCall "set.__new__" ⟨[.type "set",x],[]⟩ >>= λ_=>again (.builtin "set.__new__" ⟨[.type "set",x],[]⟩)) _ _ s
 refine wpAny_bind (wpAny_of_eq (PySem.F.newCall_set_1 x) (wpAny_pure ⟨plainId_quiet PySem.F.plain_set_new _,codeAny_builtin PySem.F.entry_set_new ?_⟩))
 rw[Around.under_plainId PySem.F.plain_set_new _]
 unfold Builtin.«set.__new__» Builtin.Frozenset.newClass
 have e:=sub_set_self
 obtain⟨hp,g,d,tk,os⟩:=s
 dsimp only
 wp_walk
 refine wpAny_askSetting (wpAny_pure ?_)
 dsimp only
 simp only[newObj]
 exact wpAny_bind (wpAny_alloc (wpAny_pure (wpAny_pure h)))
end
end L2
namespace L2
open PySem PyProof.Rows
abbrev G2(f:Value)(i:Nat)(a:Addr)(n ep:Nat):Obj:={ cls:=.type "set_iterator",dict:=none,data:=.fields #[f,rawInt i,.ref a,rawInt n,rawInt ep],slots:= #[] }
theorem G3:Slot "set_iterator" "__next__" "set_iterator.__next__" :=
 .of (owner:="set_iterator") (n:="__next__") (by rw[typeLookup_type,builtinLookup_eq_fast];kernel_rfl) (by decide +kernel) (by decide +kernel) (by decide +kernel)
  (by first | exact .inl (by decide +kernel) | exact .inr (by decide +kernel))
  (by rw[isSubtype_type];kernel_rfl)
theorem O6:entryFor table "set_iterator.__next__"=some Builtin.«set_iterator.__next__» :=entryFor_of_fast (by kernel_rfl)
theorem O7(a:Value):argsOk "set_iterator.__next__" ⟨[a],[]⟩:=by
 unfold argsOk
 kernel_rfl
theorem fG:Slot "set_iterator" "__iter__" "set_iterator.__iter__" :=
 .of (owner:="set_iterator") (n:="__iter__") (by rw[typeLookup_type,builtinLookup_eq_fast];kernel_rfl) (by decide +kernel) (by decide +kernel) (by decide +kernel)
  (by first | exact .inl (by decide +kernel) | exact .inr (by decide +kernel))
  (by rw[isSubtype_type];kernel_rfl)
section
variable{P:Program}{w:World}{A:Around}{E:Value->Shared->Prop}{s:Shared}
theorem Cg{it a:Addr}{sl i n ep nx:Nat}{x:Value}{o:Obj}{es:Array (Int × Value)}{ep':Nat}{t:SetTable}{Q:Option Value->Shared->Prop}(hit:s.heap.get? it=some (G2 (rawInt sl) i a n ep))
  (ho:s.heap.get? a=some o) (hd:o.data=.set es ep' t) (hf:t.fits es.size=true) (hn:es.size=n)
  (hs:∀ (A':Around) (E':Value->Shared->Prop) (Q':Option (Value × Nat)->Shared->Prop),Q' (some (x,nx)) s->wpAny (model P w) A' (setNext a sl i ep) Q' E' s)
  (q:∀ h',h'.get? it=some (G2 (rawInt nx) (i+1) a n ep)->Heap.SameBut it s.heap h'->Q (some x) { s with heap:=h' }):wpAny (model P w) A (pyNext (.ref it)) Q E s:=by
 have T:s.TypeIs (.ref it) "set_iterator":=⟨_,hit,rfl⟩
 unfold pyNext
 refine wpAny_bind (wpAny_attempt (wpAny_callSpecial?_slot (name:=Str.ofString "__next__") T G3 (wpAny_call_entry G3 T O6 ?_ (O7 _))))
 unfold Builtin.«set_iterator.__next__»
 refine wpAny_bind (wpAny_pure ?_)
 refine wpAny_bind (wpAny_fieldsOf hit rfl ?_)
 show wpAny _ _ (setEntries a >>= _) _ _ s
 refine wpAny_bind (wpAny_setEntries_of ho hd hf ?_)
 rw[if_neg (by rw[hn];simp)]
 show wpAny _ _ (setNext a (sl:Int).toNat (i:Int).toNat (ep:Int).toNat >>= _) _ _ s
 rw[Int.toNat_natCast,Int.toNat_natCast,Int.toNat_natCast]
 refine wpAny_bind (hs _ _ _ ?_)
 dsimp only
 refine wpAny_bind (wpAny_setField_rec hit (by simp) λh1 g1 b1=> ?_)
 refine wpAny_bind (wpAny_setField_rec g1 (by simp) λh2 g2 b2=> ?_)
 exact wpAny_pure ⟨_,rfl,wpAny_pure (q h2 g2 (b1.trans b2))⟩
theorem fH{it:Addr}{h1:Heap}{Q:Except Value (Option Value)->Shared->Prop}(hh:A.handled=none)(hx:Heap.ExtBut it s.heap h1)
  (q:∀ h' e,Heap.ExtBut it s.heap h'->({ s with heap:=h' }:Shared).TypeIs e "StopIteration"->Q (.error e) { s with heap:=h' }) :
  wpAny (model P w) A (newExc (.type "StopIteration") [] >>= raiseNew (α :=Fin)) (λ_ _=>False) (λe=>Q (.error e)) { s with heap:=h1 }:=by
 refine wpAny_bind ?_
 simp only[newExc,newTuple]
 refine wpAny_bind (wpAny_newObj_type ?_ (by size_fits))
 refine wpAny_bind (m:=firstArgMember _ _) (wpAny_of_eq (a:=Value.none) (by first | rfl | (simp only[firstArgMember];rfl)) ?_)
 refine wpAny_newObj_type ?_ (by size_fits)
 simp only[raiseNew]
 refine wpAny_bind (wpAny_handled ?_)
 rw[hh]
 refine wpAny_bind (wpAny_pure (wpAny_throw ?_))
 exact q _ _ ((hx.push _).push _) ⟨_,Heap.get?_push_size _ rfl,rfl⟩
theorem Cj{it a:Addr}{sl i n ep:Nat}{o:Obj}{es:Array (Int × Value)}{ep':Nat}{t:SetTable}{Q:Option Value->Shared->Prop}(hh:A.handled=none)(hit:s.heap.get? it=some (G2 (rawInt sl) i a n ep))
  (ho:s.heap.get? a=some o) (hd:o.data=.set es ep' t) (hf:t.fits es.size=true) (hn:es.size=n)
  (hs:∀ (A':Around) (E':Value->Shared->Prop) (Q':Option (Value × Nat)->Shared->Prop),Q' none s->wpAny (model P w) A' (setNext a sl i ep) Q' E' s)
  (q:∀ h',Heap.ExtBut it s.heap h'->Q none { s with heap:=h' }):wpAny (model P w) A (pyNext (.ref it)) Q E s:=by
 have T:s.TypeIs (.ref it) "set_iterator":=⟨_,hit,rfl⟩
 unfold pyNext
 refine wpAny_bind (wpAny_attempt (wpAny_callSpecial?_slot (name:=Str.ofString "__next__") T G3 (wpAny_call_entry G3 T O6 ?_ (O7 _))))
 unfold Builtin.«set_iterator.__next__»
 refine wpAny_bind (wpAny_pure ?_)
 refine wpAny_bind (wpAny_fieldsOf hit rfl ?_)
 show wpAny _ _ (setEntries a >>= _) _ _ s
 refine wpAny_bind (wpAny_setEntries_of ho hd hf ?_)
 rw[if_neg (by rw[hn];simp)]
 show wpAny _ _ (setNext a (sl:Int).toNat (i:Int).toNat (ep:Int).toNat >>= _) _ _ s
 rw[Int.toNat_natCast,Int.toNat_natCast,Int.toNat_natCast]
 refine wpAny_bind (hs _ _ _ ?_)
 dsimp only
 refine wpAny_bind (wpAny_setField_rec hit (by simp) λh1 g1 b1=> ?_)
 refine wpAny_mono (fH (s:=s) (it:=it) (A:=A.in1) (Q:=λr s'=>match r with
  | .error e=>wpAny (model P w) A (isInstance e (.type "StopIteration") >>= λb=>if b=true then pure none else throw e) Q E s'
  | _=>False) (by simpa using hh) b1.extBut λh' e hx te=> ?_) (λ_ _ z=>z.elim) (λe s' z=>z)
 refine wpAny_bind (wpAny_isInstance (T:="StopIteration") (b:=true) te isSubtype_stop ?_)
 exact wpAny_pure (q _ hx)
theorem Ck{it a tp:Addr}{i n ep pl:Nat}{ot:Obj}{ps:Array Value}{k:Nat}{x:Int × Value}{o:Obj}{es:Array (Int × Value)}{t:SetTable}{Q:Option Value->Shared->Prop}(hit:s.heap.get? it=some (G2 (.ref tp) i a n ep))
  (ho:s.heap.get? a=some o) (hd:o.data=.set es ep t) (hf:t.fits es.size=true) (hn:es.size=n) (ht:s.heap.get? tp=some ot) (hdt:ot.data=.seq ps k) (hp:ps[i]? =some (rawInt pl)) (hx:es[pl]? =some x)
  (q:∀ h',h'.get? it=some (G2 (.ref tp) (i+1) a n ep)->Heap.SameBut it s.heap h'->Q (some x.2) { s with heap:=h' }):wpAny (model P w) A (pyNext (.ref it)) Q E s:=by
 have T:s.TypeIs (.ref it) "set_iterator":=⟨_,hit,rfl⟩
 unfold pyNext
 refine wpAny_bind (wpAny_attempt (wpAny_callSpecial?_slot (name:=Str.ofString "__next__") T G3 (wpAny_call_entry G3 T O6 ?_ (O7 _))))
 unfold Builtin.«set_iterator.__next__»
 refine wpAny_bind (wpAny_pure ?_)
 refine wpAny_bind (wpAny_fieldsOf hit rfl ?_)
 show wpAny _ _ (setEntries a >>= _) _ _ s
 refine wpAny_bind (wpAny_setEntries_of ho hd hf ?_)
 rw[if_neg (by rw[hn];simp)]
 show wpAny _ _ (seqItems? (.ref tp) >>= _) _ _ s
 refine wpAny_bind (wpAny_seqItems ht hdt ?_)
 dsimp only
 rw[Int.toNat_natCast,hp]
 show wpAny _ _ (setNextDrawn a (pl:Int).toNat (ep:Int).toNat >>= _) _ _ s
 rw[Int.toNat_natCast,Int.toNat_natCast]
 unfold setNextDrawn
 refine wpAny_bind (wpAny_bind (wpAny_setState_of ho hd hf ?_))
 dsimp only
 rw[if_neg (by simp)]
 obtain⟨x1,x2⟩:=x
 rw[hx]
 refine wpAny_pure ?_
 refine wpAny_bind (wpAny_setField_rec hit (by simp) λh2 g2 b2=> ?_)
 exact wpAny_pure ⟨_,rfl,wpAny_pure (q h2 g2 b2)⟩
theorem Cl{it a tp:Addr}{i n ep:Nat}{ot:Obj}{ps:Array Value}{k:Nat}{o:Obj}{es:Array (Int × Value)}{t:SetTable}{Q:Option Value->Shared->Prop}(hh:A.handled=none)(hit:s.heap.get? it=some (G2 (.ref tp) i a n ep))
  (ho:s.heap.get? a=some o) (hd:o.data=.set es ep t) (hf:t.fits es.size=true) (hn:es.size=n) (ht:s.heap.get? tp=some ot) (hdt:ot.data=.seq ps k) (hp:ps[i]? =none)
  (q:∀ h',Heap.ExtBut it s.heap h'->Q none { s with heap:=h' }):wpAny (model P w) A (pyNext (.ref it)) Q E s:=by
 have T:s.TypeIs (.ref it) "set_iterator":=⟨_,hit,rfl⟩
 unfold pyNext
 refine wpAny_bind (wpAny_attempt (wpAny_callSpecial?_slot (name:=Str.ofString "__next__") T G3 (wpAny_call_entry G3 T O6 ?_ (O7 _))))
 unfold Builtin.«set_iterator.__next__»
 refine wpAny_bind (wpAny_pure ?_)
 refine wpAny_bind (wpAny_fieldsOf hit rfl ?_)
 show wpAny _ _ (setEntries a >>= _) _ _ s
 refine wpAny_bind (wpAny_setEntries_of ho hd hf ?_)
 rw[if_neg (by rw[hn];simp)]
 show wpAny _ _ (seqItems? (.ref tp) >>= _) _ _ s
 refine wpAny_bind (wpAny_seqItems ht hdt ?_)
 dsimp only
 rw[Int.toNat_natCast,hp]
 dsimp only
 refine wpAny_bind (wpAny_setField_rec hit (by simp) λh1 g1 b1=> ?_)
 refine wpAny_bind (wpAny_setField_rec g1 (by simp) λh2 g2 b2=> ?_)
 refine wpAny_mono (fH (s:=s) (it:=it) (A:=A.in1) (Q:=λr s'=>match r with
  | .error e=>wpAny (model P w) A (isInstance e (.type "StopIteration") >>= λb=>if b=true then pure none else throw e) Q E s'
  | _=>False) (by simpa using hh) (b1.trans b2).extBut λh' e hx te=> ?_) (λ_ _ z=>z.elim) (λe s' z=>z)
 refine wpAny_bind (wpAny_isInstance (T:="StopIteration") (b:=true) te isSubtype_stop ?_)
 exact wpAny_pure (q _ hx)
theorem Cm{a:Addr}{o:Obj}{es:Array (Int × Value)}{ep:Nat}{t:SetTable}{i:Nat}{Q:Option (Value × Nat)->Shared->Prop}(ft:w.params.followText "set-order"=true)(ho:s.heap.get? a=some o)(hd:o.data=.set es ep t)(hf:t.fits es.size=true)
  (q:Q (((pickOrder (w.params.setOrder a ep) es)[i]?).map λe=>(e.2,0)) s):wpAny (model P w) A (setNext a 0 i ep) Q E s:=by
 unfold setNext
 refine wpAny_bind (wpAny_setState_of ho hd hf ?_)
 dsimp only
 refine wpAny_bind ?_
 unfold setsByText
 refine wpAny_bind (wpAny_askSetting (wpAny_pure ?_))
 show wpAny _ _ (if w.params.followText "set-order"=true then _ else _) _ _ s
 rw[if_pos ft,if_neg (by simp)]
 refine wpAny_bind ?_
 unfold setWalk
 refine wpAny_bind (wpAny_setState_of ho hd hf ?_)
 dsimp only
 refine wpAny_bind ?_
 unfold setsByText
 refine wpAny_bind (wpAny_askSetting (wpAny_pure ?_))
 show wpAny _ _ (if w.params.followText "set-order"=true then _ else _) _ _ s
 rw[if_pos ft]
 refine wpAny_bind (wpAny_askSetting (wpAny_pure ?_))
 exact wpAny_pure q
theorem Cp{a:Addr}{o:Obj}{es:Array (Int × Value)}{ep:Nat}{t:SetTable}{i:Nat}{Q:Option (Value × Nat)->Shared->Prop}(ft:w.params.followText "set-order"=false)(ho:s.heap.get? a=some o)(hd:o.data=.set es ep t)(hf:t.fits es.size=true)
  (L:Led (JS w) t) (pl:(!t.plain && decide (es.size > 1))=false) (hi:i<=es.size) (q:Q ((es[i]?).map λe=>(e.2,LA t.place (i+1))) s):wpAny (model P w) A (setNext a (LA t.place i) i ep) Q E s:=by
 have hz:t.place.size=es.size:=by
  unfold SetTable.fits at hf
  simp only[Bool.and_eq_true,beq_iff_eq]at hf
  exact hf.1
 unfold setNext
 refine wpAny_bind (wpAny_setState_of ho hd hf ?_)
 dsimp only
 refine wpAny_bind ?_
 unfold setsByText
 refine wpAny_bind (wpAny_askSetting (wpAny_pure ?_))
 show wpAny _ _ (if w.params.followText "set-order"=true then _ else _) _ _ s
 rw[if_neg (show ¬ w.params.followText "set-order"=true by rw[ft];exact Bool.false_ne_true)]
 have ld:t.led=true:=by rw[L.led];unfold JS;rw[ft];rfl
 show wpAny _ _ (if(!t.plain && decide (es.size > 1))=true then _ else _) _ _ s
 rw[if_neg (by rw[pl];exact Bool.false_ne_true)]
 refine wpAny_bind (m:=if(!t.led && !es.isEmpty)=true then _ else _) ?_
 rw[if_neg (by rw[ld];simp)]
 refine wpAny_pure (wpAny_pure ?_)
 rw[By L.rise (by omega)]
 by_cases BD:i<es.size
 ·have h2:i<t.place.size:=by omega
  rw[Array.getElem?_eq_getElem BD,Array.getElem?_eq_getElem h2]
  rw[Array.getElem?_eq_getElem BD]at q
  have:LA t.place (i+1)=t.place[i]+1:=by simp[LA,h2]
  rw[Option.map_some,this]at q
  exact q
 ·rw[Array.getElem?_eq_none (by omega)]
  rw[Array.getElem?_eq_none (by omega),Option.map_none]at q
  exact q
end
end L2
namespace L2
open PySem PyProof.Rows
theorem Cq:entryFor table "set.__iter__"=some Builtin.«frozenset.__iter__» :=entryFor_alias (id':="frozenset.__iter__") (by kernel_rfl) rfl (by decide +kernel) (by kernel_rfl)
theorem Cv:entryFor table "set_iterator.__iter__"=some Builtin.«dict_keyiterator.__iter__» :=entryFor_alias (id':="dict_keyiterator.__iter__") (by kernel_rfl) rfl (by decide +kernel) (by kernel_rfl)
theorem Cw(a:Value):argsOk "set_iterator.__iter__" ⟨[a],[]⟩:=by
 unfold argsOk
 kernel_rfl
structure T5(P:Program)(w:World)(A:Around)(h h1:Heap)(a I:Addr)(ms:List Int):Prop where
 ex:∃ (fp:List Addr) (ord:List Value) (ks:List Int) (St:Nat->Heap->Prop),(∀ b∈fp,b=a\/h.objs.size<=b)/\Walks P w A I fp [I] ord.length (λi v=>ord[i]? =some v) St/\St 0 h1/\IntsAre ord ks/\ks.Perm ms
 new:h.objs.size<=I
section
variable{P:Program}{w:World}{A:Around}{E:Value->Shared->Prop}{s:Shared}
theorem T6:∀ {es:List (Int × Value)},ElemsOf (intKind P w) es->IntsAre (es.map (·.2)) (es.map λe=>iv e.2)
 | [],_=>.nil
 | e::r,h=>by
  obtain⟨t,z⟩:=T3 h (List.mem_cons_self ..)
  have:=T6 h.tail
  rw[List.map_cons,List.map_cons,z]
  exact .cons _ _ this
theorem fI{it:Addr}{f:Value}{i:Nat}{a:Addr}{n ep:Nat}{Q:Value->Shared->Prop}(hit:s.heap.get? it=some (G2 f i a n ep))(q:Q (.ref it) s):wpAny (model P w) A (pyIter (.ref it)) Q E s:=by
 have T:s.TypeIs (.ref it) "set_iterator":=⟨_,hit,rfl⟩
 refine wpAny_pyIter_slot T fG (wpAny_call_entry fG T Cv ?_ (Cw _))
 show wpAny _ _ (ret (.ref it)) _ _ s
 exact wpAny_pure ⟨_,rfl,"set_iterator",_,T,G3.lookup,q⟩
theorem Cy{a I:Addr}{es:Array (Int × Value)}{ep:Nat}{t:SetTable}{o:Obj}{f:Nat->Nat}{ord:List Value}(hh:A.handled=none)(hne:a≠I)(hd:o.data=.set es ep t)(hf:t.fits es.size=true)(hl:ord.length=es.size)
  (nx:∀ (s:Shared),s.heap.get? a=some o->∀ (i:Nat),i<=es.size->∀ (A':Around) (E':Value->Shared->Prop) (Q':Option (Value × Nat)->Shared->Prop),Q' ((ord[i]?).map λv=>(v,f (i+1))) s->wpAny (model P w) A' (setNext a (f i) i ep) Q' E' s) :
  Walks P w A I [I,a] [I] ord.length (λi v=>ord[i]? =some v) (λi h=>h.get? I=some (G2 (rawInt (f i)) i a es.size ep)/\h.get? a=some o) where
 sub:=λb hb=>by simp at hb;simp[hb]
 frame:=λ_ _ _ st k=>⟨k I (by simp) _ st.1,k a (by simp) _ st.2⟩
 item:=λi s Q E hi st q=>by
  have e:ord[i]? =some ord[i]:=List.getElem?_eq_getElem hi
  refine Cg st.1 st.2 hd hf rfl (λA' E' Q' q'=>nx s st.2 i (by omega) A' E' Q' (by rw[e];exact q')) λh' g b=> ?_
  exact q _ h' s.toks e ⟨g,b.extBut a _ hne st.2⟩ λc u hc z=>b.extBut c u (λy=>hc (by simp[y])) z
 done:=λs Q E st q=>by
  refine Cj hh st.1 st.2 hd hf rfl (λA' E' Q' q'=>nx s st.2 ord.length (by omega) A' E' Q' (by rw[List.getElem?_eq_none (Nat.le_refl _)];exact q')) λh' x=> ?_
  exact q h' s.toks λc u hc z=>x c u (λy=>hc (by simp[y])) z
 self:=λ_ _ _ _ st q=>fI st.1 q
theorem Cz{a I tp:Addr}{es:Array (Int × Value)}{ep k:Nat}{t:SetTable}{o ot:Obj}{pl:List Nat}{ord:List Value}(hh:A.handled=none)(hne:a≠I)(hnt:tp≠I)(hd:o.data=.set es ep t)(hf:t.fits es.size=true)
  (hdt:ot.data=.seq (pl.map λ(i:Nat)=>rawInt i).toArray k) (hl:ord.length=pl.length) (hx:∀ (i p:Nat),pl[i]? =some p->∃ e:Int × Value,es[p]? =some e/\ord[i]? =some e.2) :
  Walks P w A I [I,a,tp] [I] ord.length (λi v=>ord[i]? =some v) (λi h=>h.get? I=some (G2 (.ref tp) i a es.size ep)/\h.get? a=some o/\h.get? tp=some ot) where
 sub:=λb hb=>by simp at hb;simp[hb]
 frame:=λ_ _ _ st k=>⟨k I (by simp) _ st.1,k a (by simp) _ st.2.1,k tp (by simp) _ st.2.2⟩
 item:=λi s Q E hi st q=>by
  have hi':i<pl.length:=by omega
  have e:=List.getElem?_eq_getElem hi'
  obtain⟨x,e1,e2⟩:=hx i _ e
  refine Ck st.1 st.2.1 hd hf rfl st.2.2 hdt (by rw[List.getElem?_toArray,List.getElem?_map,e];rfl) e1 λh' g b=> ?_
  exact q _ h' s.toks e2 ⟨g,b.extBut a _ hne st.2.1,b.extBut tp _ hnt st.2.2⟩ λc u hc z=>b.extBut c u (λy=>hc (by simp[y])) z
 done:=λs Q E st q=>by
  refine Cl hh st.1 st.2.1 hd hf rfl st.2.2 hdt (by rw[List.getElem?_toArray,List.getElem?_map,List.getElem?_eq_none (by omega)];rfl) λh' x=> ?_
  exact q h' s.toks λc u hc z=>x c u (λy=>hc (by simp[y])) z
 self:=λ_ _ _ _ st q=>fI st.1 q
theorem Db{n:Nat}{Q:Nat->Shared->Prop}(hn:n≠0)(q:∀ i d,i<n->Q i { s with drawn:=d }):wpAny (model P w) A (choose .order n) Q E s:=fun Γ p hΓ =>by
 show Sem.wp _ _ (.choose .order n .pure) _ _ _ _
 rw[Sem.wp_choose]
 refine⟨hn,?_⟩
 show Sem.wp _ _ (.pure _) _ _ _ _
 rw[Sem.wp]
 exact q _ _ (Nat.mod_lt _ (Nat.pos_of_ne_zero hn))
theorem fJ{α :Type}:∀ (n:Nat) (xs:List α) (s:Shared) (Q:List α ->Shared->Prop),xs.length=n->(∀ ys d,List.Perm ys xs->Q ys { s with drawn:=d })->wpAny (model P w) A (drawOrder n xs) Q E s
 | 0,xs,s,Q,hn,q=>by
  have:xs=[]:=List.length_eq_zero_iff.mp hn
  subst this
  unfold drawOrder
  exact wpAny_pure (q [] s.drawn .nil)
 | n+1,[],s,Q,hn,q=>by cases hn
 | n+1,x::r,s,Q,hn,q=>by
  unfold drawOrder
  refine wpAny_bind (Db (by simp) λi d hi=> ?_)
  rw[List.getElem?_eq_getElem hi]
  dsimp only
  refine wpAny_bind (fJ n _ _ _ (by rw[List.length_eraseIdx_of_lt hi,hn];rfl) λys d' p=> ?_)
  refine wpAny_pure (q _ d' ?_)
  refine(List.Perm.cons _ p).trans ?_
  rw[List.eraseIdx_eq_take_drop_succ]
  refine List.perm_middle.symm.trans ?_
  rw[<-List.drop_eq_getElem_cons hi,List.take_append_drop]
theorem Dc {a:Addr} {ms:List Int} {Q:Value->Shared->Prop} (hh:A.handled=none) (S:IntSet P w s.heap a ms)
    (q:∀ I h1 d1,(∀ b o,s.heap.get? b=some o->h1.get? b=some o)->T5 P w A s.heap h1 a I ms->Q (.ref I) { s with heap:=h1,drawn:=d1 }):wpAny (model P w) A (pyIter (.ref a)) Q E s:=by
  obtain⟨o,es,ep,t,ho,hex,hd,hel,hp,hb,hf,L⟩:=S
  have T:s.TypeIs (.ref a) "set":=⟨o,ho,hex.1⟩
  have BD:a<s.heap.objs.size:=Heap.lt_size ho
  refine wpAny_pyIter_slot T PySem.F.slot_set_iter (wpAny_call_entry PySem.F.slot_set_iter T Cq ?_ (PySem.F.args_set_iter_1 _))
  unfold Builtin.«frozenset.__iter__»
  show wpAny _ _ ((pure a:Sem Addr) >>= _) _ _ s
  refine wpAny_bind (wpAny_pure ?_)
  refine wpAny_bind ?_
  unfold Builtin.Frozenset.sizeOf
  refine wpAny_bind (wpAny_setEntries_of ho hd hf (wpAny_pure ?_))
  refine wpAny_bind ?_
  unfold setDrawn
  refine wpAny_bind (wpAny_setState_of ho hd hf ?_)
  dsimp only
  refine wpAny_bind ?_
  unfold setsByText
  refine wpAny_bind (wpAny_askSetting (wpAny_pure (wpAny_pure ?_)))
  show wpAny _ _ (if(!w.params.followText "set-order" && (!t.plain && decide (es.size > 1)))=true then _ else _) _ _ s
  have plain:∀ (f:Nat->Nat) (ord:List Value),f 0=0->ord.length=es.size->(∃ ks,IntsAre ord ks/\ks.Perm ms) →
      (∀ (s:Shared),s.heap.get? a=some o->∀ (i:Nat),i<=es.size->∀ (A':Around) (E':Value->Shared->Prop) (Q':Option (Value × Nat)->Shared->Prop),Q' ((ord[i]?).map λv=>(v,f (i+1))) s->wpAny (model P w) A' (setNext a (f i) i ep) Q' E' s) →
      T5 P w A s.heap (s.heap.push (G2 (rawInt 0) 0 a es.size ep)) a s.heap.objs.size ms:=λf ord f0 hl ⟨ks,hi,pk⟩ nx =>
    ⟨⟨_,ord,ks,_,λb hb=>by
        simp only[List.mem_cons,List.not_mem_nil,or_false]at hb
        rcases hb with rfl | rfl
        ·exact .inr (Nat.le_refl _)
        ·exact .inl rfl,Cy hh (Nat.ne_of_lt BD) hd hf hl nx,⟨by rw[f0];exact Heap.get?_push_size _ rfl,Heap.get?_push_of_some _ ho⟩,hi,pk⟩,Nat.le_refl _⟩
  have fin:∀ (W:T5 P w A s.heap (s.heap.push (G2 (rawInt 0) 0 a es.size ep)) a s.heap.objs.size ms),
      wpAny (model P w) A.in1 (do
        let first ← (pure (rawInt 0):Sem Value)
        ret (← newFields "set_iterator" [first,rawInt 0,.ref a,rawInt es.size,rawInt (← setEpoch a)])) (λfin s'=>∃ v,fin=.done (.ret v)/\∃ T' r,s'.TypeIs v T'/\typeLookup (.type T') "__next__"=pure (some r)/\Q v s') E s:=λW=>by
    refine wpAny_bind (wpAny_pure ?_)
    refine wpAny_bind (wpAny_setEpoch_of ho hd hf ?_)
    refine wpAny_bind (wpAny_newObj_type (wpAny_pure ⟨_,rfl,"set_iterator",_,⟨_,Heap.get?_push_size _ rfl,rfl⟩,G3.lookup,?_⟩))
    exact q _ _ s.drawn (λb u e=>Heap.get?_push_of_some _ e) W
  cases ft:w.params.followText "set-order" with
  | true =>
    rw[if_neg (by simp)]
    have pk:=Bz (w.params.setOrder a ep) es
    have hl:(pickOrder (w.params.setOrder a ep) es).size=es.size:=by rw[<-Array.length_toList,pk.length_eq,Array.length_toList]
    refine fin (plain (λ_=>0) ((pickOrder (w.params.setOrder a ep) es).toList.map (·.2)) rfl (by rw[List.length_map,Array.length_toList,hl]) ⟨_,T6 (hel.perm pk),(pk.map _).trans hp⟩ λs1 h1 i hi A' E' Q' q'=> ?_)
    refine Cm ft h1 hd hf ?_
    rw[List.getElem?_map,Array.getElem?_toList,Option.map_map]at q'
    exact q'
  | false =>
    cases pl:(!t.plain && decide (es.size > 1))with
    | false =>
      rw[if_neg (by simp)]
      refine fin (plain (LA t.place) (es.toList.map (·.2)) rfl (by rw[List.length_map,Array.length_toList]) ⟨_,T6 hel,hp⟩ λs1 h1 i hi A' E' Q' q'=> ?_)
      refine Cp ft h1 hd hf L pl hi ?_
      rw[List.getElem?_map,Array.getElem?_toList,Option.map_map]at q'
      exact q'
    | true =>
      rw[if_pos (by simp)]
      refine wpAny_bind (fJ es.size (List.range es.size) s _ (List.length_range) λys d p=> ?_)
      have hy:ys.length=es.size:=by rw[p.length_eq,List.length_range]
      have hys:∀ x∈ys,x<es.size:=λx hx=>List.mem_range.mp (p.mem_iff.mp hx)
      refine wpAny_bind (wpAny_newTuple ?_ (by rw[List.length_map,hy];exact fits_of_scanBound hb))
      refine wpAny_bind (wpAny_setEpoch_of (o:=o) (Heap.get?_push_of_some _ ho) hd hf ?_)
      refine wpAny_bind (wpAny_newObj_type (wpAny_pure ⟨_,rfl,"set_iterator",_,⟨_,Heap.get?_push_size _ rfl,rfl⟩,G3.lookup,?_⟩))
      refine q _ _ d (λb u e=>Heap.get?_push_of_some _ (Heap.get?_push_of_some _ e)) ⟨⟨_,ys.map λp=>(es[p]?.map (·.2)).getD .none,ys.map λp=>(es[p]?.map λe=>iv e.2).getD 0,_,λb hb=> ?_,
        Cz hh ?_ ?_ hd hf rfl (by rw[List.length_map]) λi p e=> ?_,⟨Heap.get?_push_size _ rfl,Heap.get?_push_of_some _ (Heap.get?_push_of_some _ ho),Heap.get?_push_of_some _ (Heap.get?_push_size _ rfl)⟩,?_,?_⟩,?_⟩
      · simp only[List.mem_cons,List.not_mem_nil,or_false]at hb
        rcases hb with rfl | rfl | rfl
        ·right;rw[size_push'];exact Nat.le_succ _
        ·exact .inl rfl
        ·exact .inr (Nat.le_refl _)
      ·rw[size_push'];exact Nat.ne_of_lt (Nat.lt_succ_of_lt BD)
      ·rw[size_push'];exact Nat.ne_of_lt (Nat.lt_succ_self _)
      · have hp':p<es.size:=hys p (List.mem_of_getElem? e)
        exact⟨es[p],Array.getElem?_eq_getElem hp',by rw[List.getElem?_map,e];simp[hp']⟩
      · have all:∀ (l:List Nat),(∀ x∈l,x<es.size)->IntsAre (l.map λp=>(es[p]?.map (·.2)).getD .none) (l.map λp=>(es[p]?.map λe=>iv e.2).getD 0):=by
          intro l
          induction l with
          | nil=>exact λ_=>.nil
          | cons x r ih =>
            intro hl
            have hx:=hl x (List.mem_cons_self ..)
            obtain⟨tk,z⟩:=T3 hel (e:=es[x]) (by simp)
            have e1:(es[x]?.map (·.2)).getD Value.none=Value.int (iv es[x].2) tk:=by rw[Array.getElem?_eq_getElem hx];exact z
            have e2:(es[x]?.map λe=>iv e.2).getD 0=iv es[x].2:=by rw[Array.getElem?_eq_getElem hx];rfl
            rw[List.map_cons,List.map_cons,e1,e2]
            exact .cons _ _ (ih λy hy=>hl y (List.mem_cons_of_mem _ hy))
        exact all ys hys
      · refine(p.map _).trans (List.Perm.trans (List.Perm.of_eq ?_) hp)
        refine List.ext_getElem (by simp) λi h1 h2=> ?_
        have hi:i<es.size:=by simpa using h1
        simp[hi]
      ·rw[size_push'];exact Nat.le_succ _
theorem Dd{a:Addr}{Q:Bool->Shared->Prop}(T:s.TypeIs (.ref a) "set")(q:Q false s):wpAny (model P w) A (Builtin.List.listLengthHint (.ref a)) Q E s:=by
 unfold Builtin.List.listLengthHint
 refine wpAny_bind (wpAny_specialOf T PySem.F.slot_set_len.lookup ?_)
 generalize hid:("set.__len__":String)=id0
 wp_delta
 rw[show splitId id0=some ("set","__len__")from by subst hid;decide +kernel]
 subst hid
 refine wpAny_bind (wpAny_isInstance (T:="set") (b:=true) T (by rw[isSubtype_type];kernel_rfl) ?_)
 refine wpAny_ite_split (λz=>absurd z (by decide)) (λ_=> ?_)
 refine wpAny_ite_split (λ_=> ?_) (λz=>absurd (by decide +kernel) z)
 exact wpAny_bind (wpAny_typeOf T (wpAny_pure q))
theorem Dg{a:Addr}{ms:List Int}{R:List Value->Shared->Prop}(hh:A.handled=none)(S:IntSet P w s.heap a ms)(hn:ms.length<=sizeLine)
  (q:∀ h' tk d vs ks,(∀ b o,s.heap.get? b=some o->h'.get? b=some o)->s.heap.objs.size<=h'.objs.size->IntsAre vs ks->ks.Perm ms->R vs { s with heap:=h',toks:=tk,drawn:=d }):wpAny (model P w) A (collect (.ref a)) R E s:=by
 have BD:a<s.heap.objs.size:=let ⟨_,_,_,_,ho,_⟩:=S;Heap.lt_size ho
 unfold collect
 refine wpAny_bind (wpAny_runValue (codeAny_builtin entry_proto_collect' ?_))
 rw[Around.under_plainId PySem.F.plain_proto_collect _]
 show wpAny _ A.in1 (newList [] >>= λl=>again (.builtin "list.__iadd__" ⟨[l,.ref a],[]⟩)) _ _ s
 refine wpAny_bind (wpAny_newObj_type ?_)
 refine wpAny_pure ⟨plainId_quiet PySem.F.plain_list_iadd _,codeAny_builtin entry_list_iadd' ?_⟩
 rw[Around.under_plainId PySem.F.plain_list_iadd _]
 show wpAny _ A.in1 (Builtin.List.listExtendWith (.ref s.heap.objs.size) (.ref a) (.ref s.heap.objs.size)) _ _ _
 generalize eN:s.heap.objs.size=N at BD ⊢
 have gN:(s.heap.push { cls:=.type "list",data:=.seq ([]:List Value).toArray }).get? N=some { cls:=.type "list",data:=.seq #[] }:=eN ▸ Heap.get?_push_size _ rfl
 have keep1:∀ b o,s.heap.get? b=some o->(s.heap.push { cls:=.type "list",data:=.seq ([]:List Value).toArray }).get? b=some o:=λb o e=>Heap.get?_push_of_some _ e
 have S1:=S.at λo e=>keep1 a o e
 have big:(s.heap.push { cls:=.type "list",data:=.seq ([]:List Value).toArray }).objs.size=N+1:=by rw[size_push',eN]
 revert gN keep1 S1 big
 generalize s.heap.push { cls:=.type "list",data:=.seq ([]:List Value).toArray }=h0
 intro gN keep1 S1 big
 have T1:∀ h':Heap,(∀ b o,h0.get? b=some o->h'.get? b=some o)->∀ tk d,({ s with heap:=h',toks:=tk,drawn:=d }:Shared).TypeIs (.ref a) "set":=λh' k tk d=>by
  obtain⟨o,_,_,_,ho,hex,_⟩:=S1
  exact⟨o,k _ _ ho,hex.1⟩
 unfold Builtin.List.listExtendWith
 refine wpAny_bind (wpAny_typeOf (T:="set") (T1 h0 (λ_ _ e=>e) s.toks s.drawn) ?_)
 have ne:Builtin.List.listSameRef (.ref N) (.ref a)=false:=by
  simp only[Builtin.List.listSameRef,beq_eq_false_iff_ne]
  exact Nat.ne_of_gt BD
 have n1:(Value.type "set" == Value.type "list")=false:=by decide
 have n2:(Value.type "set" == Value.type "tuple")=false:=by decide
 simp only[ne,n1,n2,Bool.or_false,Bool.false_eq_true,if_false]
 refine wpAny_bind (Dc (A:=A.in1) (s:={ s with heap:=h0 }) (by simpa using hh) S1 λI h1 d1 k1 W=> ?_)
 obtain⟨⟨fp,ord,ks,St,hfp,W,st,hi,pk⟩,hI⟩:=W
 have hI:N+1<=I:=big ▸ hI
 have BT:ord.length=ms.length:=by rw[IntsAre.length hi,pk.length_eq]
 refine wpAny_bind (wpAny_holding (Dd (T1 h1 k1 s.toks d1) ?_))
 rw[if_pos (by decide)]
 refine wpAny_bind (wpAny_rule ?_)
 refine wpAny_bind ?_
 show wpAny _ _ (updateSeq N (·.push .none) >>= λ_=>updateSeq N (·.pop)) _ _ _
 have g1:=k1 _ _ gN
 refine wpAny_bind (wpAny_updateSeq (s:={ s with heap:=h1,drawn:=d1 }) g1 rfl ?_)
 have g2:=Heap.get?_update_self (Obj.mapSeq (·.push Value.none)) g1 rfl
 refine wpAny_updateSeq (hz:=by seq_fits) g2 rfl ?_
 have g3:=Heap.get?_update_self (Obj.mapSeq (·.pop)) g2 rfl
 have oth:∀ b o,b≠N->h1.get? b=some o->((h1.update N (Obj.mapSeq (·.push Value.none))).update N (Obj.mapSeq (·.pop))).get? b=some o:=λb o hb e =>
  (Heap.get?_update_other _ _ (Ne.symm hb)).trans ((Heap.get?_update_other _ _ (Ne.symm hb)).trans e)
 have Nfp:N∉fp:=λz=>by
  rcases hfp N z with y | y
  ·exact Nat.ne_of_gt BD y
  ·have y':h0.objs.size<=N:=y
   rw[big]at y'
   exact absurd y' (Nat.not_succ_le_self _)
 refine wpAny_pure ⟨plainId_quiet PySem.F.plain_extend_loop _,?_⟩
 refine codeAny_extend_loopS W.toS (by rw[BT];exact hn) N Nfp (.ref N) ord.length 0 _ #[] _ rfl (Nat.zero_le _) (W.frame 0 _ _ st λb hb o e=>oth b o (λz=>Nfp (z ▸ hb)) e) g3 (ItemsOf.nil _) λs' BW c m g4 hacc=> ?_
 show wpAny _ A (load N >>= _) _ _ _
 refine wpAny_bind (wpAny_load g4 ?_)
 refine wpAny_pure ?_
 have eacc:BW.toList=ord:=by
  refine List.ext_getElem? λi=> ?_
  by_cases hlt':i<ord.length
  ·have h3:i<BW.size:=by rw[hacc.1];exact hlt'
   have:=hacc.2 i BW[i] (Array.getElem?_eq_getElem h3)
   rw[Array.getElem?_toList,Array.getElem?_eq_getElem h3,this]
  ·have e1:BW.toList[i]? =none:=List.getElem?_eq_none (by rw[Array.length_toList,hacc.1];omega)
   have e2:ord[i]? =none:=List.getElem?_eq_none (by omega)
   rw[e1,e2]
 show R BW.toList s'
 rw[eacc]
 obtain⟨h3,gn3,dr3,tk3,os3⟩:=s'
 have a1:gn3=s.gens:=m.gens
 have a2:dr3=d1:=m.drawn
 have a3:os3=s.os:=m.os
 subst a1;subst a2;subst a3
 refine q _ _ dr3 ord ks (λb o e=> ?_) (by rw[eN];exact Nat.le_of_lt (Heap.lt_size g4)) hi pk
 have hb:b<N:=eN ▸ Heap.lt_size e
 refine m.heap b o (λz=> ?_) (oth b o (Nat.ne_of_lt hb) (k1 _ _ (keep1 _ _ e)))
 simp only[List.mem_cons,List.not_mem_nil,or_false]at z
 rcases z with z | z
 ·exact Nat.ne_of_lt hb z
 ·exact Nat.ne_of_lt (Nat.lt_of_lt_of_le (Nat.lt_succ_of_lt hb) hI) z
theorem Dh{a:Addr}{ms:List Int}{Q:Value->Shared->Prop}(hh:A.handled=none)(S:IntSet P w s.heap a ms)(hn:ms.length<64)
  (q:∀ D h' tk d c out ks,(∀ b o,s.heap.get? b=some o->h'.get? b=some o)->s.heap.objs.size<=D->h'.get? D=some (seqObj "list" out c)->IntsAre out.toList ks->ks.Perm ms->ks.Pairwise (· <=·)->Q (.ref D) { s with heap:=h',toks:=tk,drawn:=d }) :
  wpAny (model P w) A (call (.builtin "sorted") [.ref a]) Q E s:=by
 refine Calls.call_function_entry kind_sorted plain_sorted entry_sorted (args_sorted1 _) ?_
 unfold Builtin.«sorted»
 refine wpAny_bind (m:=checkCount "sorted" 1 1 _) (wpAny_pure ?_)
 refine wpAny_bind (Dg (A:=A.in1) (by simpa using hh) S (by rw[sizeLine_eq];omega) λh1 tk d vs ks k1 size_le hi pk=> ?_)
 have hl:vs.length<64:=by rw[IntsAre.length hi,pk.length_eq];exact hn
 refine wpAny_bind (wpAny_newList ?_ (by rw[sizeLine_eq];omega))
 have g:(h1.push (seqObj "list" vs.toArray 0)).get? h1.objs.size=some (seqObj "list" vs.toArray 0):=Heap.get?_push_size _ rfl
 show wpAny _ _ _ _ _ { s with heap:=h1.push (seqObj "list" vs.toArray 0),toks:=tk,drawn:=d }
 refine wpAny_bind (wpAny_holding (wpAny_call_entry slot_list_sort ⟨_,g,rfl⟩ entry_list_sort (list_sort_tree g hi hl λout ks' i1 p1 r1=>⟨_,rfl,?_⟩) (args_list_sort _)))
 obtain⟨c,gc⟩:=sortedHeap_at (n:=0) (out:=out) g
 refine wpAny_pure ⟨_,rfl,q _ _ tk d c out ks' (λb o e=> ?_) size_le gc i1 (p1.trans pk) r1⟩
 have hb:=Heap.lt_size (k1 _ _ e)
 rw[sortedHeap_old (Nat.ne_of_lt hb) (by rw[size_push'];exact Nat.lt_succ_of_lt hb)]
 exact Heap.get?_push_of_some _ (k1 _ _ e)
end
end L2
namespace L2
open PySem PyProof.Rows
section
variable{P:Program}{w:World}{A:Around}{E:Value->Shared->Prop}{s:Shared}
theorem Dj {l:Addr} {its:Array Value} {ns:List Int} {Q:Value->Shared->Prop} (hh:A.handled=none) (hl:s.heap.IsList l its) (hi:IntsAre its.toList ns) (hb:its.size+1<scanBound)
    (q:∀ h' tk,IntSet P w h' s.heap.objs.size (firstMet (λi=>ns.getD i 0) its.size)->(∀ b o,s.heap.get? b=some o->h'.get? b=some o)->Q (.ref s.heap.objs.size) { s with heap:=h',toks:=tk }) :
    wpAny (model P w) A (call (.type "set") [.ref l]) Q E s:=by
  obtain⟨c,tl,mro⟩:=PySem.F.called_set.mro
  have made:=PySem.F.called_set.made
  have sub:=PySem.F.called_set.sub
  refine wpAny_call (codeAny_of_tree ?_)
  show wpAny _ _ (callAny (.type "set") _) _ _ _
  refine wpAny_pure ⟨Code.quiet_builtin _ (by decide +kernel),codeAny_builtin PySem.F.entry_type_call ?_⟩
  rw[Around.under_plain (weight_type_call_type "set" [.ref l] []) rfl]
  have n1:=PySem.F.called_set.notType
  have n2:=PySem.F.called_set.canCreate
  have n3:=PySem.F.typeCall_set_1 (.ref l)
  repeat (any_goals (first | assumption | wp_step))
  generalize eS:({ cls:=.type "set",dict:=none,data:=.set #[] 0 (.fresh 0 0 (JS w)) }:Obj)=oS
  refine codeAny_mono (Cd (E:=E) (Q:=λx s1=>x=.ref s.heap.objs.size/\s1={ s with heap:=s.heap.push oS }) ⟨rfl,by rw[<-eS]⟩) λr s1 hr=> ?_
  cases r with
  | error e=>exact hr
  | ok fl =>
    cases fl with
    | ret x =>
      obtain⟨rfl,rfl⟩:=hr
      have g0:(s.heap.push oS).get? s.heap.objs.size=some oS:=Heap.get?_push_size _ (by rw[<-eS];rfl)
      have T0:Shared.TypeIs { s with heap:=s.heap.push oS } (.ref s.heap.objs.size) "set":=⟨_,g0,by rw[<-eS]⟩
      have i1:=PySem.F.called_set.init.lookup
      have i2:=PySem.F.called_set.init.bind (.ref s.heap.objs.size)
      repeat (any_goals (first | assumption | wp_step))
      refine codeAny_mono (codeAny_call_builtin (R:=wants (λr s2=>r=.none/\∃ h' tk,s2={ s with heap:=h',toks:=tk }/\IntSet P w h' s.heap.objs.size (firstMet (λi=>ns.getD i 0) its.size) ∧
        (∀ b o,s.heap.get? b=some o->h'.get? b=some o)) E) PySem.F.called_set.init.plain PySem.F.entry_set_init (check_set_init_1 T0 ?_)) λr2 s2 bH=> ?_
      · obtain⟨ol,gl,cl,nl,dl⟩:=hl
        obtain⟨c1,d1,dt1,sl1⟩:=ol
        simp only at cl dl
        subst cl;subst dl
        have gl':=Heap.get?_push_of_some oS gl
        have e1:=PySem.F.sub_list_set
        have e2:=PySem.F.sub_list_frozenset
        have e3:(Value.type "list" == Value.type "dict")=false:=by decide
        have RV:(s.heap.push oS).IsList l its:=⟨_,gl',rfl,nl,rfl⟩
        have BD:l<s.heap.objs.size:=Heap.lt_size gl
        have big:=size_push' s.heap oS
        revert gl' RV g0 T0 big
        have keep0:∀ b o,s.heap.get? b=some o->(s.heap.push oS).get? b=some o:=λb o e=>Heap.get?_push_of_some _ e
        revert keep0
        generalize s.heap.push oS=h0
        intro keep0 g0 T0 gl' RV big
        subst eS
        unfold Builtin.«set.__init__» noKeywords Builtin.Frozenset.updateFrom
        generalize hPI:pyIter=PI
        wp_walk
        subst hPI
        refine wpAny_pyIter_list RV ?_
        refine wpAny_bind (wpAny_runValue ?_)
        have hh3:A.in1.in1.in1.handled=none:=by simp[hh]
        have ne1:l≠h0.objs.size:=Nat.ne_of_lt (by rw[big];exact Nat.lt_succ_of_lt BD)
        have nin:s.heap.objs.size∉[h0.objs.size,l]:=by
          simp only[List.mem_cons,List.not_mem_nil,or_false,not_or]
          exact⟨Nat.ne_of_lt (by rw[big];exact Nat.lt_succ_self _),Nat.ne_of_gt BD⟩
        refine Cc ((Walks.list hh3 _ l ne1 its).toS) s.heap.objs.size nin (λi=>ns.getD i 0) (λi v e=>IntsAre.int_at hi i v (by rw[Array.getElem?_toList];exact e)) hb (its.size - 0) 0 _ (by omega) (Nat.zero_le _)
          ⟨⟨_,Heap.get?_push_size _ rfl,rfl,rfl⟩,RV.push _⟩ ⟨_,#[],0,_,Heap.get?_push_of_some _ g0,⟨rfl,rfl,rfl⟩,rfl,λe he=>by simp at he,by exact .nil,by decide,by rfl,Led.fresh _⟩ λs3 m S3=> ?_
        obtain⟨h3,g3,d3,tk3,os3⟩:=s3
        have a1:g3=s.gens:=m.gens
        have a2:d3=s.drawn:=m.drawn
        have a3:os3=s.os:=m.os
        subst a1;subst a2;subst a3
        show wpAny _ _ _ _ _ _
        refine wpAny_pure ?_
        show wpAny _ _ (ret Value.none) _ _ _
        refine wpAny_pure ⟨rfl,h3,tk3,rfl,S3,λb o e=> ?_⟩
        have hb:=Heap.lt_size e
        refine m.heap b o ?_ (Heap.get?_push_of_some _ (keep0 _ _ e))
        simp only[List.mem_cons,List.not_mem_nil,or_false,not_or]
        exact⟨Nat.ne_of_lt hb,Nat.ne_of_lt (by rw[big];exact Nat.lt_succ_of_lt hb)⟩
      · cases r2 with
        | error e=>exact bH
        | ok fl2 =>
          cases fl2 with
          | ret r =>
            obtain⟨rfl,h',tk,rfl,S',k'⟩:=bH
            repeat (any_goals (first | assumption | wp_step))
            exact q _ _ S' k'
          | _=>exact bH.elim
    | _=>exact hr.elim
end
end L2
namespace L2
section
variable{X:Cx}
theorem Inv.drawn{AA:List (Addr × Obj)}{σ:St}{H:Hp}{s:Shared}(I:Inv X AA σ H s)(d):Inv X AA σ H { s with drawn:=d } :=
 { ok:=I.ok,os:=I.os,bare:=I.bare,base:=I.base,loc:=I.loc,cell:=I.cell,free:=I.free,freeC:=I.freeC,pin:=I.pin,hok:=I.hok,len:=I.len }
theorem fK:∀ {ns:List Int} {us:List Value},Vals (ns.map V.int) us->IntsAre us ns
 | [],_,.nil=>.nil
 | n::r,_,.cons h t=>by
  obtain⟨tk,rfl⟩:=h
  exact .cons _ _ (fK t)
abbrev fM(X:Cx)(a:Addr)(ms:List Int):HO:=.ext λh=>IntSet X.prog X.w h a ms
theorem Dk(hc:X.calm=true):CallR X (.type "set") (λxs H Q=>∃ (p:Addr) (ns:List Int),xs=[.ref p]/\SqL X.K H p (ns.map V.int)/\ns.length<=1000 ∧
  ∀ (a:Addr),H a=none->Q (.ref a) (upd H a (fM X a (firstMet (λi=>ns.getD i 0) ns.length)))):=by
 intro AA s σ H xs us Q I r h
 obtain⟨p,ns,rfl,hq,hn,q⟩:=h
 obtain⟨u,rfl,rx⟩:=FF r
 cases rx
 obtain⟨its,r',pl,hz⟩:=I.list hq
 have hi:=fK r'
 have BT:its.length=ns.length:=IntsAre.length hi
 refine Dj (I.ok.hd hc) pl.isList hi (by rw[List.size_toArray,BT];exact Nat.lt_of_le_of_lt (Nat.succ_le_succ hn) (by decide)) λh' tk S k=> ?_
 have hz2:its.toArray.size=ns.length:=by rw[List.size_toArray,BT]
 rw[hz2]at S
 refine⟨.ref s.heap.objs.size,_,I.laid k (Nat.le_refl _) ?_,rfl,q _ (I.hok.fresh (Nat.le_refl _))⟩
 exact⟨S,⟨_,S.choose_spec.choose_spec.choose_spec.choose_spec.1⟩,λh1 h2 z e=>z.at e⟩
theorem Dl(hc:X.calm=true):CallR X (.builtin "sorted") (λxs H Q=>∃ (a:Addr) (ms:List Int),xs=[.ref a]/\H a=some (fM X a ms)/\ms.length<64 ∧
  ∀ (D:Addr) (ks:List Int),H D=none->List.Perm ks ms->ks.Pairwise (· <=·)->Q (.ref D) (upd H D (.lst (ks.map V.int)))):=by
 intro AA s σ H xs us Q I r h
 obtain⟨a,ms,rfl,ha,hn,q⟩:=h
 obtain⟨u,rfl,rx⟩:=FF r
 cases rx
 obtain⟨S,_,_⟩:=I.hok a _ ha
 refine Dh (I.ok.hd hc) S hn λD h' tk d c out ks k hD g hi pk hr=> ?_
 have hl:ks.length<64:=by rw[pk.length_eq];exact hn
 refine⟨.ref D,_,(I.laid (t':=tk) k hD ?_).drawn d,rfl,q D ks (I.hok.fresh hD) pk hr⟩
 exact⟨by rw[List.length_map,sizeLine_eq];omega,out.toList,c,SZ hi,g⟩
theorem Dm(val:Nat->Int)(n:Nat)(x:Int):x∈firstMet val n↔∃ i,i<n/\val i=x:=by
 have h:=firstMet_any val n x
 rw[Bool.eq_iff_iff,List.any_eq_true,List.any_eq_true]at h
 constructor
 ·intro hx
  obtain⟨y,hy,e⟩:=h.mp ⟨x,hx,beq_self_eq_true x⟩
  obtain⟨i,hi,rfl⟩:=List.mem_map.mp hy
  exact⟨i,List.mem_range.mp hi,eq_of_beq e⟩
 ·rintro ⟨i,hi,rfl⟩
  obtain⟨y,hy,e⟩:=h.mpr ⟨val i,List.mem_map.mpr ⟨i,List.mem_range.mpr hi,rfl⟩,beq_self_eq_true _⟩
  exact eq_of_beq e ▸ hy
theorem T7(val:Nat->Int):∀ n,(firstMet val n).Nodup
 | 0=>by rw[firstMet_zero];exact List.nodup_nil
 | n+1=>by
  rw[firstMet_succ]
  by_cases h:val n∈firstMet val n
  ·rw[fE h];exact T7 val n
  ·rw[fF h]
   exact List.nodup_append.mpr ⟨T7 val n,by simp,λa ha b hb e=>by rw[List.mem_singleton]at hb;subst hb;subst e;exact h ha⟩
theorem fN:∀ {l:List Int},l.Pairwise (· <=·)->l.Nodup->l.Pairwise (· <·)
 | [],_,_=>.nil
 | x::r,h,n=>by
  obtain⟨h1,h2⟩:=List.pairwise_cons.mp h
  obtain⟨n1,n2⟩:=List.nodup_cons.mp n
  refine List.pairwise_cons.mpr ⟨λy hy=> ?_,fN h2 n2⟩
  have:=h1 y hy
  have:x≠y:=λz=>n1 (z ▸ hy)
  omega
def O8(K:W.Frag)(te:TE):TE:=λσ H Q=>te σ H λx H1=>∃ (p:Addr) (ns:List Int),x=.ref p/\SqL K H1 p (ns.map V.int)/\ns.length<64 ∧
 ∀ (a:Addr) (o:HO) (D:Addr) (ks:List Int),H1 a=none->upd H1 a o D=none->ks.Pairwise (· <·)->(∀ x,x∈ks↔x∈ns)->ks.length<=ns.length->Q (.ref D) (upd (upd H1 a o) D (.lst (ks.map V.int)))
def clo(te:TE):TE:=λσ H Q=>∃ C:VK,te σ H C/\∀ x H1,C x H1->Q x H1
theorem PE.clo{e:Expr}{te:TE}(h:PE X e te):PE X e (clo te):=λAA s σ H Q I ⟨C,q,m⟩=>AR (h AA s σ H C I q) λv s' ⟨x,H1,I1,r1,q1⟩=>⟨x,H1,I1,r1,m _ _ q1⟩
theorem fP{e:Expr}{te:TE}{p1 p2 p3 p4:Pos}(hc:X.calm=true)(g1:Gl X "sorted")(m1:X.mg "sorted"=none)(g2:Gl X "set")(m2:X.mg "set"=none)(h:PE X e te)
  (he:starEach [e] X.env=[(false,eval e X.env)]:=by rfl) :
  PE X (.Call (.Name "sorted" p1) [.Call (.Name "set" p2) [e] [] p3] [] p4) (O8 X.K te):=λAA s σ H Q I q=>by
 refine(DA (Dl hc) g1 m1 (by rfl) (B0 (EE (Dk hc) g2 m2 (by rfl) (B0 h.clo HC he) (he:=he)) HC)) AA s σ H Q I ?_
 refine⟨_,q,λx H1 hzz=> ?_⟩
 obtain⟨p,ns,e1,hq,hn,q1⟩:=hzz
 subst e1
 refine⟨p,ns,rfl,hq,by omega,λa ha=>⟨a,_,rfl,AH,?_,λD ks hD pk hr=> ?_⟩⟩
 ·exact Nat.lt_of_le_of_lt (firstMet_length_le ..) hn
 ·have nd:=T7 (λi=>ns.getD i 0) ns.length
  refine q1 a _ D ks ha hD (fN hr (pk.nodup_iff.mpr nd)) (λx=> ?_) (by rw[pk.length_eq];exact firstMet_length_le ..)
  rw[pk.mem_iff,Dm]
  refine⟨λhzz=> ?_,λhx=> ?_⟩
  ·obtain⟨i,hi,e⟩:=hzz
   rw[<-e]
   simp[List.getD,hi]
  ·obtain⟨i,hi,e⟩:=List.getElem_of_mem hx
   exact⟨i,hi,by simp[List.getD,hi,e]⟩
end
end L2
namespace L2
def fQ(K:W.Frag)(a:Addr)(n:Nat):It :=
 ⟨λi H=>i<n/\∃ xs,SqL K H a xs/\xs.length=n,λi H x H'=>H'=H/\∀ xs,SqL K H a xs->xs[n - 1 - i]? =some x,λi _=>n<=i⟩
def Dp(K:W.Frag)(ta:TA):TI:=λσ H R=>ta σ H λvs H1=>∃ a xs,vs=[.ref a]/\SqL K H1 a xs/\R (fQ K a xs.length) H1
section
variable{X:Cx}{tg:Expr}
def Dq(K:W.Frag)(te:TE)(ts:TO):TE:=λσ H Q=>te σ H λx H1=>ts σ H1 λk H2=>k=some (-1)/\∃ a xs,x=.ref a/\SqL K H2 a xs/\∀ p,H2 p=none->Q (.ref p) (upd H2 p (.lst xs.reverse))
theorem Dv{K:W.Frag}{te:TE}{ts:TO}{σ:St}{H:Hp}{Q:VK}:Dq K te ts σ H Q=(te σ H λx H1=>ts σ H1 λk H2=>k=some (-1)/\∃ a xs,x=.ref a/\SqL K H2 a xs/\∀ p,H2 p=none->Q (.ref p) (upd H2 p (.lst xs.reverse))):=rfl
def Dw(ta:TA):TE:=λσ H Q=>ta σ H λvs H1=>∃ k:Nat,vs=[.int k]/\k<=100000/\∀ p,H1 p=none->Q (.ref p) (upd H1 p (.lst (eX k)))
theorem Dx{ta:TA}{σ:St}{H:Hp}{Q:VK}:Dw ta σ H Q=(ta σ H λvs H1=>∃ k:Nat,vs=[.int k]/\k<=100000/\∀ p,H1 p=none->Q (.ref p) (upd H1 p (.lst (eX k)))):=rfl
def O9(K:W.Frag):List V->Hp->VK->Prop:=λxs H Q=>∃ (p:Addr) (AD:List (AO × V)),xs=[.ref p]/\H p=some (.dK AD)/\∀ l,H l=none->Q (.ref l) (upd H l (.dK AD))
theorem Dy:CallR X (.type "dict") (O9 X.K):=by
 intro AA s σ H xs us Q I r h
 obtain⟨p,AD,rfl,hp,q⟩:=h
 obtain⟨u,rfl,rx⟩:=FF r
 cases rx
 exact v0 I (.inl hp) λl s' hl I'=>⟨.ref l,_,I',rfl,q l hl⟩
theorem Dz{K:W.Frag}{p:Addr}{H:Hp}{Q:VK}:O9 K [.ref p] H Q=∃ AD,H p=some (.dK AD)/\∀ l,H l=none->Q (.ref l) (upd H l (.dK AD)):=by simp[O9]
end
theorem Eb{K:W.Frag}{as:TA}{g:TG}{s1:TS}{D:Ends}{σ:St}{H:Hp}:EI (Dp K as) g s1 D σ H=(as σ H λvs H1=>∃ a xs,vs=[.ref a]/\SqL K H1 a xs/\HH (fQ K a xs.length) g s1 D σ H1):=rfl
section
variable{K:W.Frag}{tt:TT}{cap:List Nat}{σ:St}{H:Hp}{Q:VK}
end
section
variable{K:W.Frag}{td ty tv te:TE}{D:Ends}{σ:St}{H:Hp}{Q:VK}{QB:Bool->Hp->Prop}
theorem Ec:ST td ty σ H Q=(td σ H λx H1=>ty σ H1 λy H2=>∃ a v,x=.ref a/\DGet H2 a y (some v)/\Q v H2):=rfl
theorem Ed:OZ ty td σ H Q=(ty σ H λy H1=>td σ H1 λx H2=>∃ a o,x=.ref a/\DGet H2 a y o/\Q (.bl o.isSome) H2):=rfl
theorem Eg:KU ty td σ H Q=(ty σ H λy H1=>td σ H1 λx H2=>∃ a o,x=.ref a/\DGet H2 a y o/\Q (.bl (!o.isSome)) H2):=rfl
theorem Eh:MP td ty tv D σ H=(tv σ H λv H1=>td σ H1 λx H2=>ty σ H2 λy H3=>∃ a H4,x=.ref a/\DPut H3 a y v H4/\D.nx σ H4):=rfl
theorem Ej:SY td ty σ H Q=(td σ H λx H1=>∃ a,x=.ref a/\MR H1 a/\ty σ H1 λy H2=>∃ o,DGet H2 a y o/\Q (o.getD .non) H2):=rfl
theorem Ek:MQ σ H Q=(∀ p,H p=none->Q (.ref p) (upd H p (.dK []))):=rfl
theorem El:SV σ H Q=(∀ p,H p=none->Q (.ref p) (upd H p (.dT []))):=rfl
theorem Em:tB te σ H QB=(te σ H λx H1=>∃ c,x=.bl c/\QB c H1):=rfl
theorem Ep:O8 K te σ H Q=(te σ H λx H1=>∃ (p:Addr) (ns:List Int),x=.ref p/\SqL K H1 p (ns.map V.int)/\ns.length<64 ∧
 ∀ (a:Addr) (o:HO) (D:Addr) (ks:List Int),H1 a=none->upd H1 a o D=none->ks.Pairwise (· <·)->(∀ x,x∈ks↔x∈ns)->ks.length<=ns.length->Q (.ref D) (upd (upd H1 a o) D (.lst (ks.map V.int)))):=rfl
variable{a b:Addr}{i j:Int}{z:Str}{AD:List (AO × V)}{kvt:List (List AO × V)}{v:V}
theorem dI(e:H a=some (.dK AD)):DGet H a (.int i) (BR AD (.inl i)):=DGet.k (k:=.inl i) e
theorem dS(e:H a=some (.dK AD)):DGet H a (.str z) (BR AD (.inr z)):=DGet.k (k:=.inr z) e
theorem Ev(e:H a=some (.dT kvt))(eb:H b=some (.tup [.int i,.int j])):DGet H a (.ref b) (BR kvt [.inl i,.inl j]):=DGet.t (k:=[.inl i,.inl j]) e eb
theorem Ew(e:H a=some (.dK AD))(h:BR AD (.inr z)=some v):DGet H a (.str z) (some v):=h ▸ dS e
theorem pI(e:H a=some (.dK AD))(hl:AD.length<100000):DPut H a (.int i) v (upd H a (.dK (CL AD (.inl i) v))):=DPut.k (k:=.inl i) e (Nat.lt_of_lt_of_le hl (by decide))
theorem Ex(e:H a=some (.dT kvt))(eb:H b=some (.tup [.int i,.int j]))(hl:kvt.length<100000):DPut H a (.ref b) v (upd H a (.dT (CL kvt [.inl i,.inl j] v))):=DPut.t (k:=[.inl i,.inl j]) e eb (Nat.lt_of_lt_of_le hl (by decide))
end
end L2
namespace L2
section
variable{X:Cx}
abbrev M8(K:W.Frag):R2:=dA K false
theorem T8(hu:X.A.units+64<cLine):OpR X (compareOp .In) (M8 X.K):=u9
def PB:R2:=λx y H Q=>∃ c,y=.bl c/\(∀ p,x≠.ref p)/\(∀ T,x≠.ty T)/\Q (.bl (decide (x=.bl c))) H
end
theorem SqT.same{K:W.Frag}{H H':Hp}{a:Addr}{xs:List V}(e:Same H H')(h:SqT K H a xs):SqT K H' a xs:=by
 rcases h with(h | ⟨o,h⟩) | h
 ·exact .inl (.inl (e _ _ h))
 ·exact .inl (.inr ⟨o,e _ _ h⟩)
 ·exact .inr h
mutual
theorem Rep.same{K:W.Frag}{H H':Hp}(s:Same H H'):∀ {v:V} {d:PyData},Rep K H v d->Rep K H' v d
 | _,_,.non=>.non
 | _,_,.bl b=>.bl b
 | _,_,.int i=>.int i
 | _,_,.str x=>.str x
 | _,_,.lst h r=>.lst (s.seq h) (RepAll.same s r)
 | _,_,.tup h r=>.tup (SqT.same s h) (RepAll.same s r)
theorem RepAll.same{K:W.Frag}{H H':Hp}(s:Same H H'):∀ {vs:List V} {ds:List PyData},RepAll K H vs ds->RepAll K H' vs ds
 | _,_,.nil=>.nil
 | _,_,.cons h r=>.cons (Rep.same s h) (RepAll.same s r)
end
def Dat(K:W.Frag)(H:Hp)(n:Nat)(v:V)(d:PyData):Prop:=Rep K H v d/\d.canLay0=true/\d.depth<=n
section
variable{K:W.Frag}{H:Hp}{n:Nat}{Q:VK}
theorem Dat.int(i:Int):Dat K H n (.int i) (.int i):=⟨.int i,rfl,Nat.zero_le _⟩
theorem Dat.non:Dat K H n .non .none:=⟨.non,rfl,Nat.zero_le _⟩
theorem T9:∀ {xs:List V} {ds:List PyData},Paired (Dat K H n) xs ds->RepAll K H xs ds/\PyData.canLayAll0 ds=true/\PyData.depthAll ds<=n
 | _,_,.nil=>⟨.nil,rfl,Nat.zero_le _⟩
 | _,_,.cons h t=>by
  obtain⟨a1,a2,a3⟩:=T9 t
  refine⟨.cons h.1 a1,?_,?_⟩
  ·simp[PyData.canLayAll0,h.2.1,a2]
  ·simp only[PyData.depthAll];exact Nat.max_le.mpr ⟨h.2.2,a3⟩
theorem Dat.lst{p:Addr}{xs:List V}{ds:List PyData}(h:SqL K H p xs)(hs:Paired (Dat K H n) xs ds):Dat K H (n+1) (.ref p) (.list ds):=by
 obtain⟨a1,a2,a3⟩:=T9 hs
 exact⟨.lst h a1,by simpa [PyData.canLay0]using a2,by simpa [PyData.depth]using a3⟩
theorem Dat.tup{p:Addr}{xs:List V}{ds:List PyData}(h:SqT K H p xs)(hs:Paired (Dat K H n) xs ds):Dat K H (n+1) (.ref p) (.tuple ds):=by
 obtain⟨a1,a2,a3⟩:=T9 hs
 exact⟨.tup h a1,by simpa [PyData.canLay0]using a2,by simpa [PyData.depth]using a3⟩
theorem Dat.shp{v:V}{d:PyData}(h:Dat K H n v d)(hn:n<=64):shp d:=by
 unfold L2.shp PySem.SeqAt.shaped
 rw[h.2.1]
 simpa using Nat.le_trans h.2.2 hn
end
end L2
namespace L2
theorem Ey{i:Int}{c:Bool}{H:Hp}{Q:VK}:PB (.int i) (.bl c) H Q=Q (.bl false) H:=by simp[PB]
theorem Ez{c:Bool}{H:Hp}{Q:VK}:PB .non (.bl c) H Q=Q (.bl false) H:=by simp[PB]
end L2
namespace L2
section
variable{prog:Program}{w:World}{A:Around}{E:Value->Shared->Prop}{s:Shared}{d it:Addr}{od:Obj}{es:Array DictEntry}{ep i:Nat}
end
end L2
namespace L2
theorem UA:∀ {ys:List Str} {us:List Value},Vals (ys.map V.str) us->StrsAre us ys
 | [],_,.nil=>.nil
 | y::r,_,.cons h t=>by
  obtain⟨tk,rfl⟩:=h
  exact .cons _ _ (UA t)
section
variable{X:Cx}
def PD(K:W.Frag):V->List V->Hp->VK->Prop:=λx vs H Q=>∃ (z:Str) (p:Addr) (ys:List Str),x=.str z/\vs=[.ref p]/\SqL K H p (ys.map V.str)/\z.length<=16/\(ys.map (·.length)).sum+ys.length<=1048576/\Q (.str (Txt.join z ys)) H
theorem fR:MtR X "str.join" (PD X.K):=by
 intro AA s σ H x vs v us Q I rx rv h
 obtain⟨z,p,ys,rfl,rfl,hp,hz,hw,q⟩:=h
 obtain⟨t,rfl⟩:=rx
 obtain⟨u,rfl,ru⟩:=rv.one
 cases ru
 obtain⟨its,r,pl,hz'⟩:=I.list hp
 exact join_listW pl.isList (UA r) hz hw λt' k=>⟨.str _,H,I.tok k,⟨t',rfl⟩,q⟩
end
section
variable{K:W.Frag}{tt:TT}{te:TE}{cap:List Nat}{σ:St}{H:Hp}{Q:VK}
end
end L2
namespace L2
section
variable{X:Cx}{tg:Expr}
end
section
variable{K:W.Frag}{tt:TT}{cap:List Nat}{σ:St}{H:Hp}{Q:VK}
def zhf(lo:Int)(n:Nat):List Int:=(List.range n).map λ(i:Nat)=>lo - (i:Int)
end
def fS(n i:Nat)(P:Prop):Prop:=∃ m',m'<n - i/\m'=n - (i+1)/\i+1<=n/\P
theorem Fb{K:W.Frag}{g:TG}{tt:TT}{te:TE}{k:Nat}{cap:List Nat}{σ:St}{H:Hp}{Q:VK}{b:Addr}{xs:List V}(hn:xs.length<=sizeLine)(Pv:Nat->St->List V->Hp->Prop)(h0:Pv 0 (IE k cap σ) [] H)(hq:∀ i σ' ys H,Pv i σ' ys H->SqL K H b xs/\ys.length<=i)
  (hs:∀ i x σ' ys H,i<xs.length->xs[i]? =some x->Pv i σ' ys H->g x σ' H λσ2 H2=>tt σ2 H2 λc H3=>if c=true then ∃ N:VK,(∀ y H4,N y H4->fS xs.length i (Pv (i+1) σ2 (ys++[y]) H4))/\te σ2 H3 N else fS xs.length i (Pv (i+1) σ2 ys H3))
  (hd:∀ σ' ys H,Pv xs.length σ' ys H->∀ p,H p=none->Q (.ref p) (upd H p (.lst ys))):FA (HA K b) g tt te k cap σ H Q:=by
 refine⟨λi m σ' ys H=>m=xs.length - i/\i<=xs.length/\Pv i σ' ys H,⟨xs.length,by simp,Nat.zero_le _,h0⟩,?_⟩
 rintro i m σ' ys H ⟨rfl,hi,p⟩
 obtain⟨q,hl⟩:=hq i σ' ys H p
 by_cases BD:i<xs.length
 ·refine .inr ⟨⟨xs,xs[i],q,by simp[BD]⟩,by omega,λx H' y=> ?_⟩
  obtain⟨e,y⟩:=y
  subst e
  exact hs i x σ' ys _ BD (y xs q) p
 ·have e:i=xs.length:=by omega
  subst e
  exact .inl ⟨⟨xs,q,Nat.le_refl _⟩,hd σ' ys H p⟩
section
variable{P:Program}{w:World}{A:Around}{E:Value->Shared->Prop}{s:Shared}
end
section
variable{X:Cx}
end
end L2
namespace L2
section
variable{P:Program}{w:World}{A:Around}{E:Value->Shared->Prop}{s:Shared}
theorem Fc{e it l:Addr}{i:Nat}{BH:Array Value}{x old:Value}{Q:Option Value->Shared->Prop}(he:IsEnum s.heap e it i old)(hi:s.heap.IsListIter it l i)(hl:s.heap.IsList l BH)(ex:BH[i]? =some x)(ne:e≠it)
  (q:∀ h',IsEnumOut h' e it (i+1) x s.heap.objs.size->h'.IsListIter it l (i+1)->h'.get? s.heap.objs.size=some { cls:=Value.type "tuple",data:=Data.seq #[Value.int i s.toks,x] }->(∀ b o,b≠e->b≠it->s.heap.get? b=some o->h'.get? b=some o) →
   Q (some (.ref s.heap.objs.size)) { s with heap:=h',toks:=s.toks+1 }):wpAny (model P w) A (pyNext (.ref e)) Q E s:=by
 have ty:s.TypeIs (.ref e) "enumerate":=⟨_,he,rfl⟩
 unfold pyNext
 exact wpAny_bind (wpAny_attempt (wpAny_callSpecial?_slot (name:=Str.ofString "__next__") ty F.slot_enumerate_next (wpAny_call_entry F.slot_enumerate_next ty F.entry_enumerate_next
  (enumerate_next_item he hi hl ex ne λh' a1 a2 a3 _ a4=>wpAny_pure (q h' a1 a2 a3 a4)) (F.args_enumerate_next_1 _))))
theorem Fd{e it l:Addr}{i:Nat}{BH:Array Value}{old:Value}{Q:Fin->Shared->Prop}(hh:A.handled=none)(he:IsEnum s.heap e it i old)(hi:s.heap.IsListIter it l i)(hl:s.heap.IsList l BH)(ex:BH[i]? =none)
  (q:∀ h' x,Heap.ExtBut it s.heap h'->(∃ o,h'.get? x=some o/\o.cls=.type "StopIteration")->E (.ref x) { s with heap:=h' }):wpAny (model P w) A (Builtin.«enumerate.__next__» ⟨[.ref e],[]⟩) Q E s:=by
 show wpAny (model P w) A (field (.ref e) 2 >>= _) _ _ s
 refine wpAny_bind (wpAny_field he rfl (x:=.ref it) rfl ?_)
 exact wpAny_bind (Bc (k:=true) hh hi hl ex q)
theorem Fg{e it l:Addr}{i:Nat}{BH:Array Value}{old:Value}{Q:Option Value->Shared->Prop}(hh:A.handled=none)(he:IsEnum s.heap e it i old)(hi:s.heap.IsListIter it l i)(hl:s.heap.IsList l BH)(ex:BH[i]? =none)
  (q:∀ h',Heap.ExtBut it s.heap h'->Q none { s with heap:=h' }):wpAny (model P w) A (pyNext (.ref e)) Q E s:=by
 have ty:s.TypeIs (.ref e) "enumerate":=⟨_,he,rfl⟩
 unfold pyNext
 refine wpAny_bind (wpAny_attempt (wpAny_callSpecial?_slot (name:=Str.ofString "__next__") ty F.slot_enumerate_next (wpAny_call_entry F.slot_enumerate_next ty F.entry_enumerate_next (Fd hh he hi hl ex λh' x kk ⟨o,e1,e2⟩=> ?_) (F.args_enumerate_next_1 _))))
 exact wpAny_bind (wpAny_isInstance (T:="StopIteration") (b:=true) ⟨o,e1,e2⟩ isSubtype_stop (wpAny_pure (q _ kk)))
end
def M9(K:W.Frag)(a:Addr):It :=
  ⟨λi H=>∃ xs x,SqL K H a xs/\xs[i]? =some x,
   λi H v H'=>∃ t,H t=none/\v=.ref t/\∃ x,H'=upd H t (.tup [.int (i:Int),x])/\∀ xs,SqL K H a xs->xs[i]? =some x,
   λi H=>∃ xs,SqL K H a xs/\xs.length<=i⟩
def EnSt(e it l:Addr)(i:Nat)(h:Heap):Prop:=(∃ old,IsEnum h e it i old)/\h.IsListIter it l i
theorem EnSt.lt{e it l:Addr}{i:Nat}{h:Heap}(q:EnSt e it l i h):∀ b∈[e,it],b<h.objs.size:=by
 obtain⟨⟨old,h1⟩,o,h2,_⟩:=q
 intro b hb
 simp only[List.mem_cons,List.not_mem_nil,or_false]at hb
 rcases hb with rfl | rfl
 ·exact Heap.lt_size h1
 ·exact Heap.lt_size h2
theorem Fh{P:Program}{w:World}{K:W.Frag}{elts:List Expr}{kn:Nat}{pos:Pos}{e it l:Addr}(ne:e≠it) :
  JO P w K (.Tuple elts kn pos) (M9 K l) [e,it] e (λi h=>EnSt e it l i h) where
 mem:=by simp
 obj:=λi h st b hb=>by
  obtain⟨⟨old,h1⟩,h2⟩:=st
  obtain⟨o4,e4,d4⟩:=ItK.ob (k:=true) h2
  simp only[List.mem_cons,List.not_mem_nil,or_false]at hb
  rcases hb with rfl | rfl
  ·exact⟨_,h1,λv q=>by cases q⟩
  ·exact⟨_,e4,λv q=>by rw[d4]at q;cases q⟩
 keep:=λi h h' ⟨⟨old,h1⟩,h2⟩ q=>⟨⟨old,q e (by simp) _ h1⟩,ItK.up (k:=true) h2 λo x=>q it (by simp) o x⟩
 item:=by
  intro X hP hw hK hc i AA s σ H E I hf st hg
  subst hP hw hK
  obtain⟨xs,x,hx,ex⟩:=hg
  obtain⟨its,rv,d1⟩:=I.seqK (k:=true) hx
  obtain⟨u,hu,ru⟩:=rv.get ex
  have lt:=EnSt.lt st
  obtain⟨⟨old,h1⟩,h2⟩:=st
  refine Fc h1 h2 d1 (x:=u) (by simpa using hu) ne λh' g1 g2 g3 kk=>⟨_,rfl,?_⟩
  refine wpAny_letOwnedTupleGo_enum g1 λh2' z2 sb=> ?_
  have I1:=I.tnew (ys:=[.int (i:Int),x]) (its:=[Value.int (i:Int) s.toks,u]) (.cons (show RelV (.int (i:Int)) (Value.int (i:Int) s.toks)from⟨s.toks,rfl⟩) (.cons ru .nil)) (by show 2<=sizeLine;decide)
  have f':∀ b∈[e,it],b≠s.heap.objs.size:=λb hb=>Nat.ne_of_lt (lt b hb)
  have nz:s.heap.objs.size≠e:=(f' e (by simp)).symm
  have I2:Inv X AA σ (upd H s.heap.objs.size (.tup [.int (i:Int),x])) { s with heap:=h2',toks:=s.toks+1 }:=by
   refine Inv.turnedS (s:={ s with heap:=s.heap.push { cls:=Value.type "tuple",data:=Data.seq #[Value.int i s.toks,u] } }) (t':=s.toks+1) (fp:=[e,it]) I1 (λb o hb eo=> ?_) λb hb=>(hf b hb).upd (f' b hb)
   simp only[List.mem_cons,List.not_mem_nil,or_false,not_or]at hb
   rcases Heap.get?_push_cases eo with⟨e1,e2⟩ | e1
   ·subst e1 e2
    exact sb.extBut _ _ nz g3
   ·exact sb.extBut _ _ hb.1 (kk _ _ hb.1 hb.2 e1)
  exact⟨.ref s.heap.objs.size,_,I2,rfl,⟨s.heap.objs.size,I.fresh,rfl,x,rfl,λys' q=>by rw[I.seqK_inj (k:=true) q hx];exact ex⟩,
   ⟨⟨_,z2⟩,ItK.up (k:=true) g2 λo x=>sb.extBut _ _ ne.symm x⟩,λb hb=>((hf b hb).upd (f' b hb)).1⟩
 done:=by
  intro X hP hw hK hc i AA s σ H E I hf st hg
  subst hP hw hK
  obtain⟨xs,hx,en⟩:=hg
  obtain⟨its,rv,d1⟩:=I.seqK (k:=true) hx
  obtain⟨⟨old,h1⟩,h2⟩:=st
  have e1:=rv.length
  refine Fg (I.ok.hd hc) h1 h2 d1 (by simp;omega) λh' kk=>⟨rfl,I.turnedS (t':=s.toks) (fp:=[e,it]) (λb o hb eo=> ?_) hf⟩
  simp only[List.mem_cons,List.not_mem_nil,or_false,not_or]at hb
  exact kk _ _ hb.2 eo
 self:=λ_ _ _ _ _ st h=>by
  obtain⟨⟨old,h1⟩,_⟩:=st
  exact wpAny_pyIter_enum h1 h
section
variable{X:Cx}
def NA(K:W.Frag)(ta:TA):TI:=λσ H R=>ta σ H λvs H1=>∃ a:Addr,vs=[.ref a]/\(∃ xs,SqL K H1 a xs)/\R (M9 K a) H1
theorem fT{a:Expr}{ta:TA}{p pos p2:Pos}{elts:List Expr}{kn:Nat}(hg:Gl X "enumerate")(hm:X.mg "enumerate"=none)(ha:PA X [a] ta)(hs:starEach [a] X.env=[(false,eval a X.env)]:=by rfl) :
  PI X (.Tuple elts kn p2) (.Call (.Name "enumerate" p) [a] [] pos) (NA X.K ta):=by
 intro AA s σ H R I h
 refine Call_ (MC I hg hm boot_enumerate (PyProof.Rows.callWith_type1 (AR (ha pos AA s σ H _ I h) λus s1 hzz=> ?_) (by rw[hs];rfl) (by rfl)))
 obtain⟨vs,H1,I1,r1,q1⟩:=hzz
 obtain⟨l,e,⟨xs,hx⟩,q⟩:=q1
 subst e
 obtain⟨u,rfl,rx⟩:=FF r1
 cases rx
 obtain⟨its,rv,d1⟩:=I1.seqK (k:=true) hx
 refine call_enumerate_list d1 λh' z1 z2 sz kk=>wpAny_pyIter_enum z1 ?_
 have I2:Inv X AA σ H1 { s1 with heap:=h' }:=I1.kept (t':=s1.toks) kk
 refine⟨_,[s1.heap.objs.size+1,s1.heap.objs.size],_,_,H1,rfl,I2,Fh (Nat.ne_of_gt (by omega)),⟨⟨_,z1⟩,z2⟩,λb hb=>I1.fpOk ?_ (I1.hok.fresh ?_),q⟩
 all_goals
  simp only[List.mem_cons,List.not_mem_nil,or_false]at hb
  rcases hb with rfl | rfl<;>omega
end
theorem Fj{K:W.Frag}{as:TA}{g:TG}{s1:TS}{D:Ends}{σ:St}{H:Hp}:EI (NA K as) g s1 D σ H=(as σ H λvs H1=>∃ a:Addr,vs=[.ref a]/\(∃ xs,SqL K H1 a xs)/\HH (M9 K a) g s1 D σ H1):=rfl
theorem fU{K:W.Frag}{σ:St}{H:Hp}{a:Addr}{xs:List V}{g:TG}{tb:TS}{D:Ends}(Pv:Nat->St->Hp->Prop)(h0:Pv 0 σ H)(ha:∀ i σ H,i<=xs.length->Pv i σ H->SqL K H a xs)
  (hs:∀ i x σ H t,xs[i]? =some x->Pv i σ H->H t=none->g (.ref t) σ (upd H t (.tup [.int (i:Int),x])) λσ2 H2=>tb { D with nx:=Pv (i+1),ct:=Pv (i+1),bk:=D.nx } σ2 H2) (hd:∀ σ H,Pv xs.length σ H->D.nx σ H):HH (M9 K a) g tb D σ H:=by
 refine⟨λi m σ H=>i+m=xs.length/\Pv i σ H,⟨xs.length,by omega,h0⟩,λi m σ H ⟨e,p⟩=> ?_⟩
 have h1:=ha i σ H (by omega) p
 by_cases hi:i<xs.length
 ·refine .inr ⟨⟨xs,xs[i],h1,List.getElem?_eq_getElem hi⟩,Pv (i+1),λσ' H' q=>⟨m - 1,by omega,by omega,q⟩,λv H' ⟨t,ht,e,x,e',q1⟩=> ?_⟩
  subst e e'
  exact hs i x σ H t (q1 _ h1) p ht
 ·have e:i=xs.length:=by omega
  subst e
  exact .inl ⟨⟨xs,h1,Nat.le_refl _⟩,hd _ _ p⟩
def PF(K:W.Frag):R2:=λx y H Q=>M8 K x y H Q\/∃ t ts p xs,x=.ref t/\SqT K H t ts/\y=.ref p/\SqT K H p xs/\(∀ z∈xs,z=.non\/∃ i,z=.int i)/\Q (.bl false) H
theorem fV:∀ {xs:List V} {us:List Value} {u:Value},Vals xs us->u∈us->∃ x∈xs,RelV x u
 | _,_,_,.nil,h=>by cases h
 | _,_,_,.cons r t,h=>by
  rcases List.mem_cons.mp h with rfl | h
  ·exact⟨_,List.mem_cons_self ..,r⟩
  ·obtain⟨x,hx,e⟩:=fV t h
   exact⟨x,List.mem_cons_of_mem _ hx,e⟩
theorem Fk{X:Cx}(hu:X.A.units+64<cLine):OpR X (compareOp .In) (PF X.K):=by
 intro AA s σ H x y v u Q I rx ry h
 rcases h with h | ⟨t,ts,p,xs,rfl,ht,rfl,hp,hx,q⟩
 ·exact T8 hu AA s σ H x y v u Q I rx ry h
 ·cases rx
  cases ry
  obtain⟨its,r,pl,hz⟩:=I.tuple hp
  obtain⟨tts,tr,tl,_⟩:=I.tuple ht
  have hin:X.A.in1.units<cLine:=by
   have:X.A.in1.units=X.A.units+1:=rfl
   omega
  refine SeqAt.in_tupleAt (λ_=>false) pl (λz hz'=> ?_) ⟨.bl _,H,I,rfl,?_⟩
  ·obtain⟨z0,h0,r0⟩:=fV r (by simpa using hz')
   rcases hx z0 h0 with rfl | ⟨i,rfl⟩
   ·cases r0
    exact SeqAt.EqAt.none_tuple tl hin
   ·obtain⟨tk,rfl⟩:=r0
    exact SeqAt.EqAt.int_tuple _ _ tl hin
  ·have:its.toArray.any (λ_=>false)=false:=by
    rw[Array.any_eq_false]
    simp
   rw[this]
   exact q
end L2
namespace L2
section
variable{X:Cx}
theorem UB:∀ {us:List Value} {ys:List Str},StrsAre us ys->Vals (ys.map V.str) us
 | _,_,.nil=>.nil
 | _,_,.cons z t h=>.cons ⟨_,rfl⟩ (UB h)
def fW(K:W.Frag):List V->Hp->VK->Prop:=λxs H Q=>∃ (p:Addr) (ys:List Str),xs=[.ref p]/\SqL K H p (ys.map V.str)/\ys.length<64 ∧
  ∀ (D:Addr) (ks:List Str),H D=none->ks.Perm ys->sortedS ks=true->Q (.ref D) (upd H D (.lst (ks.map V.str)))
theorem Fl(hc:X.calm=true):CallR X (.builtin "sorted") (fW X.K):=by
 intro AA s σ H xs us Q I r h
 obtain⟨p,ys,rfl,hp,hn,q⟩:=h
 obtain⟨u,rfl,rx⟩:=FF r
 cases rx
 obtain⟨its,rv,pl,hz⟩:=I.list hp
 have hi:=UA rv
 have BT:its.length=ys.length:=by have:=rv.length;simpa using this.symm
 refine sorted_strs pl.isList hi (by omega) λout ks ho pk hr=> ?_
 obtain⟨c,g⟩:=sortedAll_at s.heap its out
 have hD:s.heap.objs.size<=s.heap.objs.size+1:=Nat.le_succ _
 refine⟨.ref _,_,I.laid (t':=s.toks) (λb o e=>sortedAll_old e) hD ?_,rfl,q _ ks (I.hok.fresh hD) pk hr⟩
 have hl:ks.length<64:=by rw[pk.length_eq];exact hn
 exact⟨by rw[List.length_map,sizeLine_eq];omega,out.toList,c,UB ho,g⟩
def Fm(K:W.Frag):List V->Hp->VK->Prop:=λxs H Q=>∃ i j,xs=[.int i,.int j]/\Q (.int (if j<i then j else i)) H
theorem Fp{K:W.Frag}{i j:Int}{H:Hp}{Q:VK}:Fm K [.int i,.int j] H Q=Q (.int (if j<i then j else i)) H:=propext ⟨λ⟨_,_,e,q⟩=>by cases e;exact q,λq=>⟨_,_,rfl,q⟩⟩
end
end L2
namespace L2
section
variable{P:Program}{w:World}{A:Around}{E:Value->Shared->Prop}{s:Shared}
end
section
variable{X:Cx}
end
end L2
namespace L2
section
variable{X:Cx}{AA:List (Addr × Obj)}{σ:St}{H:Hp}{s:Shared}
variable{tg iter FU:Expr}{E6:List Expr}{scope:Scope}{pos:Pos}{td:TE}{g:TG}{tt:TT}{te:TE}{tn cn:List Str}{cap:List Nat}
end
end L2
namespace L2
theorem FnScope.go{N P:List Str}{sc:Scope}(h1:sc.kind=.function:=by exact rfl)(h2:sc.isCoroutine=false:=by exact rfl)(h3:sc.isGenerator=false:=by exact rfl)(h4:N.Nodup:=by decide +kernel)(h5:N.take P.length=P:=by exact rfl)(h6:∀ x∈P,sc.names.lookup x=some .local\/sc.names.lookup x=some .cell:=by decide +kernel)(h7:∀ y∈sc.names,y.2≠.free:=by decide +kernel):FnScope N P sc:=⟨h1,h2,h3,h4,h5,h6,h7⟩
theorem Room.m{j k:Nat}{A:Around}(r:Room k A)(h:j<=k:=by decide):Room j A:=r.mono h
abbrev FP(P:Program)(w:World)(K:W.Frag)(mg:Str->Option Value)(base:Heap)(k:Nat)(f:Addr)(fd:FuncData)(ps:List Str)(sp:Sp):Prop:=FnOk P w K mg base (DN P w) k f fd ps sp
theorem Fun.okF{P:Program}{w:World}{K:W.Frag}{mg:Str->Option Value}{base:Heap}{x qual:Str}{st:Stmt}{f:Addr}{fd:FuncData}{N ps:List Str}{k:Nat}{sp:Sp}(F:Fun K x qual st f fd)(rd:(St->XK)->TS)(S:FnScope N ps (AW st))(len:∀ {vs H Q E},sp vs H Q E->vs.length=ps.length)
  (ok:∀ {vs H Q E},sp vs H Q E->rd (λ_=>E) { nx:=λ_ H'=>Q .non H',rt:=Q } (A4 N vs) H)
  (hb:∀ (BM:Value) (A:Around) (outer:List Env) (s:Shared) (H:Hp) (E:XK),Room k (A.deeper (envOfC qual (AW st) s.heap.objs.size f BM))->XOk (GB (DN P w) P w K mg base N qual (AW st) f BM A outer s H E) (λ_=>E) →
   PSs (GB (DN P w) P w K mg base N qual (AW st) f BM A outer s H E) (FY st) (rd λ_=>E)):FP P w K mg base (k+1) f fd ps sp :=
 F.okE S (λ_ _ _ _=>len) λBM A outer s H _ _ E hr h=>⟨_,hb BM A outer s H E hr wA,ok h⟩
section
variable{X:Cx}{pos:Pos}
theorem BE(i:Nat){x:Str}{e:Expr}{te:TE}{pos':Pos}(hN:X.N.Nodup)(he:PE X e te)(hi:X.N[i]? =some x:=by exact rfl)(hx:KI X.env.scope x:=by exact Or.inl rfl)(hs:swapsWith e (some (.Name x pos')) pos.line X.env=pure false:=by rfl)(hf:X.fn x=true\/X.env.scope.names.lookup x=some .local:=by first | exact .inl rfl | exact .inr rfl | assumption) :
  PS X (.Assign [.Name x pos'] e pos) (A5 te (AQ i)):=sZ hN hi hx he hs hf
theorem C3(i:Nat){x:Str}(hN:X.N.Nodup)(hi:X.N[i]? =some x:=by exact rfl)(hx:KI X.env.scope x:=by exact Or.inl rfl)(hf:X.fn x=true\/X.env.scope.names.lookup x=some .local:=by first | exact .inl rfl | exact .inr rfl | assumption):PG X (.Name x pos) (AQ i):=sY hN hi hx hf
end
end L2
namespace L2
section
variable{X:Cx}{pos:Pos}
theorem D2{a:Expr}{ta:TE}{i:Int}{j pos'}(ha:PE X a ta):PE X (.Subscript a (.Constant (.int i) j pos') pos) (AF (CQ X.K) ta (tC (.int i))):=CU CW ha A0 (λ_ _=>rfl)
theorem FnScope.cp{scope outer:Scope}{N P tn cn:List Str}{cap:List Nat}(_:FnScope N P outer)(h:TR scope outer N cn cap=true:=by decide +kernel)(h1:X.env.scope=outer:=by exact rfl)(h2:X.N=N:=by exact rfl):KY X scope tn cn cap:=w5 h1 h2 h
end
section
variable{X:Cx}{E:St->XK}{k j:Nat}{x m:Str}{ps:List Str}{sp:Sp}{C:Addr}{p pos CO:Pos}{e o e1 e2 e3:Expr}{es:List Expr}{ta tb tc td:TE}{t:TA}
theorem AI(h:PE X e ta)(s:starEach [e] X.env=(false,eval e X.env)::starEach [] X.env:=by rfl):PA X [e] (BJ ta BZ):=B0 h HC s
theorem B9(h:PE X e ta)(h1:PE X e1 tb)(s:starEach [e,e1] X.env=(false,eval e X.env)::starEach [e1] X.env:=by rfl)(s1:starEach [e1] X.env=(false,eval e1 X.env)::starEach [] X.env:=by rfl):PA X [e,e1] (BJ ta (BJ tb BZ)):=B0 h (AI h1 s1) s
theorem EZ(h:PE X e ta)(h1:PE X e1 tb)(h2:PE X e2 tc)(s:starEach [e,e1,e2] X.env=(false,eval e X.env)::starEach [e1,e2] X.env:=by rfl)(s1:starEach [e1,e2] X.env=(false,eval e1 X.env)::starEach [e2] X.env:=by rfl)(s2:starEach [e2] X.env=(false,eval e2 X.env)::starEach [] X.env:=by rfl):PA X [e,e1,e2] (BJ ta (BJ tb (BJ tc BZ))):=B0 h (B9 h1 h2 s1 s2) s
theorem GH(h:PE X e ta)(h1:PE X e1 tb)(h2:PE X e2 tc)(h3:PE X e3 td)(s:starEach [e,e1,e2,e3] X.env=(false,eval e X.env)::starEach [e1,e2,e3] X.env:=by rfl)(s1:starEach [e1,e2,e3] X.env=(false,eval e1 X.env)::starEach [e2,e3] X.env:=by rfl)(s2:starEach [e2,e3] X.env=(false,eval e2 X.env)::starEach [e3] X.env:=by rfl)(s3:starEach [e3] X.env=(false,eval e3 X.env)::starEach [] X.env:=by rfl):PA X [e,e1,e2,e3] (BJ ta (BJ tb (BJ tc (BJ td BZ)))):=B0 h (EZ h1 h2 h3 s1 s2 s3) s
theorem DV(c:DJ X.prog X.w X.K X.mg X.base k x ps sp)(hr:Room j X.A)(hx:XOk X E)(ha:PA X (e::es) t)(hj:k<=j:=by decide)(hg:Gl X x:=by exact rfl)(hdb:(x ==("__debug__":Str))=false:=by decide)
  (he:starEach (e::es) X.env=(false,eval e X.env)::starEach es X.env:=by rfl) (CT:(backTo pos (starEach es X.env)).any (·.1)=false:=by rfl):PE X (.Call (.Name x p) (e::es) [] pos) (C2 sp [] E t):=S7 c (hr.mono hj) hx.passes hg ha hdb he CT
theorem BI{pl:Sem Bool}(he:PE X o ta)(cl:Cls X.K C)(c:BS X.prog X.w X.K X.mg X.base C k m ps sp)(hr:Room j X.A)(hx:XOk X E)(ha:PA X (e::es) t)(hj:k<=j:=by decide)
  (hst:starEach (e::es) X.env=(false,eval e X.env)::starEach es X.env:=by rfl) (CT:(backTo pos (starEach es X.env)).any (·.1)=false:=by rfl)
  (ht:eval (.Call (.Attribute o m CO) (e::es) [] pos) X.env=(do
   let ov ← eval o X.env
   standAt CO.atName
   let (f,first) ← holding [ov] (getMethod ov m pl)
   callWith pos f first (backTo pos (starEach (e::es) X.env)) (backToKw pos (keywordEach [] X.env))):=by rfl):PE X (.Call (.Attribute o m CO) (e::es) [] pos) (AV C m sp [] E ta t):=IG he cl c (hr.mono hj) hx.passes ha hst CT ht
theorem D6{pl:Sem Bool}(he:PE X o ta)(cl:Cls X.K C)(c:BS X.prog X.w X.K X.mg X.base C k m ps sp)(hr:Room j X.A)(hx:XOk X E)(hj:k<=j:=by decide)
  (ht:eval (.Call (.Attribute o m CO) [] [] pos) X.env=(do
   let ov ← eval o X.env
   standAt CO.atName
   let (f,first) ← holding [ov] (getMethod ov m pl)
   callWith pos f first (backTo pos (starEach [] X.env)) (backToKw pos (keywordEach [] X.env))):=by rfl):PE X (.Call (.Attribute o m CO) [] [] pos) (AV C m sp [] E ta BZ):=wB he cl c (hr.mono hj) hx.passes ht
end
theorem Fun.okL{P:Program}{w:World}{K:W.Frag}{mg:Str->Option Value}{base:Heap}{x qual:Str}{st:Stmt}{f:Addr}{fd:FuncData}{N ps:List Str}{k:Nat}{sp:Sp}(F:Fun K x qual st f fd)(rd:(St->XK)->TS)(S:FnScope N ps (AW st))
  (ok:∀ {vs H Q E},sp vs H Q E->rd (λ_=>E) { nx:=λ_ H'=>Q .non H',rt:=Q } (A4 N vs) H)
  (hb:∀ (BM:Value) (A:Around) (outer:List Env) (s:Shared) (H:Hp) (E:XK),Room k (A.deeper (envOfC qual (AW st) s.heap.objs.size f BM))->XOk (GB (DN P w) P w K mg base N qual (AW st) f BM A outer s H E) (λ_=>E) →
   PSs (GB (DN P w) P w K mg base N qual (AW st) f BM A outer s H E) (FY st) (rd λ_=>E))
  (len:∀ {vs H Q E},sp vs H Q E->vs.length=ps.length:=by
   intro _ _ _ _ h
   repeat (first | (obtain⟨rfl,_⟩:=h;rfl) | (refine Or.elim h ?_ ?_<;>(clear h;intro h)) | obtain⟨_,h⟩:=h)):FP P w K mg base (k+1) f fd ps sp:=F.okF rd S len ok hb
theorem Fq{α :Type}{P:List α ->Prop}(h:P []):∀ us:List α,us.length=0->P us
 | [],_=>h
theorem UC{α :Type}{P:List α ->Prop}(h:∀ a,P [a]):∀ us:List α,us.length=1->P us
 | [a],_=>h a
theorem UD{α :Type}{P:List α ->Prop}(h:∀ a b,P [a,b]):∀ us:List α,us.length=2->P us
 | [a,b],_=>h a b
theorem UE{α :Type}{P:List α ->Prop}(h:∀ a b c,P [a,b,c]):∀ us:List α,us.length=3->P us
 | [a,b,c],_=>h a b c
theorem UF{α :Type}{P:List α ->Prop}(h:∀ a b c d,P [a,b,c,d]):∀ us:List α,us.length=4->P us
 | [a,b,c,d],_=>h a b c d
theorem UG{α :Type}{P:List α ->Prop}(h:∀ a b c d e,P [a,b,c,d,e]):∀ us:List α,us.length=5->P us
 | [a,b,c,d,e],_=>h a b c d e
theorem UH{α :Type}{P:List α ->Prop}(h:∀ a b c d e f,P [a,b,c,d,e,f]):∀ us:List α,us.length=6->P us
 | [a,b,c,d,e,f],_=>h a b c d e f
theorem UI{α :Type}{P:List α ->Prop}(h:∀ a b c d e f g,P [a,b,c,d,e,f,g]):∀ us:List α,us.length=7->P us
 | [a,b,c,d,e,f,g],_=>h a b c d e f g
def UJ(x qual:Str)(st:Stmt)(ps:List Str):Prop:=∀ (kV doc pm:Value) (an:Option Addr) (BM ct:Value) (us:List Value),us.length=ps.length->bindArgs (W.fnOf x qual (ID st) (FY st) (AW st) .none kV doc pm an BM ct) ⟨us,[]⟩=pure (ps.zip us)
structure GF(K:W.Frag)(x:Str)(st:Stmt):Prop where
 ex:∃ (f:Addr) (fd:FuncData),W.nsIn K mainGlobals x=some (some (.ref f))/\Fun K x x st f fd
structure GM(K:W.Frag)(C:Addr)(m q:Str)(st:Stmt):Prop where
 ex:∃ (f:Addr) (fd:FuncData),W.findIn K (.ref C) m=some (some (.ref f))/\W.isFn K (.ref f)=true/\Fun K m q st f fd
structure GC(K:W.Frag)(C:Addr)(x:Str):Prop where
 ac:W.nsIn K mainGlobals x=some (some (.ref C))
 c:Cls K C
structure GN(K:W.Frag)(C:Addr)(x q:Str)(st:Stmt):Prop where
 m:GM K C "__init__" q st
 mks:W.makesIn K C=true
 kc:W.keepIn K (.ref C)=true
 ac:W.nsIn K mainGlobals x=some (some (.ref C))
structure GX(K:W.Frag)(C:Addr)(x:Str):Prop where
 ac:W.nsIn K mainGlobals x=some (some (.ref C))
 ex:W.excIn K C [.type "ValueError",.type "Exception",.type "BaseException",.type "object"] "ValueError.__new__"=true
section
variable{K:W.Frag}{x q:Str}{st:Stmt}{C f:Addr}{oc:Value}{od an:Option Addr}{osl:Array (Option Value)}{kV doc pm BM ct:Value}
theorem gf(a:W.nsIn K mainGlobals x=some (some (.ref f)))(l:K.lookup f=some ⟨oc,od,.func (W.fnOf x x (ID st) (FY st) (AW st) .none kV doc pm an BM ct),osl⟩)
  (c:W.codeIn K BM x=true) (k:W.keepIn K (.ref f)=true):GF K x st:=⟨_,_,a,dR l c k⟩
theorem gm(a:W.findIn K (.ref C) x=some (some (.ref f)))(l:K.lookup f=some ⟨oc,od,.func (W.fnOf x q (ID st) (FY st) (AW st) .none kV doc pm an BM ct),osl⟩)
  (c:W.codeIn K BM q=true) (k:W.keepIn K (.ref f)=true) (i:W.isFn K (.ref f)=true):GM K C x q st:=⟨_,_,a,i,dR l c k⟩
theorem gn{y:Str}(a:W.findIn K (.ref C) "__init__"=some (some (.ref f)))(l:K.lookup f=some ⟨oc,od,.func (W.fnOf "__init__" q (ID st) (FY st) (AW st) .none kV doc pm an BM ct),osl⟩)
  (c:W.codeIn K BM q=true) (k:W.keepIn K (.ref f)=true) (i:W.isFn K (.ref f)=true) (m:W.makesIn K C=true) (n:W.keepIn K (.ref C)=true) (s:W.nsIn K mainGlobals y=some (some (.ref C))):GN K C y q st:=⟨gm a l c k i,m,n,s⟩
theorem gc(a:W.nsIn K mainGlobals x=some (some (.ref C)))(l:W.plainGet K C Str.empty=true)(c:W.hasDictIn K C=true)(k:W.plainOver K C=true)(i:W.findIn K (.ref C) "__setattr__"=some (some (.builtin "object.__setattr__"))):GC K C x:=⟨a,l,c,k,i⟩
end
section
variable{P:Program}{w:World}{K:W.Frag}{h:Heap}{mg:Str->Option Value}{base:Heap}{x q:Str}{st:Stmt}{C:Addr}{k:Nat}{ps:List Str}{sp:Sp}
theorem GF.cal(g:GF K x st)(X:K.In h)(G:h.Ns mainGlobals mg)(ok:∀ {f fd},Fun K x x st f fd->FP P w K mg base k f fd ps sp)
  (b:UJ x x st ps:=by intro _ _ _ _ _ _;first | exact UC λ_=>rfl | exact UD λ_ _=>rfl | exact UE λ_ _ _=>rfl | exact UF λ_ _ _ _=>rfl | exact UG λ_ _ _ _ _=>rfl | exact Fq rfl | exact UH λ_ _ _ _ _ _=>rfl | exact UI λ_ _ _ _ _ _ _=>rfl):DJ P w K mg base k x ps sp:=by
 obtain⟨f,fd,a,F⟩:=g.ex
 exact⟨f,fd,ok F,W.mg_of X G a,F.kp,F.binds b⟩
theorem GM.cal(g:GM K C x q st)(ok:∀ {f fd},Fun K x q st f fd->FP P w K mg base k f fd ps sp)
  (b:UJ x q st ps:=by intro _ _ _ _ _ _;first | exact UC λ_=>rfl | exact UD λ_ _=>rfl | exact UE λ_ _ _=>rfl | exact UF λ_ _ _ _=>rfl | exact UG λ_ _ _ _ _=>rfl | exact UH λ_ _ _ _ _ _=>rfl | exact UI λ_ _ _ _ _ _ _=>rfl):BS P w K mg base C k x ps sp:=by
 obtain⟨f,fd,a,i,F⟩:=g.ex
 exact⟨f,fd,ok F,⟨a,i,F.kp⟩,F.binds b⟩
theorem GN.cal(g:GN K C x q st)(X:K.In h)(G:h.Ns mainGlobals mg)(ok:∀ {f fd},Fun K "__init__" q st f fd->FP P w K mg base k f fd ps sp)
  (b:UJ "__init__" q st ps:=by intro _ _ _ _ _ _;first | exact UC λ_=>rfl | exact UD λ_ _=>rfl | exact UE λ_ _ _=>rfl | exact UF λ_ _ _ _=>rfl | exact UG λ_ _ _ _ _=>rfl | exact UH λ_ _ _ _ _ _=>rfl | exact UI λ_ _ _ _ _ _ _=>rfl):IV P w K mg base C k x ps sp:=by
 obtain⟨f,fd,a,i,F⟩:=g.m.ex
 exact⟨f,fd,ok F,⟨g.mks,a,i,g.kc⟩,W.mg_of X G g.ac,F.binds b⟩
theorem GF.law{fa:Addr}(g:GF K x st)(X:K.In h)(G:h.Ns mainGlobals mg)(hfa:mg x=some (.ref fa))
  (b:∀ (kV doc pm:Value) (an:Option Addr) (BM ct:Value) (s:Shared) (v:Value),BindsTo s (W.fnOf x x (ID st) (FY st) (AW st) .none kV doc pm an BM ct) ⟨[v],[]⟩ [("script",v)]) :
  ∃ fd:FuncData,(∀ (s:Shared) (v:Value),BindsTo s fd ⟨[v],[]⟩ [("script",v)])/\Fun K x x st fa fd:=by
 obtain⟨f,fd,a,F⟩:=g.ex
 have e:=hfa.symm.trans (W.mg_of X G a)
 cases e
 obtain⟨oc,od,kV,doc,pm,an,BM,ct,osl,rfl,lk,GQ⟩:=F.ex
 exact⟨_,b kV doc pm an BM ct,F⟩
end
end L2
namespace L2
def Fv(K:W.Frag)(to ti tv:TE)(rd:V->V->Hp->VK->Prop):TS:=λD σ H=>to σ H λx H1=>ti σ H1 λy H2=>∃ p xs,∃ n:Nat,∃ v,x=.ref p/\y=.int n/\SqL K H2 p xs/\xs[n]? =some v/\tv σ H2 λz H3=>rd v z H3 λu H4=>MV (.ref p) (.int n) u H4 λH5=>D.nx σ H5
theorem Fw{K:W.Frag}{to ti tv:TE}{rd:V->V->Hp->VK->Prop}{D:Ends}{σ:St}{H:Hp}:Fv K to ti tv rd D σ H=(to σ H λx H1=>ti σ H1 λy H2=>∃ p xs,∃ n:Nat,∃ v,x=.ref p/\y=.int n/\SqL K H2 p xs/\xs[n]? =some v/\tv σ H2 λz H3=>rd v z H3 λu H4=>MV (.ref p) (.int n) u H4 λH5=>D.nx σ H5):=rfl
section
variable{X:Cx}{o i value:Expr}{td ty tv:TE}{tpos pos:Pos}
end
def fX(c:Int)(n:Nat):It:=⟨λi _=>i<n,λi H x H'=>H'=H/\x=.int ((i:Nat) * c),λi _=>n<=i⟩
section
variable{X:Cx}{tg:Expr}
def Fx(ta:TA):TI:=λσ H R=>ta σ H λvs H1=>∃ m c:Nat,vs=[.int 0,.int ((m * c:Nat):Int),.int c]/\(1<=c/\c<100000/\m * c<100000)/\R (fX c m) H1
end
section
variable{K:W.Frag}{g:TG}{tt:TT}{te:TE}{k:Nat}{cap:List Nat}{σ:St}{H:Hp}{Q:VK}
theorem Fy{as:TA}:DM (Fx as) g tt te k cap σ H Q=(as σ H λvs H1=>∃ m c:Nat,vs=[.int 0,.int ((m * c:Nat):Int),.int c]/\(1<=c/\c<100000/\m * c<100000)/\FA (fX c m) g tt te k cap σ H1 Q):=rfl
theorem Fz{as:TA}:DM (NA K as) g tt te k cap σ H Q=(as σ H λvs H1=>∃ a:Addr,vs=[.ref a]/\(∃ xs,SqL K H1 a xs)/\FA (M9 K a) g tt te k cap σ H1 Q):=rfl
end
end L2
namespace L2
section
variable{prog:Program}{w:World}{K:Type}[DecidableEq K]{knd:HeapKind prog w K}{A:Around}{E:Value->Shared->Prop}{s:Shared}
def Gb(xs ys:List (K × Addr × Value)):List (K × Addr × Value):=ys.foldl (λBW y=>storedH BW y.1 y.2.1 y.2.2) xs
end
def UK(AD more:List (List AO × V)):List (List AO × V):=more.foldl (λBW kv=>CL BW kv.1 kv.2) AD
theorem KT.merge{H:Hp}:∀ {more:List (List AO × V)} {ys:List (List AO × Addr × Value)} {AD:List (List AO × V)} {xs:List (List AO × Addr × Value)},KT H more ys->KT H AD xs->KT H (UK AD more) (Gb xs ys):=by
 intro more ys AD xs r
 unfold KT at r
 induction r generalizing AD xs with
 | nil=>intro q;exact q
 | @cons p q ps qs h t ih =>
  intro r0
  have e:KT H (CL AD p.1 p.2) (storedH xs q.1 q.2.1 q.2.2):=by
   have:=r0.put p.1 h.2.1 h.2.2
   rw[<-h.1];exact this
  exact ih e
theorem KT.keys{H:Hp}{AD:List (List AO × V)}{xs:List (List AO × Addr × Value)}(r:KT H AD xs):AD.map (·.1)=xs.map (·.1):=by
 unfold KT at r
 induction r with
 | nil=>rfl
 | cons h t ih=>rw[List.map_cons,List.map_cons,ih,h.1]
def fY(H:Hp)(ps:List (V × V))(AD:List (List AO × V)):Prop:=Paired (λ(q:V × V) (kv:List AO × V)=>(∃ b,q.1=.ref b/\H b=some (.tup (kv.1.map kV)))/\q.2=kv.2) ps AD
def Gc(trs:List (TE × TE)):TE:=λσ H Q=>∀ p,H p=none->KW trs σ (upd H p (.dT [])) λps H2=>H2 p=some (.dT [])/\∃ AD:List (List AO × V),fY H2 ps AD/\AD.length<=15/\Q (.ref p) (upd H2 p (.dT (UK [] AD)))
theorem Gd{trs:List (TE × TE)}{σ:St}{H:Hp}{Q:VK}:Gc trs σ H Q=∀ p,H p=none->KW trs σ (upd H p (.dT [])) λps H2=>H2 p=some (.dT [])/\∃ AD:List (List AO × V),fY H2 ps AD/\AD.length<=15/\Q (.ref p) (upd H2 p (.dT (UK [] AD))):=rfl
theorem Gg{td ty tx:TE}{σ:St}{H:Hp}{Q:VK}:vY td ty tx σ H Q=(td σ H λx H1=>∃ a,x=.ref a/\MR H1 a/\ty σ H1 λy H2=>tx σ H2 λz H3=>∃ o,DGet H3 a y o/\Q (o.getD z) H3):=rfl
theorem Gh{σ:St}{H:Hp}{QP:List (V × V)->Hp->Prop}:KW [] σ H QP=QP [] H:=rfl
theorem Gj{tk tv:TE}{r:List (TE × TE)}{σ:St}{H:Hp}{QP:List (V × V)->Hp->Prop}:KW ((tk,tv)::r) σ H QP=(tk σ H λx H1=>tv σ H1 λy H2=>KW r σ H2 λps H3=>QP ((x,y)::ps) H3):=rfl
end L2
namespace L2
end L2
namespace L2
open PySem PySem.Spec PyProof.Rows PySem.Builtin PySem.Builtin.Str
def JT:TE:=λ_ _ _=>False
theorem LB{X:Cx}{e:Expr}:PE X e JT:=λ_ _ _ _ _ _ h=>h.elim
section
variable{X:Cx}
theorem fZ:∀ (l:List (Str × Tok)),Vals ((l.map (·.1)).map V.str) (strValues l)
 | []=>.nil
 | (x,t)::r=>.cons ⟨t,rfl⟩ (fZ r)
theorem Inv.pushL{AA:List (Addr × Obj)}{σ:St}{H:Hp}{s:Shared}{Q:VK}(I:Inv X AA σ H s){xs:List V}{us:List Value}{t':Nat}(r:Vals xs us)(hz:xs.length<=sizeLine)(q:∀ l,H l=none->Q (.ref l) (upd H l (.lst xs))):EP X AA σ Q (.ref s.heap.objs.size) { s with heap:=s.heap.push { cls:=.type "list",data:=.seq us.toArray },toks:=t' }:=by
 refine⟨.ref s.heap.objs.size,_,I.laid (t':=t') (λb u e=>Heap.get?_push_of_some _ e) (Nat.le_refl _) (show ObjOk X.prog X.w _ _ _ (.lst xs)from⟨hz,us,0,r,Heap.get?_push_size _ rfl⟩),rfl,q _ (I.hok.fresh (Nat.le_refl _))⟩
theorem Inv.pushT{AA:List (Addr × Obj)}{σ:St}{H:Hp}{s:Shared}{Q:VK}(I:Inv X AA σ H s){xs:List V}{us:List Value}{t':Nat}(r:Vals xs us)(hz:xs.length<=sizeLine)(q:∀ l,H l=none->Q (.ref l) (upd H l (.tup xs))):EP X AA σ Q (.ref s.heap.objs.size) { s with heap:=s.heap.push { cls:=.type "tuple",data:=.seq us.toArray },toks:=t' }:=by
 refine⟨.ref s.heap.objs.size,_,I.laid (t':=t') (λb u e=>Heap.get?_push_of_some _ e) (Nat.le_refl _) (show ObjOk X.prog X.w _ _ _ (.tup xs)from⟨hz,us,r,⟨_,Heap.get?_push_size _ rfl,rfl,0,rfl⟩⟩),rfl,q _ (I.hok.fresh (Nat.le_refl _))⟩
def f7:V->List V->Hp->VK->Prop:=λx vs H Q=>∃ z y:Str,x=.str z/\vs=[.str y]/\(y.length == 0)=false/\z.length<=1000/\∀ t,H t=none->Q (.ref t) (upd H t (.tup [.str (Txt.partition z y).1,.str (Txt.partition z y).2.1,.str (Txt.partition z y).2.2]))
theorem Gk:MtR X "str.partition" f7:=by
 intro AA s σ H x vs v us Q I rx rv h
 obtain⟨z,y,rfl,rfl,hy,hz,q⟩:=h
 obtain⟨t,rfl⟩:=rx
 obtain⟨u,rfl,ru⟩:=rv.one
 obtain⟨t2,rfl⟩:=ru
 refine call_meets PySem.F.slot_str_partition (typeIs_str _ _ _) PySem.F.entry_str_partition (PySem.F.args_str_partition_2 _ _) (meets_str_partition z y t t2 hy (by rw[sizeLine_eq];omega)) ?_
 revert q
 unfold Txt.partition
 cases occurrences z y 0 z.length 1 with
 | nil=>intro q;exact I.pushT (xs:=[.str _,.str _,.str _]) (.cons ⟨_,rfl⟩ (.cons ⟨_,rfl⟩ (.cons ⟨_,rfl⟩ .nil))) (show 3<=sizeLine by rw[sizeLine_eq];omega) q
 | cons i r=>intro q;exact I.pushT (xs:=[.str _,.str _,.str _]) (.cons ⟨_,rfl⟩ (.cons ⟨_,rfl⟩ (.cons ⟨_,rfl⟩ .nil))) (show 3<=sizeLine by rw[sizeLine_eq];omega) q
def UL:V->List V->Hp->VK->Prop:=λx vs H Q=>∃ z y:Str,x=.str z/\(y.length == 0)=false/\z.length<=1000/\((vs=[.str y]/\∀ l,H l=none->Q (.ref l) (upd H l (.lst ((Txt.split z y).map V.str))))\/∃ k:Nat,k<=100/\vs=[.str y,.int k]/\∀ l,H l=none->Q (.ref l) (upd H l (.lst ((Txt.splitMax z y k).map V.str))))
theorem f8:MtR X "str.split" UL:=by
 intro AA s σ H x vs v us Q I rx rv h
 obtain⟨z,y,rfl,hy,hz,h⟩:=h
 obtain⟨t,rfl⟩:=rx
 have hz2:z.length+2<=sizeLine:=by rw[sizeLine_eq];omega
 have fin:∀ (l:List (Str × Tok)) (ts:List Str) (t':Nat),l.map (·.1)=ts->ts.length<=sizeLine->(∀ l,H l=none->Q (.ref l) (upd H l (.lst (ts.map V.str))))->EP X AA σ Q (.ref s.heap.objs.size) { s with heap:=s.heap.push { cls:=.type "list",data:=.seq (strValues l).toArray },toks:=t' }:=λl ts t' e hl q=>by
  subst e
  exact I.pushL (fZ l) (by rw[List.length_map];exact hl) q
 rcases h with⟨rfl,q⟩ | ⟨k,hk,rfl,q⟩
 ·obtain⟨u,rfl,ru⟩:=rv.one
  obtain⟨u,rfl⟩:=ru
  have hn:(partsBetween z (occurrences z y 0 z.length (z.length+1)) y.length).length<=sizeLine:=by
   have e1:=StrLaws.occ_length_le z y 0 z.length (z.length+1)
   rw[length_partsBetween];omega
  revert q
  unfold Txt.split
  cases h1:(decide (z.length<y.length) || decide (strKind z<strKind y))
  ·cases hf:(occurrences z y 0 z.length (z.length+1)).isEmpty
   ·intro q
    refine call_meets PySem.F.slot_str_split (typeIs_str _ _ _) PySem.F.entry_str_split (PySem.F.args_str_split_2 _ _) (meets_str_split_sep z y t u h1 hy hf (by omega) hn) ?_
    show wants _ _ _ { s with toks:=_,heap:=s.heap.push { cls:=.type "list",data:=.seq (strsFrom s.toks (partsBetween z (occurrences z y 0 z.length (z.length+1)) y.length)).toArray } }
    rw[strsFrom_eq]
    exact fin (numbered s.toks _) _ _ (numbered_texts _ _) hn q
   ·intro q
    exact call_meets PySem.F.slot_str_split (typeIs_str _ _ _) PySem.F.entry_str_split (PySem.F.args_str_split_2 _ _) (meets_str_split_not_found z y t u h1 hy hf) (fin [(z,t)] _ s.toks rfl (show 1<=sizeLine by rw[sizeLine_eq];omega) q)
  ·intro q
   exact call_meets PySem.F.slot_str_split (typeIs_str _ _ _) PySem.F.entry_str_split (PySem.F.args_str_split_2 _ _) (meets_str_split_cannot_occur z y t u h1) (fin [(z,t)] _ s.toks rfl (show 1<=sizeLine by rw[sizeLine_eq];omega) q)
 ·obtain⟨u,u2,rfl,ru,ru2⟩:=t4 rv
  obtain⟨u,rfl⟩:=ru
  obtain⟨w,rfl⟩:=ru2
  have hk2:(decide ((k:Int)< -(2 ^ 63:Int)) || decide ((k:Int) ≥ 2 ^ 63))=false:=by
   simp only[Bool.or_eq_false_iff,decide_eq_false_iff_not]
   omega
  have hn:(partsBetween z (occurrences z y 0 z.length (limitOf z k)) y.length).length<=sizeLine:=by
   have e1:=StrLaws.occ_length_le_len z y 0 z.length (limitOf z k)
   rw[length_partsBetween];omega
  revert q
  unfold Txt.splitMax
  cases h1:(decide (z.length<y.length) || decide (strKind z<strKind y))
  ·cases hf:(occurrences z y 0 z.length (limitOf z k)).isEmpty
   ·intro q
    refine call_meets PySem.F.slot_str_split (typeIs_str _ _ _) PySem.F.entry_str_split (PySem.F.args_str_split_3 _ _ _) (meets_str_split_sep_max z y k t u w hk2 h1 hy hf (by omega) hn) ?_
    show wants _ _ _ { s with toks:=_,heap:=s.heap.push { cls:=.type "list",data:=.seq (strsFrom s.toks (partsBetween z (occurrences z y 0 z.length (limitOf z k)) y.length)).toArray } }
    rw[strsFrom_eq]
    exact fin (numbered s.toks _) _ _ (numbered_texts _ _) hn q
   ·intro q
    exact call_meets PySem.F.slot_str_split (typeIs_str _ _ _) PySem.F.entry_str_split (PySem.F.args_str_split_3 _ _ _) (meets_str_split_max_not_found z y k t u w hk2 h1 hy hf) (fin [(z,t)] _ s.toks rfl (show 1<=sizeLine by rw[sizeLine_eq];omega) q)
  ·intro q
   exact call_meets PySem.F.slot_str_split (typeIs_str _ _ _) PySem.F.entry_str_split (PySem.F.args_str_split_3 _ _ _) (meets_str_split_max_cannot_occur z y k t u w hk2 h1) (fin [(z,t)] _ s.toks rfl (show 1<=sizeLine by rw[sizeLine_eq];omega) q)
def CY(i:Int):Str:=Str.ofString (toString i)
def NB(K:W.Frag):List V->Hp->VK->Prop:=λxs H Q=>∃ i:Int,xs=[.int i]/\0<=i/\i<1000000/\Q (.str (CY i)) H
theorem UM{i:Int}(h0:0<=i)(h1:i<1000000):i.natAbs.log2<1920:=by
 have h:i.natAbs<2 ^ 20:=by
  have:(2:Nat) ^ 20=1048576:=by decide
  omega
 by_cases h2:i.natAbs=0
 ·rw[h2];decide
 ·have:=(Nat.log2_lt h2).mpr h
  omega
theorem PJ:CallR X (.type "str") (NB X.K):=by
 intro AA s σ H xs us Q I r h
 obtain⟨i,rfl,h0,h1,q⟩:=h
 obtain⟨u,rfl,rx⟩:=FF r
 obtain⟨t,rfl⟩:=rx
 exact PySem.P.str_of_int (UM h0 h1) ⟨.str _,H,I.tok _,⟨_,rfl⟩,q⟩
def f9(K:W.Frag):List V->Hp->VK->Prop:=λxs H Q=>∃ (z:Str) (i:Int),xs=[.str z]/\z.length<=640/\intText? z=some i/\Q (.int i) H
theorem Gm:CallR X (.type "int") (f9 X.K):=by
 intro AA s σ H xs us Q I r h
 obtain⟨z,i,rfl,h0,h1,q⟩:=h
 obtain⟨u,rfl,rx⟩:=FF r
 obtain⟨t,rfl⟩:=rx
 exact W.KIN.call_text h1 h0 ⟨.int _,H,I.tok _,⟨_,rfl⟩,q⟩
def UN(z:Str)(ta tb:TE):TE:=λσ H Q=>ta σ H λx H1=>∃ i:Int,x=.int i/\0<=i/\i<1000000/\tb σ H1 λy H2=>∃ j:Int,y=.int j/\0<=j/\j<1000000/\Q (.str (CY i++z++CY j)) H2
theorem NC{i:Int}(h0:0<=i)(h1:i<1000000):(CY i).length<=10:=W.KT.len_num h0 (by omega)
theorem Gp{z:Str}{ta tb:TE}{σ:St}{H:Hp}{Q:VK}:UN z ta tb σ H Q=(ta σ H λx H1=>∃ i:Int,x=.int i/\0<=i/\i<1000000/\tb σ H1 λy H2=>∃ j:Int,y=.int j/\0<=j/\j<1000000/\Q (.str (CY i++z++CY j)) H2):=rfl
theorem Gq{a b:Expr}{z:Str}{ta tb:TE}{p1 p2 p3 pos:Pos}{j:Nat}(ha:PE X a ta)(hb:PE X b tb)(hz:z.length<=100:=by decide +kernel):PE X (.JoinedStr [.FormattedValue a (-1) none p1,.Constant (.str z) j p2,.FormattedValue b (-1) none p3] pos) (UN z ta tb):=by
 intro AA s σ H Q I h
 refine wpAny_JoinedStr ?_
 show wpAny _ _ (eval (.FormattedValue a (-1) none p1) X.env) _ _ s
 refine wpAny_FormattedValue_plain (AR (ha AA s σ H _ I h) λu s1 hzz=> ?_)
 obtain⟨x,H1,I1,rx,i,ex,h0,h1,q⟩:=hzz
 subst ex
 obtain⟨t,rfl⟩:=rx
 refine wpAny_formatField_int (UM h0 h1) ⟨_,_,rfl,?_,?_⟩
 ·have:=NC h0 h1
  show(Str.empty++CY i).length<=_
  rw[strLen_append,sizeLine_eq]
  show 0+_<=_
  omega
 refine Calls.Constant_str ⟨_,_,rfl,?_,?_⟩
 ·have:=NC h0 h1
  show(Str.empty++CY i++z).length<=_
  rw[strLen_append,strLen_append,sizeLine_eq]
  show 0+_+_<=_
  omega
 refine wpAny_FormattedValue_plain (AR (hb AA _ σ H1 _ (I1.tok _) q) λu s2 hzz=> ?_)
 obtain⟨y,H2,I2,ry,k,ey,k0,k1,q2⟩:=hzz
 subst ey
 obtain⟨t2,rfl⟩:=ry
 have hl:(Str.empty++CY i++z++CY k).length<=sizeLine:=by
  have:=NC h0 h1
  have:=NC k0 k1
  rw[strLen_append,strLen_append,strLen_append,sizeLine_eq]
  show 0+_+_+_<=_
  omega
 have e:Str.empty++CY i++z++CY k=CY i++z++CY k:=by
  have e0:Str.empty++CY i=CY i:=by
   show Str.mk (#[]++(CY i).cps)=_
   rw[Array.empty_append]
  rw[e0]
 refine wpAny_formatField_int (UM k0 k1) ⟨_,_,rfl,hl,?_⟩
 refine⟨hl,.str _,H2,I2.tok _,⟨_,rfl⟩,?_⟩
 rw[<-e]at q2
 exact q2
def LC(D:List (Str × Int)):List (Str × KTD.Dat):=D.map λp=>(p.1,.flat (.int p.2))
def PK(o:Obj)(D:List (Str × Int)):Bool:=o.cls == .type "dict" && o.dict.isNone && o.slots.isEmpty && (match o.data with | .dict es _=>KTD.rowsLook (KTD.datLooks λ_=>none) es.toList (LC D) | _=>false)
def TabK(K:W.Frag)(p:Addr)(D:List (Str × Int)):Prop:=(p == sysModules)=false/\∃ o,K.lookup p=some o/\PK o D=true
theorem TabK.text{K:W.Frag}{p:Addr}{D:List (Str × Int)}{h:Heap}(T:TabK K p D)(X:K.In h):KTD.Here h h p (LC D):=by
 obtain⟨h0,o,ho,hl⟩:=T
 refine⟨?_,λ_ _ e=>e⟩
 simp only[PK,Bool.and_eq_true]at hl
 obtain⟨⟨⟨e1,e2⟩,e3⟩,e4⟩:=hl
 split at e4
 ·rename_i es ep hd
  exact⟨h0,o,es,ep,X _ _ ho,⟨beq_iff_eq.mp e1,by simpa using e2,by simpa using e3⟩,hd,KTD.rows_of_look (KTD.dat_of_looks (h:=h) (get:=λ_=>none) λ_ _ e=>by cases e) e4⟩
 ·cases e4
def PL(o:Obj)(ss:List Str):Bool:=o.cls == .type "tuple" && (match o.data with | .seq vs _=>KTD.strsLook vs.toList ss && decide (vs.size<=1000) | _=>false)
theorem gA{K:W.Frag}{p:Addr}{o:Obj}{ss:List Str}(e:K.lookup p=some o)(hl:PL o ss=true)(H:Hp):SqT K H p (ss.map V.str):=by
 simp only[PL,Bool.and_eq_true]at hl
 obtain⟨e1,e2⟩:=hl
 split at e2
 ·rename_i vs n hd
  simp only[Bool.and_eq_true,decide_eq_true_eq]at e2
  exact .inr ⟨o,vs,n,e,beq_iff_eq.mp e1,hd,by rw[sizeLine_eq];omega,UB (KTD.strs_of_look e2.1)⟩
 ·cases e2
theorem Gv{K:W.Frag}{p:Addr}{o:Obj}{D:List (Str × Int)}(e:K.lookup p=some o)(hl:PK o D=true)(h0:(p == sysModules)=false):TabK K p D:=⟨h0,o,e,hl⟩
def F2(D:List (Str × Int))(k:Str):Option Int:=(D.find? λp=>decide (p.1=k)).map (·.2)
theorem gB{k:Str}:∀ {D:List (Str × Int)},KTD.datumAt k (LC D)=(F2 D k).map λi=>KTD.Dat.flat (.int i)
 | []=>rfl
 | (x,i)::D=>by
  show(if decide (k=x)=true then _ else KTD.datumAt k (LC D))=_
  unfold F2
  rw[List.find?_cons]
  by_cases h:k=x
  ·subst h;simp
  ·rw[if_neg (by simpa using h),show decide ((x,i).1=k)=false from decide_eq_false λe=>h e.symm]
   exact gB
theorem gC{k:Str}{D:List (Str × Int)}:KTD.inKeys k (LC D)=(F2 D k).isSome:=by
 rw[<-KTD.isSome_datumAt,gB,Option.isSome_map]
theorem gD{h₀:Heap}{k:Str}{P:Value->Prop}{i:Int}(q:∀ t,P (.int i t)):∀ {D:List (Str × Int)},F2 D k=some i->KTD.EachL h₀ k P (LC D)
 | [],e=>by cases e
 | (x,j)::D,e=>by
  unfold F2 at e
  rw[List.find?_cons]at e
  by_cases h:k=x
  ·subst h
   rw[show decide ((k,j).1=k)=true from decide_eq_true rfl]at e
   cases e
   exact KTD.eachL_hit rfl q
  ·rw[show decide ((x,j).1=k)=false from decide_eq_false λz=>h z.symm]at e
   exact KTD.eachL_miss h (gD q e)
section
variable{x:Str}{p:Addr}{D:List (Str × Int)}{i:Expr}{ty:TE}{pos pos':Pos}
def Gw(D:List (Str × Int))(ty:TE):TE:=λσ H Q=>ty σ H λy H1=>∃ k,y=.str k/\Q (.bl (F2 D k).isSome) H1
def UO(D:List (Str × Int))(ty:TE):TE:=λσ H Q=>ty σ H λy H1=>∃ k,y=.str k/\Q (.bl (!(F2 D k).isSome)) H1
def UP(D:List (Str × Int))(ty:TE):TE:=λσ H Q=>ty σ H λy H1=>∃ k n,y=.str k/\F2 D k=some n/\Q (.int n) H1
theorem Gx{σ:St}{H:Hp}{Q:VK}:Gw D ty σ H Q=(ty σ H λy H1=>∃ k,y=.str k/\Q (.bl (F2 D k).isSome) H1):=rfl
theorem Gy{σ:St}{H:Hp}{Q:VK}:UO D ty σ H Q=(ty σ H λy H1=>∃ k,y=.str k/\Q (.bl (!(F2 D k).isSome)) H1):=rfl
theorem Gz{σ:St}{H:Hp}{Q:VK}:UP D ty σ H Q=(ty σ H λy H1=>∃ k n,y=.str k/\F2 D k=some n/\Q (.int n) H1):=rfl
theorem Hc(g:GV X.mg x (.ref p))(hg:Gl X x)(T:TabK X.K p D)(hi:PE X i ty)(hd:(x ==("__debug__":Str))=false:=by decide):PC X .NotIn i (.Name x pos) (UO D ty):=by
 intro AA s σ H Q I h
 refine AR (hi AA s σ H _ I h) λiv s1 ⟨y,H1,I1,ry,k,ey,q⟩=>AR ((EW g hg hd:PE X (.Name x pos) _) AA s1 σ H1 (λv H2=>v=.ref p/\H2=H1) I1 ⟨rfl,rfl⟩) λu s2 hzz=> ?_
 obtain⟨_,_,I2,rx,ev,eH⟩:=hzz
 subst ev eH ey
 obtain rfl:u=Value.ref p:=rx
 obtain⟨t,rfl⟩:=ry
 refine KTD.notin_text (T.text I2.kIn) ⟨.bl _,_,I2.tok _,rfl,?_⟩
 rw[gC]
 exact q
theorem Hd(g:GV X.mg x (.ref p))(hg:Gl X x)(T:TabK X.K p D)(hi:PE X i ty)(hs:cX i)(hd:(x ==("__debug__":Str))=false:=by decide):PE X (.Subscript (.Name x pos) i pos') (UP D ty):=by
 intro AA s σ H Q I h
 refine Subscript_ (AR ((EW g hg hd:PE X (.Name x pos) _) AA s σ H (λv H2=>v=.ref p/\H2=H) I ⟨rfl,rfl⟩) λu s1 hzz=> ?_)
 obtain⟨_,_,I1,rx,ev,eH⟩:=hzz
 subst ev eH
 obtain rfl:u=Value.ref p:=rx
 refine AR (hi AA s1 σ _ _ I1 h) λiv s2 hzz=> ?_
 obtain⟨y,H2,I2,ry,k,n,ey,en,q⟩:=hzz
 subst ey
 obtain⟨t,rfl⟩:=ry
 exact KTD.item_text (T.text I2.kIn) (by rw[gC,en];rfl) (gD (λt'=>⟨.int _,H2,I2.tok _,⟨_,rfl⟩,q⟩) en) (hs _ _)
end
end
end L2
namespace L2
abbrev Ad:=String->Addr
def SameBut(F:Addr->Prop)(H H':Hp):Prop:=∀ b o,H b=some o->¬ F b->H' b=some o
structure D7(K:W.Frag)(a:Ad):Prop where
 cl:Cls K (a "Plank")
 nC:NoAttr K (a "Plank") "contents"
 nW:NoAttr K (a "Plank") "width"
 nN:NoAttr K (a "Plank") "written"
def pf(cl:Addr)(w n:Int):List (Str × V):=[("contents",.ref cl),("width",.int w),("written",.int n)]
theorem gE:¬ ("contents":Str)="width":=by decide +kernel
theorem UQ:¬ ("contents":Str)="written":=by decide +kernel
theorem UR:¬ ("width":Str)="written":=by decide +kernel
theorem PM(cl:Addr)(w n:Int):(pf cl w n).lookup ("contents":Str)=some (V.ref cl):=by simp[pf]
theorem gF(cl:Addr)(w n:Int):(pf cl w n).lookup ("width":Str)=some (V.int w):=by
 have h:(("width":Str) == "contents")=false:=beq_eq_false_iff_ne.mpr (Ne.symm gE)
 simp[pf,List.lookup_cons,h]
theorem Hg(cl:Addr)(w n:Int):(pf cl w n).lookup ("written":Str)=some (V.int n):=by
 have h:(("written":Str) == "contents")=false:=beq_eq_false_iff_ne.mpr (Ne.symm UQ)
 have h2:(("written":Str) == "width")=false:=beq_eq_false_iff_ne.mpr (Ne.symm UR)
 simp[pf,List.lookup_cons,h,h2]
theorem Hh(cl:Addr)(w n:Int):AZ "written" (.int n) (AZ "width" (.int w) (AZ "contents" (.ref cl) []))=pf cl w n:=by
 simp only[AZ,pf]
 rw[if_neg gE]
 simp only[AZ]
 rw[if_neg UQ,if_neg UR]
theorem Hj(cl:Addr)(w n m:Int):AZ "written" (.int m) (pf cl w n)=pf cl w m:=by
 simp only[AZ,pf]
 rw[if_neg UQ,if_neg UR]
 simp
theorem IK(cl:Addr)(w n:Int){m:Str}(h1:¬ m="contents")(h2:¬ m="width")(h3:¬ m="written"):(pf cl w n).lookup m=none:=by
 have e1:=beq_eq_false_iff_ne.mpr h1
 have e2:=beq_eq_false_iff_ne.mpr h2
 have e3:=beq_eq_false_iff_ne.mpr h3
 simp[pf,List.lookup_cons,e1,e2,e3]
structure PlankAt(a:Ad)(H:Hp)(p cl:Addr)(w:Nat)(rows:List (List V))(n:Nat):Prop where
 ob:∃ dx,H p=some (.ins (a "Plank") dx (pf cl w n))
 ls:∃ ts:List Addr,H cl=some (.lst (ts.map V.ref))/\Paired (λt r=>H t=some (.tup r)) ts rows
 wd:∀ r∈rows,r.length=w
 sz:rows.length<=1000
 sw:w<=1000
theorem PlankAt.ne{a:Ad}{H:Hp}{p cl:Addr}{w:Nat}{rows:List (List V)}{n:Nat}(P:PlankAt a H p cl w rows n):p≠cl:=by
 obtain⟨⟨dx,h1⟩,⟨ts,h2,_⟩,_⟩:=P
 exact BK h1 h2 (by intro z;cases z)
theorem PlankAt.keep{a:Ad}{H H':Hp}{p cl:Addr}{w:Nat}{rows:List (List V)}{n:Nat}(P:PlankAt a H p cl w rows n)(h1:H' p=H p)(h2:H' cl=H cl)(h3:∀ b xs,H b=some (.tup xs)->H' b=some (.tup xs)):PlankAt a H' p cl w rows n:=by
 obtain⟨⟨dx,e1⟩,⟨ts,e2,e3⟩,r1,r2,r3⟩:=P
 exact⟨⟨dx,h1.trans e1⟩,⟨ts,h2.trans e2,Paired.mapP e3 λt r q=>h3 t r q⟩,r1,r2,r3⟩
theorem PlankAt.same{a:Ad}{H H':Hp}{p cl:Addr}{w:Nat}{rows:List (List V)}{n:Nat}(P:PlankAt a H p cl w rows n)(s:Same H H'):PlankAt a H' p cl w rows n:=by
 obtain⟨⟨dx,e1⟩,⟨ts,e2,e3⟩,r1,r2,r3⟩:=P
 exact⟨⟨dx,s _ _ e1⟩,⟨ts,s _ _ e2,Paired.mapP e3 λt r q=>s _ _ q⟩,r1,r2,r3⟩
def PN(K:W.Frag)(a:Ad):Sp:=λvs H Q _=>∃ (p dx:Addr) (m w:Nat),vs=[.ref p,.int m,.int w]/\D7 K a/\H p=some (.ins (a "Plank") dx [])/\m<=1000/\1<=w/\w<=1000 ∧
 ∀ cl H',H cl=none->PlankAt a H' p cl w (List.replicate m (List.replicate w .non)) 0->SameBut (· =p) H H'->Q .non H'
def ND(K:W.Frag)(a:Ad):Sp:=λvs H Q _=>∃ p cl w rows n,vs=[.ref p]/\D7 K a/\PlankAt a H p cl w rows n/\Q (.int rows.length) H
def NE(K:W.Frag)(a:Ad):Sp:=λvs H Q _=>∃ (p cl:Addr) (w:Nat) (rows:List (List V)) (n:Nat),vs=[.ref p]/\D7 K a/\PlankAt a H p cl w rows n/\Q (.int w) H
def JU(K:W.Frag)(a:Ad):Sp:=λvs H Q E=>∃ (p cl:Addr) (w:Nat) (rows:List (List V)) (n:Nat) (b:Int),vs=[.ref p,.int b]/\D7 K a/\PlankAt a H p cl w rows n ∧
 (0<=b->b<rows.length->Q .non H)/\(b<0\/rows.length<=b->E (.ref (a "NoBlock")) none H)
def LD(K:W.Frag)(a:Ad):Sp:=λvs H Q E=>∃ (p cl:Addr) (w:Nat) (rows:List (List V)) (n:Nat) (b:Int),vs=[.ref p,.int b]/\D7 K a/\PlankAt a H p cl w rows n ∧
 (∀ (i:Nat) row,b=i->rows[i]? =some row->∀ l,H l=none->Q (.ref l) (upd H l (.lst row)))/\(b<0\/rows.length<=b->E (.ref (a "NoBlock")) none H)
def PP(K:W.Frag)(a:Ad):Sp:=λvs H Q E=>∃ (p cl:Addr) (w:Nat) (rows:List (List V)) (n:Nat) (b:Int) (v:Addr) (xs:List V),vs=[.ref p,.int b,.ref v]/\D7 K a/\PlankAt a H p cl w rows n/\SqL K H v xs/\xs.length<=2000 ∧
 (∀ (i:Nat),b=i->i<rows.length->xs.length=w->∀ H',PlankAt a H' p cl w (rows.set i xs) (n+1)->SameBut (λx=>x=p\/x=cl) H H'->Q .non H') ∧
 (b<0\/rows.length<=b\/xs.length≠w->E (.ref (a "NoBlock")) none H)
end L2
namespace L2
theorem D3{K:W.Frag}{H:Hp}{p:Addr}{xs:List V}{i:Int}{n:Nat}{v:V}{Q:VK}(h:H p=some (.tup xs))(hi:i=n)(hx:xs[n]? =some v)(q:Q v H):CQ K (.ref p) (.int i) H Q :=
 .inr (.inl ⟨p,xs,i,v,rfl,rfl,SqT.of h,by rw[hi];exact SN hx,q⟩)
theorem LE{C C' dx dx':Addr}{fs fs':List (Str × V)}(h:fs≠fs'):HO.ins C dx fs≠HO.ins C' dx' fs':=by
 intro z
 injection z with _ _ z
 exact h z
theorem SameBut.refl{F:Addr->Prop}(H:Hp):SameBut F H H:=λ_ _ e _=>e
theorem SameBut.trans{F:Addr->Prop}{H H' H2:Hp}(s:SameBut F H H')(t:SameBut F H' H2):SameBut F H H2:=λb o e n=>t _ _ (s _ _ e n) n
theorem SameBut.wide{F G:Addr->Prop}{H H':Hp}(s:SameBut F H H')(i:∀ x,F x->G x):SameBut G H H':=λb o e n=>s _ _ e λz=>n (i _ z)
theorem Same.sb{F:Addr->Prop}{H H':Hp}(s:Same H H'):SameBut F H H':=λb o e _=>s b o e
theorem SqL.on{K:W.Frag}{H H':Hp}{x:Addr}{xs:List V}(h:SqL K H x xs)(k:∀ o,H x=some o->H' x=some o):SqL K H' x xs:=by
 rcases h with(h | ⟨o,h⟩) | h
 ·exact .inl (.inl (k _ h))
 ·exact .inl (.inr ⟨o,k _ h⟩)
 ·exact .inr h
theorem SqL.sb{K:W.Frag}{F:Addr->Prop}{H H':Hp}{x:Addr}{xs:List V}(h:SqL K H x xs)(s:SameBut F H H')(f:∀ o,H x=some o->¬ F x):SqL K H' x xs:=by
 rcases h with(h | ⟨o,h⟩) | h
 ·exact .inl (.inl (s _ _ h (f _ h)))
 ·exact .inl (.inr ⟨o,s _ _ h (f _ h)⟩)
 ·exact .inr h
theorem SameBut.upd{F:Addr->Prop}{H H':Hp}{p:Addr}{o:HO}(s:SameBut F H H')(h:F p\/H p=none):SameBut F H (upd H' p o):=λb u e n=>by
 have:b≠p:=by
  rcases h with h | h
  ·exact λz=>n (z ▸ h)
  ·exact BL e h
 rw[AG this];exact s _ _ e n
structure Ch where
 blk:Nat
 cell:Nat
 val:V
 nd:List Int
def JV:List Ch->Int->Int->Option Nat
 | [],_,_=>none
 | c::r,i,j=>if(c.blk:Int)=i/\(c.cell:Int)=j then some r.length else JV r i j
def DW(cs:List Ch)(i j:Int):Option Nat:=JV cs.reverse i j
def GI:List Ch->Nat->List Nat
 | [],_=>[]
 | c::r,b=>if c.blk=b then GI r b++[r.length]else GI r b
def CM(cs:List Ch)(b:Nat):List Nat:=GI cs.reverse b
theorem US(cs:List Ch)(c:Ch)(i j:Int):DW (cs++[c]) i j=if(c.blk:Int)=i/\(c.cell:Int)=j then some cs.length else DW cs i j:=by
 simp[DW,JV]
theorem Hk(cs:List Ch)(c:Ch)(b:Nat):CM (cs++[c]) b=if c.blk=b then CM cs b++[cs.length]else CM cs b:=by
 simp[CM,GI]
theorem UT:∀ {l:List Ch} {i j:Int} {k:Nat},JV l i j=some k->k<l.length
 | [],_,_,_,h=>by cases h
 | c::r,i,j,k,h=>by
  unfold JV at h
  split at h
  ·cases h;simp
  ·have:=UT h
   simp only[List.length_cons];omega
theorem PQ{cs:List Ch}{i j:Int}{k:Nat}(h:DW cs i j=some k):k<cs.length:=by
 have:=UT h
 rwa [List.length_reverse]at this
theorem UU:∀ {l:List Ch} {b k:Nat},k∈GI l b->k<l.length
 | [],_,_,h=>by cases h
 | c::r,b,k,h=>by
  unfold GI at h
  split at h
  ·rcases List.mem_append.mp h with h | h
   ·have:=UU h
    simp only[List.length_cons];omega
   ·rw[List.mem_singleton.mp h];simp
  ·have:=UU h
   simp only[List.length_cons];omega
theorem UV{cs:List Ch}{b k:Nat}(h:k∈CM cs b):k<cs.length:=by
 have:=UU h
 rwa [List.length_reverse]at this
theorem gG:∀ (l:List Ch) (b:Nat),(GI l b).length<=l.length
 | [],_=>Nat.le_refl _
 | c::r,b=>by
  have:=gG r b
  unfold GI
  split<;>simp<;>omega
theorem UW(cs:List Ch)(b:Nat):(CM cs b).length<=cs.length:=by
 have:=gG cs.reverse b
 rwa [List.length_reverse]at this
def EF(pl:Addr)(v:V)(nt:Addr):List (Str × V):=[("place",.ref pl),("value",v),("needs",.ref nt)]
def bf(gp m mi lt ou:Addr):List (Str × V):=[("ground",.ref gp),("made",.ref m),("made_in",.ref mi),("latest",.ref lt),("outs",.ref ou)]
def FB(a b:Str):Bool:=a == b
section
variable{pl nt gp m mi lt ou:Addr}{v:V}
theorem CF{a b:Str}(h:FB a b=false):(a == b)=false:=h
theorem Hl:(EF pl v nt).lookup ("place":Str)=some (V.ref pl):=by simp[EF]
theorem gH:(EF pl v nt).lookup ("value":Str)=some v:=by
 simp[EF,List.lookup_cons,CF (a:="value") (b:="place") (by decide +kernel)]
theorem Hm:(EF pl v nt).lookup ("needs":Str)=some (V.ref nt):=by
 simp[EF,List.lookup_cons,CF (a:="needs") (b:="place") (by decide +kernel),CF (a:="needs") (b:="value") (by decide +kernel)]
theorem IZ{f g:Str}{x y:V}{r:List (Str × V)}(h:FB g f=false):AZ f y ((g,x)::r)=(g,x)::AZ f y r:=by
 have:¬ g=f:=λe=>by rw[e]at h;simp[FB]at h
 simp[AZ,this]
theorem HJ{f:Str}{y:V}:AZ f y []=[(f,y)]:=rfl
theorem Hq:AZ "needs" (.ref nt) (AZ "value" v (AZ "place" (.ref pl) []))=EF pl v nt:=by
 rw[HJ,IZ (by decide +kernel),HJ,IZ (by decide +kernel),IZ (by decide +kernel),HJ]
 rfl
theorem NF:(bf gp m mi lt ou).lookup ("ground":Str)=some (V.ref gp):=by simp[bf]
theorem JW:(bf gp m mi lt ou).lookup ("made":Str)=some (V.ref m):=by
 simp[bf,List.lookup_cons,CF (a:="made") (b:="ground") (by decide +kernel)]
theorem UX:(bf gp m mi lt ou).lookup ("made_in":Str)=some (V.ref mi):=by
 simp[bf,List.lookup_cons,CF (a:="made_in") (b:="ground") (by decide +kernel),CF (a:="made_in") (b:="made") (by decide +kernel)]
theorem gI:(bf gp m mi lt ou).lookup ("latest":Str)=some (V.ref lt):=by
 simp[bf,List.lookup_cons,CF (a:="latest") (b:="ground") (by decide +kernel),CF (a:="latest") (b:="made") (by decide +kernel),CF (a:="latest") (b:="made_in") (by decide +kernel)]
theorem PR:(bf gp m mi lt ou).lookup ("outs":Str)=some (V.ref ou):=by
 simp[bf,List.lookup_cons,CF (a:="outs") (b:="ground") (by decide +kernel),CF (a:="outs") (b:="made") (by decide +kernel),CF (a:="outs") (b:="made_in") (by decide +kernel),CF (a:="outs") (b:="latest") (by decide +kernel)]
theorem EG{x:Str}(h:(FB x "ground" || FB x "made" || FB x "made_in" || FB x "latest" || FB x "outs")=false):(bf gp m mi lt ou).lookup x=none:=by
 simp only[Bool.or_eq_false_iff]at h
 obtain⟨⟨⟨⟨h1,h2⟩,h3⟩,h4⟩,h5⟩:=h
 simp[bf,List.lookup_cons,CF h1,CF h2,CF h3,CF h4,CF h5]
theorem Hv:AZ "outs" (.ref ou) (AZ "latest" (.ref lt) (AZ "made_in" (.ref mi) (AZ "made" (.ref m) (AZ "ground" (.ref gp) []))))=bf gp m mi lt ou:=by
 repeat (first | rw[HJ] | rw[IZ (by decide +kernel)])
 rfl
end
structure gJ(K:W.Frag)(C D:Addr):Prop where
 cl:Cls K C
 nG:NoAttr K C "ground"
 nM:NoAttr K C "made"
 nI:NoAttr K C "made_in"
 nL:NoAttr K C "latest"
 nO:NoAttr K C "outs"
 cc:Cls K D
 nP:NoAttr K D "place"
 nV:NoAttr K D "value"
 nN:NoAttr K D "needs"
def ChAt(D:Addr)(H:Hp)(x:Addr)(c:Ch):Prop:=∃ dx pl nt,H x=some (.ins D dx (EF pl c.val nt))/\H pl=some (.tup [.int c.blk,.int c.cell])/\H nt=some (.tup (c.nd.map V.int))
structure BA where
 b:Addr
 gp:Addr
 m:Addr
 mi:Addr
 lt:Addr
 ou:Addr
 ls:List Addr
 cl:Addr
def BA.F(A:BA)(x:Addr):Prop:=x=A.m\/x=A.mi\/x∈A.ls\/x=A.lt\/x=A.ou\/x=A.cl
def KeysOk(CP:List (AO × V))(n:Nat):Prop:=(CP.map (·.1)).Nodup/\∀ p∈CP,∃ x:Nat,p.1=Sum.inl (x:Int)/\x<n
theorem KeysOk.mono{CP:List (AO × V)}{n m:Nat}(h:KeysOk CP n)(hm:n<=m):KeysOk CP m:=⟨h.1,λp hp=>by obtain⟨x,e,hx⟩:=h.2 p hp;exact⟨x,e,by omega⟩⟩
theorem KeysOk.len{CP:List (AO × V)}{n:Nat}(h:KeysOk CP n):CP.length<=n:=by
 have:=List.Nodup.length_le_of_subset (l₂:=(List.range n).map λ(k:Nat)=>(Sum.inl (k:Int):AO)) h.1 λk hk=>by
  obtain⟨p,hp,rfl⟩:=List.mem_map.mp hk
  obtain⟨x,e,hx⟩:=h.2 p hp
  rw[e]
  exact List.mem_map.mpr ⟨x,List.mem_range.mpr hx,rfl⟩
 simpa using this
theorem KeysOk.put{CP:List (AO × V)}{n:Nat}(h:KeysOk CP n){k:Nat}(hk:k<n)(hn:BR CP (.inl (k:Int))=none)(v:V):KeysOk (CL CP (.inl (k:Int)) v) n:=by
 refine⟨v7 v h.1 hn,λp hp=> ?_⟩
 rw[dG v hn]at hp
 rcases List.mem_append.mp hp with hp | hp
 ·exact h.2 p hp
 ·rw[List.mem_singleton.mp hp];exact⟨k,rfl,hk⟩
structure BookIn(C D:Addr)(H:Hp)(A:BA)(w:Nat)(cs:List Ch)(outs:Int->Bool):Prop where
 ob:∃ dx,H A.b=some (.ins C dx (bf A.gp A.m A.mi A.lt A.ou))
 made:∃ chs:List Addr,H A.m=some (.lst (chs.map V.ref))/\Paired (ChAt D H) chs cs
 mil:H A.mi=some (.lst (A.ls.map V.ref))
 mic:∀ (i:Nat) l,A.ls[i]? =some l->H l=some (.lst ((CM cs i).map λ(k:Nat)=>V.int k))
 nd:A.ls.Nodup
 lat:∃ AD,H A.lt=some (.dT AD)/\(∀ i j:Int,BR AD [.inl i,.inl j]=(DW cs i j).map λ(k:Nat)=>V.int k)/\AD.length<=cs.length
 out:∃ CP,H A.ou=some (.dK CP)/\(∀ k:Int,(BR CP (.inl k)).isSome=outs k)/\KeysOk CP cs.length
 sz:cs.length<=990
 inn:∀ c∈cs,c.blk<A.ls.length/\c.cell<w
 need:∀ (k:Nat) c,cs[k]? =some c->(∀ x∈c.nd,0<=x/\x<k)/\c.nd.Pairwise (· <·)/\c.nd.length<=100
 ap:A.m≠A.mi/\A.m∉A.ls/\A.mi∉A.ls/\A.cl≠A.m/\A.cl≠A.mi/\A.cl∉A.ls
 chn:∀ (k:Nat) c,cs[k]? =some c->∀ j,DW (cs.take k) c.blk c.cell=some j->(j:Int)∈c.nd
structure BookAt(a:Ad)(C:Addr)(H:Hp)(A:BA)(w:Nat)(rows:List (List V))(n:Nat)(cs:List Ch)(outs:Int->Bool):Prop where
 bk:BookIn C (a "Change") H A w cs outs
 pk:PlankAt a H A.gp A.cl w rows n
 nb:A.ls.length=rows.length
def DX(o:Option HO):Prop:=(∀ xs,o≠some (.tup xs))/\∀ C dx fs,o≠some (.ins C dx fs)
theorem ChAt.sb{D:Addr}{G:Addr->Prop}{H H':Hp}(s:SameBut G H H')(g:∀ x,G x->DX (H x)){x:Addr}{c:Ch}(h:ChAt D H x c):ChAt D H' x c:=by
 obtain⟨dx,pl,nt,e1,e2,e3⟩:=h
 exact⟨dx,pl,nt,s _ _ e1 λz=>(g _ z).2 _ _ _ e1,s _ _ e2 λz=>(g _ z).1 _ e2,s _ _ e3 λz=>(g _ z).1 _ e3⟩
theorem BookIn.sb{C D:Addr}{G:Addr->Prop}{H H':Hp}{A:BA}{w:Nat}{cs:List Ch}{outs:Int->Bool}(B:BookIn C D H A w cs outs)(s:SameBut G H H')(g:∀ x,G x->DX (H x))(f:∀ x,G x->¬ A.F x):BookIn C D H' A w cs outs:=by
 obtain⟨⟨dx,e1⟩,⟨chs,e2,e3⟩,e4,e5,e6,⟨AD,e7,e8⟩,⟨CP,e9,e10⟩,r1,r2,r3,r4,r5⟩:=B
 refine⟨⟨dx,s _ _ e1 λz=>(g _ z).2 _ _ _ e1⟩,⟨chs,s _ _ e2 λz=>f _ z (.inl rfl),Paired.mapP e3 λx c h=>h.sb s g⟩,s _ _ e4 λz=>f _ z (.inr (.inl rfl)),λi l h=>s _ _ (e5 i l h) λz=>f _ z (.inr (.inr (.inl (List.mem_of_getElem? h)))),e6,
  ⟨AD,s _ _ e7 λz=>f _ z (.inr (.inr (.inr (.inl rfl)))),e8⟩,⟨CP,s _ _ e9 λz=>f _ z (.inr (.inr (.inr (.inr (.inl rfl))))),e10⟩,r1,r2,r3,r4,r5⟩
theorem PlankAt.sbL{a:Ad}{G:Addr->Prop}{H H':Hp}{p cl:Addr}{w:Nat}{rows:List (List V)}{n:Nat}(P:PlankAt a H p cl w rows n)(s:SameBut G H H')(g:∀ x,G x->DX (H x))(h:¬ G cl):PlankAt a H' p cl w rows n:=by
 obtain⟨⟨dx,e1⟩,⟨ts,e2,e3⟩,r1,r2,r3⟩:=P
 exact⟨⟨dx,s _ _ e1 λz=>(g _ z).2 _ _ _ e1⟩,⟨ts,s _ _ e2 h,Paired.mapP e3 λt r q=>s _ _ q λz=>(g _ z).1 _ q⟩,r1,r2,r3⟩
theorem BookAt.sb{a:Ad}{C:Addr}{G:Addr->Prop}{H H':Hp}{A:BA}{w:Nat}{rows:List (List V)}{n:Nat}{cs:List Ch}{outs:Int->Bool}(B:BookAt a C H A w rows n cs outs)(s:SameBut G H H')(g:∀ x,G x->DX (H x))(f:∀ x,G x->¬ A.F x):BookAt a C H' A w rows n cs outs :=
 ⟨B.bk.sb s g f,B.pk.sbL s g λz=>f _ z (.inr (.inr (.inr (.inr (.inr rfl))))),B.nb⟩
theorem BookAt.same{a:Ad}{C:Addr}{H H':Hp}{A:BA}{w:Nat}{rows:List (List V)}{n:Nat}{cs:List Ch}{outs:Int->Bool}(B:BookAt a C H A w rows n cs outs)(s:Same H H'):BookAt a C H' A w rows n cs outs :=
 B.sb (G:=λ_=>False) (Same.sb s) (λ_ z=>z.elim) λ_ z=>z.elim
theorem BookAt.off{a:Ad}{C:Addr}{H:Hp}{A:BA}{w:Nat}{rows:List (List V)}{n:Nat}{cs:List Ch}{outs:Int->Bool}(B:BookAt a C H A w rows n cs outs){x:Addr}(h:H x=none):¬ A.F x:=by
 obtain⟨⟨_,⟨chs,e2,_⟩,e4,e5,_,⟨AD,e7,_⟩,⟨CP,e9,_⟩,_⟩,⟨_,⟨ts,e11,_⟩,_⟩,_⟩:=B
 rintro (z | z | z | z | z | z)
 ·rw[z,e2]at h;cases h
 ·rw[z,e4]at h;cases h
 ·obtain⟨i,hi,e⟩:=List.getElem_of_mem z
  have:=e5 i x (by rw[<-e];exact List.getElem?_eq_getElem hi)
  rw[this]at h;cases h
 ·rw[z,e7]at h;cases h
 ·rw[z,e9]at h;cases h
 ·rw[z,e11]at h;cases h
theorem UY{α :Type}{l:List α}{x: α}(h:x∈l):∃ i:Nat,l[i]? =some x:=by
 obtain⟨i,hi,e⟩:=List.getElem_of_mem h
 exact⟨i,by rw[<-e];exact List.getElem?_eq_getElem hi⟩
theorem PU{H:Hp}{x:Addr}{xs:List V}(h:H x=some (.lst xs)):DX (H x):=by
 rw[h];exact⟨λ_ z=>(by cases z),λ_ _ _ z=>(by cases z)⟩
theorem PY{H:Hp}{x:Addr}{xs:List (AO × V)}(h:H x=some (.dK xs)):DX (H x):=by
 rw[h];exact⟨λ_ z=>(by cases z),λ_ _ _ z=>(by cases z)⟩
theorem Hw{H:Hp}{x:Addr}{xs:List (List AO × V)}(h:H x=some (.dT xs)):DX (H x):=by
 rw[h];exact⟨λ_ z=>(by cases z),λ_ _ _ z=>(by cases z)⟩
theorem BookAt.loose{a:Ad}{C:Addr}{H:Hp}{A:BA}{w:Nat}{rows:List (List V)}{n:Nat}{cs:List Ch}{outs:Int->Bool}(B:BookAt a C H A w rows n cs outs){x:Addr}(h:A.F x):DX (H x):=by
 obtain⟨⟨_,⟨chs,e2,_⟩,e4,e5,_,⟨AD,e7,_⟩,⟨CP,e9,_⟩,_⟩,⟨_,⟨ts,e11,_⟩,_⟩,_⟩:=B
 rcases h with z | z | z | z | z | z
 ·exact PU (z ▸ e2)
 ·exact PU (z ▸ e4)
 ·obtain⟨i,e⟩:=UY z
  exact PU (e5 i x e)
 ·exact Hw (z ▸ e7)
 ·exact PY (z ▸ e9)
 ·exact PU (z ▸ e11)
structure zhg(cs:List Ch)(outs:Int->Bool)(ns:List Int)(R:Int->Bool):Prop where
 all:∀ x∈ns,R x=true
 up:∀ (k:Nat) (c:Ch),cs[k]? =some c->outs k=false->R k=true->∀ y∈c.nd,R y=true
 only:∀ x,R x=true->x∈ns\/∃ (k:Nat) (c:Ch),cs[k]? =some c/\outs k=false/\R k=true/\x∈c.nd
end L2
namespace L2
def HK(nd:List Int)(there:Int->Bool):Option Int:=nd.find? λx=> !there x
structure Pass where
 out:List Nat
 held:List (Nat × Int)
 gone:Int->Bool
def DO(cs:List Ch)(outs:Int->Bool)(s:Pass)(k:Nat):Pass :=
 if outs k || s.gone k then s else
  match (cs[k]?).bind λc=>HK c.nd λx=>outs x || s.gone x with
  | none=>⟨s.out++[k],s.held,λx=>s.gone x || x ==(k:Int)⟩
  | some l=>⟨s.out,s.held++[(k,l)],s.gone⟩
def outcome(cs:List Ch)(outs taken:Int->Bool)(b:Nat):Pass:=(CM cs b).foldl (DO cs outs) ⟨[],[],taken⟩
def HL(cs:List Ch)(outs:Int->Bool)(r:List V)(k:Nat):List V :=
 if outs k then match cs[k]? with
  | some c=>r.set c.cell c.val
  | none=>r
 else r
def F3(cs:List Ch)(outs:Int->Bool)(b:Nat)(row:List V):List V:=(CM cs b).foldl (HL cs outs) row
def GJ(cs:List Ch)(outs:Int->Bool)(b:Nat):Int->Bool:=λx=>outs x || (outcome cs outs (λ_=>false) b).out.any λ(k:Nat)=>x ==(k:Int)
theorem Hx{cs:List Ch}{outs:Int->Bool}(r:List V)(k:Nat):(HL cs outs r k).length=r.length:=by
 unfold HL
 split
 ·split
  ·rw[List.length_set]
  ·rfl
 ·rfl
theorem UZ{cs:List Ch}{outs:Int->Bool}:∀ (l:List Nat) (r:List V),(l.foldl (HL cs outs) r).length=r.length
 | [],r=>rfl
 | k::l,r=>by rw[List.foldl_cons,UZ l,Hx]
theorem gK{cs:List Ch}{outs:Int->Bool}{b:Nat}{row:List V}:(F3 cs outs b row).length=row.length:=UZ _ _
theorem U0{cs:List Ch}{outs:Int->Bool}:∀ (l:List Nat) (s:Pass),(l.foldl (DO cs outs) s).out.length+(l.foldl (DO cs outs) s).held.length<=s.out.length+s.held.length+l.length
 | [],s=>by simp
 | k::l,s=>by
  rw[List.foldl_cons]
  have h:=U0 (cs:=cs) (outs:=outs) l (DO cs outs s k)
  have h2:(DO cs outs s k).out.length+(DO cs outs s k).held.length<=s.out.length+s.held.length+1:=by
   unfold DO
   split
   ·omega
   ·split<;>simp<;>omega
  simp only[List.length_cons]
  omega
theorem gL{α β :Type}(f: β -> α -> β)(b: β){l:List α}{i:Nat}{x: α}(h:l[i]? =some x):(l.take (i+1)).foldl f b=f ((l.take i).foldl f b) x:=by
 obtain⟨hi,e⟩:=List.getElem?_eq_some_iff.mp h
 rw[<-e,<-List.take_append_getElem hi,List.foldl_append]
 rfl
theorem gM(b:Nat):∀ l:List Ch,GI l b=(List.range l.length).filter λ(k:Nat)=>(l.reverse[k]?).any λc=>c.blk == b
 | []=>rfl
 | c::r=>by
  have ih:=gM b r
  have e:(List.range r.length).filter (λ(k:Nat)=>((c::r).reverse[k]?).any λc=>c.blk == b)=GI r b:=by
   rw[ih]
   refine List.filter_congr λk hk=> ?_
   rw[List.reverse_cons,List.getElem?_append_left (by rw[List.length_reverse];exact List.mem_range.mp hk)]
  have e2:(c::r).reverse[r.length]? =some c:=by
   rw[List.reverse_cons,List.getElem?_append_right (by rw[List.length_reverse];exact Nat.le_refl _)]
   simp
  rw[List.length_cons,List.range_succ,List.filter_append,e]
  show(if c.blk=b then GI r b++[r.length]else GI r b)=_
  by_cases h:c.blk=b
  ·rw[if_pos h]
   simp[e2,h]
  ·rw[if_neg h]
   simp[e2,h]
theorem PZ(cs:List Ch)(b:Nat):CM cs b=(List.range cs.length).filter λ(k:Nat)=>(cs[k]?).any λc=>c.blk == b:=by
 have:=gM b cs.reverse
 rw[List.reverse_reverse,List.length_reverse]at this
 exact this
theorem Hy(cs:List Ch)(b:Nat):(CM cs b).Pairwise (· <·):=by
 rw[PZ]
 exact List.pairwise_lt_range.filter _
theorem Hz{cs:List Ch}{b k:Nat}:k∈CM cs b↔∃ c,cs[k]? =some c/\c.blk=b:=by
 rw[PZ,List.mem_filter,List.mem_range]
 constructor
 ·rintro ⟨h,h2⟩
  rw[List.getElem?_eq_getElem h]at h2 ⊢
  exact⟨_,rfl,by simpa using h2⟩
 ·rintro ⟨c,e,rfl⟩
  exact⟨(List.getElem?_eq_some_iff.mp e).1,by rw[e];simp⟩
theorem Jb{cs:List Ch}{outs:Int->Bool}(s:Pass)(k:Nat):DO cs outs s k=s\/(outs k=false/\DO cs outs s k=⟨s.out++[k],s.held,λx=>s.gone x || x ==(k:Int)⟩)\/∃ l,DO cs outs s k=⟨s.out,s.held++[(k,l)],s.gone⟩:=by
 unfold DO
 split
 ·exact .inl rfl
 ·rename_i hc
  simp only[Bool.or_eq_true,not_or,Bool.not_eq_true]at hc
  split
  ·exact .inr (.inl ⟨hc.1,rfl⟩)
  ·exact .inr (.inr ⟨_,rfl⟩)
theorem gO{cs:List Ch}{outs:Int->Bool}:∀ (l:List Nat) (s:Pass),∃ l',(l.foldl (DO cs outs) s).out=s.out++l'/\l'.Sublist l/\(∀ k∈l',outs k=false)/\∀ x,(l.foldl (DO cs outs) s).gone x=(s.gone x || l'.any λ(k:Nat)=>x ==(k:Int))
 | [],s=>⟨[],by simp,.slnil,by simp,by simp⟩
 | k::l,s=>by
  rw[List.foldl_cons]
  obtain⟨l',h1,h2,h3,h4⟩:=gO (cs:=cs) (outs:=outs) l (DO cs outs s k)
  rcases Jb (cs:=cs) (outs:=outs) s k with e | ⟨ho,e⟩ | ⟨l0,e⟩
  ·rw[e]at h1 h4 ⊢
   exact⟨l',h1,h2.cons _,h3,h4⟩
  ·rw[e]at h1 h4 ⊢
   refine⟨k::l',by rw[h1];simp,h2.cons_cons _,λx hx=> ?_,λx=> ?_⟩
   ·rcases List.mem_cons.mp hx with rfl | hx
    ·exact ho
    ·exact h3 x hx
   ·rw[h4,List.any_cons,Bool.or_assoc]
  ·rw[e]at h1 h4 ⊢
   exact⟨l',h1,h2.cons _,h3,h4⟩
theorem Jc{cs:List Ch}{outs:Int->Bool}{b:Nat}:(outcome cs outs (λ_=>false) b).out.Pairwise (· <·)/\(∀ k∈(outcome cs outs (λ_=>false) b).out,outs k=false/\k∈CM cs b)/\∀ x,(outcome cs outs (λ_=>false) b).gone x=(outcome cs outs (λ_=>false) b).out.any λ(k:Nat)=>x ==(k:Int):=by
 obtain⟨l',h1,h2,h3,h4⟩:=gO (cs:=cs) (outs:=outs) (CM cs b) ⟨[],[],λ_=>false⟩
 have e:(outcome cs outs (λ_=>false) b).out=l':=by unfold outcome;rw[h1];rfl
 rw[e]
 exact⟨(Hy cs b).sublist h2,λk hk=>⟨h3 k hk,h2.subset hk⟩,λx=>by unfold outcome;rw[h4];simp⟩
def ToldAt(H:Hp)(t ol hl:Addr)(out:List Nat)(held:List (Nat × Int)):Prop:=H t=some (.tup [.ref ol,.ref hl])/\H ol=some (.lst (out.map λ(k:Nat)=>V.int k))/\∃ hs:List Addr,H hl=some (.lst (hs.map V.ref))/\Paired (λx (p:Nat × Int)=>H x=some (.tup [.int p.1,.int p.2])) hs held
theorem ToldAt.same{H H':Hp}{t ol hl:Addr}{out:List Nat}{held:List (Nat × Int)}(h:ToldAt H t ol hl out held)(s:Same H H'):ToldAt H' t ol hl out held:=by
 obtain⟨h1,h2,hs,h3,h4⟩:=h
 exact⟨s _ _ h1,s _ _ h2,hs,s _ _ h3,Paired.mapP h4 λx p e=>s _ _ e⟩
theorem ToldAt.sb{F:Addr->Prop}{H H':Hp}{t ol hl:Addr}{out:List Nat}{held:List (Nat × Int)}(h:ToldAt H t ol hl out held)(s:SameBut F H H')(n:∀ x,F x->∀ xs,H x≠some (.tup xs))(n1:¬ F ol)(n2:¬ F hl):ToldAt H' t ol hl out held:=by
 obtain⟨h1,h2,hs,h3,h4⟩:=h
 exact⟨s _ _ h1 λz=>n _ z _ h1,s _ _ h2 n1,hs,s _ _ h3 n2,Paired.mapP h4 λx p e=>s _ _ e λz=>n _ z _ e⟩
def P0(cs:List Ch)(r:List V)(k:Nat):List V:=match cs[k]? with
 | some c=>r.set c.cell c.val
 | none=>r
def P4(cs:List Ch)(ks:List Nat)(row:List V):List V:=ks.foldl (P0 cs) row
theorem Jd(cs:List Ch)(O:Int->Bool)(b:Nat)(row:List V):F3 cs O b row=P4 cs ((CM cs b).filter λ(k:Nat)=>O k) row:=by
 unfold F3 P4
 rw[List.foldl_filter]
 rfl
def HM(cs:List Ch):List Nat->Nat->Option Ch
 | [],_=>none
 | k::r,j=>match HM cs r j with
  | some c=>some c
  | none=>(cs[k]?).filter λc=>c.cell == j
theorem U1(cs:List Ch)(k:Nat)(r:List Nat)(j:Nat):HM cs (k::r) j=match HM cs r j with
  | some c=>some c
  | none=>(cs[k]?).filter λc=>c.cell == j:=rfl
theorem gP(cs:List Ch)(j:Nat):∀ (ks:List Nat) (row:List V),(P4 cs ks row)[j]? =(row[j]?).map λv=>((HM cs ks j).map (·.val)).getD v
 | [],row=>by
  show row[j]? =_
  cases row[j]? <;>rfl
 | k::r,row=>by
  show(P4 cs r (P0 cs row k))[j]? =_
  rw[gP cs j r,U1]
  cases h:HM cs r j with
  | some c =>
   unfold P0
   cases e:cs[k]? with
   | none=>rfl
   | some c0 =>
    dsimp only
    rw[List.getElem?_set]
    by_cases hj:c0.cell=j
    ·subst hj
     rw[if_pos rfl]
     by_cases hl:c0.cell<row.length
     ·rw[if_pos hl,List.getElem?_eq_getElem hl];rfl
     ·rw[if_neg hl,List.getElem?_eq_none (by omega)]
    ·rw[if_neg hj]
  | none =>
   unfold P0
   cases e:cs[k]? with
   | none=>rfl
   | some c0 =>
    dsimp only
    rw[List.getElem?_set]
    by_cases hj:c0.cell=j
    ·subst hj
     rw[if_pos rfl]
     by_cases hl:c0.cell<row.length
     ·rw[if_pos hl,List.getElem?_eq_getElem hl];simp[Option.filter]
     ·rw[if_neg hl,List.getElem?_eq_none (by omega)];rfl
    ·rw[if_neg hj]
     have:(Option.filter (λ(c:Ch)=>c.cell == j) (some c0))=none:=by simp[Option.filter,hj]
     rw[this]
theorem gQ{cs:List Ch}{j:Nat}{c:Ch}:∀ {ks:List Nat},HM cs ks j=some c->∃ k∈ks,cs[k]? =some c/\c.cell=j/\(ks.Pairwise (· <·)->∀ k'∈ks,k<k'->∀ c',cs[k']? =some c'->c'.cell≠j)
 | [],h=>by cases h
 | k::r,h=>by
  rw[U1]at h
  cases e:HM cs r j with
  | some c1 =>
   rw[e]at h
   cases h
   obtain⟨k1,h1,h2,h3,h4⟩:=gQ e
   refine⟨k1,List.mem_cons_of_mem _ h1,h2,h3,λhp k' hk' BD c' ec=> ?_⟩
   obtain⟨p1,p2⟩:=List.pairwise_cons.mp hp
   rcases List.mem_cons.mp hk' with rfl | hk'
   ·have:=p1 k1 h1;omega
   ·exact h4 p2 k' hk' BD c' ec
  | none =>
   rw[e]at h
   dsimp only at h
   cases ec:cs[k]? with
   | none=>rw[ec]at h;cases h
   | some c0 =>
    rw[ec]at h
    have hc:c0.cell=j/\c0=c:=by
     simp only[Option.filter]at h
     split at h
     ·rename_i hh;cases h;exact⟨by simpa using hh,rfl⟩
     ·cases h
    obtain⟨hc,rfl⟩:=hc
    refine⟨k,List.mem_cons_self ..,ec,hc,λhp k' hk' BD c' ec'=> ?_⟩
    rcases List.mem_cons.mp hk' with rfl | hk'
    ·omega
    ·exact lastAt_no e k' hk' c' ec'
where
 lastAt_no {cs:List Ch} {j:Nat}:∀ {ks:List Nat},HM cs ks j=none->∀ k∈ks,∀ c,cs[k]? =some c->c.cell≠j
  | [],_,k,hk=>by cases hk
  | k0::r,h,k,hk=>λc ec hj=>by
   rw[U1]at h
   cases e:HM cs r j with
   | some c1=>rw[e]at h;cases h
   | none =>
    rw[e]at h
    rcases List.mem_cons.mp hk with rfl | hk
    ·rw[ec]at h
     simp[Option.filter,hj]at h
    ·exact lastAt_no e k hk c ec hj
theorem gR{i j:Int}:∀ {l:List Ch} {k:Nat} {c:Ch},l.reverse[k]? =some c->(c.blk:Int)=i->(c.cell:Int)=j->∃ j0 c0,JV l i j=some j0/\k<=j0/\l.reverse[j0]? =some c0/\(c0.blk:Int)=i/\(c0.cell:Int)=j
 | [],k,c,h,_,_=>by simp at h
 | c1::r,k,c,h,h1,h2=>by
  have hk:=(List.getElem?_eq_some_iff.mp h).1
  rw[List.length_reverse,List.length_cons]at hk
  unfold JV
  by_cases hp:(c1.blk:Int)=i/\(c1.cell:Int)=j
  ·rw[if_pos hp]
   refine⟨r.length,c1,rfl,by omega,?_,hp⟩
   rw[List.reverse_cons,List.getElem?_append_right (by rw[List.length_reverse];exact Nat.le_refl _)]
   simp
  ·rw[if_neg hp]
   have BD:k<r.length:=by
    rcases Nat.lt_or_ge k r.length with z | z
    ·exact z
    ·exfalso
     have:k=r.length:=by omega
     subst this
     rw[List.reverse_cons,List.getElem?_append_right (by rw[List.length_reverse];exact Nat.le_refl _)]at h
     simp at h
     subst h
     exact hp ⟨h1,h2⟩
   rw[List.reverse_cons,List.getElem?_append_left (by rw[List.length_reverse];exact BD)]at h
   obtain⟨j0,c0,e1,e2,e3,e4⟩:=gR h h1 h2
   refine⟨j0,c0,e1,e2,?_,e4⟩
   have:=UT e1
   rw[List.reverse_cons,List.getElem?_append_left (by rw[List.length_reverse];exact this)]
   exact e3
theorem Jg{cs:List Ch}{k:Nat}{c:Ch}(h:cs[k]? =some c):∃ j0 c0,DW cs c.blk c.cell=some j0/\k<=j0/\cs[j0]? =some c0/\c0.blk=c.blk/\c0.cell=c.cell:=by
 obtain⟨j0,c0,e1,e2,e3,e4,e5⟩:=gR (l:=cs.reverse) (i:=c.blk) (j:=c.cell) (by rw[List.reverse_reverse];exact h) rfl rfl
 rw[List.reverse_reverse]at e3
 exact⟨j0,c0,e1,e2,e3,by omega,by omega⟩
end L2
namespace L2
end L2
namespace L2
structure D8(K:W.Frag)(a:Ad):Prop where
 cl:Cls K (a "Layout")
 n1:NoAttr K (a "Layout") "name_blocks"
 n2:NoAttr K (a "Layout") "record_blocks"
 n3:NoAttr K (a "Layout") "piece_blocks"
 n4:NoAttr K (a "Layout") "width"
section
variable{n r c w:Int}
def lf(n r c w:Int):List (Str × V):=[("name_blocks",.int n),("record_blocks",.int r),("piece_blocks",.int c),("width",.int w)]
theorem P5:(lf n r c w).lookup ("name_blocks":Str)=some (V.int n):=by simp[lf]
theorem NG:(lf n r c w).lookup ("record_blocks":Str)=some (V.int r):=by
 simp[lf,List.lookup_cons,CF (a:="record_blocks") (b:="name_blocks") (by decide +kernel)]
theorem U2:(lf n r c w).lookup ("piece_blocks":Str)=some (V.int c):=by
 simp[lf,List.lookup_cons,CF (a:="piece_blocks") (b:="name_blocks") (by decide +kernel),CF (a:="piece_blocks") (b:="record_blocks") (by decide +kernel)]
theorem LF:(lf n r c w).lookup ("width":Str)=some (V.int w):=by
 simp[lf,List.lookup_cons,CF (a:="width") (b:="name_blocks") (by decide +kernel),CF (a:="width") (b:="record_blocks") (by decide +kernel),CF (a:="width") (b:="piece_blocks") (by decide +kernel)]
theorem C4{x:Str}(h:(FB x "name_blocks" || FB x "record_blocks" || FB x "piece_blocks" || FB x "width")=false):(lf n r c w).lookup x=none:=by
 simp only[Bool.or_eq_false_iff]at h
 obtain⟨⟨⟨h1,h2⟩,h3⟩,h4⟩:=h
 simp[lf,List.lookup_cons,CF h1,CF h2,CF h3,CF h4]
theorem Jh:AZ "width" (.int w) (AZ "piece_blocks" (.int c) (AZ "record_blocks" (.int r) (AZ "name_blocks" (.int n) [])))=lf n r c w:=by
 repeat (first | rw[HJ] | rw[IZ (by decide +kernel)])
 rfl
end
structure LayAt(a:Ad)(H:Hp)(p:Addr)(n r c w:Nat):Prop where
 ob:∃ dx,H p=some (.ins (a "Layout") dx (lf n r c w))
 hn:n<=100
 hr:r<=100
 hc:c<=100
 h1:1<=w
 hw:w<=100
theorem LayAt.same{a:Ad}{H H':Hp}{p:Addr}{n r c w:Nat}(L:LayAt a H p n r c w)(s:Same H H'):LayAt a H' p n r c w:=by
 obtain⟨⟨dx,e⟩,z1,z2,z3,z4,z5⟩:=L
 exact⟨⟨dx,s _ _ e⟩,z1,z2,z3,z4,z5⟩
theorem LayAt.sb{a:Ad}{F:Addr->Prop}{H H':Hp}{p:Addr}{n r c w:Nat}(L:LayAt a H p n r c w)(s:SameBut F H H')(f:¬ F p):LayAt a H' p n r c w:=by
 obtain⟨⟨dx,e⟩,z1,z2,z3,z4,z5⟩:=L
 exact⟨⟨dx,s _ _ e f⟩,z1,z2,z3,z4,z5⟩
def P7(K:W.Frag)(a:Ad):Sp:=λvs H Q _=>∃ (p dx:Addr) (n r c w:Nat),vs=[.ref p,.int n,.int r,.int c,.int w]/\D8 K a/\H p=some (.ins (a "Layout") dx [])/\n<=100/\r<=100/\c<=100/\1<=w/\w<=100 ∧
 ∀ H',LayAt a H' p n r c w->SameBut (· =p) H H'->Q .non H'
def GK(x y:Int)(Q:VK)(H:Hp):Prop:=∀ t,H t=none->Q (.ref t) (upd H t (.tup [.int x,.int y]))
def JA(K:W.Frag)(a:Ad):Sp:=λvs H Q _=>∃ (p:Addr) (n r c w k:Nat) (b:Int),vs=[.ref p,.int b,.int k]/\D8 K a/\LayAt a H p n r c w/\GK (b+k / w) (k % w) Q H
def JX(K:W.Frag)(a:Ad):Sp:=λvs H Q _=>∃ (p:Addr) (n r c w k:Nat),vs=[.ref p,.int k]/\D8 K a/\LayAt a H p n r c w/\GK (0+k / w) (k % w) Q H
def JY(K:W.Frag)(a:Ad):Sp:=λvs H Q _=>∃ (p:Addr) (n r c w k:Nat),vs=[.ref p,.int k]/\D8 K a/\LayAt a H p n r c w/\GK (n+k / w) (k % w) Q H
def LG(K:W.Frag)(a:Ad):Sp:=λvs H Q _=>∃ (p:Addr) (n r c w k:Nat),vs=[.ref p,.int k]/\D8 K a/\LayAt a H p n r c w/\GK (n+r+k / w) (k % w) Q H
def LH(K:W.Frag)(a:Ad):Sp:=λvs H Q _=>∃ (p:Addr) (n r c w k:Nat),vs=[.ref p,.int k]/\D8 K a/\LayAt a H p n r c w/\GK (n+r+c+k / w) (k % w) Q H
def LI(K:W.Frag)(a:Ad):Sp:=λvs H Q _=>∃ (p:Addr) (n r c w k:Nat),vs=[.ref p,.int k]/\D8 K a/\LayAt a H p n r c w/\GK (n+r+c+r+k / w) (k % w) Q H
def LJ(K:W.Frag)(a:Ad):Sp:=λvs H Q _=>∃ (p:Addr) (n r c w:Nat),vs=[.ref p]/\D8 K a/\LayAt a H p n r c w/\Q (.int (n+r+c)) H
def P8(K:W.Frag)(a:Ad):Sp:=λvs H Q _=>∃ (p:Addr) (n r c w:Nat),vs=[.ref p]/\D8 K a/\LayAt a H p n r c w/\Q (.int (n+r+c+r+c)) H
def JZ(K:W.Frag)(a:Ad):Sp:=λvs H Q _=>∃ (p:Addr) (n r c w:Nat),vs=[.ref p]/\D8 K a/\LayAt a H p n r c w/\∀ t,H t=none->Q (.ref t) (upd H t (.tup [.int (n * w),.int (r * w),.int (c * w)]))
def NH(K:W.Frag)(a:Ad):Sp:=λvs H Q _=>∃ (p:Addr) (n r c w:Nat),vs=[.ref p]/\D8 K a/\D7 K a/\LayAt a H p n r c w ∧
 ∀ x cl H',H x=none->H cl=none->PlankAt a H' x cl w (List.replicate (n+r+c+r+c) (List.replicate w .non)) 0->Same H H'->Q (.ref x) H'
end L2
namespace L2
inductive CV where
 | no
 | nm (z:Str) (k:Nat)
 | mk (i:Nat)
 | rc (m:Nat) (ps:List Nat)
 | tx (z:Str)
abbrev Md:=Nat->Nat->CV
def Md.put(M:Md)(kind k:Nat)(x:CV):Md:=λi j=>if i=kind/\j=k then x else M i j
structure AC where
 kind:Nat
 k:Nat
 x:CV
 nd:List Nat
def sh(M0:Md)(C:Nat->Bool):List AC->Md
 | []=>M0
 | a::r=>if C r.length then(sh M0 C r).put a.kind a.k a.x else sh M0 C r
abbrev CJ(M0:Md)(as:List AC):Md:=sh M0 (λ_=>true) as
def G4(kind k:Nat):List AC->Option Nat
 | []=>none
 | a::r=>if a.kind=kind/\a.k=k then some r.length else G4 kind k r
def F4(C:Nat->Bool):List AC->Prop
 | []=>True
 | a::r=>F4 C r/\(C r.length=true->(∀ y∈a.nd,C y=true)/\∀ j,G4 a.kind a.k r=some j->C j=true)
section
variable{M0 S:Md}{C:Nat->Bool}{as:List AC}{kind k m0:Nat}{x:CV}
theorem CZ:S.put kind k x kind k=x:=if_pos ⟨rfl,rfl⟩
theorem D9{i j:Nat}(h:i≠kind):S.put kind k x i j=S i j:=if_neg λz=>h z.1
theorem DK{i j:Nat}(h:j≠k):S.put kind k x i j=S i j:=if_neg λz=>h z.2
theorem Jj(h:∀ j,G4 kind k as=some j->C j=true):sh M0 C as kind k=CJ M0 as kind k:=by
 induction as with
 | nil=>rfl
 | cons a r ih =>
  unfold G4 at h
  simp only[sh,if_true]
  by_cases e:a.kind=kind/\a.k=k
  ·rw[if_pos e]at h
   obtain⟨rfl,rfl⟩:=e
   rw[h _ rfl]
   simp only[if_true]
   rw[CZ,CZ]
  ·rw[if_neg e]at h
   have:=ih h
   have e':¬ (kind=a.kind/\k=a.k):=λz=>e ⟨z.1.symm,z.2.symm⟩
   unfold Md.put
   rw[if_neg e']
   by_cases c:C r.length=true
   ·rw[if_pos c,if_neg e'];exact this
   ·rw[if_neg c];exact this
theorem IL{a:AC}(h:F4 C (a::as))(c:C as.length=true):sh M0 C as a.kind a.k=CJ M0 as a.kind a.k:=Jj (h.2 c).2
theorem EQ{a:AC}:CJ M0 (a::as)=(CJ M0 as).put a.kind a.k a.x:=rfl
theorem DG{a:AC}(c:C as.length=true):sh M0 C (a::as)=(sh M0 C as).put a.kind a.k a.x:=if_pos c
theorem JB{a:AC}(c:¬ C as.length=true):sh M0 C (a::as)=sh M0 C as:=if_neg c
def FM:CV->Nat->Bool
 | .nm _ r',r=>r' == r
 | _,_=>false
def ld(m0:Nat)(S:Md)(r:Nat):Nat:=(List.range m0).countP λk=>FM (S 0 k) r
theorem P9{r:Nat}(h:kind≠0):ld m0 (S.put kind k x) r=ld m0 S r:=by
 unfold ld
 congr 1
 funext j
 rw[D9 h.symm]
theorem U3{r:Nat}:∀ {m0:Nat},k<m0->ld m0 (S.put 0 k x) r+(if FM (S 0 k) r then 1 else 0)=ld m0 S r+(if FM x r then 1 else 0):=by
 intro m0
 unfold ld
 induction m0 with
 | zero=>intro h;omega
 | succ n ih =>
  intro h
  rw[List.range_succ,List.countP_append,List.countP_append]
  simp only[List.countP_cons,List.countP_nil,Nat.zero_add]
  by_cases e:k=n
  ·subst e
   have:(List.range k).countP (λj=>FM ((S.put 0 k x) 0 j) r)=(List.range k).countP (λj=>FM (S 0 j) r):=List.countP_congr λj hj=>by
    rw[DK (by have:=List.mem_range.mp hj;omega)]
   rw[this,CZ]
   omega
  ·have:=ih (by omega)
   rw[DK (λz=>e z.symm)]
   omega
structure Snd(m0:Nat)(S:Md):Prop where
 nl:∀ k z r,k<m0->S 0 k=.nm z r->∃ m ps,S 3 r=.rc m ps
 ct:∀ r m ps,S 3 r=.rc m ps->ld m0 S r<=m
 mr:∀ r m ps,S 3 r=.rc m ps->S 1 r=.mk 1
 nd:∀ r m ps,S 3 r=.rc m ps->ps.Nodup
 pm:∀ r m ps,S 3 r=.rc m ps->∀ p∈ps,S 2 p=.mk 1/\∃ t,S 4 p=.tx t
 dj:∀ r r' m m' ps ps',r≠r'->S 3 r=.rc m ps->S 3 r'=.rc m' ps'->∀ p∈ps,p∉ps'
 un:∀ k k' z r r',k<m0->k'<m0->S 0 k=.nm z r->S 0 k'=.nm z r'->k=k'
theorem Snd.rmark(I:Snd m0 S){r i:Nat}(h:i=1\/∀ m ps,S 3 r≠.rc m ps):Snd m0 (S.put 1 r (.mk i)):=by
 refine⟨I.nl,λr' m ps e=>I.ct r' m ps e,λr' m ps e=> ?_,I.nd,I.pm,I.dj,I.un⟩
 have e:S 3 r'=.rc m ps:=e
 by_cases z:r'=r
 ·subst z
  rw[CZ]
  rcases h with h | h
  ·rw[h]
  ·exact absurd e (h m ps)
 ·rw[DK z];exact I.mr r' m ps e
theorem Snd.pmark(I:Snd m0 S){p i:Nat}(h:i=1\/∀ r m ps,S 3 r=.rc m ps->p∉ps):Snd m0 (S.put 2 p (.mk i)):=by
 refine⟨I.nl,λr' m ps e=>I.ct r' m ps e,I.mr,I.nd,λr' m ps e q hq=>⟨?_,(I.pm r' m ps e q hq).2⟩,I.dj,I.un⟩
 have e:S 3 r'=.rc m ps:=e
 by_cases z:q=p
 ·subst z
  rw[CZ]
  rcases h with h | h
  ·rw[h]
  ·exact absurd hq (h r' m ps e)
 ·rw[DK z];exact(I.pm r' m ps e q hq).1
theorem Snd.text(I:Snd m0 S){p:Nat}{t:Str}:Snd m0 (S.put 4 p (.tx t)):=by
 refine⟨I.nl,λr' m ps e=>I.ct r' m ps e,I.mr,I.nd,λr' m ps e q hq=>⟨(I.pm r' m ps e q hq).1,?_⟩,I.dj,I.un⟩
 by_cases z:q=p
 ·subst z;exact⟨t,CZ⟩
 ·rw[DK z];exact(I.pm r' m ps e q hq).2
theorem Snd.gone(I:Snd m0 S)(hk:k<m0):Snd m0 (S.put 0 k .no):=by
 have at':∀ {j z r},(S.put 0 k .no) 0 j=.nm z r->S 0 j=.nm z r:=λ{j z r} e=>by
  by_cases h:j=k
  ·subst h;rw[CZ]at e;cases e
  ·rw[DK h]at e;exact e
 refine⟨λj z r hj e=>I.nl j z r hj (at' e),λr m ps e=> ?_,I.mr,I.nd,I.pm,I.dj,λj j' z r r' h h' e e'=>I.un j j' z r r' h h' (at' e) (at' e')⟩
 have l:=U3 (S:=S) (x:=.no) (r:=r) hk
 have c:=I.ct r m ps e
 rw[show FM .no r=false from rfl]at l
 simp only[Bool.false_eq_true,if_false]at l
 omega
theorem Snd.fill(I:Snd m0 S)(hk:k<m0){z:Str}{r m:Nat}{ps:List Nat}(h3:S 3 r=.rc m ps)(hl:ld m0 S r+1<=m)(hz:∀ j r',j<m0->S 0 j≠.nm z r')(h0:∀ z r,S 0 k≠.nm z r):Snd m0 (S.put 0 k (.nm z r)):=by
 have at':∀ {j y q},(S.put 0 k (.nm z r)) 0 j=.nm y q->(j=k/\y=z/\q=r)\/(j≠k/\S 0 j=.nm y q):=λ{j y q} e=>by
  by_cases h:j=k
  ·subst h;rw[CZ]at e;cases e;exact .inl ⟨rfl,rfl,rfl⟩
  ·rw[DK h]at e;exact .inr ⟨h,e⟩
 refine⟨λj y q hj e=> ?_,λq m' ps' e=> ?_,I.mr,I.nd,I.pm,I.dj,λj j' y q q' h h' e e'=> ?_⟩
 ·rcases at' e with⟨_,_,rfl⟩ | ⟨_,e⟩
  ·exact⟨m,ps,h3⟩
  ·exact I.nl j y q hj e
 ·have e:S 3 q=.rc m' ps':=e
  have l:=U3 (S:=S) (x:=.nm z r) (r:=q) hk
  have c:=I.ct q m' ps' e
  have n0:FM (S 0 k) q=false:=by
   cases e0:S 0 k with
   | nm y q'=>exact absurd e0 (h0 y q')
   | _=>rfl
  rw[n0]at l
  simp only[FM]at l
  by_cases z:r=q
  ·subst z
   rw[e]at h3;cases h3
   simp at l;omega
  ·simp[z]at l;omega
 ·rcases at' e with⟨e1,e2,_⟩ | ⟨e1,e2⟩<;>rcases at' e' with⟨f1,f2,_⟩ | ⟨f1,f2⟩
  ·rw[e1,f1]
  ·subst e2;exact absurd f2 (hz _ _ h')
  ·subst f2;exact absurd e2 (hz _ _ h)
  ·exact I.un j j' y q q' h h' e2 f2
theorem Snd.recd(I:Snd m0 S){r m':Nat}{ps':List Nat}(hl:ld m0 S r<=m')(hm:S 1 r=.mk 1)(hn:ps'.Nodup)(hp:∀ p∈ps',(S 2 p=.mk 1/\∃ t,S 4 p=.tx t)/\∀ q m ps,q≠r->S 3 q=.rc m ps->p∉ps):Snd m0 (S.put 3 r (.rc m' ps')):=by
 have at':∀ {q m ps},(S.put 3 r (.rc m' ps')) 3 q=.rc m ps->(q=r/\m=m'/\ps=ps')\/(q≠r/\S 3 q=.rc m ps):=λ{q m ps} e=>by
  by_cases h:q=r
  ·subst h;rw[CZ]at e;cases e;exact .inl ⟨rfl,rfl,rfl⟩
  ·rw[DK h]at e;exact .inr ⟨h,e⟩
 refine⟨λj z q hj e=> ?_,λq m ps e=> ?_,λq m ps e=> ?_,λq m ps e=> ?_,λq m ps e p h=> ?_,λq q' m m1 ps ps1 ne e e' p h=> ?_,I.un⟩
 ·by_cases h:q=r
  ·subst h;exact⟨m',ps',CZ⟩
  ·rw[DK h];exact I.nl j z q hj e
 ·rw[P9 (by decide)]
  rcases at' e with⟨rfl,rfl,_⟩ | ⟨_,e⟩
  ·exact hl
  ·exact I.ct q m ps e
 ·rcases at' e with⟨rfl,_,_⟩ | ⟨_,e⟩
  ·exact hm
  ·exact I.mr q m ps e
 ·rcases at' e with⟨_,_,rfl⟩ | ⟨_,e⟩
  ·exact hn
  ·exact I.nd q m ps e
 ·rcases at' e with⟨_,_,rfl⟩ | ⟨_,e⟩
  ·exact(hp p h).1
  ·exact I.pm q m ps e p h
 ·rcases at' e with⟨e1,_,rfl⟩ | ⟨e1,e2⟩<;>rcases at' e' with⟨f1,_,rfl⟩ | ⟨f1,f2⟩
  ·exact absurd (e1.trans f1.symm) ne
  ·exact(hp p h).2 q' m1 ps1 (λz=>ne (e1.trans z.symm)) f2
  ·exact λz=>(hp p z).2 q m ps (λy=>ne (y.trans f1.symm)) e2 h
  ·exact I.dj q q' m m1 ps ps1 ne e2 f2 p h
theorem Snd.count(I:Snd m0 S){r m m':Nat}{ps:List Nat}(h3:S 3 r=.rc m ps)(hl:ld m0 S r<=m'):Snd m0 (S.put 3 r (.rc m' ps)) :=
 I.recd hl (I.mr r m ps h3) (I.nd r m ps h3) λp hp=>⟨I.pm r m ps h3 p hp,λq m1 ps1 ne e=>I.dj r q m m1 ps ps1 ne.symm h3 e p hp⟩
theorem Snd.less(I:Snd m0 S){r m:Nat}{ps ps':List Nat}(h3:S 3 r=.rc m ps)(hs:ps'.Sublist ps):Snd m0 (S.put 3 r (.rc m ps')) :=
 I.recd (I.ct r m ps h3) (I.mr r m ps h3) ((I.nd r m ps h3).sublist hs) λp hp=>⟨I.pm r m ps h3 p (hs.subset hp),λq m1 ps1 ne e=>I.dj r q m m1 ps ps1 ne.symm h3 e p (hs.subset hp)⟩
theorem Snd.more(I:Snd m0 S){r m p:Nat}{ps:List Nat}{t:Str}(h3:S 3 r=.rc m ps)(h2:S 2 p=.mk 1)(h4:S 4 p=.tx t)(hu:∀ q m ps,S 3 q=.rc m ps->p∉ps):Snd m0 (S.put 3 r (.rc m (ps++[p]))):=by
 refine I.recd (I.ct r m ps h3) (I.mr r m ps h3) (List.nodup_append.mpr ⟨I.nd r m ps h3,by simp,λx hx y hy e=> ?_⟩) λy hy=> ?_
 ·rw[List.mem_singleton]at hy;subst hy;subst e;exact hu r m ps h3 hx
 ·rcases List.mem_append.mp hy with hy | hy
  ·exact⟨I.pm r m ps h3 y hy,λq m1 ps1 ne e=>I.dj r q m m1 ps ps1 ne.symm h3 e y hy⟩
  ·rw[List.mem_singleton.mp hy];exact⟨⟨h2,t,h4⟩,λq m1 ps1 _ e=>hu q m1 ps1 e⟩
theorem Snd.drop(I:Snd m0 S){r:Nat}(hl:ld m0 S r=0):Snd m0 (S.put 3 r .no):=by
 have at':∀ {q m ps},(S.put 3 r .no) 3 q=.rc m ps->S 3 q=.rc m ps:=λ{q m ps} e=>by
  by_cases h:q=r
  ·subst h;rw[CZ]at e;cases e
  ·rw[DK h]at e;exact e
 refine⟨λj z q hj e=> ?_,λq m ps e=> ?_,λq m ps e=>I.mr q m ps (at' e),λq m ps e=>I.nd q m ps (at' e),λq m ps e=>I.pm q m ps (at' e),λq q' m m1 ps ps1 ne e e'=>I.dj q q' m m1 ps ps1 ne (at' e) (at' e'),I.un⟩
 ·have e:S 0 j=.nm z q:=e
  by_cases h:q=r
  ·subst h
   exfalso
   have:0<ld m0 S q:=List.countP_pos_iff.mpr ⟨j,List.mem_range.mpr hj,by have e:S 0 j=.nm z q:=e;simp[e,FM]⟩
   omega
  ·rw[DK h];exact I.nl j z q hj e
 ·rw[P9 (by decide)];exact I.ct q m ps (at' e)
structure Hist(m0:Nat)(M0:Md)(as:List AC)(t o:Str->Option Nat):Prop where
 sd:∀ C,F4 C as->Snd m0 (sh M0 C as)
 k1:∀ z k r,k<m0->CJ M0 as 0 k=.nm z r->G4 0 k as=o z
 k2:∀ z,(∀ k r,k<m0->CJ M0 as 0 k≠.nm z r)->t z=o z
 k3:∀ C z,F4 C as->(∀ j,o z=some j->C j=true)->∀ k r,k<m0->(sh M0 C as 0 k=.nm z r↔CJ M0 as 0 k=.nm z r)
theorem gS:∀ as:List AC,F4 (λ_=>true) as
 | []=>trivial
 | _::r=>⟨gS r,λ_=>⟨λ_ _=>rfl,λ_ _=>rfl⟩⟩
variable{t o:Str->Option Nat}
theorem Hist.now(I:Hist m0 M0 as t o):Snd m0 (CJ M0 as):=I.sd _ (gS as)
theorem Hist.step(I:Hist m0 M0 as t o){a:AC}(ha:a.kind≠0)(h:∀ C,F4 C (a::as)->C as.length=true->Snd m0 ((sh M0 C as).put a.kind a.k a.x)):Hist m0 M0 (a::as) t o:=by
 have s0:∀ (C:Nat->Bool) (k:Nat),sh M0 C (a::as) 0 k=sh M0 C as 0 k:=λC k=>by
  by_cases c:C as.length=true
  ·rw[DG c,D9 ha.symm]
  ·rw[JB c]
 have s1:∀ k:Nat,CJ M0 (a::as) 0 k=CJ M0 as 0 k:=s0 _
 refine⟨λC hC=> ?_,λz k r hk e=> ?_,λz e=>I.k2 z λk r hk=>by rw[<-s1];exact e k r hk,λC z hC ho k r hk=> ?_⟩
 ·by_cases c:C as.length=true
  ·rw[DG c];exact h C hC c
  ·rw[JB c];exact I.sd C hC.1
 ·rw[s1]at e
  unfold G4
  rw[if_neg λz=>ha z.1]
  exact I.k1 z k r hk e
 ·rw[s0,s1];exact I.k3 C z hC.1 ho k r hk
def FN(f:Str->Option Nat)(z:Str)(j:Nat):Str->Option Nat:=λy=>if y=z then some j else f y
theorem Hist.fill(I:Hist m0 M0 as t o){z:Str}{k r:Nat}{nd:List Nat}(hk:k<m0)(h0:CJ M0 as 0 k=.no)(hz:∀ j r,j<m0->CJ M0 as 0 j≠.nm z r)(ht:∀ j,t z=some j->j∈nd)
  (h:∀ C,F4 C (⟨0,k,.nm z r,nd⟩::as)->C as.length=true->∃ m ps,sh M0 C as 3 r=.rc m ps/\ld m0 (sh M0 C as) r+1<=m):Hist m0 M0 (⟨0,k,.nm z r,nd⟩::as) t (FN o z as.length):=by
 have to:=I.k2 z hz
 have hnk:∀ {j y q},j<m0->CJ M0 as 0 j=.nm y q->j≠k/\y≠z:=λ{j y q} hj e=>⟨λe'=>(by rw[e',h0]at e;cases e),λe'=>hz j q hj (e' ▸ e)⟩
 have free:∀ C,F4 C (⟨0,k,.nm z r,nd⟩::as)->C as.length=true->sh M0 C as 0 k=.no/\∀ j q,j<m0->sh M0 C as 0 j≠.nm z q:=λC hC c=>by
  refine⟨by rw[IL (a:=⟨0,k,.nm z r,nd⟩) hC c];exact h0,λj q hj e=> ?_⟩
  exact hz j q hj ((I.k3 C z hC.1 (λi ei=>(hC.2 c).1 i (ht i (by rw[to,ei]))) j q hj).mp e)
 refine⟨λC hC=> ?_,λy j q hj e=> ?_,λy e=> ?_,λC y hC ho j q hj=> ?_⟩
 ·by_cases c:C as.length=true
  ·obtain⟨m,ps,h3,hl⟩:=h C hC c
   obtain⟨f1,f2⟩:=free C hC c
   rw[DG c]
   exact(I.sd C hC.1).fill hk h3 hl f2 λz r e=>by rw[f1]at e;cases e
  ·rw[JB c];exact I.sd C hC.1
 ·rw[EQ]at e
  unfold G4
  by_cases z':j=k
  ·subst z'
   rw[CZ]at e;cases e
   rw[if_pos ⟨rfl,rfl⟩]
   exact(if_pos rfl).symm
  ·rw[DK z']at e
   rw[if_neg λw=>z' w.2.symm]
   unfold FN
   rw[if_neg (hnk hj e).2]
   exact I.k1 y j q hj e
 ·have ny:y≠z:=λw=>by
   subst w
   exact e k r hk (by rw[EQ,CZ])
  unfold FN
  rw[if_neg ny]
  refine I.k2 y λj q hj e'=>e j q hj ?_
  rw[EQ,DK (hnk hj e').1];exact e'
 ·rw[EQ]
  by_cases c:C as.length=true
  ·obtain⟨f1,f2⟩:=free C hC c
   rw[DG c]
   by_cases z':j=k
   ·subst z';rw[CZ,CZ]
   ·rw[DK z',DK z']
    by_cases w:y=z
    ·subst w
     exact⟨λe=>absurd e (f2 j q hj),λe=>absurd e (hz j q hj)⟩
    ·unfold FN at ho
     rw[if_neg w]at ho
     exact I.k3 C y hC.1 ho j q hj
  ·rw[JB c]
   unfold FN at ho
   by_cases w:y=z
   ·subst w
    rw[if_pos rfl]at ho
    exact absurd (ho _ rfl) c
   ·rw[if_neg w]at ho
    have k3:=I.k3 C y hC.1 ho j q hj
    by_cases z':j=k
    ·subst z'
     rw[CZ]
     refine⟨λe=> ?_,λe=>absurd (by cases e;rfl) w⟩
     have:=k3.mp e
     rw[h0]at this;cases this
    ·rw[DK z'];exact k3
theorem Hist.gone(I:Hist m0 M0 as t o){z:Str}{k r:Nat}{nd:List Nat}(hk:k<m0)(h0:CJ M0 as 0 k=.nm z r):Hist m0 M0 (⟨0,k,.no,nd⟩::as) (FN t z as.length) (FN o z as.length):=by
 have un:=I.now.un
 have k1:=I.k1 z k r hk h0
 have only:∀ {j q},j<m0->CJ M0 as 0 j=.nm z q->j=k:=λ{j q} hj e=>un j k z q r hj hk e h0
 refine⟨λC hC=> ?_,λy j q hj e=> ?_,λy e=> ?_,λC y hC ho j q hj=> ?_⟩
 ·by_cases c:C as.length=true
  ·rw[DG c];exact(I.sd C hC.1).gone hk
  ·rw[JB c];exact I.sd C hC.1
 ·rw[EQ]at e
  by_cases z':j=k
  ·subst z';rw[CZ]at e;cases e
  ·rw[DK z']at e
   unfold G4 FN
   rw[if_neg λw=>z' w.2.symm,if_neg λw=>z' (only hj (w ▸ e))]
   exact I.k1 y j q hj e
 ·unfold FN
  by_cases w:y=z
  ·rw[if_pos w,if_pos w]
  ·rw[if_neg w,if_neg w]
   refine I.k2 y λj q hj e'=>e j q hj ?_
   have:j≠k:=λz'=>by rw[z',h0]at e';cases e';exact w rfl
   rw[EQ,DK this];exact e'
 ·rw[EQ]
  unfold FN at ho
  by_cases c:C as.length=true
  ·rw[DG c]
   have ck:sh M0 C as 0 k=.nm z r:=by rw[IL (a:=⟨0,k,.no,nd⟩) hC c];exact h0
   by_cases z':j=k
   ·subst z';rw[CZ,CZ]
   ·rw[DK z',DK z']
    by_cases w:y=z
    ·subst w
     exact⟨λe=>absurd ((I.sd C hC.1).un j k y q r hj hk e ck) z',λe=>absurd (only hj e) z'⟩
    ·rw[if_neg w]at ho;exact I.k3 C y hC.1 ho j q hj
  ·rw[JB c]
   by_cases w:y=z
   ·subst w
    rw[if_pos rfl]at ho
    exact absurd (ho _ rfl) c
   ·rw[if_neg w]at ho
    have k3:=I.k3 C y hC.1 ho j q hj
    by_cases z':j=k
    ·subst z'
     rw[CZ]
     refine⟨λe=> ?_,λe=>by cases e⟩
     have:=k3.mp e
     rw[h0]at this;cases this;exact absurd rfl w
    ·rw[DK z'];exact k3
theorem Snd.ld0(I:Snd m0 S){r:Nat}(h:∀ m ps,S 3 r≠.rc m ps):ld m0 S r=0:=by
 refine List.countP_eq_zero.mpr λk hk e=> ?_
 cases e0:S 0 k with
 | nm z q =>
  simp only[e0,FM,beq_iff_eq]at e
  subst e
  obtain⟨m,ps,e⟩:=I.nl k z q (List.mem_range.mp hk) e0
  exact h m ps e
 | _=>simp[e0,FM]at e
theorem Hist.make(I:Hist m0 M0 as t o){z:Str}{k r:Nat}{nd:List Nat}(hk:k<m0)(h0:CJ M0 as 0 k=.no)(hz:∀ j r,j<m0->CJ M0 as 0 j≠.nm z r)(h1:CJ M0 as 1 r≠.mk 1)(hn:as.length+1∈nd)(ht:∀ j,t z=some j->j∈nd) :
  Hist m0 M0 (⟨0,k,.nm z r,nd⟩::⟨3,r,.rc 1 [],[as.length]⟩::⟨1,r,.mk 1,[]⟩::as) t (FN o z (as.length+2)):=by
 have I1:=I.step (a:=⟨1,r,.mk 1,[]⟩) (by simp) λC hC _=>(I.sd C hC.1).rmark (.inl rfl)
 have no:∀ C,F4 C (⟨3,r,.rc 1 [],[as.length]⟩::⟨1,r,.mk 1,[]⟩::as)->C (as.length+1)=true->ld m0 (sh M0 C (⟨1,r,.mk 1,[]⟩::as)) r=0:=λC hC c=>by
  refine(I1.sd C hC.1).ld0 λm ps e=> ?_
  rw[IL (a:=⟨3,r,.rc 1 [],[as.length]⟩) hC c,EQ,D9 (by simp)]at e
  exact h1 (I.now.mr r m ps e)
 have I2:=I1.step (a:=⟨3,r,.rc 1 [],[as.length]⟩) (by simp) λC hC c=>by
  have cL:C as.length=true:=(hC.2 c).1 _ (by simp)
  refine(I1.sd C hC.1).recd (by rw[no C hC c];omega) ?_ List.nodup_nil (by simp)
  rw[DG cL,CZ]
 refine I2.fill hk (by rw[EQ,D9 (by simp),EQ,D9 (by simp)];exact h0) (λj q hj=>by rw[EQ,D9 (by simp),EQ,D9 (by simp)];exact hz j q hj) ht λC hC c=> ?_
 have cL:C (as.length+1)=true:=(hC.2 c).1 _ hn
 refine⟨1,[],by rw[DG cL,CZ],?_⟩
 rw[DG cL,P9 (by simp),no C hC.1 cL]
 exact Nat.le_refl 1
theorem Hist.link(I:Hist m0 M0 as t o){z:Str}{k r m:Nat}{ps nd:List Nat}(hk:k<m0)(h0:CJ M0 as 0 k=.no)(hz:∀ j r,j<m0->CJ M0 as 0 j≠.nm z r)(h3:CJ M0 as 3 r=.rc m ps)(hn:as.length∈nd)(ht:∀ j,t z=some j->j∈nd) :
  Hist m0 M0 (⟨0,k,.nm z r,nd⟩::⟨3,r,.rc (m+1) ps,[]⟩::as) t (FN o z (as.length+1)):=by
 have a3:∀ C,F4 C (⟨3,r,.rc (m+1) ps,[]⟩::as)->C as.length=true->sh M0 C as 3 r=.rc m ps:=λC hC c=>by
  rw[IL (a:=⟨3,r,.rc (m+1) ps,[]⟩) hC c];exact h3
 have I1:=I.step (a:=⟨3,r,.rc (m+1) ps,[]⟩) (by simp) λC hC c=>(I.sd C hC.1).count (a3 C hC c) (Nat.le_succ_of_le ((I.sd C hC.1).ct r m ps (a3 C hC c)))
 refine I1.fill hk (by rw[EQ,D9 (by simp)];exact h0) (λj q hj=>by rw[EQ,D9 (by simp)];exact hz j q hj) ht λC hC c=> ?_
 have cL:C as.length=true:=(hC.2 c).1 _ hn
 refine⟨m+1,ps,by rw[DG cL,CZ],?_⟩
 rw[DG cL,P9 (by simp)]
 exact Nat.succ_le_succ ((I.sd C hC.1.1).ct r m ps (a3 C hC.1 cL))
theorem Hist.fewer(I:Hist m0 M0 as t o){z:Str}{k r m:Nat}{ps nd:List Nat}{b:AC}(hk:k<m0)(h0:CJ M0 as 0 k=.nm z r)(h3:CJ M0 as 3 r=.rc m ps)(hb:b.kind=3/\b.k=r/\as.length∈b.nd){C:Nat->Bool}(hC:F4 C (b::⟨0,k,.no,nd⟩::as))(c:C (as.length+1)=true) :
  sh M0 C (⟨0,k,.no,nd⟩::as) 3 r=.rc m ps/\ld m0 (sh M0 C (⟨0,k,.no,nd⟩::as)) r+1<=m/\sh M0 C as 3 r=.rc m ps:=by
 obtain⟨b1,b2,b3⟩:=hb
 have cL:C as.length=true:=(hC.2 c).1 _ b3
 have e3:sh M0 C (⟨0,k,.no,nd⟩::as) 3 r=.rc m ps:=by
  have:=IL (M0:=M0) hC c
  rw[b1,b2]at this
  rw[this,EQ,D9 (by simp)];exact h3
 have f3:sh M0 C as 3 r=.rc m ps:=by
  rw[DG cL,D9 (by simp)]at e3;exact e3
 have f0:sh M0 C as 0 k=.nm z r:=by rw[IL (a:=⟨0,k,.no,nd⟩) hC.1 cL];exact h0
 refine⟨e3,?_,f3⟩
 have l:=U3 (S:=sh M0 C as) (x:=.no) (r:=r) hk
 rw[f0,show FM (.nm z r) r=true from by simp[FM],show FM .no r=false from rfl]at l
 simp only[Bool.false_eq_true,if_false,if_true]at l
 have c1:=(I.sd C hC.1.1).ct r m ps f3
 have e:ld m0 (sh M0 C (⟨0,k,.no,nd⟩::as)) r=ld m0 ((sh M0 C as).put 0 k .no) r:=by rw[DG cL]
 omega
theorem Hist.unmark{d:Nat}:∀ {ps:List Nat} {bs:List AC},Hist m0 M0 bs t o->(∀ C,F4 C bs->C d=true->∀ q m ps',sh M0 C bs 3 q=.rc m ps'->∀ p∈ps,p∉ps')->Hist m0 M0 ((ps.map λp=>(⟨2,p,.mk 0,[d]⟩:AC)).reverse++bs) t o
 | [],bs,I,_=>I
 | p::ps,bs,I,h=>by
  have I1:=I.step (a:=⟨2,p,.mk 0,[d]⟩) (by simp) λC hC c=>(I.sd C hC.1).pmark (.inr λr m ps' e=>h C hC.1 ((hC.2 c).1 d (by simp)) r m ps' e p List.mem_cons_self)
  have:=Hist.unmark (ps:=ps) I1 λC hC cd q m ps' e p' hp'=>by
   have e':sh M0 C bs 3 q=.rc m ps':=by
    by_cases c:C bs.length=true
    ·rw[DG c,D9 (by simp)]at e;exact e
    ·rw[JB c]at e;exact e
   exact h C hC.1 cd q m ps' e' p' (List.mem_cons_of_mem _ hp')
  rw[List.map_cons,List.reverse_cons,List.append_assoc]
  exact this
theorem Jk{cs:List AC}{i j:Nat}(h:∀ a∈cs,a.kind≠i):sh M0 C (cs++as) i j=sh M0 C as i j:=by
 induction cs with
 | nil=>rfl
 | cons a r ih =>
  have ih:=ih λb hb=>h b (List.mem_cons_of_mem _ hb)
  rw[List.cons_append]
  by_cases c:C (r++as).length=true
  ·rw[DG c,D9 (h a List.mem_cons_self).symm];exact ih
  ·rw[JB c];exact ih
theorem Hist.dropped(I:Hist m0 M0 as t o){z:Str}{k r m:Nat}{ps nd:List Nat}(hk:k<m0)(h0:CJ M0 as 0 k=.nm z r)(h3:CJ M0 as 3 r=.rc m ps)(hm:m<=1) :
  Hist m0 M0 (⟨1,r,.mk 0,[as.length+1]⟩::((ps.map λp=>(⟨2,p,.mk 0,[as.length+1]⟩:AC)).reverse++⟨3,r,.no,[as.length]⟩::⟨0,k,.no,nd⟩::as)) (FN t z as.length) (FN o z as.length):=by
 have I1:=I.gone (nd:=nd) hk h0
 have I2:=I1.step (a:=⟨3,r,.no,[as.length]⟩) (by simp) λC hC c=>by
  obtain⟨e1,e2,_⟩:=I.fewer hk h0 h3 ⟨rfl,rfl,by simp⟩ hC c
  exact(I1.sd C hC.1).drop (Nat.le_zero.mp (Nat.le_of_succ_le_succ (Nat.le_trans e2 hm)))
 have I3:=Hist.unmark (d:=as.length+1) (ps:=ps) I2 λC hC cd q m' ps' e p hp=>by
  obtain⟨_,_,f3⟩:=I.fewer hk h0 h3 ⟨rfl,rfl,by simp⟩ hC cd
  have cL:C as.length=true:=(hC.2 cd).1 _ (by simp)
  rw[DG cd]at e
  by_cases z:q=r
  ·subst z;rw[CZ]at e;cases e
  ·rw[DK z,DG cL,D9 (by simp)]at e
   exact(I.sd C hC.1.1).dj r q m m' ps ps' (λy=>z y.symm) f3 e p hp
 refine I3.step (a:=⟨1,r,.mk 0,[as.length+1]⟩) (by simp) λC hC c=>(I3.sd C hC.1).rmark (.inr λm' ps' e=> ?_)
 have cd:C (as.length+1)=true:=(hC.2 c).1 _ (by simp)
 rw[Jk (λa ha=>by
  obtain⟨p,_,rfl⟩:=List.mem_map.mp (List.mem_reverse.mp ha)
  simp),DG cd,CZ]at e
 cases e
theorem Hist.put(I:Hist m0 M0 as t o){r m p:Nat}{ps:List Nat}{x:Str}(h2:CJ M0 as 2 p≠.mk 1)(h3:CJ M0 as 3 r=.rc m ps) :
  Hist m0 M0 (⟨3,r,.rc m (ps++[p]),[as.length+1]⟩::⟨4,p,.tx x,[as.length]⟩::⟨2,p,.mk 1,[]⟩::as) t o:=by
 have I1:=I.step (a:=⟨2,p,.mk 1,[]⟩) (by simp) λC hC _=>(I.sd C hC.1).pmark (.inl rfl)
 have I2:=I1.step (a:=⟨4,p,.tx x,[as.length]⟩) (by simp) λC hC _=>(I1.sd C hC.1).text
 refine I2.step (a:=⟨3,r,.rc m (ps++[p]),[as.length+1]⟩) (by simp) λC hC c=> ?_
 have c1:C (as.length+1)=true:=(hC.2 c).1 _ (by simp)
 have c0:C as.length=true:=(hC.1.2 c1).1 _ (by simp)
 refine(I2.sd C hC.1).more (t:=x) ?_ ?_ ?_ λq m' ps' e hp=> ?_
 ·rw[IL (a:=⟨3,r,.rc m (ps++[p]),[as.length+1]⟩) hC c,EQ,D9 (by simp),EQ,D9 (by simp)];exact h3
 ·rw[DG c1,D9 (by simp),DG c0,CZ]
 ·rw[DG c1,CZ]
 ·rw[DG c1,D9 (by simp),DG c0,D9 (by simp)]at e
  have:=((I.sd C hC.1.1.1).pm q m' ps' e p hp).1
  rw[IL (a:=⟨2,p,.mk 1,[]⟩) hC.1.1 c0]at this
  exact h2 this
theorem Hist.take(I:Hist m0 M0 as t o){r m p i:Nat}{ps:List Nat}(h3:CJ M0 as 3 r=.rc m ps)(hi:ps[i]? =some p) :
  Hist m0 M0 (⟨2,p,.mk 0,[as.length]⟩::⟨3,r,.rc m (ps.eraseIdx i),[]⟩::as) t o:=by
 have a3:∀ C,F4 C (⟨3,r,.rc m (ps.eraseIdx i),[]⟩::as)->C as.length=true->sh M0 C as 3 r=.rc m ps:=λC hC c=>by
  rw[IL (a:=⟨3,r,.rc m (ps.eraseIdx i),[]⟩) hC c];exact h3
 have I1:=I.step (a:=⟨3,r,.rc m (ps.eraseIdx i),[]⟩) (by simp) λC hC c=>(I.sd C hC.1).less (a3 C hC c) (List.eraseIdx_sublist ..)
 refine I1.step (a:=⟨2,p,.mk 0,[as.length]⟩) (by simp) λC hC c=>(I1.sd C hC.1).pmark (.inr λq m' ps' e=> ?_)
 have c0:C as.length=true:=(hC.2 c).1 _ (by simp)
 have e3:=a3 C hC.1 c0
 rw[DG c0]at e
 by_cases z:q=r
 ·subst z
  rw[CZ]at e
  cases e
  have nd:=(I.sd C hC.1.1).nd q m ps e3
  exact λh=>by
   have hl:=(List.getElem?_eq_some_iff.mp hi).1
   obtain⟨j,hj,ej⟩:=List.mem_eraseIdx_iff_getElem?.mp h
   exact hj ((List.getElem?_inj hl nd).mp (hi.trans ej.symm)).symm
 ·rw[DK z]at e
  exact(I.sd C hC.1.1).dj r q m m' ps ps' (λy=>z y.symm) e3 e p (List.mem_of_getElem? hi)
end
end L2
namespace L2
open PySem PySem.Spec PyProof.Rows PySem.Builtin PySem.Builtin.Str
def CK:List Nat->List (List Nat)
 | []=>[[]]
 | c::r=>if c=32 then []::CK r else match CK r with
  | w::ws=>(c::w)::ws
  | []=>[[c]]
def HN:List (List Nat)->List Nat
 | []=>[]
 | [p]=>p
 | p::q::r=>p++32::HN (q::r)
theorem HP{r:List Nat}:∀ {p:List Nat},32∉p->CK (p++32::r)=p::CK r
 | [],_=>rfl
 | c::p,h=>by
  have hc:c≠32:=λe=>h (e ▸ List.mem_cons_self)
  rw[List.cons_append,CK,if_neg hc,HP λz=>h (List.mem_cons_of_mem _ z)]
theorem LK:∀ {p:List Nat},32∉p->CK p=[p]
 | [],_=>rfl
 | c::p,h=>by
  have hc:c≠32:=λe=>h (e ▸ List.mem_cons_self)
  unfold CK
  rw[if_neg hc,LK λz=>h (List.mem_cons_of_mem _ z)]
theorem gT:∀ {ps:List (List Nat)},ps≠[]->(∀ p∈ps,32∉p)->CK (HN ps)=ps
 | [],h,_=>(h rfl).elim
 | [p],_,h=>LK (h p List.mem_cons_self)
 | p::q::r,_,h=>by
  show CK (p++32::HN (q::r))=_
  rw[HP (h p List.mem_cons_self),gT (by simp) λx hx=>h x (List.mem_cons_of_mem _ hx)]
abbrev CG(l:List Nat):Str:=⟨l.toArray⟩
theorem U4:∀ (ps:List Str),(Str.join ⟨#[32]⟩ ps).cps.toList=HN (ps.map (·.cps.toList))
 | []=>rfl
 | [p]=>rfl
 | p::q::r=>by
  show((p++(⟨#[32]⟩:Str)++Str.join ⟨#[32]⟩ (q::r)).cps).toList=p.cps.toList++32::HN ((q::r).map (·.cps.toList))
  rw[<-U4 (q::r)]
  show((p.cps++ #[32])++(Str.join ⟨#[32]⟩ (q::r)).cps).toList=_
  simp
theorem J0(x:Str):CG x.cps.toList=x:=by cases x;rfl
theorem U5:(" ":Str)=⟨#[32]⟩:=by decide +kernel
theorem gU(x:Str):Txt.split x ⟨#[32]⟩≠[]:=λe=>by have:=split_pos x ⟨#[32]⟩;rw[e]at this;simp at this
theorem U6(x:Str):Txt.split x " "=(CK x.cps.toList).map CG:=by
 rw[U5]
 have h1:=StrLaws.join_split x ⟨#[32]⟩
 have h2:=StrLaws.split_free x 32
 have h3:=gU x
 revert h1 h2 h3
 generalize Txt.split x ⟨#[32]⟩=ps
 intro h1 h2 h3
 have e:x.cps.toList=HN (ps.map (·.cps.toList)):=by rw[<-U4,h1]
 rw[e,gT (by simpa using h3) λp hp=> ?_,List.map_map]
 ·refine(List.map_id _).symm.trans (List.map_congr_left λp _=>(J0 p).symm)
 ·obtain⟨q,hq,rfl⟩:=List.mem_map.mp hp
  exact h2 q hq
def NI:List (List Nat)->List (List Nat)
 | a::b::c::r=>[a,b,HN (c::r)]
 | ws=>ws
theorem gW(x y:Str)(n lim:Nat)(A:Array Nat):∀ (l:List Nat) (f:Nat),lim<=A.size->(forIn l (A,f) (StrLaws.occBody x y n lim)).run.fst=A
 | [],_,_=>rfl
 | a::l,f,h=>by
  rw[List.forIn_cons]
  unfold StrLaws.occBody
  rw[if_neg λz=>by have:=z.1.1.1;simp only at this;omega]
  exact gW x y n lim A l f h
theorem U7(x y:Str)(n lim:Nat):∀ (l:List Nat) (A:Array Nat) (f:Nat),∃ r:List Nat,(forIn l (A,f) (StrLaws.occBody x y n lim)).run.fst.toList=A.toList++r
 | [],A,_=>⟨[],(List.append_nil _).symm⟩
 | a::l,A,f=>by
  rw[List.forIn_cons]
  unfold StrLaws.occBody
  split
  ·obtain⟨r,e⟩:=U7 x y n lim l (A.push a) (a+y.length)
   exact⟨a::r,e.trans (by simp)⟩
  ·exact U7 x y n lim l A f
theorem U8(x y:Str)(n big lim:Nat)(hb:lim<=big):∀ (l:List Nat) (A:Array Nat) (f:Nat),A.size+l.length<=big->A.size<=lim →
  ∃ r:List Nat,(forIn l (A,f) (StrLaws.occBody x y n big)).run.fst.toList=A.toList++r/\(forIn l (A,f) (StrLaws.occBody x y n lim)).run.fst.toList=A.toList++r.take (lim - A.size)
 | [],A,_,_,_=>⟨[],by simp⟩
 | a::l,A,f,h1,h2=>by
  rw[List.length_cons]at h1
  by_cases hr:(f<=a/\a+y.length<=n)/\subAt x y a=true
  ·have cb:(((A,f).fst.size<big/\(A,f).snd<=a)/\a+y.length<=n)/\subAt x y a=true:=⟨⟨⟨by show A.size<big;omega,hr.1.1⟩,hr.1.2⟩,hr.2⟩
   by_cases hl:A.size<lim
   ·have cl:(((A,f).fst.size<lim/\(A,f).snd<=a)/\a+y.length<=n)/\subAt x y a=true:=⟨⟨⟨hl,hr.1.1⟩,hr.1.2⟩,hr.2⟩
    obtain⟨r,e1,e2⟩:=U8 x y n big lim hb l (A.push a) (a+y.length) (by rw[Array.size_push];omega) (by rw[Array.size_push];omega)
    refine⟨a::r,?_,?_⟩
    ·rw[List.forIn_cons]
     conv=>lhs;unfold StrLaws.occBody
     rw[if_pos cb]
     exact e1.trans (by simp)
    ·rw[List.forIn_cons]
     conv=>lhs;unfold StrLaws.occBody
     rw[if_pos cl]
     refine e2.trans ?_
     rw[Array.size_push,show lim - A.size=(lim - (A.size+1))+1 by omega,List.take_succ_cons]
     simp
   ·obtain⟨r,e1⟩:=U7 x y n big (a::l) A f
    refine⟨r,e1,?_⟩
    rw[gW x y n lim A (a::l) f (by omega),show lim - A.size=0 by omega]
    simp
  ·obtain⟨r,e1,e2⟩:=U8 x y n big lim hb l A f (by omega) h2
   refine⟨r,?_,?_⟩
   ·rw[List.forIn_cons]
    conv=>lhs;unfold StrLaws.occBody
    rw[if_neg λz=>hr ⟨⟨z.1.1.2,z.1.2⟩,z.2⟩]
    exact e1
   ·rw[List.forIn_cons]
    conv=>lhs;unfold StrLaws.occBody
    rw[if_neg λz=>hr ⟨⟨z.1.1.2,z.1.2⟩,z.2⟩]
    exact e2
theorem Jl(x y:Str)(lim:Nat)(h:lim<=x.length+1):occurrences x y 0 x.length lim=(occurrences x y 0 x.length (x.length+1)).take lim:=by
 rw[StrLaws.occ_eq,StrLaws.occ_eq]
 obtain⟨r,e1,e2⟩:=U8 x y x.length (x.length+1) lim h (List.range' 0 (x.length+1 - 0)) #[] 0 (by simp) (Nat.zero_le _)
 rw[e1,e2]
 simp
theorem Jm (x:Str):Txt.splitMax x " " 2=(NI (CK x.cps.toList)).map CG:=by
  have hs:=U6 x
  rw[U5]at hs ⊢
  unfold Txt.split at hs
  unfold Txt.splitMax
  by_cases h1:(decide (x.length<(⟨#[32]⟩:Str).length) || decide (strKind x<strKind ⟨#[32]⟩))=true
  · rw[if_pos h1]at hs ⊢
    cases hw:CK x.cps.toList with
    | nil=>rw[hw]at hs;cases hs
    | cons a r =>
      cases r with
      | nil=>rw[hw]at hs;exact hs
      | cons b r=>rw[hw]at hs;cases hs
  · rw[if_neg h1]at hs ⊢
    have hx:1<=x.length:=by
      rw[Bool.not_eq_true,Bool.or_eq_false_iff,decide_eq_false_iff_not]at h1
      have:=h1.1
      have e:(⟨#[32]⟩:Str).length=1:=rfl
      omega
    have el:limitOf x 2=2:=rfl
    rw[el,Jl x _ 2 (by omega)]
    obtain⟨f,hc⟩:=StrLaws.occ_chain x ⟨#[32]⟩ (x.length+1)
    revert hs hc
    generalize occurrences x ⟨#[32]⟩ 0 x.length (x.length+1)=cuts
    intro hs hc
    match cuts,hs,hc with
    | [],hs,_ =>
      rw[if_pos (by rfl)]at hs
      rw[List.take_nil,if_pos (by rfl)]
      cases hw:CK x.cps.toList with
      | nil=>rw[hw]at hs;cases hs
      | cons a r =>
        cases r with
        | nil=>rw[hw]at hs;exact hs
        | cons b r=>rw[hw]at hs;cases hs
    | [i],hs,_ =>
      rw[if_neg (by simp),StrLaws.partsBetween_eq]at hs
      rw[show [i].take 2=[i]from rfl,if_neg (by simp),StrLaws.partsBetween_eq,hs]
      have hl:=congrArg List.length hs
      rw[List.length_map]at hl
      cases hw:CK x.cps.toList with
      | nil=>rfl
      | cons a r =>
        cases r with
        | nil=>rfl
        | cons b r =>
          cases r with
          | nil=>rfl
          | cons c r=>rw[hw]at hl;simp[StrLaws.partsFrom]at hl
    | i::j::r,hs,hc =>
      rw[if_neg (by simp),StrLaws.partsBetween_eq]at hs
      rw[show(i::j::r).take 2=[i,j]from rfl,if_neg (by simp),StrLaws.partsBetween_eq]
      have hj:=StrLaws.join_partsFrom x ⟨#[32]⟩ r (j+1) f hc.2.2.2.2
      obtain⟨p,q,epq⟩:=StrLaws.partsFrom_ne x 1 (j+1) r
      have hs:strSub x 0 i::strSub x (i+1) j::StrLaws.partsFrom x 1 (j+1) r=(CK x.cps.toList).map CG:=hs
      have hj:Str.join ⟨#[32]⟩ (StrLaws.partsFrom x 1 (j+1) r)=strSub x (j+1) x.length:=hj
      show [strSub x 0 i,strSub x (i+1) j,strSub x (j+1) x.length]=_
      rw[epq]at hs hj
      cases hw:CK x.cps.toList with
      | nil=>rw[hw]at hs;cases hs
      | cons a1 r1 =>
        cases r1 with
        | nil=>rw[hw]at hs;exact absurd (congrArg List.length hs) (by simp)
        | cons a2 r2 =>
          cases r2 with
          | nil=>rw[hw]at hs;exact absurd (congrArg List.length hs) (by simp)
          | cons a3 r3 =>
            rw[hw]at hs
            simp only[List.map_cons,List.cons.injEq]at hs
            obtain⟨e1,e2,e3,e4⟩:=hs
            show _=[CG a1,CG a2,CG (HN (a3::r3))]
            rw[e1,e2,<-hj,<-J0 (Str.join ⟨#[32]⟩ (p::q)),U4,e3,e4]
            have ei:r3.map ((λx:Str=>x.cps.toList) ∘ CG)=r3:=(List.map_congr_left λx _=>rfl).trans (List.map_id _)
            rw[List.map_cons,List.map_map,ei]
theorem Jp(x:Str)(hx:x.length<=1000):(Txt.partition x " ").1=CG ((CK x.cps.toList).headD []):=by
 have hs:=U6 x
 rw[U5]at hs ⊢
 have hz:(Txt.split x ⟨#[32]⟩)[0]? =some (CG ((CK x.cps.toList).headD [])):=by
  rw[hs]
  cases hw:CK x.cps.toList with
  | nil=>rw[hw]at hs;exact absurd hs (gU x)
  | cons a r=>rfl
 unfold Txt.partition
 rcases StrLaws.occ_head x ⟨#[32]⟩ 1 (Nat.le_refl _)with⟨e,hn⟩ | ⟨i,r,e,hi,hn⟩
 ·rw[e]
  rcases split_head x ⟨#[32]⟩ (by decide +kernel) _ hz with⟨h,_⟩ | ⟨k,h,hk,_⟩
  ·exact h.symm
  ·exact absurd hk (hn k)
 ·rw[e]
  rcases split_head x ⟨#[32]⟩ (by decide +kernel) _ hz with⟨h,hn'⟩ | ⟨k,h,hk,hk'⟩
  ·exact absurd hi (hn' i)
  ·have:k=i:=by
    rcases Nat.lt_trichotomy k i with z | z | z
    ·exact absurd hk (hn k z)
    ·exact z
    ·exact absurd hi (hk' i z)
   subst this
   exact h.symm
theorem QC:∀ {l w:List Nat},w∈CK l->w.length<=l.length
 | [],w,h=>by rw[List.mem_singleton.mp h];exact Nat.le_refl _
 | c::r,w,h=>by
  unfold CK at h
  split at h
  ·rcases List.mem_cons.mp h with h | h
   ·rw[h];exact Nat.zero_le _
   ·exact Nat.le_succ_of_le (QC h)
  ·cases hw:CK r with
   | nil=>rw[hw]at h;rw[List.mem_singleton.mp h];simp
   | cons v vs =>
    rw[hw]at h
    rcases List.mem_cons.mp h with h | h
    ·rw[h];exact Nat.succ_le_succ (QC (hw ▸ List.mem_cons_self))
    ·exact Nat.le_succ_of_le (QC (hw ▸ List.mem_cons_of_mem _ h))
theorem Jq{α :Type}{us:List α}{u: α}:IB (us++[u]) (-1)=some u:=by
 unfold IB HD
 rw[if_neg (by omega),if_pos (by rw[List.length_append];simp;omega)]
 have e:((-1:Int)+((us++[u]).length:Nat)).toNat=us.length:=by rw[List.length_append];simp;omega
 show(us++[u])[((-1:Int)+((us++[u]).length:Nat)).toNat]? =_
 rw[e,List.getElem?_append_right (Nat.le_refl _),Nat.sub_self]
 rfl
end L2
namespace L2
abbrev ER(a:Ad):Addr:=a "Hold"
def J1(ns:List Int)(k:Nat):Int:=ns.getD k 0
def LM(K:W.Frag)(a:Ad):Sp:=λvs H Q _=>∃ (s:Addr) (ns:List Int) (k:Nat),vs=[.ref s,.int k]/\SqL K H s (ns.map V.int)/\ns.length<=1000/\Q (.int (J1 ns k)) H
theorem Jv{K:W.Frag}{a:Ad}{s:Addr}{k:Int}{H:Hp}{Q:VK}{E:XK}:LM K a [.ref s,.int k] H Q E=∃ (ns:List Int) (n:Nat),k=n/\SqL K H s (ns.map V.int)/\ns.length<=1000/\Q (.int (J1 ns n)) H:=by simp[LM,and_assoc]
abbrev TB(K:W.Frag)(a:Ad):Prop:=gJ K (ER a) (a "Change")
abbrev D4(a:Ad)(H:Hp)(A:BA)(w:Nat)(rows:List (List V))(n:Nat)(cs:List Ch)(outs:Int->Bool):Prop:=BookAt a (ER a) H A w rows n cs outs
def G5:Option Nat->V
 | none=>.non
 | some k=>.int k
def FC(l:List Nat):List V:=l.map λ(k:Nat)=>V.int k
abbrev onPl(rows:List (List V))(w:Nat)(i j:Int):Prop:=0<=i/\i<rows.length/\0<=j/\j<w
def QD(K:W.Frag)(a:Ad):Sp:=λvs H Q _=>∃ x dx pl v nt,vs=[.ref x,.ref pl,v,.ref nt]/\TB K a/\H x=some (.ins (a "Change") dx [])/\Q .non (upd H x (.ins (a "Change") dx (EF pl v nt)))
def NJ(K:W.Frag)(a:Ad):Sp:=λvs H Q _=>∃ (b gp cl dx:Addr) (w:Nat) (rows:List (List V)) (n:Nat),vs=[.ref b,.ref gp]/\TB K a/\D7 K a/\PlankAt a H gp cl w rows n/\H b=some (.ins (ER a) dx []) ∧
 ∀ (m mi lt ou:Addr) (ls:List Addr) (H':Hp),H m=none->H mi=none->H lt=none->H ou=none->(∀ l∈ls,H l=none)->D4 a H' ⟨b,gp,m,mi,lt,ou,ls,cl⟩ w rows n [] (λ_=>false)->SameBut (· =b) H H'->Q .non H'
def QE(K:W.Frag)(a:Ad):Sp:=λvs H Q _=>∃ (nl:Addr) (ns:List Int) (o:Option Nat),vs=[.ref nl,G5 o]/\SqL K H nl (ns.map V.int)/\ns.length<=60 ∧
 ∀ (t:Addr) (ks:List Int) (H':Hp),Same H H'->H' t=some (.tup (ks.map V.int))->ks.Pairwise (· <·)->(∀ x,x∈ks↔x∈ns\/∃ k:Nat,o=some k/\x=k)->ks.length<=ns.length+1->Q (.ref t) H'
def QF(K:W.Frag)(a:Ad):Sp:=λvs H Q E=>∃ (A:BA) (w:Nat) (rows:List (List V)) (n:Nat) (cs:List Ch) (outs:Int->Bool) (pl:Addr) (i j:Int),vs=[.ref A.b,.ref pl]/\TB K a/\D7 K a/\D4 a H A w rows n cs outs/\H pl=some (.tup [.int i,.int j]) ∧
 (onPl rows w i j->Q .non H)/\(¬ onPl rows w i j->E (.ref (a "NoBlock")) none H)
def NK(K:W.Frag)(a:Ad):Sp:=λvs H Q E=>∃ (A:BA) (w:Nat) (rows:List (List V)) (n:Nat) (cs:List Ch) (outs:Int->Bool) (pl:Addr) (i j:Int),vs=[.ref A.b,.ref pl]/\TB K a/\D7 K a/\D4 a H A w rows n cs outs/\H pl=some (.tup [.int i,.int j]) ∧
 (onPl rows w i j->Q (G5 (DW cs i j)) H)/\(¬ onPl rows w i j->E (.ref (a "NoBlock")) none H)
abbrev known(cs:List Ch)(x:Int):Prop:=0<=x/\x<cs.length
def QH(K:W.Frag)(a:Ad):Sp:=λvs H Q E=>∃ (A:BA) (w:Nat) (rows:List (List V)) (n:Nat) (cs:List Ch) (outs:Int->Bool) (nl:Addr) (ns:List Int),vs=[.ref A.b,.ref nl]/\TB K a/\D4 a H A w rows n cs outs/\SqL K H nl (ns.map V.int) ∧
 ((∀ x∈ns,known cs x)->Q .non H)/\((∃ x∈ns,¬ known cs x)->E (.ref (a "NoChange")) none H)
def HQ(K:W.Frag)(a:Ad):Sp:=λvs H Q E=>∃ (A:BA) (w:Nat) (rows:List (List V)) (n:Nat) (cs:List Ch) (outs:Int->Bool) (pl nl:Addr) (v:V) (ns:List Int) (i j:Int),vs=[.ref A.b,.ref pl,v,.ref nl]/\TB K a/\D7 K a/\D4 a H A w rows n cs outs/\H pl=some (.tup [.int i,.int j])/\SqL K H nl (ns.map V.int)/\ns.length<=60/\cs.length<990 ∧
 (onPl rows w i j->(∀ x∈ns,known cs x)->∀ (nd:List Int) (H':Hp),nd.Pairwise (· <·)->(∀ x,x∈nd↔x∈ns\/∃ k:Nat,DW cs i j=some k/\x=k)->D4 a H' A w rows n (cs++[⟨i.toNat,j.toNat,v,nd⟩]) outs->SameBut A.F H H'->Q (.int cs.length) H') ∧
 (¬ onPl rows w i j->E (.ref (a "NoBlock")) none H)/\(onPl rows w i j->(∃ x∈ns,¬ known cs x)->E (.ref (a "NoChange")) none H)
def D5(cs:List Ch)(rows:List (List V))(i j:Int):Option V:=match DW cs i j with
 | some k=>(cs[k]?).map (·.val)
 | none=>(rows[i.toNat]?).bind λr=>r[j.toNat]?
def J2(K:W.Frag)(a:Ad):Sp:=λvs H Q E=>∃ (A:BA) (w:Nat) (rows:List (List V)) (n:Nat) (cs:List Ch) (outs:Int->Bool) (pl:Addr) (i j:Int),vs=[.ref A.b,.ref pl]/\TB K a/\D7 K a/\D4 a H A w rows n cs outs/\H pl=some (.tup [.int i,.int j]) ∧
 (onPl rows w i j->∀ (v:V) (H':Hp),D5 cs rows i j=some v->Same H H'->Q v H')/\(¬ onPl rows w i j->E (.ref (a "NoBlock")) none H)
def U9:Option Int->V
 | none=>.non
 | some k=>.int k
abbrev DP(AD:List (AO × V))(x:Int):Bool:=(BR AD (.inl x)).isSome
def QI(K:W.Frag)(a:Ad):Sp:=λvs H Q _=>∃ (A:BA) (w:Nat) (rows:List (List V)) (n:Nat) (cs:List Ch) (outs:Int->Bool) (k:Nat) (c:Ch) (g:Addr) (kvg:List (AO × V)),vs=[.ref A.b,.int k,.ref g]/\TB K a/\D4 a H A w rows n cs outs/\cs[k]? =some c/\H g=some (.dK kvg) ∧
 Q (U9 (HK c.nd λx=>outs x || DP kvg x)) H
def QJ(K:W.Frag)(a:Ad):Sp:=λvs H Q _=>∃ (A:BA) (w:Nat) (rows:List (List V)) (n:Nat) (cs:List Ch) (outs:Int->Bool) (b:Nat) (tk:Addr) (kvt:List (AO × V)),vs=[.ref A.b,.int b,.ref tk]/\TB K a/\D4 a H A w rows n cs outs/\b<rows.length/\H tk=some (.dK kvt)/\kvt.length<=1000 ∧
 ∀ (t ol hl:Addr) (H':Hp),H ol=none->H hl=none->ol≠hl->Same H H'->ToldAt H' t ol hl (outcome cs outs (DP kvt) b).out (outcome cs outs (DP kvt) b).held->Q (.ref t) H'
def QK(K:W.Frag)(a:Ad):Sp:=λvs H Q _=>∃ (A:BA) (w:Nat) (rows:List (List V)) (n:Nat) (cs:List Ch) (outs:Int->Bool) (b:Nat) (vl:Addr) (row:List V),vs=[.ref A.b,.ref vl,.int b]/\TB K a/\D4 a H A w rows n cs outs/\b<rows.length/\H vl=some (.lst row)/\row.length=w ∧
 ∀ (l:Addr) (H':Hp),H l=none->Same H H'->H' l=some (.lst (F3 cs outs b row))->Q (.ref l) H'
def QL(K:W.Frag)(a:Ad):Sp:=λvs H Q E=>∃ (A:BA) (w:Nat) (rows:List (List V)) (n:Nat) (cs:List Ch) (outs:Int->Bool) (b:Int),vs=[.ref A.b,.int b]/\TB K a/\D7 K a/\D4 a H A w rows n cs outs ∧
 (∀ (b':Nat) (row:List V) (t ol hl:Addr) (H':Hp),b=b'->rows[b']? =some row->H ol=none->H hl=none->ol≠hl->ToldAt H' t ol hl (outcome cs outs (λ_=>false) b').out (outcome cs outs (λ_=>false) b').held →
  D4 a H' A w (rows.set b' (F3 cs (GJ cs outs b') b' row)) (n+1) cs (GJ cs outs b')->SameBut (λx=>A.F x\/x=A.gp) H H'->Q (.ref t) H') ∧
 (b<0\/rows.length<=b->E (.ref (a "NoBlock")) none H)
def GoodV:Nat->Hp->V->Prop
 | 0,_,_=>False
 | _+1,_,.int _=>True
 | _+1,_,.non=>True
 | _+1,_,.str z=>PyData.strOk z=true
 | n+1,H,.ref p=>∃ xs,H p=some (.tup xs)/\xs.length<=100/\∀ v∈xs,GoodV n H v
 | _,_,_=>False
def QM(v:V):Prop:=v=.non\/∃ i,v=.int i
def BN(n r c w kind k:Nat):Nat:=(if kind=0 then 0 else if kind=1 then n+r+c else if kind=2 then n+r+c+r else if kind=3 then n else n+r)+k / w
def BF(n r c w kind:Nat):Nat:=(if kind=0 then n else if kind=1 then r else if kind=2 then c else if kind=3 then r else c) * w
def IM(kind:Nat)(v:V):Bool:=decide (v=.non) || (decide (0<kind) && decide (v=.int 0))
def ES(f:Nat->Bool)(m:Nat):Int:=match (List.range m).find? f with
 | some k=>k
 | none=> -1
def gX(H:Hp)(rows:List (List V)):Prop:=∀ r∈rows,∀ v∈r,GoodV 4 H v
def goodH(H:Hp)(cs:List Ch)(rows:List (List V)):Prop:=gX H rows/\∀ c∈cs,GoodV 4 H c.val
def JC(cs:List Ch)(rows:List (List V))(n r c w kind:Nat)(k:Nat):Bool:=match D5 cs rows (BN n r c w kind k:Nat) (k % w:Nat)with
 | some v=>IM kind v
 | none=>false
def J3(K:W.Frag)(a:Ad):Sp:=λvs H Q E=>∃ (A:BA) (w:Nat) (rows:List (List V)) (n:Nat) (cs:List Ch) (outs:Int->Bool) (pl vl:Addr) (ts:List Addr) (xs:List V) (f:Nat->Bool) (m:Nat),vs=[.ref A.b,.ref pl,.ref vl]/\TB K a/\D7 K a/\D4 a H A w rows n cs outs/\H pl=some (.lst (ts.map V.ref))/\ts.length=m/\m<=1000/\H vl=some (.tup xs)/\(∀ z∈xs,QM z) ∧
 (∀ k t,ts[k]? =some t->∃ i j v,H t=some (.tup [.int i,.int j])/\onPl rows w i j/\D5 cs rows i j=some v/\GoodV 4 H v/\f k=decide (v∈xs)) ∧
 (∀ k:Nat,ES f m=k->∀ H',Same H H'->Q (.int k) H')/\(ES f m= -1->∀ H',Same H H'->E (.ref (a "NoRoom")) none H')
def QN(kind:Nat)(K:W.Frag)(a:Ad)(p b:Addr)(H:Hp)(Q:VK)(E:XK):Prop:=∃ (A:BA) (n r c w:Nat) (rows:List (List V)) (nn:Nat) (cs:List Ch) (outs:Int->Bool),b=A.b/\TB K a/\D7 K a/\D8 K a/\LayAt a H p n r c w/\n<=6/\r<=6/\c<=6/\w<=6/\D4 a H A w rows nn cs outs/\rows.length=n+r+c+r+c/\(∀ i j v,D5 cs rows i j=some v->GoodV 4 H v) ∧
 (∀ k:Nat,ES (JC cs rows n r c w kind) (BF n r c w kind)=k->∀ H',Same H H'->Q (.int k) H')/\(ES (JC cs rows n r c w kind) (BF n r c w kind)= -1->∀ H',Same H H'->E (.ref (a "NoRoom")) none H')
def QQ(K:W.Frag)(a:Ad):Sp:=λvs H Q E=>∃ p b,vs=[.ref p,.ref b]/\QN 0 K a p b H Q E
def QR(K:W.Frag)(a:Ad):Sp:=λvs H Q E=>∃ p b,vs=[.ref p,.ref b]/\QN 1 K a p b H Q E
def QS(K:W.Frag)(a:Ad):Sp:=λvs H Q E=>∃ p b,vs=[.ref p,.ref b]/\QN 2 K a p b H Q E
def VA(c:Nat):Bool:=decide (32<=c) && decide (c<=126) && decide (c≠37)
def NL(c:Nat):Bool:=decide (97<=c) && decide (c<=122)
def CN(z:Str):Bool:=decide (1<=z.length) && decide (z.length<=8) && z.cps.toList.all NL
def J4(z:Str):Bool:=decide (1<=z.length) && decide (z.length<=40) && z.cps.toList.all VA
def QT(K:W.Frag)(a:Ad):Sp:=λvs H Q _=>∃ c:Nat,vs=[.str ⟨#[c]⟩]/\Q (.bl (VA c)) H
def QU(K:W.Frag)(a:Ad):Sp:=λvs H Q _=>∃ z:Str,vs=[.str z]/\z.length<=1000/\∀ H',Same H H'->Q (.bl (CN z)) H'
def QW(K:W.Frag)(a:Ad):Sp:=λvs H Q _=>∃ z:Str,vs=[.str z]/\z.length<=1000/\∀ H',Same H H'->Q (.bl (J4 z)) H'
structure QX(K:W.Frag)(a:Ad):Prop where
 cl:Cls K (a "Store")
 n1:NoAttr K (a "Store") "plan"
 n2:NoAttr K (a "Store") "book"
 n3:NoAttr K (a "Store") "taken_out"
def sf(lp b tk:Addr):List (Str × V):=[("plan",.ref lp),("book",.ref b),("taken_out",.ref tk)]
structure SA where
 A:BA
 st:Addr
 lp:Addr
 tk:Addr
structure Hs where
 b:Md
 as:List AC
abbrev Hs.f(M:Hs):Md:=CJ M.b M.as
instance:CoeFun Hs λ_=>Nat->Nat->CV:=⟨Hs.f⟩
def Hs.put(M:Hs)(kind k:Nat)(x:CV)(nd:List Nat):Hs:=⟨M.b,⟨kind,k,x,nd⟩::M.as⟩
theorem Hs.put_at{M:Hs}{kind k i j:Nat}{x:CV}{nd:List Nat}:(M.put kind k x nd) i j=if i=kind/\j=k then x else M i j:=rfl
def RepC(H:Hp):CV->V->Prop
 | .no,v=>v=.non
 | .nm z k,v=>∃ t,v=.ref t/\H t=some (.tup [.str z,.int k])
 | .mk i,v=>v=.int i
 | .rc m ps,v=>∃ t u,v=.ref t/\H t=some (.tup [.int m,.ref u])/\H u=some (.tup (FC ps))
 | .tx z,v=>v=.str z
def NM:Nat->CV->Prop
 | _,.no=>True
 | 0,.nm _ _=>True
 | 1,.mk i=>i<=1
 | 2,.mk i=>i<=1
 | 3,.rc _ _=>True
 | 4,.tx _=>True
 | _,_=>False
inductive LaidA(n r c w:Nat)(H:Hp):List Ch->List AC->Prop
 | nil:LaidA n r c w H [] []
 | snoc {cs:List Ch} {as:List AC} {ch:Ch} {x:AC}:LaidA n r c w H cs as->ch.blk=BN n r c w x.kind x.k->ch.cell=x.k % w->RepC H x.x ch.val->(∀ y:Int,y∈ch.nd↔(∃ j∈x.nd,y=(j:Nat))\/∃ j:Nat,G4 x.kind x.k as=some j/\y=j)->x.kind<5->x.k<BF n r c w x.kind->LaidA n r c w H (cs++[ch]) (x::as)
structure SM(a:Ad)(H:Hp)(S:SA)(n r c w:Nat)(rows:List (List V))(nn:Nat)(cs:List Ch)(outs:Int->Bool)(tks:List (AO × V))(M:Hs):Prop where
 ob:∃ dx,H S.st=some (.ins (a "Store") dx (sf S.lp S.A.b S.tk))
 ly:LayAt a H S.lp n r c w
 bk:D4 a H S.A w rows nn cs outs
 tk:H S.tk=some (.dK tks)
 tl:tks.length<=cs.length
 tv:∀ z v,BR tks (.inr z)=some v->∃ k:Nat,v=.int k/\k<cs.length
 ap:¬ S.A.F S.tk
 sz:n<=6/\r<=6/\c<=6/\w<=6/\rows.length=n+r+c+r+c
 gd:goodH H cs rows
 rp:∀ kind k v,kind<5->k<BF n r c w kind->D5 cs rows (BN n r c w kind k:Nat) (k % w:Nat)=some v->RepC H (M kind k) v
 ok:∀ kind k,kind<5->k<BF n r c w kind->NM kind (M kind k)
 la:LaidA n r c w H cs M.as
def E3(M:Hs)(k:Nat):Option (Str × Nat):=match M 0 k with
 | .nm z r=>some (z,r)
 | _=>none
def IN(M:Hs)(m:Nat):List Str:=(List.range m).filterMap λk=>(E3 M k).map (·.1)
def cellOf(M:Hs)(m:Nat)(z:Str):Option Nat:=(List.range m).find? λk=>(E3 M k).any λp=>decide (p.1=z)
def J5(kind:Nat):CV->Bool
 | .no=>true
 | .mk i=>decide (0<kind) && decide (i=0)
 | _=>false
def FO(M:Hs)(kind m:Nat):Int:=ES (λk=>J5 kind (M kind k)) m
abbrev ET(K:W.Frag)(a:Ad):Prop:=TB K a/\D7 K a/\D8 K a/\QX K a
abbrev gY(cs:List Ch)(i j:Int)(x:Int):Prop:=∃ k:Nat,DW cs i j=some k/\x=k
structure SX where
 S:SA
 n:Nat
 r:Nat
 c:Nat
 w:Nat
 rows:List (List V)
 nn:Nat
 outs:Int->Bool
abbrev SX.at(X:SX)(a:Ad)(H:Hp)(cs:List Ch)(tks:List (AO × V))(M:Hs):Prop:=SM a H X.S X.n X.r X.c X.w X.rows X.nn cs X.outs tks M
abbrev SX.m0(X:SX):Nat:=X.n * X.w
def QY(K:W.Frag)(a:Ad):Sp:=λvs H Q _=>∃ (x dx lp gp cl:Addr) (n r c w:Nat) (rows:List (List V)) (nn:Nat) (M:Md),vs=[.ref x,.ref lp,.ref gp]/\ET K a/\H x=some (.ins (a "Store") dx [])/\LayAt a H lp n r c w/\PlankAt a H gp cl w rows nn/\(n<=6/\r<=6/\c<=6/\w<=6/\rows.length=n+r+c+r+c)/\gX H rows/\(∀ kind k v,kind<5->k<BF n r c w kind->D5 [] rows (BN n r c w kind k:Nat) (k % w:Nat)=some v->RepC H (M kind k) v)/\(∀ kind k,kind<5->k<BF n r c w kind->NM kind (M kind k)) ∧
 ∀ (S:SA) (H':Hp),S.st=x->S.lp=lp->S.A.gp=gp->S.A.cl=cl->(∀ y o,H y=some o->y=cl\/¬ S.A.F y)->H S.tk=none->SM a H' S n r c w rows nn [] (λ_=>false) [] ⟨M,[]⟩->SameBut (· =x) H H'->Q .non H'
def LN(K:W.Frag)(a:Ad):Sp:=λvs H Q _=>∃ (X:SX) (cs:List Ch) (tks:List (AO × V)) (M:Hs),vs=[.ref X.S.st]/\ET K a/\X.at a H cs tks M ∧
 ∀ (l:Addr) (xs:List V) (H':Hp),Same H H'->H' l=some (.lst xs)->xs.length=X.m0->(∀ k v,xs[k]? =some v->RepC H' (M 0 k) v)->Q (.ref l) H'
def NN(K:W.Frag)(a:Ad):Sp:=λvs H Q _=>∃ (X:SX) (cs:List Ch) (tks:List (AO × V)) (M:Hs),vs=[.ref X.S.st]/\ET K a/\X.at a H cs tks M ∧
 ∀ (l:Addr) (ks:List Str) (H':Hp),H l=none->Same H H'->H' l=some (.lst (ks.map V.str))->ks.Perm (IN M X.m0)->sortedS ks=true->Q (.ref l) H'
def NO(K:W.Frag)(a:Ad):Sp:=λvs H Q _=>∃ (X:SX) (cs:List Ch) (tks:List (AO × V)) (M:Hs) (z:Str),vs=[.ref X.S.st,.str z]/\ET K a/\X.at a H cs tks M/\∀ (H':Hp),Same H H'->Q (G5 (cellOf M X.m0 z)) H'
def NP(K:W.Frag)(a:Ad):Sp:=λvs H Q E=>∃ (X:SX) (cs:List Ch) (tks:List (AO × V)) (M:Hs) (z:Str),vs=[.ref X.S.st,.str z]/\ET K a/\X.at a H cs tks M ∧
 (∀ cell k,cellOf M X.m0 z=some cell->cell<X.m0->M 0 cell=.nm z k->∀ H',Same H H'->Q (.int k) H')/\(cellOf M X.m0 z=none->∀ H',Same H H'->E (.ref (a "NoName")) none H')
def LO(K:W.Frag)(a:Ad):Sp:=λvs H Q _=>∃ (X:SX) (cs:List Ch) (tks:List (AO × V)) (M:Hs) (rec:Nat),vs=[.ref X.S.st,.int rec]/\ET K a/\X.at a H cs tks M/\rec<X.r * X.w/\∀ v H',RepC H' (M 3 rec) v->Same H H'->Q v H'
def QZ(K:W.Frag)(a:Ad):Sp:=λvs H Q E=>∃ (X:SX) (cs:List Ch) (tks:List (AO × V)) (M:Hs) (z:Str) (gl:Addr) (zs:List Str),vs=[.ref X.S.st,.str z,.ref gl]/\ET K a/\X.at a H cs tks M/\H gl=some (.lst (zs.map V.str))/\zs.length<=60/\(∀ y∈zs,y.length<=1000) ∧
 (zs.all CN=true->cellOf M X.m0 z=none->∀ H',Same H H'->Q .non H')/\(zs.all CN=false->∀ H',Same H H'->E (.ref (a "NoName")) none H')/\(zs.all CN=true->(∃ k,cellOf M X.m0 z=some k)->∀ H',Same H H'->E (.ref (a "Twice")) none H')
def VB(X:SX)(a:Ad)(H:Hp)(cs:List Ch)(tks:List (AO × V))(M':Hs)(Q:VK):Prop:=∀ (ch:Ch) (H':Hp),X.at a H' (cs++[ch]) tks M'->SameBut X.S.A.F H H'->Q (.int cs.length) H'
def LP(tks:List (AO × V))(z:Str):List Nat:=match BR tks (.inr z)with
 | some (.int k)=>[k.toNat]
 | _=>[]
abbrev NQ(ns:List Int):List Nat:=ns.map Int.toNat
def Q0(K:W.Frag)(a:Ad):Sp:=λvs H Q _=>∃ (X:SX) (cs:List Ch) (tks:List (AO × V)) (M:Hs) (cell rec need:Nat) (z:Str),vs=[.ref X.S.st,.int cell,.str z,.int rec,.int need]/\ET K a/\X.at a H cs tks M/\cell<X.m0/\need<cs.length/\cs.length<980/\PyData.strOk z=true/\VB X a H cs tks (M.put 0 cell (.nm z rec) (need::LP tks z)) Q
def Q1(K:W.Frag)(a:Ad):Sp:=λvs H Q _=>∃ (X:SX) (cs:List Ch) (tks:List (AO × V)) (M:Hs) (rec m:Nat) (ps ps':List Nat) (pl nl:Addr) (ns:List Int),vs=[.ref X.S.st,.int rec,.ref pl,.ref nl]/\ET K a/\X.at a H cs tks M/\rec<X.r * X.w/\M 3 rec=.rc m ps/\H pl=some (.tup (FC ps'))/\ps'.length<=100/\H nl=some (.lst (ns.map V.int))/\ns.length<=60/\(∀ x∈ns,known cs x)/\cs.length<980/\VB X a H cs tks (M.put 3 rec (.rc m ps') (NQ ns)) Q
def Hs.unmark(M:Hs)(d:Nat)(ps:List Nat):Hs:=ps.foldl (λM p=>M.put 2 p (.mk 0) [d]) M
def gZ(X:SX)(a:Ad)(H:Hp)(cs:List Ch)(d:Nat)(tks':List (AO × V))(M':Hs)(Q:VK):Prop:=∀ (ex:List Ch) (l:Addr) (H':Hp),ex.length=d->H l=none->H' l=some (.lst (FC ((List.range d).map (cs.length+·))))->X.at a H' (cs++ex) tks' M'->SameBut (λx=>X.S.A.F x\/x=X.S.tk) H H'->Q (.ref l) H'
def G6(a:Ad)(H:Hp)(c:String)(E:XK):Prop:=∀ H',Same H H'->E (.ref (a c)) none H'
def NR(K:W.Frag)(a:Ad):Sp:=λvs H Q E=>∃ (X:SX) (cs:List Ch) (tks:List (AO × V)) (M:Hs) (z:Str),vs=[.ref X.S.st,.str z]/\ET K a/\X.at a H cs tks M/\z.length<=1000/\cs.length<930 ∧
 (CN z=true->cellOf M X.m0 z=none->∀ rec cell:Nat,FO M 1 (X.r * X.w)=rec->FO M 0 X.m0=cell->rec<X.r * X.w->cell<X.m0->gZ X a H cs 3 tks (((M.put 1 rec (.mk 1) []).put 3 rec (.rc 1 []) [cs.length]).put 0 cell (.nm z rec) ((cs.length+1)::LP tks z)) Q) ∧
 (CN z=false->G6 a H "NoName" E)/\(CN z=true->(∃ k,cellOf M X.m0 z=some k)->G6 a H "Twice" E) ∧
 (CN z=true->cellOf M X.m0 z=none->(FO M 1 (X.r * X.w)= -1\/FO M 0 X.m0= -1)->G6 a H "NoRoom" E)
def NS(K:W.Frag)(a:Ad):Sp:=λvs H Q E=>∃ (X:SX) (cs:List Ch) (tks:List (AO × V)) (M:Hs) (z t:Str),vs=[.ref X.S.st,.str z,.str t]/\ET K a/\X.at a H cs tks M/\t.length<=1000/\PyData.strOk t=true/\cs.length<930 ∧
 (∀ cell rec:Nat,cellOf M X.m0 z=some cell->cell<X.m0->M 0 cell=.nm z rec->J4 t=true->∀ p:Nat,FO M 2 (X.c * X.w)=p->p<X.c * X.w->rec<X.r * X.w/\∃ m ps,M 3 rec=.rc m ps/\ps.length<=90/\gZ X a H cs 3 tks (((M.put 2 p (.mk 1) []).put 4 p (.tx t) [cs.length]).put 3 rec (.rc m (ps++[p])) [cs.length+1]) Q) ∧
 (cellOf M X.m0 z=none->G6 a H "NoName" E)/\((∃ k,cellOf M X.m0 z=some k)->J4 t=false->G6 a H "NoPiece" E)/\((∃ k,cellOf M X.m0 z=some k)->J4 t=true->FO M 2 (X.c * X.w)= -1->G6 a H "NoRoom" E)
def NT(K:W.Frag)(a:Ad):Sp:=λvs H Q E=>∃ (X:SX) (cs:List Ch) (tks:List (AO × V)) (M:Hs) (z:Str),vs=[.ref X.S.st,.str z]/\ET K a/\X.at a H cs tks M ∧
 (∀ cell rec:Nat,cellOf M X.m0 z=some cell->cell<X.m0->M 0 cell=.nm z rec->rec<X.r * X.w/\∃ m ps,M 3 rec=.rc m ps/\ps.length<=100/\∃ ts:List Str,Paired (λp t=>p<X.c * X.w/\M 4 p=.tx t) ps ts/\∀ l H',H l=none->Same H H'->H' l=some (.lst (ts.map V.str))->Q (.ref l) H') ∧
 (cellOf M X.m0 z=none->G6 a H "NoName" E)
def SX.wr(X:SX)(cs:List Ch)(b:Nat)(row:List V):SX:={ X with rows:=X.rows.set b (F3 cs (GJ cs X.outs b) b row),nn:=X.nn+1,outs:=GJ cs X.outs b }
def NU(K:W.Frag)(a:Ad):Sp:=λvs H Q E=>∃ (X:SX) (cs:List Ch) (tks:List (AO × V)) (M:Hs) (b:Nat),vs=[.ref X.S.st,.int b]/\ET K a/\X.at a H cs tks M/\(∀ row,X.rows[b]? =some row->∀ t ol hl H',ToldAt H' t ol hl (outcome cs X.outs (λ_=>false) b).out (outcome cs X.outs (λ_=>false) b).held->(X.wr cs b row).at a H' cs tks M->SameBut (λx=>X.S.A.F x\/x=X.S.A.gp) H H'->Q (.ref t) H')/\(X.rows.length<=b->E (.ref (a "NoBlock")) none H)
structure VC(K:W.Frag)(a:Ad):Prop where
 cl:Cls K (a "House")
 n1:NoAttr K (a "House") "plan"
 n2:NoAttr K (a "House") "ground"
 n3:NoAttr K (a "House") "store"
def LQ:List (Str × Int):=[("make",2),("link",3),("cut",2),("put",3),("take",3),("move",3),("write",2),("keep",2),("show",2),("names",1),("stop",1)]
def IP:List Str:=["make","link","cut","put","take","move"]
def J6:List Str:=["take","write"]
structure EA(K:W.Frag)(a:Ad):Prop where
 s4:ET K a
 ho:VC K a
 dd:∀ H,SqT K H (a "DEEDS") (IP.map V.str)
 wn:∀ H,SqT K H (a "WITH_A_NUMBER_LAST") (J6.map V.str)
def hf(lp gp st:Addr):List (Str × V):=[("plan",.ref lp),("ground",.ref gp),("store",.ref st)]
def LR(w:List Nat):Bool:=decide (1<=w.length) && decide (w.length<=3) && w.all (λc=>decide (48<=c) && decide (c<=57)) && (decide (w=[48]) || decide (w.head? ≠some 48))
def HR(ws:List (List Nat)):Option (List Str):=match F2 LQ (CG (ws.headD []))with
 | none=>none
 | some n =>
  let vs:=if CG (ws.headD [])=("put":Str)then NI ws else ws
  if(vs.length:Int)≠n then none else
  if CG (ws.headD [])∈J6/\LR (vs.getLastD [])=false then none else some (vs.map CG)
def C5(z:Str):Option (List Str):=HR (CK z.cps.toList)
def Q2(K:W.Frag)(a:Ad):Sp:=λvs H Q _=>∃ z:Str,vs=[.str z]/\z.length<=1000/\∀ H',Same H H'->Q (.bl (LR z.cps.toList)) H'
def Q3(K:W.Frag)(a:Ad):Sp:=λvs H Q E=>∃ z:Str,vs=[.str z]/\EA K a/\z.length<=900 ∧
 (∀ ws,C5 z=some ws->∀ l H',H l=none->Same H H'->H' l=some (.lst (ws.map V.str))->Q (.ref l) H')/\(C5 z=none->G6 a H "NoRow" E)
def NV(K:W.Frag)(a:Ad):Sp:=λvs H Q _=>∃ (t ol hl:Addr) (out:List Nat) (held:List (Nat × Int)),vs=[.ref t]/\ToldAt H t ol hl out held/\out.length<=1000/\held.length<=1000/\Q (.str (CY out.length++(" ":Str)++CY held.length)) H
def Q4(ks:List Str):Str:=if ks=[]then "-" else Txt.join " " ks
def LS(K:W.Frag)(a:Ad):Sp:=λvs H Q _=>∃ (l:Addr) (ks:List Str),vs=[.ref l]/\H l=some (.lst (ks.map V.str))/\(ks.map (·.length)).sum+ks.length<=1000/\Q (.str (Q4 ks)) H
def StAt(a:Ad)(H:Hp)(st:Addr):Prop:=∃ dx lp b tk,H st=some (.ins (a "Store") dx (sf lp b tk))
def Q5(K:W.Frag)(a:Ad):Sp:=λvs H Q _=>∃ (h dh lp gp st:Addr),vs=[.ref h]/\VC K a/\H h=some (.ins (a "House") dh (hf lp gp st))/\Q (.ref gp) H
def HsAt(a:Ad)(H:Hp)(h:Addr)(X:SX)(cs:List Ch)(tks:List (AO × V))(M:Hs):Prop:=(∃ dh,H h=some (.ins (a "House") dh (hf X.S.lp X.S.A.gp X.S.st)))/\X.at a H cs tks M
def LT(K:W.Frag)(a:Ad):Sp:=λvs H Q E=>∃ (st l:Addr) (ws:List Str),vs=[.ref st,.ref l]/\StAt a H st/\H l=some (.lst (ws.map V.str)) ∧
 ((∃ y,ws=[("make":Str),y]/\NR K a [.ref st,.str y] H (λ_ H'=>Q .non H') E)\/∃ y t,ws=[("put":Str),y,t]/\NS K a [.ref st,.str y,.str t] H (λ_ H'=>Q .non H') E)
def LU(K:W.Frag)(a:Ad):Sp:=λvs H Q E=>∃ (st l:Addr) (ws:List Str),vs=[.ref st,.ref l]/\StAt a H st/\H l=some (.lst (ws.map V.str)) ∧
  ((∃ b:Nat,ws=[("write":Str),CY b]/\b<1000/\NU K a [.ref st,.int b] H (λv H'=>NV K a [v] H' Q E) E) ∨
   (ws=[("names":Str)]/\NN K a [.ref st] H (λv H'=>LS K a [v] H' Q E) E) ∨
   ∃ y,ws=[("show":Str),y]/\NT K a [.ref st,.str y] H (λv H'=>PD K (.str "") [v] H' Q) E)
def EU(K:W.Frag)(a:Ad):Sp:=λvs H Q E=>∃ (h dh lp gp st:Addr) (z:Str),vs=[.ref h,.str z]/\EA K a/\H h=some (.ins (a "House") dh (hf lp gp st))/\StAt a H st/\z.length<=900 ∧
  ((C5 z=none/\G6 a H "NoRow" E)\/∃ w ws,C5 z=some (w::ws)/\w≠"stop"/\∀ l H1,Same H H1->H1 l=some (.lst ((w::ws).map V.str)) →
    (w∈IP/\LT K a [.ref st,.ref l] H1 (λ_ H'=>Q (.str "ok") H') E)\/(w∉IP/\LU K a [.ref st,.ref l] H1 Q E))
def J7(K:W.Frag)(a:Ad):Sp:=λvs H Q _=>∃ (h dh lp:Addr) (n r c w:Nat),vs=[.ref h,.ref lp]/\EA K a/\H h=some (.ins (a "House") dh [])/\LayAt a H lp n r c w/\(n<=6/\r<=6/\c<=6/\w<=6) ∧
 ∀ (S:SA) (H':Hp),S.lp=lp->(∀ y,S.A.F y\/y=S.tk\/y=S.A.gp\/y=S.st->H y=none)->HsAt a H' h ⟨S,n,r,c,w,List.replicate (n+r+c+r+c) (List.replicate w .non),0,λ_=>false⟩ [] [] ⟨λ_ _=>.no,[]⟩->SameBut (· =h) H H'->Q .non H'
def Q6(K:W.Frag)(a:Ad):Sp:=λvs H Q _=>∃ x:Int,vs=[.int x]/\∀ z H',CN z=true->Same H H'->Q (.str z) H'
def Q7(K:W.Frag)(a:Ad):Sp:=λvs H Q _=>∃ (x:Int) (y:Str),vs=[.int x,.str y]/\CN y=true/\∀ z H',C5 z=none->z.length<=900->Same H H'->Q (.str z) H'
def Q8(K:W.Frag)(a:Ad):Sp:=λvs H Q _=>∃ x:Int,vs=[.int x]/\∀ z H',C5 z=none->z.length<=900->Same H H'->Q (.str z) H'
def Q9(K:W.Frag)(a:Ad):Sp:=λvs H Q _=>∃ x:Int,vs=[.int x]/\∀ z H',C5 z=none->z.length<=900->Same H H'->Q (.str z) H'
structure NW(K:W.Frag)(a:Ad):Prop where
 hB:W.exmOne K (.ref (a "NoBlock")) (.ref (a "HoldError"))=some true
 hR:W.exmOne K (.ref (a "NoRow")) (.ref (a "HoldError"))=some true
 eB:K6 K (a "NoBlock")
 eR:K6 K (a "NoRow")
 bb:W.kitOne K (.ref (a "NoBlock")) (.ref (a "NoBlock"))=some true
 br:W.kitOne K (.ref (a "NoBlock")) (.ref (a "NoRow"))=some false
 bv:W.kitOne K (.ref (a "NoBlock")) (.type "ValueError")=some true
 bo:W.kitAny K (.ref (a "NoBlock")) [.ref (a "NoChange"),.ref (a "NoName"),.ref (a "NoPiece"),.ref (a "NoRoom"),.ref (a "NotSound"),.ref (a "Twice")]=some false
 rb:W.kitOne K (.ref (a "NoRow")) (.ref (a "NoBlock"))=some false
 rr:W.kitOne K (.ref (a "NoRow")) (.ref (a "NoRow"))=some true
 rv:W.kitOne K (.ref (a "NoRow")) (.type "ValueError")=some true
 ro:W.kitAny K (.ref (a "NoRow")) [.ref (a "NoChange"),.ref (a "NoName"),.ref (a "NoPiece"),.ref (a "NoRoom"),.ref (a "NotSound"),.ref (a "Twice")]=some false
def RA(K:W.Frag)(a:Ad):Sp:=λvs H Q _=>∃ (h:Addr) (X:SX) (cs:List Ch) (tks:List (AO × V)) (M:Hs) (z:Str) (k:Int),vs=[.ref h,.str z,.int k]/\EA K a/\NW K a/\HsAt a H h X cs tks M/\z.length<=900 ∧
 ((C5 z=none/\k=2)\/∃ b:Nat,C5 z=some [("write":Str),CY b]/\b<1000/\X.rows.length<=b/\k=1)/\∀ H',Same H H'->Q (.bl true) H'
def g5(K:W.Frag)(a:Ad):Sp:=λvs H Q _=>∃ (s:Addr) (ns:List Int),vs=[.ref s]/\EA K a/\NW K a/\SqL K H s (ns.map V.int)/\ns.length<=63/\∀ H',Q (.bl true) H'
end L2
namespace L2
abbrev FK:=W.Frag
abbrev XE:=St->XK
abbrev RT:=FK->Ad->XE->XE->TS
theorem A3{f g:RT}(h:∀ K a E E1,f K a E E1=g K a E E1){K a E E1 D σ H}:f K a E E1 D σ H=g K a E E1 D σ H:=by rw[h]
abbrev GL:TE:=tC (.int 0)
abbrev EB:TE:=tC (.int 1)
abbrev J8:TE:=tC (.int 2)
abbrev g6:TE:=tC (.int 3)
abbrev J9:TE:=tC (.int 4)
abbrev g7:TE:=tC (.int 5)
abbrev RB:TE:=tC (.int 6)
abbrev Jw:TE:=tC (.int 7)
abbrev VD:TE:=tC (.int 8)
abbrev F5(n:Int):TE:=tC (.int n)
abbrev AJ(x0:TE):TA:=BJ x0 BZ
abbrev CA(x0 x1:TE):TA:=BJ x0 (BJ x1 BZ)
abbrev FD(x0 x1 x2:TE):TA:=BJ x0 (BJ x1 (BJ x2 BZ))
abbrev GO(x0 x1 x2 x3:TE):TA:=BJ x0 (BJ x1 (BJ x2 (BJ x3 BZ)))
abbrev CS(K:W.Frag)(x:TE)(n:Int):TE:=AF (CQ K) x (tC (.int n))
abbrev AE:TE:=EN 0
abbrev AS:TE:=EN 1
abbrev VE:TE:=EN 10
abbrev A7:TE:=EN 2
abbrev CH:TE:=EN 3
abbrev DB:TE:=EN 4
abbrev FQ:TE:=EN 5
abbrev FR:TE:=EN 6
abbrev RC:TE:=EN 7
abbrev RD:TE:=EN 8
abbrev Jx:TE:=EN 9
section
variable{K:FK}{a:Ad}{n:Nat}{E E1:XE}{D:Ends}{σ:St}{H:Hp}
def g8:RT:=λK a E E1=>(DI K AE AS "place")
theorem Jy:type_of%(@A3 _ _ g8.eq_1):=rfl
def g9:RT:=λK a E E1=>(DI K AE A7 "value")
theorem Jz:type_of%(@A3 _ _ g9.eq_1):=rfl
def hE:RT:=λK a E E1=>(DI K AE CH "needs")
theorem Kb:type_of%(@A3 _ _ hE.eq_1):=rfl
def VF(K:FK)(a:Ad)(E:XE):TS:=(AK (g8 K a E E) (AK (g9 K a E E) (hE K a E E)))
def hG:RT:=λK a E E1=>(FH (a "NoChange") E (AJ (tC (.str "there is no change of such a number"))))
theorem hU:type_of%(@A3 _ _ hG.eq_1):=rfl
def hV:RT:=λK a E E1=>(BQ (F6 (BU (FX D1 IH GL A7 (BO (EM K) (AJ (AX K AE "made")))))) (hG K a E E) B8)
theorem hW:type_of%(@A3 _ _ hV.eq_1):=rfl
def hX:RT:=λK a E E1=>(EI (FJ K AS) (AQ 2) (hV K a E E))
theorem hZ:type_of%(@A3 _ _ hX.eq_1):=rfl
def VG(K:FK)(a:Ad)(E:XE):TS:=(hX K a E E)
def h9:RT:=λK a E E1=>(A6 (BO (K5 K) (AJ (O8 K AE))))
theorem iA:type_of%(@A3 _ _ h9.eq_1):=rfl
def iB:RT:=λK a E E1=>(BQ (BU (AF K1 AS (tC .non))) (h9 K a E E) B8)
theorem iC:type_of%(@A3 _ _ iB.eq_1):=rfl
def iD:RT:=λK a E E1=>(A6 (BO (K5 K) (AJ (O8 K (AF (BB K) (BO (K4 K) (AJ AE)) (C6 (AJ AS)))))))
theorem iE:type_of%(@A3 _ _ iD.eq_1):=rfl
def RE(K:FK)(a:Ad)(E:XE):TS:=(AK (iB K a E E) (iD K a E E))
def iF:RT:=λK a E E1=>(A6 CH)
theorem VH:type_of%(@A3 _ _ iF.eq_1):=rfl
def iG:RT:=λK a E E1=>(BQ (KJ (tB (KU CH (AX K AE "outs"))) (tB (KU CH A7))) (iF K a E E) B8)
theorem VI:type_of%(@A3 _ _ iG.eq_1):=rfl
def iH:RT:=λK a E E1=>(EI (FJ K (AX K (AF (CQ K) (AX K AE "made") AS) "needs")) (AQ 3) (iG K a E E))
theorem VJ:type_of%(@A3 _ _ iH.eq_1):=rfl
def iI:RT:=λK a E E1=>(A6 (tC .non))
theorem VL:type_of%(@A3 _ _ iI.eq_1):=rfl
def VM(K:FK)(a:Ad)(E:XE):TS:=(AK (iH K a E E) (iI K a E E))
def iJ:RT:=λK a E E1=>(A5 (BO (K4 K) (AJ AS)) (AQ 3))
theorem VN:type_of%(@A3 _ _ iJ.eq_1):=rfl
def iK:RT:=λK a E E1=>(A5 (AX K (AF (CQ K) (AX K AE "made") DB) "value") (OM CH (CS K (AX K (AF (CQ K) (AX K AE "made") DB) "place") 1) MV))
theorem VO:type_of%(@A3 _ _ iK.eq_1):=rfl
def iL:RT:=λK a E E1=>(BQ (tB (OZ DB (AX K AE "outs"))) (iK K a E E) B8)
theorem VP:type_of%(@A3 _ _ iL.eq_1):=rfl
def iM:RT:=λK a E E1=>(EI (FJ K (AF (CQ K) (AX K AE "made_in") A7)) (AQ 4) (iL K a E E))
theorem VQ:type_of%(@A3 _ _ iM.eq_1):=rfl
def iN:RT:=λK a E E1=>(A6 CH)
theorem VR:type_of%(@A3 _ _ iN.eq_1):=rfl
def VS(K:FK)(a:Ad)(E:XE):TS:=(AK (iJ K a E E) (AK (iM K a E E) (iN K a E E)))
def iO:RT:=λK a E E1=>(A6 (JN (FX D1 D1 (tC (.str " ")) AE (tC (.str "~"))) (AF (DE K) (BO (O4 K) (AJ AE)) (F5 37))))
theorem Kc:type_of%(@A3 _ _ iO.eq_1):=rfl
def VT(K:FK)(a:Ad)(E:XE):TS:=(iO K a E E)
def iP:RT:=λK a E E1=>(A6 (JN (FX D1 D1 EB (BO (EM K) (AJ AE)) VD) (BO (K9 K) (AJ (DM (M5 AE) (AQ 0) C7 (FX D1 D1 (tC (.str "a")) AE (tC (.str "z"))) 1 [])))))
theorem Kd:type_of%(@A3 _ _ iP.eq_1):=rfl
def VU(K:FK)(a:Ad)(E:XE):TS:=(iP K a E E)
def iQ:RT:=λK a E E1=>(A6 (AX K AE "ground"))
theorem Kg:type_of%(@A3 _ _ iQ.eq_1):=rfl
def VV(K:FK)(a:Ad)(E:XE):TS:=(iQ K a E E)
def iR:RT:=λK a E E1=>(A6 (tC (.bl false)))
theorem Kh:type_of%(@A3 _ _ iR.eq_1):=rfl
def iS:RT:=λK a E E1=>(BQ (MD (F6 (BU (FX D1 D1 EB (BO (EM K) (AJ AE)) g6))) (F6 (K2 K (BO (K9 K) (AJ (DM (M5 AE) (AQ 0) C7 (FX D1 D1 (tC (.str "0")) AE (tC (.str "9"))) 1 [])))))) (iR K a E E) B8)
theorem Kj:type_of%(@A3 _ _ iS.eq_1):=rfl
def iT:RT:=λK a E E1=>(A6 (R7 (AF (CC K) AE (tC (.str "0"))) (AF (DE K) (CS K AE 0) (tC (.str "0")))))
theorem Kk:type_of%(@A3 _ _ iT.eq_1):=rfl
def VW(K:FK)(a:Ad)(E:XE):TS:=(AK (iS K a E E) (iT K a E E))
def iU:RT:=λK a E E1=>(A5 (BO (EM K) (AJ (CS K AE 0))) (AQ 1))
theorem Kl:type_of%(@A3 _ _ iU.eq_1):=rfl
def iV:RT:=λK a E E1=>(A5 (BO (EM K) (AJ (CS K AE 1))) (AQ 2))
theorem Km:type_of%(@A3 _ _ iV.eq_1):=rfl
def iW:RT:=λK a E E1=>(A6 (UN " " AS A7))
theorem Kp:type_of%(@A3 _ _ iW.eq_1):=rfl
def VX(K:FK)(a:Ad)(E:XE):TS:=(AK (iU K a E E) (AK (iV K a E E) (iW K a E E)))
def iX:RT:=λK a E E1=>(A6 (OF (BU (AF K0 (BO (EM K) (AJ AE)) GL)) (GE K "str" (PD K) (tC (.str " ")) (AJ AE)) (tC (.str "-"))))
theorem Kq:type_of%(@A3 _ _ iX.eq_1):=rfl
def VY(K:FK)(a:Ad)(E:XE):TS:=(iX K a E E)
def iY:RT:=λK a E E1=>(DI K AE (DM (F7 (AJ AS)) (AQ 0) C7 (AF (F1 K) (EK (AJ (tC .non))) AS) 1 [2]) "contents")
theorem Kv:type_of%(@A3 _ _ iY.eq_1):=rfl
def iZ:RT:=λK a E E1=>(DI K AE A7 "width")
theorem Kw:type_of%(@A3 _ _ iZ.eq_1):=rfl
def i4:RT:=λK a E E1=>(DI K AE GL "written")
theorem Kx:type_of%(@A3 _ _ i4.eq_1):=rfl
def VZ(K:FK)(a:Ad)(E:XE):TS:=(AK (iY K a E E) (AK (iZ K a E E) (i4 K a E E)))
def i5:RT:=λK a E E1=>(A6 (BO (EM K) (AJ (AX K AE "contents"))))
theorem Ky:type_of%(@A3 _ _ i5.eq_1):=rfl
def V0(K:FK)(a:Ad)(E:XE):TS:=(i5 K a E E)
def i6:RT:=λK a E E1=>(A6 (AX K AE "width"))
theorem Kz:type_of%(@A3 _ _ i6.eq_1):=rfl
def V1(K:FK)(a:Ad)(E:XE):TS:=(i6 K a E E)
def i7:RT:=λK a E E1=>(FH (a "NoBlock") E (AJ (tC (.str "there is no such block"))))
theorem Lc:type_of%(@A3 _ _ i7.eq_1):=rfl
def i8:RT:=λK a E E1=>(BQ (F6 (BU (FX D1 IH GL AS (BO (EM K) (AJ (AX K AE "contents")))))) (i7 K a E E) B8)
theorem Ld:type_of%(@A3 _ _ i8.eq_1):=rfl
def V2(K:FK)(a:Ad)(E:XE):TS:=(i8 K a E E)
def i9:RT:=λK a E E1=>(DI K AE AS "name_blocks")
theorem Lg:type_of%(@A3 _ _ i9.eq_1):=rfl
def jA:RT:=λK a E E1=>(DI K AE A7 "record_blocks")
theorem Lh:type_of%(@A3 _ _ jA.eq_1):=rfl
def jB:RT:=λK a E E1=>(DI K AE CH "piece_blocks")
theorem Lj:type_of%(@A3 _ _ jB.eq_1):=rfl
def jC:RT:=λK a E E1=>(DI K AE DB "width")
theorem Lk:type_of%(@A3 _ _ jC.eq_1):=rfl
def V3(K:FK)(a:Ad)(E:XE):TS:=(AK (i9 K a E E) (AK (jA K a E E) (AK (jB K a E E) (jC K a E E))))
def jD:RT:=λK a E E1=>(A6 (EK (FD (AF (F1 K) (AX K AE "name_blocks") (AX K AE "width")) (AF (F1 K) (AX K AE "record_blocks") (AX K AE "width")) (AF (F1 K) (AX K AE "piece_blocks") (AX K AE "width")))))
theorem Ll:type_of%(@A3 _ _ jD.eq_1):=rfl
def V4(K:FK)(a:Ad)(E:XE):TS:=(jD K a E E)
def jE:RT:=λK a E E1=>(A6 (AF (BB K) (AF (BB K) (AX K AE "name_blocks") (AX K AE "record_blocks")) (AX K AE "piece_blocks")))
theorem Lm:type_of%(@A3 _ _ jE.eq_1):=rfl
def V5(K:FK)(a:Ad)(E:XE):TS:=(jE K a E E)
def jF:RT:=λK a E E1=>(A6 (EK (CA (AF (BB K) AS (AF FI A7 (AX K AE "width"))) (AF EX A7 (AX K AE "width")))))
theorem Lp:type_of%(@A3 _ _ jF.eq_1):=rfl
def V6(K:FK)(a:Ad)(E:XE):TS:=(jF K a E E)
def jG:RT:=λK a E E1=>(A6 (AF (CQ K) AE AS))
theorem Lq:type_of%(@A3 _ _ jG.eq_1):=rfl
def jH:RT:=λK a E E1=>(BQ (BU (AF IH AS (BO (EM K) (AJ AE)))) (jG K a E E) B8)
theorem Lv:type_of%(@A3 _ _ jH.eq_1):=rfl
def jI:RT:=λK a E E1=>(A6 GL)
theorem Lw:type_of%(@A3 _ _ jI.eq_1):=rfl
def V7(K:FK)(a:Ad)(E:XE):TS:=(AK (jH K a E E) (jI K a E E))
def jJ:RT:=λK a E E1=>(A5 (tC (.str "abcdefghijklmnopqrstuvwxyz")) (AQ 1))
theorem Lx:type_of%(@A3 _ _ jJ.eq_1):=rfl
def jK:RT:=λK a E E1=>(A5 (tC (.str "")) (AQ 2))
theorem Ly:type_of%(@A3 _ _ jK.eq_1):=rfl
def jL:RT:=λK a E E1=>(A5 (AF (BB K) A7 (AF (CQ K) AS (AF EX (AF (BB K) (AF FI AE VD) (AF (F1 K) (AF (F1 K) (AF (BB K) (AF EX (AF FI AE (F5 208)) Jw) EB) CH) CH)) (F5 26)))) (AQ 2))
theorem Lz:type_of%(@A3 _ _ jL.eq_1):=rfl
def jM:RT:=λK a E E1=>(EI (F7 (AJ (AF (BB K) EB (AF EX AE VD)))) (AQ 3) (jL K a E E))
theorem Mb:type_of%(@A3 _ _ jM.eq_1):=rfl
def jN:RT:=λK a E E1=>(A6 A7)
theorem Mc:type_of%(@A3 _ _ jN.eq_1):=rfl
def V8(K:FK)(a:Ad)(E:XE):TS:=(AK (jJ K a E E) (AK (jK K a E E) (AK (jM K a E E) (jN K a E E))))
def jO:RT:=λK a E E1=>(A5 (C6 (BJ (tC (.str "")) (BJ (tC (.str " ")) (BJ (tC (.str "make")) (BJ (tC (.str "cut")) (BJ (tC (.str "link")) (BJ (tC (.str "move")) (BJ (tC (.str "put")) (BJ (tC (.str "take")) (BJ (tC (.str "write")) (GO (tC (.str "show")) (tC (.str "keep")) (tC (.str "names ")) (tC (.str " names"))))))))))))) (AQ 2))
theorem Mg:type_of%(@A3 _ _ jO.eq_1):=rfl
def jP:RT:=λK a E E1=>(A5 (AF (BB K) A7 (C6 (BJ (tC (.str "stop ")) (BJ (tC (.str "names a")) (GO (tC (.str "make a b")) (AF (BB K) (tC (.str "make  ")) AS) (AF (BB K) (AF (BB K) (tC (.str "cut ")) AS) (tC (.str " "))) (AF (BB K) (AF (BB K) (tC (.str "show ")) AS) (tC (.str " a")))))))) (AQ 2))
theorem Mh:type_of%(@A3 _ _ jP.eq_1):=rfl
def jQ:RT:=λK a E E1=>(A5 (AF (BB K) A7 (C6 (BJ (AF (BB K) (tC (.str "link ")) AS) (BJ (tC (.str "link a b c")) (GO (AF (BB K) (tC (.str "move ")) AS) (AF (BB K) (tC (.str "take ")) AS) (AF (BB K) (tC (.str "put ")) AS) (AF (BB K) (AF (BB K) (tC (.str "take ")) AS) (tC (.str " 00")))))))) (AQ 2))
theorem Mj:type_of%(@A3 _ _ jQ.eq_1):=rfl
def jR:RT:=λK a E E1=>(A5 (AF (BB K) A7 (C6 (BJ (AF (BB K) (AF (BB K) (tC (.str "take ")) AS) (tC (.str " -1"))) (GO (AF (BB K) (AF (BB K) (tC (.str "take ")) AS) (tC (.str " 1000"))) (tC (.str "write 01")) (tC (.str "write ")) (tC (.str "Names")))))) (AQ 2))
theorem Ml:type_of%(@A3 _ _ jR.eq_1):=rfl
def jS:RT:=λK a E E1=>(A5 (AF (BB K) A7 (C6 (BJ (tC (.str "write 1000")) (BJ (tC (.str "write x")) (GO (tC (.str "write 1a")) (tC (.str "write -1")) (tC (.str "write +1")) (AF (BB K) (AF (BB K) (tC (.str "take ")) AS) (tC (.str " 1a")))))))) (AQ 2))
theorem Mm:type_of%(@A3 _ _ jS.eq_1):=rfl
def jT:RT:=λK a E E1=>(A5 (AF (BB K) A7 (C6 (GO (tC (.str "write 1_0")) (AF (BB K) (AF (BB K) (tC (.str "take ")) AS) (tC (.str " 1_0"))) (AF (BB K) (AF (BB K) (tC (.str "take ")) AS) (tC (.str " "))) (AF (BB K) (AF (BB K) (tC (.str "take ")) AS) (tC (.str " x")))))) (AQ 2))
theorem Mp:type_of%(@A3 _ _ jT.eq_1):=rfl
def jU:RT:=λK a E E1=>(A6 (AF (CQ K) A7 (AF EX AE (F5 40))))
theorem Mq:type_of%(@A3 _ _ jU.eq_1):=rfl
def V9(K:FK)(a:Ad)(E:XE):TS:=(AK (jO K a E E) (AK (jP K a E E) (AK (jQ K a E E) (AK (jR K a E E) (AK (jS K a E E) (AK (jT K a E E) (jU K a E E)))))))
def jV:RT:=λK a E E1=>(A5 (C6 (BJ (tC (.str "make")) (BJ (tC (.str "cut")) (BJ (tC (.str "show")) (BJ (tC (.str "keep")) (BJ (tC (.str "link")) (BJ (tC (.str "move")) (GO (tC (.str "take")) (tC (.str "names")) (tC (.str "stop")) (tC (.str "write")))))))))) (AQ 1))
theorem Mv:type_of%(@A3 _ _ jV.eq_1):=rfl
def jW:RT:=λK a E E1=>(A5 (AF (CQ K) AS (AF EX AE (F5 10))) (AQ 2))
theorem Mw:type_of%(@A3 _ _ jW.eq_1):=rfl
def jX:RT:=λK a E E1=>(A5 (AF (CQ K) (C6 (BJ (tC (.str "")) (BJ (tC (.str " a")) (GO (tC (.str " a b")) (tC (.str " 1")) (tC (.str " a 1")) (tC (.str " a b c")))))) (AF EX (AF FI AE (F5 10)) RB)) (AQ 3))
theorem Mx:type_of%(@A3 _ _ jX.eq_1):=rfl
def jY:RT:=λK a E E1=>(A5 (AF EX (AF FI AE (F5 60)) (AF (BB K) (BO (EM K) (AJ A7)) EB)) (AQ 4))
theorem My:type_of%(@A3 _ _ jY.eq_1):=rfl
def jZ:RT:=λK a E E1=>(A6 (AF (BB K) (AF (BB K) (AF (BB K) (KO (K3 K) A7 KM (KN DB)) (tC (.str "q"))) (KO (K3 K) A7 (KN DB) KM)) CH))
theorem Mz:type_of%(@A3 _ _ jZ.eq_1):=rfl
def j2:RT:=λK a E E1=>(BQ (BU (AF (CC K) (AF EX (AF FI AE (F5 600)) J8) GL)) (jZ K a E E) B8)
theorem Nb:type_of%(@A3 _ _ j2.eq_1):=rfl
def j3:RT:=λK a E E1=>(A6 (AF (BB K) (AF (BB K) (AF (BB K) (KO (K3 K) A7 KM (KN DB)) (KO (K3 K) A7 (KN (AF (BB K) DB EB)) KM)) (tC (.str "q"))) CH))
theorem Nd:type_of%(@A3 _ _ j3.eq_1):=rfl
def WA(K:FK)(a:Ad)(E:XE):TS:=(AK (jV K a E E) (AK (jW K a E E) (AK (jX K a E E) (AK (jY K a E E) (AK (j2 K a E E) (j3 K a E E))))))
def j4:RT:=λK a E E1=>(A5 (C6 (BJ (tC (.str "names")) (BJ (tC (.str "stop")) (BJ (tC (.str "make")) (BJ (tC (.str "cut")) (BJ (tC (.str "show")) (BJ (tC (.str "keep")) (GO (tC (.str "write")) (tC (.str "link")) (tC (.str "move")) (tC (.str "take")))))))))) (AQ 1))
theorem Ng:type_of%(@A3 _ _ j4.eq_1):=rfl
def j5:RT:=λK a E E1=>(A5 (AF EX AE (F5 10)) (AQ 2))
theorem Nh:type_of%(@A3 _ _ j5.eq_1):=rfl
def j6:RT:=λK a E E1=>(A5 (AF EX (AF FI AE (F5 10)) RB) (AQ 3))
theorem Nj:type_of%(@A3 _ _ j6.eq_1):=rfl
def j7:RT:=λK a E E1=>(A5 RB (AQ 3))
theorem Nk:type_of%(@A3 _ _ j7.eq_1):=rfl
def WB:RT:=λK a E E1=>(BQ (BU (AF (CC K) CH (AF (BB K) (BO (II K) (AJ (AF K0 A7 EB))) (BO (II K) (AJ (AF K0 A7 RB)))))) (j7 K a E E) B8)
theorem Nl:type_of%(@A3 _ _ WB.eq_1):=rfl
def WC:RT:=λK a E E1=>(A6 (AF (BB K) (AF (CQ K) AS A7) (AF (F1 K) (AF (CQ K) (C6 (CA (tC (.str " a")) (tC (.str " 0")))) (AF EX (AF FI AE (F5 60)) J8)) CH)))
theorem Nm:type_of%(@A3 _ _ WC.eq_1):=rfl
def WD(K:FK)(a:Ad)(E:XE):TS:=(AK (j4 K a E E) (AK (j5 K a E E) (AK (j6 K a E E) (AK (WB K a E E) (WC K a E E)))))
def j8:RT:=λK a E E1=>(DI K AE AS "ground")
theorem Np:type_of%(@A3 _ _ j8.eq_1):=rfl
def j9:RT:=λK a E E1=>(DI K AE (C6 BZ) "made")
theorem Nq:type_of%(@A3 _ _ j9.eq_1):=rfl
def kA:RT:=λK a E E1=>(DI K AE (DM (F7 (AJ (AV (a "Plank") "blocks" (ND K a) [] E AS BZ))) (AQ 0) C7 (C6 BZ) 1 []) "made_in")
theorem Nv:type_of%(@A3 _ _ kA.eq_1):=rfl
def kB:RT:=λK a E E1=>(DI K AE SV "latest")
theorem Nx:type_of%(@A3 _ _ kB.eq_1):=rfl
def kC:RT:=λK a E E1=>(DI K AE MQ "outs")
theorem Ny:type_of%(@A3 _ _ kC.eq_1):=rfl
def WE(K:FK)(a:Ad)(E:XE):TS:=(AK (j8 K a E E) (AK (j9 K a E E) (AK (kA K a E E) (AK (kB K a E E) (kC K a E E)))))
def kD:RT:=λK a E E1=>(FH (a "NoBlock") E (AJ (tC (.str "there is no such place on the plank"))))
theorem Nz:type_of%(@A3 _ _ kD.eq_1):=rfl
def kE:RT:=λK a E E1=>(BQ (MD (F6 (BU (FX D1 IH GL (CS K AS 0) (AV (a "Plank") "blocks" (ND K a) [] E (AX K AE "ground") BZ)))) (F6 (BU (FX D1 IH GL (CS K AS 1) (AV (a "Plank") "cells" (NE K a) [] E (AX K AE "ground") BZ))))) (kD K a E E) B8)
theorem Pb:type_of%(@A3 _ _ kE.eq_1):=rfl
def WF(K:FK)(a:Ad)(E:XE):TS:=(kE K a E E)
def kG:RT:=λK a E E1=>(A5 (BO (O9 K) (AJ A7)) (AQ 3))
theorem WG:type_of%(@A3 _ _ kG.eq_1):=rfl
def kH:RT:=λK a E E1=>(A5 (C6 BZ) (AQ 4))
theorem WH:type_of%(@A3 _ _ kH.eq_1):=rfl
def kJ:RT:=λK a E E1=>(A5 (C6 BZ) (AQ 5))
theorem WI:type_of%(@A3 _ _ kJ.eq_1):=rfl
def kK:RT:=λK a E E1=>(A5 (AV (a "Hold") "lack_of" (QI K a) [] E AE (CA FR CH)) (AQ 7))
theorem WJ:type_of%(@A3 _ _ kK.eq_1):=rfl
def kL:RT:=λK a E E1=>(MP CH FR (tC (.bl true)))
theorem WK:type_of%(@A3 _ _ kL.eq_1):=rfl
def kM:RT:=λK a E E1=>(DH (GE K "list" MW DB (AJ FR)))
theorem WL:type_of%(@A3 _ _ kM.eq_1):=rfl
def kN:RT:=λK a E E1=>(DH (GE K "list" MW FQ (AJ (EK (CA FR RC)))))
theorem WM:type_of%(@A3 _ _ kN.eq_1):=rfl
def kO:RT:=λK a E E1=>(BQ (BU (AF K1 RC (tC .non))) (AK (kL K a E E) (kM K a E E)) (kN K a E E))
theorem WN:type_of%(@A3 _ _ kO.eq_1):=rfl
def kP:RT:=λK a E E1=>(BQ (KJ (tB (KU FR (AX K AE "outs"))) (tB (KU FR CH))) (AK (kK K a E E) (kO K a E E)) B8)
theorem WO:type_of%(@A3 _ _ kP.eq_1):=rfl
def kQ:RT:=λK a E E1=>(EI (FJ K (AF (CQ K) (AX K AE "made_in") AS)) (AQ 6) (kP K a E E))
theorem WP:type_of%(@A3 _ _ kQ.eq_1):=rfl
def kR:RT:=λK a E E1=>(A6 (EK (CA DB FQ)))
theorem WQ:type_of%(@A3 _ _ kR.eq_1):=rfl
def WR(K:FK)(a:Ad)(E:XE):TS:=(AK (kG K a E E) (AK (kH K a E E) (AK (kJ K a E E) (AK (kQ K a E E) (kR K a E E)))))
def kS:RT:=λK a E E1=>(A6 (JN (FX D1 D1 EB (BO (EM K) (AJ AE)) (F5 40)) (BO (K9 K) (AJ (DM (M5 AE) (AQ 0) C7 (C2 (QT K a) [] (λ_=>E0) (AJ AE)) 1 [])))))
theorem Pc:type_of%(@A3 _ _ kS.eq_1):=rfl
def WS(K:FK)(a:Ad)(E:XE):TS:=(kS K a E E)
def kU:RT:=λK a E E1=>(A5 (CS K (GE K "str" f7 AE (AJ (tC (.str " ")))) 0) (AQ 1))
theorem Pd:type_of%(@A3 _ _ kU.eq_1):=rfl
def kW:RT:=λK a E E1=>(FH (a "NoRow") E (AJ (tC (.str "the row begins with no word that is known"))))
theorem Pg:type_of%(@A3 _ _ kW.eq_1):=rfl
def kX:RT:=λK a E E1=>(BQ (tB (UO LQ AS)) (kW K a E E) B8)
theorem Ph:type_of%(@A3 _ _ kX.eq_1):=rfl
def kY:RT:=λK a E E1=>(A5 (OF (BU (AF (CC K) AS (tC (.str "put")))) (GE K "str" UL AE (CA (tC (.str " ")) J8)) (GE K "str" UL AE (AJ (tC (.str " "))))) (AQ 2))
theorem Pj:type_of%(@A3 _ _ kY.eq_1):=rfl
def kZ:RT:=λK a E E1=>(FH (a "NoRow") E (AJ (tC (.str "the row has too few words or too many"))))
theorem Pk:type_of%(@A3 _ _ kZ.eq_1):=rfl
def WT:RT:=λK a E E1=>(BQ (BU (AF (DE K) (BO (EM K) (AJ A7)) (UP LQ AS))) (kZ K a E E) B8)
theorem Pl:type_of%(@A3 _ _ WT.eq_1):=rfl
def k7:RT:=λK a E E1=>(FH (a "NoRow") E (AJ (tC (.str "the last word is no number of one to three figures"))))
theorem Pm:type_of%(@A3 _ _ k7.eq_1):=rfl
def WU:RT:=λK a E E1=>(BQ (KJ (BU (AF (M8 K) AS (tC (.ref (a "WITH_A_NUMBER_LAST"))))) (F6 (K2 K (C2 (Q2 K a) [] E (AJ (AF (CQ K) A7 (OP TJ EB))))))) (k7 K a E E) B8)
theorem Pp:type_of%(@A3 _ _ WU.eq_1):=rfl
def WV:RT:=λK a E E1=>(A6 A7)
theorem k8:type_of%(@A3 _ _ WV.eq_1):=rfl
def WW(K:FK)(a:Ad)(E:XE):TS:=(AK (kU K a E E) (AK (kX K a E E) (AK (kY K a E E) (AK (WT K a E E) (AK (WU K a E E) (WV K a E E))))))
def k9:RT:=λK a E E1=>(DH (AV (a "Plank") "ask_for_block" (JU K a) [] E AE (AJ AS)))
theorem Pq:type_of%(@A3 _ _ k9.eq_1):=rfl
def lA:RT:=λK a E E1=>(A6 (BO (K4 K) (AJ (AF (CQ K) (AX K AE "contents") AS))))
theorem Pw:type_of%(@A3 _ _ lA.eq_1):=rfl
def WX(K:FK)(a:Ad)(E:XE):TS:=(AK (k9 K a E E) (lA K a E E))
def lB:RT:=λK a E E1=>(DH (AV (a "Plank") "ask_for_block" (JU K a) [] E AE (AJ AS)))
theorem Px:type_of%(@A3 _ _ lB.eq_1):=rfl
def lC:RT:=λK a E E1=>(FH (a "NoBlock") E (AJ (tC (.str "the list is not as long as a block"))))
theorem Py:type_of%(@A3 _ _ lC.eq_1):=rfl
def lD:RT:=λK a E E1=>(BQ (BU (AF (DE K) (BO (EM K) (AJ A7)) (AX K AE "width"))) (lC K a E E) B8)
theorem Pz:type_of%(@A3 _ _ lD.eq_1):=rfl
def lE:RT:=λK a E E1=>(A5 (BO (K5 K) (AJ A7)) (OM (AX K AE "contents") AS MV))
theorem Qb:type_of%(@A3 _ _ lE.eq_1):=rfl
def lF:RT:=λK a E E1=>(SI K AE EB OT "written")
theorem Qc:type_of%(@A3 _ _ lF.eq_1):=rfl
def WY(K:FK)(a:Ad)(E:XE):TS:=(AK (lB K a E E) (AK (lD K a E E) (AK (lE K a E E) (lF K a E E))))
def lG:RT:=λK a E E1=>(A6 (AV (a "Layout") "place_from" (JA K a) [] E AE (CA GL AS)))
theorem Qd:type_of%(@A3 _ _ lG.eq_1):=rfl
def WZ(K:FK)(a:Ad)(E:XE):TS:=(lG K a E E)
def lH:RT:=λK a E E1=>(A6 (AV (a "Layout") "place_from" (JA K a) [] E AE (CA (AX K AE "name_blocks") AS)))
theorem Qg:type_of%(@A3 _ _ lH.eq_1):=rfl
def W0(K:FK)(a:Ad)(E:XE):TS:=(lH K a E E)
def lI:RT:=λK a E E1=>(A6 (AV (a "Layout") "place_from" (JA K a) [] E AE (CA (AF (BB K) (AX K AE "name_blocks") (AX K AE "record_blocks")) AS)))
theorem Qh:type_of%(@A3 _ _ lI.eq_1):=rfl
def W1(K:FK)(a:Ad)(E:XE):TS:=(lI K a E E)
def lJ:RT:=λK a E E1=>(A6 (AV (a "Layout") "place_from" (JA K a) [] E AE (CA (AV (a "Layout") "blocks_ahead_of_marks" (LJ K a) [] E AE BZ) AS)))
theorem Qj:type_of%(@A3 _ _ lJ.eq_1):=rfl
def W2(K:FK)(a:Ad)(E:XE):TS:=(lJ K a E E)
def lK:RT:=λK a E E1=>(A6 (AV (a "Layout") "place_from" (JA K a) [] E AE (CA (AF (BB K) (AV (a "Layout") "blocks_ahead_of_marks" (LJ K a) [] E AE BZ) (AX K AE "record_blocks")) AS)))
theorem Qk:type_of%(@A3 _ _ lK.eq_1):=rfl
def W3(K:FK)(a:Ad)(E:XE):TS:=(lK K a E E)
def lL:RT:=λK a E E1=>(A6 (AF (BB K) (AF (BB K) (AV (a "Layout") "blocks_ahead_of_marks" (LJ K a) [] E AE BZ) (AX K AE "record_blocks")) (AX K AE "piece_blocks")))
theorem Ql:type_of%(@A3 _ _ lL.eq_1):=rfl
def W4(K:FK)(a:Ad)(E:XE):TS:=(lL K a E E)
def lM:RT:=λK a E E1=>(DH (AV (a "Hold") "ask_for_place" (QF K a) [] E AE (AJ AS)))
theorem Qm:type_of%(@A3 _ _ lM.eq_1):=rfl
def lN:RT:=λK a E E1=>(A6 (SY (AX K AE "latest") AS))
theorem Qp:type_of%(@A3 _ _ lN.eq_1):=rfl
def W5(K:FK)(a:Ad)(E:XE):TS:=(AK (lM K a E E) (lN K a E E))
def lO:RT:=λK a E E1=>(A5 (AV (a "Plank") "read" (LD K a) [] E (AX K AE "ground") (AJ AS)) (AQ 2))
theorem RF:type_of%(@A3 _ _ lO.eq_1):=rfl
def lP:RT:=λK a E E1=>(A5 (AV (a "Hold") "outcome" (QJ K a) [] E AE (CA AS MQ)) (AQ 3))
theorem RG:type_of%(@A3 _ _ lP.eq_1):=rfl
def lQ:RT:=λK a E E1=>(MP (AX K AE "outs") DB (tC (.bl true)))
theorem RH:type_of%(@A3 _ _ lQ.eq_1):=rfl
def lR:RT:=λK a E E1=>(EI (FJ K (CS K CH 0)) (AQ 4) (lQ K a E E))
theorem RI:type_of%(@A3 _ _ lR.eq_1):=rfl
def lS:RT:=λK a E E1=>(DH (AV (a "Plank") "write" (PP K a) [] E (AX K AE "ground") (CA AS (AV (a "Hold") "laid_over" (QK K a) [] E AE (CA A7 AS)))))
theorem RJ:type_of%(@A3 _ _ lS.eq_1):=rfl
def lT:RT:=λK a E E1=>(A6 CH)
theorem RK:type_of%(@A3 _ _ lT.eq_1):=rfl
def W6(K:FK)(a:Ad)(E:XE):TS:=(AK (lO K a E E) (AK (lP K a E E) (AK (lR K a E E) (AK (lS K a E E) (lT K a E E)))))
def lU:RT:=λK a E E1=>(A6 (GU (a "Plank") (PN K a) [] E (CA (AV (a "Layout") "blocks" (P8 K a) [] E AE BZ) (AX K AE "width"))))
theorem Qq:type_of%(@A3 _ _ lU.eq_1):=rfl
def W7(K:FK)(a:Ad)(E:XE):TS:=(lU K a E E)
def lV:RT:=λK a E E1=>(A5 (AV (a "Hold") "newest" (NK K a) [] E AE (AJ AS)) (AQ 4))
theorem Qv:type_of%(@A3 _ _ lV.eq_1):=rfl
def lW:RT:=λK a E E1=>(DH (AV (a "Hold") "ask_for_changes" (QH K a) [] E AE (AJ CH)))
theorem Qw:type_of%(@A3 _ _ lW.eq_1):=rfl
def lX:RT:=λK a E E1=>(A5 (BO (EM K) (AJ (AX K AE "made"))) (AQ 5))
theorem Qx:type_of%(@A3 _ _ lX.eq_1):=rfl
def lY:RT:=λK a E E1=>(DH (GE K "list" MW (AX K AE "made") (AJ (GU (a "Change") (QD K a) [] E (FD AS A7 (C2 (QE K a) [] E (CA CH DB)))))))
theorem Qy:type_of%(@A3 _ _ lY.eq_1):=rfl
def lZ:RT:=λK a E E1=>(DH (GE K "list" MW (AF (CQ K) (AX K AE "made_in") (CS K AS 0)) (AJ FQ)))
theorem Qz:type_of%(@A3 _ _ lZ.eq_1):=rfl
def l7:RT:=λK a E E1=>(MP (AX K AE "latest") AS FQ)
theorem Rb:type_of%(@A3 _ _ l7.eq_1):=rfl
def l8:RT:=λK a E E1=>(A6 FQ)
theorem Rc:type_of%(@A3 _ _ l8.eq_1):=rfl
def W8(K:FK)(a:Ad)(E:XE):TS:=(AK (lV K a E E) (AK (lW K a E E) (AK (lX K a E E) (AK (lY K a E E) (AK (lZ K a E E) (AK (l7 K a E E) (l8 K a E E)))))))
def l9:RT:=λK a E E1=>(A5 (AV (a "Hold") "newest" (NK K a) [] E AE (AJ AS)) (AQ 2))
theorem Rg:type_of%(@A3 _ _ l9.eq_1):=rfl
def mB:RT:=λK a E E1=>(A6 (AF (CQ K) (AV (a "Plank") "read" (LD K a) [] E (AX K AE "ground") (AJ (CS K AS 0))) (CS K AS 1)))
theorem Rh:type_of%(@A3 _ _ mB.eq_1):=rfl
def mC:RT:=λK a E E1=>(BQ (BU (AF K1 A7 (tC .non))) (mB K a E E) B8)
theorem Rj:type_of%(@A3 _ _ mC.eq_1):=rfl
def mD:RT:=λK a E E1=>(A6 (AX K (AF (CQ K) (AX K AE "made") A7) "value"))
theorem Rk:type_of%(@A3 _ _ mD.eq_1):=rfl
def W9(K:FK)(a:Ad)(E:XE):TS:=(AK (l9 K a E E) (AK (mC K a E E) (mD K a E E)))
def mE:RT:=λK a E E1=>(DI K AE AS "plan")
theorem Rl:type_of%(@A3 _ _ mE.eq_1):=rfl
def mF:RT:=λK a E E1=>(DI K AE (GU (a "Hold") (NJ K a) [] E (AJ A7)) "book")
theorem Rm:type_of%(@A3 _ _ mF.eq_1):=rfl
def mG:RT:=λK a E E1=>(DI K AE MQ "taken_out")
theorem Rp:type_of%(@A3 _ _ mG.eq_1):=rfl
def XA(K:FK)(a:Ad)(E:XE):TS:=(AK (mE K a E E) (AK (mF K a E E) (mG K a E E)))
def mH:RT:=λK a E E1=>(A6 (AV (a "Hold") "write" (QL K a) [] E (AX K AE "book") (AJ AS)))
theorem Rq:type_of%(@A3 _ _ mH.eq_1):=rfl
def XB(K:FK)(a:Ad)(E:XE):TS:=(mH K a E E)
def mI:RT:=λK a E E1=>(A6 CH)
theorem Rv:type_of%(@A3 _ _ mI.eq_1):=rfl
def mJ:RT:=λK a E E1=>(BQ (BU (AF (PF K) (AV (a "Hold") "in_hand" (J2 K a) [] E AE (AJ DB)) A7)) (mI K a E E) B8)
theorem Rw:type_of%(@A3 _ _ mJ.eq_1):=rfl
def mK:RT:=λK a E E1=>(EI (NA K (AJ AS)) (OL K 2 (KK (AQ 3) (KK (AQ 4) OJ))) (mJ K a E E))
theorem Rx:type_of%(@A3 _ _ mK.eq_1):=rfl
def mM:RT:=λK a E E1=>(FH (a "NoRoom") E (AJ (tC (.str "nothing of what is to be taken is free"))))
theorem Ry:type_of%(@A3 _ _ mM.eq_1):=rfl
def XC(K:FK)(a:Ad)(E:XE):TS:=(AK (mK K a E E) (mM K a E E))
def mO:RT:=λK a E E1=>(A6 (DM (F7 (AJ (CS K (AV (a "Layout") "counts" (JZ K a) [] E (AX K AE "plan") BZ) 0))) (AQ 0) C7 (AV (a "Hold") "in_hand" (J2 K a) [] (λ_=>E0) (AX K AS "book") (AJ (AV (a "Layout") "name_at" (JX K a) [] (λ_=>E0) (AX K AS "plan") (AJ AE)))) 1 [0]))
theorem Rz:type_of%(@A3 _ _ mO.eq_1):=rfl
def XD(K:FK)(a:Ad)(E:XE):TS:=(mO K a E E)
def mP:RT:=λK a E E1=>(A6 (AV (a "Hold") "in_hand" (J2 K a) [] E (AX K AE "book") (AJ (AV (a "Layout") "record_at" (JY K a) [] E (AX K AE "plan") (AJ AS)))))
theorem Sb:type_of%(@A3 _ _ mP.eq_1):=rfl
def XF(K:FK)(a:Ad)(E:XE):TS:=(mP K a E E)
def mQ:RT:=λK a E E1=>(A5 (C6 (AJ DB)) (AQ 5))
theorem Sd:type_of%(@A3 _ _ mQ.eq_1):=rfl
def mR:RT:=λK a E E1=>(DH (GE K "list" MW FQ (AJ (ST (AX K AE "taken_out") A7))))
theorem Sg:type_of%(@A3 _ _ mR.eq_1):=rfl
def mS:RT:=λK a E E1=>(BQ (tB (OZ A7 (AX K AE "taken_out"))) (mR K a E E) B8)
theorem Sh:type_of%(@A3 _ _ mS.eq_1):=rfl
def XG:RT:=λK a E E1=>(A6 (AV (a "Hold") "change" (HQ K a) [] E (AX K AE "book") (FD (AV (a "Layout") "name_at" (JX K a) [] E (AX K AE "plan") (AJ AS)) (EK (CA A7 CH)) FQ)))
theorem Sj:type_of%(@A3 _ _ XG.eq_1):=rfl
def XH(K:FK)(a:Ad)(E:XE):TS:=(AK (mQ K a E E) (AK (mS K a E E) (XG K a E E)))
def mT:RT:=λK a E E1=>(A5 (DM (F7 (AJ (CS K (AV (a "Layout") "counts" (JZ K a) [] E AE BZ) 0))) (AQ 0) C7 (AV (a "Layout") "name_at" (JX K a) [] (λ_=>E0) AS (AJ AE)) 1 [0]) (AQ 2))
theorem Sk:type_of%(@A3 _ _ mT.eq_1):=rfl
def mU:RT:=λK a E E1=>(A6 (C2 (J3 K a) [] E (FD AS A7 (EK (AJ (tC .non))))))
theorem Sl:type_of%(@A3 _ _ mU.eq_1):=rfl
def XI(K:FK)(a:Ad)(E:XE):TS:=(AK (mT K a E E) (mU K a E E))
def mV:RT:=λK a E E1=>(A5 (DM (F7 (AJ (CS K (AV (a "Layout") "counts" (JZ K a) [] E AE BZ) 1))) (AQ 0) C7 (AV (a "Layout") "record_mark" (LH K a) [] (λ_=>E0) AS (AJ AE)) 1 [0]) (AQ 2))
theorem Sm:type_of%(@A3 _ _ mV.eq_1):=rfl
def mW:RT:=λK a E E1=>(A6 (C2 (J3 K a) [] E (FD AS A7 (EK (CA (tC .non) GL)))))
theorem Sq:type_of%(@A3 _ _ mW.eq_1):=rfl
def XJ(K:FK)(a:Ad)(E:XE):TS:=(AK (mV K a E E) (mW K a E E))
def mX:RT:=λK a E E1=>(A5 (DM (F7 (AJ (CS K (AV (a "Layout") "counts" (JZ K a) [] E AE BZ) 2))) (AQ 0) C7 (AV (a "Layout") "piece_mark" (LI K a) [] (λ_=>E0) AS (AJ AE)) 1 [0]) (AQ 2))
theorem Sv:type_of%(@A3 _ _ mX.eq_1):=rfl
def mY:RT:=λK a E E1=>(A6 (C2 (J3 K a) [] E (FD AS A7 (EK (CA (tC .non) GL)))))
theorem Sw:type_of%(@A3 _ _ mY.eq_1):=rfl
def XL(K:FK)(a:Ad)(E:XE):TS:=(AK (mX K a E E) (mY K a E E))
def mZ:RT:=λK a E E1=>(A6 (BO (fW K) (AJ (DM (FJ K (AV (a "Store") "name_cells" (LN K a) [] E AE BZ)) (AQ 0) (BU (AF MU AE (tC .non))) (CS K AE 0) 1 []))))
theorem Sx:type_of%(@A3 _ _ mZ.eq_1):=rfl
def XM(K:FK)(a:Ad)(E:XE):TS:=(mZ K a E E)
def m4:RT:=λK a E E1=>(A6 A7)
theorem Sy:type_of%(@A3 _ _ m4.eq_1):=rfl
def m6:RT:=λK a E E1=>(BQ (KJ (BU (AF MU CH (tC .non))) (BU (AF (CC K) (CS K CH 0) AS))) (m4 K a E E) B8)
theorem Sz:type_of%(@A3 _ _ m6.eq_1):=rfl
def m7:RT:=λK a E E1=>(EI (NA K (AJ (AV (a "Store") "name_cells" (LN K a) [] E AE BZ))) (OL K 2 (KK (AQ 2) (KK (AQ 3) OJ))) (m6 K a E E))
theorem Tb:type_of%(@A3 _ _ m7.eq_1):=rfl
def m8:RT:=λK a E E1=>(A6 (tC .non))
theorem Tc:type_of%(@A3 _ _ m8.eq_1):=rfl
def XN(K:FK)(a:Ad)(E:XE):TS:=(AK (m7 K a E E) (m8 K a E E))
def m9:RT:=λK a E E1=>(A6 (AV (a "Hold") "change" (HQ K a) [] E (AX K AE "book") (FD (AV (a "Layout") "record_at" (JY K a) [] E (AX K AE "plan") (AJ AS)) (EK (CA (CS K (AV (a "Store") "standing" (LO K a) [] E AE (AJ AS)) 0) A7)) CH)))
theorem Td:type_of%(@A3 _ _ m9.eq_1):=rfl
def XO(K:FK)(a:Ad)(E:XE):TS:=(m9 K a E E)
def nA:RT:=λK a E E1=>(DI K AE AS "plan")
theorem Tg:type_of%(@A3 _ _ nA.eq_1):=rfl
def nB:RT:=λK a E E1=>(DI K AE (AV (a "Layout") "plank" (NH K a) [] E AS BZ) "ground")
theorem Th:type_of%(@A3 _ _ nB.eq_1):=rfl
def nD:RT:=λK a E E1=>(DI K AE (GU (a "Store") (QY K a) [] E (CA AS (AX K AE "ground"))) "store")
theorem Tj:type_of%(@A3 _ _ nD.eq_1):=rfl
def XQ(K:FK)(a:Ad)(E:XE):TS:=(AK (nA K a E E) (AK (nB K a E E) (nD K a E E)))
def nE:RT:=λK a E E1=>(FH (a "NoName") E (AJ (tC (.str "the text is no name"))))
theorem Tk:type_of%(@A3 _ _ nE.eq_1):=rfl
def nH:RT:=λK a E E1=>(BQ (F6 (K2 K (BO (K9 K) (AJ (DM (FJ K A7) (AQ 0) C7 (C2 (QU K a) [] (λ_=>E0) (AJ AE)) 1 []))))) (nE K a E E) B8)
theorem Tl:type_of%(@A3 _ _ nH.eq_1):=rfl
def nJ:RT:=λK a E E1=>(FH (a "Twice") E (AJ (tC (.str "the new name stands already"))))
theorem Tm:type_of%(@A3 _ _ nJ.eq_1):=rfl
def nK:RT:=λK a E E1=>(BQ (BU (AF MU (AV (a "Store") "cell_of" (NO K a) [] E AE (AJ AS)) (tC .non))) (nJ K a E E) B8)
theorem Tp:type_of%(@A3 _ _ nK.eq_1):=rfl
def XR(K:FK)(a:Ad)(E:XE):TS:=(AK (nH K a E E) (nK K a E E))
def nQ:RT:=λK a E E1=>(A5 (AV (a "Store") "cell_of" (NO K a) [] E AE (AJ AS)) (AQ 2))
theorem Tq:type_of%(@A3 _ _ nQ.eq_1):=rfl
def nR:RT:=λK a E E1=>(FH (a "NoName") E (AJ (tC (.str "no such name stands"))))
theorem Tv:type_of%(@A3 _ _ nR.eq_1):=rfl
def nS:RT:=λK a E E1=>(BQ (BU (AF K1 A7 (tC .non))) (nR K a E E) B8)
theorem Tw:type_of%(@A3 _ _ nS.eq_1):=rfl
def nT:RT:=λK a E E1=>(A6 (CS K (AF (CQ K) (AV (a "Store") "name_cells" (LN K a) [] E AE BZ) A7) 1))
theorem Tx:type_of%(@A3 _ _ nT.eq_1):=rfl
def XS(K:FK)(a:Ad)(E:XE):TS:=(AK (nQ K a E E) (AK (nS K a E E) (nT K a E E)))
def nU:RT:=λK a E E1=>(DH (AV (a "Store") "ask_for_new_name" (QZ K a) [] E AE (CA AS (C6 (AJ AS)))))
theorem Ty:type_of%(@A3 _ _ nU.eq_1):=rfl
def nX:RT:=λK a E E1=>(A5 (C2 (QR K a) [] E (CA (AX K AE "plan") (AX K AE "book"))) (AQ 2))
theorem Tz:type_of%(@A3 _ _ nX.eq_1):=rfl
def nY:RT:=λK a E E1=>(A5 (C2 (QQ K a) [] E (CA (AX K AE "plan") (AX K AE "book"))) (AQ 3))
theorem Ub:type_of%(@A3 _ _ nY.eq_1):=rfl
def nZ:RT:=λK a E E1=>(A5 (AV (a "Hold") "change" (HQ K a) [] E (AX K AE "book") (FD (AV (a "Layout") "record_mark" (LH K a) [] E (AX K AE "plan") (AJ A7)) EB (C6 BZ))) (AQ 4))
theorem Uc:type_of%(@A3 _ _ nZ.eq_1):=rfl
def n5:RT:=λK a E E1=>(A5 (AV (a "Hold") "change" (HQ K a) [] E (AX K AE "book") (FD (AV (a "Layout") "record_at" (JY K a) [] E (AX K AE "plan") (AJ A7)) (EK (CA EB (EK BZ))) (C6 (AJ DB)))) (AQ 5))
theorem Ud:type_of%(@A3 _ _ n5.eq_1):=rfl
def n6:RT:=λK a E E1=>(A6 (C6 (FD DB FQ (AV (a "Store") "fill_cell" (Q0 K a) [] E AE (GO CH AS A7 FQ)))))
theorem Ug:type_of%(@A3 _ _ n6.eq_1):=rfl
def XT(K:FK)(a:Ad)(E:XE):TS:=(AK (nU K a E E) (AK (nX K a E E) (AK (nY K a E E) (AK (nZ K a E E) (AK (n5 K a E E) (n6 K a E E))))))
def n8:RT:=λK a E E1=>(A5 (AV (a "Store") "record_of" (NP K a) [] E AE (AJ AS)) (AQ 3))
theorem Uh:type_of%(@A3 _ _ n8.eq_1):=rfl
def oA:RT:=λK a E E1=>(FH (a "NoPiece") E (AJ (tC (.str "the text is none of a piece"))))
theorem Uj:type_of%(@A3 _ _ oA.eq_1):=rfl
def oB:RT:=λK a E E1=>(BQ (F6 (K2 K (C2 (QW K a) [] E (AJ A7)))) (oA K a E E) B8)
theorem Uk:type_of%(@A3 _ _ oB.eq_1):=rfl
def oC:RT:=λK a E E1=>(A5 (C2 (QS K a) [] E (CA (AX K AE "plan") (AX K AE "book"))) (AQ 4))
theorem Ul:type_of%(@A3 _ _ oC.eq_1):=rfl
def oE:RT:=λK a E E1=>(A5 (AV (a "Hold") "change" (HQ K a) [] E (AX K AE "book") (FD (AV (a "Layout") "piece_mark" (LI K a) [] E (AX K AE "plan") (AJ DB)) EB (C6 BZ))) (AQ 5))
theorem Um:type_of%(@A3 _ _ oE.eq_1):=rfl
def oF:RT:=λK a E E1=>(A5 (AV (a "Hold") "change" (HQ K a) [] E (AX K AE "book") (FD (AV (a "Layout") "piece_at" (LG K a) [] E (AX K AE "plan") (AJ DB)) A7 (C6 (AJ FQ)))) (AQ 6))
theorem Up:type_of%(@A3 _ _ oF.eq_1):=rfl
def oG:RT:=λK a E E1=>(A6 (C6 (FD FQ FR (AV (a "Store") "regroup" (Q1 K a) [] E AE (FD CH (AF (BB K) (CS K (AV (a "Store") "standing" (LO K a) [] E AE (AJ CH)) 1) (EK (AJ DB))) (C6 (AJ FR)))))))
theorem Uq:type_of%(@A3 _ _ oG.eq_1):=rfl
def XU(K:FK)(a:Ad)(E:XE):TS:=(AK (n8 K a E E) (AK (oB K a E E) (AK (oC K a E E) (AK (oE K a E E) (AK (oF K a E E) (oG K a E E))))))
def oH:RT:=λK a E E1=>(A5 (CS K (AV (a "Store") "standing" (LO K a) [] E AE (AJ (AV (a "Store") "record_of" (NP K a) [] E AE (AJ AS)))) 1) (AQ 2))
theorem Uv:type_of%(@A3 _ _ oH.eq_1):=rfl
def oI:RT:=λK a E E1=>(A6 (DM (FJ K A7) (AQ 0) C7 (AV (a "Hold") "in_hand" (J2 K a) [] (λ_=>E0) (AX K AS "book") (AJ (AV (a "Layout") "piece_at" (LG K a) [] (λ_=>E0) (AX K AS "plan") (AJ AE)))) 1 [0]))
theorem Uw:type_of%(@A3 _ _ oI.eq_1):=rfl
def XV(K:FK)(a:Ad)(E:XE):TS:=(AK (oH K a E E) (oI K a E E))
def oJ:RT:=λK a E E1=>(A5 (CS K AS 0) (AQ 2))
theorem Ux:type_of%(@A3 _ _ oJ.eq_1):=rfl
def oK:RT:=λK a E E1=>(DH (AV (a "Store") "make" (NR K a) [] E AE (AJ (CS K AS 1))))
theorem Uy:type_of%(@A3 _ _ oK.eq_1):=rfl
def Uz:RT:=λK a E E1=>(DH JT)
def Vb:RT:=λK a E E1=>(DH JT)
def oM:RT:=λK a E E1=>(DH (AV (a "Store") "put" (NS K a) [] E AE (CA (CS K AS 1) (CS K AS 2))))
theorem Vc:type_of%(@A3 _ _ oM.eq_1):=rfl
def Vd:RT:=λK a E E1=>(DH JT)
def Vg:RT:=λK a E E1=>(DH JT)
def Vh:RT:=λK a E E1=>(BQ (BU (AF (CC K) A7 (tC (.str "take")))) (Vd K a E E) (Vg K a E E))
def oN:RT:=λK a E E1=>(BQ (BU (AF (CC K) A7 (tC (.str "put")))) (oM K a E E) (Vh K a E E))
theorem Vj:type_of%(@A3 _ _ oN.eq_1):=rfl
def oO:RT:=λK a E E1=>(BQ (BU (AF (CC K) A7 (tC (.str "cut")))) (Vb K a E E) (oN K a E E))
theorem Vk:type_of%(@A3 _ _ oO.eq_1):=rfl
def oP:RT:=λK a E E1=>(BQ (BU (AF (CC K) A7 (tC (.str "link")))) (Uz K a E E) (oO K a E E))
theorem Vl:type_of%(@A3 _ _ oP.eq_1):=rfl
def oQ:RT:=λK a E E1=>(BQ (BU (AF (CC K) A7 (tC (.str "make")))) (oK K a E E) (oP K a E E))
theorem oR:type_of%(@A3 _ _ oQ.eq_1):=rfl
def XW(K:FK)(a:Ad)(E:XE):TS:=(AK (oJ K a E E) (oQ K a E E))
def oU:RT:=λK a E E1=>(A5 (CS K AS 0) (AQ 2))
theorem Vm:type_of%(@A3 _ _ oU.eq_1):=rfl
def oV:RT:=λK a E E1=>(A6 (C2 (NV K a) [] E (AJ (AV (a "Store") "write" (NU K a) [] E AE (AJ (BO (f9 K) (AJ (CS K AS 1))))))))
theorem Vp:type_of%(@A3 _ _ oV.eq_1):=rfl
def oW:RT:=λK a E E1=>(BQ (BU (AF (CC K) A7 (tC (.str "write")))) (oV K a E E) B8)
theorem XX:type_of%(@A3 _ _ oW.eq_1):=rfl
def Vq:RT:=λK a E E1=>(A6 (C2 (LS K a) [] E (AJ (DM (FJ K JT) (AQ 0) C7 (BO (NB K) (AJ AE)) 1 []))))
def oX:RT:=λK a E E1=>(BQ (BU (AF (CC K) A7 (tC (.str "keep")))) (Vq K a E E) B8)
theorem oY:type_of%(@A3 _ _ oX.eq_1):=rfl
def oZ:RT:=λK a E E1=>(A6 (GE K "str" (PD K) (tC (.str "")) (AJ (AV (a "Store") "texts" (NT K a) [] E AE (AJ (CS K AS 1))))))
theorem Vv:type_of%(@A3 _ _ oZ.eq_1):=rfl
def o0:RT:=λK a E E1=>(BQ (BU (AF (CC K) A7 (tC (.str "show")))) (oZ K a E E) B8)
theorem o3:type_of%(@A3 _ _ o0.eq_1):=rfl
def o6:RT:=λK a E E1=>(A6 (C2 (LS K a) [] E (AJ (AV (a "Store") "names" (NN K a) [] E AE BZ))))
theorem Vw:type_of%(@A3 _ _ o6.eq_1):=rfl
def XY(K:FK)(a:Ad)(E:XE):TS:=(AK (oU K a E E) (AK (oW K a E E) (AK (oX K a E E) (AK (o0 K a E E) (o6 K a E E)))))
def o7:RT:=λK a E E1=>(A5 (C2 (Q3 K a) [] E (AJ AS)) (AQ 2))
theorem Vx:type_of%(@A3 _ _ o7.eq_1):=rfl
def o8:RT:=λK a E E1=>(DH (C2 (LT K a) [] E (CA (AX K AE "store") A7)))
theorem Vy:type_of%(@A3 _ _ o8.eq_1):=rfl
def o9:RT:=λK a E E1=>(A6 (tC (.str "ok")))
theorem Vz:type_of%(@A3 _ _ o9.eq_1):=rfl
def pA:RT:=λK a E E1=>(BQ (BU (AF (M8 K) (CS K A7 0) (tC (.ref (a "DEEDS"))))) (AK (o8 K a E E) (o9 K a E E)) B8)
theorem Wb:type_of%(@A3 _ _ pA.eq_1):=rfl
def Wc:RT:=λK a E E1=>(A6 JT)
def pB:RT:=λK a E E1=>(BQ (BU (AF (CC K) (CS K A7 0) (tC (.str "stop")))) (Wc K a E E) B8)
theorem Wd:type_of%(@A3 _ _ pB.eq_1):=rfl
def pC:RT:=λK a E E1=>(A6 (C2 (LU K a) [] E (CA (AX K AE "store") A7)))
theorem Wg:type_of%(@A3 _ _ pC.eq_1):=rfl
def XZ(K:FK)(a:Ad)(E:XE):TS:=(AK (o7 K a E E) (AK (pA K a E E) (AK (pB K a E E) (pC K a E E))))
def pD:RT:=λK a E E1=>(A5 (OP TJ EB) (AQ 3))
theorem Wh:type_of%(@A3 _ _ pD.eq_1):=rfl
def pE:RT:=λK a E E1=>(A5 (tC (.bl false)) (AQ 4))
theorem Wj:type_of%(@A3 _ _ pE.eq_1):=rfl
def pF:RT:=λK a E E1=>(A5 (tC (.bl false)) (AQ 5))
theorem Wk:type_of%(@A3 _ _ pF.eq_1):=rfl
def pG:RT:=λK a E E1=>(DH (AV (a "House") "say" (EU K a) [] E1 AE (AJ AS)))
theorem Wl:type_of%(@A3 _ _ pG.eq_1):=rfl
def X0:RT:=λK a E E1=>(A5 (AF (BB K) (BO (II K) (AJ (BO (JR K) (CA FR (tC (.ref (a "NoBlock"))))))) (AF (F1 K) J8 (BO (II K) (AJ (BO (JR K) (CA FR (tC (.ref (a "NoRow"))))))))) (AQ 3))
theorem pH:type_of%(@A3 _ _ X0.eq_1):=rfl
def X4:RT:=λK a E E1=>(A5 (BO (JR K) (CA FR (tC (.ty "ValueError")))) (AQ 4))
theorem pJ:type_of%(@A3 _ _ X4.eq_1):=rfl
def X5:RT:=λK a E E1=>(A5 (BO (JR K) (CA FR (EK (BJ (tC (.ref (a "NoChange"))) (BJ (tC (.ref (a "NoName"))) (GO (tC (.ref (a "NoPiece"))) (tC (.ref (a "NoRoom"))) (tC (.ref (a "NotSound"))) (tC (.ref (a "Twice"))))))))) (AQ 5))
theorem pK:type_of%(@A3 _ _ X5.eq_1):=rfl
def pL:RT:=λK a E E1=>(TC (λE1=>(pG K a E E1)) (S9 (λcls=>W.exmOne K cls (.ref (a "HoldError"))) 6 (AK (X0 K a E E) (AK (X4 K a E E) (X5 K a E E))) S8))
theorem Wm:type_of%(@A3 _ _ pL.eq_1):=rfl
def X6:RT:=λK a E E1=>(A6 (JN DB (JN (TQ K FQ) (AF (CC K) CH A7))))
theorem pM:type_of%(@A3 _ _ X6.eq_1):=rfl
def X7(K:FK)(a:Ad)(E:XE):TS:=(AK (pD K a E E) (AK (pE K a E E) (AK (pF K a E E) (AK (pL K a E E) (X6 K a E E)))))
def pN:RT:=λK a E E1=>(A5 (C2 (LM K a) [] E (CA AE GL)) (AQ 1))
theorem Wp:type_of%(@A3 _ _ pN.eq_1):=rfl
def pO:RT:=λK a E E1=>(A5 (GU (a "Layout") (P7 K a) [] E (GO EB EB EB (AF (BB K) EB (AF EX AS J9)))) (AQ 2))
theorem Wq:type_of%(@A3 _ _ pO.eq_1):=rfl
def pP:RT:=λK a E E1=>(A5 (C2 (Q6 K a) [] E (AJ (AF FI AS J9))) (AQ 3))
theorem Wv:type_of%(@A3 _ _ pP.eq_1):=rfl
def pQ:RT:=λK a E E1=>(A5 (GU (a "House") (J7 K a) [] E (AJ A7)) (AQ 4))
theorem Ww:type_of%(@A3 _ _ pQ.eq_1):=rfl
def pR:RT:=λK a E E1=>(A5 (GU (a "House") (J7 K a) [] E (AJ A7)) (AQ 5))
theorem Wx:type_of%(@A3 _ _ pR.eq_1):=rfl
def pS:RT:=λK a E E1=>(A5 (GU (a "House") (J7 K a) [] E (AJ A7)) (AQ 6))
theorem Wy:type_of%(@A3 _ _ pS.eq_1):=rfl
def X8:RT:=λK a E E1=>(DH (AV (a "House") "say" (EU K a) [] E RC (AJ (AF (BB K) (tC (.str "make ")) CH))))
theorem Wz:type_of%(@A3 _ _ X8.eq_1):=rfl
def X9:RT:=λK a E E1=>(DH (AV (a "House") "say" (EU K a) [] E RC (AJ (AF (BB K) (AF (BB K) (tC (.str "put ")) CH) (tC (.str " some text"))))))
theorem Xb:type_of%(@A3 _ _ X9.eq_1):=rfl
def pT:RT:=λK a E E1=>(EI (FJ K (EK (CA DB FQ))) (AQ 7) (AK (X8 K a E E) (X9 K a E E)))
theorem Xc:type_of%(@A3 _ _ pT.eq_1):=rfl
def YA:RT:=λK a E E1=>(A5 (AF EX AS J9) (AQ 8))
theorem Xd:type_of%(@A3 _ _ YA.eq_1):=rfl
def YB:RT:=λK a E E1=>(A5 (C2 (Q7 K a) [] E (CA (AF FI AS J9) CH)) (AQ 9))
theorem Xg:type_of%(@A3 _ _ YB.eq_1):=rfl
def pU:RT:=λK a E E1=>(A5 (C2 (Q8 K a) [] E (AJ (AF FI AS J9))) (AQ 9))
theorem Xh:type_of%(@A3 _ _ pU.eq_1):=rfl
def YC:RT:=λK a E E1=>(BQ (BU (AF (CC K) RD EB)) (pU K a E E) B8)
theorem Xj:type_of%(@A3 _ _ YC.eq_1):=rfl
def pV:RT:=λK a E E1=>(A5 (AF (BB K) (tC (.str "write ")) (BO (NB K) (AJ (AF (BB K) g7 (AF EX (AF FI AS J9) (F5 995)))))) (AQ 9))
theorem Xk:type_of%(@A3 _ _ pV.eq_1):=rfl
def YD:RT:=λK a E E1=>(BQ (BU (AF (CC K) RD J8)) (pV K a E E) B8)
theorem pW:type_of%(@A3 _ _ YD.eq_1):=rfl
def pX:RT:=λK a E E1=>(A5 (C2 (Q9 K a) [] E (AJ (AF FI AS J9))) (AQ 9))
theorem Xl:type_of%(@A3 _ _ pX.eq_1):=rfl
def YE:RT:=λK a E E1=>(BQ (BU (AF (CC K) RD g6)) (pX K a E E) B8)
theorem YF:type_of%(@A3 _ _ YE.eq_1):=rfl
def Xm:RT:=λK a E E1=>(A6 (tC (.bl false)))
def RL:RT:=λK a E E1=>(BQ (F6 (K2 K (C2 (RA K a) [] E (FD DB Jx (AF eA J8 (BO (II K) (AJ (AF (CC K) RD J8)))))))) (Xm K a E E) B8)
theorem Xp:type_of%(@A3 _ _ RL.eq_1):=rfl
def pY:RT:=λK a E E1=>(EI (FJ K AE) (AQ 1) (AK (YA K a E E) (AK (YB K a E E) (AK (YC K a E E) (AK (YD K a E E) (AK (YE K a E E) (RL K a E E)))))))
theorem Xq:type_of%(@A3 _ _ pY.eq_1):=rfl
def Xv:RT:=λK a E E1=>(A6 (tC (.bl false)))
def pZ:RT:=λK a E E1=>(BQ (MD (BU (AF (DE K) (AV (a "House") "say" (EU K a) [] E DB (AJ (tC (.str "names")))) CH)) (BU (AF (DE K) (AV (a "House") "say" (EU K a) [] E DB (AJ (AF (BB K) (tC (.str "show ")) CH))) (tC (.str "some text"))))) (Xv K a E E) B8)
theorem Xw:type_of%(@A3 _ _ pZ.eq_1):=rfl
def Xx:RT:=λK a E E1=>(A6 (tC (.bl false)))
def YG:RT:=λK a E E1=>(BQ (BU (AF (DE K) (AV (a "House") "say" (EU K a) [] E DB (AJ (AF (BB K) (tC (.str "write ")) (BO (NB K) (AJ VE))))) (AV (a "House") "say" (EU K a) [] E FQ (AJ (AF (BB K) (tC (.str "write ")) (BO (NB K) (AJ VE))))))) (Xx K a E E) B8)
theorem Xy:type_of%(@A3 _ _ YG.eq_1):=rfl
def Xz:RT:=λK a E E1=>(A6 (tC (.bl false)))
def YH:RT:=λK a E E1=>(BQ (BU (AF (DE K) (AV (a "Plank") "read" (LD K a) [] E (AV (a "House") "plank" (Q5 K a) [] E FR BZ) (AJ VE)) (DM (F7 (AJ (AV (a "Plank") "cells" (NE K a) [] E (AV (a "Layout") "plank" (NH K a) [] E A7 BZ) BZ))) (AQ 0) C7 (tC .non) 1 []))) (Xz K a E E) B8)
theorem Yb:type_of%(@A3 _ _ YH.eq_1):=rfl
def p0:RT:=λK a E E1=>(EI (F7 (AJ g7)) (AQ 10) (AK (YG K a E E) (YH K a E E)))
theorem Yc:type_of%(@A3 _ _ p0.eq_1):=rfl
def p7:RT:=λK a E E1=>(A6 (AF (CC K) (AV (a "House") "say" (EU K a) [] E FR (AJ (tC (.str "names")))) (tC (.str "-"))))
theorem Yd:type_of%(@A3 _ _ p7.eq_1):=rfl
def YI(K:FK)(a:Ad)(E:XE):TS:=(AK (pN K a E E) (AK (pO K a E E) (AK (pP K a E E) (AK (pQ K a E E) (AK (pR K a E E) (AK (pS K a E E) (AK (pT K a E E) (AK (pY K a E E) (AK (pZ K a E E) (AK (p0 K a E E) (p7 K a E E)))))))))))
end
end L2
namespace L2
local macro_rules
 | `(tactic| push_cast[$ls,*])=>`(tactic| simp only[↓xB,↓xC,↓xD,↓xE,↓xF,↓xG,↓xH,↓xI,↓xJ,↓xK,↓xL,↓xM,↓xN,↓xO,↓xP,↓xQ,↓xR,↓xS,↓xT,↓xU,↓xV,↓xW,↓xX,↓xY,↓xZ,↓x4,↓x5,↓x6,↓x8,↓x9,↓yA,↓yB,↓yC,↓yD,↓yE,↓yF,↓yG,↓yH,↓yI,↓yJ,↓yK,↓yL,↓yM,↓yN,↓yO,↓yP,↓yQ,↓yR,↓yS,↓yT,↓yU,↓yV,↓yW,
     ↓yX,↓yY,↓y3,↓y4,↓zA,↓zB,↓zC,↓zD,↓zE,↓zF,↓eF,↓zJ,↓zL,↓zK,↓zM,↓zN,↓zO,↓zP,↓zQ,↓zH,↓zG,↓zI,↓zR,↓zS,↓zT,↓zU,↓zV,↓zW,↓zX,↓zY,↓zZ,↓z6,↓z7,↓z8,↓z9,↓Ab,↓Ac,↓Ag,↓Ah,↓Aj,↓Ak,↓Al,↓Am,↓eG,↓Ap,
     eA,EX,FI,wR,TJ,wS,Ends.drop,A4,List.map_cons,List.map_nil,List.length_cons,List.length_nil,List.reduceReplicate,Nat.reduceAdd,Nat.reduceSub,Nat.zero_add,List.cons_append,List.nil_append,List.append_nil,List.getElem?_cons_zero,List.getElem?_cons_succ,Option.some.injEq,Option.join_some,List.set_cons_zero,List.set_cons_succ,
     V.int.injEq,V.ref.injEq,V.bl.injEq,V.str.injEq,List.cons.injEq,and_true,true_and,exists_eq_left',exists_eq_left,exists_eq',exists_eq,exists_and_left,exists_and_right,reduceCtorEq,false_and,and_false,or_false,false_or,exists_false,decide_eq_true_eq,Bool.not_eq_true',Bool.not_eq_true,decide_eq_false_iff_not,eq_self_iff_true,if_true,Bool.false_eq_true,if_false,ite_true,Bool.true_eq_false,forall_const,and_assoc,Int.reduceToNat,Int.reduceLT,Int.reduceLE,Int.reduceEq,Nat.reduceLeDiff,Int.toNat_natCast,not_true_eq_false,not_false_eq_true,Bool.not_false,Bool.not_true,↓Ec,↓Ed,↓Eg,↓Eh,↓Ej,↓Ek,↓El,↓Em,↓Ep,↓Eb,↓Dz,↓Dv,↓Dx,↓Bj,↓Ey,↓Ez,↓Fj,↓Fz,↓Fy,↓Fw,↓Gd,↓Gg,↓Gh,↓Gj,↓Fp,↓Bk,↓Bh,↓Gx,↓Gy,↓Gz,↓Gp,$ls,*])
theorem Yg{H:Hp}{t:Addr}{o:HO}(h:H t=none):∃ H',upd H t o=H'/\Same H H'/\H' t=some o:=⟨_,rfl,AT h,AH⟩
section
variable{K:W.Frag}{a:Ad}{vs:List V}{H:Hp}{Q:VK}{E:XK}
theorem Yh(h:LM K a vs H Q E):V7 K a (λ_=>E) (A9 Q) (A4 ["script","k"] vs) H:=by
 obtain⟨s,ns,k,rfl,hs,hl,q⟩:=h
 push_cast[V7,↓Lq,↓Lv,↓Lw]
 refine⟨ns.length,?_,?_⟩
 ·exact .inl ⟨_,hs,(List.length_map _).symm⟩
 split
 ·rename_i hk
  have hk:k<ns.length:=by omega
  refine DF hs rfl (v:=.int (J1 ns k)) ?_ q
  unfold J1
  rw[List.getElem?_map,List.getElem?_eq_getElem hk]
  simp[List.getD,hk]
 ·rename_i hk
  have:J1 ns k=0:=by
   unfold J1
   rw[List.getD_eq_getElem?_getD,List.getElem?_eq_none (by omega)];rfl
  rw[this]at q
  exact q
theorem Yj(h:PN K a vs H Q E):VZ K a (λ_=>E) (A9 Q) (A4 ["self","blocks","cells"] vs) H:=by
 obtain⟨p,dx,m,w,rfl,T,hp,hm,h1,h2,q⟩:=h
 push_cast[VZ,↓Kv,↓Kw,↓Kx]
 refine⟨by omega,by omega,?_⟩
 refine MX (B7 m (by omega)) (λi ys H'=>Same H H'/\∃ ts:List Addr,ys=ts.map V.ref/\Paired (λt r=>H' t=some (.tup r)) ts (List.replicate i (List.replicate w .non))) ⟨Same.refl _,[],rfl,.nil⟩ (λi ys H' hi hl hzz=> ?_) (λys H' hl ⟨s,ts,e,P⟩ cl BX=> ?_)
 ·obtain⟨s,ts,e,P⟩:=hzz
  push_cast[EO,Option.join_some,Int.zero_add]
  refine⟨by decide,λt ht=>.inr ?_⟩
  have fin:∀ (t':Addr) (H2:Hp),Same H' H2->H2 t'=some (.tup (List.replicate w .non))->Same H H2/\∃ ts':List Addr,ys++[V.ref t']=ts'.map V.ref/\Paired (λt r=>H2 t=some (.tup r)) ts' (List.replicate (i+1) (List.replicate w .non)):=λt' H2 s2 e2=>by
   refine⟨s.trans s2,ts++[t'],by rw[e,List.map_append];rfl,?_⟩
   rw[List.replicate_succ']
   exact Paired.snoc (Paired.mapP P λt r z=>s2 _ _ z) e2
  have s1:Same H' (upd H' t (.tup [V.non])):=λb o z=>by rw[AG (BL z ht)];exact z
  refine⟨t,w,[.non],rfl,rfl,SqT.of AH,by simp,by omega,by omega,B7 _ (by simp;omega),λe1=> ?_,λe1 u hu=> ?_⟩
  ·have e1:w=1:=by omega
   refine fin t _ s1 ?_
   rw[AH,e1];rfl
  ·rw[Int.toNat_natCast,eO]
   exact fin u _ (s1.trans λb o z=>by rw[AG (BL z hu)];exact z) AH
 ·have npc:p≠cl:=BL (s _ _ hp) BX
  have e1:upd H' cl (HO.lst ys) p=some (HO.ins (a "Plank") dx []):=by rw[AG npc];exact s _ _ hp
  refine⟨_,_,_,e1,T.cl,T.nC,by decide,_,_,_,AH,T.cl,T.nW,IJ (by decide),_,_,_,AH,T.cl,T.nN,IJ (n:=1000) (Nat.succ_lt_succ (IJ (n:=999) (by decide))),?_⟩
  rw[Hh,GS,GS]
  refine q cl _ (s.free BX) ⟨⟨dx,AH⟩,⟨ts,by rw[AG npc.symm,AH,e],?_⟩,λr hr=> ?_,by simpa using hm,h2⟩ λb o eb hb=> ?_
  ·refine Paired.mapP P λt r z=> ?_
   rw[AG (BK z (s _ _ hp) (by intro z';cases z')),AG (BL z BX)]
   exact z
  ·rw[List.eq_of_mem_replicate hr,List.length_replicate]
  ·rw[AG hb,AG (BL (s _ _ eb) BX)]
   exact s _ _ eb
theorem Yk(h:ND K a vs H Q E):V0 K a (λ_=>E) (A9 Q) (A4 ["self"] vs) H:=by
 obtain⟨p,cl,w,rows,n,rfl,T,P,q⟩:=h
 obtain⟨dx,h1⟩:=P.ob
 obtain⟨ts,h2,h3⟩:=P.ls
 push_cast[V0,↓Ky]
 refine⟨_,_,_,h1,T.cl,T.nC,_,PM _ _ _,rows.length,.inl ⟨_,SqL.of h2,?_⟩,q⟩
 rw[List.length_map,h3.length]
theorem Yl(h:NE K a vs H Q E):V1 K a (λ_=>E) (A9 Q) (A4 ["self"] vs) H:=by
 obtain⟨p,cl,w,rows,n,rfl,T,P,q⟩:=h
 obtain⟨dx,h1⟩:=P.ob
 push_cast[V1,↓Kz]
 exact⟨_,_,_,h1,T.cl,T.nW,_,gF _ _ _,q⟩
theorem Ym(h:JU K a vs H Q E):V2 K a (λ_=>E) (A9 Q) (A4 ["self","block"] vs) H:=by
 obtain⟨p,cl,w,rows,n,b,rfl,T,P,q,qe⟩:=h
 obtain⟨dx,h1⟩:=P.ob
 obtain⟨ts,h2,h3⟩:=P.ls
 push_cast[V2,↓Lc,↓Ld]
 have hl:rows.length=(ts.map V.ref).length:=by rw[List.length_map,h3.length]
 split
 ·rename_i h0
  refine⟨_,_,_,h1,T.cl,T.nC,_,PM _ _ _,rows.length,.inl ⟨_,SqL.of h2,hl⟩,?_⟩
  split
  ·exact⟨by decide,qe (by omega)⟩
  ·exact q h0 (by omega)
 ·exact⟨by decide,qe (by omega)⟩
theorem p8(cl:Addr)(w n:Int):(pf cl w n).lookup ("ask_for_block":Str)=none:=IK _ _ _ (by decide +kernel) (by decide +kernel) (by decide +kernel)
theorem Yp(h:LD K a vs H Q E):WX K a (λ_=>E) (A9 Q) (A4 ["self","block"] vs) H:=by
 obtain⟨p,cl,w,rows,n,b,rfl,T,P,q,qe⟩:=h
 obtain⟨dx,h1⟩:=P.ob
 obtain⟨ts,h2,h3⟩:=P.ls
 push_cast[WX,↓Pq,↓Pw,JU]
 refine⟨_,_,h1,p8 _ _ _,T,cl,w,rows,⟨n,P⟩,λh0 hb=>⟨_,_,_,h1,T.cl,T.nC,_,PM _ _ _,?_⟩,qe⟩
 obtain⟨i,rfl⟩:∃ i:Nat,b=i:=⟨b.toNat,by omega⟩
 have hi:i<rows.length:=by omega
 obtain⟨t,et,ht⟩:=MZ h3 (List.getElem?_eq_getElem hi)
 refine DF (SqL.of h2) rfl (v:=.ref t) (by rw[List.getElem?_map,et];rfl) ?_
 rw[eG]
 exact⟨_,.inr (SqT.of ht),q i _ rfl (List.getElem?_eq_getElem hi)⟩
theorem Yq(h:PP K a vs H Q E):WY K a (λ_=>E) (A9 Q) (A4 ["self","block","values"] vs) H:=by
 obtain⟨p,cl,w,rows,n,b,v,xs,rfl,T,P,hv,hx,q,qe⟩:=h
 obtain⟨dx,h1⟩:=P.ob
 obtain⟨ts,h2,h3⟩:=P.ls
 have npc:=P.ne
 push_cast[WY,↓Px,↓Py,↓Pz,↓Qb,↓Qc,JU]
 refine⟨_,_,h1,p8 _ _ _,T,cl,w,rows,⟨n,P⟩,λh0 hb=>⟨xs.length,.inl ⟨_,hv,rfl⟩,_,_,_,h1,T.cl,T.nW,_,gF _ _ _,?_⟩,λz=>qe (z.imp id .inl)⟩
 obtain⟨i,rfl⟩:∃ i:Nat,b=i:=⟨b.toNat,by omega⟩
 have hi:i<rows.length:=by omega
 push_cast[]
 split
 ·exact⟨by decide,qe (.inr (.inr (by omega)))⟩
 ·rename_i hw
  have hw:xs.length=w:=by omega
  refine⟨xs,.inl ⟨hv,λt ht=> ?_⟩⟩
  have ntp:p≠t:=BL h1 ht
  have ntc:cl≠t:=BL h2 ht
  refine⟨_,_,_,by rw[AG ntp];exact h1,T.cl,T.nC,_,PM _ _ _,?_⟩
  refine⟨cl,ts.map V.ref,(i:Int),i,rfl,rfl,by rw[AG ntc];exact h2,?_,?_⟩
  ·unfold HD
   rw[if_pos (by omega),if_pos (by rw[List.length_map,h3.length];omega),Int.toNat_natCast]
  ·refine⟨_,_,_,by rw[AG npc,AG ntp];exact h1,T.cl,T.nN,_,Hg _ _ _,?_⟩
   push_cast[]
   refine⟨_,_,by rw[AG npc,AG ntp];exact h1,by show 3<1000;decide,?_⟩
   rw[Hj]
   refine q i rfl hi hw _ ⟨⟨dx,AH⟩,⟨ts.set i t,?_,?_⟩,λr hr=> ?_,by rw[List.length_set];exact P.sz,P.sw⟩ λx o ex hxn=> ?_
   ·rw[AG npc.symm,AH,List.map_set]
   ·have keep:∀ u r,H u=some (.tup r)->upd (upd (upd H t (.tup xs)) cl (.lst ((ts.map V.ref).set i (.ref t)))) p (.ins (a "Plank") dx (pf cl w ((n:Int)+1))) u=some (.tup r):=λu r hu=>by
     rw[AG (BK hu h1 (by intro z;cases z)),AG (BK hu h2 (by intro z;cases z)),AG (BL hu ht)]
     exact hu
    refine eL ?_ i (Paired.mapP h3 keep)
    rw[AG ntp.symm,AG ntc.symm,AH]
   ·rcases List.mem_or_eq_of_mem_set hr with z | z
    ·exact P.wd r z
    ·rw[z];exact hw
   ·have hxn:x≠p/\x≠cl:=⟨λz=>hxn (.inl z),λz=>hxn (.inr z)⟩
    rw[AG hxn.1,AG hxn.2,AG (BL ex ht)]
    exact ex
theorem p9(cl:Addr)(w n:Int):(pf cl w n).lookup ("read":Str)=none:=IK _ _ _ (by decide +kernel) (by decide +kernel) (by decide +kernel)
theorem Yv(cl:Addr)(w n:Int):(pf cl w n).lookup ("write":Str)=none:=IK _ _ _ (by decide +kernel) (by decide +kernel) (by decide +kernel)
theorem E4{f:Str}{v:V}{fs:List (Str × V)}{n:Nat}(h:fs.length<n):(AZ f v fs).length<n+1:=Nat.lt_of_le_of_lt (ML f v fs) (Nat.succ_lt_succ h)
theorem SameBut.none{b:Addr}{H H1:Hp}{x:Addr}(s:SameBut (· =b) H H1)(hb:H1 b≠Option.none)(h:H1 x=Option.none):H x=Option.none:=by
 cases e:H x with
 | none=>rfl
 | some o =>
  have:x≠b:=λz=>hb (z ▸ h)
  rw[s _ _ e this]at h
  cases h
theorem Yw(h:QD K a vs H Q E):VF K a (λ_=>E) (A9 Q) (A4 ["self","place","value","needs"] vs) H:=by
 obtain⟨x,dx,pl,v,nt,rfl,T,hx,q⟩:=h
 push_cast[VF,↓Jy,↓Jz,↓Kb]
 refine⟨_,_,_,hx,T.cc,T.nP,by decide,_,_,_,AH,T.cc,T.nV,E4 (n:=999) (by decide),_,_,_,AH,T.cc,T.nN,E4 (n:=999) (E4 (n:=998) (by decide)),?_⟩
 rw[Hq,GS,GS]
 exact q
theorem Yx(h:NJ K a vs H Q E):WE K a (λ_=>E) (A9 Q) (A4 ["self","plank"] vs) H:=by
 obtain⟨b,gp,cl,dx,w,rows,n,rfl,T,TP,P,hb,q⟩:=h
 push_cast[WE,↓Np,↓Nq,↓Nv,↓Nx,↓Ny]
 refine⟨_,_,_,hb,T.cl,T.nG,by decide,by decide,?_⟩
 have e1:upd H b (.ins (ER a) dx (AZ "ground" (.ref gp) [])) b=some (.ins (ER a) dx (AZ "ground" (.ref gp) [])):=AH
 have s1:SameBut (· =b) H (upd H b (.ins (ER a) dx (AZ "ground" (.ref gp) []))):=λx o e n=>by rw[AG n];exact e
 revert e1 s1
 generalize upd H b (.ins (ER a) dx (AZ "ground" (.ref gp) []))=H1
 intro e1 s1 m hm
 have nbm:b≠m:=BL e1 hm
 have hmH:=s1.none (by rw[e1];intro z;cases z) hm
 refine⟨_,_,_,by rw[AG nbm];exact e1,T.cl,T.nM,E4 (n:=999) (by decide),?_⟩
 have s2:SameBut (· =b) H (upd (upd H1 m (.lst [])) b (.ins (ER a) dx (AZ "made" (.ref m) (AZ "ground" (.ref gp) [])))):=(s1.upd (.inr hmH)).upd (.inl rfl)
 have e2:upd (upd H1 m (.lst [])) b (.ins (ER a) dx (AZ "made" (.ref m) (AZ "ground" (.ref gp) []))) b=some (.ins (ER a) dx (AZ "made" (.ref m) (AZ "ground" (.ref gp) []))):=AH
 have m2:upd (upd H1 m (.lst [])) b (.ins (ER a) dx (AZ "made" (.ref m) (AZ "ground" (.ref gp) []))) m=some (.lst []):=by rw[AG nbm.symm,AH]
 revert s2 e2 m2
 generalize upd (upd H1 m (.lst [])) b (.ins (ER a) dx (AZ "made" (.ref m) (AZ "ground" (.ref gp) [])))=H2
 intro s2 e2 m2
 have gb:∀ x xs,(· =b) x->H x≠some (.tup xs):=λx xs e=>by rw[show x=b from e,hb];intro z;cases z
 have ncl:¬ cl=b:=by obtain⟨ts,z,_⟩:=P.ls;exact BK z hb (by intro z;cases z)
 have P2:PlankAt a H2 gp cl w rows n:=by
  obtain⟨⟨dx',f1⟩,⟨ts,f2,f3⟩,r1,r2,r3⟩:=P
  exact⟨⟨dx',s2 _ _ f1 (BK f1 hb (LE (by simp[pf])))⟩,⟨ts,s2 _ _ f2 (BK f2 hb (by intro z;cases z)),Paired.mapP f3 λt r z=>s2 _ _ z (BK z hb (by intro z;cases z))⟩,r1,r2,r3⟩
 obtain⟨dp,hp⟩:=P2.ob
 refine⟨_,_,hp,IK _ _ _ (by decide +kernel) (by decide +kernel) (by decide +kernel),gp,cl,w,rows,n,rfl,TP,P2,rows.length,rfl,by omega,by have:=P.sz;omega,?_⟩
 rw[Int.toNat_natCast]
 refine MX (B7 _ (by have:=P.sz;omega)) (λi ys H'=>Same H2 H'/\∃ ls:List Addr,ys=ls.map V.ref/\ls.Nodup/\∀ l∈ls,H' l=some (.lst [])/\H2 l=none) ⟨Same.refl _,[],rfl,List.nodup_nil,by simp⟩ (λi ys H' hi hl hzz=> ?_) (λys H' hl ⟨s,ls,ey,nd,al⟩ mi GR=> ?_)
 ·obtain⟨s,ls,ey,nd,al⟩:=hzz
  push_cast[]
  refine⟨by decide,λl hl'=>⟨s.trans (AT hl'),ls++[l],by rw[ey,List.map_append];rfl,?_,λx hx=> ?_⟩⟩
  ·exact List.nodup_append.mpr ⟨nd,by simp,λx hx y hy e=>by rw[List.mem_singleton]at hy;subst hy;subst e;rw[(al _ hx).1]at hl';cases hl'⟩
  ·rcases List.mem_append.mp hx with hx | hx
   ·exact⟨AT hl' _ _ (al x hx).1,(al x hx).2⟩
   ·rw[List.mem_singleton.mp hx];exact⟨AH,s.free hl'⟩
 ·have s3:SameBut (· =b) H (upd H' mi (.lst ys)):=by
   intro x o e nx
   have e':=s _ _ (s2 _ _ e nx)
   rw[AG (BL e' GR)];exact e'
  have e3:upd H' mi (.lst ys) b=some (.ins (ER a) dx (AZ "made" (.ref m) (AZ "ground" (.ref gp) []))):=by rw[AG (BL (s _ _ e2) GR)];exact s _ _ e2
  have m3:upd H' mi (.lst ys) m=some (.lst []):=by rw[AG (BL (s _ _ m2) GR)];exact s _ _ m2
  have i3:upd H' mi (.lst ys) mi=some (.lst (ls.map V.ref)):=by rw[AH,ey]
  have l3:∀ l∈ls,upd H' mi (.lst ys) l=some (.lst [])/\H l=none/\l≠mi/\l≠m:=λl hl'=>by
   have z:=al l hl'
   have n1:=BL z.1 GR
   exact⟨by rw[AG n1];exact z.1,s2.none (by rw[e2];intro z;cases z) z.2,n1,λy=>by rw[y,m2]at z;cases z.2⟩
  have hmiH:H mi=none:=s2.none (by rw[e2];intro z;cases z) (s.free GR)
  have nmm:m≠mi:=BL (s _ _ m2) GR
  have BT:ls.length=rows.length:=by rw[<-hl,ey,List.length_map]
  revert s3 e3 m3 i3 l3
  generalize upd H' mi (.lst ys)=H3
  intro s3 e3 m3 i3 l3
  refine⟨_,_,_,e3,T.cl,T.nI,E4 (n:=999) (E4 (n:=998) (by decide)),λlt BD=> ?_⟩
  have nb4:b≠lt:=BL AH BD
  rw[AG nb4.symm]at BD
  have ltH:H lt=none:=s3.none (by rw[e3];intro z;cases z) BD
  refine⟨_,_,_,by rw[AG nb4,AH],T.cl,T.nL,E4 (n:=999) (E4 (n:=998) (E4 (n:=997) (by decide))),λou DS=> ?_⟩
  have nb5:b≠ou:=BL AH DS
  rw[AG nb5.symm]at DS
  have nl5:lt≠ou:=BL AH DS
  rw[AG nl5.symm,AG nb5.symm]at DS
  have ouH:H ou=none:=s3.none (by rw[e3];intro z;cases z) DS
  refine⟨_,_,_,by rw[AG nb5,AH],T.cl,T.nO,E4 (n:=999) (E4 (n:=998) (E4 (n:=997) (E4 (n:=996) (by decide)))),?_⟩
  rw[Hv]
  generalize eH:upd (upd (upd (upd (upd H3 b _) lt (.dT [])) b _) ou (.dK [])) b (.ins (ER a) dx (bf gp m mi lt ou))=H5
  have kp:∀ x,x≠b->x≠lt->x≠ou->H5 x=H3 x:=λx n1 n2 n3=>by rw[<-eH,AG n1,AG n3,AG n1,AG n2,AG n1]
  have kk:∀ x o,H3 x=some o->x≠b->H5 x=some o:=λx o e n1=>by rw[kp x n1 (BL e BD) (BL e DS)];exact e
  have s5:SameBut (· =b) H H5:=λx o e n1=>kk x o (s3 _ _ e n1) n1
  have nbx:∀ x xs,H3 x=some (.lst xs)->x≠b:=λx xs e=>BK e e3 (by intro z;cases z)
  refine q m mi lt ou ls H5 hmH hmiH ltH ouH (λl hl'=>(l3 l hl').2.1) ⟨⟨⟨dx,by rw[<-eH,AH]⟩,⟨[],kk _ _ m3 (nbx _ _ m3),.nil⟩,kk _ _ i3 (nbx _ _ i3),λi l e=> ?_,nd,⟨[],?_,λi j=>rfl,Nat.le_refl _⟩,⟨[],?_,λk=>rfl,List.nodup_nil,by simp⟩,by simp,by simp,by simp,⟨nmm,?_,?_,?_,?_,?_⟩,by simp⟩,?_,BT⟩ s5
  ·have z:=l3 l (List.mem_of_getElem? e)
   exact kk _ _ z.1 (nbx _ _ z.1)
  ·rw[<-eH,AG nb4.symm,AG nl5,AG nb4.symm,AH]
  ·rw[<-eH,AG nb5.symm,AH]
  ·exact λz=>(l3 _ z).2.2.2 rfl
  ·exact λz=>(l3 _ z).2.2.1 rfl
  ·obtain⟨ts,z,_⟩:=P.ls;exact BL z hmH
  ·obtain⟨ts,z,_⟩:=P.ls;exact BL z hmiH
  ·obtain⟨ts,z,_⟩:=P.ls;exact λy=>by rw[(l3 _ y).2.1]at z;cases z
  ·obtain⟨⟨dx',f1⟩,⟨ts,f2,f3⟩,r1,r2,r3⟩:=P
   exact⟨⟨dx',s5 _ _ f1 (BK f1 hb (LE (by simp[pf])))⟩,⟨ts,s5 _ _ f2 (BK f2 hb (by intro z;cases z)),Paired.mapP f3 λt r z=>s5 _ _ z (BK z hb (by intro z;cases z))⟩,r1,r2,r3⟩
theorem Yy(h:QE K a vs H Q E):RE K a (λ_=>E) (A9 Q) (A4 ["needs","ahead"] vs) H:=by
 obtain⟨nl,ns,o,rfl,hs,hl,q⟩:=h
 cases o with
 | none =>
  push_cast[RE,↓iA,↓iC,↓iE,G5]
  refine⟨ns,hs,by omega,λx o D ks hx hD r m l=>⟨_,.inl ⟨SqL.of AH,λt ht=>q t ks _ (((AT hx).trans (AT hD)).trans (AT ht)) AH r (λy=> ?_) (by omega)⟩⟩⟩
  rw[m y];simp
 | some k =>
  push_cast[RE,↓iA,↓iC,↓iE,G5]
  refine⟨_,.inl hs,λl hl'=>⟨by decide,λp hp=>.inl ?_⟩⟩
  have np:l≠p:=BL AH hp
  have s0:Same H (upd (upd H l (.lst (ns.map V.int))) p (.lst [.int k])):=(AT hl').trans (AT hp)
  have e1:upd (upd H l (.lst (ns.map V.int))) p (.lst [.int k]) l=some (.lst (ns.map V.int)):=by rw[AG np,AH]
  have e2:upd (upd H l (.lst (ns.map V.int))) p (.lst [.int k]) p=some (.lst [.int k]):=AH
  revert s0 e1 e2
  generalize upd (upd H l (.lst (ns.map V.int))) p (.lst [.int k])=H1
  intro s0 e1 e2
  refine⟨l,p,_,_,rfl,rfl,e1,e2,B7 _ (by simp;omega),λr hr=>⟨r,rfl,ns++[(k:Int)],?_,by simp;omega,λx o D ks hx hD rs m ll=>⟨_,.inl ⟨SqL.of AH,λt ht=>q t ks _ ((((s0.trans (AT hr)).trans (AT hx)).trans (AT hD)).trans (AT ht)) AH rs (λy=> ?_) (by simpa using ll)⟩⟩⟩⟩
  ·rw[List.map_append];exact SqL.of AH
  ·rw[m y,List.mem_append,List.mem_singleton];simp
theorem Yz(h:QF K a vs H Q E):WF K a (λ_=>E) (A9 Q) (A4 ["self","place"] vs) H:=by
 obtain⟨A,w,rows,n,cs,outs,pl,i,j,rfl,T,TP,B,hp,q,qe⟩:=h
 obtain⟨dx,hb⟩:=B.bk.ob
 obtain⟨dp,hg⟩:=B.pk.ob
 have ng:∀ {m:Str},¬ m="contents"->¬ m="width"->¬ m="written"->(pf A.cl w n).lookup m=none:=λh1 h2 h3=>IK _ _ _ h1 h2 h3
 push_cast[WF,↓Nz,↓Pb]
 refine D3 hp (n:=0) rfl rfl ?_
 push_cast[]
 split
 ·rename_i h0
  refine⟨_,_,_,hb,T.cl,T.nG,_,NF,A.gp,rfl,_,_,hg,ng (by decide +kernel) (by decide +kernel) (by decide +kernel),A.gp,A.cl,w,rows,n,rfl,TP,B.pk,?_⟩
  push_cast[]
  split
  ·exact⟨by decide,qe λz=>by omega⟩
  ·rename_i h1
   refine D3 hp (n:=1) rfl rfl ?_
   push_cast[]
   split
   ·rename_i h2
    refine⟨_,_,_,hb,T.cl,T.nG,_,NF,A.gp,rfl,_,_,hg,ng (by decide +kernel) (by decide +kernel) (by decide +kernel),A.gp,A.cl,w,rows,n,rfl,TP,B.pk,?_⟩
    push_cast[]
    split
    ·exact⟨by decide,qe λz=>by omega⟩
    ·exact q ⟨h0,by omega,h2,by omega⟩
   ·exact⟨by decide,qe λz=>by omega⟩
 ·exact⟨by decide,qe λz=>by omega⟩
theorem Zb(h:NK K a vs H Q E):W5 K a (λ_=>E) (A9 Q) (A4 ["self","place"] vs) H:=by
 obtain⟨A,w,rows,n,cs,outs,pl,i,j,rfl,T,TP,B,hp,q,qe⟩:=h
 obtain⟨dx,hb⟩:=B.bk.ob
 obtain⟨AD,hl,hv,_⟩:=B.bk.lat
 push_cast[W5,↓Qm,↓Qp]
 refine⟨_,_,hb,EG (by decide +kernel),A,w,rows,n,cs,outs,pl,i,j,rfl,T,TP,B,hp,λh=> ?_,qe⟩
 push_cast[]
 refine⟨_,_,_,hb,T.cl,T.nL,_,gI,A.lt,rfl,.inr ⟨_,.inl hl⟩,_,Ev hl hp,?_⟩
 rw[hv]
 have:=q h
 cases e:DW cs i j with
 | none=>rw[e]at this;exact this
 | some k=>rw[e]at this;exact this
theorem BookIn.len{C D:Addr}{A:BA}{w:Nat}{cs:List Ch}{outs:Int->Bool}(B:BookIn C D H A w cs outs):∃ xs,H A.m=some (.lst xs)/\xs.length=cs.length:=by
 obtain⟨chs,e,p⟩:=B.made
 exact⟨_,e,by rw[List.length_map,p.length]⟩
theorem Zc(h:QH K a vs H Q E):VG K a (λ_=>E) (A9 Q) (A4 ["self","numbers","number"] vs) H:=by
 obtain⟨A,w,rows,n,cs,outs,nl,ns,rfl,T,B,hs,q,qe⟩:=h
 obtain⟨dx,hb⟩:=B.bk.ob
 obtain⟨xs,hm,hml⟩:=B.bk.len
 push_cast[VG,↓hU,↓hW,↓hZ]
 refine .inl ⟨⟨_,hs⟩,?_⟩
 refine MY (xs:=ns.map V.int) (λi σ H'=>H'=H/\(∃ z,σ=[some (.ref A.b),some (.ref nl),z])/\∀ x∈ns.take i,known cs x) ⟨rfl,⟨_,rfl⟩,by simp⟩ (λi σ H' _ ⟨e,_⟩=>e ▸ hs) (λi x σ H' hx ⟨e,⟨z,ez⟩,kn⟩=> ?_) (λσ H' ⟨e,⟨z,ez⟩,kn⟩=> ?_)
 ·subst e;subst ez
  rw[List.getElem?_map,Option.map_eq_some_iff]at hx
  obtain⟨x',hx',rfl⟩:=hx
  push_cast[↓hU,↓hW,↓hZ]
  have bad:¬ known cs x'->1<=sizeLine/\E (.ref (a "NoChange")) none H':=λh=>⟨by decide,qe ⟨x',List.mem_of_getElem? hx',h⟩⟩
  split
  ·rename_i h0
   refine⟨_,_,_,hb,T.cl,T.nM,_,JW,cs.length,.inl ⟨_,SqL.of hm,hml.symm⟩,?_⟩
   split
   ·exact bad λz=>by omega
   ·intro y hy
    rw[List.take_add_one,hx']at hy
    rcases List.mem_append.mp hy with hy | hy
    ·exact kn y hy
    ·simp only[Option.toList_some,List.mem_singleton]at hy
     subst hy
     exact⟨h0,by omega⟩
  ·exact bad λz=>by omega
 ·subst e
  refine q λx hx=>kn x ?_
  rw[List.length_map,List.take_length];exact hx
theorem Zd(h:HQ K a vs H Q E):W8 K a (λ_=>E) (A9 Q) (A4 ["self","place","value","needs","ahead","number"] vs) H:=by
 obtain⟨A,w,rows,n,cs,outs,pl,nl,v,ns,i,j,rfl,T,TP,B,hp,hs,hl,hc,q,q1,q2⟩:=h
 obtain⟨dx,hb⟩:=B.bk.ob
 obtain⟨xs,hm,hml⟩:=B.bk.len
 push_cast[W8,↓Qv]
 refine⟨_,_,hb,EG (by decide +kernel),A,w,rows,n,cs,outs,pl,i,j,rfl,T,TP,B,hp,λhon=> ?_,q1⟩
 push_cast[↓Qw]
 refine⟨_,_,hb,EG (by decide +kernel),A,w,rows,n,cs,outs,nl,ns,rfl,T,B,hs,λhkn=> ?_,q2 hon⟩
 push_cast[↓Qx]
 refine⟨_,_,_,hb,T.cl,T.nM,_,JW,cs.length,.inl ⟨_,SqL.of hm,hml.symm⟩,?_⟩
 push_cast[↓Qy]
 refine⟨_,_,_,hb,T.cl,T.nM,_,JW,.inl ⟨rfl,_,SqL.of hm⟩,nl,ns,DW cs i j,rfl,hs,hl,λt ks H1 s1 et kr km kl=> ?_⟩
 push_cast[]
 intro x dy hx hdy ndy
 refine⟨x,dy,pl,v,t,rfl,T,AH,rfl,?_⟩
 rw[GS]
 have s2:Same H1 (upd (upd H1 dy (.own x)) x (.ins (a "Change") dy (EF pl v t))):=(AT hdy).trans (AT (by rw[AG ndy.symm];exact hx))
 have ex:upd (upd H1 dy (.own x)) x (.ins (a "Change") dy (EF pl v t)) x=some (.ins (a "Change") dy (EF pl v t)):=AH
 revert s2 ex
 generalize upd (upd H1 dy (.own x)) x (.ins (a "Change") dy (EF pl v t))=H2
 intro s2 ex
 have s:=s1.trans s2
 have hxH:H x=none:=s1.free hx
 replace et:=s2 _ _ et
 obtain⟨chs,hm',pch⟩:=B.bk.made
 have GR:=B.bk.mil
 obtain⟨AD,BD,hv,hkl⟩:=B.bk.lat
 obtain⟨CP,DS,hvo,hko⟩:=B.bk.out
 obtain⟨i0,i1,j0,j1⟩:=hon
 obtain⟨i',rfl⟩:∃ i':Nat,i=i':=⟨i.toNat,by omega⟩
 obtain⟨j',rfl⟩:∃ j':Nat,j=j':=⟨j.toNat,by omega⟩
 have hil:i'<A.ls.length:=by rw[B.nb];omega
 have el:=List.getElem?_eq_getElem hil
 have hll:=B.bk.mic i' _ el
 have hmem:A.ls[i']∈A.ls:=List.getElem_mem hil
 revert el hll hmem
 generalize A.ls[i']=l
 intro el hll hmem
 have ap:=B.bk.ap
 have nml:A.m≠l:=λz=>ap.2.1 (z ▸ hmem)
 have nil':A.mi≠l:=λz=>ap.2.2.1 (z ▸ hmem)
 have ncl:A.cl≠l:=λz=>ap.2.2.2.2.2 (z ▸ hmem)
 have klt:∀ {y:Addr} {o:HO},H2 y=some o->(∀ k,o≠.dT k)->y≠A.lt:=λe h=>BK e (s _ _ BD) (h _)
 have km':∀ {y:Addr} {o:HO},H2 y=some o->(∀ k,o≠.lst k)->y≠A.m:=λe h=>BK e (s _ _ hm') (h _)
 have kll:∀ {y:Addr} {o:HO},H2 y=some o->(∀ k,o≠.lst k)->y≠l:=λe h=>BK e (s _ _ hll) (h _)
 have hb2:=s _ _ hb
 have JI:=s _ _ hp
 have sz:=B.bk.sz
 have lenc:chs.length=cs.length:=pch.length
 refine⟨A.m,_,_,rfl,rfl,s _ _ hm',Nat.lt_of_lt_of_le (show(chs.map V.ref).length<1000 by rw[List.length_map];omega) (by decide),?_⟩
 push_cast[↓Qz]
 have bb:A.b≠A.m:=km' hb2 (by intro k z;cases z)
 have bl:A.b≠l:=kll hb2 (by intro k z;cases z)
 have bt:A.b≠A.lt:=klt hb2 (by intro k z;cases z)
 have pm:pl≠A.m:=km' JI (by intro k z;cases z)
 have pl':pl≠l:=kll JI (by intro k z;cases z)
 have pt:pl≠A.lt:=klt JI (by intro k z;cases z)
 have lt':l≠A.lt:=klt (s _ _ hll) (by intro k z;cases z)
 have mt:A.m≠A.lt:=klt (s _ _ hm') (by intro k z;cases z)
 have it:A.mi≠A.lt:=klt (s _ _ GR) (by intro k z;cases z)
 refine⟨_,_,_,by rw[AG bb];exact hb2,T.cl,T.nI,_,UX,D3 (by rw[AG pm];exact JI) (n:=0) rfl rfl (DF (SqL.of (by rw[AG ap.1.symm];exact s _ _ GR)) (n:=i') (v:=.ref l) rfl (by rw[List.getElem?_map,el];rfl) ⟨.inl ⟨rfl,_,SqL.of (by rw[AG nml.symm];exact s _ _ hll)⟩,?_⟩)⟩
 have bln:=UW cs i'
 refine⟨l,_,_,rfl,rfl,by rw[AG nml.symm];exact s _ _ hll,Nat.lt_of_lt_of_le (show((CM cs i').map λ(k:Nat)=>V.int k).length<1000 by rw[List.length_map];omega) (by decide),?_⟩
 push_cast[↓Rb,↓Rc]
 refine⟨_,_,_,by rw[AG bl,AG bb];exact hb2,T.cl,T.nL,_,gI,A.lt,rfl,_,Ex (by rw[AG lt'.symm,AG mt.symm];exact s _ _ BD) (by rw[AG pl',AG pm];exact JI) (by omega),?_⟩
 generalize eH:upd (upd (upd H2 A.m _) l _) A.lt (.dT (CL AD [.inl ↑i',.inl ↑j'] (.int ↑cs.length)))=H5
 have kp:∀ y,y≠A.m->y≠l->y≠A.lt->H5 y=H2 y:=λy n1 n2 n3=>by rw[<-eH,AG n3,AG n2,AG n1]
 have s5:SameBut (λy=>y=A.m\/y=l\/y=A.lt) H H5:=λy o e ny=>by
  rw[kp y (λz=>ny (.inl z)) (λz=>ny (.inr (.inl z))) (λz=>ny (.inr (.inr z)))]
  exact s _ _ e
 have lo:∀ y,(y=A.m\/y=l\/y=A.lt)->DX (H y):=by
  rintro y (z | z | z)
  ·exact B.loose (.inl z)
  ·exact B.loose (.inr (.inr (.inl (z ▸ hmem))))
  ·exact B.loose (.inr (.inr (.inr (.inl z))))
 have CJ:∀ y∈ks,0<=y/\y<cs.length:=λy hy=>by
  rcases(km y).mp hy with h | ⟨k,e,rfl⟩
  ·exact hkn y h
  ·exact⟨by omega,by have:=PQ e;omega⟩
 refine q ⟨i0,i1,j0,j1⟩ hkn ks H5 kr km ⟨⟨⟨dx,by rw[kp _ bb bl bt];exact hb2⟩,⟨chs++[x],?_,Paired.snoc (Paired.mapP pch λy c h=>h.sb s5 lo) ⟨dy,pl,t,?_,?_,?_⟩⟩,?_,λk l' e=> ?_,B.bk.nd,⟨CL AD [.inl ↑i',.inl ↑j'] (.int ↑cs.length),?_,λp q=> ?_,?_⟩,⟨CP,?_,hvo,?_⟩,?_,λc hc'=> ?_,λk c e=> ?_,ap,λk c e j ej=> ?_⟩,B.pk.sbL s5 lo ?_,B.nb⟩ (s5.wide λy z=> ?_)
 ·rw[<-eH,AG mt,AG nml,AH,List.map_append];rfl
 ·rw[kp x (km' ex (by intro k z;cases z)) (kll ex (by intro k z;cases z)) (klt ex (by intro k z;cases z))];exact ex
 ·rw[kp pl pm pl' pt];exact JI
 ·rw[kp t (km' et (by intro k z;cases z)) (kll et (by intro k z;cases z)) (klt et (by intro k z;cases z))];exact et
 ·rw[kp _ ap.1.symm nil' it];exact s _ _ GR
 ·rw[Hk]
  by_cases z:l'=l
  ·subst z
   have ek:k=i':=by
    obtain⟨h1,h2⟩:=List.getElem?_eq_some_iff.mp e
    obtain⟨h3,h4⟩:=List.getElem?_eq_some_iff.mp el
    exact(List.getElem_inj B.bk.nd).mp (h2.trans h4.symm)
   subst ek
   rw[<-eH,AG lt',AH]
   simp
  ·have nk:¬ i'=k:=λy=>by subst y;rw[el]at e;cases e;exact z rfl
   have hl':=B.bk.mic k l' e
   rw[kp l' (λy=>ap.2.1 (y ▸ List.mem_of_getElem? e)) z (klt (s _ _ hl') (by intro k z;cases z))]
   simp only[Int.toNat_natCast,if_neg nk]
   exact s _ _ hl'
 ·rw[<-eH,AH]
 ·rw[SS,US]
  by_cases z:p=i'/\q=j'
  ·obtain⟨rfl,rfl⟩:=z
   simp
  ·have z1:¬ ([Sum.inl p,Sum.inl q]:List AO)=[.inl ↑i',.inl ↑j']:=λy=>z (by simpa using y)
   have z2:¬ ((((i':Int).toNat:Nat):Int)=p/\(((j':Int).toNat:Nat):Int)=q):=λy=>z ⟨by omega,by omega⟩
   rw[if_neg z1,if_neg z2]
   exact hv p q
 ·have:=MO AD [.inl ↑i',.inl ↑j'] (.int ↑cs.length)
  simp;omega
 ·rw[kp _ (km' (s _ _ DS) (by intro k z;cases z)) (kll (s _ _ DS) (by intro k z;cases z)) (klt (s _ _ DS) (by intro k z;cases z))];exact s _ _ DS
 ·exact hko.mono (by simp)
 ·simp;omega
 ·rcases List.mem_append.mp hc' with h | h
  ·exact B.bk.inn c h
  ·rw[List.mem_singleton.mp h]
   exact⟨by rw[Int.toNat_natCast];exact hil,(show(j':Int).toNat<w by omega)⟩
 ·rcases Nat.lt_or_ge k cs.length with h | h
  ·rw[List.getElem?_append_left h]at e
   exact B.bk.need k c e
  ·rw[List.getElem?_append_right h]at e
   have:k - cs.length=0:=by
    rcases Nat.eq_zero_or_pos (k - cs.length)with z | z
    ·exact z
    ·rw[List.getElem?_eq_none (by simp;omega)]at e;cases e
   rw[this]at e
   cases e
   exact⟨λy hy=>⟨(CJ y hy).1,by have:=(CJ y hy).2;omega⟩,kr,(show ks.length<=100 by omega)⟩
 ·rcases Nat.lt_or_ge k cs.length with h | h
  ·rw[List.getElem?_append_left h]at e
   rw[List.take_append_of_le_length (by omega)]at ej
   exact B.bk.chn k c e j ej
  ·rw[List.getElem?_append_right h]at e
   have:k - cs.length=0:=by
    rcases Nat.eq_zero_or_pos (k - cs.length)with z | z
    ·exact z
    ·rw[List.getElem?_eq_none (by simp;omega)]at e;cases e
   have hk:k=cs.length:=by omega
   subst hk
   rw[this]at e
   cases e
   rw[List.take_left' rfl]at ej
   exact(km _).mpr (.inr ⟨j,by simpa using ej,rfl⟩)
 ·rintro (z | z | z)
  ·exact ap.2.2.2.1 z
  ·exact ncl z
  ·obtain⟨ts,e,_⟩:=B.pk.ls
   exact klt (s _ _ e) (by intro k z;cases z) z
 ·rcases z with z | z | z
  ·exact .inl z
  ·exact .inr (.inr (.inl (z ▸ hmem)))
  ·exact .inr (.inr (.inr (.inl z)))
theorem BookIn.at{C D:Addr}{A:BA}{w:Nat}{cs:List Ch}{outs:Int->Bool}{H:Hp}(B:BookIn C D H A w cs outs){k:Nat}{c:Ch}(e:cs[k]? =some c):∃ xs x,H A.m=some (.lst xs)/\xs[k]? =some (.ref x)/\ChAt D H x c:=by
 obtain⟨chs,h,p⟩:=B.made
 obtain⟨x,ex,hx⟩:=MZ p e
 exact⟨_,x,h,by rw[List.getElem?_map,ex];rfl,hx⟩
theorem Zg{w n:Nat}{rows:List (List V)}{gp cl:Addr}{H1:Hp}{Q:Addr->Hp->Prop}{E:XK}(T:TB K a)(TP:D7 K a)(P:PlankAt a H1 gp cl w rows n)
  (q:∀ (A:BA) (H2:Hp),A.gp=gp->A.cl=cl->(∀ x o,H1 x=some o->x=cl\/¬ A.F x)->D4 a H2 A w rows n [] (λ_=>false)->Same H1 H2->Q A.b H2) :
  ∀ x dx,H1 x=none->H1 dx=none->dx≠x->NJ K a [.ref x,.ref gp] (upd (upd H1 dx (.own x)) x (.ins (ER a) dx [])) (λv H2=>v=.non/\Q x H2) E:=λb db hb hdb ndb=>by
 have s0:Same H1 (upd (upd H1 db (.own b)) b (.ins (ER a) db [])):=(AT hdb).trans (AT (by rw[AG ndb.symm];exact hb))
 refine⟨b,gp,cl,db,w,rows,n,rfl,T,TP,P.same s0,AH,λm mi lt ou ls H4 hm GR BD DS hls B4 sb4=>⟨rfl,?_⟩⟩
 refine q ⟨b,gp,m,mi,lt,ou,ls,cl⟩ H4 rfl rfl (λx o e=> ?_) B4 λy o e=>sb4 _ _ (s0 _ _ e) (BL e hb)
 by_cases z:x=cl
 ·exact .inl z
 ·refine .inr ?_
  have e':=s0 _ _ e
  rintro (y | y | y | y | y | y)
  ·rw[y]at e';rw[show(BA.mk b gp m mi lt ou ls cl).m=m from rfl,hm]at e';cases e'
  ·rw[y]at e';rw[show(BA.mk b gp m mi lt ou ls cl).mi=mi from rfl,GR]at e';cases e'
  ·rw[hls x y]at e';cases e'
  ·rw[y]at e';rw[show(BA.mk b gp m mi lt ou ls cl).lt=lt from rfl,BD]at e';cases e'
  ·rw[y]at e';rw[show(BA.mk b gp m mi lt ou ls cl).ou=ou from rfl,DS]at e';cases e'
  ·exact z y
theorem Zh(h:J2 K a vs H Q E):W9 K a (λ_=>E) (A9 Q) (A4 ["self","place","number"] vs) H:=by
 obtain⟨A,w,rows,n,cs,outs,pl,i,j,rfl,T,TP,B,hp,q,qe⟩:=h
 obtain⟨dx,hb⟩:=B.bk.ob
 obtain⟨dp,hg⟩:=B.pk.ob
 push_cast[W9,↓Rg,↓Rh,↓Rj,↓Rk]
 refine⟨_,_,hb,EG (by decide +kernel),A,w,rows,n,cs,outs,pl,i,j,rfl,T,TP,B,hp,λh=> ?_,qe⟩
 have q:=q h
 unfold D5 at q
 cases e:DW cs i j with
 | none =>
  rw[e]at q
  push_cast[G5]
  refine⟨_,_,_,hb,T.cl,T.nG,_,NF,A.gp,rfl,_,_,hg,p9 _ _ _,D3 hp (n:=0) rfl rfl ?_⟩
  refine⟨A.gp,A.cl,w,rows,n,i,rfl,TP,B.pk,λb' row eb er vl hvl=> ?_,λz=>absurd h λy=>by omega⟩
  subst eb
  have s1:=AT (o:=.lst row) hvl
  refine D3 (s1 _ _ hp) (n:=1) rfl rfl ?_
  have rl:=B.pk.wd row (List.mem_of_getElem? er)
  have hj:j.toNat<row.length:=by omega
  have ej:=List.getElem?_eq_getElem hj
  refine DF (SqL.of AH) (n:=j.toNat) (v:=row[j.toNat]) (by omega) ej ?_
  refine q _ _ ?_ s1
  rw[show((b':Int)).toNat=b' from by omega,er]
  exact ej
 | some k =>
  rw[e]at q
  push_cast[G5]
  have hk:=PQ e
  have ec:=List.getElem?_eq_getElem hk
  obtain⟨chs,hm,pc⟩:=B.bk.made
  obtain⟨x,ex,dx',p1,n1,h1,h2,h3⟩:=MZ pc ec
  refine⟨_,_,_,hb,T.cl,T.nM,_,JW,DF (SqL.of hm) (n:=k) (v:=.ref x) rfl (by rw[List.getElem?_map,ex];rfl) ⟨x,rfl,_,_,_,h1,T.cc,T.nV,_,gH,q _ _ ?_ (Same.refl _)⟩⟩
  show(cs[k]?).map (·.val)=_
  rw[ec]
  rfl
theorem Zj(h:QI K a vs H Q E):VM K a (λ_=>E) (A9 Q) (A4 ["self","number","gone","need"] vs) H:=by
 obtain⟨A,w,rows,n,cs,outs,k,c,g,kvg,rfl,T,B,ec,hg,q⟩:=h
 obtain⟨dx,hb⟩:=B.bk.ob
 obtain⟨xs,cx,hm,ex,DC⟩:=B.bk.at ec
 obtain⟨dc,pl,nt,hc1,hc2,hc3⟩:=DC
 obtain⟨CP,ho,hv,_⟩:=B.bk.out
 push_cast[VM,↓VH,↓VI,↓VJ,↓VL]
 refine⟨_,_,_,hb,T.cl,T.nM,_,JW,DF (SqL.of hm) rfl ex ⟨cx,rfl,_,_,_,hc1,T.cc,T.nN,_,Hm,nt,rfl,.inr ⟨⟨_,SqT.of hc3⟩,?_⟩⟩⟩
 refine eI (xs:=c.nd.map V.int) (λi σ H'=>H'=H/\(∀ x∈c.nd.take i,(outs x || DP kvg x)=true)/\∃ z,σ=[some (.ref A.b),some (.int k),some (.ref g),z]) ⟨rfl,by simp,_,rfl⟩ (λi σ H' _ ⟨e,_⟩=>e ▸ SqT.of hc3) (λi x σ H' hx hzz=> ?_) (λσ H' hzz=> ?_)
 ·obtain⟨e,al,z,ez⟩:=hzz
  subst e;subst ez
  rw[List.getElem?_map,Option.map_eq_some_iff]at hx
  obtain⟨y,hy,rfl⟩:=hx
  push_cast[↓VH,↓VI,↓VJ,↓VL]
  have step:(outs y || DP kvg y)=true->∀ x∈c.nd.take (i+1),(outs x || DP kvg x)=true:=λh x hx=>by
   rw[List.take_add_one,hy]at hx
   rcases List.mem_append.mp hx with hx | hx
   ·exact al x hx
   ·have:x=y:=by simpa using hx
    exact this ▸ h
  refine⟨_,_,_,hb,T.cl,T.nO,_,PR,A.ou,rfl,_,dI ho,?_⟩
  rw[hv]
  cases h1:outs y with
  | true =>
   push_cast[]
   exact step (by rw[h1];rfl)
  | false =>
   push_cast[]
   refine⟨_,dI hg,?_⟩
   cases h2:(BR kvg (.inl y)).isSome with
   | true =>
    push_cast[]
    exact step (by show(outs y || (BR kvg (.inl y)).isSome)=true;rw[h2];simp)
   | false =>
    push_cast[]
    have e:HK c.nd (λx=>outs x || DP kvg x)=some y:=by
     obtain⟨hi,e⟩:=List.getElem?_eq_some_iff.mp hy
     unfold HK
     rw[List.find?_eq_some_iff_append]
     refine⟨by show(!(outs y || (BR kvg (.inl y)).isSome))=true;rw[h1,h2];rfl,c.nd.take i,c.nd.drop (i+1),?_,λx hx=>by show(!!(outs x || DP kvg x))=true;rw[al x hx];rfl⟩
     rw[<-e,<-List.drop_eq_getElem_cons hi,List.take_append_drop]
    rw[e]at q
    exact q
 ·obtain⟨e,al,z,ez⟩:=hzz
  subst e;subst ez
  rw[List.length_map,List.take_length]at al
  push_cast[↓VH,↓VI,↓VJ,↓VL]
  have e:HK c.nd (λx=>outs x || DP kvg x)=none:=List.find?_eq_none.mpr λx hx=>by show ¬ (!(outs x || DP kvg x))=true;rw[al x hx];exact Bool.false_ne_true
  rw[e]at q
  exact q
def Zk(s:Pass)(m:Nat)(H1 H':Hp)(g ol hl:Addr):Prop:=∃ (kvg:List (AO × V)) (hs:List Addr),SameBut (λy=>y=g\/y=ol\/y=hl) H1 H'/\H' g=some (.dK kvg)/\(∀ x:Int,DP kvg x=s.gone x)/\kvg.length<=m/\H' ol=some (.lst (s.out.map λ(k:Nat)=>V.int k)) ∧
 H' hl=some (.lst (hs.map V.ref))/\Paired (λx (p:Nat × Int)=>H' x=some (.tup [.int p.1,.int p.2])) hs s.held
theorem qA(AD:List (AO × V))(k x:Int)(v:V):DP (CL AD (.inl k) v) x=(DP AD x || x == k):=by
 unfold DP
 rw[SS]
 by_cases e:x=k
 ·subst e;simp
 ·have:¬ (Sum.inl x:AO)=Sum.inl k:=λz=>e (by simpa using z)
  rw[if_neg this];simp[e]
theorem Zl (h:QJ K a vs H Q E):WR K a (λ_=>E) (A9 Q) (A4 ["self","block","taken","gone","out","held","number","lack"] vs) H:=by
  obtain⟨A,w,rows,n,cs,outs,b,tk,kvt,rfl,T,B,hbl,htk,hkt,q⟩:=h
  obtain⟨dx,hb⟩:=B.bk.ob
  push_cast[WR,↓WG,↓WH,↓WI,↓WJ,↓WK,↓WL,↓WM,↓WN,↓WO,↓WP,↓WQ]
  refine⟨_,htk,λg hg=>⟨by decide,λol hol=>⟨by decide,λhl hhl=> ?_⟩⟩⟩
  have s1:Same H (upd (upd (upd H g (.dK kvt)) ol (.lst [])) hl (.lst [])):=((AT hg).trans (AT hol)).trans (AT hhl)
  have ngo:g≠ol:=BL AH hol
  have nol:ol≠hl:=BL AH hhl
  have ngl:g≠hl:=BL (by rw[AG ngo];exact AH) hhl
  have eg:upd (upd (upd H g (.dK kvt)) ol (.lst [])) hl (.lst []) g=some (.dK kvt):=by rw[AG ngl,AG ngo,AH]
  have eo:upd (upd (upd H g (.dK kvt)) ol (.lst [])) hl (.lst []) ol=some (.lst []):=by rw[AG nol,AH]
  have el:upd (upd (upd H g (.dK kvt)) ol (.lst [])) hl (.lst []) hl=some (.lst []):=AH
  have holH:H ol=none:=(AT hg).free hol
  have hhlH:H hl=none:=((AT hg).trans (AT hol)).free hhl
  revert s1 eg eo el
  generalize upd (upd (upd H g (.dK kvt)) ol (.lst [])) hl (.lst [])=H1
  intro s1 eg eo el
  have hil:b<A.ls.length:=by rw[B.nb];exact hbl
  have ell:=List.getElem?_eq_getElem hil
  have hll:=B.bk.mic b _ ell
  revert ell hll
  generalize A.ls[b]=l
  intro ell hll
  refine⟨_,_,_,s1 _ _ hb,T.cl,T.nI,_,UX,DF (SqL.of (s1 _ _ B.bk.mil)) (n:=b) (v:=.ref l) rfl (by rw[List.getElem?_map,ell];rfl) ⟨l,rfl,.inl ⟨⟨_,SqL.of (s1 _ _ hll)⟩,?_⟩⟩⟩
  have bln:=UW cs b
  have sz:=B.bk.sz
  have G:∀ {H':Hp},SameBut (λy=>y=g\/y=ol\/y=hl) H1 H'->Same H H':=λsb y o e=>sb _ _ (s1 _ _ e) (by
    rintro (z | z | z)
    ·rw[z,hg]at e;cases e
    ·rw[z,holH]at e;cases e
    ·rw[z,hhlH]at e;cases e)
  refine MY (xs:=(CM cs b).map λ(k:Nat)=>V.int k) (λi σ H'=>Zk (((CM cs b).take i).foldl (DO cs outs) ⟨[],[],DP kvt⟩) (1000+i) H1 H' g ol hl/\∃ z1 z2,σ=[some (.ref A.b),some (.int b),some (.ref tk),some (.ref g),some (.ref ol),some (.ref hl),z1,z2])
    ⟨⟨kvt,[],SameBut.refl _,eg,λ_=>rfl,by omega,eo,el,.nil⟩,_,_,rfl⟩ (λi σ H' _ ⟨⟨kvg,hs,sb,_⟩,_⟩=>SqL.of (G sb _ _ hll)) (λi x σ H' hx ⟨iv,z1,z2,ez⟩=> ?_) (λσ H' ⟨iv,z1,z2,ez⟩=> ?_)
  · subst ez
    have hi:=(List.getElem?_eq_some_iff.mp hx).1
    rw[List.length_map]at hi
    rw[List.getElem?_map,Option.map_eq_some_iff]at hx
    obtain⟨k,hk,rfl⟩:=hx
    have hkc:=UV (List.mem_of_getElem? hk)
    have ec:=List.getElem?_eq_getElem hkc
    revert ec
    generalize cs[k]=c
    intro ec
    have hszs:=U0 (cs:=cs) (outs:=outs) ((CM cs b).take i) ⟨[],[],DP kvt⟩
    have es:=gL (DO cs outs) (⟨[],[],DP kvt⟩:Pass) hk
    revert iv hszs es
    generalize ((CM cs b).take i).foldl (DO cs outs) ⟨[],[],DP kvt⟩=s
    generalize ((CM cs b).take (i+1)).foldl (DO cs outs) ⟨[],[],DP kvt⟩=s'
    intro iv hszs es
    obtain⟨kvg,hs,sb,e1,e2,e3,e4,e5,e6⟩:=iv
    simp only[List.length_nil,List.length_take]at hszs
    have sH:=G sb
    have B':=B.same sH
    obtain⟨CP,ho,hv,_⟩:=B.bk.out
    push_cast[↓WG,↓WH,↓WI,↓WJ,↓WK,↓WL,↓WM,↓WN,↓WO,↓WP,↓WQ]
    refine⟨_,_,_,sH _ _ hb,T.cl,T.nO,_,PR,A.ou,rfl,_,dI (sH _ _ ho),?_⟩
    rw[hv]
    unfold DO at es
    cases h1:outs k with
    | true =>
      rw[h1,Bool.true_or,if_pos rfl]at es
      push_cast[]
      rw[es]
      exact⟨kvg,hs,sb,e1,e2,by omega,e4,e5,e6⟩
    | false =>
      rw[h1,Bool.false_or]at es
      push_cast[]
      refine⟨_,dI e1,?_⟩
      have e2k:(BR kvg (.inl (k:Int))).isSome=s.gone k:=e2 k
      rw[e2k]
      cases h2:s.gone k with
      | true =>
        rw[h2,if_pos rfl]at es
        push_cast[]
        rw[es]
        exact⟨kvg,hs,sb,e1,e2,by omega,e4,e5,e6⟩
      | false =>
        rw[h2,if_neg Bool.false_ne_true,ec]at es
        push_cast[]
        refine⟨_,_,sH _ _ hb,EG (by decide +kernel),A,w,rows,n,cs,outs,k,c,g,kvg,rfl,T,B',ec,e1,?_⟩
        have efn:(λx=>outs x || DP kvg x)=λx=>outs x || s.gone x:=by funext x;rw[e2]
        rw[efn]
        simp only[Option.bind_some]at es
        cases h3:HK c.nd (λx=>outs x || s.gone x)with
        | none =>
          rw[h3]at es
          dsimp only at es
          dsimp only [U9]
          rw[if_pos rfl]
          refine⟨_,pI e1 (by omega),.inl ⟨rfl,_,SqL.of (by rw[AG ngo.symm];exact e4)⟩,ol,_,_,rfl,rfl,by rw[AG ngo.symm];exact e4,Nat.lt_of_lt_of_le (show(s.out.map λ(k:Nat)=>V.int k).length<1000 by rw[List.length_map];omega) (by decide),?_⟩
          rw[es]
          refine⟨_,hs,?_,by rw[AG ngo,AH],λx=>by rw[qA,e2],?_,by rw[AH,List.map_append];rfl,by rw[AG nol.symm,AG ngl.symm];exact e5,Paired.mapP e6 λx p e=> ?_⟩
          · intro y o e ny
            rw[AG λz=>ny (.inr (.inl z)),AG λz=>ny (.inl z)]
            exact sb _ _ e ny
          · have:=MO kvg (.inl (k:Int)) (.bl true)
            omega
          ·rw[AG (BK e e4 (by intro z;cases z)),AG (BK e e1 (by intro z;cases z))];exact e
        | some l' =>
          rw[h3]at es
          dsimp only at es
          dsimp only [U9]
          rw[if_neg (by intro z;cases z)]
          refine⟨.inl ⟨rfl,_,SqL.of e5⟩,by decide,λtp htp=> ?_⟩
          have ntl:hl≠tp:=BL e5 htp
          refine⟨hl,_,_,rfl,rfl,by rw[AG ntl];exact e5,Nat.lt_of_lt_of_le (show(hs.map V.ref).length<1000 by rw[List.length_map,e6.length];omega) (by decide),?_⟩
          rw[es]
          have s2:=AT (o:=.tup [.int (k:Int),.int l']) htp
          have kp:∀ y,y≠hl->y≠tp->upd (upd H' tp (.tup [.int (k:Int),.int l'])) hl (.lst (hs.map V.ref++[.ref tp])) y=H' y:=λy n1 n2=>by rw[AG n1,AG n2]
          refine⟨kvg,hs++[tp],?_,by rw[kp g ngl (BL e1 htp)];exact e1,e2,by omega,by rw[kp ol nol (BL e4 htp)];exact e4,by rw[AH,List.map_append];rfl,Paired.snoc (Paired.mapP e6 λx p e=> ?_) ?_⟩
          · intro y o e ny
            have e':=sb _ _ e ny
            rw[kp y (λz=>ny (.inr (.inr z))) (BL e' htp)];exact e'
          ·rw[kp x (BK e e5 (by intro z;cases z)) (BL e htp)];exact e
          ·rw[AG ntl.symm,AH]
  · subst ez
    rw[List.length_map,List.take_length]at iv
    push_cast[↓WG,↓WH,↓WI,↓WJ,↓WK,↓WL,↓WM,↓WN,↓WO,↓WP,↓WQ]
    obtain⟨kvg,hs,sb,e1,e2,e3,e4,e5,e6⟩:=iv
    refine⟨by decide,λt ht=> ?_⟩
    have s2:=AT (o:=.tup [.ref ol,.ref hl]) ht
    exact q t ol hl _ holH hhlH nol ((G sb).trans s2) ⟨AH,s2 _ _ e4,hs,s2 _ _ e5,Paired.mapP e6 λx p e=>s2 _ _ e⟩
theorem Zm(h:QK K a vs H Q E):VS K a (λ_=>E) (A9 Q) (A4 ["self","values","block","laid","number"] vs) H:=by
 obtain⟨A,w,rows,n,cs,outs,b,vl,row,rfl,T,B,hbl,hvl,N6,q⟩:=h
 obtain⟨dx,hb⟩:=B.bk.ob
 obtain⟨CP,ho,hv,_⟩:=B.bk.out
 push_cast[VS,↓VN,↓VO,↓VP,↓VQ,↓VR]
 refine⟨_,.inl (SqL.of hvl),λla hla=> ?_⟩
 have s1:=AT (o:=.lst row) hla
 have hil:b<A.ls.length:=by rw[B.nb];exact hbl
 have ell:=List.getElem?_eq_getElem hil
 have hll:=B.bk.mic b _ ell
 revert ell hll
 generalize A.ls[b]=l
 intro ell hll
 refine⟨_,_,_,s1 _ _ hb,T.cl,T.nI,_,UX,DF (SqL.of (s1 _ _ B.bk.mil)) (n:=b) (v:=.ref l) rfl (by rw[List.getElem?_map,ell];rfl) ⟨l,rfl,.inl ⟨⟨_,SqL.of (s1 _ _ hll)⟩,?_⟩⟩⟩
 have sk:∀ o,Same H (upd H la o):=λo=>AT hla
 refine MY (xs:=(CM cs b).map λ(k:Nat)=>V.int k) (λi σ H'=>H'=upd H la (.lst (((CM cs b).take i).foldl (HL cs outs) row))/\∃ z1,σ=[some (.ref A.b),some (.ref vl),some (.int b),some (.ref la),z1])
  ⟨rfl,_,rfl⟩ (λi σ H' _ ⟨e,_⟩=>by rw[e];exact SqL.of (sk _ _ _ hll)) (λi x σ H' hx ⟨e,z1,ez⟩=> ?_) (λσ H' ⟨e,z1,ez⟩=> ?_)
 ·subst e;subst ez
  rw[List.getElem?_map,Option.map_eq_some_iff]at hx
  obtain⟨k,hk,rfl⟩:=hx
  have hkc:=UV (List.mem_of_getElem? hk)
  have ec:=List.getElem?_eq_getElem hkc
  revert ec
  generalize cs[k]=c
  intro ec
  have es:=gL (HL cs outs) row hk
  have BT:=UZ (cs:=cs) (outs:=outs) ((CM cs b).take i) row
  revert es BT
  generalize ((CM cs b).take i).foldl (HL cs outs) row=r
  generalize ((CM cs b).take (i+1)).foldl (HL cs outs) row=r'
  intro es BT
  have sH:=sk (.lst r)
  push_cast[↓VN,↓VO,↓VP,↓VQ,↓VR]
  refine⟨_,_,_,sH _ _ hb,T.cl,T.nO,_,PR,A.ou,rfl,_,dI (sH _ _ ho),?_⟩
  rw[hv]
  unfold HL at es
  cases h1:outs k with
  | false =>
   rw[h1,if_neg Bool.false_ne_true]at es
   push_cast[]
   rw[es]
  | true =>
   rw[h1,if_pos rfl,ec]at es
   dsimp only at es
   push_cast[]
   obtain⟨xs,cx,hm,ex,dc,pl,nt,hc1,hc2,hc3⟩:=(B.same sH).bk.at ec
   have hcell:=(B.bk.inn c (List.mem_of_getElem? ec)).2
   refine⟨_,_,_,sH _ _ hb,T.cl,T.nM,_,JW,DF (SqL.of hm) rfl ex ⟨cx,rfl,_,_,_,hc1,T.cc,T.nV,_,gH,?_⟩⟩
   refine⟨_,_,_,sH _ _ hb,T.cl,T.nM,_,JW,DF (SqL.of hm) rfl ex ⟨cx,rfl,_,_,_,hc1,T.cc,T.nP,_,Hl,D3 hc2 (n:=1) rfl rfl ?_⟩⟩
   refine⟨la,r,(c.cell:Int),c.cell,rfl,rfl,AH,?_,?_⟩
   ·unfold HD
    rw[if_pos (by omega),if_pos (by omega),Int.toNat_natCast]
   ·rw[GS,es]
 ·subst e;subst ez
  rw[List.length_map,List.take_length]
  push_cast[↓VN,↓VO,↓VP,↓VQ,↓VR]
  exact q la _ hla (sk _) AH
theorem Zp(h:QL K a vs H Q E):W6 K a (λ_=>E) (A9 Q) (A4 ["self","block","values","told","number"] vs) H:=by
 obtain⟨A,w,rows,n,cs,outs,b,rfl,T,TP,B,q,qe⟩:=h
 obtain⟨dx,hb⟩:=B.bk.ob
 obtain⟨dp,hg⟩:=B.pk.ob
 push_cast[W6,↓RF,↓RG,↓RH,↓RI,↓RJ,↓RK]
 refine⟨_,_,_,hb,T.cl,T.nG,_,NF,A.gp,rfl,_,_,hg,p9 _ _ _,A.gp,A.cl,w,rows,n,b,rfl,TP,B.pk,λb' row eb er vl hvl=> ?_,qe⟩
 subst eb
 push_cast[]
 have hbl:=(List.getElem?_eq_some_iff.mp er).1
 obtain⟨H1,zz0,s1,ev⟩:=Yg (o:=.lst row) hvl
 rw[zz0]
 refine⟨_,_,s1 _ _ hb,EG (by decide +kernel),λe0 he0=> ?_⟩
 have s2:=s1.trans (AT (o:=.dK []) he0)
 refine⟨A,w,rows,n,cs,outs,b',e0,[],rfl,T,B.same s2,hbl,AH,by simp,λt ol hl H3 hol hhl nol s3 told=> ?_⟩
 have RU:=s2.trans s3
 have ev3:=s3 _ _ (AT he0 _ _ ev)
 have holH:=s2.free hol
 have hhlH:=s2.free hhl
 have hasnil:(DP ([]:List (AO × V)))=λ_=>false:=rfl
 rw[hasnil]at told
 obtain⟨ht,ho3,hs,hh3,hpr⟩:=told
 obtain⟨rise,fresh,_⟩:=Jc (cs:=cs) (outs:=outs) (b:=b')
 have eW:GJ cs outs b'=λx=>outs x || (outcome cs outs (λ_=>false) b').out.any λ(k:Nat)=>x ==(k:Int):=rfl
 replace q:=λH' a1 a2 a3=>q b' row t ol hl H' rfl er holH hhlH nol a1 a2 a3
 revert ho3 hpr rise fresh eW q
 generalize outcome cs outs (λ_=>false) b'=oc
 generalize GJ cs outs b'=ow
 intro ho3 hpr rise fresh eW q
 push_cast[]
 refine D3 ht (n:=0) rfl rfl ⟨ol,rfl,.inl ⟨⟨_,SqL.of ho3⟩,?_⟩⟩
 obtain⟨CP,DS,hvo,hko⟩:=B.bk.out
 have hou3:=RU _ _ DS
 have fO:¬ A.F ol:=B.off holH
 have fL:¬ A.F hl:=B.off hhlH
 have nou:ol≠A.ou:=λz=>fO (.inr (.inr (.inr (.inr (.inl z)))))
 refine MY (xs:=oc.out.map λ(k:Nat)=>V.int k) (λi σ H'=>(∃ kv,H'=upd H3 A.ou (.dK kv)/\(∀ x:Int,(BR kv (.inl x)).isSome=(outs x || (oc.out.take i).any λ(k:Nat)=>x ==(k:Int)))/\KeysOk kv cs.length)/\∃ z1,σ=[some (.ref A.b),some (.int b'),some (.ref vl),some (.ref t),z1])
  ⟨⟨CP,?_,λx=>by rw[hvo];simp,hko⟩,_,rfl⟩ (λi σ H' _ ⟨⟨kv,e,_⟩,_⟩=>by rw[e];exact SqL.of (by rw[AG nou];exact ho3)) (λi x σ H' hx ⟨⟨kv,e,hv,hk⟩,z1,ez⟩=> ?_) (λσ H' ⟨⟨kv,e,hv,hk⟩,z1,ez⟩=> ?_)
 ·funext y
  by_cases e:y=A.ou
  ·subst e;rw[AH];exact hou3
  ·rw[AG e]
 ·subst e;subst ez
  rw[List.getElem?_map,Option.map_eq_some_iff]at hx
  obtain⟨k,ek,rfl⟩:=hx
  have hkm:=List.mem_of_getElem? ek
  have hkc:=UV (fresh k hkm).2
  have hnone:BR kv (.inl (k:Int))=none:=by
   have:=hv k
   rw[(fresh k hkm).1,Bool.false_or]at this
   have z:(oc.out.take i).any (λ(j:Nat)=>(k:Int) ==(j:Int))=false:=by
    rw[List.any_eq_false]
    intro j hj
    obtain⟨m,hm,e⟩:=List.getElem_of_mem hj
    rw[List.length_take]at hm
    rw[List.getElem_take]at e
    obtain⟨hi,e2⟩:=List.getElem?_eq_some_iff.mp ek
    have:=List.pairwise_iff_getElem.mp rise m i (by omega) hi (by omega)
    rw[e,e2]at this
    simp;omega
   rw[z]at this
   exact Option.isSome_eq_false_iff.mp this |> Option.isNone_iff_eq_none.mp
  push_cast[↓RF,↓RG,↓RH,↓RI,↓RJ,↓RK]
  have hb3:upd H3 A.ou (.dK kv) A.b=some (.ins (ER a) dx (bf A.gp A.m A.mi A.lt A.ou)):=by
   rw[AG (BK (RU _ _ hb) hou3 (by intro z;cases z))];exact RU _ _ hb
  refine⟨_,_,_,hb3,T.cl,T.nO,_,PR,A.ou,rfl,_,pI AH (by have:=hk.len;have:=B.bk.sz;omega),_,GS,λx=> ?_,hk.put hkc hnone _⟩
  have:=qA kv k x (.bl true)
  unfold DP at this
  rw[this,hv,List.take_add_one,ek,List.any_append,Bool.or_assoc]
  simp
 ·subst e;subst ez
  rw[List.length_map,List.take_length]at hv
  replace hv:∀ x:Int,(BR kv (.inl x)).isSome=ow x:=λx=>by rw[hv,eW]
  push_cast[↓RF,↓RG,↓RH,↓RI,↓RJ,↓RK]
  have lou:DX (H A.ou):=PY DS
  have kb:∀ {y:Addr} {o:HO},H y=some o->y≠A.ou->upd H3 A.ou (.dK kv) y=some o:=λe n=>by rw[AG n];exact RU _ _ e
  have sb4:SameBut (· =A.ou) H (upd H3 A.ou (.dK kv)):=λy o e n=>kb e n
  have B4:D4 a (upd H3 A.ou (.dK kv)) A w rows n cs ow:=by
   obtain⟨⟨b1,b2,b3,b4,b5,b6,_,b8,b9,b10,b11,b12⟩,pk,nb⟩:=B
   have g:∀ x,x=A.ou->DX (H x):=λx e=>e ▸ lou
   obtain⟨dx',b1⟩:=b1
   obtain⟨chs,b2,b2'⟩:=b2
   obtain⟨AD,b6,b6'⟩:=b6
   obtain⟨ts,pl1,pl2⟩:=pk.ls
   refine⟨⟨⟨dx',kb b1 (BK b1 DS (by intro z;cases z))⟩,⟨chs,kb b2 (BK b2 DS (by intro z;cases z)),Paired.mapP b2' λx c h=>h.sb sb4 g⟩,kb b3 (BK b3 DS (by intro z;cases z)),λi l e=>kb (b4 i l e) (BK (b4 i l e) DS (by intro z;cases z)),b5,⟨AD,kb b6 (BK b6 DS (by intro z;cases z)),b6'⟩,⟨kv,AH,hv,hk⟩,b8,b9,b10,b11,b12⟩,pk.sbL sb4 g (BK pl1 DS (by intro z;cases z)),nb⟩
  have ev4:upd H3 A.ou (.dK kv) vl=some (.lst row):=by rw[AG (BK ev3 hou3 (by intro z;cases z))];exact ev3
  have ht4:upd H3 A.ou (.dK kv) t=some (.tup [.ref ol,.ref hl]):=by rw[AG (BK ht hou3 (by intro z;cases z))];exact ht
  have ho4:upd H3 A.ou (.dK kv) ol=some (.lst (oc.out.map λ(k:Nat)=>V.int k)):=by rw[AG nou];exact ho3
  have hh4:upd H3 A.ou (.dK kv) hl=some (.lst (hs.map V.ref)):=by rw[AG (BK hh3 hou3 (by intro z;cases z))];exact hh3
  have hp4:Paired (λx (p:Nat × Int)=>upd H3 A.ou (.dK kv) x=some (.tup [.int p.1,.int p.2])) hs oc.held:=Paired.mapP hpr λx p e=>by rw[AG (BK e hou3 (by intro z;cases z))];exact e
  revert sb4 B4 ev4 ht4 ho4 hh4 hp4
  generalize upd H3 A.ou (.dK kv)=H4
  intro sb4 B4 ev4 ht4 ho4 hh4 hp4
  obtain⟨dx4,hb4⟩:=B4.bk.ob
  obtain⟨dp4,hg4⟩:=B4.pk.ob
  refine⟨_,_,_,hb4,T.cl,T.nG,_,NF,A.gp,rfl,_,_,hg4,Yv _ _ _,_,_,hb4,EG (by decide +kernel),A,w,rows,n,cs,ow,b',vl,row,rfl,T,B4,hbl,ev4,B.pk.wd row (List.mem_of_getElem? er),λll H5 hll5 s5 ell5=> ?_⟩
  have B5:=B4.same s5
  refine⟨A.gp,A.cl,w,rows,n,b',ll,F3 cs ow b' row,rfl,TP,B5.pk,SqL.of ell5,by rw[gK,B.pk.wd row (List.mem_of_getElem? er)];have:=B.pk.sw;omega,λi ei hi hxw H6 P6 sb6=> ?_,λz=> ?_⟩
  ·have ei:b'=i:=by omega
   subst ei
   push_cast[↓RF,↓RG,↓RH,↓RI,↓RJ,↓RK]
   obtain⟨ts5,pl5,pt5⟩:=B5.pk.ls
   obtain⟨dp5,hg5⟩:=B5.pk.ob
   have ap:=B5.bk.ap
   have nF:∀ {y:Addr} {o:HO},H5 y=some o->(∀ C d f,o≠.ins C d f)->(∀ xs,o≠.lst xs)->¬ (y=A.gp\/y=A.cl):=λe n1 n2=>by
    rintro (z | z)
    ·exact BK e hg5 (n1 _ _ _) z
    ·exact BK e pl5 (n2 _) z
   have gp_b:A.b≠A.gp:=by
    obtain⟨d5,hb5⟩:=B5.bk.ob
    exact BK hb5 hg5 (LE (by simp[bf,pf]))
   have k6:∀ {y:Addr} {o:HO},H5 y=some o->y≠A.gp->y≠A.cl->H6 y=some o:=λe n1 n2=>sb6 _ _ e (by rintro (z | z);exact n1 z;exact n2 z)
   have notins:∀ {y:Addr} {o:HO},H5 y=some o->(∀ C d f,o≠.ins C d f)->y≠A.gp:=λe n=>BK e hg5 (n _ _ _)
   have B6:D4 a H6 A w (rows.set b' (F3 cs ow b' row)) (n+1) cs ow:=by
    obtain⟨⟨b1,b2,b3,b4,b5,b6,b7,b8,b9,b10,b11,b12⟩,pk,nb⟩:=B5
    obtain⟨dx',b1⟩:=b1
    obtain⟨chs,b2,b2'⟩:=b2
    obtain⟨AD,b6,b6'⟩:=b6
    obtain⟨kvo',b7,b7'⟩:=b7
    refine⟨⟨⟨dx',k6 b1 gp_b (BK b1 pl5 (by intro z;cases z))⟩,⟨chs,k6 b2 (notins b2 (by intro _ _ _ z;cases z)) ap.2.2.2.1.symm,Paired.mapP b2' λx c h=> ?_⟩,k6 b3 (notins b3 (by intro _ _ _ z;cases z)) ap.2.2.2.2.1.symm,λi l e=>k6 (b4 i l e) (notins (b4 i l e) (by intro _ _ _ z;cases z)) (λz=>ap.2.2.2.2.2 (z ▸ List.mem_of_getElem? e)),b5,⟨AD,k6 b6 (notins b6 (by intro _ _ _ z;cases z)) (BK b6 pl5 (by intro z;cases z)),b6'⟩,⟨kvo',k6 b7 (notins b7 (by intro _ _ _ z;cases z)) (BK b7 pl5 (by intro z;cases z)),b7'⟩,b8,b9,b10,b11,b12⟩,P6,by rw[nb,List.length_set]⟩
    obtain⟨dc,p1,n1,h1,h2,h3⟩:=h
    exact⟨dc,p1,n1,k6 h1 (BK h1 hg5 (LE (by simp[EF,pf]))) (BK h1 pl5 (by intro z;cases z)),k6 h2 (notins h2 (by intro _ _ _ z;cases z)) (BK h2 pl5 (by intro z;cases z)),k6 h3 (notins h3 (by intro _ _ _ z;cases z)) (BK h3 pl5 (by intro z;cases z))⟩
   have ncO:ol≠A.cl:=λz=>fO (.inr (.inr (.inr (.inr (.inr z)))))
   have ncL:hl≠A.cl:=λz=>fL (.inr (.inr (.inr (.inr (.inr z)))))
   have ht5:=s5 _ _ ht4
   have ho5:=s5 _ _ ho4
   have hh5:=s5 _ _ hh4
   refine q H6 ⟨k6 ht5 (notins ht5 (by intro _ _ _ z;cases z)) (BK ht5 pl5 (by intro z;cases z)),k6 ho5 (notins ho5 (by intro _ _ _ z;cases z)) ncO,hs,k6 hh5 (notins hh5 (by intro _ _ _ z;cases z)) ncL,Paired.mapP hp4 λx p e=> ?_⟩ B6 λy o e ny=> ?_
   ·have e5:=s5 _ _ e
    exact k6 e5 (notins e5 (by intro _ _ _ z;cases z)) (BK e5 pl5 (by intro z;cases z))
   ·exact k6 (s5 _ _ (sb4 _ _ e λz=>ny (.inl (.inr (.inr (.inr (.inr (.inl z)))))))) (λz=>ny (.inr z)) (λz=>ny (.inl (.inr (.inr (.inr (.inr (.inr z)))))))
  ·rcases z with z | z | z
   ·omega
   ·omega
   ·exact absurd (by rw[gK,B.pk.wd row (List.mem_of_getElem? er)]) z
theorem Zq(h:P7 K a vs H Q E):V3 K a (λ_=>E) (A9 Q) (A4 ["self","names","records","pieces","cells"] vs) H:=by
 obtain⟨p,dx,n,r,c,w,rfl,T,hp,b1,b2,b3,b4,b5,q⟩:=h
 push_cast[V3,↓Lg,↓Lh,↓Lj,↓Lk]
 refine⟨_,_,_,hp,T.cl,T.n1,by decide,_,_,_,AH,T.cl,T.n2,IJ (by decide),_,_,_,AH,T.cl,T.n3,IJ (n:=1000) (Nat.succ_lt_succ (IJ (n:=999) (by decide))),_,_,_,AH,T.cl,T.n4,?_,?_⟩
 ·exact IJ (n:=1000) (Nat.succ_lt_succ (IJ (n:=999) (Nat.succ_lt_succ (IJ (n:=998) (by decide)))))
 ·rw[Jh,GS,GS,GS]
  exact q _ ⟨⟨dx,AH⟩,b1,b2,b3,b4,b5⟩ λb o e hb=>by rw[AG hb];exact e
theorem Zv(h:JA K a vs H Q E):V6 K a (λ_=>E) (A9 Q) (A4 ["self","block","k"] vs) H:=by
 obtain⟨p,n,r,c,w,k,b,rfl,T,L,q⟩:=h
 obtain⟨dx,e⟩:=L.ob
 have:=L.h1
 have:=L.hw
 push_cast[V6,↓Lp]
 refine⟨_,_,_,e,T.cl,T.n4,_,LF,?_⟩
 push_cast[]
 refine⟨⟨by omega,by omega⟩,_,_,_,e,T.cl,T.n4,_,LF,?_⟩
 push_cast[]
 exact⟨by omega,by decide,q⟩
theorem Zw(h:JX K a vs H Q E):WZ K a (λ_=>E) (A9 Q) (A4 ["self","k"] vs) H:=by
 obtain⟨p,n,r,c,w,k,rfl,T,L,q⟩:=h
 obtain⟨dx,e⟩:=L.ob
 push_cast[WZ,↓Qd]
 exact⟨_,_,e,C4 (by decide +kernel),p,n,r,c,w,k,0,rfl,T,L,q⟩
theorem Zx(h:JY K a vs H Q E):W0 K a (λ_=>E) (A9 Q) (A4 ["self","k"] vs) H:=by
 obtain⟨p,n,r,c,w,k,rfl,T,L,q⟩:=h
 obtain⟨dx,e⟩:=L.ob
 push_cast[W0,↓Qg]
 exact⟨_,_,e,C4 (by decide +kernel),_,_,_,e,T.cl,T.n1,_,P5,p,n,r,c,w,k,_,rfl,T,L,q⟩
theorem Zy(h:LG K a vs H Q E):W1 K a (λ_=>E) (A9 Q) (A4 ["self","k"] vs) H:=by
 obtain⟨p,n,r,c,w,k,rfl,T,L,q⟩:=h
 obtain⟨dx,e⟩:=L.ob
 push_cast[W1,↓Qh]
 refine⟨_,_,e,C4 (by decide +kernel),_,_,_,e,T.cl,T.n1,_,P5,_,_,_,e,T.cl,T.n2,_,NG,?_⟩
 push_cast[]
 exact⟨p,n,r,c,w,k,_,rfl,T,L,q⟩
theorem Zz(h:LH K a vs H Q E):W2 K a (λ_=>E) (A9 Q) (A4 ["self","k"] vs) H:=by
 obtain⟨p,n,r,c,w,k,rfl,T,L,q⟩:=h
 obtain⟨dx,e⟩:=L.ob
 push_cast[W2,↓Qj]
 exact⟨_,_,e,C4 (by decide +kernel),_,_,e,C4 (by decide +kernel),p,n,r,c,w,rfl,T,L,p,n,r,c,w,k,_,rfl,T,L,q⟩
theorem zaa(h:LI K a vs H Q E):W3 K a (λ_=>E) (A9 Q) (A4 ["self","k"] vs) H:=by
 obtain⟨p,n,r,c,w,k,rfl,T,L,q⟩:=h
 obtain⟨dx,e⟩:=L.ob
 push_cast[W3,↓Qk]
 refine⟨_,_,e,C4 (by decide +kernel),_,_,e,C4 (by decide +kernel),p,n,r,c,w,rfl,T,L,_,_,_,e,T.cl,T.n2,_,NG,?_⟩
 push_cast[]
 exact⟨p,n,r,c,w,k,_,rfl,T,L,q⟩
theorem zab(h:LJ K a vs H Q E):V5 K a (λ_=>E) (A9 Q) (A4 ["self"] vs) H:=by
 obtain⟨p,n,r,c,w,rfl,T,L,q⟩:=h
 obtain⟨dx,e⟩:=L.ob
 push_cast[V5,↓Lm]
 refine⟨_,_,_,e,T.cl,T.n1,_,P5,_,_,_,e,T.cl,T.n2,_,NG,?_⟩
 push_cast[]
 refine⟨_,_,_,e,T.cl,T.n3,_,U2,?_⟩
 push_cast[]
 exact q
theorem zac(h:P8 K a vs H Q E):W4 K a (λ_=>E) (A9 Q) (A4 ["self"] vs) H:=by
 obtain⟨p,n,r,c,w,rfl,T,L,q⟩:=h
 obtain⟨dx,e⟩:=L.ob
 push_cast[W4,↓Ql]
 refine⟨_,_,e,C4 (by decide +kernel),p,n,r,c,w,rfl,T,L,_,_,_,e,T.cl,T.n2,_,NG,?_⟩
 push_cast[]
 refine⟨_,_,_,e,T.cl,T.n3,_,U2,?_⟩
 push_cast[]
 exact q
theorem zad(h:JZ K a vs H Q E):V4 K a (λ_=>E) (A9 Q) (A4 ["self"] vs) H:=by
 obtain⟨p,n,r,c,w,rfl,T,L,q⟩:=h
 obtain⟨dx,e⟩:=L.ob
 obtain⟨_,b1,b2,b3,b4,b5⟩:=L
 push_cast[V4,↓Ll]
 refine⟨_,_,_,e,T.cl,T.n1,_,P5,_,_,_,e,T.cl,T.n4,_,LF,?_⟩
 push_cast[]
 refine⟨.inl ⟨by omega,by omega⟩,_,_,_,e,T.cl,T.n2,_,NG,_,_,_,e,T.cl,T.n4,_,LF,?_⟩
 push_cast[]
 refine⟨.inl ⟨by omega,by omega⟩,_,_,_,e,T.cl,T.n3,_,U2,_,_,_,e,T.cl,T.n4,_,LF,?_⟩
 push_cast[]
 exact⟨.inl ⟨by omega,by omega⟩,by decide,q⟩
theorem zae(h:NH K a vs H Q E):W7 K a (λ_=>E) (A9 Q) (A4 ["self"] vs) H:=by
 obtain⟨p,n,r,c,w,rfl,T,TP,L,q⟩:=h
 obtain⟨dx,e⟩:=L.ob
 have LL:=L
 obtain⟨_,b1,b2,b3,b4,b5⟩:=L
 push_cast[W7,↓Qq]
 refine⟨_,_,e,C4 (by decide +kernel),p,n,r,c,w,rfl,T,LL,_,_,_,e,T.cl,T.n4,_,LF,λx dx' hx hdx hne=> ?_⟩
 have s3:Same H (upd (upd H dx' (.own x)) x (.ins (a "Plank") dx' [])):=(AT hdx).trans (AT (by rw[AG hne.symm];exact hx))
 refine⟨x,dx',n+r+c+r+c,w,by simp,TP,AH,by omega,b4,by omega,λcl H2 BX P2 s4=>⟨rfl,q x cl H2 hx (s3.free BX) P2 λb o eb=>s4 _ _ (s3 _ _ eb) (BL eb hx)⟩⟩
theorem LV{f:Nat->Bool}{m i:Nat}(hi:i<m)(h:f i=true)(hl:∀ j<i,f j=false):ES f m=i:=by
 unfold ES
 have:(List.range m).find? f=some i:=by
  rw[List.find?_eq_some_iff_append]
  refine⟨h,List.range i,(List.range (m - i - 1)).map (i+1+·),?_,λj hj=>by rw[hl j (List.mem_range.mp hj)];rfl⟩
  have e1:m=i+(1+(m - i - 1)):=by omega
  conv=>lhs;rw[e1]
  rw[List.range_add,List.range_add]
  simp[Nat.add_assoc,Function.comp_def]
 rw[this]
theorem zaf{f:Nat->Bool}{m:Nat}(hl:∀ j<m,f j=false):ES f m= -1:=by
 unfold ES
 have:(List.range m).find? f=none:=List.find?_eq_none.mpr λj hj=>by rw[hl j (List.mem_range.mp hj)];exact Bool.false_ne_true
 rw[this]
theorem zag{n:Nat}{H:Hp}{v:V}{xs:List V}(hx:∀ z∈xs,QM z)(hv:GoodV n H v)(hf:GD v=true):JP v xs=decide (v∈xs):=by
 rw[Bool.eq_iff_iff,decide_eq_true_iff]
 unfold JP
 rw[List.any_eq_true]
 have key:∀ z,QM z->(HE z v=true↔z=v):=λz hz=>by
  rcases hz with rfl | ⟨i,rfl⟩<;>(cases v<;>first | (simp[HE];done) | (cases n<;>exact hv.elim) | (simp[GD]at hf))
 constructor
 ·rintro ⟨z,hz,e⟩
  rw[<-(key z (hx z hz)).mp e];exact hz
 ·intro h
  exact⟨v,h,(key v (hx v h)).mpr rfl⟩
def FS(H H':Hp):Prop:=∀ b xs,H b=some (.tup xs)->H' b=some (.tup xs)
theorem GoodV.keep{H H':Hp}(k:FS H H'):∀ {n:Nat} {v:V},GoodV n H v->GoodV n H' v
 | 0,_,h=>h
 | _+1,.int _,_=>trivial
 | _+1,.non,_=>trivial
 | _+1,.str _,h=>h
 | n+1,.ref p,⟨xs,h1,h2,h3⟩=>⟨xs,k _ _ h1,h2,λv hv=>(h3 v hv).keep k⟩
theorem Same.tk{H H':Hp}(s:Same H H'):FS H H':=λb xs e=>s _ _ e
theorem zah{v:V}{vl:Addr}{xs:List V}(hg:GoodV 4 H v)(hv:H vl=some (.tup xs))(hx:∀ z∈xs,QM z)(q:Q (.bl (decide (v∈xs))) H):PF K v (.ref vl) H Q:=by
 have fx:xs.all GD=true:=List.all_eq_true.mpr λz hz=>by rcases hx z hz with rfl | ⟨i,rfl⟩<;>rfl
 have flat:GD v=true->PF K v (.ref vl) H Q:=λhf=>.inl ⟨vl,xs,rfl,.inr (SqT.of hv),hf,fx,by
  show Q (.bl (JP v xs)) H
  rw[zag hx hg hf];exact q⟩
 cases v with
 | ref t =>
  obtain⟨ys,e,_⟩:=hg
  have:decide ((V.ref t)∈xs)=false:=decide_eq_false λhm=>by rcases hx _ hm with z | ⟨i,z⟩<;>cases z
  rw[this]at q
  exact .inr ⟨t,ys,vl,xs,rfl,SqT.of e,rfl,SqT.of hv,hx,q⟩
 | int i=>exact flat rfl
 | non=>exact flat rfl
 | str z=>exact flat rfl
 | _=>exact hg.elim
theorem zai(h:J3 K a vs H Q E):XC K a (λ_=>E) (A9 Q) (A4 ["hold","places","values","k","place"] vs) H:=by
 obtain⟨A,w,rows,n,cs,outs,pl,vl,ts,xs,f,m,rfl,T,TP,B,hp,hm,hm2,hv,hx,hf,q,qe⟩:=h
 obtain⟨dx,ho⟩:=B.bk.ob
 push_cast[XC,↓Rx]
 refine⟨⟨_,SqL.of hp⟩,fU (xs:=ts.map V.ref) (λi σ H'=>(Same H H'/\∀ j<i,f j=false)/\∃ x y,σ=[some (.ref A.b),some (.ref pl),some (.ref vl),x,y]) ⟨⟨Same.refl _,λj hj=>absurd hj (Nat.not_lt_zero _)⟩,_,_,rfl⟩ (λi σ H' _ ⟨⟨s,_⟩,_⟩=>SqL.of (s _ _ hp)) (λi x σ H' t hx' ⟨⟨s,lo⟩,x0,y0,ez⟩ ht=> ?_) (λσ H' ⟨⟨s,lo⟩,x0,y0,ez⟩=> ?_)⟩
 ·subst ez
  rw[List.getElem?_map]at hx'
  cases et:ts[i]? with
  | none=>rw[et]at hx';cases hx'
  | some tt =>
   rw[et]at hx'
   cases hx'
   obtain⟨bi,bj,v,e1,on,ev,gv,ef⟩:=hf i tt et
   have s2:=s.trans (AT (o:=.tup [.int (i:Int),.ref tt]) ht)
   push_cast[]
   refine⟨_,SqT.of AH,rfl,_,_,rfl,_,_,rfl,rfl,?_⟩
   revert s2
   generalize upd H' t (.tup [.int (i:Int),.ref tt])=H2
   intro s2
   push_cast[↓Rw,↓Rv]
   refine⟨_,_,s2 _ _ ho,EG (by decide +kernel),A,w,rows,n,cs,outs,tt,bi,bj,rfl,T,TP,B.same s2,s2 _ _ e1,λ_ v' H3 ev' s3=> ?_,λz=>absurd on z⟩
   rw[ev]at ev'
   cases ev'
   have s4:=s2.trans s3
   refine zah (gv.keep s4.tk) (s4 _ _ hv) hx ?_
   rw[<-ef]
   push_cast[]
   cases hfi:f i with
   | true=>exact q i (LV (by have:=(List.getElem?_eq_some_iff.mp et).1;omega) hfi lo) _ s4
   | false=>exact⟨s4,λj hj=>by
     rcases Nat.lt_or_ge j i with z | z
     ·exact lo j z
     ·rw[show j=i by omega];exact hfi⟩
 ·subst ez
  push_cast[↓Ry]
  rw[List.length_map,hm]at lo
  exact⟨by decide,qe (zaf lo) _ s⟩
theorem YJ{m w:Nat}{B:Nat->Int}{te:TE}{cap:List Nat}{σ:St}{H:Hp}{Q:VK}(hm:m<=1000)(ht:∀ i H' Q',i<m->Same H H'->GK (B i) (i % w:Nat) Q' H'->te (some (.int (0+(i:Int)))::EO cap σ) H' Q')
  (q:∀ (ts:List Addr) (H':Hp) (l:Addr),ts.length=m->Same H H'->(∀ k t,ts[k]? =some t->H' t=some (.tup [.int (B k),.int (k % w:Nat)]))->H' l=some (.lst (ts.map V.ref))->Q (.ref l) H'):FA (E7 0 m) (AQ 0) C7 te 1 cap σ H Q:=by
 refine MX (B7 m (by omega)) (λi ys H'=>Same H H'/\∃ ts:List Addr,ys=ts.map V.ref/\ts.length=i/\∀ k t,ts[k]? =some t->H' t=some (.tup [.int (B k),.int (k % w:Nat)])) ⟨Same.refl _,[],rfl,rfl,λk t h=>by simp at h⟩ (λi ys H' hi hl hzz=> ?_) λys H' hl ⟨s,ts,e,el,h⟩ l hl'=> ?_
 ·obtain⟨s,ts,e,el,h⟩:=hzz
  refine ht i H' _ hi s λt htn=> ?_
  have st:=AT (o:=.tup [.int (B i),.int (i % w:Nat)]) htn
  refine⟨s.trans st,ts++[t],by rw[e,List.map_append];rfl,by simp[el],λk t' hk=> ?_⟩
  rcases Nat.lt_or_ge k ts.length with z | z
  ·rw[List.getElem?_append_left z]at hk
   exact st _ _ (h k t' hk)
  ·rw[List.getElem?_append_right z]at hk
   have hk0:k - ts.length=0:=by
    rcases Nat.eq_zero_or_pos (k - ts.length)with z | z
    ·exact z
    ·rw[List.getElem?_eq_none (by simp;omega)]at hk;cases hk
   rw[hk0]at hk
   cases hk
   have:k=i:=by omega
   subst this
   exact AH
 ·subst e
  have st:=AT (o:=.lst (ts.map V.ref)) hl'
  exact q ts _ l (by simpa using hl) (s.trans st) (λk t hk=>st _ _ (h k t hk)) AH
theorem qB{rows:List (List V)}{w i j:Nat}(hw:∀ r∈rows,r.length=w)(hi:i<rows.length)(hj:j<w)(cs:List Ch):∃ v,D5 cs rows i j=some v:=by
 unfold D5
 cases e:DW cs i j with
 | some k =>
  have:=PQ e
  exact⟨_,by show(cs[k]?).map _=_;rw[List.getElem?_eq_getElem this];rfl⟩
 | none =>
  have er:=List.getElem?_eq_getElem hi
  have hl:=hw _ (List.mem_of_getElem? er)
  exact⟨rows[i][j],by show(rows[(i:Int).toNat]?).bind (λr=>r[(j:Int).toNat]?)=_;rw[Int.toNat_natCast,Int.toNat_natCast,er];exact List.getElem?_eq_getElem (by omega)⟩
theorem zaj{n r c w kind k:Nat}(hk:kind<3)(h:k<BF n r c w kind):BN n r c w kind k<n+r+c+r+c:=by
 unfold BF at h
 unfold BN
 have hd:k / w<(if kind=0 then n else if kind=1 then r else if kind=2 then c else if kind=3 then r else c):=Nat.div_lt_of_lt_mul (by rw[Nat.mul_comm];exact h)
 rcases(by omega:kind=0\/kind=1\/kind=2)with z | z | z<;>subst z<;>simp at hd ⊢ <;>omega
theorem qC{n r c w kind k:Nat}(h:k<BF n r c w kind):1<=w:=by
 unfold BF at h
 rcases Nat.eq_zero_or_pos w with z | z
 ·rw[z,Nat.mul_zero]at h;omega
 ·exact z
theorem RM{n r c w kind:Nat}(h1:n<=6)(h2:r<=6)(h3:c<=6)(h4:w<=6):BF n r c w kind<=36:=by
 unfold BF
 have h:(if kind=0 then n else if kind=1 then r else if kind=2 then c else if kind=3 then r else c)<=6:=by
  split<;>(try split)<;>(try split)<;>(try split)<;>omega
 exact Nat.mul_le_mul h h4
def LW(kind:Nat):List V:=if kind=0 then [.non]else [.non,.int 0]
theorem zak(kind:Nat)(v:V):decide (v∈LW kind)=IM kind v:=by
 unfold LW IM
 by_cases h:kind=0
 ·subst h;simp
 ·rw[if_neg h];simp[Nat.pos_of_ne_zero h]
theorem YK{kind:Nat}{A:BA}{n r c w:Nat}{rows:List (List V)}{nn:Nat}{cs:List Ch}{outs:Int->Bool}{ts:List Addr}{l:Addr}{H':Hp}(hk:kind<3)(T:TB K a)(TP:D7 K a)(s:Same H H')(B:D4 a H A w rows nn cs outs)(hM:rows.length=n+r+c+r+c)(h1:n<=6)(h2:r<=6)(h3:c<=6)(h4:w<=6)
  (gh:∀ i j v,D5 cs rows i j=some v->GoodV 4 H v) (hts:ts.length=BF n r c w kind) (ht:∀ k t,ts[k]? =some t->H' t=some (.tup [.int (BN n r c w kind k:Nat),.int (k % w:Nat)])) (el:H' l=some (.lst (ts.map V.ref)))
  (q:∀ k:Nat,ES (JC cs rows n r c w kind) (BF n r c w kind)=k->∀ H',Same H H'->Q (.int k) H') (qe:ES (JC cs rows n r c w kind) (BF n r c w kind)= -1->∀ H',Same H H'->E (.ref (a "NoRoom")) none H') :
  ∀ u,H' u=none->J3 K a [.ref A.b,.ref l,.ref u] (upd H' u (.tup (LW kind))) Q E:=λu hu=>by
 have su:=AT (o:=.tup (LW kind)) hu
 have s2:=s.trans su
 refine⟨A,w,rows,nn,cs,outs,l,u,ts,LW kind,JC cs rows n r c w kind,BF n r c w kind,rfl,T,TP,B.same s2,su _ _ el,hts,by have:=RM (kind:=kind) h1 h2 h3 h4;omega,AH,λz hz=> ?_,λk t hkt=> ?_,λk hk' H3 s3=>q k hk' H3 (s2.trans s3),λhk' H3 s3=>qe hk' H3 (s2.trans s3)⟩
 ·unfold LW at hz
  split at hz<;>simp at hz
  ·exact .inl hz
  ·rcases hz with z | z
   ·exact .inl z
   ·exact .inr ⟨0,z⟩
 ·have BD:k<BF n r c w kind:=by have:=(List.getElem?_eq_some_iff.mp hkt).1;omega
  have hb:=zaj hk BD
  have hw:=qC BD
  have hj:k % w<w:=Nat.mod_lt _ (by omega)
  obtain⟨v,ev⟩:=qB (λr' hr'=>B.pk.wd r' hr') (show BN n r c w kind k<rows.length by omega) hj cs
  refine⟨_,_,v,su _ _ (ht k t hkt),⟨by omega,by omega,by omega,by omega⟩,ev,(gh _ _ _ ev).keep s2.tk,?_⟩
  unfold JC
  rw[ev,zak]
theorem zal(h:QQ K a vs H Q E):XI K a (λ_=>E) (A9 Q) (A4 ["layout","hold","places"] vs) H:=by
 obtain⟨p,b,rfl,A,n,r,c,w,rows,nn,cs,outs,rfl,T,TP,TL,L,h1,h2,h3,h4,B,hM,gh,q,qe⟩:=h
 obtain⟨dx,e⟩:=L.ob
 push_cast[XI,↓Sk,↓Sl]
 refine⟨_,_,e,C4 (by decide +kernel),p,n,r,c,w,rfl,TL,L,λt ht=> ?_⟩
 have s1:=AT (o:=.tup [V.int ((n:Int) * w),V.int ((r:Int) * w),V.int ((c:Int) * w)]) ht
 refine D3 AH (n:=0) rfl rfl ?_
 revert s1
 generalize upd H t (.tup [V.int ((n:Int) * w),V.int ((r:Int) * w),V.int ((c:Int) * w)])=H1
 intro s1
 have hk:=RM (kind:=0) h1 h2 h3 h4
 have em:(n:Int) * w=(BF n r c w 0:Nat):=by unfold BF;simp
 rw[em]
 push_cast[]
 refine⟨by omega,by omega,YJ (B:=λk=>(BN n r c w 0 k:Nat)) (w:=w) (by omega) (λi H' Q' hi s' q'=> ?_) λts H' l hts s' htt el=> ?_⟩
 ·push_cast[EO]
  refine⟨_,_,s' _ _ (s1 _ _ e),C4 (by decide +kernel),p,n,r,c,w,i,(by simp),TL,(L.same s1).same s',?_⟩
  unfold BN at q'
  simpa using q'
 ·push_cast[]
  exact⟨by decide,YK (kind:=0) (by decide) T TP (s1.trans s') B hM h1 h2 h3 h4 gh hts htt el q qe⟩
theorem zam(h:QR K a vs H Q E):XJ K a (λ_=>E) (A9 Q) (A4 ["layout","hold","marks"] vs) H:=by
 obtain⟨p,b,rfl,A,n,r,c,w,rows,nn,cs,outs,rfl,T,TP,TL,L,h1,h2,h3,h4,B,hM,gh,q,qe⟩:=h
 obtain⟨dx,e⟩:=L.ob
 push_cast[XJ,↓Sm,↓Sq]
 refine⟨_,_,e,C4 (by decide +kernel),p,n,r,c,w,rfl,TL,L,λt ht=> ?_⟩
 have s1:=AT (o:=.tup [V.int ((n:Int) * w),V.int ((r:Int) * w),V.int ((c:Int) * w)]) ht
 refine D3 AH (n:=1) rfl rfl ?_
 revert s1
 generalize upd H t (.tup [V.int ((n:Int) * w),V.int ((r:Int) * w),V.int ((c:Int) * w)])=H1
 intro s1
 have hk:=RM (kind:=1) h1 h2 h3 h4
 have em:(r:Int) * w=(BF n r c w 1:Nat):=by unfold BF;simp
 rw[em]
 push_cast[]
 refine⟨by omega,by omega,YJ (B:=λk=>(BN n r c w 1 k:Nat)) (w:=w) (by omega) (λi H' Q' hi s' q'=> ?_) λts H' l hts s' htt el=> ?_⟩
 ·push_cast[EO]
  refine⟨_,_,s' _ _ (s1 _ _ e),C4 (by decide +kernel),p,n,r,c,w,i,(by simp),TL,(L.same s1).same s',?_⟩
  unfold BN at q'
  simpa using q'
 ·push_cast[]
  exact⟨by decide,YK (kind:=1) (by decide) T TP (s1.trans s') B hM h1 h2 h3 h4 gh hts htt el q qe⟩
theorem zan(h:QS K a vs H Q E):XL K a (λ_=>E) (A9 Q) (A4 ["layout","hold","marks"] vs) H:=by
 obtain⟨p,b,rfl,A,n,r,c,w,rows,nn,cs,outs,rfl,T,TP,TL,L,h1,h2,h3,h4,B,hM,gh,q,qe⟩:=h
 obtain⟨dx,e⟩:=L.ob
 push_cast[XL,↓Sv,↓Sw]
 refine⟨_,_,e,C4 (by decide +kernel),p,n,r,c,w,rfl,TL,L,λt ht=> ?_⟩
 have s1:=AT (o:=.tup [V.int ((n:Int) * w),V.int ((r:Int) * w),V.int ((c:Int) * w)]) ht
 refine D3 AH (n:=2) rfl rfl ?_
 revert s1
 generalize upd H t (.tup [V.int ((n:Int) * w),V.int ((r:Int) * w),V.int ((c:Int) * w)])=H1
 intro s1
 have hk:=RM (kind:=2) h1 h2 h3 h4
 have em:(c:Int) * w=(BF n r c w 2:Nat):=by unfold BF;simp
 rw[em]
 push_cast[]
 refine⟨by omega,by omega,YJ (B:=λk=>(BN n r c w 2 k:Nat)) (w:=w) (by omega) (λi H' Q' hi s' q'=> ?_) λts H' l hts s' htt el=> ?_⟩
 ·push_cast[EO]
  refine⟨_,_,s' _ _ (s1 _ _ e),C4 (by decide +kernel),p,n,r,c,w,i,(by simp),TL,(L.same s1).same s',?_⟩
  unfold BN at q'
  simpa using q'
 ·push_cast[]
  exact⟨by decide,YK (kind:=2) (by decide) T TP (s1.trans s') B hM h1 h2 h3 h4 gh hts htt el q qe⟩
theorem zao{cs:List Ch}{rows:List (List V)}(g:goodH H cs rows){i j:Int}{v:V}(h:D5 cs rows i j=some v):GoodV 4 H v:=by
 unfold D5 at h
 cases e:DW cs i j with
 | some k =>
  rw[e]at h
  have h:(cs[k]?).map (·.val)=some v:=h
  cases ec:cs[k]? with
  | none=>rw[ec]at h;cases h
  | some c =>
   rw[ec]at h
   cases h
   exact g.2 c (List.mem_of_getElem? ec)
 | none =>
  rw[e]at h
  have h:(rows[i.toNat]?).bind (λr=>r[j.toNat]?)=some v:=h
  cases er:rows[i.toNat]? with
  | none=>rw[er]at h;cases h
  | some r =>
   rw[er]at h
   exact g.1 r (List.mem_of_getElem? er) v (List.mem_of_getElem? h)
theorem goodH.keep{H H':Hp}{cs:List Ch}{rows:List (List V)}(g:goodH H cs rows)(k:FS H H'):goodH H' cs rows:=⟨λr hr v hv=>(g.1 r hr v hv).keep k,λc hc=>(g.2 c hc).keep k⟩
theorem zap{cs:List Ch}{rows:List (List V)}{i j:Int}{bi bj:Nat}{v:V}{nd:List Int}:D5 (cs++[⟨bi,bj,v,nd⟩]) rows i j=if(bi:Int)=i/\(bj:Int)=j then some v else D5 cs rows i j:=by
 unfold D5
 rw[US]
 by_cases h:(bi:Int)=i/\(bj:Int)=j
 ·rw[if_pos h,if_pos h]
  simp
 ·rw[if_neg h,if_neg h]
  cases e:DW cs i j with
  | none=>rfl
  | some k =>
   show((cs++[_])[k]?).map _=(cs[k]?).map _
   rw[List.getElem?_append_left (PQ e)]
theorem NX{G:Addr->Prop}{H H':Hp}(s:SameBut G H H')(g:∀ x,G x->DX (H x)):FS H H':=λb xs e=>s _ _ e λz=>(g _ z).1 _ e
theorem qD{z:Str}{i:Int}{n:Nat}{c:Nat}{Q:VK}(hi:i=n)(hL:z.cps.toList.length<=1000)(hc:z.cps.toList[n]? =some c)(q:Q (.str ⟨#[c]⟩) H):CQ K (.str z) (.int i) H Q:=by
 subst hi
 exact .inr (.inr ⟨z,n,c,rfl,rfl,Nat.le_trans (by simpa [Str.length]using hL) (B7 _ (by omega)),SN hc,q⟩)
theorem zaq{c:Nat}:[c]<(Str.ofString " ").cps.toList↔c<32:=by
 rw[show(Str.ofString " ").cps.toList=[32] by decide +kernel,List.cons_lt_cons_iff]
 simp
theorem zar{c:Nat}:(Str.ofString "~").cps.toList<[c]↔126<c:=by
 rw[show(Str.ofString "~").cps.toList=[126] by decide +kernel,List.cons_lt_cons_iff]
 simp
theorem zas{c:Nat}:[c]<(Str.ofString "a").cps.toList↔c<97:=by
 rw[show(Str.ofString "a").cps.toList=[97] by decide +kernel,List.cons_lt_cons_iff]
 simp
theorem zat{c:Nat}:(Str.ofString "z").cps.toList<[c]↔122<c:=by
 rw[show(Str.ofString "z").cps.toList=[122] by decide +kernel,List.cons_lt_cons_iff]
 simp
theorem zau(h:QT K a vs H Q E):VT K a (λ_=>E) (A9 Q) (A4 ["sign"] vs) H:=by
 obtain⟨c,rfl,q⟩:=h
 push_cast[VT,↓Kc,zaq,zar]
 unfold VA at q
 split
 ·rename_i h1
  split
  ·rename_i h2
   rw[show decide (32<=c)=true from decide_eq_true (by omega),show decide (c<=126)=true from decide_eq_true (by omega)]at q
   refine⟨rfl,?_⟩
   have e:(!decide (((#[c].getD 0 0:Nat):Int)=37))=decide (c≠37):=by
    rw[show(#[c]:Array Nat).getD 0 0=c from rfl,<-decide_not]
    exact decide_eq_decide.mpr (by omega)
   rw[e]
   simpa using q
  ·rename_i h2
   rw[show decide (c<=126)=false from decide_eq_false (by omega)]at q
   simpa using q
 ·rename_i h1
  rw[show decide (32<=c)=false from decide_eq_false (by omega)]at q
  simpa using q
theorem YL{z:Str}{f:Nat->Bool}{te:TE}{Q:VK}(hz:z.length<=1000)(ht:∀ c (Q':VK),Q' (.bl (f c)) H->te [some (.str ⟨#[c]⟩)] H Q')(q:∀ H',Same H H'->Q (.bl (z.cps.toList.all f)) H') :
  FA (M4 z) (AQ 0) C7 te 1 [] [some (.str z)] H λx H1=>K9 K [x] H1 Q:=by
 have hs:z.cps.size=z.length:=rfl
 refine Bl (B7 _ (by omega)) (λi ys H'=>H'=H/\ys=(z.cps.toList.take i).map λc=>V.bl (f c)) ⟨rfl,by simp⟩ (λi c ys H' hc hl ⟨e1,e2⟩=> ?_) (λys H' hl ⟨e1,e2⟩ p hp=> ?_)
 ·subst e1
  refine ht c _ ⟨rfl,?_⟩
  have hc':z.cps.toList[i]? =some c:=by simpa using hc
  rw[List.take_add_one,hc',e2]
  simp
 ·subst e1
  have e3:ys=(z.cps.toList.map f).map V.bl:=by
   rw[e2,List.map_map,List.take_of_length_le (by simp)];rfl
  refine⟨p,z.cps.toList.map f,rfl,by rw[<-e3];exact SqL.of AH,?_⟩
  have:=q _ (AT (o:=.lst ys) hp)
  rw[List.all_map]
  exact this
theorem zav(h:QU K a vs H Q E):VU K a (λ_=>E) (A9 Q) (A4 ["thing"] vs) H:=by
 obtain⟨z,rfl,hz,q⟩:=h
 push_cast[VU,↓Kd]
 unfold CN at q
 refine⟨z.length,⟨B7 _ (by omega),rfl⟩,?_⟩
 split
 ·rename_i h1
  rw[show decide (1<=z.length)=true from decide_eq_true (by omega),Bool.true_and]at q
  by_cases h2:z.length<=8
  ·rw[show decide (z.length<=8)=true from decide_eq_true h2,Bool.true_and]at q
   rw[if_pos (by omega)]
   refine YL hz (λc Q' q'=> ?_) q
   push_cast[zas,zat]
   unfold NL at q'
   split
   ·rename_i h3
    rw[show decide (97<=c)=true from decide_eq_true (by omega),Bool.true_and]at q'
    rw[show(!decide (122<c))=decide (c<=122) by rw[<-decide_not];exact decide_eq_decide.mpr (by omega)]
    exact q'
   ·rename_i h3
    rw[show decide (97<=c)=false from decide_eq_false (by omega),Bool.false_and]at q'
    exact q'
  ·rw[show decide (z.length<=8)=false from decide_eq_false h2,Bool.false_and]at q
   rw[if_neg (by omega)]
   exact q _ (Same.refl _)
 ·rename_i h1
  rw[show decide (1<=z.length)=false from decide_eq_false (by omega),Bool.false_and,Bool.false_and]at q
  exact q _ (Same.refl _)
theorem zaw(h:QW K a vs H Q E):WS K a (λ_=>E) (A9 Q) (A4 ["thing"] vs) H:=by
 obtain⟨z,rfl,hz,q⟩:=h
 push_cast[WS,↓Pc]
 unfold J4 at q
 refine⟨z.length,⟨B7 _ (by omega),rfl⟩,?_⟩
 split
 ·rename_i h1
  rw[show decide (1<=z.length)=true from decide_eq_true (by omega),Bool.true_and]at q
  by_cases h2:z.length<=40
  ·rw[show decide (z.length<=40)=true from decide_eq_true h2,Bool.true_and]at q
   rw[if_pos (by omega)]
   refine YL hz (λc Q' q'=> ?_) q
   push_cast[]
   exact⟨c,rfl,q'⟩
  ·rw[show decide (z.length<=40)=false from decide_eq_false h2,Bool.false_and]at q
   rw[if_neg (by omega)]
   exact q _ (Same.refl _)
 ·rename_i h1
  rw[show decide (1<=z.length)=false from decide_eq_false (by omega),Bool.false_and,Bool.false_and]at q
  exact q _ (Same.refl _)
theorem C8(x y:Str):(x++y).length=x.length+y.length:=PySem.strLen_append x y
theorem HS(x:Int){n:Nat}(h:1<=n):∃ b:Nat,x % (n:Int)=b/\b<n :=
  ⟨(x % (n:Int)).toNat,by have:=Int.emod_nonneg x (show(n:Int)≠0 by omega);omega,by
    have:=Int.emod_lt_of_pos x (show(0:Int)<n by omega)
    have:=Int.emod_nonneg x (show(n:Int)≠0 by omega);omega⟩
section
variable{lp b tk:Addr}
theorem JD:(sf lp b tk).lookup ("plan":Str)=some (V.ref lp):=by simp[sf]
theorem KA:(sf lp b tk).lookup ("book":Str)=some (V.ref b):=by
 simp[sf,List.lookup_cons,CF (a:="book") (b:="plan") (by decide +kernel)]
theorem qF:(sf lp b tk).lookup ("taken_out":Str)=some (V.ref tk):=by
 simp[sf,List.lookup_cons,CF (a:="taken_out") (b:="plan") (by decide +kernel),CF (a:="taken_out") (b:="book") (by decide +kernel)]
theorem EH{x:Str}(h:(FB x "plan" || FB x "book" || FB x "taken_out")=false):(sf lp b tk).lookup x=none:=by
 simp only[Bool.or_eq_false_iff]at h
 obtain⟨⟨h1,h2⟩,h3⟩:=h
 simp[sf,List.lookup_cons,CF h1,CF h2,CF h3]
theorem zax:AZ "taken_out" (.ref tk) (AZ "book" (.ref b) (AZ "plan" (.ref lp) []))=sf lp b tk:=by
 repeat (first | rw[HJ] | rw[IZ (by decide +kernel)])
 rfl
end
theorem zay{w k k':Nat}(h1:k / w=k' / w)(h2:k % w=k' % w):k=k':=by
 rw[<-Nat.div_add_mod k w,<-Nat.div_add_mod k' w,h1,h2]
theorem zaz{f:Nat->Bool}{m k:Nat}(h:ES f m=k):k<m:=by
 unfold ES at h
 cases e:(List.range m).find? f with
 | none=>rw[e]at h;simp at h
 | some k' =>
  rw[e]at h
  have:=List.mem_range.mp (List.mem_of_find?_eq_some e)
  simp at h
  omega
theorem za0{z:Str}(h:CN z=true):PyData.strOk z=true:=by
 unfold CN at h
 rw[Bool.and_eq_true]at h
 have h:=h.2
 unfold PyData.strOk
 rw[<-Array.all_toList]
 rw[List.all_eq_true]at h ⊢
 intro c hc
 have:=h c hc
 simp only[NL,Bool.and_eq_true,decide_eq_true_eq]at this ⊢
 omega
theorem RepC.keep{H H':Hp}(k:FS H H'):∀ {x:CV} {v:V},RepC H x v->RepC H' x v
 | .no,_,h=>h
 | .nm _ _,_,⟨t,e,et⟩=>⟨t,e,k _ _ et⟩
 | .mk _,_,h=>h
 | .rc _ _,_,⟨t,u,e,et,eu⟩=>⟨t,u,e,k _ _ et,k _ _ eu⟩
 | .tx _,_,h=>h
theorem LaidA.keep{n r c w:Nat}{H H':Hp}{cs:List Ch}{as:List AC}(k:FS H H')(h:LaidA n r c w H cs as):LaidA n r c w H' cs as:=by
 induction h with
 | nil=>exact .nil
 | snoc _ e1 e2 e3 e4 e5 e6 ih=>exact ih.snoc e1 e2 (e3.keep k) e4 e5 e6
theorem SM.same{H H':Hp}{S:SA}{n r c w:Nat}{rows:List (List V)}{nn:Nat}{cs:List Ch}{outs:Int->Bool}{tks:List (AO × V)}{M:Hs}(I:SM a H S n r c w rows nn cs outs tks M)(s:Same H H'):SM a H' S n r c w rows nn cs outs tks M:=by
 obtain⟨⟨dx,e1⟩,e2,e3,e4,e5,e6,e7,e8,e9,e10,e11,e12⟩:=I
 exact⟨⟨dx,s _ _ e1⟩,e2.same s,e3.same s,s _ _ e4,e5,e6,e7,e8,e9.keep s.tk,λkind k v h1 h2 hv=>(e10 kind k v h1 h2 hv).keep s.tk,e11,e12.keep s.tk⟩
theorem BookAt.ins1{C:Addr}{H H':Hp}{A:BA}{w:Nat}{rows:List (List V)}{n:Nat}{cs:List Ch}{outs:Int->Bool}{x C' dx:Addr}{fs:List (Str × V)}(B:BookAt a C H A w rows n cs outs)(s:SameBut (· =x) H H')(hx:H x=some (.ins C' dx fs))(hf:fs.length<=2):BookAt a C H' A w rows n cs outs:=by
 obtain⟨⟨⟨d1,e1⟩,⟨chs,e2,e3⟩,e4,e5,e6,⟨AD,e7,e8⟩,⟨CP,e9,e10⟩,r1,r2,r3,r4,r5⟩,⟨⟨d2,f1⟩,⟨ts,f2,f3⟩,f4,f5,f6⟩,nb⟩:=B
 have o:∀ {y:Addr} {o:HO},H y=some o->(∀ C'' d'' ,o≠.ins C'' d'' fs)->H' y=some o:=λe h=>s _ _ e (BK e hx (h _ _))
 have oi:∀ {y:Addr} {C'' d'':Addr} {gs:List (Str × V)},H y=some (.ins C'' d'' gs)->2<gs.length->H' y=some (.ins C'' d'' gs):=λe h=>o e λ_ _ z=>by injection z with _ _ z;rw[z]at h;omega
 have ol:∀ {y:Addr} {o':HO},H y=some o'->(∀ C'' d'' gs,o'≠.ins C'' d'' gs)->H' y=some o':=λe h=>o e λ_ _=>h _ _ _
 exact⟨⟨⟨d1,oi e1 (by simp[bf])⟩,⟨chs,ol e2 (by intros;simp),Paired.mapP e3 λy c ⟨d,pl,nt,g1,g2,g3⟩=>⟨d,pl,nt,oi g1 (by simp[EF]),ol g2 (by intros;simp),ol g3 (by intros;simp)⟩⟩,ol e4 (by intros;simp),λi l h=>ol (e5 i l h) (by intros;simp),e6,⟨AD,ol e7 (by intros;simp),e8⟩,⟨CP,ol e9 (by intros;simp),e10⟩,r1,r2,r3,r4,r5⟩,⟨⟨d2,oi f1 (by simp[pf])⟩,⟨ts,ol f2 (by intros;simp),Paired.mapP f3 λt r z=>ol z (by intros;simp)⟩,f4,f5,f6⟩,nb⟩
theorem za1(h:QY K a vs H Q E):XA K a (λ_=>E) (A9 Q) (A4 ["self","layout","plank"] vs) H:=by
 obtain⟨x,dx,lp,gp,cl,n,r,c,w,rows,nn,M,rfl,⟨T,TP,TL,TS⟩,hx,L,P,sz,g,hrp,hok,q⟩:=h
 push_cast[XA,↓Rl,↓Rm,↓Rp]
 refine⟨_,_,_,hx,TS.cl,TS.n1,by decide,?_⟩
 have e1:upd H x (.ins (a "Store") dx (AZ "plan" (.ref lp) [])) x=some (.ins (a "Store") dx (AZ "plan" (.ref lp) [])):=AH
 have s1:SameBut (· =x) H (upd H x (.ins (a "Store") dx (AZ "plan" (.ref lp) []))):=λy o e n=>by rw[AG n];exact e
 revert e1 s1
 generalize upd H x (.ins (a "Store") dx (AZ "plan" (.ref lp) []))=H1
 intro e1 s1
 have P1:PlankAt a H1 gp cl w rows nn:=by
  obtain⟨⟨dx',f1⟩,⟨ts,f2,f3⟩,r1,r2,r3⟩:=P
  exact⟨⟨dx',s1 _ _ f1 (BK f1 hx (LE (by simp[pf])))⟩,⟨ts,s1 _ _ f2 (BK f2 hx (by intro z;cases z)),Paired.mapP f3 λt r z=>s1 _ _ z (BK z hx (by intro z;cases z))⟩,r1,r2,r3⟩
 have ncl:cl≠x:=by obtain⟨ts,z,_⟩:=P.ls;exact BK z hx (by intro z;cases z)
 refine Zg T TP P1 λA H2 eg ec off B s2=> ?_
 have hx2:=s2 _ _ e1
 refine⟨_,_,_,hx2,TS.cl,TS.n2,E4 (n:=999) (by decide),λp hp=> ?_⟩
 have np:x≠p:=BL AH hp
 rw[AG np.symm]at hp
 refine⟨_,_,_,by rw[AG np,AH],TS.cl,TS.n3,E4 (n:=999) (E4 (n:=998) (by decide)),?_⟩
 rw[zax]
 have s3:SameBut (· =x) H2 (upd (upd (upd H2 x (.ins (a "Store") dx (AZ "book" (.ref A.b) (AZ "plan" (.ref lp) [])))) p (.dK [])) x (.ins (a "Store") dx (sf lp A.b p))):=λy o e n=>by
  rw[AG n,AG (BL e hp),AG n];exact e
 have e3:upd (upd (upd H2 x (.ins (a "Store") dx (AZ "book" (.ref A.b) (AZ "plan" (.ref lp) [])))) p (.dK [])) x (.ins (a "Store") dx (sf lp A.b p)) x=some (.ins (a "Store") dx (sf lp A.b p)):=AH
 have p3:upd (upd (upd H2 x (.ins (a "Store") dx (AZ "book" (.ref A.b) (AZ "plan" (.ref lp) [])))) p (.dK [])) x (.ins (a "Store") dx (sf lp A.b p)) p=some (.dK []):=by rw[AG np.symm,AH]
 revert s3 e3 p3
 generalize upd (upd (upd H2 x (.ins (a "Store") dx (AZ "book" (.ref A.b) (AZ "plan" (.ref lp) [])))) p (.dK [])) x (.ins (a "Store") dx (sf lp A.b p))=H3
 intro s3 e3 p3
 have B3:=B.ins1 s3 hx2 (Nat.le_trans (ML _ _ _) (by simp))
 have sb:SameBut (· =x) H H3:=(s1.trans (Same.sb s2)).trans s3
 have tk:FS H H3:=λb xs e=>sb _ _ e (BK e hx (by intro z;cases z))
 have hpH:H p=none:=s1.none (by rw[e1];intro z;cases z) (s2.free hp)
 obtain⟨dl,el⟩:=L.ob
 refine q ⟨A,x,lp,p⟩ H3 rfl rfl eg ec (λy o e=> ?_) hpH ⟨⟨dx,e3⟩,L.sb sb (BK el hx (LE (by simp[lf]))),B3,p3,Nat.le_refl _,λz v h=>by simp[BR]at h,B.off hp,sz,⟨λr hr v hv=>(g r hr v hv).keep tk,λc hc=>by cases hc⟩,λkind k v h1 h2 hv=>(hrp kind k v h1 h2 hv).keep tk,hok,.nil⟩ sb
 by_cases hy:y=x
 ·subst hy
  exact(off _ _ e1).imp id id
 ·exact off y o (s1 _ _ e hy)
section
variable{X:SX}{cs:List Ch}{tks:List (AO × V)}{M:Hs}
theorem qG{n r c w kind kind' k k':Nat}(h1:kind<5)(h2:kind'<5)(hk:k<BF n r c w kind)(hk':k'<BF n r c w kind')(e1:BN n r c w kind k=BN n r c w kind' k')(e2:k % w=k' % w):kind=kind'/\k=k':=by
 unfold BF at hk hk'
 unfold BN at e1
 have d1:k / w<(if kind=0 then n else if kind=1 then r else if kind=2 then c else if kind=3 then r else c):=Nat.div_lt_of_lt_mul (by rw[Nat.mul_comm];exact hk)
 have d2:k' / w<(if kind'=0 then n else if kind'=1 then r else if kind'=2 then c else if kind'=3 then r else c):=Nat.div_lt_of_lt_mul (by rw[Nat.mul_comm];exact hk')
 have key:kind=kind'/\k / w=k' / w:=by
  generalize k / w=x at *
  generalize k' / w=y at *
  clear hk hk' e2
  rcases(by omega:kind=0\/kind=1\/kind=2\/kind=3\/kind=4)with z | z | z | z | z<;>rcases(by omega:kind'=0\/kind'=1\/kind'=2\/kind'=3\/kind'=4)with y | y | y | y | y<;>subst z<;>subst y<;>simp at d1 d2 e1 ⊢ <;>omega
 exact⟨key.1,zay key.2 e2⟩
theorem LaidA.newest{n r c w:Nat}{H:Hp}{cs:List Ch}{as:List AC}(h:LaidA n r c w H cs as){kind k:Nat}(h1:kind<5)(hk:k<BF n r c w kind):DW cs (BN n r c w kind k:Nat) (k % w:Nat)=G4 kind k as/\cs.length=as.length:=by
 induction h with
 | nil=>exact⟨rfl,rfl⟩
 | @snoc cs as ch x _ e1 e2 e3 e4 e5 e6 ih =>
  refine⟨?_,by rw[List.length_append,ih.2];rfl⟩
  rw[US,ih.1,ih.2]
  show _=(if x.kind=kind/\x.k=k then some as.length else G4 kind k as)
  by_cases e:x.kind=kind/\x.k=k
  ·rw[if_pos e,if_pos ⟨by rw[e1,e.1,e.2],by rw[e2,e.2]⟩]
  ·rw[if_neg e,if_neg λz=>e (qG e5 h1 e6 hk (by have:=z.1;rw[e1]at this;omega) (by have:=z.2;rw[e2]at this;omega))]
theorem SM.on(I:X.at a H cs tks M){kind k:Nat}(h1:kind<5)(hk:k<BF X.n X.r X.c X.w kind):BN X.n X.r X.c X.w kind k<X.rows.length/\k % X.w<X.w:=by
 refine⟨?_,Nat.mod_lt _ (by have:=qC hk;omega)⟩
 rw[I.sz.2.2.2.2]
 unfold BF at hk
 unfold BN
 have hd:k / X.w<(if kind=0 then X.n else if kind=1 then X.r else if kind=2 then X.c else if kind=3 then X.r else X.c):=Nat.div_lt_of_lt_mul (by rw[Nat.mul_comm];exact hk)
 generalize k / X.w=x at *
 clear hk
 rcases(by omega:kind=0\/kind=1\/kind=2\/kind=3\/kind=4)with z | z | z | z | z<;>subst z<;>simp at hd ⊢ <;>omega
theorem SM.onPl(I:X.at a H cs tks M){kind k:Nat}(h1:kind<5)(hk:k<BF X.n X.r X.c X.w kind):onPl X.rows X.w (BN X.n X.r X.c X.w kind k:Nat) (k % X.w:Nat):=by
 have:=I.on h1 hk
 exact⟨Int.natCast_nonneg _,by omega,Int.natCast_nonneg _,by omega⟩
theorem SM.val(I:X.at a H cs tks M){kind k:Nat}(h1:kind<5)(hk:k<BF X.n X.r X.c X.w kind):∃ v,D5 cs X.rows (BN X.n X.r X.c X.w kind k:Nat) (k % X.w:Nat)=some v/\RepC H (M kind k) v:=by
 obtain⟨b1,b2⟩:=I.on h1 hk
 obtain⟨v,ev⟩:=qB (λr' hr'=>I.bk.pk.wd r' hr') b1 b2 cs
 exact⟨v,ev,I.rp kind k v h1 hk ev⟩
theorem SM.snoc{H':Hp}{kind k:Nat}{v:V}{x:CV}{nd:List Int}{nd':List Nat}(hd:∀ y:Int,y∈nd↔(∃ j∈nd',y=(j:Nat))\/gY cs (BN X.n X.r X.c X.w kind k:Nat) (k % X.w:Nat) y)(I:X.at a H cs tks M)(h1:kind<5)(hk:k<BF X.n X.r X.c X.w kind)(B:D4 a H' X.S.A X.w X.rows X.nn (cs++[⟨BN X.n X.r X.c X.w kind k,k % X.w,v,nd⟩]) X.outs)(s:SameBut X.S.A.F H H')(g:GoodV 4 H' v)(rx:RepC H' x v)(ox:NM kind x):X.at a H' (cs++[⟨BN X.n X.r X.c X.w kind k,k % X.w,v,nd⟩]) tks (M.put kind k x nd'):=by
 have lo:∀ x,X.S.A.F x->DX (H x):=λx hx=>I.bk.loose hx
 have tk:FS H H':=NX s lo
 obtain⟨⟨dx,e1⟩,e2,e3,e4,e5,e6,e7,e8,e9,e10,e11,e12⟩:=I
 obtain⟨dl,el⟩:=e2.ob
 refine⟨⟨dx,s _ _ e1 λz=>(lo _ z).2 _ _ _ e1⟩,e2.sb s λz=>(lo _ z).2 _ _ _ el,B,s _ _ e4 e7,by rw[List.length_append];omega,λz v h=> ?_,e7,e8,⟨(e9.keep tk).1,λc hc=> ?_⟩,λkind' k' v' h1' hk' hv=> ?_,λkind' k' h1' hk'=> ?_,(e12.keep tk).snoc rfl rfl rx (λy=>by rw[hd];unfold gY;rw[(e12.newest h1 hk).1]) h1 hk⟩
 ·obtain⟨k,ek,hk⟩:=e6 z v h
  exact⟨k,ek,by rw[List.length_append];omega⟩
 ·rcases List.mem_append.mp hc with y | y
  ·exact(e9.keep tk).2 c y
  ·rw[List.mem_singleton.mp y];exact g
 ·rw[zap]at hv
  rw[Hs.put_at]
  by_cases hp:kind'=kind/\k'=k
  ·obtain⟨rfl,rfl⟩:=hp
   rw[if_pos ⟨rfl,rfl⟩]at hv ⊢
   cases hv
   exact rx
  ·rw[if_neg λy=>hp (by
    have:=qG h1 h1' hk hk' (by omega) (by omega)
    exact⟨this.1.symm,this.2.symm⟩)]at hv
   rw[if_neg hp]
   exact(e10 kind' k' v' h1' hk' hv).keep tk
 ·rw[Hs.put_at]
  split
  ·rename_i y
   rw[y.1];exact ox
  ·exact e11 kind' k' h1' hk'
theorem LX{kind k:Nat}{v:V}{x:CV}{u nl:Addr}{ns:List Int}(T4:ET K a)(I:X.at a H cs tks M)(h1:kind<5)(hk:k<BF X.n X.r X.c X.w kind)(hu:H u=some (.tup [.int (BN X.n X.r X.c X.w kind k:Nat),.int (k % X.w:Nat)]))(hn:H nl=some (.lst (ns.map V.int)))(hl:ns.length<=60)(hcs:cs.length<990)(kn:∀ x∈ns,known cs x)(g:GoodV 4 H v)(rx:RepC H x v)(ox:NM kind x)
  (q:∀ ch H',X.at a H' (cs++[ch]) tks (M.put kind k x (NQ ns))->SameBut X.S.A.F H H'->Q (.int cs.length) H'):HQ K a [.ref X.S.A.b,.ref u,v,.ref nl] H Q E:=by
 obtain⟨T,TP,TL,TS⟩:=T4
 refine⟨X.S.A,X.w,X.rows,X.nn,cs,X.outs,u,nl,v,ns,_,_,rfl,T,TP,I.bk,hu,SqL.of hn,hl,hcs,λ_ _ nd H5 pw mem B5 KG=> ?_,λy=>absurd (I.onPl h1 hk) y,λ_ ⟨x,hx,hk⟩=>absurd (kn x hx) hk⟩
 rw[Int.toNat_natCast,Int.toNat_natCast]at B5
 have tk:=NX KG λx hx=>I.bk.loose hx
 refine q _ H5 (I.snoc (λy=> ?_) h1 hk B5 KG (g.keep tk) (rx.keep tk) ox) KG
 rw[mem]
 refine or_congr ⟨λh=>⟨y.toNat,List.mem_map.mpr ⟨y,h,rfl⟩,by have:=(kn y h).1;omega⟩,λhzz=> ?_⟩ Iff.rfl
 obtain⟨j,hj,e⟩:=hzz
 obtain⟨x,hx,rfl⟩:=List.mem_map.mp hj
 have:=(kn x hx).1
 rw[show y=x by omega]
 exact hx
end
def NmV(H:Hp)(v:V):Option (Str × Nat)->Prop
 | none=>v=.non
 | some (z,k)=>∃ t,v=.ref t/\H t=some (.tup [.str z,.int k])
theorem NmV.keep{H H':Hp}{v:V}{x:Option (Str × Nat)}(h:NmV H v x)(k:FS H H'):NmV H' v x:=by
 cases x with
 | none=>exact h
 | some p=>obtain⟨t,e,et⟩:=h;exact⟨t,e,k _ _ et⟩
theorem RepC.nmv{M:Hs}{k:Nat}{v:V}(h:RepC H (M 0 k) v)(ok:NM 0 (M 0 k)):NmV H v (E3 M k):=by
 unfold E3
 cases e:M 0 k with
 | no=>rw[e]at h;exact h
 | nm z r=>rw[e]at h;exact h
 | mk i=>rw[e]at ok;exact ok.elim
 | rc m ps=>rw[e]at ok;exact ok.elim
 | tx z=>rw[e]at ok;exact ok.elim
theorem za2(h:LN K a vs H Q E):XD K a (λ_=>E) (A9 Q) (A4 ["self"] vs) H:=by
 obtain⟨X,cs,tks,M,rfl,⟨T,TP,TL,TS⟩,I,q⟩:=h
 obtain⟨S,n,r,c,w,rows,nn,outs⟩:=X
 dsimp only at *
 have I0:(SX.mk S n r c w rows nn outs).at a H cs tks M:=I
 obtain⟨dx,ho⟩:=I.ob
 obtain⟨dl,el⟩:=I.ly.ob
 obtain⟨db,eb⟩:=I.bk.bk.ob
 have hz:=I.sz
 have hkm:n * w<=36:=Nat.mul_le_mul hz.1 hz.2.2.2.1
 push_cast[XD,↓Rz]
 refine⟨_,_,_,ho,TS.cl,TS.n1,_,JD,S.lp,rfl,_,_,el,C4 (by decide +kernel),S.lp,n,r,c,w,rfl,TL,I.ly,λt ht=> ?_⟩
 have s1:=AT (o:=.tup [V.int ((n:Int) * w),V.int ((r:Int) * w),V.int ((c:Int) * w)]) ht
 refine D3 AH (n:=0) rfl rfl ?_
 revert s1
 generalize upd H t (.tup [V.int ((n:Int) * w),V.int ((r:Int) * w),V.int ((c:Int) * w)])=H1
 intro s1
 have em:(n:Int) * w=(n * w:Nat):=by simp
 rw[em]
 push_cast[]
 refine⟨by omega,by omega,MX (B7 _ (by omega)) (λi ys H'=>Same H H'/\ys.length=i/\∀ k v,ys[k]? =some v->D5 cs rows (BN n r c w 0 k:Nat) (k % w:Nat)=some v) ⟨s1,rfl,λk v h=>by simp at h⟩ (λi ys H' hi hl hzz=> ?_) (λys H' hl ⟨s,_,al⟩ p hp=> ?_)⟩
 ·obtain⟨s,_,al⟩:=hzz
  push_cast[EO]
  refine⟨_,_,_,s _ _ ho,TS.cl,TS.n2,_,KA,S.A.b,rfl,_,_,s _ _ eb,EG (by decide +kernel),_,_,_,s _ _ ho,TS.cl,TS.n1,_,JD,S.lp,rfl,_,_,s _ _ el,C4 (by decide +kernel),S.lp,n,r,c,w,i,by simp,TL,I.ly.same s,λu hu=> ?_⟩
  have s2:=s.trans (AT (o:=.tup [.int (0+(i:Int) / w),.int ((i:Int) % w)]) hu)
  have hm0:i<BF n r c w 0:=by simpa [BF]using hi
  refine⟨S.A,w,rows,nn,cs,outs,u,(BN n r c w 0 i:Nat),(i % w:Nat),rfl,T,TP,I.bk.same s2,by rw[AH];simp[BN],λ_ v H3 ev s3=>⟨s2.trans s3,by simp[hl],λk v' hk=> ?_⟩,λz=>absurd (SM.onPl I0 (kind:=0) (by decide) hm0) z⟩
  rcases Nat.lt_or_ge k ys.length with z | z
  ·rw[List.getElem?_append_left z]at hk;exact al k v' hk
  ·rw[List.getElem?_append_right z]at hk
   have:k=i:=by
    rcases Nat.eq_or_lt_of_le z with y | y
    ·omega
    ·rw[List.getElem?_eq_none (by simp;omega)]at hk;cases hk
   subst this
   rw[hl,Nat.sub_self]at hk
   cases hk
   exact ev
 ·have sp:=AT (o:=.lst ys) hp
  have s3:=s.trans sp
  refine q p ys _ s3 AH hl λk v hk=> ?_
  have hkl:=(List.getElem?_eq_some_iff.mp hk).1
  exact(I.rp 0 k v (by decide) (by simp[BF];omega) (al k v hk)).keep s3.tk
theorem YM{M:Hs}{m i:Nat}{z:Str}(hi:i<m)(h:(E3 M i).any (λp=>decide (p.1=z))=true)(hl:∀ j<i,(E3 M j).any (λp=>decide (p.1=z))=false):cellOf M m z=some i:=by
 unfold cellOf
 rw[List.find?_eq_some_iff_append]
 refine⟨h,List.range i,(List.range (m - i - 1)).map (i+1+·),?_,λj hj=>by rw[hl j (List.mem_range.mp hj)];rfl⟩
 have e1:m=i+(1+(m - i - 1)):=by omega
 conv=>lhs;rw[e1]
 rw[List.range_add,List.range_add]
 simp[Nat.add_assoc,Function.comp_def]
theorem qH{M:Hs}{m:Nat}{z:Str}(hl:∀ j<m,(E3 M j).any (λp=>decide (p.1=z))=false):cellOf M m z=none:=by
 unfold cellOf
 exact List.find?_eq_none.mpr λj hj=>by rw[hl j (List.mem_range.mp hj)];exact Bool.false_ne_true
theorem za3(h:NO K a vs H Q E):XN K a (λ_=>E) (A9 Q) (A4 ["self","name","cell","value"] vs) H:=by
 obtain⟨X,cs,tks,M,z,rfl,T4,I,q⟩:=h
 obtain⟨dx,ho⟩:=I.ob
 push_cast[XN,↓Tb]
 refine⟨_,_,ho,EH (by decide +kernel),X,cs,tks,M,rfl,T4,I,λl xs H1 s1 el hl hx=> ?_⟩
 refine⟨l,rfl,⟨_,SqL.of el⟩,fU (xs:=xs) (λi σ H'=>(Same H H'/\Same H1 H'/\∀ j<i,(E3 M j).any (λp=>decide (p.1=z))=false)/\∃ x y,σ=[some (.ref X.S.st),some (.str z),x,y]) ⟨⟨s1,Same.refl _,λj hj=>absurd hj (Nat.not_lt_zero _)⟩,_,_,rfl⟩ (λi σ H' _ ⟨⟨_,s,_⟩,_⟩=>SqL.of (s _ _ el)) (λi x σ H' t hxi ⟨⟨sH,s,lo⟩,y1,y2,ez⟩ ht=> ?_) (λσ H' ⟨⟨sH,s,lo⟩,y1,y2,ez⟩=> ?_)⟩
 ·subst ez
  have hi:=(List.getElem?_eq_some_iff.mp hxi).1
  have s2:=s.trans (AT (o:=.tup [.int (i:Int),x]) ht)
  have sH2:=sH.trans (AT (o:=.tup [.int (i:Int),x]) ht)
  have nx:=((hx i x hxi).nmv (I.ok 0 i (by decide) (by rw[hl]at hi;simpa [BF]using hi))).keep s2.tk
  push_cast[]
  refine⟨_,SqT.of AH,rfl,_,_,rfl,_,_,rfl,rfl,?_⟩
  revert s2 sH2 nx
  generalize upd H' t (.tup [.int (i:Int),x])=H2
  intro s2 sH2 nx
  have next:(E3 M i).any (λp=>decide (p.1=z))=false->Same H H2/\Same H1 H2/\∀ j<i+1,(E3 M j).any (λp=>decide (p.1=z))=false:=λh=>⟨sH2,s2,λj hj=>by
   rcases Nat.lt_or_ge j i with y | y
   ·exact lo j y
   ·rw[show j=i by omega];exact h⟩
  push_cast[↓Sz,↓Sy]
  cases en:E3 M i with
  | none =>
   rw[en]at nx next
   rw[show x=.non from nx]
   push_cast[]
   exact next rfl
  | some p =>
   rw[en]at nx next
   obtain⟨u,rfl,eu⟩:=nx
   rw[if_pos (by simp)]
   refine D3 eu (n:=0) rfl rfl ?_
   push_cast[]
   by_cases hz:p.1=z
   ·rw[if_pos hz]
    have:=q _ sH2
    rw[YM (i:=i) (by omega) (by rw[en];simpa using hz) lo]at this
    exact this
   ·rw[if_neg hz]
    exact next (by simpa using hz)
 ·subst ez
  push_cast[↓Tc]
  have:=q _ sH
  rw[qH (by rw[<-hl];exact lo)]at this
  exact this
theorem za4(h:NN K a vs H Q E):XM K a (λ_=>E) (A9 Q) (A4 ["self"] vs) H:=by
 obtain⟨X,cs,tks,M,rfl,T4,I,q⟩:=h
 obtain⟨dx,ho⟩:=I.ob
 have hz:=I.sz
 have hkm:X.m0<=36:=Nat.mul_le_mul hz.1 hz.2.2.2.1
 push_cast[XM,↓Sx]
 refine⟨_,_,ho,EH (by decide +kernel),X,cs,tks,M,rfl,T4,I,λl xs H1 s1 el hl hx=> ?_⟩
 push_cast[]
 refine .inl ⟨⟨_,SqL.of el⟩,Fb (xs:=xs) (B7 _ (by omega)) (λi σ' ys H'=>H'=H1/\(∃ y0,σ'=[y0])/\ys=(IN M i).map V.str) ⟨rfl,⟨_,rfl⟩,rfl⟩ (λi σ' ys H' ⟨e,_,ey⟩=>⟨e ▸ SqL.of el,by rw[ey,List.length_map];exact Nat.le_trans (List.length_filterMap_le _ _) (by simp)⟩) (λi x σ' ys H' hi hxi ⟨e,⟨y0,es⟩,ey⟩=> ?_) (λσ' ys H' ⟨e,_,ey⟩ p hp=> ?_)⟩
 ·subst e es
  have nx:=(hx i x hxi).nmv (I.ok 0 i (by decide) (by rw[hl]at hi;simpa [BF]using hi))
  have RX:IN M (i+1)=IN M i++((E3 M i).map (·.1)).toList:=by
   unfold IN
   rw[List.range_succ,List.filterMap_append]
   cases e:E3 M i<;>simp[e]
  push_cast[]
  cases en:E3 M i with
  | none =>
   rw[en]at nx RX
   rw[show x=.non from nx,if_neg (by simp)]
   exact⟨_,by omega,rfl,by omega,by rw[RX,ey];simp⟩
  | some p =>
   rw[en]at nx RX
   obtain⟨u,rfl,eu⟩:=nx
   rw[if_pos (by simp)]
   exact⟨λy H4=>y=.str p.1/\H4=H',λy H4 ⟨e1,e2⟩=>⟨_,by omega,rfl,by omega,e2,by rw[RX,ey,e1];simp⟩,D3 eu (n:=0) rfl rfl ⟨rfl,rfl⟩⟩
 ·subst e
  have sp:=AT (o:=.lst ys) hp
  refine⟨p,IN M X.m0,rfl,by rw[<-hl,<-ey];exact SqL.of AH,Nat.lt_of_le_of_lt (List.length_filterMap_le _ _) (by simp;omega),λD ks hD pk hs=> ?_⟩
  exact q D ks _ (s1.free (sp.free hD)) ((s1.trans sp).trans (AT hD)) AH pk hs
theorem za5(h:QZ K a vs H Q E):XR K a (λ_=>E) (A9 Q) (A4 ["self","new","given"] vs) H:=by
 obtain⟨X,cs,tks,M,z,gl,zs,rfl,T4,I,eg,hl,hy,q,q1,q2⟩:=h
 obtain⟨dx,ho⟩:=I.ob
 push_cast[XR,↓Tl]
 refine .inl ⟨⟨_,SqL.of eg⟩,Aq (xs:=zs.map V.str) (B7 _ (by rw[List.length_map];omega)) (λi ys H'=>Same H H'/\ys=((zs.take i).map CN).map V.bl) ⟨Same.refl _,rfl⟩ (λi ys H' _ ⟨s,_⟩=>SqL.of (s _ _ eg)) (λi x ys H' hxi hyl ⟨s,ey⟩=> ?_) (λys H' hyl ⟨s,ey⟩ p hp=> ?_)⟩
 ·rw[List.getElem?_map,Option.map_eq_some_iff]at hxi
  obtain⟨x',hx',rfl⟩:=hxi
  push_cast[EO]
  refine⟨x',rfl,hy x' (List.mem_of_getElem? hx'),λH2 s2=>⟨s.trans s2,?_⟩⟩
  rw[List.take_add_one,hx',ey]
  simp
 ·rw[List.length_map,List.take_length]at ey
  have sp:=AT (o:=.lst ys) hp
  have s2:=s.trans sp
  refine⟨p,zs.map CN,rfl,by rw[<-ey];exact SqL.of AH,?_⟩
  rw[List.all_map,Function.id_comp]
  revert s2
  generalize upd H' p (.lst ys)=H2
  intro s2
  cases hb:zs.all CN with
  | false =>
   push_cast[↓Tk]
   exact⟨by decide,q1 hb _ s2⟩
  | true =>
   push_cast[↓Tp]
   refine⟨_,_,s2 _ _ ho,EH (by decide +kernel),X,cs,tks,M,z,rfl,T4,I.same s2,λH3 s3=> ?_⟩
   have s4:=s2.trans s3
   cases hc:cellOf M X.m0 z with
   | none =>
    push_cast[G5]
    exact q hb hc _ s4
   | some k =>
    push_cast[G5,↓Tm]
    exact⟨by decide,q2 hb ⟨k,hc⟩ _ s4⟩
theorem KB{S:SA}{dx db gp mm mi lt ou:Addr}{mth:Str}{P:V->Prop}(TS:QX K a)(ho:H S.st=some (.ins (a "Store") dx (sf S.lp S.A.b S.tk)))(eb:H S.A.b=some (.ins (a "Hold") db (bf gp mm mi lt ou)))(hm:(bf gp mm mi lt ou).lookup mth=none)(p:P (.ref S.A.b)) :
  ∃ x x1 x2,H S.st=some (.ins x x1 x2)/\Cls K x/\NoAttr K x "book"/\∃ v,x2.lookup ("book":Str)=some v/\∃ b,v=.ref b/\∃ y y1,H b=some (.ins (a "Hold") y y1)/\y1.lookup mth=none/\P v:=⟨_,_,_,ho,TS.cl,TS.n2,_,KA,_,rfl,_,_,eb,hm,p⟩
theorem KC{S:SA}{dx dl:Addr}{n r c w:Int}{mth:Str}{P:V->Prop}(TS:QX K a)(ho:H S.st=some (.ins (a "Store") dx (sf S.lp S.A.b S.tk)))(el:H S.lp=some (.ins (a "Layout") dl (lf n r c w)))(hm:(lf n r c w).lookup mth=none)(p:P (.ref S.lp)) :
  ∃ x x1 x2,H S.st=some (.ins x x1 x2)/\Cls K x/\NoAttr K x "plan"/\∃ v,x2.lookup ("plan":Str)=some v/\∃ b,v=.ref b/\∃ y y1,H b=some (.ins (a "Layout") y y1)/\y1.lookup mth=none/\P v:=⟨_,_,_,ho,TS.cl,TS.n1,_,JD,_,rfl,_,_,el,hm,p⟩
section
variable{p:Addr}{n r c w k:Nat}
theorem lNA(TL:D8 K a)(L:LayAt a H p n r c w)(q:GK (0+k / w) (k % w) Q H):JX K a [.ref p,.int k] H Q E:=⟨p,n,r,c,w,k,rfl,TL,L,q⟩
theorem YN(TL:D8 K a)(L:LayAt a H p n r c w)(q:GK (n+k / w) (k % w) Q H):JY K a [.ref p,.int k] H Q E:=⟨p,n,r,c,w,k,rfl,TL,L,q⟩
theorem lPA(TL:D8 K a)(L:LayAt a H p n r c w)(q:GK (n+r+k / w) (k % w) Q H):LG K a [.ref p,.int k] H Q E:=⟨p,n,r,c,w,k,rfl,TL,L,q⟩
theorem lRM(TL:D8 K a)(L:LayAt a H p n r c w)(q:GK (n+r+c+k / w) (k % w) Q H):LH K a [.ref p,.int k] H Q E:=⟨p,n,r,c,w,k,rfl,TL,L,q⟩
theorem lPM(TL:D8 K a)(L:LayAt a H p n r c w)(q:GK (n+r+c+r+k / w) (k % w) Q H):LI K a [.ref p,.int k] H Q E:=⟨p,n,r,c,w,k,rfl,TL,L,q⟩
end
theorem qI{f g:Nat->Bool}:∀ {l:List Nat},(∀ k∈l,f k=g k)->l.find? f=l.find? g
 | [],_=>rfl
 | k::l,h=>by
  rw[List.find?_cons,List.find?_cons,h k List.mem_cons_self,qI λk' hk'=>h k' (List.mem_cons_of_mem _ hk')]
theorem zba{f g:Nat->Bool}{m:Nat}(h:∀ k<m,f k=g k):ES f m=ES g m:=by
 unfold ES
 rw[qI λk hk=>h k (List.mem_range.mp hk)]
section
variable{X:SX}{cs:List Ch}{tks:List (AO × V)}{M:Hs}
theorem SM.free(I:X.at a H cs tks M){kind:Nat}(hk:kind<3):ES (JC cs X.rows X.n X.r X.c X.w kind) (BF X.n X.r X.c X.w kind)=FO M kind (BF X.n X.r X.c X.w kind):=zba λk hkm=>by
 obtain⟨v,ev,rv⟩:=I.val (by omega:kind<5) hkm
 have ok:=I.ok kind k (by omega) hkm
 unfold JC
 rw[ev]
 show IM kind v=J5 kind (M kind k)
 cases e:M kind k with
 | no=>rw[e]at rv;rw[show v=.non from rv];simp[IM,J5]
 | nm z r=>rw[e]at rv;obtain⟨t,rfl,_⟩:=rv;simp[IM,J5]
 | mk i =>
  rw[e]at rv;rw[show v=.int i from rv]
  simp[IM,J5]
 | rc m ps=>rw[e]at rv;obtain⟨t,u,rfl,_⟩:=rv;simp[IM,J5]
 | tx z=>rw[e]at rv;rw[show v=.str z from rv];simp[IM,J5]
theorem zbb{m cell:Nat}{z:Str}(h:cellOf M m z=some cell):cell<m/\∃ k,M 0 cell=.nm z k:=by
 unfold cellOf at h
 have h1:=List.mem_range.mp (List.mem_of_find?_eq_some h)
 have h2:=List.find?_some h
 unfold E3 at h2
 refine⟨h1,?_⟩
 cases e:M 0 cell with
 | nm z' k =>
  rw[e]at h2
  simp at h2
  exact⟨k,by rw[h2]⟩
 | _=>rw[e]at h2;simp at h2
theorem YO{kind:Nat}(T4:ET K a)(I:X.at a H cs tks M)(hk:kind<3)(q:∀ k:Nat,FO M kind (BF X.n X.r X.c X.w kind)=k->k<BF X.n X.r X.c X.w kind->∀ H',Same H H'->Q (.int k) H')(qe:FO M kind (BF X.n X.r X.c X.w kind)= -1->G6 a H "NoRoom" E):QN kind K a X.S.lp X.S.A.b H Q E:=by
 obtain⟨T,TP,TL,TS⟩:=T4
 obtain⟨z1,z2,z3,z4,z5⟩:=I.sz
 refine⟨X.S.A,X.n,X.r,X.c,X.w,X.rows,X.nn,cs,X.outs,rfl,T,TP,TL,I.ly,z1,z2,z3,z4,I.bk,z5,λi j v hv=>zao I.gd hv,λk e H' s=> ?_,λe H' s=> ?_⟩
 ·rw[I.free hk]at e
  exact q k e (zaz e) H' s
 ·rw[I.free hk]at e
  exact qe e H' s
end
theorem zbc(h:LO K a vs H Q E):XF K a (λ_=>E) (A9 Q) (A4 ["self","record"] vs) H:=by
 obtain⟨X,cs,tks,M,rec,rfl,⟨T,TP,TL,TS⟩,I,hr,q⟩:=h
 obtain⟨dx,ho⟩:=I.ob
 obtain⟨dl,el⟩:=I.ly.ob
 obtain⟨db,eb⟩:=I.bk.bk.ob
 have hm:rec<BF X.n X.r X.c X.w 3:=by simpa [BF]using hr
 push_cast[XF,↓Sb]
 refine KB TS (ho) (eb) (EG (by decide +kernel)) (KC TS (ho) (el) (C4 (by decide +kernel)) (YN TL (I.ly) λu hu=> ?_))
 have s2:=AT (o:=.tup [.int (X.n+(rec:Int) / X.w),.int ((rec:Int) % X.w)]) hu
 refine⟨X.S.A,X.w,X.rows,X.nn,cs,X.outs,u,(BN X.n X.r X.c X.w 3 rec:Nat),(rec % X.w:Nat),rfl,T,TP,I.bk.same s2,by rw[AH];simp[BN],λ_ v H3 ev s3=> ?_,λz=>absurd (I.onPl (kind:=3) (by decide) hm) z⟩
 have s4:=s2.trans s3
 exact q v H3 ((I.rp 3 rec v (by decide) hm ev).keep s4.tk) s4
theorem zbd(h:NP K a vs H Q E):XS K a (λ_=>E) (A9 Q) (A4 ["self","name","cell"] vs) H:=by
 obtain⟨X,cs,tks,M,z,rfl,T4,I,q,qe⟩:=h
 obtain⟨dx,ho⟩:=I.ob
 push_cast[XS,↓Tq]
 refine⟨_,_,ho,EH (by decide +kernel),X,cs,tks,M,z,rfl,T4,I,λH1 s1=> ?_⟩
 push_cast[↓Tw]
 cases e:cellOf M X.m0 z with
 | none =>
  push_cast[G5,↓Tv]
  exact⟨by decide,qe e _ s1⟩
 | some cell =>
  push_cast[G5,↓Tx]
  obtain⟨hc,k,ek⟩:=zbb e
  refine⟨_,_,s1 _ _ ho,EH (by decide +kernel),X,cs,tks,M,rfl,T4,I.same s1,λl xs H2 s2 el hl hx=> ?_⟩
  have BX:cell<xs.length:=by rw[hl];exact hc
  have ex:=List.getElem?_eq_getElem BX
  have rx:=hx cell _ ex
  rw[ek]at rx
  obtain⟨t,et,et2⟩:=rx
  exact DF (SqL.of el) rfl ex (by rw[et];exact D3 et2 (n:=1) rfl rfl (q cell k e hc ek _ (s1.trans s2)))
theorem qJ{X:SX}{cs:List Ch}{tks:List (AO × V)}{M:Hs}{cell rec need:Nat}{z:Str}{nl:Addr}{ns:List Int}{H2:Hp}(T4:ET K a)(I:X.at a H cs tks M)(hc:cell<X.m0)(hcs:cs.length<980)(hz:PyData.strOk z=true)(s:Same H H2)(en:H2 nl=some (.lst (ns.map V.int)))(hl:ns.length<=60)(kn:∀ x∈ns,known cs x)
  (q:VB X a H cs tks (M.put 0 cell (.nm z rec) (NQ ns)) Q) :
  XG K a (λ_=>E) (λ_=>E) (A9 Q) [some (.ref X.S.st),some (.int cell),some (.str z),some (.int rec),some (.int need),some (.ref nl)] H2:=by
 have T4':=T4
 obtain⟨T,TP,TL,TS⟩:=T4
 obtain⟨dx,ho⟩:=I.ob
 obtain⟨dl,el⟩:=I.ly.ob
 obtain⟨db,eb⟩:=I.bk.bk.ob
 have hm:cell<BF X.n X.r X.c X.w 0:=by simpa [BF]using hc
 push_cast[↓Sj]
 refine KB TS (s _ _ ho) (s _ _ eb) (EG (by decide +kernel)) (KC TS (s _ _ ho) (s _ _ el) (C4 (by decide +kernel)) (lNA TL (I.ly.same s) λu hu=> ?_))
 have s2:=s.trans (AT (o:=.tup [.int (0+(cell:Int) / X.w),.int ((cell:Int) % X.w)]) hu)
 have eu:upd H2 u (.tup [.int (0+(cell:Int) / X.w),.int ((cell:Int) % X.w)]) u=some (.tup [.int (BN X.n X.r X.c X.w 0 cell:Nat),.int (cell % X.w:Nat)]):=by rw[AH];simp[BN]
 have en2:=AT (o:=.tup [.int (0+(cell:Int) / X.w),.int ((cell:Int) % X.w)]) hu _ _ en
 revert s2 eu en2
 generalize upd H2 u (.tup [.int (0+(cell:Int) / X.w),.int ((cell:Int) % X.w)])=H3
 intro s2 eu en2
 push_cast[]
 refine⟨by decide,λt ht=> ?_⟩
 have st:=AT (o:=.tup [V.str z,V.int rec]) ht
 have s4:=s2.trans st
 have et:upd H3 t (.tup [V.str z,V.int rec]) t=some (.tup [V.str z,V.int rec]):=AH
 refine LX T4' (I.same s4) (kind:=0) (x:=.nm z rec) (by decide) hm (st _ _ eu) (st _ _ en2) hl (by omega) kn ⟨_,et,by simp,λv hv=> ?_⟩ ⟨t,rfl,et⟩ trivial λch H' I' sb=>q ch H' I' λb o e n=>sb _ _ (s4 _ _ e) n
 simp only[List.mem_cons,List.not_mem_nil,or_false]at hv
 rcases hv with rfl | rfl
 ·exact hz
 ·trivial
theorem zbe(h:Q0 K a vs H Q E):XH K a (λ_=>E) (A9 Q) (A4 ["self","cell","name","record","need","needs"] vs) H:=by
 obtain⟨X,cs,tks,M,cell,rec,need,z,rfl,T4,I,hc,hn,hcs,hz,q⟩:=h
 obtain⟨T,TP,TL,TS⟩:=T4
 obtain⟨dx,ho⟩:=I.ob
 push_cast[XH,↓Sd,↓Sh]
 refine⟨by decide,λnl hnl=> ?_⟩
 have s1:=AT (o:=.lst [V.int need]) hnl
 refine⟨_,_,_,s1 _ _ ho,TS.cl,TS.n3,_,qF,X.S.tk,rfl,_,dS (s1 _ _ I.tk),?_⟩
 have e1:upd H nl (.lst [V.int need]) nl=some (.lst [V.int need]):=AH
 have kn:known cs (need:Int):=⟨by omega,by omega⟩
 cases hv:BR tks (.inr z)with
 | none =>
  rw[show LP tks z=[] by unfold LP;rw[hv]]at q
  rw[if_neg (by simp)]
  exact qJ (ns:=[(need:Int)]) ⟨T,TP,TL,TS⟩ I hc hcs hz s1 e1 (by simp) (λx hx=>by rw[List.mem_singleton.mp hx];exact kn) q
 | some v =>
  obtain⟨k,rfl,hk⟩:=I.tv z v hv
  rw[show LP tks z=[k] by unfold LP;rw[hv];rfl]at q
  rw[if_pos (by simp)]
  push_cast[↓Sg]
  refine⟨.inl ⟨rfl,_,SqL.of e1⟩,_,_,_,s1 _ _ ho,TS.cl,TS.n3,_,qF,X.S.tk,rfl,_,Ew (s1 _ _ I.tk) hv,nl,_,_,rfl,rfl,e1,(by show 1<sizeLine;decide),?_⟩
  rw[GS]
  refine qJ (ns:=[(need:Int),(k:Int)]) ⟨T,TP,TL,TS⟩ I hc hcs hz (AT hnl) AH (by simp) (λx hx=> ?_) q
  simp only[List.mem_cons,List.not_mem_nil,or_false]at hx
  rcases hx with rfl | rfl
  ·exact kn
  ·exact⟨by omega,by omega⟩
theorem zbf{n:Nat}{H:Hp}(ps:List Nat):∀ v∈FC ps,GoodV (n+1) H v:=λv hv=>by
 obtain⟨p,_,rfl⟩:=List.mem_map.mp hv
 trivial
theorem qK{H:Hp}{t u:Addr}{m:Nat}{ps:List Nat}(h1:H t=some (.tup [.int m,.ref u]))(h2:H u=some (.tup (FC ps)))(hl:ps.length<=100):GoodV 4 H (.ref t):=⟨_,h1,by simp,λv hv=>by
 simp only[List.mem_cons,List.not_mem_nil,or_false]at hv
 rcases hv with rfl | rfl
 ·trivial
 ·exact⟨_,h2,by simp[FC];exact hl,zbf ps⟩⟩
theorem zbg(h:Q1 K a vs H Q E):XO K a (λ_=>E) (A9 Q) (A4 ["self","record","pieces","needs"] vs) H:=by
 obtain⟨X,cs,tks,M,rec,m,ps,ps',pl,nl,ns,rfl,T4,I,hr,eM,epl,hps,en,hl,kn,hcs,q⟩:=h
 have T4':=T4
 obtain⟨T,TP,TL,TS⟩:=T4
 obtain⟨dx,ho⟩:=I.ob
 obtain⟨dl,el⟩:=I.ly.ob
 obtain⟨db,eb⟩:=I.bk.bk.ob
 have hm:rec<BF X.n X.r X.c X.w 3:=by simpa [BF]using hr
 push_cast[XO,↓Td]
 refine KB TS (ho) (eb) (EG (by decide +kernel)) (KC TS (ho) (el) (C4 (by decide +kernel)) (YN TL (I.ly) λu hu=> ?_))
 have sa:=AT (o:=.tup [.int (X.n+(rec:Int) / X.w),.int ((rec:Int) % X.w)]) hu
 have eu:upd H u (.tup [.int (X.n+(rec:Int) / X.w),.int ((rec:Int) % X.w)]) u=some (.tup [.int (BN X.n X.r X.c X.w 3 rec:Nat),.int (rec % X.w:Nat)]):=by rw[AH];simp[BN]
 revert sa eu
 generalize upd H u (.tup [.int (X.n+(rec:Int) / X.w),.int ((rec:Int) % X.w)])=H2
 intro sa eu
 push_cast[]
 refine⟨_,_,sa _ _ ho,EH (by decide +kernel),X,cs,tks,M,rec,rfl,T4',I.same sa,hr,λv H3 rv s3=> ?_⟩
 rw[eM]at rv
 obtain⟨t0,u0,rfl,N9,OA⟩:=rv
 refine D3 N9 (n:=0) rfl rfl ?_
 push_cast[]
 refine⟨by decide,λt ht=> ?_⟩
 have st:=AT (o:=.tup [V.int m,V.ref pl]) ht
 have s4:=(sa.trans s3).trans st
 have e1:upd H3 t (.tup [V.int m,V.ref pl]) t=some (.tup [V.int m,V.ref pl]):=AH
 have e2:=s4 _ _ epl
 exact LX T4' (I.same s4) (kind:=3) (x:=.rc m ps') (by decide) hm (st _ _ (s3 _ _ eu)) (s4 _ _ en) hl (by omega) kn (qK e1 e2 hps) ⟨t,pl,rfl,e1,e2⟩ trivial λch H' I' sb=>q ch H' I' λb o e n=>sb _ _ (s4 _ _ e) n
theorem zbh{te:TE}{cap:List Nat}{σ:St}{b:Addr}{xs:List V}(hn:xs.length<=sizeLine)(Pv:Nat->List V->Hp->Prop)(h0:Pv 0 [] H)(hq:∀ i ys H,i<=xs.length->Pv i ys H->SqT K H b xs)
  (hs:∀ i x ys H,xs[i]? =some x->ys.length=i->Pv i ys H->te (some x::EO cap σ) H λy H2=>Pv (i+1) (ys++[y]) H2)
  (hd:∀ ys H,ys.length=xs.length->Pv xs.length ys H->∀ p,H p=none->Q (.ref p) (upd H p (.lst ys))) :
  FA (H0 K b) (AQ 0) C7 te 1 cap σ H Q:=by
 refine⟨λi m σ' ys H=>m=xs.length - i/\i<=xs.length/\ys.length=i/\(∃ x0,σ'=x0::EO cap σ)/\Pv i ys H,⟨xs.length,by simp,Nat.zero_le _,rfl,⟨none,rfl⟩,h0⟩,?_⟩
 rintro i m σ' ys H ⟨rfl,hi,hl,⟨x0,rfl⟩,p⟩
 have q:=hq i ys H hi p
 by_cases BD:i<xs.length
 ·refine .inr ⟨⟨xs,xs[i],q,by simp[BD]⟩,by omega,λx H' y=> ?_⟩
  obtain⟨e,y⟩:=y
  subst e
  have hx:=y xs q
  simp only[AQ,C7,if_true]
  refine⟨_,λy H4 q=>⟨xs.length - (i+1),by omega,rfl,BD,?_,⟨_,rfl⟩,q⟩,hs i x ys _ hx hl p⟩
  rw[List.length_append,List.length_singleton,hl]
 ·have e:i=xs.length:=by omega
  subst e
  exact .inl ⟨⟨xs,q,Nat.le_refl _⟩,hd ys H hl p⟩
section
variable{X:SX}{cs:List Ch}{tks:List (AO × V)}{M:Hs}
theorem SM.taken{z:Str}{k:Nat}(I:X.at a H cs tks M)(hk:k<cs.length)(hl:tks.length<cs.length):X.at a (upd H X.S.tk (.dK (CL tks (.inr z) (.int k)))) cs (CL tks (.inr z) (.int k)) M:=by
 have s:SameBut (· =X.S.tk) H (upd H X.S.tk (.dK (CL tks (.inr z) (.int k)))):=λy o ey n=>by rw[AG n];exact ey
 have g:∀ x,x=X.S.tk->DX (H x):=λx hx=>by rw[hx];exact PY I.tk
 have tk:FS H (upd H X.S.tk (.dK (CL tks (.inr z) (.int k)))):=NX s g
 obtain⟨⟨dx,e1⟩,e2,e3,e4,e5,e6,e7,e8,e9,e10,e11,e12⟩:=I
 obtain⟨dl,el⟩:=e2.ob
 refine⟨⟨dx,s _ _ e1 (BK e1 e4 (by intro z;cases z))⟩,e2.sb s (BK el e4 (by intro z;cases z)),e3.sb s g λx hx=>by rw[hx];exact e7,AH,Nat.le_trans (MO ..) (by omega),λy v h=> ?_,e7,e8,e9.keep tk,λkind k v h1 h2 hv=>(e10 kind k v h1 h2 hv).keep tk,e11,e12.keep tk⟩
 rw[SS]at h
 split at h
 ·cases h
  exact⟨k,rfl,hk⟩
 ·exact e6 y v h
end
theorem qL{X:SX}{cs:List Ch}{tks:List (AO × V)}{M:Hs}{H':Hp}{l:Addr}(I:X.at a H' cs tks M)(sb:SameBut (λx=>X.S.A.F x\/x=X.S.tk) H H')(hl:H' l=none):H l=none:=by
 cases e:H l with
 | none=>rfl
 | some o =>
  have:=sb _ _ e λz=>z.elim (I.bk.off hl) λz=>by rw[z,I.tk]at hl;cases hl
  rw[hl]at this
  cases this
theorem zbi(h:NR K a vs H Q E):XT K a (λ_=>E) (A9 Q) (A4 ["self","name","record","cell","mark","stands"] vs) H:=by
 obtain⟨X,cs,tks,M,z,rfl,T4,I,hzl,hcs,q,q1,q2,q3⟩:=h
 have T4':=T4
 obtain⟨dx,ho⟩:=I.ob
 have hm1:BF X.n X.r X.c X.w 1=X.r * X.w:=by simp[BF]
 have hm0:BF X.n X.r X.c X.w 0=X.m0:=by simp[BF]
 have hm3:BF X.n X.r X.c X.w 3=X.r * X.w:=by simp[BF]
 push_cast[XT,↓Ty]
 refine⟨_,_,ho,EH (by decide +kernel),by decide,λgl hgl=> ?_⟩
 have s1:=AT (o:=.lst [V.str z]) hgl
 refine⟨X,cs,tks,M,z,gl,[z],rfl,T4,I.same s1,AH,by simp,λy hy=>by rw[List.mem_singleton.mp hy];exact hzl,λhb hc H2 s2=> ?_,λhb H2 s2=>q1 (by simpa using hb) _ (s1.trans s2),λhb hc H2 s2=>q2 (by simpa using hb) hc _ (s1.trans s2)⟩
 have hb:CN z=true:=by simpa using hb
 have DY:=s1.trans s2
 clear s1 s2 hgl
 obtain⟨T,TP,TL,TS⟩:=T4
 push_cast[↓Tz]
 refine⟨_,_,_,DY _ _ ho,TS.cl,TS.n1,_,JD,_,_,_,DY _ _ ho,TS.cl,TS.n2,_,KA,X.S.lp,X.S.A.b,rfl,YO T4' (I.same DY) (by decide) (λrec er N6 H3 s3=> ?_) λer H3 s3=>q3 hb hc (.inl (by rw[<-hm1];exact er)) _ (DY.trans s3)⟩
 rw[hm1]at er N6
 have s13:=DY.trans s3
 clear DY s3
 push_cast[↓Ub]
 refine⟨_,_,_,s13 _ _ ho,TS.cl,TS.n1,_,JD,_,_,_,s13 _ _ ho,TS.cl,TS.n2,_,KA,X.S.lp,X.S.A.b,rfl,YO T4' (I.same s13) (by decide) (λcell ec BX H4 s4=> ?_) λer H3 s3=>q3 hb hc (.inr (by rw[<-hm0];exact er)) _ (s13.trans s3)⟩
 rw[hm0]at ec BX
 have s14:=s13.trans s4
 have I4:=I.same s14
 clear s13 s4
 obtain⟨dx4,ho4⟩:=I4.ob
 obtain⟨dl4,el4⟩:=I4.ly.ob
 obtain⟨db4,eb4⟩:=I4.bk.bk.ob
 push_cast[↓Uc]
 refine KB TS (ho4) (eb4) (EG (by decide +kernel)) (KC TS (ho4) (el4) (C4 (by decide +kernel)) (lRM TL (I4.ly) λu hu=>⟨by decide,λl0 hl0=> ?_⟩))
 have sa:=AT (o:=.tup [.int (X.n+X.r+X.c+(rec:Int) / X.w),.int ((rec:Int) % X.w)]) hu
 have sb:=AT (o:=.lst []) hl0
 have eu:=sb _ _ (show upd H4 u (.tup [.int (X.n+X.r+X.c+(rec:Int) / X.w),.int ((rec:Int) % X.w)]) u=some (.tup [.int (BN X.n X.r X.c X.w 1 rec:Nat),.int (rec % X.w:Nat)]) by rw[AH];simp[BN])
 have el0:upd (upd H4 u (.tup [.int (X.n+X.r+X.c+(rec:Int) / X.w),.int ((rec:Int) % X.w)])) l0 (.lst []) l0=some (.lst (([]:List Int).map V.int)):=AH
 have s5:=sa.trans sb
 revert eu el0 s5
 clear sa sb
 generalize upd (upd H4 u (.tup [.int (X.n+X.r+X.c+(rec:Int) / X.w),.int ((rec:Int) % X.w)])) l0 (.lst [])=H5
 intro eu el0 s5
 refine LX T4' (I4.same s5) (kind:=1) (x:=.mk 1) (by decide) (by rw[hm1];exact N6) eu el0 (by simp) (by omega) (λx hx=>by cases hx) trivial rfl (Nat.le_refl _) λc1 H6 I6 sb6=> ?_
 obtain⟨dx6,ho6⟩:=I6.ob
 obtain⟨dl6,el6⟩:=I6.ly.ob
 obtain⟨db6,eb6⟩:=I6.bk.bk.ob
 push_cast[↓Ud]
 refine KB TS (ho6) (eb6) (EG (by decide +kernel)) (KC TS (ho6) (el6) (C4 (by decide +kernel)) (YN TL (I6.ly) λu2 hu2=> ?_))
 push_cast[]
 refine⟨by decide,λe6 he6=>⟨by decide,λt6 ht6=>⟨by decide,λl6 hl6=> ?_⟩⟩⟩
 have sa:=AT (o:=.tup [.int (X.n+(rec:Int) / X.w),.int ((rec:Int) % X.w)]) hu2
 have sb:=AT (o:=.tup []) he6
 have sc:=AT (o:=.tup [.int 1,.ref e6]) ht6
 have sd:=AT (o:=.lst [.int cs.length]) hl6
 have s67:=((sa.trans sb).trans sc).trans sd
 have f1:=sd _ _ (sc _ _ (sb _ _ (show upd H6 u2 (.tup [.int (X.n+(rec:Int) / X.w),.int ((rec:Int) % X.w)]) u2=some (.tup [.int (BN X.n X.r X.c X.w 3 rec:Nat),.int (rec % X.w:Nat)]) by rw[AH];simp[BN])))
 have f2:=sd _ _ (sc _ _ (AH (H:=upd H6 u2 (.tup [.int (X.n+(rec:Int) / X.w),.int ((rec:Int) % X.w)])) (a:=e6) (o:=.tup [])))
 have f3:=sd _ _ (AH (H:=upd (upd H6 u2 (.tup [.int (X.n+(rec:Int) / X.w),.int ((rec:Int) % X.w)])) e6 (.tup [])) (a:=t6) (o:=.tup [.int 1,.ref e6]))
 have f4:=AH (H:=upd (upd (upd H6 u2 (.tup [.int (X.n+(rec:Int) / X.w),.int ((rec:Int) % X.w)])) e6 (.tup [])) t6 (.tup [.int 1,.ref e6])) (a:=l6) (o:=.lst [.int cs.length])
 revert s67 f1 f2 f3 f4
 generalize upd (upd (upd (upd H6 u2 (.tup [.int (X.n+(rec:Int) / X.w),.int ((rec:Int) % X.w)])) e6 (.tup [])) t6 (.tup [.int 1,.ref e6])) l6 (.lst [.int cs.length])=H7
 clear sa sb sc sd
 intro s67 f1 f2 f3 f4
 refine LX (ns:=[(cs.length:Int)]) T4' (I6.same s67) (kind:=3) (x:=.rc 1 []) (by decide) (by rw[hm3];exact N6) f1 f4 (by simp) (by simp;omega) (λx hx=>by rw[List.mem_singleton.mp hx];exact⟨by omega,by simp;omega⟩) (qK (ps:=[]) f3 f2 (by simp)) ⟨t6,e6,rfl,f3,f2⟩ trivial λc2 H8 I8 sb8=> ?_
 obtain⟨dx8,ho8⟩:=I8.ob
 push_cast[↓Ug]
 have BT:(cs++[c1]).length=cs.length+1:=by simp
 rw[BT]
 refine⟨_,_,ho8,EH (by decide +kernel),X,_,tks,_,cell,rec,cs.length+1,z,rfl,T4',I8,BX,by simp,by simp;omega,za0 hb,λc3 H9 I9 sb9=>⟨by decide,λl hl=> ?_⟩⟩
 have sl:=AT (o:=.lst [V.int cs.length,V.int (cs.length+1:Nat),V.int ((cs++[c1]++[c2]).length:Nat)]) hl
 have sbH:SameBut (λx=>X.S.A.F x\/x=X.S.tk) H H9:=λy o e n=>sb9 _ _ (sb8 _ _ (s67 _ _ (sb6 _ _ (s5 _ _ (s14 _ _ e)) λz=>n (.inl z))) λz=>n (.inl z)) λz=>n (.inl z)
 exact q hb hc rec cell er ec N6 BX [c1,c2,c3] l _ rfl (qL I9 sbH hl) (by rw[AH];simp[FC,List.range_succ]) (by have:=I9.same sl;simpa using this) λy o e n=>sl _ _ (sbH _ _ e n)
theorem cat_tup{b d:Addr}{xs ys:List V}(h1:H b=some (.tup xs))(h2:H d=some (.tup ys))(hy:ys≠[])(hl:xs.length+ys.length<=1000)(q:∀ p H',Same H H'->H' p=some (.tup (xs++ys))->Q (.ref p) H'):BB K (.ref b) (.ref d) H Q:=by
 rw[eF]
 by_cases hx:xs=[]
 ·subst hx
  exact .inr (.inr ⟨b,d,ys,rfl,rfl,SqT.of h1,SqT.of h2,q d H (Same.refl _) h2⟩)
 ·exact .inr (.inl ⟨b,d,xs,ys,rfl,rfl,SqT.of h1,SqT.of h2,hx,B7 _ (by omega),λe=>absurd e hy,λ_ p hp=>q p _ (AT hp) AH⟩)
theorem zbj(h:NS K a vs H Q E):XU K a (λ_=>E) (A9 Q) (A4 ["self","name","text","record","piece","mark","filled"] vs) H:=by
 obtain⟨X,cs,tks,M,z,t,rfl,T4,I,htl,hts,hcs,q,q1,q2,q3⟩:=h
 have T4':=T4
 obtain⟨dx,ho⟩:=I.ob
 have hm2:BF X.n X.r X.c X.w 2=X.c * X.w:=by simp[BF]
 have hm4:BF X.n X.r X.c X.w 4=X.c * X.w:=by simp[BF]
 push_cast[XU,↓Uh]
 refine⟨_,_,ho,EH (by decide +kernel),X,cs,tks,M,z,rfl,T4,I,λcell rec ec BX eM H1 s1=> ?_,λeo H3 s3=>q1 eo _ s3⟩
 obtain⟨T,TP,TL,TS⟩:=T4
 push_cast[↓Uk]
 refine⟨t,rfl,htl,λH2 s2=> ?_⟩
 have DY:=s1.trans s2
 cases hb:J4 t with
 | false =>
  push_cast[↓Uj]
  exact⟨by decide,q2 ⟨cell,ec⟩ hb _ DY⟩
 | true =>
  push_cast[↓Ul]
  refine⟨_,_,_,DY _ _ ho,TS.cl,TS.n1,_,JD,_,_,_,DY _ _ ho,TS.cl,TS.n2,_,KA,X.S.lp,X.S.A.b,rfl,YO T4' (I.same DY) (by decide) (λp ep CT H4 s4=> ?_) λer H3 s3=>q3 ⟨cell,ec⟩ hb (by rw[<-hm2];exact er) _ (DY.trans s3)⟩
  rw[hm2]at ep CT
  obtain⟨hr,m,ps,eR,hps,q⟩:=q cell rec ec BX eM hb p ep CT
  have s14:=DY.trans s4
  have I4:=I.same s14
  clear s1 s2 DY s4
  obtain⟨dx4,ho4⟩:=I4.ob
  obtain⟨dl4,el4⟩:=I4.ly.ob
  obtain⟨db4,eb4⟩:=I4.bk.bk.ob
  push_cast[↓Um]
  refine KB TS (ho4) (eb4) (EG (by decide +kernel)) (KC TS (ho4) (el4) (C4 (by decide +kernel)) (lPM TL (I4.ly) λu hu=>⟨by decide,λl0 hl0=> ?_⟩))
  have sa:=AT (o:=.tup [.int (X.n+X.r+X.c+X.r+(p:Int) / X.w),.int ((p:Int) % X.w)]) hu
  have sb:=AT (o:=.lst []) hl0
  have eu:=sb _ _ (show upd H4 u (.tup [.int (X.n+X.r+X.c+X.r+(p:Int) / X.w),.int ((p:Int) % X.w)]) u=some (.tup [.int (BN X.n X.r X.c X.w 2 p:Nat),.int (p % X.w:Nat)]) by rw[AH];simp[BN])
  have el0:upd (upd H4 u (.tup [.int (X.n+X.r+X.c+X.r+(p:Int) / X.w),.int ((p:Int) % X.w)])) l0 (.lst []) l0=some (.lst (([]:List Int).map V.int)):=AH
  have s5:=sa.trans sb
  revert eu el0 s5
  clear sa sb
  generalize upd (upd H4 u (.tup [.int (X.n+X.r+X.c+X.r+(p:Int) / X.w),.int ((p:Int) % X.w)])) l0 (.lst [])=H5
  intro eu el0 s5
  refine LX T4' (I4.same s5) (kind:=2) (x:=.mk 1) (by decide) (by rw[hm2];exact CT) eu el0 (by simp) (by omega) (λx hx=>by cases hx) trivial rfl (Nat.le_refl _) λc1 H6 I6 sb6=> ?_
  obtain⟨dx6,ho6⟩:=I6.ob
  obtain⟨dl6,el6⟩:=I6.ly.ob
  obtain⟨db6,eb6⟩:=I6.bk.bk.ob
  push_cast[↓Up]
  refine KB TS (ho6) (eb6) (EG (by decide +kernel)) (KC TS (ho6) (el6) (C4 (by decide +kernel)) (lPA TL (I6.ly) λu2 hu2=>⟨by decide,λl6 hl6=> ?_⟩))
  have sa:=AT (o:=.tup [.int (X.n+X.r+(p:Int) / X.w),.int ((p:Int) % X.w)]) hu2
  have sb:=AT (o:=.lst [.int cs.length]) hl6
  have f1:=sb _ _ (show upd H6 u2 (.tup [.int (X.n+X.r+(p:Int) / X.w),.int ((p:Int) % X.w)]) u2=some (.tup [.int (BN X.n X.r X.c X.w 4 p:Nat),.int (p % X.w:Nat)]) by rw[AH];simp[BN])
  have f4:=AH (H:=upd H6 u2 (.tup [.int (X.n+X.r+(p:Int) / X.w),.int ((p:Int) % X.w)])) (a:=l6) (o:=.lst [.int cs.length])
  have s67:=sa.trans sb
  revert s67 f1 f4
  generalize upd (upd H6 u2 (.tup [.int (X.n+X.r+(p:Int) / X.w),.int ((p:Int) % X.w)])) l6 (.lst [.int cs.length])=H7
  clear sa sb
  intro f1 f4 s67
  refine LX (ns:=[(cs.length:Int)]) T4' (I6.same s67) (kind:=4) (x:=.tx t) (by decide) (by rw[hm4];exact CT) f1 f4 (by simp) (by simp;omega) (λx hx=>by rw[List.mem_singleton.mp hx];exact⟨by omega,by simp;omega⟩) hts rfl trivial λc2 H8 I8 sb8=> ?_
  obtain⟨dx8,ho8⟩:=I8.ob
  have eR':((M.put 2 p (.mk 1) (NQ [])).put 4 p (.tx t) (NQ [(cs.length:Int)])) 3 rec=.rc m ps:=by rw[Hs.put_at,if_neg (by omega),Hs.put_at,if_neg (by omega)];exact eR
  push_cast[↓Uq]
  refine⟨_,_,ho8,EH (by decide +kernel),_,_,ho8,EH (by decide +kernel),X,_,tks,_,rec,rfl,T4',I8,hr,λv H9 rv s9=> ?_⟩
  rw[eR']at rv
  obtain⟨t0,u0,rfl,N9,OA⟩:=rv
  have BT:(cs++[c1]).length=cs.length+1:=by simp
  refine D3 N9 (n:=1) rfl rfl ⟨by decide,λt9 ht9=> ?_⟩
  have sa:=AT (o:=.tup [V.int p]) ht9
  refine cat_tup (sa _ _ OA) AH (by simp) (by simp[FC];omega) λpp H10 s10 epp=>⟨by decide,λl10 hl10=> ?_⟩
  have s11:=(s9.trans sa).trans s10
  have sc:=AT (o:=.lst [V.int ((cs++[c1]).length:Nat)]) hl10
  have DY:=s11.trans sc
  refine⟨X,_,tks,_,rec,m,ps,ps++[p],pp,l10,[((cs++[c1]).length:Int)],rfl,T4',I8.same DY,hr,eR',sc _ _ (by rw[epp];simp[FC]),by simp;omega,AH,by simp,(λx hx=>by rw[List.mem_singleton.mp hx];exact⟨by omega,by simp⟩),by simp;omega,λc3 H13 I13 sb13=>⟨by decide,λl hl=> ?_⟩⟩
  have sl:=AT (o:=.lst [V.int cs.length,V.int ((cs++[c1]).length:Nat),V.int ((cs++[c1]++[c2]).length:Nat)]) hl
  have sbH:SameBut (λx=>X.S.A.F x\/x=X.S.tk) H H13:=λy o e n=>sb13 _ _ (DY _ _ (sb8 _ _ (s67 _ _ (sb6 _ _ (s5 _ _ (s14 _ _ e)) λz=>n (.inl z))) λz=>n (.inl z))) λz=>n (.inl z)
  exact q [c1,c2,c3] l _ rfl (qL I13 sbH hl) (by rw[AH];simp[FC,List.range_succ]) (by have:=I13.same sl;simpa using this) λy o e n=>sl _ _ (sbH _ _ e n)
theorem zbk(h:NT K a vs H Q E):XV K a (λ_=>E) (A9 Q) (A4 ["self","name","pieces"] vs) H:=by
 obtain⟨X,cs,tks,M,z,rfl,T4,I,q,q1⟩:=h
 have T4':=T4
 obtain⟨T,TP,TL,TS⟩:=T4
 obtain⟨dx,ho⟩:=I.ob
 obtain⟨dl,el⟩:=I.ly.ob
 obtain⟨db,eb⟩:=I.bk.bk.ob
 push_cast[XV,↓Uv]
 refine⟨_,_,ho,EH (by decide +kernel),_,_,ho,EH (by decide +kernel),X,cs,tks,M,z,rfl,T4',I,λcell rec ec BX eM H1 s1=> ?_,λeo H3 s3=>q1 eo _ s3⟩
 obtain⟨hr,m,ps,eR,hps,ts,pt,q⟩:=q cell rec ec BX eM
 refine⟨X,cs,tks,M,rec,rfl,T4',I.same s1,hr,λv H2 rv s2=> ?_⟩
 rw[eR]at rv
 obtain⟨t0,u0,rfl,N9,OA⟩:=rv
 refine D3 N9 (n:=1) rfl rfl ?_
 have DY:=s1.trans s2
 push_cast[↓Uw]
 refine .inr ⟨⟨_,SqT.of OA⟩,zbh (xs:=FC ps) (B7 _ (by simp[FC];omega)) (λi ys H'=>Same H2 H'/\ys=(ts.take i).map V.str) ⟨Same.refl _,rfl⟩ (λi ys H' _ ⟨s',_⟩=>SqT.of (s' _ _ OA)) (λi x ys H' hx hyl ⟨s',ey⟩=> ?_) (λys H' hyl ⟨s',ey⟩ lc hlc=> ?_)⟩
 ·unfold FC at hx
  rw[List.getElem?_map,Option.map_eq_some_iff]at hx
  obtain⟨p,ep,rfl⟩:=hx
  have hti:i<ts.length:=by have:=(List.getElem?_eq_some_iff.mp ep).1;have:=pt.length;omega
  have eti:=List.getElem?_eq_getElem hti
  obtain⟨p',ep',hpc,eP⟩:=MZ pt eti
  rw[ep]at ep'
  cases ep'
  have hm:p<BF X.n X.r X.c X.w 4:=by simpa [BF]using hpc
  have sH:=DY.trans s'
  have I':=I.same sH
  push_cast[EO]
  refine⟨_,_,_,sH _ _ ho,TS.cl,TS.n2,_,KA,X.S.A.b,rfl,_,_,sH _ _ eb,EG (by decide +kernel),_,_,_,sH _ _ ho,TS.cl,TS.n1,_,JD,X.S.lp,rfl,_,_,sH _ _ el,C4 (by decide +kernel),X.S.lp,X.n,X.r,X.c,X.w,p,rfl,TL,I'.ly,λu' hu'=> ?_⟩
  have su:=AT (o:=.tup [.int (X.n+X.r+(p:Int) / X.w),.int ((p:Int) % X.w)]) hu'
  refine⟨X.S.A,X.w,X.rows,X.nn,cs,X.outs,u',(BN X.n X.r X.c X.w 4 p:Nat),(p % X.w:Nat),rfl,T,TP,I'.bk.same su,by rw[AH];simp[BN],λ_ v H3 ev s3=> ?_,λz=>absurd (I.onPl (kind:=4) (by decide) hm) z⟩
  have rv:=I.rp 4 p v (by decide) hm ev
  rw[eP]at rv
  rw[show v=.str ts[i]from rv]
  refine⟨(s'.trans su).trans s3,?_⟩
  rw[List.take_add_one,eti,ey,List.map_append]
  rfl
 ·have hl:(FC ps).length=ts.length:=by rw[<-pt.length];simp[FC]
  rw[hl,List.take_length]at ey
  subst ey
  have sl:=AT (o:=.lst (ts.map V.str)) hlc
  exact q lc _ (DY.free (s'.free hlc)) ((DY.trans s').trans sl) AH
theorem zbl{c:Nat}:[c]<(Str.ofString "0").cps.toList↔c<48:=by
 rw[show(Str.ofString "0").cps.toList=[48] by decide +kernel,List.cons_lt_cons_iff]
 simp
theorem zbm{c:Nat}:(Str.ofString "9").cps.toList<[c]↔57<c:=by
 rw[show(Str.ofString "9").cps.toList=[57] by decide +kernel,List.cons_lt_cons_iff]
 simp
theorem zbn{lp gp st:Addr}:(hf lp gp st).lookup ("plan":Str)=some (.ref lp):=rfl
theorem zbo{lp gp st:Addr}:(hf lp gp st).lookup ("ground":Str)=some (.ref gp):=rfl
theorem zbp(h:Q5 K a vs H Q E):VV K a (λ_=>E) (A9 Q) (A4 ["self"] vs) H:=by
 obtain⟨h,dh,lp,gp,st,rfl,T,e,q⟩:=h
 push_cast[VV,↓Kg]
 exact⟨_,_,_,e,T.cl,T.n2,_,zbo,q⟩
theorem zbq(h:Q2 K a vs H Q E):VW K a (λ_=>E) (A9 Q) (A4 ["word"] vs) H:=by
  obtain⟨z,rfl,hz,q⟩:=h
  push_cast[VW,↓Kh,↓Kj,↓Kk]
  have ez:z.cps.toList.length=z.length:=by simp[Str.length]
  unfold LR at q
  rw[ez]at q
  refine⟨z.length,⟨B7 _ (by omega),rfl⟩,?_⟩
  split
  · rename_i h1
    rw[show decide (1<=z.length)=true from decide_eq_true (by omega),Bool.true_and]at q
    by_cases h2:z.length<=3
    · rw[show decide (z.length<=3)=true from decide_eq_true h2,Bool.true_and]at q
      rw[if_neg (by omega)]
      refine YL hz (f:=λc=>decide (48<=c) && decide (c<=57)) (λc Q' q'=> ?_) λH' s=>⟨_,rfl,?_⟩
      · push_cast[zbl,zbm]
        split
        · rename_i h3
          rw[show decide (48<=c)=true from decide_eq_true (by omega),Bool.true_and]at q'
          rw[show(!decide (57<c))=decide (c<=57) by rw[<-decide_not];exact decide_eq_decide.mpr (by omega)]
          exact q'
        · rename_i h3
          rw[show decide (48<=c)=false from decide_eq_false (by omega),Bool.false_and]at q'
          exact q'
      · have q':=q H' s
        revert q'
        cases z.cps.toList.all λc=>decide (48<=c) && decide (c<=57)with
        | false=>intro q';rw[if_pos rfl];exact q'
        | true =>
          intro q'
          rw[if_neg (by simp)]
          rw[Bool.true_and]at q'
          have e0:(Str.ofString "0").cps.toList=[48]:=by decide +kernel
          by_cases h4:z=Str.ofString "0"
          · rw[if_pos h4]
            rw[h4,e0]at q'
            exact q'
          · rw[if_neg h4]
            have h5:¬ z.cps.toList=[48]:=λe=>h4 (by rw[<-J0 z,e,<-e0,J0])
            rw[decide_eq_false h5,Bool.false_or]at q'
            cases hl:z.cps.toList with
            | nil=>rw[hl]at ez;simp at ez;omega
            | cons c r =>
              refine qD (n:=0) rfl (by omega) (by rw[hl];rfl) ?_
              rw[hl]at q'
              push_cast[]
              have e1:(!decide ((⟨#[c]⟩:Str)=Str.ofString "0"))=decide ((c::r).head? ≠some 48):=by
                rw[<-decide_not]
                refine decide_eq_decide.mpr (not_congr ⟨λe=> ?_,λe=> ?_⟩)
                · have:=congrArg (λs:Str=>s.cps.toList) e
                  rw[e0]at this
                  simpa using this
                · simp at e
                  rw[e];decide +kernel
              rw[e1]
              exact q'
    · rw[show decide (z.length<=3)=false from decide_eq_false h2]at q
      rw[if_pos (by omega)]
      exact q H (Same.refl _)
  · rename_i h1
    rw[show decide (1<=z.length)=false from decide_eq_false (by omega)]at q
    exact q H (Same.refl _)
theorem zbr(h:NV K a vs H Q E):VX K a (λ_=>E) (A9 Q) (A4 ["told","out","held"] vs) H:=by
 obtain⟨t,ol,hl,out,held,rfl,⟨e1,e2,hs,e3,P⟩,h1,h2,q⟩:=h
 push_cast[VX,↓Kl,↓Km,↓Kp]
 have hp:=P.length
 exact D3 e1 (n:=0) rfl rfl ⟨out.length,.inl ⟨_,SqL.of e2,by rw[List.length_map]⟩,D3 e1 (n:=1) rfl rfl ⟨held.length,.inl ⟨_,SqL.of e3,by rw[List.length_map,hp]⟩,by omega,by omega,by omega,by omega,q⟩⟩
theorem zbs(h:LS K a vs H Q E):VY K a (λ_=>E) (A9 Q) (A4 ["parts"] vs) H:=by
 obtain⟨l,ks,rfl,e,hl,q⟩:=h
 push_cast[VY,↓Kq]
 unfold Q4 at q
 refine⟨ks.length,.inl ⟨_,SqL.of e,by rw[List.length_map]⟩,?_⟩
 cases ks with
 | nil=>exact q
 | cons k r =>
  rw[if_pos (by simp)]
  rw[if_neg (by simp)]at q
  exact⟨rfl,_,l,_,rfl,rfl,SqL.of e,by decide +kernel,by omega,q⟩
theorem zbt(h:Q3 K a vs H Q E):WW K a (λ_=>E) (A9 Q) (A4 ["row","kind","words"] vs) H:=by
  obtain⟨z,rfl,T,hz,q1,q2⟩:=h
  push_cast[WW,↓Pd]
  refine⟨rfl,z,_,rfl,rfl,by decide +kernel,by omega,λt ht=>D3 AH (n:=0) rfl rfl ?_⟩
  have s1:=AT (o:=.tup [.str (Txt.partition z (Str.ofString " ")).1,.str (Txt.partition z (Str.ofString " ")).2.1,.str (Txt.partition z (Str.ofString " ")).2.2]) ht
  revert s1
  generalize upd H t (.tup [.str (Txt.partition z (Str.ofString " ")).1,.str (Txt.partition z (Str.ofString " ")).2.1,.str (Txt.partition z (Str.ofString " ")).2.2])=H1
  intro s1
  rw[show(Txt.partition z (Str.ofString " ")).1=CG ((CK z.cps.toList).headD [])from Jp z (by omega)]
  unfold C5 HR at q1 q2
  have hs:Txt.split z (Str.ofString " ")=(CK z.cps.toList).map CG:=U6 z
  have hm:Txt.splitMax z (Str.ofString " ") 2=(NI (CK z.cps.toList)).map CG:=Jm z
  have hw:∀ w∈CK z.cps.toList,w.length<=z.cps.toList.length:=λw h=>QC h
  revert q1 q2 hs hm hw
  generalize CK z.cps.toList=ws
  generalize CG (ws.headD [])=k
  intro q1 q2 hs hm hw
  push_cast[↓Ph]
  cases ht:F2 LQ k with
  | none =>
    simp only[ht]at q2
    rw[if_pos (by rfl)]
    push_cast[↓Pg]
    exact⟨by decide,q2 trivial _ s1⟩
  | some n =>
    simp only[ht]at q1 q2
    rw[if_neg (by simp)]
    push_cast[↓Pj]
    have fin:∀ {vs:List (List Nat)} {l:Addr} {H3:Hp},(if k=("put":Str)then NI ws else ws)=vs->H l=none->Same H H3->H3 l=some (.lst ((vs.map CG).map V.str))->WT K a (λ_=>E) (λ_=>E) { nx:=AK (WU K a (λ_=>E) λ_=>E) (WV K a (λ_=>E) λ_=>E) (A9 Q),rt:=Q } [some (.str z),some (.str k),some (.ref l)] H3:=by
      intro vs l H3 ev hl s3 el
      rw[ev]at q1 q2
      push_cast[↓Pl]
      refine⟨vs.length,.inl ⟨_,SqL.of el,by rw[List.length_map,List.length_map]⟩,n,ht,?_⟩
      by_cases hn:(vs.length:Int)=n
      · rw[if_neg (by simpa using hn)]
        rw[if_neg (by simpa using hn)]at q1 q2
        push_cast[↓Pp]
        refine⟨_,_,rfl,.inr (T.wn H3),rfl,rfl,⟨_,rfl,?_⟩⟩
        have ei:JP (.str k) (J6.map V.str)=decide (k∈J6):=by
          show((Str.ofString "take") == k || ((Str.ofString "write") == k || false))=_
          rw[Bool.eq_iff_iff]
          simp only[Bool.or_eq_true,beq_iff_eq,Bool.false_eq_true,or_false,decide_eq_true_eq,J6,List.mem_cons,List.not_mem_nil]
          exact⟨λh=>h.imp Eq.symm Eq.symm,λh=>h.imp Eq.symm Eq.symm⟩
        simp only[Bool.false_eq_true,if_false]
        rw[ei]
        by_cases hk:k∈J6
        · rw[if_pos (decide_eq_true hk)]
          have hv:vs≠[]:=λe=>by
            rw[e]at hn
            have:n=0:=hn.symm
            rw[this]at ht
            rcases(show k=("take":Str)\/k=("write":Str) by simpa [J6]using hk)with h | h
            ·rw[h]at ht;revert ht;decide +kernel
            ·rw[h]at ht;revert ht;decide +kernel
          obtain⟨us,u,rfl⟩:∃ us u,vs=us++[u]:=⟨vs.dropLast,vs.getLast hv,(List.dropLast_concat_getLast hv).symm⟩
          refine .inl ⟨l,_,_,.str (CG u),rfl,rfl,SqL.of el,?_,CG u,rfl,?_,λH4 s4=>⟨_,rfl,?_⟩⟩
          · rw[List.map_append,List.map_append]
            exact Jq
          · have kp:¬ k=("put":Str):=λe=>by rw[e]at hk;revert hk;decide +kernel
            rw[if_neg kp]at ev
            have:=hw u (by rw[ev];exact List.mem_append_right _ List.mem_cons_self)
            show u.toArray.size<=_
            rw[List.size_toArray]
            have ez:z.cps.toList.length=z.length:=by simp[Str.length]
            omega
          · rw[show LR ((us++[u]).getLastD [])=LR u by simp]at q1 q2
            have eu:(CG u).cps.toList=u:=rfl
            rw[eu]
            cases hu:LR u with
            | false =>
              rw[if_pos ⟨hk,hu⟩]at q2
              rw[if_pos rfl]
              push_cast[↓Pm]
              exact⟨by decide,q2 rfl _ (s3.trans s4)⟩
            | true =>
              rw[if_neg (by rw[hu];simp)]at q1
              rw[if_neg (by simp)]
              push_cast[↓k8]
              exact q1 _ rfl _ _ hl (s3.trans s4) (s4 _ _ el)
        · rw[if_neg (by rw[decide_eq_true_eq];exact hk)]
          rw[if_neg λz=>hk z.1]at q1
          push_cast[↓k8]
          exact q1 _ rfl _ _ hl s3 el
      · rw[if_pos hn]
        rw[if_pos hn]at q2
        push_cast[↓Pk]
        exact⟨by decide,q2 rfl _ s3⟩
    split
    · rename_i hk
      refine⟨rfl,z,_,rfl,by decide +kernel,by omega,.inr ⟨2,by omega,rfl,λl hl=> ?_⟩⟩
      have hm2:Txt.splitMax z (Str.ofString " ") ((2:Nat):Int)=(NI ws).map CG:=hm
      rw[hm2]
      exact fin (if_pos hk) (s1.free hl) (s1.trans (AT hl)) AH
    · rename_i hk
      refine⟨rfl,z,_,rfl,by decide +kernel,by omega,.inl ⟨rfl,λl hl=> ?_⟩⟩
      rw[hs]
      exact fin (if_neg hk) (s1.free hl) (s1.trans (AT hl)) AH
theorem zbu{cs:List Ch}{O:Int->Bool}{b j:Nat}{row:List V}(hn:DW cs (b:Nat) (j:Nat)=none):(F3 cs O b row)[j]? =row[j]? :=by
 rw[Jd,gP]
 cases el:HM cs ((CM cs b).filter λ(k:Nat)=>O k) j with
 | none=>simp
 | some c =>
  exfalso
  obtain⟨k,hk,ec,ecell,_⟩:=gQ el
  obtain⟨c',ec',eb⟩:=Hz.mp (List.mem_filter.mp hk).1
  rw[ec]at ec'
  cases ec'
  obtain⟨j0,c0,hn0,_⟩:=Jg ec
  rw[eb,ecell,hn]at hn0
  cases hn0
theorem zbv{cs:List Ch}{O:Int->Bool}{b:Nat}{row:List V}{v:V}(h:v∈F3 cs O b row):v∈row\/∃ c∈cs,v=c.val:=by
 unfold F3 at h
 revert h
 generalize CM cs b=l
 induction l generalizing row with
 | nil=>exact .inl
 | cons k l ih =>
  intro h
  rw[List.foldl_cons]at h
  rcases ih h with h | h
  ·unfold HL at h
   split at h
   ·split at h
    ·rename_i c ec
     rcases List.mem_or_eq_of_mem_set h with h | h
     ·exact .inl h
     ·exact .inr ⟨c,List.mem_of_getElem? ec,h⟩
    ·exact .inl h
   ·exact .inl h
  ·exact .inr h
theorem zbw(h:NU K a vs H Q E):XB K a (λ_=>E) (A9 Q) (A4 ["self","block"] vs) H:=by
 obtain⟨X,cs,tks,M,b,rfl,⟨T,TP,TL,TS⟩,I,q,qE⟩:=h
 obtain⟨dx,ho⟩:=I.ob
 obtain⟨db,eb⟩:=I.bk.bk.ob
 obtain⟨dp,ep⟩:=I.bk.pk.ob
 push_cast[XB,↓Rq]
 refine⟨_,_,_,ho,TS.cl,TS.n2,_,KA,X.S.A.b,rfl,_,_,eb,EG (by decide +kernel),X.S.A,X.w,X.rows,X.nn,cs,X.outs,b,rfl,T,TP,I.bk,λb' row t ol hl H' eb' er _ _ _ told B' sb=> ?_,λz=>qE (by omega)⟩
 obtain rfl:b=b':=by omega
 have hb:=(List.getElem?_eq_some_iff.mp er).1
 have lo:∀ x,X.S.A.F x->DX (H x):=λx hx=>I.bk.loose hx
 have tk:FS H H':=λy ys e=>sb _ _ e λz=>z.elim (λz=>(lo _ z).1 _ e) λz=>by rw[z,ep]at e;cases e
 obtain⟨⟨dx,e1⟩,e2,e3,e4,e5,e6,e7,e8,e9,e10,e11,e12⟩:=I
 obtain⟨dl,el⟩:=e2.ob
 refine q row er t ol hl H' told ⟨⟨dx,sb _ _ e1 λz=>z.elim (λz=>(lo _ z).2 _ _ _ e1) λz=> ?_⟩,e2.sb sb λz=>z.elim (λz=>(lo _ z).2 _ _ _ el) λz=> ?_,B',sb _ _ e4 λz=>z.elim e7 λz=> ?_,e5,e6,e7,⟨e8.1,e8.2.1,e8.2.2.1,e8.2.2.2.1,by show(X.rows.set b _).length=X.n+X.r+X.c+X.r+X.c;rw[List.length_set];exact e8.2.2.2.2⟩,⟨λq hq v hv=> ?_,(e9.keep tk).2⟩,λkind k v h1 hk hv=> ?_,e11,e12.keep tk⟩ sb
 ·rw[show X.S.st=X.S.A.gp from z,ep]at e1
  injection e1 with e1
  injection e1 with _ _ e1
  have:=congrArg (·.lookup ("plan":Str)) e1
  simp only[JD]at this
  rw[IK _ _ _ (by decide +kernel) (by decide +kernel) (by decide +kernel)]at this
  cases this
 ·rw[show X.S.lp=X.S.A.gp from z,ep]at el
  injection el with el
  injection el with _ _ el
  exact absurd (congrArg List.length el) (by simp[pf,lf])
 ·rw[show X.S.tk=X.S.A.gp from z,ep]at e4;cases e4
 ·have g:=e9.keep tk
  rcases List.mem_or_eq_of_mem_set hq with hq | hq
  ·exact g.1 q hq v hv
  ·rw[hq]at hv
   rcases zbv hv with hv | ⟨c,hc,rfl⟩
   ·exact g.1 row (List.mem_of_getElem? er) v hv
   ·exact g.2 c hc
 ·have hv:D5 cs (X.rows.set b (F3 cs (GJ cs X.outs b) b row)) (BN X.n X.r X.c X.w kind k:Nat) (k % X.w:Nat)=some v:=hv
  refine(e10 kind k v h1 hk ?_).keep tk
  rw[<-hv]
  unfold D5
  cases en:DW cs (BN X.n X.r X.c X.w kind k:Nat) (k % X.w:Nat)with
  | some j=>rfl
  | none =>
   show(X.rows[((BN X.n X.r X.c X.w kind k:Nat):Int).toNat]?).bind _=((X.rows.set b _)[((BN X.n X.r X.c X.w kind k:Nat):Int).toNat]?).bind _
   rw[Int.toNat_natCast]
   by_cases e:BN X.n X.r X.c X.w kind k=b
   ·rw[e]at en ⊢
    rw[er,List.getElem?_set_self hb]
    show row[_]? =(F3 cs _ b row)[_]?
    rw[Int.toNat_natCast,zbu en]
   ·rw[List.getElem?_set_ne (λz=>e z.symm)]
theorem SM.far{X:SX}{cs:List Ch}{tks:List (AO × V)}{M:Hs}{G:Addr->Prop}{H':Hp}{e C dx:Addr}{fs:List (Str × V)}(I:X.at a H cs tks M)(he:H e=some (.ins C dx fs))(hc:∀ pl v nt,fs≠EF pl v nt)(n1:X.S.st≠e)(n2:X.S.lp≠e)(n3:X.S.A.b≠e)(n4:X.S.A.gp≠e)(s:SameBut G H H')(g:∀ x,G x->x=e\/DX (H x))(f:∀ x,G x->x=e\/(¬ X.S.A.F x/\x≠X.S.tk)):X.at a H' cs tks M:=by
 have ne:∀ {y:Addr} {o:HO},H y=some o->(∀ C dx fs,o≠.ins C dx fs)->y≠e:=λh n z=>by rw[z,he]at h;cases h;exact n _ _ _ rfl
 have kT:FS H H':=λy ys h=>s _ _ h λz=>(g _ z).elim (ne h (by intro _ _ _ z;cases z)) λl=>l.1 _ h
 have kI:∀ {y C' dx':Addr} {fs':List (Str × V)},H y=some (.ins C' dx' fs')->y≠e->H' y=some (.ins C' dx' fs'):=λh n=>s _ _ h λz=>(g _ z).elim n λl=>l.2 _ _ _ h
 have kF:∀ {y:Addr} {o:HO},H y=some o->X.S.A.F y->H' y=some o:=λh hf=>s _ _ h λz=>(f _ z).elim (λz=>(I.bk.loose hf).2 _ _ _ (z ▸ he)) λq=>q.1 hf
 obtain⟨⟨d1,e1⟩,e2,⟨⟨⟨d3,b1⟩,⟨chs,b2,b3⟩,b4,b5,b6,⟨AD,b7,b8⟩,⟨CP,b9,b10⟩,r1,r2,r3,r4,r5⟩,⟨⟨d4,p1⟩,⟨ts,p2,p3⟩,q1,q2,q3⟩,nb⟩,e4,e5,e6,e7,e8,e9,e10,e11,e12⟩:=I
 obtain⟨dl,el⟩:=e2.ob
 refine⟨⟨d1,kI e1 n1⟩,e2.sb (F:=λy=>y=e\/DX (H y)) (λy o h n=>s _ _ h λz=>n (g _ z)) λz=>z.elim n2 λl=>l.2 _ _ _ el,⟨⟨⟨d3,kI b1 n3⟩,⟨chs,kF b2 (.inl rfl),Paired.mapP b3 λx c h=> ?_⟩,kF b4 (.inr (.inl rfl)),λi l h=>kF (b5 i l h) (.inr (.inr (.inl (List.mem_of_getElem? h)))),b6,⟨AD,kF b7 (.inr (.inr (.inr (.inl rfl)))),b8⟩,⟨CP,kF b9 (.inr (.inr (.inr (.inr (.inl rfl))))),b10⟩,r1,r2,r3,r4,r5⟩,⟨⟨d4,kI p1 n4⟩,⟨ts,kF p2 (.inr (.inr (.inr (.inr (.inr rfl))))),Paired.mapP p3 λt r q=>kT _ _ q⟩,q1,q2,q3⟩,nb⟩,s _ _ e4 λz=>(f _ z).elim (ne e4 (by intro _ _ _ z;cases z)) λq=>q.2 rfl,e5,e6,e7,e8,e9.keep kT,λkind k v h1 h2 hv=>(e10 kind k v h1 h2 hv).keep kT,e11,e12.keep kT⟩
 obtain⟨dx',pl,nt,c1,c2,c3⟩:=h
 exact⟨dx',pl,nt,kI c1 λz=>by rw[z,he]at c1;injection c1 with c1;injection c1 with _ _ c1;exact hc _ _ _ c1,kT _ _ c2,kT _ _ c3⟩
theorem SM.sbG{X:SX}{cs:List Ch}{tks:List (AO × V)}{M:Hs}{G:Addr->Prop}{H':Hp}(I:X.at a H cs tks M)(s:SameBut G H H')(g:∀ x,G x->DX (H x))(f:∀ x,G x->¬ X.S.A.F x/\x≠X.S.tk):X.at a H' cs tks M:=by
 have tk:FS H H':=NX s g
 obtain⟨⟨dx,e1⟩,e2,e3,e4,e5,e6,e7,e8,e9,e10,e11,e12⟩:=I
 obtain⟨dl,el⟩:=e2.ob
 exact⟨⟨dx,s _ _ e1 λz=>(g _ z).2 _ _ _ e1⟩,e2.sb s λz=>(g _ z).2 _ _ _ el,e3.sb s g λx hx=>(f x hx).1,s _ _ e4 λz=>(f _ z).2 rfl,e5,e6,e7,e8,e9.keep tk,λkind k v h1 h2 hv=>(e10 kind k v h1 h2 hv).keep tk,e11,e12.keep tk⟩
def JE(lp gp:Addr):List (Str × V):=[("plan",.ref lp),("ground",.ref gp)]
theorem StAt.same{st:Addr}{H':Hp}(h:StAt a H st)(s:Same H H'):StAt a H' st:=by
 obtain⟨dx,lp,b,tk,e⟩:=h
 exact⟨dx,lp,b,tk,s _ _ e⟩
theorem zbx(h:LT K a vs H Q E):XW K a (λ_=>E) (A9 Q) (A4 ["store","words","kind"] vs) H:=by
 obtain⟨st,l,ws,rfl,⟨dx,lp,b,tk,es⟩,el,h⟩:=h
 push_cast[XW,↓Ux]
 rcases h with⟨y,rfl,h⟩ | ⟨y,t,rfl,h⟩
 ·refine DF (SqL.of el) (n:=0) rfl rfl ?_
  push_cast[↓oR,↓Uy]
  exact⟨_,_,es,EH (by decide +kernel),DF (SqL.of el) (n:=1) rfl rfl h⟩
 ·refine DF (SqL.of el) (n:=0) rfl rfl ?_
  push_cast[↓oR]
  rw[if_neg (by decide +kernel)]
  push_cast[↓Vl]
  rw[if_neg (by decide +kernel)]
  push_cast[↓Vk]
  rw[if_neg (by decide +kernel)]
  push_cast[↓Vj,↓Vc]
  exact⟨_,_,es,EH (by decide +kernel),DF (SqL.of el) (n:=1) rfl rfl (DF (SqL.of el) (n:=2) rfl rfl h)⟩
theorem zby(h:LU K a vs H Q E):XY K a (λ_=>E) (A9 Q) (A4 ["store","words","kind"] vs) H:=by
 obtain⟨st,l,ws,rfl,⟨dx,lp,b,tk,es⟩,el,h⟩:=h
 push_cast[XY,↓Vm]
 rcases h with⟨b,rfl,hb,h⟩ | ⟨rfl,h⟩ | ⟨y,rfl,h⟩
 ·refine DF (SqL.of el) (n:=0) rfl rfl ?_
  push_cast[↓XX,↓Vp]
  exact⟨_,_,es,EH (by decide +kernel),DF (SqL.of el) (n:=1) rfl rfl ⟨_,b,rfl,Nat.le_trans (NC (by omega) (by omega)) (by omega),W.KIN.num_reads (by omega) (by omega),h⟩⟩
 ·refine DF (SqL.of el) (n:=0) rfl rfl ?_
  push_cast[↓XX]
  rw[if_neg (by decide +kernel)]
  push_cast[↓oY]
  rw[if_neg (by decide +kernel)]
  push_cast[↓o3]
  rw[if_neg (by decide +kernel)]
  push_cast[↓Vw]
  exact⟨_,_,es,EH (by decide +kernel),h⟩
 ·refine DF (SqL.of el) (n:=0) rfl rfl ?_
  push_cast[↓XX]
  rw[if_neg (by decide +kernel)]
  push_cast[↓oY]
  rw[if_neg (by decide +kernel)]
  push_cast[↓o3,↓Vv]
  exact⟨rfl,_,_,es,EH (by decide +kernel),DF (SqL.of el) (n:=1) rfl rfl h⟩
theorem zbz{k:Str}{Q:VK}(T:EA K a)(q:Q (.bl (decide (k∈IP))) H):M8 K (.str k) (.ref (a "DEEDS")) H Q:=by
 refine⟨_,_,rfl,.inr (T.dd H),rfl,rfl,?_⟩
 have ei:JP (.str k) (IP.map V.str)=decide (k∈IP):=by
  show((Str.ofString "make") == k || ((Str.ofString "link") == k || ((Str.ofString "cut") == k || ((Str.ofString "put") == k || ((Str.ofString "take") == k || ((Str.ofString "move") == k || false))))))=_
  rw[Bool.eq_iff_iff]
  simp only[Bool.or_eq_true,beq_iff_eq,Bool.false_eq_true,or_false,decide_eq_true_eq,IP,List.mem_cons,List.not_mem_nil]
  have e:∀ {x:Str},x=k↔k=x:=⟨Eq.symm,Eq.symm⟩
  rw[e,e,e,e,e,e]
 simp only[Bool.false_eq_true,if_false]
 rw[ei]
 exact q
theorem zb0(h:EU K a vs H Q E):XZ K a (λ_=>E) (A9 Q) (A4 ["self","row","words"] vs) H:=by
 obtain⟨h,dh,lp,gp,st,z,rfl,T,eh,est,hz,hh⟩:=h
 push_cast[XZ,↓Vx]
 have hst:(hf lp gp st).lookup (Str.ofString "store")=some (.ref st):=rfl
 rcases hh with⟨e,q⟩ | ⟨w,ws,e,nw,q⟩
 ·refine⟨z,rfl,T,hz,?_,λ_=>q⟩
  intro ws' e'
  rw[e]at e'
  cases e'
 ·refine⟨z,rfl,T,hz,λws' e' l H1 hl s1 el=> ?_,λe'=>by rw[e]at e';cases e'⟩
  rw[e]at e'
  cases e'
  have q:=q l H1 s1 el
  push_cast[↓Wb]
  refine DF (SqL.of el) (n:=0) rfl rfl (zbz T ⟨_,rfl,?_⟩)
  rcases q with⟨hd,q⟩ | ⟨hd,q⟩
  ·rw[if_pos (decide_eq_true hd)]
   push_cast[↓Vy,↓Vz]
   exact⟨_,_,_,s1 _ _ eh,T.ho.cl,T.ho.n3,_,hst,q⟩
  ·rw[if_neg (by rw[decide_eq_true_eq];exact hd)]
   push_cast[↓Wd]
   refine DF (SqL.of el) (n:=0) rfl rfl ?_
   push_cast[]
   rw[if_neg nw]
   push_cast[↓Wg]
   exact⟨_,_,_,s1 _ _ eh,T.ho.cl,T.ho.n3,_,hst,q⟩
theorem zb1(h:J7 K a vs H Q E):XQ K a (λ_=>E) (A9 Q) (A4 ["self","layout"] vs) H:=by
 obtain⟨h,dh,lp,n,r,c,w,rfl,T,eh,L,sz,q⟩:=h
 push_cast[XQ,↓Tg]
 obtain⟨T4,TH,_,_⟩:=T
 have T4':=T4
 obtain⟨TB',TP,TL,TS⟩:=T4
 refine⟨_,_,_,eh,TH.cl,TH.n1,by decide,?_⟩
 push_cast[↓Th]
 obtain⟨dl,el⟩:=L.ob
 have nh:lp≠h:=λz=>by
  rw[z,eh]at el
  injection el with el
  injection el with _ _ el
  exact absurd (congrArg List.length el) (by simp[lf])
 have k1:∀ {y:Addr} {o:HO} {f:List (Str × V)},H y=some o->y≠h->upd H h (.ins (a "House") dh f) y=some o:=λe n=>by rw[AG n];exact e
 have L1:∀ {f:List (Str × V)},LayAt a (upd H h (.ins (a "House") dh f)) lp n r c w:=L.sb (F:=(· =h)) (λy o e n=>k1 e n) nh
 obtain⟨H1,eH1,eh1,L1',f1,k1'⟩:∃ H1,H1=upd H h (.ins (a "House") dh (AZ (Str.ofString "plan") (.ref lp) []))/\H1 h=some (.ins (a "House") dh (AZ (Str.ofString "plan") (.ref lp) []))/\LayAt a H1 lp n r c w/\(∀ y,H1 y=none->H y=none)/\∀ y o,H y=some o->y≠h->H1 y=some o:=⟨_,rfl,AH,L1,λy hy=>(by
  by_cases z:y=h
  ·rw[z,AH]at hy;cases hy
  ·rw[AG z]at hy;exact hy),λy o e n=>k1 e n⟩
 rw[<-eH1]
 obtain⟨dl1,el1⟩:=L1'.ob
 refine⟨_,_,el1,C4 (by decide +kernel),lp,n,r,c,w,rfl,TL,TP,L1',λgp cl H2 hgp BX P2 s2=>⟨_,_,_,s2 _ _ eh1,TH.cl,TH.n2,by rw[HJ];show 1<1000;omega,?_⟩⟩
 push_cast[↓Tj]
 have e12:AZ (Str.ofString "ground") (.ref gp) (AZ (Str.ofString "plan") (.ref lp) [])=JE lp gp:=by
  rw[HJ,IZ (by decide +kernel),HJ]
  rfl
 rw[e12]
 have ngp:gp≠h:=(BL eh1 hgp).symm
 have ncl:cl≠h:=(BL eh1 BX).symm
 obtain⟨H3,eH3,eh3,k3,f3⟩:∃ H3,H3=upd H2 h (.ins (a "House") dh (JE lp gp))/\H3 h=some (.ins (a "House") dh (JE lp gp))/\(∀ y o,H2 y=some o->y≠h->H3 y=some o)/\∀ y,H3 y=none->H2 y=none:=⟨_,rfl,AH,λy o e n=>by rw[AG n];exact e,λy hy=>(by
  by_cases z:y=h
  ·rw[z,AH]at hy;cases hy
  ·rw[AG z]at hy;exact hy)⟩
 rw[<-eH3]
 have L3:LayAt a H3 lp n r c w:=(L1'.same s2).sb (F:=(· =h)) k3 nh
 have P3:PlankAt a H3 gp cl w (List.replicate (n+r+c+r+c) (List.replicate w .non)) 0:=by
  obtain⟨⟨dx,p1⟩,⟨ts,p2,p3⟩,q1,q2,q3⟩:=P2
  exact⟨⟨dx,k3 _ _ p1 ngp⟩,⟨ts,k3 _ _ p2 ncl,Paired.mapP p3 λt r q=>k3 _ _ q λz=>by rw[z,s2 _ _ eh1]at q;cases q⟩,q1,q2,q3⟩
 refine⟨_,_,_,eh3,TH.cl,TH.n2,_,rfl,λst dst hst hdst ndst=> ?_⟩
 have s4:Same H3 (upd (upd H3 dst (.own st)) st (.ins (a "Store") dst [])):=(AT hdst).trans (AT (by rw[AG ndst.symm];exact hst))
 have hN:∀ r'∈List.replicate (n+r+c+r+c) (List.replicate w V.non),∀ v∈r',v=.non:=λr' hr' v hv=>by
  rw[List.eq_of_mem_replicate hr']at hv
  exact List.eq_of_mem_replicate hv
 refine⟨st,dst,lp,gp,cl,n,r,c,w,_,0,λ_ _=>.no,rfl,T4',AH,L3.same s4,P3.same s4,⟨sz.1,sz.2.1,sz.2.2.1,sz.2.2.2,by simp⟩,(λr' hr' v hv=>by rw[hN r' hr' v hv];trivial),λkind k v h1 hk hv=> ?_,λ_ _ _ _=>trivial,λS H5 e1 e2 e3 e4 off htk I KG=>⟨rfl,_,_,_,KG _ _ (s4 _ _ eh3) (BL eh3 hst),TH.cl,TH.n3,by show 2<1000;omega,?_⟩⟩
 ·unfold D5 at hv
  have:DW [] (BN n r c w kind k:Nat) (k % w:Nat)=none:=rfl
  rw[this]at hv
  obtain⟨r',er',ev⟩:=Option.bind_eq_some_iff.mp hv
  exact hN r' (List.mem_of_getElem? er') _ (List.mem_of_getElem? ev)
 have e13:AZ (Str.ofString "store") (.ref st) (JE lp gp)=hf lp gp st:=by
  unfold JE
  repeat (first | rw[HJ] | rw[IZ (by decide +kernel)])
  rfl
 rw[e13]
 subst e1 e2 e3 e4
 have eh5:H5 h=some (.ins (a "House") dh (JE S.lp S.A.gp)):=KG _ _ (s4 _ _ eh3) (BL eh3 hst)
 have all:∀ y o,H y=some o->y≠h->H3 y=some o:=λy o e n=>k3 _ _ (s2 _ _ (k1' _ _ e n)) n
 have fr:∀ y,H3 y=none->H y=none:=λy hy=>f1 y (s2.free (f3 y hy))
 refine q S _ rfl (λy hy=> ?_) ⟨⟨dh,AH⟩,I.far (e:=h) eh5 (λpl v nt z=>absurd (congrArg List.length z) (by simp[JE,EF])) (BL eh3 hst).symm nh (λz=> ?_) ngp (G:=(· =h)) (λy o e n=>by rw[AG n];exact e) (λx hx=>.inl hx) λx hx=>.inl hx⟩ λy o e n=>by rw[AG n];exact KG _ _ (s4 _ _ (all _ _ e n)) (BL (all _ _ e n) hst)
 ·rcases hy with hy | rfl | rfl | rfl
  ·cases e:H y with
   | none=>rfl
   | some o =>
    exfalso
    by_cases z:y=h
    ·rcases off y _ (s4 _ _ (z ▸ eh3))with z' | z'
     ·exact ncl (z' ▸ z)
     ·exact z' hy
    ·rcases off y _ (s4 _ _ (all _ _ e z))with z' | z'
     ·rw[z']at e z
      have:=k1' _ _ e z
      rw[BX]at this;cases this
     ·exact z' hy
  ·exact fr _ (s4.free htk)
  ·exact f1 _ hgp
  ·exact fr _ hst
 ·obtain⟨db,eb⟩:=I.bk.bk.ob
  rw[z,eh5]at eb
  injection eb with eb
  injection eb with _ _ eb
  exact absurd (congrArg List.length eb) (by simp[JE,bf])
theorem zb2:∀ i:Fin 26,(Str.ofString "abcdefghijklmnopqrstuvwxyz").cps.toList[i.val]? =some (97+i.val):=by decide +kernel
theorem zb3{i:Int}{n:Nat}{Q:VK}(hi:i=n)(hn:n<26)(q:Q (.str ⟨#[97+n]⟩) H):CQ K (.str (Str.ofString "abcdefghijklmnopqrstuvwxyz")) (.int i) H Q:=qD hi (by decide +kernel) (zb2 ⟨n,hn⟩) q
theorem zb4{x:Int}{Q:VK}(q:∀ n:Nat,n<26->Q (.str ⟨#[97+n]⟩) H):CQ K (.str (Str.ofString "abcdefghijklmnopqrstuvwxyz")) (.int (x % 26)) H Q:=by
 obtain⟨b,eb,hb⟩:=HS x (n:=26) (by omega)
 rw[show((26:Nat):Int)=26 from rfl]at eb
 rw[eb]
 exact zb3 rfl hb (q b hb)
theorem KD(x y:Str):(x++y).cps.toList=x.cps.toList++y.cps.toList:=by
 show(x.cps++y.cps).toList=_
 simp
theorem RN(z:Str):z.cps.toList.length=z.length:=by simp[Str.length]
theorem zb5{z:Str}{k:Nat}(h:k<=z.length):(Txt.slice z none (some (k:Int))).cps.toList=z.cps.toList.take k:=by
 rw[eq_of_beq (slice_closes_to (x:=z) (j:=(k:Int)) ⟨by omega,by rw[RN];omega⟩)]
 simp
theorem zb6{z:Str}{k:Nat}(h:k<=z.length):(Txt.slice z (some (k:Int)) none).cps.toList=z.cps.toList.drop k:=by
 rw[eq_of_beq (slice_closes_from (x:=z) (i:=(k:Int)) ⟨by omega,by rw[RN];omega⟩)]
 have:((z.cps.toList.length:Int) - k).toNat=(z.cps.toList.drop k).length:=by rw[List.length_drop];omega
 simp only[Int.toNat_natCast,this,List.take_length]
def Lts(z:Str)(n:Nat):Prop:=z.cps.toList.length=n/\z.cps.toList.all NL=true
theorem Lts.len{z:Str}{n:Nat}(h:Lts z n):z.length=n:=by rw[<-RN];exact h.1
theorem Lts.cat{x y:Str}{n m:Nat}(h:Lts x n)(h':Lts y m):Lts (x++y) (n+m):=by
 unfold Lts
 rw[KD,List.length_append,List.all_append,h.1,h'.1,h.2,h'.2]
 exact⟨rfl,rfl⟩
theorem Lts.one{n:Nat}(h:n<26):Lts ⟨#[97+n]⟩ 1:=⟨rfl,by simp[NL];omega⟩
theorem Lts.to{z:Str}{n k:Nat}(h:Lts z n)(hk:k<=n):Lts (Txt.slice z none (some (k:Int))) k:=by
 unfold Lts
 rw[zb5 (by rw[h.len];exact hk)]
 refine⟨by rw[List.length_take,h.1];omega,?_⟩
 rw[List.all_eq_true]
 exact λc hc=>List.all_eq_true.mp h.2 c (List.mem_of_mem_take hc)
theorem Lts.from{z:Str}{n k:Nat}(h:Lts z n)(hk:k<=n):Lts (Txt.slice z (some (k:Int)) none) (n - k):=by
 unfold Lts
 rw[zb6 (by rw[h.len];exact hk)]
 refine⟨by rw[List.length_drop,h.1],?_⟩
 rw[List.all_eq_true]
 exact λc hc=>List.all_eq_true.mp h.2 c (List.mem_of_mem_drop hc)
theorem Lts.name{z:Str}{n:Nat}(h:Lts z n)(h1:1<=n)(h8:n<=8):CN z=true:=by
 unfold CN
 rw[h.len,h.2]
 simp
 omega
theorem HU{z:Str}(h:CN z=true):Lts z z.length/\1<=z.length/\z.length<=8:=by
 unfold CN at h
 simp only[Bool.and_eq_true,decide_eq_true_eq]at h
 exact⟨⟨RN z,h.2⟩,h.1.1,h.1.2⟩
theorem zb7(h:Q6 K a vs H Q E):V8 K a (λ_=>E) (A9 Q) (A4 ["cell","letters","name","k"] vs) H:=by
 obtain⟨x,rfl,q⟩:=h
 push_cast[V8,↓Lx,↓Ly,↓Mb]
 obtain⟨m,em,hm⟩:∃ m:Nat,1+x % 8=m/\1<=m/\m<=8:=⟨(1+x % 8).toNat,by omega,by omega⟩
 rw[em,Int.toNat_natCast]
 refine⟨by omega,by omega,eJ (λi σ H'=>∃ p:Str,H'=H/\Lts p i/\∃ y,σ=[some (.int x),some (.str (Str.ofString "abcdefghijklmnopqrstuvwxyz")),some (.str p),y]) ⟨Str.ofString "",rfl,⟨by decide +kernel,by decide +kernel⟩,_,rfl⟩ (λi σ H' hi hzz=> ?_) (λσ H' hzz=> ?_)⟩
 ·obtain⟨p,e,hp,y,ez⟩:=hzz
  subst e ez
  push_cast[↓Lz]
  have:=hp.len
  refine⟨⟨by decide,by decide⟩,⟨by decide,by decide⟩,.inl ⟨by omega,by omega⟩,.inr ⟨by omega,by omega⟩,zb4 λn hn=> ?_⟩
  have h1:=(Lts.one hn).len
  push_cast[]
  exact⟨B7 _ (by omega),_,hp.cat (Lts.one hn),rfl⟩
 ·obtain⟨p,e,hp,y,ez⟩:=hzz
  subst e ez
  push_cast[↓Mc]
  exact q _ _ (hp.name hm.1 hm.2) (Same.refl _)
theorem NY{l:Addr}{zs:List Str}{i:Nat}{z:Str}{Q:VK}(e:H l=some (.lst (zs.map V.str)))(hz:zs[i]? =some z)(q:Q (.str z) H):CQ K (.ref l) (.int i) H Q :=
 DF (SqL.of e) (n:=i) (v:=.str z) rfl (by rw[List.getElem?_map,hz];rfl) q
def DQ:List Str:=["make","cut","show","keep","link","move","take","names","stop","write"]
def GP:List Str:=[""," a"," a b"," 1"," a 1"," a b c"]
theorem zb8:∀ (i:Fin 10) (j:Fin 6) (k:Fin 6),(k.val:Nat)<=(DQ[i.val]!).length->(C5 (Txt.slice DQ[i.val]! none (some (k.val:Int))++"q"++Txt.slice DQ[i.val]! (some (k.val:Int)) none++GP[j.val]!)=none/\C5 (Txt.slice DQ[i.val]! none (some (k.val:Int))++Txt.slice DQ[i.val]! (some ((k.val:Int)+1)) none++"q"++GP[j.val]!)=none):=by
 decide +kernel
theorem zb9:∀ (i:Fin 10) (k:Fin 6),(Txt.slice DQ[i.val]! none (some (k.val:Int))).length<=5/\(Txt.slice DQ[i.val]! (some (k.val:Int)) none).length<=5/\(Txt.slice DQ[i.val]! (some ((k.val:Int)+1)) none).length<=5:=by decide +kernel
theorem zca(h:Q8 K a vs H Q E):WA K a (λ_=>E) (A9 Q) (A4 ["cell","words","word","tail","at"] vs) H:=by
 obtain⟨x,rfl,q⟩:=h
 push_cast[WA,↓Mv]
 refine⟨by decide,λl hl=> ?_⟩
 push_cast[↓Mw]
 have s1:=AT (o:=.lst (DQ.map V.str)) hl
 have e1:upd H l (.lst (DQ.map V.str)) l=some (.lst (DQ.map V.str)):=AH
 show CQ K (.ref l) (.int (x % 10)) (upd H l (.lst (DQ.map V.str))) _
 revert s1 e1
 generalize upd H l (.lst (DQ.map V.str))=H1
 intro s1 e1
 obtain⟨i,ei,hi⟩:=HS x (n:=10) (by omega)
 rw[show((10:Nat):Int)=10 from rfl]at ei
 rw[ei]
 have hw:DQ[i]? =some (DQ[i]!):=by rw[List.getElem!_eq_getElem?_getD,List.getElem?_eq_getElem (show i<DQ.length from hi)];rfl
 refine NY e1 hw ?_
 push_cast[↓Mx]
 refine⟨by decide,λl2 RW=>⟨⟨by decide,by decide⟩,?_⟩⟩
 have s2:=AT (o:=.lst (GP.map V.str)) RW
 have e2:upd H1 l2 (.lst (GP.map V.str)) l2=some (.lst (GP.map V.str)):=AH
 show CQ K (.ref l2) (.int (x / 10 % 6)) (upd H1 l2 (.lst (GP.map V.str))) _
 revert s2 e2
 generalize upd H1 l2 (.lst (GP.map V.str))=H2
 intro s2 e2
 obtain⟨j,ej,hj⟩:=HS (x / 10) (n:=6) (by omega)
 rw[show((6:Nat):Int)=6 from rfl]at ej
 rw[ej]
 have ht:GP[j]? =some (GP[j]!):=by rw[List.getElem!_eq_getElem?_getD,List.getElem?_eq_getElem (show j<GP.length from hj)];rfl
 refine NY e2 ht ?_
 have hwl:(DQ[i]!).length<=5:=(show ∀ i:Fin 10,(DQ[i.val]!).length<=5 by decide +kernel) ⟨i,hi⟩
 have htl:(GP[j]!).length<=6:=(show ∀ i:Fin 6,(GP[i.val]!).length<=6 by decide +kernel) ⟨j,hj⟩
 push_cast[↓My]
 refine⟨⟨by decide,by decide⟩,(DQ[i]!).length,⟨B7 _ (by omega),rfl⟩,by omega,?_⟩
 obtain⟨k,ek,hk⟩:=HS (x / 60) (n:=(DQ[i]!).length+1) (by omega)
 rw[show(((DQ[i]!).length+1:Nat):Int)=((DQ[i]!).length:Int)+1 by omega]at ek
 rw[ek]
 obtain⟨b1,b2⟩:=zb8 ⟨i,hi⟩ ⟨j,hj⟩ ⟨k,by omega⟩ (by simp only;omega)
 obtain⟨l1,l2,l3⟩:=zb9 ⟨i,hi⟩ ⟨k,by omega⟩
 simp only at l1 l2 l3
 have lq:(Str.ofString "q").length=1:=by decide +kernel
 push_cast[↓Nb]
 refine⟨⟨by decide,by decide⟩,?_⟩
 split
 ·push_cast[↓Mz]
  refine⟨B7 _ (by omega),B7 _ (by omega),B7 _ (by omega),B7 _ (by rw[C8];omega),B7 _ (by rw[C8,C8];omega),q _ _ b1 (by rw[C8,C8,C8];omega) (s1.trans s2)⟩
 ·push_cast[↓Nd]
  refine⟨B7 _ (by omega),B7 _ (by omega),B7 _ (by omega),B7 _ (by rw[C8];omega),B7 _ (by rw[C8,C8];omega),q _ _ b2 (by rw[C8,C8,C8];omega) (s1.trans s2)⟩
def HV:List Str:=["names","stop","make","cut","show","keep","write","link","move","take"]
def G7:List Str:=[" a"," 0"]
def NZ(i j:Nat):Nat:=if j=(if 1<i then 1 else 0)+(if 6<i then 1 else 0)then 6 else j
theorem zcb:∀ (i:Fin 10) (j:Fin 6) (k:Fin 2),C5 (HV[i.val]! ++KZ G7[k.val]! (NZ i.val j.val:Nat))=none/\(HV[i.val]!).length<=5/\(G7[k.val]!).length<=2/\(KZ G7[k.val]! (NZ i.val j.val:Nat)).length<=12:=by decide +kernel
theorem zcc(h:Q9 K a vs H Q E):WD K a (λ_=>E) (A9 Q) (A4 ["cell","words","at","many"] vs) H:=by
 obtain⟨x,rfl,q⟩:=h
 push_cast[WD,↓Ng]
 refine⟨by decide,λl hl=> ?_⟩
 push_cast[↓Nh,↓Nj]
 refine⟨⟨by decide,by decide⟩,?_⟩
 have s1:=AT (o:=.lst (HV.map V.str)) hl
 have e1:upd H l (.lst (HV.map V.str)) l=some (.lst (HV.map V.str)):=AH
 show WB K a _ _ _ _ (upd H l (.lst (HV.map V.str)))
 revert s1 e1
 generalize upd H l (.lst (HV.map V.str))=H1
 intro s1 e1
 obtain⟨i,ei,hi⟩:=HS x (n:=10) (by omega)
 rw[show((10:Nat):Int)=10 from rfl]at ei
 obtain⟨j,ej,hj⟩:=HS (x / 10) (n:=6) (by omega)
 rw[show((6:Nat):Int)=6 from rfl]at ej
 rw[ei,ej]
 push_cast[↓Nl]
 have hw:HV[i]? =some (HV[i]!):=by rw[List.getElem!_eq_getElem?_getD,List.getElem?_eq_getElem (show i<HV.length from hi)];rfl
 have fin:∀ m:Nat,m=NZ i j->WC K a (λ_=>E) (λ_=>E) (A9 Q) [some (.int x),some (.ref l),some (.int i),some (.int m)] H1:=by
  intro m em
  push_cast[↓Nm]
  refine NY e1 hw ⟨by decide,λl2 RW=>⟨⟨by decide,by decide⟩,?_⟩⟩
  have s2:=AT (o:=.lst (G7.map V.str)) RW
  have e2:upd H1 l2 (.lst (G7.map V.str)) l2=some (.lst (G7.map V.str)):=AH
  show CQ K (.ref l2) (.int (x / 60 % 2)) (upd H1 l2 (.lst (G7.map V.str))) _
  revert s2 e2
  generalize upd H1 l2 (.lst (G7.map V.str))=H2
  intro s2 e2
  obtain⟨k,ek,hk⟩:=HS (x / 60) (n:=2) (by omega)
  rw[show((2:Nat):Int)=2 from rfl]at ek
  rw[ek]
  have ht:G7[k]? =some (G7[k]!):=by rw[List.getElem!_eq_getElem?_getD,List.getElem?_eq_getElem (show k<G7.length from hk)];rfl
  refine NY e2 ht ?_
  push_cast[]
  obtain⟨b1,b2,b3,b4⟩:=zcb ⟨i,hi⟩ ⟨j,hj⟩ ⟨k,hk⟩
  simp only at b1 b2 b3 b4
  rw[<-em]at b1 b4
  have bm:m<=6:=by
   rw[em];unfold NZ
   by_cases z:j=(if 1<i then 1 else 0)+(if 6<i then 1 else 0)
   ·rw[if_pos z];omega
   ·rw[if_neg z];omega
  exact⟨by omega,by omega,by omega,B7 _ (by omega),q _ _ b1 (by rw[C8];omega) (s1.trans s2)⟩
 unfold NZ at fin
 have ec:((j:Int)=(if 1<(i:Int)then 1 else 0)+if 6<(i:Int)then 1 else 0)↔j=(if 1<i then 1 else 0)+if 6<i then 1 else 0:=by
  by_cases h1:1<i<;>by_cases h6:6<i
  ·rw[if_pos h1,if_pos h6,if_pos (by omega),if_pos (by omega)];omega
  ·rw[if_pos h1,if_neg h6,if_pos (by omega),if_neg (by omega)];omega
  ·rw[if_neg h1,if_pos h6,if_neg (by omega),if_pos (by omega)];omega
  ·rw[if_neg h1,if_neg h6,if_neg (by omega),if_neg (by omega)];omega
 by_cases hc:j=(if 1<i then 1 else 0)+if 6<i then 1 else 0
 ·rw[if_pos (ec.mpr hc)]
  push_cast[↓Nk]
  exact fin 6 (if_pos hc).symm
 ·rw[if_neg λz=>hc (ec.mp z)]
  exact fin j (if_neg hc).symm
theorem zcd(h:RA K a vs H Q E):X7 K a (λ_=>E) (A9 Q) (A4 ["house","row","kind","found","right","other","e"] vs) H:=by
 obtain⟨h,X,cs,tks,M,z,k,rfl,T,TX,⟨⟨dh,eh⟩,I⟩,hz,hk,q⟩:=h
 push_cast[X7,↓Wh,↓Wj,↓Wk,↓Wm,↓Wl]
 obtain⟨dx,est⟩:=I.ob
 have fin:∀ (c:String) (H1:Hp),Same H H1->(c="NoRow"/\k=2\/c="NoBlock"/\k=1)->S9 (λcls=>W.exmOne K cls (.ref (a "HoldError"))) 6 (AK (X0 K a (λ_=>E) λ_=>E) (AK (X4 K a (λ_=>E) λ_=>E) (X5 K a (λ_=>E) λ_=>E))) S8 (.ref (a c)) { nx:=X6 K a (λ_=>E) (λ_=>E) (A9 Q),rt:=Q } [some (.ref h),some (.str z),some (.int k),some (.int (-1)),some (.bl false),some (.bl false),none] H1:=by
  intro c H1 s1 hc
  rcases hc with⟨rfl,rfl⟩ | ⟨rfl,rfl⟩
  ·refine .inl ⟨TX.hR,λe he=> ?_⟩
   have ty:∀ {H2:Hp},Same (upd H1 e (.ext (HG e (.ref (a "NoRow"))))) H2->TyX K H2 (.ref e) (.ref (a "NoRow")):=λs=>.inr ⟨e,a "NoRow",rfl,rfl,s _ _ AH,TX.eR⟩
   push_cast[↓pH]
   refine K7 (ty (Same.refl _)) (.own _) TX.rb ?_
   push_cast[]
   refine K7 (ty (Same.refl _)) (.own _) TX.rr ?_
   push_cast[]
   refine⟨.inl ⟨by decide,by decide⟩,?_⟩
   push_cast[↓pJ]
   refine K7 (ty (Same.refl _)) (.ty _) TX.rv ?_
   push_cast[↓pK]
   refine⟨by decide,λt ht=>eK (ty (AT ht)) (SqT.of AH) (.cons (.own _) (.cons (.own _) (.cons (.own _) (.cons (.own _) (.cons (.own _) (.cons (.own _) .nil)))))) TX.ro ?_⟩
   push_cast[↓pM]
   exact q _ (s1.trans ((AT he).trans (AT ht)))
  ·refine .inl ⟨TX.hB,λe he=> ?_⟩
   have ty:∀ {H2:Hp},Same (upd H1 e (.ext (HG e (.ref (a "NoBlock"))))) H2->TyX K H2 (.ref e) (.ref (a "NoBlock")):=λs=>.inr ⟨e,a "NoBlock",rfl,rfl,s _ _ AH,TX.eB⟩
   push_cast[↓pH]
   refine K7 (ty (Same.refl _)) (.own _) TX.bb ?_
   push_cast[]
   refine K7 (ty (Same.refl _)) (.own _) TX.br ?_
   push_cast[]
   refine⟨.inl ⟨by decide,by decide⟩,?_⟩
   push_cast[↓pJ]
   refine K7 (ty (Same.refl _)) (.ty _) TX.bv ?_
   push_cast[↓pK]
   refine⟨by decide,λt ht=>eK (ty (AT ht)) (SqT.of AH) (.cons (.own _) (.cons (.own _) (.cons (.own _) (.cons (.own _) (.cons (.own _) (.cons (.own _) .nil)))))) TX.bo ?_⟩
   push_cast[↓pM]
   exact q _ (s1.trans ((AT he).trans (AT ht)))
 refine⟨_,_,eh,rfl,?_⟩
 rcases hk with⟨e0,rfl⟩ | ⟨b,eb,hb,hl,rfl⟩
 ·exact⟨h,dh,X.S.lp,X.S.A.gp,X.S.st,z,rfl,T,eh,⟨dx,_,_,_,est⟩,hz,.inl ⟨e0,λH1 s1=>fin _ H1 s1 (.inl ⟨rfl,rfl⟩)⟩⟩
 ·refine⟨h,dh,X.S.lp,X.S.A.gp,X.S.st,z,rfl,T,eh,⟨dx,_,_,_,est⟩,hz,.inr ⟨_,_,eb,by decide +kernel,λl H1 s1 el=>.inr ⟨by decide +kernel,X.S.st,l,_,rfl,⟨dx,_,_,_,s1 _ _ est⟩,el,.inl ⟨b,rfl,hb,X,cs,tks,M,b,rfl,T.s4,I.same s1,λrow er=> ?_,λ_=>fin _ H1 s1 (.inr ⟨rfl,rfl⟩)⟩⟩⟩⟩
  have:=(List.getElem?_eq_some_iff.mp er).1
  omega
def LY(z:Str):Prop:=C5 z=none/\z.length<=900
theorem LZ{y:Str}(h:CN y=true):32∉y.cps.toList:=λz=>by
 obtain⟨⟨_,h2⟩,_⟩:=HU h
 have:=List.all_eq_true.mp h2 32 z
 revert this;decide
theorem YQ{p y:Str}{w:List Nat}(hp:p.cps.toList=w++[32])(hw:32∉w)(hy:32∉y.cps.toList):C5 (p++y)=HR [w,y.cps.toList]:=by
 unfold C5
 rw[KD,hp,List.append_assoc]
 show HR (CK (w++32::y.cps.toList))=_
 rw[HP hw,LK hy]
theorem zce{p y q:Str}{w v:List Nat}(hp:p.cps.toList=w++[32])(hw:32∉w)(hy:32∉y.cps.toList)(hq:q.cps.toList=32::v)(hv:32∉v):C5 (p++y++q)=HR [w,y.cps.toList,v]:=by
 unfold C5
 rw[KD,KD,hp,hq,List.append_assoc,List.append_assoc]
 show HR (CK (w++32::(y.cps.toList++32::v)))=_
 rw[HP hw,HP hy,LK hv]
theorem IQ{p y q:Str}{w v:List Nat}(hn:CN y=true)(hp:p.cps.toList=w++[32])(hw:32∉w)(hq:q.cps.toList=32::v)(hv:32∉v)(h:∀ u,HR [w,u,v]=none)(hl:p.length+q.length<=100):LY (p++y++q):=by
 refine⟨by rw[zce hp hw (LZ hn) hq hv];exact h _,?_⟩
 have:=(HU hn).2.2
 rw[C8,C8];omega
theorem RO{p y:Str}{w:List Nat}(hn:CN y=true)(hp:p.cps.toList=w++[32])(hw:32∉w)(h:∀ u,HR [w,u]=none)(hl:p.length<=100):LY (p++y):=by
 refine⟨by rw[YQ hp hw (LZ hn)];exact h _,?_⟩
 have:=(HU hn).2.2
 rw[C8];omega
theorem zcf{y:Str}(hn:CN y=true):LY (Str.ofString "make  "++y):=by
 refine⟨?_,?_⟩
 ·unfold C5
  rw[KD,show(Str.ofString "make  ").cps.toList=[109,97,107,101]++32::([]++[32]) by decide +kernel]
  rw[List.append_assoc]
  show HR (CK ([109,97,107,101]++32::([]++32::y.cps.toList)))=_
  rw[HP (by decide),HP (by decide),LK (LZ hn)]
  rfl
 ·have:=(HU hn).2.2
  rw[C8,show(Str.ofString "make  ").length=6 by decide +kernel];omega
def YR:List Str:=[""," ","make","cut","link","move","put","take","write","show","keep","names "," names","stop ","names a","make a b","link a b c","write 01","write ","Names","write 1000","write x","write 1a","write -1","write +1","write 1_0"]
theorem FT:∀ z∈YR,LY z:=by
 have h:∀ z∈YR,C5 z=none/\z.length<=900:=by decide +kernel
 exact h
def BadL(H:Hp)(l:Addr)(n:Nat):Prop:=∃ zs:List Str,H l=some (.lst (zs.map V.str))/\zs.length=n/\∀ z∈zs,LY z
theorem BadL.cat{l p:Addr}{n:Nat}{ys:List Str}{Q:VK}(h:BadL H l n)(hp:H p=none)(hn:n<=100)(hy:ys.length<=100)(hb:∀ z∈ys,LY z)(q:∀ l' H',Same H H'->BadL H' l' (n+ys.length)->Q (.ref l') H'):OY (.ref l) (.ref p) (upd H p (.lst (ys.map V.str))) Q:=by
 obtain⟨zs,e,hl,hz⟩:=h
 have s:=AT (o:=.lst (ys.map V.str)) hp
 refine⟨l,p,_,_,rfl,rfl,s _ _ e,AH,by rw[List.length_map,List.length_map,sizeLine_eq];omega,λl' hl'=>q l' _ (s.trans (AT hl')) ⟨zs++ys,by rw[AH,List.map_append],by rw[List.length_append,hl],λz h=>(List.mem_append.mp h).elim (hz z) (hb z)⟩⟩
theorem zcg(h:Q7 K a vs H Q E):V9 K a (λ_=>E) (A9 Q) (A4 ["number","name","some"] vs) H:=by
 obtain⟨x,y,rfl,hy,q⟩:=h
 have hyl:=(HU hy).2.2
 have sm:∀ {s:Str},s.length<=100->s.length+y.length<=sizeLine:=λh=>B7 _ (by omega)
 have sm2:∀ {s t:Str},s.length<=100->t.length<=100->(s++y).length+t.length<=sizeLine:=λh h'=>B7 _ (by rw[C8];omega)
 push_cast[V9,↓Mg]
 refine⟨by decide,λl1 h1=> ?_⟩
 have B1:BadL (upd H l1 (.lst [.str (Str.ofString ""),.str (Str.ofString " "),.str (Str.ofString "make"),.str (Str.ofString "cut"),.str (Str.ofString "link"),.str (Str.ofString "move"),.str (Str.ofString "put"),.str (Str.ofString "take"),.str (Str.ofString "write"),.str (Str.ofString "show"),.str (Str.ofString "keep"),.str (Str.ofString "names "),.str (Str.ofString " names")])) l1 13:=⟨YR.take 13,AH,rfl,λz hz=>FT z (List.mem_of_mem_take hz)⟩
 have s1:=AT (o:=.lst [.str (Str.ofString ""),.str (Str.ofString " "),.str (Str.ofString "make"),.str (Str.ofString "cut"),.str (Str.ofString "link"),.str (Str.ofString "move"),.str (Str.ofString "put"),.str (Str.ofString "take"),.str (Str.ofString "write"),.str (Str.ofString "show"),.str (Str.ofString "keep"),.str (Str.ofString "names "),.str (Str.ofString " names")]) h1
 revert B1 s1
 generalize upd H l1 (.lst [.str (Str.ofString ""),.str (Str.ofString " "),.str (Str.ofString "make"),.str (Str.ofString "cut"),.str (Str.ofString "link"),.str (Str.ofString "move"),.str (Str.ofString "put"),.str (Str.ofString "take"),.str (Str.ofString "write"),.str (Str.ofString "show"),.str (Str.ofString "keep"),.str (Str.ofString "names "),.str (Str.ofString " names")])=H1
 intro B1 s1
 push_cast[↓Mh]
 refine⟨sm (by decide +kernel),sm (by decide +kernel),sm2 (by decide +kernel) (by decide +kernel),sm (by decide +kernel),sm2 (by decide +kernel) (by decide +kernel),by decide,λp2 h2=>.inl (B1.cat (ys:=[_,_,_,_,_,_]) h2 (by simp) (by simp) ?_ λl2 H2 s2 B2=> ?_)⟩
 ·intro z hz
  simp only[List.mem_cons,List.not_mem_nil,or_false]at hz
  rcases hz with rfl | rfl | rfl | rfl | rfl | rfl
  ·exact FT _ (by decide +kernel)
  ·exact FT _ (by decide +kernel)
  ·exact FT _ (by decide +kernel)
  ·exact zcf hy
  ·exact IQ hy (w:=[99,117,116]) (v:=[]) (by decide +kernel) (by decide) (by decide +kernel) (by decide) (λ_=>rfl) (by decide +kernel)
  ·exact IQ hy (w:=[115,104,111,119]) (v:=[97]) (by decide +kernel) (by decide) (by decide +kernel) (by decide) (λ_=>rfl) (by decide +kernel)
 push_cast[↓Mj]
 refine⟨sm (by decide +kernel),sm (by decide +kernel),sm (by decide +kernel),sm (by decide +kernel),sm (by decide +kernel),sm2 (by decide +kernel) (by decide +kernel),by decide,λp3 h3=>.inl (B2.cat (ys:=[_,_,_,_,_,_]) h3 (by simp) (by simp) ?_ λl3 H3 s3 B3=> ?_)⟩
 ·intro z hz
  simp only[List.mem_cons,List.not_mem_nil,or_false]at hz
  rcases hz with rfl | rfl | rfl | rfl | rfl | rfl
  ·exact RO hy (w:=[108,105,110,107]) (by decide +kernel) (by decide) (λ_=>rfl) (by decide +kernel)
  ·exact FT _ (by decide +kernel)
  ·exact RO hy (w:=[109,111,118,101]) (by decide +kernel) (by decide) (λ_=>rfl) (by decide +kernel)
  ·exact RO hy (w:=[116,97,107,101]) (by decide +kernel) (by decide) (λ_=>rfl) (by decide +kernel)
  ·exact RO hy (w:=[112,117,116]) (by decide +kernel) (by decide) (λ_=>rfl) (by decide +kernel)
  ·exact IQ hy (w:=[116,97,107,101]) (v:=[48,48]) (by decide +kernel) (by decide) (by decide +kernel) (by decide) (λ_=>rfl) (by decide +kernel)
 push_cast[↓Ml]
 refine⟨sm (by decide +kernel),sm2 (by decide +kernel) (by decide +kernel),sm (by decide +kernel),sm2 (by decide +kernel) (by decide +kernel),by decide,λp4 h4=>.inl (B3.cat (ys:=[_,_,_,_,_]) h4 (by simp) (by simp) ?_ λl4 H4 s4 B4=> ?_)⟩
 ·intro z hz
  simp only[List.mem_cons,List.not_mem_nil,or_false]at hz
  rcases hz with rfl | rfl | rfl | rfl | rfl
  ·exact IQ hy (w:=[116,97,107,101]) (v:=[45,49]) (by decide +kernel) (by decide) (by decide +kernel) (by decide) (λ_=>rfl) (by decide +kernel)
  ·exact IQ hy (w:=[116,97,107,101]) (v:=[49,48,48,48]) (by decide +kernel) (by decide) (by decide +kernel) (by decide) (λ_=>rfl) (by decide +kernel)
  ·exact FT _ (by decide +kernel)
  ·exact FT _ (by decide +kernel)
  ·exact FT _ (by decide +kernel)
 push_cast[↓Mm]
 refine⟨sm (by decide +kernel),sm2 (by decide +kernel) (by decide +kernel),by decide,λp5 h5=>.inl (B4.cat (ys:=[_,_,_,_,_,_]) h5 (by simp) (by simp) ?_ λl5 H5 s5 B5=> ?_)⟩
 ·intro z hz
  simp only[List.mem_cons,List.not_mem_nil,or_false]at hz
  rcases hz with rfl | rfl | rfl | rfl | rfl | rfl
  ·exact FT _ (by decide +kernel)
  ·exact FT _ (by decide +kernel)
  ·exact FT _ (by decide +kernel)
  ·exact FT _ (by decide +kernel)
  ·exact FT _ (by decide +kernel)
  ·exact IQ hy (w:=[116,97,107,101]) (v:=[49,97]) (by decide +kernel) (by decide) (by decide +kernel) (by decide) (λ_=>rfl) (by decide +kernel)
 push_cast[↓Mp]
 refine⟨sm (by decide +kernel),sm2 (by decide +kernel) (by decide +kernel),sm (by decide +kernel),sm2 (by decide +kernel) (by decide +kernel),sm (by decide +kernel),sm2 (by decide +kernel) (by decide +kernel),by decide,λp6 h6=>.inl (B5.cat (ys:=[_,_,_,_]) h6 (by simp) (by simp) ?_ λl6 H6 s6 B6=> ?_)⟩
 ·intro z hz
  simp only[List.mem_cons,List.not_mem_nil,or_false]at hz
  rcases hz with rfl | rfl | rfl | rfl
  ·exact FT _ (by decide +kernel)
  ·exact IQ hy (w:=[116,97,107,101]) (v:=[49,95,48]) (by decide +kernel) (by decide) (by decide +kernel) (by decide) (λ_=>rfl) (by decide +kernel)
  ·exact IQ hy (w:=[116,97,107,101]) (v:=[]) (by decide +kernel) (by decide) (by decide +kernel) (by decide) (λ_=>rfl) (by decide +kernel)
  ·exact IQ hy (w:=[116,97,107,101]) (v:=[120]) (by decide +kernel) (by decide) (by decide +kernel) (by decide) (λ_=>rfl) (by decide +kernel)
 push_cast[↓Mq]
 obtain⟨zs,e6,hz6,b6⟩:=B6
 obtain⟨i,ei,hi⟩:=HS x (n:=40) (by omega)
 rw[show((40:Nat):Int)=40 from rfl]at ei
 rw[ei]
 have hi6:i<zs.length:=by rw[hz6];exact hi
 obtain⟨c1,c2⟩:=b6 _ (List.getElem_mem hi6)
 exact NY e6 (List.getElem?_eq_getElem hi6) (q _ _ c1 c2 (s1.trans (s2.trans (s3.trans (s4.trans (s5.trans s6))))))
section
variable{h:Addr}{X:SX}{cs:List Ch}{tks:List (AO × V)}{M:Hs}{y:Str}
theorem HsAt.same{H':Hp}(A:HsAt a H h X cs tks M)(s:Same H H'):HsAt a H' h X cs tks M:=by
 obtain⟨⟨dh,e⟩,I⟩:=A
 exact⟨⟨dh,s _ _ e⟩,I.same s⟩
theorem HsAt.sb{G:Addr->Prop}{H':Hp}(A:HsAt a H h X cs tks M)(s:SameBut G H H')(g:∀ x,G x->DX (H x))(f:∀ x,G x->¬ X.S.A.F x/\x≠X.S.tk):HsAt a H' h X cs tks M:=by
 obtain⟨⟨dh,e⟩,I⟩:=A
 exact⟨⟨dh,s _ _ e λz=>(g _ z).2 _ _ _ e⟩,I.sbG s g f⟩
theorem SM.fLoose(I:X.at a H cs tks M):∀ x,X.S.A.F x\/x=X.S.tk->DX (H x):=λx hx=>hx.elim (λh=>I.bk.loose h) λh=>by rw[h];exact PY I.tk
theorem HsAt.say(T:EA K a)(A:HsAt a H h X cs tks M){z:Str}(hz:z.length<=900)(q:(C5 z=none/\G6 a H "NoRow" E)\/∃ w ws,C5 z=some (w::ws)/\w≠"stop"/\∀ l H1,Same H H1->H1 l=some (.lst ((w::ws).map V.str))->(w∈IP/\LT K a [.ref X.S.st,.ref l] H1 (λ_ H'=>Q (.str "ok") H') E)\/(w∉IP/\LU K a [.ref X.S.st,.ref l] H1 Q E)):EU K a [.ref h,.str z] H Q E:=by
 obtain⟨⟨dh,e⟩,I⟩:=A
 obtain⟨dx,est⟩:=I.ob
 exact⟨h,dh,_,_,_,z,rfl,T,e,⟨dx,_,_,_,est⟩,hz,q⟩
theorem HsAt.st(A:HsAt a H h X cs tks M):StAt a H X.S.st:=by
 obtain⟨dx,est⟩:=A.2.ob
 exact⟨dx,_,_,_,est⟩
abbrev M0:Hs:=⟨λ_ _=>.no,[]⟩
abbrev M3(y:Str):Hs:=((M0.put 1 0 (.mk 1) []).put 3 0 (.rc 1 []) [0]).put 0 0 (.nm y 0) [1]
abbrev M6(y:Str):Hs:=(((M3 y).put 2 0 (.mk 1) []).put 4 0 (.tx "some text") [3]).put 3 0 (.rc 1 [0]) [4]
theorem qM{m:Nat}(hm:0<m):cellOf (M3 y) m y=some 0:=YM hm (by show decide (y=y)=true;simp) λj hj=>by omega
theorem qN{m:Nat}(hm:0<m):cellOf (M6 y) m y=some 0:=YM hm (by show decide (y=y)=true;simp) λj hj=>by omega
theorem HsAt.make(T:EA K a)(A:HsAt a H h X [] [] M0)(hr:0<X.r * X.w)(hn:0<X.m0)(hy:CN y=true)(q:∀ cs' H',cs'.length=3->HsAt a H' h X cs' [] (M3 y)->SameBut (λx=>X.S.A.F x\/x=X.S.tk) H H'->Q (.str "ok") H'):EU K a [.ref h,.str (Str.ofString "make "++y)] H Q E:=by
 have hl:=(HU hy).2.2
 refine A.say T (by rw[C8,show(Str.ofString "make ").length=5 by decide +kernel];omega) (.inr ⟨"make",[y],?_,by decide +kernel,λl H1 s1 el=>.inl ⟨by decide +kernel,X.S.st,l,_,rfl,(A.same s1).st,el,.inl ⟨y,rfl,X,[],[],M0,y,rfl,T.s4,(A.same s1).2,by omega,by simp,λ_ _ rec cell h1 h2 hr' hc=> ?_,λz=> ?_,λ_ z=> ?_,λ_ _ z=> ?_⟩⟩⟩)
 ·rw[YQ (w:=[109,97,107,101]) (by decide +kernel) (by decide) (LZ hy)]
  show some [CG [109,97,107,101],CG y.cps.toList]=_
  rw[J0,show CG [109,97,107,101]=Str.ofString "make" by decide +kernel]
 ·have e1:FO M0 1 (X.r * X.w)=(0:Nat):=LV hr rfl λj hj=>by omega
  have e2:FO M0 0 X.m0=(0:Nat):=LV hn rfl λj hj=>by omega
  obtain rfl:rec=0:=by rw[e1]at h1;omega
  obtain rfl:cell=0:=by rw[e2]at h2;omega
  intro ex l' H' ex3 _ _ I' sb
  obtain⟨dh,e⟩:=A.1
  exact q ex H' ex3 ⟨⟨dh,sb _ _ (s1 _ _ e) λz=>((A.same s1).2.fLoose _ z).2 _ _ _ (s1 _ _ e)⟩,I'⟩ λx o ex n=>sb _ _ (s1 _ _ ex) n
 ·rw[hy]at z;cases z
 ·obtain⟨k,hk⟩:=z
  rw[qH λj _=>rfl]at hk
  cases hk
 ·exfalso
  have e1:FO M0 1 (X.r * X.w)=(0:Nat):=LV hr rfl λj hj=>by omega
  have e2:FO M0 0 X.m0=(0:Nat):=LV hn rfl λj hj=>by omega
  rw[e1,e2]at z
  omega
theorem zch(hy:CN y=true):C5 (Str.ofString "put "++y++Str.ofString " some text")=some [Str.ofString "put",y,Str.ofString "some text"]:=by
 unfold C5
 rw[KD,KD,show(Str.ofString "put ").cps.toList=[112,117,116]++[32] by decide +kernel,show(Str.ofString " some text").cps.toList=32::([115,111,109,101]++32::[116,101,120,116]) by decide +kernel,List.append_assoc,List.append_assoc]
 show HR (CK ([112,117,116]++32::(y.cps.toList++32::([115,111,109,101]++32::[116,101,120,116]))))=_
 rw[HP (by decide),HP (LZ hy),HP (by decide),LK (by decide)]
 show some [CG [112,117,116],CG y.cps.toList,CG (HN [[115,111,109,101],[116,101,120,116]])]=_
 rw[J0,show CG [112,117,116]=Str.ofString "put" by decide +kernel,show CG (HN [[115,111,109,101],[116,101,120,116]])=Str.ofString "some text" by decide +kernel]
theorem HsAt.put(T:EA K a)(A:HsAt a H h X cs [] (M3 y))(h3:cs.length=3)(hr:0<X.r * X.w)(hn:0<X.m0)(hc:0<X.c * X.w)(hy:CN y=true)(q:∀ cs' H',cs'.length=6->HsAt a H' h X cs' [] (M6 y)->SameBut (λx=>X.S.A.F x\/x=X.S.tk) H H'->Q (.str "ok") H'):EU K a [.ref h,.str (Str.ofString "put "++y++Str.ofString " some text")] H Q E:=by
 have hl:=(HU hy).2.2
 have e2:FO (M3 y) 2 (X.c * X.w)=(0:Nat):=LV hc rfl λj hj=>by omega
 refine A.say T (by rw[C8,C8,show(Str.ofString "put ").length=4 by decide +kernel,show(Str.ofString " some text").length=10 by decide +kernel];omega) (.inr ⟨"put",[y,"some text"],zch hy,by decide +kernel,λl H1 s1 el=>.inl ⟨by decide +kernel,X.S.st,l,_,rfl,(A.same s1).st,el,.inr ⟨y,_,rfl,X,cs,[],M3 y,y,_,rfl,T.s4,(A.same s1).2,by decide +kernel,by decide +kernel,by omega,λcell rec BX _ hm _ p hp _=> ?_,λz=> ?_,λ_ z=> ?_,λ_ _ z=> ?_⟩⟩⟩)
 ·rw[qM hn]at BX
  cases BX
  have er:rec=0:=by
   have:CV.nm y 0=CV.nm y rec:=hm
   injection this with _ h;exact h.symm
  subst er
  obtain rfl:p=0:=by rw[e2]at hp;omega
  refine⟨hr,1,[],rfl,by simp,λex l' H' ex3 _ _ I' sb=> ?_⟩
  rw[h3]at I'
  obtain⟨dh,e⟩:=A.1
  exact q (cs++ex) H' (by rw[List.length_append,h3,ex3]) ⟨⟨dh,sb _ _ (s1 _ _ e) λz=>((A.same s1).2.fLoose _ z).2 _ _ _ (s1 _ _ e)⟩,I'⟩ λx o ex n=>sb _ _ (s1 _ _ ex) n
 ·rw[qM hn]at z;cases z
 ·rw[show J4 (Str.ofString "some text")=true by decide +kernel]at z;cases z
 ·rw[e2]at z;omega
theorem HsAt.names{ks:List Str}(T:EA K a)(A:HsAt a H h X cs tks M)(hk:∀ l,l.Perm (IN M X.m0)->l=ks)(hs:(ks.map (·.length)).sum+ks.length<=1000)(q:∀ H',Same H H'->Q (.str (Q4 ks)) H'):EU K a [.ref h,.str (Str.ofString "names")] H Q E:=by
 refine A.say T (by decide +kernel) (.inr ⟨"names",[],by decide +kernel,by decide +kernel,λl H1 s1 el=>.inr ⟨by decide +kernel,X.S.st,l,_,rfl,(A.same s1).st,el,.inr (.inl ⟨rfl,X,cs,tks,M,rfl,T.s4,(A.same s1).2,λp ks' H2 _ s2 e2 hp _=> ?_⟩)⟩⟩)
 rw[hk _ hp]at e2
 exact⟨p,ks,rfl,e2,hs,q H2 (s1.trans s2)⟩
theorem HsAt.show6(T:EA K a)(A:HsAt a H h X cs tks (M6 y))(hr:0<X.r * X.w)(hn:0<X.m0)(hc:0<X.c * X.w)(hy:CN y=true)(q:∀ H',Same H H'->Q (.str "some text") H'):EU K a [.ref h,.str (Str.ofString "show "++y)] H Q E:=by
 have hl:=(HU hy).2.2
 refine A.say T (by rw[C8,show(Str.ofString "show ").length=5 by decide +kernel];omega) (.inr ⟨"show",[y],?_,by decide +kernel,λl H1 s1 el=>.inr ⟨by decide +kernel,X.S.st,l,_,rfl,(A.same s1).st,el,.inr (.inr ⟨y,rfl,X,cs,tks,M6 y,y,rfl,T.s4,(A.same s1).2,λcell rec BX _ hm=> ?_,λz=> ?_⟩)⟩⟩)
 ·rw[YQ (w:=[115,104,111,119]) (by decide +kernel) (by decide) (LZ hy)]
  show some [CG [115,104,111,119],CG y.cps.toList]=_
  rw[J0,show CG [115,104,111,119]=Str.ofString "show" by decide +kernel]
 ·rw[qN hn]at BX
  cases BX
  have er:rec=0:=by
   have:CV.nm y 0=CV.nm y rec:=hm
   injection this with _ h;exact h.symm
  subst er
  refine⟨hr,1,[0],rfl,by simp,["some text"],.cons ⟨hc,rfl⟩ .nil,λp H2 _ s2 e2=> ?_⟩
  refine⟨"",p,["some text"],rfl,rfl,SqL.of e2,by decide +kernel,by decide +kernel,?_⟩
  rw[show Txt.join (Str.ofString "") [Str.ofString "some text"]=Str.ofString "some text" by decide +kernel]
  exact q H2 (s1.trans s2)
 ·rw[qN hn]at z;cases z
theorem YS:∀ b:Fin 1000,C5 (Str.ofString "write "++CY (b.val:Nat))=some [Str.ofString "write",CY (b.val:Nat)]/\(Str.ofString "write "++CY (b.val:Nat)).length<=20:=by decide +kernel
theorem HsAt.write{b:Nat}(T:EA K a)(A:HsAt a H h X cs tks M)(hb:b<X.rows.length)(hb':b<1000)(hcs:cs.length<=900)(q:∀ row H',X.rows[b]? =some row->HsAt a H' h (X.wr cs b row) cs tks M->SameBut (λx=>X.S.A.F x\/x=X.S.A.gp) H H'->Q (.str (CY (outcome cs X.outs (λ_=>false) b).out.length++(" ":Str)++CY (outcome cs X.outs (λ_=>false) b).held.length)) H'):EU K a [.ref h,.str (Str.ofString "write "++CY b)] H Q E:=by
 obtain⟨w1,w2⟩:=YS ⟨b,hb'⟩
 refine A.say T (by simp only at w2;omega) (.inr ⟨"write",[CY b],w1,by decide +kernel,λl H1 s1 el=>.inr ⟨by decide +kernel,X.S.st,l,_,rfl,(A.same s1).st,el,.inl ⟨b,rfl,hb',X,cs,tks,M,b,rfl,T.s4,(A.same s1).2,λrow er t ol hl H' told I' sb=> ?_,λz=>absurd hb (by omega)⟩⟩⟩)
 have BT:(outcome cs X.outs (λ_=>false) b).out.length+(outcome cs X.outs (λ_=>false) b).held.length<=cs.length:=by
  have:=U0 (cs:=cs) (outs:=X.outs) (CM cs b) ⟨[],[],λ_=>false⟩
  have h2:=UW cs b
  unfold outcome
  simp at this ⊢
  omega
 refine⟨t,ol,hl,_,_,rfl,told,by omega,by omega,q row H' er ⟨?_,I'⟩ λx o ex n=>sb _ _ (s1 _ _ ex) n⟩
 ·obtain⟨dh,e⟩:=A.1
  refine⟨dh,sb _ _ (s1 _ _ e) λz=>z.elim (λz=>((A.same s1).2.bk.loose z).2 _ _ _ (s1 _ _ e)) λz=> ?_⟩
  obtain⟨dp,ep⟩:=(A.same s1).2.bk.pk.ob
  rw[<-z,s1 _ _ e]at ep
  injection ep with ep
  injection ep with _ _ ep
  have:=congrArg (·.lookup ("plan":Str)) ep
  simp only[zbn]at this
  rw[IK _ _ _ (by decide +kernel) (by decide +kernel) (by decide +kernel)]at this
  cases this
end
abbrev DR(S:SA)(x:Addr):Prop:=S.A.F x\/x=S.tk\/x=S.A.gp\/x=S.st
theorem SM.has{X:SX}{cs:List Ch}{tks:List (AO × V)}{M:Hs}{x:Addr}(I:X.at a H cs tks M)(hx:DR X.S x):H x≠none:=λe=>by
 rcases hx with h | rfl | rfl | rfl
 ·exact I.bk.off e h
 ·rw[I.tk]at e;cases e
 ·obtain⟨dp,ep⟩:=I.bk.pk.ob
  rw[ep]at e;cases e
 ·obtain⟨dx,ep⟩:=I.ob
  rw[ep]at e;cases e
theorem HsAt.farW{h:Addr}{X X1:SX}{cs cs1:List Ch}{tks tks1:List (AO × V)}{M M1:Hs}{H':Hp}(A:HsAt a H h X cs tks M)(I1:X1.at a H cs1 tks1 M1)(D:∀ x,DR X1.S x->¬ DR X.S x)(s:SameBut (λx=>X1.S.A.F x\/x=X1.S.A.gp) H H'):HsAt a H' h X cs tks M:=by
 obtain⟨⟨dh,eh⟩,I⟩:=A
 obtain⟨dp,ep⟩:=I1.bk.pk.ob
 have off:∀ {y C dy:Addr} {fs:List (Str × V)},H y=some (.ins C dy fs)->(fs.head?.map (·.1)≠some ("contents":Str))->y≠X1.S.A.gp:=λe n z=>by
  rw[z,ep]at e
  injection e with e
  injection e with _ _ e
  exact n (e ▸ rfl)
 have g:∀ x,X1.S.A.F x\/x=X1.S.A.gp->x=X1.S.A.gp\/DX (H x):=λx hx=>hx.elim (λh=>.inr (I1.bk.loose h)) .inl
 obtain⟨db,eb⟩:=I.bk.bk.ob
 obtain⟨dl,el⟩:=I.ly.ob
 refine⟨⟨dh,s _ _ eh λz=>(g _ z).elim (off eh (by simp only[hf,List.head?_cons,Option.map_some,ne_eq,Option.some.injEq];decide +kernel)) λl=>l.2 _ _ _ eh⟩,I.far (e:=X1.S.A.gp) ep (λpl v nt z=> ?_) (λz=>D _ (.inr (.inr (.inl z))) (.inr (.inr (.inr rfl)))) (off el (by simp only[lf,List.head?_cons,Option.map_some,ne_eq,Option.some.injEq];decide +kernel)) (off eb (by simp only[bf,List.head?_cons,Option.map_some,ne_eq,Option.some.injEq];decide +kernel)) (λz=>D _ (.inr (.inr (.inl z))) (.inr (.inr (.inl rfl)))) s g λx hx=>hx.elim (λh=>.inr ⟨λz=>D x (.inl h) (.inl z),λz=>D x (.inl h) (.inr (.inl z))⟩) .inl⟩
 have:=congrArg (λl:List (Str × V)=>l.head?.map (·.1)) z
 simp only[pf,EF,List.head?_cons,Option.map_some,Option.some.injEq]at this
 exact absurd this (by decide +kernel)
theorem zci{l m:List Int}(h1:l.Pairwise (· <·))(h2:m.Pairwise (· <·))(h:∀ x,x∈l↔x∈m):l=m:=by
 have n1:l.Nodup:=h1.imp λh=>by omega
 have n2:m.Nodup:=h2.imp λh=>by omega
 exact((List.perm_ext_iff_of_nodup n1 n2).mpr h).eq_of_pairwise (λx y _ _ a b=>by omega) h1 h2
abbrev bn(cs:List Ch):List (Nat × List Int):=cs.map λc=>(c.blk,c.nd)
theorem LaidA.uniq{n r c w:Nat}{H H':Hp}:∀ {as:List AC} {cs cs':List Ch},LaidA n r c w H cs as->LaidA n r c w H' cs' as->(∀ ch∈cs,ch.nd.Pairwise (· <·))->(∀ ch∈cs',ch.nd.Pairwise (· <·))->bn cs=bn cs'
 | [],_,_,.nil,.nil,_,_=>rfl
 | x::as,_,_,.snoc (cs:=cs) (ch:=c1) L b1 _ _ n1 _ _,.snoc (cs:=cs') (ch:=c2) L' b2 _ _ n2 _ _,h,h'=>by
  unfold bn
  rw[List.map_append,List.map_append]
  have e1:=LaidA.uniq L L' (λch hc=>h ch (List.mem_append_left _ hc)) λch hc=>h' ch (List.mem_append_left _ hc)
  unfold bn at e1
  rw[e1,List.map_cons,List.map_cons,List.map_nil,b1,b2,zci (h c1 (List.mem_append_right _ List.mem_cons_self)) (h' c2 (List.mem_append_right _ List.mem_cons_self)) λy=>(n1 y).trans (n2 y).symm]
theorem qO{cs cs':List Ch}(h:bn cs=bn cs')(k:Nat):(cs[k]?).map (λc=>(c.blk,c.nd))=(cs'[k]?).map λc=>(c.blk,c.nd):=by
 have:=congrArg (λl:List (Nat × List Int)=>l[k]?) h
 simpa [bn]using this
theorem qP{cs cs':List Ch}(h:bn cs=bn cs'){O t:Int->Bool}{b:Nat}:outcome cs O t b=outcome cs' O t b:=by
 have hl:cs.length=cs'.length:=by simpa [bn]using congrArg List.length h
 have hi:CM cs b=CM cs' b:=by
  rw[PZ,PZ,hl]
  refine List.filter_congr λk _=> ?_
  have:=qO h k
  cases e1:cs[k]? with
  | none=>rw[e1]at this;cases e2:cs'[k]? with
   | none=>rfl
   | some d=>rw[e2]at this;cases this
  | some c=>rw[e1]at this;cases e2:cs'[k]? with
   | none=>rw[e2]at this;cases this
   | some d =>
    rw[e2]at this
    simp only[Option.map_some,Option.some.injEq,Prod.mk.injEq]at this
    show(c.blk == b)=(d.blk == b)
    rw[this.1]
 have hs:DO cs O=DO cs' O:=by
  funext s k
  unfold DO
  have:(cs[k]?).bind (λc=>HK c.nd λx=>O x || s.gone x)=(cs'[k]?).bind λc=>HK c.nd λx=>O x || s.gone x:=by
   have:=qO h k
   cases e1:cs[k]? with
   | none=>rw[e1]at this;cases e2:cs'[k]? with
    | none=>rfl
    | some d=>rw[e2]at this;cases this
   | some c=>rw[e1]at this;cases e2:cs'[k]? with
    | none=>rw[e2]at this;cases this
    | some d =>
     rw[e2]at this
     simp only[Option.map_some,Option.some.injEq,Prod.mk.injEq]at this
     show HK c.nd _=HK d.nd _
     rw[this.2]
  rw[this]
 unfold outcome
 rw[hi,hs]
theorem zcj{cs cs':List Ch}(h:bn cs=bn cs'){O:Int->Bool}{b:Nat}:GJ cs O b=GJ cs' O b:=by
 unfold GJ
 rw[qP h]
theorem SM.bn{X X':SX}{cs cs':List Ch}{tks tks':List (AO × V)}{M:Hs}{H':Hp}(I:X.at a H cs tks M)(I':X'.at a H' cs' tks' M)(hn:X.n=X'.n)(hr:X.r=X'.r)(hc:X.c=X'.c)(hw:X.w=X'.w):bn cs=bn cs':=by
 have L':=I'.la
 rw[<-hn,<-hr,<-hc,<-hw]at L'
 refine I.la.uniq L' (λch hc=> ?_) λch hc=> ?_
 ·obtain⟨k,hk⟩:=UY hc
  exact(I.bk.bk.need k ch hk).2.1
 ·obtain⟨k,hk⟩:=UY hc
  exact(I'.bk.bk.need k ch hk).2.1
structure W72(a:Ad)(H:Hp)(h1 h2 h3 lp:Addr)(w:Nat)(y:Str)(X1 X2 X3:SX)(cs1 cs2:List Ch):Prop where
 a1:HsAt a H h1 X1 cs1 [] (M6 y)
 a2:HsAt a H h2 X2 cs2 [] (M6 y)
 a3:HsAt a H h3 X3 [] [] M0
 z1:X1.n=1/\X1.r=1/\X1.c=1/\X1.w=w/\X1.rows.length=5
 z2:X2.n=1/\X2.r=1/\X2.c=1/\X2.w=w/\X2.rows.length=5
 z3:X3.n=1/\X3.r=1/\X3.c=1/\X3.w=w/\X3.rows=List.replicate 5 (List.replicate w .non)
 o:X1.outs=X2.outs
 l:cs1.length=6/\cs2.length=6
 d12:∀ x,DR X1.S x->¬ DR X2.S x
 d13:∀ x,DR X1.S x->¬ DR X3.S x
 d23:∀ x,DR X2.S x->¬ DR X3.S x
 ly:X3.S.lp=lp
theorem W72.same{H':Hp}{h1 h2 h3 lp:Addr}{w:Nat}{y:Str}{X1 X2 X3:SX}{cs1 cs2:List Ch}(W:W72 a H h1 h2 h3 lp w y X1 X2 X3 cs1 cs2)(s:Same H H'):W72 a H' h1 h2 h3 lp w y X1 X2 X3 cs1 cs2 :=
 ⟨W.a1.same s,W.a2.same s,W.a3.same s,W.z1,W.z2,W.z3,W.o,W.l,W.d12,W.d13,W.d23,W.ly⟩
def Sc(K:W.Frag)(H:Hp)(s:Addr)(xs:List V)(N:Prop):Prop:=(∀ H,SqL K H s xs)\/(Rd H s (.lst xs)/\N)
theorem Sc.sq{s:Addr}{xs:List V}{N:Prop}(h:Sc K H s xs N):SqL K H s xs:=h.elim (λh=>h H) λh=>.inl h.1
theorem Sc.sb{s:Addr}{xs:List V}{N:Prop}{G:Addr->Prop}{H':Hp}(h:Sc K H s xs N)(sb:SameBut G H H')(n:N->¬ G s):Sc K H' s xs N:=by
 rcases h with h | ⟨h,hn⟩
 ·exact .inl h
 ·refine .inr ⟨?_,hn⟩
  rcases h with h | ⟨o,h⟩
  ·exact .inl (sb _ _ h (n hn))
  ·exact .inr ⟨o,sb _ _ h (n hn)⟩
theorem Sc.of{s:Addr}{xs:List V}{N:Prop}(h:SqL K H s xs)(n:H s≠none->N):Sc K H s xs N:=by
 rcases h with h | h
 ·refine .inr ⟨h,n ?_⟩
  rcases h with h | ⟨o,h⟩<;>rw[h]<;>simp
 ·exact .inl λH=>.inr h
section
variable{h lp s h1 h2 h3:Addr}{X:SX}{y:Str}{D:Ends}{x:Int}{y8 y9 y10:Option V}
theorem qQ(T:EA K a)(A:HsAt a H h X [] [] M0)(hr:0<X.r * X.w)(hn:0<X.m0)(hc:0<X.c * X.w)(hy:CN y=true)(q:∀ cs H',cs.length=6->HsAt a H' h X cs [] (M6 y)->SameBut (λx=>X.S.A.F x\/x=X.S.tk) H H'->D.nx [some (.ref s),some (.int x),some (.ref lp),some (.str y),some (.ref h1),some (.ref h2),some (.ref h3),some (.ref h),y8,y9,y10] H'):AK (X8 K a (λ_=>E) λ_=>E) (X9 K a (λ_=>E) λ_=>E) D [some (.ref s),some (.int x),some (.ref lp),some (.str y),some (.ref h1),some (.ref h2),some (.ref h3),some (.ref h),y8,y9,y10] H:=by
 have hl:=(HU hy).2.2
 obtain⟨dh,e⟩:=A.1
 push_cast[↓Wz]
 refine⟨_,_,e,rfl,B7 _ (by rw[show(Str.ofString "make ").length=5 by decide +kernel];omega),A.make T hr hn hy λcs1 H1 l1 A1 sb1=> ?_⟩
 obtain⟨dh,e⟩:=A1.1
 push_cast[↓Xb]
 refine⟨_,_,e,rfl,B7 _ (by rw[show(Str.ofString "put ").length=4 by decide +kernel];omega),B7 _ (by rw[C8,show(Str.ofString "put ").length=4 by decide +kernel,show(Str.ofString " some text").length=10 by decide +kernel];omega),A1.put T l1 hr hn hc hy λcs2 H2 l2 A2 KF=> ?_⟩
 exact q cs2 H2 l2 A2 λx o e n=>KF _ _ (sb1 _ _ e n) n
end
section
variable{s lp h1 h2 h3:Addr}{w:Nat}{y:Str}{X1 X2 X3:SX}{cs1 cs2:List Ch}{D:Ends}{c:Int}{y7 y8 y9:Option V}
theorem RP{kk:Nat}{z:Str}(T:EA K a)(TX:NW K a)(W:W72 a H h1 h2 h3 lp w y X1 X2 X3 cs1 cs2)(hz:z.length<=900)(hw:(C5 z=none/\kk≠2)\/∃ b:Nat,C5 z=some [("write":Str),CY b]/\b<1000/\5<=b/\kk=2)(hD:∀ H',Same H H'->D.nx [some (.ref s),some (.int c),some (.ref lp),some (.str y),some (.ref h1),some (.ref h2),some (.ref h3),y7,some (.int kk),some (.str z),none] H'):RL K a (λ_=>E) (λ_=>E) D [some (.ref s),some (.int c),some (.ref lp),some (.str y),some (.ref h1),some (.ref h2),some (.ref h3),y7,some (.int kk),some (.str z),none] H:=by
 push_cast[↓Xp]
 refine⟨h1,X1,cs1,[],M6 y,z,_,rfl,T,TX,W.a1,hz,?_,λH4 s4=> ?_⟩
 ·rcases hw with⟨e,n2⟩ | ⟨b,e,hb,h5,e2⟩
  ·refine .inl ⟨e,?_⟩
   rw[if_neg (by omega)]
   rfl
  ·refine .inr ⟨b,e,hb,by rw[W.z1.2.2.2.2];exact h5,?_⟩
   rw[if_pos (by omega)]
   rfl
 ·push_cast[]
  exact hD H4 s4
theorem zck(T:EA K a)(TX:NW K a)(W:W72 a H h1 h2 h3 lp w y X1 X2 X3 cs1 cs2)(hy:CN y=true)(hD:∀ H' k z,Same H H'->D.nx [some (.ref s),some (.int c),some (.ref lp),some (.str y),some (.ref h1),some (.ref h2),some (.ref h3),y7,k,z,none] H'):AK (YA K a (λ_=>E) λ_=>E) (AK (YB K a (λ_=>E) λ_=>E) (AK (YC K a (λ_=>E) λ_=>E) (AK (YD K a (λ_=>E) λ_=>E) (AK (YE K a (λ_=>E) λ_=>E) (RL K a (λ_=>E) λ_=>E))))) D [some (.ref s),some (.int c),some (.ref lp),some (.str y),some (.ref h1),some (.ref h2),some (.ref h3),y7,y8,y9,none] H:=by
 obtain⟨kk,ek,hk⟩:=HS c (n:=4) (by omega)
 rw[show((4:Nat):Int)=4 from rfl]at ek
 push_cast[↓Xd,↓Xg]
 rw[ek]
 refine⟨⟨by decide,by decide⟩,_,y,rfl,hy,λz H3 hz hzl s3=> ?_⟩
 push_cast[↓Xj]
 by_cases k1:kk=1
 ·rw[if_pos (by omega)]
  push_cast[↓Xh]
  refine⟨⟨by decide,by decide⟩,_,rfl,λz H4 hz hzl s4=> ?_⟩
  push_cast[↓pW,↓YF]
  rw[if_neg (by omega),if_neg (by omega)]
  exact RP T TX (W.same (s3.trans s4)) hzl (.inl ⟨hz,by omega⟩) λH5 s5=>hD _ _ _ ((s3.trans s4).trans s5)
 rw[if_neg (by omega)]
 push_cast[↓pW]
 by_cases k2:kk=2
 ·rw[if_pos (by omega)]
  push_cast[↓Xk]
  obtain⟨b,eb,hb⟩:=HS (c / 4) (n:=995) (by omega)
  rw[show((995:Nat):Int)=995 from rfl]at eb
  rw[eb,show(5:Int)+(b:Nat)=((5+b:Nat):Int) by omega]
  obtain⟨w1,w2⟩:=YS ⟨5+b,by omega⟩
  simp only at w1 w2
  refine⟨⟨by decide,by decide⟩,_,rfl,by omega,by omega,?_⟩
  push_cast[]
  rw[C8]at w2
  refine⟨B7 _ (by omega),?_⟩
  push_cast[↓YF]
  rw[if_neg (by omega)]
  exact RP T TX (W.same s3) (by rw[C8];omega) (.inr ⟨5+b,w1,by omega,by omega,k2⟩) λH5 s5=>hD _ _ _ (s3.trans s5)
 rw[if_neg (by omega)]
 push_cast[↓YF]
 by_cases k3:kk=3
 ·rw[if_pos (by omega)]
  push_cast[↓Xl]
  refine⟨⟨by decide,by decide⟩,_,rfl,λz H4 hz hzl s4=> ?_⟩
  exact RP T TX (W.same (s3.trans s4)) hzl (.inl ⟨hz,by omega⟩) λH5 s5=>hD _ _ _ ((s3.trans s4).trans s5)
 rw[if_neg (by omega)]
 exact RP T TX (W.same s3) hzl (.inl ⟨hz,by omega⟩) λH5 s5=>hD _ _ _ (s3.trans s5)
theorem W72.ni{h1 h2 h3 lp:Addr}{w:Nat}{y:Str}{X1 X2 X3:SX}{cs1 cs2:List Ch}(W:W72 a H h1 h2 h3 lp w y X1 X2 X3 cs1 cs2):bn cs1=bn cs2:=W.a1.2.bn W.a2.2 (W.z1.1.trans W.z2.1.symm) (W.z1.2.1.trans W.z2.2.1.symm) (W.z1.2.2.1.trans W.z2.2.2.1.symm) (W.z1.2.2.2.1.trans W.z2.2.2.2.1.symm)
theorem zcl{b:Nat}{y1:Option V}(T:EA K a)(hb:b<5)(W:W72 a H h1 h2 h3 lp w y X1 X2 X3 cs1 cs2)(hD:∀ X1' X2' H',W72 a H' h1 h2 h3 lp w y X1' X2' X3 cs1 cs2->D.nx [some (.ref s),y1,some (.ref lp),some (.str y),some (.ref h1),some (.ref h2),some (.ref h3),y7,y8,y9,some (.int b)] H'):AK (YG K a (λ_=>E) λ_=>E) (YH K a (λ_=>E) λ_=>E) D [some (.ref s),y1,some (.ref lp),some (.str y),some (.ref h1),some (.ref h2),some (.ref h3),y7,y8,y9,some (.int b)] H:=by
 have hbn:=W.ni
 obtain⟨w1,w2⟩:=YS ⟨b,by omega⟩
 simp only at w2
 rw[C8]at w2
 clear w1
 push_cast[↓Xy]
 obtain⟨d1,e1⟩:=W.a1.1
 refine⟨_,_,e1,rfl,_,rfl,by omega,by omega,?_⟩
 push_cast[]
 refine⟨B7 _ (by omega),W.a1.write T (by rw[W.z1.2.2.2.2];exact hb) (by omega) (by rw[W.l.1];omega) λrow1 H1 er1 A1 sb1=> ?_⟩
 have A2:=W.a2.farW W.a1.2 W.d12 sb1
 have A3:=W.a3.farW W.a1.2 W.d13 sb1
 obtain⟨d2,e2⟩:=A2.1
 refine⟨_,_,e2,rfl,_,rfl,by omega,by omega,?_⟩
 push_cast[]
 refine⟨B7 _ (by omega),A2.write T (by rw[W.z2.2.2.2.2];exact hb) (by omega) (by rw[W.l.2];omega) λrow2 H2 er2 A2' KF=> ?_⟩
 have A1':=A1.farW (X:=X1.wr cs1 b row1) A2.2 (λx o2 o1=>W.d12 x o1 o2) KF
 have A3':=A3.farW A2.2 W.d23 KF
 rw[qP hbn,W.o]
 push_cast[]
 have W':W72 a H2 h1 h2 h3 lp w y (X1.wr cs1 b row1) (X2.wr cs2 b row2) X3 cs1 cs2:=⟨A1',A2',A3',⟨W.z1.1,W.z1.2.1,W.z1.2.2.1,W.z1.2.2.2.1,by show(X1.rows.set _ _).length=5;rw[List.length_set];exact W.z1.2.2.2.2⟩,⟨W.z2.1,W.z2.2.1,W.z2.2.2.1,W.z2.2.2.2.1,by show(X2.rows.set _ _).length=5;rw[List.length_set];exact W.z2.2.2.2.2⟩,W.z3,by show GJ cs1 X1.outs b=GJ cs2 X2.outs b;rw[W.o,zcj hbn],W.l,W.d12,W.d13,W.d23,W.ly⟩
 push_cast[↓Yb]
 obtain⟨TB',TP,TL,TS⟩:=T.s4
 obtain⟨d3,e3⟩:=A3'.1
 have P3:=A3'.2.bk.pk
 obtain⟨dp,ep⟩:=P3.ob
 have L3:=A3'.2.ly
 rw[W.z3.1,W.z3.2.1,W.z3.2.2.1,W.z3.2.2.2.1,W.ly]at L3
 rw[W.z3.2.2.2.1,W.z3.2.2.2.2]at P3
 have wl:=P3.sw
 refine⟨_,_,e3,rfl,h3,d3,_,_,_,rfl,T.ho,e3,_,rfl,_,_,ep,IK _ _ _ (by decide +kernel) (by decide +kernel) (by decide +kernel),_,_,_,_,_,_,rfl,TP,P3,λj row hj hrow l hl=> ?_,λhbad=>by rw[List.length_replicate]at hbad;omega⟩
 have s5:=AT (o:=.lst row) hl
 obtain⟨dl,el⟩:=(L3.same s5).ob
 refine⟨_,_,el,C4 (by decide +kernel),lp,1,1,1,w,rfl,TL,TP,L3.same s5,λgp cl H6 _ _ P6 s6=> ?_⟩
 obtain⟨dg,eg⟩:=P6.ob
 refine⟨gp,rfl,_,_,eg,IK _ _ _ (by decide +kernel) (by decide +kernel) (by decide +kernel),gp,cl,w,_,_,rfl,TP,P6,w,rfl,by omega,by omega,?_⟩
 rw[Int.toNat_natCast]
 refine Av (B7 _ (by omega)) (λ_=>V.non) (λi _ Q' q'=>q') λr hr=> ?_
 have er:row=List.replicate w .non:=by
  rw[List.getElem?_replicate]at hrow
  split at hrow
  ·cases hrow;rfl
  ·cases hrow
 have e6:(List.range w).map (λ_=>V.non)=row:=by rw[er,List.map_const',List.length_range]
 rw[e6]
 refine Az (SqL.of (AT hr _ _ (s6 _ _ AH))) (SqL.of AH) (λv hv=>by rw[er]at hv;rw[List.eq_of_mem_replicate hv];rfl) ⟨_,rfl,?_⟩
 push_cast[]
 exact hD _ _ _ (W'.same ((s5.trans s6).trans (AT hr)))
end
theorem zcm(h:g5 K a vs H Q E):YI K a (λ_=>E) (A9 Q) (A4 ["script","cell","layout","name","house","beside","third","one","kind","row","block"] vs) H:=by
 obtain⟨s,ns,rfl,T,TX,hs,hl,q⟩:=h
 obtain⟨TB',TP,TL,TS⟩:=T.s4
 push_cast[YI,↓Wp,↓Jv]
 refine⟨ns,0,rfl,hs,by omega,?_⟩
 generalize J1 ns 0=x
 obtain⟨w,ew,hw⟩:∃ n:Nat,1+x % 4=n/\1<=n/\n<=4:=⟨(1+x % 4).toNat,by omega,by omega⟩
 push_cast[↓Wq,ew]
 intro lp dl hlp hdl ndl
 have s0:Same H (upd (upd H dl (.own lp)) lp (.ins (a "Layout") dl [])):=(AT hdl).trans (AT (by rw[AG ndl.symm];exact hlp))
 refine⟨lp,dl,1,1,1,w,rfl,TL,AH,by omega,by omega,by omega,hw.1,by omega,λH2 L2 KF=>⟨rfl,?_⟩⟩
 have s2:Same H H2:=λy o e=>KF _ _ (s0 _ _ e) (BL e hlp)
 clear s0 KF hlp hdl ndl
 replace hs:=s2.seq hs
 clear s2
 push_cast[↓Wv]
 refine⟨⟨by decide,by decide⟩,_,rfl,λy H3 hy s3=> ?_⟩
 have mk:∀ {H4:Hp} {QV:Addr->Hp->Prop},LayAt a H4 lp 1 1 1 w->(∀ (h:Addr) (S:SA) (H5:Hp),S.lp=lp->(∀ y,DR S y->H4 y=none)->HsAt a H5 h ⟨S,1,1,1,w,List.replicate 5 (List.replicate w .non),0,λ_=>false⟩ [] [] M0->Same H4 H5->QV h H5)->∀ (h dh:Addr),H4 h=none->H4 dh=none->dh≠h->J7 K a [.ref h,.ref lp] (upd (upd H4 dh (.own h)) h (.ins (a "House") dh [])) (λv H5=>v=.non/\QV h H5) E:=by
  intro H4 QV L4 qv h dh hh hdh ndh
  have s4:Same H4 (upd (upd H4 dh (.own h)) h (.ins (a "House") dh [])):=(AT hdh).trans (AT (by rw[AG ndh.symm];exact hh))
  refine⟨h,dh,lp,1,1,1,w,rfl,T,AH,L4.same s4,⟨by omega,by omega,by omega,by omega⟩,λS H5 elp off A sb=>⟨rfl,qv h S H5 elp (λy hy=>s4.free (off y hy)) A λy o e=>sb _ _ (s4 _ _ e) (BL e hh)⟩⟩
 push_cast[↓Ww]
 refine mk (L2.same s3) λh1 S1 H4 _ f1 A1 s4=> ?_
 push_cast[↓Wx]
 refine mk ((L2.same s3).same s4) λh2 S2 H5 _ f2 A2 s5=> ?_
 push_cast[↓Wy]
 refine mk (((L2.same s3).same s4).same s5) λh3 S3 H6 lp3 f3 A3 s6=> ?_
 have L6:=(((L2.same s3).same s4).same s5).same s6
 have d12:∀ x,DR S1 x->¬ DR S2 x:=λx o1 o2=>A1.2.has o1 (f2 x o2)
 have d13:∀ x,DR S1 x->¬ DR S3 x:=λx o1 o2=>(A1.same s5).2.has o1 (f3 x o2)
 have d23:∀ x,DR S2 x->¬ DR S3 x:=λx o1 o2=>A2.2.has o1 (f3 x o2)
 have sc:Sc K H3 s (ns.map V.int) (¬ DR S1 s/\¬ DR S2 s):=Sc.of (s3.seq hs) λh=>⟨λz=>h (f1 s z),λz=>h (s4.free (f2 s z))⟩
 replace sc:=sc.sb (G:=λ_=>False) (Same.sb ((s4.trans s5).trans s6)) λ_ z=>z
 replace A1:=(A1.same s5).same s6
 replace A2:=A2.same s6
 clear f1 f2 f3 s3 s4 s5 s6 mk L2
 push_cast[↓Xc]
 refine⟨by decide,λp hp=>.inr ⟨⟨_,SqT.of AH⟩,?_⟩⟩
 have s7:=AT (o:=.tup [.ref h1,.ref h2]) hp
 have e7:upd H6 p (.tup [.ref h1,.ref h2]) p=some (.tup [.ref h1,.ref h2]):=AH
 revert s7 e7
 generalize hH7:upd H6 p (.tup [.ref h1,.ref h2])=H7
 clear hH7
 intro s7 e7
 replace A1:=A1.same s7
 replace A2:=A2.same s7
 replace A3:=A3.same s7
 replace L6:=L6.same s7
 replace sc:=sc.sb (G:=λ_=>False) (Same.sb s7) λ_ z=>z
 obtain⟨X1,eX1⟩:∃ X:SX,X=⟨S1,1,1,1,w,List.replicate 5 (List.replicate w .non),0,λ_=>false⟩:=⟨_,rfl⟩
 obtain⟨X2,eX2⟩:∃ X:SX,X=⟨S2,1,1,1,w,List.replicate 5 (List.replicate w .non),0,λ_=>false⟩:=⟨_,rfl⟩
 obtain⟨X3,eX3⟩:∃ X:SX,X=⟨S3,1,1,1,w,List.replicate 5 (List.replicate w .non),0,λ_=>false⟩:=⟨_,rfl⟩
 rw[<-eX1]at A1
 rw[<-eX2]at A2
 rw[<-eX3]at A3
 have g1:X1.S=S1/\0<X1.r * X1.w/\0<X1.m0/\0<X1.c * X1.w:=by rw[eX1];exact⟨rfl,by simp;omega,by simp[SX.m0];omega,by simp;omega⟩
 have g2:X2.S=S2/\0<X2.r * X2.w/\0<X2.m0/\0<X2.c * X2.w:=by rw[eX2];exact⟨rfl,by simp;omega,by simp[SX.m0];omega,by simp;omega⟩
 have g3:X3.S=S3:=by rw[eX3]
 have keep:∀ {X X':SX} {h':Addr} {cs cs':List Ch} {M M':Hs} {Ha Hb:Hp},X.at a Ha cs [] M->HsAt a Ha h' X' cs' [] M'->(∀ x,DR X.S x->¬ DR X'.S x)->SameBut (λx=>X.S.A.F x\/x=X.S.tk) Ha Hb->HsAt a Hb h' X' cs' [] M':=λI A' d sb=>A'.sb sb I.fLoose λx hx=>⟨λz=>d x (hx.elim .inl λh=>.inr (.inl h)) (.inl z),λz=>d x (hx.elim .inl λh=>.inr (.inl h)) (.inr (.inl z))⟩
 refine eI (xs:=[.ref h1,.ref h2]) (λi σ H'=>(∃ y1 y7,σ=[some (.ref s),y1,some (.ref lp),some (.str y),some (.ref h1),some (.ref h2),some (.ref h3),y7,none,none,none]/\y1=some (.int x))/\H' p=some (.tup [.ref h1,.ref h2])/\Sc K H' s (ns.map V.int) (¬ DR S1 s/\¬ DR S2 s)/\LayAt a H' lp 1 1 1 w/\HsAt a H' h3 X3 [] [] M0/\(if i=0 then HsAt a H' h1 X1 [] [] M0 else ∃ cs1,cs1.length=6/\HsAt a H' h1 X1 cs1 [] (M6 y))/\if i<=1 then HsAt a H' h2 X2 [] [] M0 else ∃ cs2,cs2.length=6/\HsAt a H' h2 X2 cs2 [] (M6 y)) ⟨⟨_,_,rfl,rfl⟩,e7,sc,L6,A3,A1,A2⟩ (λi σ H' _ ⟨_,e,_⟩=>SqT.of e) (λi v σ H' hv ⟨⟨y1,y7,es,ey⟩,ep,sc',L',A3',A1',A2'⟩=> ?_) (λσ H' ⟨⟨y1,y7,es,ey⟩,ep,sc',L',A3',A1',A2'⟩=> ?_)
 ·subst es ey
  have hk:∀ {X:SX} {Hb:Hp} {cs:List Ch} {M:Hs},X.at a H' cs [] M->SameBut (λx=>X.S.A.F x\/x=X.S.tk) H' Hb->FS H' Hb/\LayAt a Hb lp 1 1 1 w:=λI sb=>⟨NX sb I.fLoose,by
   obtain⟨dl,el⟩:=L'.ob
   exact L'.sb sb λz=>(I.fLoose _ z).2 _ _ _ el⟩
  match i,hv with
  | 0,hv =>
   obtain rfl:V.ref h1=v:=by simpa using hv
   simp only[if_true]at A1'
   simp only[AQ]
   refine qQ T A1' g1.2.1 g1.2.2.1 g1.2.2.2 hy λcs Hb l6 A1b sb=> ?_
   obtain⟨tk,Lb⟩:=hk A1'.2 sb
   exact⟨⟨_,_,rfl,rfl⟩,tk _ _ ep,sc'.sb sb λn z=>n.1 (by rw[<-g1.1];exact z.elim .inl λh=>.inr (.inl h)),Lb,keep A1'.2 A3' (by rw[g1.1,g3];exact d13) sb,⟨cs,l6,A1b⟩,keep A1'.2 A2' (by rw[g1.1,g2.1];exact d12) sb⟩
  | 1,hv =>
   obtain rfl:V.ref h2=v:=by simpa using hv
   simp only[if_true,Nat.le_refl]at A2'
   rw[if_neg (by decide)]at A1'
   obtain⟨cs1,l1,A1'⟩:=A1'
   simp only[AQ]
   refine qQ T A2' g2.2.1 g2.2.2.1 g2.2.2.2 hy λcs Hb l6 A2b sb=> ?_
   obtain⟨tk,Lb⟩:=hk A2'.2 sb
   exact⟨⟨_,_,rfl,rfl⟩,tk _ _ ep,sc'.sb sb λn z=>n.2 (by rw[<-g2.1];exact z.elim .inl λh=>.inr (.inl h)),Lb,keep A2'.2 A3' (by rw[g2.1,g3];exact d23) sb,⟨cs1,l1,keep A2'.2 A1' (by rw[g2.1,g1.1];exact λx o2 o1=>d12 x o1 o2) sb⟩,⟨cs,l6,A2b⟩⟩
 ·subst es ey
  rw[if_neg (by simp)]at A1'
  rw[if_neg (by simp)]at A2'
  obtain⟨cs1,l1,A1'⟩:=A1'
  obtain⟨cs2,l2,A2'⟩:=A2'
  have W:W72 a H' h1 h2 h3 lp w y X1 X2 X3 cs1 cs2:=⟨A1',A2',A3',by rw[eX1];simp,by rw[eX2];simp,by rw[eX3];exact⟨rfl,rfl,rfl,rfl,rfl⟩,by rw[eX1,eX2],⟨l1,l2⟩,by rw[g1.1,g2.1];exact d12,by rw[g1.1,g3];exact d13,by rw[g2.1,g3];exact d23,by rw[g3];exact lp3⟩
  clear A1' A2' A3' L' ep
  push_cast[↓Xq]
  refine .inl ⟨⟨_,sc'.sq⟩,MY (xs:=ns.map V.int) (λi σ H2=>Same H' H2/\∃ y1 y8 y9,σ=[some (.ref s),y1,some (.ref lp),some (.str y),some (.ref h1),some (.ref h2),some (.ref h3),y7,y8,y9,none]) ⟨Same.refl _,_,_,_,rfl⟩ (λi σ H2 _ ⟨s2,_⟩=>s2.seq sc'.sq) (λi v σ H2 hv hzz=> ?_) (λσ H2 hzz=> ?_)⟩
  ·obtain⟨s2,y1,y8,y9,es⟩:=hzz
   subst es
   rw[List.getElem?_map,Option.map_eq_some_iff]at hv
   obtain⟨c,_,rfl⟩:=hv
   simp only[AQ]
   exact zck T TX (W.same s2) hy λH3 k z s3=>⟨s2.trans s3,_,_,_,rfl⟩
  ·obtain⟨s2,y1,y8,y9,es⟩:=hzz
   subst es
   push_cast[]
   replace W:=W.same s2
   have hn:0<X1.m0:=by show 0<X1.n * X1.w;rw[W.z1.1,W.z1.2.2.2.1];omega
   have hr:0<X1.r * X1.w:=by rw[W.z1.2.1,W.z1.2.2.2.1];omega
   have hc:0<X1.c * X1.w:=by rw[W.z1.2.2.1,W.z1.2.2.2.1];omega
   obtain⟨d1,e1⟩:=W.a1.1
   push_cast[↓Xw]
   have nm6:IN (M6 y) X1.m0=[y]:=by
    show(List.range X1.m0).filterMap (λk=>(E3 (M6 y) k).map (·.1))=[y]
    obtain⟨m,em⟩:∃ m,X1.m0=m+1:=⟨X1.m0 - 1,by omega⟩
    rw[em,List.range_succ_eq_map,List.filterMap_cons]
    show y::(List.map Nat.succ (List.range m)).filterMap _=[y]
    rw[List.filterMap_eq_nil_iff.mpr]
    intro k hk
    obtain⟨j,_,rfl⟩:=List.mem_map.mp hk
    rfl
   have hyl:=(HU hy).2.2
   refine⟨_,_,e1,rfl,W.a1.names T (ks:=[y]) (λl hl=>by rw[nm6]at hl;exact List.perm_singleton.mp hl) (by simp;omega) λH3 s3=> ?_⟩
   have ej:Q4 [y]=y:=by
    show Txt.join (Str.ofString " ") [y]=y
    rfl
   rw[ej]
   push_cast[]
   refine⟨_,_,s3 _ _ e1,rfl,B7 _ (by rw[show(Str.ofString "show ").length=5 by decide +kernel];omega),(W.a1.same s3).show6 T hr hn hc hy λH4 s4=> ?_⟩
   push_cast[]
   replace W:=W.same (s3.trans s4)
   push_cast[↓Yc]
   refine⟨by decide,by decide,eJ (λi σ H5=>∃ X1 X2,W72 a H5 h1 h2 h3 lp w y X1 X2 X3 cs1 cs2/\∃ y10,σ=[some (.ref s),y1,some (.ref lp),some (.str y),some (.ref h1),some (.ref h2),some (.ref h3),y7,y8,y9,y10]) ⟨X1,X2,W,_,rfl⟩ (λi σ H5 hi hzz=> ?_) (λσ H5 hzz=> ?_)⟩
   ·obtain⟨X1,X2,W,y10,es⟩:=hzz
    subst es
    simp only[AQ,Int.zero_add]
    exact zcl T hi W λX1' X2' H6 W'=>⟨X1',X2',W',_,rfl⟩
   ·obtain⟨X1,X2,W,y10,es⟩:=hzz
    subst es
    push_cast[]
    push_cast[↓Yd]
    obtain⟨d3,e3⟩:=W.a3.1
    refine⟨_,_,e3,rfl,W.a3.names T (ks:=[]) (λl hl=> ?_) (by simp) λH6 s6=> ?_⟩
    ·have n0:IN M0 X3.m0=[]:=List.filterMap_eq_nil_iff.mpr λk _=>rfl
     rw[n0]at hl
     exact List.perm_nil.mp hl
    ·show CC K (.str (Str.ofString "-")) (.str (Str.ofString "-")) H6 Q
     push_cast[]
     exact q _
end
end L2
namespace L2
def BC(i:Nat):Stmt:=PySem.Challenge.pw_holdback_k72_no_rows.main.body.getD i (.Pass ⟨0,0,0,0⟩)
structure Txt(K:W.Frag)(mg:Str->Option Value)(a:Ad):Prop where
 zgn:Cls K (a "Change")
 EC:Cls K (a "Hold")
 HW:Cls K (a "House")
 C1:Cls K (a "Layout")
 G8:Cls K (a "Plank")
 ED:Cls K (a "Store")
 zgo:GV mg "DEEDS" (.ref (a "DEEDS"))
 rX:GV mg "FORMS" (.ref (a "FORMS"))
 rY:TabK K (a "FORMS") LQ
 zg2:mg "HoldError"=some (.ref (a "HoldError"))
 zhh:GV mg "HoldError" (.ref (a "HoldError"))
 zhj:Exc K (a "HoldError")
 zgp:GV mg "MOST_FIGURES" (.int 3)
 zgq:GV mg "MOST_LETTERS" (.int 8)
 zgr:GV mg "MOST_PIECE_SIGNS" (.int 40)
 bL:mg "NoBlock"=some (.ref (a "NoBlock"))
 zgs:GV mg "NoBlock" (.ref (a "NoBlock"))
 bN:Exc K (a "NoBlock")
 zg3:mg "NoChange"=some (.ref (a "NoChange"))
 zgt:GV mg "NoChange" (.ref (a "NoChange"))
 zg7:Exc K (a "NoChange")
 rZ:mg "NoName"=some (.ref (a "NoName"))
 zgu:GV mg "NoName" (.ref (a "NoName"))
 r8:Exc K (a "NoName")
 zg4:mg "NoPiece"=some (.ref (a "NoPiece"))
 zgv:GV mg "NoPiece" (.ref (a "NoPiece"))
 zg8:Exc K (a "NoPiece")
 zg5:mg "NoRoom"=some (.ref (a "NoRoom"))
 zgw:GV mg "NoRoom" (.ref (a "NoRoom"))
 zg9:Exc K (a "NoRoom")
 bM:mg "NoRow"=some (.ref (a "NoRow"))
 zgx:GV mg "NoRow" (.ref (a "NoRow"))
 bO:Exc K (a "NoRow")
 zhi:mg "NotSound"=some (.ref (a "NotSound"))
 zgy:GV mg "NotSound" (.ref (a "NotSound"))
 zhk:Exc K (a "NotSound")
 zgz:GV mg "PERCENT" (.int 37)
 zg6:mg "Twice"=some (.ref (a "Twice"))
 zg0:GV mg "Twice" (.ref (a "Twice"))
 zha:Exc K (a "Twice")
 zg1:GV mg "WITH_A_NUMBER_LAST" (.ref (a "WITH_A_NUMBER_LAST"))
 zgk:mg "ValueError"=none
 RY:mg "all"=none
 zgl:mg "dict"=none
 rV:mg "enumerate"=none
 L9:mg "int"=none
 RZ:mg "isinstance"=none
 FV:mg "len"=none
 bI:mg "list"=none
 zgm:mg "ord"=none
 IR:mg "range"=none
 rW:mg "set"=none
 bJ:mg "sorted"=none
 R0:mg "str"=none
 bK:mg "tuple"=none
section
variable(P:Program)(w:World){K:W.Frag}{mg:Str->Option Value}(base:Heap){a:Ad}{f:Addr}{fd:FuncData}
seal wpAny
abbrev YT:Stmt:=BP (BC 33) 0
theorem zcn:FnScope ["self","place","value","needs"] ["self","place","value","needs"] (AW YT):=.go
def zco(T:Txt K mg a)(F:Fun K "__init__" "Change.__init__" YT f fd) :
  FP P w K mg base 1 f fd ["self","place","value","needs"] (QD K a) :=
 F.okL (VF K a) zcn Yw λ_ _ _ _ _ E hr hx=>(AN (DU (AB 0) (AB 1) rfl) (AN (DU (AB 0) (AB 2) rfl) (AM (DU (AB 0) (AB 3) rfl))))
abbrev YU:Stmt:=BP (BC 34) 10
theorem qR:FnScope ["self","numbers","number"] ["self","numbers"] (AW YU):=.go
def zcp(T:Txt K mg a)(F:Fun K "ask_for_changes" "Book.ask_for_changes" YU f fd) :
  FP P w K mg base 1 f fd ["self","numbers"] (QH K a) :=
 F.okL (VG K a) qR Zc λ_ _ _ _ _ E hr hx=>(AM (GT hx.po rfl (G1 (AB 1)) (C3 2 qR.nd) (AM (BV (G9 (MI EY MT A0 (AB 2) (DA FL rfl T.FV (by rfl) (AI (AY (AB 0) rfl))))) (AM (GG hx T.zg7 rfl T.zg3 (AI AL))) CB))))
abbrev YV:Stmt:=BC 35
theorem zcq:FnScope ["needs","ahead"] ["needs","ahead"] (AW YV):=.go
def zcr(T:Txt K mg a)(F:Fun K "needs_with" "needs_with" YV f fd) :
  FP P w K mg base 1 f fd ["needs","ahead"] (QE K a) :=
 F.okL (RE K a) zcq Yy λ_ _ _ _ _ E hr hx=>(AN (BV (CD OQ (AB 1) FE (BY _)) (AM (A8 (EE TN rfl T.bK (by rfl) (AI (fP rfl rfl T.bJ rfl T.rW (AB 0)))))) CB) (AM (A8 (EE TN rfl T.bK (by rfl) (AI (fP rfl rfl T.bJ rfl T.rW (AU BG (EE TM rfl T.bI (by rfl) (AI (AB 0))) (DD (AI (AB 1))))))))))
abbrev YW:Stmt:=BP (BC 37) 2
theorem qS:FnScope ["self","number","gone","need"] ["self","number","gone"] (AW YW):=.go
def zcs(T:Txt K mg a)(F:Fun K "lack_of" "Hold.lack_of" YW f fd) :
  FP P w K mg base 1 f fd ["self","number","gone"] (QI K a) :=
 F.okL (VM K a) qS Zj λ_ _ _ _ _ E hr hx=>(AN (GT hx.po rfl (G1 (AY (CU CW (AY (AB 0) rfl) (AB 1) (λ_ _=>rfl)) rfl)) (C3 3 qS.nd) (AM (BV (PW.pt (OE (JM (O0 (GZ hr) (AB 3) (AY (AB 0) rfl)) (by with_unfolding_all rfl)) (OD (JM (O0 (GZ hr) (AB 3) (AB 2)) (by with_unfolding_all rfl))))) (AM (A8 (AB 3))) CB))) (AM (A8 FE)))
abbrev YX:Stmt:=BP (BC 37) 3
theorem YY:FnScope ["self","values","block","laid","number"] ["self","values","block"] (AW YX):=.go
def zct(T:Txt K mg a)(F:Fun K "laid_over" "Hold.laid_over" YX f fd) :
  FP P w K mg base 1 f fd ["self","values","block"] (QK K a) :=
 F.okL (VS K a) YY Zm λ_ _ _ _ _ E hr hx=>(AN (BE 3 YY.nd (EE TM rfl T.bI (by rfl) (AI (AB 1)))) (AN (GT hx.po rfl (G1 (CU CW (AY (AB 0) rfl) (AB 2) (λ_ _=>rfl))) (C3 4 YY.nd) (AM (BV (JM (dP (GZ hr) (AB 4) (AY (AB 0) rfl)) (by with_unfolding_all rfl)) (AM (bU (AY (CU CW (AY (AB 0) rfl) (AB 4) (λ_ _=>rfl)) rfl) (bT (AB 3) (CU CW (AY (CU CW (AY (AB 0) rfl) (AB 4) (λ_ _=>rfl)) rfl) A0 (λ_ _=>rfl)) eD))) CB))) (AM (A8 (AB 3)))))
abbrev YZ:Stmt:=BC 40
theorem zcu:FnScope ["sign"] ["sign"] (AW YZ):=.go
def zcv(T:Txt K mg a)(F:Fun K "is_sign" "is_sign" YZ f fd) :
  FP P w K mg base 1 f fd ["sign"] (QT K a) :=
 F.okL (VT K a) zcu zau λ_ _ _ _ _ E hr hx=>(AM (A8 (MF (MH EY EY AL (AB 0) AL) (ME (IT (IX hr.units) (DA Bd rfl T.zgm (by rfl) (AI (AB 0))) (EW T.zgz rfl) (BY _))))))
abbrev Y0:Stmt:=BC 44
theorem qT:FnScope ["thing"] ["thing"] (AW Y0):=.go
theorem Y1:(["sign"]:List Str).Nodup:=by decide +kernel
def zcw(T:Txt K mg a)(F:Fun K "is_name" "is_name" Y0 f fd) :
  FP P w K mg base 1 f fd ["thing"] (QU K a) :=
 F.okL (VU K a) qT zav λ_ _ _ _ _ E hr hx=>(AM (A8 (MF (MH EY EY A0 (DA FL rfl T.FV (by rfl) (AI (AB 0))) (EW T.zgq rfl)) (ME (DA (O5 rfl) rfl T.RY (by rfl) (AI (G0 (tn:=["sign"]) (cn:=[]) (cap:=[]) qT.cp rfl (TW (AB 0)) (λ_ _ _ _ _ _=>(C3 0 Y1)) (λ_ _ _ _ _ _=>FZ) (λ_ _ _ _ _ _=>(MH EY EY AL (AB 0) AL)))))))))
abbrev Y2:Stmt:=BP (BC 60) 1
theorem zcx:FnScope ["self"] ["self"] (AW Y2):=.go
def zcy(T:Txt K mg a)(F:Fun K "plank" "House.plank" Y2 f fd) :
  FP P w K mg base 1 f fd ["self"] (Q5 K a) :=
 F.okL (VV K a) zcx zbp λ_ _ _ _ _ E hr hx=>(AM (A8 (AY (AB 0) rfl)))
abbrev Y3:Stmt:=BC 62
theorem qU:FnScope ["word"] ["word"] (AW Y3):=.go
def zcz(T:Txt K mg a)(F:Fun K "is_number" "is_number" Y3 f fd) :
  FP P w K mg base 1 f fd ["word"] (Q2 K a) :=
 F.okL (VW K a) qU zbq λ_ _ _ _ _ E hr hx=>(AN (BV (PW.pt (R6 (G9 (MI EY EY A0 (DA FL rfl T.FV (by rfl) (AI (AB 0))) (EW T.zgp rfl))) (R5 (G9 (MJ (DA (O5 rfl) rfl T.RY (by rfl) (AI (G0 (tn:=["sign"]) (cn:=[]) (cap:=[]) qU.cp rfl (TW (AB 0)) (λ_ _ _ _ _ _=>(C3 0 Y1)) (λ_ _ _ _ _ _=>FZ) (λ_ _ _ _ _ _=>(MH EY EY AL (AB 0) AL))))) (λ_=>rfl)))))) (AM (A8 HZ)) CB) (AM (A8 (sT (IT (D0 hr.units) (AB 0) AL (BY _)) (ME (IT (IX hr.units) (D2 (AB 0)) AL (BY _)))))))
abbrev Y4:Stmt:=BC 65
theorem Y5:FnScope ["told","out","held"] ["told"] (AW Y4):=.go
def zc0(T:Txt K mg a)(F:Fun K "numbers_of_writing" "numbers_of_writing" Y4 f fd) :
  FP P w K mg base 1 f fd ["told"] (NV K a) :=
 F.okL (VX K a) Y5 zbr λ_ _ _ _ _ E hr hx=>(AN (BE 1 Y5.nd (DA FL rfl T.FV (by rfl) (AI (D2 (AB 0))))) (AN (BE 2 Y5.nd (DA FL rfl T.FV (by rfl) (AI (D2 (AB 0))))) (AM (A8 (Gq (AB 1) (AB 2))))))
abbrev Y6:Stmt:=BC 66
theorem zc1:FnScope ["parts"] ["parts"] (AW Y6):=.go
def zc2(T:Txt K mg a)(F:Fun K "joined_or_dash" "joined_or_dash" Y6 f fd) :
  FP P w K mg base 1 f fd ["parts"] (LS K a) :=
 F.okL (VY K a) zc1 zbs λ_ _ _ _ _ E hr hx=>(AM (A8 (bQ (CD TK (DA FL rfl T.FV (by rfl) (AI (AB 0))) A0 (BY _)) (HF PySem.F.plainAttrs_str PySem.F.slot_str_join PySem.F.type_str_join fR AL (AI (AB 0))) AL)))
abbrev Y7:Stmt:=BP (BC 68) 0
theorem qV:FnScope ["self","blocks","cells"] ["self","blocks","cells"] (AW Y7):=.go
theorem zc3:(["block","cells"]:List Str).Nodup:=by decide +kernel
def zc4(T:Txt K mg a)(F:Fun K "__init__" "Plank.__init__" Y7 f fd) :
  FP P w K mg base 1 f fd ["self","blocks","cells"] (PN K a) :=
 F.okL (VZ K a) qV Yj λ_ _ _ _ _ E hr hx=>(AN (DU (AB 0) (G0 (tn:=["block"]) (cn:=["cells"]) (cap:=[2]) qV.cp rfl (IA rfl T.IR (AI (AB 1))) (λ_ _ _ _ _ _=>(C3 0 zc3)) (λ_ _ _ _ _ _=>FZ) (λ_ _ _ _ _ _=>(AU IY (E9 (AI FE)) (AB 1)))) rfl) (AN (DU (AB 0) (AB 2) rfl) (AM (DU (AB 0) A0 rfl))))
abbrev Y8:Stmt:=BP (BC 68) 1
theorem zc5:FnScope ["self"] ["self"] (AW Y8):=.go
def zc6(T:Txt K mg a)(F:Fun K "blocks" "Plank.blocks" Y8 f fd) :
  FP P w K mg base 1 f fd ["self"] (ND K a) :=
 F.okL (V0 K a) zc5 Yk λ_ _ _ _ _ E hr hx=>(AM (A8 (DA FL rfl T.FV (by rfl) (AI (AY (AB 0) rfl)))))
abbrev Y9:Stmt:=BP (BC 68) 2
theorem zc7:FnScope ["self"] ["self"] (AW Y9):=.go
def zc8(T:Txt K mg a)(F:Fun K "cells" "Plank.cells" Y9 f fd) :
  FP P w K mg base 1 f fd ["self"] (NE K a) :=
 F.okL (V1 K a) zc7 Yl λ_ _ _ _ _ E hr hx=>(AM (A8 (AY (AB 0) rfl)))
abbrev ZA:Stmt:=BP (BC 68) 6
theorem zc9:FnScope ["self","block"] ["self","block"] (AW ZA):=.go
def zda(T:Txt K mg a)(F:Fun K "ask_for_block" "Plank.ask_for_block" ZA f fd) :
  FP P w K mg base 1 f fd ["self","block"] (JU K a) :=
 F.okL (V2 K a) zc9 Ym λ_ _ _ _ _ E hr hx=>(AM (BV (G9 (MI EY MT A0 (AB 1) (DA FL rfl T.FV (by rfl) (AI (AY (AB 0) rfl))))) (AM (GG hx T.bN rfl T.bL (AI AL))) CB))
abbrev ZB:Stmt:=BP (BC 70) 0
theorem zdb:FnScope ["self","names","records","pieces","cells"] ["self","names","records","pieces","cells"] (AW ZB):=.go
def zdc(T:Txt K mg a)(F:Fun K "__init__" "Layout.__init__" ZB f fd) :
  FP P w K mg base 1 f fd ["self","names","records","pieces","cells"] (P7 K a) :=
 F.okL (V3 K a) zdb Zq λ_ _ _ _ _ E hr hx=>(AN (DU (AB 0) (AB 1) rfl) (AN (DU (AB 0) (AB 2) rfl) (AN (DU (AB 0) (AB 3) rfl) (AM (DU (AB 0) (AB 4) rfl)))))
abbrev ZC:Stmt:=BP (BC 70) 6
theorem zdd:FnScope ["self"] ["self"] (AW ZC):=.go
def zde(T:Txt K mg a)(F:Fun K "counts" "Layout.counts" ZC f fd) :
  FP P w K mg base 1 f fd ["self"] (JZ K a) :=
 F.okL (V4 K a) zdd zad λ_ _ _ _ _ E hr hx=>(AM (A8 (E9 (EZ (AU IY (AY (AB 0) rfl) (AY (AB 0) rfl)) (AU IY (AY (AB 0) rfl) (AY (AB 0) rfl)) (AU IY (AY (AB 0) rfl) (AY (AB 0) rfl))))))
abbrev ZD:Stmt:=BP (BC 70) 9
theorem zdf:FnScope ["self"] ["self"] (AW ZD):=.go
def zdg(T:Txt K mg a)(F:Fun K "blocks_ahead_of_marks" "Layout.blocks_ahead_of_marks" ZD f fd) :
  FP P w K mg base 1 f fd ["self"] (LJ K a) :=
 F.okL (V5 K a) zdf zab λ_ _ _ _ _ E hr hx=>(AM (A8 (AU BG (AU BG (AY (AB 0) rfl) (AY (AB 0) rfl)) (AY (AB 0) rfl))))
abbrev ZE:Stmt:=BP (BC 70) 10
theorem zdh:FnScope ["self","block","k"] ["self","block","k"] (AW ZE):=.go
def zdi(T:Txt K mg a)(F:Fun K "place_from" "Layout.place_from" ZE f fd) :
  FP P w K mg base 1 f fd ["self","block","k"] (JA K a) :=
 F.okL (V6 K a) zdh Zv λ_ _ _ _ _ E hr hx=>(AM (A8 (E9 (B9 (AU BG (AB 1) (AU FW (AB 2) (AY (AB 0) rfl))) (AU E8 (AB 2) (AY (AB 0) rfl))))))
abbrev ZF:Stmt:=BC 72
theorem zdj:FnScope ["script","k"] ["script","k"] (AW ZF):=.go
def zdk(T:Txt K mg a)(F:Fun K "_law_cell_at" "_law_cell_at" ZF f fd) :
  FP P w K mg base 1 f fd ["script","k"] (LM K a) :=
 F.okL (V7 K a) zdj Yh λ_ _ _ _ _ E hr hx=>(AN (BV (CD MT (AB 1) (DA FL rfl T.FV (by rfl) (AI (AB 0))) (BY _)) (AM (A8 (CU CW (AB 0) (AB 1) (λ_ _=>rfl)))) CB) (AM (A8 A0)))
abbrev ZG:Stmt:=BC 73
theorem N0:FnScope ["cell","letters","name","k"] ["cell"] (AW ZG):=.go
def zdl(T:Txt K mg a)(F:Fun K "_law_name" "_law_name" ZG f fd) :
  FP P w K mg base 1 f fd ["cell"] (Q6 K a) :=
 F.okL (V8 K a) N0 zb7 λ_ _ _ _ _ E hr hx=>(AN (BE 1 N0.nd AL) (AN (BE 2 N0.nd AL) (AN (GT hx.po rfl (IA rfl T.IR (AI (AU BG A0 (AU E8 (AB 0) A0)))) (C3 3 N0.nd) (AM (BE 2 N0.nd (AU BG (AB 2) (CU CW (AB 1) (AU E8 (AU BG (AU FW (AB 0) A0) (AU IY (AU IY (AU BG (AU E8 (AU FW (AB 0) A0) A0) A0) (AB 3)) (AB 3))) A0) (λ_ _=>rfl)))))) (AM (A8 (AB 2))))))
abbrev ZH:Stmt:=BC 74
theorem KE:FnScope ["number","name","some"] ["number","name"] (AW ZH):=.go
def zdm(T:Txt K mg a)(F:Fun K "_law_odd" "_law_odd" ZH f fd) :
  FP P w K mg base 1 f fd ["number","name"] (Q7 K a) :=
 F.okL (V9 K a) KE zcg λ_ _ _ _ _ E hr hx=>(AN (BE 2 KE.nd (DD (B0 AL (B0 AL (B0 AL (B0 AL (B0 AL (B0 AL (B0 AL (B0 AL (B0 AL (GH AL AL AL AL)))))))))))) (AN (BE 2 KE.nd (AU BG (AB 2) (DD (B0 AL (B0 AL (GH AL (AU BG AL (AB 1)) (AU BG (AU BG AL (AB 1)) AL) (AU BG (AU BG AL (AB 1)) AL))))))) (AN (BE 2 KE.nd (AU BG (AB 2) (DD (B0 (AU BG AL (AB 1)) (B0 AL (GH (AU BG AL (AB 1)) (AU BG AL (AB 1)) (AU BG AL (AB 1)) (AU BG (AU BG AL (AB 1)) AL))))))) (AN (BE 2 KE.nd (AU BG (AB 2) (DD (B0 (AU BG (AU BG AL (AB 1)) AL) (GH (AU BG (AU BG AL (AB 1)) AL) AL AL AL))))) (AN (BE 2 KE.nd (AU BG (AB 2) (DD (B0 AL (B0 AL (GH AL AL AL (AU BG (AU BG AL (AB 1)) AL))))))) (AN (BE 2 KE.nd (AU BG (AB 2) (DD (GH AL (AU BG (AU BG AL (AB 1)) AL) (AU BG (AU BG AL (AB 1)) AL) (AU BG (AU BG AL (AB 1)) AL))))) (AM (A8 (CU CW (AB 2) (AU E8 (AB 0) A0) (λ_ _=>rfl))))))))))
abbrev ZI:Stmt:=BC 75
theorem N1:FnScope ["cell","words","word","tail","at"] ["cell"] (AW ZI):=.go
def zdn(T:Txt K mg a)(F:Fun K "_law_turned" "_law_turned" ZI f fd) :
  FP P w K mg base 1 f fd ["cell"] (Q8 K a) :=
 F.okL (WA K a) N1 zca λ_ _ _ _ _ E hr hx=>(AN (BE 1 N1.nd (DD (B0 AL (B0 AL (B0 AL (B0 AL (B0 AL (B0 AL (GH AL AL AL AL))))))))) (AN (BE 2 N1.nd (CU CW (AB 1) (AU E8 (AB 0) A0) (λ_ _=>rfl))) (AN (BE 3 N1.nd (CU CW (DD (B0 AL (B0 AL (GH AL AL AL AL)))) (AU E8 (AU FW (AB 0) A0) A0) (λ_ _=>rfl))) (AN (BE 4 N1.nd (AU E8 (AU FW (AB 0) A0) (AU BG (DA FL rfl T.FV (by rfl) (AI (AB 2))) A0))) (AN (BV (CD (D0 hr.units) (AU E8 (AU FW (AB 0) A0) A0) A0 (BY _)) (AM (A8 (AU BG (AU BG (AU BG (OW O2 (AB 2) OU (OV (AB 4))) AL) (OW O2 (AB 2) (OV (AB 4)) OU)) (AB 3)))) CB) (AM (A8 (AU BG (AU BG (AU BG (OW O2 (AB 2) OU (OV (AB 4))) (OW O2 (AB 2) (OV (AU BG (AB 4) A0)) OU)) AL) (AB 3)))))))))
abbrev ZJ:Stmt:=BC 76
theorem N2:FnScope ["cell","words","at","many"] ["cell"] (AW ZJ):=.go
def zdo(T:Txt K mg a)(F:Fun K "_law_counted" "_law_counted" ZJ f fd) :
  FP P w K mg base 1 f fd ["cell"] (Q9 K a) :=
 F.okL (WD K a) N2 zcc λ_ _ _ _ _ E hr hx=>(AN (BE 1 N2.nd (DD (B0 AL (B0 AL (B0 AL (B0 AL (B0 AL (B0 AL (GH AL AL AL AL))))))))) (AN (BE 2 N2.nd (AU E8 (AB 0) A0)) (AN (BE 3 N2.nd (AU E8 (AU FW (AB 0) A0) A0)) (AN (BV (CD (D0 hr.units) (AB 3) (AU BG (EE MK rfl T.L9 (by rfl) (AI (IT TK (AB 2) A0 (BY _)))) (EE MK rfl T.L9 (by rfl) (AI (IT TK (AB 2) A0 (BY _))))) (BY _)) (AM (BE 3 N2.nd A0)) CB) (AM (A8 (AU BG (CU CW (AB 1) (AB 2) (λ_ _=>rfl)) (AU IY (CU CW (DD (B9 AL AL)) (AU E8 (AU FW (AB 0) A0) A0) (λ_ _=>rfl)) (AB 3)))))))))
abbrev ZK:Stmt:=BP (BC 34) 0
theorem qW:FnScope ["self","plank"] ["self","plank"] (AW ZK):=.go
variable(rQ:BS P w K mg base (a "Plank") 1 "blocks" ["self"] (ND K a))
theorem qX:(["block"]:List Str).Nodup:=by decide +kernel
def zdp(T:Txt K mg a)(F:Fun K "__init__" "Book.__init__" ZK f fd) :
  FP P w K mg base 2 f fd ["self","plank"] (NJ K a) :=
 F.okL (WE K a) qW Yx λ_ _ _ _ _ E hr hx=>(AN (DU (AB 0) (AB 1) rfl) (AN (DU (AB 0) (DD HC) rfl) (AN (DU (AB 0) (G0 (tn:=["block"]) (cn:=[]) (cap:=[]) qW.cp rfl (IA rfl T.IR (AI (D6 (AB 1) T.G8 rQ hr hx))) (λ_ _ _ _ _ _=>(C3 0 qX)) (λ_ _ _ _ _ _=>FZ) (λ_ _ _ _ _ _=>(DD HC))) rfl) (AN (DU (AB 0) vU rfl) (AM (DU (AB 0) SW rfl))))))
abbrev ZL:Stmt:=BP (BC 34) 9
theorem zdq:FnScope ["self","place"] ["self","place"] (AW ZL):=.go
variable(rR:BS P w K mg base (a "Plank") 1 "cells" ["self"] (NE K a))
def zdr(T:Txt K mg a)(F:Fun K "ask_for_place" "Book.ask_for_place" ZL f fd) :
  FP P w K mg base 2 f fd ["self","place"] (QF K a) :=
 F.okL (WF K a) zdq Yz λ_ _ _ _ _ E hr hx=>(AM (BV (PW.pt (R6 (G9 (MI EY MT A0 (D2 (AB 1)) (D6 (AY (AB 0) rfl) T.G8 rQ hr hx))) (R5 (G9 (MI EY MT A0 (D2 (AB 1)) (D6 (AY (AB 0) rfl) T.G8 rR hr hx)))))) (AM (GG hx T.bN rfl T.bL (AI AL))) CB))
abbrev ZM:Stmt:=BP (BC 37) 1
theorem L5:FnScope ["self","block","taken","gone","out","held","number","lack"] ["self","block","taken"] (AW ZM):=.go
variable(zf0:BS P w K mg base (a "Hold") 1 "lack_of" ["self","number","gone"] (QI K a))
def zds(T:Txt K mg a)(F:Fun K "outcome" "Hold.outcome" ZM f fd) :
  FP P w K mg base 2 f fd ["self","block","taken"] (QJ K a) :=
 F.okL (WR K a) L5 Zl λ_ _ _ _ _ E hr hx=>(AN (BE 3 L5.nd (EE Dy rfl T.zgl (by rfl) (AI (AB 2)))) (AN (BE 4 L5.nd (DD HC)) (AN (BE 5 L5.nd (DD HC)) (AN (GT hx.po rfl (G1 (CU CW (AY (AB 0) rfl) (AB 1) (λ_ _=>rfl))) (C3 6 L5.nd) (AM (BV (PW.pt (OE (JM (O0 (GZ hr) (AB 6) (AY (AB 0) rfl)) (by with_unfolding_all rfl)) (OD (JM (O0 (GZ hr) (AB 6) (AB 3)) (by with_unfolding_all rfl))))) (AN (BE 7 L5.nd (BI (AB 0) T.EC zf0 hr hx (B9 (AB 6) (AB 3)))) (AM (BV (CD OQ (AB 7) FE (BY _)) (AN (SU (GZ hr) (AB 3) (AB 6) HZ rfl) (AM (DT (HF PySem.F.plainAttrs_list PySem.F.slot_list_append PySem.F.type_list_append MN (AB 4) (AI (AB 6)))))) (AM (DT (HF PySem.F.plainAttrs_list PySem.F.slot_list_append PySem.F.type_list_append MN (AB 5) (AI (E9 (B9 (AB 6) (AB 7)))))))))) CB))) (AM (A8 (E9 (B9 (AB 4) (AB 5)))))))))
abbrev ZN:Stmt:=BC 45
theorem qY:FnScope ["thing"] ["thing"] (AW ZN):=.go
variable(zfo:DJ P w K mg base (1) "is_sign" ["sign"] (QT K a))
def zdt(T:Txt K mg a)(F:Fun K "is_piece" "is_piece" ZN f fd) :
  FP P w K mg base 2 f fd ["thing"] (QW K a) :=
 F.okL (WS K a) qY zaw λ_ _ _ _ _ E hr hx=>(AM (A8 (MF (MH EY EY A0 (DA FL rfl T.FV (by rfl) (AI (AB 0))) (EW T.zgr rfl)) (ME (DA (O5 rfl) rfl T.RY (by rfl) (AI (G0 (tn:=["sign"]) (cn:=[]) (cap:=[]) qY.cp rfl (TW (AB 0)) (λ_ _ _ _ _ _=>(C3 0 Y1)) (λ_ _ _ _ _ _=>FZ) (λ_ _ _ _ _ _=>(S7 zfo hr.m IF rfl (AI (AB 0)))))))))))
abbrev ZO:Stmt:=BC 61
theorem ZP:FnScope ["row","kind","words"] ["row"] (AW ZO):=.go
variable(zfm:DJ P w K mg base (1) "is_number" ["word"] (Q2 K a))
def zdu(T:Txt K mg a)(F:Fun K "words_of" "words_of" ZO f fd) :
  FP P w K mg base 2 f fd ["row"] (Q3 K a) :=
 F.okL (WW K a) ZP zbt λ_ _ _ _ _ E hr hx=>(AN (BE 1 ZP.nd (CU CW (HF PySem.F.plainAttrs_str PySem.F.slot_str_partition PySem.F.type_str_partition Gk (AB 0) (AI AL)) A0 (λ_ _=>rfl))) (AN (BV (JM (Hc T.rX rfl T.rY (AB 1)) (by with_unfolding_all rfl)) (AM (GG hx T.bO rfl T.bM (AI AL))) CB) (AN (BE 2 ZP.nd (bQ (CD (D0 hr.units) (AB 1) AL (BY _)) (HF PySem.F.plainAttrs_str PySem.F.slot_str_split PySem.F.type_str_split f8 (AB 0) (B9 AL A0)) (HF PySem.F.plainAttrs_str PySem.F.slot_str_split PySem.F.type_str_split f8 (AB 0) (AI AL)))) (AN (BV (CD (IX hr.units) (DA FL rfl T.FV (by rfl) (AI (AB 2))) (Hd T.rX rfl T.rY (AB 1) (λ_ _=>rfl)) (BY _)) (AM (GG hx T.bO rfl T.bM (AI AL))) CB) (AN (BV (PW.pt (OE (CD (T8 hr.units) (AB 1) (EW T.zg1 rfl) (by with_unfolding_all rfl)) (OD (G9 (MJ (DV zfm hr hx (AI (CU CW (AB 2) (bX b0 A0) (λ_ _=>rfl)))) (λ_=>rfl)))))) (AM (GG hx T.bO rfl T.bM (AI AL))) CB) (AM (A8 (AB 2))))))))
abbrev ZQ:Stmt:=BP (BC 68) 4
theorem zdv:FnScope ["self","block"] ["self","block"] (AW ZQ):=.go
variable(rP:BS P w K mg base (a "Plank") 1 "ask_for_block" ["self","block"] (JU K a))
def zdw(T:Txt K mg a)(F:Fun K "read" "Plank.read" ZQ f fd) :
  FP P w K mg base 2 f fd ["self","block"] (LD K a) :=
 F.okL (WX K a) zdv Yp λ_ _ _ _ _ E hr hx=>(AN (DT (BI (AB 0) T.G8 rP hr hx (AI (AB 1)))) (AM (A8 (EE TM rfl T.bI (by rfl) (AI (CU CW (AY (AB 0) rfl) (AB 1) (λ_ _=>rfl)))))))
abbrev ZR:Stmt:=BP (BC 68) 5
theorem zdx:FnScope ["self","block","values"] ["self","block","values"] (AW ZR):=.go
def zdy(T:Txt K mg a)(F:Fun K "write" "Plank.write" ZR f fd) :
  FP P w K mg base 2 f fd ["self","block","values"] (PP K a) :=
 F.okL (WY K a) zdx Yq λ_ _ _ _ _ E hr hx=>(AN (DT (BI (AB 0) T.G8 rP hr hx (AI (AB 1)))) (AN (BV (CD (IX hr.units) (DA FL rfl T.FV (by rfl) (AI (AB 2))) (AY (AB 0) rfl) (BY _)) (AM (GG hx T.bN rfl T.bL (AI AL))) CB) (AN (bU (EE TN rfl T.bK (by rfl) (AI (AB 2))) (bT (AY (AB 0) rfl) (AB 1) eD)) (AM (uG (AB 0) A0 uH)))))
abbrev ZS:Stmt:=BP (BC 70) 1
theorem zdz:FnScope ["self","k"] ["self","k"] (AW ZS):=.go
variable(N5:BS P w K mg base (a "Layout") 1 "place_from" ["self","block","k"] (JA K a))
def zd0(T:Txt K mg a)(F:Fun K "name_at" "Layout.name_at" ZS f fd) :
  FP P w K mg base 2 f fd ["self","k"] (JX K a) :=
 F.okL (WZ K a) zdz Zw λ_ _ _ _ _ E hr hx=>(AM (A8 (BI (AB 0) T.C1 N5 hr hx (B9 A0 (AB 1)))))
abbrev ZT:Stmt:=BP (BC 70) 2
theorem zd1:FnScope ["self","k"] ["self","k"] (AW ZT):=.go
def zd2(T:Txt K mg a)(F:Fun K "record_at" "Layout.record_at" ZT f fd) :
  FP P w K mg base 2 f fd ["self","k"] (JY K a) :=
 F.okL (W0 K a) zd1 Zx λ_ _ _ _ _ E hr hx=>(AM (A8 (BI (AB 0) T.C1 N5 hr hx (B9 (AY (AB 0) rfl) (AB 1)))))
abbrev ZU:Stmt:=BP (BC 70) 3
theorem zd3:FnScope ["self","k"] ["self","k"] (AW ZU):=.go
def zd4(T:Txt K mg a)(F:Fun K "piece_at" "Layout.piece_at" ZU f fd) :
  FP P w K mg base 2 f fd ["self","k"] (LG K a) :=
 F.okL (W1 K a) zd3 Zy λ_ _ _ _ _ E hr hx=>(AM (A8 (BI (AB 0) T.C1 N5 hr hx (B9 (AU BG (AY (AB 0) rfl) (AY (AB 0) rfl)) (AB 1)))))
abbrev ZV:Stmt:=BP (BC 70) 4
theorem zd5:FnScope ["self","k"] ["self","k"] (AW ZV):=.go
variable(bA:BS P w K mg base (a "Layout") 1 "blocks_ahead_of_marks" ["self"] (LJ K a))
def zd6(T:Txt K mg a)(F:Fun K "record_mark" "Layout.record_mark" ZV f fd) :
  FP P w K mg base 2 f fd ["self","k"] (LH K a) :=
 F.okL (W2 K a) zd5 Zz λ_ _ _ _ _ E hr hx=>(AM (A8 (BI (AB 0) T.C1 N5 hr hx (B9 (D6 (AB 0) T.C1 bA hr hx) (AB 1)))))
abbrev ZW:Stmt:=BP (BC 70) 5
theorem zd7:FnScope ["self","k"] ["self","k"] (AW ZW):=.go
def zd8(T:Txt K mg a)(F:Fun K "piece_mark" "Layout.piece_mark" ZW f fd) :
  FP P w K mg base 2 f fd ["self","k"] (LI K a) :=
 F.okL (W3 K a) zd7 zaa λ_ _ _ _ _ E hr hx=>(AM (A8 (BI (AB 0) T.C1 N5 hr hx (B9 (AU BG (D6 (AB 0) T.C1 bA hr hx) (AY (AB 0) rfl)) (AB 1)))))
abbrev ZX:Stmt:=BP (BC 70) 7
theorem zd9:FnScope ["self"] ["self"] (AW ZX):=.go
def zea(T:Txt K mg a)(F:Fun K "blocks" "Layout.blocks" ZX f fd) :
  FP P w K mg base 2 f fd ["self"] (P8 K a) :=
 F.okL (W4 K a) zd9 zac λ_ _ _ _ _ E hr hx=>(AM (A8 (AU BG (AU BG (D6 (AB 0) T.C1 bA hr hx) (AY (AB 0) rfl)) (AY (AB 0) rfl))))
abbrev ZY:Stmt:=BP (BC 34) 3
theorem zeb:FnScope ["self","place"] ["self","place"] (AW ZY):=.go
variable(zfz:BS P w K mg base (a "Hold") 2 "ask_for_place" ["self","place"] (QF K a))
def zec(T:Txt K mg a)(F:Fun K "newest" "Book.newest" ZY f fd) :
  FP P w K mg base 3 f fd ["self","place"] (NK K a) :=
 F.okL (W5 K a) zeb Zb λ_ _ _ _ _ E hr hx=>(AN (DT (BI (AB 0) T.EC zfz hr hx (AI (AB 1)))) (AM (A8 (vZ (GZ hr) (AY (AB 0) rfl) (AB 1) ⟨rfl,rfl,rfl,rfl⟩))))
abbrev ZZ:Stmt:=BP (BC 37) 0
theorem RQ:FnScope ["self","block","values","told","number"] ["self","block"] (AW ZZ):=.go
variable(bD:BS P w K mg base (a "Plank") 2 "read" ["self","block"] (LD K a))(zf2:BS P w K mg base (a "Hold") 2 "outcome" ["self","block","taken"] (QJ K a))(zf1:BS P w K mg base (a "Hold") 1 "laid_over" ["self","values","block"] (QK K a))(zf6:BS P w K mg base (a "Plank") 2 "write" ["self","block","values"] (PP K a))
def zed(T:Txt K mg a)(F:Fun K "write" "Hold.write" ZZ f fd) :
  FP P w K mg base 3 f fd ["self","block"] (QL K a) :=
 F.okL (W6 K a) RQ Zp λ_ _ _ _ _ E hr hx=>(AN (BE 2 RQ.nd (BI (AY (AB 0) rfl) T.G8 bD hr hx (AI (AB 1)))) (AN (BE 3 RQ.nd (BI (AB 0) T.EC zf2 hr hx (B9 (AB 1) SW))) (AN (GT hx.po rfl (G1 (D2 (AB 3))) (C3 4 RQ.nd) (AM (SU (GZ hr) (AY (AB 0) rfl) (AB 4) HZ rfl))) (AN (DT (BI (AY (AB 0) rfl) T.G8 zf6 hr hx (B9 (AB 1) (BI (AB 0) T.EC zf1 hr hx (B9 (AB 2) (AB 1)))))) (AM (A8 (AB 3)))))))
abbrev Z0:Stmt:=BP (BC 70) 8
theorem zee:FnScope ["self"] ["self"] (AW Z0):=.go
variable(zf5:BS P w K mg base (a "Layout") 2 "blocks" ["self"] (P8 K a))(zgi:IV P w K mg base (a "Plank") 1 "Plank" ["self","blocks","cells"] (PN K a))
def zef(T:Txt K mg a)(F:Fun K "plank" "Layout.plank" Z0 f fd) :
  FP P w K mg base 3 f fd ["self"] (NH K a) :=
 F.okL (W7 K a) zee zae λ_ _ _ _ _ E hr hx=>(AM (A8 (IW zgi hr.m hx.passes rfl (B9 (D6 (AB 0) T.C1 zf5 hr hx) (AY (AB 0) rfl)))))
abbrev Z1:Stmt:=BP (BC 34) 1
theorem Z2:FnScope ["self","place","value","needs","ahead","number"] ["self","place","value","needs"] (AW Z1):=.go
variable(rJ:BS P w K mg base (a "Hold") 3 "newest" ["self","place"] (NK K a))(zfy:BS P w K mg base (a "Hold") 1 "ask_for_changes" ["self","numbers"] (QH K a))(zfv:DJ P w K mg base (1) "needs_with" ["needs","ahead"] (QE K a))(zgf:IV P w K mg base (a "Change") 1 "Change" ["self","place","value","needs"] (QD K a))
def zeg(T:Txt K mg a)(F:Fun K "change" "Book.change" Z1 f fd) :
  FP P w K mg base 4 f fd ["self","place","value","needs"] (HQ K a) :=
 F.okL (W8 K a) Z2 Zd λ_ _ _ _ _ E hr hx=>(AN (BE 4 Z2.nd (BI (AB 0) T.EC rJ hr hx (AI (AB 1)))) (AN (DT (BI (AB 0) T.EC zfy hr hx (AI (AB 3)))) (AN (BE 5 Z2.nd (DA FL rfl T.FV (by rfl) (AI (AY (AB 0) rfl)))) (AN (DT (HF PySem.F.plainAttrs_list PySem.F.slot_list_append PySem.F.type_list_append MN (AY (AB 0) rfl) (AI (IW zgf hr.m hx.passes rfl (EZ (AB 1) (AB 2) (DV zfv hr hx (B9 (AB 3) (AB 4)))))))) (AN (DT (HF PySem.F.plainAttrs_list PySem.F.slot_list_append PySem.F.type_list_append MN (CU CW (AY (AB 0) rfl) (D2 (AB 1)) (λ_ _=>rfl)) (AI (AB 5)))) (AN (SU (GZ hr) (AY (AB 0) rfl) (AB 1) (AB 5) rfl) (AM (A8 (AB 5)))))))))
abbrev Z3:Stmt:=BP (BC 34) 2
theorem qZ:FnScope ["self","place","number"] ["self","place"] (AW Z3):=.go
def zeh(T:Txt K mg a)(F:Fun K "in_hand" "Book.in_hand" Z3 f fd) :
  FP P w K mg base 4 f fd ["self","place"] (J2 K a) :=
 F.okL (W9 K a) qZ Zh λ_ _ _ _ _ E hr hx=>(AN (BE 2 qZ.nd (BI (AB 0) T.EC rJ hr hx (AI (AB 1)))) (AN (BV (CD OQ (AB 2) FE (BY _)) (AM (A8 (CU CW (BI (AY (AB 0) rfl) T.G8 bD hr hx (AI (D2 (AB 1)))) (D2 (AB 1)) (λ_ _=>rfl)))) CB) (AM (A8 (AY (CU CW (AY (AB 0) rfl) (AB 2) (λ_ _=>rfl)) rfl)))))
abbrev Z4:Stmt:=BP (BC 51) 0
theorem zei:FnScope ["self","layout","plank"] ["self","layout","plank"] (AW Z4):=.go
variable(zgg:IV P w K mg base (a "Hold") 2 "Hold" ["self","plank"] (NJ K a))
def zej(T:Txt K mg a)(F:Fun K "__init__" "Store.__init__" Z4 f fd) :
  FP P w K mg base 4 f fd ["self","layout","plank"] (QY K a) :=
 F.okL (XA K a) zei za1 λ_ _ _ _ _ E hr hx=>(AN (DU (AB 0) (AB 1) rfl) (AN (DU (AB 0) (IW zgg hr.m hx.passes rfl (AI (AB 2))) rfl) (AM (DU (AB 0) SW rfl))))
abbrev Z5:Stmt:=BP (BC 51) 10
theorem zek:FnScope ["self","block"] ["self","block"] (AW Z5):=.go
variable(zf3:BS P w K mg base (a "Hold") 3 "write" ["self","block"] (QL K a))
def zel(T:Txt K mg a)(F:Fun K "write" "Store.write" Z5 f fd) :
  FP P w K mg base 4 f fd ["self","block"] (NU K a) :=
 F.okL (XB K a) zek zbw λ_ _ _ _ _ E hr hx=>(AM (A8 (BI (AY (AB 0) rfl) T.EC zf3 hr hx (AI (AB 1)))))
abbrev Z6:Stmt:=BC 49
theorem Z7:FnScope ["hold","places","values","k","place"] ["hold","places","values"] (AW Z6):=.go
variable(RR:BS P w K mg base (a "Hold") 4 "in_hand" ["self","place"] (J2 K a))
def zem(T:Txt K mg a)(F:Fun K "lowest_with" "lowest_with" Z6 f fd) :
  FP P w K mg base 5 f fd ["hold","places","values"] (J3 K a) :=
 F.okL (XC K a) Z7 zai λ_ _ _ _ _ E hr hx=>(AN (GT hx.po rfl (fT rfl T.rV (AI (AB 1))) (bS rfl (OK (C3 3 Z7.nd) (OK (C3 4 Z7.nd) bR))) (AM (BV (CD (Fk hr.units) (BI (AB 0) T.EC RR hr hx (AI (AB 4))) (AB 2) (by with_unfolding_all rfl)) (AM (A8 (AB 3))) CB))) (AM (GG hx T.zg9 rfl T.zg5 (AI AL))))
abbrev Z8:Stmt:=BP (BC 51) 16
theorem rA:FnScope ["self"] ["self"] (AW Z8):=.go
variable(RS:BS P w K mg base (a "Layout") 1 "counts" ["self"] (JZ K a))(bB:BS P w K mg base (a "Layout") 2 "name_at" ["self","k"] (JX K a))
theorem zen:(["k","self"]:List Str).Nodup:=by decide +kernel
def zeo(T:Txt K mg a)(F:Fun K "name_cells" "Store.name_cells" Z8 f fd) :
  FP P w K mg base 5 f fd ["self"] (LN K a) :=
 F.okL (XD K a) rA za2 λ_ _ _ _ _ E hr hx=>(AM (A8 (G0 (tn:=["k"]) (cn:=["self"]) (cap:=[0]) rA.cp rfl (IA rfl T.IR (AI (CU CW (D6 (AY (AB 0) rfl) T.C1 RS hr hx) A0 (λ_ _=>rfl)))) (λ_ _ _ _ _ _=>(C3 0 zen)) (λ_ _ _ _ _ _=>FZ) (λ_ _ _ _ _ _=>(IG (AY (AB 1) rfl) T.EC RR hr.m IF (AI (IG (AY (AB 1) rfl) T.C1 bB hr.m IF (AI (AB 0)))))))))
abbrev Z9:Stmt:=BP (BC 51) 17
theorem zep:FnScope ["self","record"] ["self","record"] (AW Z9):=.go
variable(bC:BS P w K mg base (a "Layout") 2 "record_at" ["self","k"] (JY K a))
def zeq(T:Txt K mg a)(F:Fun K "standing" "Store.standing" Z9 f fd) :
  FP P w K mg base 5 f fd ["self","record"] (LO K a) :=
 F.okL (XF K a) zep zbc λ_ _ _ _ _ E hr hx=>(AM (A8 (BI (AY (AB 0) rfl) T.EC RR hr hx (AI (BI (AY (AB 0) rfl) T.C1 bC hr hx (AI (AB 1)))))))
abbrev aA:Stmt:=BP (BC 51) 18
theorem rB:FnScope ["self","cell","name","record","need","needs"] ["self","cell","name","record","need"] (AW aA):=.go
variable(L7:BS P w K mg base (a "Hold") 4 "change" ["self","place","value","needs"] (HQ K a))
def zer(T:Txt K mg a)(F:Fun K "fill_cell" "Store.fill_cell" aA f fd) :
  FP P w K mg base 5 f fd ["self","cell","name","record","need"] (Q0 K a) :=
 F.okL (XH K a) rB zbe λ_ _ _ _ _ E hr hx=>(AN (BE 5 rB.nd (DD (AI (AB 4)))) (AN (BV (JM (dP (GZ hr) (AB 2) (AY (AB 0) rfl)) (by with_unfolding_all rfl)) (AM (DT (HF PySem.F.plainAttrs_list PySem.F.slot_list_append PySem.F.type_list_append MN (AB 5) (AI (vR (GZ hr) (AY (AB 0) rfl) (AB 2) (λ_ _=>rfl)))))) CB) (AM (A8 (BI (AY (AB 0) rfl) T.EC L7 hr hx (EZ (BI (AY (AB 0) rfl) T.C1 bB hr hx (AI (AB 1))) (E9 (B9 (AB 2) (AB 3))) (AB 5)))))))
abbrev aB:Stmt:=BC 46
theorem aC:FnScope ["layout","hold","places"] ["layout","hold"] (AW aB):=.go
variable(a0:DJ P w K mg base (5) "lowest_with" ["hold","places","values"] (J3 K a))
theorem aD:(["k","layout"]:List Str).Nodup:=by decide +kernel
def zes(T:Txt K mg a)(F:Fun K "free_name" "free_name" aB f fd) :
  FP P w K mg base 6 f fd ["layout","hold"] (QQ K a) :=
 F.okL (XI K a) aC zal λ_ _ _ _ _ E hr hx=>(AN (S5 (i:=2) (tn:=["k"]) (cn:=["layout"]) (cap:=[0]) aC.cp rfl aC.nd rfl rfl (IA rfl T.IR (AI (CU CW (D6 (AB 0) T.C1 RS hr hx) A0 (λ_ _=>rfl)))) (λ_ _ _ _ _ _=>(C3 0 aD)) (λ_ _ _ _ _ _=>FZ) (λ_ _ _ _ _ _=>(IG (AB 1) T.C1 bB hr.m IF (AI (AB 0))))) (AM (A8 (DV a0 hr hx (EZ (AB 1) (AB 2) (E9 (AI FE)))))))
abbrev aE:Stmt:=BC 47
theorem aF:FnScope ["layout","hold","marks"] ["layout","hold"] (AW aE):=.go
variable(rO:BS P w K mg base (a "Layout") 2 "record_mark" ["self","k"] (LH K a))
def zet(T:Txt K mg a)(F:Fun K "free_record" "free_record" aE f fd) :
  FP P w K mg base 6 f fd ["layout","hold"] (QR K a) :=
 F.okL (XJ K a) aF zam λ_ _ _ _ _ E hr hx=>(AN (S5 (i:=2) (tn:=["k"]) (cn:=["layout"]) (cap:=[0]) aF.cp rfl aF.nd rfl rfl (IA rfl T.IR (AI (CU CW (D6 (AB 0) T.C1 RS hr hx) A0 (λ_ _=>rfl)))) (λ_ _ _ _ _ _=>(C3 0 aD)) (λ_ _ _ _ _ _=>FZ) (λ_ _ _ _ _ _=>(IG (AB 1) T.C1 rO hr.m IF (AI (AB 0))))) (AM (A8 (DV a0 hr hx (EZ (AB 1) (AB 2) (E9 (B9 FE A0)))))))
abbrev aG:Stmt:=BC 48
theorem aH:FnScope ["layout","hold","marks"] ["layout","hold"] (AW aG):=.go
variable(rM:BS P w K mg base (a "Layout") 2 "piece_mark" ["self","k"] (LI K a))
def zeu(T:Txt K mg a)(F:Fun K "free_piece" "free_piece" aG f fd) :
  FP P w K mg base 6 f fd ["layout","hold"] (QS K a) :=
 F.okL (XL K a) aH zan λ_ _ _ _ _ E hr hx=>(AN (S5 (i:=2) (tn:=["k"]) (cn:=["layout"]) (cap:=[0]) aH.cp rfl aH.nd rfl rfl (IA rfl T.IR (AI (CU CW (D6 (AB 0) T.C1 RS hr hx) A0 (λ_ _=>rfl)))) (λ_ _ _ _ _ _=>(C3 0 aD)) (λ_ _ _ _ _ _=>FZ) (λ_ _ _ _ _ _=>(IG (AB 1) T.C1 rM hr.m IF (AI (AB 0))))) (AM (A8 (DV a0 hr hx (EZ (AB 1) (AB 2) (E9 (B9 FE A0)))))))
abbrev aI:Stmt:=BP (BC 51) 7
theorem rC:FnScope ["self"] ["self"] (AW aI):=.go
variable(bE:BS P w K mg base (a "Store") 5 "name_cells" ["self"] (LN K a))
theorem zev:(["value"]:List Str).Nodup:=by decide +kernel
def zew(T:Txt K mg a)(F:Fun K "names" "Store.names" aI f fd) :
  FP P w K mg base 6 f fd ["self"] (NN K a) :=
 F.okL (XM K a) rC za4 λ_ _ _ _ _ E hr hx=>(AM (A8 (DA (Fl rfl) rfl T.bJ (by rfl) (AI (G0 (tn:=["value"]) (cn:=[]) (cap:=[]) rC.cp rfl (G1 (D6 (AB 0) T.ED bE hr hx)) (λ_ _ _ _ _ _=>(C3 0 zev)) (λ_ _ _ _ _ _=>(v8 (CD SF (AB 0) FE (BY _)))) (λ_ _ _ _ _ _=>(D2 (AB 0))))))))
abbrev aJ:Stmt:=BP (BC 51) 15
theorem aK:FnScope ["self","name","cell","value"] ["self","name"] (AW aJ):=.go
def zex(T:Txt K mg a)(F:Fun K "cell_of" "Store.cell_of" aJ f fd) :
  FP P w K mg base 6 f fd ["self","name"] (NO K a) :=
 F.okL (XN K a) aK za3 λ_ _ _ _ _ E hr hx=>(AN (GT hx.po rfl (fT rfl T.rV (AI (D6 (AB 0) T.ED bE hr hx))) (bS rfl (OK (C3 2 aK.nd) (OK (C3 3 aK.nd) bR))) (AM (BV (PW.pt (OE (CD SF (AB 3) FE (BY _)) (OD (CD (D0 hr.units) (D2 (AB 3)) (AB 1) (BY _))))) (AM (A8 (AB 2))) CB))) (AM (A8 FE)))
abbrev aL:Stmt:=BP (BC 51) 21
theorem zey:FnScope ["self","record","pieces","needs"] ["self","record","pieces","needs"] (AW aL):=.go
variable(bF:BS P w K mg base (a "Store") 5 "standing" ["self","record"] (LO K a))
def zez(T:Txt K mg a)(F:Fun K "regroup" "Store.regroup" aL f fd) :
  FP P w K mg base 6 f fd ["self","record","pieces","needs"] (Q1 K a) :=
 F.okL (XO K a) zey zbg λ_ _ _ _ _ E hr hx=>(AM (A8 (BI (AY (AB 0) rfl) T.EC L7 hr hx (EZ (BI (AY (AB 0) rfl) T.C1 bC hr hx (AI (AB 1))) (E9 (B9 (CU CW (BI (AB 0) T.ED bF hr hx (AI (AB 1))) A0 (λ_ _=>rfl)) (AB 2))) (AB 3)))))
abbrev aM:Stmt:=BP (BC 60) 0
theorem ze0:FnScope ["self","layout"] ["self","layout"] (AW aM):=.go
variable(rN:BS P w K mg base (a "Layout") 3 "plank" ["self"] (NH K a))(zgj:IV P w K mg base (a "Store") 4 "Store" ["self","layout","plank"] (QY K a))
def ze1(T:Txt K mg a)(F:Fun K "__init__" "House.__init__" aM f fd) :
  FP P w K mg base 6 f fd ["self","layout"] (J7 K a) :=
 F.okL (XQ K a) ze0 zb1 λ_ _ _ _ _ E hr hx=>(AN (DU (AB 0) (AB 1) rfl) (AN (DU (AB 0) (D6 (AB 1) T.C1 rN hr hx) rfl) (AM (DU (AB 0) (IW zgj hr.m hx.passes rfl (B9 (AB 1) (AY (AB 0) rfl))) rfl))))
abbrev aN:Stmt:=BP (BC 51) 13
theorem rD:FnScope ["self","new","given"] ["self","new","given"] (AW aN):=.go
variable(zfl:DJ P w K mg base (1) "is_name" ["thing"] (QU K a))(rS:BS P w K mg base (a "Store") 6 "cell_of" ["self","name"] (NO K a))
theorem ze2:(["text"]:List Str).Nodup:=by decide +kernel
def ze3(T:Txt K mg a)(F:Fun K "ask_for_new_name" "Store.ask_for_new_name" aN f fd) :
  FP P w K mg base 7 f fd ["self","new","given"] (QZ K a) :=
 F.okL (XR K a) rD za5 λ_ _ _ _ _ E hr hx=>(AN (BV (G9 (MJ (DA (O5 rfl) rfl T.RY (by rfl) (AI (G0 (tn:=["text"]) (cn:=[]) (cap:=[]) rD.cp rfl (G1 (AB 2)) (λ_ _ _ _ _ _=>(C3 0 ze2)) (λ_ _ _ _ _ _=>FZ) (λ_ _ _ _ _ _=>(S7 zfl hr.m IF rfl (AI (AB 0))))))) (λ_=>rfl))) (AM (GG hx T.r8 rfl T.rZ (AI AL))) CB) (AM (BV (CD SF (BI (AB 0) T.ED rS hr hx (AI (AB 1))) FE (BY _)) (AM (GG hx T.zha rfl T.zg6 (AI AL))) CB)))
abbrev aO:Stmt:=BP (BC 51) 14
theorem rE:FnScope ["self","name","cell"] ["self","name"] (AW aO):=.go
def ze4(T:Txt K mg a)(F:Fun K "record_of" "Store.record_of" aO f fd) :
  FP P w K mg base 7 f fd ["self","name"] (NP K a) :=
 F.okL (XS K a) rE zbd λ_ _ _ _ _ E hr hx=>(AN (BE 2 rE.nd (BI (AB 0) T.ED rS hr hx (AI (AB 1)))) (AN (BV (CD OQ (AB 2) FE (BY _)) (AM (GG hx T.r8 rfl T.rZ (AI AL))) CB) (AM (A8 (CU CW (CU CW (D6 (AB 0) T.ED bE hr hx) (AB 2) (λ_ _=>rfl)) A0 (λ_ _=>rfl))))))
abbrev aP:Stmt:=BP (BC 51) 1
theorem N3:FnScope ["self","name","record","cell","mark","stands"] ["self","name"] (AW aP):=.go
variable(zf7:BS P w K mg base (a "Store") 7 "ask_for_new_name" ["self","new","given"] (QZ K a))(zfk:DJ P w K mg base (6) "free_record" ["layout","hold"] (QR K a))(zfi:DJ P w K mg base (6) "free_name" ["layout","hold"] (QQ K a))(zf8:BS P w K mg base (a "Store") 5 "fill_cell" ["self","cell","name","record","need"] (Q0 K a))
def ze5(T:Txt K mg a)(F:Fun K "make" "Store.make" aP f fd) :
  FP P w K mg base 8 f fd ["self","name"] (NR K a) :=
 F.okL (XT K a) N3 zbi λ_ _ _ _ _ E hr hx=>(AN (DT (BI (AB 0) T.ED zf7 hr hx (B9 (AB 1) (DD (AI (AB 1)))))) (AN (BE 2 N3.nd (DV zfk hr hx (B9 (AY (AB 0) rfl) (AY (AB 0) rfl)))) (AN (BE 3 N3.nd (DV zfi hr hx (B9 (AY (AB 0) rfl) (AY (AB 0) rfl)))) (AN (BE 4 N3.nd (BI (AY (AB 0) rfl) T.EC L7 hr hx (EZ (BI (AY (AB 0) rfl) T.C1 rO hr hx (AI (AB 2))) A0 (DD HC)))) (AN (BE 5 N3.nd (BI (AY (AB 0) rfl) T.EC L7 hr hx (EZ (BI (AY (AB 0) rfl) T.C1 bC hr hx (AI (AB 2))) (E9 (B9 A0 (E9 HC))) (DD (AI (AB 4)))))) (AM (A8 (DD (EZ (AB 4) (AB 5) (BI (AB 0) T.ED zf8 hr hx (GH (AB 3) (AB 1) (AB 2) (AB 5))))))))))))
abbrev aQ:Stmt:=BP (BC 51) 4
theorem N4:FnScope ["self","name","text","record","piece","mark","filled"] ["self","name","text"] (AW aQ):=.go
variable(rT:BS P w K mg base (a "Store") 7 "record_of" ["self","name"] (NP K a))(zfn:DJ P w K mg base (2) "is_piece" ["thing"] (QW K a))(zfj:DJ P w K mg base (6) "free_piece" ["layout","hold"] (QS K a))(rK:BS P w K mg base (a "Layout") 2 "piece_at" ["self","k"] (LG K a))(zgc:BS P w K mg base (a "Store") 6 "regroup" ["self","record","pieces","needs"] (Q1 K a))
def ze6(T:Txt K mg a)(F:Fun K "put" "Store.put" aQ f fd) :
  FP P w K mg base 8 f fd ["self","name","text"] (NS K a) :=
 F.okL (XU K a) N4 zbj λ_ _ _ _ _ E hr hx=>(AN (BE 3 N4.nd (BI (AB 0) T.ED rT hr hx (AI (AB 1)))) (AN (BV (G9 (MJ (DV zfn hr hx (AI (AB 2))) (λ_=>rfl))) (AM (GG hx T.zg8 rfl T.zg4 (AI AL))) CB) (AN (BE 4 N4.nd (DV zfj hr hx (B9 (AY (AB 0) rfl) (AY (AB 0) rfl)))) (AN (BE 5 N4.nd (BI (AY (AB 0) rfl) T.EC L7 hr hx (EZ (BI (AY (AB 0) rfl) T.C1 rM hr hx (AI (AB 4))) A0 (DD HC)))) (AN (BE 6 N4.nd (BI (AY (AB 0) rfl) T.EC L7 hr hx (EZ (BI (AY (AB 0) rfl) T.C1 rK hr hx (AI (AB 4))) (AB 2) (DD (AI (AB 5)))))) (AM (A8 (DD (EZ (AB 5) (AB 6) (BI (AB 0) T.ED zgc hr hx (EZ (AB 3) (AU BG (CU CW (BI (AB 0) T.ED bF hr hx (AI (AB 3))) A0 (λ_ _=>rfl)) (E9 (AI (AB 4)))) (DD (AI (AB 6))))))))))))))
abbrev aR:Stmt:=BP (BC 51) 8
theorem aS:FnScope ["self","name","pieces"] ["self","name"] (AW aR):=.go
theorem ze7:(["piece","self"]:List Str).Nodup:=by decide +kernel
def ze8(T:Txt K mg a)(F:Fun K "texts" "Store.texts" aR f fd) :
  FP P w K mg base 8 f fd ["self","name"] (NT K a) :=
 F.okL (XV K a) aS zbk λ_ _ _ _ _ E hr hx=>(AN (BE 2 aS.nd (CU CW (BI (AB 0) T.ED bF hr hx (AI (BI (AB 0) T.ED rT hr hx (AI (AB 1))))) A0 (λ_ _=>rfl))) (AM (A8 (G0 (tn:=["piece"]) (cn:=["self"]) (cap:=[0]) aS.cp rfl (G1 (AB 2)) (λ_ _ _ _ _ _=>(C3 0 ze7)) (λ_ _ _ _ _ _=>FZ) (λ_ _ _ _ _ _=>(IG (AY (AB 1) rfl) T.EC RR hr.m IF (AI (IG (AY (AB 1) rfl) T.C1 rK hr.m IF (AI (AB 0))))))))))
abbrev aT:Stmt:=BC 63
theorem rF:FnScope ["store","words","kind"] ["store","words"] (AW aT):=.go
variable(zf9:BS P w K mg base (a "Store") 8 "make" ["self","name"] (NR K a))(zgb:BS P w K mg base (a "Store") 8 "put" ["self","name","text"] (NS K a))
def ze9(T:Txt K mg a)(F:Fun K "do_deed" "do_deed" aT f fd) :
  FP P w K mg base 9 f fd ["store","words"] (LT K a) :=
 F.okL (XW K a) rF zbx λ_ _ _ _ _ E hr hx=>(AN (BE 2 rF.nd (D2 (AB 1))) (AM (BV (CD (D0 hr.units) (AB 2) AL (BY _)) (AM (DT (BI (AB 0) T.ED zf9 hr hx (AI (D2 (AB 1)))))) (AM (BV (CD (D0 hr.units) (AB 2) AL (BY _)) (AM (DT LB)) (AM (BV (CD (D0 hr.units) (AB 2) AL (BY _)) (AM (DT LB)) (AM (BV (CD (D0 hr.units) (AB 2) AL (BY _)) (AM (DT (BI (AB 0) T.ED zgb hr hx (B9 (D2 (AB 1)) (D2 (AB 1)))))) (AM (BV (CD (D0 hr.units) (AB 2) AL (BY _)) (AM (DT LB)) (AM (DT LB)))))))))))))
abbrev aU:Stmt:=BC 64
theorem aV:FnScope ["store","words","kind"] ["store","words"] (AW aU):=.go
variable(zge:BS P w K mg base (a "Store") 4 "write" ["self","block"] (NU K a))(zfw:DJ P w K mg base (1) "numbers_of_writing" ["told"] (NV K a))(rH:DJ P w K mg base (1) "joined_or_dash" ["parts"] (LS K a))(zgd:BS P w K mg base (a "Store") 8 "texts" ["self","name"] (NT K a))(zga:BS P w K mg base (a "Store") 6 "names" ["self"] (NN K a))
def zfa(T:Txt K mg a)(F:Fun K "answer_of" "answer_of" aU f fd) :
  FP P w K mg base 9 f fd ["store","words"] (LU K a) :=
 F.okL (XY K a) aV zby λ_ _ _ _ _ E hr hx=>(AN (BE 2 aV.nd (D2 (AB 1))) (AN (BV (CD (D0 hr.units) (AB 2) AL (BY _)) (AM (A8 (DV zfw hr hx (AI (BI (AB 0) T.ED zge hr hx (AI (EE Gm rfl T.L9 (by rfl) (AI (D2 (AB 1)))))))))) CB) (AN (BV (CD (D0 hr.units) (AB 2) AL (BY _)) (AM (A8 (DV rH hr hx (AI (G0 (tn:=["block"]) (cn:=[]) (cap:=[]) aV.cp rfl (G1 LB) (λ_ _ _ _ _ _=>(C3 0 qX)) (λ_ _ _ _ _ _=>FZ) (λ_ _ _ _ _ _=>(EE PJ rfl T.R0 (by rfl) (AI (AB 0))))))))) CB) (AN (BV (CD (D0 hr.units) (AB 2) AL (BY _)) (AM (A8 (HF PySem.F.plainAttrs_str PySem.F.slot_str_join PySem.F.type_str_join fR AL (AI (BI (AB 0) T.ED zgd hr hx (AI (D2 (AB 1)))))))) CB) (AM (A8 (DV rH hr hx (AI (D6 (AB 0) T.ED zga hr hx)))))))))
abbrev aW:Stmt:=BP (BC 60) 2
theorem rG:FnScope ["self","row","words"] ["self","row"] (AW aW):=.go
variable(zfx:DJ P w K mg base (2) "words_of" ["row"] (Q3 K a))(zfh:DJ P w K mg base (9) "do_deed" ["store","words"] (LT K a))(zfg:DJ P w K mg base (9) "answer_of" ["store","words"] (LU K a))
def zfb(T:Txt K mg a)(F:Fun K "say" "House.say" aW f fd) :
  FP P w K mg base 10 f fd ["self","row"] (EU K a) :=
 F.okL (XZ K a) rG zb0 λ_ _ _ _ _ E hr hx=>(AN (BE 2 rG.nd (DV zfx hr hx (AI (AB 1)))) (AN (BV (CD (T8 hr.units) (D2 (AB 2)) (EW T.zgo rfl) (by with_unfolding_all rfl)) (AN (DT (DV zfh hr hx (B9 (AY (AB 0) rfl) (AB 2)))) (AM (A8 AL))) CB) (AN (BV (CD (D0 hr.units) (D2 (AB 2)) AL (BY _)) (AM (A8 LB)) CB) (AM (A8 (DV zfg hr hx (B9 (AY (AB 0) rfl) (AB 2))))))))
abbrev aX:Stmt:=BC 77
theorem JF:FnScope ["house","row","kind","found","right","other","e"] ["house","row","kind"] (AW aX):=.go
variable(JG:BS P w K mg base (a "House") 10 "say" ["self","row"] (EU K a))
def zfc(T:Txt K mg a)(F:Fun K "_law_refused" "_law_refused" aX f fd) :
  FP P w K mg base 11 f fd ["house","row","kind"] (RA K a) :=
 F.okL (X7 K a) JF zcd λ_ _ _ _ _ E hr hx=>(AN (BE 3 JF.nd (bX b0 A0)) (AN (BE 4 JF.nd HZ) (AN (BE 5 JF.nd HZ) (AN (wJ rfl rfl rfl rfl (λE1 _ _ hx1=>(AM (DT (IG (AB 0) T.HW JG hr.m hx1.passes (AI (AB 1)))))) (wI (i:=6) JF.nd rfl rfl (wG rfl T.zg2) (λ_=>(AN (BE 3 JF.nd (AU BG (EE MK rfl T.L9 (by rfl) (AI (DA O3 rfl T.RZ (by rfl) (B9 (AB 6) (EW T.zgs rfl))))) (AU IY A0 (EE MK rfl T.L9 (by rfl) (AI (DA O3 rfl T.RZ (by rfl) (B9 (AB 6) (EW T.zgx rfl)))))))) (AN (BE 4 JF.nd (DA O3 rfl T.RZ (by rfl) (B9 (AB 6) (sR rfl T.zgk (by rfl) rfl)))) (AM (BE 5 JF.nd (DA O3 rfl T.RZ (by rfl) (B9 (AB 6) (E9 (B0 (EW T.zgt rfl) (B0 (EW T.zgu rfl) (GH (EW T.zgv rfl) (EW T.zgw rfl) (EW T.zgy rfl) (EW T.zg0 rfl)))))))))))) wE)) (AM (A8 (MF (AB 4) (MF (wZ (AB 5)) (ME (IT (D0 hr.units) (AB 3) (AB 2) (BY _)))))))))))
abbrev aY:Stmt:=BC 78
theorem E5:FnScope ["script","cell","layout","name","house","beside","third","one","kind","row","block"] ["script"] (AW aY):=.go
variable(zfp:DJ P w K mg base (1) "_law_cell_at" ["script","k"] (LM K a))(zgh:IV P w K mg base (a "Layout") 1 "Layout" ["self","names","records","pieces","cells"] (P7 K a))(zfr:DJ P w K mg base (1) "_law_name" ["cell"] (Q6 K a))(bG:IV P w K mg base (a "House") 6 "House" ["self","layout"] (J7 K a))(zfs:DJ P w K mg base (1) "_law_odd" ["number","name"] (Q7 K a))(zfu:DJ P w K mg base (1) "_law_turned" ["cell"] (Q8 K a))(zfq:DJ P w K mg base (1) "_law_counted" ["cell"] (Q9 K a))(zft:DJ P w K mg base (11) "_law_refused" ["house","row","kind"] (RA K a))(zf4:BS P w K mg base (a "House") 1 "plank" ["self"] (Q5 K a))
theorem zfd:(["k"]:List Str).Nodup:=by decide +kernel
def zfe(T:Txt K mg a)(F:Fun K "law" "law" aY f fd) :
  FP P w K mg base 12 f fd ["script"] (g5 K a) :=
 F.okL (YI K a) E5 zcm λ_ _ _ _ _ E hr hx=>(AN (BE 1 E5.nd (DV zfp hr hx (B9 (AB 0) A0))) (AN (BE 2 E5.nd (IW zgh hr.m hx.passes rfl (GH A0 A0 A0 (AU BG A0 (AU E8 (AB 1) A0))))) (AN (BE 3 E5.nd (DV zfr hr hx (AI (AU FW (AB 1) A0)))) (AN (BE 4 E5.nd (IW bG hr.m hx.passes rfl (AI (AB 2)))) (AN (BE 5 E5.nd (IW bG hr.m hx.passes rfl (AI (AB 2)))) (AN (BE 6 E5.nd (IW bG hr.m hx.passes rfl (AI (AB 2)))) (AN (GT hx.po rfl (G1 (E9 (B9 (AB 4) (AB 5)))) (C3 7 E5.nd) (AN (DT (BI (AB 7) T.HW JG hr hx (AI (AU BG AL (AB 3))))) (AM (DT (BI (AB 7) T.HW JG hr hx (AI (AU BG (AU BG AL (AB 3)) AL))))))) (AN (GT hx.po rfl (G1 (AB 0)) (C3 1 E5.nd) (AN (BE 8 E5.nd (AU E8 (AB 1) A0)) (AN (BE 9 E5.nd (DV zfs hr hx (B9 (AU FW (AB 1) A0) (AB 3)))) (AN (BV (CD (D0 hr.units) (AB 8) A0 (BY _)) (AM (BE 9 E5.nd (DV zfu hr hx (AI (AU FW (AB 1) A0))))) CB) (AN (BV (CD (D0 hr.units) (AB 8) A0 (BY _)) (AM (BE 9 E5.nd (AU BG AL (EE PJ rfl T.R0 (by rfl) (AI (AU BG A0 (AU E8 (AU FW (AB 1) A0) A0))))))) CB) (AN (BV (CD (D0 hr.units) (AB 8) A0 (BY _)) (AM (BE 9 E5.nd (DV zfq hr hx (AI (AU FW (AB 1) A0))))) CB) (AM (BV (G9 (MJ (DV zft hr hx (EZ (AB 4) (AB 9) (AU tP A0 (EE MK rfl T.L9 (by rfl) (AI (IT (D0 hr.units) (AB 8) A0 (BY _))))))) (λ_=>rfl))) (AM (A8 HZ)) CB)))))))) (AN (BV (PW.pt (R6 (CD (IX hr.units) (BI (AB 4) T.HW JG hr hx (AI AL)) (AB 3) (BY _)) (R5 (CD (IX hr.units) (BI (AB 4) T.HW JG hr hx (AI (AU BG AL (AB 3)))) AL (BY _))))) (AM (A8 HZ)) CB) (AN (GT hx.po rfl (IA rfl T.IR (AI A0)) (C3 10 E5.nd) (AN (BV (CD (IX hr.units) (BI (AB 4) T.HW JG hr hx (AI (AU BG AL (EE PJ rfl T.R0 (by rfl) (AI (AB 10)))))) (BI (AB 5) T.HW JG hr hx (AI (AU BG AL (EE PJ rfl T.R0 (by rfl) (AI (AB 10)))))) (BY _)) (AM (A8 HZ)) CB) (AM (BV (CD (IX hr.units) (BI (D6 (AB 6) T.HW zf4 hr hx) T.G8 bD hr hx (AI (AB 10))) (G0 (tn:=["k"]) (cn:=[]) (cap:=[]) E5.cp rfl (IA rfl T.IR (AI (D6 (D6 (AB 2) T.C1 rN hr hx) T.G8 rR hr hx))) (λ_ _ _ _ _ _=>(C3 0 zfd)) (λ_ _ _ _ _ _=>FZ) (λ_ _ _ _ _ _=>FE)) (BY _)) (AM (A8 HZ)) CB)))) (AM (A8 (IT (D0 hr.units) (BI (AB 6) T.HW JG hr hx (AI AL)) AL (BY _))))))))))))))
end
end L2
namespace L2
theorem zff(q4b q4c q4d q4e q4f q4g q4h q4i q4j q4k q4l q4m q4n q4o q4p q4q q4r q4s:Addr):∃ a:Ad,a "HoldError"=q4b/\a "NoBlock"=q4c/\a "NoChange"=q4d/\a "NoRoom"=q4e/\a "NoName"=q4f/\a "Twice"=q4g/\a "NoPiece"=q4h/\a "NotSound"=q4i/\a "NoRow"=q4j/\a "Change"=q4k/\a "Hold"=q4l/\a "Store"=q4m/\a "House"=q4n/\a "Plank"=q4o/\a "Layout"=q4p/\a "DEEDS"=q4q/\a "FORMS"=q4r/\a "WITH_A_NUMBER_LAST"=q4s :=
 ⟨λs=>if s="HoldError" then q4b else if s="NoBlock" then q4c else if s="NoChange" then q4d else if s="NoRoom" then q4e else if s="NoName" then q4f else if s="Twice" then q4g else if s="NoPiece" then q4h else if s="NotSound" then q4i else if s="NoRow" then q4j else if s="Change" then q4k else if s="Hold" then q4l else if s="Store" then q4m else if s="House" then q4n else if s="Plank" then q4o else if s="Layout" then q4p else if s="DEEDS" then q4q else if s="FORMS" then q4r else if s="WITH_A_NUMBER_LAST" then q4s else 0,by simp⟩
def aZ(K:W.Frag):Sp:=λvs H Q _=>∃ (s:Addr) (ns:List Int),vs=[.ref s]/\SqL K H s (ns.map V.int)/\ns.length<=63/\∀ H',Q (.bl true) H'
theorem all_mk{l:W.OpenLaw}{w:World}{K:W.Frag}{h:Heap}{mg:Str->Option Value}{fa:Addr}{q4b q4c q4d q4e q4f q4g q4h q4i q4j q4k q4l q4m q4n q4o q4p q4q q4r q4s:Addr}{tk_MOST_FIGURES:Tok}{tk_MOST_LETTERS:Tok}{tk_MOST_PIECE_SIGNS:Tok}{tk_PERCENT:Tok}{o_DEEDS:Obj}{o_FORMS:Obj}{o_WITH_A_NUMBER_LAST:Obj}(X:K.In h)(G:h.Ns mainGlobals mg)(hfa:mg "law"=some (.ref fa))
  (q0:GX K q4b "HoldError")
  (q1:GX K q4c "NoBlock")
  (q2:GX K q4d "NoChange")
  (q3:GX K q4e "NoRoom")
  (q4:GX K q4f "NoName")
  (q5:GX K q4g "Twice")
  (q6:GX K q4h "NoPiece")
  (q7:GX K q4i "NotSound")
  (q8:GX K q4j "NoRow")
  (q9:GC K q4k "Change")
  (qa:GC K q4l "Hold")
  (qb:GC K q4m "Store")
  (qc:GC K q4n "House")
  (qd:GC K q4o "Plank")
  (qe:GC K q4p "Layout")
  (qf:W.nsIn K mainGlobals "DEEDS"=some (some (.ref q4q)))
  (qg:K.lookup q4q=some o_DEEDS)
  (qh:PL o_DEEDS ["make","link","cut","put","take","move"]=true)
  (qi:W.nsIn K mainGlobals "FORMS"=some (some (.ref q4r)))
  (qj:K.lookup q4r=some o_FORMS)
  (qk:(q4r == sysModules)=false)
  (ql:PK o_FORMS LQ=true)
  (qm:W.nsIn K mainGlobals "MOST_FIGURES"=some (some (.int 3 tk_MOST_FIGURES)))
  (qn:W.nsIn K mainGlobals "MOST_LETTERS"=some (some (.int 8 tk_MOST_LETTERS)))
  (qo:W.nsIn K mainGlobals "MOST_PIECE_SIGNS"=some (some (.int 40 tk_MOST_PIECE_SIGNS)))
  (qp:W.nsIn K mainGlobals "PERCENT"=some (some (.int 37 tk_PERCENT)))
  (qq:W.nsIn K mainGlobals "WITH_A_NUMBER_LAST"=some (some (.ref q4s)))
  (qr:K.lookup q4s=some o_WITH_A_NUMBER_LAST)
  (qs:PL o_WITH_A_NUMBER_LAST ["take","write"]=true)
  (qt:W.nsIn K mainGlobals "ValueError"=some none)
  (qu:W.nsIn K mainGlobals "all"=some none)
  (qv:W.nsIn K mainGlobals "dict"=some none)
  (qw:W.nsIn K mainGlobals "enumerate"=some none)
  (qx:W.nsIn K mainGlobals "int"=some none)
  (qy:W.nsIn K mainGlobals "isinstance"=some none)
  (qz:W.nsIn K mainGlobals "len"=some none)
  (q10:W.nsIn K mainGlobals "list"=some none)
  (q11:W.nsIn K mainGlobals "ord"=some none)
  (q12:W.nsIn K mainGlobals "range"=some none)
  (q13:W.nsIn K mainGlobals "set"=some none)
  (q14:W.nsIn K mainGlobals "sorted"=some none)
  (q15:W.nsIn K mainGlobals "str"=some none)
  (q16:W.nsIn K mainGlobals "tuple"=some none)
  (q17:GF K "law" aY)
  (q18:GM K q4o "blocks" "Plank.blocks" Y8)
  (q19:GM K q4o "cells" "Plank.cells" Y9)
  (q1a:GM K q4l "lack_of" "Hold.lack_of" YW)
  (q1b:GF K "is_sign" YZ)
  (q1c:GF K "is_number" Y3)
  (q1d:GM K q4o "ask_for_block" "Plank.ask_for_block" ZA)
  (q1e:GM K q4p "place_from" "Layout.place_from" ZE)
  (q1f:GM K q4p "blocks_ahead_of_marks" "Layout.blocks_ahead_of_marks" ZD)
  (q1g:GM K q4l "ask_for_place" "Book.ask_for_place" ZL)
  (q1h:GM K q4o "read" "Plank.read" ZQ)
  (q1i:GM K q4l "outcome" "Hold.outcome" ZM)
  (q1j:GM K q4l "laid_over" "Hold.laid_over" YX)
  (q1k:GM K q4o "write" "Plank.write" ZR)
  (q1l:GM K q4p "blocks" "Layout.blocks" ZX)
  (q1m:GN K q4o "Plank" "Plank.__init__" Y7)
  (q1n:GM K q4l "newest" "Book.newest" ZY)
  (q1o:GM K q4l "ask_for_changes" "Book.ask_for_changes" YU)
  (q1p:GF K "needs_with" YV)
  (q1q:GN K q4k "Change" "Change.__init__" YT)
  (q1r:GN K q4l "Hold" "Book.__init__" ZK)
  (q1s:GM K q4l "write" "Hold.write" ZZ)
  (q1t:GM K q4l "in_hand" "Book.in_hand" Z3)
  (q1u:GM K q4p "counts" "Layout.counts" ZC)
  (q1v:GM K q4p "name_at" "Layout.name_at" ZS)
  (q1w:GM K q4p "record_at" "Layout.record_at" ZT)
  (q1x:GM K q4l "change" "Book.change" Z1)
  (q1y:GF K "lowest_with" Z6)
  (q1z:GM K q4p "record_mark" "Layout.record_mark" ZV)
  (q20:GM K q4p "piece_mark" "Layout.piece_mark" ZW)
  (q21:GM K q4m "name_cells" "Store.name_cells" Z8)
  (q22:GM K q4m "standing" "Store.standing" Z9)
  (q23:GM K q4p "plank" "Layout.plank" Z0)
  (q24:GN K q4m "Store" "Store.__init__" Z4)
  (q25:GF K "is_name" Y0)
  (q26:GM K q4m "cell_of" "Store.cell_of" aJ)
  (q27:GM K q4m "ask_for_new_name" "Store.ask_for_new_name" aN)
  (q28:GF K "free_record" aE)
  (q29:GF K "free_name" aB)
  (q2a:GM K q4m "fill_cell" "Store.fill_cell" aA)
  (q2b:GM K q4m "record_of" "Store.record_of" aO)
  (q2c:GF K "is_piece" ZN)
  (q2d:GF K "free_piece" aG)
  (q2e:GM K q4p "piece_at" "Layout.piece_at" ZU)
  (q2f:GM K q4m "regroup" "Store.regroup" aL)
  (q2g:GM K q4m "make" "Store.make" aP)
  (q2h:GM K q4m "put" "Store.put" aQ)
  (q2i:GM K q4m "write" "Store.write" Z5)
  (q2j:GF K "numbers_of_writing" Y4)
  (q2k:GF K "joined_or_dash" Y6)
  (q2l:GM K q4m "texts" "Store.texts" aR)
  (q2m:GM K q4m "names" "Store.names" aI)
  (q2n:GF K "words_of" ZO)
  (q2o:GF K "do_deed" aT)
  (q2p:GF K "answer_of" aU)
  (q2q:GM K q4n "say" "House.say" aW)
  (q2r:GF K "_law_cell_at" ZF)
  (q2s:GN K q4p "Layout" "Layout.__init__" ZB)
  (q2t:GF K "_law_name" ZG)
  (q2u:GN K q4n "House" "House.__init__" aM)
  (q2v:GF K "_law_odd" ZH)
  (q2w:GF K "_law_turned" ZI)
  (q2x:GF K "_law_counted" ZJ)
  (q2y:GF K "_law_refused" aX)
  (q2z:GM K q4n "plank" "House.plank" Y2)
  (q30:W.findIn K (.ref q4o) "contents"=some none)
  (q31:W.findIn K (.ref q4o) "width"=some none)
  (q32:W.findIn K (.ref q4o) "written"=some none)
  (q33:W.findIn K (.ref q4l) "ground"=some none)
  (q34:W.findIn K (.ref q4l) "made"=some none)
  (q35:W.findIn K (.ref q4l) "made_in"=some none)
  (q36:W.findIn K (.ref q4l) "latest"=some none)
  (q37:W.findIn K (.ref q4l) "outs"=some none)
  (q38:W.findIn K (.ref q4k) "place"=some none)
  (q39:W.findIn K (.ref q4k) "value"=some none)
  (q3a:W.findIn K (.ref q4k) "needs"=some none)
  (q3b:W.findIn K (.ref q4p) "name_blocks"=some none)
  (q3c:W.findIn K (.ref q4p) "record_blocks"=some none)
  (q3d:W.findIn K (.ref q4p) "piece_blocks"=some none)
  (q3e:W.findIn K (.ref q4p) "width"=some none)
  (q3f:W.findIn K (.ref q4m) "plan"=some none)
  (q3g:W.findIn K (.ref q4m) "book"=some none)
  (q3h:W.findIn K (.ref q4m) "taken_out"=some none)
  (q3i:W.findIn K (.ref q4n) "plan"=some none)
  (q3j:W.findIn K (.ref q4n) "ground"=some none)
  (q3k:W.findIn K (.ref q4n) "store"=some none)
  (q3l:W.findIn K (.ref q4c) "__getattribute__"=some (some (.builtin "BaseException.__getattribute__")))
  (q3m:W.findIn K (.ref q4c) "__getattr__"=some none)
  (q3n:W.mroIn K q4c (.type "BaseException")=some true)
  (q3o:W.isClsIn K q4c=true)
  (q3p:W.findIn K (.ref q4c) "__class__"=some (some (.builtin "object.__class__")))
  (q3q:W.specialIn K (.builtin "object.__class__") "__get__"=some (some (.builtin "getset_descriptor.__get__")))
  (q3r:W.takesIn K (.builtin "object.__class__")=some true)
  (q3s:W.mroIn K q4c (.type "object")=some true)
  (q3t:W.findIn K (.ref q4j) "__getattribute__"=some (some (.builtin "BaseException.__getattribute__")))
  (q3u:W.findIn K (.ref q4j) "__getattr__"=some none)
  (q3v:W.mroIn K q4j (.type "BaseException")=some true)
  (q3w:W.isClsIn K q4j=true)
  (q3x:W.findIn K (.ref q4j) "__class__"=some (some (.builtin "object.__class__")))
  (q3y:W.specialIn K (.builtin "object.__class__") "__get__"=some (some (.builtin "getset_descriptor.__get__")))
  (q3z:W.takesIn K (.builtin "object.__class__")=some true)
  (q40:W.mroIn K q4j (.type "object")=some true)
  (q41:W.exmOne K (.ref q4c) (.ref q4b)=some true)
  (q42:W.exmOne K (.ref q4j) (.ref q4b)=some true)
  (q43:W.kitOne K (.ref q4c) (.ref q4c)=some true)
  (q44:W.kitOne K (.ref q4c) (.ref q4j)=some false)
  (q45:W.kitOne K (.ref q4c) (.type "ValueError")=some true)
  (q46:W.kitAny K (.ref q4c) [.ref q4d,.ref q4f,.ref q4h,.ref q4e,.ref q4i,.ref q4g]=some false)
  (q47:W.kitOne K (.ref q4j) (.ref q4c)=some false)
  (q48:W.kitOne K (.ref q4j) (.ref q4j)=some true)
  (q49:W.kitOne K (.ref q4j) (.type "ValueError")=some true)
  (q4a:W.kitAny K (.ref q4j) [.ref q4d,.ref q4f,.ref q4h,.ref q4e,.ref q4i,.ref q4g]=some false) :
  ∃ fd:FuncData,(∀ (s:Shared) (v:Value),BindsTo s fd ⟨[v],[]⟩ [("script",v)])/\∀ base:Heap,K.In base->base.Ns mainGlobals mg->FnOk l.prog w K mg base (DN l.prog w) 12 fa fd ["script"] (aZ K):=by
 obtain⟨a,rfl,rfl,rfl,rfl,rfl,rfl,rfl,rfl,rfl,rfl,rfl,rfl,rfl,rfl,rfl,rfl,rfl,rfl⟩:=zff q4b q4c q4d q4e q4f q4g q4h q4i q4j q4k q4l q4m q4n q4o q4p q4q q4r q4s
 have T:Txt K mg a:=⟨q9.c,qa.c,qc.c,qe.c,qd.c,qb.c,⟨_,W.mg_of X G qf,rfl⟩,⟨_,W.mg_of X G qi,rfl⟩,Gv qj ql qk,W.mg_of X G q0.ac,⟨_,W.mg_of X G q0.ac,rfl⟩,⟨q0.ex⟩,⟨_,W.mg_of X G qm,_,rfl⟩,⟨_,W.mg_of X G qn,_,rfl⟩,⟨_,W.mg_of X G qo,_,rfl⟩,W.mg_of X G q1.ac,⟨_,W.mg_of X G q1.ac,rfl⟩,⟨q1.ex⟩,W.mg_of X G q2.ac,⟨_,W.mg_of X G q2.ac,rfl⟩,⟨q2.ex⟩,W.mg_of X G q4.ac,⟨_,W.mg_of X G q4.ac,rfl⟩,⟨q4.ex⟩,W.mg_of X G q6.ac,⟨_,W.mg_of X G q6.ac,rfl⟩,⟨q6.ex⟩,W.mg_of X G q3.ac,⟨_,W.mg_of X G q3.ac,rfl⟩,⟨q3.ex⟩,W.mg_of X G q8.ac,⟨_,W.mg_of X G q8.ac,rfl⟩,⟨q8.ex⟩,W.mg_of X G q7.ac,⟨_,W.mg_of X G q7.ac,rfl⟩,⟨q7.ex⟩,⟨_,W.mg_of X G qp,_,rfl⟩,W.mg_of X G q5.ac,⟨_,W.mg_of X G q5.ac,rfl⟩,⟨q5.ex⟩,⟨_,W.mg_of X G qq,rfl⟩,W.mg_none_of X G qt,W.mg_none_of X G qu,W.mg_none_of X G qv,W.mg_none_of X G qw,W.mg_none_of X G qx,W.mg_none_of X G qy,W.mg_none_of X G qz,W.mg_none_of X G q10,W.mg_none_of X G q11,W.mg_none_of X G q12,W.mg_none_of X G q13,W.mg_none_of X G q14,W.mg_none_of X G q15,W.mg_none_of X G q16⟩
 have TPk:D7 K a:=⟨T.G8,q30,q31,q32⟩
 have TBk:gJ K (a "Hold") (a "Change"):=⟨T.EC,q33,q34,q35,q36,q37,T.zgn,q38,q39,q3a⟩
 have TLy:D8 K a:=⟨T.C1,q3b,q3c,q3d,q3e⟩
 have TSt:QX K a:=⟨T.ED,q3f,q3g,q3h⟩
 have THo:VC K a:=⟨T.HW,q3i,q3j,q3k⟩
 have EA:EA K a:=⟨⟨TBk,TPk,TLy,TSt⟩,THo,gA qg qh,gA qr qs⟩
 have TXc:NW K a:=⟨q41,q42,⟨q3l,q3m,q3n,q3o,q3p,q3q,q3r,q3s⟩,⟨q3t,q3u,q3v,q3w,q3x,q3y,q3z,q40⟩,q43,q44,q45,q46,q47,q48,q49,q4a⟩
 obtain⟨fd,hb,F⟩:=q17.law X G hfa (λ_ _ _ _ _ _ _ _=>.of_eq rfl)
 refine⟨fd,hb,λbase _ _=> ?_⟩
 have q5b:=q1q.cal X G (zco l.prog w base T)
 have q59:=q1o.cal (zcp l.prog w base T)
 have q5a:=q1p.cal X G (zcr l.prog w base T)
 have q4v:=q1a.cal (zcs l.prog w base T)
 have q54:=q1j.cal (zct l.prog w base T)
 have q4w:=q1b.cal X G (zcv l.prog w base T)
 have q5q:=q25.cal X G (zcw l.prog w base T)
 have q6k:=q2z.cal (zcy l.prog w base T)
 have q4x:=q1c.cal X G (zcz l.prog w base T)
 have q64:=q2j.cal X G (zc0 l.prog w base T)
 have q65:=q2k.cal X G (zc2 l.prog w base T)
 have q57:=q1m.cal X G (zc4 l.prog w base T)
 have q4t:=q18.cal (zc6 l.prog w base T)
 have q4u:=q19.cal (zc8 l.prog w base T)
 have q4y:=q1d.cal (zda l.prog w base T)
 have q6d:=q2s.cal X G (zdc l.prog w base T)
 have q5f:=q1u.cal (zde l.prog w base T)
 have q50:=q1f.cal (zdg l.prog w base T)
 have q4z:=q1e.cal (zdi l.prog w base T)
 have q6c:=q2r.cal X G (zdk l.prog w base T)
 have q6e:=q2t.cal X G (zdl l.prog w base T)
 have q6g:=q2v.cal X G (zdm l.prog w base T)
 have q6h:=q2w.cal X G (zdn l.prog w base T)
 have q6i:=q2x.cal X G (zdo l.prog w base T)
 have q5c:=q1r.cal X G (zdp l.prog w base q4t T)
 have q51:=q1g.cal (zdr l.prog w base q4t q4u T)
 have q53:=q1i.cal (zds l.prog w base q4v T)
 have q5x:=q2c.cal X G (zdt l.prog w base q4w T)
 have q68:=q2n.cal X G (zdu l.prog w base q4x T)
 have q52:=q1h.cal (zdw l.prog w base q4y T)
 have q55:=q1k.cal (zdy l.prog w base q4y T)
 have q5g:=q1v.cal (zd0 l.prog w base q4z T)
 have q5h:=q1w.cal (zd2 l.prog w base q4z T)
 have q5z:=q2e.cal (zd4 l.prog w base q4z T)
 have q5k:=q1z.cal (zd6 l.prog w base q4z q50 T)
 have q5l:=q20.cal (zd8 l.prog w base q4z q50 T)
 have q56:=q1l.cal (zea l.prog w base q50 T)
 have q58:=q1n.cal (zec l.prog w base q51 T)
 have q5d:=q1s.cal (zed l.prog w base q52 q53 q54 q55 T)
 have q5o:=q23.cal (zef l.prog w base q56 q57 T)
 have q5i:=q1x.cal (zeg l.prog w base q58 q59 q5a q5b T)
 have q5e:=q1t.cal (zeh l.prog w base q52 q58 T)
 have q5p:=q24.cal X G (zej l.prog w base q5c T)
 have q63:=q2i.cal (zel l.prog w base q5d T)
 have q5j:=q1y.cal X G (zem l.prog w base q5e T)
 have q5m:=q21.cal (zeo l.prog w base q5e q5f q5g T)
 have q5n:=q22.cal (zeq l.prog w base q5e q5h T)
 have q5v:=q2a.cal (zer l.prog w base q5g q5i T)
 have q5u:=q29.cal X G (zes l.prog w base q5f q5g q5j T)
 have q5t:=q28.cal X G (zet l.prog w base q5f q5j q5k T)
 have q5y:=q2d.cal X G (zeu l.prog w base q5f q5j q5l T)
 have q67:=q2m.cal (zew l.prog w base q5m T)
 have q5r:=q26.cal (zex l.prog w base q5m T)
 have q60:=q2f.cal (zez l.prog w base q5h q5i q5n T)
 have q6f:=q2u.cal X G (ze1 l.prog w base q5o q5p T)
 have q5s:=q27.cal (ze3 l.prog w base q5q q5r T)
 have q5w:=q2b.cal (ze4 l.prog w base q5m q5r T)
 have q61:=q2g.cal (ze5 l.prog w base q5h q5i q5k q5s q5t q5u q5v T)
 have q62:=q2h.cal (ze6 l.prog w base q5i q5l q5n q5w q5x q5y q5z q60 T)
 have q66:=q2l.cal (ze8 l.prog w base q5e q5n q5w q5z T)
 have q69:=q2o.cal X G (ze9 l.prog w base q61 q62 T)
 have q6a:=q2p.cal X G (zfa l.prog w base q63 q64 q65 q66 q67 T)
 have q6b:=q2q.cal (zfb l.prog w base q68 q69 q6a T)
 have q6j:=q2y.cal X G (zfc l.prog w base q6b T)
 exact(zfe l.prog w base q4u q52 q5o q6b q6c q6d q6e q6f q6g q6h q6i q6j q6k T F).imp (λvs H Q E ⟨s,ns,e,hs,hn,q⟩=>⟨s,ns,e,EA,TXc,hs,hn,q⟩)
theorem walk{l:W.OpenLaw}{q:Program}{loose:List Str}{XP:(Str->Option Value)->Heap->Prop}{YP:World->Heap->Prop}{d:DefRec}{K:Params->W.Frag}(hn:l.most=some 63)(hdf:d.params.defaults=[])
  (hY:∀ (w:World) (h:Heap),YP w h->(K w.params).In h)
  (F:∀ (w:World) (mg:Str->Option Value) (fa:Addr) (h:Heap),(K w.params).In h->h.Ns mainGlobals mg->mg d.name=some (.ref fa) →
   ∃ fd:FuncData,(∀ (s:Shared) (u:Value),BindsTo s fd ⟨[u],[]⟩ [("script",u)])/\∀ base:Heap,(K w.params).In base->base.Ns mainGlobals mg->FnOk l.prog w (K w.params) mg base (DN l.prog w) 12 fa fd ["script"] (aZ (K w.params))) :
  W.WalkO q loose XP YP l.row.toRowW d [] (λf vs=>PySem.call f vs) :=
 L2.walk_of (n:=63) (k:=12) (x:="script") (CX:=λw=>DN l.prog w) (sp:=λw=>aZ (K w.params)) hn (by decide) hdf ⟨rfl,by decide,by decide⟩ hY F (λ_ _ a ns hl _ hS=>⟨a,ns,rfl,hS,hl,λ_=>rfl⟩) λ_ _ _ _ _ z=>d8 z
end L2
namespace PySem.W.Fast
def tw17546567939314074438:=()
def tw13821591470291769360:=()
def tw1943924544610508232:=()
def tw12646243525682171329:=()
def tw4954763009450383613:=()
def tw3849031283268561411:=()
def tw12412085924818026014:=()
def tw3375419318470684957:=()
def tw6605780898591793685:=()
def tw16817124413522727984:=()
def tw555432462705372988:=()
def tw1082429752339537603:=()
def tw18084683875386992511:=()
def tw12868200731944732116:=()
def tw12184971959161392401:=()
def tw5511858579266821135:=()
def tw74446044892244569:=()
def tw15142935363440231065:=()
def tw2207998855688371079:=()
def tw13101987587649247275:=()
def tw13288277373539235416:=()
def tw11843538672159002584:=()
def tw11006773529910203371:=()
def tw4040509862309575504:=()
def tw14857590038827521184:=()
def tw9455765022714128329:=()
def tw8347529409416469909:=()
def tw14076687282433811232:=()
def tw15742577938073864251:=()
def tw17599465503374640193:=()
def tw13959675354486922596:=()
def tw9880417738150816597:=()
def tw5158739170544041224:=()
def tw4238270019668200269:=()
def tw12195830279191962026:=()
def tw15630769172152850977:=()
def tw9395930109209018835:=()
def tw12807515896732091561:=()
def tw917796571711751504:=()
def tw10637151965063282212:=()
def tw2637582085745826879:=()
def tw15468215570388408571:=()
def tw4587111476365317403:=()
def tw13664448868055282237:=()
def tw5824497684374343407:=()
def tw7150663148240802230:=()
def tw9726634283473872078:=()
def tw7210670376650964301:=()
def tw16964278825352585035:=()
def tw999074125178477180:=()
def tw11987183273347294139:=()
def tw4948965524578235813:=()
def tw7174978037792336485:=()
def tw14293557631382461489:=()
def tw15387516039452480938:=()
def tw9703013796812377093:=()
def tw17279328176638851467:=()
def tw14372670770388247102:=()
def tw9161687168029912420:=()
def tw1832164815947518591:=()
def tw2019842530490313161:=()
def tw16109793550899732951:=()
def tw9779930826862711491:=()
def tw6969064058537223540:=()
def tw4038016776022345813:=()
def tw13815267825452519584:=()
def tw11720094884050699533:=()
def tw16089871455806369065:=()
def tw5975081508021430434:=()
def tw3941803490867290756:=()
def tw17408523926049348366:=()
def tw2853421033066257126:=()
def tw4920023917333018686:=()
def tw11154062661750645809:=()
def tw12476375209478746769:=()
def tw12580235724160143474:=()
def tw13153719785693204434:=()
def tw18212564334089273463:=()
def tw2353701858364401115:=()
def tw1464227147160648843:=()
def tw1611587022219776023:=()
def tw12311541864513758844:=()
def tw11516022048839831884:=()
def tw3381889982746153190:=()
def tw11998322919917484281:=()
def tw7219795471367265147:=()
def tw15486804180419909884:=()
def tw8371538422591142271:=()
def tw7326789430455167789:=()
def tw17092112836961929218:=()
def tw284091190859061074:=()
def tw5730577917940295398:=()
def tw10051848831319655868:=()
def tw402881606450669412:=()
def tw16965128607513233177:=()
def tw15431493219806241203:=()
def tw15721045881072479644:=()
def tw16433936401654285247:=()
def tw7314674746842434241:=()
def tw9640770234736259686:=()
def tw758167572921296312:=()
def tw16298900621957411566:=()
def tw5673738003262200011:=()
def tw15674302461341795152:=()
def tw12836597539212790405:=()
def tw10991654539670920057:=()
def tw15664388385130963072:=()
def tw343628536605616614:=()
def tw4850501611612950563:=()
def tw7343971412707574090:=()
def tw2747850036191132837:=()
def tw3186001686021095765:=()
def tw3410373946722198883:=()
def tw2481147054358118231:=()
def tw2830053524555861389:=()
def tw16795884328551591481:=()
def tw5490064823831852232:=()
def tw6465900756651161498:=()
def tw3249672741094436664:=()
def tw6702836024745583372:=()
def tw13611584436575650435:=()
def tw12274301011374509028:=()
def tw1425741162972425925:=()
def tw3622752199517366062:=()
def tw8950072768810352660:=()
def tw5281043922909061817:=()
def tw10668573411695290543:=()
def tw12139766933429613997:=()
def tw6760051920867270065:=()
def tw6236127053708427333:=()
def tw9285748131629583804:=()
def tw13140054322541795013:=()
def tw1139073117882933488:=()
def tw4293122174894845268:=()
def tw6799675334471298849:=()
def tw11722559510837514003:=()
def tw7104195158895276528:=()
def tw8759128384164798527:=()
def tw10207029873675582077:=()
def tw16995369405427660773:=()
def tw13887619140328767331:=()
def tw7313056675148980270:=()
def tw1367804973599796984:=()
def tw3020907885804394485:=()
def tw8932377871519087704:=()
def tw8224130812928132885:=()
def tw16644837239805124899:=()
def tw11372663421457991204:=()
def tw8001135256072855279:=()
def tw7273590861397201702:=()
def tw2781578381060134274:=()
def tw9429033744631871380:=()
def tw17456219956452574852:=()
def tw16423382585623358007:=()
def tw12889393851056219429:=()
def tw13729858319881908016:=()
def tw5075800401294693699:=()
def tw10543261884012724388:=()
def tw101756879027958494:=()
def tw13848972816545339445:=()
def tw1617439773530061670:=()
def tw3298381306413775687:=()
def tw12432693408633061339:=()
def tw13475232104450842695:=()
def tw7385490783763161555:=()
def tw17782191935961441169:=()
def tw1414484125274019934:=()
def tw16794974122499896754:=()
def tw15840389811248988922:=()
def tw7306573161854016118:=()
def tw5121523108278375347:=()
def tw17518246877198649600:=()
def tw126106740219616252:=()
def tw17935863792737117149:=()
def tw1082294408442613679:=()
def tw11788800913996427694:=()
def tw16950502825391987972:=()
def tw2675967523329883258:=()
def tw5393788272460062326:=()
def tw13361622904141448823:=()
def tw11180807441024569291:=()
def tw14411439433785777742:=()
def tw1472876048580319250:=()
def tw10946017913268293731:=()
def tw3628863135890876137:=()
def tw6102885369159877212:=()
def tw10141201496551046902:=()
def tw3052918910570305191:=()
def tw8559766926908371497:=()
def tw8282205063731845116:=()
def tw6336343198274870412:=()
def tw1455517791937913430:=()
def tw16513468369733174592:=()
def tw9370580903900660089:=()
def tw10356815012564371356:=()
def tw3609439176097616763:=()
def tw6793263115610702578:=()
def tw5852419747731199694:=()
def tw14266574340842246807:=()
def tw14758981730761832195:=()
def tw3835679064218631941:=()
def tw11197787308868454089:=()
def tw12286975662758649393:=()
def tw14568534566781528730:=()
def tw9184460074513037687:=()
def tw2787772681447840550:=()
def tw3674377726057775056:=()
def tw3974261879544880339:=()
def tw9571645718766261930:=()
def tw13250132416702215734:=()
def tw6492122729704324688:=()
def tw14878816536040711848:=()
def tw12151554165583146357:=()
def tw2434400390958733956:=()
def tw744536255874481358:=()
def tw2427037712863215806:=()
def tw2916577845186518012:=()
def tw10302316218586412924:=()
def tw14482139830933579859:=()
def tw8091320267078036173:=()
def tw2441323345539300329:=()
def tw18298568039713339679:=()
def tw17063282051236715278:=()
def tw14177183857139381785:=()
def tw2909259616374417142:=()
def tw8552218061952856223:=()
def tw1935531032904350716:=()
def tw4389092290722767858:=()
def tw11442370908105009979:=()
def tw4495612081862655860:=()
def tw10403918550291773686:=()
def tw1931186588418369173:=()
def tw10430839210691933831:=()
def tw3611055753831933668:=()
def tw937394095670242803:=()
def tw7319261562569287927:=()
def tw17624053094626528688:=()
def tw15515507419701789815:=()
def tw9491142140151955871:=()
def tw2706533670202039186:=()
def tw13350226822358847285:=()
def tw12448390605516862486:=()
def tw12975218657841189456:=()
def tw12424645431292394190:=()
def tw10503975924645606971:=()
def tw16453386812110657960:=()
def tw13888796203113338786:=()
def tw10376444690360985159:=()
def tw14930498826224967193:=()
def tw17534067944701376431:=()
def tw295995971306056866:=()
def tw2312744464391797729:=()
def tw4713104440360985156:=()
def tw737289963976845483:=()
def tw1036284668681177383:=()
def tw10756887844957477841:=()
def tw5193078841347337674:=()
def tw8228399977492321782:=()
def tw856258423890005655:=()
def tw16494537698102347110:=()
def tw9939561187102171358:=()
def tw12826230057856942441:=()
def tw3274314767987046973:=()
def tw9378478097122938002:=()
def tw11494783460682446480:=()
def tw4488153083591170736:=()
def tw13754882146023115624:=()
def tw13195503943838621472:=()
def tw763180651461240460:=()
def tw3816007604444273905:=()
def tw3990421639623327874:=()
def tw17466147310085143050:=()
def tw14611506652646951449:=()
def tw143647819463132254:=()
def tw2461836405524729062:=()
def tw16516698274594678694:=()
def tw2097912611499436890:=()
def tw340544930580415481:=()
def tw16170459027241905508:=()
def tw17541986890745851911:=()
def tw6169845438890970655:=()
def tw4470147122504358299:=()
def tw17795752136850892676:=()
def tw16552288364220198405:=()
def tw6907981065861379802:=()
def tw5055744530100737015:=()
def tw5067346290080831751:=()
def tw15204253178834092973:=()
def tw7668266588257697339:=()
def tw13197298581803663139:=()
def tw1954451838819924607:=()
def tw1045479524435387537:=()
def tw6286771650586680475:=()
def tw16606163569327709133:=()
def tw17503577052358459680:=()
def tw14630367017105430449:=()
def tw10614017772795146858:=()
def tw3759252589881290777:=()
def tw632294065190789984:=()
def tw7294842477936696441:=()
def tw2896583317273755058:=()
def tw384719481810076420:=()
def tw526011263101626041:=()
def tw8875221136721309404:=()
def tw6606744666723787333:=()
def tw14938861242058014778:=()
def tw2799718007058414044:=()
def tw3452464945334831059:=()
def tw11054507980603239615:=()
def tw11847885253028923031:=()
def tw13890813633383874570:=()
def tw17584093993713220851:=()
def tw2232132821744342291:=()
def tw10062527757432136089:=()
def tw12219800340249773569:=()
def tw13890427787511617958:=()
def tw14018686477787496727:=()
def tw437502321311996485:=()
def tw2777723788317041655:=()
def tw7253673163247078413:=()
def tw16286359291318902800:=()
def tw1231110149827241684:=()
def tw12253547132597959729:=()
def tw3077212005152401611:=()
def tw14779549816988551310:=()
def tw457679732001021296:=()
def tw12434660234264028565:=()
def tw13940602476111206998:=()
def tw6963176106033805857:=()
def tw8038959251690151712:=()
def tw7956581248943711262:=()
def tw11047157370910487697:=()
def tw16820231086822415928:=()
def tw8058770842693374523:=()
def tw14924415089182643458:=()
def tw11201502006441534815:=()
def tw17836306761017873840:=()
def tw2175870522106821856:=()
def tw11931223562486840288:=()
def tw503877323095673237:=()
def tw12586839840530818804:=()
def tw11562838788948080512:=()
def tw4591753209421747303:=()
def tw4630011364634146928:=()
def tw15448152512676642866:=()
def tw14297289094771911891:=()
def tw5457123931251969553:=()
def tw4086721695557767763:=()
def tw11451241786621387085:=()
def tw14671441838472331659:=()
def tw15324442404561308261:=()
def tw6558390187069049616:=()
def tw981971841592971895:=()
def tw7550421089781500880:=()
def tw10410310834848959430:=()
def tw8074088501007595801:=()
def tw537067198935741288:=()
def tw10438576450997300918:=()
def tw12661325919506839908:=()
def tw15663510422285613496:=()
def tw6020344291287558027:=()
def tw3667023435812964846:=()
def tw9332882398128621260:=()
def tw16937119322476069061:=()
def tw6291818340161249466:=()
def tw7842411724886690552:=()
def tw12801669578317096446:=()
def tw11939992773420352805:=()
def tw14024888879536486252:=()
def tw11657405261825917555:=()
def tw5171576963744625828:=()
def tw17533150654091254482:=()
def tw14090101906123064614:=()
def tw9901936287822729946:=()
def tw7613254782512235401:=()
def tw2609309213449229308:=()
def tw1474657812659742832:=()
def tw13784338741837166928:=()
def tw6515041354072565403:=()
def tw394342946879531130:=()
def tw2772822691084594473:=()
def tw11716508993040967930:=()
def tw676351762363144861:=()
def tw7297363135247791848:=()
def tw6375968769227333183:=()
def tw2203244094654505033:=()
def tw12730670281659873337:=()
def tw7351562433771057173:=()
def tw14265574948342323945:=()
def tw15780734904241345285:=()
def tw4527655308224269002:=()
def tw9570241526852246386:=()
def tw18439304643481553317:=()
def tw10647677724429388345:=()
def tw12753595386287526618:=()
def tw2390170290237779547:=()
def tw16787693173093145216:=()
def tw2838973939438487300:=()
def tw4057497012685923623:=()
def tw18261680847747489056:=()
def tw2271443206255132305:=()
def tw13569973263693242646:=()
def tw15596765057146850638:=()
def tw5575359691144470141:=()
def tw7043989056183667105:=()
def tw9645372198859092955:=()
def tw10816238295366714752:=()
def tw17472838315913358421:=()
def tw15566257064963728091:=()
def tw7625576325253200185:=()
def tw2989200972712397098:=()
def tw6788134731219651785:=()
def tw9621946690570647861:=()
def tw5854608091995619823:=()
def tw1028213048903279952:=()
def tw10521234196672096870:=()
def tw5283271137553642810:=()
def tw13948163644787567293:=()
def tw13755852763931173954:=()
def tw8199021378082152549:=()
def tw3994075496994787759:=()
def tw11834005002112369281:=()
def tw4597384928083311255:=()
def tw737680075689406743:=()
def tw8966055100687537924:=()
def tw8247523014204685140:=()
def tw1846092239535054903:=()
def tw1430496641080469898:=()
def tw18306578037772984138:=()
def tw17654311179885024996:=()
def tw2535948620997105242:=()
def tw5366832039669577826:=()
def tw10270577277606180036:=()
def tw10862991473762555071:=()
def tw9105491170402746448:=()
def tw3923693350581018054:=()
def tw1161439216579179315:=()
def tw16810285491043480871:=()
def tw6471779200598566469:=()
def tw13075254191593478843:=()
def tw15234270036217187068:=()
def tw7002117425583038359:=()
def tw6119686381364847930:=()
def tw13623811471966715511:=()
def tw1561285385362161304:=()
def tw2915392212174052042:=()
def tw11498366753565189580:=()
def tw5132590590755072105:=()
def tw3371062431522706462:=()
def tw6075230398063343616:=()
def tw13623456004724632474:=()
def tw5410152278921887514:=()
def tw15237187890816400269:=()
def tw796372426068829356:=()
def tw10684812856688663605:=()
end PySem.W.Fast
open PySem PySem.W PyProof.Rows
set_option Elab.async false
set_option maxRecDepth 100000 in
set_option maxHeartbeats 0 in
theorem PySem.Challenge.cw_holdback_k72_no_rows_holds : PySem.Challenge.rw_holdback_k72_no_rows.Holds := by
 w_on;o_law;k_head;(case hw=>w_witness2)
 k_fill
 refine L2.walk (l:=PySem.Challenge.rw_holdback_k72_no_rows) rfl rfl (λw h Y=>PySem.W.kIn_of Y) ?F
 case F =>
  intro w mg fa h KX G hmg
  refine' L2.all_mk KX G hmg ?q0 ?q1 ?q2 ?q3 ?q4 ?q5 ?q6 ?q7 ?q8 ?q9 ?qa ?qb ?qc ?qd ?qe ?qf ?qg ?qh ?qi ?qj ?qk ?ql ?qm ?qn ?qo ?qp ?qq ?qr ?qs ?qt ?qu ?qv ?qw ?qx ?qy ?qz ?q10 ?q11 ?q12 ?q13 ?q14 ?q15 ?q16 ?q17 ?q18 ?q19 ?q1a ?q1b ?q1c ?q1d ?q1e ?q1f ?q1g ?q1h ?q1i ?q1j ?q1k ?q1l ?q1m ?q1n ?q1o ?q1p ?q1q ?q1r ?q1s ?q1t ?q1u ?q1v ?q1w ?q1x ?q1y ?q1z ?q20 ?q21 ?q22 ?q23 ?q24 ?q25 ?q26 ?q27 ?q28 ?q29 ?q2a ?q2b ?q2c ?q2d ?q2e ?q2f ?q2g ?q2h ?q2i ?q2j ?q2k ?q2l ?q2m ?q2n ?q2o ?q2p ?q2q ?q2r ?q2s ?q2t ?q2u ?q2v ?q2w ?q2x ?q2y ?q2z ?q30 ?q31 ?q32 ?q33 ?q34 ?q35 ?q36 ?q37 ?q38 ?q39 ?q3a ?q3b ?q3c ?q3d ?q3e ?q3f ?q3g ?q3h ?q3i ?q3j ?q3k ?q3l ?q3m ?q3n ?q3o ?q3p ?q3q ?q3r ?q3s ?q3t ?q3u ?q3v ?q3w ?q3x ?q3y ?q3z ?q40 ?q41 ?q42 ?q43 ?q44 ?q45 ?q46 ?q47 ?q48 ?q49 ?q4a
  case q9 | qa | qb | qc | qd | qe=>(apply L2.gc;(case a=>k_is);(case l=>k_is);(case c=>k_is);(case k=>k_is);(case i=>k_is))
  case q0 | q1 | q2 | q3 | q4 | q5 | q6 | q7 | q8=>(apply L2.GX.mk;(case ac=>k_is);(case ex=>k_exc))
  case qf | qg | qi | qj | qm | qn | qo | qp | qq | qr | qt | qu | qv | qw | qx | qy | qz | q10 | q11 | q12 | q13 | q14 | q15 | q16 | q30 | q31 | q32 | q33 | q34 | q35 | q36 | q37 | q38 | q39 | q3a | q3b | q3c | q3d | q3e | q3f | q3g | q3h | q3i | q3j | q3k | q3l | q3m | q3n | q3o | q3p | q3q | q3r | q3s | q3t | q3u | q3v | q3w | q3x | q3y | q3z | q40=>k_is
  case qh | qk | qs=>decide +kernel
  case ql=>kernel_rfl
  case q17 | q1b | q1c | q1p | q1y | q25 | q28 | q29 | q2c | q2d | q2j | q2k | q2n | q2o | q2p | q2r | q2t | q2v | q2w | q2x | q2y=>(apply L2.gf;(case a=>k_is);(case l=>k_is);(case c=>k_is);(case k=>k_is))
  case q18 | q19 | q1a | q1d | q1e | q1f | q1g | q1h | q1i | q1j | q1k | q1l | q1n | q1o | q1s | q1t | q1u | q1v | q1w | q1x | q1z | q20 | q21 | q22 | q23 | q26 | q27 | q2a | q2b | q2e | q2f | q2g | q2h | q2i | q2l | q2m | q2q | q2z=>(apply L2.gm;(case a=>k_is);(case l=>k_is);(case c=>k_is);(case k=>k_is);(case i=>k_is))
  case q1m | q1q | q1r | q24 | q2s | q2u=>(apply L2.gn;(case a=>k_is);(case l=>k_is);(case c=>k_is);(case k=>k_is);(case i=>k_is);(case m=>k_is);(case n=>k_is);(case s=>k_is))
  case q41 | q42=>kts_exm
  case q43 | q44 | q45 | q46 | q47 | q48 | q49 | q4a=>kit_is
